import PyProof.Rows.All
import Wide.All
import OpenK.AllK
import Wide.FinOn
import Lean
import PyProof.EqAt
import PyProof.EqKinds
import PyProof.TupleCall
import PySem.Value
import PySem.Sem
import PySem.SetTable
import PyProof.TupleKey
import PyProof.SetKind
import PyProof.DictKinds
import PyProof.IsRules
import PyProof.CompMap
import PyProof.Rows.SetFrom
import PyProof.WalksMore
import PyProof.FactsAll.subtypes_4
import PyProof.FactsAll.set
import PyProof.Seq
import PyProof.Walks
import KE.KDictSum
import PyProof.CollectStr
import PyProof.ListRange
import PyProof.Rows.SortShell
import PyProof.Rows.SortRuns
import KE.KSortAsk
import KE.KSortTup
import PyProof.EnumMake
import PyProof.EnumFor
import PyProof.EnumStmt
import KE.BitLaws
import PyProof.Rows.SumAny
import PyProof.WalkInts
import PySem.Challenge.RW_holeyard_k23_whole_counted
set_option linter.all false
def VW:=@PySem.wpAny_bind
def VX:=@Bool.and_eq_true
def VY:=@PySem.Heap.get?_push_of_some
def VZ:=@Nat.le_refl
def V0.{u}:=@List.length_append.{u}
def V1:=@Bool.false_eq_true
def V2.{u}:=@List.mem_cons.{u}
def V3:=@PyProof.Rows.wpS_bind
def V4.{u}:=@Array.getElem?_eq_getElem.{u}
def V5.{u}:=@List.getElem?_eq_getElem.{u}
def V6:=@Nat.zero_le
def V7:=@PyProof.Rows.wpS_pure
def V8:=@Nat.mod_two_eq_zero_or_one
def V9.{u}:=@List.size_toArray.{u}
def Wa.{u}:=@List.append_assoc.{u}
def Wb:=@PySem.Heap.lt_size
def Wc:=@PySem.Heap.get?_push_size
def Wd.{u}:=@List.pairwise_append.{u}
def We.{u}:=@List.getElem?_append_left.{u}
def Wf.{u}:=@List.mem_append_right.{u}
def Wg.{u,v}:=@List.getElem?_map.{u,v}
def Wh:=@decide_eq_true_eq
def Wi.{u}:=@List.mem_append.{u}
def Wj.{u}:=@Array.getElem?_toList.{u}
def Wk:=@Nat.lt_of_lt_of_le
def Wl.{u}:=@List.getElem?_eq_some_iff.{u}
def Wm.{u}:=@if_false.{u}
def Wn:=@Nat.ne_of_lt
def Wo.{u}:=@Array.toList_append.{u}
def Wq.{u}:=@Array.size_push.{u}
def Wr.{u}:=@List.pairwise_cons.{u}
def Ws.{u}:=@List.mem_singleton.{u}
def Wt.{u}:=@List.all_eq_true.{u}
def Wu.{u}:=@List.getElem?_eq_none.{u}
def Wv:=@PySem.wpAny_newObj_type
def Ww.{u,v}:=@List.lookup_cons.{u,v}
def Wx.{u}:=@List.getElem?_append_right.{u}
def Wy.{u}:=@Array.getElem?_eq_some_iff.{u}
def Wz.{u}:=@List.length_take.{u}
def WA:=@Bool.false_ne_true
def WB.{u}:=@List.nodup_cons.{u}
def WC.{u}:=@beq_eq_false_iff_ne.{u}
def WD:=@Nat.max_eq_right
def WE.{u}:=@Option.some.inj.{u}
def WG:=@PySem.W.kia_one
def WH:=@Bool.not_eq_true'
def WI:=@PySem.mem_of_lookup
def WJ:=@Nat.pow_le_pow_right
def WK:=@PyProof.Rows.callWith_type1
def WL:=@PyProof.Rows.slot_tuple_getitem
def WM:=@PySem.Heap.get?_update_self
def WN.{u}:=@if_true.{u}
def WO.{u}:=@List.drop_eq_getElem_cons.{u}
def WQ.{u}:=@beq_iff_eq.{u}
def WR.{u}:=@Array.size_extract.{u}
def WS.{u}:=@List.take_of_length_le.{u}
def WT:=@PyProof.Rows.wpS_forRange
def WU.{u}:=@Array.getElem?_setIfInBounds.{u}
def WV.{u}:=@Array.getInternal_eq_getElem.{u}
def WW.{u}:=@List.length_drop.{u}
def WX:=@PySem.Heap.SameBut.update
def WY:=@PySem.wpAny_mono
def WZ.{u}:=@List.take_append_drop.{u}
def W0.{u}:=@List.contains_iff_mem.{u}
def W2.{u}:=@Option.some.injEq.{u}
def W3.{u}:=@Array.getD_eq_getD_getElem?.{u}
def W4:=@PySem.wpAny_setState_of
def W5.{u}:=@List.append_nil.{u}
def W6:=@Nat.testBit_xor
def W7:=@Nat.le_trans
def W8:=@PySem.wpAny_call_entry
def W9:=@PySem.Heap.get?_update_other
def Xa:=@PySem.wpAny_truthy_bool
def Xb.{u}:=@List.Pairwise.sublist.{u}
def Xc:=@PySem.wpAny_holding
def Xd:=@Nat.xor_assoc
def Xe.{u}:=@List.Pairwise.imp_of_mem.{u}
def Xf:=@PySem.codeAny_builtin
def Xg:=@PySem.F.slot_dict_keyiterator_next
def Xh.{u}:=@List.mem_of_getElem?.{u}
def Xi:=@PySem.wpAny_callSpecial?_slot
def Xj.{u}:=@List.mem_iff_getElem.{u}
def Xk:=@PySem.Around.under_plainId
def Xl.{u,v}:=@congrArg.{u,v}
def Xm.{u,v}:=@List.pairwise_map.{u,v}
def Xn:=@Nat.testBit_lt_two_pow
def Xo:=@PyProof.Rows.wpS_mono
def Xp.{u}:=@List.replicate_succ.{u}
def Xq.{u}:=@List.mem_filter.{u}
def Xr.{u}:=@Ne.symm.{u}
def Xs:=@PySem.wpAny_Call_Name_kw
def Xt:=@PySem.wpAny_typeNameOfWhole_keyiter
def Xu.{u}:=@List.pairwise_singleton.{u}
def Xv.{u}:=@Array.size_append.{u}
def Xw:=@PyProof.Rows.wpS_modify
def Xx.{u,v}:=@List.map_congr_left.{u,v}
def Xy:=@PyProof.Rows.F.plain_set_update_loop
def Xz:=@Nat.lt_irrefl
def XA:=@Nat.xor_lt_two_pow
def XB:=@Bool.and_false
def XC.{u}:=@List.Perm.append_left.{u}
def XD.{u}:=@List.pairwise_iff_getElem.{u}
def XE:=@Bool.or_eq_true
def XF.{u}:=@List.length_set.{u}
def XG.{u}:=@List.flatten_cons.{u}
def XH.{u}:=@List.ext_getElem?.{u}
def XI.{u}:=@bne_self_eq_false.{u}
def XJ.{u}:=@Array.toList_reverse.{u}
def XK:=@Bool.not_true
def XM:=@Nat.testBit_two_pow_self
def XN:=@PySem.wpAny_typeNameOf_keyiter
def XO:=@PySem.AutoSeq1.wpAny_loadPart'
def XP:=@List.getElem?_range
def XQ:=@Nat.lt_succ_self
def XR:=@PySem.wpAny_typeOf
def XS:=@Nat.zero_add
def XT:=@Nat.and_mod_two_eq_one
def XU.{u}:=@Array.getElem?_eq_none.{u}
def XW:=@PySem.F.called_set
def XX.{u}:=@List.Perm.append_right.{u}
def XY.{u}:=@List.drop_eq_nil_of_le.{u}
def XZ:=@Int.natCast_nonneg
def X0.{u}:=@List.countP_eq_length_filter.{u}
def X1.{u}:=@List.length_replicate.{u}
def X2.{u}:=@List.eq_nil_or_concat.{u}
def X3.{u}:=@List.concat_eq_append.{u}
def X4.{u}:=@List.getElem?_toArray.{u}
def X5.{u}:=@List.perm_append_comm.{u}
def X6.{u}:=@List.idxOf_lt_length_of_mem.{u}
def X7.{u}:=@Array.toList_push.{u}
def X8.{u}:=@List.nodup_nil.{u}
def X9:=@Nat.pow_lt_pow_right
def Ya:=@PySem.wpAny_rule
def Yb:=@Nat.le_of_lt
def Yc.{u,v}:=@List.map_nil.{u,v}
def Yd.{u,v}:=@List.all_map.{u,v}
def Ye:=@Nat.xor_self
def Yf:=@Nat.xor_zero
def Yg:=@Nat.zero_testBit
def Yh:=@PySem.wpAny_askSetting
def Yi.{u}:=@List.nil_sublist.{u}
def Yj:=@Nat.testBit_two_pow
def Yk:=@PyProof.Rows.F.entry_set_update_loop
def Yl.{u}:=@List.reverse_append.{u}
def Ym:=@PySem.F.args_tuple_add_2
def Yn:=@PySem.wpAny_passesOwn
def Yo:=@PySem.Calls.spliced_cons
def Yp.{u}:=@List.getElem?_replicate.{u}
def Yq:=@PySem.F.entry_tuple_add
def Yr:=@PySem.W.kitx_dict
def Ys:=@PySem.Calls.spliced_nil
def Yt:=@PySem.F.slot_tuple_add
def Yu.{u}:=@List.Pairwise.imp.{u}
def Yv:=@Nat.zero_xor
def Yw:=@Nat.xor_mod_two_eq_one
def Yx.{u}:=@List.countP_congr.{u}
def Yy:=@List.pairwise_lt_range
def Yz:=@PySem.wpAny_storeSet_of
def YA:=@PySem.wpAny_setField
def YB:=@PySem.F.plain_list_iadd
def YC.{u}:=@List.getElem_take.{u}
def YD.{u}:=@List.nodup_append.{u}
def YE:=@PySem.builtinLookup_eq_fast
def YF.{u}:=@List.set_append_right.{u}
def YG.{u}:=@List.length_filter_le.{u}
def YH:=@PyProof.Rows.callWith_builtin1
def YI:=@PySem.wpAny_forIn_list
def YJ:=@Nat.testBit_zero
def YK:=@Nat.testBit_succ
def YL.{u}:=@List.countP_cons.{u}
def YM:=@PySem.putSet_of
def YN:=@PySem.F.args_dict_keyiterator_next_1
def YO.{u}:=@List.drop_length.{u}
def YP.{u}:=@Array.toList_inj.{u}
def YQ.{u}:=@List.getElem_mem.{u}
def YR:=@PyProof.Rows.reverseSlice'_eq
def YS.{u}:=@List.sublist_nil.{u}
def YT.{u,v}:=@List.mem_flatMap.{u,v}
def YU:=@PySem.plainId_quiet
def YV:=@PySem.wpAny_attempt
def YW.{u}:=@List.getElem?_set_ne.{u}
def YX.{u}:=@List.eq_nil_of_length_eq_zero.{u}
def YY:=@Nat.eq_of_testBit_eq
def YZ:=@PySem.F.entry_dict_keyiterator_next
def Y0.{u}:=@Array.toList_extract.{u}
def Y1.{u}:=@List.mem_of_mem_take.{u}
def Y2:=@Bool.and_eq_true_iff
def Y3:=@Nat.and_div_two
def Y4.{u,v}:=@List.countP_map.{u,v}
def Y5:=@PySem.wpAny_setEntries_of
def Y6.{u,v}:=@List.flatMap_append.{u,v}
def Y7.{u}:=@List.filter_sublist.{u}
def Y8:=@PySem.codeAny_mono
def Y9:=@PyProof.Rows.wpS_get
def Za:=@PySem.Calls.Name_function_global
def Zb:=@Bool.false_and
def Zc.{u,v}:=@List.mem_filterMap.{u,v}
def Zd:=@Bool.not_false
def Ze.{u}:=@List.Perm.refl.{u}
def Zf.{u}:=@List.nodup_iff_pairwise_ne.{u}
def Zg.{u}:=@List.getElem_idxOf.{u}
def Zh.{u}:=@List.perm_ext_iff_of_nodup.{u}
def Zi:=@PySem.wpAny_runValue
def Zj:=@PySem.isSubtype_type
def Zk:=@PySem.wpAny_fieldsOf
def Zl.{u}:=@List.take_zero.{u}
def Zm.{u}:=@Array.toList_setIfInBounds.{u}
def Zn.{u}:=@List.getElem?_drop.{u}
def Zo.{u}:=@Array.perm_iff_toList_perm.{u}
def Zp:=@Nat.add_sub_cancel
def Zq.{u}:=@List.fst_mem_of_mem_zipIdx.{u}
def Zr:=@Classical.byContradiction
def Zs:=@PySem.Value.isInt_shape
def Zt.{u,v}:=@Sum.inl.inj.{u,v}
def Zu.{u}:=@List.any_eq_false.{u}
def Zv:=@PySem.W.kitx_list
def Zw:=@Nat.lt_trichotomy
def Zx:=@PySem.Heap.SameBut.refl
def Zy:=@PySem.wpAny_pyIter_slot
def Zz:=@PySem.wpAny_dictEntries
def ZA.{u}:=@dif_pos.{u}
def ZC.{u}:=@List.getElem_drop.{u}
def ZD:=@of_decide_eq_true
def ZE.{u}:=@List.Sublist.refl.{u}
def ZF:=@PySem.AutoSeq1.sub_tuple_tuple
def ZG:=@Bool.and_true
def ZH:=@PyProof.Rows.listUpdate_at
def ZI:=@PySem.noFill_tuple_add
def ZJ:=@Nat.le_of_not_lt
def ZK.{u}:=@beq_self_eq_true.{u}
def ZL.{u}:=@List.not_mem_nil.{u}
def ZM:=@PySem.wpAny_isInstance
def ZN:=@Nat.add_sub_cancel_left
def ZO:=@PyProof.Rows.wpS_lift
def ZP.{u}:=@List.any_eq_true.{u}
def ZQ:=@PySem.F.slot_tuple_mul
def ZR:=@PySem.F.plainAttrs_list
def ZS:=@PySem.W.cellsFrom_some
def ZT:=@PySem.concat_meets
def ZU:=@Nat.lt_or_ge
def ZV:=@List.range_succ_eq_map
def ZW:=@PySem.wpAny_specialOf
def ZX:=@Nat.two_pow_pos
def ZY:=@Nat.xor_div_two
def ZZ:=@Nat.testBit_and
def Z0:=@PySem.typeLookup_type
def Z1:=@PySem.wpAny_dictEpoch
def Z2:=@PySem.wpAny_updateSeq
def Z3.{u}:=@List.sum_append.{u}
def Z4:=@Bool.xor_false
def Z5:=@PySem.Heap.size_push
def Z6:=@PySem.Paired.length
def Z7:=@PySem.seq_tuple_add
def Z8:=@Bool.and_self
def Z9:=@PySem.wpAny_newList
def aaa:=@Nat.mod_lt
def aab:=@Nat.sub_self
section
set_option Elab.async false
set_option linter.all false
set_option maxRecDepth 100000
namespace bJ
open PySem PySem.Spec PyProof.Rows
noncomputable abbrev Key:=Sum Int Str
noncomputable def oQ:Key->Value->Bool
 |.inl k,v=>Value.isInt k v
 |.inr x,v=>Value.isStrOf x v
noncomputable def NJ(w:World):Key->Int
 |.inl k=>hashInt k
 |.inr x=>hashStr w x
def k0:∀{k:Key}{v:Value},oQ k v=true->(∃i t,k=Sum.inl i/\v=Value.int i t)\/(∃x t,k=Sum.inr x/\v=Value.str x t)
 |.inl i,v,h=>by
  obtain⟨t,e⟩:=Zs (k:=i) (v:=v) h;exact .inl ⟨i,t,rfl,e⟩
 |.inr x,v,h=>by
  obtain⟨t,e⟩:=Value.isStrOf_shape (x:=x) (v:=v) h;exact .inr ⟨x,t,rfl,e⟩
def NL(i:Int)(t:Tok):oQ (.inl i) (.int i t)=true:=by simp[oQ,Value.isInt]
def NM(x:Str)(t:Tok):oQ (.inr x) (.str x t)=true:=by simp[oQ,Value.isStrOf]
def NP(a b:Int):decide ((Sum.inl a:Key)=Sum.inl b)=(a==b):=by
 by_cases e:a=b
 .subst e;simp
 .have h:¬(Sum.inl a:Key)=Sum.inl b:=λq=>e (Zt q)
  rw[decide_eq_false h];exact(WC.mpr e).symm
def NS(a b:Str):decide ((Sum.inr a:Key)=Sum.inr b)=decide (a=b):=by
 by_cases e:a=b
 .subst e;simp
 .have h:¬(Sum.inr a:Key)=Sum.inr b:=λq=>e (Sum.inr.inj q)
  rw[decide_eq_false h,decide_eq_false e]
def NQ(a:Int)(b:Str):decide ((Sum.inl a:Key)=Sum.inr b)=false:=decide_eq_false (λq=>nomatch q)
def NR(a:Str)(b:Int):decide ((Sum.inr a:Key)=Sum.inl b)=false:=decide_eq_false (λq=>nomatch q)
noncomputable def g9(prog:Program)(w:World):PySem.KeyKind prog w Key where
 is:=oQ
 hash:=NJ w
 inj:=λv a b aA ae=>by
  rcases k0 aA with⟨i,t,rfl,rfl⟩|⟨x,t,rfl,rfl⟩
  .rcases k0 ae with⟨j,u,rfl,e⟩|⟨y,u,rfl,e⟩
   .injection e with ak _;rw[ak]
   .exact nomatch e
  .rcases k0 ae with⟨j,u,rfl,e⟩|⟨y,u,rfl,e⟩
   .exact nomatch e
   .injection e with ak _;rw[ak]
 byValue:=λk v h=>by
  rcases k0 h with⟨i,t,rfl,rfl⟩|⟨x,t,rfl,rfl⟩<;>rfl
 pyHash:=λaT h=>by
  rcases k0 aT with⟨i,t,rfl,rfl⟩|⟨x,t,rfl,rfl⟩
  .exact wpAny_pyHash_int h
  .exact wpAny_pyHash_str h
 eqBool:=λbO aT h=>by
  rcases k0 bO with⟨i,t,rfl,rfl⟩|⟨x,t,rfl,rfl⟩
  .rcases k0 aT with⟨j,u,rfl,rfl⟩|⟨y,u,rfl,rfl⟩
   .rw[NP]at h;exact wpAny_eqBool_int h
   .rw[NQ]at h;exact SeqAt.EqAt.int_str i t y u _ _ _ _ h
  .rcases k0 aT with⟨j,u,rfl,rfl⟩|⟨y,u,rfl,rfl⟩
   .rw[NR]at h;exact SeqAt.EqAt.str_int x t j u _ _ _ _ h
   .rw[NS]at h;exact wpAny_eqBool_str h
 «strs»:=λk x t v h=>by
  rcases k0 h with⟨i,u,rfl,e⟩|⟨y,u,rfl,e⟩
  .exact nomatch e
  .injection e with ak _;subst ak;cases v<;>rfl
def OI(prog:Program)(w:World)(i:Int)(t:Tok):(g9 prog w).is (.inl i) (.int i t)=true:=NL i t
def OJ(prog:Program)(w:World)(x:Str)(t:Tok):(g9 prog w).is (.inr x) (.str x t)=true:=NM x t
end bJ
namespace bJ
open PySem PySem.Spec PyProof.Rows
inductive V where
 |cU|aU (b:Bool)|int (i:Int)|str (x:Str)|vy (b:Array UInt8)|jk (b:UInt64)|ref (a:Addr)|ty (n:String)
 deriving DecidableEq
noncomputable def RelV:V->Value->Prop
 |.cU,u=>u=Value.none
 |.aU b,u=>u=Value.bool b
 |.int i,u=>∃t,u=Value.int i t
 |.str x,u=>∃t,u=Value.str x t
 |.vy b,u=>∃t,u=Value.bytes b t
 |.jk b,u=>∃t,u=Value.float b t
 |.ref a,u=>u=Value.ref a
 |.ty n,u=>u=Value.type n
noncomputable abbrev Vals:List V->List Value->Prop:=Paired RelV
theorem Vals.length{xs:List V}{us:List Value}(r:Vals xs us):xs.length=us.length:=Z6 r
theorem Vals.get:∀{xs:List V}{us:List Value}{i:Nat}{x:V},Vals xs us->xs[i]?=some x->∃u,us[i]?=some u/\RelV x u
 |_,_,_,_,.nil,e=>by simp at e
 |_,_,0,_,.cons r _,e=>by simp at e;subst e;exact⟨_,rfl,r⟩
 |_,_,i+1,x,.cons _ t,e=>by
  obtain⟨u,J,aa⟩:=Vals.get (i:=i) (x:=x) t (by simpa using e)
  exact⟨u,by simpa using J,aa⟩
theorem Vals.append:∀{xs ys:List V}{us ws:List Value},Vals xs us->Vals ys ws->Vals (xs++ys) (us++ws)
 |_,_,_,_,.nil,s=>s
 |_,_,_,_,.cons r t,s=>.cons r (Vals.append t s)
theorem Vals.take:∀{xs:List V}{us:List Value}(n:Nat),Vals xs us->Vals (xs.take n) (us.take n)
 |_,_,0,_=>.nil
 |_,_,_+1,.nil=>.nil
 |_,_,n+1,.cons r t=>.cons r (Vals.take n t)
theorem Vals.drop:∀{xs:List V}{us:List Value}(n:Nat),Vals xs us->Vals (xs.drop n) (us.drop n)
 |_,_,0,r=>r
 |_,_,_+1,.nil=>.nil
 |_,_,n+1,.cons _ t=>Vals.drop n t
noncomputable def jb:Option V->Option Value->Prop
 |some v,some u=>RelV v u
 |none,none=>True
 |_,_=>False
noncomputable def eJ{κ:Type}:List (κ×V)->List (κ×Value)->Prop:=Paired λ(p:κ×V)(q:κ×Value)=>p.1=q.1/\RelV p.2 q.2
noncomputable def de:Key->V
 |.inl i=>.int i
 |.inr x=>.str x
inductive dz where
  |lst (xs:List V)
  |tup (xs:List V)
  |dI (ar:List (Key×V))|d8 (ar:List (List Key×V))
  |set (S:Int->Bool) (n:Nat)
  |ins (bD bb:Addr) (bF:List (Str×V))
  |own (x:Addr)
  |zf (bF:List (Str×V))
  |met (f x:Addr)
  |e6 (lo hi:Int)
  |dW (o:Obj) (u:dz)
  |nW (bf:Array Value)
  |ext (hg:Heap->Prop)
noncomputable abbrev ax:=Addr->Option dz
noncomputable def upd(H:ax)(a:Addr)(o:dz):ax:=λb=>if b=a then some o else H b
def dF{H:ax}{a:Addr}{o:dz}:upd H a o a=some o:=by unfold upd;rw[if_pos rfl]
def c8{H:ax}{a b:Addr}{o:dz}(h:b≠a):upd H a o b=H b:=by unfold upd;rw[if_neg h]
def y3{H:ax}{a:Addr}{o u:dz}:upd (upd H a o) a u=upd H a u:=by
 funext b;unfold upd;split<;>rfl
def OX{H:ax}{a b:Addr}{o u:dz}(h:H a=some o)(h':H b=some u)(d:o≠u):a≠b:=by
 intro e;subst e;rw[h]at h';exact d (WE h')
def me{H:ax}{a b:Addr}{o:dz}(h:H a=some o)(h':H b=none):a≠b:=by
 intro e;subst e;rw[h]at h';cases h'
section
variable(P:Program)(w:World)
noncomputable def dA(H:ax)(h:Heap)(a:Addr):dz->Prop
 |.lst xs=>xs.length<=sizeLine/\∃(its:List Value)(n:Nat),Vals xs its/\h.get? a=some { cls:=.type "list",data:=.seq its.toArray n }
 |.tup xs=>xs.length<=sizeLine/\∃its:List Value,Vals xs its/\IsTup h a its.toArray
 |.dI ar=>ar.length<=sizeLine/\(a==sysModules)=false/\∃af,eJ ar af/\h.DictOf (g9 P w) a af
 |.d8 ar=>ar.length<=sizeLine/\(a==sysModules)=false/\∃xs:List (List Key×Addr×Value),
   Paired (λ(p:List Key×V)(q:List Key×Addr×Value)=>p.1=q.1/\H q.2.1=some (.tup (p.1.map de))/\RelV p.2 q.2.2) ar xs /\
   ∃o ag a4,h.get? a=some o/\o.ExactDict/\o.data=.dict ag a4/\ag.toList=xs.map (entryOfKey (tupleKind (g9 P w)))/\(xs.map (·.1)).Nodup
 |.set S n=>h.SetOf (intKind P w) a S n
 |.ins bD bb bF=>H bb=some (.own a)/\bF.length<=1000/\bb≠a/\h.get? a=some (PySem.W.instObj bD bb) /\
   ∃eT,h.Ns1 bb eT/\(∀f,jb (bF.lookup f) (eT f))/\PySem.Within eT (bF.map (·.1))
 |.own _=>∃o,h.get? a=some o
 |.zf bF=>∃eT,h.Ns1 a eT/\∀f,jb (bF.lookup f) (eT f)
 |.e6 lo hi=>∃t u v,h.get? a=some { cls:=.type "range",data:=.fields #[.int lo t,.int hi u,.int 1 v] }
 |.dW o u=>h.get? a=some o/\dA H h a u
 |.nW bf=>h.get? a=some { cls:=.none,data:=.fields bf }
 |.met f x=>h.get? a=some (PySem.W.methodObj (.ref f) (.ref x))
 |.ext hg=>hg h/\(∃o,h.get? a=some o)/\∀J aa:Heap,hg J->(∀o,J.get? a=some o->aa.get? a=some o)->hg aa
noncomputable def d7(H:ax)(h:Heap):Prop:=∀a o,H a=some o->dA P w H h a o
end
section
variable{P:Program}{w:World}{H ao:ax}{h h':Heap}{a:Addr}{o:dz}
theorem dA.lt(x:dA P w H h a o):a<h.objs.size:=by
 cases o with
 |lst xs=>obtain⟨_,_,_,_,e⟩:=x;exact Wb e
 |tup xs=>obtain⟨_,_,_,p⟩:=x;exact p.lt
 |dI ar=>obtain⟨_,_,_,_,o,_,_,e,_⟩:=x;exact Wb e
 |d8 ar=>obtain⟨_,_,_,_,o,_,_,e,_⟩:=x;exact Wb e
 |set S n=>obtain⟨o,_,_,_,e,_⟩:=x;exact Wb e
 |ins bD bb bF=>obtain⟨_,_,_,e,_⟩:=x;exact Wb e
 |own y=>obtain⟨_,e⟩:=x;exact Wb e
 |zf bF=>obtain⟨_,⟨_,_,_,e,_⟩,_⟩:=x;exact Wb e
 |e6 lo hi=>obtain⟨_,_,_,e⟩:=x;exact Wb e
 |dW bX u=>obtain⟨e,_⟩:=x;exact Wb e
 |nW bf=>exact Wb (show h.get? a=some _ from x)
 |met f y=>exact Wb (show h.get? a=some _ from x)
 |ext hg=>obtain⟨_,⟨_,e⟩,_⟩:=x;exact Wb e
theorem Paired.xO{α β:Type}{F G:α->β->Prop}:∀{Dh:List α}{Di:List β},Paired F Dh Di->(∀a b,F a b->G a b)->Paired G Dh Di
 |_,_,.nil,_=>.nil
 |_,_,.cons r t,f=>.cons (f _ _ r) (Paired.xO t f)
def dA.ki(x:dA P w H h a o)(k:∀b u,(b=a\/H b=some (.own a))->h.get? b=some u->h'.get? b=some u)(ay:∀b,H b=some (.own a)->ao b=some (.own a))(aV:∀b xs,H b=some (.tup xs)->ao b=some (.tup xs)):dA P w ao h' a o:=by
 induction o with
 |lst xs=>obtain⟨z,its,n,r,e⟩:=x;exact⟨z,its,n,r,k _ _ (.inl rfl) e⟩
 |tup xs=>obtain⟨z,its,r,bX,e,c⟩:=x;exact⟨z,its,r,bX,k _ _ (.inl rfl) e,c⟩
 |dI ar=>obtain⟨z,y,af,r,bX,ag,a4,e,c⟩:=x;exact⟨z,y,af,r,bX,ag,a4,k _ _ (.inl rfl) e,c⟩
 |d8 ar =>
  obtain⟨z,y,xs,r,bX,ag,a4,e,c⟩:=x;exact⟨z,y,xs,Paired.xO r λp q z=>⟨z.1,aV _ _ z.2.1,z.2.2⟩,bX,ag,a4,k _ _ (.inl rfl) e,c⟩
 |set S n=>obtain⟨bX,ag,a4,t,e,c⟩:=x;exact⟨bX,ag,a4,t,k _ _ (.inl rfl) e,c⟩
 |ins bD bb bF =>
  obtain⟨d,z,ne,e,eT,⟨bh,ag,a4,av,c⟩,r⟩:=x;exact⟨ay _ d,z,ne,k _ _ (.inl rfl) e,eT,⟨bh,ag,a4,k _ _ (.inr d) av,c⟩,r⟩
 |own y=>obtain⟨bX,e⟩:=x;exact⟨bX,k _ _ (.inl rfl) e⟩
 |zf bF=>obtain⟨eT,⟨bh,ag,a4,e,c⟩,r⟩:=x;exact⟨eT,⟨bh,ag,a4,k _ _ (.inl rfl) e,c⟩,r⟩
 |e6 lo hi=>obtain⟨t,u,v,e⟩:=x;exact⟨t,u,v,k _ _ (.inl rfl) e⟩
 |dW bX u aD=>obtain⟨e,q⟩:=x;exact⟨k _ _ (.inl rfl) e,aD q⟩
 |nW bf =>
  have e:h.get? a=some { cls:=.none,data:=.fields bf }:=x;show h'.get? a=some { cls:=.none,data:=.fields bf };exact k a _ (.inl rfl) e
 |met f y =>
  have e:h.get? a=some (PySem.W.methodObj (.ref f) (.ref y)):=x;show h'.get? a=some (PySem.W.methodObj (.ref f) (.ref y));exact k a _ (.inl rfl) e
 |ext hg=>obtain⟨p,⟨o,e⟩,st⟩:=x;exact⟨st _ _ p λo q=>k _ _ (.inl rfl) q,⟨o,k _ _ (.inl rfl) e⟩,st⟩
theorem d7.lt(x:d7 P w H h)(e:H a=some o):a<h.objs.size:=(x a o e).lt
def d7.fresh(x:d7 P w H h)(e:h.objs.size<=a):H a=none:=by
 cases q:H a with
 |none=>rfl
 |some u=>exact absurd (Wk (x.lt q) e) (Xz _)
def d7.kept(x:d7 P w H h)(k:∀b u,h.get? b=some u->h'.get? b=some u):d7 P w H h':=λa o e =>
 (x a o e).ki (λb u _ q=>k b u q) (λ_ q=>q) λ_ _ q=>q
def d7.laid(x:d7 P w H h)(k:∀b u,h.get? b=some u->h'.get? b=some u)(aE:h.objs.size<=a)(new:dA P w (upd H a o) h' a o):d7 P w (upd H a o) h':=λb u e=>by
 have az:=x.fresh aE
 by_cases ae:b=a
 .subst ae;rw[dF]at e;cases e;exact new
 .rw[c8 ae]at e;exact(x b u e).ki (λc v _ q=>k c v q) (λc q=>by rw[c8 (me q az)];exact q) λc xs q=>by rw[c8 (me q az)];exact q
end
noncomputable def hk(H:ax)(a:Addr)(u:dz):Prop:=H a=some u\/∃o,H a=some (.dW o u)
def hk.ok{P:Program}{w:World}{H:ax}{h:Heap}{a:Addr}{u:dz}(r:hk H a u)(x:d7 P w H h):dA P w H h a u:=by
 rcases r with r|⟨o,r⟩
 .exact x a u r
 .obtain⟨_,q⟩:=x a _ r;exact q
noncomputable def pN:Option dz->Prop
 |some (.lst _)=>True
 |some (.dI _)=>True
 |some (.d8 _)=>True
 |some (.set _ _)=>True
 |some (.ins _ _ _)=>True
 |some (.ext _)=>True
 |_=>False
section
variable{P:Program}{w:World}{H:ax}{h h':Heap}{x e:Addr}{bC:dz}
def d7.write (ok : d7 P w H h) (ai : pN (H x)) (he : e = x \/ H e = some (.own x)) (k : ∀ b u, b ≠ e -> h.get? b = some u -> h'.get? b = some u) (oE : ∃ u, h'.get? e = some u)
    (new : dA P w (upd H x bC) h' x bC) : d7 P w (upd H x bC) h' := fun b u q => by
  have DM : ∀ c y, H c = some (.own y) -> c ≠ x := fun c y r z => by subst z; rw [r] at ai; exact ai
  have O9 : ∀ c xs, H c = some (.tup xs) -> c ≠ x := fun c xs r z => by subst z; rw [r] at ai; exact ai
  by_cases ae : b = x
  · subst ae; rw [dF] at q; cases q; exact new
  · rw [c8 ae] at q
    by_cases ng : b = e
    · have dv : H b = some (.own x) := by
        rcases he with z | z
        · exact absurd (ng.trans z) ae
        · rw [ng]; exact z
      rw [q] at dv; cases dv
      obtain ⟨v, aT⟩ := oE
      exact ⟨v, by rw [ng]; exact aT⟩
    · refine (ok b u q).ki (fun c v aj r => k c v ?_ r) (fun c r => by rw [c8 (DM c b r)]; exact r) fun c xs r => by rw [c8 (O9 c xs r)]; exact r
      rcases aj with rfl | aj
      · exact ng
      · rintro rfl
        rcases he with z | z
        · exact DM c b aj z
        · rw [aj] at z; cases z; exact ae rfl
end
structure e0(bF ex:List Addr)(H ao:ax)(h h':Heap):Prop where
 keep:∀b o,h.get? b=some o->H b=none->b∉bF->b∉ex->h'.get? b=some o
 slot:∀b o,h.get? b=some o->H b=none->b∈bF->b∉ex->∃b6,h'.get? b=some { o with slots:=b6 }
 free:∀b o,h.get? b=some o->H b=none->b∉ex->ao b=none
 there:∀b o,h.get? b=some o->b∉ex->∃bC,h'.get? b=some bC
 kl:∀b xs,H b=some (.tup xs)->ao b=some (.tup xs)
 jl:∀b o u,H b=some (.dW o u)->ao b=some (.dW o u)
 kj:∀b bf,H b=some (.nW bf)->∃more,ao b=some (.nW (bf++more))
section
variable{bF Le ex Vh:List Addr}{H H1 aY:ax}{h J aa h':Heap}{a x e:Addr}{o:dz}
def e0.any(u:e0 bF ex H H1 h J){b:Addr}{bX:Obj}(q:h.get? b=some bX)(n:H b=none)(ah:b∉ex):∃b6,J.get? b=some { bX with slots:=b6 }:=by
 by_cases ae:b∈bF
 .exact u.slot b bX q n ae ah
 .exact⟨bX.slots,u.keep b bX q n ae ah⟩
def e0.kept(k:∀b u,h.get? b=some u->h'.get? b=some u):e0 bF ex H H h h' :=
 ⟨λb bX q _ _ _=>k b bX q,λb bX q _ _ _=>⟨bX.slots,k b bX q⟩,λ_ _ _ n _=>n,λb bX q _=>⟨bX,k b bX q⟩,λ_ _ q=>q,λ_ _ _ q=>q,λ_ bf q=>⟨#[],by rw[q];simp⟩⟩
def e0.refl:e0 bF ex H H h h:=e0.kept λ_ _ q=>q
def e0.laid(k:∀b u,h.get? b=some u->h'.get? b=some u)(aE:h.objs.size<=a)(az:H a=none):e0 bF ex H (upd H a o) h h' where
 keep:=λb u q _ _ _=>k b u q
 slot:=λb u q _ _ _=>⟨u.slots,k b u q⟩
 free:=λb u q n _=>by rw[c8 (Wn (Wk (Wb q) aE))];exact n
 there:=λb u q _=>⟨u,k b u q⟩
 kl:=λb xs q=>by rw[c8 (me q az)];exact q
 jl:=λb u xs q=>by rw[c8 (me q az)];exact q
 kj:=λb bf q=>⟨#[],by rw[c8 (me q az),q];simp⟩
def e0.write(ai:pN (H x))(he:e=x\/H e=some (.own x))(k:∀b u,b≠e->h.get? b=some u->h'.get? b=some u)(oE:∃u,h'.get? e=some u):e0 bF ex H (upd H x o) h h':=by
 have ah:∀b,H b=none->b≠x:=λb n z=>by subst z;rw[n]at ai;exact ai
 have ae:∀b,H b=none->b≠e:=λb n z=>by
  subst z;rcases he with r|r
  .exact ah b n r
  .rw[n]at r;cases r
 have hm:∀b u,H b=some u->¬pN (some u)->b≠x:=λb u q nm z=>by subst z;rw[q]at ai;exact nm ai
 refine⟨λb u q n _ _=>k b u (ae b n) q,λb u q n _ _=>⟨u.slots,k b u (ae b n) q⟩,λb u q n _=>by rw[c8 (ah b n)];exact n,λb u q _=>?_,
  λb xs q=>by rw[c8 (hm b _ q λz=>z)];exact q,λb u xs q=>by rw[c8 (hm b _ q λz=>z)];exact q,λb bf q=>⟨#[],by rw[c8 (hm b _ q λz=>z),q];simp⟩⟩
 by_cases ng:b=e
 .subst ng;exact oE
 .exact⟨u,k b u ng q⟩
end
noncomputable def ua(h:Heap)(H:ax):List Addr:=(List.range h.objs.size).filter λa=>(H a).isSome
noncomputable def kR(h:Heap)(H:ax):Heap:=PySem.W.hideAll h (ua h H)
def Md(h:Heap)(H:ax):(kR h H).objs.size=h.objs.size:=PySem.W.hideAll_size _ _
def Mc{h:Heap}{H:ax}{b:Addr}{o:Obj}(e:h.get? b=some o)(n:H b=none):(kR h H).get? b=some o :=
 PySem.W.hideAll_get _ e λhm=>by
  have q:(H b).isSome=true:=(Xq.mp hm).2;rw[n]at q;simp at q
def Pf{h:Heap}{H:ax}{b:Addr}{o:Obj}(e:(kR h H).get? b=some o):h.get? b=some o/\H b=none:=by
 have bl:h.get? b=some o:=PySem.W.of_hideAll (ua h H) e;refine⟨bl,?_⟩;cases q:H b with
 |none=>rfl
 |some x =>
  have hm:b∈ua h H:=Xq.mpr ⟨List.mem_range.mpr (Wb bl),by simp[q]⟩
  have z:(kR h H).get? b=none:=PySem.W.hideAll_none (ua h H) hm;rw[z]at e;cases e
noncomputable def GX(g h:Heap)(L:Addr):List (Addr×Obj):=(List.range h.objs.size).filterMap λa=>if a=L\/(g.get? a).isSome=true then none else(h.get? a).map λo=>(a,o)
noncomputable def rest(g h:Heap)(L d:Addr):List (Addr×Obj):=(GX g h L).filter λp=>decide (p.1≠d)
end bJ
namespace bJ
open PySem PySem.Spec PyProof.Rows
structure Mod(K:W.Frag)(aF:Str->Option Value)(base:Heap):Prop where
 xw:K.In base
 glob:base.Ns mainGlobals aF
 blt:∃i0,base.Ns builtinsNs i0/\∀x:Str,x≠"__name__"->i0 x=bootBuiltins x
 nolimit:base.NoLimit
structure aS where
 prog:Program
 w:World
 K:W.Frag
 aF:Str->Option Value
 base:Heap
 A:Around
 N:List Str
 e8:Shared
 pL:ax
 env:Env
 outer:List Env
 stack:List Env
 ex:List Addr
 fn:Str->Bool
 calm:Bool
 fA:List (Addr×Obj)
 cC:Value->Shared->Prop
noncomputable def hO(l:List Env):List Addr:=l.filterMap (·.frame)
noncomputable abbrev aS.bF(X:aS):List Addr:=hO X.outer
noncomputable def gn(sc:Scope)(x:Str):Prop:=sc.names.lookup x=some .local\/sc.names.lookup x=some .cell\/sc.names.lookup x=some .free
noncomputable def Loc(sc:Scope)(x:Str):Prop:=sc.names.lookup x=some .local\/sc.names.lookup x=some .cell
noncomputable def Look(env:Env)(h:Heap)(m:Str->Option Value)(x:Str)(u:Value):Prop :=
 (env.kindOf x=some .local/\m x=some u)\/((env.kindOf x=some .cell\/env.kindOf x=some .free)/\∃c,env.cells.lookup x=some c/\h.IsCell c (some u))
structure aS.Ok(X:aS):Prop where
 mod:Mod X.K X.aF X.base
 kind:X.env.scope.kind=.function
 glob:X.env.globals=mainGlobals
 blt:X.env.builtins=builtinsNs
 above:X.e8.heap.objs.size<=X.env.locals
 inj:∀x y c,X.env.cells.lookup x=some c->X.env.cells.lookup y=some c->x=y
 has:∀x,(X.env.kindOf x=some .cell\/X.env.kindOf x=some .free)->∃c,X.env.cells.lookup x=some c
 vA:∀x c,X.fn x=true->X.env.cells.lookup x=some c->X.e8.heap.objs.size<=c
 hd:X.calm=true->X.A.handled=none
 frames:X.A.frames=some X.stack
 yR:X.stack=X.outer\/(X.stack=X.env::X.outer/\X.env.frame=some X.env.locals)
 A9:∀b∈X.ex,b≠X.env.locals/\∀x c,X.env.cells.lookup x=some c->c≠b
 bs:∀b o,X.base.get? b=some o->X.e8.heap.get? b=some o/\X.pL b=none
 pZ:X.base.objs.size<=X.e8.heap.objs.size
 tr:∀b o,X.base.get? b=some o->b∉X.ex
 si:∀b∈X.ex,b∉X.bF
 kO:X.e8.heap.FunFrames X.base X.outer
 su:∀b∈X.bF,X.pL b=none
structure Inv(X:aS)(pins:List (Addr×Obj))(σ:List (Option V))(H:ax)(s:Shared):Prop where
 ok:X.Ok
 os:s.os=X.e8.os
 bare:AllBare s.gens
 base:e0 X.bF X.ex X.pL H X.e8.heap s.heap
 loc:∃m,s.heap.Ns X.env.locals m/\∀(i:Nat)(x:Str)(v:V),X.N[i]?=some x->σ[i]?=some (some v)->gn X.env.scope x->∃u,RelV v u/\Look X.env s.heap m x u
 cell:∀x c,X.env.cells.lookup x=some c->∃v,s.heap.IsCell c v
 free:H X.env.locals=none
 jT:∀x c,X.env.cells.lookup x=some c->H c=none
 pin:∀p∈X.fA++pins,s.heap.get? p.1=some p.2/\H p.1=none/\p.1≠X.env.locals/\p.1∉X.bF/\∀v,p.2.data≠.cell v
 bM:d7 X.prog X.w H s.heap
 len:σ.length=X.N.length
section
variable{X:aS}{pins:List (Addr×Obj)}{σ:List (Option V)}{H ao:ax}{s:Shared}{h':Heap}
def aS.Ok.O4(ok:X.Ok){b:Addr}{o:Obj}(e:X.base.get? b=some o):b∉X.bF:=λae=>by
 have:=(ok.kO.mem ae).1;rw[e]at this;cases this
theorem Inv.bs(I:Inv X pins σ H s):∀b o,X.base.get? b=some o->s.heap.get? b=some o/\H b=none:=λb o e =>
 ⟨I.base.keep b o (I.ok.bs b o e).1 (I.ok.bs b o e).2 (I.ok.O4 e) (I.ok.tr b o e),I.base.free b o (I.ok.bs b o e).1 (I.ok.bs b o e).2 (I.ok.tr b o e)⟩
def Inv.lM(I:Inv X pins σ H s):∀b o,X.base.get? b=some o->s.heap.get? b=some o:=λb o e=>(I.bs b o e).1
theorem Inv.mod(I:Inv X pins σ H s):Mod X.K X.aF X.base:=I.ok.mod
def Inv.fG(I:Inv X pins σ H s):X.K.In s.heap:=I.ok.mod.xw.keeps I.lM
theorem Inv.lt(I:Inv X pins σ H s):X.env.locals<s.heap.objs.size:=let ⟨_,az,_⟩:=I.loc;az.lt
def Inv.eh(I:Inv X pins σ H s):X.e8.heap.objs.size<=s.heap.objs.size:=W7 I.ok.above (Yb I.lt)
def Inv.O6(I:Inv X pins σ H s){a:Addr}(h:s.heap.objs.size<=a):a∉X.bF:=λae=>by
 obtain⟨_,o,ay,_⟩:=I.ok.kO.mem ae;exact absurd (Wk (Wb ay) (W7 I.eh h)) (Xz _)
def Inv.mZ(I:Inv X pins σ H s):∀x c,X.env.cells.lookup x=some c->c≠X.env.locals:=λx c e z=>by
 obtain⟨v,o,ay,hd⟩:=I.cell x c e;obtain⟨m,⟨bC,ag,a4,du,fE,_⟩,_⟩:=I.loc;rw[z,du]at ay;cases ay;rw[fE]at hd;cases hd
theorem Inv.kO(I:Inv X pins σ H s):s.heap.FunFrames X.base X.outer:=by
 have all:∀(l:List Env),(∀b∈hO l,b∈X.bF)->X.e8.heap.FunFrames X.base l->s.heap.FunFrames X.base l:=by
  intro l
  induction l with
  |nil=>intro _ _;trivial
  |cons env r aD =>
   intro ab au;obtain⟨aw,⟨L,o,hf,az,ay,hd⟩,a9⟩:=au;have e3:L∈X.bF:=ab L (by unfold hO;rw[List.filterMap_cons,hf];exact List.mem_cons_self)
   obtain⟨b6,e⟩:=I.base.slot L o ay (I.ok.su L e3) e3 λz=>I.ok.si L z e3
   exact⟨aw,⟨L,_,hf,az,e,hd⟩,aD (λb ae=>ab b (by unfold hO;rw[List.filterMap_cons,hf];exact List.mem_cons_of_mem _ ae)) a9⟩
 exact all X.outer (λ_ ae=>ae) I.ok.kO
theorem Inv.stack(I:Inv X pins σ H s):s.heap.FunFrames X.base X.stack:=by
 rcases I.ok.yR with e|⟨e,hf⟩
 .rw[e];exact I.kO
 .rw[e];obtain⟨m,az,_⟩:=I.loc;refine .cons (by rw[I.ok.kind];decide) hf az ?_ I.kO
  exact Heap.get?_none_of_le (W7 I.ok.pZ I.ok.above)
def Inv.tZ(I:Inv X pins σ H s):∀b∈hO X.stack,b∈X.env.locals::X.bF:=λb ae=>by
 rcases I.ok.yR with e|⟨e,hf⟩
 .rw[e]at ae;exact List.mem_cons_of_mem _ ae
 .rw[e]at ae;unfold hO at ae;rw[List.filterMap_cons,hf]at ae;exact ae
def Inv.Fv(I:Inv X pins σ H s):∀b∈hO X.stack,H b=none:=λb ae=>by
 rcases V2.mp (I.tZ b ae) with e|ae
 .rw[e];exact I.free
 .obtain⟨_,o,ay,_⟩:=I.ok.kO.mem ae;exact I.base.free b o ay (I.ok.su b ae) λz=>I.ok.si b z ae
def Inv.step{g':Array GenState}{t':Nat}{d':Drawn}{ch:List Addr}(I:Inv X pins σ H s)(jY:∀b∈ch,(b∈X.ex\/X.e8.heap.objs.size<=b)/\b≠X.env.locals/\(∀x c,X.env.cells.lookup x=some c->c≠b)/\∀p∈X.fA++pins,p.1≠b)(keep:∀b o,b≠X.env.locals->b∉X.bF->b∉ch->s.heap.get? b=some o->H b=none->h'.get? b=some o)(slot:∀b o,b≠X.env.locals->b∈X.bF->b∉ch->s.heap.get? b=some o->H b=none->∃b6,h'.get? b=some { o with slots:=b6 })(free:∀b o,b∉ch->s.heap.get? b=some o->H b=none->ao b=none)(there:∀b o,b∉ch->s.heap.get? b=some o->∃bC,h'.get? b=some bC)(kl:∀b xs,H b=some (.tup xs)->ao b=some (.tup xs))(jl:∀b o u,H b=some (.dW o u)->ao b=some (.dW o u))(kj:∀b bf,H b=some (.nW bf)->∃more,ao b=some (.nW (bf++more)))(ns:∀m,s.heap.Ns X.env.locals m->h'.Ns X.env.locals m)(bM:d7 X.prog X.w ao h')(a8:AllBare g'):
  Inv X pins σ ao { s with heap:=h',gens:=g',drawn:=d',toks:=t' }:=by
 have DB:∀b o,X.e8.heap.get? b=some o->b≠X.env.locals:=λb o e=>Wn (Wk (Wb e) I.ok.above)
 have md:∀b o,X.e8.heap.get? b=some o->b∉X.ex->b∉ch:=λb o e ah ae=>by
  rcases(jY b ae).1 with z|z
  .exact ah z
  .exact absurd (Wk (Wb e) z) (Xz _)
 have cellK:∀x c,X.env.cells.lookup x=some c->∀v,s.heap.IsCell c v->h'.IsCell c v:=λx c e v ⟨o,ay,hd⟩=>by
  have rk:c∉ch:=λz=>(jY c z).2.2.1 x c e rfl
  by_cases aj:c∈X.bF
  .obtain⟨b6,q⟩:=slot c o (I.mZ x c e) aj rk ay (I.jT x c e);exact⟨_,q,hd⟩
  .exact⟨o,keep c o (I.mZ x c e) aj rk ay (I.jT x c e),hd⟩
 refine⟨I.ok,I.os,a8,⟨λb o e n ae ah=>?_,λb o e n ae ah=>?_,λb o e n ah=>?_,λb o e ah=>?_,λb xs e=>kl b xs (I.base.kl b xs e),λb o xs e=>jl b o xs (I.base.jl b o xs e),λb bf e=>?_⟩,?_,λx c e=>?_,?_,λx c e=>?_,λp aE=>?_,bM,I.len⟩
 .exact keep b o (DB b o e) ae (md b o e ah) (I.base.keep b o e n ae ah) (I.base.free b o e n ah)
 .obtain⟨b6,ak⟩:=I.base.slot b o e n ae ah;obtain⟨SD,av⟩:=slot b _ (DB b o e) ae (md b o e ah) ak (I.base.free b o e n ah);exact⟨SD,av⟩
 .obtain⟨bC,ak⟩:=I.base.there b o e ah;exact free b bC (md b o e ah) ak (I.base.free b o e n ah)
 .obtain⟨bC,ak⟩:=I.base.there b o e ah;exact there b bC (md b o e ah) ak
 .obtain⟨gw,ak⟩:=I.base.kj b bf e;obtain⟨hC,av⟩:=kj b _ ak;exact⟨gw++hC,by rw[av,Array.append_assoc]⟩
 .obtain⟨m,az,au⟩:=I.loc;refine⟨m,ns m az,λi x v ak av bL=>?_⟩
  obtain⟨u,r,l⟩:=au i x v ak av bL;refine⟨u,r,?_⟩;rcases l with l|⟨k,c,e,z⟩
  .exact .inl l
  .exact .inr ⟨k,c,e,cellK x c e _ z⟩
 .obtain⟨v,z⟩:=I.cell x c e;exact⟨v,cellK x c e v z⟩
 .obtain⟨m,⟨o,_,_,ay,_⟩,_⟩:=I.loc;exact free _ o (λz=>(jY _ z).2.1 rfl) ay I.free
 .obtain⟨v,o,ay,hd⟩:=I.cell x c e;exact free c o (λz=>(jY c z).2.2.1 x c e rfl) ay (I.jT x c e)
 .obtain⟨e,n,ne,mf,d⟩:=I.pin p aE;have rk:p.1∉ch:=λz=>(jY p.1 z).2.2.2 p aE rfl
  exact⟨keep p.1 p.2 ne mf rk e n,free p.1 p.2 rk e n,ne,mf,d⟩
def Inv.un{t':Nat}(I:Inv X pins σ H s)(u:e0 X.bF [] H ao s.heap h')(bM:d7 X.prog X.w ao h'):Inv X pins σ ao { s with heap:=h',toks:=t' }:=by
 obtain⟨m,⟨o,ag,a4,ay,r⟩,_⟩:=id I.loc;obtain⟨b6,e3⟩:=u.any ay I.free (by simp)
 exact I.step (g':=s.gens) (d':=s.drawn) (ch:=[]) (λ_ z=>nomatch z) (λb o _ ae _ e n=>u.keep b o e n ae (by simp)) (λb o _ ae _ e n=>u.slot b o e n ae (by simp)) (λb o _ e n=>u.free b o e n (by simp)) (λb o _ e=>u.there b o e (by simp)) u.kl u.jl u.kj (λdr hm=>by
  obtain⟨bC,m9,vW,du,bP⟩:=hm;rw[ay]at du;cases du;exact⟨_,m9,vW,e3,bP⟩) bM I.bare
def Inv.call{g':Array GenState}{t':Nat}{d':Drawn}{ch:List Addr}(I:Inv X pins σ H s)(u:e0 (hO X.stack) ch H ao s.heap h')(bM:d7 X.prog X.w ao h')(a8:AllBare g')(jY:∀b∈ch,(b∈X.ex\/X.e8.heap.objs.size<=b)/\b≠X.env.locals/\(∀x c,X.env.cells.lookup x=some c->c≠b)/\∀p∈X.fA++pins,p.1≠b):
  Inv X pins σ ao { s with heap:=h',gens:=g',drawn:=d',toks:=t' }:=by
 obtain⟨m,⟨o,ag,a4,ay,r⟩,_⟩:=id I.loc;obtain⟨b6,e3⟩:=u.any ay I.free λz=>(jY _ z).2.1 rfl
 exact I.step (ch:=ch) jY (λb o e3 ae aj e n=>u.keep b o e n (λz=>(V2.mp (I.tZ b z)).elim e3 ae) aj) (λb o _ _ aj e n=>u.any e n aj) (λb o aj e n=>u.free b o e n aj) (λb o aj e=>u.there b o e aj) u.kl u.jl u.kj (λdr hm=>by
  obtain⟨bC,m9,vW,du,bP⟩:=hm;rw[ay]at du;cases du;exact⟨_,m9,vW,e3,bP⟩) bM a8
def Inv.turned{t':Nat}{it:Addr}(I:Inv X pins σ H s)(k:∀b o,b≠it->s.heap.get? b=some o->h'.get? b=some o)(az:H it=none)(e3:it≠X.env.locals)(J:it∈X.ex\/X.e8.heap.objs.size<=it)(aa:∀x c,X.env.cells.lookup x=some c->c≠it)(aL:∀p∈X.fA++pins,p.1≠it):Inv X pins σ H { s with heap:=h',toks:=t' }:=by
 have DF:∀b u,H b=some u->b≠it:=λb u e z=>by rw[z,az]at e;cases e
 refine I.step (g':=s.gens) (d':=s.drawn) (ch:=[it]) (λb ae=>?_) (λb o _ _ aj e _=>k b o (λz=>aj (by simp[z])) e) (λb o _ _ aj e _=>⟨o.slots,k b o (λz=>aj (by simp[z])) e⟩) (λ_ _ _ _ n=>n)
  (λb o aj e=>⟨o,k b o (λz=>aj (by simp[z])) e⟩) (λ_ _ e=>e) (λ_ _ _ e=>e) (λb bf e=>⟨#[],by rw[e];simp⟩) (λm hm=>?_) (λb u e=>?_) I.bare
 .have e:b=it:=by simpa using ae
  subst e;exact⟨J,e3,aa,aL⟩
 .obtain⟨o,ag,a4,ay,r⟩:=hm;exact⟨o,ag,a4,k _ o (Xr e3) ay,r⟩
 .refine(I.bM b u e).ki (λc v aj q=>k c v ?_ q) (λ_ q=>q) λ_ _ q=>q
  rcases aj with z|z
  .rw[z];exact DF b u e
  .exact DF c _ z
def Inv.tok(I:Inv X pins σ H s)(t:Nat):Inv X pins σ H { s with toks:=t }:=I.un (h':=s.heap) (t':=t) e0.refl I.bM
theorem Inv.kept{t':Nat}(I:Inv X pins σ H s)(k:∀b u,s.heap.get? b=some u->h'.get? b=some u):Inv X pins σ H { s with heap:=h',toks:=t' }:=I.un (e0.kept k) (I.bM.kept k)
theorem Inv.laid{a:Addr}{o:dz}{t':Nat}(I:Inv X pins σ H s)(k:∀b u,s.heap.get? b=some u->h'.get? b=some u)(aE:s.heap.objs.size<=a)(new:dA X.prog X.w (upd H a o) h' a o):
  Inv X pins σ (upd H a o) { s with heap:=h',toks:=t' }:=I.un (e0.laid k aE (I.bM.fresh aE)) (I.bM.laid k aE new)
theorem Inv.write{x e:Addr}{o:dz}{t':Nat}(I:Inv X pins σ H s)(ai:pN (H x))(he:e=x\/H e=some (.own x))(k:∀b u,b≠e->s.heap.get? b=some u->h'.get? b=some u)(oE:∃u,h'.get? e=some u)(new:dA X.prog X.w (upd H x o) h' x o):Inv X pins σ (upd H x o) { s with heap:=h',toks:=t' }:=I.un (e0.write ai he k oE) (I.bM.write ai he k oE new)
def Inv.yg{D7:List (Addr×Obj)}(I:Inv X pins σ H s)(h:∀p∈D7,s.heap.get? p.1=some p.2/\H p.1=none/\p.1≠X.env.locals/\p.1∉X.bF/\∀v,p.2.data≠.cell v):Inv X D7 σ H s :=
 ⟨I.ok,I.os,I.bare,I.base,I.loc,I.cell,I.free,I.jT,λp aE=>(Wi.mp aE).elim (λz=>I.pin p (List.mem_append_left _ z)) (h p),I.bM,I.len⟩
def DJ{N:List Str}(aZ:N.Nodup){i j:Nat}{x:Str}(a:N[i]?=some x)(b:N[j]?=some x):i=j:=by
 obtain⟨J,ak⟩:=Wl.mp a;obtain⟨aa,av⟩:=Wl.mp b;exact(List.getElem_inj aZ).mp (ak.trans av.symm)
def S6 {M : Model} {A : Around} {E : Value -> Shared -> Prop} {i : Nat} {x : Str} {v : V} {u : Value} {Q : Unit -> Shared -> Prop} (I : Inv X pins σ H s) (aZ : X.N.Nodup) (hi : X.N[i]? = some x) (ah : Loc X.env.scope x) (r : RelV v u)
    (h : ∀ s', Inv X pins (σ.set i (some v)) H s' -> (∃ a, Heap.SameBut a s.heap s'.heap /\ (a = X.env.locals \/ X.env.cells.lookup x = some a)) -> Q () s') (hf : X.fn x = true \/ X.env.scope.names.lookup x = some .local := by first | exact .inl rfl | exact .inr rfl | assumption) : wpAny M A (storeName X.env x u) Q E s := by
  obtain ⟨m, az, au⟩ := id I.loc
  have LV : (X.env.scope.kind == .class || (X.env.scope.kind == .module && X.env.locals != X.env.globals)) = false := by rw [I.ok.kind]; rfl
  have Cc : i < σ.length := by rw [I.len]; exact (Wl.mp hi).1
  have mZ := I.mZ
  have tracked : ∀ {a : Addr} {h' : Heap}, (∃ o, s.heap.get? a = some o /\ H a = none) -> Heap.SameBut a s.heap h' -> d7 X.prog X.w H h' := fun {a h'} aA ab b bX e => by
    obtain ⟨_, _, l3⟩ := aA
    refine (I.bM b bX e).ki (fun c ej aj q => (ab.2 c ?_).trans q) (fun _ q => q) fun _ _ q => q
    rintro rfl
    rcases aj with rfl | aj
    · rw [l3] at e; cases e
    · rw [l3] at aj; cases aj
  rcases ah with aw | aw
  · refine wpAny_storeName_local aw az (fun h' hW ab => ?_) LV
    obtain ⟨Pc, _, _, sT, _⟩ := id az
    refine h _ ⟨I.ok, I.os, I.bare, ⟨fun b o e n ae ah => ?_, fun b o e n ae ah => ?_, I.base.free, fun b o e ah => ?_, I.base.kl, I.base.jl, I.base.kj⟩, ⟨_, hW, fun j y pz ak av bL => ?_⟩, fun y c e => ?_, I.free, I.jT, fun p aE => ?_, tracked ⟨Pc, sT, I.free⟩ ab, by simpa using I.len⟩ ⟨_, ab, .inl rfl⟩
    · exact (ab.2 b (Wn (Wk (Wb e) I.ok.above))).trans (I.base.keep b o e n ae ah)
    · obtain ⟨b6, ak⟩ := I.base.slot b o e n ae ah
      exact ⟨b6, (ab.2 b (Wn (Wk (Wb e) I.ok.above))).trans ak⟩
    · obtain ⟨bC, ak⟩ := I.base.there b o e ah
      exact ⟨bC, (ab.2 b (Wn (Wk (Wb e) I.ok.above))).trans ak⟩
    · by_cases aB : j = i
      · subst aB
        rw [hi] at ak; cases ak
        rw [List.getElem?_set_self Cc] at av
        cases av
        exact ⟨u, r, .inl ⟨aw, by simp⟩⟩
      · rw [YW (Xr aB)] at av
        obtain ⟨uc, bP, q⟩ := au j y pz ak av bL
        refine ⟨uc, bP, ?_⟩
        rcases q with ⟨k, e⟩ | ⟨k, c, e, z⟩
        · refine .inl ⟨k, ?_⟩
          have : y ≠ x := fun e => aB (DJ aZ ak (e ▸ hi))
          simp [this, e]
        · exact .inr ⟨k, c, e, z.sameBut ab (mZ y c e)⟩
    · obtain ⟨ej, z⟩ := I.cell y c e
      exact ⟨ej, z.sameBut ab (mZ y c e)⟩
    · obtain ⟨e, n, ne, mf, d⟩ := I.pin p aE
      exact ⟨(ab.2 p.1 ne).trans e, n, ne, mf, d⟩
  · have nh : X.fn x = true := by
      rcases hf with z | z
      · exact z
      · rw [z] at aw; cases aw
    obtain ⟨c, aj⟩ := I.ok.has x (.inl aw)
    obtain ⟨ej, z⟩ := I.cell x c aj
    refine wpAny_storeName_cell I.ok.kind aw aj z (fun h' c6 ab => ?_)
    obtain ⟨fH, Ck, MD⟩ := id z
    refine h { s with heap := h' } ⟨I.ok, I.os, I.bare, ⟨fun b o e n ae ah => ?_, fun b o e n ae ah => ?_, I.base.free, fun b o e ah => ?_, I.base.kl, I.base.jl, I.base.kj⟩, ⟨m, az.sameBut ab (Xr (mZ x c aj)), fun j y pz ak av bL => ?_⟩, fun y cy e => ?_, I.free, I.jT, fun p aE => ?_, tracked ⟨fH, Ck, I.jT x c aj⟩ ab, by simpa using I.len⟩ ⟨c, ab, .inr aj⟩
    · exact (ab.2 b (Wn (Wk (Wb e) (I.ok.vA x c nh aj)))).trans (I.base.keep b o e n ae ah)
    · obtain ⟨b6, ak⟩ := I.base.slot b o e n ae ah
      exact ⟨b6, (ab.2 b (Wn (Wk (Wb e) (I.ok.vA x c nh aj)))).trans ak⟩
    · obtain ⟨bC, ak⟩ := I.base.there b o e ah
      exact ⟨bC, (ab.2 b (Wn (Wk (Wb e) (I.ok.vA x c nh aj)))).trans ak⟩
    · by_cases aB : j = i
      · subst aB
        rw [hi] at ak; cases ak
        rw [List.getElem?_set_self Cc] at av
        cases av
        exact ⟨u, r, .inr ⟨.inl aw, c, aj, c6⟩⟩
      · rw [YW (Xr aB)] at av
        obtain ⟨uc, bP, q⟩ := au j y pz ak av bL
        refine ⟨uc, bP, ?_⟩
        rcases q with q | ⟨k, cy, e, hH⟩
        · exact .inl q
        · refine .inr ⟨k, cy, e, hH.sameBut ab ?_⟩
          rintro rfl
          exact aB (DJ aZ ak (I.ok.inj _ _ _ e aj ▸ hi))
    · by_cases sL : cy = c
      · subst sL; exact ⟨_, c6⟩
      · obtain ⟨jH, cp⟩ := I.cell y cy e
        exact ⟨jH, cp.sameBut ab sL⟩
    · obtain ⟨e, n, ne, mf, d⟩ := I.pin p aE
      refine ⟨(ab.2 p.1 ?_).trans e, n, ne, mf, d⟩
      intro q
      rw [q, Ck] at e
      have dv : fH = p.2 := WE e
      exact d ej (by rw [<- dv]; exact MD)
def yS{M:Model}{A:Around}{E:Value->Shared->Prop}{i:Nat}{x:Str}{v:V}{u:Value}{Q:Unit->Shared->Prop}(I:Inv X pins σ H s)(aZ:X.N.Nodup)(hi:X.N[i]?=some x)(ah:Loc X.env.scope x)(r:RelV v u)(h:∀s',Inv X pins (σ.set i (some v)) H s'->Q () s')(hf:X.fn x=true\/X.env.scope.names.lookup x=some .local:=by first|exact .inl rfl|exact .inr rfl|assumption):wpAny M A (storeName X.env x u) Q E s :=
 S6 I aZ hi ah r (λs' iH _=>h s' iH) hf
def Inv.z7{s':Shared}{ch:List Addr}(I:Inv X pins σ H s)(ay:s'.os=s.os)(u:e0 (hO X.stack) ch H ao s.heap s'.heap)(bM:d7 X.prog X.w ao s'.heap)(a8:AllBare s'.gens)(jY:∀b∈ch,(b∈X.ex\/X.e8.heap.objs.size<=b)/\b≠X.env.locals/\(∀x c,X.env.cells.lookup x=some c->c≠b)/\∀p∈X.fA++pins,p.1≠b):Inv X pins σ ao s':=by
 obtain⟨h',g',d',t',bC⟩:=s';have e:bC=s.os:=ay;subst e;exact I.call (g':=g') (t':=t') (d':=d') u bM a8 jY
end
noncomputable abbrev iL:=Value->Option Addr->ax->Prop
noncomputable abbrev St:=List (Option V)
noncomputable abbrev c2:=V->ax->Prop
noncomputable abbrev TE:=St->ax->c2->Prop
noncomputable abbrev TT:=St->ax->(Bool->ax->Prop)->Prop
noncomputable abbrev fv:=St->ax->(List V->ax->Prop)->Prop
structure Ends where
 cg:St->ax->Prop
 dR:c2
 lM:St->ax->Prop:=λ_ _=>False
 ct:St->ax->Prop:=λ_ _=>False
noncomputable abbrev gT:=Ends->St->ax->Prop
noncomputable def es(X:aS)(pins:List (Addr×Obj))(σ:St)(Q:c2)(u:Value)(s':Shared):Prop:=∃v ao,Inv X pins σ ao s'/\RelV v u/\Q v ao
noncomputable def n7(X:aS)(pins:List (Addr×Obj))(σ:St)(Q:Bool->ax->Prop)(b:Bool)(s':Shared):Prop:=∃ao,Inv X pins σ ao s'/\Q b ao
noncomputable def Gz(X:aS)(pins:List (Addr×Obj))(σ:St)(Q:List V->ax->Prop)(us:List Value)(s':Shared):Prop:=∃af ao,Inv X pins σ ao s'/\Vals af us/\Q af ao
noncomputable def uR(X:aS)(pins:List (Addr×Obj))(D:Ends)(f:Flow)(s':Shared):Prop :=
 match f with
 |.next=>∃dG ao,Inv X pins dG ao s'/\D.cg dG ao
 |.brk=>∃dG ao,Inv X pins dG ao s'/\D.lM dG ao
 |.cont=>∃dG ao,Inv X pins dG ao s'/\D.ct dG ao
 |.ret u=>∃v dG ao,Inv X pins dG ao s'/\RelV v u/\D.dR v ao
noncomputable def aP(X:aS)(e:Expr)(t:TE):Prop :=
 ∀(pins:List (Addr×Obj))(s:Shared)(σ:St)(H:ax)(Q:c2),Inv X pins σ H s->t σ H Q->wpAny (model X.prog X.w) X.A (eval e X.env) (es X pins σ Q) X.cC s
noncomputable def dx(X:aS)(e:Expr)(t:TT):Prop :=
 ∀(pins:List (Addr×Obj))(s:Shared)(σ:St)(H:ax)(Q:Bool->ax->Prop),Inv X pins σ H s->t σ H Q->wpAny (model X.prog X.w) X.A (isTrue e X.env (eval e X.env)) (n7 X pins σ Q) X.cC s
noncomputable def ie(X:aS)(e:Expr)(t:TT):Prop :=
 ∀(whole:Sem Value)(pins:List (Addr×Obj))(s:Shared)(σ:St)(H:ax)(Q:Bool->ax->Prop),Inv X pins σ H s->t σ H Q->wpAny (model X.prog X.w) X.A (isTrue e X.env whole) (n7 X pins σ Q) X.cC s
def ie.pt{X:aS}{e:Expr}{t:TT}(h:ie X e t):dx X e t:=h _
noncomputable def ft(X:aS)(ag:List Expr)(t:fv):Prop :=
 ∀(pos:Pos)(pins:List (Addr×Obj))(s:Shared)(σ:St)(H:ax)(Q:List V->ax->Prop),Inv X pins σ H s->t σ H Q->wpAny (model X.prog X.w) X.A (spliced (backTo pos (starEach ag X.env))) (Gz X pins σ Q) X.cC s
noncomputable def eD(X:aS)(st:Stmt)(t:gT):Prop :=
 ∀(pins:List (Addr×Obj))(s:Shared)(σ:St)(H:ax)(D:Ends),Inv X pins σ H s->t D σ H->wpAny (model X.prog X.w) X.A (exec st X.env) (uR X pins D) X.cC s
noncomputable def gS(X:aS)(st:List Stmt)(t:gT):Prop :=
 ∀(pins:List (Addr×Obj))(s:Shared)(σ:St)(H:ax)(D:Ends),Inv X pins σ H s->t D σ H->wpAny (model X.prog X.w) X.A (execs st X.env) (uR X pins D) X.cC s
def bK{α:Type}{t:Sem α}{Q ig:α->Shared->Prop}{M:Model}{A:Around}{E:Value->Shared->Prop}{s:Shared}(h:wpAny M A t Q E s)(eL:∀a s,Q a s->ig a s):wpAny M A t ig E s:=WY h eL λ_ _ x=>x
end bJ
namespace bJ
open PySem PySem.Spec PyProof.Rows
section
variable{X:aS}
def bin{a b:Expr}{cc cH:TE}(aA:aP X a cc)(ae:aP X b cH){pins:List (Addr×Obj)}{s:Shared}{σ:St}{H:ax}{R:V->V->ax->Prop}(I:Inv X pins σ H s)(h:cc σ H λx H1=>cH σ H1 λy aY=>R x y aY){α:Type}{Q:α->Shared->Prop}{f:Value->Value->Sem α}(hf:∀v u s2 x y aY,Inv X pins σ aY s2->RelV x v->RelV y u->R x y aY->wpAny (model X.prog X.w) X.A (f v u) Q X.cC s2):
  wpAny (model X.prog X.w) X.A (eval a X.env) (λv cG=>wpAny (model X.prog X.w) X.A (eval b X.env) (λu hb=>wpAny (model X.prog X.w) X.A (f v u) Q X.cC hb) X.cC cG) X.cC s:=by
 refine bK (aA pins s σ H _ I h) λv s1 ⟨x,H1,bg,aG,aN⟩=>?_
 refine bK (ae pins s1 σ H1 _ bg aN) λu s2 ⟨y,aY,cS,a5,ba⟩=>?_
 exact hf v u s2 x y aY cS aG a5 ba
noncomputable def mA(i:Nat):TE:=λσ H Q=>∃v,σ[i]?=some (some v)/\Q v H
noncomputable def nV(v:V):TE:=λ_ H Q=>Q v H
def h2{i:Nat}{x:Str}{pos:Pos}(aZ:X.N[i]?=some x)(aT:gn X.env.scope x)(hd:(x==("__debug__":Str))=false:=by decide)(jo:(x==("__classdict__":Str))=false:=by decide):aP X (.Name x pos) (mA i):=by
 intro pins s σ H Q I h;obtain⟨v,e,h⟩:=h;obtain⟨m,az,au⟩:=I.loc;obtain⟨u,r,l⟩:=au i x v aZ e aT;have fin:es X pins σ Q u s:=⟨v,H,I,r,h⟩;rcases l with⟨aw,hm⟩|⟨aw,c,aj,sM⟩
 .exact wpAny_Name (wpAny_loadName_local I.ok.kind aw az hm fin) hd
 .rcases aw with aw|aw
  .exact wpAny_Name (wpAny_loadName_cell I.ok.kind aw aj sM fin) hd
  .exact wpAny_Name (wpAny_loadName_free I.ok.kind aw aj sM fin jo) hd
def PU{i j pos}:aP X (.Constant (.int i) j pos) (nV (.int i)):=λ_ _ _ H _ I h=>wpAny_Constant_int ⟨.int i,H,I.tok _,⟨_,rfl⟩,h⟩
def PI{b j pos}:aP X (.Constant (.bool b) j pos) (nV (.aU b)):=λ_ _ _ H _ I h=>Constant_bool ⟨.aU b,H,I,rfl,h⟩
def PX{j pos}:aP X (.Constant .none j pos) (nV .cU):=λ_ _ _ H _ I h=>Constant_none ⟨.cU,H,I,rfl,h⟩
def P2{x j pos}:aP X (.Constant (.str x) j pos) (nV (.str x)):=λ_ _ _ H _ I h=>Calls.Constant_str ⟨.str x,H,I.tok _,⟨_,rfl⟩,h⟩
noncomputable def eb(X:aS)(x:Str):Prop:=X.env.kindOf x=some .globalImplicit
def CR{E:Value->Shared->Prop}{pins:List (Addr×Obj)}{s:Shared}{σ:St}{H:ax}{x:Str}{u:Value}{pos:Pos}{Q:Value->Shared->Prop}(I:Inv X pins σ H s)(a8:eb X x)(hm:X.aF x=some u)(h:Q u s)(hd:(x==("__debug__":Str))=false:=by decide):wpAny (model X.prog X.w) X.A (eval (.Name x pos) X.env) Q E s :=
 Za I.ok.kind a8 (Calls.loadGlobal_global (by rw[I.ok.glob];exact I.mod.glob.keeps I.lM) hm h) hd
def j8{E:Value->Shared->Prop}{pins:List (Addr×Obj)}{s:Shared}{σ:St}{H:ax}{x:Str}{u:Value}{pos:Pos}{Q:Value->Shared->Prop}(I:Inv X pins σ H s)(a8:eb X x)(hm:X.aF x=none)(aT:bootBuiltins x=some u)(h:Q u s)(az:x≠"__name__":=by decide)(hd:(x==("__debug__":Str))=false:=by decide):wpAny (model X.prog X.w) X.A (eval (.Name x pos) X.env) Q E s:=by
 obtain⟨i0,J,aa⟩:=I.mod.blt;exact Za I.ok.kind a8 (Calls.loadGlobal_builtin (by rw[I.ok.glob];exact I.mod.glob.keeps I.lM) hm (by rw[I.ok.blt];exact J.keeps I.lM) ((aa x az).trans aT) h) hd
def PS{x:Str}{v:V}{u:Value}{pos:Pos}(a8:eb X x)(hm:X.aF x=some u)(r:RelV v u)(hd:(x==("__debug__":Str))=false:=by decide):aP X (.Name x pos) (nV v) :=
 λ_ _ _ H _ I h=>CR I a8 hm ⟨v,H,I,r,h⟩ hd
def PJ{x:Str}{v:V}{u:Value}{pos:Pos}(a8:eb X x)(hm:X.aF x=none)(aT:bootBuiltins x=some u)(r:RelV v u)(az:x≠"__name__":=by decide)(hd:(x==("__debug__":Str))=false:=by decide):aP X (.Name x pos) (nV v) :=
 λ_ _ _ H _ I h=>j8 I a8 hm aT ⟨v,H,I,r,h⟩ az hd
variable{a b:Expr}{cc cH:TE}{pos:Pos}
noncomputable def pO(X:aS)(op:CmpOp)(a b:Expr)(t:TE):Prop :=
 ∀(pins:List (Addr×Obj))(s:Shared)(σ:St)(H:ax)(Q:c2),Inv X pins σ H s->t σ H Q ->
  wpAny (model X.prog X.w) X.A (eval a X.env) (λv cG=>wpAny (model X.prog X.w) X.A (eval b X.env) (λu hb=>wpAny (model X.prog X.w) X.A (compareOp op v u) (es X pins σ Q) X.cC hb) X.cC cG) X.cC s
def O3(b:Expr){op:CmpOp}(h:op≠.In)(aa:op≠.NotIn):behindInMarks op b=false:=by
 have ak:(op==CmpOp.In)=false:=by cases op<;>first|rfl|exact absurd rfl h
 have av:(op==CmpOp.NotIn)=false:=by cases op<;>first|rfl|exact absurd rfl aa
 cases b<;>simp[behindInMarks,ak,av]
noncomputable def FD(t:TE):TT:=λσ H Q=>t σ H λx H1=>∃c,x=.aU c/\Q c H1
def VL{op:CmpOp}{t:TE}(h:pO X op a b t)(J:behindInMarks op b=false:=by first|exact O3 _ (by decide) (by decide)|rfl):dx X (.Compare a [op] [b] pos) (FD t):=by
 intro pins s σ H Q I hw;refine wpAny_isTrue_Compare1 (bK (h pins s σ H _ I hw) λv s1 J=>bK J λu s2 aa=>bK aa λc s3 ⟨x,H1,bg,aG,aN⟩=>?_) J
 obtain⟨d,rfl,q⟩:=aN;cases aG;exact Xa ⟨H1,bg,q⟩
def QK{e:Expr}{t:TE}(h:aP X e t)(he:∀whole,isTrue e X.env whole=(do let v <- whole;standAt e.pos;holding [v] (truthy v)):=by intro _;rfl):dx X e (FD t):=by
 intro pins s σ H Q I hw;refine isTrue_plain (bK (h pins s σ H _ I hw) λv s1 ⟨x,H1,bg,aG,aN⟩=>?_) (he _)
 obtain⟨d,rfl,q⟩:=aN;cases aG;exact Xa ⟨H1,bg,q⟩
variable{i4 t4:TT}{rest:List Expr}
noncomputable def Tb(t u:TT):TT:=λσ H Q=>t σ H λc H1=>if c=true then u σ H1 Q else Q false H1
noncomputable def Tv(t u:TT):TT:=λσ H Q=>t σ H λc H1=>if c=true then Q true H1 else u σ H1 Q
noncomputable def Tt(t:TT):TT:=λσ H Q=>t σ H λc H1=>Q (!c) H1
def QM(aA:dx X a i4):ie X (.BoolOp .And [a] pos) i4:=by
 intro lu pins s σ H Q I h;refine isTrue_and (bK (aA pins s σ H Q I h) λc s1 e=>?_)
 cases c with
 |true=>exact isTrue_and_nil e
 |false=>exact e
def QO(aA:dx X a i4):ie X (.BoolOp .Or [a] pos) i4:=by
 intro lu pins s σ H Q I h;refine isTrue_or (bK (aA pins s σ H Q I h) λc s1 e=>?_)
 cases c with
 |false=>exact isTrue_or_nil e
 |true=>exact e
def QL(aA:dx X a i4)(ae:ie X (.BoolOp .And (b::rest) pos) t4):ie X (.BoolOp .And (a::b::rest) pos) (Tb i4 t4):=by
 intro lu pins s σ H Q I h;refine isTrue_and (bK (aA pins s σ H _ I h) λc s1 ⟨H1,bg,aN⟩=>?_)
 cases c with
 |true=>exact ae lu pins s1 σ H1 Q bg aN
 |false=>exact⟨H1,bg,aN⟩
def QN(aA:dx X a i4)(ae:ie X (.BoolOp .Or (b::rest) pos) t4):ie X (.BoolOp .Or (a::b::rest) pos) (Tv i4 t4):=by
 intro lu pins s σ H Q I h;refine isTrue_or (bK (aA pins s σ H _ I h) λc s1 ⟨H1,bg,aN⟩=>?_)
 cases c with
 |true=>exact⟨H1,bg,aN⟩
 |false=>exact ae lu pins s1 σ H1 Q bg aN
def QJ(aA:dx X a i4):dx X (.UnaryOp .Not a pos) (Tt i4):=by
 intro pins s σ H Q I h;exact isTrue_not (aA pins s σ H (λc H1=>Q (!c) H1) I h)
noncomputable def Tc(cc cH:TE):TE:=λσ H Q=>cc σ H λx H1=>∃c,x=.aU c/\if c=true then cH σ H1 Q else Q (.aU false) H1
noncomputable def Tw(cc cH:TE):TE:=λσ H Q=>cc σ H λx H1=>∃c,x=.aU c/\if c=true then Q (.aU true) H1 else cH σ H1 Q
noncomputable def Tu(cc:TE):TE:=λσ H Q=>cc σ H λx H1=>∃c,x=.aU c/\Q (.aU (!c)) H1
def D1{op}{t:TE}(h:aP X a t):aP X (.BoolOp op [a] pos) t:=λpins s σ H Q I hw=>BoolOp_one (h pins s σ H Q I hw)
def PH(aA:aP X a cc)(ae:aP X (.BoolOp .And (b::rest) pos) cH):aP X (.BoolOp .And (a::b::rest) pos) (Tc cc cH):=by
 intro pins s σ H Q I h;refine BoolOp_and (bK (aA pins s σ H _ I h) λv s1 ⟨x,H1,bg,aG,aN⟩=>?_)
 obtain⟨c,rfl,aN⟩:=aN;cases aG;refine Xa ?_;cases c with
 |true=>exact ae pins s1 σ H1 Q bg aN
 |false=>exact⟨.aU false,H1,bg,rfl,aN⟩
def P0(aA:aP X a cc)(ae:aP X (.BoolOp .Or (b::rest) pos) cH):aP X (.BoolOp .Or (a::b::rest) pos) (Tw cc cH):=by
 intro pins s σ H Q I h;refine BoolOp_or (bK (aA pins s σ H _ I h) λv s1 ⟨x,H1,bg,aG,aN⟩=>?_)
 obtain⟨c,rfl,aN⟩:=aN;cases aG;refine Xa ?_;cases c with
 |false=>exact ae pins s1 σ H1 Q bg aN
 |true=>exact⟨.aU true,H1,bg,rfl,aN⟩
def PY(aA:aP X a cc):aP X (.UnaryOp .Not a pos) (Tu cc):=by
 intro pins s σ H Q I h;refine UnaryOp_ (bK (aA pins s σ H _ I h) λv s1 ⟨x,H1,bg,aG,aN⟩=>?_)
 obtain⟨c,rfl,aN⟩:=aN;cases aG;exact not_of (Xa ⟨.aU (!c),H1,bg,rfl,aN⟩)
noncomputable def t7(t:TT)(cc cH:TE):TE:=λσ H Q=>t σ H λc H1=>if c=true then cc σ H1 Q else cH σ H1 Q
def PT{c:Expr}(aj:dx X c i4)(aA:aP X a cc)(ae:aP X b cH):aP X (.IfExp c a b pos) (t7 i4 cc cH):=by
 intro pins s σ H Q I h;refine wpAny_IfExp (bK (aj pins s σ H _ I h) λd s1 ⟨H1,bg,aN⟩=>?_)
 cases d with
 |true=>exact aA pins s1 σ H1 Q bg aN
 |false=>exact ae pins s1 σ H1 Q bg aN
end
end bJ
namespace bJ
open PySem PySem.Spec PyProof.Rows
noncomputable def ew(K:W.Frag)(H:ax)(a:Addr)(xs:List V):Prop :=
 hk H a (.lst xs) \/
  ∃(o:Obj)(its:Array Value)(n:Nat),K.lookup a=some o/\o.cls=.type "list"/\o.dict=none/\o.data=.seq its n/\its.size<=sizeLine/\Vals xs its.toList
noncomputable def fu(K:W.Frag)(H:ax)(a:Addr)(xs:List V):Prop :=
 hk H a (.tup xs) \/
  ∃(o:Obj)(its:Array Value)(n:Nat),K.lookup a=some o/\o.cls=.type "tuple"/\o.data=.seq its n/\its.size<=sizeLine/\Vals xs its.toList
noncomputable def GQ:Value->Option V
 |.none=>some .cU
 |.bool b=>some (.aU b)
 |.int i _=>some (.int i)
 |.str x _=>some (.str x)
 |.bytes b _=>some (.vy b)
 |.float b _=>some (.jk b)
 |.ref a=>some (.ref a)
 |.type n=>some (.ty n)
 |_=>none
def RelV.abs{x:V}{u:Value}(r:RelV x u):GQ u=some x:=by
 cases x with
 |cU=>cases r;rfl
 |aU _=>cases r;rfl
 |int _=>obtain⟨t,rfl⟩:=r;rfl
 |str _=>obtain⟨t,rfl⟩:=r;rfl
 |vy _=>obtain⟨t,rfl⟩:=r;rfl
 |jk _=>obtain⟨t,rfl⟩:=r;rfl
 |ref _=>cases r;rfl
 |ty _=>cases r;rfl
def RelV.inj{x y:V}{u:Value}(r:RelV x u)(q:RelV y u):x=y:=WE (r.abs.symm.trans q.abs)
theorem Vals.inj:∀{xs ys:List V}{us:List Value},Vals xs us->Vals ys us->xs=ys
 |_,_,_,.nil,.nil=>rfl
 |_,_,_,.cons r t,.cons bP t'=>by rw[r.inj bP,Vals.inj t t']
section
variable{X:aS}{pins:List (Addr×Obj)}{σ:St}{H:ax}{s:Shared}{a:Addr}{xs ys:List V}
def ew.of{K:W.Frag}(h:H a=some (.lst xs)):ew K H a xs:=.inl (.inl h)
def Inv.list(I:Inv X pins σ H s)(h:ew X.K H a xs):∃its:List Value,Vals xs its/\PlainL s.heap a its.toArray/\xs.length<=sizeLine:=by
 rcases h with h|⟨o,its,n,aw,aj,hd,ab,hz,r⟩
 .obtain⟨z,its,n,r,e⟩:=h.ok I.bM;exact⟨its,r,⟨_,n,e,rfl,rfl,rfl⟩,z⟩
 .refine⟨its.toList,r,⟨o,n,I.fG a o aw,aj,hd,by simpa using ab⟩,?_⟩
  have e:=r.length;simp only[Array.length_toList]at e;omega
def Inv.tuple(I:Inv X pins σ H s)(h:fu X.K H a xs):∃its:List Value,Vals xs its/\IsTup s.heap a its.toArray/\xs.length<=sizeLine:=by
 rcases h with h|⟨o,its,n,aw,aj,ab,hz,r⟩
 .obtain⟨z,its,r,p⟩:=h.ok I.bM;exact⟨its,r,p,z⟩
 .refine⟨its.toList,r,⟨o,I.fG a o aw,aj,n,by simpa using ab⟩,?_⟩
  have e:=r.length;simp only[Array.length_toList]at e;omega
def Inv.Oi(I:Inv X pins σ H s)(h:ew X.K H a xs)(h':ew X.K H a ys):xs=ys:=by
 obtain⟨its,r,⟨o,n,e,_,_,d⟩,_⟩:=I.list h;obtain⟨its',bP,⟨bC,cE,bl,_,_,d'⟩,_⟩:=I.list h';rw[e]at bl;cases bl;rw[d]at d';injection d' with cB _;have:its=its':=by simpa using Xl Array.toList cB
 subst this;exact r.inj bP
def Inv.Ua(I:Inv X pins σ H s)(h:fu X.K H a xs)(h':fu X.K H a ys):xs=ys:=by
 obtain⟨its,r,⟨o,e,_,n,d⟩,_⟩:=I.tuple h;obtain⟨its',bP,⟨bC,bl,_,cE,d'⟩,_⟩:=I.tuple h';rw[e]at bl;cases bl;rw[d]at d';injection d' with cB _;have:its=its':=by simpa using Xl Array.toList cB
 subst this;exact r.inj bP
end
section
variable{X:aS}{pins:List (Addr×Obj)}{σ:St}{H:ax}{s:Shared}{E:Value->Shared->Prop}
end
section
variable{X:aS}{st:Stmt}{rest:List Stmt}{t u:gT}{e:Expr}{er:TE}{pos:Pos}
noncomputable def Tr:gT:=λD σ H=>D.cg σ H
noncomputable def Tz(t u:gT):gT:=λD σ H=>t { D with cg:=u D } σ H
def QG:gS X [] Tr:=λ_ _ σ H _ I h=>wpAny_execs_nil ⟨σ,H,I,h⟩
def QF(J:eD X st t)(aa:gS X rest u):gS X (st::rest) (Tz t u):=by
 intro pins s σ H D I h;refine wpAny_execs_cons (bK (J pins s σ H { D with cg:=u D } I h) λf s1 q=>?_)
 cases f with
 |next =>
  obtain⟨dG,ao,iH,q⟩:=q;exact aa pins s1 dG ao D iH q
 |ret v=>exact q
 |brk=>exact q
 |cont=>exact q
def Inv.quiet{pins:List (Addr×Obj)}{σ:St}{H:ax}{s:Shared}(I:Inv X pins σ H s):interactive X.env=false:=by simp[interactive,I.ok.kind]
noncomputable def Ti(er:TE):gT:=λD σ H=>er σ H λ_ H1=>D.cg σ H1
def Ee(he:aP X e er)(ab:swapsWith e none pos.line X.env=pure false:=by rfl):eD X (.Expr e pos) (Ti er):=by
 intro pins s σ H D I h;exact wpAny_Expr_any (bK (he pins s σ H _ I h) λv s1 ⟨x,H1,bg,aG,aN⟩=>⟨σ,H1,bg,aN⟩) I.quiet ab
noncomputable def ps(er:TE):gT:=λD σ H=>er σ H D.dR
def yk(he:aP X e er):eD X (.Return (some e) pos) (ps er):=by
 intro pins s σ H D I h;exact wpAny_Return_some (bK (he pins s σ H _ I h) λv s1 ⟨x,H1,bg,aG,aN⟩=>⟨x,σ,H1,bg,aG,aN⟩)
noncomputable def To(c:TT)(t u:gT):gT:=λD σ H=>c σ H λb H1=>if b=true then t D σ H1 else u D σ H1
def QE{c:Expr}{a b:List Stmt}{kk:TT}(aj:dx X c kk)(aA:gS X a t)(ae:gS X b u):eD X (.If c a b pos) (To kk t u):=by
 intro pins s σ H D I h;refine wpAny_If (bK (aj pins s σ H _ I h) λd s1 ⟨H1,bg,aN⟩=>?_)
 cases d with
 |true=>exact aA pins s1 σ H1 D bg aN
 |false=>exact ae pins s1 σ H1 D bg aN
end
noncomputable abbrev kB:=V->St->ax->(St->ax->Prop)->Prop
noncomputable abbrev lH:=List V->St->ax->(St->ax->Prop)->Prop
noncomputable def iJ(X:aS)(target:Expr)(t:kB):Prop :=
 ∀(pins:List (Addr×Obj))(s:Shared)(σ:St)(H:ax)(v:V)(u:Value)(Q:St->ax->Prop),Inv X pins σ H s->RelV v u->t v σ H Q ->
  wpAny (model X.prog X.w) X.A (assign target X.env u) (λ_ s'=>∃dG ao,Inv X pins dG ao s'/\Q dG ao) X.cC s
noncomputable def pP(X:aS)(ts:List Expr)(t:lH):Prop :=
 ∀(pins:List (Addr×Obj))(s:Shared)(σ:St)(H:ax)(af:List V)(us:List Value)(Q:St->ax->Prop),Inv X pins σ H s->Vals af us->t af σ H Q ->
  wpAny (model X.prog X.w) X.A (assignInOrder ((assignEach ts X.env).map (·.2)) us) (λ_ s'=>∃dG ao,Inv X pins dG ao s'/\Q dG ao) X.cC s
section
variable{X:aS}{pos:Pos}
noncomputable def wk(i:Nat):kB:=λv σ H Q=>Q (σ.set i (some v)) H
def D3{i:Nat}{x:Str}(aZ:X.N.Nodup)(hi:X.N[i]?=some x)(ah:Loc X.env.scope x)(hf:X.fn x=true\/X.env.scope.names.lookup x=some .local:=by first|exact .inl rfl|exact .inr rfl|assumption):iJ X (.Name x pos) (wk i):=by
 intro pins s σ H v u Q I r h;exact wpAny_assign_Name (yS I aZ hi ah r (λs' iH=>⟨_,H,iH,h⟩) hf)
noncomputable def Bz:lH:=λaf σ H Q=>af=[]/\Q σ H
noncomputable def Bx(t:kB)(u:lH):lH:=λaf σ H Q=>∃v r,af=v::r/\t v σ H λdG ao=>u r dG ao Q
def Qk:pP X [] Bz:=by
 intro pins s σ H af us Q I r h;obtain⟨e,h⟩:=h;subst e;cases r;exact assignInOrder_nil ⟨σ,H,I,h⟩
def Qj{e:Expr}{ag:List Expr}{t:kB}{u:lH}(J:iJ X e t)(aa:pP X ag u)(ab:(assignEach (e::ag) X.env).map (·.2)=assign e X.env::(assignEach ag X.env).map (·.2):=by rfl):pP X (e::ag) (Bx t u):=by
 intro pins s σ H af us Q I r h;obtain⟨v,VR,ak,h⟩:=h;subst ak;cases r with
 |cons r gy =>
  rw[ab];refine assignInOrder_cons (bK (J pins s σ H _ _ _ I r h) λ_ s1 ⟨U3,H1,bg,aN⟩=>?_)
  exact aa pins s1 U3 H1 _ _ Q bg gy aN
noncomputable def Li(K:W.Frag)(n:Nat)(t:lH):kB:=λv σ H Q=>∃a xs,v=.ref a/\fu K H a xs/\xs.length=n/\t xs σ H Q
def Qi{ag:List Expr}{k:Nat}{t:lH}{n:Nat}(aj:X.calm=true)(h:pP X ag t)(az:(assignEach ag X.env).length=n:=by rfl)(cN:(assignEach ag X.env).findIdx? (·.1)=none:=by rfl):iJ X (.Tuple ag k pos) (Li X.K n t):=by
 intro pins s σ H v u Q I r hw;obtain⟨a,xs,ak,aK,au,hw⟩:=hw;subst ak;cases r;obtain⟨its,b4,aV,hz⟩:=I.tuple aK;refine assign_Tuple_tuple (I.ok.hd aj) aV (by simp[az,<- au,b4.length]) cN λh' ah=>?_
 have bg:Inv X pins σ H { s with heap:=h' }:=I.kept (t':=s.toks) λb o e=>ah b o (Wn (Wb e)) e
 exact h pins _ σ H xs _ Q bg (by simpa using b4) hw
noncomputable def pn(er:TE)(g:kB):gT:=λD σ H=>er σ H λx H1=>g x σ H1 D.cg
def tH{i:Nat}{x:Str}{e:Expr}{er:TE}{pos':Pos}(aZ:X.N.Nodup)(hi:X.N[i]?=some x)(ah:Loc X.env.scope x)(he:aP X e er)(ab:swapsWith e (some (.Name x pos')) pos.line X.env=pure false:=by rfl)(hf:X.fn x=true\/X.env.scope.names.lookup x=some .local:=by first|exact .inl rfl|exact .inr rfl|assumption):
  eD X (.Assign [.Name x pos'] e pos) (pn er (wk i)):=by
 intro pins s σ H D I h;refine wpAny_Assign_Name (bK (he pins s σ H _ I h) λv s1 ⟨y,H1,bg,aG,aN⟩=>?_) ab
 exact yS bg aZ hi ah aG (λs2 cS=>⟨_,H1,cS,aN⟩) hf
end
section
variable{X:aS}{pos:Pos}
end
structure i9 where
 go:Nat->ax->Prop
 kr:Nat->ax->V->ax->Prop
 stop:Nat->ax->Prop
noncomputable def jL(X:aS)(pins:List (Addr×Obj))(H:ax)(b:Addr):Prop :=
 H b=none/\b≠X.env.locals/\b∉X.bF/\(b∈X.ex\/X.e8.heap.objs.size<=b)/\(∀x c,X.env.cells.lookup x=some c->c≠b)/\∀p∈X.fA++pins,p.1≠b
def Inv.qi{X:aS}{pins:List (Addr×Obj)}{σ:St}{H ao:ax}{s:Shared}{b:Addr}(I:Inv X pins σ H s)(ae:s.heap.objs.size<=b)(az:ao b=none):jL X pins ao b:=by
 refine⟨az,Nat.ne_of_gt (Wk I.lt ae),I.O6 ae,.inr (W7 I.eh ae),λx c e z=>?_,λp aE z=>?_⟩
 .obtain⟨v,q⟩:=I.cell x c e;exact absurd (Wk q.lt (by rw[z];exact ae)) (Xz _)
 .exact absurd (Wk (Wb (I.pin p aE).1) (by rw[z];exact ae)) (Xz _)
structure Turn(P:Program)(w:World)(K:W.Frag)(dk:Expr)(cn:i9)(bE:List Addr)(it:Addr)(gz:Nat->Heap->Prop):Prop where
 mem:it∈bE
 obj:∀i h,gz i h->∀b∈bE,∃o,h.get? b=some o/\∀v,o.data≠.cell v
 keep:∀i h h',gz i h->(∀b∈bE,∀o,h.get? b=some o->h'.get? b=some o)->gz i h'
 item:∀(X:aS),X.prog=P->X.w=w->X.K=K->X.calm=true->∀(i:Nat)(pins:List (Addr×Obj))(s:Shared)(σ:St)(H:ax)(E:Value->Shared->Prop),Inv X pins σ H s->(∀b∈bE,jL X pins H b)->gz i s.heap->cn.go i H ->
  wpAny (model P w) X.A (pyNext (.ref it)) (λr s1=>∃u,r=some u /\
   wpAny (model P w) X.A (letOwnedTupleGo dk (.ref it) u) (λ_ s2=>∃x ao,Inv X pins σ ao s2/\RelV x u/\cn.kr i H x ao/\gz (i+1) s2.heap/\∀b∈bE,ao b=none) E s1) E s
 done:∀(X:aS),X.prog=P->X.w=w->X.K=K->X.calm=true->∀(i:Nat)(pins:List (Addr×Obj))(s:Shared)(σ:St)(H:ax)(E:Value->Shared->Prop),Inv X pins σ H s->(∀b∈bE,jL X pins H b)->gz i s.heap->cn.stop i H ->
  wpAny (model P w) X.A (pyNext (.ref it)) (λr s1=>r=none/\Inv X pins σ H s1) E s
 self:∀(A:Around)(i:Nat)(s:Shared)(Q:Value->Shared->Prop)(E:Value->Shared->Prop),gz i s.heap->Q (.ref it) s->wpAny (model P w) A (pyIter (.ref it)) Q E s
noncomputable abbrev TI:=St->ax->(i9->ax->Prop)->Prop
noncomputable def uO(X:aS)(pins:List (Addr×Obj))(σ:St)(dk:Expr)(R:i9->ax->Prop)(xu:Value)(s2:Shared):Prop :=
 ∃(it:Addr)(bE:List Addr)(gz:Nat->Heap->Prop)(cn:i9)(ao:ax),xu=.ref it/\Inv X pins σ ao s2/\Turn X.prog X.w X.K dk cn bE it gz/\gz 0 s2.heap/\(∀b∈bE,jL X pins ao b)/\R cn ao
noncomputable def gR(X:aS)(dk iter:Expr)(pA:TI):Prop :=
 ∀(pins:List (Addr×Obj))(s:Shared)(σ:St)(H:ax)(R:i9->ax->Prop),Inv X pins σ H s->pA σ H R ->
  wpAny (model X.prog X.w) X.A (eval iter X.env) (λv s1=>wpAny (model X.prog X.w) X.A (pyIter v) (uO X pins σ dk R) X.cC s1) X.cC s
def sz {M : Model} {A : Around} {E : Value -> Shared -> Prop} {s : Shared} {dk : Expr} {it : Addr} {u : Value} {o : Obj} {n : String} {af : Array Value} {Q : Unit -> Shared -> Prop} (ay : s.heap.get? it = some o) (aj : o.cls = .type n) (hd : o.data = .fields af)
    (az : ["enumerate", "zip", "dict_itemiterator", "dict_reverseitemiterator", "odict_iterator", "itertools.zip_longest", "itertools.pairwise"].contains n = false) (eL : Q () s) : wpAny M A (letOwnedTupleGo dk (.ref it) u) Q E s := by
  unfold letOwnedTupleGo
  cases dk <;> first
    | exact wpAny_pure eL
    | (cases u <;> first
        | exact wpAny_pure eL
        | (refine VW (wpAny_load ay ?_)
           rw [aj, hd]
           show wpAny M A (if (["enumerate", "zip", "dict_itemiterator", "dict_reverseitemiterator", "odict_iterator", "itertools.zip_longest", "itertools.pairwise"].contains n && af[0]? == some (rawInt _)) = true then _ else _) Q E s
           rw [if_neg (by intro h; rw [az, Zb] at h; cases h)]
           exact wpAny_pure eL))
noncomputable def uG(K:W.Frag)(a:Addr):i9 :=
 ⟨λi H=>∃xs x,ew K H a xs/\xs[i]?=some x,λi H x ao=>ao=H/\∀xs,ew K H a xs->xs[i]?=some x,λi H=>∃xs,ew K H a xs/\xs.length<=i⟩
noncomputable def uH(K:W.Frag)(a:Addr):i9 :=
 ⟨λi H=>∃xs x,fu K H a xs/\xs[i]?=some x,λi H x ao=>ao=H/\∀xs,fu K H a xs->xs[i]?=some x,λi H=>∃xs,fu K H a xs/\xs.length<=i⟩
noncomputable def n4(lo:Int)(n:Nat):i9:=⟨λi _=>i<n,λi H x ao=>ao=H/\x=.int (lo+i),λi _=>n<=i⟩
def Uh{P:Program}{w:World}{K:W.Frag}{dk:Expr}(a it:Addr):Turn P w K dk (uG K a) [it] it (λi h=>h.IsListIter it a i) where
 mem:=by simp
 obj:=λi h st b ae=>by
  have e:b=it:=by simpa using ae
  subst e;obtain⟨o,e,c,d⟩:=st;exact⟨o,e,λv z=>by rw[d]at z;cases z⟩
 keep:=λi h h' st k=>st.at λo e=>k it (by simp) o e
 item:=by
  intro X d4 hw gH aj i pins s σ H E I hf st a8;subst d4 hw gH;obtain⟨xs,x,aK,ah⟩:=a8;obtain⟨its,b4,p,hz⟩:=I.list aK;obtain⟨u,bO,dt⟩:=b4.get ah;obtain⟨f0,f1,f2,e1,f4,e2⟩:=hf it (by simp)
  refine wpAny_pyNext_list_item st p.isList (x:=u) (by simpa using bO) λh' aJ cK=>?_
  have bg:Inv X pins σ H { s with heap:=h' }:=I.turned (t':=s.toks) (λb o ae e=>(cK.2 b ae).trans e) f0 f1 e1 f4 e2
  obtain⟨o,e,c,d⟩:=id aJ;exact⟨u,rfl,sz (s:={ s with heap:=h' }) e c d (by decide) ⟨x,H,bg,dt,⟨rfl,λys aC=>by rw[I.Oi aC aK];exact ah⟩,aJ,λb ae=>(hf b ae).1⟩⟩
 done:=by
  intro X d4 hw gH aj i pins s σ H E I hf st a8;subst d4 hw gH;obtain⟨xs,aK,ah⟩:=a8;obtain⟨its,b4,p,hz⟩:=I.list aK;obtain⟨f0,f1,f2,e1,f4,e2⟩:=hf it (by simp)
  have au:=b4.length;exact wpAny_pyNext_list_end (I.ok.hd aj) st p.isList (by simp;omega) λh' ed=>⟨rfl,I.turned (t':=s.toks) (λb o ae e=>ed b o ae e) f0 f1 e1 f4 e2⟩
 self:=λ_ _ _ _ _ st h=>wpAny_pyIter_listiter st h
def Uj{P:Program}{w:World}{K:W.Frag}{dk:Expr}(a it:Addr):Turn P w K dk (uH K a) [it] it (λi h=>h.IsTupleIter it a i) where
 mem:=by simp
 obj:=λi h st b ae=>by
  have e:b=it:=by simpa using ae
  subst e;obtain⟨o,e,c,d⟩:=st;exact⟨o,e,λv z=>by rw[d]at z;cases z⟩
 keep:=λi h h' st k=>st.at λo e=>k it (by simp) o e
 item:=by
  intro X d4 hw gH aj i pins s σ H E I hf st a8;subst d4 hw gH;obtain⟨xs,x,aK,ah⟩:=a8;obtain⟨its,b4,p,hz⟩:=I.tuple aK;obtain⟨u,bO,dt⟩:=b4.get ah;obtain⟨f0,f1,f2,e1,f4,e2⟩:=hf it (by simp)
  refine wpAny_pyNext_tuple_item st (show s.heap.IsTuple a its.toArray from p) (x:=u) (by simpa using bO) λh' aJ cK=>?_
  have bg:Inv X pins σ H { s with heap:=h' }:=I.turned (t':=s.toks) (λb o ae e=>(cK.2 b ae).trans e) f0 f1 e1 f4 e2
  obtain⟨o,e,c,d⟩:=id aJ;exact⟨u,rfl,sz (s:={ s with heap:=h' }) e c d (by decide) ⟨x,H,bg,dt,⟨rfl,λys aC=>by rw[I.Ua aC aK];exact ah⟩,aJ,λb ae=>(hf b ae).1⟩⟩
 done:=by
  intro X d4 hw gH aj i pins s σ H E I hf st a8;subst d4 hw gH;obtain⟨xs,aK,ah⟩:=a8;obtain⟨its,b4,p,hz⟩:=I.tuple aK;obtain⟨f0,f1,f2,e1,f4,e2⟩:=hf it (by simp)
  have au:=b4.length;exact wpAny_pyNext_tuple_end (I.ok.hd aj) st (show s.heap.IsTuple a its.toArray from p) (by simp;omega) λh' ed=>⟨rfl,I.turned (t':=s.toks) (λb o ae e=>ed b o ae e) f0 f1 e1 f4 e2⟩
 self:=λ_ _ _ _ _ st h=>wpAny_pyIter_tupleiter st h
def Ui{P:Program}{w:World}{K:W.Frag}{dk:Expr}(it:Addr)(lo:Int)(n:Nat):Turn P w K dk (n4 lo n) [it] it (λi h=>IsRangeIter h it (lo+(i:Nat)*1) ((n:Int)-(i:Nat)) 1) where
 mem:=by simp
 obj:=λi h st b ae=>by
  have e:b=it:=by simpa using ae
  subst e;exact⟨_,st,λv z=>by
   have hH:Data.fields _=Data.cell v:=z;cases hH⟩
 keep:=λi h h' st k=>k it (by simp) _ st
 item:=by
  intro X d4 hw gH aj i pins s σ H E I hf st a8;subst d4 hw gH;obtain⟨f0,f1,f2,e1,f4,e2⟩:=hf it (by simp)
  have W:=Walks.range (prog:=X.prog) (w:=X.w) (I.ok.hd aj) it lo 1 n;refine W.item i s _ _ a8 st λv h' tk aT aJ dY=>?_
  obtain⟨t,rfl⟩:=aT;have bg:Inv X pins σ H { s with heap:=h',toks:=tk }:=I.turned (λb o ae e=>dY b o (by simpa using ae) e) f0 f1 e1 f4 e2
  refine⟨_,rfl,sz (s:={ s with heap:=h',toks:=tk }) (n:="range_iterator") aJ rfl rfl (by decide) ⟨.int (lo+i),H,bg,⟨t,?_⟩,⟨rfl,rfl⟩,aJ,λb ae=>(hf b ae).1⟩⟩
  rw[Int.mul_one]
 done:=by
  intro X d4 hw gH aj i pins s σ H E I hf st a8;subst d4 hw gH;obtain⟨f0,f1,f2,e1,f4,e2⟩:=hf it (by simp)
  exact wpAny_pyNext_range_end (I.ok.hd aj) st (by have:n<=i:=a8;omega) λh' ed=>⟨rfl,I.turned (t':=s.toks) (λb o ae e=>ed b o ae e) f0 f1 e1 f4 e2⟩
 self:=λ_ _ _ _ _ st h=>wpAny_pyIter_rangeiter st h
end bJ
namespace bJ
open PySem PySem.Spec PyProof.Rows
section
variable{X:aS}{dk:Expr}
def El{pins:List (Addr×Obj)}{σ:St}{H:ax}{s:Shared}{R:i9->ax->Prop}{E:Value->Shared->Prop}{lo hi:Int}{t u v:Tok}{tk:Nat}(I:Inv X pins σ H s)(J:-(2 ^ 62)<=lo)(aa:lo<2 ^ 62)(aL:-(2 ^ 62)<=hi)(a7:hi<2 ^ 62)(q:R (n4 lo (hi-lo).toNat) H):wpAny (model X.prog X.w) X.A (pyIter (.ref s.heap.objs.size)) (uO X pins σ dk R) E { s with heap:=s.heap.push { cls:=.type "range",data:=.fields #[.int lo t,.int hi u,.int 1 v] },toks:=tk }:=by
 refine wpAny_pyIter_range (IsRange.new ..) (small_one J aa aL a7) ?_;have bg:Inv X pins σ H { s with heap:=s.heap.push { cls:=.type "range",data:=.fields #[.int lo t,.int hi u,.int 1 v] },toks:=tk }:=I.kept λb o e=>VY _ e
 refine⟨(s.heap.push { cls:=.type "range",data:=.fields #[.int lo t,.int hi u,.int 1 v] }).objs.size,[(s.heap.push { cls:=.type "range",data:=.fields #[.int lo t,.int hi u,.int 1 v] }).objs.size],_,_,H,rfl,
  bg.kept (t':=tk) λb o e=>VY _ e,Ui _ lo (hi-lo).toNat,?_,λb ae=>?_,q⟩
 .have ak:lo+((0:Nat):Int)*1=lo:=by simp
  have av:(((hi-lo).toNat:Nat):Int)-((0:Nat):Int)=Builtin.Range.rangeSize lo hi 1:=by rw[rangeSize_one];split<;>omega
  show IsRangeIter _ _ (lo+((0:Nat):Int)*1) ((((hi-lo).toNat:Nat):Int)-((0:Nat):Int)) 1;rw[ak,av];exact Wc _ rfl
 .have e:b=(s.heap.push { cls:=.type "range",data:=.fields #[.int lo t,.int hi u,.int 1 v] }).objs.size:=by simpa using ae
  subst e;exact bg.qi (VZ _) (bg.bM.fresh (VZ _))
noncomputable def Nb(cc:fv):TI:=λσ H R=>cc σ H λaf H1=>∃j:Int,af=[.int j]/\-(2 ^ 62)<=j/\j<2 ^ 62/\R (n4 0 j.toNat) H1
noncomputable def Nc(cc:fv):TI:=λσ H R=>cc σ H λaf H1=>∃i j:Int,af=[.int i,.int j]/\(-(2 ^ 62)<=i/\i<2 ^ 62/\-(2 ^ 62)<=j/\j<2 ^ 62)/\R (n4 i (j-i).toNat) H1
def Ql{a:Expr}{cc:fv}{p pos:Pos}(a8:eb X "range")(hm:X.aF "range"=none)(aA:ft X [a] cc)(ab:starEach [a] X.env=[(false,eval a X.env)]:=by rfl):gR X dk (.Call (.Name "range" p) [a] [] pos) (Nb cc):=by
 intro pins s σ H R I h;refine Call_ (j8 I a8 hm boot_range (WK (bK (aA pos pins s σ H _ I h) λus s1 ⟨af,H1,bg,aG,aN⟩=>?_) ab rfl))
 obtain⟨j,e,aN,ba,q⟩:=aN;subst e;cases aG with
 |cons r gy =>
  cases gy;obtain⟨t,rfl⟩:=r;exact call_range_1 (El bg (by omega) (by omega) aN ba (by simpa using q))
def Qm{a b:Expr}{cc:fv}{p pos:Pos}(a8:eb X "range")(hm:X.aF "range"=none)(aA:ft X [a,b] cc)(ab:starEach [a,b] X.env=[(false,eval a X.env),(false,eval b X.env)]:=by rfl)(xe:starEach [b] X.env=[(false,eval b X.env)]:=by rfl):
  gR X dk (.Call (.Name "range" p) [a,b] [] pos) (Nc cc):=by
 intro pins s σ H R I h;refine Call_ (j8 I a8 hm boot_range (WK (bK (aA pos pins s σ H _ I h) λus s1 ⟨af,H1,bg,aG,aN⟩=>?_) (by rw[ab,xe]) (by rw[xe];rfl)))
 obtain⟨i,j,e,⟨aN,ba,b5,dn⟩,q⟩:=aN;subst e;cases aG with
 |cons r gy =>
  cases gy with
  |cons bP gy =>
   cases gy;obtain⟨t,rfl⟩:=r;obtain⟨t',rfl⟩:=bP;exact call_range_2 (El bg aN ba b5 dn q)
noncomputable def t6(pA:TI)(g:kB)(cH:gT):gT:=λD σ H=>pA σ H λcn H1=>∃W:Nat->Nat->St->ax->Prop,(∃m,W 0 m σ H1)/\∀i m σ H,W i m σ H ->
 (cn.stop i H/\D.cg σ H)\/(cn.go i H/\∃N:St->ax->Prop,(∀dG ao,N dG ao->∃dr,dr<m/\W (i+1) dr dG ao)/\∀x ao,cn.kr i H x ao->g x σ ao λuu aY=>cH { D with cg:=N,ct:=N,lM:=D.cg } uu aY)
noncomputable def tG(bE:List Addr)(h:Heap):List (Addr×Obj):=bE.filterMap λb=>(h.get? b).map λo=>(b,o)
def oU{bE:List Addr}{h:Heap}{b:Addr}{o:Obj}(ae:b∈bE)(e:h.get? b=some o):(b,o)∈tG bE h:=Zc.mpr ⟨b,ae,by rw[e];rfl⟩
def Pg{bE:List Addr}{h:Heap}{p:Addr×Obj}(aE:p∈tG bE h):p.1∈bE/\h.get? p.1=some p.2:=by
 obtain⟨b,ae,e⟩:=Zc.mp aE;cases q:h.get? b with
 |none=>rw[q]at e;cases e
 |some o =>
  rw[q]at e;have bl:(b,o)=p:=WE e;subst bl;exact⟨ae,q⟩
def Inv.pinned{pins:List (Addr×Obj)}{σ:St}{H:ax}{s:Shared}{bE:List Addr}(I:Inv X pins σ H s)(hf:∀b∈bE,jL X pins H b)(ay:∀b∈bE,∃o,s.heap.get? b=some o/\∀v,o.data≠.cell v):Inv X (pins++tG bE s.heap) σ H s :=
 I.yg λp aE=>(Wi.mp aE).elim (λz=>I.pin p (Wf _ z)) λz=>by
  obtain⟨ae,e⟩:=Pg z;obtain⟨f0,f1,f2,_⟩:=hf p.1 ae;obtain⟨o,bl,d⟩:=ay p.1 ae;rw[e]at bl;cases bl;exact⟨e,f0,f1,f2,d⟩
def Inv.px{pins cX:List (Addr×Obj)}{σ:St}{H:ax}{s:Shared}(I:Inv X (pins++cX) σ H s):Inv X pins σ H s:=I.yg λp aE=>I.pin p (Wf _ (List.mem_append_left _ aE))
def QD{iter:Expr}{body:List Stmt}{pA:TI}{g:kB}{cH:gT}{pos:Pos}(aE:PassesOwn (model X.prog X.w) X.A X.env X.cC)(aj:X.calm=true)(hi:gR X dk iter pA)(a8:iJ X dk g)(ae:gS X body cH)(ab:∀x,foldedSetIterable iter X.env x=pure x:=by intro _;rfl):eD X (.For dk iter body [] pos) (t6 pA g cH):=by
 intro pins s σ H D I h;refine wpAny_For (bK (hi pins s σ H _ I h) λv s1 J=>bK J λxu s2 aa=>?_) ab
 obtain⟨it,bE,gz,cn,aY,e,cS,T,eg,f2,W,⟨m0,UH⟩,turn⟩:=aa;subst e;have yQ:∀{ao:ax},(∀b∈bE,ao b=none)->∀b∈bE,jL X pins ao b:=λaz b ae=>⟨az b ae,(f2 b ae).2⟩
 refine codeAny_forLoop_any (λn s'=>∃i dG ao,Inv X pins dG ao s'/\gz i s'.heap/\(∀b∈bE,ao b=none)/\W i n dG ao) ?_ m0 ⟨0,σ,aY,cS,eg,λb ae=>(f2 b ae).1,UH⟩
 rintro n s3 ⟨i,pF,b8,eW,gk,Bu,UI⟩;rcases turn i n pF b8 UI with⟨stop,QR⟩|⟨go,N,aZ,step⟩
 .refine Yn aE (bK (T.done X rfl rfl rfl aj i pins s3 pF b8 X.cC eW (yQ Bu) gk stop) λr s4 ⟨a9,fK⟩=>?_)
  subst a9;exact wpAny_execs_nil ⟨pF,b8,fK,QR⟩
 .refine Yn aE (bK (T.item X rfl rfl rfl aj i pins s3 pF b8 X.cC eW (yQ Bu) gk go) λr s4 ⟨u,a9,a7⟩=>?_)
  subst a9;refine Yn aE (bK a7 λ_ s5 ⟨x,lC,lD,fI,zh,lj,wh⟩=>?_)
  have uD:=lD.pinned (yQ wh) (T.obj _ _ lj);refine Yn aE (bK (a8 _ s5 pF lC x u _ uD fI (step x lC zh)) λ_ EI ⟨uv,mI,uE,mu⟩=>?_)
  refine Yn aE (bK (ae _ EI uv mI _ uE mu) λf rB kf=>?_)
  have again:∀{jI:St}{gN:ax},Inv X (pins++tG bE s5.heap) jI gN rB->N jI gN->∃m,m<n/\∃i dG ao,Inv X pins dG ao rB/\gz i rB.heap/\(∀b∈bE,ao b=none)/\W i m dG ao:=λ{jI gN} gO rj=>by
   obtain⟨dr,hm,UJ⟩:=aZ jI gN rj;refine⟨dr,hm,i+1,jI,gN,gO.px,T.keep _ _ _ lj λb ae o e=>(gO.pin (b,o) (Wf _ (Wf _ (oU ae e)))).1,λb ae=>?_,UJ⟩
   obtain⟨o,e,d⟩:=T.obj _ _ lj b ae;exact(gO.pin (b,o) (Wf _ (Wf _ (oU ae e)))).2.1
  cases f with
  |next=>obtain⟨jI,gN,gO,rj⟩:=kf;exact again gO rj
  |cont=>obtain⟨jI,gN,gO,rj⟩:=kf;exact again gO rj
  |brk=>obtain⟨jI,gN,gO,kf⟩:=kf;exact⟨jI,gN,gO.px,kf⟩
  |ret v=>obtain⟨mE,jI,gN,gO,yn,kf⟩:=kf;exact⟨mE,jI,gN,gO.px,yn,kf⟩
end
end bJ
namespace bJ
open PySem PySem.Spec PyProof.Rows
noncomputable abbrev fc:=V->V->ax->c2->Prop
noncomputable def c1(X:aS)(f:Value->Value->Sem Value)(r:fc):Prop :=
 ∀(pins:List (Addr×Obj))(s:Shared)(σ:St)(H:ax)(x y:V)(v u:Value)(Q:c2),Inv X pins σ H s->RelV x v->RelV y u->r x y H Q ->
  wpAny (model X.prog X.w) X.A (f v u) (es X pins σ Q) X.cC s
noncomputable def uS(X:aS)(f:Value->Sem Value)(r:V->ax->c2->Prop):Prop :=
 ∀(pins:List (Addr×Obj))(s:Shared)(σ:St)(H:ax)(x:V)(v:Value)(Q:c2),Inv X pins σ H s->RelV x v->r x H Q ->
  wpAny (model X.prog X.w) X.A (f v) (es X pins σ Q) X.cC s
noncomputable def hh(X:aS)(f:Value)(r:List V->ax->c2->Prop):Prop :=
 ∀(pins:List (Addr×Obj))(s:Shared)(σ:St)(H:ax)(xs:List V)(us:List Value)(Q:c2),Inv X pins σ H s->Vals xs us->r xs H Q ->
  wpAny (model X.prog X.w) X.A (call f us) (es X pins σ Q) X.cC s
noncomputable def rH(r:fc)(cc cH:TE):TE:=λσ H Q=>cc σ H λx H1=>cH σ H1 λy aY=>r x y aY Q
noncomputable def TC(r:V->ax->c2->Prop)(cc:TE):TE:=λσ H Q=>cc σ H λx H1=>r x H1 Q
noncomputable def tJ(bD:Int->Int->Prop)(g:Int->Int->V):fc:=λx y H Q=>∃i j,x=.int i/\y=.int j/\bD i j/\Q (g i j) H
noncomputable def kg(g:Int->Int->V):fc:=λx y H Q=>∃i j,x=.int i/\y=.int j/\Q (g i j) H
noncomputable def Ej(g:Int->V):V->ax->c2->Prop:=λx H Q=>∃i,x=.int i/\Q (g i) H
section
variable{X:aS}{a b c:Expr}{cc cH kk:TE}{pos:Pos}
def vw(aA:aP X a cc)(ae:aP X b cH){pins:List (Addr×Obj)}{s:Shared}{σ:St}{H:ax}{R:V->V->ax->Prop}(I:Inv X pins σ H s)(h:cc σ H λx H1=>cH σ H1 λy aY=>R x y aY){Q:Value->Shared->Prop}{f:Value->Value->Sem Value}(hf:∀v u s2 x y aY,Inv X pins σ aY s2->RelV x v->RelV y u->R x y aY->wpAny (model X.prog X.w) X.A (f v u) Q X.cC s2):
  wpAny (model X.prog X.w) X.A (eval a X.env) (λv cG=>wpAny (model X.prog X.w) X.A (eval b X.env) (λu hb=>wpAny (model X.prog X.w) X.A (f v u) Q X.cC hb) X.cC cG) X.cC s:=by
 refine bK (aA pins s σ H _ I h) λv s1 ⟨x,H1,bg,aG,aN⟩=>?_
 refine bK (ae pins s1 σ H1 _ bg aN) λu s2 ⟨y,aY,cS,a5,ba⟩=>?_
 exact hf v u s2 x y aY cS aG a5 ba
def PZ{op:Operator}{r:fc}(ay:c1 X (binaryOp op) r)(aA:aP X a cc)(ae:aP X b cH):aP X (.BinOp a op b pos) (rH r cc cH):=by
 intro pins s σ H Q I h;exact wpAny_BinOp (vw aA ae I h λv u s2 x y aY cS aW bB q=>ay pins s2 σ aY x y v u Q cS aW bB q)
def P5{op:UnaryOp}{r:V->ax->c2->Prop}(ay:uS X (unaryOp op) r)(aA:aP X a cc):aP X (.UnaryOp op a pos) (TC r cc):=by
 intro pins s σ H Q I h;exact UnaryOp_ (bK (aA pins s σ H _ I h) λv s1 ⟨x,H1,bg,aG,aN⟩=>ay pins s1 σ H1 x v Q bg aG aN)
def x7{f:Value->Value->Sem Value}{bD:Int->Int->Prop}{g:Int->Int->Int}(rule:∀(i j:Int)(t u:Tok)(s:Shared)(Q:Value->Shared->Prop)(E:Value->Shared->Prop),bD i j->Q (.int (g i j) s.toks) { s with toks:=s.toks+1 }->wpAny (model X.prog X.w) X.A (f (.int i t) (.int j u)) Q E s):
  c1 X f (tJ bD λi j=>.int (g i j)):=by
 intro pins s σ H x y v u Q I aW bB h;obtain⟨i,j,rfl,rfl,aj,q⟩:=h;obtain⟨t,rfl⟩:=aW;obtain⟨t',rfl⟩:=bB;exact rule i j t t' s _ _ aj ⟨.int (g i j),H,I.tok _,⟨_,rfl⟩,q⟩
def tB{f:Value->Value->Sem Value}{g:Int->Int->Int}(rule:∀(i j:Int)(t u:Tok)(s:Shared)(Q:Value->Shared->Prop)(E:Value->Shared->Prop),Q (.int (g i j) s.toks) { s with toks:=s.toks+1 }->wpAny (model X.prog X.w) X.A (f (.int i t) (.int j u)) Q E s):
  c1 X f (kg λi j=>.int (g i j)):=by
 intro pins s σ H x y v u Q I aW bB h;obtain⟨i,j,rfl,rfl,q⟩:=h;obtain⟨t,rfl⟩:=aW;obtain⟨t',rfl⟩:=bB;exact rule i j t t' s _ _ ⟨.int (g i j),H,I.tok _,⟨_,rfl⟩,q⟩
def tA{f:Value->Value->Sem Value}{g:Int->Int->Bool}(rule:∀(i j:Int)(t u:Tok)(s:Shared)(Q:Value->Shared->Prop)(E:Value->Shared->Prop),Q (.bool (g i j)) s->wpAny (model X.prog X.w) X.A (f (.int i t) (.int j u)) Q E s):
  c1 X f (kg λi j=>.aU (g i j)):=by
 intro pins s σ H x y v u Q I aW bB h;obtain⟨i,j,rfl,rfl,q⟩:=h;obtain⟨t,rfl⟩:=aW;obtain⟨t',rfl⟩:=bB;exact rule i j t t' s _ _ ⟨.aU (g i j),H,I,rfl,q⟩
noncomputable def GA(i j:Int):Prop:=0<j/\j<1073741824
noncomputable def uy(i j:Int):Prop:=(-(2 ^ 64)<i/\i<2 ^ 64)\/(-(2 ^ 64)<j/\j<2 ^ 64)
def uy.ok{i j:Int}(h:uy i j):IntMulOk i j:=by
 rcases h with⟨J,aa⟩|⟨J,aa⟩
 .exact .of_left (intBits_le_64 J aa)
 .exact .of_right (intBits_le_64 J aa)
def Pk:c1 X (binaryOp .Add) (kg λi j=>.int (i+j)):=tB λ_ _ _ _ _ _ _ q=>add_int q
def Pw:c1 X (binaryOp .Sub) (kg λi j=>.int (i-j)):=tB λ_ _ _ _ _ _ _ q=>sub_int q
def Pu:c1 X (binaryOp .Mult) (tJ uy λi j=>.int (i*j)):=x7 λ_ _ _ _ _ _ _ aj q=>mul_int q aj.ok
def Pm:c1 X (binaryOp .FloorDiv) (tJ GA λi j=>.int (i / j)):=x7 λi j _ _ _ _ _ aj q=>by
 have J:(0:Int)<j:=aj.1;have aa:j<1073741824:=aj.2;exact floordiv_int (by omega) (by rw[Int.fdiv_eq_ediv_of_nonneg i (by omega)];exact q) (.inl (PyProof.noPylong_small (by omega)))
def Pt:c1 X (binaryOp .Mod) (tJ (λ_ j=>0<j) λi j=>.int (i%j)):=x7 λi j _ _ _ _ _ aj q=>by
 have J:(0:Int)<j:=aj;exact mod_int' (by omega) (by rw[Int.fmod_eq_emod_of_nonneg i (by omega)];exact q)
def DP:c1 X (binaryOp .BitAnd) (kg λi j=>.int (Builtin.bitAnd i j)):=tB λ_ _ _ _ _ _ _ q=>and_int q
def Px:c1 X (binaryOp .BitXor) (kg λi j=>.int (Builtin.bitXor i j)):=tB λ_ _ _ _ _ _ _ q=>xor_int q
def FZ{f:Value->Sem Value}{g:Int->Int}(rule:∀(i:Int)(t:Tok)(s:Shared)(Q:Value->Shared->Prop)(E:Value->Shared->Prop),Q (.int (g i) s.toks) { s with toks:=s.toks+1 }->wpAny (model X.prog X.w) X.A (f (.int i t)) Q E s):
  uS X f (Ej λi=>.int (g i)):=by
 intro pins s σ H x v Q I aW h;obtain⟨i,rfl,q⟩:=h;obtain⟨t,rfl⟩:=aW;exact rule i t s _ _ ⟨.int (g i),H,I.tok _,⟨_,rfl⟩,q⟩
def Up:uS X (unaryOp .USub) (Ej λi=>.int (-i)):=FZ λ_ _ _ _ _ q=>neg_int q
end
section
variable{X:aS}{a b c:Expr}{cc cH kk:TE}{pos:Pos}
def Pq:c1 X (compareOp .Lt) (kg λi j=>.aU (decide (i<j))):=tA λ_ _ _ _ _ _ _ q=>lt_int q
def Pp:c1 X (compareOp .LtE) (kg λi j=>.aU (decide (i<=j))):=tA λ_ _ _ _ _ _ _ q=>le_int q
def Po:c1 X (compareOp .Gt) (kg λi j=>.aU (decide (j<i))):=tA λ_ _ _ _ _ _ _ q=>gt_int q
def Pn:c1 X (compareOp .GtE) (kg λi j=>.aU (decide (j<=i))):=tA λ_ _ _ _ _ _ _ q=>ge_int q
def PN{op:CmpOp}{r:fc}(ay:c1 X (compareOp op) r)(aA:aP X a cc)(ae:aP X b cH)(hm:behindInMarks op b=false):aP X (.Compare a [op] [b] pos) (rH r cc cH):=by
 intro pins s σ H Q I h;exact wpAny_Compare1 (vw aA ae I h λv u s2 x y aY cS aW bB q=>ay pins s2 σ aY x y v u Q cS aW bB q) hm
noncomputable def FG(t:TE):TT:=λσ H Q=>t σ H λx ao=>∃k,x=.aU k/\Q k ao
def QI{op:CmpOp}{r:fc}(ay:c1 X (compareOp op) r)(aA:aP X a cc)(ae:aP X b cH)(hm:behindInMarks op b=false):dx X (.Compare a [op] [b] pos) (FG (rH r cc cH)):=by
 intro pins s σ H Q I h;refine wpAny_isTrue_Compare1 (bK (aA pins s σ H _ I h) λv s1 ⟨x,H1,bg,aG,aN⟩=>bK (ae pins s1 σ H1 _ bg aN) λu s2 ⟨y,aY,cS,a5,ba⟩ =>
  bK (ay pins s2 σ aY x y v u _ cS aG a5 ba) λc s3 ⟨z,b8,eW,dU,k,e,b5⟩=>?_) hm
 subst e;cases dU;exact Xa ⟨b8,eW,b5⟩
noncomputable def yT(r bP:fc)(cc cH kk:TE):TE:=λσ H Q=>cc σ H λx H1=>cH σ H1 λy aY=>r x y aY λz b8=>∃k,z=.aU k /\
 (if k=true then kk σ b8 λej fB=>bP y ej fB Q else Q (.aU false) b8)
def PM{op op':CmpOp}{r bP:fc}(ay:c1 X (compareOp op) r)(du:c1 X (compareOp op') bP)(aA:aP X a cc)(ae:aP X b cH)(aj:aP X c kk)(hm:lastMarks [op,op'] [b,c]=false:=by with_unfolding_all rfl):aP X (.Compare a [op,op'] [b,c] pos) (yT r bP cc cH kk):=by
 intro pins s σ H Q I h;refine Compare_chain (bK (aA pins s σ H _ I h) λv s1 ⟨x,H1,bg,aG,aN⟩=>chain_link (bK (ae pins s1 σ H1 _ bg aN) λu s2 ⟨y,aY,cS,a5,ba⟩ =>
  bK (ay pins s2 σ aY x y v u _ cS aG a5 ba) λd s3 ⟨z,b8,eW,dU,k,e,b5⟩=>?_)) hm
 subst e;cases dU;refine Xa ?_;cases k with
 |false=>exact ite_ff ⟨.aU false,b8,eW,rfl,b5⟩
 |true=>exact ite_tt (chain_last (bK (aj pins s3 σ b8 _ eW b5) λej s4 ⟨hH,fB,fK,fi,dn⟩=>du pins s4 σ fB y hH u ej Q fK a5 fi dn))
def QH{op op':CmpOp}{r bP:fc}(ay:c1 X (compareOp op) r)(du:c1 X (compareOp op') bP)(aA:aP X a cc)(ae:aP X b cH)(aj:aP X c kk)(hm:lastMarks [op,op'] [b,c]=false:=by with_unfolding_all rfl):dx X (.Compare a [op,op'] [b,c] pos) (FG (yT r bP cc cH kk)):=by
 intro pins s σ H Q I h;refine isTrue_chain (bK (aA pins s σ H _ I h) λv s1 ⟨x,H1,bg,aG,aN⟩=>test_link (bK (ae pins s1 σ H1 _ bg aN) λu s2 ⟨y,aY,cS,a5,ba⟩ =>
  bK (ay pins s2 σ aY x y v u _ cS aG a5 ba) λd s3 ⟨z,b8,eW,dU,k,e,b5⟩=>?_)) hm
 subst e;cases dU;refine Xa ?_;cases k with
 |false =>
  obtain⟨dj,bl,dv⟩:=b5;cases bl;exact ite_ff ⟨b8,eW,dv⟩
 |true =>
  refine ite_tt (test_last (bK (aj pins s3 σ b8 _ eW b5) λej s4 ⟨hH,fB,fK,fi,dn⟩=>bK (du pins s4 σ fB y hH u ej _ fK a5 fi dn) λd' s5 ⟨cp,lC,lD,fI,aQ,av,h3⟩=>?_))
  subst av;cases fI;exact Xa ⟨lC,lD,h3⟩
def q6:(sizeLine:Nat)<2 ^ 63:=by rw[sizeLine_eq];decide
def Pl:c1 X (binaryOp .Add) (λx y H Q=>∃i j,x=.str i/\y=.str j/\i.length+j.length<=sizeLine/\Q (.str (i++j)) H):=by
 intro pins s σ H x y v u Q I aW bB h;obtain⟨i,j,rfl,rfl,hz,q⟩:=h;obtain⟨t,rfl⟩:=aW;obtain⟨t',rfl⟩:=bB;exact add_str (λt' tk=>⟨.str (i++j),H,I.tok _,⟨_,rfl⟩,q⟩) hz
def vals1{x:V}{us:List Value}(r:Vals [x] us):∃u,us=[u]/\RelV x u:=by
 cases r with
 |cons aG a5=>cases a5;exact⟨_,rfl,aG⟩
def vals2{x y:V}{us:List Value}(r:Vals [x,y] us):∃u ej,us=[u,ej]/\RelV x u/\RelV y ej:=by
 cases r with
 |cons aG a5 =>
  cases a5 with
  |cons dU fi=>cases fi;exact⟨_,_,rfl,aG,dU⟩
end
end bJ
namespace bJ
open PySem PySem.Spec PyProof.Rows
structure uL(h:Heap)(x bb bD:Addr)(eT:Str->Option Value):Prop where
 obj:h.get? x=some (PySem.W.instObj bD bb)
 ns:h.Ns1 bb eT
 ne:bb≠x
def Ol {h : Heap} {bb : Addr} {eT : Str -> Option Value} (n : h.Ns1 bb eT) : ∃ bh, h.get? bb = some bh /\ ∀ name, PySem.W.lookIn name bh = some (eT name) := by
  obtain ⟨o, ag, a4, ay, hd, aw, _, hm⟩ := n
  refine ⟨o, ay, fun name => ?_⟩
  have e := hm name
  unfold nsFind findBy at e
  rw [<- Array.find?_toList] at e
  unfold PySem.W.lookIn
  rw [hd]
  dsimp only
  split
  · rename_i y q
    rw [q] at e
    exact Xl some e
  · rename_i q
    rw [q] at e
    have a : ag.toList.any (·.refKey) = false := by
      rw [Zu]
      intro y aC
      obtain ⟨z, t, w2⟩ := aw y (Array.mem_toList_iff.mp aC)
      simp [DictEntry.refKey, w2]
    have lK : ¬ ag.toList.any (·.refKey) = true := by rw [a]; exact WA
    rw [if_neg lK]
    exact Xl some e
def uL.look{h:Heap}{x bb bD:Addr}{eT:Str->Option Value}(I:uL h x bb bD eT):∃bh,PySem.W.InstAt h x (PySem.W.instObj bD bb) bD (some bh)/\∀name,PySem.W.lookIn name bh=some (eT name) :=
 let ⟨bh,ay,au⟩:=Ol I.ns
 ⟨bh,⟨I.obj,rfl,rfl,ay⟩,au⟩
section
variable{prog:Program}{w:World}{A:Around}{E:Value->Shared->Prop}{s:Shared}{K:W.Frag}{x bb bD f:Addr}{eT:Str->Option Value}{name:Str}{v:Value}
end
def jb.some_of{v:V}{o:Option Value}(r:jb (some v) o):∃u,o=some u/\RelV v u:=by
 cases o with
 |none=>exact(show False from r).elim
 |some u=>exact⟨u,rfl,r⟩
section
variable{P:Program}{w:World}{H ao:ax}{h h':Heap}{a bD bb:Addr}{bF Le:List (Str×V)}
def s7(bM:d7 P w H h)(e:H a=some (.ins bD bb bF)):∃eT,uL h a bb bD eT/\(∀f,jb (bF.lookup f) (eT f))/\PySem.Within eT (bF.map (·.1))/\bF.length<=1000/\H bb=some (.own a):=by
 obtain⟨d,z,ne,bX,eT,n,r,q⟩:=(show dA P w H h a (.ins bD bb bF) from bM a _ e);exact⟨eT,⟨bX,n,ne⟩,r,q,z,d⟩
end
structure uz(K:W.Frag)(bD:Addr):Prop where
 pg:PySem.W.plainGet K bD Str.empty=true
 hd:PySem.W.hasDictIn K bD=true
 po:PySem.W.plainOver K bD=true
 eA:PySem.W.findIn K (.ref bD) "__setattr__"=some (some (.builtin "object.__setattr__"))
def uz.get{K:W.Frag}{bD:Addr}(c:uz K bD)(f:Str):PySem.W.plainGet K bD f=true:=c.pg
structure U4(K:W.Frag)(bD:Addr)(f:Str)(v:V)(u:Value):Prop where
 at_:PySem.W.findIn K (.ref bD) f=some (some u)
 rel:RelV v u
 get:PySem.W.specialIn K u "__get__"=some none
 fP:PySem.W.copiedNames.contains f=false
structure Meth(K:W.Frag)(bD:Addr)(m:Str)(f:Addr):Prop where
 at_:PySem.W.findIn K (.ref bD) m=some (some (.ref f))
 fn:PySem.W.isFn K (.ref f)=true
 iZ:W.keepIn K (.ref f)=true
section
variable{X:aS}{pins:List (Addr×Obj)}{σ:St}{H:ax}{s:Shared}{a bD bb:Addr}{bF:List (Str×V)}{f:Str}{v:V}{A:Around}{E:Value->Shared->Prop}
end
section
variable{X:aS}{o e value:Expr}{f:Str}{pos pos' T9:Pos}{cc km:TE}
end
section
variable{X:aS}{pins:List (Addr×Obj)}{σ:St}{H:ax}{s:Shared}{A:Around}{E:Value->Shared->Prop}{Q:Value->Shared->Prop}{c:Value}{b:Bool}
inductive iK(K:W.Frag)(H:ax):V->Value->Prop where
 |cU:iK K H .cU (.type "NoneType")
 |aU (x:Bool):iK K H (.aU x) (.type "bool")
 |int (i:Int):iK K H (.int i) (.type "int")
 |str (x:Str):iK K H (.str x) (.type "str")
 |jk (x:UInt64):iK K H (.jk x) (.type "float")
 |lst {a:Addr} {xs:List V} (e:H a=some (.lst xs)):iK K H (.ref a) (.type "list")
 |dW {a:Addr} {o:Obj} {xs:List V} (e:H a=some (.dW o (.lst xs))):iK K H (.ref a) (.type "list")
 |tup {a:Addr} {xs:List V} (e:H a=some (.tup xs)):iK K H (.ref a) (.type "tuple")
 |dI {a:Addr} {ar:List (Key×V)} (e:H a=some (.dI ar)):iK K H (.ref a) (.type "dict")
 |d8 {a:Addr} {ar:List (List Key×V)} (e:H a=some (.d8 ar)):iK K H (.ref a) (.type "dict")
 |ins {a bD bb:Addr} {bF:List (Str×V)} (e:H a=some (.ins bD bb bF)) (cl:uz K bD) (aA:PySem.W.findIn K (.ref bD) "__class__"=some (some (.builtin "object.__class__")))
   (az:PySem.W.specialIn K (.builtin "object.__class__") "__get__"=some (some (.builtin "getset_descriptor.__get__"))) (Cq:PySem.W.takesIn K (.builtin "object.__class__")=some true)
   (hm:PySem.W.mroIn K bD (.type "object")=some true):iK K H (.ref a) (.ref bD)
def ta{x:V}{u t:Value}(I:Inv X pins σ H s)(aW:RelV x u)(ty:iK X.K H x t)(e:PySem.W.kitOne X.K t c=some b)(h:∀tk,Q (.bool b) { s with toks:=tk }):
  wpAny (model X.prog X.w) A (call (.builtin "isinstance") [u,c]) Q E s:=by
 cases ty with
 |cU=>cases (show u=Value.none from aW);exact WG PySem.W.kitx_none I.fG True.intro e (λz=>nomatch z) h
 |aU y=>cases (show u=Value.bool y from aW);exact WG PySem.W.kitx_bool I.fG True.intro e (λz=>nomatch z) h
 |int i=>obtain⟨t,q⟩:=(show ∃t,u=Value.int i t from aW);cases q;exact WG PySem.W.kitx_int I.fG True.intro e (λz=>nomatch z) h
 |str y=>obtain⟨t,q⟩:=(show ∃t,u=Value.str y t from aW);cases q;exact WG PySem.W.kitx_str I.fG True.intro e (λz=>nomatch z) h
 |jk y=>obtain⟨t,q⟩:=(show ∃t,u=Value.float y t from aW);cases q;exact WG PySem.W.kitx_float I.fG True.intro e (λz=>nomatch z) h
 |@lst a xs d3 =>
  cases (show u=Value.ref a from aW);obtain⟨_,_,n,_,J⟩:=(show dA X.prog X.w H s.heap a (.lst xs) from I.bM a _ d3);exact WG Zv I.fG ⟨_,J,rfl⟩ e (λz=>nomatch z) h
 |@dW a bX xs d3 =>
  cases (show u=Value.ref a from aW);obtain⟨_,_,_,n,_,J⟩:=(show dA X.prog X.w H s.heap a (.dW bX (.lst xs)) from I.bM a _ d3);exact WG Zv I.fG ⟨_,J,rfl⟩ e (λz=>nomatch z) h
 |@tup a xs d3 =>
  cases (show u=Value.ref a from aW);obtain⟨_,_,_,p⟩:=(show dA X.prog X.w H s.heap a (.tup xs) from I.bM a _ d3);obtain⟨o,J,aa,_⟩:=p;exact WG PySem.W.kitx_tuple I.fG ⟨o,J,aa⟩ e (λz=>nomatch z) h
 |@dI a ar d3 =>
  cases (show u=Value.ref a from aW);obtain⟨_,_,af,_,p⟩:=(show dA X.prog X.w H s.heap a (.dI ar) from I.bM a _ d3);obtain⟨o,ag,a4,J,aa,_⟩:=p;exact WG Yr I.fG ⟨o,J,aa.1⟩ e (λz=>nomatch z) h
 |@d8 a ar d3 =>
  cases (show u=Value.ref a from aW);obtain⟨_,_,xs,_,o,ag,a4,J,aa,_⟩:=(show dA X.prog X.w H s.heap a (.d8 ar) from I.bM a _ d3);exact WG Yr I.fG ⟨o,J,aa.1⟩ e (λz=>nomatch z) h
 |@ins a bD bb bF d3 cl aA az Cq hm =>
  cases (show u=Value.ref a from aW);obtain⟨eT,O,_⟩:=s7 I.bM d3;obtain⟨bh,cn,_⟩:=O.look;exact WG (PySem.W.kitx_own (cl.get _) cl.hd aA az Cq hm) I.fG cn e (λz=>nomatch z) h
end
end bJ
namespace bJ
open PySem PySem.Spec PyProof.Rows
structure fM(k:Nat)(A:Around):Prop where
 hd:A.handled=none
 lT:A.depth+3*k+5<recursionLimit
 un:A.units+16*k+200<cLine
def fM.mono{j k:Nat}{A:Around}(r:fM k A)(h:j<=k):fM j A:=⟨r.hd,by have:=r.lT;omega,by have:=r.un;omega⟩
theorem fM.deeper{k:Nat}{A:Around}(r:fM (k+1) A)(env:Env):fM k (A.deeper env) :=
 ⟨r.hd,by have:=r.lT;show A.depth+1+3*k+5<_;omega,by have:=r.un;show A.units+3+16*k+200<_;omega⟩
theorem fM.depth{k:Nat}{A:Around}(r:fM k A):A.depth<recursionLimit:=by have:=r.lT;omega
theorem fM.units{k:Nat}{A:Around}(r:fM k A):A.units+64<cLine:=by have:=r.un;omega
noncomputable def yV:fv:=λ_ H Q=>Q [] H
noncomputable def t5(cc:TE)(d0:fv):fv:=λσ H Q=>cc σ H λx H1=>d0 σ H1 λxs aY=>Q (x::xs) aY
section
variable{X:aS}{e:Expr}{ag:List Expr}{er:TE}{t:fv}{pos:Pos}
def yc:ft X [] yV:=λ_ _ _ _ H Q I h=>Ys ⟨[],H,I,.nil,h⟩
def o4(aA:aP X e er)(a9:ft X ag t)(ab:starEach (e::ag) X.env=(false,eval e X.env)::starEach ag X.env:=by rfl):ft X (e::ag) (t5 er t):=by
 intro pos pins s σ H Q I h;rw[ab];show wpAny _ _ (spliced ((false,eval e X.env)::backTo pos (starEach ag X.env))) _ _ s;refine Yo (bK (aA pins s σ H _ I h) λu s1 ⟨x,H1,bg,aG,aN⟩=>?_)
 exact bK (a9 pos pins s1 σ H1 _ bg aN) λus s2 ⟨xs,aY,cS,a5,ba⟩=>⟨x::xs,aY,cS,.cons aG a5,ba⟩
noncomputable def TB(t:fv):TE:=λσ H Q=>t σ H λxs H1=>xs.length<=sizeLine/\∀p,H1 p=none->Q (.ref p) (upd H1 p (.tup xs))
noncomputable def Tq(t:fv):TE:=λσ H Q=>t σ H λxs H1=>xs.length<=sizeLine/\∀p,H1 p=none->Q (.ref p) (upd H1 p (.lst xs))
def P4{aR}(h:ft X ag t):aP X (.Tuple ag aR pos) (TB t):=by
 intro pins s σ H Q I aK;refine wpAny_Tuple_spliced (bK (h pos pins s σ H _ I aK) λus s1 ⟨xs,H1,bg,r,z,q⟩=>⟨by rw[<- r.length];exact z,?_⟩)
 have hf:H1 s1.heap.objs.size=none:=bg.bM.fresh (VZ _);refine⟨.ref s1.heap.objs.size,upd H1 s1.heap.objs.size (.tup xs),bg.laid (t':=s1.toks) (λb u e=>VY _ e) (VZ _) ?_,rfl,q _ hf⟩
 exact⟨z,us,r,⟨_,Wc _ rfl,rfl,_,rfl⟩⟩
def PW(h:ft X ag t):aP X (.List ag pos) (Tq t):=by
 intro pins s σ H Q I aK;refine wpAny_List_spliced (bK (h pos pins s σ H _ I aK) λus s1 ⟨xs,H1,bg,r,z,q⟩=>⟨by rw[<- r.length];exact z,?_⟩)
 have hf:H1 s1.heap.objs.size=none:=bg.bM.fresh (VZ _);refine⟨.ref s1.heap.objs.size,upd H1 s1.heap.objs.size (.lst xs),bg.laid (t':=s1.toks) (λb u e=>VY _ e) (VZ _) ?_,rfl,q _ hf⟩
 exact⟨z,us,0,r,Wc _ rfl⟩
end
noncomputable abbrev lG:=List V->ax->c2->iL->Prop
noncomputable abbrev i6:=List Env->ax->Shared->iL->Value->Shared->Prop
structure rQ(P:Program)(w:World)(K:W.Frag)(aF:Str->Option Value)(base:Heap)(A:Around)(outer:List Env)(s:Shared)(H:ax):Prop where
 frames:A.frames=some outer
 mod:Mod K aF base
 bs:∀b o,base.get? b=some o->s.heap.get? b=some o/\H b=none
 pZ:base.objs.size<=s.heap.objs.size
 kO:s.heap.FunFrames base outer
 su:∀b∈hO outer,H b=none
 bM:d7 P w H s.heap
 bare:AllBare s.gens
noncomputable def ux(outer:List Env)(P:Program)(w:World)(H:ax)(s:Shared)(Q:c2)(u:Value)(s':Shared):Prop :=
 ∃v ao,s'.os=s.os/\AllBare s'.gens/\e0 (hO outer) [] H ao s.heap s'.heap/\d7 P w ao s'.heap/\RelV v u/\Q v ao
noncomputable def GC(CX:i6)(outer:List Env)(P:Program)(w:World)(H:ax)(s:Shared)(Q:c2)(E:iL)(r:Result)(s':Shared):Prop :=
 match r with
 |.ok (.ret u)=>ux outer P w H s Q u s'
 |.ok _=>False
 |.error e=>CX outer H s E e s'
structure jK(P:Program)(w:World)(K:W.Frag)(aF:Str->Option Value)(base:Heap)(CX:i6)(k:Nat)(f:Addr)(fd:FuncData)(bf:List Str)(sp:lG):Prop where
 len:∀af H Q E,sp af H Q E->af.length=bf.length
 run:∀(A:Around)(outer:List Env)(s:Shared)(H:ax)(args:Args)(us:List Value)(af:List V)(Q:c2)(E:iL),fM k A->rQ P w K aF base A outer s H->BindsTo s fd args (bf.zip us)->Vals af us->sp af H Q E ->
  codeAny (model P w) A (.call (.ref f) args) (GC CX outer P w H s Q E) s
section
variable{X:aS}{pins:List (Addr×Obj)}{σ:St}{H:ax}{s s':Shared}
def Inv.JM(I:Inv X pins σ H s):rQ X.prog X.w X.K X.aF X.base X.A X.stack s H :=
 ⟨I.ok.frames,I.ok.mod,I.bs,W7 I.ok.pZ I.eh,I.stack,I.Fv,I.bM,I.bare⟩
def Inv.after{Q:c2}{u:Value}(I:Inv X pins σ H s)(h:ux X.stack X.prog X.w H s Q u s'):es X pins σ Q u s':=by
 obtain⟨v,ao,os,bare,un,bM,r,q⟩:=h;obtain⟨cM,g,d,t,rn⟩:=s';obtain rfl:rn=s.os:=os;exact⟨v,ao,I.call (h':=cM) (g':=g) (d':=d) (t':=t) (ch:=[]) un bM bare (λb z=>absurd z (by simp)),r,q⟩
end
noncomputable def Te(sp:lG)(dvs:List V)(E:iL)(t:fv):TE:=λσ H Q=>t σ H λaf H1=>sp (af++dvs) H1 Q E
noncomputable def Binds(K:W.Frag)(fd:FuncData)(bf:List Str)(ds:List Value):Prop :=
 ∀(s:Shared)(us:List Value),K.In s.heap->(us++ds).length=bf.length->BindsTo s fd ⟨us,[]⟩ (bf.zip (us++ds))
def Binds.all{K:W.Frag}{fd:FuncData}{bf:List Str}(h:∀us:List Value,us.length=bf.length->bindArgs fd ⟨us,[]⟩=pure (bf.zip us)):Binds K fd bf []:=λs us _ au=>by
 rw[W5]at au ⊢;exact .of_eq (h us au)
noncomputable def Passes(CX:i6)(X:aS)(E:iL):Prop:=∀(pins:List (Addr×Obj))(σ:St)(H:ax)(s:Shared)(e:Value)(s':Shared),Inv X pins σ H s->CX X.stack H s E e s'->X.cC e s'
section
variable{X:aS}{CX:i6}{k:Nat}{f bD:Addr}{fd:FuncData}{bf:List Str}{sp:lG}{dvs:List V}{ds:List Value}{E:iL}{x m:Str}{p pos apos:Pos}{e o:Expr}{ag:List Expr}{cc:TE}{t:fv}
def Rk{pins:List (Addr×Obj)}{σ:St}{H:ax}{s:Shared}{Q:c2}{us:List Value}{af:List V}(F:jK X.prog X.w X.K X.aF X.base CX k f fd bf sp)(a9:fM k X.A)(ae:Binds X.K fd bf ds)(hd:Vals dvs ds)(ah:Passes CX X E)(I:Inv X pins σ H s)(r:Vals af us)(h:sp (af++dvs) H Q E):wpAny (model X.prog X.w) X.A (call (.ref f) us) (es X pins σ Q) X.cC s:=by
 have a5:Vals (af++dvs) (us++ds):=r.append hd;have au:(us++ds).length=bf.length:=by rw[<- a5.length];exact F.len _ _ _ _ h
 refine wpAny_call (Y8 (F.run X.A X.stack s H ⟨us,[]⟩ (us++ds) (af++dvs) Q E a9 I.JM (ae s us I.fG au) a5 h) λr s' aK=>?_)
 cases r with
 |error e=>exact ah pins σ H s e s' I aK
 |ok hs =>
  cases hs with
  |ret u=>exact I.after aK
  |next=>exact False.elim aK
  |brk=>exact False.elim aK
  |cont=>exact False.elim aK
def PK(F:jK X.prog X.w X.K X.aF X.base CX k f fd bf sp)(a9:fM k X.A)(a8:eb X x)(hm:X.aF x=some (.ref f))(aw:W.keepIn X.K (.ref f)=true)(ae:Binds X.K fd bf ds)(hd:Vals dvs ds)(ah:Passes CX X E)(aA:ft X (e::ag) t)(hu:(x==("__debug__":Str))=false:=by decide)(he:starEach (e::ag) X.env=(false,eval e X.env)::starEach ag X.env:=by rfl)(ea:(backTo pos (starEach ag X.env)).any (·.1)=false:=by rfl):
  aP X (.Call (.Name x p) (e::ag) [] pos) (Te sp dvs E t):=by
 intro pins s σ H Q I h;refine Xs (CR I a8 hm ?_ hu);refine PySem.W.callWith_K (h₀:=X.base) I.ok.mod.xw aw (bK (aA pos pins s σ H _ I h) λus s1 ⟨af,H1,bg,r,q⟩=>⟨bg.fG,?_⟩) he ea
 exact Rk F a9 ae hd ah bg r q
structure gm(K:W.Frag)(bD f:Addr):Prop where
 makes:PySem.W.makesIn K bD=true
 init:PySem.W.findIn K (.ref bD) "__init__"=some (some (.ref f))
 fn:PySem.W.isFn K (.ref f)=true
 iZ:W.keepIn K (.ref bD)=true
end
section
variable{X:aS}{CX:i6}{k:Nat}{f bD:Addr}{fd:FuncData}{bf aq:List Str}{sp:lG}{E:iL}{x m:Str}{p pos apos VG:Pos}{e o:Expr}{ag:List Expr}{VH:List Keyword}{er cc:TE}{t tk:fv}{nm:Option Str}
structure U5(K:W.Frag)(fd:FuncData)(bf aq:List Str)(g:List Value->List Value->List Value)(BA:List V->List V->List V):Prop where
 to:∀(s:Shared)(us ws:List Value),K.In s.heap->(g us ws).length=bf.length->BindsTo s fd ⟨us,aq.zip ws⟩ (bf.zip (g us ws))
 rel:∀{af:List V}{us:List Value}{zs:List V}{ws:List Value},Vals af us->Vals zs ws->Vals (BA af zs) (g us ws)
variable{g:List Value->List Value->List Value}{BA:List V->List V->List V}
end
structure uB(N P:List Str)(sc:Scope):Prop where
 kind:sc.kind=.function
 co:sc.isCoroutine=false
 gen:sc.isGenerator=false
 ep:N.Nodup
 pre:N.take P.length=P
 par:∀x∈P,sc.names.lookup x=some .local\/sc.names.lookup x=some .cell
 O5:∀y∈sc.names,y.2≠.free
theorem z5{kindOf:Str->Option NameKind}{x:Str}:∀{binds:List (Str×Value)}{m:Str->Option Value},(∀v,(x,v)∉binds)->bindL kindOf binds m x=m x
 |[],_,_=>rfl
 |(n,v)::r,m,h=>by
  unfold bindL;rw[z5 λw hw=>h w (List.mem_cons_of_mem _ hw)]
  split
  .have:x≠n:=by rintro rfl;exact h v List.mem_cons_self
   simp[this]
  .rfl
theorem z3{kindOf:Str->Option NameKind}{x:Str}:∀{binds:List (Str×Value)}{m:Str->Option Value},(∀v,(x,v)∉binds)->bindC kindOf binds m x=m x
 |[],_,_=>rfl
 |(n,v)::r,m,h=>by
  unfold bindC;rw[z3 λw hw=>h w (List.mem_cons_of_mem _ hw)]
  split
  .rfl
  .have:x≠n:=by rintro rfl;exact h v List.mem_cons_self
   simp[this]
theorem z4{kindOf:Str->Option NameKind}{x:Str}{v:Value}:∀{P:List Str}{af:List Value}{i:Nat}{m:Str->Option Value},P.Nodup->P[i]?=some x->af[i]?=some v->kindOf x=some .local ->
  bindL kindOf (P.zip af) m x=some v
 |[],_,_,_,_,h,_,_=>by simp at h
 |_::_,[],_,_,_,_,h,_=>by simp at h
 |p::P,w::af,0,m,ep,J,aa,aw=>by
  simp at J aa;subst J;subst aa;show bindL kindOf ((p,w)::P.zip af) m p=_;unfold bindL;rw[z5 λv aT=>(WB.mp ep).1 (List.of_mem_zip aT).1,if_pos aw]
  simp
 |p::P,w::af,i+1,m,ep,J,aa,aw=>by
  show bindL kindOf ((p,w)::P.zip af) m x=_;unfold bindL;exact z4 (i:=i) (WB.mp ep).2 (by simpa using J) (by simpa using aa) aw
theorem z2{kindOf:Str->Option NameKind}{x:Str}{v:Value}:∀{P:List Str}{af:List Value}{i:Nat}{m:Str->Option Value},P.Nodup->P[i]?=some x->af[i]?=some v->kindOf x≠some .local ->
  bindC kindOf (P.zip af) m x=some v
 |[],_,_,_,_,h,_,_=>by simp at h
 |_::_,[],_,_,_,_,h,_=>by simp at h
 |p::P,w::af,0,m,ep,J,aa,aw=>by
  simp at J aa;subst J;subst aa;show bindC kindOf ((p,w)::P.zip af) m p=_;unfold bindC;rw[z3 λv aT=>(WB.mp ep).1 (List.of_mem_zip aT).1,if_neg aw]
  simp
 |p::P,w::af,i+1,m,ep,J,aa,aw=>by
  show bindC kindOf ((p,w)::P.zip af) m x=_;unfold bindC;exact z2 (i:=i) (WB.mp ep).2 (by simpa using J) (by simpa using aa) aw
noncomputable def start(N:List Str)(af:List V):St:=af.map some++List.replicate (N.length-af.length) none
noncomputable def m2(CX:i6)(P:Program)(w:World)(K:W.Frag)(aF:Str->Option Value)(base:Heap)(N:List Str)(qual:Str)(scope:Scope)(f:Addr)(cd:Value)(A:Around)(outer:List Env)(s:Shared)(H:ax)(E:iL):aS where
 prog:=P
 w:=w
 K:=K
 aF:=aF
 base:=base
 A:=A.deeper (envOfC qual scope s.heap.objs.size f cd)
 N:=N
 e8:=s
 pL:=H
 env:=envOfC qual scope s.heap.objs.size f cd
 outer:=outer
 stack:=envOfC qual scope s.heap.objs.size f cd::outer
 ex:=[]
 calm:=true
 fn:=λ_=>true
 fA:=[]
 cC:=λe s'=>wpAny (model P w) (A.deeper (envOfC qual scope s.heap.objs.size f cd)) (leaving (envOfC qual scope s.heap.objs.size f cd) e) (λ_ rA=>CX outer H s E e rA) (λbl rA=>CX outer H s E bl rA) s'
def Ae{sc:Scope}{n:Nat}{x:Str}(h:sc.names.lookup x=some .cell):∃c,(cellsFrom n sc.names []).lookup x=some c:=by
 have q:=ZS sc.names n [] (.inl h);exact Option.isSome_iff_exists.mp q
def Nq{CX:i6}{P:Program}{w:World}{K:W.Frag}{aF:Str->Option Value}{base:Heap}{N bf:List Str}{qual:Str}{scope:Scope}{f:Addr}{cd:Value}{A:Around}{outer:List Env}{s s1:Shared}{H:ax}{E:iL}{us:List Value}{af:List V}(S:uB N bf scope)(hd:A.handled=none)(dE:rQ P w K aF base A outer s H)(au:af.length=bf.length)(r:Vals af us)(x:InCallC s s.heap.objs.size (bindL (envOfC qual scope s.heap.objs.size f cd).kindOf (bf.zip us) λ_=>none) (cellsFrom (s.heap.objs.size+1) scope.names []) (bindC (envOfC qual scope s.heap.objs.size f cd).kindOf (bf.zip us) λ_=>none) s1):
  Inv (m2 CX P w K aF base N qual scope f cd A outer s H E) [] (start N af) H s1:=by
 have ea:bf.length<=N.length:=by have:=Xl List.length S.pre;rw[Wz]at this;omega
 obtain⟨J,tk,rfl,aw⟩:=x.done;have rl:∀b:Addr,b∉(m2 CX P w K aF base N qual scope f cd A outer s H E).ex:=λb z=>absurd (show b∈([]:List Addr) from z) (by simp)
 refine⟨⟨dE.mod,S.kind,rfl,rfl,VZ _,λy z c J aa=>?_,λy aC=>?_,λy c _ h=>?_,λ_=>hd,Around.frames_deeper dE.frames,.inr ⟨rfl,rfl⟩,λb z=>absurd z (rl b),dE.bs,dE.pZ,λb _ _=>rl b,λb z=>absurd z (rl b),dE.kO,dE.su⟩,
  rfl,dE.bare,e0.kept aw,⟨_,x.toInCall.ns,λi y v J aa aL=>?_⟩,λy c h=>⟨_,x.cell y c h⟩,dE.bM.fresh (VZ _),λy c h=>?_,λp aE=>absurd (show p∈([]:List (Addr×Obj)) from aE) (by simp),dE.bM.kept aw,?_⟩
 .exact name_of_addr x.apart (WI J) (WI aa)
 .have aC:scope.names.lookup y=some .cell\/scope.names.lookup y=some .free:=aC;rcases aC with aC|aC
  .exact Ae aC
  .exact absurd rfl (S.O5 _ (WI aC))
 .exact Yb (x.above y c (WI h))
 .have hi:i<af.length:=by
   unfold start at aa
   by_cases hi:i<af.length
   .exact hi
   .rw[Wx (by simpa using hi)]at aa
    rw[Yp]at aa
    split at aa<;>cases aa
  have aA:af[i]?=some v:=by
   unfold start at aa;rw[We (by simpa using hi),Wg]at aa
   cases e:af[i]? with
   |none=>rw[e]at aa;cases aa
   |some a=>rw[e]at aa;cases aa;rfl
  obtain⟨u,bO,b4⟩:=r.get aA;have aE:bf[i]?=some y:=by
   rw[<- S.pre,List.getElem?_take_of_lt (by omega)];exact J
  have DA:bf.Nodup:=by rw[<- S.pre];exact S.ep.sublist (List.take_sublist _ _)
  refine⟨u,b4,?_⟩;rcases S.par y (Xh aE) with k|k
  .exact .inl ⟨k,z4 DA aE bO k⟩
  .obtain⟨c,e⟩:=Ae (n:=s.heap.objs.size+1) k;refine .inr ⟨.inl k,c,e,?_⟩;have q:=x.cell y c e;rw[z2 DA aE bO (by show scope.names.lookup y≠_;rw[k];decide)]at q
   exact q
 .exact dE.bM.fresh (Yb (x.above y c (WI h)))
 .unfold start;show _=N.length;rw[V0,List.length_map,X1];omega
def K9{CX:i6}{P:Program}{w:World}{K:W.Frag}{aF:Str->Option Value}{base:Heap}{k:Nat}{f:Addr}{name qual:Str}{params:Arguments}{body:List Stmt}{scope:Scope}{r8 de doc pm dQ ct fH:Value}{an bh:Option Addr}{fq:Array (Option Value)}{N bf:List Str}{sp:lG}(lk:K.lookup f=some ⟨fH,bh,.func (W.fnOf name qual params body scope r8 de doc pm an dQ ct),fq⟩)(jo:W.codeIn K dQ qual=true)(S:uB N bf scope)(len:∀af H Q E,sp af H Q E->af.length=bf.length)(LQ:∀(A:Around)(outer:List Env)(s:Shared)(H:ax)(af:List V)(Q:c2)(E:iL),fM k (A.deeper (envOfC qual scope s.heap.objs.size f dQ))->sp af H Q E ->
   ∃t,gS (m2 CX P w K aF base N qual scope f dQ A outer s H E) body t/\t { cg:=λ_ ao=>Q .cU ao,dR:=Q } (start N af) H):
  jK P w K aF base CX (k+1) f (W.fnOf name qual params body scope r8 de doc pm an dQ ct) bf sp:=by
 refine⟨len,λA outer s H args us af Q E a9 dE ae r oK=>?_⟩
 have au:=len _ _ _ _ oK;have iI:K.In s.heap:=dE.mod.xw.keeps λb o e=>(dE.bs b o e).1
 have lim:s.heap.NoLimit:=dE.mod.nolimit.keeps λb o e=>(dE.bs b o e).1
 have Mk:∀y∈bf.zip us,scope.names.lookup y.1=some .local\/(scope.names.lookup y.1=some .cell/\((cellsFrom (s.heap.objs.size+1) scope.names []).lookup y.1).isSome=true):=λ⟨n,v⟩ aC=>by
  rcases S.par n (List.of_mem_zip aC).1 with q|q
  .exact .inl q
  .exact .inr ⟨q,ZS _ _ _ (.inl q)⟩
 refine codeAny_call_function a9.depth (iI _ _ lk) rfl S.co S.gen rfl (PySem.W.codeRec_of iI jo) (ae _ _ _ _ ?_);refine wpAny_newFunctionEnv_cells S.kind Mk λenv he s1 x=>?_
 subst he;refine⟨lim.keeps x.toInCall.keep,codeAny_func ?_⟩;obtain⟨t,aV,aK⟩:=LQ A outer s H af Q E (a9.deeper _) oK;have I:Inv (m2 CX P w K aF base N qual scope f dQ A outer s H E) [] (start N af) H s1:=Nq S a9.hd dE au r x;refine WY (aV [] s1 (start N af) H _ I aK) (λhs s' ab=>?_) λe s' ab=>ab
 have fin:∀{dG:St}{ao:ax}{v:V}{u:Value},Inv (m2 CX P w K aF base N qual scope f dQ A outer s H E) [] dG ao s'->RelV v u->Q v ao->ux outer P w H s Q u s' :=
  λ{dG ao v u} cn b4 q=>⟨v,ao,cn.os,cn.bare,cn.base,cn.bM,b4,q⟩
 cases hs with
 |ret u =>
  obtain⟨v,dG,ao,cn,b4,q⟩:=ab;exact fin cn b4 q
 |next =>
  obtain⟨dG,ao,cn,q⟩:=ab;exact fin (v:=V.cU) (u:=Value.none) cn rfl q
 |brk =>
  obtain⟨_,_,_,q⟩:=ab;exact False.elim q
 |cont =>
  obtain⟨_,_,_,q⟩:=ab;exact False.elim q
end bJ
namespace bJ
open PySem PySem.Spec PyProof.Rows
section
variable{X:aS}{x:Str}{p pos:Pos}{e:Expr}{ag:List Expr}{t:fv}{id T:String}{r:List V->ax->c2->Prop}
noncomputable def FE(r:List V->ax->c2->Prop)(t:fv):TE:=λσ H Q=>t σ H λaf H1=>r af H1 Q
def yd(aj:hh X (.builtin id) r)(a8:eb X x)(hm:X.aF x=none)(aT:bootBuiltins x=some (.builtin id))(aA:ft X (e::ag) t)(az:x≠"__name__":=by decide)(hu:(x==("__debug__":Str))=false:=by decide)(he:starEach (e::ag) X.env=(false,eval e X.env)::starEach ag X.env:=by rfl)(ea:(backTo pos (starEach ag X.env)).any (·.1)=false:=by rfl):aP X (.Call (.Name x p) (e::ag) [] pos) (FE r t):=by
 intro pins s σ H Q I h;refine Xs (j8 I a8 hm aT ?_ az hu);exact YH (bK (aA pos pins s σ H _ I h) λus s1 ⟨af,H1,bg,aG,aN⟩=>aj pins s1 σ H1 af us Q bg aG aN) he ea
def PL(aj:hh X (.type T) r)(a8:eb X x)(hm:X.aF x=none)(aT:bootBuiltins x=some (.type T))(aA:ft X (e::ag) t)(az:x≠"__name__":=by decide)(hu:(x==("__debug__":Str))=false:=by decide)(he:starEach (e::ag) X.env=(false,eval e X.env)::starEach ag X.env:=by rfl)(ea:(backTo pos (starEach ag X.env)).any (·.1)=false:=by rfl):aP X (.Call (.Name x p) (e::ag) [] pos) (FE r t):=by
 intro pins s σ H Q I h;refine Xs (j8 I a8 hm aT ?_ az hu);exact WK (bK (aA pos pins s σ H _ I h) λus s1 ⟨af,H1,bg,aG,aN⟩=>aj pins s1 σ H1 af us Q bg aG aN) he ea
end
end bJ
namespace c5
open PySem PyProof.Rows
noncomputable def lexLt:List Int->List Int->Bool
 |[],[]=>false
 |[],_::_=>true
 |_::_,[]=>false
 |x::xs,y::ys=>if x=y then lexLt xs ys else decide (x<y)
def Od(x y:Int)(xs ys:List Int):lexLt (x::xs) (y::ys)=if x=y then lexLt xs ys else decide (x<y):=rfl
def Og:lexLt [] []=false:=rfl
def Of(y:Int)(ys:List Int):lexLt [] (y::ys)=true:=rfl
def Oe(x:Int)(xs:List Int):lexLt (x::xs) []=false:=rfl
def JN(A:Around)(s:Shared)(a:Int)(t:Tok)(c:Int)(u:Tok):∃e,SeqAt.EqAt A s (.int a t) (.int c u) e/\(e=true<->a=c) :=
 ⟨(a==c),SeqAt.EqAt.int_int a t c u,by simp⟩
def Q0(A:Around)(s:Shared)(a:Int)(t:Tok)(c:Int)(u:Tok)(prog:Program)(w:World)(E:Value->Shared->Prop)(Q:Value->Shared->Prop)(h:Q (.bool (decide (a<c))) s):
  wpAny (model prog w) A (richCompare .Lt (.int a t) (.int c u)) Q E s :=
 (PyProof.Rows.lt_int h:wpAny (model prog w) A (compareOp .Lt (.int a t) (.int c u)) Q E s)
section
open PySem.SeqAt
open PySem.AutoSeq1 (wpAny_loadPart')
open PySem.MeetsSeq PySem.MeetsSeq2 PySem.MeetsSeq3
def Ub (l b : Addr) (items g8 : Array Value) (n gL : Nat) (dD jS : Option Addr) (b6 jC : Array (Option Value)) (ns ms : List Int) (hi : IntsAre items.toList ns) (aB : IntsAre g8.toList ms) :
    Meets (Builtin.«tuple.__lt__» ⟨[.ref l, .ref b], []⟩)
      (fun _ R s => s.heap.get? l = some { cls := .type "tuple", dict := dD, data := .seq items n, slots := b6 } /\ s.heap.get? b = some { cls := .type "tuple", dict := jS, data := .seq g8 gL, slots := jC } /\
        R (.ok (.ret (.bool (lexLt ns ms)))) s) :=
  .of_wp fun prog w A R s h => by
    obtain ⟨aE, g, d, tk, os⟩ := s; obtain ⟨au, ae, h⟩ := h
    have f2 := ZF
    have cQ : items.size = ns.length := by rw [<- hi.length]; simp
    have cp : g8.size = ms.length := by rw [<- aB.length]; simp
    wp_walk using wpAny_loadPart' au, wpAny_loadPart' ae, YI _ (fun rest b s' => b.1 = none /\ s' = ⟨aE, g, d, tk, os⟩ /\ ∃ (af ws : List Value) (oZ oX : List Int), rest = af.zip ws /\
      IntsAre af oZ /\ IntsAre ws oX /\ oZ.length + g8.size = oX.length + items.size /\ R (.ok (.ret (.bool (lexLt oZ oX)))) ⟨aE, g, d, tk, os⟩) _
    case turn =>
      rintro ⟨y, x⟩ rest b s' ⟨hT, rfl, af, ws, oZ, oX, hz, xi, sX, hlen, hR⟩
      cases xi with
      | nil => rw [List.zip_nil_left] at hz; cases hz
      | cons a t M0 =>
        cases sX with
        | nil => rw [List.zip_nil_right] at hz; cases hz
        | cons c u M1 =>
          rw [List.zip_cons_cons] at hz
          injection hz with qM j3
          injection qM with aC ah
          subst aC ah
          rw [Od] at hR
          simp only [List.length_cons] at hlen
          obtain ⟨e, he, B9⟩ := JN A.in1 ⟨aE, g, d, tk, os⟩ a t c u
          refine VW (he prog w _ _ ?_)
          cases e with
          | true =>
            rw [if_pos (B9.mp rfl)] at hR
            wp_walk
            exact ⟨rfl, rfl, _, _, _, _, j3, M0, M1, by omega, hR⟩
          | false =>
            rw [if_neg (fun q => absurd (B9.mpr q) WA)] at hR
            have MN := Q0 A.in1 ⟨aE, g, d, tk, os⟩ a t c u prog w
            wp_walk using MN
            exact ⟨_, rfl, by simpa using hR⟩
    case fin =>
      rintro ⟨b1, b2⟩ s' ⟨hT, rfl, af, ws, oZ, oX, hz, xi, sX, hlen, hR⟩
      simp only at hT
      subst hT
      have aT : lexLt oZ oX = decide (items.size < g8.size) := by
        cases xi with
        | nil =>
          cases sX with
          | nil =>
            simp only [List.length_nil] at hlen
            rw [Og]
            exact (decide_eq_false (by omega)).symm
          | cons c u hw =>
            simp only [List.length_nil, List.length_cons] at hlen
            rw [Of]
            exact (decide_eq_true (by omega)).symm
        | cons a t aT =>
          cases sX with
          | nil =>
            simp only [List.length_nil, List.length_cons] at hlen
            rw [Oe]
            exact (decide_eq_false (by omega)).symm
          | cons c u hw =>
            rw [List.zip_cons_cons] at hz
            cases hz
      rw [aT] at hR
      wp_walk
      exact ⟨_, rfl, by simpa [Builtin.Tuple.tupleCompareSizes] using hR⟩
    case h =>
      exact ⟨rfl, rfl, items.toList, g8.toList, ns, ms, rfl, hi, aB, by omega, h⟩
end
section
variable{prog:Program}{w:World}{A:Around}{E:Value->Shared->Prop}{s:Shared}
def Df{l b:Addr}{items g8:Array Value}{ns ms:List Int}{Q:Value->Shared->Prop}(au:IsTup s.heap l items)(ae:IsTup s.heap b g8)(hi:IntsAre items.toList ns)(aB:IntsAre g8.toList ms)(bO:A.units<cLine)(h:Q (.bool (lexLt ns ms)) s):wpAny (model prog w) A (compareOp .Lt (.ref l) (.ref b)) Q E s:=by
 obtain⟨⟨cls,dD,data,b6⟩,ay,aj,n,hd⟩:=id au;obtain⟨⟨vH,jS,data2,jC⟩,j1,ip,gL,hd2⟩:=id ae;simp only at aj hd ip hd2;subst aj hd ip hd2;exact richCompare_meets_room (op:=.Lt) ⟨_,ay,rfl⟩ ⟨_,j1,rfl⟩ PySem.F.slot_tuple_lt PySem.F.entry_tuple_lt (PySem.F.args_tuple_lt_2 _ _) (Ub l b items g8 n gL dD jS b6 jC ns ms hi aB)
  ⟨ay,j1,show Value.bool (lexLt ns ms)≠Value.notImplemented/\Q (.bool (lexLt ns ms)) s from⟨(λx=>nomatch x),h⟩⟩ bO
def H0{t b:Addr}{af ws:List Value}{Q:Value->Shared->Prop}(aV:IsTup s.heap t af.toArray)(ae:IsTup s.heap b ws.toArray)(aT:af≠[])(J:ws=[]->Q (.ref t) s)(aa:ws≠[]->Q (.ref s.heap.objs.size) { s with heap:=s.heap.push { cls:=.type "tuple",data:=.seq (af++ws).toArray } })(hsz:af.length+ws.length<=sizeLine):wpAny (model prog w) A (binaryOp .Add (.ref t) (.ref b)) Q E s:=by
 obtain⟨⟨cls,dD,data,b6⟩,ay,aj,n,hd⟩:=id aV;obtain⟨⟨vH,jS,data2,jC⟩,j1,ip,gL,hd2⟩:=id ae;simp only at aj hd ip hd2;subst aj hd ip hd2;have e:af.toArray++ws.toArray=(af++ws).toArray:=by simp
 by_cases hw:ws=[]
 .exact ZT ⟨_,ay,rfl⟩ ⟨_,j1,rfl⟩ ZI Z7 Yt Yq (Ym _ _)
   (tuple_addW1 t b af.toArray ws.toArray n gL dD jS b6 jC (by simpa using aT) (by simp[hw])) ⟨ay,j1,J hw⟩
 .refine ZT ⟨_,ay,rfl⟩ ⟨_,j1,rfl⟩ ZI Z7 Yt Yq (Ym _ _)
   (tuple_addW2 t b af.toArray ws.toArray n gL dD jS b6 jC (by simpa using aT) (by simpa using hw) (by rw[V9,V9];exact hsz)) ⟨ay,j1,?_⟩
  rw[e];exact aa hw
noncomputable def bN(n d:Nat):Option Int->Nat
 |none=>d
 |some v=>if v<0 then(v+(n:Int)).toNat else min v.toNat n
def tP(n d:Nat)(hd:d<=n)(o:Option Int):bN n d o<=n:=by
 cases o with
 |none=>exact hd
 |some v =>
  show(if v<0 then(v+(n:Int)).toNat else min v.toNat n)<=n
  by_cases aT:v<0
  .rw[if_pos aT];omega
  .rw[if_neg aT];exact Nat.min_le_right _ _
def An(v:Int)(n d:Nat):(if v<0 then max (v+(n:Int)) 0 else min v (n:Int))=((bN n d (some v):Nat):Int):=by
 show(if v<0 then max (v+(n:Int)) 0 else min v (n:Int))=(((if v<0 then(v+(n:Int)).toNat else min v.toNat n):Nat):Int)
 by_cases aT:v<0
 .simp only[if_pos aT];omega
 .simp only[if_neg aT];omega
def GU(lo hi:Option Int)(n:Nat):Builtin.Slice.sliceAdjust lo hi 1 (n:Int)=(((bN n 0 lo:Nat):Int),((bN n n hi:Nat):Int)):=by
 have J:¬((1:Int)<0):=by omega
 unfold Builtin.Slice.sliceAdjust;simp only[J,Wm];refine Prod.ext ?_ ?_
 .cases lo with
  |none=>rfl
  |some v=>exact An v n 0
 .cases hi with
  |none=>rfl
  |some v=>exact An v n n
def Qq(i j:Nat):Builtin.Slice.slicePlaces (i:Int) (j:Int) 1=j-i:=by
 unfold Builtin.Slice.slicePlaces;have J:(1:Int)>0:=by omega
 simp only[J,WN,Int.ediv_one]
 split<;>omega
def Fd{v:Value}{o:Option Int}{Q:Option Int->Shared->Prop}(p:IsPart v o)(h:Q o s):wpAny (model prog w) A (Builtin.Slice.slicePartIndex v) Q E s:=by
 cases p with
 |none=>exact slicePart_none h
 |int i t=>exact slicePart_int h
def Fc{b6:Addr}{fk fl:Value}{lo hi:Option Int}{n:Nat}{Q:Int×Int×Nat->Shared->Prop}(ab:s.heap.IsSliceOf b6 fk fl .none)(cX:IsPart fk lo)(pu:IsPart fl hi)(h:Q (((bN n 0 lo:Nat):Int),1,bN n n hi-bN n 0 lo) s):wpAny (model prog w) A (Builtin.Slice.sliceApplied (.ref b6) (pure (n:Int))) Q E s:=by
 obtain⟨os,nr,l2,j0⟩:=id ab;unfold Builtin.Slice.sliceApplied Builtin.Slice.sliceFields;refine VW (VW (wpAny_field nr j0 (x:=fk) rfl (VW (wpAny_field nr j0 (x:=fl) rfl (VW (wpAny_field nr j0 (x:=.none) rfl (wpAny_pure ?_)))))));refine VW (slicePart_none ?_);show wpAny _ _ (if ((1:Int)==0)=true then _ else _) _ _ s;rw[if_neg (by decide)]
 refine VW (Fd cX (VW (Fd pu (VW (wpAny_pure ?_)))));show wpAny _ _ (match Builtin.Slice.sliceAdjust lo hi 1 (n:Int) with|(lo,hi)=>pure (lo,(1:Int),Builtin.Slice.slicePlaces lo hi 1)) _ _ s
 rw[GU lo hi n];show wpAny _ _ (pure (((bN n 0 lo:Nat):Int),(1:Int),Builtin.Slice.slicePlaces ((bN n 0 lo:Nat):Int) ((bN n n hi:Nat):Int) 1)) _ _ s;rw[Qq];exact wpAny_pure h
def Qo(xs:Array Value)(i k:Nat):((List.range k).filterMap λ(m:Nat)=>xs[((i:Int)+(m:Int)*1).toNat]?).toArray=((xs.toList.drop i).take k).toArray:=by
 have e:(λ(m:Nat)=>xs[((i:Int)+(m:Int)*1).toNat]?)=λm=>xs[i+m]?:=by
  funext m;have:((i:Int)+(m:Int)*1).toNat=i+m:=by omega
  rw[this]
 rw[e];have:=pick_run xs i k;rw[List.filterMap_map]at this;have av:((λx=>xs[x]?) ∘ λx=>i+x)=λm=>xs[i+m]?:=rfl
 rw[av]at this;rw[this]
def Ls{t b6:Addr}{items:Array Value}{fk fl:Value}{lo hi:Option Int}{Q:Value->Shared->Prop}(aV:IsTup s.heap t items)(ab:s.heap.IsSliceOf b6 fk fl .none)(cX:IsPart fk lo)(pu:IsPart fl hi)(hw:¬(bN items.size 0 lo=0/\bN items.size items.size hi=items.size))(h:Q (.ref s.heap.objs.size) { s with heap:=s.heap.push { cls:=.type "tuple",data:=.seq ((items.toList.drop (bN items.size 0 lo)).take (bN items.size items.size hi-bN items.size 0 lo)).toArray } })(hsz:items.size<=sizeLine):wpAny (model prog w) A (getItem (.ref t) (.ref b6)) Q E s:=by
 have sW:sizeOk (.seq ((items.toList.drop (bN items.size 0 lo)).take (bN items.size items.size hi-bN items.size 0 lo)).toArray):=by
  show((items.toList.drop (bN items.size 0 lo)).take (bN items.size items.size hi-bN items.size 0 lo)).toArray.size<=sizeLine;rw[V9,Wz,WW,Array.length_toList];omega
 have aB:bN items.size items.size hi<=items.size:=tP _ _ (VZ _) hi;obtain⟨os,nr,l2,j0⟩:=id ab;have wJ:s.TypeIs (.ref b6) "slice":=⟨os,nr,l2⟩;unfold getItem
 try with_reducible refine Xc ?_
 first|refine VW (wpAny_pure ?_)|skip
 refine VW (wpAny_sequenceKey aV.typeIs (by decide) ?_)
 refine VW (Xi (name:=Str.ofString "__getitem__") aV.typeIs WL
  (W8 WL aV.typeIs entry_tuple_getitem ?_ (args_tuple_getitem _ _)))
 show wpAny _ _ (Builtin.Tuple.tupleItemsOf (.ref t)>>=_) _ _ s;refine VW (tupleItemsOf_ aV ?_);refine VW (XR wJ ?_);rw[if_pos (by decide)]
 refine VW (Fc ab cX pu ?_);have l6:¬((((bN items.size 0 lo:Nat):Int)==0&&(1:Int)==1&&(bN items.size items.size hi-bN items.size 0 lo)==items.size)=true):=by
  intro q;rw[VX,VX]at q;have aN:((bN items.size 0 lo:Nat):Int)=0:=eq_of_beq q.1.1;have ba:bN items.size items.size hi-bN items.size 0 lo=items.size:=eq_of_beq q.2;exact hw ⟨by omega,by omega⟩
 show wpAny _ _ (if (((bN items.size 0 lo:Nat):Int)==0&&(1:Int)==1&&(bN items.size items.size hi-bN items.size 0 lo)==items.size)=true then _ else _) _ _ s;rw[if_neg l6,Qo]
 first
  |exact VW (m:=Builtin.Tuple.tupleExact _) (Wv (wpAny_pure ⟨_,rfl,wpAny_pure h⟩) sW)
  |exact VW (m:=Builtin.Tuple.tupleExact _) (Wv (VW (wpAny_pure (wpAny_pure ⟨_,rfl,wpAny_pure h⟩))) sW)
  |exact VW (VW (m:=Builtin.Tuple.tupleExact _) (Wv (wpAny_pure (wpAny_pure ⟨_,rfl,wpAny_pure h⟩)) sW))
  |exact VW (VW (m:=Builtin.Tuple.tupleExact _) (Wv (wpAny_pure ⟨_,rfl,wpAny_pure h⟩) sW))
end
end c5
namespace bJ
open PySem PySem.Spec PyProof.Rows
noncomputable abbrev kC:=St->ax->(Option Int->ax->Prop)->Prop
noncomputable def jN(X:aS)(e:Option Expr)(t:kC):Prop :=
 ∀(pins:List (Addr×Obj))(s:Shared)(σ:St)(H:ax)(Q:Option Int->ax->Prop),Inv X pins σ H s->t σ H Q ->
  wpAny (model X.prog X.w) X.A (evalPart e X.env) (λu s'=>∃o ao,Inv X pins σ ao s'/\IsPart u o/\Q o ao) X.cC s
noncomputable def Ts:kC:=λ_ H Q=>Q none H
noncomputable def Tx(t:TE):kC:=λσ H Q=>t σ H λx H1=>∃i,x=.int i/\Q (some i) H1
def intsAre_of{ns:List Int}:∀{us:List Value},Vals (ns.map V.int) us->IntsAre us ns:=by
 induction ns with
 |nil=>intro us r;rw[Yc]at r;cases r;exact .nil
 |cons n ns aD =>
  intro us r;rw[List.map_cons]at r;cases r with
  |cons aG a5 =>
   obtain⟨t,e⟩:=aG;subst e;exact .cons n t (aD a5)
section
variable{X:aS}{e:Expr}{er:TE}{lo hi:Option Expr}{hG t9:kC}{pos b3:Pos}
def Qt:jN X none Ts:=by
 intro pins s σ H Q I h;rw[evalPart_none];exact wpAny_pure ⟨none,H,I,.none,h⟩
def Qu(h:aP X e er):jN X (some e) (Tx er):=by
 intro pins s σ H Q I hw;rw[evalPart_some];refine bK (h pins s σ H _ I hw) λu s1 ⟨x,H1,bg,aG,aN⟩=>?_
 obtain⟨i,rfl,q⟩:=aN;obtain⟨t,rfl⟩:=aG;exact⟨some i,H1,bg,.int i t,q⟩
noncomputable def pS(X:aS)(r:V->Option Int->Option Int->ax->c2->Prop):Prop :=
 ∀(pins:List (Addr×Obj))(s:Shared)(σ:St)(H:ax)(x:V)(v fk fl:Value)(lo hi:Option Int)(b6:Addr)(Q:c2),Inv X pins σ H s->RelV x v->s.heap.IsSliceOf b6 fk fl .none->IsPart fk lo->IsPart fl hi->r x lo hi H Q ->
  ∃T id,typeLookup (.type T) "__getitem__"=pure (some (.builtin id))/\s.TypeIs v T/\wpAny (model X.prog X.w) X.A (getItem v (.ref b6)) (es X pins σ Q) X.cC s
noncomputable def TA(r:V->Option Int->Option Int->ax->c2->Prop)(er:TE)(hG t9:kC):TE:=λσ H Q=>er σ H λx H1=>hG σ H1 λl aY=>t9 σ aY λu b8=>r x l u b8 Q
def P1{r:V->Option Int->Option Int->ax->c2->Prop}(a9:pS X r)(he:aP X e er)(au:jN X lo hG)(bO:jN X hi t9):aP X (.Subscript e (.Slice lo hi none b3) pos) (TA r er hG t9):=by
 intro pins s σ H Q I h;refine Subscript_ (bK (he pins s σ H _ I h) λv s1 ⟨x,H1,bg,aG,aN⟩=>?_)
 refine wpAny_Slice (bK (au pins s1 σ H1 _ bg aN) λfk s2 ⟨l,aY,cS,cX,ba⟩=>bK (bO pins s2 σ aY _ cS ba) λfl s3 ⟨u,b8,eW,pu,b5⟩=>?_)
 rw[evalPart_none];refine wpAny_pure ?_;have fK:Inv X pins σ b8 { s3 with heap:=s3.heap.push { cls:=.type "slice",data:=.fields #[fk,fl,.none] } }:=eW.kept (t':=s3.toks) λb bX q=>VY _ q
 obtain⟨T,id,c3,aV,a8⟩:=a9 pins { s3 with heap:=s3.heap.push { cls:=.type "slice",data:=.fields #[fk,fl,.none] } } σ b8 x v fk fl l u s3.heap.objs.size Q fK aG (Heap.IsSliceOf.new ..) cX pu b5;show wpAny (model X.prog X.w) X.A (subscriptTail e (.Slice lo hi none b3) v (.ref s3.heap.objs.size)) (es X pins σ Q) X.cC { s3 with heap:=s3.heap.push { cls:=.type "slice",data:=.fields #[fk,fl,.none] } };exact tail_any (ops:=[.ref s3.heap.objs.size,v]) aV c3 a8 (by with_unfolding_all rfl)
noncomputable def kD(xs:List V)(lo hi:Option Int):List V:=(xs.drop (c5.bN xs.length 0 lo)).take (c5.bN xs.length xs.length hi-c5.bN xs.length 0 lo)
def Aw(xs:List V)(lo hi:Option Int):(kD xs lo hi).length<=xs.length:=by
 unfold kD;rw[Wz,WW];omega
noncomputable def QY(K:W.Frag):V->Option Int->Option Int->ax->c2->Prop:=λx lo hi H Q=>∃a xs,x=.ref a/\fu K H a xs /\
 ¬(c5.bN xs.length 0 lo=0/\c5.bN xs.length xs.length hi=xs.length)/\∀p,H p=none->Q (.ref p) (upd H p (.tup (kD xs lo hi)))
def SI:pS X (QY X.K):=by
 intro pins s σ H x v fk fl lo hi b6 Q I aW ab cX pu h;obtain⟨a,xs,rfl,ah,hw,q⟩:=h;cases aW;obtain⟨its,r,aV,hz⟩:=I.tuple ah;have hlen:its.toArray.size=xs.length:=by rw[V9];exact r.length.symm
 refine⟨"tuple",_,WL.lookup,aV.typeIs,?_⟩;refine c5.Ls aV ab cX pu (by rw[hlen];exact hw) ?_ (by rw[hlen];exact hz)
 rw[hlen];refine⟨.ref s.heap.objs.size,_,I.laid (t':=s.toks) (o:=.tup (kD xs lo hi)) (λb bX q=>VY _ q) (VZ _) ?_,rfl,q _ (I.bM.fresh (VZ _))⟩
 exact⟨W7 (Aw xs lo hi) hz,_,(r.drop (c5.bN xs.length 0 lo)).take (c5.bN xs.length xs.length hi-c5.bN xs.length 0 lo),IsTup.new _ _⟩
noncomputable def QV(K:W.Frag):fc:=λx y H Q=>∃a b ns ms,x=.ref a/\y=.ref b/\fu K H a (ns.map V.int)/\fu K H b (ms.map V.int)/\Q (.aU (c5.lexLt ns ms)) H
def Pr(bO:X.A.units<cLine):c1 X (compareOp .Lt) (QV X.K):=by
 intro pins s σ H x y v u Q I aW bB h;obtain⟨a,b,ns,ms,rfl,rfl,aA,ae,q⟩:=h;cases aW;cases bB;obtain⟨its,aG,bj,_⟩:=I.tuple aA;obtain⟨j7,a5,b3,_⟩:=I.tuple ae;have eS:IntsAre its.toArray.toList ns:=intsAre_of aG;have gh:IntsAre j7.toArray.toList ms:=intsAre_of a5;exact c5.Df bj b3 eS gh bO ⟨.aU (c5.lexLt ns ms),H,I,rfl,q⟩
end
end bJ
namespace bJ
open PySem PySem.Spec PyProof.Rows
noncomputable def iW(n:Nat)(i:Int):Option Nat:=if 0<=i then(if i<n then some i.toNat else none) else if -(n:Int)<=i then some (i+n).toNat else none
noncomputable def lL{α:Type}(xs:List α)(i:Int):Option α:=(iW xs.length i).bind λj=>xs[j]?
def NA{n:Nat}{i:Int}{j:Nat}(h:iW n i=some j):seqIndex? i n=some j/\j<n/\-(n:Int)<=i/\i<n:=by
 unfold iW at h
 by_cases h0:0<=i
 .rw[if_pos h0]at h
  by_cases J:i<n
  .rw[if_pos J]at h;have e:i.toNat=j:=WE h;exact⟨by rw[seqIndex_of h0 J,e],by omega,by omega,J⟩
  .rw[if_neg J]at h;cases h
 .rw[if_neg h0]at h
  by_cases J:-(n:Int)<=i
  .rw[if_pos J]at h;have e:(i+n).toNat=j:=WE h;exact⟨by rw[seqIndex_neg (by omega) J,e],by omega,J,by omega⟩
  .rw[if_neg J]at h;cases h
def uZ{α:Type}{xs:List α}{i:Int}{v:α}(h:lL xs i=some v):∃j,seqIndex? i xs.length=some j/\xs[j]?=some v/\j<xs.length/\-(xs.length:Int)<=i/\i<xs.length:=by
 unfold lL at h;cases e:iW xs.length i with
 |none=>rw[e]at h;cases h
 |some j =>
  rw[e]at h;obtain⟨J,aa,aL,a7⟩:=NA e;exact⟨j,J,h,aa,aL,a7⟩
noncomputable def uP(b:Expr):Prop:=∀o i,subscripted b false o i=operate [o,i] (getItem o i)
noncomputable def kv(X:aS)(r:fc):Prop :=
 ∀(value slice:Expr)(pins:List (Addr×Obj))(s:Shared)(σ:St)(H:ax)(x y:V)(v u:Value)(Q:c2),Inv X pins σ H s->RelV x v->RelV y u->r x y H Q ->
  subscripted slice false v u=operate [v,u] (getItem v u)->wpAny (model X.prog X.w) X.A (subscriptTail value slice v u) (es X pins σ Q) X.cC s
noncomputable def GI(X:aS)(id:String)(r:V->List V->ax->c2->Prop):Prop :=
 ∀(pins:List (Addr×Obj))(s:Shared)(σ:St)(H:ax)(x:V)(xs:List V)(v:Value)(us:List Value)(Q:c2),Inv X pins σ H s->RelV x v->Vals xs us->r x xs H Q ->
  wpAny (model X.prog X.w) X.A (call (.builtin id) (v::us)) (es X pins σ Q) X.cC s
section
variable{X:aS}{a b:Expr}{cc cH:TE}{pos:Pos}
def kv.or{r bP:fc}(h:kv X r)(h':kv X bP):kv X (λx y H Q=>r x y H Q\/bP x y H Q):=by
 intro value slice pins s σ H x y v u Q I aW bB q ab;rcases q with q|q
 .exact h value slice pins s σ H x y v u Q I aW bB q ab
 .exact h' value slice pins s σ H x y v u Q I aW bB q ab
def PV{r:fc}(a9:kv X r)(aA:aP X a cc)(ae:aP X b cH)(ab:uP b):aP X (.Subscript a b pos) (rH r cc cH):=by
 intro pins s σ H Q I h;exact Subscript_ (vw aA ae I h λv u s2 x y aY cS aW bB q=>a9 a b pins s2 σ aY x y v u Q cS aW bB q (ab _ _))
noncomputable def Eg(K:W.Frag):fc:=λx y H Q=>∃p xs i v,x=.ref p/\y=.int i/\ew K H p xs/\lL xs i=some v/\Q v H
noncomputable def Ei(K:W.Frag):fc:=λx y H Q=>∃p xs i v,x=.ref p/\y=.int i/\fu K H p xs/\lL xs i=some v/\Q v H
noncomputable def Eh:fc:=λx y H Q=>∃z i c,x=.str z/\y=.int i/\z.length<=sizeLine/\lL z.cps.toList i=some c/\Q (.str ⟨#[c]⟩) H
def NC:kv X (Eg X.K):=by
 intro value slice pins s σ H x y v u Q I aW bB h ab;obtain⟨p,xs,i,z,rfl,rfl,aK,he,q⟩:=h;cases aW;obtain⟨t,rfl⟩:=bB;obtain⟨its,r,cX,hz⟩:=I.list aK;obtain⟨j,J,aa,aL,a7,cu⟩:=uZ he;obtain⟨w,sh,iA⟩:=r.get aa;have au:=r.length;have az:=q6;have fin:es X pins σ Q w s:=⟨z,H,I,iA,q⟩
 by_cases h0:0<=i
 .have aB:i.toNat=j:=by
   rw[seqIndex_of h0 cu]at J;exact WE J
  exact item_listR cX.isList h0 (by omega) (by rw[aB];simpa using sh) fin ab
 .have aB:(i+(its.toArray.size:Int)).toNat=j:=by
   rw[seqIndex_neg (by omega) a7]at J
   rw[V9,<- au];exact WE J
  exact subscriptTail_builtinR (x:=w) cX.isList.typeIs slot_list_getitem.lookup
   (wpAny_getItem_list_neg (Q:=λr s'=>r=w/\es X pins σ Q r s') cX.isList (by omega) (by rw[V9]<;>omega) (by omega) (by rw[aB];simpa using sh) ⟨rfl,fin⟩) ab
def NH:kv X (Ei X.K):=by
 intro value slice pins s σ H x y v u Q I aW bB h ab;obtain⟨p,xs,i,z,rfl,rfl,aK,he,q⟩:=h;cases aW;obtain⟨t,rfl⟩:=bB;obtain⟨its,r,cX,hz⟩:=I.tuple aK;obtain⟨j,J,aa,aL,a7,cu⟩:=uZ he;obtain⟨w,sh,iA⟩:=r.get aa;have au:=r.length;have az:=q6;have fin:es X pins σ Q w s:=⟨z,H,I,iA,q⟩;exact subscriptTail_builtinR (x:=w) cX.typeIs slot_tuple_getitem.lookup
  (getItem_tuple (j:=j) (Q:=λr s'=>r=w/\es X pins σ Q r s') cX (by omega) (by omega) (by rw[V9,<- au];exact J) (by simpa using sh) ⟨rfl,fin⟩) ab
def NG:kv X Eh:=by
 intro value slice pins s σ H x y v u Q I aW bB h ab;obtain⟨z,i,c,rfl,rfl,hz,he,q⟩:=h;obtain⟨t,rfl⟩:=aW;obtain⟨t',rfl⟩:=bB;obtain⟨j,J,aa,aL,a7,cu⟩:=uZ he;have au:z.cps.toList.length=z.length:=by simp[Str.length]
 rw[au]at J a7 cu;have az:=q6;exact tail_any (typeIs_str s z t) slot_str_getitem.lookup (getItem_str (c:=c) (by
  have ak:decide (i < -(2 ^ 63:Int))=false:=decide_eq_false (by omega)
  have av:decide (i>=2 ^ 63)=false:=decide_eq_false (by omega)
  rw[ak,av,Bool.or_false]) (by rw[J];simpa using aa) ⟨.str ⟨#[c]⟩,H,I.tok _,⟨_,rfl⟩,q⟩) ab
noncomputable def QU(K:W.Frag):fc:=λx y H Q=>Eg K x y H Q\/Ei K x y H Q\/Eh x y H Q
def NF:kv X (QU X.K):=NC.or (NH.or NG)
def SK(lo hi:Option Int)(n:Nat):(sliceBounds lo hi none n).1=((c5.bN n 0 lo:Nat):Int)/\(sliceBounds lo hi none n).2.1=((c5.bN n n hi:Nat):Int)/\(sliceBounds lo hi none n).2.2=1:=by
 refine⟨?_,?_,rfl⟩
 .cases lo with
  |none=>simp[sliceBounds,c5.bN]
  |some i =>
   simp only[sliceBounds,c5.bN,Option.getD_none,show(1:Int)>0 by decide,WN]
   by_cases h:i<0
   .simp only[h,WN]<;>omega
   .simp only[h,Wm]<;>omega
 .cases hi with
  |none=>simp[sliceBounds,c5.bN]
  |some i =>
   simp only[sliceBounds,c5.bN,Option.getD_none,show(1:Int)>0 by decide,WN]
   by_cases h:i<0
   .simp only[h,WN]<;>omega
   .simp only[h,Wm]<;>omega
def SJ(its:List Value)(lo hi:Option Int):slicePick its.toArray lo hi none=((its.drop (c5.bN its.length 0 lo)).take (c5.bN its.length its.length hi-c5.bN its.length 0 lo)).toArray:=by
 obtain⟨J,aa,aL⟩:=SK lo hi its.toArray.size;unfold slicePick;rw[J,aa,aL];simp only[sliceRange_one,pick_run,V9]<;>rfl
noncomputable def QX(K:W.Frag):V->Option Int->Option Int->ax->c2->Prop:=λx lo hi H Q=>∃a xs,x=.ref a/\ew K H a xs/\∀p,H p=none->Q (.ref p) (upd H p (.lst (kD xs lo hi)))
def SG:pS X (QX X.K):=by
 intro pins s σ H x v fk fl lo hi b6 Q I aW ab cX pu h;obtain⟨a,xs,rfl,ah,q⟩:=h;cases aW;obtain⟨its,r,aV,hz⟩:=I.list ah;have hlen:=r.length;refine⟨"list",_,slot_list_getitem.lookup,aV.isList.typeIs,?_⟩;refine wpAny_getItem_list_slice aV.isList ab cX pu .none (by simp) ?_ (by rw[V9]<;>omega)
 rw[SJ,<- hlen];refine⟨.ref s.heap.objs.size,_,I.laid (t':=s.toks) (o:=.lst (kD xs lo hi)) (λb bX q=>VY _ q) (VZ _) ?_,rfl,q _ (I.bM.fresh (VZ _))⟩
 exact⟨W7 (Aw xs lo hi) hz,_,0,(r.drop (c5.bN xs.length 0 lo)).take (c5.bN xs.length xs.length hi-c5.bN xs.length 0 lo),Wc _ rfl⟩
def z8:hh X (.builtin "len") (λxs H Q=>∃p ys,xs=[.ref p]/\(ew X.K H p ys\/fu X.K H p ys)/\Q (.int ys.length) H):=by
 intro pins s σ H xs us Q I r h;obtain⟨p,ys,rfl,aK,q⟩:=h;obtain⟨u,rfl,aW⟩:=vals1 r;cases aW;have az:=q6;rcases aK with aK|aK
 .obtain⟨its,bP,cX,hz⟩:=I.list aK;have hlen:=bP.length;exact Calls.call_len_list cX.isList (by simp only[V9]<;>omega) ⟨.int ys.length,H,I.tok _,⟨s.toks+1,by rw[V9,hlen]⟩,q⟩
 .obtain⟨its,bP,cX,hz⟩:=I.tuple aK;have hlen:=bP.length;exact len_tuple cX (by simp only[V9]<;>omega) ⟨.int ys.length,H,I.tok _,⟨s.toks+1,by rw[V9,hlen]⟩,q⟩
def HZ:hh X (.builtin "len") (λxs H Q=>∃z,xs=[.str z]/\z.length<=sizeLine/\Q (.int z.length) H):=by
 intro pins s σ H xs us Q I r h;obtain⟨z,rfl,hz,q⟩:=h;obtain⟨u,rfl,t,rfl⟩:=vals1 r;have az:=q6;exact len_str (by omega) ⟨.int z.length,H,I.tok _,⟨_,rfl⟩,q⟩
def z9:hh X (.type "list") (λxs H Q=>∃p ys,xs=[.ref p]/\(ew X.K H p ys\/fu X.K H p ys)/\∀l,H l=none->Q (.ref l) (upd H l (.lst ys))):=by
 intro pins s σ H xs us Q I r h;obtain⟨p,ys,rfl,aK,q⟩:=h;obtain⟨u,rfl,aW⟩:=vals1 r;cases aW;have fin:∀(its:List Value),Vals ys its->ys.length<=sizeLine->∀(h':Heap)(cy:Nat),(∀b bC,s.heap.get? b=some bC->h'.get? b=some bC) ->
   h'.get? s.heap.objs.size=some { cls:=.type "list",dict:=none,data:=.seq its.toArray cy,slots:=#[] }->es X pins σ Q (.ref s.heap.objs.size) { s with heap:=h' }:=λits bP hz h' cy iZ e =>
  ⟨.ref s.heap.objs.size,_,I.laid (t':=s.toks) iZ (VZ _) (show dA X.prog X.w _ h' _ (.lst ys) from⟨hz,its,cy,bP,e⟩),rfl,q _ (I.bM.fresh (VZ _))⟩
 rcases aK with aK|aK
 .obtain⟨its,bP,cX,hz⟩:=I.list aK;have hlen:=bP.length;obtain⟨o,ay,aj,n,hd⟩:=cX.isList;exact call_list_seq p (.inl rfl) ay aj hd (λh' cy iZ e=>fin its bP hz h' cy iZ e) (by simp only[V9]<;>omega)
 .obtain⟨its,bP,cX,hz⟩:=I.tuple aK;have hlen:=bP.length;obtain⟨o,ay,aj,n,hd⟩:=cX;exact call_list_seq p (.inr rfl) ay aj hd (λh' cy iZ e=>fin its bP hz h' cy iZ e) (by simp only[V9]<;>omega)
def Ab:hh X (.type "tuple") (λxs H Q=>∃p ys,xs=[.ref p]/\((ew X.K H p ys/\∀l,H l=none->Q (.ref l) (upd H l (.tup ys)))\/(fu X.K H p ys/\Q (.ref p) H))):=by
 intro pins s σ H xs us Q I r h;obtain⟨p,ys,rfl,h⟩:=h;obtain⟨u,rfl,aW⟩:=vals1 r;cases aW;rcases h with⟨aK,q⟩|⟨aK,q⟩
 .obtain⟨its,bP,cX,hz⟩:=I.list aK;have hlen:=bP.length;refine call_tuple_list cX.isList (λh' iZ=>?_) (by simp only[V9]<;>omega)
  have bg:Inv X pins σ H { s with heap:=h' }:=I.kept (t':=s.toks) iZ;have cS:Inv X pins σ (upd H h'.objs.size (.tup ys)) { s with heap:=h'.push { cls:=.type "tuple",data:=.seq its.toArray } } :=
   bg.laid (t':=s.toks) (λb o e=>VY _ e) (VZ _) (show dA X.prog X.w _ _ _ (.tup ys) from⟨hz,its,bP,IsTup.new _ _⟩)
  exact⟨.ref h'.objs.size,_,cS,rfl,q _ (bg.bM.fresh (VZ _))⟩
 .obtain⟨its,bP,cX,hz⟩:=I.tuple aK;exact call_tuple_same cX ⟨.ref p,H,I,rfl,q⟩
noncomputable def FY(K:W.Frag)(T:String)(x:V)(H:ax):Prop:=match x with
 |.str _=>T="str"
 |.int _=>T="int"
 |.ref p=>(T="list"/\∃xs,ew K H p xs)\/(T="tuple"/\∃o,K.lookup p=some o/\o.cls=.type "tuple"/\o.dict=none) \/
   (T="dict"/\((∃ar,H p=some (.dI ar))\/∃ar,H p=some (.d8 ar)))\/(T="set"/\∃S n,H p=some (.set S n))
 |_=>False
def Ul{pins:List (Addr×Obj)}{σ:St}{H:ax}{s:Shared}{T:String}{x:V}{v:Value}(I:Inv X pins σ H s)(r:RelV x v)(ty:FY X.K T x H):
  s.TypeIs v T/\∀a,v=.ref a->∃bX,s.heap.get? a=some bX/\bX.dict=none:=by
 cases x with
 |str z =>
  obtain⟨t,rfl⟩:=r;cases (show T="str" from ty);exact⟨typeIs_str s z t,λ_ e=>nomatch e⟩
 |int i =>
  obtain⟨t,rfl⟩:=r;cases (show T="int" from ty);exact⟨typeIs_int s i t,λ_ e=>nomatch e⟩
 |ref p =>
  cases r;rcases ty with⟨rfl,xs,aK⟩|⟨rfl,o,aw,aj,hd⟩|⟨rfl,aw⟩|⟨rfl,S,n,aw⟩
  .obtain⟨its,_,cX,_⟩:=I.list aK;refine⟨cX.isList.typeIs,λa e=>?_⟩
   cases e;obtain⟨o,n,e,c,hd,_⟩:=cX;exact⟨o,e,hd⟩
  .refine⟨⟨o,I.fG p o aw,aj⟩,λa e=>?_⟩
   cases e;exact⟨o,I.fG _ o aw,hd⟩
  .have z:∃o,s.heap.get? p=some o/\o.ExactDict:=by
    rcases aw with⟨ar,aw⟩|⟨ar,aw⟩
    .obtain⟨_,_,_,_,o,_,_,e,ex,_⟩:=I.bM p _ aw;exact⟨o,e,ex⟩
    .obtain⟨_,_,_,_,o,_,_,e,ex,_⟩:=I.bM p _ aw;exact⟨o,e,ex⟩
   obtain⟨o,e,ex⟩:=z;refine⟨⟨o,e,ex.1⟩,λa av=>?_⟩
   cases av;exact⟨o,e,ex.2.1⟩
  .obtain⟨o,_,_,_,e,ex,_⟩:=I.bM p _ aw;refine⟨⟨o,e,ex.1⟩,λa av=>?_⟩
   cases av;exact⟨o,e,ex.2.1⟩
 |_=>exact False.elim ty
noncomputable def Td(K:W.Frag)(T:String)(r:V->List V->ax->c2->Prop)(to:TE)(t:fv):TE:=λσ H Q=>to σ H λx H1=>FY K T x H1/\t σ H1 λxs aY=>r x xs aY Q
variable{o e:Expr}{ag:List Expr}{to:TE}{t:fv}{name:Str}{apos gr:Pos}{T id:String}{r:V->List V->ax->c2->Prop}
def DY(DV:PlainAttrs T)(slot:Slot T name id)(MY:typeOf (.builtin id)=pure (.type "method_descriptor"))(hm:GI X id r)(ay:aP X o to)(aA:ft X (e::ag) t)(LO:attributeBase o name X.env (eval o X.env)=eval o X.env:=by rfl)(L2:((backTo gr (starEach (e::ag) X.env)).all (λx=>!x.1)&&(backToKw gr (keywordEach [] X.env)).all (λx=>x.1.isSome)
   && decide ((e::ag).length+([]:List Keyword).length+(if ([]:List Keyword).isEmpty then 0 else 1)<30))=true:=by rfl)(qy:(apos.endLine==gr.line)=true:=by rfl)(ab:starEach (e::ag) X.env=(false,eval e X.env)::starEach ag X.env:=by rfl)(MJ:(backTo gr (starEach ag X.env)).any (·.1)=false:=by rfl):
  aP X (.Call (.Attribute o name apos) (e::ag) [] gr) (Td X.K T r to t):=by
 intro pins s σ H Q I h;refine wpAny_Call_method_late LO L2 qy rfl (bK (ay pins s σ H _ I h) λv s1 ⟨x,H1,bg,aG,ty,aN⟩=>?_)
 obtain⟨J,aa⟩:=Ul bg aG ty;refine⟨T,id,DV,slot,MY,J,aa,?_⟩;have qn:=aA gr pins s1 σ H1 _ bg aN;rw[ab]at qn ⊢;refine Calls.callWith_builtin (by show(false||(backTo gr (starEach ag X.env)).any (·.1))=false;rw[MJ]<;>rfl) (Calls.evalArgs_plain ?_)
 exact bK qn λus s2 ⟨af,aY,cS,a5,ba⟩=>hm pins s2 σ aY x af v us Q cS aG a5 ba
end
end bJ
namespace bJ
open PySem PySem.Spec PyProof.Rows
noncomputable def zo(X:aS)(id:String)(r:V->List V->ax->c2->Prop):Prop :=
 ∀(pins:List (Addr×Obj))(s:Shared)(σ:St)(H:ax)(x:V)(xs:List V)(v:Value)(us:List Value)(Q:c2),Inv X pins σ H s->RelV x v->Vals xs us->r x xs H Q ->
  wpAny (model X.prog X.w) X.A (call (.builtin id) (v::us)) (es X pins σ Q) X.cC s
def Vals.one:∀{x:V}{us:List Value},Vals [x] us->∃u,us=[u]/\RelV x u
 |_,_,.cons r .nil=>⟨_,rfl,r⟩
theorem Vals.rep{xs:List V}{us:List Value}(h:Vals xs us):∀k:Nat,Vals (List.replicate k xs).flatten (List.replicate k us).flatten
 |0=>.nil
 |k+1=>by
  rw[Xp,Xp,XG,XG];exact Vals.append h (Vals.rep h k)
theorem foldl_rep(its:List Value):∀(k:Nat)(acc:List Value),
  List.foldl (λaR bI=>aR++bI) acc.toArray (List.replicate k its.toArray)=(acc++(List.replicate k its).flatten).toArray
 |0,acc=>by simp
 |k+1,acc=>by
  have e:acc.toArray++its.toArray=(acc++its).toArray:=by simp
  have av:(acc++its)++(List.replicate k its).flatten=acc++(List.replicate (k+1) its).flatten:=by
   rw[Xp,XG,Wa]
  rw[<- av,<- foldl_rep its k (acc++its),<- e,Xp,List.foldl_cons]
section
variable{X:aS}{pins:List (Addr×Obj)}{σ:St}{H:ax}{s:Shared}{l b:Addr}{xs ys zs:List V}
def Inv.Dc{its its':List Value}{n:Nat}{f:Array Value->Array Value}{t':Nat}(I:Inv X pins σ H s)(gu:H l=some (.lst xs))(e:s.heap.get? l=some { cls:=.type "list",data:=.seq its.toArray n })(hf:f its.toArray=its'.toArray)(aT:Vals ys its')(hz:ys.length<=sizeLine):
  Inv X pins σ (upd H l (.lst ys)) { s with heap:=s.heap.update l (Obj.mapSeq f),toks:=t' }:=by
 have q:=PySem.IsL.update e f;rw[hf]at q;refine I.write (x:=l) (e:=l) (by rw[gu];exact trivial) (.inl rfl) (λhL u ae bO=>(W9 s.heap (Obj.mapSeq f) (Xr ae)).trans bO) ⟨_,q⟩ ?_
 exact⟨hz,its',_,aT,q⟩
def Inv.C8{its:List Value}{t':Nat}(I:Inv X pins σ H s)(aT:Vals ys its)(hz:ys.length<=sizeLine):
  Inv X pins σ (upd H s.heap.objs.size (.lst ys)) { s with heap:=s.heap.push { cls:=.type "list",data:=.seq its.toArray },toks:=t' } :=
 I.laid (λ_ _ q=>VY _ q) (VZ _) ⟨hz,its,0,aT,Wc _ rfl⟩
theorem Inv.fresh(I:Inv X pins σ H s):H s.heap.objs.size=none:=I.bM.fresh (VZ _)
def Inv.Dd(I:Inv X pins σ H s)(gu:H l=some (.lst xs)):xs.length<=sizeLine/\∃(its:List Value)(n:Nat),Vals xs its/\xs.length=its.length/\s.heap.get? l=some { cls:=.type "list",data:=.seq its.toArray n }:=by
 obtain⟨z,its,n,r,e⟩:=I.bM l _ gu;exact⟨z,its,n,r,r.length,e⟩
def O7{n:Nat}(h:n<=sizeLine):Builtin.List.listTooLong n=false:=by
 unfold Builtin.List.listTooLong;exact decide_eq_false (by omega)
end
section
variable{X:aS}
noncomputable def QS:V->List V->ax->c2->Prop:=λx af H Q=>∃l xs y,x=.ref l/\af=[y]/\H l=some (.lst xs)/\xs.length<sizeLine/\Q .cU (upd H l (.lst (xs++[y])))
def Dv:zo X "list.append" QS:=by
 intro pins s σ H x af v us Q I aW b4 h;obtain⟨l,xs,y,rfl,rfl,gu,hz,q⟩:=h;cases aW;obtain⟨u,rfl,dt⟩:=b4.one;obtain⟨z,its,n,r,au,e⟩:=I.Dd gu;refine call_meets F.slot_list_append ⟨_,e,rfl⟩ F.entry_list_append (F.args_list_append_2 _ _) (PySem.list_append l its.toArray n u (by rw[V9];omega)) ⟨e,?_⟩
 refine⟨.cU,_,I.Dc (its':=its++[u]) gu e (by simp) (r.append (.cons dt .nil)) ?_,rfl,q⟩
 rw[V0,List.length_singleton];omega
def len_rep{α:Type}(xs:List α)(k:Nat):(List.replicate k xs).flatten.length=k*xs.length:=by
 induction k with
 |zero=>simp
 |succ k aD=>rw[Xp,XG,V0,aD,Nat.succ_mul,Nat.add_comm]
end
section
variable{prog:Program}{w:World}{A:Around}{E:Value->Shared->Prop}{s:Shared}
end
section
variable{X:aS}
end
end bJ
namespace zi
open PySem PySem.W PySem.Calls PyProof.Rows
def Np{P:Params}{h:Heap}:∀(ns:List Int)(af:List Value),WellAll P h af (ns.map WData.int)->IntsAre af ns:=by
 intro ns
 induction ns with
 |nil =>
  intro af w;rw[Yc]at w;cases w;exact .nil
 |cons n ns aD =>
  intro af w;rw[List.map_cons]at w;cases w with
  |cons a b =>
   cases a;exact .cons _ _ (aD _ b)
def Se{l:OpenLaw}{n:Nat}(az:l.most=some n){P:Params}{h:Heap}{args:List WData}{vals:List Value}(sU:l.row.toRowW.claim.pre args=true)(qL:WellAll P h vals args):
  ∃a af ns,vals=[Value.ref a]/\args=[WData.list (ns.map WData.int)]/\h.get? a=some { cls:=.type "list",data:=.seq af.toArray }/\IntsAre af ns/\ns.length<=n:=by
 have kS:WShape.hasAll [] args [.list .int]=true:=(pre_splitW sU).1;have aj:l.pre.holds [] { args:=args }=true:=(pre_splitW sU).2;obtain⟨d,r,rfl,J,aa⟩:=hasAllW_cons kS;obtain rfl:=hasAllW_nil aa;obtain⟨xs,rfl,aL⟩:=hasW_list J;obtain⟨ns,rfl⟩:=items_int aL;have hlen:ns.length<=n:=by
  unfold OpenLaw.pre at aj;have a7:(WTm.not (.lt (.lit (.int (n:Int))) (.len (.arg 0)))).holds [] { args:=[.list (ns.map .int)] }=true:=by
   have a7:=(holds_andW aj).1;rw[az]at a7;exact a7
  have cu:=condW_of a7 (w_not (w_lt w_lit (w_len_list (w_arg rfl))));rw[List.length_map]at cu;refine ZJ λq=>?_
  have dv:(n:Int)<((ns.length:Nat):Int):=by omega
  first
   |(rw[decide_eq_true dv]at cu;exact absurd cu (by decide))
   |(simp at cu;omega)
 cases qL with
 |cons jG jH =>
  cases jH;cases jG with
  |list ay fQ=>exact⟨_,_,ns,rfl,rfl,ay,Np ns _ fQ,hlen⟩
def Qv(l:OpenLaw)(args:List WData):l.row.toRowW.claim.post args (.bool true) args=true :=
 postW_of (r:=l.row.toRowW) (X:=(true==true))
  (show WShape.has [] (.bool true) .bool=true by first|rfl|decide|simp[WShape.has,WShape.arms,WShape.armsAll])
  (show(WTm.eq .res (.lit (.bool true))).value [] { args:=args,res:=some (.bool true),after:=args }=some (.bool (true==true)) from w_eq_bool (w_res rfl) w_lit) rfl
def Hq{l:OpenLaw}{n:Nat}{q:Program}{loose:List Str}{cq:(Str->Option Value)->Heap->Prop}{lJ:World->Heap->Prop}{d:DefRec}(az:l.most=some n)(qs:d.params.defaults=[])(call:∀(w:World)(e8 cG:Shared)(aF i0:Str->Option Value)(bk:Addr)(o:Obj)(pm cd doc:Value)(a:Addr)(af:List Value)(ns:List Int),
   Ground q loose [] cq w e8 aF i0 cG.heap->lJ w cG.heap ->
   cG.heap.get? bk=some o->o.data=.func (docDef d.name d.params d.body d.scope pm cd doc)->cG.heap.CodeRec cd d.name->aF d.name=some (.ref bk) ->
   cG.heap.get? a=some { cls:=.type "list",data:=.seq af.toArray }->IntsAre af ns->ns.length<=n->cG.gens=#[] ->
   codeAny (model l.prog w) callerA (.call (.ref bk) ⟨[.ref a],[]⟩) (λr s'=>r=.ok (.ret (.bool true))/\OldK cG.heap s'.heap/\s'.os=cG.os/\AllBare s'.gens) cG):
  WalkO q loose cq lJ l.row.toRowW d [] (λf af=>PySem.call f af):=by
 intro w e8 cG aF i0 G Y bk o pm cd doc r8 de ay hd jo oz qA a8 args vals as sU Cg VA qL Vq;obtain rfl:r8=.none:=Dflts.none oz qs;obtain rfl:de=.none:=Dflts.noKw oz;obtain⟨a,af,ns,rfl,rfl,w8,hints,hlen⟩:=Se az sU qL;refine enter_call (Y8 (call w e8 cG aF i0 bk o pm cd doc a af ns G Y ay (fd_plain hd) jo qA w8 hints hlen a8) λr s' aK=>?_)
 obtain⟨rfl,aa,aL,a7⟩:=aK;exact⟨.inl ⟨.bool true,.bool true,[],rfl,λ_=>rfl,.bool true,Qv l _,λ_=>⟨List.Pairwise.nil,λ_ hm=>(nomatch hm)⟩⟩,aa,aL,a7⟩
section
variable{prog:Program}{w:World}{A:Around}{E:Value->Shared->Prop}{s:Shared}{K:Frag}
end
end zi
namespace bJ
open PySem PySem.Spec PyProof.Rows
theorem Gi:∀{af:List Value}{ns:List Int},IntsAre af ns->Vals (ns.map V.int) af
 |_,_,.nil=>.nil
 |_,_,.cons n t h=>.cons ⟨t,rfl⟩ (Gi h)
noncomputable def uM(H:ax):Prop:=∀b,H b=none\/∃o xs,H b=some (.dW o (.lst xs))
def N4 {P : Program} {w : World} {K : W.Frag} {aF i0 : Str -> Option Value} {CX : i6} {k : Nat} {bk a : Addr} {fd : FuncData} {x : Str} {sp : lG} {cG : Shared} {af : List Value} {ns : List Int}
    (iI : K.In cG.heap) (oG : cG.heap.Ns mainGlobals aF) (ae : cG.heap.Ns builtinsNs i0) (iS : ∀ x : Str, x ≠ "__name__" -> i0 x = bootBuiltins x) (Mp : cG.heap.NoLimit) (a8 : cG.gens = #[])
    (aA : cG.heap.get? a = some { cls := .type "list", data := .seq af.toArray }) (hi : IntsAre af ns) (au : ns.length <= sizeLine) (a9 : fM k callerA)
    (F : ∀ base : Heap, K.In base -> base.Ns mainGlobals aF -> jK P w K aF base CX k bk fd [x] sp) (wQ : ∀ (s : Shared) (u : Value), BindsTo s fd ⟨[u], []⟩ [(x, u)])
    (oK : ∀ H : ax, uM H -> ew K H a (ns.map V.int) -> sp [.ref a] H (fun v _ => v = .aU true) fun _ _ _ => False)
    (wC : ∀ H e s', CX [] H cG (fun _ _ _ => False) e s' -> False) :
    codeAny (model P w) callerA (.call (.ref bk) ⟨[.ref a], []⟩) (fun r s' => r = .ok (.ret (.bool true)) /\ OldK cG.heap s'.heap /\ s'.os = cG.os /\ AllBare s'.gens) cG := by
  have b4 := Gi hi
  have Oa := hi.length
  have core : ∀ H : ax, uM H -> ew K H a (ns.map V.int) -> d7 P w H cG.heap -> (∀ b, H b ≠ none -> b = a) -> (H a ≠ none -> K.lookup a = none) ->
      codeAny (model P w) callerA (.call (.ref bk) ⟨[.ref a], []⟩) (fun r s' => r = .ok (.ret (.bool true)) /\ OldK cG.heap s'.heap /\ s'.os = cG.os /\ AllBare s'.gens) cG := by
    intro H oA aX bM qn gH
    have zX : ∀ {b : Addr} {o : Obj}, cG.heap.get? b = some o -> H b = none -> (kR cG.heap H).get? b = some o := fun e n => Mc e n
    have rl : ∀ {b : Addr} {o : Obj} {ag : Array DictEntry} {a4 : Nat}, cG.heap.get? b = some o -> o.data = .dict ag a4 -> H b = none := fun {b o ag a4} e d => by
      cases q : H b with
      | none => rfl
      | some u =>
        have bl : b = a := qn b (by rw [q]; simp)
        subst bl
        rw [aA] at e; cases e
        have d' : Data.seq af.toArray _ = Data.dict ag a4 := d
        cases d'
    have tu : ∀ {b : Addr} {m : Str -> Option Value}, cG.heap.Ns b m -> (kR cG.heap H).Ns b m := fun {b m} ⟨o, ag, a4, e, d, r⟩ => ⟨o, ag, a4, zX e (rl e d), d, r⟩
    have BU : K.In (kR cG.heap H) := fun b o e => zX (iI b o e) (by
      cases q : H b with
      | none => rfl
      | some u =>
        have bl : b = a := qn b (by rw [q]; simp)
        subst bl
        rw [gH (by rw [q]; simp)] at e; cases e)
    have fg : Mod K aF (kR cG.heap H) := ⟨BU, tu oG, ⟨i0, tu ae, iS⟩, let ⟨OB, J, aa⟩ := Mp; ⟨OB, tu J, aa⟩⟩
    have dE : rQ P w K aF (kR cG.heap H) callerA [] cG H := ⟨rfl, fg, fun b o e => Pf e, Nat.le_of_eq (Md _ _), trivial, fun b ae => absurd (show b ∈ ([] : List Addr) from ae) (by simp), bM, .of_eq a8⟩
    refine Y8 ((F _ BU (tu oG)).run callerA [] cG H ⟨[.ref a], []⟩ [.ref a] [.ref a] _ _ a9 dE (wQ cG (.ref a)) (.cons rfl .nil) (oK H oA aX)) fun r s' h => ?_
    cases r with
    | error e => exact (wC H e s' h).elim
    | ok hs =>
      cases hs with
      | next => exact False.elim h
      | brk => exact False.elim h
      | cont => exact False.elim h
      | ret u =>
        obtain ⟨v, ao, os, bare, un, w9, bP, q⟩ := h
        have dv : v = .aU true := q
        subst dv
        obtain rfl : u = Value.bool true := bP
        refine ⟨rfl, OldK.of_keep fun b o e => ?_, os, bare⟩
        cases q : H b with
        | none => exact un.keep b o e q (by intro z; exact absurd (show b ∈ ([] : List Addr) from z) (by simp)) (by simp)
        | some u =>
          rcases oA b with z | ⟨bX, xs, z⟩
          · rw [q] at z; cases z
          · have cp := un.jl b bX _ z
            obtain ⟨ak, _⟩ := bM b _ z
            obtain ⟨av, _⟩ := w9 b _ cp
            rw [e] at ak; cases ak
            exact av
  cases aw : K.lookup a with
  | some o =>
    have e := iI a o aw
    rw [aA] at e
    cases e
    refine core (fun _ => none) (fun _ => .inl rfl) (.inr ⟨_, af.toArray, _, aw, rfl, rfl, rfl, by rw [V9, Oa]; exact au, by simpa using b4⟩) (fun b u z => by have hH : (none : Option dz) = some u := z; cases hH) (fun b z => absurd rfl z) fun z => absurd rfl z
  | none =>
    refine core (fun b => if b = a then some (.dW { cls := .type "list", data := .seq af.toArray } (.lst (ns.map V.int))) else none) (fun b => ?_) (.inl (.inr ⟨{ cls := .type "list", data := .seq af.toArray }, if_pos rfl⟩)) (fun b u z => ?_) (fun b z => ?_) fun _ => aw
    · by_cases ae : b = a
      · exact .inr ⟨_, _, if_pos ae⟩
      · exact .inl (if_neg ae)
    · by_cases ae : b = a
      · have hH := (if_pos ae).symm.trans z
        cases hH
        subst ae
        exact ⟨aA, by rw [List.length_map]; exact au, af, _, b4, aA⟩
      · have hH := (if_neg ae).symm.trans z
        cases hH
    · by_cases ae : b = a
      · exact ae
      · exact absurd (if_neg ae) z
end bJ
namespace bJ
open PySem PySem.Spec PyProof.Rows
noncomputable abbrev zm{K:W.Frag}{h:Heap}(_:K.In h):W.Frag:=K
def UK{l:PySem.W.OpenLaw}{n k:Nat}{q:Program}{loose:List Str}{cq:(Str->Option Value)->Heap->Prop}{lJ:World->Heap->Prop}{d:DefRec}{K:Params->W.Frag}{CX:World->i6}{sp:World->lG}{x:Str}(az:l.most=some n)(Mw:n<=sizeLine)(qs:d.params.defaults=[])(a9:fM k callerA)(gd:∀(w:World)(h:Heap),lJ w h->(K w.params).In h)(F:∀(w:World)(aF:Str->Option Value)(bk:Addr)(h:Heap),(K w.params).In h->h.Ns mainGlobals aF->aF d.name=some (.ref bk) ->
   ∃fd:FuncData,(∀(s:Shared)(u:Value),BindsTo s fd ⟨[u],[]⟩ [(x,u)]) /\
    ∀base:Heap,(K w.params).In base->base.Ns mainGlobals aF->jK l.prog w (K w.params) aF base (CX w) k bk fd [x] (sp w))(oK:∀(w:World)(H:ax)(a:Addr)(ns:List Int),ns.length<=n->uM H->ew (K w.params) H a (ns.map V.int)->sp w [.ref a] H (λv _=>v=.aU true) λ_ _ _=>False)(wC:∀(w:World)(H:ax)(s:Shared)(e:Value)(s':Shared),CX w [] H s (λ_ _ _=>False) e s'->False):
  PySem.W.WalkO q loose cq lJ l.row.toRowW d [] (λf af=>PySem.call f af):=by
 refine zi.Hq az qs λw e8 cG aF i0 bk o pm cd doc a af ns G Y ay hd jo qA w8 hints hlen a8=>?_
 have iI:=gd w _ Y;obtain⟨fd,ae,wF⟩:=F w aF bk _ iI G.T.g qA;exact N4 iI G.T.g G.T.b G.T.builtins G.T.nolimit a8 w8 hints (W7 hlen Mw) a9 wF ae (λH oA aX=>oK w H a ns hlen oA aX) λH e s'=>wC w H cG e s'
end bJ
namespace bJ
open PySem PySem.Spec PyProof.Rows
noncomputable def gV(s:Stmt):Arguments:=match s with
 |.FunctionDef _ a _ _ _ _ _ _ _ _=>a
 |_=>{ posonlyargs:=[],args:=[],vararg:=none,kwonlyargs:=[],kw_defaults:=[],kwarg:=none,defaults:=[] }
noncomputable def kF(s:Stmt):List Stmt:=match s with
 |.FunctionDef _ _ b _ _ _ _ _ _ _=>b
 |_=>[]
noncomputable def hq(s:Stmt):Scope:=match s with
 |.FunctionDef _ _ _ _ _ _ sc _ _ _=>sc
 |_=>{ kind:=.function,names:=[],isGenerator:=false,isCoroutine:=false }
structure pI(K:W.Frag)(x qual:Str)(st:Stmt)(f:Addr)(fd:FuncData):Prop where
 ex:∃(fH:Value)(bh:Option Addr)(de doc pm:Value)(an:Option Addr)(dQ ct:Value)(fq:Array (Option Value)),
  fd=W.fnOf x qual (gV st) (kF st) (hq st) .none de doc pm an dQ ct/\K.lookup f=some ⟨fH,bh,.func fd,fq⟩/\W.codeIn K dQ qual=true
 iZ:W.keepIn K (.ref f)=true
section
variable{P:Program}{w:World}{K:W.Frag}{aF:Str->Option Value}{base:Heap}
def pI.binds{x qual:Str}{st:Stmt}{f:Addr}{fd:FuncData}{bf:List Str}(F:pI K x qual st f fd)(h:∀(de doc pm:Value)(an:Option Addr)(dQ ct:Value)(us:List Value),us.length=bf.length->bindArgs (W.fnOf x qual (gV st) (kF st) (hq st) .none de doc pm an dQ ct) ⟨us,[]⟩=pure (bf.zip us)):Binds K fd bf []:=by
 obtain⟨fH,bh,de,doc,pm,an,dQ,ct,fq,rfl,lk,jo⟩:=F.ex;exact .all (h de doc pm an dQ ct)
def Bw{x qual:Str}{st:Stmt}{f:Addr}{fH:Value}{bh an:Option Addr}{fq:Array (Option Value)}{de doc pm dQ ct:Value}(l:K.lookup f=some ⟨fH,bh,.func (W.fnOf x qual (gV st) (kF st) (hq st) .none de doc pm an dQ ct),fq⟩)(c:W.codeIn K dQ qual=true)(k:W.keepIn K (.ref f)=true):pI K x qual st f (W.fnOf x qual (gV st) (kF st) (hq st) .none de doc pm an dQ ct):=⟨⟨fH,bh,de,doc,pm,an,dQ,ct,fq,rfl,l,c⟩,k⟩
end
section
variable{X:aS}
def yl(i:Nat){x:Str}{pos:Pos}(aZ:X.N[i]?=some x:=by rfl)(aT:gn X.env.scope x:=by first|exact Or.inl rfl|exact Or.inr (Or.inl rfl)|exact Or.inr (Or.inr rfl))(hd:(x==("__debug__":Str))=false:=by decide)(jo:(x==("__classdict__":Str))=false:=by decide):aP X (.Name x pos) (mA i):=h2 aZ aT hd jo
end
noncomputable def bQ(H ao:ax):Prop:=∀b o,H b=some o->ao b=some o
def bQ.refl(H:ax):bQ H H:=λ_ _ h=>h
def bQ.trans{H H1 aY:ax}(a:bQ H H1)(b:bQ H1 aY):bQ H aY:=λc o h=>b c o (a c o h)
def bQ.free{H ao:ax}(e:bQ H ao){l:Addr}(h:ao l=Option.none):H l=Option.none:=by
 cases q:H l with
 |none=>rfl
 |some o =>
  rw[e l o q]at h;cases h
end bJ
end
section
set_option Elab.async false
set_option linter.all false
set_option maxRecDepth 100000
namespace bJ
open PySem PySem.Spec PyProof.Rows
section
variable{κ:Type}[DecidableEq κ]
noncomputable def h9(ar:List (κ×V))(k:κ):Option V:=(ar.find? λcZ=>decide (cZ.1=k)).map (·.2)
noncomputable def putK(ar:List (κ×V))(k:κ)(v:V):List (κ×V) :=
 if (ar.any λcZ=>decide (cZ.1=k))=true then ar.map (λcZ=>if cZ.1=k then(cZ.1,v) else cZ) else ar++[(k,v)]
def zb{p:κ×V}{r:List (κ×V)}{k:κ}(e:p.1=k):h9 (p::r) k=some p.2:=by simp[h9,List.find?_cons,e]
def za{p:κ×V}{r:List (κ×V)}{k:κ}(e:¬p.1=k):h9 (p::r) k=h9 r k:=by simp[h9,List.find?_cons,e]
theorem Gh(k:κ):∀ar:List (κ×V),(ar.any λcZ=>decide (cZ.1=k))=(h9 ar k).isSome
 |[]=>rfl
 |p::r=>by
  rw[List.any_cons]
  by_cases e:p.1=k
  .simp only[zb e,decide_eq_true e,Bool.true_or,Option.isSome_some]
  .rw[za e,decide_eq_false e,Bool.false_or];exact Gh k r
def xD(ar:List (κ×V))(k:κ)(v:V):(putK ar k v).length<=ar.length+1:=by
 unfold putK
 split
 .rw[List.length_map];omega
 .rw[V0,List.length_cons,List.length_nil];omega
def jb.Nr{o:Option V}{u:Option Value}(r:jb o u):o.isSome=u.isSome:=by
 cases o with
 |none=>cases u with
  |none=>rfl
  |some _=>exact(show False from r).elim
 |some _=>cases u with
  |none=>exact(show False from r).elim
  |some _=>rfl
def eJ.val{ar:List (κ×V)}{af:List (κ×Value)}(r:eJ ar af)(k:κ):jb (h9 ar k) (valueAt af k):=by
 unfold eJ at r
 induction r with
 |nil=>exact True.intro
 |@cons p q bf jA h t aD =>
  obtain⟨J,aa⟩:=h
  by_cases e:p.1=k
  .have bl:q.1=k:=J.symm.trans e;have b:valueAt (q::jA) k=some q.2:=by simp[valueAt,List.find?_cons,bl]
   rw[zb e,b];exact aa
  .have bl:¬q.1=k:=λz=>e (J.trans z)
   have b:valueAt (q::jA) k=valueAt jA k:=by simp[valueAt,List.find?_cons,bl]
   rw[za e,b];exact aD
theorem eJ.any{ar:List (κ×V)}{af:List (κ×Value)}(r:eJ ar af)(k:κ):(ar.any λcZ=>decide (cZ.1=k))=af.any λcZ=>decide (cZ.1=k):=by
 unfold eJ at r
 induction r with
 |nil=>rfl
 |cons h t aD=>rw[List.any_cons,List.any_cons,aD,h.1]
def eJ.yw{ar:List (κ×V)}{af:List (κ×Value)}(r:eJ ar af)(k:κ){y:V}{u:Value}(bB:RelV y u):
  eJ (ar.map λcZ=>if cZ.1=k then(cZ.1,y) else cZ) (af.map λcZ=>if cZ.1=k then(cZ.1,u) else cZ):=by
 unfold eJ at r ⊢
 induction r with
 |nil=>exact .nil
 |@cons p q bf jA h t aD =>
  rw[List.map_cons,List.map_cons];refine .cons ?_ aD;obtain⟨J,aa⟩:=h
  by_cases e:p.1=k
  .rw[if_pos e,if_pos (J.symm.trans e)];exact⟨J,bB⟩
  .rw[if_neg e,if_neg (λz=>e (J.trans z))];exact⟨J,aa⟩
def eJ.put{ar:List (κ×V)}{af:List (κ×Value)}(r:eJ ar af)(k:κ){y:V}{u:Value}(bB:RelV y u):eJ (putK ar k y) (stored af k u):=by
 unfold putK stored;rw[r.any k]
 by_cases e:(af.any λcZ=>decide (cZ.1=k))=true
 .rw[if_pos e,if_pos e];exact r.yw k bB
 .rw[if_neg e,if_neg e];exact Paired.snoc r ⟨rfl,bB⟩
theorem eJ.length{ar:List (κ×V)}{af:List (κ×Value)}(r:eJ ar af):ar.length=af.length:=Z6 r
end
def tc{P:Program}{w:World}{k:Key}{u:Value}(r:RelV (de k) u):(g9 P w).is k u=true:=by
 cases k with
 |inl i=>obtain⟨t,e⟩:=(show ∃t,u=Value.int i t from r);subst e;exact OI P w i t
 |inr x=>obtain⟨t,e⟩:=(show ∃t,u=Value.str x t from r);subst e;exact OJ P w x t
theorem qV{P:Program}{w:World}:∀{aq:List Key}{us:List Value},Vals (aq.map de) us->ItemsAre (g9 P w) aq us
 |[],_,r=>by rw[Yc]at r;cases r;exact .nil
 |k::aq,_,r=>by
  rw[List.map_cons]at r;cases r with
  |cons h t=>exact .cons (tc h) (qV t)
noncomputable abbrev KT(H:ax):List (List Key×V)->List (List Key×Addr×Value)->Prop:=Paired λp q=>p.1=q.1/\H q.2.1=some (.tup (p.1.map de))/\RelV p.2 q.2.2
def KT.val{H:ax}{ar:List (List Key×V)}{xs:List (List Key×Addr×Value)}(r:KT H ar xs)(k:List Key):jb (h9 ar k) ((atKey xs k).map (·.2)):=by
 induction r with
 |nil=>exact True.intro
 |@cons p q bf jA h t aD =>
  obtain⟨J,_,aa⟩:=h
  by_cases e:p.1=k
  .have bl:q.1=k:=J.symm.trans e;have b:atKey (q::jA) k=some q.2:=by simp[atKey,List.find?_cons,bl]
   rw[zb e,b];exact aa
  .have bl:¬q.1=k:=λz=>e (J.trans z)
   have b:atKey (q::jA) k=atKey jA k:=by simp[atKey,List.find?_cons,bl]
   rw[za e,b];exact aD
def KT.yw{H:ax}{ar:List (List Key×V)}{xs:List (List Key×Addr×Value)}(r:KT H ar xs)(k:List Key){y:V}{u:Value}(bB:RelV y u):
  KT H (ar.map λcZ=>if cZ.1=k then(cZ.1,y) else cZ) (xs.map (putAt k u)):=by
 induction r with
 |nil=>exact .nil
 |@cons p q bf jA h t aD =>
  rw[List.map_cons,List.map_cons];refine .cons ?_ aD;obtain⟨J,aa,aL⟩:=h;unfold putAt
  by_cases e:p.1=k
  .rw[if_pos e,if_pos (J.symm.trans e)];exact⟨J,aa,bB⟩
  .rw[if_neg e,if_neg (λz=>e (J.trans z))];exact⟨J,aa,aL⟩
def KT.put{H:ax}{ar:List (List Key×V)}{xs:List (List Key×Addr×Value)}(r:KT H ar xs)(k:List Key){b:Addr}{y:V}{u:Value}(ae:H b=some (.tup (k.map de)))(bB:RelV y u):
  KT H (putK ar k y) (storedH xs k b u):=by
 have e:(ar.any λcZ=>decide (cZ.1=k))=(atKey xs k).isSome:=by
  rw[Gh,(r.val k).Nr,Option.isSome_map]
 unfold putK storedH;rw[e]
 by_cases q:(atKey xs k).isSome=true
 .rw[if_pos q,if_pos q];exact r.yw k bB
 .rw[if_neg q,if_neg q];exact Paired.snoc r ⟨rfl,ae,bB⟩
def KT.keeps{H ao:ax}{ar:List (List Key×V)}{xs:List (List Key×Addr×Value)}(r:KT H ar xs)(aV:∀b ys,H b=some (.tup ys)->ao b=some (.tup ys)):KT ao ar xs :=
 Paired.xO r λ_ _ z=>⟨z.1,aV _ _ z.2.1,z.2.2⟩
section
variable{P:Program}{w:World}{H:ax}{h:Heap}{a:Addr}
def En{u:dz}(ok:d7 P w H h)(e:hk H a u):dA P w H h a u:=e.ok ok
def vS{ar:List (Key×V)}(ok:d7 P w H h)(e:hk H a (.dI ar)):ar.length<=sizeLine/\(a==sysModules)=false/\∃af,eJ ar af/\h.DictOf (g9 P w) a af :=
 show dA P w H h a (.dI ar) from En ok e
def AI{ar:List (Key×V)}(ok:d7 P w H h)(e:H a=some (.dI ar)):ar.length<=sizeLine/\(a==sysModules)=false/\∃af,eJ ar af/\h.DictOf (g9 P w) a af:=vS ok (.inl e)
def xv{aq:List Key}(ok:d7 P w H h)(e:H a=some (.tup (aq.map de))):(tupleKind (g9 P w)).is h aq a:=by
 obtain⟨_,its,r,o,J,aa,n,aL⟩:=(show dA P w H h a (.tup (aq.map de)) from ok a _ e);exact⟨o,its.toArray,n,J,aa,aL,by simpa using qV r⟩
def vT{ar:List (List Key×V)}(ok:d7 P w H h)(e:hk H a (.d8 ar)):ar.length<=sizeLine/\(a==sysModules)=false /\
  ∃xs,KT H ar xs/\h.DictOfH (tupleKind (g9 P w)) a xs:=by
 obtain⟨z,y,xs,r,o,ag,a4,J,aa,aL,a7,cu⟩:=(show dA P w H h a (.d8 ar) from En ok e);refine⟨z,y,xs,r,o,ag,a4,J,aa,aL,a7,λx ah=>?_,cu⟩
 have all:∀{l:List (List Key×V)}{m:List (List Key×Addr×Value)},KT H l m->∀x∈m,(tupleKind (g9 P w)).is h x.1 x.2.1:=by
  intro l m q
  induction q with
  |nil=>intro x ah;exact nomatch ah
  |@cons p q bf jA aK t aD =>
   intro x ah;rcases V2.mp ah with e|ah
   .subst e;exact xv ok (by rw[<- aK.1];exact aK.2.1)
   .exact aD x ah
 exact all r x ah
def Jv{ar:List (List Key×V)}(ok:d7 P w H h)(e:H a=some (.d8 ar)):ar.length<=sizeLine/\(a==sysModules)=false /\
  ∃xs,KT H ar xs/\h.DictOfH (tupleKind (g9 P w)) a xs:=vT ok (.inl e)
end
noncomputable def uA(H:ax)(a:Addr)(y:V)(r:Option V):Prop :=
 (∃ar k,hk H a (.dI ar)/\y=de k/\r=h9 ar k)\/∃ar k b,hk H a (.d8 ar)/\y=.ref b/\H b=some (.tup (k.map de))/\r=h9 ar k
noncomputable def i8(H:ax)(a:Addr)(y v:V)(ao:ax):Prop :=
 (∃ar k,H a=some (.dI ar)/\y=de k/\ar.length<sizeLine/\ao=upd H a (.dI (putK ar k v))) \/
 ∃ar k b,H a=some (.d8 ar)/\y=.ref b/\H b=some (.tup (k.map de))/\ar.length<sizeLine/\ao=upd H a (.d8 (putK ar k v))
theorem i8.k{H:ax}{a:Addr}{ar:List (Key×V)}{k:Key}{v:V}(e:H a=some (.dI ar))(au:ar.length<sizeLine):i8 H a (de k) v (upd H a (.dI (putK ar k v))):=.inl ⟨ar,k,e,rfl,au,rfl⟩
def i8.t{H:ax}{a b:Addr}{ar:List (List Key×V)}{k:List Key}{v:V}(e:H a=some (.d8 ar))(ed:H b=some (.tup (k.map de)))(au:ar.length<sizeLine):
  i8 H a (.ref b) v (upd H a (.d8 (putK ar k v))):=.inr ⟨ar,k,b,e,rfl,ed,au,rfl⟩
section
variable{X:aS}{pins:List (Addr×Obj)}{σ:St}{H:ax}{s:Shared}{a:Addr}{y v:V}{u r:Value}{o:Option V}{A:Around}{E:Value->Shared->Prop}
def Inv.big(I:Inv X pins σ H s):sysModules<s.heap.objs.size:=by
 have h:mainGlobals<s.heap.objs.size:=(I.mod.glob.keeps I.lM).lt;exact Nat.lt_trans (by decide) h
def Je{Q:Value->Shared->Prop}(bO:A.units+1<cLine)(I:Inv X pins σ H s)(g:uA H a y (some v))(bB:RelV y u)(h:∀ej s',Inv X pins σ H s'->RelV v ej->Q ej s'):
  wpAny (model X.prog X.w) A (getItem (.ref a) u) Q E s:=by
 rcases g with⟨ar,k,e,eK,l⟩|⟨ar,k,b,e,eK,ed,l⟩
 .subst eK;obtain⟨z,hd,af,rel,dD⟩:=vS I.bM e;obtain⟨ej,hw,iA⟩:=jb.some_of (v:=v) (o:=valueAt af k) (by rw[l];exact rel.val k)
  exact wpAny_getItem_of (tc bB) dD.mapOf hw (h ej _ (I.tok _) iA)
 .subst eK;cases (show u=Value.ref b from bB);obtain⟨z,hd,xs,rel,dD⟩:=vT I.bM e;obtain⟨ej,hw,iA⟩:=jb.some_of (v:=v) (o:=(atKey xs k).map (·.2)) (by rw[l];exact rel.val k)
  obtain⟨p,aE,MI⟩:=Option.map_eq_some_iff.mp hw;refine wpAny_getItem_heap (tupleKind_room_in1 bO) (xv I.bM ed) dD aE ?_;rw[MI];exact h ej _ (I.tok _) iA
def vP{h':Heap}{t':Nat}{bX:dz}(I:Inv X pins σ H s)(ai:pN (H a))(ab:Heap.SameBut a s.heap h')(he:∃q,h'.get? a=some q)(new:dA X.prog X.w (upd H a bX) h' a bX):
  Inv X pins σ (upd H a bX) { s with heap:=h',toks:=t' } :=
 I.write (x:=a) (e:=a) ai (.inl rfl) (λb q ae z=>(ab.2 b ae).trans z) he new
def AH{P:Program}{w:World}{ao:ax}{h':Heap}{ar:List (Key×V)}{af:List (Key×Value)}(z:ar.length<=sizeLine)(hd:(a==sysModules)=false)(rel:eJ ar af)(dD:h'.DictOf (g9 P w) a af):
  dA P w ao h' a (.dI ar):=⟨z,hd,af,rel,dD⟩
def Jh{ao:ax}{Q:Unit->Shared->Prop}(bO:A.units+1<cLine)(I:Inv X pins σ H s)(g:i8 H a y v ao)(bB:RelV y u)(b4:RelV v r)(h:∀s',Inv X pins σ ao s'->Q () s'):
  wpAny (model X.prog X.w) A (setItem (.ref a) u r) Q E s:=by
 rcases g with⟨ar,k,e,eK,l,p9⟩|⟨ar,k,b,e,eK,ed,l,p9⟩
 .subst eK p9;obtain⟨z,hd,af,rel,dD⟩:=AI I.bM e;have hz:af.length<=sizeLine:=by rw[<- rel.length];exact z
  have au:(putK ar k v).length<=sizeLine:=by have:=xD ar k v;omega
  refine wpAny_setItem_pairs (hsz:=hz) (tc bB) dD λh' m4 ab=>h _ ?_
  have he:∃q,h'.get? a=some q:=let ⟨q,_,_,aK,_⟩:=m4;⟨q,aK⟩
  exact vP I (by rw[e];exact True.intro) ab he (AH au hd (rel.put k b4) m4)
 .subst eK p9;cases (show u=Value.ref b from bB);obtain⟨z,hd,xs,rel,dD⟩:=Jv I.bM e;have hz:xs.length<=sizeLine:=by rw[<- Z6 rel];exact z
  have au:(putK ar k v).length<=sizeLine:=by have:=xD ar k v;omega
  refine wpAny_setItem_heap (hsz:=hz) (tupleKind_room_in1 bO) (xv I.bM ed) dD λh' m4 ab=>h _ ?_
  obtain⟨q,ag,a4,aK,aa,aL,a7,_,cu⟩:=m4;refine vP I (by rw[e];exact True.intro) ab ⟨q,aK⟩ ⟨au,hd,_,(rel.put k ed b4).keeps λc ys jh=>?_,q,ag,a4,aK,aa,aL,a7,cu⟩
  rw[c8 (OX jh e (λz=>nomatch z))]
  exact jh
end
section
variable{X:aS}{pins:List (Addr×Obj)}{σ:St}{H:ax}{s:Shared}{a:Addr}{ar:List (Key×V)}{k:Key}{u:Value}{A:Around}{E:Value->Shared->Prop}
end
noncomputable def zq(i:Expr):Prop:=∀yb qW,subscripted i false yb qW=operate [yb,qW] (getItem yb qW)
def S7{prog:Program}{w:World}{A:Around}{E:Value->Shared->Prop}{s:Shared}{env:Env}{value slice:Expr}{pos:Pos}{T id:String}{Q:Value->Shared->Prop}(au:typeLookup (.type T) "__getitem__"=pure (some (.builtin id)))(ab:zq slice)(h:wpAny (model prog w) A (eval value env) (λo cG=>wpAny (model prog w) A (eval slice env) (λi hb=>hb.TypeIs o T/\wpAny (model prog w) A (getItem o i) Q E hb) E cG) E s):
  wpAny (model prog w) A (eval (.Subscript value slice pos) env) Q E s:=by
 refine Subscript_ (WY h (λo cG g6=>WY g6 (λi hb qO=>?_) λ_ _ x=>x) λ_ _ x=>x)
 obtain⟨c3,qO⟩:=qO;unfold subscriptTail;refine VW ?_;rw[getitemInPython_of_ne c3.not_modules];refine VW (ZW c3 au ?_);have fin:wpAny (model prog w) A (subscripted slice false o i) (λr pl=>wpAny (model prog w) A (letTemporaryGo value o r>>=λ_=>pure r) Q E pl) E hb:=by
  rw[ab o i];exact wpAny_operating (WY qO (λr pl sZ=>VW (wpAny_letTemporaryGo (wpAny_pure sZ))) λ_ _ x=>x)
 first
  |exact wpAny_pure (VW fin)
  |exact VW (wpAny_pure (VW fin))
  |exact VW fin
def Jn{X:aS}{pins:List (Addr×Obj)}{σ:St}{H:ax}{s:Shared}{a:Addr}{y:V}{o:Option V}(I:Inv X pins σ H s)(g:uA H a y o):s.TypeIs (.ref a) "dict":=by
 rcases g with⟨ar,k,e,_,_⟩|⟨ar,k,b,e,_,_,_⟩
 .obtain⟨_,_,af,_,dD⟩:=vS I.bM e;exact dD.typeIs
 .obtain⟨_,_,xs,_,dD⟩:=vT I.bM e;exact dD.typeIs
noncomputable def yU(lp ty:TE):TE:=λσ H Q=>lp σ H λx H1=>ty σ H1 λy aY=>∃a v,x=.ref a/\uA aY a y (some v)/\Q v aY
noncomputable def Rp(lp ty km:TE):gT:=λD σ H=>km σ H λv H1=>lp σ H1 λx aY=>ty σ aY λy b8=>∃a fB,x=.ref a/\i8 b8 a y v fB/\D.cg σ fB
section
variable{X:aS}{o i e value:Expr}{pos pos' T9:Pos}{lp ty km:TE}
def PO(bO:X.A.units+1<cLine)(ay:aP X o lp)(hi:aP X i ty)(ab:zq i):aP X (.Subscript o i pos) (yU lp ty):=by
 intro pins s σ H Q I h;refine S7 PySem.F.slot_dict_getitem.lookup ab (bK (ay pins s σ H _ I h) λu s1 ⟨x,H1,bg,aW,aN⟩=>bK (hi pins s1 σ H1 _ bg aN) λqW s2 ⟨y,aY,cS,bB,a,v,ex,g,ba⟩=>?_)
 subst ex;obtain rfl:u=Value.ref a:=aW;exact⟨Jn cS g,Je bO cS g bB λej s3 eW iA=>⟨v,aY,eW,iA,ba⟩⟩
def QC(bO:X.A.units+1<cLine)(ay:aP X o lp)(hi:aP X i ty)(aT:aP X value km)(ab:swapsWith value (some (.Subscript o i pos')) pos.line X.env=pure false):
  eD X (.Assign [.Subscript o i pos'] value pos) (Rp lp ty km):=by
 intro pins s σ H D I h;refine wpAny_Assign_Subscript (bK (aT pins s σ H _ I h) λr s1 ⟨v,H1,bg,b4,aN⟩=>bK (ay pins s1 σ H1 _ bg aN) λu s2 ⟨x,aY,cS,aW,ba⟩=>bK (hi pins s2 σ aY _ cS ba) λqW s3 ⟨y,b8,eW,bB,a,fB,ex,g,b5⟩=>?_) ab
 subst ex;obtain rfl:u=Value.ref a:=aW;exact Jh bO eW g bB b4 λs4 fK=>⟨σ,fB,fK,b5⟩
end
def AF{P:Program}{w:World}{H:ax}(h:Heap)(ae:sysModules<h.objs.size):dA P w H (h.push { cls:=.type "dict",data:=.dict #[] }) h.objs.size (.dI []) :=
 ⟨V6 _,WC.mpr (Xr (Wn ae)),[],.nil,Heap.DictOf.new h⟩
def Ju{P:Program}{w:World}{H:ax}(h:Heap)(ae:sysModules<h.objs.size):dA P w H (h.push { cls:=.type "dict",data:=.dict #[] }) h.objs.size (.d8 []) :=
 ⟨V6 _,WC.mpr (Xr (Wn ae)),[],.nil,_,#[],0,Wc _ rfl,⟨rfl,rfl,rfl⟩,rfl,rfl,X8⟩
noncomputable def Tf:TE:=λ_ H Q=>∀p,H p=none->Q (.ref p) (upd H p (.dI []))
noncomputable def Tg:TE:=λ_ H Q=>∀p,H p=none->Q (.ref p) (upd H p (.d8 []))
section
variable{X:aS}{pos:Pos}
def DZ:aP X (.Dict [] [] pos) Tf:=λpins s σ H Q I h =>
 wpAny_Dict_empty ⟨.ref s.heap.objs.size,_,I.laid (a:=s.heap.objs.size) (o:=.dI []) (t':=s.toks) (λ_ _ q=>VY _ q) (VZ _) (AF s.heap I.big),rfl,h _ (I.bM.fresh (VZ _))⟩
def PR:aP X (.Dict [] [] pos) Tg:=λpins s σ H Q I h =>
 wpAny_Dict_empty ⟨.ref s.heap.objs.size,_,I.laid (a:=s.heap.objs.size) (o:=.d8 []) (t':=s.toks) (λ_ _ q=>VY _ q) (VZ _) (Ju s.heap I.big),rfl,h _ (I.bM.fresh (VZ _))⟩
end
noncomputable def yW:List (TE×TE)->St->ax->(List (V×V)->ax->Prop)->Prop
 |[],_,H,Q=>Q [] H
 |(tk,km)::r,σ,H,Q=>tk σ H λx H1=>km σ H1 λy aY=>yW r σ aY λbf b8=>Q ((x,y)::bf) b8
noncomputable abbrev zB:List (V×V)->List (Value×Value)->Prop:=Paired λp q=>RelV p.1 q.1/\RelV p.2 q.2
noncomputable def rV(X:aS)(pos:Pos)(keys:List (Option Expr))(values:List Expr)(lq:List (TE×TE)):Prop :=
 ∀(pins:List (Addr×Obj))(s:Shared)(σ:St)(H:ax)(Q:List (V×V)->ax->Prop),Inv X pins σ H s->yW lq σ H Q ->
  wpAny (model X.prog X.w) X.A (evalPairs (pairTrees keys values X.env pos)) (λaf s'=>∃bf ao,Inv X pins σ ao s'/\zB bf af/\Q bf ao) X.cC s
def Qx{X:aS}{pos:Pos}:rV X pos [] [] []:=λpins s σ H Q I h=>pairTrees_nil_walk ⟨[],H,I,.nil,h⟩
def Qw{X:aS}{pos:Pos}{k v:Expr}{aq:List (Option Expr)}{af:List Expr}{tk km:TE}{lq:List (TE×TE)}(aw:aP X k tk)(aT:aP X v km)(a9:rV X pos aq af lq):
  rV X pos (some k::aq) (v::af) ((tk,km)::lq):=λpins s σ H Q I h =>
 pairTrees_cons_walk (bK (aw pins s σ H _ I h) λu s1 ⟨x,H1,bg,aW,aN⟩=>bK (aT pins s1 σ H1 _ bg aN) λjH s2 ⟨y,aY,cS,bB,ba⟩ =>
  bK (a9 pins s2 σ aY _ cS ba) λws s3 ⟨bf,b8,eW,rel,b5⟩=>⟨(x,y)::bf,b8,eW,.cons ⟨aW,bB⟩ rel,b5⟩)
noncomputable def oW(ar more:List (Key×V)):List (Key×V):=more.foldl (λacc cZ=>putK acc cZ.1 cZ.2) ar
def eJ.merge:∀{more:List (Key×V)}{rs:List (Key×Value)}{ar:List (Key×V)}{af:List (Key×Value)},eJ more rs->eJ ar af->eJ (oW ar more) (merged af rs):=by
 intro more rs ar af r;unfold eJ at r
 induction r generalizing ar af with
 |nil=>intro q;exact q
 |@cons p q bf jA h t aD =>
  intro hE;have e:eJ (putK ar p.1 p.2) (stored af q.1 q.2):=by
   have:=hE.put p.1 h.2;rw[<- h.1];exact this
  exact aD e
theorem CY:∀(more ar:List (Key×V)),(oW ar more).length<=ar.length+more.length
 |[],ar=>by show ar.length<=ar.length+0;omega
 |p::r,ar=>by
  have J:=CY r (putK ar p.1 p.2);have aa:=xD ar p.1 p.2;show(oW (putK ar p.1 p.2) r).length<=_;rw[List.length_cons];omega
theorem Ac{P:Program}{w:World}:∀{ar:List (Key×V)}{ws:List (Value×Value)},zB (ar.map λcZ=>(de cZ.1,cZ.2)) ws->∃rs,Carries (g9 P w) ws rs/\eJ ar rs
 |[],_,r=>by rw[Yc]at r;cases r;exact⟨[],True.intro,.nil⟩
 |p::ar,_,r=>by
  rw[List.map_cons]at r;cases r with
  |@cons a b as bs h t =>
   obtain⟨rs,c,q⟩:=Ac (P:=P) (w:=w) t;obtain⟨b1,b2⟩:=b;exact⟨(p.1,b2)::rs,⟨tc h.1,rfl,c⟩,.cons ⟨rfl,h.2⟩ q⟩
noncomputable def Th(lq:List (TE×TE)):TE:=λσ H Q=>∀p,H p=none->yW lq σ (upd H p (.dI [])) λbf aY=>aY p=some (.dI [])/\∃ar:List (Key×V),bf=ar.map (λcZ=>(de cZ.1,cZ.2))/\ar.length<=15/\Q (.ref p) (upd aY p (.dI (oW [] ar)))
def PQ{X:aS}{pos:Pos}{keys:List (Option Expr)}{values:List Expr}{lq:List (TE×TE)}(h:rV X pos keys values lq)(fQ:keys.all (·.isSome)=true)(au:keys.length=values.length)(h0:keys≠[])(LA:keys.length<=15):aP X (.Dict keys values pos) (Th lq):=by
 intro pins s σ H Q I q;have az:=I.bM.fresh (VZ s.heap.objs.size);have bg:=I.laid (a:=s.heap.objs.size) (o:=.dI []) (h':=s.heap.push { cls:=.type "dict",data:=.dict #[] }) (t':=s.toks) (λ_ _ q=>VY _ q) (VZ _) (AF s.heap I.big)
 refine wpAny_Dict_walk (knd:=g9 X.prog X.w) fQ au h0 LA (bK (h pins _ σ _ _ bg (q _ az)) λws s2 ⟨bf,aY,cS,rel,e,ar,a4,lk,ba⟩=>?_)
 subst a4;obtain⟨rs,c,eU⟩:=Ac (P:=X.prog) (w:=X.w) rel;obtain⟨z,hd,VT,hE,dD⟩:=AI cS.bM e;cases hE;refine⟨rs,c,dD,λh' m4 ab=>⟨.ref s.heap.objs.size,_,?_,rfl,ba⟩⟩
 have hz:(oW [] ar).length<=sizeLine:=by
  have J:=CY ar [];rw[List.length_nil]at J;rw[sizeLine_eq];omega
 have he:∃q,h'.get? s.heap.objs.size=some q:=let ⟨q,_,_,aK,_⟩:=m4;⟨q,aK⟩
 exact vP cS (by rw[e];exact True.intro) ab he (AH hz hd (eU.merge .nil) m4)
structure U6(X:aS)(o:Expr)(m:Str)(apos:Pos)(e:Expr)(gr:Pos):Prop where
 base:attributeBase o m X.env (eval o X.env)=eval o X.env
 Bg:((backTo gr (starEach [e] X.env)).all (λx=>!x.1)&&(backToKw gr (keywordEach [] X.env)).all (λx=>x.1.isSome)
  && decide (([e]:List Expr).length+([]:List Keyword).length+(if ([]:List Keyword).isEmpty then 0 else 1)<30))=true
 line:(apos.endLine==gr.line)=true
 trees:backTo gr (starEach [e] X.env)=[(false,eval e X.env)]
structure M2(X:aS)(o:Expr)(m:Str)(apos:Pos)(e f:Expr)(gr:Pos):Prop where
 base:attributeBase o m X.env (eval o X.env)=eval o X.env
 Bg:((backTo gr (starEach [e,f] X.env)).all (λx=>!x.1)&&(backToKw gr (keywordEach [] X.env)).all (λx=>x.1.isSome)
  && decide (([e,f]:List Expr).length+([]:List Keyword).length+(if ([]:List Keyword).isEmpty then 0 else 1)<30))=true
 line:(apos.endLine==gr.line)=true
 trees:backTo gr (starEach [e,f] X.env)=[(false,eval e X.env),(false,eval f X.env)]
section
variable{X:aS}{pins:List (Addr×Obj)}{σ:St}{H:ax}{s:Shared}{a:Addr}{y d:V}{u r:Value}{o:Option V}{A:Around}{E:Value->Shared->Prop}
end
section
variable{X:aS}{o e f:Expr}{apos gr:Pos}{lp ty VP:TE}
end
section
variable{X:aS}{pins:List (Addr×Obj)}{σ:St}{H:ax}{s:Shared}{a:Addr}{ar:List (Key×V)}{A:Around}{E:Value->Shared->Prop}
end
section
variable{X:aS}{pins:List (Addr×Obj)}{σ:St}{H:ax}{s:Shared}{a:Addr}{y:V}{u:Value}{A:Around}{E:Value->Shared->Prop}
end
end bJ
end
set_option autoImplicit false
set_option linter.all false
set_option maxRecDepth 100000
set_option maxHeartbeats 8000000
local macro_rules | `(tactic| omega) => `(tactic| first | decide | assumption | exact Nat.le_trans (by assumption) (by decide) | exact Nat.lt_succ_of_le (by assumption) | exact Nat.le_of_succ_le_succ (by assumption) | exact Nat.le_succ_of_le (by assumption) | exact Nat.le_of_lt (by assumption) | exact Nat.not_le.mp (by assumption) | exact Nat.not_lt.mp (by assumption) | exact Int.le_trans (by assumption) (by decide) | lia)
section
namespace Den
open PySem
inductive R(α:Type) where
 |ok (a:α)
 |exc (c:Nat)
 |bad
noncomputable def R.bind{α β:Type}:R α->(α->R β)->R β
 |.ok a,f=>f a
 |.exc c,_=>.exc c
 |.bad,_=>.bad
noncomputable instance:Monad R where
 pure:=R.ok
 bind:=R.bind
def bc{α:Type}{a b:α}(h:a=b):a=b:=h
@[simp] theorem R.ml {α β:Type} (a:α) (f:α->R β):(R.ok a>>=f)=f a:=bc rfl
@[simp] theorem R.Kx {α β:Type} (c:Nat) (f:α->R β):(R.exc c>>=f)=R.exc c:=bc rfl
@[simp] theorem R.Va {α β:Type} (f:α->R β):(R.bad>>=f)=R.bad:=bc rfl
@[simp] theorem R.VM {α:Type} (a:α):(pure a:R α)=R.ok a:=rfl
inductive D where
 |cU
 |aU (b:Bool)
 |int (i:Int)
 |str (x:Str)
 |tup (xs:List D)
 |lst (xs:List D)
 |bT (ar:List (List Int×Int))
 |bx (ar:List (Int×Int×Int))
 |eR (c:Nat)
mutual
noncomputable def gW:D->D->Bool
 |.cU,.cU=>true
 |.aU a,.aU b=>a==b
 |.aU a,.int j=>(if a then 1 else 0)==j
 |.int i,.aU b=>i==(if b then 1 else 0)
 |.int i,.int j=>i==j
 |.str x,.str y=>x==y
 |.tup xs,.tup ys=>m8 xs ys
 |.lst xs,.lst ys=>m8 xs ys
 |_,_=>false
noncomputable def m8:List D->List D->Bool
 |[],[]=>true
 |x::xs,y::ys=>gW x y&&m8 xs ys
 |_,_=>false
end
mutual
noncomputable def ka:D->D->Option Bool
 |.int i,.int j=>some (decide (i<j))
 |.tup xs,.tup ys=>kb xs ys
 |_,_=>none
noncomputable def kb:List D->List D->Option Bool
 |[],[]=>some false
 |[],_::_=>some true
 |_::_,[]=>some false
 |x::xs,y::ys=>if gW x y then kb xs ys else ka x y
end
noncomputable def fp:Nat->D->Bool
 |0,.int _=>true
 |n+1,.tup xs=>xs.all (fp n)
 |_,_=>false
noncomputable def nA(x:D):List D->List D
 |[]=>[x]
 |y::ys=>if ka y x=some true then y::nA x ys else x::y::ys
noncomputable def gi:List D->List D
 |[]=>[]
 |x::xs=>nA x (gi xs)
noncomputable def kE:List D->List D
 |[]=>[]
 |x::xs=>if xs.any (gW x) then kE xs else x::kE xs
noncomputable def oN:D->Bool
 |.tup (x::xs)=>fp 0 x&&xs.all (fp 0)
 |_=>false
noncomputable def nB:D->Bool
 |.tup (x::xs)=>oN x&&xs.all oN
 |_=>false
noncomputable def hY(xs:List D):Bool:=xs.all (fp 0)||xs.all oN
noncomputable def SZ:Nat:=16777216
noncomputable def gB:Int:=18446744073709551616
noncomputable def sorted(xs:List D):R D:=if (hY xs||xs.all nB)&&xs.length<=255 then .ok (.lst (gi xs)) else .bad
noncomputable def fJ(xs:List D):R D:=if hY xs&&(kE xs).length<=255 then .ok (.lst (gi (kE xs))) else .bad
inductive Op where
 |add|sub|mul|fdiv|mod|and|xor
inductive gM where
 |eq|ne|lt|le|gt|ge|is|qU|mem|k4
noncomputable def mR(i j:Int):R D:=if 0<=i then(if 0<=j then .ok (.int (i.toNat &&& j.toNat:Nat)) else .ok (.int (i-(i.toNat &&& (-j-1).toNat:Nat)))) else .bad
noncomputable def rM(i j:Int):R D:=if 0<=i/\0<=j then .ok (.int (i.toNat ^^^ j.toNat:Nat)) else .bad
noncomputable def dT:Op->D->D->R D
 |.and,.int i,.int j=>mR i j
 |.xor,.int i,.int j=>rM i j
 |.add,.int i,.int j=>.ok (.int (i+j))
 |.add,.str x,.str y=>if x.length+y.length<=SZ then .ok (.str (x++y)) else .bad
 |.add,.tup xs,.tup ys=>if xs.length+ys.length<=SZ then .ok (.tup (xs++ys)) else .bad
 |.add,.lst xs,.lst ys=>if xs.length+ys.length<=SZ then .ok (.lst (xs++ys)) else .bad
 |.sub,.int i,.int j=>.ok (.int (i-j))
 |.mul,.int i,.int j=>if (-gB<i/\i<gB)\/(-gB<j/\j<gB) then .ok (.int (i*j)) else .bad
 |.mul,.tup xs,.int j=>if 2<=j/\xs≠[]/\xs.length*j.toNat<=SZ/\j<1000 then .ok (.tup (List.replicate j.toNat xs).flatten) else .bad
 |.fdiv,.int i,.int j=>if 0<j/\j<1073741824 then .ok (.int (i / j)) else .bad
 |.mod,.int i,.int j=>if 0<j then .ok (.int (i%j)) else .bad
 |_,_,_=>.bad
noncomputable def ha:R Bool->R Bool
 |.ok b=>.ok (!b)
 |.exc c=>.exc c
 |.bad=>.bad
noncomputable def dw:Nat->D->Bool
 |_,.cU=>true
 |_,.aU _=>true
 |_,.int _=>true
 |_,.str x=>x.cps.all (· < 0x110000)
 |n+1,.tup xs=>xs.all (dw n)
 |n+1,.lst xs=>xs.all (dw n)
 |_,_=>false
noncomputable def gX(x y:D):R Bool:=if dw 60 x&&dw 60 y then .ok (gW x y) else .bad
noncomputable def memD(x:D)(xs:List D):Bool:=xs.any λy=>gW y x
noncomputable def hZ(x:D)(ys:List D):R Bool:=if dw 60 x&&ys.all (dw 60) then .ok (memD x ys) else .bad
noncomputable def oO:D->D->R Bool
 |.cU,.cU=>.ok true
 |_,.cU=>.ok false
 |.aU a,.aU b=>.ok (a==b)
 |_,.aU _=>.ok false
 |_,_=>.bad
noncomputable def x5:Option Bool->R Bool
 |some b=>.ok b
 |none=>.bad
noncomputable def ti(x y:D):R Bool:=if (fp 0 x&&fp 0 y)||(fp 1 x&&fp 1 y) then x5 (ka x y) else .bad
noncomputable def dq:gM->D->D->R Bool
 |.eq,x,y=>gX x y
 |.ne,x,y=>ha (gX x y)
 |.lt,x,y=>ti x y
 |.gt,.int i,.int j=>.ok (decide (j<i))
 |.le,.int i,.int j=>.ok (decide (i<=j))
 |.ge,.int i,.int j=>.ok (decide (j<=i))
 |.is,x,y=>oO x y
 |.qU,x,y=>ha (oO x y)
 |.mem,x,.tup ys=>hZ x ys
 |.mem,x,.lst ys=>hZ x ys
 |.k4,x,.tup ys=>ha (hZ x ys)
 |.k4,x,.lst ys=>ha (hZ x ys)
 |_,_,_=>.bad
noncomputable def iW(n:Nat)(i:Int):Option Nat:=if 0<=i then(if i<n then some i.toNat else none) else(if 0<=i+n then some (i+n).toNat else none)
noncomputable def hQ{α:Type}(xs:List α)(i:Int):Option α:=(iW xs.length i).bind (xs[·]?)
noncomputable def g7:D->D->R D
 |.tup xs,.int i=>match hQ xs i with|some d=>.ok d|none=>.bad
 |.lst xs,.int i=>match hQ xs i with|some d=>.ok d|none=>.bad
 |.str x,.int i=>if x.length<=SZ then(match hQ x.cps.toList i with|some c=>.ok (.str ⟨#[c]⟩)|none=>.bad) else .bad
 |_,_=>.bad
noncomputable def bN(n d:Nat):Option Int->Nat
 |none=>d
 |some i=>if i<0 then(if i+n<0 then 0 else(i+n).toNat) else(if (n:Int)<i then n else i.toNat)
noncomputable def cut{α:Type}(xs:List α)(lo hi:Option Int):List α:=(xs.drop (bN xs.length 0 lo)).take (bN xs.length xs.length hi-bN xs.length 0 lo)
noncomputable def kh(d:D)(lo hi:Option Int):R D:=match d with
 |.tup xs=>.ok (.tup (cut xs lo hi))
 |.lst xs=>.ok (.lst (cut xs lo hi))
 |_=>.bad
noncomputable def jv:D->R D
 |.tup xs=>.ok (.int xs.length)
 |.lst xs=>.ok (.int xs.length)
 |.str x=>if x.length<=SZ then .ok (.int x.length) else .bad
 |_=>.bad
inductive Ty where
 |int|bool|str|tuple|cls (c:Nat)
noncomputable abbrev gE:=Nat->List Nat
noncomputable def j6(up:gE)(d:D):Ty->R Bool
 |.int=>.ok (match d with|.int _=>true|.aU _=>true|_=>false)
 |.bool=>.ok (match d with|.aU _=>true|_=>false)
 |.str=>.ok (match d with|.str _=>true|_=>false)
 |.tuple=>.ok (match d with|.tup _=>true|_=>false)
 |.cls c=>match d with|.eR k=>.ok ((up k).contains c)|_=>.bad
noncomputable def fj:D->R (List D)
 |.tup xs=>.ok xs
 |.lst xs=>.ok xs
 |_=>.bad
noncomputable def eM(lo hi:Int):List D:=(List.range (hi-lo).toNat).map λk=>.int (lo+(k:Nat))
noncomputable def nO(i:Int):Bool:=decide (-4611686018427387904<=i/\i<4611686018427387904)
noncomputable def iz(i j:Int):R (List D):=if nO i&&nO j&&decide ((j-i).toNat<=1000000) then .ok (eM i j) else .bad
inductive eE where
 |len|inst (t:Ty)|sorted|fJ|sum|max
mutual
inductive E where
 |var (i:Nat)
 |lit (d:D)
 |glob (j:Nat)
 |tup (a:A)
 |lst (a:A)
 |bin (op:Op) (a b:E)
 |not (a:E)
 |neg (a:E)
 |ite (c a b:E)
 |cmp (op:gM) (a b:E)
 |r7 (op op':gM) (a b c:E)
 |and (a b:E)
 |or (a b:E)
 |idx (a b:E)
 |slice (a:E) (lo hi:O)
 |call (f:Nat) (a:A)
 |prim (p:eE) (a:E)
 |tupI (s:I)
 |nG (s:I)
 |comp (elt:E) (k:Nat) (s:I) (c:O)
 |hN (i j:Nat)
 |oq (i j:Nat)
 |ot
inductive A where
 |nil
 |cons (e:E) (a:A)
inductive O where
 |none
 |some (e:E)
inductive I where
 |seq (e:E)
 |e6 (a:E)
 |tM (a b:E)
 |lS (i:Nat)
end
noncomputable abbrev a6:=List (Option D)
noncomputable abbrev dy:=Nat->List D->R D
noncomputable def fO:Nat->D->R (List (Option D))
 |0,d=>.ok [some d]
 |k,.tup xs=>if xs.length=k then .ok (xs.map some) else .bad
 |_,_=>.bad
noncomputable def dC(f:D->R (Option D)):List D->R (List D)
 |[]=>.ok []
 |d::ds=>f d>>=λo=>dC f ds>>=λr=>match o with|some x=>.ok (x::r)|none=>.ok r
noncomputable def iw{α:Type}:R α->R α
 |.exc _=>.bad
 |r=>r
noncomputable def intsOf:List D->Option (List Int)
 |[]=>some []
 |.int i::xs=>(intsOf xs).map (i::·)
 |_=>none
noncomputable def oR:D->R (List D)
 |.lst xs=>.ok xs
 |_=>.bad
noncomputable def i3(xs:List D):R D:=match intsOf xs with
 |some ns=>.ok (.int ns.sum)
 |none=>.bad
noncomputable def kc(xs:List D):R D:=match intsOf xs with
 |some (n::ns)=>.ok (.int (ns.foldl (λm x=>if x>m then x else m) n))
 |_=>.bad
noncomputable def k7(up:gE):eE->D->R D
 |.len,d=>jv d
 |.inst t,d=>j6 up d t>>=λb=>.ok (.aU b)
 |.sorted,d=>fj d>>=λxs=>sorted xs
 |.fJ,d=>fj d>>=λxs=>fJ xs
 |.sum,d=>oR d>>=λxs=>i3 xs
 |.max,d=>oR d>>=λxs=>kc xs
noncomputable def nZ(ar:List (List Int×Int))(k:List Int):Option Int:=(ar.find? λp=>decide (p.1=k)).map (·.2)
noncomputable def putN(ar:List (List Int×Int))(k:List Int)(n:Int):List (List Int×Int):=if (ar.any λp=>decide (p.1=k))=true then ar.map (λp=>if p.1=k then(p.1,n) else p) else ar++[(k,n)]
noncomputable def nQ(r:Int×Int):D:=.tup [.int r.1,.int r.2]
noncomputable def mC(ar:List (Int×Int×Int))(k:Int):Option (Int×Int):=(ar.find? λp=>decide (p.1=k)).map (·.2)
noncomputable def k8(ar:List (Int×Int×Int))(k:Int)(r:Int×Int):List (Int×Int×Int):=if (ar.any λp=>decide (p.1=k))=true then ar.map (λp=>if p.1=k then(p.1,r) else p) else ar++[(k,r)]
noncomputable def jR:Option (Option D)->Option (List (List Int×Int))
 |some (some (.bT ar))=>some ar
 |_=>none
noncomputable def iP:Option (Option D)->Option (List (Int×Int×Int))
 |some (some (.bx ar))=>some ar
 |_=>none
noncomputable def rowOf:D->Option (Int×Int)
 |.tup ds=>(match intsOf ds with|some [a,b]=>some (a,b)|_=>none)
 |_=>none
noncomputable def intD:D->Option Int
 |.int i=>some i
 |_=>none
noncomputable def jF:D->Option (List Int)
 |.tup ds=>intsOf ds
 |_=>none
noncomputable def f5{α:Type}(f:D->Option α):Option (Option D)->Option α
 |some (some d)=>f d
 |_=>none
noncomputable def kG(o p:Option (Option D)):R D:=match jR o,f5 jF p with
 |some ar,some k=>(match nZ ar k with|some n=>.ok (.int n)|none=>.bad)
 |_,_=>(match iP o,f5 intD p with|some ar,some k=>(match mC ar k with|some r=>.ok (nQ r)|none=>.bad)|_,_=>.bad)
noncomputable def ou(o p:Option (Option D))(d:D):R D:=match jR o,f5 jF p,intD d with
 |some ar,some k,some n=>if ar.length<1000 then .ok (.bT (putN ar k n)) else .bad
 |_,_,_=>(match iP o,f5 intD p,rowOf d with|some ar,some k,some r=>if ar.length<1000 then .ok (.bx (k8 ar k r)) else .bad|_,_,_=>.bad)
noncomputable def p6(p q:Option (Option D)):R D:=match f5 intD p,f5 rowOf q with
 |some k,some r=>.ok (.bx [(k,r)])
 |_,_=>.bad
noncomputable def oo(o:Option (Option D)):R (List D):=match jR o with
 |some ar=>.ok (ar.map λp=>.tup (p.1.map .int))
 |none=>(match iP o with|some ar=>.ok (ar.map λp=>.int p.1)|none=>.bad)
noncomputable def th:Option (Option D)->R D
 |some (some (.lst ds))=>.ok (.lst ds)
 |_=>.bad
noncomputable def p5:Option (Option D)->R D
 |some (some (.bT ar))=>.ok (.bT ar)
 |some (some (.bx ar))=>.ok (.bx ar)
 |_=>.bad
noncomputable def fe:D->R Bool
 |.aU b=>.ok b
 |_=>.bad
noncomputable def f3:D->R Int
 |.int i=>.ok i
 |_=>.bad
noncomputable def wy:Option (Option D)->R D
 |some (some d)=>.ok d
 |_=>.bad
noncomputable def wx:Option D->R D
 |some d=>.ok d
 |none=>.bad
structure dm where
 up:gE
 cs:List D
section
variable(pg:dm)(Φ:dy)
mutual
noncomputable def ev (C:a6):E->R D
 |.var i=>wy C[i]?
 |.lit d=>.ok d
 |.glob j=>wx pg.cs[j]?
 |.tup a=>hr C a>>=λds=>.ok (.tup ds)
 |.lst a=>hr C a>>=λds=>.ok (.lst ds)
 |.bin op a b=>ev C a>>=λx=>ev C b>>=λy=>dT op x y
 |.neg a=>ev C a>>=λx=>f3 x>>=λi=>.ok (.int (-i))
 |.ite c a b=>ev C c>>=λx=>fe x>>=λk=>if k then ev C a else ev C b
 |.not a=>ev C a>>=λx=>fe x>>=λb=>.ok (.aU (!b))
 |.cmp op a b=>ev C a>>=λx=>ev C b>>=λy=>dq op x y>>=λc=>.ok (.aU c)
 |.r7 op op' a b c=>ev C a>>=λx=>ev C b>>=λy=>dq op x y>>=λk=>if k then ev C c>>=λz=>dq op' y z>>=λdj=>.ok (.aU dj) else .ok (.aU false)
 |.and a b=>ev C a>>=λx=>fe x>>=λk=>if k then ev C b else .ok (.aU false)
 |.or a b=>ev C a>>=λx=>fe x>>=λk=>if k then .ok (.aU true) else ev C b
 |.idx a b=>ev C a>>=λx=>ev C b>>=λy=>g7 x y
 |.slice a lo hi=>ev C a>>=λx=>lW C lo>>=λl=>lW C hi>>=λh=>kh x l h
 |.call f a=>hr C a>>=λds=>Φ f ds
 |.prim p a=>ev C a>>=λx=>k7 pg.up p x
 |.tupI s=>gG C s>>=λds=>.ok (.tup ds)
 |.nG s=>gG C s>>=λds=>.ok (.lst ds)
 |.hN i j=>kG C[i]? C[j]?
 |.oq i j=>p6 C[i]? C[j]?
 |.ot=>.ok (.bx [])
 |.comp e k s c=>gG C s>>=λds=>iw (dC (λd=>fO k d>>=λaf=>kL (C++af) c>>=λb=>if b then ev (C++af) e>>=λy=>.ok (some y) else .ok none) ds)>>=λys=>.ok (.lst ys)
noncomputable def hr (C:a6):A->R (List D)
 |.nil=>.ok []
 |.cons e a=>ev C e>>=λx=>hr C a>>=λxs=>.ok (x::xs)
noncomputable def lW (C:a6):O->R (Option Int)
 |.none=>.ok none
 |.some e=>ev C e>>=λx=>f3 x>>=λi=>.ok (some i)
noncomputable def kL (C:a6):O->R Bool
 |.none=>.ok true
 |.some e=>ev C e>>=λx=>fe x
noncomputable def gG (C:a6):I->R (List D)
 |.seq e=>ev C e>>=λx=>fj x
 |.e6 a=>ev C a>>=λx=>f3 x>>=λi=>iz 0 i
 |.tM a b=>ev C a>>=λx=>f3 x>>=λi=>ev C b>>=λy=>f3 y>>=λj=>iz i j
 |.lS i=>oo C[i]?
end
end
mutual
inductive S where
 |asg (i:Nat) (e:E)
 |app (i:Nat) (e:E)
 |m5 (i:Nat)
 |pf (i:Nat)
 |pe (i:Nat)
 |m6 (i:Nat)
 |jg (i j:Nat) (e:E)
 |ext (i:Nat) (e:E)
 |ret (e:E)
 |iff (c:E) (a b:B)
 |gs (k:Nat) (ts:List Nat) (s:I) (b:B)
inductive B where
 |nil
 |cons (s:S) (b:B)
end
inductive fb where
 |cg (C:a6)
 |dR (d:D)
noncomputable def lg:List Nat->List (Option D)->a6->a6
 |i::is,v::af,C=>lg is af (C.set i v)
 |_,_,C=>C
noncomputable def forL(f:D->a6->R fb):List D->a6->R fb
 |[],C=>.ok (.cg C)
 |d::ds,C=>f d C>>=λr=>match r with
  |.cg c0=>forL f ds c0
  |.dR x=>.ok (.dR x)
noncomputable def pV:Option (Option D)->D->R D
 |some (some (.lst xs)),d=>if xs.length<SZ then .ok (.lst (xs++[d])) else .bad
 |_,_=>.bad
noncomputable def sj:Option (Option D)->D->R D
 |some (some (.lst xs)),.lst ys=>if xs.length+ys.length<=SZ then .ok (.lst (xs++ys)) else .bad
 |_,_=>.bad
noncomputable def lO:Option (Option D)->R Unit
 |some (some (.lst _))=>.ok ()
 |_=>.bad
section
variable(pg:dm)(Φ:dy)
mutual
noncomputable def ex (C:a6):S->R fb
 |.asg i e=>ev pg Φ C e>>=λd=>.ok (.cg (C.set i (some d)))
 |.app i e=>lO C[i]?>>=λ_=>ev pg Φ C e>>=λd=>pV C[i]? d>>=λx=>.ok (.cg (C.set i (some x)))
 |.ret e=>ev pg Φ C e>>=λd=>.ok (.dR d)
 |.pf i=>th C[i]?>>=λd=>.ok (.dR d)
 |.pe i=>p5 C[i]?>>=λd=>.ok (.dR d)
 |.m5 i=>.ok (.cg (C.set i (some (.bT []))))
 |.m6 i=>.ok (.cg (C.set i (some (.bx []))))
 |.jg i j e=>ev pg Φ C e>>=λd=>ou C[i]? C[j]? d>>=λx=>.ok (.cg (C.set i (some x)))
 |.ext i e=>lO C[i]?>>=λ_=>ev pg Φ C e>>=λd=>sj C[i]? d>>=λx=>.ok (.cg (C.set i (some x)))
 |.iff c a b=>ev pg Φ C c>>=λx=>fe x>>=λk=>if k then eQ C a else eQ C b
 |.gs k ts s b=>gG pg Φ C s>>=λds=>forL (λd c0=>fO k d>>=λaf=>eQ (lg ts af c0) b) ds C
noncomputable def eQ (C:a6):B->R fb
 |.nil=>.ok (.cg C)
 |.cons s b=>ex C s>>=λr=>match r with
  |.cg c0=>eQ c0 b
  |.dR d=>.ok (.dR d)
end
end
structure fX where
 np:Nat
 nl:Nat
 body:B
noncomputable def start(fd:fX)(ds:List D):a6:=ds.map some++List.replicate fd.nl none
noncomputable def lU:R fb->R D
 |.ok (.dR d)=>.ok d
 |.ok (.cg _)=>.ok .cU
 |.exc c=>.exc c
 |.bad=>.bad
noncomputable def dK(pg:dm)(Φ:dy)(fd:fX)(ds:List D):R D:=if ds.length=fd.np then lU (eQ pg Φ (start fd ds) fd.body) else .bad
noncomputable def run(pg:dm)(fds:List fX):Nat->dy
 |0=>λ_ _=>.bad
 |n+1=>λf ds=>match fds[f]? with
  |some fd=>dK pg (run pg fds n) fd ds
  |none=>.bad
def ry(pg:dm)(fds:List fX)(n f:Nat)(ds:List D):run pg fds (n+1) f ds=(match fds[f]? with|some fd=>dK pg (run pg fds n) fd ds|none=>.bad):=rfl
end Den
end
section
namespace Den
open PySem
structure Gt where
 fns:List Str
 cls:List Str
 lY:List Str
structure b7 where
 N:List Str
 sc:Scope
 ai:List Nat
noncomputable def kp(sc:Scope)(x:Str):Bool:=sc.names.lookup x==some .local||sc.names.lookup x==some .cell||sc.names.lookup x==some .free
noncomputable def jw(sc:Scope)(x:Str):Bool:=sc.names.lookup x==some .local||sc.names.lookup x==some .cell
noncomputable def lZ(sc:Scope)(x:Str):Bool:=sc.names.lookup x==some .globalImplicit
noncomputable def okN(x:Str):Bool:=!(x==("__debug__":Str))&&!(x==("__classdict__":Str))&&!(x==("__name__":Str))
noncomputable def DO:Op->Operator->Bool
 |.add,.Add=>true|.sub,.Sub=>true|.mul,.Mult=>true|.fdiv,.FloorDiv=>true|.mod,.Mod=>true|.and,.BitAnd=>true|.xor,.BitXor=>true
 |_,_=>false
noncomputable def r6:gM->CmpOp->Bool
 |.is,.Is=>true|.qU,.IsNot=>true|.mem,.In=>true|.k4,.NotIn=>true|.eq,.Eq=>true|.ne,.NotEq=>true|.lt,.Lt=>true|.le,.LtE=>true|.gt,.Gt=>true|.ge,.GtE=>true
 |_,_=>false
noncomputable def litOk:D->Const->Bool
 |.cU,.none=>true
 |.aU a,.bool b=>a==b
 |.int i,.int j=>i==j
 |.str x,.str y=>x==y
 |_,_=>false
noncomputable def tyName:Ty->Str
 |.int=>"int"|.bool=>"bool"|.str=>"str"|.tuple=>"tuple"|.cls _=>""
noncomputable def rq:eE->Str
 |.len=>"len"|.sorted=>"sorted"|.sum=>"sum"|.max=>"max"|_=>""
noncomputable def rr:eE->Bool
 |.len=>true|.sorted=>true|.sum=>true|.max=>true|_=>false
noncomputable def nameOf:Expr->Option Str
 |.Name x _=>some x
 |_=>none
noncomputable def namesOf:List Expr->Option (List Str)
 |[]=>some []
 |e::ag=>match nameOf e,namesOf ag with|some x,some xs=>some (x::xs)|_,_=>none
noncomputable def fa:Nat->Expr->Option (List Str)
 |0,.Name x _=>some [x]
 |k+1,.Tuple ag _ _=>match namesOf ag with|some xs=>if xs.length=k+1 then some xs else none|none=>none
 |_,_=>none
noncomputable def mask(N xs:List Str):List Str:=N.map λn=>if xs.contains n then(((".":Str))++n) else n
noncomputable def mn:I->Bool:=λ_=>false
noncomputable def tU:I->Bool
 |.seq _=>true
 |.e6 _=>true
 |_=>false
noncomputable def xZ:Expr->Bool
 |.ListComp ..=>false
 |_=>true
noncomputable def eO(g:Gt)(sc:Scope)(x:Str):Bool:=lZ sc x&&!(g.fns.contains x)&&!(g.cls.contains x)&&!(g.lY.contains x)
noncomputable def iD:Expr->Option Str
 |.Name x _=>some x
 |_=>none
noncomputable def F8:Expr->Option Const
 |.Constant c _ _=>some c
 |_=>none
noncomputable def Ge:Expr->Option (List Expr)
 |.Tuple ag _ _=>some ag
 |_=>none
noncomputable def Ga:Expr->Option (List Expr)
 |.List ag _=>some ag
 |_=>none
noncomputable def F3:Expr->Option (Expr×Operator×Expr)
 |.BinOp x o y _=>some (x,o,y)
 |_=>none
noncomputable def y9:Expr->Option (UnaryOp×Expr)
 |.UnaryOp o x _=>some (o,x)
 |_=>none
noncomputable def y6:Expr->Option (Expr×List CmpOp×List Expr)
 |.Compare x os ys _=>some (x,os,ys)
 |_=>none
noncomputable def vBool:Expr->Option (BoolOp×List Expr×Pos)
 |.BoolOp o ag p=>some (o,ag,p)
 |_=>none
noncomputable def ui:Expr->Option (Expr×Expr)
 |.Subscript x y _=>some (x,y)
 |_=>none
noncomputable def Gd:Expr->Option (Option Expr×Option Expr×Option Expr)
 |.Slice l h t _=>some (l,h,t)
 |_=>none
noncomputable def y5:Expr->Option (Expr×List Expr×List Keyword)
 |.Call f ag aq _=>some (f,ag,aq)
 |_=>none
noncomputable def lr(x:Expr):Option (Str×List Expr):=match y5 x with
 |some (f,ag,[])=>(match iD f with|some y=>some (y,ag)|none=>none)
 |_=>none
noncomputable def F2:Expr->Option (Expr×Str×Pos)
 |.Attribute o n p=>some (o,n,p)
 |_=>none
noncomputable def F6:Expr->Option (Expr×List Comprehension×Scope)
 |.ListComp x jV sc _=>some (x,jV,sc)
 |_=>none
noncomputable def tyB(g:Gt)(ct:b7)(n:Str):Ty->Bool
 |.cls c=>lZ ct.sc n&&okN n&&(if c=1000 then n==("ValueError":Str)&&eO g ct.sc n else g.cls[c]?==some n)
 |t=>n==tyName t&&eO g ct.sc n
noncomputable def uk(g:Gt)(ct:b7)(x:Str)(t:Ty)(e y:Expr):Option Expr:=match iD y with
 |some n=>if x==("isinstance":Str)&&eO g ct.sc x&&tyB g ct n t then some e else none
 |none=>none
noncomputable def um(g:Gt)(ct:b7)(x:Str)(e:Expr):Option Expr:=match lr e with
 |some (y,[a])=>if x==("sorted":Str)&&eO g ct.sc x&&y==("set":Str)&&eO g ct.sc y then some a else none
 |_=>none
noncomputable def Gl(g:Gt)(ct:b7)(x:Str)(p:eE)(ag:List Expr):Option Expr:=match p with
 |.inst t=>(match ag with|[e,y]=>uk g ct x t e y|_=>none)
 |.fJ=>(match ag with|[e]=>um g ct x e|_=>none)
 |p=>(match ag with|[e]=>if rr p&&x==rq p&&eO g ct.sc x then some e else none|_=>none)
noncomputable def pY(ct:b7)(sc:Scope)(xs:List Str):Bool:=decide (sc.kind=.function)&&sc.names.all (λy=>y.2 != .cell)&&sc.names.all (λy=>y.2 != .local||sc.names.lookup y.1==some .local)
 && xs.all (λy=>sc.names.lookup y==some .local&&okN y)&&decide xs.Nodup&&sc.names.all (λy=>y.2 != .local||xs.contains y.1||y.1==(".0":Str))
 && sc.names.all (λy=>y.2 != .free||(ct.sc.names.lookup y.1==some .cell||ct.sc.names.lookup y.1==some .free))&&((mask ct.N xs).zip ct.N).all (λp=>p.1==p.2||sc.names.lookup p.1==none)&&decide (mask ct.N xs++xs).Nodup&&!((mask ct.N xs++xs).contains (".0":Str))
noncomputable def s9:Expr->Bool
 |.Dict [] [] _=>true
 |_=>false
noncomputable def y7:Expr->Option (Str×Str)
 |.Dict [some (.Name n _)] [.Name k _] _=>some (n,k)
 |_=>none
noncomputable def F9:Expr->Option (Expr×Expr×Expr)
 |.IfExp x y w _=>some (x,y,w)
 |_=>none
noncomputable def ri(ct:b7)(i:Nat)(n:Str):Bool:=ct.N[i]?==some n&&kp ct.sc n&&okN n&&ct.ai.contains i
noncomputable def mr(ct:b7)(i:Nat)(n:Str):Bool:=ct.N[i]?==some n&&kp ct.sc n&&okN n&&!ct.ai.contains i
noncomputable def uh(z:Expr):Option (Str×Str):=match ui z with
 |some (x,y)=>(match iD x,iD y with|some n,some k=>some (n,k)|_,_=>none)
 |none=>none
section
variable(g:Gt)
mutual
noncomputable def bS (ct:b7) (v:Bool):E->Expr->Bool
 |.var i,z=>(match iD z with|some x=>ct.N[i]?==some x&&kp ct.sc x&&okN x&&(v||!ct.ai.contains i)|none=>false)
 |.lit d,z=>(match F8 z with|some c=>litOk d c|none=>false)
 |.glob j,z=>(match iD z with|some x=>g.lY[j]?==some x&&lZ ct.sc x&&okN x|none=>false)
 |.tup a,z=>(match Ge z with|some ag=>lP ct a ag&&decide (ag.length<=1000)|none=>false)
 |.lst a,z=>(match Ga z with|some ag=>lP ct a ag&&decide (ag.length<=1000)|none=>false)
 |.bin op a b,z=>(match F3 z with|some (x,o,y)=>DO op o&&bS ct true a x&&bS ct true b y|none=>false)
 |.neg a,z=>(match y9 z with|some (.USub,x)=>bS ct true a x|_=>false)
 |.ite c a b,z=>(match F9 z with|some (x,y,w)=>bS ct true c x&&bS ct false a y&&bS ct false b w|none=>false)
 |.not a,z=>(match y9 z with|some (.Not,x)=>bS ct true a x|_=>false)
 |.cmp op a b,z=>(match y6 z with|some (x,[o],[y])=>r6 op o&&bS ct true a x&&bS ct true b y|_=>false)
 |.r7 op op' a b c,z=>(match y6 z with|some (x,[o,bC],[y,w])=>r6 op o&&r6 op' bC&&bS ct true a x&&bS ct true b y&&bS ct true c w|_=>false)
 |.and a b,z=>(match vBool z with|some (.And,[x,y],_)=>bS ct true a x&&bS ct v b y|some (.And,x::y::w::r,p)=>bS ct true a x&&bS ct v b (.BoolOp .And (y::w::r) p)|_=>false)
 |.or a b,z=>(match vBool z with|some (.Or,[x,y],_)=>bS ct true a x&&bS ct v b y|some (.Or,x::y::w::r,p)=>bS ct true a x&&bS ct v b (.BoolOp .Or (y::w::r) p)|_=>false)
 |.idx a b,z=>(match ui z with|some (x,y)=>bS ct true a x&&bS ct true b y|none=>false)
 |.slice a lo hi,z=>(match ui z with|some (x,y)=>(match Gd y with|some (l,h,none)=>bS ct true a x&&p1 ct lo l&&p1 ct hi h|_=>false)|none=>false)
 |.call f a,z=>(match lr z with|some (x,ag)=>g.fns[f]?==some x&&lZ ct.sc x&&okN x&&!ag.isEmpty&&lP ct a ag|none=>false)
 |.prim p a,z=>(match lr z with|some (x,ag)=>(match Gl g ct x p ag with|some e=>bS ct true a e|none=>false)|none=>false)
 |.tupI s,z=>(match lr z with|some (x,[e])=>x==("tuple":Str)&&eO g ct.sc x&&tU s&&gq ct true s e|_=>false)
 |.nG s,z=>(match lr z with|some (x,[e])=>x==("list":Str)&&eO g ct.sc x&&tU s&&gq ct true s e|_=>false)
 |.comp e k s c,z=>(match F6 z with
   |some (x,[⟨t,it,ifs,0⟩],sc)=>(match fa k t with
    |some xs=>(!mn s||k==2)&&pY ct sc xs&&gq ct true s it&&bS ⟨mask ct.N xs++xs,sc,ct.ai⟩ false e x&&mY ⟨mask ct.N xs++xs,sc,ct.ai⟩ c ifs
    |none=>false)
   |_=>false)
 |.hN i j,z=>(match uh z with|some (n,k)=>mr ct i n&&mr ct j k|none=>false)
 |.oq i j,z=>(match y7 z with|some (n,k)=>mr ct i n&&mr ct j k|none=>false)
 |.ot,z=>s9 z
noncomputable def lP (ct:b7):A->List Expr->Bool
 |.nil,[]=>true
 |.cons e a,x::xs=>bS ct false e x&&lP ct a xs
 |_,_=>false
noncomputable def p1 (ct:b7):O->Option Expr->Bool
 |.none,none=>true
 |.some e,some x=>bS ct true e x
 |_,_=>false
noncomputable def mY (ct:b7):O->List Expr->Bool
 |.none,[]=>true
 |.some e,[x]=>bS ct true e x
 |_,_=>false
noncomputable def gq (ct:b7) (v:Bool):I->Expr->Bool
 |.seq e,z=>bS ct v e z
 |.e6 a,z=>(match lr z with|some (x,[y])=>x==("range":Str)&&eO g ct.sc x&&bS ct true a y|_=>false)
 |.tM a b,z=>(match lr z with|some (x,[y,w])=>x==("range":Str)&&eO g ct.sc x&&bS ct true a y&&bS ct true b w|_=>false)
 |.lS i,z=>(match iD z with|some n=>mr ct i n|none=>false)
end
noncomputable def ik:E->Bool
 |.lst _=>true
 |.comp ..=>true
 |.bin .add _ _=>true
 |.bin .mul _ _=>true
 |.prim .sorted _=>true
 |.prim .fJ _=>true
 |.nG _=>true
 |_=>false
noncomputable def oh(ct:b7):List Nat->List Str->Bool
 |[],[]=>true
 |i::is,x::xs=>ct.N[i]?==some x&&jw ct.sc x&&okN x&&!ct.ai.contains i&&oh ct is xs
 |_,_=>false
noncomputable def pn:Stmt->Option (List Expr×Expr)
 |.Assign ts y _=>some (ts,y)
 |_=>none
noncomputable def FF:Stmt->Option Expr
 |.Expr y _=>some y
 |_=>none
noncomputable def ps:Stmt->Option (Option Expr)
 |.Return y _=>some y
 |_=>none
noncomputable def t7:Stmt->Option (Expr×List Stmt×List Stmt)
 |.If t x y _=>some (t,x,y)
 |_=>none
noncomputable def t6:Stmt->Option (Expr×Expr×List Stmt×List Stmt)
 |.For t it x y _=>some (t,it,x,y)
 |_=>none
noncomputable def y4(z:Expr):Option (Str×Str×Pos×Expr):=match y5 z with
 |some (f,[y],[])=>(match F2 f with
  |some (o,n,ap)=>(match iD o with|some x=>some (x,n,ap,y)|none=>none)
  |none=>none)
 |_=>none
noncomputable def vB(ct:b7)(i:Nat)(e:E)(z:Stmt):Bool:=match pn z with
 |some ([t],y)=>(match iD t with|some x=>ct.N[i]?==some x&&jw ct.sc x&&okN x&&(!ct.ai.contains i||ik e)&&bS g ct false e y|none=>false)
 |_=>false
noncomputable def r4(ct:b7)(i:Nat)(e:E)(nm:Str)(z:Stmt):Bool:=match FF z with
 |some c=>(match y4 c with|some (x,n,ap,y)=>(ap.endLine==c.pos.line)&&ct.N[i]?==some x&&kp ct.sc x&&okN x&&ct.ai.contains i&&n==nm&&bS g ct false e y|none=>false)
 |none=>false
noncomputable def og(ct:b7)(i:Nat)(z:Stmt):Bool:=match pn z with
 |some ([t],y)=>(match iD t with|some x=>ct.N[i]?==some x&&jw ct.sc x&&okN x&&ct.ai.contains i&&s9 y|none=>false)
 |_=>false
noncomputable def vC(ct:b7)(i j:Nat)(e:E)(z:Stmt):Bool:=match pn z with
 |some ([t],v)=>(match uh t with|some (x,y)=>ri ct i x&&mr ct j y&&xZ v&&bS g ct false e v|none=>false)
 |_=>false
mutual
noncomputable def lR (ct:b7):S->Stmt->Bool
 |.asg i e,z=>vB g ct i e z
 |.app i e,z=>r4 g ct i e "append" z
 |.ret e,z=>(match ps z with|some (some y)=>bS g ct false e y|_=>false)
 |.pf i,z=>(match ps z with|some (some y)=>(match iD y with|some x=>ri ct i x|none=>false)|_=>false)
 |.pe i,z=>(match ps z with|some (some y)=>(match iD y with|some x=>ri ct i x|none=>false)|_=>false)
 |.iff c a b,z=>(match t7 z with|some (t,x,y)=>bS g ct true c t&&jP ct a x&&jP ct b y|none=>false)
 |.gs k ts s b,z=>(match t6 z with|some (t,it,x,[])=>(match fa k t with|some xs=>(!mn s||k==2)&&oh ct ts xs&&decide ts.Nodup&&gq g ct false s it&&jP ct b x|none=>false)|_=>false)
 |.m5 i,z=>og ct i z
 |.m6 i,z=>og ct i z
 |.jg i j e,z=>vC g ct i j e z
 |.ext i e,z=>r4 g ct i e "extend" z
noncomputable def jP (ct:b7):B->List Stmt->Bool
 |.nil,[]=>true
 |.cons s b,x::xs=>lR ct s x&&jP ct b xs
 |_,_=>false
end
mutual
noncomputable def OT:S->List Nat
 |.app j _=>[j]
 |.m5 j=>[j]
 |.m6 j=>[j]
 |.jg j _ _=>[j]
 |.ext j _=>[j]
 |.iff _ a b=>kd a++kd b
 |.gs _ _ _ b=>kd b
 |_=>[]
noncomputable def kd:B->List Nat
 |.nil=>[]
 |.cons s b=>OT s++kd b
end
noncomputable def lQ(N:List Str)(fd:fX):Stmt->Bool
 |.FunctionDef name args body [] none [] sc none bind _ =>
   decide (sc.kind=.function)&&!sc.isCoroutine&&!sc.isGenerator&&decide N.Nodup&&N.length==fd.np+fd.nl
   && (args.args.map (·.arg))==N.take fd.np&&args.posonlyargs.isEmpty&&args.vararg.isNone&&args.kwonlyargs.isEmpty&&args.kwarg.isNone&&args.defaults.isEmpty&&args.kw_defaults.isEmpty
   && (N.take fd.np).all (λx=>jw sc x)&&sc.names.all (λy=>y.2 != .free)
   && (kd fd.body).all (λi=>decide (fd.np<=i)&&decide (i<N.length))&&jP g ⟨N,sc,kd fd.body⟩ fd.body body
 |_=>false
end
end Den
end
section
namespace bA
open PySem Den
noncomputable def vr :B:=.cons (.ret (.comp (.bin .add (.slice (.var 0) (.none) (.some (.var 1))) (.slice (.var 0) (.some (.bin .add (.var 1) (.lit (.int 1)))) (.none))) 0 (.e6 (.prim .len (.var 0))) (.some (.cmp .gt (.prim .len (.var 0)) (.lit (.int 1)))))) (.nil)
noncomputable def u5 :B:=.cons (.asg 1 (.lst (.nil))) (.cons (.gs 0 [2] (.seq (.var 0)) (.cons (.asg 1 (.bin .add (.bin .add (.var 1) (.lst (.cons (.tup (.cons (.var 2) (.nil))) (.nil)))) (.comp (.bin .add (.var 3) (.tup (.cons (.var 2) (.nil)))) 0 (.seq (.var 1)) (.none)))) (.nil))) (.cons (.ret (.var 1)) (.nil)))
noncomputable def u9(KJ:Nat):B:=.cons (.asg 1 (.lst (.nil))) (.cons (.gs 0 [2] (.seq (.idx (.var 0) (.lit (.int 1)))) (.cons (.ext 1 (.call KJ (.cons (.var 2) (.nil)))) (.nil))) (.cons (.ret (.prim .fJ (.var 1))) (.nil)))
noncomputable def u4(v9:Nat):B:=.cons (.ret (.tupI (.seq (.comp (.var 2) 0 (.seq (.call v9 (.cons (.var 0) (.nil)))) (.some (.cmp .eq (.bin .sub (.prim .len (.var 2)) (.lit (.int 1))) (.var 1))))))) (.nil)
noncomputable def vn(KI:Nat):B:=.cons (.m5 2) (.cons (.asg 3 (.lit (.int 1))) (.cons (.gs 0 [4] (.seq (.call KI (.cons (.var 0) (.cons (.var 1) (.nil))))) (.cons (.jg 2 4 (.var 3)) (.cons (.asg 3 (.bin .mul (.var 3) (.lit (.int 2)))) (.nil)))) (.cons (.pe 2) (.nil))))
noncomputable def u3 :B:=.cons (.ret (.prim .sum (.comp (.hN 1 2) 0 (.seq (.var 0)) (.none)))) (.nil)
noncomputable def u6 :B:=.cons (.ret (.tupI (.seq (.comp (.var 2) 0 (.lS 1) (.some (.cmp .ne (.bin .and (.var 0) (.hN 1 2)) (.lit (.int 0)))))))) (.nil)
noncomputable def vp(KH:Nat)(KU:Nat)(sl:Nat):B:=.cons (.asg 2 (.call sl (.cons (.var 0) (.cons (.bin .sub (.var 1) (.lit (.int 1))) (.nil))))) (.cons (.asg 3 (.call sl (.cons (.var 0) (.cons (.var 1) (.nil))))) (.cons (.ret (.comp (.tup (.cons (.call KH (.cons (.call KU (.cons (.var 4) (.nil))) (.cons (.var 2) (.nil)))) (.cons (.hN 3 4) (.nil)))) 0 (.lS 3) (.none))) (.nil)))
noncomputable def vs :B:=.cons (.ret (.tup (.cons (.bin .xor (.idx (.var 0) (.lit (.int 0))) (.idx (.var 1) (.lit (.int 0)))) (.cons (.bin .xor (.idx (.var 0) (.lit (.int 1))) (.idx (.var 1) (.lit (.int 1)))) (.nil))))) (.nil)
noncomputable def vo(KX:Nat):B:=.cons (.gs 0 [2] (.lS 1) (.cons (.iff (.cmp .ne (.bin .and (.idx (.var 0) (.lit (.int 0))) (.var 2)) (.lit (.int 0))) (.cons (.asg 0 (.call KX (.cons (.var 0) (.cons (.hN 1 2) (.nil))))) (.nil)) (.nil)) (.nil))) (.cons (.ret (.var 0)) (.nil))
noncomputable def vm :B:=.cons (.ret (.bin .and (.var 0) (.neg (.var 0)))) (.nil)
noncomputable def r1(ox:Nat)(KQ:Nat):B:=.cons (.asg 2 (.call ox (.cons (.var 1) (.cons (.var 0) (.nil))))) (.cons (.iff (.cmp .eq (.idx (.var 2) (.lit (.int 0))) (.lit (.int 0))) (.cons (.ret (.var 0)) (.nil)) (.nil)) (.cons (.asg 3 (.call KQ (.cons (.idx (.var 2) (.lit (.int 0))) (.nil)))) (.cons (.m6 4) (.cons (.gs 0 [5] (.lS 0) (.cons (.jg 4 5 (.call ox (.cons (.hN 0 5) (.cons (.oq 3 2) (.nil))))) (.nil))) (.cons (.jg 4 3 (.var 2)) (.cons (.pe 4) (.nil)))))))
noncomputable def u2(qg:Nat):B:=.cons (.asg 1 (.ot)) (.cons (.gs 0 [2] (.seq (.var 0)) (.cons (.asg 1 (.call qg (.cons (.var 1) (.cons (.var 2) (.nil))))) (.nil))) (.cons (.ret (.var 1)) (.nil)))
noncomputable def vb(qg:Nat)(ox:Nat):B:=.cons (.asg 1 (.ot)) (.cons (.asg 2 (.lst (.nil))) (.cons (.gs 0 [3] (.seq (.var 0)) (.cons (.asg 4 (.call ox (.cons (.var 3) (.cons (.var 1) (.nil))))) (.cons (.iff (.cmp .eq (.idx (.var 4) (.lit (.int 0))) (.lit (.int 0))) (.cons (.app 2 (.idx (.var 4) (.lit (.int 1)))) (.nil)) (.nil)) (.cons (.asg 1 (.call qg (.cons (.var 1) (.cons (.var 3) (.nil))))) (.nil))))) (.cons (.pf 2) (.nil))))
noncomputable def vq(KP:Nat)(Bd:Nat)(ox:Nat)(qg:Nat)(KL:Nat)(sl:Nat)(KG:Nat):B:=.cons (.asg 2 (.call KG (.cons (.call Bd (.cons (.var 0) (.cons (.bin .add (.var 1) (.lit (.int 1))) (.nil)))) (.nil)))) (.cons (.asg 3 (.call sl (.cons (.var 0) (.cons (.var 1) (.nil))))) (.cons (.asg 4 (.lst (.nil))) (.cons (.gs 0 [5] (.seq (.call KP (.cons (.call Bd (.cons (.var 0) (.cons (.var 1) (.nil)))) (.nil)))) (.cons (.asg 6 (.tup (.cons (.var 5) (.cons (.lit (.int 0)) (.nil))))) (.cons (.iff (.cmp .ne (.idx (.call ox (.cons (.var 6) (.cons (.var 2) (.nil)))) (.lit (.int 0))) (.lit (.int 0))) (.cons (.app 4 (.call KL (.cons (.var 5) (.cons (.var 3) (.nil))))) (.cons (.asg 2 (.call qg (.cons (.var 2) (.cons (.var 6) (.nil))))) (.nil))) (.nil)) (.nil)))) (.cons (.ret (.tupI (.seq (.prim .sorted (.var 4))))) (.nil)))))
noncomputable def va(KS:Nat):B:=.cons (.asg 1 (.prim .max (.comp (.prim .len (.var 2)) 0 (.seq (.idx (.var 0) (.lit (.int 1)))) (.none)))) (.cons (.ret (.tupI (.seq (.comp (.prim .len (.call KS (.cons (.var 0) (.cons (.var 2) (.nil))))) 0 (.e6 (.var 1)) (.none))))) (.nil))
noncomputable def u7(v9:Nat):B:=.cons (.ret (.prim .sum (.comp (.ite (.cmp .eq (.bin .mod (.prim .len (.var 1)) (.lit (.int 2))) (.lit (.int 1))) (.lit (.int 1)) (.neg (.lit (.int 1)))) 0 (.seq (.call v9 (.cons (.var 0) (.nil)))) (.none)))) (.nil)
noncomputable def vd :B:=.cons (.iff (.cmp .lt (.var 1) (.prim .len (.var 0))) (.cons (.ret (.idx (.var 0) (.var 1))) (.nil)) (.nil)) (.cons (.ret (.lit (.int 0))) (.nil))
noncomputable def vi(KZ:Nat):B:=.cons (.asg 2 (.bin .mod (.bin .mul (.bin .add (.bin .add (.call KZ (.cons (.var 0) (.cons (.var 1) (.nil)))) (.bin .mul (.lit (.int 7919)) (.var 1))) (.lit (.int 1))) (.lit (.int 48271))) (.lit (.int 2147483647)))) (.cons (.ret (.bin .mod (.bin .add (.bin .add (.bin .mul (.var 2) (.var 2)) (.bin .mul (.lit (.int 7)) (.var 2))) (.var 1)) (.lit (.int 2147483629)))) (.nil))
noncomputable def vf :B:=.cons (.asg 2 (.bin .mod (.bin .mul (.bin .add (.bin .add (.var 0) (.bin .mul (.lit (.int 104729)) (.var 1))) (.lit (.int 17))) (.lit (.int 69621))) (.lit (.int 2147483647)))) (.cons (.ret (.bin .mod (.bin .add (.bin .add (.bin .mul (.var 2) (.var 2)) (.bin .mul (.lit (.int 3)) (.var 2))) (.var 1)) (.lit (.int 2147483629)))) (.nil))
noncomputable def vh :B:=.cons (.ret (.cmp .eq (.comp (.var 2) 0 (.seq (.var 0)) (.some (.cmp .k4 (.var 2) (.var 1)))) (.lst (.nil)))) (.nil)
noncomputable def vl(K4:Nat):B:=.cons (.asg 1 (.lst (.nil))) (.cons (.gs 0 [2] (.seq (.prim .fJ (.var 0))) (.cons (.iff (.cmp .eq (.comp (.var 3) 0 (.seq (.var 0)) (.some (.and (.cmp .ne (.var 2) (.var 3)) (.call K4 (.cons (.var 2) (.cons (.var 3) (.nil))))))) (.lst (.nil))) (.cons (.app 1 (.var 2)) (.nil)) (.nil)) (.nil))) (.cons (.ret (.tupI (.seq (.var 1)))) (.nil)))
noncomputable def ob(qj:Nat):B:=.cons (.iff (.cmp .eq (.var 1) (.lit (.int 0))) (.cons (.ret (.lst (.cons (.tup (.nil)) (.nil)))) (.nil)) (.nil)) (.cons (.asg 2 (.lst (.nil))) (.cons (.gs 0 [3] (.e6 (.prim .len (.var 0))) (.cons (.asg 2 (.bin .add (.var 2) (.comp (.bin .add (.tup (.cons (.idx (.var 0) (.var 3)) (.nil))) (.var 4)) 0 (.seq (.call qj (.cons (.slice (.var 0) (.some (.bin .add (.var 3) (.lit (.int 1)))) (.none)) (.cons (.bin .sub (.var 1) (.lit (.int 1))) (.nil))))) (.none)))) (.nil))) (.cons (.ret (.var 2)) (.nil))))
noncomputable def vk(Bf:Nat):B:=.cons (.asg 2 (.comp (.tup (.cons (.var 6) (.nil))) 0 (.e6 (.var 1)) (.none))) (.cons (.gs 0 [3] (.e6 (.bin .mod (.var 0) (.lit (.int 9)))) (.cons (.asg 4 (.call Bf (.cons (.var 0) (.cons (.var 3) (.nil))))) (.cons (.asg 5 (.tupI (.seq (.comp (.var 6) 0 (.e6 (.var 1)) (.some (.cmp .lt (.bin .mod (.call Bf (.cons (.var 4) (.cons (.var 6) (.nil)))) (.lit (.int 5))) (.bin .add (.lit (.int 2)) (.bin .mod (.var 4) (.lit (.int 2)))))))))) (.cons (.iff (.cmp .ne (.var 5) (.tup (.nil))) (.cons (.app 2 (.var 5)) (.nil)) (.nil)) (.nil))))) (.cons (.pf 2) (.nil)))
noncomputable def vj(Lg:Nat)(qj:Nat)(Lf:Nat):B:=.cons (.asg 2 (.bin .add (.lit (.int 1)) (.bin .mod (.var 0) (.var 1)))) (.cons (.asg 3 (.bin .mod (.bin .fdiv (.var 0) (.lit (.int 12))) (.lit (.int 8)))) (.cons (.iff (.cmp .eq (.var 3) (.lit (.int 0))) (.cons (.asg 4 (.call qj (.cons (.tupI (.e6 (.var 2))) (.cons (.bin .add (.lit (.int 1)) (.bin .mod (.bin .fdiv (.var 0) (.lit (.int 96))) (.var 2))) (.nil))))) (.nil)) (.cons (.iff (.and (.cmp .eq (.var 3) (.lit (.int 1))) (.cmp .gt (.var 1) (.lit (.int 5)))) (.cons (.asg 2 (.lit (.int 6))) (.cons (.asg 4 (.comp (.tup (.cons (.lit (.int 0)) (.cons (.bin .add (.lit (.int 1)) (.var 5)) (.cons (.bin .add (.lit (.int 1)) (.bin .mod (.bin .add (.var 5) (.lit (.int 1))) (.lit (.int 5)))) (.nil))))) 0 (.e6 (.lit (.int 5))) (.none))) (.cons (.asg 4 (.bin .add (.var 4) (.comp (.tup (.cons (.bin .add (.lit (.int 1)) (.var 5)) (.cons (.bin .add (.lit (.int 1)) (.bin .mod (.bin .add (.var 5) (.lit (.int 1))) (.lit (.int 5)))) (.cons (.bin .add (.lit (.int 1)) (.bin .mod (.bin .add (.var 5) (.lit (.int 3))) (.lit (.int 5)))) (.nil))))) 0 (.e6 (.lit (.int 5))) (.none)))) (.nil)))) (.cons (.iff (.and (.cmp .eq (.var 3) (.lit (.int 2))) (.cmp .gt (.var 1) (.lit (.int 6)))) (.cons (.asg 2 (.lit (.int 7))) (.cons (.asg 4 (.comp (.tup (.cons (.var 5) (.cons (.bin .mod (.bin .add (.var 5) (.lit (.int 1))) (.lit (.int 7))) (.cons (.bin .mod (.bin .add (.var 5) (.lit (.int 3))) (.lit (.int 7))) (.nil))))) 0 (.e6 (.lit (.int 7))) (.none))) (.cons (.asg 4 (.bin .add (.var 4) (.comp (.tup (.cons (.var 5) (.cons (.bin .mod (.bin .add (.var 5) (.lit (.int 2))) (.lit (.int 7))) (.cons (.bin .mod (.bin .add (.var 5) (.lit (.int 3))) (.lit (.int 7))) (.nil))))) 0 (.e6 (.lit (.int 7))) (.none)))) (.nil)))) (.cons (.asg 4 (.call Lf (.cons (.bin .fdiv (.var 0) (.lit (.int 96))) (.cons (.var 2) (.nil))))) (.nil))) (.nil))) (.nil))) (.cons (.ret (.tup (.cons (.var 2) (.cons (.call Lg (.cons (.comp (.tupI (.seq (.prim .sorted (.var 5)))) 0 (.seq (.var 4)) (.none)) (.nil))) (.nil))))) (.nil))))
noncomputable def ve(qj:Nat):B:=.cons (.asg 2 (.lst (.nil))) (.cons (.gs 0 [3] (.seq (.idx (.var 0) (.lit (.int 1)))) (.cons (.asg 2 (.bin .add (.var 2) (.call qj (.cons (.var 3) (.cons (.bin .add (.var 1) (.lit (.int 1))) (.nil)))))) (.nil))) (.cons (.ret (.prim .fJ (.var 2))) (.nil)))
noncomputable def vg :B:=.cons (.ret (.prim .max (.comp (.prim .len (.var 1)) 0 (.seq (.idx (.var 0) (.lit (.int 1)))) (.none)))) (.nil)
noncomputable def vc(Bi:Nat)(K0:Nat)(KO:Nat)(KN:Nat)(La:Nat)(K8:Nat):B:=.cons (.asg 1 (.call La (.cons (.call K8 (.cons (.var 0) (.cons (.lit (.int 0)) (.nil)))) (.cons (.lit (.int 8)) (.nil))))) (.cons (.asg 2 (.call KN (.cons (.var 1) (.nil)))) (.cons (.asg 3 (.call KO (.cons (.var 1) (.nil)))) (.cons (.asg 4 (.lit (.int 0))) (.cons (.asg 5 (.lit (.int 0))) (.cons (.gs 0 [6] (.e6 (.call Bi (.cons (.var 1) (.nil)))) (.cons (.asg 4 (.bin .add (.var 4) (.bin .mul (.prim .len (.call K0 (.cons (.var 1) (.cons (.var 6) (.nil))))) (.bin .sub (.lit (.int 1)) (.bin .mul (.bin .mod (.var 6) (.lit (.int 2))) (.lit (.int 2))))))) (.cons (.asg 5 (.bin .add (.var 5) (.bin .mul (.idx (.var 3) (.var 6)) (.bin .sub (.lit (.int 1)) (.bin .mul (.bin .mod (.var 6) (.lit (.int 2))) (.lit (.int 2))))))) (.nil)))) (.cons (.iff (.or (.prim (.inst .bool) (.var 2)) (.or (.cmp .ne (.var 2) (.var 4)) (.cmp .ne (.var 4) (.var 5)))) (.cons (.ret (.lit (.aU false))) (.nil)) (.nil)) (.cons (.ret (.cmp .eq (.prim .len (.var 3)) (.call Bi (.cons (.var 1) (.nil))))) (.nil))))))))
end bA
end
section
namespace fZ
open PySem Den
noncomputable def fds:List fX:=[
 ⟨1,0,bA.vr⟩,
 ⟨1,2,bA.u5⟩,
 ⟨1,2,bA.u9 1⟩,
 ⟨2,0,bA.u4 2⟩,
 ⟨2,3,bA.vn 3⟩,
 ⟨2,0,bA.u3⟩,
 ⟨2,0,bA.u6⟩,
 ⟨2,2,bA.vp 5 0 4⟩,
 ⟨2,0,bA.vs⟩,
 ⟨2,1,bA.vo 8⟩,
 ⟨1,0,bA.vm⟩,
 ⟨2,4,bA.r1 9 10⟩,
 ⟨1,2,bA.u2 11⟩,
 ⟨1,4,bA.vb 11 9⟩,
 ⟨2,5,bA.vq 13 7 9 11 6 4 12⟩,
 ⟨1,1,bA.va 14⟩,
 ⟨1,0,bA.u7 2⟩,
 ⟨2,0,bA.vd⟩,
 ⟨2,1,bA.vi 17⟩,
 ⟨2,1,bA.vf⟩,
 ⟨2,0,bA.vh⟩,
 ⟨1,2,bA.vl 20⟩,
 ⟨2,2,bA.ob 22⟩,
 ⟨2,4,bA.vk 19⟩,
 ⟨2,3,bA.vj 21 22 23⟩,
 ⟨2,2,bA.ve 22⟩,
 ⟨1,0,bA.vg⟩,
 ⟨1,6,bA.vc 26 25 15 16 24 18⟩]
noncomputable def cs:List D:=[]
noncomputable def up:gE:=λc=>match c with |_=>[]
noncomputable def pg:dm:=⟨up,cs⟩
noncomputable def DG:List (List Str):=[
 ["cell"],
 ["top","found","corner"],
 ["net","found","top"],
 ["net","height"],
 ["net","height","found","bit","cell"],
 ["chain","marked"],
 ["bits","marked"],
 ["net","height","lower","own"],
 ["one","other"],
 ["row","basis","pivot"],
 ["bits"],
 ["basis","row","left","pivot","wider","other"],
 ["rows","basis","row"],
 ["rows","basis","found","row","left"],
 ["net","height","reached","marked","found","bits","row"],
 ["net","highest"],
 ["net"],
 ["_law_script","_law_k"],
 ["_law_script","_law_k","_law_drawn_here"],
 ["_law_number","_law_k","_law_drawn_here"],
 ["_law_cell","_law_other"],
 ["_law_some_here","_law_found","_law_cell"],
 ["_law_cell","_law_size","_law_found","_law_at"],
 ["_law_number","_law_many","_law_found","_law_k","_law_drawn_here","_law_cell"],
 ["_law_number","_law_most","_law_many","_law_kind","_law_some_here"],
 ["_law_net_here","_law_height","_law_found","_law_top"],
 ["_law_net_here"],
 ["_law_script","_law_net_here","_law_found","_law_told","_law_by_cells","_law_by_holes","_law_height"]]
noncomputable def gt:Gt:=⟨["sides","cells_within","every_cell","cells_of_height","marks","bits_of","chain_of","rim_rows","sum_of_rows","reduced","lowest_bit","grown","basis_of","idle_parts","rounds_about","holes","counted","_law_cell_at","_law_mixed","_law_drawn","_law_lies","_law_tops","_law_parts","_law_some","_law_net","_law_cells","_law_high","law"],[],[]⟩
end fZ
end
section
namespace Den
section
variable{pg:dm}{Φ:dy}{C:a6}
noncomputable def uV(pg:dm)(Φ:dy)(C:a6)(r:R D)(b:E):R D:=r>>=λx=>fe x>>=λk=>if k then ev pg Φ C b else .ok (.aU false)
noncomputable def x8(pg:dm)(Φ:dy)(C:a6)(r:R D)(b:E):R D:=r>>=λx=>fe x>>=λk=>if k then .ok (.aU true) else ev pg Φ C b
noncomputable def tR(pg:dm)(Φ:dy)(r:R fb)(b:B):R fb:=r>>=λx=>match x with
 |.cg c0=>eQ pg Φ c0 b
 |.dR d=>.ok (.dR d)
noncomputable def xl(pg:dm)(Φ:dy)(C:a6)(r:R D)(a b:B):R fb:=r>>=λx=>fe x>>=λk=>if k then eQ pg Φ C a else eQ pg Φ C b
noncomputable def turn(pg:dm)(Φ:dy)(k:Nat)(ts:List Nat)(b:B)(d:D)(C:a6):R fb:=fO k d>>=λaf=>eQ pg Φ (lg ts af C) b
noncomputable def elem(pg:dm)(Φ:dy)(C:a6)(e:E)(k:Nat)(c:O)(d:D):R (Option D):=fO k d>>=λaf=>kL pg Φ (C++af) c>>=λb=>if b then ev pg Φ (C++af) e>>=λy=>.ok (some y) else .ok none
def A5(i:Nat){d:D}(h:C[i]?=some (some d)):ev pg Φ C (.var i)=.ok d:=Xl wy h
def sg(i:Nat):ev pg Φ C (.var i)=wy C[i]?:=bc rfl
def Kh{d:D}{r:a6}:ev pg Φ (some d::r) (.var 0)=.ok d:=bc rfl
def Ki{o:Option D}{r:a6}{i:Nat}:ev pg Φ (o::r) (.var (i+1))=ev pg Φ r (.var i):=bc rfl
def A1(d:D):ev pg Φ C (.lit d)=.ok d:=bc rfl
def J9(j:Nat){d:D}(h:pg.cs[j]?=some d):ev pg Φ C (.glob j)=.ok d:=Xl wx h
def Kg(a:A):ev pg Φ C (.tup a)=hr pg Φ C a>>=λds=>.ok (.tup ds):=bc rfl
def Kb(a:A):ev pg Φ C (.lst a)=hr pg Φ C a>>=λds=>.ok (.lst ds):=bc rfl
def J3(op:Op)(a b:E):ev pg Φ C (.bin op a b)=ev pg Φ C a>>=λx=>ev pg Φ C b>>=λy=>dT op x y:=bc rfl
def A3(a:E):ev pg Φ C (.neg a)=ev pg Φ C a>>=λx=>f3 x>>=λi=>.ok (.int (-i)):=bc rfl
def sf(i:Nat):gG pg Φ C (.lS i)=oo C[i]?:=bc rfl
def Kc(a:E):ev pg Φ C (.not a)=ev pg Φ C a>>=λx=>fe x>>=λb=>.ok (.aU (!b)):=bc rfl
def J5(op:gM)(a b:E):ev pg Φ C (.cmp op a b)=ev pg Φ C a>>=λx=>ev pg Φ C b>>=λy=>dq op x y>>=λc=>.ok (.aU c):=bc rfl
def J6(op op':gM)(a b c:E):ev pg Φ C (.r7 op op' a b c)=ev pg Φ C a>>=λx=>ev pg Φ C b>>=λy=>dq op x y>>=λk=>if k then ev pg Φ C c>>=λz=>dq op' y z>>=λdj=>.ok (.aU dj) else .ok (.aU false):=bc rfl
def J2(a b:E):ev pg Φ C (.and a b)=uV pg Φ C (ev pg Φ C a) b:=bc rfl
def Kd(a b:E):ev pg Φ C (.or a b)=x8 pg Φ C (ev pg Φ C a) b:=bc rfl
def Ka(a b:E):ev pg Φ C (.idx a b)=ev pg Φ C a>>=λx=>ev pg Φ C b>>=λy=>g7 x y:=bc rfl
def Kf(a:E)(lo hi:O):ev pg Φ C (.slice a lo hi)=ev pg Φ C a>>=λx=>lW pg Φ C lo>>=λl=>lW pg Φ C hi>>=λh=>kh x l h:=bc rfl
def J4(f:Nat)(a:A):ev pg Φ C (.call f a)=hr pg Φ C a>>=λds=>Φ f ds:=bc rfl
def Ke(p:eE)(a:E):ev pg Φ C (.prim p a)=ev pg Φ C a>>=λx=>k7 pg.up p x:=bc rfl
def A4(s:I):ev pg Φ C (.tupI s)=gG pg Φ C s>>=λds=>.ok (.tup ds):=bc rfl
def A2(s:I):ev pg Φ C (.nG s)=gG pg Φ C s>>=λds=>.ok (.lst ds):=bc rfl
def J7(e:E)(k:Nat)(s:I)(c:O):ev pg Φ C (.comp e k s c)=gG pg Φ C s>>=λds=>iw (dC (elem pg Φ C e k c) ds)>>=λys=>.ok (.lst ys):=bc rfl
def x2{α:Type}(a:α):iw (.ok a)=.ok a:=bc rfl
def AY:hr pg Φ C .nil=.ok []:=bc rfl
def AX(e:E)(a:A):hr pg Φ C (.cons e a)=ev pg Φ C e>>=λx=>hr pg Φ C a>>=λxs=>.ok (x::xs):=bc rfl
def J0:lW pg Φ C .none=.ok none:=bc rfl
def J1(e:E):lW pg Φ C (.some e)=ev pg Φ C e>>=λx=>f3 x>>=λi=>.ok (some i):=bc rfl
def JW:kL pg Φ C .none=.ok true:=bc rfl
def JX(e:E):kL pg Φ C (.some e)=ev pg Φ C e>>=λx=>fe x:=bc rfl
def v3(e:E):gG pg Φ C (.seq e)=ev pg Φ C e>>=λx=>fj x:=bc rfl
def JY(a:E):gG pg Φ C (.e6 a)=ev pg Φ C a>>=λx=>f3 x>>=λi=>iz 0 i:=bc rfl
def JZ(a b:E):gG pg Φ C (.tM a b)=ev pg Φ C a>>=λx=>f3 x>>=λi=>ev pg Φ C b>>=λy=>f3 y>>=λj=>iz i j:=bc rfl
def Hh(b:Bool):fe (.aU b)=.ok b:=bc rfl
def Hi(i:Int):f3 (.int i)=.ok i:=bc rfl
def Sl(xs:List D):fj (.tup xs)=.ok xs:=bc rfl
def Sk(xs:List D):fj (.lst xs)=.ok xs:=bc rfl
def HA(d:D):fO 0 d=.ok [some d]:=bc rfl
def HB(x y:D):fO 2 (.tup [x,y])=.ok [some x,some y]:=bc rfl
def G0(b:E):uV pg Φ C (.ok (.aU true)) b=ev pg Φ C b:=bc rfl
def GZ(b:E):uV pg Φ C (.ok (.aU false)) b=.ok (.aU false):=bc rfl
def Pz(b:E):x8 pg Φ C (.ok (.aU true)) b=.ok (.aU true):=bc rfl
def Py(b:E):x8 pg Φ C (.ok (.aU false)) b=ev pg Φ C b:=bc rfl
def Ko:eQ pg Φ C .nil=.ok (.cg C):=bc rfl
def Kn(s:S)(b:B):eQ pg Φ C (.cons s b)=tR pg Φ (ex pg Φ C s) b:=bc rfl
def Sh(b:B):tR pg Φ (.ok (.cg C)) b=eQ pg Φ C b:=bc rfl
def Si(d:D)(b:B):tR pg Φ (.ok (.dR d)) b=.ok (.dR d):=bc rfl
def Sg(c:Nat)(b:B):tR pg Φ (.exc c) b=.exc c:=bc rfl
def A7(i:Nat)(e:E):ex pg Φ C (.asg i e)=ev pg Φ C e>>=λd=>.ok (.cg (C.set i (some d))):=bc rfl
def Kp(i:Nat)(e:E):ex pg Φ C (.app i e)=lO C[i]?>>=λ_=>ev pg Φ C e>>=λd=>pV C[i]? d>>=λx=>.ok (.cg (C.set i (some x))):=bc rfl
def Kw(i:Nat):ex pg Φ C (.pf i)=th C[i]?>>=λd=>.ok (.dR d):=bc rfl
def Oq(ds:List D):th (some (some (.lst ds)))=.ok (.lst ds):=bc rfl
def Kv(e:E):ex pg Φ C (.ret e)=ev pg Φ C e>>=λd=>.ok (.dR d):=bc rfl
def Ku(c:E)(a b:B):ex pg Φ C (.iff c a b)=xl pg Φ C (ev pg Φ C c) a b:=bc rfl
def Ni(a b:B):xl pg Φ C (.ok (.aU true)) a b=eQ pg Φ C a:=bc rfl
def Nh(a b:B):xl pg Φ C (.ok (.aU false)) a b=eQ pg Φ C b:=bc rfl
def Kt(k:Nat)(ts:List Nat)(s:I)(b:B):ex pg Φ C (.gs k ts s b)=gG pg Φ C s>>=λds=>forL (turn pg Φ k ts b) ds C:=bc rfl
def Rh{nl:Nat}{b:B}(x:D):dK pg Φ ⟨1,nl,b⟩ [x]=lU (eQ pg Φ (some x::List.replicate nl none) b):=bc rfl
def Ri{nl:Nat}{b:B}(x y:D):dK pg Φ ⟨2,nl,b⟩ [x,y]=lU (eQ pg Φ (some x::some y::List.replicate nl none) b):=bc rfl
def Rj{nl:Nat}{b:B}(x y z:D):dK pg Φ ⟨3,nl,b⟩ [x,y,z]=lU (eQ pg Φ (some x::some y::some z::List.replicate nl none) b):=bc rfl
def JJ(d:D):lU (.ok (.dR d))=.ok d:=bc rfl
def JI(C:a6):lU (.ok (.cg C))=.ok .cU:=bc rfl
def JH(c:Nat):lU (.exc c)=.exc c:=bc rfl
def Qz(up:gE)(d:D):k7 up .len d=jv d:=bc rfl
def Qy(up:gE)(t:Ty)(d:D):k7 up (.inst t) d=j6 up d t>>=λb=>.ok (.aU b):=bc rfl
def QA(up:gE)(d:D):k7 up .sorted d=fj d>>=λxs=>sorted xs:=bc rfl
def QB(up:gE)(d:D):k7 up .fJ d=fj d>>=λxs=>fJ xs:=bc rfl
def xC(xs:List D):jv (.tup xs)=.ok (.int xs.length):=bc rfl
def CV(xs:List D):jv (.lst xs)=.ok (.int xs.length):=bc rfl
def Ao(x y:D):dq .eq x y=gX x y:=bc rfl
def As(x y:D):dq .ne x y=ha (gX x y):=bc rfl
def Ar(x y:D):dq .lt x y=ti x y:=bc rfl
def cmp_gt(i j:Int):dq .gt (.int i) (.int j)=.ok (decide (j<i)):=bc rfl
def Ig(i j:Int):dq .le (.int i) (.int j)=.ok (decide (i<=j)):=bc rfl
def Ie(i j:Int):dq .ge (.int i) (.int j)=.ok (decide (j<=i)):=bc rfl
def Ap(x y:D):dq .is x y=oO x y:=bc rfl
def Aq(x y:D):dq .qU x y=ha (oO x y):=bc rfl
def Ii(x:D)(ys:List D):dq .mem x (.tup ys)=hZ x ys:=bc rfl
def Ih(x:D)(ys:List D):dq .mem x (.lst ys)=hZ x ys:=bc rfl
def Ik(x:D)(ys:List D):dq .k4 x (.tup ys)=ha (hZ x ys):=bc rfl
def Ij(x:D)(ys:List D):dq .k4 x (.lst ys)=ha (hZ x ys):=bc rfl
def Ou(i j:Int):ti (.int i) (.int j)=.ok (decide (i<j)):=bc rfl
def O8(b:Bool):ha (.ok b)=.ok (!b):=bc rfl
def JR(i j:Int):gX (.int i) (.int j)=.ok (i==j):=bc rfl
def JP(i j:Bool):gX (.aU i) (.aU j)=.ok (i==j):=bc rfl
def add_int(i j:Int):dT .add (.int i) (.int j)=.ok (.int (i+j)):=bc rfl
def sub_int(i j:Int):dT .sub (.int i) (.int j)=.ok (.int (i-j)):=bc rfl
def add_str(x y:PySem.Str):dT .add (.str x) (.str y)=if x.length+y.length<=SZ then .ok (.str (x++y)) else .bad:=bc rfl
def rX(xs ys:List D):dT .add (.tup xs) (.tup ys)=if xs.length+ys.length<=SZ then .ok (.tup (xs++ys)) else .bad:=bc rfl
def mP(xs ys:List D):dT .add (.lst xs) (.lst ys)=if xs.length+ys.length<=SZ then .ok (.lst (xs++ys)) else .bad:=bc rfl
def mul_int(i j:Int):dT .mul (.int i) (.int j)=if (-gB<i/\i<gB)\/(-gB<j/\j<gB) then .ok (.int (i*j)) else .bad:=bc rfl
def OV(xs:List D)(j:Int):dT .mul (.tup xs) (.int j)=if 2<=j/\xs≠[]/\xs.length*j.toNat<=SZ/\j<1000 then .ok (.tup (List.replicate j.toNat xs).flatten) else .bad:=bc rfl
def Be(i j:Int):dT .fdiv (.int i) (.int j)=if 0<j/\j<1073741824 then .ok (.int (i / j)) else .bad:=bc rfl
def mod_int(i j:Int):dT .mod (.int i) (.int j)=if 0<j then .ok (.int (i%j)) else .bad:=bc rfl
def Cy(xs:List D)(i:Int):g7 (.tup xs) (.int i)=(match hQ xs i with|some d=>.ok d|none=>.bad):=bc rfl
def Cx(xs:List D)(i:Int):g7 (.lst xs) (.int i)=(match hQ xs i with|some d=>.ok d|none=>.bad):=bc rfl
def tV(xs:List D)(lo hi:Option Int):kh (.tup xs) lo hi=.ok (.tup (cut xs lo hi)):=bc rfl
def Fe(xs:List D)(lo hi:Option Int):kh (.lst xs) lo hi=.ok (.lst (cut xs lo hi)):=bc rfl
def Ah(xs:List D):lO (some (some (.lst xs)))=.ok ():=bc rfl
def rY(xs:List D)(d:D):pV (some (some (.lst xs))) d=if xs.length<SZ then .ok (.lst (xs++[d])) else .bad:=bc rfl
def So{o v:Option D}{r:a6}:(o::r:a6).set 0 v=v::r:=bc rfl
def Sr{o v:Option D}{r:a6}{i:Nat}:(o::r:a6).set (i+1) v=o::r.set i v:=bc rfl
def Ln{o:Option D}{r:a6}:(o::r:a6)[0]?=some o:=bc rfl
def Lu{o:Option D}{r:a6}{i:Nat}:(o::r:a6)[i+1]?=r[i]?:=bc rfl
def Q5{α:Type}(x:α):List.replicate 0 x=[]:=bc rfl
def Q6{α:Type}(n:Nat)(x:α):List.replicate (n+1) x=x::List.replicate n x:=bc rfl
def Ud(i:Nat)(b:B)(d:D):turn pg Φ 0 [i] b d C=eQ pg Φ (C.set i (some d)) b:=bc rfl
def Ue(i j:Nat)(b:B)(x y:D):turn pg Φ 2 [i,j] b (.tup [x,y]) C=eQ pg Φ ((C.set i (some x)).set j (some y)) b:=bc rfl
def JE(e:E)(c:O)(d:D):elem pg Φ C e 0 c d=kL pg Φ (C++[some d]) c>>=λb=>if b then ev pg Φ (C++[some d]) e>>=λy=>.ok (some y) else .ok none:=bc rfl
def JF(e:E)(c:O)(x y:D):elem pg Φ C e 2 c (.tup [x,y])=kL pg Φ (C++[some x,some y]) c>>=λb=>if b then ev pg Φ (C++[some x,some y]) e>>=λy=>.ok (some y) else .ok none:=bc rfl
def Nm(up:gE)(xs:List D):j6 up (.tup xs) .tuple=.ok true:=bc rfl
end
end Den
end
section
def Den.br:=And.intro (And.intro (And.intro (And.intro (And.intro (And.intro (@Den.Kh) (And.intro (@Den.Ki) (@Den.A1))) (And.intro (@Den.Kg) (And.intro (@Den.Kb) (@Den.J3)))) (And.intro (And.intro (@Den.Kc) (And.intro (@Den.J5) (@Den.J6))) (And.intro (And.intro (@Den.J2) (@Den.Kd)) (And.intro (@Den.Ka) (@Den.Kf))))) (And.intro (And.intro (And.intro (@Den.J4) (And.intro (@Den.Ke) (@Den.A4))) (And.intro (And.intro (@Den.A2) (@Den.J7)) (And.intro (@Den.x2) (@Den.AY)))) (And.intro (And.intro (@Den.AX) (And.intro (@Den.J0) (@Den.J1))) (And.intro (And.intro (@Den.JW) (@Den.JX)) (And.intro (@Den.v3) (@Den.JY)))))) (And.intro (And.intro (And.intro (And.intro (@Den.JZ) (And.intro (@Den.Hh) (@Den.Hi))) (And.intro (@Den.Sl) (And.intro (@Den.Sk) (@Den.HA)))) (And.intro (And.intro (@Den.HB) (And.intro (@Den.G0) (@Den.GZ))) (And.intro (And.intro (@Den.Pz) (@Den.Py)) (And.intro (@Den.Ko) (@Den.Kn))))) (And.intro (And.intro (And.intro (@Den.Sh) (And.intro (@Den.Si) (@Den.Sg))) (And.intro (And.intro (@Den.A7) (@Den.Kp)) (And.intro (@Den.Ah) (@Den.Kv)))) (And.intro (And.intro (@Den.Kw) (And.intro (@Den.Oq) (@Den.Ku))) (And.intro (And.intro (@Den.Ni) (@Den.Nh)) (And.intro (@Den.Kt) (@Den.Rh))))))) (And.intro (And.intro (And.intro (And.intro (And.intro (@Den.Ri) (And.intro (@Den.Rj) (@Den.JJ))) (And.intro (@Den.JI) (And.intro (@Den.JH) (@Den.Qz)))) (And.intro (And.intro (@Den.Qy) (And.intro (@Den.QA) (@Den.QB))) (And.intro (And.intro (@Den.xC) (@Den.CV)) (And.intro (@Den.Ao) (@Den.As))))) (And.intro (And.intro (And.intro (@Den.Ar) (And.intro (@Den.cmp_gt) (@Den.Ig))) (And.intro (And.intro (@Den.Ie) (@Den.Ap)) (And.intro (@Den.Aq) (@Den.Ii)))) (And.intro (And.intro (@Den.Ih) (And.intro (@Den.Ik) (@Den.Ij))) (And.intro (And.intro (@Den.Ou) (@Den.O8)) (And.intro (@Den.JR) (@Den.JP)))))) (And.intro (And.intro (And.intro (And.intro (@Den.add_int) (And.intro (@Den.sub_int) (@Den.tV))) (And.intro (@Den.Fe) (And.intro (@Den.So) (@Den.Sr)))) (And.intro (And.intro (@Den.Ln) (And.intro (@Den.Lu) (@Den.Q5))) (And.intro (And.intro (@Den.Q6) (@Den.Ud)) (And.intro (@Den.Ue) (@Den.JE))))) (And.intro (And.intro (And.intro (@Den.JF) (And.intro (@Den.Nm) (@Den.R.ml))) (And.intro (And.intro (@Den.R.Kx) (@List.cons_append.{0})) (And.intro (@List.nil_append.{0}) (@List.length_cons.{0})))) (And.intro (And.intro (@List.length_nil.{0}) (And.intro (@XS) (@WN.{1}))) (And.intro (And.intro (@XK) (@Zd)) (And.intro (@V1) (@Wm.{1})))))))
end
section
namespace bt
open Den
theorem Bs{α:Type}{f:α->D}{g:D->a6->R fb}(I:List α->a6->Prop)(all:List α):∀(xs pre:List α)(C:a6),all=pre++xs->I pre C ->
  (∀pre x post C,all=pre++x::post->I pre C->∃c0,g (f x) C=.ok (.cg c0)/\I (pre++[x]) c0)->∃c0,forL g (xs.map f) C=.ok (.cg c0)/\I all c0
 |[],pre,C,e,h,_=>⟨C,rfl,by rw[e];simpa using h⟩
 |x::xs,pre,C,e,h,ab=>by
  obtain⟨U2,ak,eS⟩:=ab pre x xs C e h;obtain⟨pE,av,gh⟩:=Bs I all xs (pre++[x]) U2 (by rw[e];simp) eS ab
  refine⟨pE,?_,gh⟩;simp only[List.map_cons,forL,ak,R.ml];exact av
def ij{α:Type}{f:α->D}{g:D->a6->R fb}(I:List α->a6->Prop)(xs:List α)(C:a6)(h:I [] C)(ab:∀pre x post C,xs=pre++x::post->I pre C->∃c0,g (f x) C=.ok (.cg c0)/\I (pre++[x]) c0):∃c0,forL g (xs.map f) C=.ok (.cg c0)/\I xs c0 :=
 Bs I xs xs [] C rfl h ab
noncomputable def aM(c:List Int):D:=.tup (c.map .int)
theorem AR:∀a b:List Int,m8 (a.map .int) (b.map .int)=decide (a=b)
 |[],[]=>rfl
 |[],_::_=>rfl
 |_::_,[]=>rfl
 |x::a,y::b=>by
  show(x==y&&m8 (a.map .int) (b.map .int))=_;rw[AR a b]
  by_cases J:x=y
  .subst J;by_cases aa:a=b<;>simp[aa]
  .simp[J]
def se(a b:List Int):gW (aM a) (aM b)=decide (a=b):=AR a b
noncomputable def lexLt:List Int->List Int->Bool
 |[],[]=>false
 |[],_::_=>true
 |_::_,[]=>false
 |x::xs,y::ys=>if x=y then lexLt xs ys else decide (x<y)
theorem q8:∀a b:List Int,kb (a.map .int) (b.map .int)=some (lexLt a b)
 |[],[]=>rfl
 |[],_::_=>rfl
 |_::_,[]=>rfl
 |x::a,y::b=>by
  show(if (x==y)=true then kb (a.map .int) (b.map .int) else some (decide (x<y)))=some (if x=y then lexLt a b else decide (x<y));rw[q8 a b]
  by_cases h:x=y<;>simp[h]
def q7(a b:List Int):ka (aM a) (aM b)=some (lexLt a b):=q8 a b
def OC(x:Int)(xs:List Int):memD (.int x) (xs.map .int)=decide (x∈xs):=by
 unfold memD
 induction xs with
 |nil=>simp
 |cons y ys aD =>
  rw[List.map_cons,List.any_cons,aD];show(y==x||_)=_
  by_cases h:y=x
  .subst h;simp
  .have:¬x=y:=λe=>h e.symm
   simp[h,this]
theorem xG:∀a:List Int,lexLt a a=false
 |[]=>rfl
 |x::a=>by simp[lexLt,xG a]
theorem xH:∀{a b c:List Int},lexLt a b=true->lexLt b c=true->lexLt a c=true
 |[],[],_,h,_=>by simp[lexLt]at h
 |[],_::_,[],_,h=>by simp[lexLt]at h
 |[],_::_,_::_,_,_=>rfl
 |_::_,[],_,h,_=>by simp[lexLt]at h
 |_::_,_::_,[],_,h=>by simp[lexLt]at h
 |x::a,y::b,z::c,J,aa=>by
  simp only[lexLt]at *
  split at J<;>split at aa
  .rename_i ak av;subst ak;subst av;rw[if_pos rfl];exact xH J aa
  .rename_i ak av;subst ak;rw[if_neg av];exact aa
  .rename_i ak av;subst av;rw[if_neg ak];exact J
  .rename_i ak av;simp only[Wh]at J aa;rw[if_neg (by omega)];simp;omega
theorem xF:∀a b:List Int,a≠b->lexLt a b=true\/lexLt b a=true
 |[],[],h=>absurd rfl h
 |[],_::_,_=>.inl rfl
 |_::_,[],_=>.inr rfl
 |x::a,y::b,h=>by
  simp only[lexLt]
  by_cases e:x=y
  .subst e;have h':a≠b:=λe=>h (by rw[e])
   simpa using xF a b h'
  .have bl:¬y=x:=λz=>e z.symm
   rw[if_neg e,if_neg bl];simp only[Wh];omega
section
variable{α:Type}
noncomputable def ins(lt:α->α->Bool)(x:α):List α->List α
 |[]=>[x]
 |y::ys=>if lt y x=true then y::ins lt x ys else x::y::ys
noncomputable def cY(lt:α->α->Bool):List α->List α
 |[]=>[]
 |x::xs=>ins lt x (cY lt xs)
noncomputable def dN[DecidableEq α]:List α->List α
 |[]=>[]
 |x::xs=>if x∈xs then dN xs else x::dN xs
variable{lt:α->α->Bool}
theorem CA{f:α->D}(h:∀a b,ka (f a) (f b)=some (lt a b))(x:α):∀ys:List α,nA (f x) (ys.map f)=(ins lt x ys).map f
 |[]=>rfl
 |y::ys=>by
  simp only[List.map_cons,nA,ins,h,W2]
  split
  .simp[CA h x ys]
  .rfl
theorem my{f:α->D}(h:∀a b,ka (f a) (f b)=some (lt a b)):∀xs:List α,gi (xs.map f)=(cY lt xs).map f
 |[]=>rfl
 |x::xs=>by simp only[List.map_cons,gi,cY,my h xs,CA h]
theorem sa[DecidableEq α]{f:α->D}(h:∀a b,gW (f a) (f b)=decide (a=b)):∀xs:List α,kE (xs.map f)=(dN xs).map f
 |[]=>rfl
 |x::xs=>by
  have e:(xs.map f).any (gW (f x))=decide (x∈xs):=by
   rw[List.any_map]
   induction xs with
   |nil=>simp
   |cons y ys aD=>simp only[List.any_cons,aD,Function.comp,h,V2];by_cases q:x=y<;>simp[q]
  simp only[List.map_cons,kE,dN,e,sa h xs,Wh]
  split<;>rfl
theorem tm(x z:α):∀ys:List α,z∈ins lt x ys<->z=x\/z∈ys
 |[]=>by simp[ins]
 |y::ys=>by
  unfold ins
  split
  .simp only[V2,tm x z ys];constructor
   .rintro(h|h|h)
    .exact .inr (.inl h)
    .exact .inl h
    .exact .inr (.inr h)
   .rintro(h|h|h)
    .exact .inr (.inl h)
    .exact .inl h
    .exact .inr (.inr h)
  .simp
theorem k3(z:α):∀xs:List α,z∈cY lt xs<->z∈xs
 |[]=>by simp[cY]
 |x::xs=>by unfold cY;rw[tm,k3 z xs];simp
theorem CU(x:α):∀ys:List α,(ins lt x ys).length=ys.length+1
 |[]=>rfl
 |y::ys=>by unfold ins;split<;>simp[CU x ys]
theorem q5:∀xs:List α,(cY lt xs).length=xs.length
 |[]=>rfl
 |x::xs=>by unfold cY;rw[CU,q5 xs];simp
theorem k2[DecidableEq α](z:α):∀xs:List α,z∈dN xs<->z∈xs
 |[]=>by simp[dN]
 |x::xs=>by
  unfold dN
  split
  .rename_i h;rw[k2 z xs,V2];exact⟨.inr,λq=>q.elim (λe=>e▸h) id⟩
  .simp[k2 z xs]
theorem oY[DecidableEq α]:∀xs:List α,(dN xs).Nodup
 |[]=>X8
 |x::xs=>by
  unfold dN
  split
  .exact oY xs
  .rename_i h;exact WB.mpr ⟨λq=>h ((k2 x xs).mp q),oY xs⟩
structure gD(lt:α->α->Bool):Prop where
 fw:∀a,lt a a=false
 d0:∀{a b c},lt a b=true->lt b c=true->lt a c=true
 conn:∀a b,a≠b->lt a b=true\/lt b a=true
noncomputable def d2(lt:α->α->Bool)(xs:List α):Prop:=xs.Pairwise λa b=>lt a b=true
theorem zR(L:gD lt)(x:α):∀{ys:List α},d2 lt ys->x∉ys->d2 lt (ins lt x ys)
 |[],_,_=>Xu _ _
 |y::ys,h,ah=>by
  obtain⟨J,aa⟩:=Wr.mp h;have hA:x≠y:=λe=>ah (by simp[e])
  unfold ins
  split
  .rename_i q;refine Wr.mpr ⟨λz hz=>?_,zR L x aa λq=>ah (List.mem_cons_of_mem _ q)⟩
   rcases(tm x z ys).mp hz with e|e
   .subst e;exact q
   .exact J z e
  .rename_i q;have dv:lt x y=true:=(L.conn x y hA).resolve_right q;refine Wr.mpr ⟨λz hz=>?_,h⟩
   rcases V2.mp hz with e|e
   .subst e;exact dv
   .exact L.d0 dv (J z e)
theorem mS(L:gD lt):∀{xs:List α},xs.Nodup->d2 lt (cY lt xs)
 |[],_=>List.Pairwise.nil
 |x::xs,h=>zR L x (mS L (WB.mp h).2) λq=>(WB.mp h).1 ((k3 x xs).mp q)
def d2.nodup(L:gD lt){xs:List α}(h:d2 lt xs):xs.Nodup:=Yu (λ{a b} q e=>by subst e;rw[L.fw]at q;cases q) h
theorem n9(L:gD lt):∀{xs ys:List α},d2 lt xs->d2 lt ys->(∀z,z∈xs<->z∈ys)->xs=ys
 |[],[],_,_,_=>rfl
 |[],y::_,_,_,h=>absurd ((h y).mpr List.mem_cons_self) (by simp)
 |x::_,[],_,_,h=>absurd ((h x).mp List.mem_cons_self) (by simp)
 |x::xs,y::ys,ah,aC,h=>by
  obtain⟨aR,bI⟩:=Wr.mp ah;obtain⟨pC,n1⟩:=Wr.mp aC;have e:x=y:=by
   rcases V2.mp ((h x).mp List.mem_cons_self) with e|e
   .exact e
   .rcases V2.mp ((h y).mpr List.mem_cons_self) with bl|bl
    .exact bl.symm
    .have a:=pC x e;have b:=aR y bl;have:=L.d0 a b;rw[L.fw]at this;cases this
  subst e;have cg:x∉xs:=λq=>by have:=aR x q;rw[L.fw]at this;cases this
  have Pb:x∉ys:=λq=>by have:=pC x q;rw[L.fw]at this;cases this
  rw[n9 L bI n1 λz=>?_]
  constructor
  .intro hz;rcases V2.mp ((h z).mp (List.mem_cons_of_mem _ hz)) with e|e
   .subst e;exact absurd hz cg
   .exact e
  .intro hz;rcases V2.mp ((h z).mpr (List.mem_cons_of_mem _ hz)) with e|e
   .subst e;exact absurd hz Pb
   .exact e
def SV(L:gD lt){xs:List α}(h:d2 lt xs):cY lt xs=xs:=n9 L (mS L (h.nodup L)) h λz=>k3 z xs
theorem vQ[DecidableEq α]:∀xs:List α,(dN xs).length<=xs.length
 |[]=>VZ _
 |x::xs=>by unfold dN;have:=vQ xs;split<;>simp<;>omega
theorem nK[DecidableEq α]:∀{xs ys:List α},xs.Nodup->(∀z∈xs,z∈ys)->xs.length<=ys.length
 |[],_,_,_=>V6 _
 |x::xs,ys,h,ab=>by
  obtain⟨J,aa⟩:=WB.mp h;have ah:=ab x List.mem_cons_self;have:=nK (xs:=xs) (ys:=ys.erase x) aa λz hz=>by
   have en:z≠x:=λe=>J (e▸hz)
   exact(List.mem_erase_of_ne en).mpr (ab z (List.mem_cons_of_mem _ hz))
  rw[List.length_erase_of_mem ah]at this;have aE:0<ys.length:=List.length_pos_of_mem ah;simp only[List.length_cons];omega
end
def k1:gD lexLt:=⟨xG,xH,xF⟩
noncomputable def ltI(a b:Int):Bool:=decide (a<b)
def j9:gD ltI:=⟨λa=>by simp[ltI],λJ aa=>by simp[ltI]at *;omega,λa b h=>by simp[ltI];omega⟩
def xM(is:List Int):(is.map D.int).all (fp 0)=true:=by simp[Yd,fp]
def vN{cs:List (List Int)}(az:∀c∈cs,c≠[]):(cs.map aM).all oN=true:=by
 rw[Yd,Wt];intro c aj;cases c with
 |nil=>exact absurd rfl (az [] aj)
 |cons x c=>show(fp 0 (.int x)&&(c.map D.int).all (fp 0))=true;rw[xM];rfl
def SQ{cs:List Int}(h:cs.length<=255):sorted (cs.map .int)=.ok (.lst ((cY ltI cs).map .int)):=by
 unfold sorted hY;rw[xM];simp[my (f:=D.int) (lt:=ltI) λa b=>rfl,h]
def yP{cs:List (List Int)}(az:∀c∈cs,c≠[])(h:(dN cs).length<=255):fJ (cs.map aM)=.ok (.lst ((cY lexLt (dN cs)).map aM)):=by
 unfold fJ hY;rw[vN az,sa se,my (lt:=lexLt) q7];simp[h]
def JO(a b:Int):gW (.int a) (.int b)=decide (a=b):=Bool.beq_eq_decide_eq a b
def tS(n:Nat)(i:Int):dw n (.int i)=true:=by cases n<;>rfl
def E8(n:Nat)(c:List Int):(c.map D.int).all (dw n)=true:=by simp[Yd,tS]
def yF(n:Nat)(c:List Int):dw (n+1) (aM c)=true:=E8 n c
def Sw(n:Nat)(cs:List (List Int)):(cs.map aM).all (dw (n+1))=true:=by simp[Yd,yF]
def OD(x:Int)(c:List Int):hZ (.int x) (c.map .int)=.ok (decide (x∈c)):=by
 unfold hZ;rw[tS,E8,OC];rfl
def JQ(a b:List Int):gX (aM a) (aM b)=.ok (decide (a=b)):=by unfold gX;rw[yF,yF,se];rfl
def AU{ys:List D}(h:ys.all (dw 59)=true):gX (.lst ys) (.lst [])=.ok ys.isEmpty:=by
 have J:dw 60 (.lst ys)=true:=h;have aa:dw 60 (.lst [])=true:=rfl;unfold gX;rw[J,aa];cases ys<;>rfl
def JS{ys:List D}(h:ys.all (dw 59)=true):gX (.tup ys) (.tup [])=.ok ys.isEmpty:=by
 have J:dw 60 (.tup ys)=true:=h;have aa:dw 60 (.tup [])=true:=rfl;unfold gX;rw[J,aa];cases ys<;>rfl
end bt
end
section
namespace bt
open Den
section
variable{α:Type}{lt:α->α->Bool}
noncomputable def n8(lt:α->α->Bool)(xs:List α):Prop:=xs.Pairwise λa b=>lt b a=false
theorem rp(x:α):∀ys:List α,(ins lt x ys).Perm (x::ys)
 |[]=>Ze _
 |y::ys=>by
  unfold ins
  split
  .exact(List.Perm.cons y (rp x ys)).trans (List.Perm.swap x y ys)
  .exact Ze _
theorem tF:∀xs:List α,(cY lt xs).Perm xs
 |[]=>Ze _
 |x::xs=>(rp x (cY lt xs)).trans (List.Perm.cons x (tF xs))
def C7(L:gD lt){a b:α}(h:lt a b=true):lt b a=false:=by
 cases q:lt b a with
 |false=>rfl
 |true=>have:=L.d0 h q;rw[L.fw]at this;cases this
def C6(L:gD lt){a b c:α}(J:lt b a=false)(aa:lt c b=false):lt c a=false:=by
 cases q:lt c a with
 |false=>rfl
 |true =>
  by_cases e:a=b
  .subst e;rw[aa]at q;cases q
  .rcases L.conn a b e with w|w
   .have:=L.d0 q w;rw[aa]at this;cases this
   .rw[J]at w;cases w
theorem Gm(L:gD lt)(x:α):∀{ys:List α},n8 lt ys->n8 lt (ins lt x ys)
 |[],_=>Xu _ _
 |y::ys,h=>by
  obtain⟨J,aa⟩:=Wr.mp h;unfold ins
  split
  .rename_i c;refine Wr.mpr ⟨λz hz=>?_,Gm L x aa⟩
   rcases(tm x z ys).mp hz with rfl|hz
   .exact C7 L c
   .exact J z hz
  .rename_i c;refine Wr.mpr ⟨λz hz=>?_,h⟩
   have c:lt y x=false:=by simpa using c
   rcases V2.mp hz with rfl|hz
   .exact c
   .exact C6 L c (J z hz)
theorem Gn(L:gD lt):∀xs:List α,n8 lt (cY lt xs)
 |[]=>.nil
 |x::xs=>Gm L x (Gn L xs)
theorem Gp(L:gD lt):∀{xs ys:List α},n8 lt xs->n8 lt ys->xs.Perm ys->xs=ys
 |[],ys,_,_,p=>(List.Perm.nil_eq p)
 |x::xs,[],_,_,p=>by have:=p.length_eq;simp at this
 |x::xs,y::ys,ah,aC,p=>by
  obtain⟨aR,bI⟩:=Wr.mp ah;obtain⟨pC,n1⟩:=Wr.mp aC;have e:x=y:=by
   apply Zr;intro ne;have hA:y∈xs:=by
    rcases V2.mp (p.mem_iff.mpr List.mem_cons_self) with q|q
    .exact absurd q.symm ne
    .exact q
   have qM:x∈ys:=by
    rcases V2.mp (p.mem_iff.mp List.mem_cons_self) with q|q
    .exact absurd q ne
    .exact q
   rcases L.conn x y ne with w|w
   .rw[pC x qM]at w;cases w
   .rw[aR y hA]at w;cases w
  subst e;rw[Gp L bI n1 (List.Perm.cons_inv p)]
end
end bt
end
section
namespace iG
def xor_swap(x y a:Nat):(x ^^^ a) ^^^ y=(x ^^^ y) ^^^ a:=by rw[Xd,Nat.xor_comm a y,<- Xd]
def UY(x y a:Nat):(x ^^^ a) ^^^ (y ^^^ a)=x ^^^ y:=by rw[xor_swap,<- Xd,Xd,Ye,Yf]
def mF(x a:Nat):(x ^^^ a) ^^^ a=x:=by rw[Xd,Ye,Yf]
noncomputable def sp:List Nat->Nat->Prop
 |[],x=>x=0
 |a::L,x=>sp L x\/sp L (x ^^^ a)
theorem tX:∀L,sp L 0
 |[]=>rfl
 |_::L=>.inl (tX L)
theorem i2:∀{L:List Nat}{x y:Nat},sp L x->sp L y->sp L (x ^^^ y)
 |[],x,y,J,aa=>by cases J;cases aa;rfl
 |a::L,x,y,J,aa=>by
  rcases J with J|J<;>rcases aa with aa|aa
  .exact .inl (i2 J aa)
  .exact .inr (by rw[Xd];exact i2 J aa)
  .exact .inr (by rw[<- xor_swap];exact i2 J aa)
  .exact .inl (by rw[<- UY x y a];exact i2 J aa)
theorem gj:∀{L:List Nat}{a:Nat},a∈L->sp L a
 |b::L,a,h=>by
  rcases V2.mp h with rfl|h
  .exact .inr (by rw[Ye];exact tX L)
  .exact .inl (gj h)
theorem hF{M:List Nat}:∀{L:List Nat}{x:Nat},(∀a∈L,sp M a)->sp L x->sp M x
 |[],x,_,h=>by cases h;exact tX M
 |a::L,x,ab,h=>by
  have e3:∀b∈L,sp M b:=λb ae=>ab b (List.mem_cons_of_mem _ ae)
  rcases h with h|h
  .exact hF e3 h
  .have:=i2 (hF e3 h) (ab a List.mem_cons_self);rwa[mF]at this
theorem tW{k:Nat}:∀{L:List Nat}{x:Nat},(∀a∈L,a.testBit k=false)->sp L x->x.testBit k=false
 |[],x,_,h=>by cases h;exact Yg k
 |a::L,x,ab,h=>by
  have e3:∀b∈L,b.testBit k=false:=λb ae=>ab b (List.mem_cons_of_mem _ ae)
  rcases h with h|h
  .exact tW e3 h
  .have:=tW e3 h;rwa[W6,ab a List.mem_cons_self,Z4]at this
theorem yM{n:Nat}:∀{L:List Nat}{x:Nat},(∀a∈L,a<2 ^ n)->sp L x->x<2 ^ n
 |[],x,_,h=>by cases h;exact ZX n
 |a::L,x,ab,h=>by
  have e3:∀b∈L,b<2 ^ n:=λb ae=>ab b (List.mem_cons_of_mem _ ae)
  rcases h with h|h
  .exact yM e3 h
  .have:=XA (yM e3 h) (ab a List.mem_cons_self);rwa[mF]at this
noncomputable abbrev Row:=Nat×Nat
noncomputable abbrev cR:=List (Nat×Row)
noncomputable def rws(B:cR):List Nat:=B.map λe=>e.2.1
noncomputable def one(r:Row)(e:Nat×Row):Row:=if r.1.testBit e.1=true then(r.1 ^^^ e.2.1,r.2 ^^^ e.2.2) else r
noncomputable def red(B:cR)(r:Row):Row:=B.foldl one r
def rv(e:Nat×Row)(B:cR)(r:Row):red (e::B) r=red B (one r e):=rfl
structure dP(B:cR):Prop where
 ap:B.Pairwise λe f=>e.2.1.testBit f.1=false/\f.2.1.testBit e.1=false
 lo:∀e∈B,e.2.1.testBit e.1=true/\∀j,j<e.1->e.2.1.testBit j=false
theorem dP.nil:dP []:=⟨.nil,λ_ h=>nomatch h⟩
def dP.tail{e:Nat×Row}{B:cR}(h:dP (e::B)):dP B:=⟨(Wr.mp h.ap).2,λf hf=>h.lo f (List.mem_cons_of_mem _ hf)⟩
theorem Es{k:Nat}:∀{B:cR}{r:Row},(∀f∈B,f.2.1.testBit k=false)->(red B r).1.testBit k=r.1.testBit k
 |[],r,_=>rfl
 |e::B,r,h=>by
  rw[rv,Es λf hf=>h f (List.mem_cons_of_mem _ hf)]
  unfold one
  split
  .rw[W6,h e List.mem_cons_self,Z4]
  .rfl
theorem yr : ∀ {B : cR} {r : Row}, dP B -> ∀ e ∈ B, (red B r).1.testBit e.1 = false
  | f :: B, r, h, e, he => by
    obtain ⟨J, aa⟩ := Wr.mp h.ap
    rw [rv]
    rcases V2.mp he with rfl | he
    · rw [Es fun g a8 => (J g a8).2]
      unfold one
      split
      · rename_i q
        rw [W6, q, (h.lo e List.mem_cons_self).1]; rfl
      · rename_i q
        simpa using q
    · exact yr h.tail e he
theorem yt:∀{B:cR}{r:Row},sp (rws B) (r.1 ^^^ (red B r).1)
 |[],r=>Ye _
 |e::B,r=>by
  have aD:=yt (B:=B) (r:=one r e);rw[rv];unfold one at aD ⊢
  split
  .rename_i q;rw[if_pos q]at aD;exact .inr (by rw[<- xor_swap];exact aD)
  .rename_i q;rw[if_neg q]at aD;exact .inl aD
theorem AP:∀{B:cR}{x:Nat},dP B->sp (rws B) x->(∀e∈B,x.testBit e.1=false)->x=0
 |[],x,_,h,_=>h
 |e::B,x,h,ab,ae=>by
  obtain⟨J,aa⟩:=Wr.mp h.ap;rcases ab with ab|ab
  .exact AP h.tail ab λf hf=>ae f (List.mem_cons_of_mem _ hf)
  .exfalso;have:=tW (k:=e.1) (λa aA=>by obtain⟨f,hf,rfl⟩:=List.mem_map.mp aA;exact(J f hf).2) ab
   rw[W6,ae e List.mem_cons_self,(h.lo e List.mem_cons_self).1]at this;cases this
def yu{B:cR}{r:Row}(h:dP B):(red B r).1=0<->sp (rws B) r.1:=by
 have J:=yt (B:=B) (r:=r);constructor
 .intro z;rwa[z,Yf]at J
 .intro z;have aa:=i2 J z;rw[xor_swap,Ye,Yv]at aa;exact AP h aa (yr h)
theorem xJ : ∀ {bD : cR} {x k : Nat}, dP bD -> sp (rws bD) x -> x.testBit k = true -> (∀ j, j < k -> x.testBit j = false) -> ∃ f ∈ bD, f.1 = k
  | [], x, k, _, h, aw, _ => by cases h; rw [Yg] at aw; cases aw
  | f :: bD, x, k, h, ab, aw, aB => by
    obtain ⟨J, aa⟩ := Wr.mp h.ap
    rcases ab with ab | ab
    · obtain ⟨g, a, b⟩ := xJ h.tail ab aw aB
      exact ⟨g, List.mem_cons_of_mem _ a, b⟩
    · have ae := tW (k := f.1) (fun a aA => by obtain ⟨g, a8, rfl⟩ := List.mem_map.mp aA; exact (J g a8).2) ab
      obtain ⟨bU, cJ⟩ := h.lo f List.mem_cons_self
      rw [W6, bU] at ae
      have ah : x.testBit f.1 = true := by cases q : x.testBit f.1 <;> rw [q] at ae <;> first | rfl | cases ae
      by_cases c : f.1 = k
      · exact ⟨f, List.mem_cons_self, c⟩
      · have cm : k < f.1 := by
          rcases Zw k f.1 with q | q | q
          · exact q
          · exact absurd q.symm c
          · rw [aB f.1 q] at ah; cases ah
        obtain ⟨g, a, b⟩ := xJ h.tail ab (k := k) (by rw [W6, aw, cJ k cm]; rfl) fun j q => by rw [W6, aB j q, cJ j (by omega)]; rfl
        exact ⟨g, List.mem_cons_of_mem _ a, b⟩
def qa{B:cR}(h:dP B):(B.map (·.1)).Nodup:=by
 rw[Zf,Xm];refine Xe (λ{e f} he hf q z=>?_) h.ap
 have:=(h.lo f hf).1;rw[<- z,q.2]at this;cases this
def AO{B bD:cR}(g0:dP B)(LF:dP bD)(h:∀x,sp (rws B) x->sp (rws bD) x):B.length<=bD.length:=by
 have:=bt.nK (qa g0) (ys:=bD.map (·.1)) λz hz=>by
  obtain⟨e,he,rfl⟩:=List.mem_map.mp hz;obtain⟨f,hf,q⟩:=xJ LF (h _ (gj (List.mem_map.mpr ⟨e,he,rfl⟩))) (g0.lo e he).1 (g0.lo e he).2;exact List.mem_map.mpr ⟨f,hf,q⟩
 simpa using this
noncomputable def lo(n:Nat):Nat:=if h:n=0 then 0 else if n%2=1 then 0 else lo (n / 2)+1
def C9 (n : Nat) (h : 0 < n) : n.testBit (lo n) = true /\ (∀ j, j < lo n -> n.testBit j = false) /\ n - (n &&& (n - 1)) = 2 ^ lo n /\ (n &&& (n - 1)) <= n := by
  induction n using Nat.strongRecOn with
  | ind n aD =>
    rw [lo, dif_neg (by omega)]
    by_cases c : n % 2 = 1
    · rw [if_pos c]
      refine ⟨by rw [YJ]; simp [c], fun j aB => by omega, ?_, Nat.and_le_left⟩
      have ak : (n &&& (n - 1)) / 2 = n / 2 := by rw [Y3, show (n - 1) / 2 = n / 2 by omega, Nat.and_self]
      have av : (n &&& (n - 1)) % 2 = 0 := by
        have := @XT n (n - 1)
        rcases V8 (n &&& (n - 1)) with q | q
        · exact q
        · have := (this.mp q).2; omega
      show n - (n &&& (n - 1)) = 1
      omega
    · rw [if_neg c]
      obtain ⟨eS, gh, ju, qP⟩ := aD (n / 2) (by omega) (by omega)
      refine ⟨by rw [YK]; exact eS, fun j aB => ?_, ?_, Nat.and_le_left⟩
      · cases j with
        | zero => rw [YJ]; simp [c]
        | succ j => rw [YK]; exact gh j (by omega)
      · have ak : (n &&& (n - 1)) / 2 = n / 2 &&& (n / 2 - 1) := by rw [Y3, show (n - 1) / 2 = n / 2 - 1 by omega]
        have av : (n &&& (n - 1)) % 2 = 0 := by
          have := @XT n (n - 1)
          rcases V8 (n &&& (n - 1)) with q | q
          · exact q
          · have := (this.mp q).1; omega
        rw [Nat.pow_succ]
        rw [<- ak] at ju qP
        omega
noncomputable def grow(B:cR)(r:Row):cR:=if (red B r).1=0 then B else B.map (λe=>(e.1,one e.2 (lo (red B r).1,red B r)))++[(lo (red B r).1,red B r)]
def ql {B : cR} (h : dP B) (r : Row) : dP (grow B r) := by
  unfold grow
  split
  · exact h
  · rename_i au
    have ae := yr (r := r) h
    generalize red B r = l at au ae
    obtain ⟨bU, cJ, -, -⟩ := C9 l.1 (by omega)
    generalize lo l.1 = k at bU cJ
    have on : ∀ (e : Nat × Row) j, (one e.2 (k, l)).1.testBit j = (e.2.1.testBit j ^^ (e.2.1.testBit k && l.1.testBit j)) := fun e j => by
      unfold one
      by_cases q : e.2.1.testBit k = true
      · rw [if_pos q, W6, q, Bool.true_and]
      · rw [if_neg q]
        have q : e.2.1.testBit k = false := by simpa using q
        rw [q, Zb, Z4]
    refine ⟨Wd.mpr ⟨?_, Xu _ _, fun e he f hf => ?_⟩, fun e he => ?_⟩
    · rw [Xm]
      refine Xe (fun {e f} he hf q => ?_) h.ap
      dsimp only
      rw [on, on, q.1, q.2, ae e he, ae f hf, XB, XB]
      exact ⟨rfl, rfl⟩
    · obtain ⟨bl, hv, rfl⟩ := List.mem_map.mp he
      obtain rfl := Ws.mp hf
      dsimp only
      rw [on, bU, ae bl hv, ZG, Bool.xor_self]
      exact ⟨rfl, rfl⟩
    · rcases Wi.mp he with he | he
      · obtain ⟨bl, hv, rfl⟩ := List.mem_map.mp he
        dsimp only
        obtain ⟨cQ, cp⟩ := h.lo bl hv
        refine ⟨by rw [on, cQ, ae bl hv, XB]; rfl, fun j aB => ?_⟩
        rw [on, cp j aB]
        by_cases q : bl.2.1.testBit k = true
        · have : bl.1 < k := by
            rcases Zw bl.1 k with w | w | w
            · exact w
            · have := ae bl hv; rw [w, bU] at this; cases this
            · rw [cp k w] at q; cases q
          rw [cJ j (by omega), XB]; rfl
        · have q : bl.2.1.testBit k = false := by simpa using q
          rw [q]; rfl
      · obtain rfl := Ws.mp he
        exact ⟨bU, cJ⟩
def BH {B : cR} (h : dP B) (r : Row) (x : Nat) : sp (rws (grow B r)) x <-> sp (r.1 :: rws B) x := by
  have h0 := yt (B := B) (r := r)
  unfold grow
  split
  · rename_i z
    rw [z, Yf] at h0
    exact ⟨.inl, hF fun a aA => by rcases V2.mp aA with rfl | aA; exact h0; exact gj aA⟩
  · generalize red B r = l at h0
    generalize lo l.1 = k
    have au : ∀ {M : List Nat}, sp M l.1 -> (∀ e ∈ B, sp M (one e.2 (k, l)).1) -> ∀ a ∈ rws B, sp M a := fun {M} J aa a aA => by
      obtain ⟨e, he, rfl⟩ := List.mem_map.mp aA
      have := aa e he
      unfold one at this
      split at this
      · have := i2 this J
        rwa [mF] at this
      · exact this
    constructor
    · refine hF fun a aA => ?_
      have rh : sp (r.1 :: rws B) l.1 := by
        have J : sp (r.1 :: rws B) (r.1 ^^^ l.1) := .inl h0
        have := i2 J (gj (L := r.1 :: rws B) List.mem_cons_self)
        rwa [xor_swap, Ye, Yv] at this
      unfold rws at aA
      rw [List.map_append, List.map_map] at aA
      rcases Wi.mp aA with aA | aA
      · obtain ⟨e, he, rfl⟩ := List.mem_map.mp aA
        have Dn : sp (r.1 :: rws B) e.2.1 := .inl (gj (List.mem_map.mpr ⟨e, he, rfl⟩))
        show sp _ (one e.2 (k, l)).1
        unfold one
        split
        · exact i2 Dn rh
        · exact Dn
      · obtain rfl : a = l.1 := by simpa using aA
        exact rh
    · have rh : sp (rws (B.map (fun e => (e.1, one e.2 (k, l))) ++ [(k, l)])) l.1 := gj (by unfold rws; simp)
      have Dj := au rh fun e he => gj (by unfold rws; rw [List.map_append, List.map_map]; exact List.mem_append_left _ (List.mem_map.mpr ⟨e, he, rfl⟩))
      refine hF fun a aA => ?_
      rcases V2.mp aA with rfl | aA
      · have := i2 (hF Dj h0) rh
        rwa [mF] at this
      · exact Dj a aA
def sD(B:cR)(r:Row):(grow B r).length=B.length+if (red B r).1=0 then 0 else 1:=by
 unfold grow
 split<;>simp
noncomputable def d9(B:cR)(rs:List Row):cR:=rs.foldl grow B
theorem l0:∀{rs:List Row}{B:cR},dP B->dP (d9 B rs)
 |[],_,h=>h
 |r::rs,_,h=>l0 (rs:=rs) (ql h r)
theorem sC : ∀ {rs : List Row} {B : cR}, dP B -> ∀ x, sp (rws (d9 B rs)) x <-> sp (rs.map (·.1) ++ rws B) x
  | [], _, h, x => Iff.rfl
  | r :: rs, B, h, x => by
    show sp (rws (d9 (grow B r) rs)) x <-> _
    rw [sC (ql h r) x]
    have g := BH h r
    constructor
    · refine hF fun a aA => ?_
      rcases Wi.mp aA with aA | aA
      · exact gj (by rw [List.map_cons]; exact List.mem_cons_of_mem _ (List.mem_append_left _ aA))
      · refine hF (fun b ae => ?_) ((g a).mp (gj aA))
        refine gj ?_
        rw [List.map_cons]
        rcases V2.mp ae with rfl | ae
        · exact List.mem_cons_self
        · exact List.mem_cons_of_mem _ (Wf _ ae)
    · refine hF fun a aA => ?_
      have aF : ∀ b, b ∈ r.1 :: rws B -> sp (rs.map (·.1) ++ rws (grow B r)) b := fun b ae => hF (fun c aj => gj (Wf _ aj)) ((g b).mpr (gj ae))
      rw [List.map_cons, List.cons_append] at aA
      rcases V2.mp aA with rfl | aA
      · exact aF _ List.mem_cons_self
      · rcases Wi.mp aA with aA | aA
        · exact gj (List.mem_append_left _ aA)
        · exact aF a (List.mem_cons_of_mem _ aA)
end iG
end
section
namespace iG
noncomputable def bd:List Nat->Nat->Nat
 |[],_=>0
 |a::as,z=>(if z%2=1 then a else 0) ^^^ bd as (z / 2)
def UU(a b c d:Nat):(a ^^^ b) ^^^ (c ^^^ d)=(a ^^^ c) ^^^ (b ^^^ d):=by rw[Xd,<- Xd b c d,Nat.xor_comm b c,Xd c b d,<- Xd]
theorem oc:∀(as:List Nat)(x y:Nat),bd as (x ^^^ y)=bd as x ^^^ bd as y
 |[],_,_=>(Ye 0).symm
 |a::as,x,y=>by
  show(if (x ^^^ y)%2=1 then a else 0) ^^^ bd as ((x ^^^ y) / 2)=((if x%2=1 then a else 0) ^^^ bd as (x / 2)) ^^^ ((if y%2=1 then a else 0) ^^^ bd as (y / 2));rw[ZY,oc as,UU];congr 1;have:=@Yw x y
  by_cases J:x%2=1<;>by_cases aa:y%2=1<;>simp[J,aa,this]
theorem vt:∀(as:List Nat)(a z:Nat),bd (as++[a]) z=bd as z ^^^ (if z.testBit as.length=true then a else 0)
 |[],a,z=>by
  show(if z%2=1 then a else 0) ^^^ 0=0 ^^^ _;rw[Yf,Yv,List.length_nil,YJ];simp
 |b::as,a,z=>by
  show(if z%2=1 then b else 0) ^^^ bd (as++[a]) (z / 2)=((if z%2=1 then b else 0) ^^^ bd as (z / 2)) ^^^ _;rw[vt as a,List.length_cons,YK,Xd]
theorem zY:∀(as:List Nat)(z:Nat),(∀j,j<as.length->z.testBit j=false)->bd as z=0
 |[],_,_=>rfl
 |a::as,z,h=>by
  have h0:=h 0 (by simp)
  rw[YJ]at h0;show(if z%2=1 then a else 0) ^^^ bd as (z / 2)=0;rw[if_neg (by simpa using h0),zY as (z / 2) λj aB=>by rw[<- YK];exact h (j+1) (by simpa using aB)]
  rfl
def z0(as:List Nat)(a:Nat):bd (as++[a]) (2 ^ as.length)=a:=by
 rw[vt,zY as _ λj aB=>by rw[Yj];simp;omega,XM,if_pos rfl,Yv]
def mW(as:List Nat)(a:Nat){z:Nat}(h:z<2 ^ as.length):bd (as++[a]) z=bd as z:=by
 rw[vt,Xn h];simp
def vM{n z:Nat}(h:z<2 ^ (n+1)):(z.testBit n=false/\z<2 ^ n)\/(z.testBit n=true/\∀u,u<2 ^ (n+1)->u.testBit n=true->z ^^^ u<2 ^ n):=by
 have key:∀y,y<2 ^ (n+1)->y.testBit n=false->y<2 ^ n:=λy aC az=>by
  refine Nat.lt_pow_two_of_testBit y λi hi=>?_
  rcases ZU n i with q|q
  .exact Xn (Wk aC (WJ (by decide) q))
  .rw[show i=n by omega];exact az
 cases q:z.testBit n with
 |false=>exact .inl ⟨rfl,key z h q⟩
 |true=>exact .inr ⟨rfl,λu bO ae=>key _ (XA h bO) (by rw[W6,q,ae];rfl)⟩
theorem Er{as:List Nat}:∀{B:cR}{r:Row},(∀e∈B,bd as e.2.2=e.2.1)->bd as r.2=r.1->bd as (red B r).2=(red B r).1
 |[],r,_,h=>h
 |e::B,r,g0,h=>by
  rw[rv];refine Er (λf hf=>g0 f (List.mem_cons_of_mem _ hf)) ?_
  unfold one
  split
  .show bd as (r.2 ^^^ e.2.2)=r.1 ^^^ e.2.1;rw[oc,h,g0 e List.mem_cons_self]
  .exact h
theorem Et{n:Nat}:∀{B:cR}{r:Row},(∀e∈B,e.2.2<2 ^ n)->∃u,u<2 ^ n/\(red B r).2=r.2 ^^^ u
 |[],r,_=>⟨0,ZX n,(Yf _).symm⟩
 |e::B,r,g0=>by
  obtain⟨u,J,aa⟩:=Et (B:=B) (r:=one r e) λf hf=>g0 f (List.mem_cons_of_mem _ hf)
  rw[rv,aa];unfold one
  split
  .exact⟨e.2.2 ^^^ u,XA (g0 e List.mem_cons_self) J,by rw[<- Xd]⟩
  .exact⟨u,J,rfl⟩
noncomputable def step(st:cR×List Nat)(r:Row):cR×List Nat:=(grow st.1 r,if (red st.1 r).1=0 then st.2++[(red st.1 r).2] else st.2)
noncomputable def ez(rs:List Row):cR×List Nat:=rs.foldl step ([],[])
noncomputable def eo(as:List Nat):List Row:=as.zipIdx.map λp=>(p.1,2 ^ p.2)
def OL(as:List Nat)(a:Nat):eo (as++[a])=eo as++[(a,2 ^ as.length)]:=by
 unfold eo;rw[List.zipIdx_append,List.map_append];simp
def Cv(rs:List Row)(r:Row):ez (rs++[r])=step (ez rs) r:=by unfold ez;rw[List.foldl_append];rfl
noncomputable def bare(b:Nat):Row:=(b,0)
structure St(as:List Nat)(B:cR)(F:List Nat):Prop where
 sb:dP B
 od:∀e∈B,bd as e.2.2=e.2.1/\e.2.2<2 ^ as.length
 len:B.length+F.length=as.length
 jk:∀b∈F,b<2 ^ as.length
 fin:(d9 [] (F.map bare)).length=F.length
 td:∀z,z<2 ^ as.length->bd as z=0->sp F z
 qQ:∀z,z<2 ^ as.length->sp (rws B) (bd as z)
def yL{F:List Nat}{x:Nat}:sp (rws (d9 [] (F.map bare))) x<->sp F x:=by
 rw[sC dP.nil,List.map_map];have e:F.map ((λx:Row=>x.1) ∘ bare)=F:=by
  have:((λx:Row=>x.1) ∘ bare)=id:=rfl
  rw[this,List.map_id]
 rw[e];show sp (F++[]) x<->_;rw[W5]
def snoc_ind{P:List Nat->Prop}(h0:P [])(J:∀as a,P as->P (as++[a]))(as:List Nat):P as:=by
 have key:∀n (as:List Nat),as.length=n->P as:=by
  intro n
  induction n with
  |zero=>intro as h;rw[YX h];exact h0
  |succ n aD =>
   intro as h;rcases X2 as with rfl|⟨l,a,rfl⟩
   .cases h
   .rw[X3]at h ⊢;exact J l a (aD l (by simpa using h))
 exact key _ as rfl
def Fu (as : List Nat) : St as (ez (eo as)).1 (ez (eo as)).2 := by
  refine snoc_ind (P := fun as => St as (ez (eo as)).1 (ez (eo as)).2) ?_ ?_ as
  · show St [] [] []
    refine ⟨dP.nil, (fun _ h => nomatch h), rfl, (fun _ h => nomatch h), rfl, fun z h _ => ?_, fun _ _ => rfl⟩
    have h : z < 1 := h
    show z = 0
    omega
  · intro as a aD
    rw [OL, Cv]
    generalize (ez (eo as)) = st at aD
    obtain ⟨B, F⟩ := st
    dsimp only at aD
    unfold step
    dsimp only
    have ae : ∀ e ∈ B, bd (as ++ [a]) e.2.2 = e.2.1 := fun e he => by rw [mW as a (aD.od e he).2]; exact (aD.od e he).1
    have bU := Er (r := (a, 2 ^ as.length)) ae (z0 as a)
    obtain ⟨u, bO, cJ⟩ := Et (B := B) (r := (a, 2 ^ as.length)) fun e he => (aD.od e he).2
    have hz := yu (r := (a, 2 ^ as.length)) aD.sb
    have a8 := sD B (a, 2 ^ as.length)
    have hD : (as ++ [a]).length = as.length + 1 := by simp
    have up : ∀ {z}, z < 2 ^ as.length -> z < 2 ^ (as ++ [a]).length := fun {z} h => by rw [hD, Nat.pow_succ]; omega
    have tt : (2 : Nat) ^ as.length < 2 ^ (as ++ [a]).length := by rw [hD]; exact X9 (by decide) (XQ _)
    have e4 : (red B (a, 2 ^ as.length)).2 < 2 ^ (as ++ [a]).length := by rw [cJ]; exact XA tt (up bO)
    have te : (red B (a, 2 ^ as.length)).2.testBit as.length = true := by
      rw [cJ, W6]
      show ((2 ^ as.length).testBit as.length ^^ u.testBit as.length) = true
      rw [XM, Xn bO]; rfl
    have top : ∀ {z}, z < 2 ^ (as ++ [a]).length -> z.testBit as.length = true -> bd (as ++ [a]) z = bd as (z ^^^ 2 ^ as.length) ^^^ a /\ z ^^^ 2 ^ as.length < 2 ^ as.length := fun {z} h q => by
      have cm : z ^^^ 2 ^ as.length < 2 ^ as.length := by
        rcases vM (n := as.length) (by rw [<- hD]; exact h) with ⟨w, _⟩ | ⟨_, w⟩
        · rw [q] at w; cases w
        · exact w _ (by rw [<- hD]; exact tt) (XM)
      refine ⟨?_, cm⟩
      rw [<- mW as a cm, oc, z0, mF]
    have low : ∀ {z}, z < 2 ^ (as ++ [a]).length -> z.testBit as.length = false -> z < 2 ^ as.length := fun {z} h q => by
      rcases vM (n := as.length) (by rw [<- hD]; exact h) with ⟨_, w⟩ | ⟨w, _⟩
      · exact w
      · rw [q] at w; cases w
    generalize au : red B (a, 2 ^ as.length) = l at bU cJ e4 te hz a8
    by_cases c : l.1 = 0
    · have wZ : grow B (a, 2 ^ as.length) = B := by unfold grow; rw [au, if_pos c]
      rw [if_pos c, wZ]
      refine ⟨aD.sb, fun e he => ⟨ae e he, up (aD.od e he).2⟩, by rw [V0, hD]; have := aD.len; simp; omega, fun b hT => ?_, ?_, fun z h0 J => ?_, fun z h0 => ?_⟩
      · rcases Wi.mp hT with h | h
        · exact up (aD.jk b h)
        · rw [Ws.mp h]; exact e4
      · rw [List.map_append]
        show (d9 [] (F.map bare ++ [bare l.2])).length = _
        unfold d9
        rw [List.foldl_append]
        show (grow (d9 [] (F.map bare)) (bare l.2)).length = _
        rw [sD, aD.fin, V0, if_neg]
        · rfl
        · intro w
          have := yM aD.jk (yL.mp ((yu (l0 dP.nil)).mp w))
          have this : l.2 < 2 ^ as.length := this
          rw [Xn this] at te; cases te
      · cases q : z.testBit as.length with
        | false =>
          have := aD.td z (low h0 q) (by rw [<- mW as a (low h0 q)]; exact J)
          exact hF (fun b ae => gj (List.mem_append_left _ ae)) this
        | true =>
          have aa : z ^^^ l.2 < 2 ^ as.length := by
            rcases vM (n := as.length) (by rw [<- hD]; exact h0) with ⟨w, _⟩ | ⟨_, w⟩
            · rw [q] at w; cases w
            · exact w _ (by rw [<- hD]; exact e4) te
          have aL := aD.td _ aa (by rw [<- mW as a aa, oc, J, bU, c]; rfl)
          have a7 : sp (F ++ [l.2]) (z ^^^ l.2) := hF (fun b ae => gj (List.mem_append_left _ ae)) aL
          have := i2 a7 (gj (Wf F List.mem_cons_self))
          rwa [mF] at this
      · cases q : z.testBit as.length with
        | false => rw [mW as a (low h0 q)]; exact aD.qQ z (low h0 q)
        | true =>
          obtain ⟨t1, e9⟩ := top h0 q
          rw [t1]
          exact i2 (aD.qQ _ e9) (hz.mp c)
    · have wZ : ∀ e ∈ grow B (a, 2 ^ as.length), bd (as ++ [a]) e.2.2 = e.2.1 /\ e.2.2 < 2 ^ (as ++ [a]).length := fun e he => by
        unfold grow at he
        rw [au, if_neg c] at he
        rcases Wi.mp he with he | he
        · obtain ⟨f, hf, rfl⟩ := List.mem_map.mp he
          dsimp only
          unfold one
          split
          · exact ⟨by rw [oc, ae f hf, bU], XA (up (aD.od f hf).2) e4⟩
          · exact ⟨ae f hf, up (aD.od f hf).2⟩
        · rw [Ws.mp he]; exact ⟨bU, e4⟩
      rw [if_neg c]
      rw [if_neg c] at a8
      refine ⟨ql aD.sb _, wZ, by rw [a8, hD]; have := aD.len; omega, fun b hT => up (aD.jk b hT), aD.fin, fun z h0 J => ?_, fun z h0 => ?_⟩
      · cases q : z.testBit as.length with
        | false => exact aD.td z (low h0 q) (by rw [<- mW as a (low h0 q)]; exact J)
        | true =>
          exfalso
          obtain ⟨t1, e9⟩ := top h0 q
          rw [J] at t1
          have : bd as (z ^^^ 2 ^ as.length) = a := by
            have w : 0 ^^^ a = (bd as (z ^^^ 2 ^ as.length) ^^^ a) ^^^ a := Xl (· ^^^ a) t1
            rw [mF, Yv] at w
            exact w.symm
          exact c (hz.mpr (by have cu := aD.qQ _ e9; rw [this] at cu; exact cu))
      · rw [BH aD.sb]
        cases q : z.testBit as.length with
        | false => rw [mW as a (low h0 q)]; exact .inl (aD.qQ z (low h0 q))
        | true =>
          obtain ⟨t1, e9⟩ := top h0 q
          rw [t1]
          exact .inr (by rw [mF]; exact aD.qQ _ e9)
noncomputable def tell(st:cR×List Nat)(b:Nat):cR×List Nat:=(grow st.1 (bare b),if (red st.1 (bare b)).1=0 then st.2 else st.2++[b])
theorem FR:∀(F:List Nat)(B:cR)(G:List Nat),(F.foldl tell (B,G)).2.length+B.length=(d9 B (F.map bare)).length+G.length
 |[],B,G=>Nat.add_comm _ _
 |b::F,B,G=>by
  show(F.foldl tell (tell (B,G) b)).2.length+B.length=(d9 (grow B (bare b)) (F.map bare)).length+G.length;have h:=FR F (grow B (bare b)) (if (red B (bare b)).1=0 then G else G++[b]);have aa:=sD B (bare b);have nc:tell (B,G) b=(grow B (bare b),if (red B (bare b)).1=0 then G else G++[b]):=rfl;rw[nc]
  by_cases c:(red B (bare b)).1=0
  .rw[if_pos c]at h aa ⊢;omega
  .rw[if_neg c]at h aa ⊢;rw[V0]at h;simp at h;omega
def Rc (as : List Nat) (rs : List Row) (h : ∀ r ∈ rs, r.1 < 2 ^ as.length /\ bd as r.1 = 0) :
    ((ez (eo as)).2.foldl tell (d9 [] rs, [])).2.length + (d9 [] rs).length = (ez (eo as)).2.length := by
  have st := Fu as
  generalize (ez (eo as)).2 = F at st
  rw [FR]
  have ak := l0 (rs := rs) dP.nil
  have av := l0 (rs := F.map bare) ak
  have bL := l0 (rs := F.map bare) dP.nil
  have s1 : ∀ x, sp (rws (d9 (d9 [] rs) (F.map bare))) x <-> sp F x := fun x => by
    rw [sC ak, List.map_map, show F.map ((fun x : Row => x.1) ∘ bare) = F from List.map_id F]
    refine ⟨hF fun a aA => ?_, hF fun a aA => gj (List.mem_append_left _ aA)⟩
    rcases Wi.mp aA with aA | aA
    · exact gj aA
    · have := (sC (rs := rs) dP.nil a).mp (gj aA)
      refine hF (fun b ae => ?_) this
      rw [show rws [] = [] from rfl, W5] at ae
      obtain ⟨r, a9, rfl⟩ := List.mem_map.mp ae
      exact st.td _ (h r a9).1 (h r a9).2
  have eS := AO av bL fun x ah => yL.mpr ((s1 x).mp ah)
  have gh := AO bL av fun x ah => (s1 x).mpr (yL.mp ah)
  have := st.fin
  simp only [List.length_nil]
  omega
end iG
end
section
namespace iG
def ze:∀x y:Nat,(x ^^^ y)+2*(x &&& y)=x+y:=by
 intro x
 induction x using Nat.strongRecOn with
 |ind x aD =>
  intro y
  by_cases h:x=0
  .subst h;simp
  .have J:=aD (x / 2) (by omega) (y / 2)
   have ak:(x ^^^ y) / 2=x / 2 ^^^ y / 2:=ZY;have av:(x &&& y) / 2=x / 2 &&& y / 2:=Y3;have bL:(x ^^^ y)%2=(x%2+y%2)%2:=by
    have:=@Yw x y;rcases V8 x with a|a<;>rcases V8 y with b|b<;>rcases V8 (x ^^^ y) with c|c<;>simp[a,b,c]at this ⊢
   have fD:(x &&& y)%2=(x%2)*(y%2):=by
    have:=@XT x y;rcases V8 x with a|a<;>rcases V8 y with b|b<;>rcases V8 (x &&& y) with c|c<;>simp[a,b,c]at this ⊢
   rw[<- ak,<- av]at J;revert J bL fD;generalize x ^^^ y=p;generalize x &&& y=q;intro J bL fD;rcases V8 x with a|a<;>rcases V8 y with b|b<;>rw[a,b]at bL fD<;>omega
noncomputable def kq:List Nat->Nat
 |[]=>0
 |a::as=>a ^^^ kq as
theorem zg(j:Nat):∀L:List Nat,(kq L).testBit j=decide ((L.countP λa=>a.testBit j)%2=1)
 |[]=>by simp[kq]
 |a::L=>by
  rw[kq,W6,zg j L,YL];cases a.testBit j with
  |false=>simp
  |true =>
   simp only[WN,Bool.true_xor];rcases V8 (L.countP λa=>a.testBit j) with h|h
   .rw[h,show(List.countP (λa=>a.testBit j) L+1)%2=1 by omega];rfl
   .rw[h,show(List.countP (λa=>a.testBit j) L+1)%2=0 by omega];rfl
theorem vu:∀as:List Nat,bd as 0=0
 |[]=>rfl
 |a::as=>by show(if 0%2=1 then a else 0) ^^^ bd as (0 / 2)=0;rw[if_neg (by decide),Nat.zero_div,vu as];rfl
theorem zZ:∀(as:List Nat)(j:Nat),bd as (2 ^ j)=as.getD j 0
 |[],j=>by simp[bd]
 |a::as,0=>by
  show(if 1%2=1 then a else 0) ^^^ bd as (1 / 2)=a;rw[if_pos (by decide),show 1 / 2=0 by decide,vu,Yf]
 |a::as,j+1=>by
  show(if 2 ^ (j+1)%2=1 then a else 0) ^^^ bd as (2 ^ (j+1) / 2)=(a::as).getD (j+1) 0;have J:2 ^ (j+1)%2=0:=by rw[Nat.pow_succ];omega
  have aa:2 ^ (j+1) / 2=2 ^ j:=by rw[Nat.pow_succ];omega
  rw[if_neg (by omega),aa,zZ as j,Yv]
  rfl
theorem z1(as:List Nat):∀L:List Nat,bd as (kq L)=kq (L.map (bd as))
 |[]=>vu as
 |a::L=>by rw[kq,oc,z1 as L,List.map_cons,kq]
section
variable{α:Type}[DecidableEq α]
noncomputable abbrev c9(U:List α)(x:α):Nat:=U.idxOf x
def NB{U:List α}(d5:U.Nodup){i:Nat}(h:i<U.length):c9 U U[i]=i:=d5.idxOf_getElem i h
noncomputable def dO(U xs:List α):Nat:=kq (xs.map λx=>2 ^ c9 U x)
def Dt {U : List α} (j : Nat) (aB : j < U.length) {xs : List α} (ah : xs.Nodup) (d5 : U.Nodup) : (dO U xs).testBit j = decide (U[j] ∈ xs) := by
  unfold dO
  rw [zg, Y4]
  have e : xs.countP ((fun a => a.testBit j) ∘ fun x => 2 ^ U.idxOf x) = xs.countP fun x => x == U[j] := by
    refine Yx fun x ah => ?_
    simp only [Function.comp, Yj, Wh, WQ]
    constructor
    · intro h
      have : U[U.idxOf x]'(by omega) = x := Zg (by omega)
      rw [<- this]
      congr 1
    · intro h
      rw [h]
      exact d5.idxOf_getElem j aB
  have Il : ∀ {xs : List α} (y : α), xs.Nodup -> xs.countP (fun x => x == y) = if y ∈ xs then 1 else 0 := fun {xs} y => by
    induction xs with
    | nil => intro _; rfl
    | cons x xs aD =>
      intro az
      obtain ⟨hD, gL⟩ := WB.mp az
      rw [YL, aD gL]
      by_cases q : x = y
      · subst q; simp [hD]
      · simp [q, Xr q]
  rw [e, Il _ ah]
  by_cases h : U[j] ∈ xs
  · rw [if_pos h, decide_eq_true h]; rfl
  · rw [if_neg h, decide_eq_false h]; rfl
theorem xW{U:List α}:∀{xs:List α},(∀x∈xs,x∈U)->dO U xs<2 ^ U.length
 |[],_=>ZX _
 |x::xs,h=>by
  show 2 ^ U.idxOf x ^^^ dO U xs<2 ^ U.length;refine XA (X9 (by decide) (X6 (h x List.mem_cons_self))) (xW λy aC=>h y (List.mem_cons_of_mem _ aC))
theorem Du{U:List α}(d5:U.Nodup):∀{xs:List α},xs.Nodup->(∀x∈xs,x∈U)->(xs.map λx=>((2 ^ c9 U x:Nat):Int)).sum=(dO U xs:Int)
 |[],_,_=>rfl
 |x::xs,ah,h=>by
  obtain⟨J,aa⟩:=WB.mp ah;have M3:=h x List.mem_cons_self;have cm:=X6 M3;rw[List.map_cons,List.sum_cons,Du d5 aa λy aC=>h y (List.mem_cons_of_mem _ aC)]
  show _=((2 ^ c9 U x ^^^ dO U xs:Nat):Int);have ae:(dO U xs).testBit (c9 U x)=false:=by rw[Dt _ cm aa d5,Zg cm,decide_eq_false J]
  have aA:2 ^ c9 U x &&& dO U xs=0:=by
   apply YY;intro i;rw[ZZ,Yj,Yg]
   by_cases q:c9 U x=i
   .rw[<- q,ae];simp
   .simp[q]
  have:=ze (2 ^ c9 U x) (dO U xs);rw[aA]at this;omega
def Q8 {U V : List α} {iB : α -> List α} {c : List α} (d5 : U.Nodup) (LM : V.Nodup) (aj : ∀ x ∈ c, x ∈ U) (ab : ∀ x ∈ c, (iB x).Nodup /\ ∀ y ∈ iB x, y ∈ V) (aa : ∀ y, (c.countP fun x => decide (y ∈ iB x)) % 2 = 0) :
    bd (U.map fun x => dO V (iB x)) (dO U c) = 0 := by
  unfold dO
  rw [z1, List.map_map]
  have e : c.map (bd (U.map fun x => dO V (iB x)) ∘ fun x => 2 ^ U.idxOf x) = c.map fun x => dO V (iB x) := by
    refine Xx fun x ah => ?_
    have cm := X6 (aj x ah)
    show bd _ (2 ^ U.idxOf x) = _
    rw [zZ, List.getD, Wg, V5 cm, Zg cm]
    rfl
  have e : c.map (bd (U.map fun x => kq ((iB x).map fun x => 2 ^ V.idxOf x)) ∘ fun x => 2 ^ U.idxOf x) = c.map fun x => dO V (iB x) := e
  rw [e]
  apply YY
  intro j
  rw [zg, Y4, Yg]
  by_cases aB : j < V.length
  · have av : c.countP ((fun a => a.testBit j) ∘ fun x => dO V (iB x)) = c.countP fun x => decide (V[j] ∈ iB x) := by
      refine Yx fun x ah => ?_
      show (dO V (iB x)).testBit j = true <-> _
      rw [Dt j aB (ab x ah).1 LM]
    rw [av, aa]; rfl
  · have av : c.countP ((fun a => a.testBit j) ∘ fun x => dO V (iB x)) = 0 := by
      rw [List.countP_eq_zero]
      intro x ah
      show ¬ (dO V (iB x)).testBit j = true
      rw [Xn (Wk (xW (ab x ah).2) (WJ (by decide) (ZJ aB)))]
      simp
    rw [av]; rfl
end
end iG
end
section
namespace fC
open PySem PySem.SetTable
noncomputable def lF(xs:Array Nat):Prop:=∀(i j a b:Nat),i<j->xs[i]?=some a->xs[j]?=some b->a<b
noncomputable def uI(xs:Array Nat)(j p:Nat):Prop:=∀(q a:Nat),q<p->xs[q]?=some a->a<j
noncomputable def uC(xs:Array Nat)(j p:Nat):Prop:=∀(q a:Nat),p<=q->xs[q]?=some a->j<=a
theorem wA{xs:Array Nat}(a9:lF xs)(j:Nat):∀(fuel lo hi:Nat),hi-lo<=fuel->lo<=hi->hi<=xs.size->uI xs j lo->uC xs j hi ->
  below.go xs j fuel lo hi<=xs.size/\uI xs j (below.go xs j fuel lo hi)/\uC xs j (below.go xs j fuel lo hi)
 |0,lo,hi,J,aa,aL,au,cM=>by
  have e:lo=hi:=by omega
  subst e;exact⟨aL,au,cM⟩
 |fuel+1,lo,hi,J,aa,aL,au,cM=>by
  unfold below.go
  by_cases cm:lo<hi
  .rw[if_pos cm];have hm:(lo+hi) / 2<xs.size:=by omega
   have a8:xs[(lo+hi) / 2]?=some xs[(lo+hi) / 2]:=V4 hm;have hd:xs.getD ((lo+hi) / 2) j=xs[(lo+hi) / 2]:=by simp[Array.getD,hm]
   simp only[hd]
   by_cases aj:xs[(lo+hi) / 2]<j
   .rw[if_pos aj];refine wA a9 j fuel _ _ (by omega) (by omega) aL ?_ cM
    intro q a aK aA
    by_cases e:q=(lo+hi) / 2
    .subst e;rw[a8]at aA;cases aA;exact aj
    .have:=a9 q ((lo+hi) / 2) a _ (by omega) aA a8;omega
   .rw[if_neg aj];refine wA a9 j fuel _ _ (by omega) (by omega) (by omega) au ?_
    intro q a aK aA
    by_cases e:q=(lo+hi) / 2
    .subst e;rw[a8]at aA;cases aA;omega
    .have:=a9 ((lo+hi) / 2) q _ a (by omega) a8 aA;omega
  .rw[if_neg cm];have e:lo=hi:=by omega
   subst e;exact⟨aL,au,cM⟩
def vv{xs:Array Nat}(a9:lF xs)(j:Nat):below xs j<=xs.size/\uI xs j (below xs j)/\uC xs j (below xs j):=by
 unfold below;refine wA a9 j _ _ _ (by omega) (by omega) (by omega) (λq a aK _=>by omega) (λq a aK aA=>?_)
 have:=(Wy.mp aA).1;omega
def below_at{xs:Array Nat}(a9:lF xs){i j:Nat}(h:xs[i]?=some j):below xs j=i:=by
 obtain⟨J,aa,aL⟩:=vv a9 j
 by_cases dp:i<below xs j
 .exact absurd (aa i j dp h) (Xz _)
 .by_cases bz:below xs j=i
  .exact bz
  .have hi:=(Wy.mp h).1;have a8:xs[below xs j]?=some (xs[below xs j]'(by omega)):=V4 (by omega)
   have a:=aL _ _ (VZ _) a8;have b:=a9 (below xs j) i _ _ (by omega) a8 h
   omega
def nR{t:SetTable}(a9:lF t.place){i j:Nat}(h:t.place[i]?=some j):t.slot j=.live i:=by
 unfold slot;rw[below_at a9 h];simp[h]
def SM{t:SetTable}(hd:t.dummies=#[]){j:Nat}(h:∀i:Nat,t.place[i]?≠some j):t.slot j=.empty:=by
 unfold slot has;have h0:(t.place[below t.place j]?==some j)=false:=by
  rw[WC];exact h _
 simp only[h0,hd];simp
noncomputable def hK(m:Nat)(p:Probe):Probe :=
 if p.more>0 then { p with j:=p.j+1,more:=p.more-1 } else
 { p with j:=(leap m p.i p.perturb).1,more:=runEnd m (leap m p.i p.perturb).1-(leap m p.i p.perturb).1,i:=(leap m p.i p.perturb).1,perturb:=(leap m p.i p.perturb).2 }
def GV(t:SetTable)(p:Probe):t.advance p=hK t.mask p:=rfl
noncomputable def Nj(m:Nat)(h:Int):Probe:={ j:=bits h%(m+1),more:=runEnd m (bits h%(m+1))-bits h%(m+1),i:=bits h%(m+1),perturb:=bits h,dummy:=none }
noncomputable def pr(m:Nat)(h:Int):Nat->Probe
 |0=>Nj m h
 |n+1=>hK m (pr m h n)
noncomputable def cF(m:Nat)(h:Int)(n:Nat):Nat:=(pr m h n).j
theorem D9(m:Nat)(h:Int):∀n,(pr m h n).dummy=none
 |0=>rfl
 |n+1=>by
  have aD:=D9 m h n;show(hK m (pr m h n)).dummy=none;unfold hK
  split<;>exact aD
def tN{m i:Nat}(h:i<=m):runEnd m i<=m/\i<=runEnd m i/\runEnd m i<=i+9:=by
 unfold runEnd;split<;>omega
def CS(m i p:Nat):(leap m i p).1<=m:=by
 unfold leap;have:(i*5+1+p / 32)%(m+1)<m+1:=aaa _ (by omega)
 show(i*5+1+p / 32)%(m+1)<=m;omega
theorem Ea(m:Nat)(h:Int):∀n,(pr m h n).j+(pr m h n).more<=m
 |0=>by
  have:bits h%(m+1)<m+1:=aaa _ (by omega)
  have:=tN (m:=m) (i:=bits h%(m+1)) (by omega)
  show bits h%(m+1)+(runEnd m (bits h%(m+1))-bits h%(m+1))<=m;omega
 |n+1=>by
  have aD:=Ea m h n;show(hK m (pr m h n)).j+(hK m (pr m h n)).more<=m;unfold hK
  split
  .show(pr m h n).j+1+((pr m h n).more-1)<=m;omega
  .have:=CS m (pr m h n).i (pr m h n).perturb;have:=tN this;show(leap m (pr m h n).i (pr m h n).perturb).1+(runEnd m (leap m (pr m h n).i (pr m h n).perturb).1-(leap m (pr m h n).i (pr m h n).perturb).1)<=m;omega
def yN(m:Nat)(h:Int)(n:Nat):cF m h n<=m:=by have:=Ea m h n;unfold cF;omega
noncomputable def run(m:Nat)(h:Int):Nat->Nat×Nat
 |0=>(bits h%(m+1),bits h)
 |r+1=>leap m (run m h r).1 (run m h r).2
def yA(m:Nat)(h:Int):∀r,(run m h r).1<=m
 |0=>by have:bits h%(m+1)<m+1:=aaa _ (by omega);show bits h%(m+1)<=m;omega
 |r+1=>CS _ _ _
noncomputable def st(m:Nat)(h:Int)(r d:Nat):Probe:={ j:=(run m h r).1+d,more:=runEnd m (run m h r).1-(run m h r).1-d,i:=(run m h r).1,perturb:=(run m h r).2,dummy:=none }
noncomputable def len(m:Nat)(h:Int)(r:Nat):Nat:=runEnd m (run m h r).1-(run m h r).1
def Ob(m:Nat)(h:Int)(r:Nat):len m h r<=9:=by have:=tN (yA m h r);unfold len;omega
def zD{m:Nat}{h:Int}{r d:Nat}(hd:d<len m h r):hK m (st m h r d)=st m h r (d+1):=by
 unfold hK;have:(st m h r d).more>0:=by show runEnd m (run m h r).1-(run m h r).1-d>0;unfold len at hd;omega
 rw[if_pos this];show Probe.mk _ _ _ _ _=Probe.mk _ _ _ _ _;congr 1
def GW{m:Nat}{h:Int}{r:Nat}:hK m (st m h r (len m h r))=st m h (r+1) 0:=by
 unfold hK;have:¬(st m h r (len m h r)).more>0:=by show ¬(runEnd m (run m h r).1-(run m h r).1-len m h r>0);unfold len;omega
 rw[if_neg this];rfl
theorem u1(m:Nat)(h:Int):∀r:Nat,∃n,n<=10*r/\pr m h n=st m h r 0/\∀k,k<n->∃bP d',bP<r/\d'<=len m h bP/\pr m h k=st m h bP d'
 |0=>⟨0,VZ _,rfl,λk aw=>absurd aw (Nat.not_lt_zero k)⟩
 |r+1=>by
  obtain⟨n,az,e,aw⟩:=u1 m h r;have walk:∀d,d<=len m h r->pr m h (n+d)=st m h r d:=by
   intro d
   induction d with
   |zero=>intro _;exact e
   |succ d aD =>
    intro hd;show hK m (pr m h (n+d))=_;rw[aD (by omega)]
    exact zD (by omega)
  have au:=Ob m h r;refine⟨n+len m h r+1,by omega,?_,λk fS=>?_⟩
  .show hK m (pr m h (n+len m h r))=_;rw[walk _ (VZ _)];exact GW
  .by_cases c:k<n
   .obtain⟨bP,d',a,b,c⟩:=aw k c;exact⟨bP,d',by omega,b,c⟩
   .refine⟨r,k-n,by omega,by omega,?_⟩
    have:=walk (k-n) (by omega)
    rw[show n+(k-n)=k by omega]at this
    exact this
def Hp(m:Nat)(h:Int)(r d:Nat)(hd:d<=len m h r):∃n,n<=10*r+d/\pr m h n=st m h r d/\∀k,k<n->∃bP d',d'<=len m h bP/\(bP<r\/(bP=r/\d'<d))/\pr m h k=st m h bP d':=by
 obtain⟨n,az,e,aw⟩:=u1 m h r;have walk:∀d,d<=len m h r->pr m h (n+d)=st m h r d:=by
  intro d
  induction d with
  |zero=>intro _;exact e
  |succ d aD =>
   intro hd;show hK m (pr m h (n+d))=_;rw[aD (by omega)]
   exact zD (by omega)
 refine⟨n+d,by omega,walk d hd,λk fS=>?_⟩
 by_cases c:k<n
 .obtain⟨bP,d',a,b,c⟩:=aw k c;exact⟨bP,d',b,.inl a,c⟩
 .refine⟨r,k-n,by omega,.inr ⟨rfl,by omega⟩,?_⟩
  have:=walk (k-n) (by omega)
  rw[show n+(k-n)=k by omega]at this
  exact this
def HE(h:Int):bits h<2 ^ 64:=by
 unfold bits;have J:=Int.emod_nonneg h (show(2 ^ 64:Int)≠0 by decide)
 have aa:=Int.emod_lt_of_pos h (show(0:Int)<2 ^ 64 by decide)
 have e:((2:Int) ^ 64)=18446744073709551616:=by decide
 rw[e]at J aa ⊢;omega
theorem D2(m:Nat)(h:Int):∀r,(run m h r).2=bits h / 32 ^ r
 |0=>by simp[run]
 |r+1=>by
  show(run m h r).2 / 32=_;rw[D2 m h r,Nat.div_div_eq_div_mul,Nat.pow_succ]
def Qh(m:Nat)(h:Int)(r:Nat)(a9:13<=r):(run m h r).2=0:=by
 rw[D2];refine Nat.div_eq_of_lt (Wk (HE h) (W7 (show 2 ^ 64<=32 ^ 13 by decide) (WJ (by decide) a9)))
noncomputable def gx(m:Nat):Nat->Nat->Nat
 |0,i=>i
 |n+1,i=>(gx m n i*5+1)%(m+1)
theorem EH(m:Nat)(h:Int):∀n,(run m h (13+n)).1=gx m n (run m h 13).1
 |0=>rfl
 |n+1=>by
  show(leap m (run m h (13+n)).1 (run m h (13+n)).2).1=_;rw[EH m h n,Qh m h (13+n) (by omega)]
  rfl
noncomputable def tC(m:Nat):Nat->Nat->List Nat
 |0,_=>[]
 |n+1,i=>i::tC m n ((i*5+1)%(m+1))
theorem DQ(m:Nat):∀n i,gx m n ((i*5+1)%(m+1))=gx m (n+1) i
 |0,i=>rfl
 |n+1,i=>by
  show(gx m n ((i*5+1)%(m+1))*5+1)%(m+1)=(gx m (n+1) i*5+1)%(m+1);rw[DQ m n i]
theorem tD(m:Nat):∀a b i,gx m (a+b) i=gx m b (gx m a i)
 |a,0,i=>rfl
 |a,b+1,i=>by
  show(gx m (a+b) i*5+1)%(m+1)=_;rw[tD m a b i];rfl
theorem Dq(m:Nat):∀n i j,j∈tC m n i->∃k,k<n/\gx m k i=j
 |0,i,j,h=>by simp[tC]at h
 |n+1,i,j,h=>by
  rcases V2.mp h with e|h
  .exact⟨0,by omega,e.symm⟩
  .obtain⟨k,aw,e⟩:=Dq m n _ j h;exact⟨k+1,by omega,by rw[<- DQ];exact e⟩
noncomputable def gm(m:Nat):Prop:=m=7\/m=31\/m=127\/m=511
noncomputable def p3(m:Nat):Bool:=(List.range (m+1)).all λj=>(tC m (m+1) 0).contains j
def IB:p3 7=true:=by decide +kernel
def Iz:p3 31=true:=by decide +kernel
def Iy:p3 127=true:=by decide +kernel
def IA:p3 511=true:=by decide +kernel
def Qa:gx 511 512 0=0:=by decide +kernel
def Qb:gx 7 8 0=0:=by decide +kernel
def P9:gx 31 32 0=0:=by decide +kernel
def P8:gx 127 128 0=0:=by decide +kernel
def gm.f9{m:Nat}(h:gm m):p3 m=true/\gx m (m+1) 0=0:=by
 rcases h with rfl|rfl|rfl|rfl
 .exact⟨IB,Qb⟩
 .exact⟨Iz,P9⟩
 .exact⟨Iy,P8⟩
 .exact⟨IA,Qa⟩
def gm.Eo{m:Nat}(h:gm m){j:Nat}(aB:j<=m):∃k,k<m+1/\gx m k 0=j:=by
 have:=Wt.mp h.f9.1 j (List.mem_range.mpr (by omega))
 exact Dq m (m+1) 0 j (by simpa using this)
def gm.reach{m:Nat}(h:gm m){i j:Nat}(hi:i<=m)(aB:j<=m):∃k,k<m+1/\gx m k i=j:=by
 obtain⟨a,aA,d3⟩:=h.Eo hi;obtain⟨b,ae,ed⟩:=h.Eo aB
 by_cases c:a<=b
 .refine⟨b-a,by omega,?_⟩
  rw[<- d3,<- tD,show a+(b-a)=b by omega];exact ed
 .refine⟨m+1-a+b,by omega,?_⟩
  rw[<- d3,<- tD,show a+(m+1-a+b)=(m+1)+b by omega,tD,h.f9.2];exact ed
def gm.met{m:Nat}(hm:gm m)(h:Int){j:Nat}(aB:j<=m):∃r,r<m+14/\(run m h r).1=j:=by
 obtain⟨k,aw,e⟩:=hm.reach (yA m h 13) aB;exact⟨13+k,by omega,by rw[EH];exact e⟩
def gm.OF{m:Nat}(hm:gm m)(h:Int){j:Nat}(aB:j<=m):∃n,n<10*turns m/\cF m h n=j:=by
 obtain⟨r,a9,e⟩:=hm.met h aB;obtain⟨n,az,kK,_⟩:=u1 m h r;refine⟨n,by unfold turns;omega,?_⟩
 unfold cF;rw[kK];show(run m h r).1+0=j;omega
def least{P:Nat->Prop}(n:Nat)(h:P n):∃k,k<=n/\P k/\∀q,q<k->¬P q:=by
 induction n using Nat.strongRecOn with
 |ind n aD =>
  by_cases c:∃q,q<n/\P q
  .obtain⟨q,aK,aE⟩:=c;obtain⟨k,a,b,d⟩:=aD q aK aE;exact⟨k,by omega,b,d⟩
  .exact⟨n,VZ _,h,λq aK aE=>c ⟨q,aK,aE⟩⟩
def hole{xs:Array Nat}{m:Nat}(a9:lF xs)(ab:xs.size<=m):∃j,j<=m/\∀i:Nat,xs[i]?≠some j:=by
 by_cases c:∃j,j<=m/\∀i:Nat,xs[i]?≠some j
 .exact c
 .exfalso;have all:∀j,j<=m->∃i:Nat,xs[i]?=some j:=λj aB=>by
   by_cases cy:∃i:Nat,xs[i]?=some j
   .exact cy
   .exact absurd ⟨j,aB,λi e=>cy ⟨i,e⟩⟩ c
  have ge:∀j,j<=m->∀i:Nat,xs[i]?=some j->j<=i:=by
   intro j
   induction j with
   |zero=>intro _ i _;omega
   |succ j aD =>
    intro aB i hi;obtain⟨cO,dX⟩:=all j (by omega)
    have:=aD (by omega) cO dX
    by_cases dp:i<cO
    .have:=a9 i cO _ _ dp hi dX;omega
    .by_cases bz:i=cO
     .subst bz;rw[hi]at dX;injection dX with e;omega
     .omega
  obtain⟨i,hi⟩:=all m (VZ _);have J:=ge m (VZ _) i hi;have aa:=(Wy.mp hi).1;omega
def Bl{t:SetTable}(hm:gm t.mask)(a9:lF t.place)(hd:t.dummies=#[])(ab:t.place.size<=t.mask)(h:Int):
  ∃N,N<10*turns t.mask/\t.slot (cF t.mask h N)=.empty/\(∀i:Nat,t.place[i]?≠some (cF t.mask h N))/\∀k,k<N->∃i:Nat,t.place[i]?=some (cF t.mask h k):=by
 obtain⟨j,aB,az⟩:=hole a9 ab;obtain⟨n,hW,e⟩:=hm.OF h aB;obtain⟨N,J,aa,aL⟩:=least (P:=λn=>∀i:Nat,t.place[i]?≠some (cF t.mask h n)) n (by rw[e];exact az)
 refine⟨N,by omega,SM hd aa,aa,λk aw=>?_⟩
 by_cases c:∃i:Nat,t.place[i]?=some (cF t.mask h k)
 .exact c
 .exact absurd (λi e=>c ⟨i,e⟩) (aL k aw)
theorem yi {t : SetTable} {h : Int} {hashAt : Nat -> Int} (a9 : lF t.place) {N : Nat} (he : t.slot (cF t.mask h N) = .empty) (au : ∀ k, k < N -> ∃ i : Nat, t.place[i]? = some (cF t.mask h k)) :
    ∀ (fuel n : Nat), n <= N -> N - n < fuel ->
      (∃ k i, n <= k /\ k < N /\ t.place[i]? = some (cF t.mask h k) /\ hashAt i = h /\ (∀ dj, n <= dj -> dj < k -> ∀ cO : Nat, t.place[cO]? = some (cF t.mask h dj) -> hashAt cO ≠ h) /\ probe.go t hashAt h fuel (pr t.mask h n) = some (.candidate (cF t.mask h k) i (pr t.mask h (k + 1))))
      \/ ((∀ dj, n <= dj -> dj < N -> ∀ cO : Nat, t.place[cO]? = some (cF t.mask h dj) -> hashAt cO ≠ h) /\ probe.go t hashAt h fuel (pr t.mask h n) = some (.empty (cF t.mask h N) none))
  | 0, n, J, aa => by omega
  | fuel + 1, n, J, aa => by
    unfold probe.go
    by_cases c : n = N
    · subst c
      have e : t.slot (pr t.mask h n).j = .empty := he
      rw [e]
      refine .inr ⟨fun dj a b => by omega, ?_⟩
      show some (Met.empty _ (pr t.mask h n).dummy) = _
      rw [D9]; rfl
    · obtain ⟨i, hi⟩ := au n (by omega)
      have e : t.slot (pr t.mask h n).j = .live i := nR a9 hi
      rw [e]
      by_cases q : hashAt i = h
      · refine .inl ⟨n, i, VZ _, by omega, hi, q, fun dj a b => by omega, ?_⟩
        simp only [q, ZK, WN]
        rfl
      · have dv : (hashAt i == h) = false := by rw [WC]; exact q
        simp only [dv, V1, Wm]
        have ne : ∀ cO : Nat, t.place[cO]? = some (cF t.mask h n) -> hashAt cO ≠ h := fun cO dX => by
          have bl := nR a9 dX
          rw [nR a9 hi] at bl
          injection bl with bl
          rw [<- bl]; exact q
        rw [GV]
        show (∃ k i, _ /\ _ /\ _ /\ _ /\ _ /\ probe.go t hashAt h fuel (pr t.mask h (n + 1)) = _) \/ (_ /\ probe.go t hashAt h fuel (pr t.mask h (n + 1)) = _)
        rcases yi a9 he au fuel (n + 1) (by omega) (by omega) with ⟨k, eS, a, b, d, ak, f, g⟩ | ⟨f, g⟩
        · refine .inl ⟨k, eS, by omega, b, d, ak, fun dj bj b3 cO ef => ?_, g⟩
          by_cases cy : dj = n
          · subst cy; exact ne cO ef
          · exact f dj (by omega) b3 cO ef
        · refine .inr ⟨fun dj bj b3 cO ef => ?_, g⟩
          by_cases cy : dj = n
          · subst cy; exact ne cO ef
          · exact f dj (by omega) b3 cO ef
end fC
end
section
namespace fC
open PySem PySem.SetTable
def s7 {α : Type} (xs : Array α) (p : Nat) (x : α) (aE : p <= xs.size) (i : Nat) :
    (insertAt xs p x)[i]? = if i < p then xs[i]? else if i = p then some x else xs[i - 1]? := by
  unfold insertAt
  rw [Array.getElem?_append, Array.getElem?_push, Array.getElem?_extract, Array.getElem?_extract, Wq, WR]
  have e : min p xs.size - 0 = p := by omega
  rw [e, XS]
  by_cases dp : i < p
  · simp only [if_pos (show i < p + 1 by omega), if_neg (show ¬ i = p by omega), if_pos dp]
  · by_cases bz : i = p
    · simp only [if_pos (show i < p + 1 by omega), if_neg dp, if_pos bz]
    · simp only [if_neg (show ¬ i < p + 1 by omega), if_neg dp, if_neg bz, Nat.min_self]
      have av : min p xs.size = p := by omega
      by_cases cW : i - (p + 1) < xs.size - p
      · rw [if_pos cW]; congr 1; omega
      · rw [if_neg cW]; rw [XU (by omega)]
def oM{α:Type}(xs:Array α)(p:Nat)(x:α)(aE:p<=xs.size):(insertAt xs p x).size=xs.size+1:=by
 unfold insertAt;rw[Xv,Wq,WR,WR];omega
def CB{α:Type}(xs:Array α)(p:Nat)(x:α)(aE:p<=xs.size):(insertAt xs p x).toList.Perm (x::xs.toList):=by
 have e:(insertAt xs p x).toList=xs.toList.take p++x::xs.toList.drop p:=by
  unfold insertAt;simp[List.extract_eq_drop_take];rw[WS (by simp)]
 rw[e];refine(List.perm_middle).trans (List.Perm.cons x ?_);rw[WZ]
structure Tab{α:Type}(ag:Array (Int×α))(t:SetTable):Prop where
 h4:lF t.place
 le:∀i j:Nat,t.place[i]?=some j->j<=t.mask
 eh:t.place.size=ag.size
 p7:t.dummies=#[]
 dO:gm t.mask
 full:t.place.size<=t.mask
 path:∀(i j:Nat)(e:Int×α),t.place[i]?=some j->ag[i]?=some e->∃n,cF t.mask e.1 n=j/\∀k,k<n->∃cO:Nat,t.place[cO]?=some (cF t.mask e.1 k)
section
variable{α:Type}{ag:Array (Int×α)}{t:SetTable}
theorem Tab.fill(T:Tab ag t):t.fill=ag.size:=by unfold SetTable.fill;rw[T.p7,T.eh];simp
def Tab.met (T : Tab ag t) {h : Int} {N : Nat} (he : ∀ i : Nat, t.place[i]? ≠ some (cF t.mask h N)) {i : Nat} {e : Int × α} (hi : ag[i]? = some e) (cM : e.1 = h) : ∃ k, k < N /\ t.place[i]? = some (cF t.mask h k) := by
  have ab := (Wy.mp hi).1
  rw [<- T.eh] at ab
  have aE : t.place[i]? = some t.place[i] := V4 ab
  obtain ⟨n, az, ay⟩ := T.path i _ e aE hi
  subst cM
  refine ⟨n, ?_, by rw [az]; exact aE⟩
  by_cases c : n < N
  · exact c
  · exfalso
    by_cases bz : n = N
    · subst bz; exact he i (by rw [az]; exact aE)
    · obtain ⟨cO, dX⟩ := ay N (by omega)
      exact he cO dX
theorem Tab.put (T : Tab ag t) {h : Int} {x : α} {N : Nat} (he : ∀ i : Nat, t.place[i]? ≠ some (cF t.mask h N)) (au : ∀ k, k < N -> ∃ i : Nat, t.place[i]? = some (cF t.mask h k)) (hf : t.place.size + 1 <= t.mask) :
    Tab (insertAt ag (t.put (cF t.mask h N)).2 (h, x)) (t.put (cF t.mask h N)).1 /\ (t.put (cF t.mask h N)).2 <= ag.size /\ (t.put (cF t.mask h N)).1.mask = t.mask /\ (t.put (cF t.mask h N)).1.plain = t.plain /\ (t.put (cF t.mask h N)).1.led = t.led
      /\ (t.put (cF t.mask h N)).1.place.size = ag.size + 1 := by
  obtain ⟨b1, b2, ec⟩ := vv T.h4 (cF t.mask h N)
  generalize aB : cF t.mask h N = j at he b1 b2 ec ⊢
  have hd : has t.dummies j = false := by unfold has; rw [T.p7]; simp
  have ak : t.put j = ({ t with place := insertAt t.place (below t.place j) j }, below t.place j) := by
    unfold SetTable.put; simp only [hd]; rfl
  rw [ak]
  generalize below t.place j = p at b1 b2 ec
  have vx : p <= ag.size := by rw [<- T.eh]; exact b1
  have pg := s7 t.place p j b1
  have qc := s7 ag p (h, x) vx
  have Hr : ∀ (q a : Nat), p <= q -> t.place[q]? = some a -> j < a := fun q a aK aA => by
    have := ec q a aK aA
    have : j ≠ a := fun e => he q (by rw [e]; exact aA)
    omega
  have mem : ∀ v i : Nat, t.place[i]? = some v -> ∃ cO : Nat, (insertAt t.place p j)[cO]? = some v := fun v i hi => by
    by_cases c : i < p
    · exact ⟨i, by rw [pg, if_pos c]; exact hi⟩
    · exact ⟨i + 1, by rw [pg, if_neg (show ¬ i + 1 < p by omega), if_neg (show ¬ i + 1 = p by omega)]; exact hi⟩
  refine ⟨⟨?_, ?_, ?_, T.p7, T.dO, ?_, ?_⟩, vx, rfl, rfl, rfl, ?_⟩
  · intro i cO a b Mg aA ae
    dsimp only at aA ae
    rw [pg] at aA ae
    by_cases dp : i < p
    · rw [if_pos dp] at aA
      by_cases bz : cO < p
      · rw [if_pos bz] at ae; exact T.h4 i cO a b Mg aA ae
      · rw [if_neg bz] at ae
        by_cases cW : cO = p
        · rw [if_pos cW] at ae; injection ae with ae; subst ae; exact b2 i a dp aA
        · rw [if_neg cW] at ae; exact T.h4 i (cO - 1) a b (by omega) aA ae
    · rw [if_neg dp] at aA
      rw [if_neg (show ¬ cO < p by omega), if_neg (show ¬ cO = p by omega)] at ae
      by_cases cW : i = p
      · rw [if_pos cW] at aA; injection aA with aA; subst aA; exact Hr (cO - 1) b (by omega) ae
      · rw [if_neg cW] at aA; exact T.h4 (i - 1) (cO - 1) a b (by omega) aA ae
  · intro i v aT
    dsimp only at aT ⊢
    rw [pg] at aT
    split at aT
    · exact T.le _ _ aT
    · split at aT
      · injection aT with aT; rw [<- aT, <- aB]; exact yN _ _ _
      · exact T.le _ _ aT
  · show (insertAt t.place p j).size = (insertAt ag p (h, x)).size
    rw [oM _ _ _ b1, oM _ _ _ vx, T.eh]
  · show (insertAt t.place p j).size <= t.mask
    rw [oM _ _ _ b1]; exact hf
  · intro i v e aT jq
    dsimp only at aT ⊢
    rw [pg] at aT
    rw [qc] at jq
    have old : ∀ s6 : Nat, t.place[s6]? = some v -> ag[s6]? = some e -> ∃ n, cF t.mask e.1 n = v /\ ∀ k, k < n -> ∃ cO : Nat, (insertAt t.place p j)[cO]? = some (cF t.mask e.1 k) := fun s6 a b => by
      obtain ⟨n, az, ay⟩ := T.path s6 v e a b
      exact ⟨n, az, fun k aw => let ⟨cO, dX⟩ := ay k aw; mem _ _ dX⟩
    by_cases dp : i < p
    · rw [if_pos dp] at aT jq; exact old i aT jq
    · rw [if_neg dp] at aT jq
      by_cases bz : i = p
      · rw [if_pos bz] at aT jq
        injection aT with aT; injection jq with jq
        subst jq
        exact ⟨N, by rw [aB]; exact aT, fun k aw => let ⟨cO, dX⟩ := au k aw; mem _ _ dX⟩
      · rw [if_neg bz] at aT jq; exact old _ aT jq
  · show (insertAt t.place p j).size = ag.size + 1
    rw [oM _ _ _ b1, T.eh]
end
theorem x3:∀(k:Nat)(l:List Nat),l.Nodup->(∀x∈l,x<k)->l.length<=k
 |0,l,_,h=>by
  cases l with
  |nil=>simp
  |cons a r=>exact absurd (h a List.mem_cons_self) (Nat.not_lt_zero a)
 |k+1,l,ep,h=>by
  by_cases c:k∈l
  .have J:=x3 k (l.erase k) (ep.erase k) λx ah=>by
    have:=(ep.mem_erase_iff).mp ah;have:=h x this.2;omega
   rw[List.length_erase_of_mem c]at J;omega
  .have:=x3 k l ep λx ah=>by
    have:=h x ah;have:x≠k:=λe=>c (e▸ah)
    omega
   omega
noncomputable def lE(cv:Array (Option Nat))(j:Nat):Prop:=∃q,cv[j]?=some (some q)
theorem Bv{m:Nat}{h:Int}{cv:Array (Option Nat)}(hz:cv.size=m+1):∀(fuel r:Nat),(∃hE,r<=hE/\hE<r+fuel/\cv[(run m h hE).1]?=some none) ->
  (∀bP d,d<=len m h bP->bP<r->lE cv ((run m h bP).1+d)) ->
  ∃aG cB,cB<=len m h aG/\layClean.free m cv fuel (run m h r).1 (run m h r).2=some ((run m h aG).1+cB)/\cv[(run m h aG).1+cB]?=some none/\∀bP d,d<=len m h bP->(bP<aG\/(bP=aG/\d<cB))->lE cv ((run m h bP).1+d)
 |0,r,⟨hE,a,b,_⟩,_=>by omega
 |fuel+1,r,⟨hE,a,b,c⟩,ae=>by
  unfold layClean.free;have VB:=tN (yA m h r);have get:∀d,d<=len m h r->∃o,cv[(run m h r).1+d]?=some o/\cv.getD ((run m h r).1+d) (some 0)=o:=λd hd=>by
   unfold len at hd;have cm:(run m h r).1+d<cv.size:=by rw[hz];omega
   exact⟨cv[(run m h r).1+d],V4 cm,by simp[Array.getD,cm]⟩
  cases hf:(List.range (runEnd m (run m h r).1+1-(run m h r).1)).find? λk=>(cv.getD ((run m h r).1+k) (some 0)).isNone with
  |some k =>
   obtain⟨J,aa,aL⟩:=List.find?_range_eq_some.mp hf;have aw:k<=len m h r:=by have:=List.mem_range.mp aa;unfold len;omega
   refine⟨r,k,aw,rfl,?_,λbP d hd cm=>?_⟩
   .obtain⟨o,ak,av⟩:=get k aw;rw[av]at J;rw[ak];cases o with
    |none=>rfl
    |some _=>simp at J
   .rcases cm with cm|⟨rfl,cm⟩
    .exact ae bP d hd cm
    .obtain⟨o,ak,av⟩:=get d hd;have:=aL d cm;rw[av]at this;cases o with
     |none=>simp at this
     |some q=>exact⟨q,ak⟩
  |none =>
   have az:=List.find?_range_eq_none.mp hf;have full:∀d,d<=len m h r->lE cv ((run m h r).1+d):=λd hd=>by
    obtain⟨o,ak,av⟩:=get d hd;have:=az d (by unfold len at hd;omega)
    rw[av]at this;cases o with
    |none=>simp at this
    |some q=>exact⟨q,ak⟩
   have VI:hE≠r:=λe=>by
    subst e;obtain⟨q,aK⟩:=full 0 (V6 _);rw[Nat.add_zero,c]at aK;cases aK
   show ∃aG cB,_/\layClean.free m cv fuel (run m h (r+1)).1 (run m h (r+1)).2=_/\_;refine Bv hz fuel (r+1) ⟨hE,by omega,by omega,c⟩ λbP d hd cm=>?_
   by_cases e:bP=r
   .subst e;exact full d hd
   .exact ae bP d hd (by omega)
structure Own(m:Nat)(ab:List Int)(cv:Array (Option Nat)):Prop where
 size:cv.size=m+1
 lt:∀j q:Nat,cv[j]?=some (some q)->q<ab.length
 inj:∀j kW q:Nat,cv[j]?=some (some q)->cv[kW]?=some (some q)->j=kW
 all:∀(q:Nat)(h:Int),ab[q]?=some h->∃n,cv[cF m h n]?=some (some q)/\∀k,k<n->lE cv (cF m h k)
def Own.hole{m:Nat}{ab:List Int}{cv:Array (Option Nat)}(O:Own m ab cv)(au:ab.length<=m):∃j,j<=m/\cv[j]?=some none:=by
 by_cases c:∃j,j<=m/\cv[j]?=some none
 .exact c
 .exfalso;have fH:∀j,j<=m->lE cv j:=λj aB=>by
   have a8:cv[j]?=some (cv[j]'(by rw[O.size];omega)):=V4 (by rw[O.size];omega)
   cases e:cv[j]'(by rw[O.size];omega) with
   |none=>exact absurd ⟨j,aB,by rw[a8,e]⟩ c
   |some q=>exact⟨q,by rw[a8,e]⟩
  have J:=x3 ab.length ((List.range (m+1)).map λj=>(cv.getD j none).getD 0) ?_ ?_
  .simp at J;omega
  .have key:∀j,j<=m->cv[j]?=some (some ((cv.getD j none).getD 0)):=λj aB=>by
    obtain⟨q,aK⟩:=fH j aB;have:cv.getD j none=some q:=by rw[W3,aK];rfl
    rw[this];exact aK
   rw[List.Nodup,Xm];refine Xe ?_ (List.nodup_range (n:=m+1));intro a b aA ae oC e;have q0:=key a (by have:=List.mem_range.mp aA;omega)
   have q2:=key b (by have:=List.mem_range.mp ae;omega)
   rw[<- e]at q2;exact oC (O.inj a b _ q0 q2)
  .intro x ah;obtain⟨j,aB,e⟩:=List.mem_map.mp ah;obtain⟨q,aK⟩:=fH j (by have:=List.mem_range.mp aB;omega)
   have:cv.getD j none=some q:=by rw[W3,aK];rfl
   rw[this]at e;have bl:q=x:=e;rw[<- bl];exact O.lt j q aK
def Own.step {m : Nat} (hm : gm m) {ab : List Int} {cv : Array (Option Nat)} (O : Own m ab cv) (au : ab.length <= m) (h : Int) :
    ∃ j, layClean.free m cv (turns m) (bits h % (m + 1)) (bits h) = some j /\ Own m (ab ++ [h]) (cv.setIfInBounds j (some ab.length)) := by
  obtain ⟨qX, Mi, dE⟩ := O.hole au
  obtain ⟨hE, Vz, JT⟩ := hm.met h Mi
  obtain ⟨aG, cB, jZ, sd, kK, MC⟩ := Bv (h := h) O.size (turns m) 0 ⟨hE, V6 _, by unfold turns; omega, by rw [JT]; exact dE⟩ (fun bP d _ cm => absurd cm (Nat.not_lt_zero _))
  obtain ⟨n, _, az, aw⟩ := Hp m h aG cB jZ
  have JV : cF m h n = (run m h aG).1 + cB := by unfold cF; rw [az]; rfl
  rw [<- JV] at sd kK
  have Pd : ∀ k, k < n -> lE cv (cF m h k) := fun k fS => by
    obtain ⟨bP, d', a, b, c⟩ := aw k fS
    unfold cF
    rw [c]
    exact MC bP d' a b
  refine ⟨cF m h n, sd, ?_, ?_, ?_, ?_⟩
  · rw [Array.size_setIfInBounds]; exact O.size
  · intro j q aK
    rw [WU] at aK
    rw [V0, List.length_singleton]
    split at aK
    · split at aK
      · injection aK with aK; injection aK with aK; omega
      · cases aK
    · have := O.lt j q aK; omega
  · intro j kW q a b
    rw [WU] at a b
    split at a
    · rename_i ak
      split at b
      · rename_i av; rw [<- ak, <- av]
      · split at a
        · injection a with a; injection a with a
          have := O.lt kW q b
          omega
        · cases a
    · split at b
      · split at b
        · injection b with b; injection b with b
          have := O.lt j q a
          omega
        · cases b
      · exact O.inj j kW q a b
  · intro q h' aK
    have mono : ∀ j, lE cv j -> lE (cv.setIfInBounds (cF m h n) (some ab.length)) j := fun j ⟨dv, qH⟩ => by
      by_cases c : cF m h n = j
      · refine ⟨ab.length, ?_⟩
        rw [WU, if_pos c, if_pos (by rw [O.size]; have := yN m h n; omega)]
      · exact ⟨dv, by rw [WU, if_neg c]; exact qH⟩
    by_cases c : q < ab.length
    · rw [We c] at aK
      obtain ⟨cE, a, b⟩ := O.all q h' aK
      refine ⟨cE, ?_, fun k fS => mono _ (b k fS)⟩
      rw [WU, if_neg]
      · exact a
      · intro e; rw [<- e, kK] at a; cases a
    · have qH := (Wl.mp aK).1
      rw [V0, List.length_singleton] at qH
      have e : q = ab.length := by omega
      subst e
      rw [Wx (VZ _), aab] at aK
      simp at aK
      subst aK
      refine ⟨n, ?_, fun k fS => mono _ (Pd k fS)⟩
      rw [WU, if_pos rfl, if_pos (by rw [O.size]; have := yN m h n; omega)]
def PB(m:Nat):Own m [] (Array.replicate (m+1) none):=by
 have no:∀j q:Nat,(Array.replicate (m+1) (none:Option Nat))[j]?≠some (some q):=λj q aK=>by
  rw[Array.getElem?_replicate]at aK
  split at aK<;>cases aK
 exact⟨by simp,λj q aK=>absurd aK (no j q),λj kW q aK=>absurd aK (no j q),λq h aK=>by simp at aK⟩
def N9 {m : Nat} (hm : gm m) (ab : Array Int) (au : ab.size <= m) : ∃ cv, layClean m ab = some cv /\ Own m ab.toList cv := by
  unfold layClean
  rw [<- Array.foldl_toList]
  have main : ∀ (rest done : List Int) (cv : Array (Option Nat)), Own m done cv -> (done ++ rest).length <= m ->
      ∃ tE, rest.foldl (fun (acc : Option (Array (Option Nat) × Nat)) h => do
        let (owner, k) <- acc
        let j <- layClean.free m owner (turns m) (bits h % (m + 1)) (bits h)
        pure (owner.setIfInBounds j (some k), k + 1)) (some (cv, done.length)) = some (tE, (done ++ rest).length) /\ Own m (done ++ rest) tE := by
    intro rest
    induction rest with
    | nil => intro done cv O _; exact ⟨cv, by simp, by simpa using O⟩
    | cons h r aD =>
      intro done cv O hlen
      rw [V0, List.length_cons] at hlen
      obtain ⟨j, sd, GJ⟩ := O.step hm (by omega) h
      have := aD (done ++ [h]) _ GJ (by simp; omega)
      rw [Wa] at this
      simp only [List.singleton_append, V0, List.length_cons, List.length_nil, XS] at this
      obtain ⟨tE, e, GK⟩ := this
      refine ⟨tE, ?_, GK⟩
      rw [List.foldl_cons]
      simp only [Option.bind_eq_bind, Option.bind_some, sd, Option.pure_def] at e ⊢
      rw [e]
      simp only [V0, List.length_cons]
  obtain ⟨cv, e, O⟩ := main ab.toList [] (Array.replicate (m + 1) none) (PB m) (by simpa using au)
  refine ⟨cv, ?_, by simpa using O⟩
  simp only [List.length_nil] at e
  rw [e]; rfl
theorem wd{α β:Type}(f:α->Option β):∀(l:List α),(∀x∈l,(f x).isSome=true)->∀i:Nat,(l.filterMap f)[i]?=l[i]?.bind f
 |[],_,i=>by simp
 |x::r,h,i=>by
  have ah:=h x List.mem_cons_self;cases e:f x with
  |none=>rw[e]at ah;cases ah
  |some y =>
   rw[List.filterMap_cons,e];cases i with
   |zero=>simp[e]
   |succ i =>
    simp only[List.getElem?_cons_succ];exact wd f r (λz hz=>h z (List.mem_cons_of_mem _ hz)) i
theorem Bo{α β:Type}(f:α->Option β):∀(l:List α),(∀x∈l,(f x).isSome=true)->(l.filterMap f).length=l.length
 |[],_=>rfl
 |x::r,h=>by
  have ah:=h x List.mem_cons_self;cases e:f x with
  |none=>rw[e]at ah;cases ah
  |some y=>rw[List.filterMap_cons,e,List.length_cons,List.length_cons,Bo f r λz hz=>h z (List.mem_cons_of_mem _ hz)]
def CP {α : Type} {m : Nat} (hm : gm m) (ag : Array (Int × α)) (au : ag.size <= m) (f Dw : Nat) (led cX : Bool) :
    ∃ t' order, laid m f Dw led cX (ag.map (·.1)) = some (t', order) /\ t'.mask = m /\ t'.led = led /\ t'.plain = cX /\ (order.filterMap (ag[·]?)).size = ag.size /\ Tab (order.filterMap (ag[·]?)) t' /\ (order.filterMap (ag[·]?)).toList.Perm ag.toList /\ order.toList.Perm (List.range ag.size) := by
  obtain ⟨cv, e, O⟩ := N9 hm (ag.map (·.1)) (by simpa using au)
  have hlen : (ag.map (·.1)).toList.length = ag.size := by simp
  generalize e3 : (List.range (m + 1)).filterMap (fun j => (cv.getD j none).map (j, ·)) = L
  have nJ : ∀ j q, (j, q) ∈ L <-> cv[j]? = some (some q) := fun j q => by
    rw [<- e3, Zc]
    constructor
    · rintro ⟨kW, fF, bl⟩
      cases h0 : cv.getD kW none with
      | none => rw [h0] at bl; cases bl
      | some dv =>
        rw [h0] at bl
        injection bl with bl
        injection bl with ak av
        subst ak; subst av
        rw [W3] at h0
        cases J : cv[kW]? with
        | none => rw [J] at h0; cases h0
        | some o => rw [J] at h0; exact Xl some h0
    · intro h
      refine ⟨j, List.mem_range.mpr ?_, ?_⟩
      · have := (Wy.mp h).1; rw [O.size] at this; exact this
      · rw [W3, h]; rfl
  have rise : L.Pairwise (fun a b => a.1 < b.1) := by
    rw [<- e3]
    refine List.Pairwise.filterMap _ ?_ (Yy (n := m + 1))
    intro a lK cm b ae hL hT
    cases h0 : cv.getD a none with
    | none => rw [h0] at ae; cases ae
    | some q =>
      cases J : cv.getD lK none with
      | none => rw [J] at hT; cases hT
      | some dv =>
        rw [h0] at ae; rw [J] at hT
        cases ae; cases hT
        exact cm
  have lt : ∀ p ∈ L, p.2 < ag.size := fun p aE => by
    have := O.lt p.1 p.2 ((nJ p.1 p.2).mp aE)
    rw [hlen] at this; exact this
  have OW : (L.map (·.2)).Nodup := by
    rw [List.Nodup, Xm]
    refine Xe ?_ rise
    intro a b aA ae oC bl
    have := O.inj a.1 b.1 a.2 ((nJ _ _).mp aA) (by rw [bl]; exact (nJ _ _).mp ae)
    omega
  have yf : (L.map (·.2)).Perm (List.range ag.size) := by
    refine (Zh OW List.nodup_range).mpr fun q => ?_
    rw [List.mem_range, List.mem_map]
    constructor
    · rintro ⟨p, aE, rfl⟩; exact lt p aE
    · intro aK
      obtain ⟨n, a, _⟩ := O.all q (ag[q].1) (by rw [Wj, Array.getElem?_map, V4 aK]; rfl)
      exact ⟨(_, q), (nJ _ _).mpr a, rfl⟩
  have xy : L.length = ag.size := by have := yf.length_eq; simpa using this
  have DN : ∀ q ∈ L.map (·.2), (ag[q]?).isSome = true := fun q aK => by
    obtain ⟨p, aE, rfl⟩ := List.mem_map.mp aK
    rw [V4 (lt p aE)]; rfl
  have Pj : ∀ q ∈ List.range ag.size, (ag[q]?).isSome = true := fun q aK => by
    rw [V4 (List.mem_range.mp aK)]; rfl
  have vZ : ((L.map (·.2)).toArray.filterMap (ag[·]?)).toList = (L.map (·.2)).filterMap (ag[·]?) := by simp
  have Lq : ∀ (i : Nat), ((L.map (·.2)).toArray.filterMap (ag[·]?))[i]? = (L[i]?).bind fun p => ag[p.2]? := by
    intro i
    rw [<- Wj, vZ, wd _ _ DN, Wg]
    cases L[i]? <;> rfl
  have Fb : ((L.map (·.2)).toArray.filterMap (ag[·]?)).size = ag.size := by
    rw [<- Array.length_toList, vZ, Bo _ _ DN, List.length_map, xy]
  have Qd : ((L.map (·.2)).toArray.filterMap (ag[·]?)).toList.Perm ag.toList := by
    rw [vZ]
    refine (yf.filterMap (ag[·]?)).trans (List.Perm.of_eq ?_)
    refine XH fun i => ?_
    rw [wd _ _ Pj]
    by_cases c : i < ag.size
    · rw [XP c]; simp
    · rw [Wu (by simpa using c), Wu (by simpa using c)]; rfl
  refine ⟨{ mask := m, place := (L.map (·.1)).toArray, dummies := #[], finger := f, led, moves := Dw, plain := cX }, (L.map (·.2)).toArray, ?_, rfl, rfl, rfl, Fb, ⟨?_, ?_, ?_, rfl, hm, ?_, ?_⟩, Qd, by simpa using yf⟩
  · unfold laid
    rw [e]
    simp only [Option.bind_eq_bind, Option.bind_some, Option.pure_def, e3]
  · intro i j a b qx aA ae
    simp only [X4, Wg] at aA ae
    cases d3 : L[i]? with
    | none => rw [d3] at aA; cases aA
    | some DV =>
      cases ed : L[j]? with
      | none => rw [ed] at ae; cases ae
      | some VK =>
        rw [d3] at aA; rw [ed] at ae
        cases aA; cases ae
        obtain ⟨J, ak⟩ := Wl.mp d3
        obtain ⟨aa, av⟩ := Wl.mp ed
        have := XD.mp rise i j J aa qx
        rw [ak, av] at this
        exact this
  · intro i j hi
    simp only [X4, Wg] at hi
    cases kH : L[i]? with
    | none => rw [kH] at hi; cases hi
    | some p =>
      rw [kH] at hi
      cases hi
      have := (nJ p.1 p.2).mp (Xh kH)
      have := (Wy.mp this).1
      rw [O.size] at this
      show p.1 <= m
      omega
  · show (L.map (·.1)).toArray.size = _
    rw [Fb]; simp [xy]
  · show (L.map (·.1)).toArray.size <= m
    simp [xy]; exact au
  · intro i j bl hi he
    simp only [X4, Wg] at hi
    rw [Lq] at he
    cases kH : L[i]? with
    | none => rw [kH] at hi; cases hi
    | some p =>
      rw [kH] at hi he
      cases hi
      have aE := (nJ p.1 p.2).mp (Xh kH)
      have hv : ag[p.2]? = some bl := he
      obtain ⟨n, a, b⟩ := O.all p.2 bl.1 (by rw [Wj, Array.getElem?_map, hv]; rfl)
      refine ⟨n, O.inj _ _ _ a aE, fun k aw => ?_⟩
      obtain ⟨dv, qH⟩ := b k aw
      obtain ⟨cO, dX, JD⟩ := Xj.mp ((nJ _ _).mpr qH)
      refine ⟨cO, ?_⟩
      show (L.map (·.1)).toArray[cO]? = _
      simp only [X4, Wg]
      rw [V5 dX, JD]; rfl
end fC
end
section
namespace Pv
open PySem fC PySem.SetTable
section
variable{prog:Program}{w:World}{A:Around}{E:Value->Shared->Prop}{s:Shared}
noncomputable def gU(prog:Program)(w:World)(h:Heap)(aq:List Int)(b:Addr):Prop:=IsTupleKey (intKind prog w) h aq b
noncomputable def fo(prog:Program)(w:World)(aq:List Int):Int:=tupleKeyHash (intKind prog w) aq
noncomputable def ku(prog:Program)(w:World)(h:Heap)(e:Int×Value)(aq:List Int):Prop:=∃b,e.2=.ref b/\e.1=fo prog w aq/\gU prog w h aq b
def gU.kept{h h':Heap}{aq:List Int}{b:Addr}(x:gU prog w h aq b)(k:∀o,h.get? b=some o->h'.get? b=some o):gU prog w h' aq b :=
 let ⟨o,items,n,ay,r⟩:=x;⟨o,items,n,k o ay,r⟩
def gU.ne{h:Heap}{aq:List Int}{a b:Addr}{o:Obj}{ag a4 t}(x:gU prog w h aq b)(ay:h.get? a=some o)(hd:o.data=.set ag a4 t):b≠a:=by
 rintro rfl;obtain⟨bC,items,n,du,_,fE,_⟩:=x;rw[ay]at du;cases du;rw[hd]at fE;cases fE
def Am {M : Model} {aq : List Int} {a : Addr} {Q : Bool -> Shared -> Prop} (aw : gU prog w s.heap aq a) (h : Q false s) : wpAny M A (ofAClassStatement 8 (.ref a)) Q E s := by
  have c3 : s.TypeIs (.ref a) "tuple" := IsTupleKey.typeIs aw
  obtain ⟨o, items, n, ay, _, hd, hi⟩ := aw
  unfold ofAClassStatement
  refine VW (XR c3 ?_)
  dsimp only
  rw [if_pos (by rfl)]
  refine VW (wpAny_pure ?_)
  simp only [XK, V1, Wm]
  refine VW (wpAny_seqItems ay hd ?_)
  dsimp only
  refine VW ?_
  rw [<- Array.forIn_toList]
  refine YI _ (fun rest r s' => r.1 = none /\ s' = s /\ ∀ v ∈ rest, carriedByValue v = true) _ ?_ ?_ _ _ ⟨rfl, rfl, hi.byValue⟩
  · rintro v rest r s' ⟨a9, rfl, fQ⟩
    have aT := fQ v List.mem_cons_self
    have e : ofAClassStatement 7 v = pure false := by
      cases v with
      | ref b => simp [carriedByValue] at aT
      | _ => unfold ofAClassStatement; rfl
    rw [e]
    refine VW (wpAny_pure ?_)
    simp only [V1, Wm]
    exact wpAny_pure ⟨rfl, rfl, fun u qK => fQ u (List.mem_cons_of_mem _ qK)⟩
  · rintro ⟨aG, a5⟩ s' ⟨a9, rfl, _⟩
    simp only at a9
    subst a9
    exact wpAny_pure h
def Sf{aq:List Int}{b:Addr}{stored:List Value}{Q:Bool->Shared->Prop}(aw:gU prog w s.heap aq b)(ab:∀v∈stored,∃c cP,v=.ref c/\gU prog w s.heap cP c)(h:Q false s):
  wpAny (model prog w) A (searchCouldBeSeen (.ref b) stored) Q E s:=by
 unfold searchCouldBeSeen;refine VW ?_;refine YI _ (λrest r s'=>r.1=none/\s'=s/\∀v∈rest,∃c cP,v=.ref c/\gU prog w s.heap cP c) _ ?_ ?_ _ _ ⟨rfl,rfl,ab⟩
 .rintro v rest r s' ⟨a9,rfl,fQ⟩;obtain⟨c,cP,rfl,aj⟩:=fQ v List.mem_cons_self;have j3:∀v∈rest,∃c cP,v=.ref c/\gU prog w s'.heap cP c:=λu qK=>fQ u (List.mem_cons_of_mem _ qK)
  dsimp only
  split
  .exact wpAny_pure ⟨rfl,rfl,j3⟩
  .refine VW (wpAny_eqIsQuiet_tuple aw ?_);simp only[XK,V1,Wm];refine VW (wpAny_eqIsQuiet_tuple aj ?_);simp only[XK,V1,Wm];refine VW (Am aw ?_);simp only[V1,Wm];refine VW (Am aj ?_);simp only[V1,Wm];exact wpAny_pure ⟨rfl,rfl,j3⟩
 .rintro⟨aG,a5⟩ s' ⟨a9,rfl,_⟩;simp only at a9;subst a9;exact wpAny_pure h
def HN {aq : List Int} {a : Addr} {Q : Bool -> Shared -> Prop} (aw : gU prog w s.heap aq a) (h : Q true s) : wpAny (model prog w) A (hashByValue 8 (.ref a)) Q E s := by
  have c3 : s.TypeIs (.ref a) "tuple" := IsTupleKey.typeIs aw
  obtain ⟨o, items, n, ay, _, hd, hi⟩ := aw
  unfold hashByValue
  refine VW (ZW c3 F.slot_tuple_hash.lookup ?_)
  dsimp only
  refine VW (wpAny_seqItems ay hd ?_)
  refine VW ?_
  show wpAny _ _ (forIn items _ _) _ _ s
  rw [<- Array.forIn_toList]
  have fQ : ∀ v ∈ items.toList, ∃ i t, v = Value.int i t := by
    clear hd ay
    generalize items.toList = l at hi
    induction hi with
    | nil => intro v aT; simp at aT
    | @cons k pz cP af J _ aD =>
      intro v aT
      rcases V2.mp aT with rfl | aT
      · obtain ⟨t, e⟩ := Zs J
        exact ⟨_, t, e⟩
      · exact aD v aT
  refine YI _ (fun rest r s' => r.1 = none /\ s' = s /\ ∀ v ∈ rest, ∃ i t, v = Value.int i t) _ ?_ ?_ _ _ ⟨rfl, rfl, fQ⟩
  · rintro v rest r s' ⟨a9, rfl, fQ⟩
    obtain ⟨i, t, rfl⟩ := fQ v List.mem_cons_self
    have e : hashByValue 7 (Value.int i t) = pure true := by unfold hashByValue; rfl
    rw [e]
    refine VW (wpAny_pure ?_)
    simp only [XK, V1, Wm]
    exact wpAny_pure ⟨rfl, rfl, fun u qK => fQ u (List.mem_cons_of_mem _ qK)⟩
  · rintro ⟨aG, a5⟩ s' ⟨a9, rfl, _⟩
    simp only at a9
    subst a9
    exact wpAny_pure h
theorem Tab.fits{ag:Array (Int×Value)}{t:SetTable}(T:Tab ag t):t.fits ag.size=true:=by
 unfold SetTable.fits;have J:=T.eh;have aa:=T.fill;have aL:=T.full;simp only[VX,WQ,Wh];exact⟨J,by rw[aa,<- J];exact aL⟩
def Tab.Lk{ag:Array (Int×Value)}{t:SetTable}(T:Tab ag t):t.gaveWay=false:=by
 unfold SetTable.gaveWay;rcases T.dO with e|e|e|e<;>rw[e]<;>rfl
theorem EY {a b : Addr} {o : Obj} {ag : Array (Int × Value)} {a4 : Nat} {t : SetTable} {aq : List Int} {cT : List (List Int)} {pU : Bool} {R : SetFound -> Shared -> Prop} {N : Nat} (bO : A.units < cLine)
    (ay : s.heap.get? a = some o) (hd : o.data = .set ag a4 t) (T : Tab ag t) (aE : Paired (ku prog w s.heap) ag.toList cT) (aw : gU prog w s.heap aq b)
    (aZ : N < 10 * turns t.mask) (he : t.slot (cF t.mask (fo prog w aq) N) = .empty) (iq : ∀ i : Nat, t.place[i]? ≠ some (cF t.mask (fo prog w aq) N)) (au : ∀ k, k < N -> ∃ i : Nat, t.place[i]? = some (cF t.mask (fo prog w aq) k))
    (hf : aq ∉ cT -> R (.free (cF t.mask (fo prog w aq) N) false) s) (aV : aq ∈ cT -> ∀ r, R (.there r) s) :
    ∀ (fuel n : Nat) (tY : Option Probe), n <= N -> N - n < fuel -> tY.getD (t.probeStart (fo prog w aq)) = pr t.mask (fo prog w aq) n ->
      (∀ k, k < n -> ∀ (i : Nat) (e : Int × Value), t.place[i]? = some (cF t.mask (fo prog w aq) k) -> ag[i]? = some e -> ¬ ku prog w s.heap e aq) ->
      wpAny (model prog w) A (setSearchFrom a (.ref b) (fo prog w aq) pU fuel tY) R E s
  | 0, n, tY, J, aa, _, _ => by omega
  | fuel + 1, n, tY, J, aa, cN, l6 => by
    unfold setSearchFrom
    refine VW (W4 ay hd (Tab.fits T) ?_)
    dsimp only
    rw [Tab.Lk T]
    simp only [V1, Wm]
    rw [cN]
    have sG : ∀ (i : Nat) (e : Int × Value), ag[i]? = some e -> (fun i => (ag[i]?.map (·.1)).getD 0) i = e.1 := fun i e h => by simp [h]
    generalize aH : t.probe _ (fo prog w aq) (pr t.mask (fo prog w aq) n) = X
    have mem_of : ∀ (i : Nat) (e : Int × Value), ag[i]? = some e -> ∃ cP, cP ∈ cT /\ ku prog w s.heap e cP := fun i e h => by
      have hm : e ∈ ag.toList := by rw [<- Wj] at h; exact Xh h
      clear sG l6 iq au he aV hf
      generalize ag.toList = l at aE hm
      induction aE with
      | nil => simp at hm
      | cons J _ aD =>
        rcases V2.mp hm with rfl | hm
        · exact ⟨_, List.mem_cons_self, J⟩
        · obtain ⟨cP, a1, a2⟩ := aD hm
          exact ⟨cP, List.mem_cons_of_mem _ a1, a2⟩
    rcases yi (h := fo prog w aq) (hashAt := fun i => (ag[i]?.map (·.1)).getD 0) T.h4 he au (10 * turns t.mask) n J (by omega) with ⟨k, i, b1, b2, ec, gp, jO, pX⟩ | ⟨jO, pX⟩
    · have r0 : X = _ := aH.symm.trans pX
      rw [r0]
      dsimp only
      have hi : i < ag.size := by rw [<- T.eh]; exact (Wy.mp ec).1
      have oD : ag[i]? = some ag[i] := V4 hi
      obtain ⟨cP, w4, c, jh, qd, aj⟩ := mem_of i _ oD
      have rest : wpAny (model prog w) A (do
          let some (_, y) := ag[i]? | unsupported "internal:set-entry"
          let equal <- holding [y] (eqBool y (.ref b))
          let (m9, _, t') <- setState a
          if pU && equal then return SetFound.there none
          let some same := t'.sameMemory t.moves t.mask | unsupported "set.changed-during-lookup:is-the-new-block-at-the-old-address"
          let S5 <- match (if same then t'.slot (cF t.mask (fo prog w aq) k) else .empty) with
            | .live cO => match m9[cO]? with
              | some (_, Gu) => do pure (if <- isSame Gu y then some cO else none)
              | none => pure none
            | _ => pure none
          match S5 with
          | none => rule "set.search.anew"; setSearchFrom a (.ref b) (fo prog w aq) pU fuel none
          | some cO => if equal then return SetFound.there (some cO) else setSearchFrom a (.ref b) (fo prog w aq) pU fuel (some (pr t.mask (fo prog w aq) (k + 1)))) R E s := by
        rw [oD]
        generalize jq : ag[i] = ev at jh qd oD
        obtain ⟨Vf, Vg⟩ := ev
        dsimp only at jh qd ⊢
        subst jh
        refine VW (Xc (wpAny_eqBool_tuple bO aj aw ?_))
        refine VW (W4 ay hd (Tab.fits T) ?_)
        dsimp only
        have same : t.sameMemory t.moves t.mask = some true := by unfold SetTable.sameMemory; simp
        by_cases q : cP = aq
        · subst q
          simp only [decide_true, ZG]
          cases pU
          · simp only [V1, Wm]
            rw [same]
            dsimp only
            rw [if_pos rfl, nR T.h4 ec]
            dsimp only
            rw [oD]
            dsimp only
            refine VW (wpAny_isSame_ref_self (VW (wpAny_pure ?_)))
            rw [if_pos rfl]
            dsimp only
            first | exact wpAny_pure (aV w4 _) | (rw [if_pos trivial]; exact wpAny_pure (aV w4 _))
          · simp only [WN]
            exact wpAny_pure (aV w4 _)
        · simp only [decide_eq_false q, XB, V1, Wm]
          rw [same]
          dsimp only
          rw [if_pos rfl, nR T.h4 ec]
          dsimp only
          rw [oD]
          dsimp only
          refine VW (wpAny_isSame_ref_self (VW (wpAny_pure ?_)))
          rw [if_pos rfl]
          dsimp only
          refine EY bO ay hd T aE aw aZ he iq au hf aV fuel (k + 1) _ (by omega) (by omega) rfl fun dj fS cO bl xa hv ah => ?_
          by_cases dp : dj < n
          · exact l6 dj dp cO bl xa hv ah
          · by_cases bz : dj = k
            · subst bz
              have ak : cO = i := by
                have := nR T.h4 xa
                rw [nR T.h4 ec] at this
                injection this with this
                exact this.symm
              subst ak
              rw [oD] at hv
              cases hv
              obtain ⟨cy, Jz, _, c6⟩ := ah
              cases Jz
              exact q (IsTupleKey.inj aj c6)
            · obtain ⟨_, _, JC, _⟩ := ah
              exact jO dj (by omega) (by omega) cO xa ((sG cO bl hv).trans JC)
      cases hV : t.led
      · simp only [Zd, WN]
        refine VW (Sf aw (fun v aT => ?_) ?_)
        · obtain ⟨e, hv, rfl⟩ := List.mem_map.mp aT
          have hm : e ∈ ag.toList := by
            rw [Array.toList_filter] at hv
            exact (Xq.mp hv).1
          obtain ⟨j, aB⟩ := List.mem_iff_getElem?.mp hm
          obtain ⟨NZ, _, bz, av, _, aa⟩ := mem_of j e (by rw [<- Wj]; exact aB)
          exact ⟨bz, NZ, av, aa⟩
        · simp only [V1, Wm]
          exact rest
      · simp only [XK, V1, Wm]
        exact rest
    · have r0 : X = _ := aH.symm.trans pX
      rw [r0]
      dsimp only
      refine wpAny_pure (hf fun fR => ?_)
      obtain ⟨e, hm, ah⟩ : ∃ e ∈ ag.toList, ku prog w s.heap e aq := by
        clear sG l6 iq au he aV hf mem_of jO pX r0
        generalize ag.toList = l at aE
        induction aE with
        | nil => simp at fR
        | @cons bl cP _ _ J _ aD =>
          rcases V2.mp fR with rfl | fR
          · exact ⟨bl, List.mem_cons_self, J⟩
          · obtain ⟨e, a1, a2⟩ := aD fR
            exact ⟨e, List.mem_cons_of_mem _ a1, a2⟩
      obtain ⟨j, aB⟩ := List.mem_iff_getElem?.mp hm
      rw [Wj] at aB
      obtain ⟨_, _, qd, _⟩ := id ah
      obtain ⟨k, l4, w1⟩ := T.met iq aB qd
      by_cases c : k < n
      · exact l6 k c j e w1 aB ah
      · exact jO k (by omega) l4 j w1 ((sG j e aB).trans qd)
noncomputable def n6(M:Value->Prop)(prog:Program)(w:World)(h:Heap)(a:Addr)(cT:List (List Int)):Prop :=
 ∃o ag a4 t,h.get? a=some o/\o.ExactSet/\o.data=.set ag a4 t/\Tab ag t/\ag.size*5<t.mask*3/\t.plain=true/\(t.led=true<->w.params.followText "set-order"=false)/\Paired (λe aq=>ku prog w h e aq/\M e.2) ag.toList cT/\cT.Nodup
def Paired.perm{α β:Type}{F:α->β->Prop}{bU cJ:List α}(p:bU.Perm cJ):∀{aq:List β},Paired F cJ aq->∃cP,cP.Perm aq/\Paired F bU cP:=by
 induction p with
 |nil=>intro aq h;cases h;exact⟨[],.refl _,.nil⟩
 |cons x _ aD =>
  intro aq h;cases h with
  |cons J t =>
   obtain⟨cP,fz,h'⟩:=aD t;exact⟨_::cP,fz.cons _,.cons J h'⟩
 |swap x y l =>
  intro aq h;cases h with
  |cons J t =>
   cases t with
   |cons aa t=>exact⟨_::_::_,List.Perm.swap _ _ _,.cons aa (.cons J t)⟩
 |trans _ _ xm xn =>
  intro aq h;obtain⟨a0,bj,J⟩:=xn h;obtain⟨aQ,b3,aa⟩:=xm J;exact⟨aQ,b3.trans bj,aa⟩
theorem Paired.len{α β:Type}{F:α->β->Prop}:∀{l:List α}{aq:List β},Paired F l aq->l.length=aq.length
 |_,_,.nil=>rfl
 |_,_,.cons _ t=>by simp[Paired.len t]
theorem Paired.mp{α β:Type}{F G:α->β->Prop}(f:∀a b,F a b->G a b):∀{l:List α}{aq:List β},Paired F l aq->Paired G l aq
 |_,_,.nil=>.nil
 |_,_,.cons h t=>.cons (f _ _ h) (Paired.mp f t)
def GS {M : Value -> Prop} {a b : Addr} {aq : List Int} {cT : List (List Int)} {Q : Bool -> Shared -> Prop} (bO : A.units < cLine) (aX : n6 M prog w s.heap a cT) (aw : gU prog w s.heap aq b) (fg : M (.ref b)) (qI : cT.length < 256)
    (h : ∀ h' hX r, Heap.SameBut a s.heap h' -> n6 M prog w h' a hX -> hX.Perm (if aq ∈ cT then cT else aq :: cT) -> Q r { s with heap := h' }) :
    wpAny (model prog w) A (setAddHashed a (.ref b) (fo prog w aq)) Q E s := by
  obtain ⟨o, ag, a4, t, ay, hex, hd, T, ir, ea, hV, aE, nk⟩ := aX
  obtain ⟨N, aZ, he, iq, au⟩ := Bl T.dO T.h4 T.p7 T.full (fo prog w aq)
  have hlen : ag.size = cT.length := by have := Paired.len aE; simpa using this
  unfold setAddHashed setAddHashedIn
  refine Xc (VW (W4 ay hd (Tab.fits T) ?_))
  dsimp only
  have LR : byScan (.ref b) ag = false := by unfold byScan; simp [Value.scannable]
  rw [LR]
  simp only [V1, Wm]
  refine VW ?_
  unfold setSearch
  refine EY bO ay hd T (Paired.mp (fun _ _ x => x.1) aE) aw aZ he iq au (fun qE => ?_) (fun fR r => ?_) 100000 0 none (V6 _) ?_ rfl (fun k fS => absurd fS (Nat.not_lt_zero k))
  · -- it is new
    dsimp only
    have wX : t.place.size + 1 <= t.mask := by
      rw [T.eh]
      rcases T.dO with e | e | e | e <;> rw [e] at ir ⊢ <;> omega
    obtain ⟨hJ, b1, b2, ec, gp, jO⟩ := T.put (x := Value.ref b) iq au wX
    refine VW (W4 ay hd (Tab.fits T) ?_)
    dsimp only
    generalize d4 : t.put (cF t.mask (fo prog w aq) N) = P at hJ b1 b2 ec gp jO
    obtain ⟨t1, bj⟩ := P
    dsimp only at hJ b1 b2 ec gp jO ⊢
    rw [ec, ea]
    simp only [WN]
    refine VW (HN aw ?_)
    simp only [WN]
    have nu := CB ag bj (fo prog w aq, Value.ref b) b1
    have oL : (insertAt ag bj (fo prog w aq, Value.ref b)).size = ag.size + 1 := oM _ _ _ b1
    have wV : Paired (fun e aq => ku prog w s.heap e aq /\ M e.2) ((fo prog w aq, Value.ref b) :: ag.toList) (aq :: cT) := .cons ⟨⟨b, rfl, rfl, aw⟩, fg⟩ aE
    obtain ⟨q3, aN, ba⟩ := Paired.perm nu wV
    have qD : q3.Nodup := (aN.nodup_iff).mpr (WB.mpr ⟨qE, nk⟩)
    generalize L0 : insertAt ag bj (fo prog w aq, Value.ref b) = cD at hJ nu oL ba
    refine VW (Yz ay hd ?_ (by rw [oL]; have : sizeLine = 2 ^ 40 \/ True := .inr trivial; rw [sizeLine_eq]; omega))
    have hx : (s.heap.update a (Obj.putSet cD t1)).get? a = some { o with data := .set cD (a4 + 1) t1 } := by
      have := WM (Obj.putSet cD t1) ay (by rw [YM cD t1 hd]; rfl)
      rw [YM cD t1 hd] at this; exact this
    have oI := WX s.heap a (Obj.putSet cD t1)
    have move : ∀ {h' : Heap}, Heap.SameBut a s.heap h' -> ∀ (e : Int × Value) (cP : List Int), (ku prog w s.heap e cP /\ M e.2) -> (ku prog w h' e cP /\ M e.2) := fun {h'} ab e cP ⟨⟨c, ak, av, bL⟩, fD⟩ =>
      ⟨⟨c, ak, av, bL.kept fun bC du => (ab.2 c (bL.ne ay hd)).trans du⟩, fD⟩
    have goal : ∀ h' hX, Heap.SameBut a s.heap h' -> n6 M prog w h' a hX -> hX.Perm (aq :: cT) -> Q true { s with heap := h' } := fun h' hX cQ cp d6 => h h' hX true cQ cp (by rw [if_neg qE]; exact d6)
    have qt : t1.fill = cD.size := hJ.fill
    by_cases js : t1.tooFull = true
    · simp only [js, Zd, Z8, WN]
      have wO : ∃ m, gm m /\ sizeAbove (grown cD.size) - 1 = m /\ cD.size * 5 < m * 3 /\ sizeAbove (grown cD.size) <= 512 := by
        unfold SetTable.tooFull at js
        rw [qt, b2] at js
        have gg : cD.size * 5 >= t.mask * 3 := by simpa using js
        rcases T.dO with e | e | e | e
        · rw [e] at gg ir
          have : cD.size = 5 := by omega
          rw [this]
          exact ⟨31, .inr (.inl rfl), by decide, by decide, by decide⟩
        · rw [e] at gg ir
          have : cD.size = 19 := by omega
          rw [this]
          exact ⟨127, .inr (.inr (.inl rfl)), by decide, by decide, by decide⟩
        · rw [e] at gg ir
          have : cD.size = 77 := by omega
          rw [this]
          exact ⟨511, .inr (.inr (.inr rfl)), by decide, by decide, by decide⟩
        · rw [e] at gg ir
          omega
      obtain ⟨m, hm, w5, qz, Mt⟩ := wO
      refine VW ?_
      unfold setRelay
      refine VW (W4 hx rfl (Tab.fits hJ) ?_)
      dsimp only
      rw [<- oL]
      have MT : ¬ sizeAbove (grown cD.size) > sizeLine := by rw [sizeLine_eq]; omega
      rw [if_neg MT]
      obtain ⟨e9, order, dp, bz, cW, iN, lN, r2, vz, _⟩ := CP (α := Value) hm cD (by
        rcases hm with e | e | e | e <;> rw [e] at qz ⊢ <;> omega) t1.finger (t1.movedTo m) t1.led t1.plain
      have xc : t1.relaid (cD.map (·.1)) (grown cD.size) = some (e9, order) := by
        unfold SetTable.relaid; rw [w5]; exact dp
      refine VW ?_
      rw [xc]
      show wpAny (model prog w) A (if ((order.filterMap (cD[·]?)).size != cD.size) = true then _ else pure (order.filterMap (cD[·]?), e9)) _ E _
      rw [if_neg (by rw [lN]; simp)]
      refine wpAny_pure ?_
      dsimp only
      refine Yz hx rfl ?_ (by rw [lN, sizeLine_eq]; omega)
      obtain ⟨xx, b5, dn⟩ := Paired.perm vz ba
      have qu : ((s.heap.update a (Obj.putSet cD t1)).update a (Obj.putSet (order.filterMap (cD[·]?)) e9)).get? a = some { o with data := .set (order.filterMap (cD[·]?)) (a4 + 1 + 1) e9 } := by
        have := WM (Obj.putSet (order.filterMap (cD[·]?)) e9) hx (by rw [YM _ e9 rfl]; rfl)
        rw [YM _ e9 rfl] at this; exact this
      have sV := oI.trans (WX _ a (Obj.putSet (order.filterMap (cD[·]?)) e9))
      refine wpAny_pure (goal _ xx sV ⟨_, _, _, e9, qu, hex, rfl, r2, by rw [lN, bz]; exact qz, by rw [iN, ec]; exact ea, by rw [cW, gp]; exact hV, Paired.mp (move sV) dn, (b5.nodup_iff).mpr qD⟩ (b5.trans aN))
    · have gg : t1.tooFull = false := by simpa using js
      simp only [gg, XB, V1, Wm]
      refine wpAny_pure (goal _ q3 oI ⟨_, _, _, t1, hx, hex, rfl, hJ, ?_, by rw [ec]; exact ea, by rw [gp]; exact hV, Paired.mp (move oI) ba, qD⟩ aN)
      unfold SetTable.tooFull at gg
      rw [qt] at gg
      have : ¬ cD.size * 5 >= t1.mask * 3 := by simpa using gg
      omega
  · dsimp only
    exact wpAny_pure (h s.heap cT false (Zx a s.heap) ⟨o, ag, a4, t, ay, hex, hd, T, ir, ea, hV, aE, nk⟩ (by rw [if_pos fR]))
  · have : turns t.mask <= 526 := by unfold turns; rcases T.dO with e | e | e | e <;> rw [e] <;> omega
    omega
def Sq{M:Value->Prop}{a b:Addr}{aq:List Int}{cT:List (List Int)}{Q:Bool->Shared->Prop}(bO:A.units<cLine)(aX:n6 M prog w s.heap a cT)(aw:gU prog w s.heap aq b)(fg:M (.ref b))(qI:cT.length<256)(h:∀h' tk hX r,s.toks<=tk->Heap.SameBut a s.heap h'->n6 M prog w h' a hX->hX.Perm (if aq∈cT then cT else aq::cT)->Q r { s with heap:=h',toks:=tk }):
  wpAny (model prog w) A (setAdd a (.ref b)) Q E s:=by
 unfold setAdd;refine Xc (VW (wpAny_pyHash_tuple bO aw ?_));exact GS (s:={ s with toks:=_ }) bO aX aw fg qI λh' hX r cQ cp d6=>h h' _ hX r (Nat.le_add_right _ _) cQ cp d6
noncomputable def ks(e:Int×Value)(k:Int):Prop:=e.1=hashInt k/\∃t,e.2=.int k t
noncomputable def n5(w:World)(h:Heap)(a:Addr)(aq:List Int):Prop :=
 ∃o ag a4 t,h.get? a=some o/\o.ExactSet/\o.data=.set ag a4 t/\Tab ag t/\ag.size*5<t.mask*3/\t.plain=true/\(t.led=true<->w.params.followText "set-order"=false)/\Paired ks ag.toList aq/\aq.Nodup
def qR(prog:Program)(w:World)(i:Int)(t:Tok):(intKind prog w).is i (.int i t)=true:=by show Value.isInt i (.int i t)=true;simp[Value.isInt]
def ks.elems{ag:List (Int×Value)}{aq:List Int}(aE:Paired ks ag aq):ElemsOf (intKind prog w) ag:=by
 intro e he
 induction aE with
 |nil=>simp at he
 |@cons bl k _ _ J _ aD =>
  rcases V2.mp he with rfl|he
  .obtain⟨aa,t,av⟩:=J;refine⟨⟨k,?_,aa⟩,?_⟩
   .rw[av];exact qR _ _ _ _
   .rw[av];rfl
  .exact aD he
def ks.find{ag:List (Int×Value)}{aq:List Int}(aE:Paired ks ag aq)(k:Int):(ag.findIdx? λe=>(intKind prog w).is k e.2).isSome=true<->k∈aq:=by
 induction aE with
 |nil=>simp
 |@cons bl dj _ _ J _ aD =>
  obtain⟨_,t,av⟩:=J;have hd:(intKind prog w).is k bl.2=decide (k=dj):=by
   rw[av];exact KeyKind.is_eq_decide (qR prog w dj t) k
  rw[List.findIdx?_cons,hd]
  by_cases c:k=dj
  .subst c;simp
  .simp only[decide_eq_false c];simp only[V1,Wm,Option.isSome_map];rw[aD];simp[c]
def GR {a : Addr} {k : Int} {tk : Tok} {aq : List Int} {Q : Bool -> Shared -> Prop} (aX : n5 w s.heap a aq) (qI : aq.length < 256)
    (h : ∀ h' cP r, Heap.SameBut a s.heap h' -> n5 w h' a cP -> cP.Perm (if k ∈ aq then aq else k :: aq) -> Q r { s with heap := h' }) :
    wpAny (model prog w) A (setAddHashed a (.int k tk) (hashInt k)) Q E s := by
  obtain ⟨o, ag, a4, t, ay, hex, hd, T, ir, ea, hV, aE, nk⟩ := aX
  obtain ⟨N, aZ, he, iq, au⟩ := Bl T.dO T.h4 T.p7 T.full (hashInt k)
  have hlen : ag.size = aq.length := by have := Paired.len aE; simpa using this
  have B4 : ElemsOf (intKind prog w) ag.toList := ks.elems aE
  have MR : ag.size < scanBound := by unfold scanBound; omega
  unfold setAddHashed setAddHashedIn
  refine Xc (VW (W4 ay hd (Tab.fits T) ?_))
  dsimp only
  rw [byScan_of (knd := intKind prog w) (x := .int k tk) rfl MR B4]
  simp only [WN]
  unfold setAddByScan
  refine VW ?_
  refine VW (Ya ?_)
  refine VW (wpAny_setScan_of (knd := intKind prog w) (k := k) (qR _ _ _ _) ay hd (Tab.fits T) B4 ?_)
  have sO := ks.find (prog := prog) (w := w) aE k
  cases a9 : List.findIdx? (fun e => (intKind prog w).is k e.2) ag.toList with
  | some j =>
    dsimp only
    rw [a9] at sO
    have fR : k ∈ aq := sO.mp rfl
    refine wpAny_pure (wpAny_pure ?_)
    exact h s.heap aq _ (Zx a s.heap) ⟨o, ag, a4, t, ay, hex, hd, T, ir, ea, hV, aE, nk⟩ (by rw [if_pos fR])
  | none =>
    dsimp only
    rw [a9] at sO
    have qE : k ∉ aq := fun z => by have := sO.mpr z; cases this
    have wX : t.place.size + 1 <= t.mask := by
      rw [T.eh]
      rcases T.dO with e | e | e | e <;> rw [e] at ir ⊢ <;> omega
    obtain ⟨hJ, b1, b2, ec, gp, jO⟩ := T.put (x := Value.int k tk) iq au wX
    have l3 : t.freeSlot (hashInt k) = some (cF t.mask (hashInt k) N, false) := by
      unfold SetTable.freeSlot
      rcases yi (h := hashInt k) (hashAt := fun _ => hashInt k + 1) T.h4 he au (10 * turns t.mask) 0 (V6 _) (by omega) with ⟨_, _, _, _, _, z, _⟩ | ⟨_, z⟩
      · exact absurd z (by omega)
      · have hH : t.probe (fun _ => hashInt k + 1) (hashInt k) (t.probeStart (hashInt k)) = _ := z
        rw [hH]; rfl
    have Cg : layNew t ag (hashInt k) (.int k tk) = (insertAt ag (t.put (cF t.mask (hashInt k) N)).2 (hashInt k, .int k tk), (t.put (cF t.mask (hashInt k) N)).1, false, false) := by
      unfold layNew
      rw [l3]
      dsimp only
      have wY := Tab.fits hJ
      generalize t.put (cF t.mask (hashInt k) N) = P at hJ b1 wY
      obtain ⟨t1, bj⟩ := P
      dsimp only at wY ⊢
      unfold SetTable.orStandIn
      rw [wY]
      rfl
    rw [Cg]
    dsimp only
    generalize d4 : t.put (cF t.mask (hashInt k) N) = P at hJ b1 b2 ec gp jO
    obtain ⟨t1, bj⟩ := P
    dsimp only at hJ b1 b2 ec gp jO ⊢
    refine VW (wpAny_pure ?_)
    rw [ec, ea]
    simp only [WN]
    rw [show hashByValue 8 (Value.int k tk) = pure true from by unfold hashByValue; rfl]
    refine VW (wpAny_pure ?_)
    simp only [WN]
    have nu := CB ag bj (hashInt k, Value.int k tk) b1
    have oL : (insertAt ag bj (hashInt k, Value.int k tk)).size = ag.size + 1 := oM _ _ _ b1
    have wV : Paired ks ((hashInt k, Value.int k tk) :: ag.toList) (k :: aq) := .cons ⟨rfl, _, rfl⟩ aE
    obtain ⟨q3, aN, ba⟩ := Paired.perm nu wV
    have qD : q3.Nodup := (aN.nodup_iff).mpr (WB.mpr ⟨qE, nk⟩)
    generalize L0 : insertAt ag bj (hashInt k, Value.int k tk) = cD at hJ nu oL ba
    refine VW (Yz ay hd ?_ (by rw [oL, sizeLine_eq]; omega))
    have hx : (s.heap.update a (Obj.putSet cD t1)).get? a = some { o with data := .set cD (a4 + 1) t1 } := by
      have := WM (Obj.putSet cD t1) ay (by rw [YM cD t1 hd]; rfl)
      rw [YM cD t1 hd] at this; exact this
    have oI := WX s.heap a (Obj.putSet cD t1)
    have goal : ∀ h' cP, Heap.SameBut a s.heap h' -> n5 w h' a cP -> cP.Perm (k :: aq) -> Q true { s with heap := h' } := fun h' cP cQ cp d6 => h h' cP true cQ cp (by rw [if_neg qE]; exact d6)
    have qt : t1.fill = cD.size := hJ.fill
    by_cases js : t1.tooFull = true
    · simp only [js, Zd, Z8, WN]
      have wO : ∃ m, gm m /\ sizeAbove (grown cD.size) - 1 = m /\ cD.size * 5 < m * 3 /\ sizeAbove (grown cD.size) <= 512 := by
        unfold SetTable.tooFull at js
        rw [qt, b2] at js
        have gg : cD.size * 5 >= t.mask * 3 := by simpa using js
        rcases T.dO with e | e | e | e
        · rw [e] at gg ir
          have : cD.size = 5 := by omega
          rw [this]
          exact ⟨31, .inr (.inl rfl), by decide, by decide, by decide⟩
        · rw [e] at gg ir
          have : cD.size = 19 := by omega
          rw [this]
          exact ⟨127, .inr (.inr (.inl rfl)), by decide, by decide, by decide⟩
        · rw [e] at gg ir
          have : cD.size = 77 := by omega
          rw [this]
          exact ⟨511, .inr (.inr (.inr rfl)), by decide, by decide, by decide⟩
        · rw [e] at gg ir
          omega
      obtain ⟨m, hm, w5, qz, Mt⟩ := wO
      obtain ⟨e9, order, dp, bz, cW, iN, lN, r2, vz, HO⟩ := CP (α := Value) hm cD (by
        rcases hm with e | e | e | e <;> rw [e] at qz ⊢ <;> omega) t1.finger (t1.movedTo m) t1.led t1.plain
      have xc : t1.relaid (cD.map (·.1)) (grown cD.size) = some (e9, order) := by
        unfold SetTable.relaid; rw [w5]; exact dp
      have fQ : relayAll t1 cD (grown cD.size) = (order.filterMap (cD[·]?), e9, false) := by
        unfold relayAll
        rw [xc]
        dsimp only
        have J : coversAll order cD.size = true := by unfold coversAll; exact List.isPerm_iff.mpr HO
        rw [J, Tab.fits r2]
        rfl
      rw [fQ]
      dsimp only
      refine VW (wpAny_pure ?_)
      refine VW (Yz hx rfl ?_ (by rw [lN, sizeLine_eq]; omega))
      obtain ⟨xx, b5, dn⟩ := Paired.perm vz ba
      have qu : ((s.heap.update a (Obj.putSet cD t1)).update a (Obj.putSet (order.filterMap (cD[·]?)) e9)).get? a = some { o with data := .set (order.filterMap (cD[·]?)) (a4 + 1 + 1) e9 } := by
        have := WM (Obj.putSet (order.filterMap (cD[·]?)) e9) hx (by rw [YM _ e9 rfl]; rfl)
        rw [YM _ e9 rfl] at this; exact this
      have sV := oI.trans (WX _ a (Obj.putSet (order.filterMap (cD[·]?)) e9))
      exact wpAny_pure (wpAny_pure (goal _ xx sV ⟨_, _, _, e9, qu, hex, rfl, r2, by rw [lN, bz]; exact qz, by rw [iN, ec]; exact ea, by rw [cW, gp]; exact hV, dn, (b5.nodup_iff).mpr qD⟩ (b5.trans aN)))
    · have gg : t1.tooFull = false := by simpa using js
      simp only [gg, XB, V1, Wm]
      refine wpAny_pure (wpAny_pure (goal _ q3 oI ⟨_, _, _, t1, hx, hex, rfl, hJ, ?_, by rw [ec]; exact ea, by rw [gp]; exact hV, ba, qD⟩ aN))
      unfold SetTable.tooFull at gg
      rw [qt] at gg
      have : ¬ cD.size * 5 >= t1.mask * 3 := by simpa using gg
      omega
def Sp{a:Addr}{k:Int}{tk:Tok}{aq:List Int}{Q:Bool->Shared->Prop}(aX:n5 w s.heap a aq)(qI:aq.length<256)(h:∀h' pv cP r,s.toks<=pv->Heap.SameBut a s.heap h'->n5 w h' a cP->cP.Perm (if k∈aq then aq else k::aq)->Q r { s with heap:=h',toks:=pv }):
  wpAny (model prog w) A (setAdd a (.int k tk)) Q E s:=by
 unfold setAdd;refine Xc (VW ((intKind prog w).pyHash (k:=k) (qR _ _ _ _) ?_));exact GR (s:={ s with toks:=s.toks+1 }) aX qI λh' hX r cQ cp d6=>h h' _ hX r (Nat.le_succ _) cQ cp d6
end
end Pv
end
section
namespace Pv
open PySem PySem.Spec PyProof.Rows fC PySem.SetTable
section
variable{prog:Program}{w:World}
structure rW(prog:Program)(w:World)(κ:Type)[DecidableEq κ] where
 Row:Heap->Value->κ->Prop
 Set:Heap->Addr->List κ->Prop
 fresh:∀(h:Heap)(a:Addr),h.get? a=some { cls:=.type "set",dict:=none,data:=.set #[] 0 (.fresh 0 0 (!w.params.followText "set-order")) }->Set h a []
 moved:∀{h h':Heap}{a:Addr}{aq:List κ},Set h a aq->(∀o,h.get? a=some o->h'.get? a=some o)->(∀b o,h.get? b=some o->o.cls=.type "tuple"->h'.get? b=some o)->Set h' a aq
 yz:∀{h h':Heap}{v:Value}{k:κ},Row h v k->(∀b o,h.get? b=some o->o.cls=.type "tuple"->h'.get? b=some o)->Row h' v k
 x4:∀{h:Heap}{a:Addr}{aq:List κ},Set h a aq->∀o,h.get? a=some o->o.cls≠.type "tuple"
 add:∀{A:Around}{E:Value->Shared->Prop}{s:Shared}{a:Addr}{v:Value}{k:κ}{aq:List κ}{Q:Bool->Shared->Prop},A.units<cLine->Set s.heap a aq->Row s.heap v k->aq.length<256 ->
  (∀h' tk cP r,s.toks<=tk->Heap.SameBut a s.heap h'->Set h' a cP->cP.Perm (if k∈aq then aq else k::aq)->Q r { s with heap:=h',toks:=tk })->wpAny (model prog w) A (setAdd a v) Q E s
section
variable{κ:Type}[DecidableEq κ]
noncomputable def met(aq:List κ):Nat->List κ
 |0=>[]
 |i+1=>match aq[i]? with
  |some k=>if k∈met aq i then met aq i else k::met aq i
  |none=>met aq i
theorem tp (aq : List κ) : ∀ (i : Nat), i <= aq.length -> ∀ k, k ∈ met aq i <-> k ∈ aq.take i
  | 0, _, k => by simp [met]
  | i + 1, hi, k => by
    have aD := tp aq i (by omega) k
    have a8 : aq[i]? = some aq[i] := V5 (by omega)
    have e : aq.take (i + 1) = aq.take i ++ [aq[i]] := by rw [List.take_succ, a8]; rfl
    unfold met
    rw [a8, e, Wi, <- aD, Ws]
    dsimp only
    split
    · rename_i c
      constructor
      · exact .inl
      · rintro (h | h)
        · exact h
        · rw [h]; exact c
    · rw [V2]
      exact ⟨fun h => h.symm, fun h => h.symm⟩
theorem rf(aq:List κ):∀i,(met aq i).Nodup
 |0=>X8
 |i+1=>by
  unfold met
  split
  .split
   .exact rf aq i
   .rename_i c;exact WB.mpr ⟨c,rf aq i⟩
  .exact rf aq i
def Qe{k:κ}{l m:List κ}{iu:List κ}(h:l.Perm m)(h':iu.Perm (if k∈l then l else k::l)):iu.Perm (if k∈m then m else k::m):=by
 by_cases c:k∈l
 .rw[if_pos c]at h';rw[if_pos (h.mem_iff.mp c)];exact h'.trans h
 .rw[if_neg c]at h';rw[if_neg (λz=>c (h.mem_iff.mpr z))];exact h'.trans (h.cons k)
def Uq(K:rW prog w κ){A:Around}{R:Result->Shared->Prop}{I:Addr}{bE wr:List Addr}{n:Nat}{P:Nat->Value->Prop}{St:Nat->Shared->Prop}{G:Array GenState->Array GenState->Prop}(W:WalksS prog w A.in1 I bE wr G n P St)(S:Addr)(oB:S∉bE)(bO:A.in1.units<cLine)(cT:List κ)(h0:Heap)(Cs:∀i s,St i s->∀b∈wr,∀o,s.heap.get? b=some o->o.cls≠.type "tuple")(MZ:∀i v,P i v->∃k,cT[i]?=some k/\K.Row h0 v k)(ae:∀i,i<n->(met cT i).length<256):
  ∀(k i:Nat)(s:Shared),n-i=k->i<=n->St i s->(∀b o,h0.get? b=some o->o.cls=.type "tuple"->s.heap.get? b=some o)->(∃l,K.Set s.heap S l/\l.Perm (met cT i)) ->
   (∀s' l,Moved (S::wr) G s s'->K.Set s'.heap S l->l.Perm (met cT n)->R (.ok (.ret .none)) s') ->
   codeAny (model prog w) A (.builtin "set.update.loop" ⟨[.ref S,.ref I],[]⟩) R s:=by
 have BY:S∉wr:=λh=>oB (W.sub _ h)
 have iU:∀b∈wr,b∈S::wr:=λb ae=>List.mem_cons_of_mem _ ae
 intro k
 induction k with
 |zero =>
  intro i s aw hi cN Ce ⟨l,aX,au⟩ hR;have fR:i=n:=by omega
  subst fR;refine Xf Yk ?_;rw[Xk Xy _];show wpAny _ A.in1 (pyNext (.ref I)>>=_) _ _ s;refine VW (W.done s _ _ cN λs' hm=>?_)
  show wpAny _ A.in1 (ret Value.none) _ _ s';exact wpAny_pure (hR s' l (hm.mono iU) (K.moved aX (λo e=>hm.heap S o BY e) λb o e aj=>hm.heap b o (λwR=>Cs _ s cN b wR o e aj) e) au)
 |succ k aD =>
  intro i s aw hi cN Ce ⟨l,aX,au⟩ hR;have cm:i<n:=by omega
  refine Xf Yk ?_;rw[Xk Xy _];show wpAny _ A.in1 (pyNext (.ref I)>>=_) _ _ s;refine VW (W.item i s _ _ cm cN λv s' d4 MW hm=>?_)
  obtain⟨key,w2,sH⟩:=MZ i v d4;have tk:∀b o,s.heap.get? b=some o->o.cls=.type "tuple"->s'.heap.get? b=some o:=λb o e aj=>hm.heap b o (λwR=>Cs _ s cN b wR o e aj) e
  have jX:K.Set s'.heap S l:=K.moved aX (λo e=>hm.heap S o BY e) tk
  have Cf:∀b o,h0.get? b=some o->o.cls=.type "tuple"->s'.heap.get? b=some o:=λb o e aj=>tk b o (Ce b o e aj) aj
  have fS:K.Row s'.heap v key:=K.yz sH Cf;show wpAny _ A.in1 (holding [v] (setAdd S v)>>=_) _ _ s';refine VW (Xc (K.add bO jX fS (by rw[au.length_eq];exact ae i cm) λh' pv iu r pD cQ cp d6=>?_))
  have w7:∀b o,s'.heap.get? b=some o->o.cls=.type "tuple"->b≠S:=λb o e aj=>by
   rintro rfl;exact K.x4 jX o e aj
  refine wpAny_pure ⟨YU Xy _,aD (i+1) _ (by omega) cm (W.frame _ s' _ _ MW pD λb ae o e=>?_) (λb o e aj=>?_) ⟨iu,cp,?_⟩ λrA N1 Ms LJ Mm=>?_⟩
  .rw[cQ.2 b (λh:b=S=>oB (by rw[<- h];exact ae))];exact e
  .have bl:=Cf b o e aj;show h'.get? b=some o;rw[cQ.2 b (w7 b o bl aj)];exact bl
  .unfold met;rw[w2];exact Qe au d6
  .refine hR rA N1 (Moved.trans W.gtrans ((hm.mono iU).then_heap pD λb o ae e=>?_) Ms) LJ Mm
   rw[cQ.2 b (λh:b=S=>ae (by rw[h];exact List.mem_cons_self))];exact e
end
def rC{A:Around}{E:Value->Shared->Prop}{s:Shared}(a:Value){Q₁:Value->Shared->Prop}(h:Q₁ (.ref s.heap.objs.size) { s with heap:=s.heap.push { cls:=.type "set",dict:=none,data:=.set #[] 0 (.fresh 0 0 (!w.params.followText "set-order")) } }):
  codeAny (model prog w) A (.call (.builtin "set.__new__") ⟨[.type "set",a],[]⟩) (wants Q₁ E) s:=by
 refine codeAny_of_tree ?_;show wpAny _ A.in1 (do checkBuiltinCall "set.__new__" ⟨[.type "set",a],[]⟩;again (.builtin "set.__new__" ⟨[.type "set",a],[]⟩)) _ _ s
 refine VW (wpAny_of_eq (F.newCall_set_1 a) (wpAny_pure ⟨YU F.plain_set_new _,Xf F.entry_set_new ?_⟩));rw[Xk F.plain_set_new _];unfold Builtin.«set.__new__» Builtin.Frozenset.newClass;have iU:=sub_set_self;obtain⟨aE,g,d,tk,os⟩:=s;dsimp only
 wp_walk
 refine Yh (wpAny_pure ?_);dsimp only;simp only[newObj];refine VW (wpAny_alloc (wpAny_pure ?_));exact wpAny_pure h
def FO(led:Bool):Tab (α:=Value) #[] (SetTable.fresh 0 0 led):=by
 refine⟨λi j a b _ h=>?_,λi j h=>?_,rfl,rfl,.inl rfl,V6 _,λi j e h=>?_⟩
 .simp[SetTable.fresh]at h
 .simp[SetTable.fresh]at h
 .simp[SetTable.fresh]at h
theorem DW{α β:Type}{F:α->β->Prop}:∀{l:List α}{aq:List β},Paired F l aq->∀(i:Nat)(v:α),l[i]?=some v->∃k,aq[i]?=some k/\F v k
 |_,_,.nil,i,v,h=>by simp at h
 |_,_,.cons J t,0,v,h=>by simp at h;subst h;exact⟨_,rfl,J⟩
 |_,_,.cons J t,i+1,v,h=>by
  have:=DW t i v (by simpa using h)
  simpa using this
def UL{A:Around}(cM:A.handled=none){T:String}(c3:T="list"\/T="tuple"){h:Heap}{l:Addr}{bh:Option Addr}{fq:Array (Option Value)}{items:Array Value}{nl:Nat}(j2:h.get? l=some { cls:=.type T,dict:=bh,data:=.seq items nl,slots:=fq }):
  ∃(tw:Obj)(St:Nat->Heap->Prop),tw.cls≠.type "tuple"/\(∀(uw:Around)(E:Value->Shared->Prop)(s:Shared)(Q:Value->Shared->Prop),s.heap=h->Q (.ref h.objs.size) { s with heap:=h.push tw }->wpAny (model prog w) uw (pyIter (.ref l)) Q E s) /\
   Walks prog w A h.objs.size [h.objs.size,l] [h.objs.size] items.size (λi v=>items[i]?=some v) St/\St 0 (h.push tw)/\∀i h',St i h'->∀o,h'.get? h.objs.size=some o->o.cls≠.type "tuple":=by
 have cm:l<h.objs.size:=Wb j2;rcases c3 with rfl|rfl
 .have au:h.IsList l items:=⟨_,j2,rfl,nl,rfl⟩;refine⟨{ cls:=.type "list_iterator",data:=.fields #[.ref l,.int 0 0] },_,by show Value.type _≠Value.type _;decide,λuw E s Q e q=>?_,Walks.list cM h.objs.size l (Wn cm) items,⟨⟨_,Wc _ rfl,rfl,rfl⟩,au.push _⟩,λi h' st o e=>?_⟩
  .subst e;exact wpAny_pyIter_list au q
  .obtain⟨⟨bC,bl,c,_⟩,_⟩:=st;rw[e]at bl;cases bl;rw[c];decide
 .have au:h.IsTuple l items:=⟨_,j2,rfl,nl,rfl⟩;refine⟨{ cls:=.type "tuple_iterator",data:=.fields #[.ref l,.int 0 0] },_,by show Value.type _≠Value.type _;decide,λuw E s Q e q=>?_,Walks.tuple cM h.objs.size l (Wn cm) items,⟨⟨_,Wc _ rfl,rfl,rfl⟩,⟨_,VY _ j2,rfl,nl,rfl⟩⟩,λi h' st o e=>?_⟩
  .subst e;exact wpAny_pyIter_tuple au q
  .obtain⟨⟨bC,bl,c,_⟩,_⟩:=st;rw[e]at bl;cases bl;rw[c];decide
def Aa {κ : Type} [DecidableEq κ] (K : rW prog w κ) {A : Around} {E : Value -> Shared -> Prop} {s : Shared} {l : Addr} {T : String} {bh : Option Addr} {fq : Array (Option Value)} {items : Array Value} {nl : Nat} {cT : List κ} {Q : Value -> Shared -> Prop} (c3 : T = "list" \/ T = "tuple")
    (cM : A.handled = none) (bO : A.units + 64 < cLine) (j2 : s.heap.get? l = some { cls := .type T, dict := bh, data := .seq items nl, slots := fq }) (hi : Paired (K.Row s.heap) items.toList cT) (ae : ∀ i, i < cT.length -> (met cT i).length < 256)
    (h : ∀ (h' : Heap) (tk : Nat) (r : List κ), K.Set h' s.heap.objs.size r -> r.Perm (met cT cT.length) ->
      (∀ b o, b < s.heap.objs.size -> s.heap.get? b = some o -> h'.get? b = some o) -> Q (.ref s.heap.objs.size) { s with heap := h', toks := tk }) :
    wpAny (model prog w) A (call (.type "set") [.ref l]) Q E s := by
  obtain ⟨c, hG, Vw⟩ := XW.mro
  have Vt := XW.made
  have iU := XW.sub
  refine wpAny_call (codeAny_of_tree ?_)
  show wpAny _ _ (callAny (.type "set") _) _ _ _
  refine wpAny_pure ⟨Code.quiet_builtin _ (by decide +kernel), Xf F.entry_type_call ?_⟩
  rw [Around.under_plain (weight_type_call_type "set" [.ref l] []) rfl]
  have J := XW.notType
  have aa := XW.canCreate
  have Vm := F.typeCall_set_1 (.ref l)
  repeat (any_goals (first | assumption | wp_step))
  refine Y8 (rC (.ref l) (E := E) (Q₁ := fun obj cG => ∃ led : Bool, led = (!w.params.followText "set-order") /\ obj = .ref s.heap.objs.size /\ cG = { s with heap := s.heap.push { cls := .type "set", dict := none, data := .set #[] 0 (.fresh 0 0 led) } }) ⟨_, rfl, rfl, rfl⟩) fun r cG a9 => ?_
  cases r with
  | error e => exact a9
  | ok hs =>
    cases hs with
    | ret obj =>
      obtain ⟨led, hV, rfl, rfl⟩ := a9
      have aX : (s.heap.push { cls := .type "set", dict := none, data := .set #[] 0 (.fresh 0 0 led) }).get? s.heap.objs.size = some { cls := .type "set", dict := none, data := .set #[] 0 (.fresh 0 0 led) } := Wc _ rfl
      have LL : Shared.TypeIs { s with heap := s.heap.push { cls := .type "set", dict := none, data := .set #[] 0 (.fresh 0 0 led) } } (.ref s.heap.objs.size) "set" := ⟨_, aX, rfl⟩
      have Vp := XW.init.lookup
      have Vl := XW.init.bind (.ref s.heap.objs.size)
      repeat (any_goals (first | assumption | wp_step))
      refine Y8 (codeAny_call_builtin (R := wants (fun r hb => r = .none /\ ∃ h' tk gy, hb = { s with heap := h', toks := tk } /\ K.Set h' s.heap.objs.size gy /\ gy.Perm (met cT cT.length) /\
          (∀ b o, b < s.heap.objs.size -> s.heap.get? b = some o -> h'.get? b = some o)) E) XW.init.plain F.entry_set_init (check_set_init_1 LL ?_)) fun Rn hb xd => ?_
      · have ME : (s.heap.push { cls := .type "set", dict := none, data := .set #[] 0 (.fresh 0 0 led) }).get? l = some { cls := .type T, dict := bh, data := .seq items nl, slots := fq } := VY _ j2
        have VD : isSubtype (.type T) (.type "set") = pure false := by rcases c3 with rfl | rfl; exact F.sub_list_set; exact F.sub_tuple_set
        have VC : isSubtype (.type T) (.type "frozenset") = pure false := by rcases c3 with rfl | rfl; exact F.sub_list_frozenset; exact F.sub_tuple_frozenset
        have en : (Value.type T == Value.type "dict") = false := by rcases c3 with rfl | rfl <;> decide
        have L8 : A.in1.in1.in1.handled = none := by simp [cM]
        obtain ⟨tw, St, Vy, hit, W, st0, w7⟩ := UL (prog := prog) (w := w) L8 c3 ME
        unfold Builtin.«set.__init__» noKeywords Builtin.Frozenset.updateFrom
        generalize LI : pyIter = gR
        wp_walk
        subst LI
        refine hit _ _ _ _ rfl ?_
        refine VW (Zi ?_)
        have Mn : l < s.heap.objs.size := Wb j2
        have oB : s.heap.objs.size ∉ [(s.heap.push { cls := .type "set", dict := none, data := .set #[] 0 (.fresh 0 0 led) }).objs.size, l] := by
          rw [Z5]; simp only [V2, Ws, ZL, or_false, not_or]
          exact ⟨Wn (XQ _), Nat.ne_of_gt Mn⟩
        have hlen : items.size = cT.length := by have := Paired.len hi; simpa using this
        refine Uq K (W.toS) s.heap.objs.size oB ?hu2 cT s.heap (fun i s' st b ae o e => ?nt) (fun i v aT => ?val) (fun i dX => ae i (by omega)) (items.size - 0) 0 _ (by omega) (V6 _)
          st0 (fun b o e _ => VY _ (VY _ e)) ⟨[], ?hS0, .refl _⟩ ?hR
        case hu2 => first | (show A.units + 1 + 1 + 1 + 1 < cLine; omega) | (show A.units + 1 + 1 + 1 < cLine; omega) | (simp [Around.in1]; omega)
        case nt =>
          rw [Ws] at ae
          subst ae
          exact w7 i _ st o e
        case val => exact DW hi i v (by rw [Wj]; exact aT)
        case hS0 =>
          refine K.fresh _ _ ?_
          rw [<- hV]
          exact VY _ aX
        case hR =>
          intro s' gy hm jX nu
          obtain ⟨h', g', d', pv, rn⟩ := s'
          have qc : g' = s.gens := hm.gens
          have qb : d' = s.drawn := hm.drawn
          have vV : rn = s.os := hm.os
          subst qc; subst qb; subst vV
          show wpAny _ _ _ _ _ _
          refine wpAny_pure ?_
          show wpAny _ _ (ret Value.none) _ _ _
          refine wpAny_pure ⟨rfl, h', pv, gy, rfl, jX, by rw [<- hlen]; exact nu, fun b o ae e => ?_⟩
          have g4 : b ≠ s.heap.objs.size := Wn ae
          have jn : b ≠ (s.heap.push { cls := .type "set", dict := none, data := .set #[] 0 (.fresh 0 0 led) }).objs.size := by
            rw [Z5]; exact Wn (Nat.lt_succ_of_lt ae)
          exact hm.heap b o (by simp only [V2, Ws, ZL, or_false, not_or]; exact ⟨g4, jn⟩) (VY _ (VY _ e))
      · cases Rn with
        | error e => exact xd
        | ok K5 =>
          cases K5 with
          | ret r =>
            obtain ⟨rfl, h', tk, gy, rfl, jX, MK, fS⟩ := xd
            repeat (any_goals (first | assumption | wp_step))
            exact h _ _ gy jX MK fS
          | _ => exact xd.elim
    | _ => exact a9.elim
end
end Pv
end
section
namespace Pv
open PySem PySem.Spec PyProof.Rows fC PySem.SetTable
section
variable{prog:Program}{w:World}
noncomputable def CJ(M:Value->Prop)(prog:Program)(w:World):rW prog w (List Int) where
 Row:=λh v aq=>∃b,v=.ref b/\gU prog w h aq b/\M v
 Set:=n6 M prog w
 fresh:=λh a e=>⟨_,#[],0,_,e,⟨rfl,rfl,rfl⟩,rfl,FO _,by show 0*5<7*3;decide,rfl,by show(!w.params.followText "set-order")=true<->_;simp,.nil,X8⟩
 moved:=λ{h h' a cT} x q0 k=>by
  obtain⟨o,ag,a4,t,ay,aG,a5,dU,fi,fI,tI,yn,ru⟩:=x;refine⟨o,ag,a4,t,q0 _ ay,aG,a5,dU,fi,fI,tI,Paired.mp (λe aq ⟨⟨b,ak,av,bL⟩,fD⟩=>⟨⟨b,ak,av,?_⟩,fD⟩) yn,ru⟩
  obtain⟨bX,items,n,J,aa,aL⟩:=bL;exact⟨bX,items,n,k b bX J aa,aa,aL⟩
 yz:=λx k=>by
  obtain⟨b,e,⟨bX,items,m,cQ,cp,d6⟩,ib⟩:=x;exact⟨b,e,⟨bX,items,m,k b bX cQ cp,cp,d6⟩,ib⟩
 x4:=λx o e=>by
  obtain⟨bC,_,_,_,du,hex,_⟩:=x;rw[e]at du;cases du;rw[hex.1];decide
 add:=λ{A E s a v k aq Q} bO aX a9 au h=>by
  obtain⟨b,rfl,aw,fg⟩:=a9;refine Sq bO aX aw fg au λh' tk cP r pD cQ cp d6=>h h' tk cP r pD cQ cp ?_
  by_cases c:k∈aq
  .rw[if_pos c]at d6 ⊢;exact d6
  .rw[if_neg c]at d6 ⊢;exact d6
noncomputable def NI(prog:Program)(w:World):rW prog w Int where
 Row:=λ_ v k=>∃t,v=.int k t
 Set:=n5 w
 fresh:=λh a e=>⟨_,#[],0,_,e,⟨rfl,rfl,rfl⟩,rfl,FO _,by show 0*5<7*3;decide,rfl,by show(!w.params.followText "set-order")=true<->_;simp,.nil,X8⟩
 moved:=λ{h h' a cT} x q0 k=>by
  obtain⟨o,ag,a4,t,ay,r⟩:=x;exact⟨o,ag,a4,t,q0 _ ay,r⟩
 yz:=λx _=>x
 x4:=λx o e=>by
  obtain⟨bC,_,_,_,du,hex,_⟩:=x;rw[e]at du;cases du;rw[hex.1];decide
 add:=λ{A E s a v k aq Q} bO aX a9 au h=>by
  obtain⟨t,rfl⟩:=a9;refine Sp aX au λh' tk cP r pD cQ cp d6=>h h' tk cP r pD cQ cp ?_
  by_cases c:k∈aq
  .rw[if_pos c]at d6 ⊢;exact d6
  .rw[if_neg c]at d6 ⊢;exact d6
end
end Pv
end
section
namespace Pv
open PySem PySem.Spec PyProof.Rows fC PySem.SetTable
def pk:Slot "set_iterator" "__next__" "set_iterator.__next__" :=
 .of (owner:="set_iterator") (n:="__next__") (by rw[Z0,YE];kernel_rfl) (by decide +kernel) (by decide +kernel) (by decide +kernel)
  (by first|exact .inl (by decide +kernel)|exact .inr (by decide +kernel)) (by rw[Zj];kernel_rfl)
def AQ:entryFor table "set_iterator.__next__"=some Builtin.«set_iterator.__next__»:=entryFor_of_tree (by kernel_rfl)
def DS:Manifest.owners.lookup (String.ofList ['r','o','t','a','r','e','t','i','_','t','e','s'].reverse)=some Manifest.sig_set_iterator:=by kernel_rfl
def zM(a:Value):argsOk "set_iterator.__next__" ⟨[a],[]⟩:=by
 unfold argsOk;rw[signature?_of (id:="set_iterator.__next__") (n:=['_','_','t','x','e','n','_','_']) (o:=['r','o','t','a','r','e','t','i','_','t','e','s']) (by kernel_rfl) DS];kernel_rfl
def Fg:Slot "set_iterator" "__iter__" "set_iterator.__iter__" :=
 .of (owner:="set_iterator") (n:="__iter__") (by rw[Z0,YE];kernel_rfl) (by decide +kernel) (by decide +kernel) (by decide +kernel)
  (by first|exact .inl (by decide +kernel)|exact .inr (by decide +kernel)) (by rw[Zj];kernel_rfl)
def G3(a:Value):argsOk "set_iterator.__iter__" ⟨[a],[]⟩:=by
 unfold argsOk;rw[signature?_of (id:="set_iterator.__iter__") (n:=['_','_','r','e','t','i','_','_']) (o:=['r','o','t','a','r','e','t','i','_','t','e','s']) (by kernel_rfl) DS];kernel_rfl
def Ff:Slot "set" "__iter__" "set.__iter__" :=
 .of (owner:="set") (n:="__iter__") (by rw[Z0,YE];kernel_rfl) (by decide +kernel) (by decide +kernel) (by decide +kernel)
  (by first|exact .inl (by decide +kernel)|exact .inr (by decide +kernel)) (by rw[Zj];kernel_rfl)
def G2(a:Value):argsOk "set.__iter__" ⟨[a],[]⟩:=by
 unfold argsOk;rw[signature?_of (id:="set.__iter__") (n:=['_','_','r','e','t','i','_','_']) (o:=['t','e','s']) (by kernel_rfl) PySem.F.owner_set];kernel_rfl
def JK:entryFor table "set.__iter__"=some Builtin.«frozenset.__iter__»:=entryFor_alias (id':="frozenset.__iter__") (by kernel_rfl) rfl (by decide +kernel) (by kernel_rfl)
def JL:entryFor table "set_iterator.__iter__"=some Builtin.«dict_keyiterator.__iter__»:=entryFor_alias (id':="dict_keyiterator.__iter__") (by kernel_rfl) rfl (by decide +kernel) (by kernel_rfl)
end Pv
end
section
namespace Pv
open PySem PySem.Spec PyProof.Rows fC PySem.SetTable
theorem AW{α:Type}:∀(l:List α)(i:Nat)(h:i<l.length),(l[i]::l.eraseIdx i).Perm l
 |x::r,0,_=>by simp
 |x::r,i+1,h=>by
  simp only[List.getElem_cons_succ,List.eraseIdx_cons_succ];exact(List.Perm.swap _ _ _).trans ((AW r i (by simpa using h)).cons x)
theorem D6{α:Type}(next:Nat->Nat):∀(fuel k:Nat)(left:List α)(out:Array α),left.length<=fuel->(pickOrder.go next fuel k left out).toList.Perm (out.toList++left)
 |0,k,left,out,h=>by
  have:left=[]:=List.length_eq_zero_iff.mp (by omega)
  subst this;simp[pickOrder.go]
 |fuel+1,k,left,out,h=>by
  unfold pickOrder.go;cases left with
  |nil=>simp
  |cons x r =>
   have cm:next k%(x::r).length<(x::r).length:=aaa _ (by simp)
   have a8:(x::r)[next k%(x::r).length]?=some (x::r)[next k%(x::r).length]:=V5 cm
   rw[a8];dsimp only;refine(D6 next fuel (k+1) _ _ (by rw[List.length_eraseIdx_of_lt cm];simp only[List.length_cons]at h ⊢;omega)).trans ?_
   rw[X7,Wa];exact XC _ (AW _ _ cm)
def Qp{α:Type}(next:Nat->Nat)(xs:Array α):(pickOrder next xs).toList.Perm xs.toList:=by
 unfold pickOrder;have:=D6 next xs.size 0 xs.toList #[] (by simp)
 simpa using this
section
variable{prog:Program}{w:World}
structure mO(w:World)(o:Obj)(ag:Array (Int×Value))(a4:Nat)(t:SetTable):Prop where
 ex:o.ExactSet
 data:o.data=.set ag a4 t
 tab:Tab ag t
 plain:t.plain=true
 led:t.led=true<->w.params.followText "set-order"=false
noncomputable def fT(w:World)(a:Addr)(ag:Array (Int×Value))(a4:Nat):Array (Int×Value):=if w.params.followText "set-order"=true then pickOrder (w.params.setOrder a a4) ag else ag
def o3(w:World)(a:Addr)(ag:Array (Int×Value))(a4:Nat):(fT w a ag a4).toList.Perm ag.toList:=by
 unfold fT;split
 .exact Qp _ _
 .exact .refl _
noncomputable def slotAt(w:World)(t:SetTable)(i:Nat):Nat:=if w.params.followText "set-order"=true then 0 else match i with
 |0=>0
 |j+1=>t.place.getD j 0+1
noncomputable def mK(h:Heap)(it a:Addr)(slot i n a4:Nat):Prop:=∃o,h.get? it=some o/\o.cls=.type "set_iterator"/\o.data=.fields #[.int slot 0,.int i 0,.ref a,.int n 0,.int a4 0]
def mK.typeIs{s:Shared}{it a:Addr}{slot i n a4:Nat}(h:mK s.heap it a slot i n a4):s.TypeIs (.ref it) "set_iterator":=let ⟨o,ay,aj,_⟩:=h;⟨o,ay,aj⟩
def Hw {ag : Array (Int × Value)} {t : SetTable} (T : Tab ag t) (hw : w.params.followText "set-order" = false) {i : Nat} (hi : i <= ag.size) : below t.place (slotAt w t i) = i := by
  unfold slotAt
  rw [if_neg (by rw [hw]; decide)]
  obtain ⟨J, aa, aL⟩ := vv T.h4 (match i with | 0 => 0 | j + 1 => t.place.getD j 0 + 1)
  rw [T.eh] at J
  cases i with
  | zero =>
    dsimp only at J aa aL ⊢
    by_cases c : below t.place 0 = 0
    · exact c
    · exfalso
      have cm : 0 < t.place.size := by rw [T.eh]; omega
      have := aa 0 _ (by omega) (V4 cm)
      omega
  | succ j =>
    have aB : j < t.place.size := by rw [T.eh]; omega
    have a8 : t.place[j]? = some t.place[j] := V4 aB
    have hd : t.place.getD j 0 = t.place[j] := by simp [Array.getD, aB]
    dsimp only at J aa aL ⊢
    rw [hd] at J aa aL ⊢
    by_cases dp : below t.place (t.place[j] + 1) <= j
    · exfalso
      have := aL j _ dp a8
      omega
    · by_cases bz : j + 1 < below t.place (t.place[j] + 1)
      · exfalso
        have jr : j + 1 < t.place.size := by rw [T.eh]; omega
        have hx : t.place[j + 1]? = some t.place[j + 1] := V4 jr
        have a1 := aa (j + 1) _ bz hx
        have a2 := T.h4 j (j + 1) _ _ (by omega) a8 hx
        omega
      · omega
variable{A:Around}{E:Value->Shared->Prop}{s:Shared}
def E0{a:Addr}{o:Obj}{ag:Array (Int×Value)}{a4:Nat}{t:SetTable}{i:Nat}{Q:Option (Value×Nat)->Shared->Prop}(ay:s.heap.get? a=some o)(O:mO w o ag a4 t)(hi:i<=ag.size)(h:Q ((fT w a ag a4)[i]?.map λe=>(e.2,slotAt w t (i+1))) s):wpAny (model prog w) A (setNext a (slotAt w t i) i a4) Q E s:=by
 unfold setNext;refine VW (W4 ay O.data (Tab.fits O.tab) ?_);dsimp only;unfold setsByText;refine VW (VW (Yh (wpAny_pure ?_)));cases hw:w.params.followText "set-order" with
 |true =>
  have g5:(model prog w).w.params.followText "set-order"=true:=hw;simp only[g5,WN];simp only[XI,V1,Wm];refine VW ?_;unfold setWalk;refine VW (W4 ay O.data (Tab.fits O.tab) ?_);dsimp only;unfold setsByText;refine VW (VW (Yh (wpAny_pure ?_)));simp only[g5,WN];refine VW (Yh (wpAny_pure ?_));have ak:fT w a ag a4=pickOrder (w.params.setOrder a a4) ag:=by unfold fT;rw[if_pos hw]
  have av:∀i,slotAt w t i=0:=λi=>by unfold slotAt;rw[if_pos hw]
  rw[ak]at h;refine wpAny_pure ?_;simp only[av]at h ⊢;exact h
 |false =>
  have g5:(model prog w).w.params.followText "set-order"=false:=hw;simp only[g5,V1,Wm];have wW:(!t.plain&&decide (ag.size>1))=false:=by rw[O.plain];rfl
  show wpAny (model prog w) A (if (!t.plain&&decide (ag.size>1))=true then _ else _) Q E s;rw[wW];simp only[V1,Wm];have Mo:t.led=true:=O.led.mpr hw;refine VW ?_;show wpAny (model prog w) A (if (!t.led&&!ag.isEmpty)=true then _ else pure ()) _ E s;rw[Mo];simp only[XK,Zb,V1,Wm];refine wpAny_pure ?_;rw[Hw O.tab hw hi];have ak:fT w a ag a4=ag:=by unfold fT;rw[if_neg (by rw[hw];decide)]
  rw[ak]at h;refine wpAny_pure ?_
  by_cases c:i<ag.size
  .have g1:ag[i]?=some ag[i]:=V4 c;have aE:i<t.place.size:=by rw[O.tab.eh];exact c
   have g2:t.place[i]?=some t.place[i]:=V4 aE;rw[g1]at h ⊢;rw[g2];have bL:slotAt w t (i+1)=t.place[i]+1:=by unfold slotAt;rw[if_neg (by rw[hw];decide)];simp[Array.getD,aE]
   rw[bL]at h;exact h
  .have g1:ag[i]?=none:=XU (by omega)
   rw[g1]at h ⊢;exact h
def next_item{it a:Addr}{o:Obj}{ag:Array (Int×Value)}{a4:Nat}{t:SetTable}{i:Nat}{x:Int×Value}{Q:Option Value->Shared->Prop}(ay:s.heap.get? a=some o)(O:mO w o ag a4 t)(hit:mK s.heap it a (slotAt w t i) i ag.size a4)(ah:(fT w a ag a4)[i]?=some x)(eL:∀h',mK h' it a (slotAt w t (i+1)) (i+1) ag.size a4->Heap.SameBut it s.heap h'->Q (some x.2) { s with heap:=h' }):wpAny (model prog w) A (pyNext (.ref it)) Q E s:=by
 obtain⟨nN,l7,wU,hU⟩:=id hit;have hsz:(fT w a ag a4).size=ag.size:=by have:=(o3 w a ag a4).length_eq;simpa using this
 have hi:i<=ag.size:=by rw[<- hsz];exact Yb (Wy.mp ah).1
 have en:it≠a:=by
  rintro rfl;rw[ay]at l7;cases l7;rw[O.data]at hU;cases hU
 unfold pyNext;refine VW (YV (Xi (name:=Str.ofString "__next__") hit.typeIs pk
  (W8 pk hit.typeIs AQ ?_ (zM _))))
 unfold Builtin.«set_iterator.__next__»;refine VW (m:=slotArgs _ _ _) (wpAny_pure ?_);refine VW (Zk l7 hU ?_);dsimp only;refine VW (Y5 ay O.data (Tab.fits O.tab) ?_);simp only[XI,V1,Wm];simp only[Int.toNat_natCast];refine VW (E0 ay O hi ?_);rw[ah];simp only[Option.map_some];have hx:=WM (Obj.mapFields (·.setIfInBounds 0 (rawInt (slotAt w t (i+1):Nat)))) l7 (by obtain⟨c,d,p8,b6⟩:=nN;simp only at hU;subst hU;rfl)
 refine VW (YA l7 hU (by simp) ?_)
 have jZ:(Obj.mapFields (·.setIfInBounds 0 (rawInt (slotAt w t (i+1):Nat))) nN).data=.fields #[.int (slotAt w t (i+1):Nat) 0,.int i 0,.ref a,.int ag.size 0,.int a4 0]:=by
  obtain⟨c,d,p8,b6⟩:=nN;simp only at hU;subst hU;rfl
 have sI:(Obj.mapFields (·.setIfInBounds 0 (rawInt (slotAt w t (i+1):Nat))) nN).cls=.type "set_iterator":=by
  obtain⟨c,d,p8,b6⟩:=nN;simp only at hU wU;subst hU;exact wU
 generalize Obj.mapFields (·.setIfInBounds 0 (rawInt (slotAt w t (i+1):Nat))) nN=mj at hx jZ sI
 refine VW (YA hx jZ (by simp) ?_)
 have qu:=WM (Obj.mapFields (·.setIfInBounds 1 (rawInt ((i:Int)+1)))) hx (by obtain⟨c,d,p8,b6⟩:=mj;simp only at jZ;subst jZ;rfl)
 refine wpAny_pure ?_;dsimp only;refine⟨_,rfl,wpAny_pure ?_⟩;refine eL _ ⟨_,qu,?_,?_⟩ ((WX ..).trans (WX ..))
 .obtain⟨c,d,p8,b6⟩:=mj;simp only at jZ sI;subst jZ;exact sI
 .obtain⟨c,d,p8,b6⟩:=mj;simp only at jZ sI;subst jZ;rfl
def next_end{it a:Addr}{o:Obj}{ag:Array (Int×Value)}{a4:Nat}{t:SetTable}{Q:Option Value->Shared->Prop}(cM:A.handled=none)(ay:s.heap.get? a=some o)(O:mO w o ag a4 t)(hit:mK s.heap it a (slotAt w t ag.size) ag.size ag.size a4)(eL:∀h',Heap.ExtBut it s.heap h'->Q none { s with heap:=h' }):wpAny (model prog w) A (pyNext (.ref it)) Q E s:=by
 obtain⟨nN,l7,wU,hU⟩:=id hit;have hsz:(fT w a ag a4).size=ag.size:=by have:=(o3 w a ag a4).length_eq;simpa using this
 unfold pyNext;refine VW (YV (Xi (name:=Str.ofString "__next__") hit.typeIs pk
  (W8 pk hit.typeIs AQ ?_ (zM _))))
 unfold Builtin.«set_iterator.__next__»;refine VW (m:=slotArgs _ _ _) (wpAny_pure ?_);refine VW (Zk l7 hU ?_);dsimp only;refine VW (Y5 ay O.data (Tab.fits O.tab) ?_);simp only[XI,V1,Wm];simp only[Int.toNat_natCast];refine VW (E0 ay O (VZ _) ?_);rw[XU (by omega)]
 simp only[Option.map_none];refine VW (YA l7 hU (by simp) ?_)
 show wpAny _ _ (newExc (.type "StopIteration") []>>=_) _ _ _;refine VW ?_;simp only[newExc,newTuple];refine VW (Wv ?_ (by size_fits))
 refine VW (m:=firstArgMember _ _) (wpAny_of_eq (a:=Value.none) (by first|rfl|(simp only[firstArgMember];rfl)) ?_)
 refine Wv ?_ (by size_fits)
 simp only[raiseNew];refine VW (wpAny_handled ?_);rw[show A.in1.handled=none from cM];refine VW (wpAny_pure (wpAny_throw ?_));refine VW (ZM (T:="StopIteration") (b:=true) ⟨_,Wc _ rfl,rfl⟩ isSubtype_stop ?_);exact wpAny_pure (eL _ (((WX ..).extBut.push _).push _))
def Ny{it a:Addr}{slot i n a4:Nat}{Q:Value->Shared->Prop}(hit:mK s.heap it a slot i n a4)(h:Q (.ref it) s):wpAny (model prog w) A (pyIter (.ref it)) Q E s:=by
 refine Zy hit.typeIs Fg (W8 Fg hit.typeIs JL ?_ (G3 _));show wpAny _ _ (ret (.ref it)) _ _ s;exact wpAny_pure ⟨_,rfl,"set_iterator",_,hit.typeIs,pk.lookup,h⟩
def Nz{a:Addr}{o:Obj}{ag:Array (Int×Value)}{a4:Nat}{t:SetTable}{Q:Value->Shared->Prop}(ay:s.heap.get? a=some o)(O:mO w o ag a4 t)(eL:Q (.ref s.heap.objs.size) { s with heap:=s.heap.push { cls:=.type "set_iterator",data:=.fields #[.int 0 0,.int 0 0,.ref a,.int ag.size 0,.int a4 0] } }):wpAny (model prog w) A (pyIter (.ref a)) Q E s:=by
 have c3:s.TypeIs (.ref a) "set":=⟨o,ay,O.ex.1⟩;refine Zy c3 Ff (W8 Ff c3 JK ?_ (G2 _));unfold Builtin.«frozenset.__iter__» Builtin.Frozenset.slot0 slotArgs;simp only[List.isEmpty_nil,XK,V1,↓reduceIte,bind_assoc,List.length_nil,XI];unfold Builtin.Frozenset.addrOf Builtin.Frozenset.sizeOf;simp only[pure_bind,bind_assoc];refine VW (Y5 ay O.data (Tab.fits O.tab) ?_);unfold setDrawn;simp only[bind_assoc];refine VW (W4 ay O.data (Tab.fits O.tab) ?_);unfold setsByText;simp only[bind_assoc];refine VW (Yh ?_);simp only[pure_bind];have wW:∀b:Bool,(!b&&(!t.plain&&decide (ag.size>1)))=false:=λb=>by rw[O.plain];simp
 show wpAny (model prog w) A.in1 (if (!(model prog w).w.params.followText "set-order"&&(!t.plain&&decide (ag.size>1)))=true then _ else _) _ _ s;rw[wW];simp only[V1,Wm,pure_bind];unfold setEpoch;simp only[bind_assoc,pure_bind];refine VW (W4 ay O.data (Tab.fits O.tab) ?_);dsimp only;refine VW (Wv (wpAny_pure ⟨_,rfl,"set_iterator",_,⟨_,Wc _ rfl,rfl⟩,pk.lookup,?_⟩));exact eL
def UM{A:Around}(cM:A.handled=none){I a:Addr}(en:a≠I){o:Obj}{ag:Array (Int×Value)}{a4:Nat}{t:SetTable}(O:mO w o ag a4 t):
  Walks prog w A I [I,a] [I] ag.size (λi v=>∃x,(fT w a ag a4)[i]?=some x/\v=x.2) (λi h=>mK h I a (slotAt w t i) i ag.size a4/\h.get? a=some o) where
 sub:=λb ae=>by simp at ae;simp[ae]
 frame:=λi h h' st aw=>⟨let ⟨bC,e,r⟩:=st.1;⟨bC,aw I (by simp) bC e,r⟩,aw a (by simp) o st.2⟩
 item:=λi s Q E hi st eL=>by
  have hsz:(fT w a ag a4).size=ag.size:=by have:=(o3 w a ag a4).length_eq;simpa using this
  have ah:(fT w a ag a4)[i]?=some (fT w a ag a4)[i]:=V4 (by omega)
  exact next_item st.2 O st.1 ah λh' aJ cK=>eL _ h' s.toks ⟨_,ah,rfl⟩ ⟨aJ,(cK.2 a en).trans st.2⟩ λb bC ae e=>cK.extBut b bC (λh=>ae (by simp[h])) e
 done:=λs Q E st eL=>next_end cM st.2 O st.1 λh' he=>eL h' s.toks λb bC ae e=>he b bC (λh=>ae (by simp[h])) e
 self:=λi s Q E st eL=>Ny st.1 eL
def Mh{r:Addr}{Q:Bool->Shared->Prop}(c3:s.TypeIs (.ref r) "set")(h:Q false s):wpAny (model prog w) A (Builtin.List.listLengthHint (.ref r)) Q E s:=by
 unfold Builtin.List.listLengthHint;refine VW (ZW c3 PySem.F.slot_set_len.lookup ?_);generalize B8:("set.__len__":String)=Nd
 wp_delta
 rw[show splitId Nd=some ("set","__len__") from by subst B8;decide +kernel]
 subst B8;refine VW (ZM (T:="set") (b:=true) c3 (by rw[Zj];kernel_rfl) ?_)
 refine wpAny_ite_split (λoC=>absurd oC (by decide)) (λ_=>?_)
 refine wpAny_ite_split (λ_=>?_) (λoC=>absurd (by decide +kernel) oC)
 refine VW (XR c3 ?_);exact wpAny_pure h
end
end Pv
end
section
namespace Pv
open PySem PySem.Spec PyProof.Rows PySem.W
section
variable{prog:Program}{w:World}{A:Around}{E:Value->Shared->Prop}{s:Shared}{it d:Addr}{bh:Obj}{ag:Array DictEntry}{i a4:Nat}
def I9{Q:Value->Shared->Prop}(ab:(d==sysModules)=false)(ay:s.heap.get? d=some bh)(ah:bh.ExactDict)(hd:bh.data=.dict ag a4)(eL:Q (.ref s.heap.objs.size) { s with heap:=s.heap.push { cls:=.type "dict_keyiterator",data:=.fields #[.ref d,.int 0 0,.int ag.size 0,.int a4 0] } }):wpAny (model prog w) A (pyIter (.ref d)) Q E s:=by
 have c3:s.TypeIs (.ref d) "dict":=⟨bh,ay,ah.1⟩;refine Zy c3 F.slot_dict_iter (W8 F.slot_dict_iter c3 F.entry_dict_iter ?_ (F.args_dict_iter_1 _));unfold Builtin.«dict.__iter__»;refine VW ?_;unfold Builtin.Dict.dictSlotNone;refine VW (wpAny_notOrdered_dict c3 ?_);show wpAny _ _ (pure (Value.ref d)) _ _ s;refine wpAny_pure ?_;show wpAny _ _ (Builtin.Dict.showsAll d>>=_) _ _ s;unfold Builtin.Dict.showsAll;rw[if_neg (by rw[ab];exact WA)]
 refine VW (wpAny_pure ?_);refine VW (Zz ay hd ?_);refine VW (Z1 ay hd ?_);refine VW (Wv (wpAny_pure ⟨_,rfl,"dict_keyiterator",_,⟨_,Wc _ rfl,rfl⟩,Xg.lookup,?_⟩));simpa[rawInt] using eL
def Ja{Q:Option Value->Shared->Prop}(hit:s.heap.IsKeyIter it d i ag.size a4)(qF:s.heap.get? d=some bh)(qr:bh.data=.dict ag a4)(cm:i<ag.size)(eL:∀h',h'.IsKeyIter it d (i+1) ag.size a4->Heap.SameBut it s.heap h'->Q (some ag[i].key) { s with heap:=h' }):wpAny (model prog w) A (pyNext (.ref it)) Q E s:=by
 obtain⟨o,ay,aj,hd⟩:=id hit;unfold pyNext;refine VW (YV (Xi (name:=Str.ofString "__next__") hit.typeIs Xg
  (W8 Xg hit.typeIs YZ ?_ (YN _))))
 refine VW (wpAny_pure ?_);refine VW ?_;refine VW ?_
 first|refine VW (Xt hit.typeIs (wpAny_pure ?_))|refine VW (XN hit.typeIs (wpAny_pure ?_))
 refine VW (Zk ay hd ?_);simp only[show Builtin.Dict_items.ownsTuple "dict_keyiterator"=false by decide,V1,Wm]
 show wpAny _ _ (if (Value.ref d==Value.none)=true then _ else _) _ _ s;rw[if_neg (show ¬((Value.ref d==Value.none)=true) from WA)];refine VW (wpAny_pure ?_);refine VW (Zz qF qr ?_);rw[if_neg (by simp)]
 refine VW (wpAny_pure ?_);refine VW (Z1 qF qr ?_);rw[if_neg (by simp)]
 refine wpAny_pure ?_;simp only[show ¬((i:Int)<0) from by omega,Wm,Int.toNat_natCast,V4 cm]
 refine VW ?_
 first|refine VW (Xt hit.typeIs (wpAny_pure ?_))|refine VW (XN hit.typeIs (wpAny_pure ?_))
 refine VW (wpAny_isOneOf_keyiter hit.typeIs ?_);show wpAny _ _ (setField (.ref it) 1 (rawInt ((i:Int)+1))>>=_) _ _ s;refine VW (YA ay hd (by simp) ?_)
 have Cb:(s.heap.update it (Obj.mapFields (·.setIfInBounds 1 (rawInt ((i:Int)+1))))).IsKeyIter it d (i+1) ag.size a4 :=
  ⟨_,WM _ ay (Obj.isFreed_of_fields (Obj.data_mapFields hd _)),(Obj.cls_mapFields ..).trans aj,by rw[Obj.data_mapFields hd];simp[rawInt]⟩
 refine VW (Xc ?_);refine VW (wpAny_isOneOf_keyiter (s:={ s with heap:=s.heap.update it (Obj.mapFields (·.setIfInBounds 1 (rawInt ((i:Int)+1)))) }) Cb.typeIs ?_)
 show wpAny _ _ (pure ag[i].key) _ _ _;exact wpAny_pure (wpAny_pure ⟨_,rfl,wpAny_pure (eL _ Cb (WX ..))⟩)
def I8{Q:Option Value->Shared->Prop}(cM:A.handled=none)(hit:s.heap.IsKeyIter it d ag.size ag.size a4)(qF:s.heap.get? d=some bh)(qr:bh.data=.dict ag a4)(eL:∀h',Heap.ExtBut it s.heap h'->Q none { s with heap:=h' }):wpAny (model prog w) A (pyNext (.ref it)) Q E s:=by
 obtain⟨o,ay,aj,hd⟩:=id hit;unfold pyNext;refine VW (YV (Xi (name:=Str.ofString "__next__") hit.typeIs Xg
  (W8 Xg hit.typeIs YZ ?_ (YN _))))
 refine VW (wpAny_pure ?_);refine VW ?_;refine VW ?_
 first|refine VW (Xt hit.typeIs (wpAny_pure ?_))|refine VW (XN hit.typeIs (wpAny_pure ?_))
 refine VW (Zk ay hd ?_);simp only[show Builtin.Dict_items.ownsTuple "dict_keyiterator"=false by decide,V1,Wm]
 show wpAny _ _ (if (Value.ref d==Value.none)=true then _ else _) _ _ s;rw[if_neg (show ¬((Value.ref d==Value.none)=true) from WA)];refine VW (wpAny_pure ?_);refine VW (Zz qF qr ?_);rw[if_neg (by simp)]
 refine VW (wpAny_pure ?_);refine VW (Z1 qF qr ?_);rw[if_neg (by simp)]
 refine wpAny_pure ?_;simp only[show ¬((ag.size:Int)<0) from by omega,Wm,Int.toNat_natCast,XU (VZ ag.size)]
 refine VW ?_
 first|refine VW (Xt hit.typeIs (wpAny_pure ?_))|refine VW (XN hit.typeIs (wpAny_pure ?_))
 show wpAny _ _ (setField (.ref it) 0 .none>>=_) _ _ s;refine VW (YA ay hd (by simp) ?_)
 show wpAny _ _ (newExc (.type "StopIteration") []>>=_) _ _ _;refine VW ?_;simp only[newExc,newTuple];refine VW (Wv ?_ (by size_fits))
 refine VW (m:=firstArgMember _ _) (wpAny_of_eq (a:=Value.none) (by first|rfl|(simp only[firstArgMember];rfl)) ?_)
 refine Wv ?_ (by size_fits)
 simp only[raiseNew];refine VW (wpAny_handled ?_);rw[show A.in1.handled=none from cM];refine VW (wpAny_pure (wpAny_throw ?_));refine VW (ZM (T:="StopIteration") (b:=true) ⟨_,Wc _ rfl,rfl⟩ isSubtype_stop ?_);exact wpAny_pure (eL _ (((WX ..).extBut.push _).push _))
end
section
variable{prog:Program}{w:World}{A:Around}{d:Addr}{bh:Obj}{ag:Array DictEntry}{a4:Nat}
end
end Pv
end
section
namespace Pv
open PySem PySem.Spec PyProof.Rows fC PySem.SetTable
section
variable{prog:Program}{w:World}{A:Around}{E:Value->Shared->Prop}{s:Shared}
def Ir {l : Addr} {af : List Value} {Q : List Value -> Shared -> Prop} (au : s.heap.IsTuple l af.toArray)
    (h : Q af { s with heap := (s.heap.push (seqObj "list" #[] 0)).update s.heap.objs.size (Obj.mapSeq (· ++ af.toArray)) }) (hsz : af.length <= sizeLine) :
    wpAny (model prog w) A (collect (.ref l)) Q E s := by
  obtain ⟨o, ay, aj, n, hd⟩ := id au
  unfold collect
  refine VW (Zi (Xf entry_proto_collect' ?_))
  show wpAny _ _ (do again (.builtin "list.__iadd__" ⟨[<- newList [], .ref l], []⟩)) _ _ s
  refine VW (Z9 (wpAny_pure ⟨Code.quiet_builtin _ (by decide +kernel), Xf entry_list_iadd' ?_⟩))
  show wpAny _ _ (Builtin.List.listExtendWith (.ref s.heap.objs.size) (.ref l) (.ref s.heap.objs.size)) _ _ { s with heap := s.heap.push (seqObj "list" #[] 0) }
  unfold Builtin.List.listExtendWith
  have du : (s.heap.push (seqObj "list" #[] 0)).get? l = some o := VY _ ay
  refine VW (XR (T := "tuple") ⟨o, du, aj⟩ ?_)
  have aV : (Value.type "tuple" == Value.type "tuple") = true := by rfl
  rw [if_pos (by rw [aV]; simp)]
  refine VW (listItems_at du hd ?_)
  refine VW (listItems_at (xs := #[]) (n := 0) (Wc _ rfl) rfl ?_)
  rw [if_neg (by simp)]
  refine VW (ZH (xs := #[]) (n := 0) (Wc _ rfl) rfl ?_ (V6 _) (by show (#[] ++ af.toArray).size <= sizeLine + 1; simp only [Xv, V9, List.length_nil]; omega))
  refine wpAny_pure ?_
  show wpAny (model prog w) A (do
      let o <- load s.heap.objs.size
      match o.data with
      | .seq xs _ => pure xs.toList
      | _ => unsupported "internal:collect") Q E { s with heap := (s.heap.push (seqObj "list" #[] 0)).update s.heap.objs.size (Obj.mapSeq (· ++ af.toArray)) }
  refine VW (wpAny_load (get?_update_seq (Wc _ rfl) _) ?_)
  show wpAny _ _ (pure ((#[] : Array Value) ++ af.toArray).toList) Q E _
  rw [show ((#[] : Array Value) ++ af.toArray).toList = af by simp]
  exact wpAny_pure h
noncomputable def rR(s s':Shared):Prop:=(∀b o,s.heap.get? b=some o->s'.heap.get? b=some o)/\s'.gens=s.gens/\s'.drawn=s.drawn/\s'.os=s.os
def Ip{r:Addr}{a b c:Int}{t u v:Tok}{n:Nat}{Q:List Value->Shared->Prop}(cM:A.handled=none)(a9:IsRange s.heap r a b c t u v)(MU:Builtin.Range.small a b c=true)(az:Builtin.Range.rangeSize a b c=n)(hlen:n<=2 ^ 24)(eL:∀s' acc,rR s s'->ItemsOf (λi v=>∃t,v=.int (a+i*c) t) acc n->Q acc.toList s'):wpAny (model prog w) A (collect (.ref r)) Q E s:=by
 unfold collect;refine VW (Zi (Xf F.entry_proto_collect ?_));rw[Xk F.plain_proto_collect _];show wpAny _ A.in1 (newList []>>=λl=>again (.builtin "list.__iadd__" ⟨[l,.ref r],[]⟩)) _ _ s
 refine VW (Wv ?_);refine wpAny_pure ⟨YU YB _,Xf F.entry_list_iadd ?_⟩;rw[Xk YB _];show wpAny _ A.in1 (Builtin.List.listExtendWith (.ref s.heap.objs.size) (.ref r) (.ref s.heap.objs.size)) _ _ _;have aX:(s.heap.push { cls:=.type "list",data:=.seq ([]:List Value).toArray }).get? s.heap.objs.size=some { cls:=.type "list",data:=.seq ([]:List Value).toArray }:=Wc _ rfl;refine wpAny_extend_range (A:=A) (R:=wants _ E) (s:={ s with heap:=s.heap.push { cls:=.type "list",data:=.seq ([]:List Value).toArray } }) cM (VY _ a9) MU az hlen s.heap.objs.size (.ref s.heap.objs.size) 0 aX λh' tk uT cy aw jX hS=>?_
 show wpAny _ A (load s.heap.objs.size>>=_) _ _ _;refine VW (wpAny_load jX ?_);exact wpAny_pure (eL _ uT ⟨λb o e=>aw b o (Wn (Wb e)) (VY _ e),rfl,rfl,rfl⟩ hS)
def Iq{a:Addr}{o:Obj}{ag:Array (Int×Value)}{a4:Nat}{t:SetTable}{Q:List Value->Shared->Prop}(cM:A.handled=none)(ay:s.heap.get? a=some o)(O:mO w o ag a4 t)(az:ag.size<=sizeLine)(eL:∀s' acc,rR s s'->ItemsOf (λi v=>∃x,(fT w a ag a4)[i]?=some x/\v=x.2) acc ag.size->Q acc.toList s'):wpAny (model prog w) A (collect (.ref a)) Q E s:=by
 have cm:a<s.heap.objs.size:=Wb ay;unfold collect;refine VW (Zi (Xf F.entry_proto_collect ?_));rw[Xk F.plain_proto_collect _];show wpAny _ A.in1 (newList []>>=λl=>again (.builtin "list.__iadd__" ⟨[l,.ref a],[]⟩)) _ _ s
 refine VW (Wv ?_);refine wpAny_pure ⟨YU YB _,Xf F.entry_list_iadd ?_⟩;rw[Xk YB _];show wpAny _ A.in1 (Builtin.List.listExtendWith (.ref s.heap.objs.size) (.ref a) (.ref s.heap.objs.size)) _ _ _;unfold Builtin.List.listExtendWith;have nq:(s.heap.push { cls:=.type "list",data:=.seq ([]:List Value).toArray }).get? a=some o:=VY _ ay;refine VW (XR (T:="set") ⟨o,nq,O.ex.1⟩ ?_);have J:Builtin.List.listSameRef (.ref s.heap.objs.size) (.ref a)=false:=by
  have en:s.heap.objs.size≠a:=Xr (Wn cm);simp[Builtin.List.listSameRef,en]
 have aa:(Value.type "set"==Value.type "list")=false:=by decide
 have aL:(Value.type "set"==Value.type "tuple")=false:=by decide
 simp only[J,aa,aL,Bool.or_false,V1,Wm];refine VW (Nz (s:={ s with heap:=s.heap.push { cls:=.type "list",data:=.seq ([]:List Value).toArray } }) nq O ?_);generalize gu:s.heap.push { cls:=.type "list",data:=.seq ([]:List Value).toArray }=H at *;have wI:H.objs.size=s.heap.objs.size+1:=by rw[<- gu,Z5]
 have Mr:a<H.objs.size:=by rw[wI];exact Nat.lt_succ_of_lt cm
 refine VW (Xc (Mh ⟨o,VY _ nq,O.ex.1⟩ ?_));rw[if_pos (by decide)]
 have en:a≠H.objs.size:=Wn Mr;have BW:s.heap.objs.size≠H.objs.size:=by rw[wI];exact Wn (XQ _)
 have BX:s.heap.objs.size≠a:=Xr (Wn cm);have oB:s.heap.objs.size∉[H.objs.size,a]:=λhm=>by
  rcases V2.mp hm with e|e
  .exact BW e
  .exact BX (Ws.mp e)
 generalize sF:H.push { cls:=.type "set_iterator",data:=.fields #[.int 0 0,.int 0 0,.ref a,.int ag.size 0,.int a4 0] }=cn;have aX:cn.get? s.heap.objs.size=some { cls:=.type "list",data:=.seq ([]:List Value).toArray }:=sF▸VY _ (gu▸Wc _ rfl);have MB:cn.get? a=some o:=sF▸VY _ nq;have L9:cn.get? H.objs.size=some { cls:=.type "set_iterator",data:=.fields #[.int 0 0,.int 0 0,.ref a,.int ag.size 0,.int a4 0] }:=sF▸Wc _ rfl;have L7:A.in1.handled=none:=cM;have st0:slotAt w t 0=0:=by unfold slotAt;split<;>rfl
 refine VW (Ya ?_);refine VW ?_;show wpAny _ A.in1 (updateSeq s.heap.objs.size (·.push .none)>>=λ_=>updateSeq s.heap.objs.size (·.pop)) _ _ _
 refine VW (Z2 aX rfl ?_);have BZ:=WM (Obj.mapSeq (·.push Value.none)) aX rfl
 refine Z2 BZ rfl ?_;have LK:=WM (Obj.mapSeq (·.pop)) BZ rfl
 have ya:∀b bX,b≠s.heap.objs.size->cn.get? b=some bX->((cn.update s.heap.objs.size (Obj.mapSeq (·.push Value.none))).update s.heap.objs.size (Obj.mapSeq (·.pop))).get? b=some bX :=
  λb bX ae e=>(W9 _ _ (Xr ae)).trans ((W9 _ _ (Xr ae)).trans e)
 refine wpAny_pure ⟨YU F.plain_extend_loop _,codeAny_extend_loopS (UM (prog:=prog) (A:=A.in1) L7 en O).toS az _ oB _ ag.size 0 _ _ _ rfl (V6 _) ⟨⟨_,ya _ _ (Xr BW) L9,rfl,by rw[st0];rfl⟩,ya _ _ (Xr BX) MB⟩ LK (ItemsOf.nil _) λs' uT cy hm jX hS=>?_⟩
 show wpAny _ A (load s.heap.objs.size>>=_) _ _ s';refine VW (wpAny_load jX ?_);refine wpAny_pure (eL s' uT ⟨λb bX e=>hm.heap b bX (λae=>?_) (ya b bX (Wn (Wb e)) (sF▸VY _ (gu▸VY _ e))),hm.gens,hm.drawn,hm.os⟩ hS)
 have sQ:=Wb e;rcases V2.mp ae with h|h
 .rw[h]at sQ;exact Xz _ sQ
 .rw[Ws.mp h,wI]at sQ;exact absurd sQ (Nat.not_lt.mpr (Nat.le_succ _))
end
end Pv
end
section
namespace Tm
open PySem PyProof.Rows
noncomputable def hP:Bool->Keyed->Array Keyed->Nat->Nat->Nat->StateT SortSt Sem (Option Nat):=sortPriv% PySem.Builtin.gallop
noncomputable def Hl(left:Bool)(key x:Keyed):StateT SortSt Sem (Option Bool):=if left then lt' x key else do return (<- lt' key x).map (!·)
noncomputable def je(left:Bool)(key:Keyed)(arr:Array Keyed)(j:Nat):StateT SortSt Sem (Option Bool):=do
 let x <- elem' arr j
 Hl left key x
def Lj(left:Bool)(key:Keyed)(arr:Array Keyed)(b n h:Nat):hP left key arr b n h=(do
 let mut u:=0
 let mut v:=1
 let mut lo:=0
 let mut hi:=0
 let some r <- je left key arr (b+h)|return none
 if r then
  let iv:=n-h
  for _ in [0:n] do
   if v>=iv then break
   let some q <- je left key arr (b+(h+v))|return none
   if !q then break
   u:=v
   v:=2*v+1
  lo:=h+u+1
  hi:=h+min v iv
 else
  let iv:=h+1
  for _ in [0:n] do
   if v>=iv then break
   let some q <- je left key arr (b+(h-v))|return none
   if q then break
   u:=v
   v:=2*v+1
  lo:=h+1-min v iv
  hi:=h-u
 for _ in [0:n] do
  if lo>=hi then break
  let m:=lo+(hi-lo) / 2
  let some q <- je left key arr (b+m)|return none
  if q then lo:=m+1 else hi:=m
 return some hi):=rfl
end Tm
end
section
namespace Tm
open PySem PyProof.Rows
noncomputable def bs(left:Bool)(key:Keyed)(arr:Array Keyed)(b n lo hi:Nat):StateT SortSt Sem (Option Nat):=do
 let mut lo:=lo
 let mut hi:=hi
 for _ in [0:n] do
  if lo>=hi then break
  let m:=lo+(hi-lo) / 2
  let some q <- je left key arr (b+m)|return none
  if q then lo:=m+1 else hi:=m
 return some hi
section
variable{M:Model}{A:Around}{E:Value->Shared->Prop}{s:Shared}{left:Bool}{key:Keyed}{arr:Array Keyed}{b n h:Nat}{p:Nat->Bool}{st:SortSt}{Q:Option Nat->SortSt->Prop}
def z6 (aE : ∀ j, j < n -> ∀ Q : Option Bool -> SortSt -> Prop, Q (some (p j)) st -> wpS M A E s (je left key arr (b + j)) Q st) (mono : ∀ i j, i <= j -> j < n -> p j = true -> p i = true)
    (aK : ∀ k, k <= n -> (∀ i, i < k -> p i = true) -> (∀ i, k <= i -> i < n -> p i = false) -> Q (some k) st) {lo hi : Nat} (J : lo <= hi) (aa : hi <= n) (au : ∀ i, i < lo -> p i = true) (a9 : ∀ i, hi <= i -> i < n -> p i = false) : wpS M A E s (bs left key arr b n lo hi) Q st := by
  unfold bs
  refine V3 (Xo (WT (I := fun x (c : Option (Option Nat) × Nat × Nat) aJ => aJ = st /\ c.1 = none /\ c.2.1 <= c.2.2 /\ c.2.2 <= n /\ (∀ i, i < c.2.1 -> p i = true) /\ (∀ i, c.2.2 <= i -> i < n -> p i = false) /\ c.2.2 - c.2.1 + x <= n)
    (Q := fun (c : Option (Option Nat) × Nat × Nat) aJ => aJ = st /\ c.1 = none /\ c.2.2 <= n /\ (∀ i, i < c.2.2 -> p i = true) /\ ∀ i, c.2.2 <= i -> i < n -> p i = false) ?step ?fin ⟨rfl, rfl, J, aa, au, a9, by show hi - lo + 0 <= n; omega⟩) ?post)
  case step =>
    rintro x ⟨o, lo, hi⟩ aJ _ ah ⟨rfl, rfl, a0, aQ, bq, bY, gI⟩
    dsimp only at a0 aQ bq bY gI ⊢
    by_cases c : lo >= hi
    · rw [if_pos c]
      have e : lo = hi := by omega
      subst e
      exact V7 ⟨rfl, rfl, aQ, bq, bY⟩
    · rw [if_neg c]
      have hm : lo + (hi - lo) / 2 < hi := by omega
      refine V3 (aE _ (by omega) _ ?_)
      dsimp only
      cases e : p (lo + (hi - lo) / 2) with
      | true =>
        rw [if_pos rfl]
        refine V7 ⟨rfl, rfl, by dsimp only; omega, aQ, fun i dX => ?_, bY, by dsimp only; omega⟩
        exact mono i _ (by dsimp only at dX; omega) (by omega) e
      | false =>
        rw [if_neg (by simp)]
        refine V7 ⟨rfl, rfl, by dsimp only; omega, by dsimp only; omega, bq, fun i dX fR => ?_, by dsimp only; omega⟩
        cases q : p i with
        | false => rfl
        | true => rw [mono _ i dX fR q] at e; cases e
  case fin =>
    rintro ⟨o, lo, hi⟩ aJ ⟨rfl, rfl, a0, aQ, bq, bY, gI⟩
    dsimp only at a0 aQ bq bY gI ⊢
    have e : lo = hi := by rw [WD (V6 n)] at gI; omega
    subst e
    exact ⟨rfl, rfl, aQ, bq, bY⟩
  case post =>
    rintro ⟨o, lo, hi⟩ aJ ⟨rfl, rfl, aQ, bq, bY⟩
    exact V7 (aK hi aQ bq bY)
def BB (aE : ∀ j, j < n -> ∀ Q : Option Bool -> SortSt -> Prop, Q (some (p j)) st -> wpS M A E s (je left key arr (b + j)) Q st)
    (cM : h < n) (mono : ∀ i j, i <= j -> j < n -> p j = true -> p i = true) (aK : ∀ k, k <= n -> (∀ i, i < k -> p i = true) -> (∀ i, k <= i -> i < n -> p i = false) -> Q (some k) st) : wpS M A E s (hP left key arr b n h) Q st := by
  have zI : ∀ i j, i <= j -> j < n -> p i = false -> p j = false := fun i j qx aB hi => by
    cases q : p j with
    | false => rfl
    | true => rw [mono i j qx aB q] at hi; cases hi
  rw [Lj]
  refine V3 (aE h cM _ ?_)
  cases e : p h with
  | true =>
    dsimp only
    rw [if_pos rfl]
    refine V3 (Xo (WT (I := fun x (c : Option (Option Nat) × Nat × Nat) aJ => aJ = st /\ c.1 = none /\ c.2.1 < c.2.2 /\ h + c.2.1 < n /\ p (h + c.2.1) = true /\ x + 1 <= c.2.2)
      (Q := fun (c : Option (Option Nat) × Nat × Nat) aJ => aJ = st /\ c.1 = none /\ c.2.1 < c.2.2 /\ h + c.2.1 < n /\ p (h + c.2.1) = true /\ (n - h <= c.2.2 \/ p (h + c.2.2) = false)) ?step ?fin ⟨rfl, rfl, Nat.zero_lt_one, cM, e, VZ _⟩) ?post)
    case step =>
      rintro x ⟨o, u, v⟩ aJ _ ah ⟨rfl, rfl, a0, aQ, bq, bY⟩
      dsimp only at a0 aQ bq bY ⊢
      by_cases c : v >= n - h
      · rw [if_pos c]; exact V7 ⟨rfl, rfl, a0, aQ, bq, .inl c⟩
      · rw [if_neg c]
        refine V3 (aE _ (by omega) _ ?_)
        dsimp only
        cases bl : p (h + v) with
        | true => rw [if_neg (by simp)]; exact V7 ⟨rfl, rfl, by dsimp only; omega, by dsimp only; omega, bl, by dsimp only; omega⟩
        | false => rw [if_pos (by simp)]; exact V7 ⟨rfl, rfl, a0, aQ, bq, .inr bl⟩
    case fin =>
      rintro ⟨o, u, v⟩ aJ ⟨rfl, rfl, a0, aQ, bq, bY⟩
      rw [WD (V6 n)] at bY
      exact ⟨rfl, rfl, a0, aQ, bq, .inl (by dsimp only at bY ⊢; omega)⟩
    case post =>
      rintro ⟨o, u, v⟩ aJ ⟨rfl, rfl, a0, aQ, bq, bY⟩
      dsimp only at a0 aQ bq bY ⊢
      refine z6 (p := p) aE mono aK (lo := h + u + 1) (hi := h + min v (n - h)) (by omega) (by omega) (fun i hi => mono i _ (by omega) aQ bq) fun i hi fR => ?_
      rcases bY with bY | bY
      · omega
      · by_cases c : v <= n - h
        · exact zI _ i (by omega) fR bY
        · omega
  | false =>
    dsimp only
    rw [if_neg (by simp)]
    refine V3 (Xo (WT (I := fun x (c : Option (Option Nat) × Nat × Nat) aJ => aJ = st /\ c.1 = none /\ c.2.1 < c.2.2 /\ c.2.1 <= h /\ p (h - c.2.1) = false /\ x + 1 <= c.2.2)
      (Q := fun (c : Option (Option Nat) × Nat × Nat) aJ => aJ = st /\ c.1 = none /\ c.2.1 < c.2.2 /\ c.2.1 <= h /\ p (h - c.2.1) = false /\ (h + 1 <= c.2.2 \/ p (h - c.2.2) = true)) ?step ?fin ⟨rfl, rfl, Nat.zero_lt_one, V6 _, e, VZ _⟩) ?post)
    case step =>
      rintro x ⟨o, u, v⟩ aJ _ ah ⟨rfl, rfl, a0, aQ, bq, bY⟩
      dsimp only at a0 aQ bq bY ⊢
      by_cases c : v >= h + 1
      · rw [if_pos c]; exact V7 ⟨rfl, rfl, a0, aQ, bq, .inl c⟩
      · rw [if_neg c]
        refine V3 (aE _ (by omega) _ ?_)
        dsimp only
        cases bl : p (h - v) with
        | true => rw [if_pos rfl]; exact V7 ⟨rfl, rfl, a0, aQ, bq, .inr bl⟩
        | false => rw [if_neg (by simp)]; exact V7 ⟨rfl, rfl, by dsimp only; omega, by dsimp only; omega, bl, by dsimp only; omega⟩
    case fin =>
      rintro ⟨o, u, v⟩ aJ ⟨rfl, rfl, a0, aQ, bq, bY⟩
      rw [WD (V6 n)] at bY
      exact ⟨rfl, rfl, a0, aQ, bq, .inl (by dsimp only at bY ⊢; omega)⟩
    case post =>
      rintro ⟨o, u, v⟩ aJ ⟨rfl, rfl, a0, aQ, bq, bY⟩
      dsimp only at a0 aQ bq bY ⊢
      refine z6 (p := p) aE mono aK (lo := h + 1 - min v (h + 1)) (hi := h - u) (by omega) (by omega) (fun i hi => ?_) fun i hi fR => zI _ i hi fR bq
      rcases bY with bY | bY
      · omega
      · by_cases c : v <= h + 1
        · exact mono i _ (by omega) (by omega) bY
        · omega
end
end Tm
end
section
namespace Tm
open PySem PyProof.Rows
noncomputable def xT:Array Keyed->Array Keyed->StateT SortSt Sem (Array Keyed):=sortPriv% PySem.Builtin.mergeLo
noncomputable abbrev setG(st:SortSt)(g:Nat):SortSt:=SortSt.mk' (kindOf st) (arrOf st) (pendingOf st) g (failedOf st)
def OO (a b : Array Keyed) : xT a b = (do
  rule "list.sort.merge-lo"
  let nX := a.size + b.size
  let fin (r : Array Keyed) (i j : Nat) := r ++ a.extract i a.size ++ b.extract j b.size
  let fla (r : Array Keyed) (i j : Nat) := r ++ b.extract j b.size ++ a.extract i a.size
  let mut r : Array Keyed := #[<- elem' b 0]
  let mut i := 0
  let mut j := 1
  if j == b.size then return fin r i j
  if i + 1 == a.size then return fla r i j
  let mut aF := gallopOf (<- get)
  for _ in [0:nX] do
    let mut ca := 0
    let mut cf := 0
    for _ in [0:nX] do
      let some w <- lt' (<- elem' b j) (<- elem' a i) | return fin r i j
      if w then
        r := r.push (<- elem' b j); j := j + 1; cf := cf + 1; ca := 0
        if j == b.size then return fin r i j
        if cf >= aF then break
      else
        r := r.push (<- elem' a i); i := i + 1; ca := ca + 1; cf := 0
        if i + 1 == a.size then return fla r i j
        if ca >= aF then break
    rule "list.sort.gallop"
    aF := aF + 1
    for _ in [0:nX] do
      if aF > 1 then aF := aF - 1
      modify fun s => setG s aF
      let some k <- hP false (<- elem' b j) a i (a.size - i) 0 | return fin r i j
      ca := k
      if k > 0 then
        r := r ++ a.extract i (i + k); i := i + k
        if i + 1 == a.size then return fla r i j
        if i == a.size then return fin r i j
      r := r.push (<- elem' b j); j := j + 1
      if j == b.size then return fin r i j
      let some k <- hP true (<- elem' a i) b j (b.size - j) 0 | return fin r i j
      cf := k
      if k > 0 then
        r := r ++ b.extract j (j + k); j := j + k
        if j == b.size then return fin r i j
      r := r.push (<- elem' a i); i := i + 1
      if i + 1 == a.size then return fla r i j
      if ca < 7 && cf < 7 then break
    aF := aF + 1
    modify fun s => setG s aF
  unsupported "internal:list.sort.merge-bound") := rfl
structure eC(M:Model)(A:Around)(E:Value->Shared->Prop)(s:Shared)(κ:SortKind)(S:Keyed->Prop)(lt:Keyed->Keyed->Bool):Prop where
 ask:∀(x y:Keyed)(st:SortSt)(Q:Option Bool->SortSt->Prop),S x->S y->kindOf st=κ->Q (some (lt x y)) st->wpS M A E s (lt' x y) Q st
 ho:∀x y,S x->S y->lt x y=true->lt y x=false
 d0:∀x y z,S x->S y->S z->lt y x=false->lt z y=false->lt z x=false
noncomputable abbrev le(lt:Keyed->Keyed->Bool)(x y:Keyed):Prop:=lt y x=false
noncomputable def bW(st aJ:SortSt):Prop:=kindOf aJ=kindOf st/\arrOf aJ=arrOf st/\pendingOf aJ=pendingOf st/\failedOf aJ=failedOf st
def bW.refl(st:SortSt):bW st st:=⟨rfl,rfl,rfl,rfl⟩
def bW.set{st aJ:SortSt}(h:bW st aJ)(g:Nat):bW st (setG aJ g):=h
section
variable{M:Model}{A:Around}{E:Value->Shared->Prop}{s:Shared}{κ:SortKind}{S:Keyed->Prop}{lt:Keyed->Keyed->Bool}{a b:Array Keyed}{st aJ:SortSt}
def ff{i:Nat}{Q:Keyed->SortSt->Prop}(h:i<a.size)(q:Q a[i] st):wpS M A E s (elem' a i) Q st:=by
 rw[elem'_eq,V4 h];exact V7 q
def Hx(O:eC M A E s κ S lt)(aw:kindOf st=κ){key:Keyed}{j:Nat}(h:j<a.size)(ab:S key)(aA:S a[j]){Q:Option Bool->SortSt->Prop}(q:Q (some (!lt key a[j])) st):wpS M A E s (je false key a j) Q st:=by
 unfold je;refine V3 (ff h ?_);show wpS M A E s (do return (<- lt' key a[j]).map (!·)) Q st
 exact V3 (O.ask _ _ _ _ ab aA aw (V7 q))
def Hy(O:eC M A E s κ S lt)(aw:kindOf st=κ){key:Keyed}{j:Nat}(h:j<a.size)(ab:S key)(aA:S a[j]){Q:Option Bool->SortSt->Prop}(q:Q (some (lt a[j] key)) st):wpS M A E s (je true key a j) Q st:=by
 unfold je;refine V3 (ff h ?_);show wpS M A E s (lt' a[j] key) Q st;exact O.ask _ _ _ _ aA ab aw q
noncomputable def hl(lt:Keyed->Keyed->Bool)(a:Array Keyed)(i n:Nat):Prop:=∀x y (ah:x<a.size) (aC:y<a.size),i<=x->x<=y->y<i+n->le lt a[x] a[y]
def wo(O:eC M A E s κ S lt)(aw:kindOf st=κ){key:Keyed}{i n h:Nat}{Q:Option Nat->SortSt->Prop}(aX:∀x (ah:x<a.size),S a[x])(ab:S key)(az:i+n<=a.size)(cM:h<n)(xg:hl lt a i n)(aK:∀k,k<=n->(∀x (ah:x<a.size),i<=x->x<i+k->le lt a[x] key)->(∀x (ah:x<a.size),i+k<=x->x<i+n->lt key a[x]=true)->Q (some k) st):wpS M A E s (hP false key a i n h) Q st:=by
 refine BB (p:=λx=>!lt key (a.getD (i+x) key)) (λj aB Q q=>?_) cM (λx y hA aC q=>?_) λk aw J aa=>?_
 .have fF:i+j<a.size:=by omega
  refine Hx O aw fF ab (aX _ fF) ?_;simp only[Array.getD,fF,ZA]at q;exact q
 .have ny:i+x<a.size:=by omega
  have nz:i+y<a.size:=by omega
  simp only[Array.getD,ny,nz,ZA,WH,WV]at q ⊢;exact O.d0 _ _ _ (aX _ ny) (aX _ nz) ab (xg _ _ ny nz (by omega) (by omega) (by omega)) q
 .refine aK k aw (λx ah bU cJ=>?_) λx ah bU cJ=>?_
  .have:=J (x-i) (by omega)
   have e:i+(x-i)=x:=by omega
   simp only[e,Array.getD,ah,ZA,WH,WV]at this;exact this
  .have:=aa (x-i) (by omega) (by omega)
   have e:i+(x-i)=x:=by omega
   simp only[e,Array.getD,ah,ZA,Bool.not_eq_false',WV]at this;exact this
def wq(O:eC M A E s κ S lt)(aw:kindOf st=κ){key:Keyed}{i n h:Nat}{Q:Option Nat->SortSt->Prop}(aX:∀x (ah:x<a.size),S a[x])(ab:S key)(az:i+n<=a.size)(cM:h<n)(xg:hl lt a i n)(aK:∀k,k<=n->(∀x (ah:x<a.size),i<=x->x<i+k->lt a[x] key=true)->(∀x (ah:x<a.size),i+k<=x->x<i+n->le lt key a[x])->Q (some k) st):wpS M A E s (hP true key a i n h) Q st:=by
 refine BB (p:=λx=>lt (a.getD (i+x) key) key) (λj aB Q q=>?_) cM (λx y hA aC q=>?_) λk aw J aa=>?_
 .have fF:i+j<a.size:=by omega
  refine Hy O aw fF ab (aX _ fF) ?_;simp only[Array.getD,fF,ZA]at q;exact q
 .have ny:i+x<a.size:=by omega
  have nz:i+y<a.size:=by omega
  simp only[Array.getD,ny,nz,ZA,WV]at q ⊢;cases e:lt a[i+x] key with
  |true=>rfl
  |false=>rw[O.d0 _ _ _ ab (aX _ ny) (aX _ nz) e (xg _ _ ny nz (by omega) (by omega) (by omega))]at q;cases q
 .refine aK k aw (λx ah bU cJ=>?_) λx ah bU cJ=>?_
  .have:=J (x-i) (by omega)
   have e:i+(x-i)=x:=by omega
   simp only[e,Array.getD,ah,ZA,WV]at this;exact this
  .have:=aa (x-i) (by omega) (by omega)
   have e:i+(x-i)=x:=by omega
   simp only[e,Array.getD,ah,ZA,WV]at this;exact this
end
end Tm
end
section
namespace Tm
open PySem PyProof.Rows
structure dM(lt:Keyed->Keyed->Bool)(a b r:List Keyed)(i j:Nat):Prop where
 perm:(r++(a.drop i++b.drop j)).Perm (a++b)
 bZ:(r++a.drop i).Pairwise (le lt)
 c7:(r++b.drop j).Pairwise (le lt)
noncomputable def eZ(lt:Keyed->Keyed->Bool)(a b r:List Keyed):Prop:=r.Perm (a++b)/\r.Pairwise (le lt)
section
variable{lt:Keyed->Keyed->Bool}{a b r:List Keyed}{i j k:Nat}
def dM.rI(h:dM lt a b r i j)(k:Nat)(au:∀x∈(a.drop i).take k,∀y∈b.drop j,le lt x y):dM lt a b (r++(a.drop i).take k) (i+k) j:=by
 have e:a.drop i=(a.drop i).take k++a.drop (i+k):=by rw[<- List.drop_drop,WZ]
 refine⟨?_,?_,?_⟩
 .rw[Wa,<- Wa ((a.drop i).take k),<- e];exact h.perm
 .rw[Wa,<- e];exact h.bZ
 .have ae:=Wd.mp h.c7;have aA:=Wd.mp h.bZ;rw[e]at aA;have wM:=Wd.mp aA.2.1;rw[Wa];refine Wd.mpr ⟨ae.1,Wd.mpr ⟨wM.1,ae.2.1,au⟩,λx ah y aC=>?_⟩
  rcases Wi.mp aC with aC|aC
  .exact aA.2.2 x ah y (List.mem_append_left _ aC)
  .exact ae.2.2 x ah y aC
def dM.rJ(h:dM lt a b r i j)(k:Nat)(au:∀x∈(b.drop j).take k,∀y∈a.drop i,le lt x y):dM lt a b (r++(b.drop j).take k) i (j+k):=by
 have e:b.drop j=(b.drop j).take k++b.drop (j+k):=by rw[<- List.drop_drop,WZ]
 refine⟨?_,?_,?_⟩
 .have bj:(r++(b.drop j).take k++(a.drop i++b.drop (j+k))).Perm (r++(a.drop i++b.drop j)):=by
   rw[Wa];refine XC r ?_;rw[<- Wa]
   conv=>rhs;rw[e,<- Wa]
   exact XX _ X5
  exact bj.trans h.perm
 .have aA:=Wd.mp h.bZ;have ae:=Wd.mp h.c7;rw[e]at ae;have jn:=Wd.mp ae.2.1;rw[Wa];refine Wd.mpr ⟨aA.1,Wd.mpr ⟨jn.1,aA.2.1,au⟩,λx ah y aC=>?_⟩
  rcases Wi.mp aC with aC|aC
  .exact ae.2.2 x ah y (List.mem_append_left _ aC)
  .exact aA.2.2 x ah y aC
 .rw[Wa,<- e];exact h.c7
def dM.wb(h:dM lt a b r i b.length):eZ lt a b (r++a.drop i):=by
 have:=h.perm;rw[YO,W5]at this;exact⟨this,h.bZ⟩
def dM.wc(h:dM lt a b r a.length j):eZ lt a b (r++b.drop j):=by
 have:=h.perm;rw[YO,List.nil_append]at this;exact⟨this,h.c7⟩
def dM.last(h:dM lt a b r i j)(hi:i+1=a.length)(au:∀y∈b,∀x,a[a.length-1]?=some x->le lt y x):eZ lt a b (r++b.drop j++a.drop i):=by
 have e:∃x,a.drop i=[x]/\a[a.length-1]?=some x:=by
  have dX:i<a.length:=by omega
  refine⟨a[i],?_,?_⟩
  .rw[WO dX,XY (by omega)]
  .rw[show a.length-1=i by omega];exact V5 dX
 obtain⟨x,e,ex⟩:=e;have aA:=Wd.mp h.bZ;have ae:=Wd.mp h.c7;refine⟨?_,?_⟩
 .refine List.Perm.trans ?_ h.perm;rw[Wa];exact XC r X5
 .refine Wd.mpr ⟨h.c7,by rw[e];simp,λz hz y aC=>?_⟩
  rw[e]at aC;have:y=x:=by simpa using aC
  subst this;rcases Wi.mp hz with hz|hz
  .exact aA.2.2 z hz y (by rw[e];simp)
  .exact au z (List.mem_of_mem_drop hz) y ex
end
end Tm
end
section
namespace Tm
open PySem PyProof.Rows
def Bb(a:Array Keyed)(i k:Nat):(a.extract i (i+k)).toList=(a.toList.drop i).take k:=by
 rw[Y0,List.extract_eq_drop_take,ZN]
def ow(a:Array Keyed)(i:Nat):(a.extract i a.size).toList=a.toList.drop i:=by
 rw[Y0,List.extract_eq_drop_take,<- Array.length_toList,WS (by rw[WW];exact VZ _)]
def Dp{l:List Keyed}{i k:Nat}{x:Keyed}(h:x∈(l.drop i).take k):∃n,∃(az:n<l.length),i<=n/\n<i+k/\x=l[n]:=by
 obtain⟨n,az,rfl⟩:=Xj.mp h;rw[Wz,WW]at az;exact⟨i+n,by omega,by omega,by omega,by rw[YC,ZC]⟩
def tl{l:List Keyed}{i:Nat}{x:Keyed}(h:x∈l.drop i):∃n,∃(az:n<l.length),i<=n/\x=l[n]:=by
 obtain⟨n,az,rfl⟩:=Xj.mp h;rw[WW]at az;exact⟨i+n,by omega,by omega,by rw[ZC]⟩
def take1{l:List Keyed}{i:Nat}(h:i<l.length):(l.drop i).take 1=[l[i]]:=by
 rw[WO h];rfl
noncomputable abbrev mG(a b r:Array Keyed)(i j:Nat):Array Keyed:=r++a.extract i a.size++b.extract j b.size
noncomputable abbrev fb(a b r:Array Keyed)(i j:Nat):Array Keyed:=r++b.extract j b.size++a.extract i a.size
noncomputable abbrev TT:Type:=Option (Array Keyed)×Array Keyed×Nat×Nat×Nat×Nat×Nat
noncomputable def ef(a b r:Array Keyed)(i j aF ca cf:Nat):StateT SortSt Sem (ForInStep TT):=do
 let x <- elem' a i
 if i+1+1==a.size then pure (.done (some (fb a b (r.push x) (i+1) j),r.push x,i+1,j,aF,ca,cf))
 else if ca<7&&cf<7 then pure (.done (none,r.push x,i+1,j,aF,ca,cf)) else pure (.yield (none,r.push x,i+1,j,aF,ca,cf))
noncomputable def b3(a b r:Array Keyed)(i j aF ca cf:Nat):StateT SortSt Sem (ForInStep TT):=do
 let y <- elem' b j
 if j+1==b.size then pure (.done (some (mG a b (r.push y) i (j+1)),r.push y,i,j+1,aF,ca,cf))
 else do
  let x <- elem' a i
  let q <- hP true x b (j+1) (b.size-(j+1)) 0
  match q with
  |some k =>
   if k>0 then
    if j+1+k==b.size then pure (.done (some (mG a b (r.push y++b.extract (j+1) (j+1+k)) i (j+1+k)),r.push y++b.extract (j+1) (j+1+k),i,j+1+k,aF,ca,k))
    else ef a b (r.push y++b.extract (j+1) (j+1+k)) i (j+1+k) aF ca k
   else ef a b (r.push y) i (j+1) aF ca k
  |_=>pure (.done (some (mG a b (r.push y) i (j+1)),r.push y,i,j+1,aF,ca,cf))
noncomputable def bj(a b r:Array Keyed)(i j aF ca cf:Nat):StateT SortSt Sem (ForInStep TT):=do
 modify λs=>setG s aF
 let y <- elem' b j
 let q <- hP false y a i (a.size-i) 0
 match q with
 |some k =>
  if k>0 then
   if i+k+1==a.size then pure (.done (some (fb a b (r++a.extract i (i+k)) (i+k) j),r++a.extract i (i+k),i+k,j,aF,k,cf))
   else if i+k==a.size then pure (.done (some (mG a b (r++a.extract i (i+k)) (i+k) j),r++a.extract i (i+k),i+k,j,aF,k,cf))
   else b3 a b (r++a.extract i (i+k)) (i+k) j aF k cf
  else b3 a b r i j aF k cf
 |_=>pure (.done (some (mG a b r i j),r,i,j,aF,ca,cf))
section
variable{M:Model}{A:Around}{E:Value->Shared->Prop}{s:Shared}{κ:SortKind}{S:Keyed->Prop}{lt:Keyed->Keyed->Bool}{a b r:Array Keyed}{st0 st:SortSt}{i j aF ca cf N:Nat}
structure Pre(S:Keyed->Prop)(lt:Keyed->Keyed->Bool)(a b:Array Keyed):Prop where
 eA:∀x (ah:x<a.size),S a[x]
 cK:∀x (ah:x<b.size),S b[x]
 k5:hl lt a 0 a.size
 bX:hl lt b 0 b.size
 last:∀y∈b.toList,∀x,a.toList[a.toList.length-1]?=some x->le lt y x
noncomputable def gQ(lt:Keyed->Keyed->Bool)(a b:Array Keyed)(N:Nat)(r:Array Keyed)(i j:Nat):Prop:=dM lt a.toList b.toList r.toList i j/\i+1<a.size/\j<b.size/\r.size=i+j/\N<=r.size
noncomputable def dx(lt:Keyed->Keyed->Bool)(a b:Array Keyed)(N:Nat)(t:TT):Prop:=match t.1 with
 |some res=>eZ lt a.toList b.toList res.toList
 |none=>gQ lt a b N t.2.1 t.2.2.1 t.2.2.2.1
noncomputable def rU(lt:Keyed->Keyed->Bool)(a b:Array Keyed)(N:Nat)(st0:SortSt)(f:ForInStep TT)(st:SortSt):Prop:=bW st0 st/\match f with
 |.done t=>dx lt a b N t
 |.yield t=>t.1=none/\dx lt a b N t
def sq(P:Pre S lt a b)(h:dM lt a.toList b.toList r.toList i j)(hi:i+1=a.size):eZ lt a.toList b.toList (fb a b r i j).toList:=by
 show eZ _ _ _ (r++b.extract j b.size++a.extract i a.size).toList;rw[Wo,Wo,ow,ow];exact h.last (by rw[Array.length_toList];exact hi) P.last
def so(h:dM lt a.toList b.toList r.toList i j)(aB:j=b.size):eZ lt a.toList b.toList (mG a b r i j).toList:=by
 show eZ _ _ _ (r++a.extract i a.size++b.extract j b.size).toList;subst aB;have e:b.toList.drop b.size=[]:=XY (by rw[Array.length_toList];exact VZ _)
 rw[Wo,Wo,ow,ow,e,W5];exact dM.wb (by rw[Array.length_toList];exact h)
def K1(h:dM lt a.toList b.toList r.toList i j)(hi:i=a.size):eZ lt a.toList b.toList (mG a b r i j).toList:=by
 show eZ _ _ _ (r++a.extract i a.size++b.extract j b.size).toList;subst hi;have e:a.toList.drop a.size=[]:=XY (by rw[Array.length_toList];exact VZ _)
 rw[Wo,Wo,ow,ow,e,W5];exact dM.wc (by rw[Array.length_toList];exact h)
def dM.o6(h:dM lt a.toList b.toList r.toList i j)(hi:i<a.size)(au:∀y (aC:y<b.size),j<=y->le lt a[i] b[y]):dM lt a.toList b.toList (r.push a[i]).toList (i+1) j:=by
 have dX:i<a.toList.length:=by rw[Array.length_toList];exact hi
 have:=h.rI 1 (λx ah y aC=>by
  rw[take1 dX]at ah;obtain rfl:x=a.toList[i]:=by simpa using ah
  obtain⟨n,az,bU,rfl⟩:=tl aC;exact au n (by rw[Array.length_toList]at az;exact az) bU)
 rw[take1 dX]at this;rw[X7];exact this
def dM.o7(h:dM lt a.toList b.toList r.toList i j)(aB:j<b.size)(au:∀y (aC:y<a.size),i<=y->le lt b[j] a[y]):dM lt a.toList b.toList (r.push b[j]).toList i (j+1):=by
 have fF:j<b.toList.length:=by rw[Array.length_toList];exact aB
 have:=h.rJ 1 (λx ah y aC=>by
  rw[take1 fF]at ah;obtain rfl:x=b.toList[j]:=by simpa using ah
  obtain⟨n,az,bU,rfl⟩:=tl aC;exact au n (by rw[Array.length_toList]at az;exact az) bU)
 rw[take1 fF]at this;rw[X7];exact this
def dM.v7{k:Nat}(h:dM lt a.toList b.toList r.toList i j)(au:∀x (ah:x<a.size) y (aC:y<b.size),i<=x->x<i+k->j<=y->le lt a[x] b[y]):dM lt a.toList b.toList (r++a.extract i (i+k)).toList (i+k) j:=by
 rw[Wo,Bb];refine h.rI k λx ah y aC=>?_
 obtain⟨n,az,bU,cJ,rfl⟩:=Dp ah;obtain⟨m,hm,e4,rfl⟩:=tl aC;rw[Array.length_toList]at az hm;exact au n az m hm bU cJ e4
def dM.v8{k:Nat}(h:dM lt a.toList b.toList r.toList i j)(au:∀x (ah:x<b.size) y (aC:y<a.size),j<=x->x<j+k->i<=y->le lt b[x] a[y]):dM lt a.toList b.toList (r++b.extract j (j+k)).toList i (j+k):=by
 rw[Wo,Bb];refine h.rJ k λx ah y aC=>?_
 obtain⟨n,az,bU,cJ,rfl⟩:=Dp ah;obtain⟨m,hm,e4,rfl⟩:=tl aC;rw[Array.length_toList]at az hm;exact au n az m hm bU cJ e4
def DU(P:Pre S lt a b)(g:bW st0 st)(h:dM lt a.toList b.toList r.toList i j)(hi:i+1<a.size)(aB:j<b.size)(a9:r.size=i+j)(aZ:N<=r.size+1)(au:∀y (aC:y<b.size),j<=y->le lt a[i] b[y]):
  wpS M A E s (ef a b r i j aF ca cf) (rU lt a b N st0) st:=by
 unfold ef;have fh:i<a.size:=by omega
 refine V3 (ff fh ?_);have h':=h.o6 fh au
 split
 .rename_i c;have c:i+1+1=a.size:=by simpa using c
  exact V7 ⟨g,sq P h' c⟩
 .rename_i c;have c:¬i+1+1=a.size:=by simpa using c
  have cn:gQ lt a b N (r.push a[i]) (i+1) j:=⟨h',by omega,aB,by rw[Wq];omega,by rw[Wq];exact aZ⟩
  split
  .exact V7 ⟨g,cn⟩
  .exact V7 ⟨g,rfl,cn⟩
def DT (O : eC M A E s κ S lt) (gf : kindOf st0 = κ) (P : Pre S lt a b) (g : bW st0 st) (h : dM lt a.toList b.toList r.toList i j) (hi : i + 1 < a.size) (aB : j < b.size) (a9 : r.size = i + j) (aZ : N <= r.size + 2) (au : ∀ y (aC : y < a.size), i <= y -> le lt b[j] a[y]) :
    wpS M A E s (b3 a b r i j aF ca cf) (rU lt a b N st0) st := by
  unfold b3
  have fh : i < a.size := by omega
  refine V3 (ff aB ?_)
  have h' := h.o7 aB au
  split
  · rename_i c
    have c : j + 1 = b.size := by simpa using c
    exact V7 ⟨g, so h' c⟩
  · rename_i c
    have c : ¬ j + 1 = b.size := by simpa using c
    refine V3 (ff fh ?_)
    refine V3 (wq O (g.1.trans gf) P.cK (P.eA _ fh) (by omega) (by omega) (fun x y ah aC bU cJ e4 => P.bX x y ah aC (V6 _) cJ (by omega)) fun k aw f1 f2 => ?_)
    dsimp only
    have aa : dM lt a.toList b.toList (r.push b[j] ++ b.extract (j + 1) (j + 1 + k)).toList i (j + 1 + k) := h'.v8 fun x ah y aC bU cJ e4 =>
      O.d0 _ _ _ (P.cK _ ah) (P.eA _ fh) (P.eA _ aC) (O.ho _ _ (P.cK _ ah) (P.eA _ fh) (f1 x ah bU cJ)) (P.k5 i y fh aC (V6 _) e4 (by omega))
    have eh : (r.push b[j] ++ b.extract (j + 1) (j + 1 + k)).size = i + (j + 1 + k) := by
      rw [Xv, Wq, WR]; omega
    split
    · split
      · rename_i bz
        have bz : j + 1 + k = b.size := by simpa using bz
        exact V7 ⟨g, so aa bz⟩
      · rename_i bz
        have bz : ¬ j + 1 + k = b.size := by simpa using bz
        exact DU P g aa hi (by omega) eh (by rw [eh]; omega) fun y aC bU => f2 y aC bU (by omega)
    · have tb : k = 0 := by omega
      subst tb
      exact DU P g h' hi (by omega) (by rw [Wq]; omega) (by rw [Wq]; omega) fun y aC bU => f2 y aC bU (by omega)
def PC (O : eC M A E s κ S lt) (gf : kindOf st0 = κ) (P : Pre S lt a b) (g : bW st0 st) (h : dM lt a.toList b.toList r.toList i j) (hi : i + 1 < a.size) (aB : j < b.size) (a9 : r.size = i + j) (aZ : N <= r.size + 2) :
    wpS M A E s (bj a b r i j aF ca cf) (rU lt a b N st0) st := by
  unfold bj
  refine V3 (Xw ?_)
  have g := g.set aF
  refine V3 (ff aB ?_)
  refine V3 (wo O (g.1.trans gf) P.eA (P.cK _ aB) (by omega) (by omega) (fun x y ah aC bU cJ e4 => P.k5 x y ah aC (V6 _) cJ (by omega)) fun k aw f1 f2 => ?_)
  dsimp only
  have aa : dM lt a.toList b.toList (r ++ a.extract i (i + k)).toList (i + k) j := h.v7 fun x ah y aC bU cJ e4 =>
    O.d0 _ _ _ (P.eA _ ah) (P.cK _ aB) (P.cK _ aC) (f1 x ah bU cJ) (P.bX j y aB aC (V6 _) e4 (by omega))
  have eh : (r ++ a.extract i (i + k)).size = i + k + j := by
    rw [Xv, WR]; omega
  have rest : ∀ y (aC : y < a.size), i + k <= y -> le lt b[j] a[y] := fun y aC bU => O.ho _ _ (P.cK _ aB) (P.eA _ aC) (f2 y aC bU (by omega))
  split
  · split
    · rename_i c
      have c : i + k + 1 = a.size := by simpa using c
      exact V7 ⟨g, sq P aa c⟩
    · rename_i c
      have c : ¬ i + k + 1 = a.size := by simpa using c
      split
      · rename_i bz
        have bz : i + k = a.size := by simpa using bz
        exact V7 ⟨g, K1 aa bz⟩
      · rename_i bz
        have bz : ¬ i + k = a.size := by simpa using bz
        exact DT O gf P g aa (by omega) aB eh (by rw [eh]; omega) rest
  · have tb : k = 0 := by omega
    subst tb
    exact DT O gf P g h hi aB a9 aZ rest
end
end Tm
end
section
namespace Tm
open PySem PyProof.Rows
noncomputable abbrev fv:Type:=Option (Array Keyed)×Array Keyed×Nat×Nat×Nat×Nat
noncomputable abbrev kC:Type:=Option (Array Keyed)×Array Keyed×Nat×Nat×Nat
section
variable{M:Model}{A:Around}{E:Value->Shared->Prop}{s:Shared}{κ:SortKind}{S:Keyed->Prop}{lt:Keyed->Keyed->Bool}{a b r:Array Keyed}{st0 st:SortSt}{i j aF ca cf N:Nat}
def d1{α:Type}{c:Prop}[Decidable c]{t e:StateT SortSt Sem α}{Q:α->SortSt->Prop}(J:c->wpS M A E s t Q st)(aa:¬c->wpS M A E s e Q st):wpS M A E s (if c then t else e) Q st:=by
 by_cases h:c
 .rw[if_pos h];exact J h
 .rw[if_neg h];exact aa h
def gQ.less{cL:Nat}(h:gQ lt a b N r i j)(aZ:cL<=N):gQ lt a b cL r i j:=⟨h.1,h.2.1,h.2.2.1,h.2.2.2.1,W7 aZ h.2.2.2.2⟩
def gQ.no(h:gQ lt a b N r i j)(aZ:a.size+b.size<=N):False:=by
 obtain⟨_,J,aa,aL,a7⟩:=h;omega
theorem dx.less{t:TT}{cL:Nat}(h:dx lt a b N t)(aZ:cL<=N):dx lt a b cL t:=by
 obtain⟨o,t⟩:=t;cases o with
 |some res=>exact h
 |none=>exact gQ.less h aZ
def rF(h:hl lt a 0 a.size):a.toList.Pairwise (le lt):=by
 rw[XD];intro x y ah aC hA;rw[Array.length_toList]at ah aC;exact h x y ah aC (V6 _) (Yb hA) (by omega)
def OP {Q : Array Keyed -> SortSt -> Prop} (O : eC M A E s κ S lt) (aw : kindOf st = κ) (P : Pre S lt a b) (aA : 0 < a.size) (ae : 0 < b.size) (h0 : ∀ y (aC : y < a.size), le lt b[0] a[y]) (aK : ∀ res aJ, bW st aJ -> eZ lt a.toList b.toList res.toList -> Q res aJ) :
    wpS M A E s (xT a b) Q st := by
  rw [OO]
  dsimp only
  refine V3 (ZO (Ya ⟨rfl, ?_⟩))
  refine V3 (ff ae ?_)
  have m0 : dM lt a.toList b.toList (#[] : Array Keyed).toList 0 0 := ⟨Ze _, rF P.k5, rF P.bX⟩
  have gw : dM lt a.toList b.toList (#[b[0]] : Array Keyed).toList 0 1 := m0.o7 ae fun y aC _ => h0 y aC
  refine d1 (fun f6 => ?_) fun f6 => ?_
  · have c := f6
    have c : 1 = b.size := by simpa using c
    exact V7 (aK _ _ (.refl st) (so gw c))
  · have c := f6
    have c : ¬ 1 = b.size := by simpa using c
    refine d1 (fun f6 => ?_) fun f6 => ?_
    · have bz := f6
      have bz : 0 + 1 = a.size := by simpa using bz
      exact V7 (aK _ _ (.refl st) (sq P gw bz))
    · have bz := f6
      have bz : ¬ 0 + 1 = a.size := by simpa using bz
      refine V3 (Y9 ?_)
      refine V3 (Xo (WT (I := fun x (c : kC) aJ => bW st aJ /\ c.1 = none /\ gQ lt a b (x + 1) c.2.1 c.2.2.1 c.2.2.2.1) (Q := fun (c : kC) aJ => bW st aJ /\ ∃ res, c.1 = some res /\ eZ lt a.toList b.toList res.toList)
        ?step ?fin ⟨.refl st, rfl, gw, by show 0 + 1 < a.size; omega, by show 1 < b.size; omega, rfl, VZ _⟩) ?post)
      case fin =>
        rintro ⟨o, r, i, j, aF⟩ aJ ⟨g, _, cn⟩
        exact (cn.no (by rw [WD (V6 _)]; omega)).elim
      case post =>
        rintro ⟨o, r, i, j, aF⟩ aJ ⟨g, res, rfl, m⟩
        exact V7 (aK res aJ g m)
      case step =>
        rintro x ⟨o, r, i, j, aF⟩ da _ ah ⟨g1, rfl, pM⟩
        dsimp only at pM ⊢
        refine V3 (Xo (WT (I := fun y (c : fv) aJ => bW st aJ /\ c.1 = none /\ gQ lt a b (x + 1 + y) c.2.1 c.2.2.1 c.2.2.2.1)
          (Q := fun (c : fv) aJ => bW st aJ /\ dx lt a b (x + 2) (c.1, c.2.1, c.2.2.1, c.2.2.2.1, 0, 0, 0)) ?step2 ?fin2 ⟨g1, rfl, pM⟩) ?post2)
        case fin2 =>
          rintro ⟨o, r, i, j, ca, cf⟩ aJ ⟨g, _, cn⟩
          exact (cn.no (by rw [WD (V6 _)]; omega)).elim
        case step2 =>
          rintro y ⟨o, r, i, j, ca, cf⟩ eg _ aC ⟨g2, rfl, kx⟩
          dsimp only at kx ⊢
          obtain ⟨hC, aN, ba, b5, dn⟩ := kx
          have fh : i < a.size := by omega
          refine V3 (ff ba (V3 (ff fh ?_)))
          refine V3 (O.ask _ _ _ _ (P.cK _ ba) (P.eA _ fh) (g2.1.trans aw) ?_)
          cases e : lt b[j] a[i] with
          | true =>
            dsimp only
            rw [if_pos rfl]
            refine V3 (ff ba ?_)
            have gJ := hC.o7 ba fun y aC bU => O.d0 _ _ _ (P.cK _ ba) (P.eA _ fh) (P.eA _ aC) (O.ho _ _ (P.cK _ ba) (P.eA _ fh) e) (P.k5 i y fh aC (V6 _) bU (by omega))
            refine d1 (fun f6 => ?_) fun f6 => ?_
            · have cW := f6
              have cW : j + 1 = b.size := by simpa using cW
              exact V7 ⟨g2, so gJ cW⟩
            · have cW := f6
              have cW : ¬ j + 1 = b.size := by simpa using cW
              have ja : gQ lt a b (x + 1 + (y + 1)) (r.push b[j]) i (j + 1) := ⟨gJ, aN, by omega, by rw [Wq]; omega, by rw [Wq]; omega⟩
              refine d1 (fun f6 => ?_) fun f6 => ?_
              · exact V7 ⟨g2, gQ.less ja (by omega)⟩
              · exact V7 ⟨g2, rfl, ja⟩
          | false =>
            dsimp only
            rw [if_neg (by simp)]
            refine V3 (ff fh ?_)
            have gJ := hC.o6 fh fun y aC bU => O.d0 _ _ _ (P.eA _ fh) (P.cK _ ba) (P.cK _ aC) e (P.bX j y ba aC (V6 _) bU (by omega))
            refine d1 (fun f6 => ?_) fun f6 => ?_
            · have cW := f6
              have cW : i + 1 + 1 = a.size := by simpa using cW
              exact V7 ⟨g2, sq P gJ cW⟩
            · have cW := f6
              have cW : ¬ i + 1 + 1 = a.size := by simpa using cW
              have ja : gQ lt a b (x + 1 + (y + 1)) (r.push a[i]) (i + 1) j := ⟨gJ, by omega, ba, by rw [Wq]; omega, by rw [Wq]; omega⟩
              refine d1 (fun f6 => ?_) fun f6 => ?_
              · exact V7 ⟨g2, gQ.less ja (by omega)⟩
              · exact V7 ⟨g2, rfl, ja⟩
        case post2 =>
          rintro ⟨o, r, i, j, ca, cf⟩ eg ⟨g2, p⟩
          cases o with
          | some res => exact V7 ⟨g2, res, rfl, p⟩
          | none =>
            have kx : gQ lt a b (x + 2) r i j := p
            dsimp only
            refine V3 (ZO (Ya ⟨rfl, ?_⟩))
            refine V3 (Xo (WT (I := fun z (c : TT) aJ => bW st aJ /\ c.1 = none /\ gQ lt a b (x + 2 + z) c.2.1 c.2.2.1 c.2.2.2.1) (Q := fun (c : TT) aJ => bW st aJ /\ dx lt a b (x + 2) c)
              ?step3 ?fin3 ⟨g2, rfl, kx⟩) ?post3)
            case fin3 =>
              rintro ⟨o, r, i, j, aF, ca, cf⟩ aJ ⟨g, _, cn⟩
              exact (cn.no (by rw [WD (V6 _)]; omega)).elim
            case step3 =>
              rintro z ⟨o, r, i, j, aF, ca, cf⟩ gk _ hz ⟨g3, rfl, gJ, aN, ba, b5, dn⟩
              dsimp only at gJ aN ba b5 dn ⊢
              have go : ∀ rg, wpS M A E s (bj a b r i j rg ca cf) (rU lt a b (x + 2 + (z + 1)) st) gk := fun rg => PC O aw P g3 gJ aN ba b5 (by omega)
              refine d1 (fun _ => ?_) fun _ => ?_
              · refine Xo (go (aF - 1)) fun f aJ hf => ?_
                cases f with
                | done t => exact ⟨hf.1, dx.less hf.2 (by omega)⟩
                | yield t =>
                  obtain ⟨o, t⟩ := t
                  obtain ⟨g', rfl, hf⟩ := hf
                  exact ⟨g', rfl, hf⟩
              · refine Xo (go aF) fun f aJ hf => ?_
                cases f with
                | done t => exact ⟨hf.1, dx.less hf.2 (by omega)⟩
                | yield t =>
                  obtain ⟨o, t⟩ := t
                  obtain ⟨g', rfl, hf⟩ := hf
                  exact ⟨g', rfl, hf⟩
            case post3 =>
              rintro ⟨o, r, i, j, aF, ca, cf⟩ gk ⟨g3, p⟩
              cases o with
              | some res => exact V7 ⟨g3, res, rfl, p⟩
              | none => exact V3 (Xw (V7 ⟨g3.set _, rfl, p⟩))
end
end Tm
end
section
namespace Tm
open PySem PyProof.Rows
noncomputable def xR:Array Keyed->Array Keyed->StateT SortSt Sem (Array Keyed):=sortPriv% PySem.Builtin.mergeHi
def OG (a b : Array Keyed) : xR a b = (do
  rule "list.sort.merge-hi"
  let nX := a.size + b.size
  let fin (r : Array Keyed) (i j : Nat) := a.extract 0 i ++ b.extract 0 j ++ r.reverse
  let sm (r : Array Keyed) (i j : Nat) := b.extract 0 j ++ a.extract 0 i ++ r.reverse
  let mut i := a.size - 1
  let mut j := b.size
  let mut r : Array Keyed := #[<- elem' a i]
  if i == 0 then return fin r i j
  if j == 1 then return sm r i j
  let mut aF := gallopOf (<- get)
  for _ in [0:nX] do
    let mut ca := 0
    let mut cf := 0
    for _ in [0:nX] do
      let some w <- lt' (<- elem' b (j - 1)) (<- elem' a (i - 1)) | return fin r i j
      if w then
        i := i - 1; r := r.push (<- elem' a i); ca := ca + 1; cf := 0
        if i == 0 then return fin r i j
        if ca >= aF then break
      else
        j := j - 1; r := r.push (<- elem' b j); cf := cf + 1; ca := 0
        if j == 1 then return sm r i j
        if cf >= aF then break
    rule "list.sort.gallop"
    aF := aF + 1
    for _ in [0:nX] do
      if aF > 1 then aF := aF - 1
      modify fun s => setG s aF
      let some q <- hP false (<- elem' b (j - 1)) a 0 i (i - 1) | return fin r i j
      let k := i - q
      ca := k
      if k > 0 then
        r := r ++ (a.extract q i).reverse; i := q
        if i == 0 then return fin r i j
      j := j - 1; r := r.push (<- elem' b j)
      if j == 1 then return sm r i j
      let some q <- hP true (<- elem' a (i - 1)) b 0 j (j - 1) | return fin r i j
      let k := j - q
      cf := k
      if k > 0 then
        r := r ++ (b.extract q j).reverse; j := q
        if j == 1 then return sm r i j
        if j == 0 then return fin r i j
      i := i - 1; r := r.push (<- elem' a i)
      if i == 0 then return fin r i j
      if ca < 7 && cf < 7 then break
    aF := aF + 1
    modify fun s => setG s aF
  unsupported "internal:list.sort.merge-bound") := rfl
structure dS(lt:Keyed->Keyed->Bool)(a b t:List Keyed)(i j:Nat):Prop where
 perm:(a.take i++b.take j++t).Perm (a++b)
 cc:(a.take i++t).Pairwise (le lt)
 cH:(b.take j++t).Pairwise (le lt)
section
variable{lt:Keyed->Keyed->Bool}{a b t:List Keyed}{i j q:Nat}
def t8(l:List Keyed){q i:Nat}(h:q<=i):l.take i=l.take q++(l.take i).drop q:=by
 conv=>lhs;rw[<- WZ q (l.take i)]
 rw[List.take_take,Nat.min_eq_left h]
def dS.rI(h:dS lt a b t i j)(aK:q<=i)(au:∀x∈b.take j,∀y∈(a.take i).drop q,le lt x y):dS lt a b ((a.take i).drop q++t) q j:=by
 have e:=t8 a aK;refine⟨?_,?_,?_⟩
 .refine List.Perm.trans ?_ h.perm
  conv=>rhs;rw[e]
  rw[Wa,Wa,Wa];refine XC _ ?_;rw[<- Wa,<- Wa];exact XX t X5
 .rw[<- Wa,<- e];exact h.cc
 .have ae:=Wd.mp h.cH;have aA:=h.cc;rw[e,Wa]at aA;have wM:=(Wd.mp aA).2.1;refine Wd.mpr ⟨ae.1,wM,λx ah y aC=>?_⟩
  rcases Wi.mp aC with aC|aC
  .exact au x ah y aC
  .exact ae.2.2 x ah y aC
def dS.rJ(h:dS lt a b t i j)(aK:q<=j)(au:∀x∈a.take i,∀y∈(b.take j).drop q,le lt x y):dS lt a b ((b.take j).drop q++t) i q:=by
 have e:=t8 b aK;refine⟨?_,?_,?_⟩
 .refine List.Perm.trans ?_ h.perm
  conv=>rhs;rw[e]
  rw[Wa,Wa,Wa]
 .have aA:=Wd.mp h.cc;have ae:=h.cH;rw[e,Wa]at ae;have jn:=(Wd.mp ae).2.1;refine Wd.mpr ⟨aA.1,jn,λx ah y aC=>?_⟩
  rcases Wi.mp aC with aC|aC
  .exact au x ah y aC
  .exact aA.2.2 x ah y aC
 .rw[<- Wa,<- e];exact h.cH
def dS.wb(h:dS lt a b t 0 j):eZ lt a b (b.take j++t):=by
 have:=h.perm;rw[Zl,List.nil_append]at this;exact⟨this,h.cH⟩
def dS.wc(h:dS lt a b t i 0):eZ lt a b (a.take i++t):=by
 have:=h.perm;rw[Zl,W5]at this;exact⟨this,h.cc⟩
def dS.first(h:dS lt a b t i 1)(au:∀x∈b.take 1,∀y∈a,le lt x y):eZ lt a b (b.take 1++a.take i++t):=by
 have ae:=Wd.mp h.cH;refine⟨?_,?_⟩
 .refine List.Perm.trans ?_ h.perm;exact XX t X5
 .rw[Wa];refine Wd.mpr ⟨ae.1,h.cc,λx ah y aC=>?_⟩
  rcases Wi.mp aC with aC|aC
  .exact au x ah y (Y1 aC)
  .exact ae.2.2 x ah y aC
end
end Tm
end
section
namespace Tm
open PySem PyProof.Rows
def nd(a:Array Keyed)(q i:Nat):(a.extract q i).toList=(a.toList.take i).drop q:=by
 rw[Y0,List.extract_eq_drop_take,List.drop_take]
def ov(a:Array Keyed)(i:Nat):(a.extract 0 i).toList=a.toList.take i:=by rw[nd,List.drop_zero]
def tn{l:List Keyed}{q i:Nat}{x:Keyed}(h:x∈(l.take i).drop q):∃n,∃(az:n<l.length),q<=n/\n<i/\x=l[n]:=by
 obtain⟨n,az,rfl⟩:=Xj.mp h;rw[WW,Wz]at az;exact⟨q+n,by omega,by omega,by omega,by rw[ZC,YC]⟩
def rd{l:List Keyed}{i:Nat}{x:Keyed}(h:x∈l.take i):∃n,∃(az:n<l.length),n<i/\x=l[n]:=by
 obtain⟨n,az,rfl⟩:=Xj.mp h;rw[Wz]at az;exact⟨n,by omega,by omega,by rw[YC]⟩
def tf{l:List Keyed}{i:Nat}(h0:0<i)(h:i<=l.length):(l.take i).drop (i-1)=[l[i-1]'(by omega)]:=by
 have au:(l.take i).length=i:=by rw[Wz];omega
 rw[WO (by rw[au];omega),XY (by rw[au];omega),YC]
noncomputable abbrev mH(a b r:Array Keyed)(i j:Nat):Array Keyed:=a.extract 0 i++b.extract 0 j++r.reverse
noncomputable abbrev eb(a b r:Array Keyed)(i j:Nat):Array Keyed:=b.extract 0 j++a.extract 0 i++r.reverse
noncomputable abbrev lI:Type:=Option (Array Keyed)×Nat×Nat×Array Keyed×Nat×Nat×Nat
noncomputable def aL(a b r:Array Keyed)(i j aF ca cf:Nat):StateT SortSt Sem (ForInStep lI):=do
 let x <- elem' a (i-1)
 if i-1==0 then pure (.done (some (mH a b (r.push x) (i-1) j),i-1,j,r.push x,aF,ca,cf))
 else if ca<7&&cf<7 then pure (.done (none,i-1,j,r.push x,aF,ca,cf)) else pure (.yield (none,i-1,j,r.push x,aF,ca,cf))
noncomputable def aa(a b r:Array Keyed)(i j aF ca cf:Nat):StateT SortSt Sem (ForInStep lI):=do
 let y <- elem' b (j-1)
 if j-1==1 then pure (.done (some (eb a b (r.push y) i (j-1)),i,j-1,r.push y,aF,ca,cf))
 else do
  let x <- elem' a (i-1)
  let o <- hP true x b 0 (j-1) (j-1-1)
  match o with
  |some q =>
   if j-1-q>0 then
    if q==1 then pure (.done (some (eb a b (r.push y++(b.extract q (j-1)).reverse) i q),i,q,r.push y++(b.extract q (j-1)).reverse,aF,ca,j-1-q))
    else if q==0 then pure (.done (some (mH a b (r.push y++(b.extract q (j-1)).reverse) i q),i,q,r.push y++(b.extract q (j-1)).reverse,aF,ca,j-1-q))
    else aL a b (r.push y++(b.extract q (j-1)).reverse) i q aF ca (j-1-q)
   else aL a b (r.push y) i (j-1) aF ca (j-1-q)
  |_=>pure (.done (some (mH a b (r.push y) i (j-1)),i,j-1,r.push y,aF,ca,cf))
noncomputable def J(a b r:Array Keyed)(i j aF ca cf:Nat):StateT SortSt Sem (ForInStep lI):=do
 modify λs=>setG s aF
 let y <- elem' b (j-1)
 let o <- hP false y a 0 i (i-1)
 match o with
 |some q =>
  if i-q>0 then
   if q==0 then pure (.done (some (mH a b (r++(a.extract q i).reverse) q j),q,j,r++(a.extract q i).reverse,aF,i-q,cf))
   else aa a b (r++(a.extract q i).reverse) q j aF (i-q) cf
  else aa a b r i j aF (i-q) cf
 |_=>pure (.done (some (mH a b r i j),i,j,r,aF,ca,cf))
section
variable{M:Model}{A:Around}{E:Value->Shared->Prop}{s:Shared}{κ:SortKind}{S:Keyed->Prop}{lt:Keyed->Keyed->Bool}{a b r:Array Keyed}{st0 st:SortSt}{i j aF ca cf N:Nat}
structure pR(S:Keyed->Prop)(lt:Keyed->Keyed->Bool)(a b:Array Keyed):Prop where
 eA:∀x (ah:x<a.size),S a[x]
 cK:∀x (ah:x<b.size),S b[x]
 k5:hl lt a 0 a.size
 bX:hl lt b 0 b.size
 first:∀x∈b.toList.take 1,∀y∈a.toList,le lt x y
noncomputable abbrev fY(lt:Keyed->Keyed->Bool)(a b r:Array Keyed)(i j:Nat):Prop:=dS lt a.toList b.toList r.toList.reverse i j
noncomputable def gP(lt:Keyed->Keyed->Bool)(a b:Array Keyed)(N:Nat)(r:Array Keyed)(i j:Nat):Prop:=fY lt a b r i j/\0<i/\i<=a.size/\1<j/\j<=b.size/\r.size+i+j=a.size+b.size/\N<=r.size
noncomputable def ky(lt:Keyed->Keyed->Bool)(a b:Array Keyed)(N:Nat)(t:lI):Prop:=match t.1 with
 |some res=>eZ lt a.toList b.toList res.toList
 |none=>gP lt a b N t.2.2.2.1 t.2.1 t.2.2.1
noncomputable def iJ(lt:Keyed->Keyed->Bool)(a b:Array Keyed)(N:Nat)(st0:SortSt)(f:ForInStep lI)(st:SortSt):Prop:=bW st0 st/\match f with
 |.done t=>ky lt a b N t
 |.yield t=>t.1=none/\ky lt a b N t
def sy(P:pR S lt a b)(h:fY lt a b r i j)(aB:j=1):eZ lt a.toList b.toList (eb a b r i j).toList:=by
 subst aB;show eZ _ _ _ (b.extract 0 1++a.extract 0 i++r.reverse).toList;rw[Wo,Wo,ov,ov,XJ];exact dS.first h P.first
def sx(h:fY lt a b r i j)(hi:i=0):eZ lt a.toList b.toList (mH a b r i j).toList:=by
 subst hi;show eZ _ _ _ (a.extract 0 0++b.extract 0 j++r.reverse).toList;rw[Wo,Wo,ov,ov,XJ,Zl,List.nil_append];exact dS.wb h
def Lv(h:fY lt a b r i j)(aB:j=0):eZ lt a.toList b.toList (mH a b r i j).toList:=by
 subst aB;show eZ _ _ _ (a.extract 0 i++b.extract 0 0++r.reverse).toList;rw[Wo,Wo,ov,ov,XJ,Zl,W5];exact dS.wc h
def dS.v7{q:Nat}(h:fY lt a b r i j)(aK:q<=i)(au:∀x (ah:x<b.size) y (aC:y<a.size),x<j->q<=y->y<i->le lt b[x] a[y]):fY lt a b (r++(a.extract q i).reverse) q j:=by
 show dS lt a.toList b.toList (r++(a.extract q i).reverse).toList.reverse q j;rw[Wo,XJ,Yl,List.reverse_reverse,nd];refine dS.rI h aK λx ah y aC=>?_
 obtain⟨n,az,bU,rfl⟩:=rd ah;obtain⟨m,hm,cJ,e4,rfl⟩:=tn aC;rw[Array.length_toList]at az hm;exact au n az m hm bU cJ e4
def dS.v8{q:Nat}(h:fY lt a b r i j)(aK:q<=j)(au:∀x (ah:x<a.size) y (aC:y<b.size),x<i->q<=y->y<j->le lt a[x] b[y]):fY lt a b (r++(b.extract q j).reverse) i q:=by
 show dS lt a.toList b.toList (r++(b.extract q j).reverse).toList.reverse i q;rw[Wo,XJ,Yl,List.reverse_reverse,nd];refine dS.rJ h aK λx ah y aC=>?_
 obtain⟨n,az,bU,rfl⟩:=rd ah;obtain⟨m,hm,cJ,e4,rfl⟩:=tn aC;rw[Array.length_toList]at az hm;exact au n az m hm bU cJ e4
def dS.o6(h:fY lt a b r i j)(h0:0<i)(hi:i<=a.size)(au:∀x (ah:x<b.size),x<j->le lt b[x] (a[i-1]'(by omega))):fY lt a b (r.push (a[i-1]'(by omega))) (i-1) j:=by
 have l1:i-1<a.toList.length:=by rw[Array.length_toList];omega
 have:=dS.rI (q:=i-1) h (by omega) (λx ah y aC=>by
  rw[tf h0 (by rw[Array.length_toList];exact hi)]at aC
  obtain rfl:y=a.toList[i-1]'l1:=by simpa using aC
  obtain⟨n,az,bU,rfl⟩:=rd ah;exact au n (by rw[Array.length_toList]at az;exact az) bU)
 rw[tf h0 (by rw[Array.length_toList];exact hi)]at this
 show dS lt a.toList b.toList (r.push (a[i-1]'(by omega))).toList.reverse (i-1) j
 rw[X7,Yl];exact this
def dS.o7(h:fY lt a b r i j)(h0:0<j)(aB:j<=b.size)(au:∀x (ah:x<a.size),x<i->le lt a[x] (b[j-1]'(by omega))):fY lt a b (r.push (b[j-1]'(by omega))) i (j-1):=by
 have l1:j-1<b.toList.length:=by rw[Array.length_toList];omega
 have:=dS.rJ (q:=j-1) h (by omega) (λx ah y aC=>by
  rw[tf h0 (by rw[Array.length_toList];exact aB)]at aC
  obtain rfl:y=b.toList[j-1]'l1:=by simpa using aC
  obtain⟨n,az,bU,rfl⟩:=rd ah;exact au n (by rw[Array.length_toList]at az;exact az) bU)
 rw[tf h0 (by rw[Array.length_toList];exact aB)]at this
 show dS lt a.toList b.toList (r.push (b[j-1]'(by omega))).toList.reverse i (j-1)
 rw[X7,Yl];exact this
def BK(P:pR S lt a b)(g:bW st0 st)(h:fY lt a b r i j)(fh:0<i)(hi:i<=a.size)(aB:1<j)(fF:j<=b.size)(a9:r.size+i+j=a.size+b.size)(aZ:N<=r.size+1)(au:∀x (ah:x<b.size),x<j->le lt b[x] (a[i-1]'(by omega))):
  wpS M A E s (aL a b r i j aF ca cf) (iJ lt a b N st0) st:=by
 unfold aL;refine V3 (ff (by omega) ?_)
 have h':=dS.o6 h fh hi au;refine d1 (λc=>?_) λc=>?_
 .have c:i-1=0:=by simpa using c
  exact V7 ⟨g,sx h' c⟩
 .have c:¬i-1=0:=by simpa using c
  have cn:gP lt a b N (r.push (a[i-1]'(by omega))) (i-1) j:=⟨h',by omega,by omega,aB,fF,by rw[Wq];omega,by rw[Wq];exact aZ⟩
  refine d1 (λ_=>?_) λ_=>?_
  .exact V7 ⟨g,cn⟩
  .exact V7 ⟨g,rfl,cn⟩
def BJ (O : eC M A E s κ S lt) (gf : kindOf st0 = κ) (P : pR S lt a b) (g : bW st0 st) (h : fY lt a b r i j) (fh : 0 < i) (hi : i <= a.size) (aB : 1 < j) (fF : j <= b.size) (a9 : r.size + i + j = a.size + b.size) (aZ : N <= r.size + 2)
    (au : ∀ x (ah : x < a.size), x < i -> le lt a[x] (b[j - 1]'(by omega))) : wpS M A E s (aa a b r i j aF ca cf) (iJ lt a b N st0) st := by
  unfold aa
  refine V3 (ff (by omega) ?_)
  have h' := dS.o7 h (by omega) fF au
  refine d1 (fun c => ?_) fun c => ?_
  · have c : j - 1 = 1 := by simpa using c
    exact V7 ⟨g, sy P h' c⟩
  · have c : ¬ j - 1 = 1 := by simpa using c
    refine V3 (ff (by omega) ?_)
    refine V3 (wq O (g.1.trans gf) P.cK (P.eA _ (by omega)) (by omega) (by omega) (fun x y ah aC bU cJ e4 => P.bX x y ah aC (V6 _) cJ (by omega)) fun q aK f1 f2 => ?_)
    dsimp only
    have a7 : fY lt a b (r.push (b[j - 1]'(by omega)) ++ (b.extract q (j - 1)).reverse) i q := dS.v8 h' aK fun x ah y aC bU cJ e4 =>
      O.d0 _ _ _ (P.eA _ ah) (P.eA _ (by omega)) (P.cK _ aC) (P.k5 x (i - 1) ah (by omega) (V6 _) (by omega) (by omega)) (f2 y aC (by omega) (by omega))
    have eh : (r.push (b[j - 1]'(by omega)) ++ (b.extract q (j - 1)).reverse).size + i + q = a.size + b.size := by
      rw [Xv, Wq, Array.size_reverse, WR]; omega
    have rest : ∀ x (ah : x < b.size), x < q -> le lt b[x] (a[i - 1]'(by omega)) := fun x ah bU => O.ho _ _ (P.cK _ ah) (P.eA _ (by omega)) (f1 x ah (V6 _) (by omega))
    refine d1 (fun bz => ?_) fun bz => ?_
    · refine d1 (fun cW => ?_) fun cW => ?_
      · have cW : q = 1 := by simpa using cW
        exact V7 ⟨g, sy P a7 cW⟩
      · have cW : ¬ q = 1 := by simpa using cW
        refine d1 (fun iN => ?_) fun iN => ?_
        · have iN : q = 0 := by simpa using iN
          exact V7 ⟨g, Lv a7 iN⟩
        · have iN : ¬ q = 0 := by simpa using iN
          exact BK P g a7 fh hi (by omega) (by omega) eh (by omega) rest
    · have e : q = j - 1 := by omega
      subst e
      exact BK P g h' fh hi (by omega) (by omega) (by rw [Wq]; omega) (by rw [Wq]; omega) rest
def LB(O:eC M A E s κ S lt)(gf:kindOf st0=κ)(P:pR S lt a b)(g:bW st0 st)(h:fY lt a b r i j)(fh:0<i)(hi:i<=a.size)(aB:1<j)(fF:j<=b.size)(a9:r.size+i+j=a.size+b.size)(aZ:N<=r.size+2):
  wpS M A E s (J a b r i j aF ca cf) (iJ lt a b N st0) st:=by
 unfold J;refine V3 (Xw ?_);have g:=g.set aF;refine V3 (ff (by omega) ?_)
 refine V3 (wo O (g.1.trans gf) P.eA (P.cK _ (by omega)) (by omega) (by omega) (λx y ah aC bU cJ e4=>P.k5 x y ah aC (V6 _) cJ (by omega)) λq aK f1 f2=>?_)
 dsimp only;have a7:fY lt a b (r++(a.extract q i).reverse) q j:=dS.v7 h aK λx ah y aC bU cJ e4 =>
  O.d0 _ _ _ (P.cK _ ah) (P.cK _ (by omega)) (P.eA _ aC) (P.bX x (j-1) ah (by omega) (V6 _) (by omega) (by omega)) (O.ho _ _ (P.cK _ (by omega)) (P.eA _ aC) (f2 y aC (by omega) (by omega)))
 have eh:(r++(a.extract q i).reverse).size+q+j=a.size+b.size:=by
  rw[Xv,Array.size_reverse,WR];omega
 have rest:∀x (ah:x<a.size),x<q->le lt a[x] (b[j-1]'(by omega)):=λx ah bU=>f1 x ah (V6 _) (by omega)
 refine d1 (λc=>?_) λc=>?_
 .refine d1 (λbz=>?_) λbz=>?_
  .have bz:q=0:=by simpa using bz
   exact V7 ⟨g,sx a7 bz⟩
  .have bz:¬q=0:=by simpa using bz
   exact BJ O gf P g a7 (by omega) (by omega) aB fF eh (by omega) rest
 .have e:q=i:=by omega
  subst e;exact BJ O gf P g h fh hi aB fF a9 aZ rest
end
end Tm
end
section
namespace Tm
open PySem PyProof.Rows
noncomputable abbrev zA:Type:=Option (Array Keyed)×Nat×Nat×Array Keyed×Nat×Nat
noncomputable abbrev n7:Type:=Option (Array Keyed)×Nat×Nat×Array Keyed×Nat
section
variable{M:Model}{A:Around}{E:Value->Shared->Prop}{s:Shared}{κ:SortKind}{S:Keyed->Prop}{lt:Keyed->Keyed->Bool}{a b r:Array Keyed}{st0 st:SortSt}{i j aF ca cf N:Nat}
def gP.less{cL:Nat}(h:gP lt a b N r i j)(aZ:cL<=N):gP lt a b cL r i j:=⟨h.1,h.2.1,h.2.2.1,h.2.2.2.1,h.2.2.2.2.1,h.2.2.2.2.2.1,W7 aZ h.2.2.2.2.2.2⟩
def gP.no(h:gP lt a b N r i j)(aZ:a.size+b.size<=N):False:=by
 obtain⟨_,J,aa,aL,a7,cu,gZ⟩:=h;omega
theorem ky.less{t:lI}{cL:Nat}(h:ky lt a b N t)(aZ:cL<=N):ky lt a b cL t:=by
 obtain⟨o,t⟩:=t;cases o with
 |some res=>exact h
 |none=>exact gP.less h aZ
def OH {Q : Array Keyed -> SortSt -> Prop} (O : eC M A E s κ S lt) (aw : kindOf st = κ) (P : pR S lt a b) (aA : 0 < a.size) (ae : 0 < b.size) (h0 : ∀ x (ah : x < b.size), le lt b[x] (a[a.size - 1]'(by omega))) (aK : ∀ res aJ, bW st aJ -> eZ lt a.toList b.toList res.toList -> Q res aJ) :
    wpS M A E s (xR a b) Q st := by
  rw [OG]
  dsimp only
  refine V3 (ZO (Ya ⟨rfl, ?_⟩))
  refine V3 (ff (by omega) ?_)
  have d3 : a.toList.take a.size = a.toList := WS (by rw [Array.length_toList]; exact VZ _)
  have ed : b.toList.take b.size = b.toList := WS (by rw [Array.length_toList]; exact VZ _)
  have m0 : fY lt a b #[] a.size b.size := by
    refine ⟨?_, ?_, ?_⟩
    · rw [d3, ed]; simp
    · rw [d3]; simpa using rF P.k5
    · rw [ed]; simpa using rF P.bX
  have gw : fY lt a b #[a[a.size - 1]'(by omega)] (a.size - 1) b.size := dS.o6 m0 aA (VZ _) fun x ah _ => h0 x ah
  refine d1 (fun c => ?_) fun c => ?_
  · have c : a.size - 1 = 0 := by simpa using c
    exact V7 (aK _ _ (.refl st) (sx gw c))
  · have c : ¬ a.size - 1 = 0 := by simpa using c
    refine d1 (fun bz => ?_) fun bz => ?_
    · have bz : b.size = 1 := by simpa using bz
      exact V7 (aK _ _ (.refl st) (sy P gw bz))
    · have bz : ¬ b.size = 1 := by simpa using bz
      refine V3 (Y9 ?_)
      refine V3 (Xo (WT (I := fun x (c : n7) aJ => bW st aJ /\ c.1 = none /\ gP lt a b (x + 1) c.2.2.2.1 c.2.1 c.2.2.1) (Q := fun (c : n7) aJ => bW st aJ /\ ∃ res, c.1 = some res /\ eZ lt a.toList b.toList res.toList)
        ?step ?fin ⟨.refl st, rfl, gw, by show 0 < a.size - 1; omega, by show a.size - 1 <= a.size; omega, by show 1 < b.size; omega, VZ _, by show 1 + (a.size - 1) + b.size = a.size + b.size; omega, VZ _⟩) ?post)
      case fin =>
        rintro ⟨o, i, j, r, aF⟩ aJ ⟨g, _, cn⟩
        exact (cn.no (by rw [WD (V6 _)]; omega)).elim
      case post =>
        rintro ⟨o, i, j, r, aF⟩ aJ ⟨g, res, rfl, m⟩
        exact V7 (aK res aJ g m)
      case step =>
        rintro x ⟨o, i, j, r, aF⟩ da _ ah ⟨g1, rfl, pM⟩
        dsimp only at pM ⊢
        refine V3 (Xo (WT (I := fun y (c : zA) aJ => bW st aJ /\ c.1 = none /\ gP lt a b (x + 1 + y) c.2.2.2.1 c.2.1 c.2.2.1)
          (Q := fun (c : zA) aJ => bW st aJ /\ ky lt a b (x + 2) (c.1, c.2.1, c.2.2.1, c.2.2.2.1, 0, 0, 0)) ?step2 ?fin2 ⟨g1, rfl, pM⟩) ?post2)
        case fin2 =>
          rintro ⟨o, i, j, r, ca, cf⟩ aJ ⟨g, _, cn⟩
          exact (cn.no (by rw [WD (V6 _)]; omega)).elim
        case step2 =>
          rintro y ⟨o, i, j, r, ca, cf⟩ eg _ aC ⟨g2, rfl, kx⟩
          dsimp only at kx ⊢
          obtain ⟨hC, ke, aN, ba, iy, b5, dn⟩ := kx
          have kQ : i - 1 < a.size := by omega
          have jr : j - 1 < b.size := by omega
          refine V3 (ff jr (V3 (ff kQ ?_)))
          refine V3 (O.ask _ _ _ _ (P.cK _ jr) (P.eA _ kQ) (g2.1.trans aw) ?_)
          cases e : lt (b[j - 1]'jr) (a[i - 1]'kQ) with
          | true =>
            dsimp only
            rw [if_pos rfl]
            refine V3 (ff kQ ?_)
            have gJ := dS.o6 hC ke aN fun x ah bU => O.d0 _ _ _ (P.cK _ ah) (P.cK _ jr) (P.eA _ kQ) (P.bX x (j - 1) ah jr (V6 _) (by omega) (by omega)) (O.ho _ _ (P.cK _ jr) (P.eA _ kQ) e)
            refine d1 (fun cW => ?_) fun cW => ?_
            · have cW : i - 1 = 0 := by simpa using cW
              exact V7 ⟨g2, sx gJ cW⟩
            · have cW : ¬ i - 1 = 0 := by simpa using cW
              have ja : gP lt a b (x + 1 + (y + 1)) (r.push (a[i - 1]'kQ)) (i - 1) j := ⟨gJ, by omega, by omega, ba, iy, by rw [Wq]; omega, by rw [Wq]; omega⟩
              refine d1 (fun _ => ?_) fun _ => ?_
              · exact V7 ⟨g2, gP.less ja (by omega)⟩
              · exact V7 ⟨g2, rfl, ja⟩
          | false =>
            dsimp only
            rw [if_neg (by simp)]
            refine V3 (ff jr ?_)
            have gJ := dS.o7 hC (by omega) iy fun x ah bU => O.d0 _ _ _ (P.eA _ ah) (P.eA _ kQ) (P.cK _ jr) (P.k5 x (i - 1) ah kQ (V6 _) (by omega) (by omega)) e
            refine d1 (fun cW => ?_) fun cW => ?_
            · have cW : j - 1 = 1 := by simpa using cW
              exact V7 ⟨g2, sy P gJ cW⟩
            · have cW : ¬ j - 1 = 1 := by simpa using cW
              have ja : gP lt a b (x + 1 + (y + 1)) (r.push (b[j - 1]'jr)) i (j - 1) := ⟨gJ, ke, aN, by omega, by omega, by rw [Wq]; omega, by rw [Wq]; omega⟩
              refine d1 (fun _ => ?_) fun _ => ?_
              · exact V7 ⟨g2, gP.less ja (by omega)⟩
              · exact V7 ⟨g2, rfl, ja⟩
        case post2 =>
          rintro ⟨o, i, j, r, ca, cf⟩ eg ⟨g2, p⟩
          cases o with
          | some res => exact V7 ⟨g2, res, rfl, p⟩
          | none =>
            have kx : gP lt a b (x + 2) r i j := p
            dsimp only
            refine V3 (ZO (Ya ⟨rfl, ?_⟩))
            refine V3 (Xo (WT (I := fun z (c : lI) aJ => bW st aJ /\ c.1 = none /\ gP lt a b (x + 2 + z) c.2.2.2.1 c.2.1 c.2.2.1) (Q := fun (c : lI) aJ => bW st aJ /\ ky lt a b (x + 2) c)
              ?step3 ?fin3 ⟨g2, rfl, kx⟩) ?post3)
            case fin3 =>
              rintro ⟨o, i, j, r, aF, ca, cf⟩ aJ ⟨g, _, cn⟩
              exact (cn.no (by rw [WD (V6 _)]; omega)).elim
            case step3 =>
              rintro z ⟨o, i, j, r, aF, ca, cf⟩ gk _ hz ⟨g3, rfl, gJ, ke, aN, ba, iy, b5, dn⟩
              dsimp only at gJ ke aN ba iy b5 dn ⊢
              have go : ∀ rg, wpS M A E s (J a b r i j rg ca cf) (iJ lt a b (x + 2 + (z + 1)) st) gk := fun rg => LB O aw P g3 gJ ke aN ba iy b5 (by omega)
              refine d1 (fun _ => ?_) fun _ => ?_
              · refine Xo (go (aF - 1)) fun f aJ hf => ?_
                cases f with
                | done t => exact ⟨hf.1, ky.less hf.2 (by omega)⟩
                | yield t =>
                  obtain ⟨o, t⟩ := t
                  obtain ⟨g', rfl, hf⟩ := hf
                  exact ⟨g', rfl, hf⟩
              · refine Xo (go aF) fun f aJ hf => ?_
                cases f with
                | done t => exact ⟨hf.1, ky.less hf.2 (by omega)⟩
                | yield t =>
                  obtain ⟨o, t⟩ := t
                  obtain ⟨g', rfl, hf⟩ := hf
                  exact ⟨g', rfl, hf⟩
            case post3 =>
              rintro ⟨o, i, j, r, aF, ca, cf⟩ gk ⟨g3, p⟩
              cases o with
              | some res => exact V7 ⟨g3, res, rfl, p⟩
              | none => exact V3 (Xw (V7 ⟨g3.set _, rfl, p⟩))
end
end Tm
end
section
namespace Tm
open PySem PyProof.Rows
def Oy(i:Nat):mergeAt' i=(do
 let s <- get
 let (some (u,n,e5),some (v,m,_)):=((pendingOf s)[i]?,(pendingOf s)[i+1]?)|unsupported "internal:list.sort.pending"
 set (setPending s (((pendingOf s).setIfInBounds i (u,n+m,e5)).eraseIdxIfInBounds (i+1)))
 let some k <- hP false (<- elem' (arrOf s) v) (arrOf s) u n 0|return false
 let (u,n):=(u+k,n-k)
 if n==0 then return true
 let some m <- hP true (<- elem' (arrOf s) (u+n-1)) (arrOf s) v m (m-1)|return false
 if m==0 then return true
 let x:=(arrOf s).extract u v
 let y:=(arrOf s).extract v (v+m)
 let out <- if n<=m then xT x y else xR x y
 modify λs=>setArr s (out.toList.zipIdx.foldl (λa (p,j)=>a.setIfInBounds (u+j) p) (arrOf s))
 return (failedOf (<- get)).isNone):=rfl
theorem Br:∀(m:List Keyed)(arr:Array Keyed)(k o:Nat),k+o+m.length<=arr.size->((m.zipIdx o).foldl (λa (p:Keyed×Nat)=>a.setIfInBounds (k+p.2) p.1) arr).toList=arr.toList.take (k+o)++m++arr.toList.drop (k+o+m.length)
 |[],arr,k,o,h=>by simp
 |x::m,arr,k,o,h=>by
  rw[List.zipIdx_cons,List.foldl_cons];rw[List.length_cons]at h;rw[Br m _ k (o+1) (by rw[Array.size_setIfInBounds];omega)]
  rw[Zm];dsimp only;have au:k+o<arr.toList.length:=by rw[Array.length_toList];omega
  rw[show k+(o+1)=k+o+1 by omega,List.take_set,List.drop_set_of_lt (by omega),List.length_cons]
  have e:(arr.toList.take (k+o+1)).set (k+o) x=arr.toList.take (k+o)++[x]:=by
   rw[List.take_succ_eq_append_getElem au];rw[YF _ _ (by rw[Wz];omega)]
   congr 1;rw[Wz,Nat.min_eq_left (by omega),aab]
   rfl
  rw[e,show k+o+1+m.length=k+o+(m.length+1) by omega]
  simp only[Wa,List.cons_append,List.nil_append]
def Lb(m:List Keyed)(arr:Array Keyed)(k:Nat)(h:k+m.length<=arr.size):(m.zipIdx.foldl (λa (p:Keyed×Nat)=>a.setIfInBounds (k+p.2) p.1) arr).toList=arr.toList.take k++m++arr.toList.drop (k+m.length):=Br m arr k 0 h
section
variable{M:Model}{A:Around}{E:Value->Shared->Prop}{s:Shared}{κ:SortKind}{S:Keyed->Prop}{lt:Keyed->Keyed->Bool}{st:SortSt}
def jU{a:Array Keyed}{p q x:Nat}(h:x<(a.extract p q).size):∃(h':p+x<a.size),(a.extract p q)[x]=a[p+x]:=by
 rw[WR]at h;exact⟨by omega,Array.getElem_extract ..⟩
def eC.fw(O:eC M A E s κ S lt){x:Keyed}(h:S x):lt x x=false:=by
 cases e:lt x x with
 |false=>rfl
 |true=>exact(O.ho x x h h e▸e).symm▸rfl
def get3{α:Type}(A R Z:List α)(x:Nat):(A++R++Z)[x]?=if x<A.length then A[x]? else if x<A.length+R.length then R[x-A.length]? else Z[x-(A.length+R.length)]?:=by
 rw[List.getElem?_append,V0,List.getElem?_append]
 by_cases J:x<A.length
 .rw[if_pos (by omega),if_pos J,if_pos J]
 .rw[if_neg J,if_neg J]
def P6{α:Type}(p q:List α)(x y:α):(p++x::y::q).toArray[p.length]?=some x/\(p++x::y::q).toArray[p.length+1]?=some y:=by
 constructor<;>simp[Wx]
def P7{α:Type}(p q:List α)(x y z:α):((p++x::y::q).toArray.setIfInBounds p.length z).eraseIdxIfInBounds (p.length+1)=(p++z::q).toArray:=by
 apply YP.mp;rw[Array.toList_eraseIdxIfInBounds,Zm];show((p++x::y::q).set p.length z).eraseIdx (p.length+1)=p++z::q;rw[YF _ _ (VZ _),aab,List.eraseIdx_append_of_length_le (Nat.le_add_right _ _),ZN];rfl
def Oz {Q : Bool -> SortSt -> Prop} {u n m : Nat} {e5 yl : Nat} {p q : List (Nat × Nat × Nat)} (O : eC M A E s κ S lt) (aw : kindOf st = κ) (hf : failedOf st = none) (aE : pendingOf st = (p ++ (u, n, e5) :: (u + n, m, yl) :: q).toArray) (az : 0 < n) (hm : 0 < m) (hz : u + n + m <= (arrOf st).size)
    (aX : ∀ x (ah : x < (arrOf st).size), S (arrOf st)[x]) (J : hl lt (arrOf st) u n) (aa : hl lt (arrOf st) (u + n) m)
    (aK : ∀ aJ, kindOf aJ = κ -> failedOf aJ = none -> pendingOf aJ = (p ++ (u, n + m, e5) :: q).toArray -> (arrOf aJ).toList.Perm (arrOf st).toList -> (∀ k, (k < u \/ u + n + m <= k) -> (arrOf aJ)[k]? = (arrOf st)[k]?) -> hl lt (arrOf aJ) u (n + m) -> Q true aJ) : wpS M A E s (mergeAt' p.length) Q st := by
  rw [Oy]
  refine V3 (Y9 ?_)
  simp only [aE, P6, P7]
  have US : ∀ {Q : PUnit -> SortSt -> Prop} {x : SortSt}, Q ⟨⟩ x -> wpS M A E s (set x : StateT SortSt Sem PUnit) Q st := fun {Q x} h => by
    unfold wpS; rw [StateT.run_set]; exact wpAny_pure ⟨rfl, h⟩
  refine V3 (US ?_)
  generalize ak : setPending st (p ++ (u, n + m, e5) :: q).toArray = da
  have a0 : kindOf da = κ := by rw [<- ak]; exact aw
  have f1 : failedOf da = none := by rw [<- ak]; exact hf
  have bj : pendingOf da = (p ++ (u, n + m, e5) :: q).toArray := by rw [<- ak]
  have a1 : arrOf da = arrOf st := by rw [<- ak]
  generalize arrOf st = c at hz aX J aa aK a1 ⊢
  generalize aT : u + n = v at *
  have hW : v < c.size := by omega
  refine V3 (ff hW ?_)
  refine V3 (wo O a0 aX (aX _ hW) (by omega) az J fun k aw g1 g2 => ?_)
  dsimp only
  have all : (∀ x (ah : x < c.size), u <= x -> x < v -> le lt c[x] c[v]) -> hl lt c u (n + m) := fun aj x y ah aC h0 hA au => by
    by_cases m1 : y < v
    · exact J x y ah aC h0 hA (by omega)
    · by_cases jQ : x < v
      · exact O.d0 _ _ _ (aX _ ah) (aX _ hW) (aX _ aC) (aj x ah h0 jQ) (aa v y hW aC (VZ _) (by omega) (by omega))
      · exact aa x y ah aC (by omega) hA (by omega)
  refine d1 (fun dh => ?_) fun dh => ?_
  · have dh : n - k = 0 := by simpa using dh
    refine V7 (aK da a0 f1 bj (by rw [a1]) (fun _ _ => by rw [a1]) (by rw [a1]; exact all fun x ah ma l => g1 x ah ma (by omega)))
  · have dh : ¬ n - k = 0 := by simpa using dh
    have au : u + k + (n - k) - 1 = v - 1 := by omega
    rw [au]
    have nj : v - 1 < c.size := by omega
    refine V3 (ff nj ?_)
    refine V3 (wq O a0 aX (aX _ nj) (by omega) (by omega) aa fun dr sR g3 iR => ?_)
    dsimp only
    refine d1 (fun p2 => ?_) fun p2 => ?_
    · have p2 : dr = 0 := by simpa using p2
      have hw := all fun x ah ma l => O.d0 _ _ _ (aX _ ah) (aX _ nj) (aX _ hW) (J x (v - 1) ah nj ma (by omega) (by omega)) (iR v hW (by omega) (by omega))
      exact V7 (aK da a0 f1 bj (by rw [a1]) (fun _ _ => by rw [a1]) (by rw [a1]; exact hw))
    · have p2 : ¬ dr = 0 := by simpa using p2
      generalize ae : u + k = b at *
      have ll : (c.extract b v).size = v - b := by rw [WR]; omega
      have nU : (c.extract v (v + dr)).size = dr := by rw [WR]; omega
      have zy : ∀ x (ah : x < (c.extract b v).size), S (c.extract b v)[x] := fun x ah => by obtain ⟨h', e⟩ := jU ah; rw [e]; exact aX _ h'
      have zz : ∀ x (ah : x < (c.extract v (v + dr)).size), S (c.extract v (v + dr))[x] := fun x ah => by obtain ⟨h', e⟩ := jU ah; rw [e]; exact aX _ h'
      have zr : hl lt (c.extract b v) 0 (c.extract b v).size := fun x y ah aC _ hA _ => by
        obtain ⟨eB, ak⟩ := jU ah
        obtain ⟨h7, av⟩ := jU aC
        rw [ak, av]
        exact J _ _ eB h7 (by omega) (by omega) (by rw [ll] at aC; omega)
      have zt : hl lt (c.extract v (v + dr)) 0 (c.extract v (v + dr)).size := fun x y ah aC _ hA _ => by
        obtain ⟨eB, ak⟩ := jU ah
        obtain ⟨h7, av⟩ := jU aC
        rw [ak, av]
        exact aa _ _ eB h7 (by omega) (by omega) (by rw [nU] at aC; omega)
      have below : ∀ y (aC : y < (c.extract v (v + dr)).size), le lt (c.extract v (v + dr))[y] c[v - 1] := fun y aC => by
        obtain ⟨eB, ak⟩ := jU aC
        rw [ak]
        exact O.ho _ _ (aX _ eB) (aX _ nj) (g3 _ eB (by omega) (by rw [nU] at aC; omega))
      have CQ : ∀ z, (c.extract b v).toList[(c.extract b v).toList.length - 1]? = some z -> z = c[v - 1] := fun z hz => by
        rw [Array.length_toList, ll, Wj, V4 (by rw [ll]; omega)] at hz
        obtain ⟨eB, ak⟩ := jU (a := c) (p := b) (q := v) (x := v - b - 1) (by rw [ll]; omega)
        rw [ak] at hz
        cases hz
        congr 1
        omega
      have Bk : ∀ x (ah : x < (c.extract b v).size), le lt c[v] (c.extract b v)[x] := fun x ah => by
        obtain ⟨eB, ak⟩ := jU ah
        rw [ak]
        exact O.ho _ _ (aX _ hW) (aX _ eB) (g2 _ eB (by omega) (by rw [ll] at ah; omega))
      have Gv : (c.extract v (v + dr))[0]'(by rw [nU]; omega) = c[v] := by
        obtain ⟨eB, ak⟩ := jU (a := c) (p := v) (q := v + dr) (x := 0) (by rw [nU]; omega)
        rw [ak]
        rfl
      have fin : ∀ (res : Array Keyed) (eg : SortSt), bW da eg -> eZ lt (c.extract b v).toList (c.extract v (v + dr)).toList res.toList -> wpS M A E s (do
          modify fun s => setArr s (res.toList.zipIdx.foldl (fun a (p, j) => a.setIfInBounds (b + j) p) (arrOf s))
          return (failedOf (<- get)).isNone) Q eg := fun res eg g aF => by
        refine V3 (Xw (V3 (Y9 (V7 ?_))))
        have Bh : failedOf eg = none := g.2.2.2.trans f1
        have GP : arrOf eg = c := g.2.1.trans a1
        have hlen : res.toList.length = v - b + dr := by rw [aF.1.length_eq, V0, Array.length_toList, Array.length_toList, ll, nU]
        have nc : (res.toList.zipIdx.foldl (fun a (p : Keyed × Nat) => a.setIfInBounds (b + p.2) p.1) (arrOf eg)).toList = c.toList.take b ++ res.toList ++ c.toList.drop (v + dr) := by
          rw [GP, Lb _ _ _ (by rw [hlen]; omega), hlen]
          congr 2
          omega
        have dE : c.toList = c.toList.take b ++ ((c.extract b v).toList ++ (c.extract v (v + dr)).toList) ++ c.toList.drop (v + dr) := by
          rw [nd, nd]
          have aN : c.toList.take v = c.toList.take b ++ (c.toList.take v).drop b := t8 _ (by omega)
          have ba : c.toList.take (v + dr) = c.toList.take v ++ (c.toList.take (v + dr)).drop v := t8 _ (by omega)
          rw [<- Wa, <- aN, <- ba, WZ]
        show Q (failedOf eg).isNone _
        rw [Bh]
        have CO : (c.toList.take b).length = b := by rw [Wz, Array.length_toList]; omega
        refine aK _ (g.1.trans a0) Bh (g.2.2.1.trans bj) ?_ ?_ ?_
        · show (res.toList.zipIdx.foldl (fun a (p : Keyed × Nat) => a.setIfInBounds (b + p.2) p.1) (arrOf eg)).toList.Perm _
          rw [nc]
          conv => rhs; rw [dE]
          exact XX _ (XC _ aF.1)
        · intro x ah
          show (res.toList.zipIdx.foldl (fun a (p : Keyed × Nat) => a.setIfInBounds (b + p.2) p.1) (arrOf eg))[x]? = _
          rw [<- Wj, <- Wj, nc, get3, CO, hlen]
          by_cases dp : x < b
          · rw [if_pos dp, List.getElem?_take, if_pos dp]
          · rw [if_neg dp, if_neg (by omega), Zn]
            congr 1
            omega
        · show hl lt (res.toList.zipIdx.foldl (fun a (p : Keyed × Nat) => a.setIfInBounds (b + p.2) p.1) (arrOf eg)) u (n + m)
          generalize res.toList.zipIdx.foldl (fun a (p : Keyed × Nat) => a.setIfInBounds (b + p.2) p.1) (arrOf eg) = cy at nc
          have jx : ∀ x ∈ res.toList, ∃ i, ∃ (hi : i < c.size), b <= i /\ i < v + dr /\ x = c[i] := fun x ah => by
            rcases Wi.mp (aF.1.mem_iff.mp ah) with ah | ah
            · rw [nd] at ah
              obtain ⟨i, hi, bU, cJ, rfl⟩ := tn ah
              rw [Array.length_toList] at hi
              exact ⟨i, hi, bU, by omega, rfl⟩
            · rw [nd] at ah
              obtain ⟨i, hi, bU, cJ, rfl⟩ := tn ah
              rw [Array.length_toList] at hi
              exact ⟨i, hi, by omega, cJ, rfl⟩
          have Oo : ∀ i j (hi : i < c.size) (aB : j < c.size), u <= i -> i < b -> b <= j -> j < v + m -> le lt c[i] c[j] := fun i j hi aB ma bU cJ e4 => by
            by_cases Vc : j < v
            · exact J i j hi aB ma (by omega) (by omega)
            · exact O.d0 _ _ _ (aX _ hi) (aX _ hW) (aX _ aB) (g1 i hi ma (by omega)) (aa v j hW aB (VZ _) (by omega) (by omega))
          have F1 : ∀ i j (hi : i < c.size) (aB : j < c.size), u <= i -> i < v + dr -> v + dr <= j -> j < v + m -> le lt c[i] c[j] := fun i j hi aB ma bU cJ e4 => by
            by_cases ci : i < v
            · exact O.d0 _ _ _ (aX _ hi) (aX _ nj) (aX _ aB) (J i (v - 1) hi nj ma (by omega) (by omega)) (iR j aB (by omega) (by omega))
            · exact aa i j hi aB (by omega) (by omega) (by omega)
          have zW : ∀ x (ah : x < cy.size), c.toList.take b ++ res.toList ++ c.toList.drop (v + dr) = cy.toList -> (x < b -> ∃ (h : x < c.size), cy[x] = c[x]) /\ (v + dr <= x -> ∃ (h : x < c.size), cy[x] = c[x]) /\ (b <= x -> x < v + dr -> ∃ (h : x - b < res.toList.length), cy[x] = res.toList[x - b]) := fun x ah JB => by
            have g3 := get3 (c.toList.take b) res.toList (c.toList.drop (v + dr)) x
            rw [JB, CO, hlen, Wj, V4 ah] at g3
            refine ⟨fun l => ?_, fun l => ?_, fun l iu => ?_⟩
            · rw [if_pos l, List.getElem?_take, if_pos l, Wj, V4 (by omega)] at g3
              exact ⟨by omega, WE g3⟩
            · rw [if_neg (by omega), if_neg (by omega), Zn, show v + dr + (x - (b + (v - b + dr))) = x by omega, Wj] at g3
              obtain ⟨h, e⟩ := Wy.mp g3.symm
              exact ⟨h, e.symm⟩
            · rw [if_neg (by omega), if_pos (by omega)] at g3
              obtain ⟨h, e⟩ := Wl.mp g3.symm
              exact ⟨h, e.symm⟩
          intro x y ah aC h0 hA au
          obtain ⟨aR, bI, ia⟩ := zW x ah nc.symm
          obtain ⟨pC, n1, Gw⟩ := zW y aC nc.symm
          by_cases m1 : x < b
          · obtain ⟨c9, ex⟩ := aR m1
            rw [ex]
            by_cases jQ : y < b
            · obtain ⟨iX, eK⟩ := pC jQ
              rw [eK]; exact J x y c9 iX h0 hA (by omega)
            · by_cases vO : y < v + dr
              · obtain ⟨iX, eK⟩ := Gw (by omega) vO
                rw [eK]
                obtain ⟨j, aB, bU, cJ, e⟩ := jx _ (YQ iX)
                rw [e]; exact Oo x j c9 aB h0 m1 bU (by omega)
              · obtain ⟨iX, eK⟩ := n1 (by omega)
                rw [eK]; exact F1 x y c9 iX h0 (by omega) (by omega) (by omega)
          · by_cases vO : x < v + dr
            · obtain ⟨c9, ex⟩ := ia (by omega) vO
              rw [ex]
              by_cases jQ : y < v + dr
              · obtain ⟨iX, eK⟩ := Gw (by omega) jQ
                rw [eK]
                by_cases KC : x = y
                · subst KC
                  obtain ⟨j, aB, bU, cJ, e⟩ := jx _ (YQ iX)
                  rw [e]
                  exact O.fw (aX _ aB)
                · exact XD.mp aF.2 _ _ c9 iX (by omega)
              · obtain ⟨iX, eK⟩ := n1 (by omega)
                rw [eK]
                obtain ⟨j, aB, bU, cJ, e⟩ := jx _ (YQ c9)
                rw [e]; exact F1 j y aB iX (by omega) cJ (by omega) (by omega)
            · obtain ⟨c9, ex⟩ := bI (by omega)
              obtain ⟨iX, eK⟩ := n1 (by omega)
              rw [ex, eK]; exact aa x y c9 iX (by omega) hA (by omega)
      refine d1 (fun _ => ?_) fun _ => ?_
      · refine V3 (OP O a0 ⟨zy, zz, zr, zt, fun y aC z hz => ?_⟩ (by rw [ll]; omega) (by rw [nU]; omega) (fun x ah => by rw [Gv]; exact Bk x ah) fin)
        rw [CQ z hz]
        obtain ⟨i, hi, rfl⟩ := Xj.mp aC
        rw [Array.length_toList] at hi
        exact below i hi
      · refine V3 (OH O a0 ⟨zy, zz, zr, zt, fun z hz y aC => ?_⟩ (by rw [ll]; omega) (by rw [nU]; omega) (fun x ah => ?_) fin)
        · obtain ⟨i, hi, bU, rfl⟩ := rd hz
          obtain rfl : i = 0 := by omega
          obtain ⟨j, aB, rfl⟩ := Xj.mp aC
          rw [Array.length_toList] at aB
          have := Bk j aB
          rw [<- Gv] at this
          exact this
        · have := below x ah
          have e := CQ ((c.extract b v)[(c.extract b v).size - 1]'(by rw [ll]; omega)) (by rw [Array.length_toList, Wj]; exact V4 _)
          rw [e]
          exact this
end
end Tm
end
section
namespace Tm
open PySem PyProof.Rows
noncomputable abbrev at_(c:Array Keyed)(x:Nat):Keyed:=c.getD x (Value.none,Value.none)
def mT{c:Array Keyed}{x:Nat}(h:x<c.size):at_ c x=c[x]:=by
 show c.getD x _=_;unfold Array.getD;rw[ZA h];rfl
def mU{c d:Array Keyed}{x y:Nat}(h:c[x]?=d[y]?):at_ c x=at_ d y:=by
 show c.getD x _=d.getD y _;rw[W3,W3,h]
def jd{c:Array Keyed}{i j:Nat}(aB:j<=c.size)(k:Nat):at_ (mirror c i j ((j-i) / 2)) k=if i<=k/\k<j then at_ c (i+j-1-k) else at_ c k:=by
 have h:=getElem?_mirror (i:=i) aB ((j-i) / 2) (by omega) k
 by_cases dp:(i<=k/\k<i+(j-i) / 2)\/(j-(j-i) / 2<=k/\k<j)
 .rw[if_pos dp]at h;rw[if_pos (by omega)]
  exact mU h
 .rw[if_neg dp]at h
  by_cases bz:i<=k/\k<j
  .rw[if_pos bz];have:i+j-1-k=k:=by omega
   rw[this];exact mU h
  .rw[if_neg bz];exact mU h
def u0{c:Array Keyed}{k d:Nat}(aw:k<c.size)(hd:d<=k)(x:Nat):at_ (bubble c k d) x=if x=k-d then at_ c k else if k-d<x/\x<=k then at_ c (x-1) else at_ c x:=by
 have h:=getElem?_bubble aw d hd x
 by_cases dp:x=k-d
 .rw[if_pos dp]at h ⊢;exact mU h
 .rw[if_neg dp]at h ⊢
  by_cases bz:k-d<x/\x<=k
  .rw[if_pos bz]at h ⊢;exact mU h
  .rw[if_neg bz]at h ⊢;exact mU h
noncomputable def eX(lt:Keyed->Keyed->Bool)(c:Array Keyed)(l n:Nat):Prop:=∀x y,l<=x->x<=y->y<l+n->le lt (at_ c x) (at_ c y)
noncomputable def Dec(lt:Keyed->Keyed->Bool)(c:Array Keyed)(l n:Nat):Prop:=∀x y,l<=x->x<=y->y<l+n->le lt (at_ c y) (at_ c x)
structure dH(c d:Array Keyed)(l h:Nat):Prop where
 size:d.size=c.size
 perm:d.toList.Perm c.toList
 out:∀k,(k<l\/h<=k)->at_ d k=at_ c k
theorem dH.refl(c:Array Keyed)(l h:Nat):dH c c l h:=⟨rfl,.refl _,λ_ _=>rfl⟩
theorem dH.trans{c d e:Array Keyed}{l h:Nat}(x:dH c d l h)(y:dH d e l h):dH c e l h:=⟨y.size.trans x.size,y.perm.trans x.perm,λk q=>(y.out k q).trans (x.out k q)⟩
def dH.mono{c d:Array Keyed}{l h iu h':Nat}(x:dH c d l h)(a:iu<=l)(b:h<=h'):dH c d iu h':=⟨x.size,x.perm,λk q=>x.out k (by omega)⟩
def dH.rev{c:Array Keyed}{i j:Nat}(aB:j<=c.size):dH c (mirror c i j ((j-i) / 2)) i j :=
 ⟨mirror_size ..,Zo.mp (mirror_perm ..),λk q=>by rw[jd aB,if_neg (by omega)]⟩
def dH.HL{c:Array Keyed}{k d:Nat}(aw:k<c.size)(hd:d<=k):dH c (bubble c k d) (k-d) (k+1) :=
 ⟨bubble_size ..,Zo.mp (bubble_perm ..),λx q=>by rw[u0 aw hd,if_neg (by omega),if_neg (by omega)]⟩
section
variable{M:Model}{A:Around}{E:Value->Shared->Prop}{s:Shared}{κ:SortKind}{S:Keyed->Prop}{lt:Keyed->Keyed->Bool}{st aJ:SortSt}{c d:Array Keyed}{l h n:Nat}
noncomputable abbrev fm(S:Keyed->Prop)(c:Array Keyed):Prop:=∀x∈c.toList,S x
theorem fm.at_(h:fm S c){x:Nat}(ah:x<c.size):S (at_ c x):=by rw[mT ah];exact h _ (by simp)
def fm.perm(h:fm S c)(p:d.toList.Perm c.toList):fm S d:=λx ah=>h x (p.mem_iff.mp ah)
def pW(O:eC M A E s κ S lt)(aw:kindOf st=κ)(aX:fm S (arrOf st)){i j:Nat}(hi:i<(arrOf st).size)(aB:j<(arrOf st).size){Q:Option Bool->SortSt->Prop}(q:Q (some (lt (at_ (arrOf st) i) (at_ (arrOf st) j))) st):wpS M A E s (ltAt' i j) Q st:=by
 rw[ltAt'_eq];refine V3 (Y9 ?_);show wpS _ _ _ _ (do let x <- elem' (arrOf st) i;let y <- elem' (arrOf st) j;lt' x y) Q st
 refine V3 (ff hi (V3 (ff aB ?_)));rw[mT hi,mT aB]at q;exact O.ask _ _ _ _ (aX _ (by simp)) (aX _ (by simp)) aw q
def eX.snoc(O:eC M A E s κ S lt)(aX:fm S c)(az:l+n<c.size)(h0:0<n)(h:eX lt c l n)(q:le lt (at_ c (l+n-1)) (at_ c (l+n))):eX lt c l (n+1):=by
 intro x y J aa aL
 by_cases e:y=l+n
 .subst e
  by_cases av:x=l+n
  .subst av;exact O.fw (aX.at_ az)
  .exact O.d0 _ _ _ (aX.at_ (by omega)) (aX.at_ (by omega)) (aX.at_ az) (h x (l+n-1) J (by omega) (by omega)) q
 .exact h x y J aa (by omega)
def Dec.snoc(O:eC M A E s κ S lt)(aX:fm S c)(az:l+n<c.size)(h0:0<n)(h:Dec lt c l n)(q:le lt (at_ c (l+n)) (at_ c (l+n-1))):Dec lt c l (n+1):=by
 intro x y J aa aL
 by_cases e:y=l+n
 .subst e
  by_cases av:x=l+n
  .subst av;exact O.fw (aX.at_ az)
  .exact O.d0 _ _ _ (aX.at_ az) (aX.at_ (by omega)) (aX.at_ (by omega)) q (h x (l+n-1) J (by omega) (by omega))
 .exact h x y J aa (by omega)
def eX.one(O:eC M A E s κ S lt)(aX:fm S c)(az:l<c.size):eX lt c l 1:=λx y J aa aL=>by
 obtain rfl:x=l:=by omega
 obtain rfl:y=x:=by omega
 exact O.fw (aX.at_ az)
def Dec.rev(h:Dec lt c l n)(az:l+n<=c.size):eX lt (mirror c l (l+n) ((l+n-l) / 2)) l n:=by
 intro x y J aa aL;rw[jd az,jd az,if_pos (by omega),if_pos (by omega)]
 exact h _ _ (by omega) (by omega) (by omega)
def eX.Pe(h:eX lt c l n){a b:Nat}(p:dH c d a b)(q:l+n<=a\/b<=l):eX lt d l n:=λx y J aa aL=>by
 rw[p.out x (by omega),p.out y (by omega)];exact h x y J aa aL
def eX.cY(h:eX lt c l n):hl lt c l n:=λx y ah aC J aa aL=>by
 have:=h x y J aa aL;rw[mT ah,mT aC]at this;exact this
end
end Tm
end
section
namespace Tm
open PySem PyProof.Rows
noncomputable def hG(l z i1:Nat):StateT SortSt Sem (Option Nat):=do
 reverseSlice' l (l+i1)
 let mut n:=i1
 for _ in [n:z] do
  let some q <- ltAt' (l+n) (l+n-1)|return none
  if q then break
  n:=n+1
 return some n
noncomputable def lT(l z i1:Nat):StateT SortSt Sem (Option Nat):=do
 rule "list.sort.descending-run"
 let mut n:=i1+1
 let mut e:=0
 for _ in [n:z] do
  let some q <- ltAt' (l+n) (l+n-1)|return none
  if q then
   if e>0 then reverseSlice' (l+n-(e+1)) (l+n)
   e:=0
  else
   let some g <- ltAt' (l+n-1) (l+n)|return none
   if g then break
   e:=e+1
  n:=n+1
 if e>0 then reverseSlice' (l+n-(e+1)) (l+n)
 hG l z n
def IC(l z:Nat):countRun' l z=(do
 let mut n:=1
 for _ in [1:z] do
  let some q <- ltAt' (l+n) (l+n-1)|return none
  if q then break
  n:=n+1
 if n==z then return some n
 if n>1 then
  let some g <- ltAt' l (l+n-1)|return none
  if g then return some n
  reverseSlice' l (l+n)
 lT l z n):=by
 rw[countRun'_eq];unfold lT hG;rfl
noncomputable def kA(st aJ:SortSt):Prop:=kindOf aJ=kindOf st/\pendingOf aJ=pendingOf st/\failedOf aJ=failedOf st
section
variable{M:Model}{A:Around}{E:Value->Shared->Prop}{s:Shared}{κ:SortKind}{S:Keyed->Prop}{lt:Keyed->Keyed->Bool}{st st0:SortSt}{l z n i1:Nat}
noncomputable def pO(lt:Keyed->Keyed->Bool)(l z:Nat)(st0:SortSt)(o:Option Nat)(aJ:SortSt):Prop:=∃m,o=some m/\1<=m/\m<=z/\kA st0 aJ/\dH (arrOf st0) (arrOf aJ) l (l+z)/\eX lt (arrOf aJ) l m
def zU (O : eC M A E s κ S lt) (aw : kindOf st = κ) (aX : fm S (arrOf st)) (hz : l + z <= (arrOf st).size) (J : 1 <= i1) (az : i1 <= z) (h : eX lt (arrOf st) l i1) {Q : Option (Option Nat) × Nat -> SortSt -> Prop}
    (aK : ∀ n, i1 <= n -> n <= z -> eX lt (arrOf st) l n -> (n = z \/ lt (at_ (arrOf st) (l + n)) (at_ (arrOf st) (l + n - 1)) = true) -> Q (none, n) st) : wpS M A E s (forIn [i1:z] ((none : Option (Option Nat)), i1) fun x __s => do
      let __x <- ltAt' (l + __s.snd) (l + __s.snd - 1)
      match __x with
        | some q => if q = true then pure (ForInStep.done (none, __s.snd)) else pure (ForInStep.yield (none, __s.snd + 1))
        | x => pure (ForInStep.done (some none, __s.snd))) Q st := by
  refine WT (I := fun x (c : Option (Option Nat) × Nat) aJ => aJ = st /\ c.1 = none /\ c.2 = x /\ i1 <= x /\ x <= z /\ eX lt (arrOf st) l x) ?step ?fin ⟨rfl, rfl, rfl, VZ _, az, h⟩
  case fin =>
    rintro ⟨o, n⟩ aJ ⟨rfl, rfl, rfl, a0, aQ, bq⟩
    rw [WD az] at bq ⊢
    exact aK z az (VZ _) bq (.inl rfl)
  case step =>
    rintro x ⟨o, n⟩ aJ _ ah ⟨rfl, rfl, e, a0, aQ, bq⟩
    dsimp only at e ⊢
    subst e
    refine V3 (pW O aw aX (by omega) (by omega) ?_)
    cases e : lt (at_ (arrOf aJ) (l + n)) (at_ (arrOf aJ) (l + n - 1)) with
    | true => dsimp only; rw [if_pos rfl]; exact V7 (aK n a0 aQ bq (.inr e))
    | false => dsimp only; rw [if_neg (by simp)]; exact V7 ⟨rfl, rfl, rfl, by omega, by omega, bq.snoc O aX (by omega) (by omega) e⟩
def FT(O:eC M A E s κ S lt)(gf:kindOf st0=κ)(hS0:fm S (arrOf st0))(ab:kA st0 st)(aE:dH (arrOf st0) (arrOf st) l (l+z))(hz:l+z<=(arrOf st0).size)(J:1<=n)(az:n<=z)(h:Dec lt (arrOf st) l n):wpS M A E s (hG l z n) (pO lt l z st0) st:=by
 unfold hG;rw[YR];refine V3 (Xw ?_);have jt:l+z<=(arrOf st).size:=by rw[aE.size];exact hz
 generalize ak:setArr st (mirror (arrOf st) l (l+n) ((l+n-l) / 2))=da;have a1:arrOf da=mirror (arrOf st) l (l+n) ((l+n-l) / 2):=by rw[<- ak]
 have s1:kA st0 da:=by rw[<- ak];exact ab
 have bj:dH (arrOf st0) (arrOf da) l (l+z):=by rw[a1];exact aE.trans ((dH.rev (by omega)).mono (VZ _) (by omega))
 have eS:eX lt (arrOf da) l n:=by rw[a1];exact h.rev (by omega)
 refine V3 (zU O (s1.1.trans gf) (hS0.perm bj.perm) (by rw[bj.size];exact hz) J az eS λm a0 aQ bq _=>?_)
 exact V7 ⟨m,rfl,by omega,aQ,s1,bj,bq⟩
def HH (O : eC M A E s κ S lt) {c : Array Keyed} (aX : fm S c) {e : Nat} (az : l + n <= c.size) (he : e + 1 <= n) (h : Dec lt c l n) (ae : ∀ x y, l + n - (e + 1) <= x -> x < l + n -> l + n - (e + 1) <= y -> y < l + n -> le lt (at_ c x) (at_ c y)) :
    Dec lt (mirror c (l + n - (e + 1)) (l + n) ((l + n - (l + n - (e + 1))) / 2)) l n := by
  intro x y J aa aL
  rw [jd az, jd az]
  by_cases m1 : l + n - (e + 1) <= x
  · rw [if_pos (by omega), if_pos (by omega)]
    exact ae _ _ (by omega) (by omega) (by omega) (by omega)
  · rw [if_neg (show ¬ (l + n - (e + 1) <= x /\ x < l + n) by omega)]
    by_cases jQ : l + n - (e + 1) <= y
    · rw [if_pos (by omega)]
      exact h _ _ J (by omega) (by omega)
    · rw [if_neg (by omega)]
      exact h _ _ J aa aL
structure lA(lt:Keyed->Keyed->Bool)(S:Keyed->Prop)(l z:Nat)(st0 st:SortSt)(n e:Nat):Prop where
 ss:kA st0 st
 dJ:dH (arrOf st0) (arrOf st) l (l+z)
 dec:Dec lt (arrOf st) l n
 len:e+1<=n
 tv:n<=z
 eq:∀x y,l+n-(e+1)<=x->x<l+n->l+n-(e+1)<=y->y<l+n->le lt (at_ (arrOf st) x) (at_ (arrOf st) y)
def lA.turn{e:Nat}(O:eC M A E s κ S lt)(hS0:fm S (arrOf st0))(hz:l+z<=(arrOf st0).size)(h:lA lt S l z st0 st n e):lA lt S l z st0 (setArr st (mirror (arrOf st) (l+n-(e+1)) (l+n) ((l+n-(l+n-(e+1))) / 2))) n 0:=by
 have J:=h.len;have aa:=h.tv;have jt:l+n<=(arrOf st).size:=by rw[h.dJ.size];omega
 refine⟨h.ss,h.dJ.trans ((dH.rev jt).mono (by omega) (by omega)),HH O (hS0.perm h.dJ.perm) jt J h.dec h.eq,by omega,h.tv,λx y a0 aQ bq bY=>?_⟩
 have ex:x=l+n-1:=by omega
 have eK:y=l+n-1:=by omega
 subst ex eK;have dJ:dH (arrOf st0) (mirror (arrOf st) (l+n-(e+1)) (l+n) ((l+n-(l+n-(e+1))) / 2)) l (l+z):=h.dJ.trans ((dH.rev jt).mono (by omega) (by omega))
 exact O.fw ((hS0.perm dJ.perm).at_ (by rw[dJ.size];omega))
def AJ (O : eC M A E s κ S lt) (gf : kindOf st0 = κ) (hS0 : fm S (arrOf st0)) (ab : kA st0 st) (aE : dH (arrOf st0) (arrOf st) l (l + z)) (hz : l + z <= (arrOf st0).size) (az : n < z) (h : Dec lt (arrOf st) l (n + 1)) : wpS M A E s (lT l z n) (pO lt l z st0) st := by
  unfold lT
  refine V3 (ZO (Ya ⟨rfl, ?_⟩))
  have m3 : lA lt S l z st0 st (n + 1) 0 := by
    refine ⟨ab, aE, h, by omega, az, fun x y a0 aQ bq bY => ?_⟩
    have ex : x = l + n := by omega
    have eK : y = l + n := by omega
    subst ex eK
    exact O.fw ((hS0.perm aE.perm).at_ (by rw [aE.size]; omega))
  refine V3 (Xo (WT (I := fun x (c : Option (Option Nat) × Nat × Nat) aJ => c.1 = none /\ c.2.1 = x /\ lA lt S l z st0 aJ x c.2.2) (Q := fun (c : Option (Option Nat) × Nat × Nat) aJ => c.1 = none /\ lA lt S l z st0 aJ c.2.1 c.2.2) ?step ?fin ⟨rfl, rfl, m3⟩) ?post)
  case fin =>
    rintro ⟨o, cE, e⟩ aJ ⟨rfl, rfl, D⟩
    exact ⟨rfl, D⟩
  case post =>
    rintro ⟨o, cE, e⟩ aJ ⟨rfl, D⟩
    dsimp only at D ⊢
    refine d1 (fun _ => ?_) fun _ => ?_
    · rw [YR]
      have i7 := D.turn O hS0 hz
      exact V3 (Xw (FT O gf hS0 i7.ss i7.dJ hz (by have := i7.len; omega) i7.tv i7.dec))
    · exact FT O gf hS0 D.ss D.dJ hz (by have := D.len; omega) D.tv D.dec
  case step =>
    rintro x ⟨o, cE, e⟩ da kT ah ⟨rfl, ak, D⟩
    dsimp only at ak D ⊢
    subst ak
    have J := D.len
    have jt : l + z <= (arrOf da).size := by rw [D.dJ.size]; exact hz
    have ee := hS0.perm D.dJ.perm
    have l4 := D.ss.1.trans gf
    refine V3 (pW O l4 ee (by omega) (by omega) ?_)
    cases av : lt (at_ (arrOf da) (l + cE)) (at_ (arrOf da) (l + cE - 1)) with
    | true =>
      dsimp only
      rw [if_pos rfl]
      have next : ∀ eg, lA lt S l z st0 eg cE 0 -> le lt (at_ (arrOf eg) (l + cE)) (at_ (arrOf eg) (l + cE - 1)) -> lA lt S l z st0 eg (cE + 1) 0 := fun eg i7 q => by
        have qN : l + z <= (arrOf eg).size := by rw [i7.dJ.size]; exact hz
        have BV := hS0.perm i7.dJ.perm
        refine ⟨i7.ss, i7.dJ, i7.dec.snoc O BV (by omega) (by omega) q, by omega, by omega, fun x y a0 aQ bq bY => ?_⟩
        have ex : x = l + cE := by omega
        have eK : y = l + cE := by omega
        subst ex eK
        exact O.fw (BV.at_ (by omega))
      have ke := O.ho _ _ (ee.at_ (by omega)) (ee.at_ (by omega)) av
      refine d1 (fun c => ?_) fun c => ?_
      · rw [YR]
        refine V3 (Xw (V7 ⟨rfl, rfl, next _ (D.turn O hS0 hz) ?_⟩))
        show le lt (at_ (mirror (arrOf da) (l + cE - (e + 1)) (l + cE) ((l + cE - (l + cE - (e + 1))) / 2)) (l + cE)) (at_ (mirror (arrOf da) (l + cE - (e + 1)) (l + cE) ((l + cE - (l + cE - (e + 1))) / 2)) (l + cE - 1))
        rw [jd (by omega), jd (by omega), if_neg (by omega), if_pos (by omega)]
        exact O.d0 _ _ _ (ee.at_ (by omega)) (ee.at_ (by omega)) (ee.at_ (by omega)) ke (D.eq _ _ (by omega) (by omega) (by omega) (by omega))
      · have dE : e = 0 := by omega
        subst dE
        exact V7 ⟨rfl, rfl, next da D ke⟩
    | false =>
      dsimp only
      rw [if_neg (by simp)]
      refine V3 (pW O l4 ee (by omega) (by omega) ?_)
      cases bL : lt (at_ (arrOf da) (l + cE - 1)) (at_ (arrOf da) (l + cE)) with
      | true => dsimp only; rw [if_pos rfl]; exact V7 ⟨rfl, D⟩
      | false =>
        dsimp only
        rw [if_neg (by simp)]
        refine V7 ⟨rfl, rfl, D.ss, D.dJ, D.dec.snoc O ee (by omega) (by omega) bL, by show e + 1 + 1 <= cE + 1; omega, by omega, fun x y a0 aQ bq bY => ?_⟩
        have a0 : l + (cE + 1) - (e + 1 + 1) <= x := a0
        have bq : l + (cE + 1) - (e + 1 + 1) <= y := bq
        have tt : ∀ u, l + cE - (e + 1) <= u -> u < l + cE -> le lt (at_ (arrOf da) u) (at_ (arrOf da) (l + cE)) /\ le lt (at_ (arrOf da) (l + cE)) (at_ (arrOf da) u) := fun u eB h7 =>
          ⟨O.d0 _ _ _ (ee.at_ (by omega)) (ee.at_ (by omega)) (ee.at_ (by omega)) (D.eq u (l + cE - 1) eB h7 (by omega) (by omega)) av, O.d0 _ _ _ (ee.at_ (by omega)) (ee.at_ (by omega)) (ee.at_ (by omega)) bL (D.eq (l + cE - 1) u (by omega) (by omega) eB h7)⟩
        by_cases m1 : x = l + cE
        · by_cases jQ : y = l + cE
          · subst m1 jQ; exact O.fw (ee.at_ (by omega))
          · subst m1; exact (tt y (by omega) (by omega)).2
        · by_cases jQ : y = l + cE
          · subst jQ; exact (tt x (by omega) (by omega)).1
          · exact D.eq x y (by omega) (by omega) (by omega) (by omega)
def ID (O : eC M A E s κ S lt) (aw : kindOf st = κ) (aX : fm S (arrOf st)) (hz : l + z <= (arrOf st).size) (J : 1 <= z) : wpS M A E s (countRun' l z) (pO lt l z st) st := by
  rw [IC]
  refine V3 (zU O aw aX hz (VZ 1) J (eX.one O aX (by omega)) fun n a0 aQ bq bY => ?_)
  dsimp only
  refine d1 (fun c => ?_) fun c => ?_
  · exact V7 ⟨n, rfl, a0, aQ, ⟨rfl, rfl, rfl⟩, .refl .., bq⟩
  · have c : ¬ n = z := by simpa using c
    have q := O.ho _ _ (aX.at_ (by omega)) (aX.at_ (by omega)) (bY.resolve_left c)
    refine d1 (fun bz => ?_) fun bz => ?_
    · refine V3 (pW O aw aX (by omega) (by omega) ?_)
      cases e : lt (at_ (arrOf st) l) (at_ (arrOf st) (l + n - 1)) with
      | true => dsimp only; rw [if_pos rfl]; exact V7 ⟨n, rfl, a0, aQ, ⟨rfl, rfl, rfl⟩, .refl .., bq⟩
      | false =>
        dsimp only
        rw [if_neg (by simp), YR]
        refine V3 (Xw ?_)
        have jt : l + n <= (arrOf st).size := by omega
        have dJ : dH (arrOf st) (mirror (arrOf st) l (l + n) ((l + n - l) / 2)) l (l + z) := (dH.rev jt).mono (VZ _) (by omega)
        have zE : ∀ x y, l <= x -> x < l + n -> l <= y -> y < l + n -> le lt (at_ (arrOf st) x) (at_ (arrOf st) y) := fun x y eB h7 ud Un =>
          O.d0 _ _ _ (aX.at_ (by omega)) (aX.at_ (by omega)) (aX.at_ (by omega)) (bq x (l + n - 1) eB (by omega) (by omega))
            (O.d0 _ _ _ (aX.at_ (by omega)) (aX.at_ (by omega)) (aX.at_ (by omega)) e (bq l y (VZ _) ud Un))
        refine AJ (st0 := st) O aw aX ⟨rfl, rfl, rfl⟩ dJ hz (by omega) ?_
        show Dec lt (mirror (arrOf st) l (l + n) ((l + n - l) / 2)) l (n + 1)
        have m3 : Dec lt (mirror (arrOf st) l (l + n) ((l + n - l) / 2)) l n := fun x y eB h7 ud => by
          rw [jd jt, jd jt, if_pos (by omega), if_pos (by omega)]
          exact zE _ _ (by omega) (by omega) (by omega) (by omega)
        refine m3.snoc O (aX.perm dJ.perm) (by rw [dJ.size]; omega) (by omega) ?_
        rw [jd jt, jd jt, if_neg (by omega), if_pos (by omega)]
        exact O.d0 _ _ _ (aX.at_ (by omega)) (aX.at_ (by omega)) (aX.at_ (by omega)) q (zE _ _ (by omega) (by omega) (by omega) (by omega))
    · have hD : n = 1 := by omega
      subst hD
      refine AJ (st0 := st) O aw aX ⟨rfl, rfl, rfl⟩ (.refl ..) hz (by omega) ?_
      have m3 : Dec lt (arrOf st) l 1 := fun x y eB h7 ud => by
        obtain rfl : x = l := by omega
        obtain rfl : y = x := by omega
        exact O.fw (aX.at_ (by omega))
      exact m3.snoc O aX (by omega) (by omega) q
end
end Tm
end
section
namespace Tm
open PySem PyProof.Rows
section
variable{M:Model}{A:Around}{E:Value->Shared->Prop}{s:Shared}{κ:SortKind}{S:Keyed->Prop}{lt:Keyed->Keyed->Bool}{st st0:SortSt}{l z n ok:Nat}
def HM (O : eC M A E s κ S lt) {c : Array Keyed} (aX : fm S c) {k p : Nat} (aw : l + k < c.size) (aE : p <= k) (h : eX lt c l k) (J : ∀ x, x < p -> le lt (at_ c (l + x)) (at_ c (l + k))) (aa : ∀ x, p <= x -> x < k -> le lt (at_ c (l + k)) (at_ c (l + x))) : eX lt (bubble c (l + k) (k - p)) l (k + 1) := by
  intro x y eB h7 ud
  have e : l + k - (k - p) = l + p := by omega
  rw [u0 aw (by omega), u0 aw (by omega), e]
  have g1 : ∀ u, l <= u -> u < l + p -> le lt (at_ c u) (at_ c (l + k)) := fun u a b => by have := J (u - l) (by omega); rwa [show l + (u - l) = u by omega] at this
  have g2 : ∀ u, l + p <= u -> u < l + k -> le lt (at_ c (l + k)) (at_ c u) := fun u a b => by have := aa (u - l) (by omega) (by omega); rwa [show l + (u - l) = u by omega] at this
  by_cases a : x = l + p
  · rw [if_pos a]
    by_cases b : y = l + p
    · rw [if_pos b]; exact O.fw (aX.at_ aw)
    · rw [if_neg b, if_pos (by omega)]; exact g2 _ (by omega) (by omega)
  · rw [if_neg a]
    by_cases a2 : l + p < x
    · rw [if_pos (by omega), if_neg (by omega), if_pos (by omega)]
      exact h _ _ (by omega) (by omega) (by omega)
    · rw [if_neg (by omega)]
      by_cases b : y = l + p
      · rw [if_pos b]; exact g1 _ eB (by omega)
      · rw [if_neg b]
        by_cases b2 : l + p < y
        · rw [if_pos (by omega)]; exact h _ _ eB (by omega) (by omega)
        · rw [if_neg (by omega)]; exact h _ _ eB h7 (by omega)
def HK (O : eC M A E s κ S lt) (gf : kindOf st = κ) (hS0 : fm S (arrOf st)) (hz : l + n <= (arrOf st).size) (J : 1 <= ok) (az : ok <= n) (h : eX lt (arrOf st) l ok) {Q : Bool -> SortSt -> Prop}
    (aK : ∀ aJ, kA st aJ -> dH (arrOf st) (arrOf aJ) l (l + n) -> eX lt (arrOf aJ) l n -> Q true aJ) : wpS M A E s (binarySort' l n ok) Q st := by
  rw [binarySort'_eq]
  rw [Nat.max_eq_left J]
  refine V3 (Xo (WT (I := fun k (c : Option Bool × Unit) aJ => c = (none, ()) /\ k <= n /\ kA st aJ /\ dH (arrOf st) (arrOf aJ) l (l + n) /\ eX lt (arrOf aJ) l k)
    (Q := fun (c : Option Bool × Unit) aJ => c = (none, ()) /\ kA st aJ /\ dH (arrOf st) (arrOf aJ) l (l + n) /\ eX lt (arrOf aJ) l n) ?step ?fin ⟨rfl, az, ⟨rfl, rfl, rfl⟩, .refl .., h⟩) ?post)
  case fin =>
    rintro c aJ ⟨rfl, a0, aQ, bq, bY⟩
    rw [WD az] at bY
    exact ⟨rfl, aQ, bq, bY⟩
  case post =>
    rintro c aJ ⟨rfl, aQ, bq, bY⟩
    exact V7 (aK aJ aQ bq bY)
  case step =>
    rintro k c da l4 w1 ⟨rfl, aN, ba, b5, dn⟩
    dsimp only
    have VE : l + n <= (arrOf da).size := by rw [b5.size]; exact hz
    have ee := hS0.perm b5.perm
    have dY := ba.1.trans gf
    refine V3 (Xo (WT (I := fun x (c : Option Bool × Nat × Nat) aJ => aJ = da /\ c.1 = none /\ c.2.1 <= c.2.2 /\ c.2.2 <= k /\ (∀ x, x < c.2.1 -> le lt (at_ (arrOf da) (l + x)) (at_ (arrOf da) (l + k))) /\ (∀ x, c.2.2 <= x -> x < k -> le lt (at_ (arrOf da) (l + k)) (at_ (arrOf da) (l + x))) /\ c.2.2 - c.2.1 + x <= k)
      (Q := fun (c : Option Bool × Nat × Nat) aJ => aJ = da /\ c.1 = none /\ c.2.1 <= k /\ (∀ x, x < c.2.1 -> le lt (at_ (arrOf da) (l + x)) (at_ (arrOf da) (l + k))) /\ ∀ x, c.2.1 <= x -> x < k -> le lt (at_ (arrOf da) (l + k)) (at_ (arrOf da) (l + x))) ?step2 ?fin2
      ⟨rfl, rfl, V6 _, VZ _, fun x ah => absurd ah (Nat.not_lt_zero _), fun x eB h7 => absurd h7 (by dsimp only at eB; omega), by show k - 0 + 0 <= k; omega⟩) ?post2)
    case fin2 =>
      rintro ⟨o, a, b⟩ aJ ⟨rfl, rfl, aG, a5, dU, fi, fI⟩
      dsimp only at aG a5 dU fi fI ⊢
      rw [WD (V6 _)] at fI
      have e : a = b := by omega
      subst e
      exact ⟨rfl, rfl, a5, dU, fi⟩
    case step2 =>
      rintro x ⟨o, a, b⟩ aJ _ ah ⟨rfl, rfl, aG, a5, dU, fi, fI⟩
      dsimp only at aG a5 dU fi fI ⊢
      refine d1 (fun c => ?_) fun c => ?_
      · have e : a = b := by omega
        subst e
        exact V7 ⟨rfl, rfl, a5, dU, fi⟩
      · have hm : (a + b) / 2 < b := by omega
        have sR : a <= (a + b) / 2 := by omega
        refine V3 (pW O dY ee (by omega) (by omega) ?_)
        cases e : lt (at_ (arrOf aJ) (l + k)) (at_ (arrOf aJ) (l + (a + b) / 2)) with
        | true =>
          dsimp only
          rw [if_pos rfl]
          refine V7 ⟨rfl, rfl, sR, by dsimp only; omega, dU, fun y eB h7 => ?_, by dsimp only; omega⟩
          exact O.d0 _ _ _ (ee.at_ (by omega)) (ee.at_ (by omega)) (ee.at_ (by omega)) (O.ho _ _ (ee.at_ (by omega)) (ee.at_ (by omega)) e) (dn _ _ (by omega) (by dsimp only at eB; omega) (by omega))
        | false =>
          dsimp only
          rw [if_neg (by simp)]
          refine V7 ⟨rfl, rfl, by dsimp only; omega, a5, fun y eB => ?_, fi, by dsimp only; omega⟩
          exact O.d0 _ _ _ (ee.at_ (by dsimp only at eB; omega)) (ee.at_ (by omega)) (ee.at_ (by omega)) (dn _ _ (by omega) (by dsimp only at eB; omega) (by omega)) e
    case post2 =>
      rintro ⟨o, p, b⟩ aJ ⟨rfl, rfl, a5, dU, fi⟩
      dsimp only at a5 dU fi ⊢
      rw [moveDown'_eq]
      refine V3 (Xw (V7 ⟨rfl, by omega, ba, ?_, ?_⟩))
      · show dH (arrOf st) (bubble (arrOf aJ) (l + k) (l + k - (l + p))) l (l + n)
        exact b5.trans ((dH.HL (by omega) (by omega)).mono (by omega) (by omega))
      · show eX lt (bubble (arrOf aJ) (l + k) (l + k - (l + p))) l (k + 1)
        rw [show l + k - (l + p) = k - p by omega]
        exact HM O ee (by omega) a5 dn dU fi
end
end Tm
end
section
namespace Tm
open PySem PyProof.Rows
noncomputable def Runs(lt:Keyed->Keyed->Bool)(c:Array Keyed):Nat->List (Nat×Nat×Nat)->Nat->Prop
 |a,[],b=>a=b
 |a,r::P,b=>r.1=a/\0<r.2.1/\eX lt c a r.2.1/\Runs lt c (a+r.2.1) P b
def OR{α:Type}(P:List α)(r:α)(g:α->α):(P++[r]).toArray.modify ((P++[r]).toArray.size-1) g=(P++[g r]).toArray:=by
 apply YP.mp;rw[Array.toList_modify];show(P++[r]).modify ((P++[r]).length-1) g=P++[g r];rw[V0,List.length_singleton,Zp]
 induction P with
 |nil=>rfl
 |cons x P aD=>exact Xl (x::·) aD
section
variable{lt:Keyed->Keyed->Bool}{c d:Array Keyed}
theorem Runs.len:∀{P:List (Nat×Nat×Nat)}{a b:Nat},Runs lt c a P b->a+P.length<=b
 |[],_,_,h=>Nat.le_of_eq h
 |r::P,a,b,⟨_,J,_,h⟩=>by have:=Runs.len h;rw[List.length_cons];omega
theorem Runs.app:∀{P Q:List (Nat×Nat×Nat)}{a b:Nat},Runs lt c a (P++Q) b<->∃m,Runs lt c a P m/\Runs lt c m Q b
 |[],_,a,b=>⟨λh=>⟨a,rfl,h⟩,λ⟨m,J,aa⟩=>by cases (show a=m from J);exact aa⟩
 |r::P,_,a,b=>⟨λ⟨J,aa,aL,h⟩=>let ⟨m,aN,ba⟩:=Runs.app.mp h;⟨m,⟨J,aa,aL,aN⟩,ba⟩,λ⟨m,⟨J,aa,aL,aN⟩,ba⟩=>⟨J,aa,aL,Runs.app.mpr ⟨m,aN,ba⟩⟩⟩
theorem Runs.same:∀{P:List (Nat×Nat×Nat)}{a b:Nat},Runs lt c a P b->(∀k,a<=k->k<b->at_ d k=at_ c k)->Runs lt d a P b
 |[],_,_,h,_=>h
 |r::P,a,b,⟨J,aa,aL,h⟩,e=>by
  have:=h.len;exact⟨J,aa,λx y aN ba b5=>by rw[e x (by omega) (by omega),e y (by omega) (by omega)];exact aL x y aN ba b5,h.same λk aN ba=>e k (by omega) ba⟩
end
section
variable{M:Model}{A:Around}{E:Value->Shared->Prop}{s:Shared}{κ:SortKind}{S:Keyed->Prop}{lt:Keyed->Keyed->Bool}{st st0:SortSt}
def Ds{Q:Bool->SortSt->Prop}{i b:Nat}{P:List (Nat×Nat×Nat)}(O:eC M A E s κ S lt)(aw:kindOf st=κ)(hf:failedOf st=none)(aE:pendingOf st=P.toArray)(hi:i+1<P.length)(R:Runs lt (arrOf st) 0 P b)(ae:b<=(arrOf st).size)(aX:fm S (arrOf st))(aK:∀aJ hj,kindOf aJ=κ->failedOf aJ=none->pendingOf aJ=hj.toArray->hj.length+1=P.length->dH (arrOf st) (arrOf aJ) 0 b->Runs lt (arrOf aJ) 0 hj b->Q true aJ):wpS M A E s (mergeAt' i) Q st:=by
 obtain⟨p,x,y,q,e,au⟩:∃p x y q,P=p++x::y::q/\p.length=i:=⟨P.take i,P[i],P[i+1],P.drop (i+2),by
  rw[List.getElem_cons_drop,List.getElem_cons_drop,WZ],by rw[Wz];omega⟩
 subst e au;obtain⟨u,n,e5⟩:=x;obtain⟨v,m,yl⟩:=y;obtain⟨m0,GO,aG,a5,dU,fi,fI,tI,fc⟩:=Runs.app.mp R;dsimp only at aG a5 dU fi fI tI fc;subst aG fi;have L:=fc.len;refine Oz O aw hf aE a5 fI (by omega) (λx ah=>aX _ (by simp)) dU.cY tI.cY λaJ cQ cp d6 ib ly lz=>?_
 have eh:(arrOf aJ).size=(arrOf st).size:=by rw[<- Array.length_toList,<- Array.length_toList];exact ib.length_eq
 have dJ:dH (arrOf st) (arrOf aJ) u (u+n+m):=⟨eh,ib,λk aw=>mU (ly k aw)⟩
 refine aK aJ (p++(u,n+m,e5)::q) cQ cp d6 (by simp only[V0,List.length_cons];omega) (dJ.mono (V6 _) (by omega)) (Runs.app.mpr ⟨u,GO.same λk _ h=>dJ.out k (.inl h),rfl,by dsimp only;omega,λx y J aa aL=>?_,?_⟩)
 .dsimp only at aL;rw[mT (by omega),mT (by omega)]
  exact lz x y _ _ J aa aL
 .dsimp only;rw[<- Nat.add_assoc];exact fc.same λk h _=>dJ.out k (.inr h)
noncomputable def zv(lt:Keyed->Keyed->Bool)(st0:SortSt)(N x:Nat)(c:Option Unit×Nat)(st:SortSt):Prop:=c.1=none/\kindOf st=kindOf st0/\failedOf st=none/\dH (arrOf st0) (arrOf st) 0 N/\(x<=c.2\/c.2=N)/\c.2<=N/\∃P,pendingOf st=P.toArray/\Runs lt (arrOf st) 0 P c.2
noncomputable def zw(lt:Keyed->Keyed->Bool)(st0:SortSt)(b:Nat)(st:SortSt):Prop:=kindOf st=kindOf st0/\failedOf st=none/\dH (arrOf st0) (arrOf st) 0 b/\∃P,P≠[]/\pendingOf st=P.toArray/\Runs lt (arrOf st) 0 P b
def Rl {Q : Unit -> SortSt -> Prop} (O : eC M A E s κ S lt) (aw : kindOf st = κ) (hf : failedOf st = none) (aE : pendingOf st = #[]) (aX : fm S (arrOf st)) (aa : 2 <= (arrOf st).size)
    (aK : ∀ aJ, failedOf aJ = none -> (arrOf aJ).toList.Perm (arrOf st).toList -> (arrOf aJ).toList.Pairwise (le lt) -> Q () aJ) : wpS M A E s sortRuns' Q st := by
  rw [sortRuns'_eq]
  refine V3 (Y9 ?_)
  dsimp only
  generalize Vv : minRun' (arrOf st).size (arrOf st).size 0 = xV
  generalize aZ : (arrOf st).size = N at aa ⊢
  refine V3 (Xo (WT (I := zv lt st N) (Q := fun (c : Option Unit × Nat) aJ => zv lt st N 0 c aJ /\ c.2 = N) ?step ?fin ⟨rfl, rfl, hf, .refl .., .inl (VZ _), V6 _, [], aE, rfl⟩) ?post)
  case fin =>
    rintro c aJ ⟨aN, ba, b5, dn, h3, mu, kf⟩
    rw [WD (V6 _)] at h3
    exact ⟨⟨aN, ba, b5, dn, .inl (V6 _), mu, kf⟩, by omega⟩
  case step =>
    rintro x ⟨o, lo⟩ da _ ah ⟨rfl, a0, aQ, bq, bY, gI, P, kY, kZ⟩
    dsimp only at bY gI kY kZ ⊢
    have dY : kindOf da = κ := a0.trans aw
    have ee := aX.perm bq.perm
    have hsz : (arrOf da).size = N := bq.size.trans aZ
    refine d1 (fun c => V7 ⟨⟨rfl, a0, aQ, bq, .inl (V6 _), gI, P, kY, kZ⟩, by dsimp only; omega⟩) fun c => ?_
    refine V3 (Xo (ID (l := lo) (z := N - lo) O dY ee (by rw [hsz]; omega) (by omega)) ?_)
    rintro o eg ⟨m, rfl, gw, hC, s2, b3, gh⟩
    dsimp only
    refine d1 (fun bz => ?b1) fun bz => ?b2
    case' b1 =>
      refine V3 (ZO (Ya ⟨rfl, ?_⟩))
      refine V3 (HK O (s2.1.trans dY) (ee.perm b3.perm) (by rw [b3.size, hsz]; omega) gw (by omega) gh fun gk s3 ef ju => ?_)
      rw [if_neg (by simp)]
      have mw : kA da gk := ⟨s3.1.trans s2.1, s3.2.1.trans s2.2.1, s3.2.2.trans s2.2.2⟩
      have ro : dH (arrOf da) (arrOf gk) lo (lo + (N - lo)) := b3.trans (ef.mono (VZ _) (by omega))
      have q9 : 1 <= min (N - lo) xV := by omega
      have xN : min (N - lo) xV <= N - lo := by omega
      clear s2 b3 gh s3 ef gw hC bz
      clear eg
      revert q9 xN ju
      generalize min (N - lo) xV = dr
      intro ju q9 xN
    case' b2 =>
      clear bz
      have h := And.intro s2 (And.intro b3 (And.intro gh (And.intro gw hC)))
      clear s2 b3 gh gw hC
      revert h
      generalize m = dr
      generalize eg = gk
      rintro ⟨mw, ro, ju, q9, xN⟩
    all_goals
      refine V3 (Y9 ?_)
      have a4 : pendingOf gk = P.toArray := mw.2.1.trans kY
      have Ta : (arrOf gk).size = N := ro.size.trans hsz
      have uQ : Runs lt (arrOf gk) 0 P lo := kZ.same fun k _ h => ro.out k (.inl h)
      have P3 : dH (arrOf st) (arrOf gk) 0 N := bq.trans (ro.mono (V6 _) (by omega))
      rcases X2 P with rfl | ⟨GL, ⟨a1, a2, a3⟩, rfl⟩
      · rw [a4]
        cases (show 0 = lo from uQ)
        refine V3 (Xw (V7 ⟨rfl, mw.1.trans a0, mw.2.2.trans aQ, P3, by dsimp only; omega, by dsimp only; omega, [(0, dr, 0)], ?_, rfl, q9, ju, rfl⟩))
        show (pendingOf gk).push _ = _
        rw [a4]
        rfl
      · rw [X3] at a4 uQ
        rw [a4, show (GL ++ [(a1, a2, a3)]).toArray.back? = some (a1, a2, a3) by simp]
        dsimp only
        generalize power' N (2 * a1 + a2) (2 * a1 + a2 + a2 + dr) N = e5
        refine V3 (Xo (WT (I := fun x (c : Option Unit × Unit) aJ => c = (none, ()) /\ zw lt gk lo aJ) (Q := fun (c : Option Unit × Unit) aJ => c = (none, ()) /\ zw lt gk lo aJ) ?a1 ?a2 ⟨rfl, rfl, mw.2.2.trans aQ, .refl .., _, by simp, a4, uQ⟩) ?a3)
        case a2 => exact fun c aJ h => h
        case a1 =>
          rintro x c aJ _ _ ⟨rfl, kX, qY, l8, hj, qX, nC, oP⟩
          refine V3 (Y9 ?_)
          rw [nC]
          rcases ay : (if hj.toArray.size > 1 then hj.toArray[hj.toArray.size - 2]? else none) with _ | ⟨mj, jz, VJ⟩
          · exact V7 ⟨rfl, kX, qY, l8, hj, qX, nC, oP⟩
          · have aa : 1 < hj.length := by
              by_cases h : hj.toArray.size > 1
              · exact h
              · rw [if_neg h] at ay; cases ay
            refine d1 (fun _ => V7 ⟨rfl, kX, qY, l8, hj, qX, nC, oP⟩) fun _ => ?_
            refine V3 (Ds O (kX.trans (mw.1.trans dY)) qY nC (show hj.length - 2 + 1 < hj.length by omega) oP (by rw [l8.size, Ta]; omega) ((ee.perm ro.perm).perm l8.perm) fun SW uN cQ cp d6 ib ly lz => ?_)
            rw [if_neg (by simp)]
            exact V7 ⟨rfl, cQ.trans (mw.1.trans dY).symm, cp, l8.trans ly, uN, fun e => by rw [e] at ib; rw [<- ib] at aa; exact absurd aa (by decide), d6, lz⟩
        case a3 =>
          rintro c aJ ⟨rfl, kX, qY, l8, hj, qX, nC, oP⟩
          rcases X2 hj with rfl | ⟨GN, ⟨b1, b2, ec⟩, rfl⟩
          · exact absurd rfl qX
          rw [X3] at nC oP
          obtain ⟨OQ, aG, a5, dU, fi, fI⟩ := Runs.app.mp oP
          refine V3 (Xw (V3 (Xw (V7 ⟨rfl, kX.trans (mw.1.trans a0), qY, P3.trans (l8.mono (VZ _) gI), by dsimp only; omega, by dsimp only; omega, (GN ++ [(b1, b2, e5)]) ++ [(lo, dr, 0)], ?_, Runs.app.mpr ⟨lo, Runs.app.mpr ⟨OQ, aG, a5, dU, fi, fI⟩, rfl, q9, ?_, rfl⟩⟩))))
          · show ((pendingOf aJ).modify ((pendingOf aJ).size - 1) _).push _ = _
            rw [nC, OR]
            exact List.push_toArray _ _
          · exact ju.Pe l8 (.inr (VZ _))
  case post =>
    rintro ⟨o, lo⟩ da ⟨⟨rfl, a0, aQ, bq, -, -, P, kY, kZ⟩, rfl⟩
    dsimp only at kZ ⊢
    have dY : kindOf da = κ := a0.trans aw
    have ee := aX.perm bq.perm
    have hsz : (arrOf da).size = lo := bq.size.trans aZ
    refine V3 (Xo (WT (I := fun x (c : Option Unit × Unit) aJ => c = (none, ()) /\ kindOf aJ = κ /\ failedOf aJ = none /\ dH (arrOf st) (arrOf aJ) 0 lo /\ ∃ P, (P.length <= 1 \/ P.length + x <= lo) /\ pendingOf aJ = P.toArray /\ Runs lt (arrOf aJ) 0 P lo)
      (Q := fun (c : Option Unit × Unit) aJ => c = (none, ()) /\ failedOf aJ = none /\ dH (arrOf st) (arrOf aJ) 0 lo /\ ∃ P, P.length <= 1 /\ Runs lt (arrOf aJ) 0 P lo) ?step2 ?fin2 ⟨rfl, dY, aQ, bq, P, .inr (by have := kZ.len; omega), kY, kZ⟩) ?post2)
    case fin2 =>
      rintro c aJ ⟨rfl, aN, ba, b5, P, dn, h3, mu⟩
      rw [WD (V6 _)] at dn
      exact ⟨rfl, ba, b5, P, by omega, mu⟩
    case post2 =>
      rintro c aJ ⟨rfl, aN, ba, P, b5, dn⟩
      refine V7 (aK aJ aN ba.perm ?_)
      have hz : (arrOf aJ).size = lo := ba.size.trans aZ
      match P, b5, dn with
      | [], _, e => cases (show 0 = lo from e); omega
      | [r], _, ⟨ak, av, bL, fD⟩ =>
        have fD : 0 + r.2.1 = lo := fD
        refine rF ?_
        rw [hz, <- fD, XS]
        exact bL.cY
    case step2 =>
      rintro y c aJ _ aC ⟨rfl, aN, ba, b5, P, dn, h3, mu⟩
      refine V3 (Y9 ?_)
      rw [h3]
      refine d1 (fun h => V7 ⟨rfl, ba, b5, P, h, mu⟩) fun h => ?_
      have h : ¬ P.length <= 1 := h
      refine V3 (Ds O aN ba h3 ?_ mu (by rw [b5.size, aZ]; omega) (aX.perm b5.perm) fun SW uN cQ cp d6 ib ly lz => ?_)
      · have aux : ∀ b : Bool, (if b = true then P.length - 2 - 1 else P.length - 2) + 1 < P.length := fun b => by cases b <;> simp only [WN, V1, Wm] <;> omega
        exact aux _
      · rw [if_neg (by simp)]
        exact V7 ⟨rfl, cQ, cp, b5.trans ly, uN, by omega, d6, lz⟩
end
end Tm
end
section
namespace Tm
open PySem PySem.W PyProof.Rows PySem.Calls
def Qf{α β:Type}(f:α->β){iu m:List β}(h:iu.Perm m):∀l:List α,m=l.map f->∃p:List α,p.Perm l/\iu=p.map f:=by
 induction h with
 |nil=>intro l e;cases l with
  |nil=>exact⟨[],.refl _,rfl⟩
  |cons=>cases e
 |cons x _ aD =>
  intro l e;cases l with
  |nil=>cases e
  |cons y l =>
   rw[List.map_cons]at e;injection e with ak av;obtain⟨p,J,aa⟩:=aD l av;exact⟨y::p,J.cons y,by rw[List.map_cons,ak,aa]⟩
 |swap x y m =>
  intro l e
  match l,e with
  |u::v::l,e =>
   rw[List.map_cons,List.map_cons]at e;injection e with ak av;injection av with av bL;exact⟨v::u::l,.swap u v l,by rw[List.map_cons,List.map_cons,ak,av,bL]⟩
 |trans _ _ xm xn =>
  intro l e;obtain⟨p,J,aa⟩:=xn l e;obtain⟨q,aL,a7⟩:=xm p aa;exact⟨q,aL.trans J,a7⟩
structure Ord(lt:Nat->Nat->Bool):Prop where
 fw:∀x,lt x x=false
 d0:∀x y z,lt y x=false->lt z y=false->lt z x=false
 ho:∀x y,lt x y=true->lt y x=false
section
variable{prog:Program}{w:World}{A:Around}{E:Value->Shared->Prop}{s:Shared}
noncomputable abbrev pr(af:List Value)(i:Nat):Keyed:=(af.getD i Value.none,af.getD i Value.none)
def U0(af:List Value):(af.toArray.zip af.toArray).toList=(List.range af.length).map (pr af):=by
 apply XH;intro i;rw[Wg]
 by_cases h:i<af.length
 .rw[XP h];simp[List.getElem?_zip_eq_some,List.getD,V5 h]
 .rw[Wu (by simpa using h),Wu (by simpa using h)];rfl
def Oj {a : Addr} {af : List Value} {n : Nat} {κ : SortKind} {lt : Nat -> Nat -> Bool} {P : PySem.Fin -> Shared -> Prop} (O : Ord lt) (aT : ∀ i j, i < af.length -> j < af.length -> af.getD i Value.none = af.getD j Value.none -> ∀ k, lt i k = lt j k /\ lt k i = lt k j)
    (ay : s.heap.get? a = some (seqObj "list" af.toArray n)) (Vi : af.length < 1000)
    (aw : 2 <= af.length -> ∀ (h' : Heap), (∀ b o, b ≠ a -> s.heap.get? b = some o -> h'.get? b = some o) -> ∀ Q : SortKind -> Shared -> Prop, Q κ { s with heap := h' } -> wpAny (model prog w) A (keyKind' af.toArray) Q E { s with heap := h' })
    (aj : 2 <= af.length -> ∀ (h' : Heap), (∀ b o, b ≠ a -> s.heap.get? b = some o -> h'.get? b = some o) -> ∀ (i j : Nat) (bD : Bool -> Shared -> Prop), i < af.length -> j < af.length -> bD (lt i j) { s with heap := h' } -> kas_ask prog w A κ af i j bD { s with heap := h' })
    (h : ∀ p : List Nat, p.Perm (List.range af.length) -> p.Pairwise (fun i j => lt j i = false) -> ∀ (h' : Heap) (c : Nat), (∀ b o, b ≠ a -> s.heap.get? b = some o -> h'.get? b = some o) -> h'.get? a = some (seqObj "list" (p.map fun i => af.getD i Value.none).toArray c) -> P (.done (.ret .none)) { s with heap := h' }) :
    wpAny (model prog w) A (Builtin.«list.sort» ⟨[.ref a], []⟩) P E s := by
  rw [list_sort_plain]
  have aA : a < s.heap.objs.size := Wb ay
  refine VW (listItems_at ay rfl ?_)
  refine VW (ZH ay rfl ?_ (by rw [V9, sizeLine_eq]; omega) (V6 _))
  obtain ⟨ak, nq⟩ : ∃ ak, (s.heap.update a (Obj.mapSeq fun _ => (#[] : Array Value))).get? a = some (seqObj "list" #[] ak) := ⟨_, get?_update_seq ay fun _ => #[]⟩
  refine VW (seqEpoch_at nq rfl ?_)
  refine VW (wpAny_newTuple ?_ (by show af.length <= _; rw [sizeLine_eq]; omega))
  refine VW (Z9 ?_ (V6 _))
  refine Xc ?_
  have oH : (((s.heap.update a (Obj.mapSeq fun _ => (#[] : Array Value))).push (seqObj "tuple" af.toArray 0)).push (seqObj "list" #[] 0)).get? a = some (seqObj "list" #[] ak) := VY _ (VY _ nq)
  have keep : ∀ b o, b ≠ a -> s.heap.get? b = some o -> (((s.heap.update a (Obj.mapSeq fun _ => (#[] : Array Value))).push (seqObj "tuple" af.toArray 0)).push (seqObj "list" #[] 0)).get? b = some o := fun b o ae q =>
    VY _ (VY _ ((W9 _ _ (Xr ae)).trans q))
  show wpAny (model prog w) A _ P E { s with heap := ((s.heap.update a (Obj.mapSeq fun _ => (#[] : Array Value))).push (seqObj "tuple" af.toArray 0)).push (seqObj "list" #[] 0) }
  generalize ((s.heap.update a (Obj.mapSeq fun _ => (#[] : Array Value))).push (seqObj "tuple" af.toArray 0)).push (seqObj "list" #[] 0) = J at oH keep
  dsimp only
  have fin : ∀ p : List Nat, p.Perm (List.range af.length) -> p.Pairwise (fun i j => lt j i = false) -> P (.done (.ret .none)) { s with heap := J.update a (Obj.mapSeq fun _ => (p.map fun i => af.getD i Value.none).toArray) } := fun p aE ab => by
    obtain ⟨bz, ip⟩ : ∃ bz, (J.update a (Obj.mapSeq fun _ => (p.map fun i => af.getD i Value.none).toArray)).get? a = some (seqObj "list" (p.map fun i => af.getD i Value.none).toArray bz) := ⟨_, get?_update_seq oH fun _ => (p.map fun i => af.getD i Value.none).toArray⟩
    exact h p aE ab _ bz (fun b o ae q => (W9 _ _ (Xr ae)).trans (keep b o ae q)) ip
  have hz := U0 af
  by_cases aa : af.toArray.size < 2
  · rw [if_pos aa, if_pos aa]
    refine VW (wpAny_pure ?_)
    rw [StateT.run_pure]
    refine VW (wpAny_pure ?_)
    dsimp only
    refine VW (seqEpoch_at oH rfl ?_)
    have bL : (arrOf (SortSt.mk' general' (af.toArray.zip af.toArray) #[] 7 none)).map (·.2) = ((List.range af.length).map fun i => af.getD i Value.none).toArray := by
      show (af.toArray.zip af.toArray).map (·.2) = _
      apply YP.mp
      rw [Array.toList_map, hz, List.map_map]
      rfl
    rw [bL]
    refine VW (ZH oH rfl ?_ (V6 _) (by rw [V9, List.length_map, List.length_range, sizeLine_eq]; omega))
    simp only [XI, V1, Wm]
    refine wpAny_pure (fin _ (.refl _) ?_)
    have jm : af.length < 2 := by simpa using aa
    match af, jm with
    | [], _ => exact List.Pairwise.nil
    | [_], _ => exact Xu _ _
  · rw [if_neg aa, if_neg aa]
    have jm : 2 <= af.length := by simp at aa; exact aa
    refine VW (aw jm J keep _ ?_)
    have c9 : ∀ x : Keyed, ∃ i, (∃ i, i < af.length /\ x = pr af i) -> i < af.length /\ x = pr af i := fun x => by
      by_cases c : ∃ i, i < af.length /\ x = pr af i
      · obtain ⟨i, hi⟩ := c; exact ⟨i, fun _ => hi⟩
      · exact ⟨0, fun q => absurd q c⟩
    obtain ⟨idx, sP⟩ : ∃ idx : Keyed -> Nat, ∀ x, (∃ i, i < af.length /\ x = pr af i) -> idx x < af.length /\ x = pr af (idx x) := ⟨fun x => (c9 x).choose, fun x => (c9 x).choose_spec⟩
    have Or : eC (model prog w) A E { s with heap := J } κ (fun x => ∃ i, i < af.length /\ x = pr af i) (fun x y => lt (idx x) (idx y)) := by
      refine ⟨fun x y st Q ah aC w3 q => ?_, fun x y _ _ q => O.ho _ _ q, fun x y z _ _ _ aN ba => O.d0 _ _ _ aN ba⟩
      obtain ⟨eS, ex⟩ := sP x ah
      obtain ⟨kX, eK⟩ := sP y aC
      rw [lt'_eq]
      refine V3 (Y9 ?_)
      refine V3 (ZO (YV ?_))
      have := aj jm J keep (idx x) (idx y) (fun b s' => s' = { s with heap := J } /\ b = lt (idx x) (idx y)) eS kX ⟨rfl, rfl⟩
      unfold kas_ask at this
      have ak : af.getD (idx x) Value.none = x.1 := (Xl Prod.fst ex).symm
      have av : af.getD (idx y) Value.none = y.1 := (Xl Prod.fst eK).symm
      rw [ak, av] at this
      rw [w3]
      refine WY this (fun b s' ⟨ab, ae⟩ => ⟨ab, ?_⟩) fun _ _ z => z.elim
      subst ae
      exact V7 q
    have run := Rl (st := SortSt.mk' κ (af.toArray.zip af.toArray) #[] 7 none) (Q := fun _ aJ => failedOf aJ = none /\ ∃ p : List Nat, p.Perm (List.range af.length) /\ p.Pairwise (fun i j => lt j i = false) /\ (arrOf aJ).toList = p.map (pr af)) Or rfl rfl rfl
      (fun x ah => by
        have ah : x ∈ (af.toArray.zip af.toArray).toList := ah
        rw [hz] at ah
        obtain ⟨i, hi, rfl⟩ := List.mem_map.mp ah
        exact ⟨i, List.mem_range.mp hi, rfl⟩) (by show 2 <= (af.toArray.zip af.toArray).size; rw [<- Array.length_toList, hz]; simpa using jm) fun aJ aG a5 dU => by
          have a5 : (arrOf aJ).toList.Perm (af.toArray.zip af.toArray).toList := a5
          rw [hz] at a5
          obtain ⟨p, bj, b3⟩ := Qf (pr af) a5 _ rfl
          refine ⟨aG, p, bj, ?_, b3⟩
          rw [b3, Xm] at dU
          refine Xe (fun {i j} hi aB q => ?_) dU
          have hi := List.mem_range.mp (bj.mem_iff.mp hi)
          have aB := List.mem_range.mp (bj.mem_iff.mp aB)
          obtain ⟨eS, kH⟩ := sP (pr af i) ⟨i, hi, rfl⟩
          obtain ⟨kX, kI⟩ := sP (pr af j) ⟨j, aB, rfl⟩
          have q : lt (idx (pr af j)) (idx (pr af i)) = false := q
          rw [(aT j (idx (pr af j)) aB kX (Xl Prod.fst kI) i).1, (aT i (idx (pr af i)) hi eS (Xl Prod.fst kH) _).2]
          exact q
    refine VW (WY run ?_ fun _ _ e => e)
    rintro ⟨⟨⟩, aJ⟩ s' ⟨rfl, hf, p, bj, b3, ef⟩
    dsimp only at hf ef ⊢
    have MG : (arrOf aJ).map (·.2) = (p.map fun i => af.getD i Value.none).toArray := by
      apply YP.mp
      rw [Array.toList_map, ef, List.map_map]
      rfl
    rw [MG]
    refine VW (seqEpoch_at oH rfl ?_)
    refine VW (ZH oH rfl ?_ (V6 _) (by rw [V9, List.length_map, bj.length_eq, List.length_range, sizeLine_eq]; omega))
    rw [hf]
    simp only [XI, V1, Wm]
    exact wpAny_pure (fin p bj b3)
end
end Tm
end
section
namespace eY
open PySem PySem.W PyProof.Rows PySem.Calls
section
variable{prog:Program}{w:World}{A:Around}{E:Value->Shared->Prop}{s:Shared}
noncomputable def ltI{κ:Type}(lt:κ->κ->Bool)(z:κ)(aq:List κ)(i j:Nat):Bool:=lt (aq.getD i z) (aq.getD j z)
def x9{κ:Type}{lt:κ->κ->Bool}(L:bt.gD lt)(z:κ)(aq:List κ):Tm.Ord (ltI lt z aq) where
 fw:=λx=>L.fw _
 d0:=λx y z J aa=>bt.C6 L J aa
 ho:=λx y h=>bt.C7 L h
def Lp{κ:Type}(z:κ)(aq:List κ):(List.range aq.length).map (λi=>aq.getD i z)=aq:=by
 apply XH;intro i;rw[Wg]
 by_cases h:i<aq.length
 .rw[XP h];simp[List.getD,h]
 .rw[Wu (by simpa using h),Wu (by simpa using h)];rfl
def SR{κ:Type}{lt:κ->κ->Bool}(L:bt.gD lt)(z:κ)(aq:List κ){p:List Nat}(J:p.Perm (List.range aq.length))(aa:p.Pairwise (λi j=>ltI lt z aq j i=false)):(p.map λi=>aq.getD i z)=bt.cY lt aq:=by
 refine bt.Gp L ?_ (bt.Gn L aq) ?_
 .unfold bt.n8;rw[Xm];exact aa
 .refine((J.map λi=>aq.getD i z).trans ?_).trans (bt.tF aq).symm
  rw[Lp]
def x6{κ:Type}{lt:κ->κ->Bool}{z:κ}{aq:List κ}{af:List Value}(h:∀i j,i<af.length->j<af.length->af.getD i Value.none=af.getD j Value.none->aq.getD i z=aq.getD j z):
  ∀i j,i<af.length->j<af.length->af.getD i Value.none=af.getD j Value.none->∀k,ltI lt z aq i k=ltI lt z aq j k/\ltI lt z aq k i=ltI lt z aq k j:=λi j hi aB e k=>by
 unfold ltI;rw[h i j hi aB e];exact⟨rfl,rfl⟩
theorem ints_get:∀{af:List Value}{ns:List Int}(h:IntsAre af ns)(i:Nat),i<af.length->∃t,af.getD i Value.none=.int (ns.getD i 0) t
 |_,_,.nil,i,h=>by simp at h
 |_,_,.cons n t _,0,_=>⟨t,rfl⟩
 |_,_,.cons n t r,i+1,h=>by
  obtain⟨u,e⟩:=ints_get r i (by simpa using h)
  exact⟨u,by simpa[List.getD] using e⟩
theorem xr:∀{af:List Value}{ns:List Int}(h:IntsAre af ns),ns.length=af.length
 |_,_,.nil=>rfl
 |_,_,.cons n t r=>by simp[xr r]
def NO{af:List Value}{ns:List Int}(h:IntsAre af ns):∀i j,i<af.length->j<af.length->af.getD i Value.none=af.getD j Value.none->ns.getD i 0=ns.getD j 0:=λi j hi aB e=>by
 obtain⟨t,ak⟩:=ints_get h i hi;obtain⟨u,av⟩:=ints_get h j aB;rw[ak,av]at e;injection e
def Hm{af:List Value}{ns:List Int}(ck:IntsAre af ns)(i j:Nat)(bD:Bool->Shared->Prop)(hi:i<af.length)(aB:j<af.length)(h:bD (ltI bt.ltI 0 ns i j) s):kas_ask prog w A oneType' af i j bD s:=by
 obtain⟨t,ak⟩:=ints_get ck i hi;obtain⟨u,av⟩:=ints_get ck j aB;unfold kas_ask;rw[ak,av];exact kat_lt_int h
def NV{af:List Value}{ns:List Int}(ck:IntsAre af ns)(aa:2<=af.length){Q:SortKind->Shared->Prop}(h:Q oneType' s):wpAny (model prog w) A (keyKind' af.toArray) Q E s:=by
 obtain⟨uo,uq,rest,rfl⟩:∃uo uq rest,af=uo::uq::rest:=by
  match af,aa with
  |uo::uq::rest,_=>exact⟨uo,uq,rest,rfl⟩
 rw[keyKind_ints ck];exact wpAny_pure h
noncomputable def fN(h:Heap):List Value->List (List Int)->Prop
 |[],[]=>True
 |v::af,k::aq=>(∃a o xs n,v=.ref a/\h.get? a=some o/\o.cls=.type "tuple"/\o.data=.seq xs n/\IntsAre xs.toList k/\k≠[])/\fN h af aq
 |_,_=>False
theorem fN.kept{h h':Heap}(k:∀b o,h.get? b=some o->h'.get? b=some o):∀{af:List Value}{aq:List (List Int)},fN h af aq->fN h' af aq
 |[],[],_=>trivial
 |v::af,x::aq,⟨⟨a,o,xs,n,e,ay,r⟩,t⟩=>⟨⟨a,o,xs,n,e,k a o ay,r⟩,t.kept k⟩
theorem fN.len{h:Heap}:∀{af:List Value}{aq:List (List Int)},fN h af aq->aq.length=af.length
 |[],[],_=>rfl
 |v::af,x::aq,⟨_,t⟩=>by simp[t.len]
theorem fN.get{h:Heap}:∀{af:List Value}{aq:List (List Int)},fN h af aq->∀i,i<af.length->∃a o xs n,af.getD i Value.none=.ref a/\h.get? a=some o/\o.cls=.type "tuple"/\o.data=.seq xs n/\IntsAre xs.toList (aq.getD i [])/\aq.getD i []≠[]
 |[],[],_,i,hi=>by simp at hi
 |v::af,x::aq,⟨q,t⟩,0,_=>q
 |v::af,x::aq,⟨q,t⟩,i+1,hi=>by
  have:=t.get i (by simpa using hi)
  simpa[List.getD] using this
def CD{us:List Value}{xs:List Int}(h:IntsAre us xs):∀{ys:List Int},IntsAre us ys->xs=ys:=by
 induction h with
 |nil=>intro ys q;cases q;rfl
 |cons n t _ aD =>
  intro ys q;cases q with
  |cons _ _ q=>rw[aD q]
def NT{h:Heap}{af:List Value}{aq:List (List Int)}(H:fN h af aq):∀i j,i<af.length->j<af.length->af.getD i Value.none=af.getD j Value.none->aq.getD i []=aq.getD j []:=λi j hi aB e=>by
 obtain⟨a,o,xs,n,ak,aN,_,ba,b5,_⟩:=H.get i hi;obtain⟨lK,bC,UZ,cE,av,o8,_,iy,ym,_⟩:=H.get j aB;rw[ak,av]at e;injection e with e;subst e;rw[aN]at o8;cases o8;rw[ba]at iy;cases iy;exact CD b5 ym
theorem fN.q1 {h : Heap} : ∀ {af : List Value} {aq : List (List Int)}, fN h af aq -> ∃ bF : List Value, KatTups h af bF /\ bF.length = af.length /\ ∀ v ∈ bF, ∃ i t, v = Value.int i t
  | [], [], _ => ⟨[], KatTups.nil, rfl, by simp⟩
  | v :: af, x :: aq, ⟨⟨a, o, xs, n, e, ay, aj, hd, ck, en⟩, t⟩ => by
    subst e
    obtain ⟨bF, J, aa, aL⟩ := t.q1
    obtain ⟨i, u, hf⟩ : ∃ i u, xs[0]? = some (Value.int i u) := by
      cases q : xs.toList with
      | nil => rw [q] at ck; cases ck; exact absurd rfl en
      | cons y ys =>
        rw [q] at ck
        cases ck with
        | cons n t r => exact ⟨n, t, by have : xs.toList[0]? = some (Value.int n t) := by rw [q]; rfl
                                        simpa using this⟩
    refine ⟨Value.int i u :: bF, KatTups.cons ay aj hd hf J, by simp [aa], fun z hz => ?_⟩
    rcases V2.mp hz with rfl | hz
    · exact ⟨i, u, rfl⟩
    · exact aL z hz
noncomputable def nE(fin:Bool):List Int->List Int->Bool
 |x::xs,y::ys=>if x=y then nE fin xs ys else decide (x<y)
 |_,_=>fin
theorem C3:∀(xs ys:List Int),nE (decide (xs.length<ys.length)) xs ys=bt.lexLt xs ys
 |[],[]=>rfl
 |[],_::_=>rfl
 |_::_,[]=>rfl
 |x::xs,y::ys=>by
  have e:decide ((x::xs).length<(y::ys).length)=decide (xs.length<ys.length):=by simp
  rw[e];simp only[nE,bt.lexLt,C3 xs ys]
theorem CL{fin:Bool}{Q:Bool->Shared->Prop}:∀{us af:List Value}{xs ys:List Int}(i:Nat),IntsAre us xs->IntsAre af ys->Q (nE fin xs ys) s->KatLex prog w A true fin Q (us.zip af) i s
 |_,_,_,_,i,.nil,_,h=>by simpa[nE] using kat_nil (prog:=prog) (w:=w) (A:=A) (b:=true) (i:=i) h
 |_,_,_,_,i,.cons x t r,.nil,h=>by simpa[nE] using kat_nil (prog:=prog) (w:=w) (A:=A) (b:=true) (i:=i) h
 |_,_,_,_,i,.cons x t r,.cons y u q,h=>by
  refine kat_cons (wpAny_eqBool_int ?_);simp only[nE]at h
  by_cases e:x=y
  .subst e;rw[if_pos rfl]at h;rw[show(x==x)=true by simp]
   exact kat_yes (CL (i+1) r q h)
  .rw[if_neg e]at h;rw[show(x==y)=false by simpa using e]
   refine kat_no ?_;cases ae:(true&&i==0) with
   |true=>exact oneLt_int h
   |false=>exact kat_one _ _ (lt_int (show W.BoolBack Q (Value.bool (decide (x<y))) s from h))
def Hn{af:List Value}{aq:List (List Int)}(c3:fN s.heap af aq)(i j:Nat)(bD:Bool->Shared->Prop)(hi:i<af.length)(aB:j<af.length)(h:bD (ltI bt.lexLt [] aq i j) s):kas_ask prog w A (tuples' true) af i j bD s:=by
 obtain⟨a,o,xs,n,ak,ay,aj,hd,ck,_⟩:=c3.get i hi;obtain⟨b,bC,ys,cE,av,du,c6,fE,jW,_⟩:=c3.get j aB;unfold kas_ask;rw[ak,av];refine kat_lt ay hd du fE (CL 0 ck jW ?_);have bU:(aq.getD i []).length=xs.size:=by rw[xr ck,Array.length_toList]
 have cJ:(aq.getD j []).length=ys.size:=by rw[xr jW,Array.length_toList]
 rw[<- bU,<- cJ,C3];exact h
def NW{af:List Value}{aq:List (List Int)}(c3:fN s.heap af aq)(aa:2<=af.length){Q:SortKind->Shared->Prop}(h:Q (tuples' true) s):wpAny (model prog w) A (keyKind' af.toArray) Q E s:=by
 obtain⟨bF,a0,aQ,bq⟩:=c3.q1;refine kat_kind (T:=Value.type "int") a0 (by omega) (λv aT=>?_) (by decide) (by rw[show(Value.type "int" != Value.type "tuple")=true by decide];exact h)
 obtain⟨i,t,rfl⟩:=bq v aT;exact Looks.of_pure rfl
end
end eY
end
section
namespace bt
noncomputable def fx:List (List Int)->List (List Int)->Bool
 |[],[]=>false
 |[],_::_=>true
 |_::_,[]=>false
 |x::xs,y::ys=>if x=y then fx xs ys else lexLt x y
theorem C0:∀a,fx a a=false
 |[]=>rfl
 |x::a=>by simp[fx,C0 a]
theorem CZ:∀a b,a≠b->fx a b=true\/fx b a=true
 |[],[],h=>absurd rfl h
 |[],_::_,_=>.inl rfl
 |_::_,[],_=>.inr rfl
 |x::a,y::b,h=>by
  simp only[fx]
  by_cases e:x=y
  .subst e;simp only[WN];exact CZ a b λz=>h (by rw[z])
  .rw[if_neg e,if_neg (Xr e)];exact xF x y e
theorem C1:∀{a b c},fx a b=true->fx b c=true->fx a c=true
 |[],[],_,h,_=>by simp[fx]at h
 |[],_::_,[],_,h=>by simp[fx]at h
 |[],_::_,_::_,_,_=>rfl
 |_::_,[],_,h,_=>by simp[fx]at h
 |_::_,_::_,[],_,h=>by simp[fx]at h
 |x::a,y::b,z::c,J,aa=>by
  simp only[fx]at *
  by_cases e:x=y
  .subst e;rw[if_pos rfl]at J
   by_cases av:x=z
   .subst av;rw[if_pos rfl]at aa ⊢;exact C1 J aa
   .rw[if_neg av]at aa ⊢;exact aa
  .rw[if_neg e]at J
   by_cases av:y=z
   .subst av;rw[if_neg e];exact J
   .rw[if_neg av]at aa;have t:=xH J aa
    by_cases bL:x=z
    .subst bL;rw[xG]at t;cases t
    .rw[if_neg bL];exact t
def C5:gD fx:=⟨C0,C1,CZ⟩
noncomputable def p0(c:List (List Int)):Den.D:=.tup (c.map aM)
theorem De:∀a b:List (List Int),Den.kb (a.map aM) (b.map aM)=some (fx a b)
 |[],[]=>rfl
 |[],_::_=>rfl
 |_::_,[]=>rfl
 |x::a,y::b=>by
  rw[show Den.kb ((x::a).map aM) ((y::b).map aM)=if Den.gW (aM x) (aM y)=true then Den.kb (a.map aM) (b.map aM) else Den.ka (aM x) (aM y) from rfl,De a b,q7,se];simp only[fx]
  by_cases h:x=y<;>simp[h]
def Ot(a b:List (List Int)):Den.ka (p0 a) (p0 b)=some (fx a b):=De a b
end bt
namespace eY
open PySem PySem.W PyProof.Rows PySem.Calls
noncomputable def ih(h:Heap):List Value->List (List (List Int))->Prop
 |[],[]=>True
 |v::af,k::aq=>(∃a o xs n,v=.ref a/\h.get? a=some o/\o.cls=.type "tuple"/\o.data=.seq xs n/\fN h xs.toList k/\k≠[])/\ih h af aq
 |_,_=>False
theorem ih.kept{h h':Heap}(k:∀b o,h.get? b=some o->h'.get? b=some o):∀{af:List Value}{aq:List (List (List Int))},ih h af aq->ih h' af aq
 |[],[],_=>trivial
 |v::af,x::aq,⟨⟨a,o,xs,n,e,ay,aj,hd,ck,en⟩,t⟩=>⟨⟨a,o,xs,n,e,k _ _ ay,aj,hd,ck.kept k,en⟩,t.kept k⟩
 |[],_::_,h=>h.elim
 |_::_,[],h=>h.elim
theorem ih.get{h:Heap}:∀{af:List Value}{aq:List (List (List Int))},ih h af aq->∀i,i<af.length->∃a o xs n,af.getD i Value.none=.ref a/\h.get? a=some o/\o.cls=.type "tuple"/\o.data=.seq xs n/\fN h xs.toList (aq.getD i [])/\aq.getD i []≠[]
 |[],[],_,i,hi=>by simp at hi
 |v::af,x::aq,⟨t,r⟩,0,_=>by simpa[List.getD] using t
 |v::af,x::aq,⟨t,r⟩,i+1,hi=>by simpa[List.getD] using ih.get r i (by simpa using hi)
 |[],_::_,h,_,_=>h.elim
 |_::_,[],h,_,_=>h.elim
theorem FX{h:Heap}:∀{af:List Value}{xs ys:List (List Int)},fN h af xs->fN h af ys->xs=ys
 |[],[],[],_,_=>rfl
 |v::af,x::xs,y::ys,⟨⟨a,o,us,n,e,ay,aj,hd,ck,_⟩,t⟩,⟨⟨lK,bC,VQ,cE,bl,du,c6,fE,jW,_⟩,t'⟩=>by
  subst e;cases bl;rw[ay]at du;cases du;rw[hd]at fE;cases fE;rw[CD ck jW,FX t t']
 |[],_::_,_,h,_=>h.elim
 |[],[],_::_,_,h=>h.elim
 |_::_,[],_,h,_=>h.elim
 |_::_,_::_,[],_,h=>h.elim
def NU{h:Heap}{af:List Value}{aq:List (List (List Int))}(H:ih h af aq):∀i j,i<af.length->j<af.length->af.getD i Value.none=af.getD j Value.none->aq.getD i []=aq.getD j []:=λi j hi aB e=>by
 obtain⟨a,o,xs,n,aN,ke,_,ba,b5,_⟩:=H.get i hi;obtain⟨lK,bC,UZ,cE,o8,Ef,_,iy,ym,_⟩:=H.get j aB;rw[aN,o8]at e;cases e;rw[ke]at Ef;cases Ef;rw[ba]at iy;cases iy;exact FX b5 ym
theorem ih.q1 {h : Heap} : ∀ {af : List Value} {aq : List (List (List Int))}, ih h af aq -> ∃ bF : List Value, KatTups h af bF /\ bF.length = af.length /\ ∀ v ∈ bF, ∃ a o, v = Value.ref a /\ h.get? a = some o /\ o.cls = .type "tuple"
  | [], [], _ => ⟨[], KatTups.nil, rfl, by simp⟩
  | v :: af, x :: aq, ⟨⟨a, o, xs, n, e, ay, aj, hd, ck, en⟩, t⟩ => by
    subst e
    obtain ⟨bF, J, aa, aL⟩ := t.q1
    obtain ⟨b, bC, hf, ae, LP⟩ : ∃ b bC, xs[0]? = some (Value.ref b) /\ h.get? b = some bC /\ bC.cls = .type "tuple" := by
      cases q : xs.toList with
      | nil =>
        rw [q] at ck
        cases x with
        | nil => exact absurd rfl en
        | cons _ _ => exact ck.elim
      | cons y ys =>
        rw [q] at ck
        cases x with
        | nil => exact ck.elim
        | cons k x =>
          obtain ⟨⟨b, bC, us, cE, ak, av, bL, _⟩, _⟩ := ck
          exact ⟨b, bC, by have : xs.toList[0]? = some (Value.ref b) := by rw [q, ak]; rfl
                           simpa using this, av, bL⟩
    refine ⟨Value.ref b :: bF, KatTups.cons ay aj hd hf J, by simp [aa], fun z hz => ?_⟩
    rcases V2.mp hz with rfl | hz
    · exact ⟨b, bC, rfl, ae, LP⟩
    · exact aL z hz
  | [], _ :: _, h => h.elim
  | _ :: _, [], h => h.elim
section
variable{prog:Program}{w:World}{A:Around}{E:Value->Shared->Prop}{s:Shared}
noncomputable def nF(fin:Bool):List (List Int)->List (List Int)->Bool
 |x::xs,y::ys=>if x=y then nF fin xs ys else bt.lexLt x y
 |_,_=>fin
theorem C2:∀(xs ys:List (List Int)),nF (decide (xs.length<ys.length)) xs ys=bt.fx xs ys
 |[],[]=>rfl
 |[],_::_=>rfl
 |_::_,[]=>rfl
 |x::xs,y::ys=>by
  have e:decide ((x::xs).length<(y::ys).length)=decide (xs.length<ys.length):=by simp
  rw[e];simp only[nF,bt.fx,C2 xs ys]
theorem C4:∀a b:List Int,c5.lexLt a b=bt.lexLt a b
 |[],[]=>rfl
 |[],_::_=>rfl
 |_::_,[]=>rfl
 |x::a,y::b=>by simp only[c5.lexLt,bt.lexLt,C4 a b]
noncomputable def rt(k:List Int):PyData:=.tuple (k.map .int)
theorem yq{h:Heap}:∀{us:List Value}{k:List Int},IntsAre us k->ReadsAll h us (k.map .int) []
 |_,_,.nil=>.nil
 |_,_,.cons n t r=>.cons (as:=[]) (.int n t) (yq r)
theorem AV:∀a b:List Int,PyData.eqvAll (a.map .int) (b.map .int)=decide (a=b)
 |[],[]=>rfl
 |[],_::_=>rfl
 |_::_,[]=>rfl
 |x::a,y::b=>by
  rw[List.map_cons,List.map_cons,PyData.eqvAll,AV a b,PyData.eqv]
  by_cases h:x=y<;>simp[h]
theorem tg:∀a:List Int,PyData.canLayAll0 (a.map .int)=true/\PyData.depthAll (a.map .int)=0
 |[]=>⟨rfl,rfl⟩
 |x::a=>by
  obtain⟨J,aa⟩:=tg a;exact⟨by rw[List.map_cons,PyData.canLayAll0,J];rfl,by rw[List.map_cons];show max (PyData.depth (.int x)) (PyData.depthAll (a.map .int))=0;rw[aa];rfl⟩
theorem CM{fin:Bool}{Q:Bool->Shared->Prop}(bO:A.units+2<cLine):∀{us af:List Value}{xs ys:List (List Int)}(i:Nat),fN s.heap us xs->fN s.heap af ys->Q (nF fin xs ys) s->KatLex prog w A false fin Q (us.zip af) i s
 |[],_,[],_,i,_,_,h=>by simpa[nF] using kat_nil (prog:=prog) (w:=w) (A:=A) (b:=false) (i:=i) h
 |_::_,[],_::_,[],i,_,_,h=>by simpa[nF] using kat_nil (prog:=prog) (w:=w) (A:=A) (b:=false) (i:=i) h
 |u::us,v::af,x::xs,y::ys,i,⟨⟨a,o,as,n,e,ay,aj,hd,ck,_⟩,t⟩,⟨⟨b,bC,bs,cE,bl,du,c6,fE,jW,_⟩,t'⟩,h=>by
  subst e bl;have aG:Reads s.heap (.ref a) (rt x) []:=.tuple ay aj hd (yq ck);have a5:Reads s.heap (.ref b) (rt y) []:=.tuple du c6 fE (yq jW);have dep:∀k:List Int,(rt k).depth=1:=λk=>by show PyData.depthAll (k.map .int)+1=1;rw[(tg k).2]
  have eq:=SeqAt.eqAt_reads _ _ A s _ _ _ _ aG a5 (show PyData.canLayAll0 (x.map .int)=true from(tg x).1) (show PyData.canLayAll0 (y.map .int)=true from(tg y).1) (by rw[dep,dep];show A.units+1<cLine;omega)
  rw[show PyData.eqv (rt x) (rt y)=decide (x=y) from AV x y]at eq;refine kat_cons (eq prog w _ _ ?_);simp only[nF]at h
  by_cases e:x=y
  .rw[if_pos e]at h;rw[decide_eq_true e];exact kat_yes (CM bO (i+1) t t' h)
  .rw[if_neg e]at h;rw[decide_eq_false e];refine kat_no (kat_one _ _ ?_);have bj:s.heap.IsTuple a as:=⟨o,ay,aj,n,hd⟩;have b3:s.heap.IsTuple b bs:=⟨bC,du,c6,cE,fE⟩;exact c5.Df bj b3 ck jW (by omega) (by rw[C4];exact h)
 |[],_,_::_,_,_,h,_,_=>h.elim
 |_::_,_,[],_,_,h,_,_=>h.elim
 |_::_,[],_::_,_::_,_,_,h,_=>h.elim
 |_::_,_::_,_::_,[],_,_,h,_=>h.elim
def Ho{af:List Value}{aq:List (List (List Int))}(bO:A.units+2<cLine)(c3:ih s.heap af aq)(i j:Nat)(bD:Bool->Shared->Prop)(hi:i<af.length)(aB:j<af.length)(h:bD (ltI bt.fx [] aq i j) s):kas_ask prog w A (tuples' false) af i j bD s:=by
 obtain⟨a,o,xs,n,ak,ay,aj,hd,ck,_⟩:=c3.get i hi;obtain⟨b,bC,ys,cE,av,du,c6,fE,jW,_⟩:=c3.get j aB;unfold kas_ask;rw[ak,av];refine kat_lt ay hd du fE (CM bO 0 ck jW ?_);have bU:(aq.getD i []).length=xs.size:=by rw[ck.len,Array.length_toList]
 have cJ:(aq.getD j []).length=ys.size:=by rw[jW.len,Array.length_toList]
 rw[<- bU,<- cJ,C2];exact h
def NX{af:List Value}{aq:List (List (List Int))}(c3:ih s.heap af aq)(aa:2<=af.length){Q:SortKind->Shared->Prop}(h:Q (tuples' false) s):wpAny (model prog w) A (keyKind' af.toArray) Q E s:=by
 obtain⟨bF,a0,aQ,bq⟩:=c3.q1;refine kat_kind (T:=Value.type "tuple") a0 (by omega) (λv aT=>?_) (by decide) (by rw[show(Value.type "tuple" != Value.type "tuple")=false by decide];exact h)
 obtain⟨a,o,rfl,ay,aj⟩:=bq v aT;rw[<- aj];exact(Looks.ld ay).andThen .now
end
end eY
end
section
namespace eE
open Den bt
variable{pg:dm}{Φ:dy}
section
variable{α:Type}{lt:α->α->Bool}
def tP{n d k:Nat}(h:k<=n):bN n d (some (k:Int))=k:=by
 have J:¬((k:Int)<0):=by omega
 have aa:¬((n:Int)<(k:Int)):=by omega
 simp only[bN,if_neg J,if_neg aa];omega
def EJ{n d k:Nat}(h:n<k):bN n d (some (k:Int))=n:=by
 have J:¬((k:Int)<0):=by omega
 have aa:((n:Int)<(k:Int)):=by omega
 simp only[bN,if_neg J,if_pos aa]
def Ay{β:Type}(xs:List β)(k:Nat):cut xs (some (k:Int)) none=xs.drop k:=by
 unfold cut
 by_cases h:k<=xs.length
 .rw[tP h];show List.take (xs.length-k) (xs.drop k)=_;rw[WS (by simp)]
 .rw[EJ (by omega),List.drop_of_length_le (VZ _),List.drop_of_length_le (by omega)]
  simp
def IF{β:Type}(xs:List β)(k:Nat):cut xs none (some (k:Int))=xs.take k:=by
 unfold cut
 by_cases h:k<=xs.length
 .rw[tP h];simp[bN]
 .rw[EJ (by omega)];simp only[bN,List.drop_zero,Nat.sub_zero]
  rw[WS (VZ _),WS (by omega)]
end
noncomputable def IsCell(m:Int)(c:List Int):Prop:=c≠[]/\(∀x∈c,0<=x/\x<m)/\d2 ltI c
noncomputable instance (m:Int) (c:List Int):Decidable (IsCell m c):=by unfold IsCell d2;infer_instance
def BE{α:Type}(xs:List α)(k:Nat):hQ xs (k:Int)=xs[k]?:=by
 unfold hQ iW;rw[if_pos (by omega)]
 by_cases h:k<xs.length
 .rw[if_pos (by omega)];simp
 .rw[if_neg (by omega)];simp;omega
noncomputable def lies(c o:List Int):Bool:=c.all λx=>decide (x∈o)
def xI{c o:List Int}:lies c o=true<->∀x∈c,x∈o:=by simp[lies]
def K7{α β:Type}(f:α->β)(xs:List α):xs.filterMap (λx=>some (f x))=xs.map f:=by
 induction xs with
 |nil=>rfl
 |cons x xs aD=>simp
def K6{α β:Type}(q:α->Bool)(f:α->β)(xs:List α):xs.filterMap (λx=>if q x then some (f x) else none)=(xs.filter q).map f:=by
 induction xs with
 |nil=>rfl
 |cons x xs aD=>cases h:q x<;>simp[h,aD]
noncomputable def b0(m:Int):List Int:=(List.range m.toNat).map λ(k:Nat)=>(k:Int)
def o9(m:Int):eM 0 m=(b0 m).map .int:=by
 unfold eM b0;rw[List.map_map];have:(m-0).toNat=m.toNat:=by omega
 rw[this];apply Xx;intro k _;simp
def oT{m x:Int}:x∈b0 m<->0<=x/\x<m:=by
 unfold b0;rw[List.mem_map];constructor
 .rintro⟨k,aw,rfl⟩;have:=List.mem_range.mp aw;omega
 .rintro⟨J,aa⟩;exact⟨x.toNat,List.mem_range.mpr (by omega),by omega⟩
noncomputable def f9(m:Int)(ts:List (List Int)):Bool:=(b0 m).all λk=>ts.any (lies [k])
def vL{m:Int}{ts:List (List Int)}:f9 m ts=true<->∀x,0<=x->x<m->∃t∈ts,x∈t:=by
 unfold f9;simp only[Wt,ZP,xI,oT,Ws,forall_eq];exact⟨λh x a b=>h x ⟨a,b⟩,λh x zC=>h x zC.1 zC.2⟩
def Ez{m:Int}(h:-1000<=m)(h':m<=1000):nO m=true:=by unfold nO;simp;omega
def la{i j:Int}(J:-1000<=i)(aa:i<=1000)(aL:-1000<=j)(a7:j<=1000):iz i j=.ok (eM i j):=by
 have cu:(j-i).toNat<=1000000:=by omega
 unfold iz;rw[Ez J aa,Ez aL a7,decide_eq_true cu];rfl
def K3{α:Type}{p:α->Bool}{c:α}(pre:List α)(h:p c=true):(pre++[c]).filter p=pre.filter p++[c]:=by rw[List.filter_append];simp[h]
def K2{α:Type}{p:α->Bool}{c:α}(pre:List α)(h:p c=false):(pre++[c]).filter p=pre.filter p:=by rw[List.filter_append];simp[h]
noncomputable def h8(cs:List (List Int)):List (List Int):=(cY lexLt (dN cs)).filter λc=>!((cY lexLt (dN cs)).filter λo=>decide (c.length<o.length)).any (lies c)
def hI:SZ=16777216:=rfl
noncomputable def cA(m:Int)(ts:List (List Int)):D:=.tup [.int m,.tup (ts.map aM)]
noncomputable def Bg(d:D):Prop:=∀m ts,d=cA m ts->(∀c∈ts,IsCell m c)->(dN ts).length<=255
end eE
end
section
namespace ek
open Den bt eE
variable{pg:dm}{Φ:dy}
mutual
theorem Sx:∀(n:Nat)(d:D),dw n d=true->dw (n+1) d=true
 |n,.cU,_=>rfl
 |n,.aU _,_=>rfl
 |n,.int _,_=>rfl
 |0,.str _,h=>h
 |n+1,.str _,h=>h
 |0,.tup _,h=>by cases h
 |n+1,.tup xs,h=>yH n xs h
 |0,.lst _,h=>by cases h
 |n+1,.lst xs,h=>yH n xs h
 |0,.bT _,h=>by cases h
 |0,.bx _,h=>by cases h
 |n+1,.bT _,h=>by cases h
 |n+1,.bx _,h=>by cases h
 |0,.eR _,h=>by cases h
 |n+1,.eR _,h=>by cases h
theorem yH:∀(n:Nat)(xs:List D),xs.all (dw n)=true->xs.all (dw (n+1))=true
 |_,[],_=>rfl
 |n,x::xs,h=>by
  simp only[List.all_cons,VX]at h ⊢;exact⟨Sx n x h.1,yH n xs h.2⟩
end
def Cw{c:List Int}{k:Nat}{x:Int}(h:c[k]?=some x):g7 (.tup (c.map .int)) (.int (k:Int))=.ok (.int x):=by
 rw[Cy,BE,Wg,h];rfl
end ek
end
section
namespace ek
open Den bt eE
variable{pg:dm}{Φ:dy}
def Au{α:Type}{g:D->R (Option D)}{p:α->Option D}{f:α->D}{aq:List α}(h:∀k∈aq,g (f k)=.ok (p k)):dC g (aq.map f)=.ok (aq.filterMap p):=by
 induction aq with
 |nil=>rfl
 |cons c cs aD =>
  simp only[List.map_cons,dC,h c List.mem_cons_self,R.ml,aD λy aC=>h y (List.mem_cons_of_mem _ aC),List.filterMap_cons]
  cases p c<;>rfl
def oj{α:Type}{g:D->R (Option D)}{q:α->Bool}{h:α->D}{f:α->D}{aq:List α}(e:∀k∈aq,g (f k)=.ok (if q k then some (h k) else none)):dC g (aq.map f)=.ok ((aq.filter q).map h):=by
 rw[Au e,K6]
def hM{α:Type}{g:D->R (Option D)}{h:α->D}{f:α->D}{aq:List α}(e:∀k∈aq,g (f k)=.ok (some (h k))):dC g (aq.map f)=.ok (aq.map h):=by
 rw[Au (p:=λk=>some (h k)) e,K7]
def yC(c:List Int):fj (aM c)=.ok (c.map .int):=rfl
def Bn{α:Type}(q:α->Bool)(xs:List α):(xs.filter q).isEmpty=xs.all λx=>!q x:=by
 induction xs with
 |nil=>rfl
 |cons x xs aD=>cases h:q x<;>simp[h,aD]
def xU{α β:Type}(f:α->β)(xs:List α):(xs.map f).isEmpty=xs.isEmpty:=by cases xs<;>rfl
def N6(c o:List Int):dK pg Φ ⟨2,0,bA.vh⟩ [aM c,aM o]=.ok (.aU (lies c o)):=by
 have ak:dC (elem pg Φ [some (aM c),some (aM o)] (.var 2) 0 (.some (.cmp .k4 (.var 2) (.var 1)))) (c.map .int)=.ok ((c.filter λx=>!decide (x∈o)).map .int):=oj λx _=>by
  simp only[Den.br,Nat.reduceAdd];unfold aM;simp only[Den.br,Nat.reduceAdd,OD];cases decide (x∈o)<;>simp only[Den.br,Nat.reduceAdd]
 simp only[Den.br,Nat.reduceAdd,bA.vh,yC,ak,AU (ys:=(c.filter λx=>!decide (x∈o)).map .int) (by simp[Yd,tS]),xU,Bn,lies,Bool.not_not]
noncomputable def nH(cs:List (List Int)):List (List Int):=(cY lexLt (dN cs)).filter λc=>cs.all λo=>!(!decide (c=o)&&lies c o)
def N8 {f : Nat} (hf : ∀ c o : List Int, Φ f [aM c, aM o] = .ok (.aU (lies c o))) {d : D} {cs : List (List Int)} (hd : fj d = .ok (cs.map aM)) (az : ∀ c ∈ cs, c ≠ []) (gc : (dN cs).length <= 255) :
    dK pg Φ ⟨1, 2, bA.vl f⟩ [d] = .ok (.tup ((nH cs).map aM)) := by
  simp only [Den.br, Nat.reduceAdd, bA.vl, hd, yP az gc]
  have hlen : (cY lexLt (dN cs)).length <= 255 := by rw [q5]; exact gc
  unfold nH
  generalize cY lexLt (dN cs) = ds at *
  obtain ⟨c0, e, x, he⟩ := ij (f := aM) (g := turn pg Φ 0 [2] (.cons (.iff (.cmp .eq (.comp (.var 3) 0 (.seq (.var 0)) (.some (.and (.cmp .ne (.var 2) (.var 3)) (.call f (.cons (.var 2) (.cons (.var 3) (.nil))))))) (.lst (.nil))) (.cons (.app 1 (.var 2)) (.nil)) (.nil)) (.nil)))
    (fun bf C => ∃ (x : Option D), C = [some d, some (.lst ((bf.filter fun c => cs.all fun o => !(!decide (c = o) && lies c o)).map aM)), x])
    ds [some d, some (.lst []), none] ⟨none, rfl⟩ (fun pre c post C aE ⟨x, ck⟩ => by
      subst ck
      have ak : ∀ z, dC (elem pg Φ [some d, z, some (aM c)] (.var 3) 0 (.some (.and (.cmp .ne (.var 2) (.var 3)) (.call f (.cons (.var 2) (.cons (.var 3) (.nil))))))) (cs.map aM) = .ok ((cs.filter fun o => !decide (c = o) && lies c o).map aM) := fun z => oj fun o _ => by
        simp only [Den.br, Nat.reduceAdd, JQ, hf]
        cases decide (c = o) <;> simp only [Den.br, Nat.reduceAdd, hf, Zb, Bool.true_and]
        cases lies c o <;> simp only [Den.br, Nat.reduceAdd]
      have au : ((pre.filter fun c => cs.all fun o => !(!decide (c = o) && lies c o)).map aM).length < SZ := by
        have J := YG (fun c => cs.all fun o => !(!decide (c = o) && lies c o)) pre
        have aa : pre.length <= ds.length := by rw [aE]; simp
        rw [List.length_map, hI]; omega
      simp only [Den.br, Nat.reduceAdd, hd, ak, AU (Sw 58 _), xU, Bn]
      cases q : (cs.all fun o => !(!decide (c = o) && lies c o))
      · refine ⟨_, by simp only [Den.br, Nat.reduceAdd]; rfl, some (aM c), ?_⟩
        rw [K2 pre (by rw [q])]
      · refine ⟨_, by simp only [Den.br, Nat.reduceAdd, rY, if_pos au]; rfl, some (aM c), ?_⟩
        rw [K3 pre (by rw [q]), List.map_append]; rfl)
  rw [e, he]
  simp only [Den.br, Nat.reduceAdd]
def Hk{c o:List Int}(aj:d2 ltI c)(ay:d2 ltI o)(h:∀x∈c,x∈o)(ne:c≠o):c.length<o.length:=by
 have J:c.length<=o.length:=nK (aj.nodup j9) h;rcases ZU c.length o.length with q|q
 .exact q
 .exfalso;apply ne;refine n9 j9 aj ay λz=>⟨h z,λhz=>?_⟩
  by_cases Ct:z∈c
  .exact Ct
  .exfalso;have:(z::c).length<=o.length:=nK (WB.mpr ⟨Ct,aj.nodup j9⟩) λw hw=>by
    rcases V2.mp hw with rfl|hw
    .exact hz
    .exact h w hw
   simp at this;omega
def Ov {cs : List (List Int)} (h : ∀ c ∈ cs, d2 ltI c) : nH cs = h8 cs := by
  unfold nH h8
  apply List.filter_congr
  intro c aj
  have hm : ∀ z, z ∈ cY lexLt (dN cs) <-> z ∈ cs := fun z => by rw [k3, k2]
  have aj := (hm c).mp aj
  rw [Bool.eq_iff_iff]
  simp only [Wt, WH, Bool.and_eq_false_iff, Bool.not_eq_false', Wh, Zu, Xq, hm]
  constructor
  · intro q o ⟨ay, au⟩
    rcases q o ay with rfl | q
    · omega
    · rw [q]; exact WA
  · intro q o ay
    by_cases e : c = o
    · exact .inl e
    · refine .inr ?_
      cases z : lies c o with
      | false => rfl
      | true => exact absurd z (q o ⟨ay, Hk (h c aj) (h o ay) (xI.mp z) e⟩)
end ek
end
section
namespace ek
open Den bt eE
variable{pg:dm}{Φ:dy}
noncomputable def gY(w:Nat):Nat->D->Bool
 |_,.cU=>true
 |_,.aU _=>true
 |_,.int _=>true
 |_,.str x=>x.cps.all (· < 0x110000)
 |n+1,.tup xs=>decide (xs.length<=w)&&xs.all (gY w n)
 |n+1,.lst xs=>decide (xs.length<=w)&&xs.all (gY w n)
 |_,_=>false
def BC{w n:Nat}{xs:List D}(h:(decide (xs.length<=w)&&xs.all (gY w n))=true):xs.length<=w/\xs.all (gY w n)=true:=let ⟨a,b⟩:=Y2.mp h;⟨ZD a,b⟩
mutual
theorem Ll {w:Nat}:∀(n:Nat)(d:D),gY w n d=true->dw n d=true
 |n,.cU,_=>by cases n<;>rfl
 |n,.aU _,_=>by cases n<;>rfl
 |n,.int _,_=>by cases n<;>rfl
 |0,.str _,h=>h
 |n+1,.str _,h=>h
 |0,.tup _,h=>by cases h
 |n+1,.tup xs,h=>wt n xs (Y2.mp (show(decide _&&xs.all (gY w n))=true from h)).2
 |0,.lst _,h=>by cases h
 |n+1,.lst xs,h=>wt n xs (Y2.mp (show(decide _&&xs.all (gY w n))=true from h)).2
 |0,.bT _,h=>by cases h
 |0,.bx _,h=>by cases h
 |n+1,.bT _,h=>by cases h
 |n+1,.bx _,h=>by cases h
 |0,.eR _,h=>by cases h
 |n+1,.eR _,h=>by cases h
theorem wt {w:Nat}:∀(n:Nat)(xs:List D),xs.all (gY w n)=true->xs.all (dw n)=true
 |_,[],_=>rfl
 |n,x::xs,h=>by
  simp only[List.all_cons,VX]at h ⊢;exact⟨Ll n x h.1,wt n xs h.2⟩
end
mutual
theorem Lm {w ej:Nat} (hw:w<=ej):∀(n:Nat)(d:D),gY w n d=true->gY ej (n+1) d=true
 |n,.cU,_=>rfl
 |n,.aU _,_=>rfl
 |n,.int _,_=>rfl
 |0,.str _,h=>h
 |n+1,.str _,h=>h
 |0,.tup _,h=>by cases h
 |n+1,.tup xs,h=>by
  have h:=BC (show(decide (xs.length<=w)&&xs.all (gY w n))=true from h);show(decide (xs.length<=ej)&&xs.all (gY ej (n+1)))=true;rw[wu hw n xs h.2,ZG];exact decide_eq_true (by omega)
 |0,.lst _,h=>by cases h
 |n+1,.lst xs,h=>by
  have h:=BC (show(decide (xs.length<=w)&&xs.all (gY w n))=true from h);show(decide (xs.length<=ej)&&xs.all (gY ej (n+1)))=true;rw[wu hw n xs h.2,ZG];exact decide_eq_true (by omega)
 |0,.bT _,h=>by cases h
 |0,.bx _,h=>by cases h
 |n+1,.bT _,h=>by cases h
 |n+1,.bx _,h=>by cases h
 |0,.eR _,h=>by cases h
 |n+1,.eR _,h=>by cases h
theorem wu {w ej:Nat} (hw:w<=ej):∀(n:Nat)(xs:List D),xs.all (gY w n)=true->xs.all (gY ej (n+1))=true
 |_,[],_=>rfl
 |n,x::xs,h=>by
  simp only[List.all_cons,VX]at h ⊢;exact⟨Lm hw n x h.1,wu hw n xs h.2⟩
end
def oe{m:Int}{c:List Int}(h:IsCell m c):c.length<=m.toNat:=by
 have:c.length<=(b0 m).length:=nK (h.2.2.nodup j9) λz hz=>oT.mpr (h.2.1 z hz)
 simpa[b0] using this
def qT{m:Int}(h:m<=8):(b0 m).length<=8:=by unfold b0;simp;omega
end ek
end
section
namespace ek
open Den bt eE
variable{pg:dm}{Φ:dy}
noncomputable def c4:Nat->List Int->List (List Int)
 |0,_=>[[]]
 |_+1,[]=>[]
 |s+1,x::r=>(c4 s r).map (x::·)++c4 (s+1) r
theorem rb:∀(s:Nat)(c z:List Int),z∈c4 s c<->z.length=s/\z.Sublist c
 |0,c,z=>by
  simp only[c4,Ws,List.length_eq_zero_iff];exact⟨λh=>⟨h,by subst h;exact Yi _⟩,λh=>h.1⟩
 |s+1,[],z=>by
  simp only[c4,ZL,YS,false_iff];rintro⟨J,aa⟩;subst aa;simp at J
 |s+1,x::r,z=>by
  simp only[c4,Wi,List.mem_map,rb s r,rb (s+1) r,List.sublist_cons_iff];constructor
  .rintro(⟨y,⟨J,aa⟩,rfl⟩|⟨J,aa⟩)
   .exact⟨by simp[J],.inr ⟨y,rfl,aa⟩⟩
   .exact⟨J,.inl aa⟩
  .rintro⟨J,aa|⟨y,rfl,aa⟩⟩
   .exact .inr ⟨J,aa⟩
   .exact .inl ⟨y,⟨by simpa using J,aa⟩,rfl⟩
theorem q4:∀(s:Nat)(c:List Int),(c4 s c).length<=2 ^ c.length
 |0,c=>by simp only[c4,List.length_singleton];exact Nat.one_le_two_pow
 |s+1,[]=>by simp[c4]
 |s+1,x::r=>by
  have J:=q4 s r;have aa:=q4 (s+1) r;simp only[c4,V0,List.length_map,List.length_cons,Nat.pow_succ];omega
noncomputable def fA:Nat->Nat->Nat
 |0,_=>1
 |_+1,0=>0
 |s+1,n+1=>fA s n+fA (s+1) n
theorem yj:∀(s:Nat)(c:List Int),(c4 s c).length=fA s c.length
 |0,c=>by simp[c4,fA]
 |s+1,[]=>by simp[c4,fA]
 |s+1,x::r=>by simp only[c4,V0,List.length_map,List.length_cons,fA,yj s r,yj (s+1) r]
theorem yh:∀{s n:Nat},n<s->fA s n=0
 |0,_,h=>by omega
 |s+1,0,_=>rfl
 |s+1,n+1,h=>by simp only[fA,yh (s:=s) (n:=n) (by omega),yh (s:=s+1) (n:=n) (by omega)]
theorem Ed:∀(s:Nat)(c:List Int),c4 (s+1) c=(List.range c.length).flatMap λk=>(c4 s (c.drop (k+1))).map (c.getD k 0::·)
 |s,[]=>rfl
 |s,x::r=>by
  rw[List.length_cons,ZV,List.flatMap_cons,List.flatMap_map];show _=(c4 s r).map (x::·)++(List.range r.length).flatMap λk=>(c4 s (r.drop (k+1))).map (r.getD k 0::·)
  rw[<- Ed s r];rfl
def Ng{c:List Int}{k:Nat}(h:k<c.length):g7 (.tup (c.map .int)) (.int (k:Int))=.ok (.int (c.getD k 0)):=Cw (by rw[V5 h];simp[List.getD,V5 h])
def tK(n:Nat):eM 0 (n:Int)=(List.range n).map λ(k:Nat)=>D.int (k:Int):=by
 unfold eM;have:((n:Int)-0).toNat=n:=by omega
 rw[this];apply Xx;intro k _;congr 1;omega
theorem sr{α β:Type}{f:α->List β}{k:Nat}:∀{xs:List α},(∀x∈xs,(f x).length<=k)->(xs.flatMap f).length<=xs.length*k
 |[],_=>by simp
 |x::xs,h=>by
  have:=sr (f:=f) (xs:=xs) λc aj=>h c (List.mem_cons_of_mem _ aj)
  have J:=h x List.mem_cons_self;simp only[List.flatMap_cons,V0,List.length_cons,Nat.succ_mul];omega
def PE{f:Nat}(c:List Int):dK pg Φ ⟨2,2,bA.ob f⟩ [aM c,.int 0]=.ok (.lst ((c4 0 c).map aM)):=by
 have e:gX (.int 0) (.int 0)=.ok true:=rfl;simp only[Den.br,Nat.reduceAdd,bA.ob,e,c4];rfl
def PF{f:Nat}{c:List Int}{s:Nat}(aj:c.length<=8)(hf:∀cy:List Int,cy.length<=8->Φ f [aM cy,.int (s:Int)]=.ok (.lst ((c4 s cy).map aM))):dK pg Φ ⟨2,2,bA.ob f⟩ [aM c,.int ((s:Int)+1)]=.ok (.lst ((c4 (s+1) c).map aM)):=by
 have h0:((s:Int)+1==0)=false:=by rw[WC];omega
 have J:jv (aM c)=.ok (.int (c.length:Int)):=by unfold aM;rw[xC,List.length_map]
 simp only[Den.br,Nat.reduceAdd,bA.ob,h0,J,la (i:=0) (j:=(c.length:Int)) (by omega) (by omega) (by omega) (by omega),tK]
 have mX:∀aq:List Nat,aq.length<=8->(aq.flatMap λk=>(c4 s (c.drop (k+1))).map (c.getD k 0::·)).length<=2048:=λaq aw=>by
  have:=sr (f:=λk=>(c4 s (c.drop (k+1))).map (c.getD k 0::·)) (k:=256) (xs:=aq) λk _=>by
   have aa:=q4 s (c.drop (k+1));have aL:(c.drop (k+1)).length<=8:=by rw[WW];omega
   have a7:2 ^ (c.drop (k+1)).length<=2 ^ 8:=WJ (by decide) aL
   rw[List.length_map];omega
  omega
 obtain⟨c0,e,x,he⟩:=ij (f:=λk:Nat=>D.int (k:Int)) (g:=turn pg Φ 0 [3] (.cons (.asg 2 (.bin .add (.var 2) (.comp (.bin .add (.tup (.cons (.idx (.var 0) (.var 3)) (.nil))) (.var 4)) 0 (.seq (.call f (.cons (.slice (.var 0) (.some (.bin .add (.var 3) (.lit (.int 1)))) (.none)) (.cons (.bin .sub (.var 1) (.lit (.int 1))) (.nil))))) (.none)))) (.nil)))
  (λbf C=>∃(x:Option D),C=[some (aM c),some (.int ((s:Int)+1)),some (.lst ((bf.flatMap λk=>(c4 s (c.drop (k+1))).map (c.getD k 0::·)).map aM)),x])
  (List.range c.length) [some (aM c),some (.int ((s:Int)+1)),some (.lst []),none] ⟨none,rfl⟩ (λpre k post C aE ⟨x,ck⟩=>by
   subst ck;have aw:k<c.length:=by
    have:k∈List.range c.length:=by rw[aE];simp
    exact List.mem_range.mp this
   have ea:pre.length+1<=c.length:=by
    have:(List.range c.length).length=(pre++k::post).length:=by rw[aE]
    simp at this;omega
   have ab:kh (aM c) (some ((k:Int)+1)) none=.ok (aM (c.drop (k+1))):=by
    unfold aM;rw[tV];have:((k:Int)+1)=((k+1:Nat):Int):=by omega
    rw[this,Ay,List.map_drop]
   have iU:(s:Int)+1-1=(s:Int):=by omega
   have hd:(c.drop (k+1)).length<=8:=by rw[WW];omega
   have ak:∀a b,dC (elem pg Φ [some (aM c),a,b,some (D.int (k:Int))] (.bin .add (.tup (.cons (.idx (.var 0) (.var 3)) (.nil))) (.var 4)) 0 .none) ((c4 s (c.drop (k+1))).map aM)=.ok ((c4 s (c.drop (k+1))).map λz=>aM (c.getD k 0::z)):=λa b=>hM λz hz=>by
    have hz:=(rb _ _ _).mp hz;have VF:=hz.2.length_le;have eS:=Ng aw;have au:[D.int (c.getD k 0)].length+(z.map D.int).length<=SZ:=by rw[List.length_map,hI];simp only[List.length_singleton];omega
    simp only[Den.br,Nat.reduceAdd];unfold aM;simp only[Den.br,Nat.reduceAdd,eS,rX];rw[if_pos (by simpa using au)]
    rfl
   have hlen:((pre.flatMap λk=>(c4 s (c.drop (k+1))).map (c.getD k 0::·)).map aM).length+((c4 s (c.drop (k+1))).map λz=>aM (c.getD k 0::z)).length<=SZ:=by
    have J:=mX pre (by omega)
    have aa:=q4 s (c.drop (k+1));have a7:2 ^ (c.drop (k+1)).length<=2 ^ 8:=WJ (by decide) hd
    rw[List.length_map,List.length_map,hI];omega
   refine⟨_,by simp only[Den.br,Nat.reduceAdd,ab,iU,hf _ hd,ak,mP,if_pos hlen];rfl,some (.int (k:Int)),?_⟩
   simp[Y6])
 rw[e,he,<- Ed];simp only[Den.br,Nat.reduceAdd]
theorem DX{fds:List fX}{f:Nat}(hf:fds[f]?=some ⟨2,2,bA.ob f⟩):∀(s n:Nat)(c:List Int),s<n->c.length<=8->run pg fds n f [aM c,.int (s:Int)]=.ok (.lst ((c4 s c).map aM))
 |0,0,c,h,_=>by omega
 |s+1,0,c,h,_=>by omega
 |0,n+1,c,_,_=>by rw[ry,hf];exact PE c
 |s+1,n+1,c,h,aj=>by
  rw[ry,hf];have:((s+1:Nat):Int)=(s:Int)+1:=by omega
  rw[this];exact PF aj λcy c6=>DX hf s n cy (by omega) c6
end ek
end
section
namespace ek
open Den bt eE
variable{pg:dm}{Φ:dy}
theorem rZ:∀{o c:List Int},d2 ltI c->d2 ltI o->(∀x∈c,x∈o)->c.Sublist o
 |[],[],_,_,_=>Yi _
 |[],x::c,_,_,h=>by have:=h x List.mem_cons_self;simp at this
 |y::o,[],_,_,_=>Yi _
 |y::o,x::c,aj,ay,h=>by
  obtain⟨dp,bz⟩:=Wr.mp aj;obtain⟨mj,jz⟩:=Wr.mp ay
  by_cases e:x=y
  .subst e;refine List.Sublist.cons_cons x (rZ bz jz λz hz=>?_)
   rcases V2.mp (h z (List.mem_cons_of_mem _ hz)) with q|q
   .have:=dp z hz;subst q;simp[ltI]at this
   .exact q
  .have ah:x∈o:=by
    rcases V2.mp (h x List.mem_cons_self) with q|q
    .exact absurd q e
    .exact q
   have qM:=mj x ah;refine List.Sublist.cons y (rZ aj jz λz hz=>?_)
   rcases V2.mp (h z hz) with q|q
   .exfalso;subst q;rcases V2.mp hz with w|w
    .exact e w.symm
    .have:=dp z w;simp[ltI]at this qM;omega
   .exact q
noncomputable def jf(ts:List (List Int))(h:Nat):List (List Int):=cY lexLt (dN (ts.flatMap (c4 (h+1))))
def OE{ts:List (List Int)}{h:Nat}{z:List Int}:z∈jf ts h<->z.length=h+1/\∃t∈ts,z.Sublist t:=by
 unfold jf;rw[k3,k2,YT];simp only[rb];exact⟨λ⟨t,a,b,c⟩=>⟨b,t,a,c⟩,λ⟨b,t,a,c⟩=>⟨t,a,b,c⟩⟩
def Hj(ts:List (List Int))(h:Nat):d2 lexLt (jf ts h):=mS k1 (oY _)
def zS(m:Int):d2 ltI (b0 m):=by
 unfold b0 d2;rw[Xm];exact Yu (λ{a b}(q:a<b)=>by simp[ltI];omega) Yy
def H3{m:Int}{c:List Int}(h:IsCell m c):c.Sublist (b0 m):=rZ h.2.2 (zS m) λx ah=>oT.mpr (h.2.1 x ah)
def N5 {f h : Nat} {m : Int} {ts : List (List Int)} (hf : ∀ c : List Int, c.length <= 8 -> Φ f [aM c, .int ((h : Int) + 1)] = .ok (.lst ((c4 (h + 1) c).map aM))) (aV : ∀ t ∈ ts, t.length <= 8) (au : ts.length <= 255) (gc : (jf ts h).length <= 255) :
    dK pg Φ ⟨2, 2, bA.ve f⟩ [cA m ts, .int (h : Int)] = .ok (.lst ((jf ts h).map aM)) := by
  have hi : g7 (cA m ts) (.int 1) = .ok (.tup (ts.map aM)) := rfl
  simp only [Den.br, Nat.reduceAdd, bA.ve, hi]
  have mX : ∀ aq : List (List Int), aq.length <= 255 -> (∀ t ∈ aq, t.length <= 8) -> (aq.flatMap (c4 (h + 1))).length <= 65280 := fun aq aw eH => by
    have := sr (f := c4 (h + 1)) (k := 256) (xs := aq) fun t j5 => by
      have aa := q4 (h + 1) t
      have a7 : 2 ^ t.length <= 2 ^ 8 := WJ (by decide) (eH t j5)
      omega
    omega
  obtain ⟨c0, e, x, he⟩ := ij (f := aM) (g := turn pg Φ 0 [3] (.cons (.asg 2 (.bin .add (.var 2) (.call f (.cons (.var 3) (.cons (.bin .add (.var 1) (.lit (.int 1))) (.nil)))))) (.nil)))
    (fun bf C => ∃ (x : Option D), C = [some (cA m ts), some (.int (h : Int)), some (.lst ((bf.flatMap (c4 (h + 1))).map aM)), x])
    ts [some (cA m ts), some (.int (h : Int)), some (.lst []), none] ⟨none, rfl⟩ (fun pre t post C aE ⟨x, ck⟩ => by
      subst ck
      have qJ : t ∈ ts := by rw [aE]; simp
      have ea : pre.length + 1 <= ts.length := by rw [aE]; simp
      have J := mX pre (by omega) fun t j5 => aV t (by rw [aE]; simp [j5])
      have aa := mX [t] (by simp) fun z hz => by simp at hz; subst hz; exact aV z qJ
      have hlen : ((pre.flatMap (c4 (h + 1))).map aM).length + ((c4 (h + 1) t).map aM).length <= SZ := by
        simp at aa
        rw [List.length_map, List.length_map, hI]; omega
      refine ⟨_, by simp only [Den.br, Nat.reduceAdd, hf t (aV t qJ), mP, if_pos hlen]; rfl, some (aM t), ?_⟩
      simp [Y6])
  rw [e, he]
  have az : ∀ c ∈ ts.flatMap (c4 (h + 1)), c ≠ [] := fun c aj => by
    obtain ⟨t, _, aj⟩ := YT.mp aj
    intro z; subst z
    have := ((rb _ _ _).mp aj).1
    simp at this
  have : (dN (ts.flatMap (c4 (h + 1)))).length <= 255 := by unfold jf at gc; rw [q5] at gc; exact gc
  simp only [Den.br, Nat.reduceAdd, yP az this, jf]
noncomputable def FZ:D->Int
 |.int i=>i
 |_=>0
end ek
end
section
namespace ek
open Den bt eE
variable{pg:dm}{Φ:dy}
def jy(i j:Int)(h:(-gB<i/\i<gB)\/(-gB<j/\j<gB)):dT .mul (.int i) (.int j)=.ok (.int (i*j)):=by rw[mul_int,if_pos h]
def gK(i j:Int)(h:0<j):dT .mod (.int i) (.int j)=.ok (.int (i%j)):=by rw[mod_int,if_pos h]
def wa(i j:Int)(h:0<j)(h':j<1073741824):dT .fdiv (.int i) (.int j)=.ok (.int (i / j)):=by rw[Be,if_pos ⟨h,h'⟩]
def ic:gB=18446744073709551616:=rfl
noncomputable def mM:Int:=2147483629
def zp:mM=2147483629:=rfl
def kJ(a:Int){b:Int}(h:0<b):0<=a%b/\a%b<b:=⟨Int.emod_nonneg a (by omega),Int.emod_lt_of_pos a h⟩
def Jr(i k:Int):∃r:Int,0<=r/\r<mM/\dK pg Φ ⟨2,1,bA.vf⟩ [.int i,.int k]=.ok (.int r):=by
 have b1:=kJ ((i+104729*k+17)*69621) (b:=2147483647) (by decide)
 refine⟨((i+104729*k+17)*69621%2147483647*((i+104729*k+17)*69621%2147483647)+3*((i+104729*k+17)*69621%2147483647)+k)%2147483629,?_,?_,by
  simp only[Den.br,Nat.reduceAdd,bA.vf,jy 104729 k (.inl (by rw[ic];omega)),jy _ 69621 (.inr (by rw[ic];omega)),gK _ 2147483647 (by decide),gK _ 2147483629 (by decide),
   jy ((i+104729*k+17)*69621%2147483647) ((i+104729*k+17)*69621%2147483647) (.inl (by rw[ic];omega)),jy 3 ((i+104729*k+17)*69621%2147483647) (.inl (by rw[ic];omega))]⟩
 .exact(kJ _ (by decide)).1
 .rw[zp];exact(kJ _ (by decide)).2
def H2(is:List Int)(k:Nat):dK pg Φ ⟨2,0,bA.vd⟩ [.lst (is.map .int),.int (k:Int)]=.ok (.int (is.getD k 0)):=by
 simp only[Den.br,Nat.reduceAdd,bA.vd,List.length_map]
 by_cases h:k<is.length
 .have h':(k:Int)<(is.length:Int):=by omega
  have e:g7 (.lst (is.map D.int)) (.int (k:Int))=.ok (.int (is.getD k 0)):=by
   rw[Cx,BE,Wg,V5 h];simp[List.getD,V5 h]
  simp only[Den.br,Nat.reduceAdd,decide_eq_true h',e]
 .have h':¬(k:Int)<(is.length:Int):=by omega
  have e:is.getD k 0=0:=by simp[List.getD,Wu (ZJ h)]
  simp only[Den.br,Nat.reduceAdd,decide_eq_false h',e]
def OK{f:Nat}{is:List Int}(hf:∀k:Nat,Φ f [.lst (is.map .int),.int (k:Int)]=.ok (.int (is.getD k 0)))(k:Nat):∃r:Int,0<=r/\r<mM/\dK pg Φ ⟨2,1,bA.vi f⟩ [.lst (is.map .int),.int (k:Int)]=.ok (.int r):=by
 have b1:=kJ ((is.getD k 0+7919*(k:Int)+1)*48271) (b:=2147483647) (by decide)
 refine⟨((is.getD k 0+7919*(k:Int)+1)*48271%2147483647*((is.getD k 0+7919*(k:Int)+1)*48271%2147483647)+7*((is.getD k 0+7919*(k:Int)+1)*48271%2147483647)+(k:Int))%2147483629,?_,?_,by
  simp only[Den.br,Nat.reduceAdd,bA.vi,hf,jy 7919 (k:Int) (.inl (by rw[ic];omega)),jy _ 48271 (.inr (by rw[ic];omega)),gK _ 2147483647 (by decide),gK _ 2147483629 (by decide),
   jy ((is.getD k 0+7919*(k:Int)+1)*48271%2147483647) ((is.getD k 0+7919*(k:Int)+1)*48271%2147483647) (.inl (by rw[ic];omega)),jy 7 ((is.getD k 0+7919*(k:Int)+1)*48271%2147483647) (.inl (by rw[ic];omega))]⟩
 .exact(kJ _ (by decide)).1
 .rw[zp];exact(kJ _ (by decide)).2
def SP {f : Nat} (hf : ∀ i k : Int, ∃ r : Int, 0 <= r /\ r < mM /\ Φ f [.int i, .int k] = .ok (.int r)) (i m : Int) (J : 1 <= m) (eH : m <= 8) :
    ∃ cs : List (List Int), dK pg Φ ⟨2, 4, bA.vk f⟩ [.int i, .int m] = .ok (.lst (cs.map aM)) /\ (∀ c ∈ cs, IsCell m c) /\ f9 m cs = true /\ cs.length <= 16 := by
  have a9 := la (i := 0) (j := m) (by omega) (by omega) (by omega) (by omega)
  have Hs := kJ i (b := 9) (by decide)
  have MM := la (i := 0) (j := i % 9) (by omega) (by omega) (by omega) (by omega)
  have AM : eM 0 (i % 9) = (b0 (i % 9)).map .int := o9 _
  have dE : dC (elem pg Φ [some (.int i), some (.int m), none, none, none, none] (.tup (.cons (.var 6) (.nil))) 0 .none) ((b0 m).map .int) = .ok ((b0 m).map fun k => aM [k]) := hM fun k _ => by
    simp only [Den.br, Nat.reduceAdd]; rfl
  simp only [Den.br, Nat.reduceAdd, bA.vk, a9, o9, dE, gK i 9 (by decide), MM]
  have h0 : ∀ k ∈ b0 m, IsCell m [k] := fun k aw => ⟨by simp, by simpa using oT.mp aw, Xu _ _⟩
  obtain ⟨c0, e, cs, x, y, z, he, aj, au⟩ := ij (f := D.int) (g := turn pg Φ 0 [3] (.cons (.asg 4 (.call f (.cons (.var 0) (.cons (.var 3) (.nil))))) (.cons (.asg 5 (.tupI (.seq (.comp (.var 6) 0 (.e6 (.var 1)) (.some (.cmp .lt (.bin .mod (.call f (.cons (.var 4) (.cons (.var 6) (.nil)))) (.lit (.int 5))) (.bin .add (.lit (.int 2)) (.bin .mod (.var 4) (.lit (.int 2)))))))))) (.cons (.iff (.cmp .ne (.var 5) (.tup (.nil))) (.cons (.app 2 (.var 5)) (.nil)) (.nil)) (.nil)))))
    (fun bf C => ∃ (cs : List (List Int)) (x y z : Option D), C = [some (.int i), some (.int m), some (.lst (((b0 m).map fun k => [k]).map aM ++ cs.map aM)), x, y, z] /\ (∀ c ∈ cs, IsCell m c) /\ cs.length <= bf.length)
    (b0 (i % 9)) [some (.int i), some (.int m), some (.lst ((b0 m).map fun k => aM [k])), none, none, none] ⟨[], none, none, none, by simp [Function.comp_def], by simp, by simp⟩ (fun pre k post C aE ⟨cs, x, y, z, ck, aj, au⟩ => by
      subst ck
      obtain ⟨r, aG, a5, ML⟩ := hf i k
      have ex : ∃ q : Int -> Bool, ∀ x y z, dC (elem pg Φ [some (.int i), some (.int m), x, y, some (.int r), z] (.var 6) 0 (.some (.cmp .lt (.bin .mod (.call f (.cons (.var 4) (.cons (.var 6) (.nil)))) (.lit (.int 5))) (.bin .add (.lit (.int 2)) (.bin .mod (.var 4) (.lit (.int 2))))))) ((b0 m).map .int) = .ok (((b0 m).filter q).map .int) := by
        obtain ⟨g, a8⟩ : ∃ g : Int -> Int, ∀ k, Φ f [.int r, .int k] = .ok (.int (g k)) := ⟨fun k => Classical.choose (hf r k), fun k => (Classical.choose_spec (hf r k)).2.2⟩
        refine ⟨fun k => decide (g k % 5 < 2 + r % 2), fun x y z => oj fun k _ => ?_⟩
        have ab := a8 k
        simp only [Den.br, Nat.reduceAdd, ab, gK _ 5 (by decide), gK _ 2 (by decide)]
        split <;> rfl
      obtain ⟨q, aK⟩ := ex
      have iU : ((b0 m).filter q).Sublist (b0 m) := Y7
      simp only [Den.br, Nat.reduceAdd, ML, a9, o9, aK]
      have az : gX (.tup (((b0 m).filter q).map .int)) (.tup []) = .ok ((b0 m).filter q).isEmpty := by
        rw [JS (by simp [Yd, tS]), xU]
      simp only [Den.br, Nat.reduceAdd, az]
      have ea : pre.length + 1 <= 9 := by
        have J : (b0 (i % 9)).length = (pre ++ k :: post).length := by rw [<- aE]
        have aa : (b0 (i % 9)).length <= 9 := by unfold b0; simp; omega
        simp at J; omega
      cases Cn : ((b0 m).filter q).isEmpty
      · have en : (b0 m).filter q ≠ [] := by intro z; rw [z] at Cn; cases Cn
        have sM : IsCell m ((b0 m).filter q) := ⟨en, fun x ah => oT.mp (iU.subset ah), Xb iU (zS m)⟩
        have hlen : (((b0 m).map fun k => [k]).map aM ++ cs.map aM).length < SZ := by
          have := qT eH
          simp only [V0, List.length_map, hI]; omega
        refine ⟨_, by simp only [Den.br, Nat.reduceAdd, rY, if_pos hlen]; rfl, cs ++ [(b0 m).filter q], _, _, _, by simp only [List.map_append, Wa]; rfl, fun c c6 => ?_, by simp; omega⟩
        rcases Wi.mp c6 with w | w
        · exact aj c w
        · simp at w; subst w; exact sM
      · exact ⟨_, by simp only [Den.br, Nat.reduceAdd]; rfl, cs, _, _, _, rfl, aj, by simp; omega⟩)
  rw [e, he]
  simp only [Den.br, Nat.reduceAdd]
  refine ⟨((b0 m).map fun k => [k]) ++ cs, by rw [List.map_append], fun c c6 => ?_, ?_, ?_⟩
  · rcases Wi.mp c6 with w | w
    · obtain ⟨k, aw, rfl⟩ := List.mem_map.mp w
      exact h0 k aw
    · exact aj c w
  · rw [vL]
    intro x a b
    exact ⟨[x], by simp [oT]; exact .inl ⟨a, b⟩, by simp⟩
  · have := qT eH
    have aa : (b0 (i % 9)).length <= 8 := by unfold b0; simp; omega
    simp only [V0, List.length_map]; omega
end ek
end
section
namespace ek
open Den bt eE
variable{pg:dm}{Φ:dy}
def oV{cs:List (List Int)}{c:List Int}:c∈h8 cs<->c∈cs/\∀o∈cs,c.length<o.length->¬lies c o=true:=by
 unfold h8;simp only[Xq,k3,k2,WH,Zu,Wh,and_imp]
def zV(cs:List (List Int)):d2 lexLt (h8 cs):=Xb Y7 (mS k1 (oY _))
def Us(cs:List (List Int)):h8 (h8 cs)=h8 cs:=by
 refine n9 k1 (zV _) (zV _) λz=>?_
 rw[oV];refine⟨λh=>h.1,λh=>⟨h,λo ay au=>(oV.mp h).2 o (oV.mp ay).1 au⟩⟩
theorem F0{m:Int}{cs:List (List Int)}(h:∀c∈cs,IsCell m c):∀(n:Nat)(c:List Int),c∈cs->m.toNat<=c.length+n->∃t∈h8 cs,∀x∈c,x∈t
 |0,c,aj,az=>⟨c,oV.mpr ⟨aj,λo ay au=>by have:=oe (h o ay);omega⟩,λ_ ah=>ah⟩
 |n+1,c,aj,az=>by
  by_cases q:∀o∈cs,c.length<o.length->¬lies c o=true
  .exact⟨c,oV.mpr ⟨aj,q⟩,λ_ ah=>ah⟩
  .obtain⟨o,ay,au,ab⟩:∃o,o∈cs/\c.length<o.length/\lies c o=true:=by
    apply Zr;intro z;exact q λo ay au ab=>z ⟨o,ay,au,ab⟩
   obtain⟨t,aV,MP⟩:=F0 h n o ay (by omega)
   exact⟨t,aV,λx ah=>MP x (xI.mp ab x ah)⟩
structure Net(m:Int)(ts:List (List Int)):Prop where
 lo:1<=m
 hi:m<=8
 cell:∀c∈ts,IsCell m c
 top:ts=h8 ts
 f9:f9 m ts=true
def OZ{m:Int}{cs:List (List Int)}(J:1<=m)(eH:m<=8)(aj:∀c∈cs,IsCell m c)(aT:f9 m cs=true):Net m (h8 cs) where
 lo:=J
 hi:=eH
 cell:=λc h=>aj c (oV.mp h).1
 top:=(Us cs).symm
 f9:=by
  rw[vL]at aT ⊢;intro x a b;obtain⟨c,h,ah⟩:=aT x a b;obtain⟨t,aV,ab⟩:=F0 aj m.toNat c h (by omega)
  exact⟨t,aV,ab x ah⟩
def Ur(cs:List (List Int)):(h8 cs).length<=cs.length:=by
 unfold h8;have J:=YG (λc=>!((cY lexLt (dN cs)).filter λo=>decide (c.length<o.length)).any (lies c)) (cY lexLt (dN cs))
 have aa:=vQ cs;rw[q5]at J;omega
def yO{m:Int}{c:List Int}(h:IsCell m c):cY ltI c=c:=SV j9 h.2.2
def Fq{m:Int}{cs:List (List Int)}(h:∀c∈cs,IsCell m c):cs.map (cY ltI)=cs:=by
 conv=>rhs;rw[<- List.map_id cs]
 exact Xx λc aj=>yO (h c aj)
noncomputable def H7:Bool:=(List.range 7).all λm=>(List.range 7).all λs=>(decide (s=0)||decide (m<s))||((c4 s (b0 (m:Int))).all (λc=>decide (IsCell (m:Int) c))&&f9 (m:Int) (c4 s (b0 (m:Int))))
def Ah:H7=true:=by decide +kernel
noncomputable def band:List (List Int):=(b0 5).map (λk=>[0,1+k,1+(k+1)%5])++(b0 5).map λk=>[1+k,1+(k+1)%5,1+(k+3)%5]
def Ht:(band.map (cY ltI)).all (λc=>decide (IsCell 6 c))&&f9 6 (band.map (cY ltI))&&decide (band.length<=20)&&band.all (λc=>decide (c.length<=255))=true:=by decide +kernel
end ek
end
section
namespace ek
open Den bt eE
variable{pg:dm}{Φ:dy}
def Qs{s n:Nat}(h:n<=8):fA s n<=70:=by
 rcases ZU n s with q|q
 .rw[yh q];omega
 .have:∀n:Fin 9,∀s:Fin 9,fA s.val n.val<=70:=by decide
  exact this ⟨n,by omega⟩ ⟨s,by omega⟩
def tq{qk:Nat}{cs:List (List Int)}{m:Int}(hf:∀cs:List (List Int),(∀c∈cs,c≠[])->(dN cs).length<=255->Φ qk [.lst (cs.map aM)]=.ok (.tup ((nH cs).map aM)))(J:1<=m)(eH:m<=8)(au:cs.length<=70)(LC:∀c∈cs,c.length<=255)(aj:∀c∈cs,IsCell m (cY ltI c))(aT:f9 m (cs.map (cY ltI))=true){a b c:D}:
  ∃ts,lU (eQ pg Φ [some a,some b,some (.int m),some c,some (.lst (cs.map aM))] (.cons (.ret (.tup (.cons (.var 2) (.cons (.call qk (.cons (.comp (.tupI (.seq (.prim .sorted (.var 5)))) 0 (.seq (.var 4)) (.none)) (.nil))) (.nil))))) (.nil)))=.ok (cA m ts)/\Net m ts/\ts.length<=70:=by
 have l2:∀c∈cs.map (cY ltI),IsCell m c:=λc c6=>by obtain⟨o,ay,rfl⟩:=List.mem_map.mp c6;exact aj o ay
 refine⟨h8 (cs.map (cY ltI)),?_,OZ J eH l2 aT,by have:=Ur (cs.map (cY ltI));rw[List.length_map]at this;omega⟩
 have ak:dC (elem pg Φ [some a,some b,some (.int m),some c,some (.lst (cs.map aM))] (.tupI (.seq (.prim .sorted (.var 5)))) 0 .none) (cs.map aM)=.ok (cs.map λc=>aM (cY ltI c)):=hM λc c6=>by
  simp only[Den.br,Nat.reduceAdd,yC,SQ (LC c c6)];rfl
 have av:(cs.map λc=>aM (cY ltI c))=(cs.map (cY ltI)).map aM:=by rw[List.map_map];rfl
 have gc:(dN (cs.map (cY ltI))).length<=255:=by have:=vQ (cs.map (cY ltI));rw[List.length_map]at this;omega
 simp only[Den.br,Nat.reduceAdd,ak,av,hf _ (λc c6=>(l2 c c6).1) gc,Ov (λc c6=>(l2 c c6).2.2)]
 rfl
noncomputable def Af:Bool:=(List.range 9).all λm=>(List.range 9).all λs=>(decide (s=0)||decide (m<s))||((c4 s (b0 (m:Int))).all (λc=>decide (IsCell (m:Int) c))&&f9 (m:Int) (c4 s (b0 (m:Int))))
def H8:Af=true:=by decide +kernel
def GY{m:Int}{s:Nat}(J:1<=m)(gZ:m<=8)(ab:1<=s)(xe:(s:Int)<=m):(∀c∈c4 s (b0 m),IsCell m c)/\f9 m (c4 s (b0 m))=true:=by
 have h:=H8;unfold Af at h;rw[Wt]at h;have h:=h m.toNat (List.mem_range.mpr (by omega))
 rw[Wt]at h;have h:=h s (List.mem_range.mpr (by omega))
 have e:((m.toNat:Nat):Int)=m:=by omega
 rw[e]at h;have hD:¬s=0:=by omega
 have gL:¬m.toNat<s:=by omega
 simp only[decide_eq_false hD,decide_eq_false gL,Bool.or_self,Bool.false_or,VX,Wt,Wh]at h;exact h
noncomputable def nY:List (List Int):=(b0 7).map (λk=>[k,(k+1)%7,(k+3)%7])++(b0 7).map λk=>[k,(k+2)%7,(k+3)%7]
def Um:(nY.map (cY ltI)).all (λc=>decide (IsCell 7 c))&&f9 7 (nY.map (cY ltI))&&decide (nY.length<=70)&&nY.all (λc=>decide (c.length<=255))=true:=by decide +kernel
def OY{qk bE bF:Nat}(aV:∀cs:List (List Int),(∀c∈cs,c≠[])->(dN cs).length<=255->Φ qk [.lst (cs.map aM)]=.ok (.tup ((nH cs).map aM)))(aE:∀(s:Nat)(c:List Int),s<=8->c.length<=8->Φ bE [aM c,.int (s:Int)]=.ok (.lst ((c4 s c).map aM)))(ab:∀i m:Int,1<=m->m<=8->∃cs:List (List Int),Φ bF [.int i,.int m]=.ok (.lst (cs.map aM))/\(∀c∈cs,IsCell m c)/\f9 m cs=true/\cs.length<=16)(i:Int)(h0:0<=i):
  ∃m ts,dK pg Φ ⟨2,3,bA.vj qk bE bF⟩ [.int i,.int 8]=.ok (cA m ts)/\Net m ts/\ts.length<=70:=by
 have pX:=kJ i (b:=8) (by decide)
 have cB:decide ((5:Int)<8)=true:=rfl;have dd:decide ((6:Int)<8)=true:=rfl;simp only[Den.br,Nat.reduceAdd,bA.vj,gK i 8 (by decide),wa i 12 (by decide) (by decide),gK _ 8 (by decide)]
 cases tb:(i / 12%8==0)
 .cases a0:(i / 12%8==1)
  .cases aQ:(i / 12%8==2)
   .obtain⟨cs,e,aj,aT,au⟩:=ab (i / 96) (1+i%8) (by omega) (by omega)
    obtain⟨ts,av,az,l5⟩:=tq (pg:=pg) (Φ:=Φ) (cs:=cs) (m:=1+i%8) (a:=.int i) (b:=.int 8) (c:=.int (i / 12%8)) aV (by omega) (by omega) (by omega) (λc c6=>by have:=oe (aj c c6);omega) (λc c6=>by rw[yO (aj c c6)];exact aj c c6) (by rw[Fq aj];exact aT)
    refine⟨1+i%8,ts,?_,az,l5⟩;rw[<- av];simp only[Den.br,Nat.reduceAdd,a0,aQ,wa i 96 (by decide) (by decide),e]
   .have ae:=Um;simp only[VX,Wt,Wh]at ae;obtain⟨⟨⟨g4,jn⟩,B3⟩,wN⟩:=ae;obtain⟨ts,av,az,l5⟩:=tq (pg:=pg) (Φ:=Φ) (cs:=nY) (m:=7) (a:=.int i) (b:=.int 8) (c:=.int (i / 12%8)) aV (by decide) (by decide) B3 wN (λc c6=>g4 _ (List.mem_map_of_mem c6)) jn
    refine⟨7,ts,?_,az,l5⟩;rw[<- av];have fI:=la (i:=0) (j:=7) (by omega) (by omega) (by omega) (by omega)
    have dp:∀a b c d e,dC (elem pg Φ [a,b,c,d,e] (.tup (.cons (.var 5) (.cons (.bin .mod (.bin .add (.var 5) (.lit (.int 1))) (.lit (.int 7))) (.cons (.bin .mod (.bin .add (.var 5) (.lit (.int 3))) (.lit (.int 7))) (.nil))))) 0 .none) ((b0 7).map .int)=.ok ((b0 7).map λk=>aM [k,(k+1)%7,(k+3)%7]):=λa b c d e=>hM λk _=>by
     simp only[Den.br,Nat.reduceAdd,gK _ 7 (by decide)];rfl
    have bz:∀a b c d e,dC (elem pg Φ [a,b,c,d,e] (.tup (.cons (.var 5) (.cons (.bin .mod (.bin .add (.var 5) (.lit (.int 2))) (.lit (.int 7))) (.cons (.bin .mod (.bin .add (.var 5) (.lit (.int 3))) (.lit (.int 7))) (.nil))))) 0 .none) ((b0 7).map .int)=.ok ((b0 7).map λk=>aM [k,(k+2)%7,(k+3)%7]):=λa b c d e=>hM λk _=>by
     simp only[Den.br,Nat.reduceAdd,gK _ 7 (by decide)];rfl
    have ed:nY.map aM=(b0 7).map (λk=>aM [k,(k+1)%7,(k+3)%7])++(b0 7).map λk=>aM [k,(k+2)%7,(k+3)%7]:=by
     unfold nY;rw[List.map_append,List.map_map,List.map_map];rfl
    have hlen:((b0 7).map (λk=>aM [k,(k+1)%7,(k+3)%7])).length+((b0 7).map λk=>aM [k,(k+2)%7,(k+3)%7]).length<=SZ:=by
     have:=qT (m:=7) (by decide)
     rw[List.length_map,List.length_map,hI];omega
    simp only[Den.br,Nat.reduceAdd,a0,aQ,dd,fI,o9,dp,bz,mP,if_pos hlen,<- ed]
  .have ae:=Ht;simp only[VX,Wt,Wh]at ae;obtain⟨⟨⟨g4,jn⟩,B3⟩,wN⟩:=ae;obtain⟨ts,av,az,l5⟩:=tq (pg:=pg) (Φ:=Φ) (cs:=band) (m:=6) (a:=.int i) (b:=.int 8) (c:=.int (i / 12%8)) aV (by decide) (by decide) (by omega) wN (λc c6=>g4 _ (List.mem_map_of_mem c6)) jn
   refine⟨6,ts,?_,az,l5⟩;rw[<- av];have fI:=la (i:=0) (j:=5) (by omega) (by omega) (by omega) (by omega)
   have dp:∀a b c d e,dC (elem pg Φ [a,b,c,d,e] (.tup (.cons (.lit (.int 0)) (.cons (.bin .add (.lit (.int 1)) (.var 5)) (.cons (.bin .add (.lit (.int 1)) (.bin .mod (.bin .add (.var 5) (.lit (.int 1))) (.lit (.int 5)))) (.nil))))) 0 .none) ((b0 5).map .int)=.ok ((b0 5).map λk=>aM [0,1+k,1+(k+1)%5]):=λa b c d e=>hM λk _=>by
    simp only[Den.br,Nat.reduceAdd,gK _ 5 (by decide)];rfl
   have bz:∀a b c d e,dC (elem pg Φ [a,b,c,d,e] (.tup (.cons (.bin .add (.lit (.int 1)) (.var 5)) (.cons (.bin .add (.lit (.int 1)) (.bin .mod (.bin .add (.var 5) (.lit (.int 1))) (.lit (.int 5)))) (.cons (.bin .add (.lit (.int 1)) (.bin .mod (.bin .add (.var 5) (.lit (.int 3))) (.lit (.int 5)))) (.nil))))) 0 .none) ((b0 5).map .int)=.ok ((b0 5).map λk=>aM [1+k,1+(k+1)%5,1+(k+3)%5]):=λa b c d e=>hM λk _=>by
    simp only[Den.br,Nat.reduceAdd,gK _ 5 (by decide)];rfl
   have ed:band.map aM=(b0 5).map (λk=>aM [0,1+k,1+(k+1)%5])++(b0 5).map λk=>aM [1+k,1+(k+1)%5,1+(k+3)%5]:=by
    unfold band;rw[List.map_append,List.map_map,List.map_map];rfl
   have hlen:((b0 5).map (λk=>aM [0,1+k,1+(k+1)%5])).length+((b0 5).map λk=>aM [1+k,1+(k+1)%5,1+(k+3)%5]).length<=SZ:=by
    have:=qT (m:=5) (by decide)
    rw[List.length_map,List.length_map,hI];omega
   simp only[Den.br,Nat.reduceAdd,a0,cB,fI,o9,dp,bz,mP,if_pos hlen,<- ed]
 .have Hs:=kJ (i / 96) (b:=1+i%8) (by omega)
  obtain⟨s,MQ⟩:∃s:Nat,(s:Int)=1+i / 96%(1+i%8):=⟨(1+i / 96%(1+i%8)).toNat,by omega⟩
  obtain⟨aj,aT⟩:=GY (m:=1+i%8) (s:=s) (by omega) (by omega) (by omega) (by omega)
  have Ca:(b0 (1+i%8)).length<=8:=by unfold b0;simp;omega
  have Mq:(c4 s (b0 (1+i%8))).length<=70:=by rw[yj];exact Qs Ca
  obtain⟨ts,av,az,l5⟩:=tq (pg:=pg) (Φ:=Φ) (cs:=c4 s (b0 (1+i%8))) (m:=1+i%8) (a:=.int i) (b:=.int 8) (c:=.int (i / 12%8)) aV (by omega) (by omega) Mq (λc c6=>by have:=oe (aj c c6);omega) (λc c6=>by rw[yO (aj c c6)];exact aj c c6) (by rw[Fq aj];exact aT)
  refine⟨1+i%8,ts,?_,az,l5⟩;rw[<- av];have Cm:=aE s (b0 (1+i%8)) (by omega) (by omega)
  unfold aM at Cm;simp only[Den.br,Nat.reduceAdd,wa i 96 (by decide) (by decide),gK (i / 96) (1+i%8) (by omega),<- MQ,la (i:=0) (j:=1+i%8) (by omega) (by omega) (by omega) (by omega),o9,Cm]
  rfl
end ek
end
section
namespace ek
open Den bt eE
noncomputable def eV(c:List Int):List (List Int):=if 1<c.length then(List.range c.length).map λk=>c.take k++c.drop (k+1) else []
noncomputable def df(a b:List (List Int)):List (List Int):=cY lexLt (dN (a.filter (λx=>!decide (x∈b))++b.filter λx=>!decide (x∈a)))
def zT{xs:List (List Int)}(h:d2 lexLt xs):xs.Nodup:=Yu (λ{a b} h e=>by subst e;rw[k1.fw]at h;cases h) h
def uY{xs:List Int}(h:d2 ltI xs):xs.Nodup:=Yu (λ{a b} h e=>by subst e;rw[j9.fw]at h;cases h) h
noncomputable def cnt(e:List Int)(cs:List (List Int)):Nat:=cs.countP λc=>decide (e∈eV c)
theorem tF{α:Type}(lt:α->α->Bool):∀xs:List α,(cY lt xs).Perm xs
 |[]=>.nil
 |x::xs=>(rp lt x (cY lt xs)).trans ((tF lt xs).cons x)
 where rp {α:Type} (lt:α->α->Bool) (x:α):∀ys:List α,(ins lt x ys).Perm (x::ys)
  |[]=>.refl _
  |y::ys=>by
   unfold ins
   split
   .exact((rp lt x ys).cons y).trans (List.Perm.swap x y ys)
   .exact .refl _
def Qg{α:Type}[DecidableEq α]{xs ys:List α}(ah:xs.Nodup)(aC:ys.Nodup)(h:∀z,z∈xs<->z∈ys):xs.Perm ys:=(Zh ah aC).mpr h
def rE {c e : List Int} (h : d2 ltI c) : e ∈ eV c <-> 1 < c.length /\ e.length + 1 = c.length /\ e.Sublist c := by
  unfold eV
  constructor
  · intro he
    split at he
    · rename_i au
      obtain ⟨k, aw, rfl⟩ := List.mem_map.mp he
      have aw := List.mem_range.mp aw
      refine ⟨au, by rw [V0, Wz, WW]; omega, ?_⟩
      conv => rhs; rw [<- WZ k c]
      refine List.Sublist.append (ZE _) ?_
      rw [WO aw]
      exact List.sublist_cons_self _ _
    · cases he
  · rintro ⟨au, J, ab⟩
    rw [if_pos au]
    refine List.mem_map.mpr ?_
    have key : ∀ {e c : List Int}, e.Sublist c -> e.length + 1 = c.length -> ∃ k, k < c.length /\ c.take k ++ c.drop (k + 1) = e := by
      intro e c ab
      induction ab with
      | slnil => intro z; cases z
      | @cons e c x ab aD =>
        intro z
        have : e.length = c.length := by simpa using z
        exact ⟨0, by simp, by simpa using (ab.eq_of_length this).symm⟩
      | @cons_cons e c x ab aD =>
        intro z
        obtain ⟨k, aw, m7⟩ := aD (by simpa using z)
        exact ⟨k + 1, by simpa using aw, by simp [m7]⟩
    obtain ⟨k, aw, m7⟩ := key ab J
    exact ⟨k, List.mem_range.mpr aw, m7⟩
def yI{c e:List Int}(h:d2 ltI c)(he:e∈eV c):d2 ltI e:=Xb ((rE h).mp he).2.2 h
def JU {c e : List Int} (aj : d2 ltI c) (he : d2 ltI e) (ab : e.Sublist c) {k : Nat} (aw : k < c.length) : e.Sublist (c.take k ++ c.drop (k + 1)) <-> c[k] ∉ e := by
  have az := uY aj
  have hd : (c.take k ++ c[k] :: c.drop (k + 1)) = c := by rw [<- WO aw, WZ]
  rw [<- hd] at az
  have Mu : ∀ x, x ∈ c <-> x = c[k] \/ x ∈ c.take k ++ c.drop (k + 1) := fun x => by
    conv => lhs; rw [<- hd]
    simp only [Wi, V2]
    constructor
    · rintro (h | h | h)
      · exact .inr (.inl h)
      · exact .inl h
      · exact .inr (.inr h)
    · rintro (h | h | h)
      · exact .inr (.inl h)
      · exact .inl h
      · exact .inr (.inr h)
  have l6 : c[k] ∉ c.take k ++ c.drop (k + 1) := fun z => by
    have := List.perm_middle.nodup_iff.mp az
    exact (WB.mp this).1 z
  have iU : (c.take k ++ c.drop (k + 1)).Sublist c := by
    conv => rhs; rw [<- hd]
    exact List.Sublist.append (ZE _) (List.sublist_cons_self _ _)
  constructor
  · exact fun z w => l6 (z.subset w)
  · exact fun z => rZ he (Xb iU aj) fun x ah => ((Mu x).mp (ab.subset ah)).elim (fun e => absurd (e ▸ ah) z) id
theorem CW{α:Type}(p:α->Bool):∀c:List α,c.length=c.countP p+c.countP (λx=>!p x)
 |[]=>rfl
 |x::c=>by
  rw[List.length_cons,CW p c,YL,YL];cases p x<;>simp<;>omega
def Iv{α:Type}[DecidableEq α]{c e:List α}(aj:c.Nodup)(he:e.Nodup)(ab:∀x∈e,x∈c):c.countP (λx=>!decide (x∈e))+e.length=c.length:=by
 have J:(c.filter λx=>decide (x∈e)).Perm e:=Qg (aj.filter _) he λz=>by
  rw[Xq];simp only[Wh];exact⟨λh=>h.2,λh=>⟨ab z h,h⟩⟩
 have aa:c.length=(c.filter λx=>decide (x∈e)).length+(c.filter λx=>!decide (x∈e)).length:=by
  rw[<- X0,<- X0];exact CW (λx=>decide (x∈e)) c
 rw[J.length_eq]at aa;rw[X0];omega
def Im {c : List Int} (aj : d2 ltI c) (e : List Int) : cnt e (eV c) = 0 \/ cnt e (eV c) = 2 := by
  by_cases au : 1 < c.length
  · by_cases ab : e.Sublist c /\ e.length + 2 = c.length /\ 2 < c.length
    · obtain ⟨ab, aa, aL⟩ := ab
      have he : d2 ltI e := Xb ab aj
      right
      have ak : cnt e (eV c) = c.countP fun x => !decide (x ∈ e) := by
        unfold cnt
        rw [show eV c = (List.range c.length).map (fun k => c.take k ++ c.drop (k + 1)) from if_pos au, Y4]
        have : c = (List.range c.length).map fun k => c.getD k 0 := by
          apply List.ext_getElem
          · simp
          · intro i J aa
            simp [List.getD, J]
        conv => rhs; rw [this]
        rw [Y4]
        refine Yx fun k aw => ?_
        have aw := List.mem_range.mp aw
        have MS : d2 ltI (c.take k ++ c.drop (k + 1)) := yI aj (by unfold eV; rw [if_pos au]; exact List.mem_map.mpr ⟨k, List.mem_range.mpr aw, rfl⟩)
        have hlen : (c.take k ++ c.drop (k + 1)).length + 1 = c.length := by rw [V0, Wz, WW]; omega
        simp only [Function.comp, Wh, WH, decide_eq_false_iff_not]
        rw [rE MS, JU aj he ab aw]
        have : c.getD k 0 = c[k] := by simp [List.getD, aw]
        rw [this]
        exact ⟨fun z => z.2.2, fun z => ⟨by omega, by omega, z⟩⟩
      rw [ak]
      have := Iv (uY aj) (uY he) fun x ah => ab.subset ah
      omega
    · left
      unfold cnt
      rw [List.countP_eq_zero]
      intro d hd
      simp only [Wh]
      intro z
      obtain ⟨_, b2, ec⟩ := (rE aj).mp hd
      obtain ⟨a1, a2, a3⟩ := (rE (yI aj hd)).mp z
      exact ab ⟨a3.trans ec, by omega, by omega⟩
  · left
    unfold cnt eV
    rw [if_neg au]; rfl
def E9{c:List Int}(aj:d2 ltI c):(eV c).Nodup:=by
 unfold eV
 split
 .rw[Zf,Xm];refine Xe (λ{i j} hi aB (qx:i<j) e=>?_) Yy
  have aB:=List.mem_range.mp aB;have hi:i<c.length:=List.mem_range.mp hi;have J:(c.take i++c.drop (i+1))[i]?=c[i+1]?:=by
   rw[Wx (by simp;omega),Zn];congr 1;simp;omega
  have aa:(c.take j++c.drop (j+1))[i]?=c[i]?:=by
   rw[We (by simp;omega),List.getElem?_take_of_lt qx]
  rw[e,aa]at J;rw[V5 hi,V5 (by omega:i+1<c.length)]at J
  have:=XD.mp aj i (i+1) hi (by omega) (by omega)
  injection J with J;rw[J,j9.fw]at this;cases this
 .exact X8
end ek
end
section
namespace ek
open Den bt eE iG
variable{pg:dm}{Φ:dy}
def qf{C:a6}(i j:Nat):ev pg Φ C (.hN i j)=kG C[i]? C[j]?:=bc rfl
def J8{C:a6}(i j:Nat):ev pg Φ C (.oq i j)=p6 C[i]? C[j]?:=bc rfl
def AZ{C:a6}:ev pg Φ C .ot=.ok (.bx []):=bc rfl
def Kq{C:a6}(i:Nat):ex pg Φ C (.m5 i)=.ok (.cg (C.set i (some (.bT [])))):=bc rfl
def Kr{C:a6}(i:Nat):ex pg Φ C (.m6 i)=.ok (.cg (C.set i (some (.bx [])))):=bc rfl
def v5{C:a6}(i j:Nat)(e:E):ex pg Φ C (.jg i j e)=ev pg Φ C e>>=λd=>ou C[i]? C[j]? d>>=λx=>.ok (.cg (C.set i (some x))):=bc rfl
def Ks{C:a6}(i:Nat)(e:E):ex pg Φ C (.ext i e)=lO C[i]?>>=λ_=>ev pg Φ C e>>=λd=>sj C[i]? d>>=λx=>.ok (.cg (C.set i (some x))):=bc rfl
def A8{C:a6}(i:Nat):ex pg Φ C (.pe i)=p5 C[i]?>>=λd=>.ok (.dR d):=bc rfl
def A0{C:a6}(c a b:E):ev pg Φ C (.ite c a b)=ev pg Φ C c>>=λx=>fe x>>=λk=>if k then ev pg Φ C a else ev pg Φ C b:=bc rfl
def Ec(up:gE)(xs:List D):k7 up .sum (.lst xs)=i3 xs:=bc rfl
def Eb(up:gE)(xs:List D):k7 up .max (.lst xs)=kc xs:=bc rfl
def nD(c:List Int):jv (aM c)=.ok (.int (c.length:Int)):=by unfold aM;rw[xC,List.length_map]
def Sy{c:List Int}(h:c.length<=1000)(k:Nat):dT .add (.tup (cut (c.map D.int) none (some (k:Int)))) (.tup (cut (c.map D.int) (some ((k:Int)+1)) none))=.ok (aM (c.take k++c.drop (k+1))):=by
 have e:((k:Int)+1)=((k+1:Nat):Int):=by omega
 rw[e,IF,Ay,rX,if_pos]
 .unfold aM;rw[List.map_append,List.map_take,List.map_drop]
 .rw[Wz,WW,List.length_map,hI];omega
def Sz(c:List Int)(h:c.length<=1000):dK pg Φ ⟨1,0,bA.vr⟩ [aM c]=.ok (.lst ((eV c).map aM)):=by
 have ak:dC (elem pg Φ [some (aM c)] (.bin .add (.slice (.var 0) (.none) (.some (.var 1))) (.slice (.var 0) (.some (.bin .add (.var 1) (.lit (.int 1)))) (.none))) 0 (.some (.cmp .gt (.prim .len (.var 0)) (.lit (.int 1))))) ((List.range c.length).map λ(k:Nat)=>D.int (k:Int))=.ok (((List.range c.length).filter λ_=>decide (1<c.length)).map λk=>aM (c.take k++c.drop (k+1))):=oj λk _=>by
  have ab:∀lo hi,kh (aM c) lo hi=.ok (.tup (cut (c.map D.int) lo hi)):=λlo hi=>rfl
  simp only[Den.br,Nat.reduceAdd,nD,ab,Sy h]
  by_cases q:1<c.length
  .have dv:(1:Int)<(c.length:Int):=by omega
   simp only[decide_eq_true q,decide_eq_true dv,WN]
  .have dv:¬(1:Int)<(c.length:Int):=by omega
   simp only[decide_eq_false q,decide_eq_false dv,V1,Wm]
 simp only[Den.br,Nat.reduceAdd,bA.vr,nD,la (i:=0) (j:=(c.length:Int)) (by omega) (by omega) (by omega) (by omega),tK,ak]
 congr 2;unfold eV
 by_cases q:1<c.length
 .rw[if_pos q,decide_eq_true q,List.filter_eq_self.mpr λ_ _=>rfl,List.map_map];rfl
 .rw[if_neg q,decide_eq_false q,List.filter_eq_nil_iff.mpr λ_ _=>by decide];rfl
noncomputable def ey(t:List Int):List (List Int):=t.foldl (λf x=>f++[[x]]++f.map (·++[x])) []
def cw_snoc(t:List Int)(x:Int):ey (t++[x])=ey t++[[x]]++(ey t).map (·++[x]):=by unfold ey;rw[List.foldl_append];rfl
def Fm{P:List Int->Prop}(h0:P [])(J:∀as a,P as->P (as++[a]))(as:List Int):P as:=by
 have key:∀n (as:List Int),as.length=n->P as:=by
  intro n
  induction n with
  |zero=>intro as h;rw[YX h];exact h0
  |succ n aD =>
   intro as h;rcases X2 as with rfl|⟨l,a,rfl⟩
   .cases h
   .rw[X3]at h ⊢;exact J l a (aD l (by simpa using h))
 exact key _ as rfl
def sub_snoc {z t : List Int} {x : Int} : z.Sublist (t ++ [x]) <-> z.Sublist t \/ ∃ y, z = y ++ [x] /\ y.Sublist t := by
  rw [List.sublist_append_iff]
  constructor
  · rintro ⟨a, b, rfl, J, aa⟩
    have ae : b = [] \/ b = [x] := by
      cases aa with
      | cons _ h => exact .inl (YS.mp h)
      | cons_cons _ h => exact .inr (by rw [YS.mp h])
    rcases ae with rfl | rfl
    · exact .inl (by simpa using J)
    · exact .inr ⟨a, rfl, J⟩
  · rintro (h | ⟨y, rfl, h⟩)
    · exact ⟨z, [], by simp, h, Yi _⟩
    · exact ⟨y, [x], rfl, h, ZE _⟩
def oS (t : List Int) : ∀ z, z ∈ ey t <-> z ≠ [] /\ z.Sublist t := by
  refine Fm (P := fun t => ∀ z, z ∈ ey t <-> z ≠ [] /\ z.Sublist t) (fun z => ?_) (fun t x aD z => ?_) t
  · constructor
    · intro h; cases h
    · rintro ⟨J, aa⟩; exact absurd (YS.mp aa) J
  · rw [cw_snoc, Wi, Wi, Ws, List.mem_map, sub_snoc, aD]
    constructor
    · rintro ((⟨J, aa⟩ | rfl) | ⟨y, aC, rfl⟩)
      · exact ⟨J, .inl aa⟩
      · exact ⟨by simp, .inr ⟨[], rfl, Yi _⟩⟩
      · exact ⟨by simp, .inr ⟨y, rfl, ((aD y).mp aC).2⟩⟩
    · rintro ⟨J, aa | ⟨y, rfl, aa⟩⟩
      · exact .inl (.inl ⟨J, aa⟩)
      · by_cases aC : y = []
        · subst aC; exact .inl (.inr rfl)
        · exact .inr ⟨y, (aD y).mpr ⟨aC, aa⟩, rfl⟩
def xA(t:List Int):(ey t).length+1=2 ^ t.length:=by
 refine Fm (P:=λt=>(ey t).length+1=2 ^ t.length) rfl (λt x aD=>?_) t
 rw[cw_snoc,V0,V0,V0,List.length_map,List.length_singleton,List.length_singleton,Nat.pow_succ];omega
noncomputable def eP(ts:List (List Int)):List (List Int):=cY lexLt (dN (ts.flatMap ey))
def xP{ts:List (List Int)}{z:List Int}:z∈eP ts<->z≠[]/\∃t∈ts,z.Sublist t:=by
 unfold eP;rw[k3,k2,YT];constructor
 .rintro⟨t,J,aa⟩;exact⟨((oS t z).mp aa).1,t,J,((oS t z).mp aa).2⟩
 .rintro⟨h0,t,J,aa⟩;exact⟨t,J,(oS t z).mpr ⟨h0,aa⟩⟩
def zQ(ts:List (List Int)):d2 lexLt (eP ts):=mS k1 (oY _)
noncomputable def cl(ts:List (List Int))(n:Nat):List (List Int):=(eP ts).filter λc=>decide (c.length=n)
def mc{ts:List (List Int)}{n:Nat}{z:List Int}:z∈cl ts n<->z.length=n/\z≠[]/\∃t∈ts,z.Sublist t:=by
 unfold cl;rw[Xq,xP];simp only[Wh];exact⟨λh=>⟨h.2,h.1⟩,λh=>⟨h.2,h.1⟩⟩
def zP(ts:List (List Int))(n:Nat):d2 lexLt (cl ts n):=Xb Y7 (zQ ts)
def oi(ts:List (List Int))(n:Nat):(cl ts n).Nodup:=zT (zP ts n)
def Al(ts:List (List Int))(h:Nat):jf ts h=cl ts (h+1):=n9 k1 (Hj ts h) (zP ts _) λz=>by
 rw[OE,mc];exact⟨λ⟨J,aa⟩=>⟨J,by rintro rfl;simp at J,aa⟩,λ⟨J,_,aa⟩=>⟨J,aa⟩⟩
def A6{m:Int}{ts:List (List Int)}(eH:m<=8)(aV:∀t∈ts,IsCell m t):(eP ts).length<=255:=by
 have J:(eP ts).length<=(ey (b0 m)).length:=nK (zT (zQ ts)) λz hz=>by
  obtain⟨h0,t,J,aa⟩:=xP.mp hz;exact(oS _ z).mpr ⟨h0,aa.trans (H3 (aV t J))⟩
 have aa:=xA (b0 m);have aL:=qT eH;have a7:2 ^ (b0 m).length<=2 ^ 8:=WJ (by decide) aL
 omega
def r5{m:Int}{ts:List (List Int)}(eH:m<=8)(aV:∀t∈ts,IsCell m t)(n:Nat):(cl ts n).length<=255:=W7 (YG _ _) (A6 eH aV)
def vD{m:Int}{ts:List (List Int)}{n:Nat}(aV:∀t∈ts,IsCell m t){z:List Int}(hz:z∈cl ts n):d2 ltI z:=by
 obtain⟨_,_,t,J,aa⟩:=mc.mp hz;exact Xb aa (aV t J).2.2
def vE{m:Int}{ts:List (List Int)}{n:Nat}(aV:∀t∈ts,IsCell m t){z e:List Int}(hz:z∈cl ts n)(he:e∈eV z):e∈cl ts (n-1):=by
 obtain⟨J,aa,aL⟩:=(rE (vD aV hz)).mp he;obtain⟨a7,cu,t,gZ,il⟩:=mc.mp hz;exact mc.mpr ⟨by omega,by rintro rfl;simp at aa;omega,t,gZ,aL.trans il⟩
def UN (c : List Int) (eH : c.length <= 8) : dK pg Φ ⟨1, 2, bA.u5⟩ [aM c] = .ok (.lst ((ey c).map aM)) := by
  simp only [Den.br, Nat.reduceAdd, bA.u5, yC]
  obtain ⟨c0, e, x, he⟩ := ij (f := D.int) (g := turn pg Φ 0 [2] (.cons (.asg 1 (.bin .add (.bin .add (.var 1) (.lst (.cons (.tup (.cons (.var 2) (.nil))) (.nil)))) (.comp (.bin .add (.var 3) (.tup (.cons (.var 2) (.nil)))) 0 (.seq (.var 1)) (.none)))) (.nil)))
    (fun bf C => ∃ (x : Option D), C = [some (aM c), some (.lst ((ey bf).map aM)), x])
    c [some (aM c), some (.lst []), none] ⟨none, rfl⟩ (fun pre k post C aE ⟨x, ck⟩ => by
      subst ck
      have ea : pre.length + 1 <= c.length := by rw [aE]; simp
      have J := xA pre
      have aa : 2 ^ pre.length <= 2 ^ 8 := WJ (by decide) (by omega)
      have ak : dC (elem pg Φ [some (aM c), some (.lst ((ey pre).map aM)), some (.int k)] (.bin .add (.var 3) (.tup (.cons (.var 2) (.nil)))) 0 .none) ((ey pre).map aM) = .ok ((ey pre).map fun z => aM (z ++ [k])) := hM fun z hz => by
        have hz := ((oS pre z).mp hz).2.length_le
        have : dT .add (aM z) (.tup [.int k]) = .ok (aM (z ++ [k])) := by
          unfold aM
          rw [rX, if_pos (by rw [List.length_map, hI]; simp; omega), List.map_append]
          rfl
        simp only [Den.br, Nat.reduceAdd, this]
      have a1 : dT .add (.lst ((ey pre).map aM)) (.lst [.tup [.int k]]) = .ok (.lst ((ey pre ++ [[k]]).map aM)) := by
        rw [mP, if_pos (by rw [List.length_map, hI]; simp; omega), List.map_append]
        rfl
      have a2 : dT .add (.lst ((ey pre ++ [[k]]).map aM)) (.lst ((ey pre).map fun z => aM (z ++ [k]))) = .ok (.lst ((ey (pre ++ [k])).map aM)) := by
        rw [mP, if_pos (by rw [List.length_map, List.length_map, V0, hI]; simp; omega), cw_snoc]
        simp only [List.map_append, List.map_map]
        rfl
      refine ⟨_, by simp only [Den.br, Nat.reduceAdd, a1, ak, a2], some (.int k), rfl⟩)
  rw [e, he]
  simp only [Den.br, Nat.reduceAdd]
end ek
end
section
namespace ek
open Den bt eE iG
variable{pg:dm}{Φ:dy}
def Kz(xs ys:List D):sj (some (some (.lst xs))) (.lst ys)=if xs.length+ys.length<=SZ then .ok (.lst (xs++ys)) else .bad:=bc rfl
def Kj {f : Nat} {m : Int} {ts : List (List Int)} (hf : ∀ c : List Int, c.length <= 8 -> Φ f [aM c] = .ok (.lst ((ey c).map aM))) (aV : ∀ t ∈ ts, t.length <= 8) (au : ts.length <= 255) (wB : (eP ts).length <= 255) :
    dK pg Φ ⟨1, 2, bA.u9 f⟩ [cA m ts] = .ok (.lst ((eP ts).map aM)) := by
  have hi : g7 (cA m ts) (.int 1) = .ok (.tup (ts.map aM)) := rfl
  simp only [Den.br, Nat.reduceAdd, bA.u9, hi]
  have mX : ∀ aq : List (List Int), aq.length <= 255 -> (∀ t ∈ aq, t.length <= 8) -> (aq.flatMap ey).length <= 65280 := fun aq aw eH => by
    have := sr (f := ey) (k := 256) (xs := aq) fun t j5 => by
      have aa := xA t
      have a7 : 2 ^ t.length <= 2 ^ 8 := WJ (by decide) (eH t j5)
      omega
    omega
  obtain ⟨c0, e, x, he⟩ := ij (f := aM) (g := turn pg Φ 0 [2] (.cons (.ext 1 (.call f (.cons (.var 2) (.nil)))) (.nil)))
    (fun bf C => ∃ (x : Option D), C = [some (cA m ts), some (.lst ((bf.flatMap ey).map aM)), x])
    ts [some (cA m ts), some (.lst []), none] ⟨none, rfl⟩ (fun pre t post C aE ⟨x, ck⟩ => by
      subst ck
      have qJ : t ∈ ts := by rw [aE]; simp
      have ea : pre.length + 1 <= ts.length := by rw [aE]; simp
      have J := mX pre (by omega) fun t j5 => aV t (by rw [aE]; simp [j5])
      have aa := mX [t] (by simp) fun z hz => by simp at hz; subst hz; exact aV z qJ
      have hlen : ((pre.flatMap ey).map aM).length + ((ey t).map aM).length <= SZ := by
        simp at aa
        rw [List.length_map, List.length_map, hI]; omega
      refine ⟨_, by simp only [Den.br, Nat.reduceAdd, Ks, hf t (aV t qJ), Kz, if_pos hlen]; rfl, some (aM t), ?_⟩
      simp [Y6])
  rw [e, he]
  have az : ∀ c ∈ ts.flatMap ey, c ≠ [] := fun c aj => by
    obtain ⟨t, _, aj⟩ := YT.mp aj
    exact ((oS _ _).mp aj).1
  have : (dN (ts.flatMap ey)).length <= 255 := by unfold eP at wB; rw [q5] at wB; exact wB
  simp only [Den.br, Nat.reduceAdd, yP az this, eP]
def Io{f:Nat}{m:Int}{ts:List (List Int)}(n:Nat)(hf:Φ f [cA m ts]=.ok (.lst ((eP ts).map aM))):dK pg Φ ⟨2,0,bA.u4 f⟩ [cA m ts,.int ((n:Int)-1)]=.ok (.tup ((cl ts n).map aM)):=by
 have ak:dC (elem pg Φ [some (cA m ts),some (.int ((n:Int)-1))] (.var 2) 0 (.some (.cmp .eq (.bin .sub (.prim .len (.var 2)) (.lit (.int 1))) (.var 1)))) ((eP ts).map aM)=.ok (((eP ts).filter λc=>decide (c.length=n)).map aM):=oj λc _=>by
  simp only[Den.br,Nat.reduceAdd,nD]
  by_cases q:c.length=n
  .rw[decide_eq_true q,WQ.mpr (show(c.length:Int)-1=(n:Int)-1 by omega)];rfl
  .rw[decide_eq_false q,WC.mpr (show(c.length:Int)-1≠(n:Int)-1 by omega)];rfl
 simp only[Den.br,Nat.reduceAdd,bA.u4,hf,ak];rfl
noncomputable def mk(U:List (List Int)):List (List Int×Int):=U.zipIdx.map λp=>(p.1,((2 ^ p.2:Nat):Int))
def ON(U:List (List Int))(c:List Int):mk (U++[c])=mk U++[(c,((2 ^ U.length:Nat):Int))]:=by unfold mk;rw[List.zipIdx_append,List.map_append];simp
def xS(U:List (List Int)):(mk U).map (·.1)=U:=by
 unfold mk;rw[List.map_map];show U.zipIdx.map (λp=>p.1)=U
 exact List.zipIdx_map_fst 0 U
def OM(U:List (List Int)):(mk U).length=U.length:=by have:=Xl List.length (xS U);simpa using this
def idx_map{α β:Type}[DecidableEq α]{U:List α}(d5:U.Nodup)(g:α->Nat->β):U.map (λc=>g c (c9 U c))=U.zipIdx.map λp=>g p.1 p.2:=by
 apply XH;intro i;rw[Wg,Wg,List.getElem?_zipIdx]
 by_cases h:i<U.length
 .rw[V5 h];simp only[Option.map_some,d5.idxOf_getElem i h,XS]
 .rw[Wu (by omega)];rfl
def UC {U : List (List Int)} (d5 : U.Nodup) {c : List Int} (aj : c ∈ U) : nZ (mk U) c = some ((2 ^ c9 U c : Nat) : Int) := by
  unfold mk
  rw [<- idx_map d5 fun c i => (c, ((2 ^ i : Nat) : Int))]
  unfold nZ
  rw [List.find?_map]
  have : U.find? ((fun p : List Int × Int => decide (p.1 = c)) ∘ fun c => (c, ((2 ^ c9 U c : Nat) : Int))) = some c := by
    have key : ∀ V : List (List Int), c ∈ V -> V.find? ((fun p : List Int × Int => decide (p.1 = c)) ∘ fun c => (c, ((2 ^ c9 U c : Nat) : Int))) = some c := fun V => by
      induction V with
      | nil => intro h; cases h
      | cons v V aD =>
        intro h
        rw [List.find?_cons]
        by_cases q : v = c
        · subst q; simp
        · rw [show ((fun p : List Int × Int => decide (p.1 = c)) ∘ fun c => (c, ((2 ^ c9 U c : Nat) : Int))) v = false by simp [q]]
          exact aD ((V2.mp h).resolve_left (Xr q))
    exact key U aj
  rw [this]
  rfl
def y1(c:List Int):jF (aM c)=some c:=by
 show intsOf (c.map .int)=some c
 induction c with
 |nil=>rfl
 |cons x c aD=>rw[List.map_cons,intsOf,aD];rfl
def Jt(ar:List (List Int×Int))(c:List Int)(n:Int)(h:ar.length<1000)(aj:c∉ar.map (·.1)):ou (some (some (.bT ar))) (some (some (aM c))) (.int n)=.ok (.bT (ar++[(c,n)])):=by
 have e:putN ar c n=ar++[(c,n)]:=by
  unfold putN;rw[if_neg];intro z;obtain⟨p,aE,q⟩:=ZP.mp z;exact aj (List.mem_map.mpr ⟨p,aE,by simpa using q⟩)
 show(match some ar,jF (aM c),some n with
  |some ar,some k,some n=>if ar.length<1000 then R.ok (D.bT (putN ar k n)) else .bad
  |_,_,_=>_)=_
 rw[y1];dsimp only;rw[if_pos h,e]
def vR{U:List (List Int)}(d5:U.Nodup){c:List Int}(aj:c∈U):kG (some (some (.bT (mk U)))) (some (some (aM c)))=.ok (.int ((2 ^ c9 U c:Nat):Int)):=by
 show(match some (mk U),jF (aM c) with
  |some ar,some k=>(match nZ ar k with|some n=>R.ok (D.int n)|none=>.bad)
  |_,_=>_)=_
 rw[y1];dsimp only;rw[UC d5 aj]
def AE(U:List (List Int)):oo (some (some (.bT (mk U))))=.ok (U.map aM):=by
 show R.ok ((mk U).map λp=>D.tup (p.1.map .int))=_
 have:((mk U).map λp=>D.tup (p.1.map .int))=((mk U).map (·.1)).map aM:=by rw[List.map_map];rfl
 rw[this,xS]
def Jl(ar:List (List Int×Int)):p5 (some (some (.bT ar)))=.ok (.bT ar):=bc rfl
def Jm(ar:List (Int×Int×Int)):p5 (some (some (.bx ar)))=.ok (.bx ar):=bc rfl
def Ox{f:Nat}{m:Int}{ts:List (List Int)}(n:Nat)(hf:Φ f [cA m ts,.int ((n:Int)-1)]=.ok (.tup ((cl ts n).map aM)))(au:(cl ts n).length<=255):dK pg Φ ⟨2,3,bA.vn f⟩ [cA m ts,.int ((n:Int)-1)]=.ok (.bT (mk (cl ts n))):=by
 simp only[Den.br,Nat.reduceAdd,bA.vn,Kq,hf];have d5:=oi ts n;obtain⟨c0,e,x,he⟩:=ij (f:=aM) (g:=turn pg Φ 0 [4] (.cons (.jg 2 4 (.var 3)) (.cons (.asg 3 (.bin .mul (.var 3) (.lit (.int 2)))) (.nil))))
  (λbf C=>∃(x:Option D),C=[some (cA m ts),some (.int ((n:Int)-1)),some (.bT (mk bf)),some (.int ((2 ^ bf.length:Nat):Int)),x])
  (cl ts n) [some (cA m ts),some (.int ((n:Int)-1)),some (.bT []),some (.int 1),none] ⟨none,rfl⟩ (λpre c post C aE ⟨x,ck⟩=>by
   subst ck;have ea:pre.length+1<=(cl ts n).length:=by rw[aE];simp
   have aj:c∉(mk pre).map (·.1):=by
    rw[xS];intro z;rw[aE]at d5;exact(YD.mp d5).2.2 c z c List.mem_cons_self rfl
   have ab:=Jt (mk pre) c ((2 ^ pre.length:Nat):Int) (by rw[OM];omega) aj
   have hm:dT .mul (.int ((2 ^ pre.length:Nat):Int)) (.int 2)=.ok (.int ((2 ^ (pre++[c]).length:Nat):Int)):=by
    rw[jy _ _ (.inr ⟨by rw[ic];omega,by rw[ic];omega⟩),V0,List.length_singleton,Nat.pow_succ]
    rfl
   refine⟨_,by simp only[Den.br,Nat.reduceAdd,v5,ab,hm];rfl,some (aM c),?_⟩
   rw[ON])
 rw[e,he];simp only[Den.br,Nat.reduceAdd,A8,Jl]
def xq(is:List Int):intsOf (is.map .int)=some is:=y1 is
def HF{U xs:List (List Int)}(d5:U.Nodup)(ah:xs.Nodup)(h:∀x∈xs,x∈U):dK pg Φ ⟨2,0,bA.u3⟩ [.lst (xs.map aM),.bT (mk U)]=.ok (.int (dO U xs:Int)):=by
 have ak:dC (elem pg Φ [some (.lst (xs.map aM)),some (.bT (mk U))] (.hN 1 2) 0 .none) (xs.map aM)=.ok (xs.map λx=>D.int ((2 ^ c9 U x:Nat):Int)):=hM λx ah=>by
  simp only[Den.br,Nat.reduceAdd,qf,vR d5 (h x ah)]
 have av:i3 (xs.map λx=>D.int ((2 ^ c9 U x:Nat):Int))=.ok (.int (dO U xs:Int)):=by
  have:=xq (xs.map λx=>((2 ^ c9 U x:Nat):Int))
  rw[List.map_map]at this;unfold i3;rw[show(xs.map λx=>D.int ((2 ^ c9 U x:Nat):Int))=xs.map (D.int ∘ λx=>((2 ^ c9 U x:Nat):Int)) from rfl,this]
  dsimp only;rw[Du d5 ah h]
 simp only[Den.br,Nat.reduceAdd,bA.u3,ak,Ec,av]
def uW(a b:Nat):dT .and (.int (a:Int)) (.int (b:Int))=.ok (.int ((a &&& b:Nat):Int)):=by
 show mR (a:Int) (b:Int)=_;unfold mR;rw[if_pos (XZ a),if_pos (XZ b)];rfl
def UW(a b:Nat):dT .xor (.int (a:Int)) (.int (b:Int))=.ok (.int ((a ^^^ b:Nat):Int)):=by
 show rM (a:Int) (b:Int)=_;unfold rM;rw[if_pos ⟨XZ a,XZ b⟩];rfl
def zG(a k:Nat):((a &&& 2 ^ k:Nat):Int)=0<->a.testBit k=false:=by
 have key:a &&& 2 ^ k=0<->a.testBit k=false:=by
  constructor
  .intro h;have:=Xl (λz=>z.testBit k) h
   simpa[ZZ,XM] using this
  .intro h;apply YY;intro i;rw[ZZ,Yj,Yg]
   by_cases q:k=i
   .rw[<- q,h];rfl
   .simp[q]
 rw[<- key];omega
def DC(a k:Nat):dq .ne (.int ((a &&& 2 ^ k:Nat):Int)) (.int 0)=.ok (a.testBit k):=by
 show ha (.ok (((a &&& 2 ^ k:Nat):Int)==0))=_;cases q:a.testBit k with
 |false=>rw[WQ.mpr ((zG a k).mpr q)];rfl
 |true=>rw[WC.mpr λz=>by rw[(zG a k).mp z]at q;cases q];rfl
def H6{U:List (List Int)}(d5:U.Nodup)(b:Nat):dK pg Φ ⟨2,0,bA.u6⟩ [.int (b:Int),.bT (mk U)]=.ok (.tup ((U.filter λc=>b.testBit (c9 U c)).map aM)):=by
 have ak:dC (elem pg Φ [some (.int (b:Int)),some (.bT (mk U))] (.var 2) 0 (.some (.cmp .ne (.bin .and (.var 0) (.hN 1 2)) (.lit (.int 0))))) (U.map aM)=.ok ((U.filter λc=>b.testBit (c9 U c)).map aM):=oj λc aj=>by
  have:=DC b (c9 U c);simp only[Den.br,Nat.reduceAdd,qf,vR d5 aj,uW];have aa:ha (.ok (((b &&& 2 ^ c9 U c:Nat):Int)==0))=.ok (b.testBit (c9 U c)):=this;rw[show ha (.ok (((b &&& 2 ^ c9 U c:Nat):Int)==0))=R.ok (!(((b &&& 2 ^ c9 U c:Nat):Int)==0)) from rfl]at aa;injection aa with aa;rw[aa];cases b.testBit (c9 U c)<;>rfl
 simp only[Den.br,Nat.reduceAdd,bA.u6,sf,AE,ak]
end ek
end
section
namespace ek
open Den bt eE iG
variable{pg:dm}{Φ:dy}
noncomputable def cb(r:Row):D:=.tup [.int (r.1:Int),.int (r.2:Int)]
noncomputable def e7(ts:List (List Int))(n:Nat):List Nat:=(cl ts n).map λc=>dO (cl ts (n-1)) (eV c)
def Q9{cz bF oy:Nat}{m:Int}{ts:List (List Int)}(n:Nat)(aV:∀t∈ts,IsCell m t)(eH:m<=8)(hm:∀n:Nat,Φ oy [cA m ts,.int ((n:Int)-1)]=.ok (.bT (mk (cl ts n))))(ab:∀c:List Int,c.length<=1000->Φ bF [aM c]=.ok (.lst ((eV c).map aM)))(ae:∀U xs:List (List Int),U.Nodup->xs.Nodup->(∀x∈xs,x∈U)->Φ cz [.lst (xs.map aM),.bT (mk U)]=.ok (.int (dO U xs:Int))):
  dK pg Φ ⟨2,2,bA.vp cz bF oy⟩ [cA m ts,.int (n:Int)]=.ok (.lst ((eo (e7 ts (n+1))).map cb)):=by
 have d5:=oi ts (n+1);have gw:=hm n;have hC:Φ oy [cA m ts,.int (n:Int)]=.ok (.bT (mk (cl ts (n+1)))):=by
  have:=hm (n+1);rwa[show(((n+1:Nat):Int)-1)=(n:Int) by omega]at this
 have ak:dC (elem pg Φ [some (cA m ts),some (.int (n:Int)),some (.bT (mk (cl ts n))),some (.bT (mk (cl ts (n+1))))] (.tup (.cons (.call cz (.cons (.call bF (.cons (.var 4) (.nil))) (.cons (.var 2) (.nil)))) (.cons (.hN 3 4) (.nil)))) 0 .none) ((cl ts (n+1)).map aM)=.ok ((cl ts (n+1)).map λc=>cb (dO (cl ts n) (eV c),2 ^ c9 (cl ts (n+1)) c)):=hM λc aj=>by
  have sJ:=vD aV aj;have hlen:c.length<=1000:=by
   obtain⟨_,_,t,J,aa⟩:=mc.mp aj;have:=aa.length_le;have:=oe (aV t J);omega
  simp only[Den.br,Nat.reduceAdd,qf,ab c hlen,ae (cl ts n) (eV c) (oi ts n) (E9 sJ) (λe he=>vE aV aj he),vR d5 aj]
  rfl
 have av:(eo (e7 ts (n+1))).map cb=(cl ts (n+1)).map λc=>cb (dO (cl ts n) (eV c),2 ^ c9 (cl ts (n+1)) c):=by
  rw[idx_map d5 λc i=>cb (dO (cl ts n) (eV c),2 ^ i)]
  unfold eo e7;rw[List.zipIdx_map,List.map_map,List.map_map];rfl
 simp only[Den.br,Nat.reduceAdd,bA.vp,gw,hC,sf,AE,ak,av]
def kV(r:Row):g7 (cb r) (.int 0)=.ok (.int (r.1:Int)):=rfl
def CH(r:Row):g7 (cb r) (.int 1)=.ok (.int (r.2:Int)):=rfl
def S9(r q:Row):dK pg Φ ⟨2,0,bA.vs⟩ [cb r,cb q]=.ok (cb (r.1 ^^^ q.1,r.2 ^^^ q.2)):=by
 simp only[Den.br,Nat.reduceAdd,bA.vs,kV,CH,UW];rfl
noncomputable def di(B:cR):List (Int×Int×Int):=B.map λe=>(((2 ^ e.1:Nat):Int),(e.2.1:Int),(e.2.2:Int))
def D8{a b:Nat}(h:a≠b):((2 ^ a:Nat):Int)≠((2 ^ b:Nat):Int):=λz=>by
 have z:2 ^ a=2 ^ b:=Int.ofNat.inj z;rcases Zw a b with q|q|q
 .have:=X9 (show 1<2 by decide) q;omega
 .exact h q
 .have:=X9 (show 1<2 by decide) q;omega
theorem Gg : ∀ {B : cR}, (B.map (·.1)).Nodup -> ∀ e ∈ B, mC (di B) ((2 ^ e.1 : Nat) : Int) = some ((e.2.1 : Int), (e.2.2 : Int))
  | f :: B, h, e, he => by
    obtain ⟨J, aa⟩ := WB.mp h
    unfold mC di
    rw [List.map_cons, List.find?_cons]
    dsimp only
    by_cases q : f.1 = e.1
    · have : f = e := by
        rcases V2.mp he with z | z
        · exact z.symm
        · exact absurd (List.mem_map.mpr ⟨e, z, q.symm⟩) J
      subst this
      rw [decide_eq_true rfl]
      rfl
    · rw [decide_eq_false (D8 q)]
      exact Gg aa e ((V2.mp he).resolve_left fun z => q (by rw [z]))
def AD{B:cR}(h:(B.map (·.1)).Nodup){e:Nat×Row}(he:e∈B):kG (some (some (.bx (di B)))) (some (some (.int ((2 ^ e.1:Nat):Int))))=.ok (cb e.2):=by
 show(match some (di B),some ((2 ^ e.1:Nat):Int) with
  |some ar,some k=>(match mC ar k with|some r=>R.ok (nQ r)|none=>.bad)
  |_,_=>R.bad)=_
 dsimp only;rw[Gg h e he];rfl
def AG(B:cR):oo (some (some (.bx (di B))))=.ok (B.map λe=>D.int ((2 ^ e.1:Nat):Int)):=by
 show R.ok ((di B).map λp=>D.int p.1)=_
 unfold di;rw[List.map_map];rfl
def Q1(B:cR)(e:Nat×Row)(r:Row):red (B++[e]) r=one (red B r) e:=by unfold red;rw[List.foldl_append];rfl
def Q2{f:Nat}(hf:∀r q:Row,Φ f [cb r,cb q]=.ok (cb (r.1 ^^^ q.1,r.2 ^^^ q.2))){B:cR}(h:(B.map (·.1)).Nodup)(r:Row):dK pg Φ ⟨2,1,bA.vo f⟩ [cb r,.bx (di B)]=.ok (cb (red B r)):=by
 simp only[Den.br,Nat.reduceAdd,bA.vo,sf,AG];obtain⟨c0,e,x,he⟩:=ij (f:=λe:Nat×Row=>D.int ((2 ^ e.1:Nat):Int)) (g:=turn pg Φ 0 [2] (.cons (.iff (.cmp .ne (.bin .and (.idx (.var 0) (.lit (.int 0))) (.var 2)) (.lit (.int 0))) (.cons (.asg 0 (.call f (.cons (.var 0) (.cons (.hN 1 2) (.nil))))) (.nil)) (.nil)) (.nil)))
  (λbf C=>∃(x:Option D),C=[some (cb (red bf r)),some (.bx (di B)),x])
  B [some (cb r),some (.bx (di B)),none] ⟨none,rfl⟩ (λpre e post C aE ⟨x,ck⟩=>by
   subst ck;have iq:e∈B:=by rw[aE];simp
   have az:=DC (red pre r).1 e.1;have az:ha (.ok ((((red pre r).1 &&& 2 ^ e.1:Nat):Int)==0))=.ok ((red pre r).1.testBit e.1):=az;rw[Q1];unfold one;cases q:(red pre r).1.testBit e.1 with
   |true =>
    rw[q]at az;refine⟨_,by simp only[Den.br,Nat.reduceAdd,kV,uW,az,qf,AD h iq,hf],some (.int ((2 ^ e.1:Nat):Int)),rfl⟩
   |false =>
    rw[q]at az;refine⟨_,by simp only[Den.br,Nat.reduceAdd,kV,uW,az],some (.int ((2 ^ e.1:Nat):Int)),rfl⟩)
 rw[e,he];simp only[Den.br,Nat.reduceAdd]
def Om(n:Nat)(h:0<n):dK pg Φ ⟨1,0,bA.vm⟩ [.int (n:Int)]=.ok (.int ((2 ^ lo n:Nat):Int)):=by
 have e:dT .and (.int (n:Int)) (.int (-(n:Int)))=.ok (.int ((2 ^ lo n:Nat):Int)):=by
  show mR (n:Int) (-(n:Int))=_;unfold mR;rw[if_pos (XZ n),if_neg (by omega)]
  obtain⟨_,_,aL,a7⟩:=C9 n h;have cu:(-(-(n:Int))-1).toNat=n-1:=by omega
  rw[cu,Int.toNat_natCast];congr 2;omega
 simp only[Den.br,Nat.reduceAdd,bA.vm,A3,e]
def AK(ar:List (Int×Int×Int))(k:Int)(r:Row)(h:ar.length<1000)(aj:k∉ar.map (·.1)):ou (some (some (.bx ar))) (some (some (.int k))) (cb r)=.ok (.bx (ar++[(k,(r.1:Int),(r.2:Int))])):=by
 have e:k8 ar k ((r.1:Int),(r.2:Int))=ar++[(k,(r.1:Int),(r.2:Int))]:=by
  unfold k8;rw[if_neg];intro z;obtain⟨p,aE,q⟩:=ZP.mp z;exact aj (List.mem_map.mpr ⟨p,aE,by simpa using q⟩)
 show(if ar.length<1000 then R.ok (D.bx (k8 ar k ((r.1:Int),(r.2:Int)))) else .bad)=_;rw[if_pos h,e]
def Jq(k:Nat)(r:Row):p6 (some (some (.int ((2 ^ k:Nat):Int)))) (some (some (cb r)))=.ok (.bx (di [(k,r)])):=rfl
def Az(B:cR){k:Nat}(h:k∉B.map (·.1)):((2 ^ k:Nat):Int)∉(di B).map (·.1):=λz=>by
 unfold di at z;rw[List.map_map]at z;obtain⟨e,he,q⟩:=List.mem_map.mp z;exact D8 (λw=>h (List.mem_map.mpr ⟨e,he,w⟩)) q
def Lz {fr hs : Nat} (a9 : ∀ (B : cR) (r : Row), (B.map (·.1)).Nodup -> Φ fr [cb r, .bx (di B)] = .ok (cb (red B r))) (au : ∀ n : Nat, 0 < n -> Φ hs [.int (n : Int)] = .ok (.int ((2 ^ lo n : Nat) : Int))) {B : cR} (h : dP B) (g0 : B.length < 900) (r : Row) :
    dK pg Φ ⟨2, 4, bA.r1 fr hs⟩ [.bx (di B), cb r] = .ok (.bx (di (grow B r))) := by
  have az := qa h
  have a8 := ql h r
  by_cases c : (red B r).1 = 0
  · have hz : (((red B r).1 : Int) == 0) = true := by rw [c]; rfl
    simp only [Den.br, Nat.reduceAdd, bA.r1, a9 B r az, kV, hz]
    unfold grow
    rw [if_pos c]
  · have hz : (((red B r).1 : Int) == 0) = false := WC.mpr (by omega)
    have aw := au (red B r).1 (by omega)
    have m7 : grow B r = B.map (fun e => (e.1, one e.2 (lo (red B r).1, red B r))) ++ [(lo (red B r).1, red B r)] := by unfold grow; rw [if_neg c]
    rw [m7] at a8 ⊢
    have sS := qa a8
    simp only [Den.br, Nat.reduceAdd, bA.r1, a9 B r az, kV, hz, aw, Kr, sf, AG]
    generalize red B r = l at sS
    generalize lo l.1 = k at sS
    have BL : ((B.map fun e => (e.1, one e.2 (k, l))).map (·.1)) = B.map (·.1) := by rw [List.map_map]; rfl
    have Mj : k ∉ B.map (·.1) := by
      rw [List.map_append, BL] at sS
      exact fun z => (YD.mp sS).2.2 k z k (by simp) rfl
    obtain ⟨c0, e, x, he⟩ := ij (f := fun e : Nat × Row => D.int ((2 ^ e.1 : Nat) : Int)) (g := turn pg Φ 0 [5] (.cons (.jg 4 5 (.call fr (.cons (.hN 0 5) (.cons (.oq 3 2) (.nil))))) (.nil)))
      (fun bf C => ∃ (x : Option D), C = [some (.bx (di B)), some (cb r), some (cb l), some (.int ((2 ^ k : Nat) : Int)), some (.bx (di (bf.map fun e => (e.1, one e.2 (k, l))))), x])
      B [some (.bx (di B)), some (cb r), some (cb l), some (.int ((2 ^ k : Nat) : Int)), some (.bx []), none] ⟨none, rfl⟩ (fun pre e post C aE ⟨x, ck⟩ => by
        subst ck
        have iq : e ∈ B := by rw [aE]; simp
        have ea : pre.length + 1 <= B.length := by rw [aE]; simp
        have J := a9 [(k, l)] e.2 (by simp)
        have J : Φ fr [cb e.2, .bx (di [(k, l)])] = .ok (cb (one e.2 (k, l))) := J
        have en : e.1 ∉ (pre.map fun e => (e.1, one e.2 (k, l))).map (·.1) := by
          rw [List.map_map]
          intro z
          have z : e.1 ∈ pre.map (·.1) := z
          rw [aE, List.map_append, List.map_cons] at az
          exact (YD.mp az).2.2 e.1 z e.1 List.mem_cons_self rfl
        have aa := AK (di (pre.map fun e => (e.1, one e.2 (k, l)))) ((2 ^ e.1 : Nat) : Int) (one e.2 (k, l)) (by unfold di; simp; omega) (Az _ en)
        refine ⟨_, by simp only [Den.br, Nat.reduceAdd, v5, qf, J8, AD az iq, Jq, J, aa]; rfl, some (.int ((2 ^ e.1 : Nat) : Int)), ?_⟩
        unfold di
        simp only [List.map_append, List.map_cons, Yc])
    rw [e, he]
    have aL := AK (di (B.map fun e => (e.1, one e.2 (k, l)))) ((2 ^ k : Nat) : Int) l (by unfold di; simp; omega) (Az _ (by rw [BL]; exact Mj))
    simp only [Den.br, Nat.reduceAdd, v5, aL, A8, Jm]
    unfold di
    simp only [List.map_append, List.map_cons, Yc]
end ek
end
section
namespace ek
open Den bt eE iG
variable{pg:dm}{Φ:dy}
def Ly(B:cR)(rs:List Row)(r:Row):d9 B (rs++[r])=grow (d9 B rs) r:=by unfold d9;rw[List.foldl_append];rfl
def BG(B:cR)(r:Row):(grow B r).length<=B.length+1:=by rw[sD];split<;>omega
theorem sA:∀(rs:List Row)(B:cR),(d9 B rs).length<=B.length+rs.length
 |[],B=>VZ _
 |r::rs,B=>by
  have J:=sA rs (grow B r);have aa:=BG B r;show(d9 (grow B r) rs).length<=_;rw[List.length_cons];omega
def xk(rs:List Row):(ez rs).1=d9 [] rs:=by
 have key:∀(rs:List Row)(st:cR×List Nat),(rs.foldl step st).1=d9 st.1 rs:=λrs=>by
  induction rs with
  |nil=>intro st;rfl
  |cons r rs aD=>intro st;exact aD (step st r)
 exact key rs ([],[])
def Cu(rs:List Row):(ez rs).2.length<=rs.length:=by
 have key:∀(rs:List Row)(st:cR×List Nat),(rs.foldl step st).2.length<=st.2.length+rs.length:=λrs=>by
  induction rs with
  |nil=>intro st;exact VZ _
  |cons r rs aD =>
   intro st;have J:=aD (step st r);have aa:(step st r).2.length<=st.2.length+1:=by unfold step;dsimp only;split<;>simp
   show(rs.foldl step (step st r)).2.length<=_;rw[List.length_cons];omega
 have:=key rs ([],[]);simp only[List.length_nil,XS]at this;exact this
def Hv{jj:Nat}(a8:∀(B:cR)(r:Row),dP B->B.length<900->Φ jj [.bx (di B),cb r]=.ok (.bx (di (grow B r)))){rs:List Row}(au:rs.length<=255):dK pg Φ ⟨1,2,bA.u2 jj⟩ [.lst (rs.map cb)]=.ok (.bx (di (d9 [] rs))):=by
 simp only[Den.br,Nat.reduceAdd,bA.u2,AZ];obtain⟨c0,e,x,he⟩:=ij (f:=cb) (g:=turn pg Φ 0 [2] (.cons (.asg 1 (.call jj (.cons (.var 1) (.cons (.var 2) (.nil))))) (.nil)))
  (λbf C=>∃(x:Option D),C=[some (.lst (rs.map cb)),some (.bx (di (d9 [] bf))),x])
  rs [some (.lst (rs.map cb)),some (.bx []),none] ⟨none,rfl⟩ (λpre r post C aE ⟨x,ck⟩=>by
   subst ck;have ea:pre.length+1<=rs.length:=by rw[aE];simp
   have J:=sA pre [];have aa:=a8 (d9 [] pre) r (l0 dP.nil) (by simp at J;omega)
   rw[Ly];refine⟨_,by simp only[Den.br,Nat.reduceAdd,aa],some (cb r),rfl⟩)
 rw[e,he];simp only[Den.br,Nat.reduceAdd]
def zJ(xs:List D)(d:D)(h:xs.length<SZ):pV (some (some (.lst xs))) d=.ok (.lst (xs++[d])):=by rw[rY,if_pos h]
def Nf {jj fr : Nat} (a8 : ∀ (B : cR) (r : Row), dP B -> B.length < 900 -> Φ jj [.bx (di B), cb r] = .ok (.bx (di (grow B r)))) (a9 : ∀ (B : cR) (r : Row), (B.map (·.1)).Nodup -> Φ fr [cb r, .bx (di B)] = .ok (cb (red B r))) {rs : List Row} (au : rs.length <= 255) :
    dK pg Φ ⟨1, 4, bA.vb jj fr⟩ [.lst (rs.map cb)] = .ok (.lst ((ez rs).2.map fun b : Nat => D.int (b : Int))) := by
  simp only [Den.br, Nat.reduceAdd, bA.vb, AZ]
  obtain ⟨c0, e, x, y, he⟩ := ij (f := cb) (g := turn pg Φ 0 [3] (.cons (.asg 4 (.call fr (.cons (.var 3) (.cons (.var 1) (.nil))))) (.cons (.iff (.cmp .eq (.idx (.var 4) (.lit (.int 0))) (.lit (.int 0))) (.cons (.app 2 (.idx (.var 4) (.lit (.int 1)))) (.nil)) (.nil)) (.cons (.asg 1 (.call jj (.cons (.var 1) (.cons (.var 3) (.nil))))) (.nil)))))
    (fun bf C => ∃ (x y : Option D), C = [some (.lst (rs.map cb)), some (.bx (di (ez bf).1)), some (.lst ((ez bf).2.map fun b : Nat => D.int (b : Int))), x, y])
    rs [some (.lst (rs.map cb)), some (.bx []), some (.lst []), none, none] ⟨none, none, rfl⟩ (fun pre r post C aE ⟨x, y, ck⟩ => by
      subst ck
      have ea : pre.length + 1 <= rs.length := by rw [aE]; simp
      have J := sA pre []
      have a7 := Cu pre
      have qp : dP (ez pre).1 := by rw [xk]; exact l0 dP.nil
      have aa := a8 (ez pre).1 r qp (by rw [xk]; simp at J; omega)
      have aL := a9 (ez pre).1 r (qa qp)
      rw [Cv]
      unfold step
      dsimp only
      by_cases c : (red (ez pre).1 r).1 = 0
      · have hz : (((red (ez pre).1 r).1 : Int) == 0) = true := by rw [c]; rfl
        have cu := zJ ((ez pre).2.map fun b : Nat => D.int (b : Int)) (.int ((red (ez pre).1 r).2 : Int)) (by rw [List.length_map, hI]; omega)
        rw [if_pos c]
        refine ⟨_, by simp only [Den.br, Nat.reduceAdd, aL, kV, CH, hz, cu, aa]; rfl, some (cb r), some (cb (red (ez pre).1 r)), ?_⟩
        rw [List.map_append]
        rfl
      · have hz : (((red (ez pre).1 r).1 : Int) == 0) = false := WC.mpr (by omega)
        rw [if_neg c]
        refine ⟨_, by simp only [Den.br, Nat.reduceAdd, aL, kV, hz, aa], some (cb r), some (cb (red (ez pre).1 r)), rfl⟩)
  rw [e, he]
  simp only [Den.br, Nat.reduceAdd]
noncomputable def iO(U:List (List Int))(b:Nat):D:=.tup ((U.filter λc=>b.testBit (c9 U c)).map aM)
theorem Fn:∀xs:List D,(gi xs).length=xs.length
 |[]=>rfl
 |x::xs=>by
  have ins:∀ys:List D,(nA x ys).length=ys.length+1:=λys=>by
   induction ys with
   |nil=>rfl
   |cons y ys aD=>unfold nA;split<;>simp[aD]
  show(nA x (gi xs)).length=_;rw[ins,Fn xs];rfl
def H5{U:List (List Int)}(d5:U.Nodup)(az:∀c∈U,c≠[]){b:Nat}(h0:b≠0)(ae:b<2 ^ U.length):nB (iO U b)=true:=by
 obtain⟨i,hi⟩:∃i,b.testBit i=true:=Nat.exists_testBit_of_ne_zero h0;have cm:i<U.length:=by
  rcases ZU i U.length with q|q
  .exact q
  .rw[Xn (Wk ae (WJ (by decide) q))]at hi;cases hi
 have hm:U[i]∈U.filter λc=>b.testBit (c9 U c):=Xq.mpr ⟨YQ cm,by rw[NB d5 cm];exact hi⟩
 have aj:∀c∈U.filter λc=>b.testBit (c9 U c),c≠[]:=λc h=>az c (Xq.mp h).1
 unfold iO;generalize (U.filter λc=>b.testBit (c9 U c))=cs at hm aj
 cases cs with
 |nil=>cases hm
 |cons c cs =>
  have:=vN aj;exact this
def rz(ts:List (List Int))(n:Nat):(e7 ts n).length=(cl ts n).length:=by unfold e7;rw[List.length_map]
def Dr(as:List Nat):(eo as).length=as.length:=by unfold eo;simp
def Hu{m:Int}{ts:List (List Int)}(n:Nat)(aV:∀t∈ts,IsCell m t):∀r∈eo (e7 ts (n+2)),r.1<2 ^ (e7 ts (n+1)).length/\bd (e7 ts (n+1)) r.1=0:=by
 intro r a9;obtain⟨p,aE,rfl⟩:=List.mem_map.mp a9;have MH:p.1∈e7 ts (n+2):=Zq aE;obtain⟨c,aj,e⟩:=List.mem_map.mp MH;dsimp only;rw[<- e,rz];have sJ:=vD aV aj;have fR:∀x∈eV c,x∈cl ts (n+1):=λx ah=>vE aV aj ah
 refine⟨xW fR,Q8 (oi ts (n+1)) (oi ts n) fR (λx ah=>⟨E9 (yI sJ ah),λy aC=>vE aV (fR x ah) aC⟩) λy=>?_⟩
 have z:=Im sJ y;refine(Xl (· % 2) (?e:_=cnt y (eV c))).trans ?_
 case e=>exact Yx λx _=>by simp only[Wh]
 omega
def Rd {Bj wi fr jj cI oy cz : Nat} {m : Int} {ts : List (List Int)} (n : Nat) (aV : ∀ t ∈ ts, IsCell m t) (eH : m <= 8)
    (hi : ∀ rs : List Row, rs.length <= 255 -> Φ Bj [.lst (rs.map cb)] = .ok (.lst ((ez rs).2.map fun b : Nat => D.int (b : Int))))
    (Co : ∀ n : Nat, Φ wi [cA m ts, .int (n : Int)] = .ok (.lst ((eo (e7 ts (n + 1))).map cb)))
    (a9 : ∀ (B : cR) (r : Row), (B.map (·.1)).Nodup -> Φ fr [cb r, .bx (di B)] = .ok (cb (red B r)))
    (a8 : ∀ (B : cR) (r : Row), dP B -> B.length < 900 -> Φ jj [.bx (di B), cb r] = .ok (.bx (di (grow B r))))
    (aj : ∀ (U : List (List Int)) (b : Nat), U.Nodup -> Φ cI [.int (b : Int), .bT (mk U)] = .ok (iO U b))
    (hm : Φ oy [cA m ts, .int (n : Int)] = .ok (.bT (mk (cl ts (n + 1)))))
    (ae : ∀ rs : List Row, rs.length <= 255 -> Φ cz [.lst (rs.map cb)] = .ok (.bx (di (d9 [] rs)))) :
    ∃ ds : List D, dK pg Φ ⟨2, 5, bA.vq Bj wi fr jj cI oy cz⟩ [cA m ts, .int (n : Int)] = .ok (.tup ds) /\ ds.length + (d9 [] (eo (e7 ts (n + 2)))).length + (d9 [] (eo (e7 ts (n + 1)))).length = (cl ts (n + 1)).length := by
  have bU : (eo (e7 ts (n + 1))).length <= 255 := by rw [Dr, rz]; exact r5 eH aV _
  have cJ : (eo (e7 ts (n + 2))).length <= 255 := by rw [Dr, rz]; exact r5 eH aV _
  have aG := Co n
  have a5 : Φ wi [cA m ts, .int ((n : Int) + 1)] = .ok (.lst ((eo (e7 ts (n + 2))).map cb)) := Co (n + 1)
  have eS := hi _ bU
  have b1 := ae _ cJ
  have d5 := oi ts (n + 1)
  have st := Fu (e7 ts (n + 1))
  have rx := Rc (e7 ts (n + 1)) _ (Hu n aV)
  have wF := Cu (eo (e7 ts (n + 1)))
  have b6 := st.len
  rw [xk, rz] at b6
  have yE := st.jk
  rw [rz] at yE
  have sH := sA (eo (e7 ts (n + 2))) []
  simp only [List.length_nil, XS] at sH
  have BP := l0 (rs := eo (e7 ts (n + 2))) dP.nil
  simp only [Den.br, Nat.reduceAdd, bA.vq, aG, a5, eS, b1, hm]
  generalize (ez (eo (e7 ts (n + 1)))).2 = F at rx b6 yE wF
  generalize d9 [] (eo (e7 ts (n + 2))) = gA at rx sH BP
  obtain ⟨c0, e, x, y, J, aa, aL, a7, he⟩ := ij (f := fun b : Nat => D.int (b : Int)) (g := turn pg Φ 0 [5] (.cons (.asg 6 (.tup (.cons (.var 5) (.cons (.lit (.int 0)) (.nil))))) (.cons (.iff (.cmp .ne (.idx (.call fr (.cons (.var 6) (.cons (.var 2) (.nil)))) (.lit (.int 0))) (.lit (.int 0))) (.cons (.app 4 (.call cI (.cons (.var 5) (.cons (.var 3) (.nil))))) (.cons (.asg 2 (.call jj (.cons (.var 2) (.cons (.var 6) (.nil))))) (.nil))) (.nil)) (.nil))))
    (fun bf C => ∃ (x y : Option D), dP (bf.foldl tell (gA, [])).1 /\ (bf.foldl tell (gA, [])).1.length <= gA.length + bf.length /\ (bf.foldl tell (gA, [])).2.length <= bf.length /\ (∀ b ∈ (bf.foldl tell (gA, [])).2, b ≠ 0 /\ b < 2 ^ (cl ts (n + 1)).length) /\
      C = [some (cA m ts), some (.int (n : Int)), some (.bx (di (bf.foldl tell (gA, [])).1)), some (.bT (mk (cl ts (n + 1)))), some (.lst ((bf.foldl tell (gA, [])).2.map (iO (cl ts (n + 1))))), x, y])
    F [some (cA m ts), some (.int (n : Int)), some (.bx (di gA)), some (.bT (mk (cl ts (n + 1)))), some (.lst []), none, none] ⟨none, none, BP, VZ _, VZ _, (fun _ h => nomatch h), rfl⟩ (fun pre b post C aE ⟨x, y, J, aa, aL, a7, ck⟩ => by
      subst ck
      have LN : b ∈ F := by rw [aE]; simp
      have ea : pre.length + 1 <= F.length := by rw [aE]; simp
      rw [List.foldl_append]
      show ∃ c0, _ /\ ∃ x y, dP (tell (pre.foldl tell (gA, [])) b).1 /\ (tell (pre.foldl tell (gA, [])) b).1.length <= gA.length + (pre ++ [b]).length /\ (tell (pre.foldl tell (gA, [])) b).2.length <= (pre ++ [b]).length /\ (∀ z ∈ (tell (pre.foldl tell (gA, [])) b).2, z ≠ 0 /\ z < 2 ^ (cl ts (n + 1)).length) /\ c0 = [some (cA m ts), some (.int (n : Int)), some (.bx (di (tell (pre.foldl tell (gA, [])) b).1)), some (.bT (mk (cl ts (n + 1)))), some (.lst ((tell (pre.foldl tell (gA, [])) b).2.map (iO (cl ts (n + 1))))), x, y]
      generalize pre.foldl tell (gA, []) = w at J aa aL a7
      obtain ⟨B, G⟩ := w
      dsimp only at J aa aL a7
      have g1 := ql J (bare b)
      have g2 := BG B (bare b)
      have g3 := a9 B (bare b) (qa J)
      have iR := a8 B (bare b) J (by omega)
      have Lh := aj (cl ts (n + 1)) b d5
      have ed : D.tup [.int (b : Int), .int 0] = cb (bare b) := rfl
      have U1 := yu (r := bare b) J
      unfold tell
      dsimp only
      by_cases c : (red B (bare b)).1 = 0
      · have hz : (((red B (bare b)).1 : Int) == 0) = true := by rw [c]; rfl
        have qc : grow B (bare b) = B := by unfold grow; rw [if_pos c]
        rw [if_pos c, qc]
        refine ⟨_, by simp only [Den.br, Nat.reduceAdd, ed, g3, kV, hz], some (.int (b : Int)), some (cb (bare b)), J, by rw [V0]; omega, by rw [V0]; omega, a7, rfl⟩
      · have hz : (((red B (bare b)).1 : Int) == 0) = false := WC.mpr (by omega)
        have cu := zJ (G.map (iO (cl ts (n + 1)))) (iO (cl ts (n + 1)) b) (by rw [List.length_map, hI]; omega)
        rw [if_neg c]
        refine ⟨_, by simp only [Den.br, Nat.reduceAdd, ed, g3, kV, hz, Lh, cu, iR]; rfl, some (.int (b : Int)), some (cb (bare b)), g1, by rw [V0, List.length_singleton]; omega, by rw [V0, V0]; simp; omega, fun z hz => ?_, ?_⟩
        · rcases Wi.mp hz with hz | hz
          · exact a7 z hz
          · rw [Ws.mp hz]
            exact ⟨fun e => c (U1.mpr (by rw [e]; exact tX _)), yE b LN⟩
        · rw [List.map_append]; rfl)
  rw [e, he]
  generalize kP : (F.foldl tell (gA, [])).2 = G at rx aL a7
  have sL : (G.map (iO (cl ts (n + 1)))).all nB = true := by
    rw [Yd, Wt]
    exact fun b ae => H5 d5 (fun c aj => (mc.mp aj).2.1) (a7 b ae).1 (a7 b ae).2
  have ab : Den.sorted (G.map (iO (cl ts (n + 1)))) = .ok (.lst (gi (G.map (iO (cl ts (n + 1)))))) := by
    unfold Den.sorted
    rw [sL, Bool.or_true, Bool.true_and, if_pos]
    rw [List.length_map, Wh]
    omega
  refine ⟨gi (G.map (iO (cl ts (n + 1)))), by simp only [Den.br, Nat.reduceAdd, ab], ?_⟩
  rw [Fn, List.length_map]
  omega
end ek
end
section
namespace ek
open Den bt eE iG
variable{pg:dm}{Φ:dy}
noncomputable def eU(ts:List (List Int))(k:Nat):Nat:=(d9 [] (eo (e7 ts (k+1)))).length
noncomputable def nn(ts:List (List Int))(k:Nat):Nat:=(cl ts (k+1)).length
noncomputable def eI(ts:List (List Int))(k:Nat):Nat:=nn ts k-eU ts (k+1)-eU ts k
theorem BF:∀rs:List Row,(∀r∈rs,r.1=0)->d9 [] rs=[]
 |[],_=>rfl
 |r::rs,h=>by
  show d9 (grow [] r) rs=[];have:grow [] r=[]:=by unfold grow;rw[if_pos (show(red [] r).1=0 from h r List.mem_cons_self)]
  rw[this];exact BF rs λq aK=>h q (List.mem_cons_of_mem _ aK)
def Ra(ts:List (List Int)):eU ts 0=0:=by
 unfold eU;rw[BF]
 .rfl
 .intro r a9;obtain⟨p,aE,rfl⟩:=List.mem_map.mp a9;obtain⟨c,aj,e⟩:=List.mem_map.mp (Zq aE);dsimp only;rw[<- e];have:eV c=[]:=by unfold eV;rw[if_neg];rw[(mc.mp aj).1];decide
  rw[this];rfl
noncomputable def iv(m:Nat)(ns:List Nat):Nat:=ns.foldl (λm x=>if x>m then x else m) m
theorem Dz:∀(ns:List Nat)(m:Nat),m<=iv m ns/\∀n∈ns,n<=iv m ns
 |[],m=>⟨VZ _,λ_ h=>nomatch h⟩
 |x::ns,m=>by
  show m<=iv (if x>m then x else m) ns/\_;obtain⟨J,aa⟩:=Dz ns (if x>m then x else m);refine⟨by split at J<;>split<;>omega,λn az=>?_⟩
  rcases V2.mp az with rfl|az
  .show n<=iv (if n>m then n else m) ns
   split at J<;>split<;>omega
  .exact aa n az
theorem Dx{k:Nat}:∀(ns:List Nat)(m:Nat),m<=k->(∀n∈ns,n<=k)->iv m ns<=k
 |[],m,h,_=>h
 |x::ns,m,h,az=>Dx ns _ (by dsimp only;split;exact az x List.mem_cons_self;exact h) λn h'=>az n (List.mem_cons_of_mem _ h')
theorem Dy:∀(ns:List Nat)(m:Nat),(ns.map λn:Nat=>(n:Int)).foldl (λm x=>if x>m then x else m) (m:Int)=(iv m ns:Int)
 |[],m=>rfl
 |x::ns,m=>by
  rw[List.map_cons,List.foldl_cons];have:(if (x:Int)>(m:Int) then(x:Int) else(m:Int))=((if x>m then x else m:Nat):Int):=by
   by_cases q:x>m
   .rw[if_pos q,if_pos (by omega)]
   .rw[if_neg q,if_neg (by omega)]
  rw[this];exact Dy ns _
noncomputable def hi:List (List Int)->Nat
 |[]=>0
 |t::ts=>iv t.length (ts.map (·.length))
def B7{ts:List (List Int)}:∀t∈ts,t.length<=hi ts:=by
 cases ts with
 |nil=>intro t h;cases h
 |cons a ts =>
  intro t h;obtain⟨J,aa⟩:=Dz (ts.map (·.length)) a.length
  rcases V2.mp h with rfl|h
  .exact J
  .exact aa _ (List.mem_map.mpr ⟨t,h,rfl⟩)
def Mb{ts:List (List Int)}{k:Nat}(h:∀t∈ts,t.length<=k):hi ts<=k:=by
 cases ts with
 |nil=>exact V6 _
 |cons a ts=>exact Dx _ _ (h a List.mem_cons_self) λn az=>by obtain⟨t,aV,rfl⟩:=List.mem_map.mp az;exact h t (List.mem_cons_of_mem _ aV)
def Dl{ts:List (List Int)}(h:ts≠[]):kc (ts.map λt=>D.int (t.length:Int))=.ok (.int (hi ts:Int)):=by
 cases ts with
 |nil=>exact absurd rfl h
 |cons a ts =>
  have e:((a::ts).map λt=>D.int (t.length:Int))=((a::ts).map λt=>(t.length:Int)).map D.int:=by rw[List.map_map];rfl
  unfold kc;rw[e,xq];show R.ok (D.int ((ts.map λt=>(t.length:Int)).foldl (λm x=>if x>m then x else m) (a.length:Int)))=_
  have av:(ts.map λt=>(t.length:Int))=(ts.map (·.length)).map λn:Nat=>(n:Int):=by rw[List.map_map];rfl
  rw[av,Dy];rfl
def Ib(ts:List (List Int)):cl ts (hi ts+1)=[]:=by
 rw[List.eq_nil_iff_forall_not_mem];intro z hz;obtain⟨J,_,t,aa,aL⟩:=mc.mp hz;have:=B7 t aa;have:=aL.length_le;omega
def Rb(ts:List (List Int)):eU ts (hi ts)=0:=by unfold eU e7;rw[Ib];rfl
def Mf{m:Int}{ts:List (List Int)}(h:ts≠[]):dK pg Φ ⟨1,0,bA.vg⟩ [cA m ts]=.ok (.int (hi ts:Int)):=by
 have dX:g7 (cA m ts) (.int 1)=.ok (.tup (ts.map aM)):=rfl;have ak:dC (elem pg Φ [some (cA m ts)] (.prim .len (.var 1)) 0 .none) (ts.map aM)=.ok (ts.map λt=>D.int (t.length:Int)):=hM λt _=>by simp only[Den.br,Nat.reduceAdd,nD]
 simp only[Den.br,Nat.reduceAdd,bA.vg,dX,ak,Eb,Dl h]
def MF{f:Nat}{m:Int}{ts:List (List Int)}(h:ts≠[])(eH:hi ts<=8)(hf:∀n:Nat,∃ds:List D,Φ f [cA m ts,.int (n:Int)]=.ok (.tup ds)/\ds.length+eU ts (n+1)+eU ts n=nn ts n):dK pg Φ ⟨1,1,bA.va f⟩ [cA m ts]=.ok (.tup ((List.range (hi ts)).map λk=>D.int (eI ts k:Int))):=by
 have dX:g7 (cA m ts) (.int 1)=.ok (.tup (ts.map aM)):=rfl;have ak:dC (elem pg Φ [some (cA m ts),none] (.prim .len (.var 2)) 0 .none) (ts.map aM)=.ok (ts.map λt=>D.int (t.length:Int)):=hM λt _=>by simp only[Den.br,Nat.reduceAdd,nD]
 have av:dC (elem pg Φ [some (cA m ts),some (.int (hi ts:Int))] (.prim .len (.call f (.cons (.var 0) (.cons (.var 2) (.nil))))) 0 .none) ((List.range (hi ts)).map λk:Nat=>D.int (k:Int))=.ok ((List.range (hi ts)).map λk=>D.int (eI ts k:Int)):=hM λk _=>by
  obtain⟨ds,a,b⟩:=hf k;have:eI ts k=ds.length:=by unfold eI;omega
  simp only[Den.br,Nat.reduceAdd,a,this]
 simp only[Den.br,Nat.reduceAdd,bA.va,dX,ak,Eb,Dl h,la (i:=0) (j:=(hi ts:Int)) (by omega) (by omega) (by omega) (by omega),tK,av]
noncomputable def h5(n:Nat):Int:=if n%2=1 then 1 else -1
def Iw{f:Nat}{m:Int}{ts:List (List Int)}(hf:Φ f [cA m ts]=.ok (.lst ((eP ts).map aM))):dK pg Φ ⟨1,0,bA.u7 f⟩ [cA m ts]=.ok (.int ((eP ts).map λc=>h5 c.length).sum):=by
 have ak:dC (elem pg Φ [some (cA m ts)] (.ite (.cmp .eq (.bin .mod (.prim .len (.var 1)) (.lit (.int 2))) (.lit (.int 1))) (.lit (.int 1)) (.neg (.lit (.int 1)))) 0 .none) ((eP ts).map aM)=.ok ((eP ts).map λc=>D.int (h5 c.length)):=hM λc _=>by
  unfold h5
  by_cases q:c.length%2=1
  .have:(((c.length:Int)%2)==1)=true:=WQ.mpr (by omega)
   simp only[Den.br,Nat.reduceAdd,A0,nD,gK _ 2 (by decide),this,if_pos q]
  .have:(((c.length:Int)%2)==1)=false:=WC.mpr (by omega)
   simp only[Den.br,Nat.reduceAdd,A0,A3,nD,gK _ 2 (by decide),this,if_neg q]
 have av:i3 ((eP ts).map λc=>D.int (h5 c.length))=.ok (.int ((eP ts).map λc=>h5 c.length).sum):=by
  have e:((eP ts).map λc=>D.int (h5 c.length))=((eP ts).map λc=>h5 c.length).map D.int:=by rw[List.map_map];rfl
  unfold i3;rw[e,xq]
 simp only[Den.br,Nat.reduceAdd,bA.u7,hf,ak,Ec,av]
noncomputable def sn(k:Nat):Int:=1-(k:Int)%2*2
def SO(k:Nat):sn (k+1)=- sn k:=by unfold sn;omega
def Su{n:Nat}(h:1<=n):h5 n=sn (n-1):=by unfold h5 sn;split<;>omega
def nP(g:Nat->Int)(n:Nat):((List.range (n+1)).map g).sum=((List.range n).map g).sum+g n:=by rw[List.range_succ,List.map_append,Z3];simp
theorem pick(l:Nat)(h:1<=l):∀M:Nat,((List.range M).map λk=>(if l=k+1 then 1 else 0:Int)*sn k).sum=if l<=M then h5 l else 0
 |0=>by rw[if_neg (by omega)];rfl
 |M+1=>by
  rw[nP,pick l h M]
  by_cases q:l=M+1
  .subst q;rw[if_neg (by omega),if_pos rfl,if_pos (VZ _),Su (by omega),Zp]
   omega
  .by_cases ba:l<=M
   .rw[if_pos ba,if_neg q,if_pos (by omega)];omega
   .rw[if_neg ba,if_neg q,if_neg (by omega)];omega
theorem Fx (M : Nat) : ∀ L : List (List Int), (∀ c ∈ L, 1 <= c.length /\ c.length <= M) -> (L.map fun c => h5 c.length).sum = ((List.range M).map fun k => ((L.filter fun c => decide (c.length = k + 1)).length : Int) * sn k).sum
  | [], _ => by
    have : ∀ n : Nat, ((List.range n).map fun k => (((([] : List (List Int)).filter fun c => decide (c.length = k + 1)).length : Nat) : Int) * sn k).sum = 0 := fun n => by
      induction n with
      | zero => rfl
      | succ n aD => rw [nP, aD]; simp
    rw [this]; rfl
  | c :: L, h => by
    have aj := h c List.mem_cons_self
    rw [List.map_cons, List.sum_cons, Fx M L fun z hz => h z (List.mem_cons_of_mem _ hz)]
    have p := pick c.length aj.1 M
    rw [if_pos aj.2] at p
    rw [<- p]
    have add : ∀ n : Nat, ((List.range n).map fun k => (if c.length = k + 1 then 1 else 0 : Int) * sn k).sum + ((List.range n).map fun k => ((L.filter fun c => decide (c.length = k + 1)).length : Int) * sn k).sum = ((List.range n).map fun k => ((((c :: L).filter fun c => decide (c.length = k + 1)).length : Nat) : Int) * sn k).sum := fun n => by
      induction n with
      | zero => rfl
      | succ n aD =>
        rw [nP, nP, nP, <- aD]
        have : ((((c :: L).filter fun c => decide (c.length = n + 1)).length : Nat) : Int) = (if c.length = n + 1 then 1 else 0 : Int) + ((L.filter fun c => decide (c.length = n + 1)).length : Int) := by
          rw [List.filter_cons]
          by_cases q : c.length = n + 1
          · rw [decide_eq_true q, if_pos rfl, if_pos q, List.length_cons]; omega
          · rw [decide_eq_false q, if_neg (by decide), if_neg q]; omega
        rw [this, Int.add_mul]
        omega
    exact add M
theorem FQ{ts:List (List Int)}(h:∀k,eI ts k+eU ts (k+1)+eU ts k=nn ts k):∀j:Nat,((List.range j).map λk=>(nn ts k:Int)*sn k).sum=((List.range j).map λk=>(eI ts k:Int)*sn k).sum+(eU ts 0:Int)-sn j*(eU ts j:Int)
 |0=>by
  show(0:Int)=0+(eU ts 0:Int)-sn 0*(eU ts 0:Int);rw[show sn 0=1 from rfl];omega
 |j+1=>by
  rw[nP,nP,FQ h j,<- h j,SO];have e:((eI ts j+eU ts (j+1)+eU ts j:Nat):Int)*sn j=(eI ts j:Int)*sn j+sn j*(eU ts (j+1):Int)+sn j*(eU ts j:Int):=by
   rw[Int.natCast_add,Int.natCast_add,Int.add_mul,Int.add_mul,Int.mul_comm (eU ts (j+1):Int),Int.mul_comm (eU ts j:Int)]
  rw[e,Int.neg_mul];omega
end ek
end
section
namespace ek
open Den bt eE iG
variable{pg:dm}{Φ:dy}
def DE{m:Int}{ts:List (List Int)}(h:Net m ts):ts≠[]:=λe=>by
 subst e;obtain⟨t,aV,_⟩:=vL.mp h.f9 0 (Int.le_refl 0) (by have:=h.lo;omega)
 cases aV
def DD{m:Int}{ts:List (List Int)}(h:Net m ts):hi ts<=8:=Mb λt aV=>by
 have:=oe (h.cell t aV);have:=h.hi;omega
def Nk(up:gE)(i:Int):j6 up (.int i) .bool=.ok false:=bc rfl
def Sv(k:Nat):dT .mod (.int (k:Int)) (.int 2)=.ok (.int ((k:Int)%2))/\dT .mul (.int ((k:Int)%2)) (.int 2)=.ok (.int ((k:Int)%2*2))/\dT .sub (.int 1) (.int ((k:Int)%2*2))=.ok (.int (sn k)) :=
 ⟨gK _ _ (by decide),jy _ _ (.inr ⟨by rw[ic];decide,by rw[ic];decide⟩),rfl⟩
def OU(a:Int)(k:Nat):dT .mul (.int a) (.int (sn k))=.ok (.int (a*sn k)):=jy _ _ (.inr (by unfold sn;rw[ic];constructor<;>omega))
def N3 {qh cI Bq Bm fn we : Nat} {is : List Int}
    (hm : ∀ k : Nat, ∃ r : Int, 0 <= r /\ r < mM /\ Φ we [.lst (is.map .int), .int (k : Int)] = .ok (.int r))
    (az : ∀ i : Int, 0 <= i -> ∃ m ts, Φ fn [.int i, .int 8] = .ok (cA m ts) /\ Net m ts /\ ts.length <= 70)
    (aw : ∀ m ts, Net m ts -> ts.length <= 70 -> Φ Bm [cA m ts] = .ok (.int ((eP ts).map fun c => h5 c.length).sum))
    (ay : ∀ m ts, Net m ts -> ts.length <= 70 -> Φ Bq [cA m ts] = .ok (.tup ((List.range (hi ts)).map fun k => D.int (eI ts k : Int))))
    (aj : ∀ m ts (h : Nat), Net m ts -> ts.length <= 70 -> h <= 7 -> Φ cI [cA m ts, .int (h : Int)] = .ok (.lst ((jf ts h).map aM)))
    (cM : ∀ m ts, Net m ts -> Φ qh [cA m ts] = .ok (.int (hi ts : Int)))
    (a9 : ∀ m ts, Net m ts -> ts.length <= 70 -> ∀ k, eI ts k + eU ts (k + 1) + eU ts k = nn ts k) : dK pg Φ ⟨1, 6, bA.vc qh cI Bq Bm fn we⟩ [.lst (is.map .int)] = .ok (.aU true) := by
  obtain ⟨r, hE, -, dE⟩ := hm 0
  have dE : Φ we [.lst (is.map .int), .int 0] = .ok (.int r) := dE
  obtain ⟨m, ts, ak, aZ, au⟩ := az r hE
  have eH := DD aZ
  simp only [Den.br, Nat.reduceAdd, bA.vc, dE, ak, aw m ts aZ au, ay m ts aZ au, cM m ts aZ, la (i := 0) (j := (hi ts : Int)) (by omega) (by omega) (by omega) (by omega), tK]
  generalize aX : ((eP ts).map fun c => h5 c.length).sum = S
  obtain ⟨c0, e, x, he⟩ := ij (f := fun k : Nat => D.int (k : Int)) (g := turn pg Φ 0 [6] (.cons (.asg 4 (.bin .add (.var 4) (.bin .mul (.prim .len (.call cI (.cons (.var 1) (.cons (.var 6) (.nil))))) (.bin .sub (.lit (.int 1)) (.bin .mul (.bin .mod (.var 6) (.lit (.int 2))) (.lit (.int 2))))))) (.cons (.asg 5 (.bin .add (.var 5) (.bin .mul (.idx (.var 3) (.var 6)) (.bin .sub (.lit (.int 1)) (.bin .mul (.bin .mod (.var 6) (.lit (.int 2))) (.lit (.int 2))))))) (.nil))))
    (fun bf C => ∃ (x : Option D), C = [some (.lst (is.map .int)), some (cA m ts), some (.int S), some (.tup ((List.range (hi ts)).map fun k => D.int (eI ts k : Int))), some (.int (bf.map fun k => (nn ts k : Int) * sn k).sum), some (.int (bf.map fun k => (eI ts k : Int) * sn k).sum), x])
    (List.range (hi ts)) [some (.lst (is.map .int)), some (cA m ts), some (.int S), some (.tup ((List.range (hi ts)).map fun k => D.int (eI ts k : Int))), some (.int 0), some (.int 0), none] ⟨none, rfl⟩ (fun pre k post C aE ⟨x, ck⟩ => by
      subst ck
      have Ml : k < hi ts := List.mem_range.mp (by rw [aE]; simp)
      have J := aj m ts k aZ au (by omega)
      have aa : jv (.lst ((jf ts k).map aM)) = .ok (.int (nn ts k : Int)) := by rw [CV, List.length_map, Al]; rfl
      have aL : g7 (.tup ((List.range (hi ts)).map fun k => D.int (eI ts k : Int))) (.int (k : Int)) = .ok (.int (eI ts k : Int)) := by
        have : ((List.range (hi ts)).map fun k => D.int (eI ts k : Int)) = ((List.range (hi ts)).map fun k => (eI ts k : Int)).map D.int := by rw [List.map_map]; rfl
        rw [this]
        exact Cw (by rw [Wg, XP Ml]; rfl)
      obtain ⟨s1, s2, s3⟩ := Sv k
      refine ⟨_, by simp only [Den.br, Nat.reduceAdd, J, aa, aL, s1, s2, s3, OU]; rfl, some (.int (k : Int)), ?_⟩
      rw [List.map_append, List.map_append, Z3, Z3]
      simp)
  rw [e, he]
  have LX : S = ((List.range (hi ts)).map fun k => (nn ts k : Int) * sn k).sum := by
    rw [<- aX, Fx (hi ts) (eP ts) fun c c6 => by
      obtain ⟨a, t, b, cy⟩ := xP.mp c6
      have J := B7 t b
      have aa := cy.length_le
      refine ⟨?_, by omega⟩
      cases c with
      | nil => exact absurd rfl a
      | cons _ _ => simp]
    rfl
  have aV := FQ (a9 m ts aZ au) (hi ts)
  rw [Ra, Rb] at aV
  have aV : ((List.range (hi ts)).map fun k => (nn ts k : Int) * sn k).sum = ((List.range (hi ts)).map fun k => (eI ts k : Int) * sn k).sum := by rw [aV]; simp
  rw [<- aV, <- LX]
  have hz : (S == S) = true := ZK S
  have qN : ((hi ts : Int) == (hi ts : Int)) = true := ZK _
  simp only [Den.br, Nat.reduceAdd, Nk, hz, cM m ts aZ, List.length_map, List.length_range, qN]
end ek
end
section
namespace zu
open Den bt eE ek iG fZ
def eN{f:Nat}{fd:fX}(h:fds[f]?=some fd)(n:Nat)(ds:List D):run pg fds (n+1) f ds=dK pg (run pg fds n) fd ds:=by rw[ry,h]
noncomputable abbrev dt(n:Nat):dy:=run pg fds n
def TZ(n:Nat)(c:List Int)(h:c.length<=1000):dt (n+1) 0 [aM c]=.ok (.lst ((eV c).map aM)):=(eN (f:=0) rfl n _).trans (Sz c h)
def T4(n:Nat)(c:List Int)(h:c.length<=8):dt (n+1) 1 [aM c]=.ok (.lst ((ey c).map aM)):=(eN (f:=1) rfl n _).trans (UN c h)
def FU{m:Int}{ts:List (List Int)}(aZ:Net m ts):∀t∈ts,t.length<=8:=λt aV=>by have:=oe (aZ.cell t aV);have:=aZ.hi;omega
def FJ(n:Nat)(m:Int)(ts:List (List Int))(aZ:Net m ts)(au:ts.length<=70):dt (n+2) 2 [cA m ts]=.ok (.lst ((eP ts).map aM)):=(eN (f:=2) rfl _ _).trans (Kj (T4 n) (FU aZ) (by omega) (A6 aZ.hi aZ.cell))
def TK(n:Nat)(m:Int)(ts:List (List Int))(aZ:Net m ts)(au:ts.length<=70)(k:Nat):dt (n+3) 3 [cA m ts,.int ((k:Int)-1)]=.ok (.tup ((cl ts k).map aM)):=(eN (f:=3) rfl _ _).trans (Io k (FJ n m ts aZ au))
def FK(n:Nat)(m:Int)(ts:List (List Int))(aZ:Net m ts)(au:ts.length<=70)(k:Nat):dt (n+4) 4 [cA m ts,.int ((k:Int)-1)]=.ok (.bT (mk (cl ts k))):=(eN (f:=4) rfl _ _).trans (Ox k (TK n m ts aZ au k) (r5 aZ.hi aZ.cell k))
def TH(n:Nat)(U xs:List (List Int))(d5:U.Nodup)(ah:xs.Nodup)(h:∀x∈xs,x∈U):dt (n+1) 5 [.lst (xs.map aM),.bT (mk U)]=.ok (.int (dO U xs:Int)):=(eN (f:=5) rfl _ _).trans (HF d5 ah h)
def TJ(n:Nat)(U:List (List Int))(b:Nat)(d5:U.Nodup):dt (n+1) 6 [.int (b:Int),.bT (mk U)]=.ok (iO U b):=(eN (f:=6) rfl _ _).trans (H6 d5 b)
def TY(n:Nat)(m:Int)(ts:List (List Int))(aZ:Net m ts)(au:ts.length<=70)(k:Nat):dt (n+5) 7 [cA m ts,.int (k:Int)]=.ok (.lst ((eo (e7 ts (k+1))).map cb)):=(eN (f:=7) rfl _ _).trans (Q9 k aZ.cell aZ.hi (FK n m ts aZ au) (TZ (n+3)) (TH (n+3)))
def T2(n:Nat)(r q:Row):dt (n+1) 8 [cb r,cb q]=.ok (cb (r.1 ^^^ q.1,r.2 ^^^ q.2)):=(eN (f:=8) rfl _ _).trans (S9 r q)
def y0(n:Nat)(B:cR)(r:Row)(h:(B.map (·.1)).Nodup):dt (n+2) 9 [cb r,.bx (di B)]=.ok (cb (red B r)):=(eN (f:=9) rfl _ _).trans (Q2 (T2 n) h r)
def TV(n k:Nat)(h:0<k):dt (n+1) 10 [.int (k:Int)]=.ok (.int ((2 ^ lo k:Nat):Int)):=(eN (f:=10) rfl _ _).trans (Om k h)
def yZ(n:Nat)(B:cR)(r:Row)(h:dP B)(g0:B.length<900):dt (n+3) 11 [.bx (di B),cb r]=.ok (.bx (di (grow B r))):=(eN (f:=11) rfl _ _).trans (Lz (y0 n) (TV (n+1)) h g0 r)
def TG(n:Nat)(rs:List Row)(h:rs.length<=255):dt (n+4) 12 [.lst (rs.map cb)]=.ok (.bx (di (d9 [] rs))):=(eN (f:=12) rfl _ _).trans (Hv (yZ n) h)
def TP(n:Nat)(rs:List Row)(h:rs.length<=255):dt (n+4) 13 [.lst (rs.map cb)]=.ok (.lst ((ez rs).2.map λb:Nat=>D.int (b:Int))):=(eN (f:=13) rfl _ _).trans (Nf (yZ n) (y0 (n+1)) h)
def FN(n:Nat)(m:Int)(ts:List (List Int))(aZ:Net m ts)(au:ts.length<=70)(k:Nat):∃ds:List D,dt (n+6) 14 [cA m ts,.int (k:Int)]=.ok (.tup ds)/\ds.length+eU ts (k+1)+eU ts k=nn ts k:=by
 have hm:dt (n+5) 4 [cA m ts,.int (k:Int)]=.ok (.bT (mk (cl ts (k+1)))):=by
  have:=FK (n+1) m ts aZ au (k+1);rwa[show(((k+1:Nat):Int)-1)=(k:Int) by omega]at this
 obtain⟨ds,a,b⟩:=Rd (pg:=pg) (Φ:=dt (n+5)) k aZ.cell aZ.hi (TP (n+1)) (TY n m ts aZ au) (y0 (n+3)) (yZ (n+2)) (TJ (n+4)) hm (TG (n+1));exact⟨ds,(eN (f:=14) rfl _ _).trans a,b⟩
def TO(n:Nat)(m:Int)(ts:List (List Int))(aZ:Net m ts)(au:ts.length<=70):dt (n+7) 15 [cA m ts]=.ok (.tup ((List.range (hi ts)).map λk=>D.int (eI ts k:Int))):=(eN (f:=15) rfl _ _).trans (MF (DE aZ) (DD aZ) (FN n m ts aZ au))
def TL(n:Nat)(m:Int)(ts:List (List Int))(aZ:Net m ts)(au:ts.length<=70):dt (n+3) 16 [cA m ts]=.ok (.int ((eP ts).map λc=>h5 c.length).sum):=(eN (f:=16) rfl _ _).trans (Iw (FJ n m ts aZ au))
def TF(n:Nat)(is:List Int)(k:Nat):dt (n+1) 17 [.lst (is.map .int),.int (k:Int)]=.ok (.int (is.getD k 0)):=(eN (f:=17) rfl _ _).trans (H2 is k)
def TX(n:Nat)(is:List Int)(k:Nat):∃r:Int,0<=r/\r<mM/\dt (n+2) 18 [.lst (is.map .int),.int (k:Int)]=.ok (.int r):=by
 obtain⟨r,a,b,e⟩:=OK (pg:=pg) (TF n is) k;exact⟨r,a,b,(eN (f:=18) rfl _ _).trans e⟩
def TM(n:Nat)(i k:Int):∃r:Int,0<=r/\r<mM/\dt (n+1) 19 [.int i,.int k]=.ok (.int r):=by
 obtain⟨r,a,b,e⟩:=Jr (pg:=pg) (Φ:=dt n) i k;exact⟨r,a,b,(eN (f:=19) rfl _ _).trans e⟩
def TS(n:Nat)(c o:List Int):dt (n+1) 20 [aM c,aM o]=.ok (.aU (lies c o)):=(eN (f:=20) rfl n _).trans (N6 c o)
def T3(n:Nat)(ts:List (List Int))(az:∀c∈ts,c≠[])(h:(dN ts).length<=255):dt (n+2) 21 [.lst (ts.map aM)]=.ok (.tup ((nH ts).map aM)):=(eN (f:=21) rfl _ _).trans (N8 (TS n) rfl az h)
def FL(n s:Nat)(c:List Int)(ab:s<=8)(aj:c.length<=8):dt (n+9) 22 [aM c,.int (s:Int)]=.ok (.lst ((c4 s c).map aM)):=DX (fds:=fds) (f:=22) rfl s (n+9) c (by omega) aj
def T1(n:Nat)(i m:Int)(J:1<=m)(eH:m<=8):∃cs:List (List Int),dt (n+2) 23 [.int i,.int m]=.ok (.lst (cs.map aM))/\(∀c∈cs,IsCell m c)/\f9 m cs=true/\cs.length<=16:=by
 obtain⟨cs,e,r⟩:=SP (pg:=pg) (TM n) i m J eH;exact⟨cs,(eN (f:=23) rfl _ _).trans e,r⟩
def TU(n:Nat)(i:Int)(h0:0<=i):∃m ts,dt (n+10) 24 [.int i,.int 8]=.ok (cA m ts)/\Net m ts/\ts.length<=70:=by
 obtain⟨m,ts,e,r⟩:=OY (pg:=pg) (Φ:=dt (n+9)) (T3 (n+7)) (FL n) (T1 (n+7)) i h0;exact⟨m,ts,(eN (f:=24) rfl _ _).trans e,r⟩
def TR(n:Nat)(m:Int)(ts:List (List Int))(h:Nat)(aZ:Net m ts)(au:ts.length<=70)(il:h<=7):dt (n+10) 25 [cA m ts,.int (h:Int)]=.ok (.lst ((jf ts h).map aM)) :=
 (eN (f:=25) rfl _ _).trans (N5 (λc aj=>by
  have:=FL n (h+1) c (by omega) aj
  have e:((h+1:Nat):Int)=(h:Int)+1:=rfl;rw[e]at this;exact this) (FU aZ) (by omega) (by rw[Al];exact r5 aZ.hi aZ.cell _))
def TN(n:Nat)(m:Int)(ts:List (List Int))(aZ:Net m ts):dt (n+1) 26 [cA m ts]=.ok (.int (hi ts:Int)):=(eN (f:=26) rfl _ _).trans (Mf (DE aZ))
def TQ(is:List Int):run pg fds 21 27 [.lst (is.map .int)]=.ok (.aU true) :=
 (eN (f:=27) rfl _ _).trans (N3 (TX 18 is) (TU 10) (TL 17) (TO 13) (TR 10) (TN 19) λm ts aZ au k=>by
  obtain⟨ds,_,b⟩:=FN 0 m ts aZ au k;unfold eI;omega)
end zu
end
section
namespace bR
open PySem PySem.Spec PyProof.Rows bJ
noncomputable abbrev D:=Den.D
noncomputable abbrev a6:=Den.a6
noncomputable abbrev bw:=Den.R
noncomputable abbrev bW:=List (Option V)
noncomputable def cV{α:Type}(r:bw α)(Q:α->Prop)(E:Nat->Prop):Prop:=match r with
 |.ok a=>Q a
 |.exc c=>E c
 |.bad=>False
def bu{α β:Type}{r:bw α}{f:α->bw β}{Q:β->Prop}{E:Nat->Prop}:cV (r>>=f) Q E<->cV r (λa=>cV (f a) Q E) E:=by
 cases r<;>exact Iff.rfl
def bV{α:Type}{r:bw α}{Q ig:α->Prop}{E rP:Nat->Prop}(h:cV r Q E)(aK:∀a,Q a->ig a)(he:∀c,E c->rP c):cV r ig rP:=by
 cases r with
 |ok a=>exact aK a h
 |exc c=>exact he c h
 |bad=>exact h
noncomputable def gF(ar:List (List Int×Int)):List (List Key×V):=ar.map λp=>(p.1.map Sum.inl,V.int p.2)
noncomputable def eu(G:ax):List (Int×Int×Int)->List (Key×V)->Prop
 |[],ys=>ys=[]
 |p::bf,ys=>∃b r,ys=(Sum.inl p.1,.ref b)::r/\G b=some (.tup [.int p.2.1,.int p.2.2])/\eu G bf r
theorem eu.mono{G aO:ax}(s:bQ G aO):∀{bf:List (Int×Int×Int)}{ys:List (Key×V)},eu G bf ys->eu aO bf ys
 |[],_,h=>h
 |p::bf,_,⟨b,r,e,J,aa⟩=>⟨b,r,e,s _ _ J,aa.mono s⟩
mutual
noncomputable def Rep (K:W.Frag) (G:ax):D->V->Prop
 |.cU,v=>v=.cU
 |.aU b,v=>v=.aU b
 |.int i,v=>v=.int i
 |.str x,v=>v=.str x
 |.tup ds,v=>∃a xs,v=.ref a/\G a=some (.tup xs)/\bG K G ds xs
 |.lst ds,v=>∃a xs,v=.ref a/\ew K G a xs/\bG K G ds xs
 |.bT ar,v=>∃a bh,v=.ref a/\G a=some (.dW bh (.d8 (gF ar)))
 |.bx ar,v=>∃a bh ys,v=.ref a/\G a=some (.dW bh (.dI ys))/\eu G ar ys
 |.eR _,_=>False
noncomputable def bG (K:W.Frag) (G:ax):List D->List V->Prop
 |[],xs=>xs=[]
 |d::ds,xs=>∃v r,xs=v::r/\Rep K G d v/\bG K G ds r
end
section
variable{K:W.Frag}{G aO H ao:ax}
def Fp(s:bQ G aO){a:Addr}{xs:List V}(h:fu K G a xs):fu K aO a xs:=by
 rcases h with(h|⟨o,h⟩)|h
 .exact .inl (.inl (s _ _ h))
 .exact .inl (.inr ⟨o,s _ _ h⟩)
 .exact .inr h
def iC(s:bQ G aO){a:Addr}{xs:List V}(h:G a=some (.tup xs)):fu K aO a xs:=.inl (.inl (s _ _ h))
def lh(s:bQ G aO){a:Addr}{xs:List V}(h:ew K G a xs):ew K aO a xs:=by
 rcases h with(h|⟨o,h⟩)|h
 .exact .inl (.inl (s _ _ h))
 .exact .inl (.inr ⟨o,s _ _ h⟩)
 .exact .inr h
def Em(s:bQ G aO){a:Addr}{u:dz}(h:hk G a u):hk aO a u:=by
 rcases h with h|⟨o,h⟩
 .exact .inl (s _ _ h)
 .exact .inr ⟨o,s _ _ h⟩
mutual
theorem Rep.mono (s:bQ G aO):∀{d:D}{v:V},Rep K G d v->Rep K aO d v
 |.cU,_,h=>h
 |.aU _,_,h=>h
 |.int _,_,h=>h
 |.str _,_,h=>h
 |.tup ds,_,⟨a,xs,e,h,r⟩=>⟨a,xs,e,s _ _ h,bG.mono s r⟩
 |.lst ds,_,⟨a,xs,e,h,r⟩=>⟨a,xs,e,lh s h,bG.mono s r⟩
 |.bT _,_,⟨a,bh,e,h⟩=>⟨a,bh,e,s _ _ h⟩
 |.bx _,_,⟨a,bh,ys,e,h,r⟩=>⟨a,bh,ys,e,s _ _ h,r.mono s⟩
 |.eR _,_,h=>h
theorem bG.mono (s:bQ G aO):∀{ds:List D}{xs:List V},bG K G ds xs->bG K aO ds xs
 |[],_,h=>h
 |d::ds,_,⟨v,r,e,J,aa⟩=>⟨v,r,e,Rep.mono s J,bG.mono s aa⟩
end
theorem bG.length:∀{ds:List D}{xs:List V},bG K G ds xs->ds.length=xs.length
 |[],_,h=>by cases h;rfl
 |d::ds,_,⟨v,r,e,J,aa⟩=>by subst e;simp[bG.length aa]
theorem bG.append:∀{ds ag:List D}{xs ys:List V},bG K G ds xs->bG K G ag ys->bG K G (ds++ag) (xs++ys)
 |[],_,_,_,h,q=>by cases h;exact q
 |d::ds,_,_,_,⟨v,r,e,J,aa⟩,q=>by subst e;exact⟨v,r++_,rfl,J,bG.append aa q⟩
theorem bG.get:∀{ds:List D}{xs:List V}{i:Nat}{d:D},bG K G ds xs->ds[i]?=some d->∃v,xs[i]?=some v/\Rep K G d v
 |[],_,_,_,h,e=>by simp at e
 |d::ds,_,0,_,⟨v,r,e,J,aa⟩,q=>by subst e;simp at q;subst q;exact⟨v,rfl,J⟩
 |d::ds,_,i+1,_,⟨v,r,e,J,aa⟩,q=>by subst e;simpa using bG.get aa (by simpa using q)
theorem bG.drop:∀{ds:List D}{xs:List V}(n:Nat),bG K G ds xs->bG K G (ds.drop n) (xs.drop n)
 |_,_,0,h=>by simpa using h
 |[],_,n+1,h=>by cases h;simp[bG]
 |d::ds,_,n+1,⟨v,r,e,J,aa⟩=>by subst e;simpa using bG.drop n aa
theorem bG.take:∀{ds:List D}{xs:List V}(n:Nat),bG K G ds xs->bG K G (ds.take n) (xs.take n)
 |_,_,0,h=>by simp[bG]
 |[],_,n+1,h=>by cases h;simp[bG]
 |d::ds,_,n+1,⟨v,r,e,J,aa⟩=>by subst e;exact⟨v,r.take n,by simp,J,bG.take n aa⟩
def bG.snoc{ds:List D}{xs:List V}{d:D}{v:V}(h:bG K G ds xs)(q:Rep K G d v):bG K G (ds++[d]) (xs++[v]):=h.append ⟨v,[],rfl,q,rfl⟩
noncomputable def View(K:W.Frag)(G H:ax):D->V->Prop
 |.bT ar,v=>∃a,v=.ref a/\hk H a (.d8 (gF ar))
 |.bx ar,v=>∃a ys,v=.ref a/\hk H a (.dI ys)/\eu G ar ys
 |.lst ds,v=>∃a xs,v=.ref a/\ew K H a xs/\bG K G ds xs
 |d,v=>Rep K G d v
def Rep.view(s:bQ G H):∀{d:D}{v:V},Rep K G d v->View K G H d v
 |.lst ds,_,⟨a,xs,e,h,r⟩=>⟨a,xs,e,lh s h,r⟩
 |.cU,_,h=>h
 |.aU _,_,h=>h
 |.int _,_,h=>h
 |.str _,_,h=>h
 |.tup _,_,h=>h
 |.bT _,_,⟨a,bh,e,h⟩=>⟨a,e,.inr ⟨bh,s _ _ h⟩⟩
 |.bx _,_,⟨a,bh,ys,e,h,r⟩=>⟨a,ys,e,.inr ⟨bh,s _ _ h⟩,r⟩
 |.eR _,_,h=>h
structure Ext(G H aO ao:ax):Prop where
 g:bQ G aO
 h:bQ H ao
 sub:bQ aO ao
 new:∀a,G a=none->H a≠none->aO a=none
 dZ:∀b xs,ao b=some (.tup xs)->H b=some (.tup xs)\/aO b=some (.tup xs)
theorem Ext.refl(s:bQ G H):Ext G H G H:=⟨bQ.refl G,bQ.refl H,s,λ_ h _=>h,λ_ _ h=>.inl h⟩
theorem Ext.trans{aI H1:ax}(x:Ext G H aI H1)(y:Ext aI H1 aO ao):Ext G H aO ao :=
 ⟨x.g.trans y.g,x.h.trans y.h,y.sub,λa J aa=>y.new a (x.new a J aa) (λz=>by
  cases q:H a with
  |none=>exact aa q
  |some o=>rw[x.h a o q]at z;cases z),λb xs z=>(y.dZ b xs z).elim (λz=>(x.dZ b xs z).imp id λz=>y.g _ _ z) .inr⟩
def fV{H:ax}{a:Addr}{o:dz}(h:H a=none):bQ H (upd H a o):=λb u e=>by rw[c8 (me e h)];exact e
def View.ext{H1 aI:ax}(x:Ext G H aI H1):∀{d:D}{v:V},View K G H d v->View K aI H1 d v
 |.lst ds,_,⟨a,xs,e,h,r⟩=>⟨a,xs,e,lh x.h h,r.mono x.g⟩
 |.cU,_,h=>h
 |.aU _,_,h=>h
 |.int _,_,h=>h
 |.str _,_,h=>h
 |.tup _,_,h=>Rep.mono (K:=K) x.g h
 |.bT _,_,⟨a,e,h⟩=>⟨a,e,Em x.h h⟩
 |.bx _,_,⟨a,ys,e,h,r⟩=>⟨a,ys,e,Em x.h h,r.mono x.g⟩
 |.eR _,_,h=>h
def Ext.own(s:bQ G H){a:Addr}{o:dz}(h:H a=none)(ay:∀xs,o≠.tup xs:=by intro _ z;cases z):Ext G H G (upd H a o):=⟨bQ.refl G,fV h,s.trans (fV h),λ_ J _=>J,λb xs e=>by
 by_cases q:b=a
 .subst q;rw[dF]at e;cases e;exact absurd rfl (ay xs)
 .rw[c8 q]at e;exact .inl e⟩
def Ext.put(s:bQ G H){a:Addr}{o:dz}(h:H a=none):Ext G H (upd G a o) (upd H a o):=by
 have kP:G a=none:=s.free h;refine⟨fV kP,fV h,λb u e=>?_,λb J aa=>?_,λb xs e=>?_⟩
 .by_cases q:b=a
  .subst q;rw[dF]at e ⊢;exact e
  .rw[c8 q]at e ⊢;exact s b u e
 .rw[c8 (λq=>aa (by rw[q];exact h))];exact J
 .by_cases q:b=a
  .subst q;rw[dF]at e ⊢;exact .inr e
  .rw[c8 q]at e;exact .inl e
end
inductive et where
 |view|val|fresh
noncomputable def cx(K:W.Frag)(H aO ao:ax):et->D->V->Prop
 |.view,d,v=>View K aO ao d v
 |.val,d,v=>Rep K aO d v
 |.fresh,.lst ds,v=>∃a xs,v=.ref a/\ao a=some (.lst xs)/\H a=none/\aO a=none/\bG K aO ds xs
 |.fresh,.bT _,_=>False
 |.fresh,.bx _,_=>False
 |.fresh,d,v=>Rep K aO d v
noncomputable def gv:D->Bool
 |.lst _=>true
 |.bT _=>true
 |.bx _=>true
 |_=>false
noncomputable def jc(K:W.Frag)(G:ax):D->dz->Prop
 |.lst ds,o=>∃xs,o=.lst xs/\bG K G ds xs
 |.bT ar,o=>o=.d8 (gF ar)
 |.bx ar,o=>∃ys,o=.dI ys/\eu G ar ys
 |_,_=>False
theorem jc.mono{K:W.Frag}{G aO:ax}(s:bQ G aO):∀{d:D}{o:dz},jc K G d o->jc K aO d o
 |.lst _,_,⟨xs,e,r⟩=>⟨xs,e,r.mono s⟩
 |.bT _,_,h=>h
 |.bx _,_,⟨ys,e,r⟩=>⟨ys,e,r.mono s⟩
 |.cU,_,h=>h
 |.aU _,_,h=>h
 |.int _,_,h=>h
 |.str _,_,h=>h
 |.tup _,_,h=>h
 |.eR _,_,h=>h
structure el(K:W.Frag)(ai:List Nat)(G H:ax)(C:a6)(σ:bW):Prop where
 len:C.length=σ.length
 sub:bQ G H
 val:∀(i:Nat)(d:D),C[i]?=some (some d)->i∉ai->∃v,σ[i]?=some (some v)/\Rep K G d v
 own:∀(i:Nat)(d:D),C[i]?=some (some d)->i∈ai->gv d=false->∃v,σ[i]?=some (some v)/\Rep K G d v
 lst:∀(i:Nat)(d:D),C[i]?=some (some d)->i∈ai->gv d=true->∃a o,σ[i]?=some (some (V.ref a))/\H a=some o/\G a=none/\jc K G d o
 dZ:∀b xs,H b=some (.tup xs)->G b=some (.tup xs)
 apart:∀(i j:Nat)(d e:D)(a b:Addr),C[i]?=some (some d)->C[j]?=some (some e)->gv d=true->gv e=true->i∈ai->j∈ai->i≠j->σ[i]?=some (some (V.ref a))->σ[j]?=some (some (V.ref b))->a≠b
def el.ext{K:W.Frag}{ai:List Nat}{G H aO ao:ax}{C:a6}{σ:bW}(h:el K ai G H C σ)(x:Ext G H aO ao):el K ai aO ao C σ where
 len:=h.len
 sub:=x.sub
 val:=λi d e hm=>let ⟨v,a,b⟩:=h.val i d e hm;⟨v,a,b.mono x.g⟩
 own:=λi d e hm au=>let ⟨v,a,b⟩:=h.own i d e hm au;⟨v,a,b.mono x.g⟩
 lst:=λi d e hm au=>let ⟨a,o,J,aa,aL,a7⟩:=h.lst i d e hm au;⟨a,o,J,x.h _ _ aa,x.new a aL (by rw[aa];exact λz=>nomatch z),a7.mono x.g⟩
 dZ:=λb xs z=>(x.dZ b xs z).elim (λz=>x.g _ _ (h.dZ b xs z)) id
 apart:=h.apart
theorem el.view{K:W.Frag}{ai:List Nat}{G H:ax}{C:a6}{σ:bW}(h:el K ai G H C σ){i:Nat}{d:D}(e:C[i]?=some (some d)):∃v,σ[i]?=some (some v)/\View K G H d v:=by
 by_cases hm:i∈ai
 .cases hd:gv d with
  |false=>obtain⟨v,J,aa⟩:=h.own i _ e hm hd;exact⟨v,J,aa.view h.sub⟩
  |true =>
   obtain⟨a,o,J,aa,aL,a7⟩:=h.lst i d e hm hd;cases d with
   |lst ds=>obtain⟨xs,rfl,r⟩:=a7;exact⟨_,J,a,xs,rfl,.inl (.inl aa),r⟩
   |bT ar=>cases a7;exact⟨_,J,a,rfl,.inl aa⟩
   |bx ar=>obtain⟨ys,rfl,r⟩:=a7;exact⟨_,J,a,ys,rfl,.inl aa,r⟩
   |_=>cases hd
 .obtain⟨v,J,aa⟩:=h.val i d e hm;exact⟨v,J,aa.view h.sub⟩
noncomputable abbrev cq:=Nat->Value->List Addr->Heap->Prop
noncomputable def uK(X:aS)(pins:List (Addr×Obj))(H:ax)(a:Addr):Prop :=
 H a=none/\(a∈X.ex\/X.e8.heap.get? a=none)/\a≠X.env.locals/\(∀x c,X.env.cells.lookup x=some c->c≠a)/\∀p∈X.fA++pins,p.1≠a
def uK.of{X:aS}{pins:List (Addr×Obj)}{σ:bW}{H ao:ax}{s:Shared}{a:Addr}(I:Inv X pins σ H s)(h:s.heap.get? a=none)(h':ao a=none):uK X pins ao a:=by
 have no:∀{b:Addr}{o:Obj},s.heap.get? b=some o->b≠a:=λq z=>by rw[z,h]at q;cases q
 refine⟨h',?_,λz=>?_,λx c q=>?_,λp q=>no (I.pin p q).1⟩
 .by_cases ah:a∈X.ex
  .exact .inl ah
  .refine .inr ?_;cases q:X.e8.heap.get? a with
   |none=>rfl
   |some o=>obtain⟨bC,e⟩:=I.base.there a o q ah;rw[h]at e;cases e
 .obtain⟨m,⟨o,_,_,ay,_⟩,_⟩:=I.loc;exact no ay z.symm
 .obtain⟨v,o,ay,_⟩:=I.cell x c q;exact no ay
noncomputable def fL(xp:cq)(X:aS)(c:Nat)(H:ax):Prop:=∀(pins:List (Addr×Obj))(σ:bW)(ao:ax)(s':Shared)(e:Value)(l:List Addr),Inv X pins σ ao s'->bQ H ao->(∀a∈l,uK X pins ao a)->xp c e l s'.heap->X.cC e s'
def fL.mono{xp:cq}{X:aS}{c:Nat}{H ao:ax}(h:fL xp X c H)(s:bQ H ao):fL xp X c ao:=λpins σ aY s' e l I q n x=>h pins σ aY s' e l I (s.trans q) n x
noncomputable def bo(xp:cq)(X:aS)(ai:List Nat)(m:et)(f:a6->bw D):TE:=λσ H Q =>
 ∃G C,el X.K ai G H C σ/\cV (f C) (λd=>∀v aO ao,Ext G H aO ao->cx X.K H aO ao m d v->Q v ao) (λc=>fL xp X c H)
theorem cx.view{K:W.Frag}{H aO ao:ax}(s:bQ aO ao):∀{m:et}{d:D}{v:V},cx K H aO ao m d v->View K aO ao d v
 |.view,_,_,h=>h
 |.val,_,_,h=>Rep.view s h
 |.fresh,.lst ds,_,⟨a,xs,e,J,_,_,r⟩=>⟨a,xs,e,.inl (.inl J),r⟩
 |.fresh,.cU,_,h=>h
 |.fresh,.aU _,_,h=>h
 |.fresh,.int _,_,h=>h
 |.fresh,.str _,_,h=>h
 |.fresh,.tup _,_,h=>h
 |.fresh,.bT _,_,h=>h.elim
 |.fresh,.bx _,_,h=>h.elim
 |.fresh,.eR _,_,h=>h
theorem aP.val{xp:cq}{X:aS}{ai:List Nat}{e:Expr}{f:a6->bw D}(h:aP X e (bo xp X ai .fresh f)):aP X e (bo xp X ai .val f):=by
 intro pins s σ H Q I ⟨G,C,ab,hw⟩;refine h pins s σ H Q I ⟨G,C,ab,bV hw (λd k v aO ao x r=>?_) λ_ q=>q⟩
 cases d with
 |lst ds =>
  obtain⟨a,xs,rfl,J,aa,aL,a7⟩:=r;refine k _ (upd aO a (.lst xs)) ao ⟨x.g.trans (fV aL),x.h,λb o q=>?_,λb aN ba=>?_,λb xs q=>(x.dZ b xs q).imp id λz=>fV aL _ _ z⟩ ⟨a,xs,rfl,.inl (.inl dF),a7.mono (fV aL)⟩
  .by_cases ae:b=a
   .subst ae;rw[dF]at q;rw[J];exact q
   .rw[c8 ae]at q;exact x.sub b o q
  .rw[c8 (λz=>ba (by rw[z];exact aa))];exact x.new b aN ba
 |bT _=>exact r.elim
 |bx _=>exact r.elim
 |_=>exact k v aO ao x r
theorem aP.view{xp:cq}{X:aS}{ai:List Nat}{m:et}{e:Expr}{f:a6->bw D}(h:aP X e (bo xp X ai m f)):aP X e (bo xp X ai .view f):=by
 intro pins s σ H Q I ⟨G,C,ab,hw⟩;exact h pins s σ H Q I ⟨G,C,ab,bV hw (λd k v aO ao x r=>k v aO ao x (r.view x.sub)) λ_ q=>q⟩
end bR
end
section
namespace bR
open PySem PySem.Spec PyProof.Rows bJ
section
variable{xp:cq}{X:aS}{ai:List Nat}{pg:Den.dm}{Φ:Den.dy}
def EW{i:Nat}{x:Str}{p:Pos}(aZ:X.N[i]?=some x)(aT:gn X.env.scope x)(J:(x==("__debug__":Str))=false)(aa:(x==("__classdict__":Str))=false):aP X (.Name x p) (bo xp X ai .view λC=>Den.ev pg Φ C (.var i)):=by
 intro pins s σ H Q I ⟨G,C,ab,hw⟩;dsimp only at hw;cases e:C[i]? with
 |none=>rw[Den.sg,e]at hw;exact hw.elim
 |some o =>
  cases o with
  |none=>rw[Den.sg,e]at hw;exact hw.elim
  |some d =>
   rw[Den.A5 i e]at hw;obtain⟨v,a,b⟩:=ab.view e;exact h2 aZ aT J aa pins s σ H Q I ⟨v,a,hw v G H (Ext.refl ab.sub) b⟩
def Sa{i:Nat}{x:Str}{p:Pos}(hm:i∉ai)(aZ:X.N[i]?=some x)(aT:gn X.env.scope x)(J:(x==("__debug__":Str))=false)(aa:(x==("__classdict__":Str))=false):aP X (.Name x p) (bo xp X ai .val λC=>Den.ev pg Φ C (.var i)):=by
 intro pins s σ H Q I ⟨G,C,ab,hw⟩;dsimp only at hw;cases e:C[i]? with
 |none=>rw[Den.sg,e]at hw;exact hw.elim
 |some o =>
  cases o with
  |none=>rw[Den.sg,e]at hw;exact hw.elim
  |some d =>
   rw[Den.A5 i e]at hw;obtain⟨v,a,b⟩:=ab.val i d e hm;exact h2 aZ aT J aa pins s σ H Q I ⟨v,a,hw v G H (Ext.refl ab.sub) b⟩
def ES{d:D}{c:Const}{j:Nat}{p:Pos}{m:et}(h:Den.litOk d c=true):aP X (.Constant c j p) (bo xp X ai m λC=>Den.ev pg Φ C (.lit d)):=by
 intro pins s σ H Q I ⟨G,C,ab,hw⟩;dsimp only at hw;rw[Den.A1]at hw;have fin:∀v,cx X.K H G H m d v->Q v H:=λv r=>hw v G H (Ext.refl ab.sub) r
 cases d with
 |cU=>cases c<;>simp[Den.litOk]at h;exact PX pins s σ H Q I (fin _ (by cases m<;>rfl))
 |aU b =>
  cases c<;>simp[Den.litOk]at h;subst h;exact PI pins s σ H Q I (fin _ (by cases m<;>rfl))
 |int i =>
  cases c<;>simp[Den.litOk]at h;subst h;exact PU pins s σ H Q I (fin _ (by cases m<;>rfl))
 |str x =>
  cases c<;>simp[Den.litOk]at h;subst h;exact P2 pins s σ H Q I (fin _ (by cases m<;>rfl))
 |_=>cases c<;>simp[Den.litOk]at h
noncomputable def k9(K:W.Frag)(g:D->D->bw D):fc:=λx y H Q=>∃G bb cj,bQ G H/\View K G H bb x/\View K G H cj y/\cV (g bb cj) (λd=>∀v aO ao,Ext G H aO ao->cx K H aO ao .fresh d v->Q v ao) (λ_=>False)
def cx.old{K:W.Frag}{H H1 aO ao:ax}(s:bQ H H1):∀{m:et}{d:D}{v:V},cx K H1 aO ao m d v->cx K H aO ao m d v
 |.view,_,_,h=>h
 |.val,_,_,h=>h
 |.fresh,.lst ds,_,⟨a,xs,e,J,aa,aL,r⟩=>⟨a,xs,e,J,s.free aa,aL,r⟩
 |.fresh,.cU,_,h=>h
 |.fresh,.aU _,_,h=>h
 |.fresh,.int _,_,h=>h
 |.fresh,.str _,_,h=>h
 |.fresh,.tup _,_,h=>h
 |.fresh,.bT _,_,h=>h
 |.fresh,.bx _,_,h=>h
 |.fresh,.eR _,_,h=>h
def Rt{bk cz:a6->bw D}{g:D->D->bw D}{a b:Expr}{op:Operator}{pos:Pos}(a8:∀x y c,g x y≠.exc c)(ay:c1 X (binaryOp op) (k9 X.K g))(aA:aP X a (bo xp X ai .view bk))(ae:aP X b (bo xp X ai .view cz)):
  aP X (.BinOp a op b pos) (bo xp X ai .fresh λC=>bk C>>=λx=>cz C>>=λy=>g x y):=by
 intro pins s σ H Q I ⟨G,C,ab,hw⟩;refine PZ ay aA ae pins s σ H Q I ?_;refine⟨G,C,ab,bV (bu.mp hw) (λbb k v aI H1 aR aG=>?_) λ_ q=>q⟩
 refine⟨aI,C,ab.ext aR,bV (bu.mp k) (λcj aQ v2 b9 aY bI a5=>?_) λ_ q=>q.mono aR.h⟩
 refine⟨b9,bb,cj,bI.sub,View.ext bI aG,a5,?_⟩;cases q:g bb cj with
 |ok d =>
  rw[q]at aQ;exact λue jM b8 ia dU=>aQ ue jM b8 ((aR.trans bI).trans ia) (dU.old (aR.h.trans bI.h))
 |exc c=>exact absurd q (a8 _ _ _)
 |bad=>rw[q]at aQ;exact aQ
def kN{K:W.Frag}{G H:ax}{Q:c2}{d:D}{v:V}(ab:bQ G H)(k:∀v aO ao,Ext G H aO ao->cx K H aO ao .fresh d v->Q v ao)(r:cx K H G H .fresh d v):Q v H:=k v G H (Ext.refl ab) r
def Ji:c1 X (binaryOp .Sub) (k9 X.K (Den.dT .sub)):=by
 intro pins s σ H x y v u Q I aW bB ⟨G,bb,cj,ab,bp,dc,hw⟩;cases bb<;>cases cj<;>first|exact hw.elim|skip
 exact Pw pins s σ H x y v u Q I aW bB ⟨_,_,bp,dc,kN ab hw rfl⟩
def Jf:c1 X (binaryOp .Mod) (k9 X.K (Den.dT .mod)):=by
 intro pins s σ H x y v u Q I aW bB ⟨G,bb,cj,ab,bp,dc,hw⟩;cases bb<;>cases cj<;>first|exact hw.elim|skip
 rename_i i j;rw[Den.mod_int]at hw
 by_cases h:0<j
 .rw[if_pos h]at hw;exact Pt pins s σ H x y v u Q I aW bB ⟨_,_,bp,dc,h,kN ab hw rfl⟩
 .rw[if_neg h]at hw;exact hw.elim
def Jd:c1 X (binaryOp .FloorDiv) (k9 X.K (Den.dT .fdiv)):=by
 intro pins s σ H x y v u Q I aW bB ⟨G,bb,cj,ab,bp,dc,hw⟩;cases bb<;>cases cj<;>first|exact hw.elim|skip
 rename_i i j;rw[Den.Be]at hw
 by_cases h:0<j/\j<1073741824
 .rw[if_pos h]at hw;exact Pm pins s σ H x y v u Q I aW bB ⟨_,_,bp,dc,h,kN ab hw rfl⟩
 .rw[if_neg h]at hw;exact hw.elim
end
end bR
end
section
namespace bR
open PySem PySem.Spec PyProof.Rows bJ
mutual
noncomputable def toPy:D->PyData
 |.cU=>.none
 |.aU b=>.bool b
 |.int i=>.int i
 |.str x=>.str x
 |.tup xs=>.tuple (hc xs)
 |.lst xs=>.list (hc xs)
 |.bT _=>.dict []
 |.bx _=>.dict []
 |.eR _=>.dict []
noncomputable def hc:List D->List PyData
 |[]=>[]
 |d::ds=>toPy d::hc ds
end
mutual
theorem qe:∀a b:D,PyData.eqv (toPy a) (toPy b)=Den.gW a b
 |.cU,b=>by cases b<;>rfl
 |.aU _,b=>by cases b<;>rfl
 |.int _,b=>by cases b<;>rfl
 |.str _,b=>by cases b<;>rfl
 |.tup xs,b=>by
  cases b with
  |tup ys=>exact vY xs ys
  |_=>rfl
 |.lst xs,b=>by
  cases b with
  |lst ys=>exact vY xs ys
  |_=>rfl
 |.bT _,b=>by cases b<;>rfl
 |.bx _,b=>by cases b<;>rfl
 |.eR _,b=>by cases b<;>rfl
theorem vY:∀a b:List D,PyData.eqvAll (hc a) (hc b)=Den.m8 a b
 |[],[]=>rfl
 |[],_::_=>rfl
 |_::_,[]=>rfl
 |x::xs,y::ys=>by simp only[hc,PyData.eqvAll,Den.m8,qe x y,vY xs ys]
end
mutual
theorem pj:∀(n:Nat)(d:D),Den.dw n d=true->(toPy d).canLay0=true/\(toPy d).depth<=n
 |n,.cU,_=>⟨rfl,V6 _⟩
 |n,.aU _,_=>⟨rfl,V6 _⟩
 |n,.int _,_=>⟨rfl,V6 _⟩
 |0,.str x,h=>⟨h,V6 _⟩
 |n+1,.str x,h=>⟨h,V6 _⟩
 |0,.tup _,h=>by cases h
 |n+1,.tup xs,h=>by
  obtain⟨a,b⟩:=yG n xs h;exact⟨a,by show PyData.depthAll (hc xs)+1<=n+1;omega⟩
 |0,.lst _,h=>by cases h
 |n+1,.lst xs,h=>by
  obtain⟨a,b⟩:=yG n xs h;exact⟨a,by show PyData.depthAll (hc xs)+1<=n+1;omega⟩
 |0,.bT _,h=>by cases h
 |n+1,.bT _,h=>by cases h
 |0,.bx _,h=>by cases h
 |n+1,.bx _,h=>by cases h
 |0,.eR _,h=>by cases h
 |n+1,.eR _,h=>by cases h
theorem yG:∀(n:Nat)(ds:List D),ds.all (Den.dw n)=true->PyData.canLayAll0 (hc ds)=true/\PyData.depthAll (hc ds)<=n
 |n,[],_=>⟨rfl,V6 _⟩
 |n,d::ds,h=>by
  simp only[List.all_cons,VX]at h;obtain⟨a,b⟩:=pj n d h.1;obtain⟨lK,hL⟩:=yG n ds h.2;refine⟨by simp only[hc,PyData.canLayAll0,a,lK,Z8],?_⟩
  show max (PyData.depth (toPy d)) (PyData.depthAll (hc ds))<=n;omega
end
def tT{d:D}(h:Den.dw 60 d=true):SeqAt.shaped (toPy d)=true:=by
 obtain⟨a,b⟩:=pj 60 d h;unfold SeqAt.shaped;rw[a,Bool.true_and];exact decide_eq_true (by omega)
section
variable{xp:cq}{X:aS}{ai:List Nat}{pg:Den.dm}{Φ:Den.dy}{pins:List (Addr×Obj)}{σ:bW}{G H:ax}{s:Shared}
mutual
theorem Ep (I:Inv X pins σ H s) (ab:bQ G H):∀(n:Nat){d:D}{v:V}{u:Value},Den.dw n d=true->Rep X.K G d v->RelV v u->∃as,Reads s.heap u (toPy d) as
 |_,.cU,_,_,_,h,r=>by cases h;cases r;exact⟨_,.none⟩
 |_,.aU b,_,_,_,h,r=>by cases h;cases r;exact⟨_,.bool b⟩
 |_,.int i,_,_,_,h,r=>by cases h;obtain⟨t,rfl⟩:=r;exact⟨_,.int i t⟩
 |_,.str x,_,_,_,h,r=>by cases h;obtain⟨t,rfl⟩:=r;exact⟨_,.str x t⟩
 |0,.tup ds,_,_,z,_,_=>by cases z
 |n+1,.tup ds,_,_,z,⟨a,xs,e,h,q⟩,r=>by
  subst e;cases r;obtain⟨its,b4,⟨o,ay,aj,cE,hd⟩,_⟩:=I.tuple (iC ab h);obtain⟨as,bZ⟩:=pb I ab n z q b4;exact⟨as,.tuple ay aj hd (by simpa using bZ)⟩
 |0,.lst ds,_,_,z,_,_=>by cases z
 |n+1,.lst ds,_,_,z,⟨a,xs,e,h,q⟩,r=>by
  subst e;cases r;obtain⟨its,b4,⟨o,cE,ay,aj,_,hd⟩,_⟩:=I.list (lh ab h);obtain⟨as,bZ⟩:=pb I ab n z q b4;exact⟨a::as,.list ay aj hd (by simpa using bZ)⟩
 |0,.bT _,_,_,z,_,_=>by cases z
 |n+1,.bT _,_,_,z,_,_=>by cases z
 |0,.bx _,_,_,z,_,_=>by cases z
 |n+1,.bx _,_,_,z,_,_=>by cases z
 |_,.eR _,_,_,_,h,_=>h.elim
theorem pb (I:Inv X pins σ H s) (ab:bQ G H):∀(n:Nat){ds:List D}{xs:List V}{us:List Value},ds.all (Den.dw n)=true->bG X.K G ds xs->Vals xs us->∃as,ReadsAll s.heap us (hc ds) as
 |_,[],_,_,_,h,r=>by cases h;cases r;exact⟨_,.nil⟩
 |n,d::ds,_,_,z,⟨v,t,e,J,aa⟩,r=>by
  subst e;simp only[List.all_cons,VX]at z;cases r with
  |cons aG a5 =>
   obtain⟨as,bZ⟩:=Ep I ab n z.1 J aG;obtain⟨bs,c7⟩:=pb I ab n z.2 aa a5;exact⟨as++bs,.cons bZ c7⟩
end
def pa(I:Inv X pins σ H s)(ab:bQ G H){d:D}{v:V}{u:Value}(h:View X.K G H d v)(r:RelV v u)(kS:Den.dw 60 d=true):∃as,Reads s.heap u (toPy d) as:=by
 cases d with
 |bT ar=>cases kS
 |bx ar=>cases kS
 |lst ds =>
  obtain⟨a,xs,rfl,h,q⟩:=h;cases r;obtain⟨its,b4,⟨o,n,ay,aj,_,hd⟩,_⟩:=I.list h;obtain⟨as,bZ⟩:=pb I ab 59 kS q b4;exact⟨a::as,.list ay aj hd (by simpa using bZ)⟩
 |_=>exact Ep I ab 60 kS h r
noncomputable def fU(K:W.Frag)(g:D->D->bw Bool):fc:=λx y H Q=>∃G bb cj,bQ G H/\View K G H bb x/\View K G H cj y/\cV (g bb cj) (λb=>Q (.aU b) H) (λ_=>False)
def zc{r:bw Bool}{Q:Bool->Prop}{E:Nat->Prop}:cV (Den.ha r) Q E<->cV r (λb=>Q (!b)) E:=by cases r<;>exact Iff.rfl
def Gq{x y:D}{Q:Bool->Prop}{E:Nat->Prop}(h:cV (Den.gX x y) Q E):Den.dw 60 x=true/\Den.dw 60 y=true/\Q (Den.gW x y):=by
 unfold Den.gX at h;cases q:(Den.dw 60 x&&Den.dw 60 y) with
 |false=>rw[q]at h;exact h.elim
 |true =>
  rw[q]at h;simp only[VX]at q;exact⟨q.1,q.2,h⟩
def HP(bO:X.A.units+64<cLine):c1 X (compareOp .Eq) (fU X.K (Den.dq .eq)):=by
 intro pins s σ H x y v u Q I aW bB ⟨G,bb,cj,ab,bp,dc,hw⟩;rw[Den.Ao]at hw;obtain⟨J,aa,q⟩:=Gq hw;obtain⟨as,bZ⟩:=pa I ab bp aW J;obtain⟨bs,c7⟩:=pa I ab dc bB aa;refine eq_dataH bZ c7 (tT J) (tT aa) bO ?_;rw[qe];exact⟨.aU _,H,I,rfl,q⟩
def HX(bO:X.A.units+64<cLine):c1 X (compareOp .NotEq) (fU X.K (Den.dq .ne)):=by
 intro pins s σ H x y v u Q I aW bB ⟨G,bb,cj,ab,bp,dc,hw⟩;rw[Den.As]at hw;obtain⟨J,aa,q⟩:=Gq (zc.mp hw);obtain⟨as,bZ⟩:=pa I ab bp aW J;obtain⟨bs,c7⟩:=pa I ab dc bB aa;refine ne_dataH bZ c7 (tT J) (tT aa) bO ?_;rw[qe];exact⟨.aU _,H,I,rfl,q⟩
end
end bR
end
section
namespace bR
open PySem PySem.Spec PyProof.Rows bJ
section
variable{xp:cq}{X:aS}{ai:List Nat}{pg:Den.dm}{Φ:Den.dy}{pins:List (Addr×Obj)}{σ:bW}{G H:ax}{s:Shared}
open Classical in
noncomputable def lV (h:Heap) (bb:D) (y:Value):Bool:=decide (∃(d:D)(as:List Addr),Reads h y (toPy d) as/\Den.dw 60 d=true/\Den.gW d bb=true)
open Classical in
theorem AS {h:Heap} {bb d:D} {y:Value} {as:List Addr} (r:Reads h y (toPy d) as) (hd:Den.dw 60 d=true):lV h bb y=Den.gW d bb:=by
 unfold lV;cases q:Den.gW d bb with
 |true=>exact decide_eq_true ⟨d,as,r,hd,q⟩
 |false =>
  refine decide_eq_false ?_;rintro⟨d',U9,bP,fE,dv⟩;have e:=SeqAt.Reads.unique _ _ _ _ _ (pj 60 d hd).1 r bP;rw[<- qe]at q dv;rw[e,dv]at q;cases q
theorem uX{h:Heap}{bb:D}:∀{ds:List D}{us:List Value}{as:List Addr},ReadsAll h us (hc ds) as->ds.all (Den.dw 60)=true->us.any (lV h bb)=ds.any λd=>Den.gW d bb
 |[],_,_,r,_=>by cases r;rfl
 |d::ds,_,_,r,hd=>by
  cases r with
  |cons aG a5 =>
   simp only[List.all_cons,VX]at hd;simp only[List.any_cons,AS aG hd.1,uX a5 hd.2]
theorem vX(bO:X.A.units+64<cLine){bb:D}{v:Value}{bs:List Addr}(aW:Reads s.heap v (toPy bb) bs)(ah:Den.dw 60 bb=true):∀{ds:List D}{us:List Value}{as:List Addr},ReadsAll s.heap us (hc ds) as->ds.all (Den.dw 60)=true->∀y,y∈us->SeqAt.EqAt X.A.in1 s y v (lV s.heap bb y)
 |[],_,_,r,_,y,aC=>by cases r;simp at aC
 |d::ds,_,_,r,hd,y,aC=>by
  cases r with
  |cons aG a5 =>
   simp only[List.all_cons,VX]at hd;rcases V2.mp aC with rfl|aC
   .rw[AS aG hd.1,<- qe];refine SeqAt.eqAt_reads _ _ _ _ _ _ _ _ aG aW (pj 60 _ hd.1).1 (pj 60 _ ah).1 ?_;have J:=(pj 60 _ hd.1).2;show X.A.units+1+_<cLine;have:min (toPy d).depth (toPy bb).depth<=60:=W7 (Nat.min_le_left _ _) J;omega
   .exact vX bO aW ah a5 hd.2 y aC
def Gr{x:D}{ys:List D}{Q:Bool->Prop}{E:Nat->Prop}(h:cV (Den.hZ x ys) Q E):Den.dw 60 x=true/\ys.all (Den.dw 60)=true/\Q (Den.memD x ys):=by
 unfold Den.hZ at h;cases q:(Den.dw 60 x&&ys.all (Den.dw 60)) with
 |false=>rw[q]at h;exact h.elim
 |true =>
  rw[q]at h;simp only[VX]at q;exact⟨q.1,q.2,h⟩
def Cz{ys:List D}{y:V}{u:Value}(I:Inv X pins σ H s)(ab:bQ G H)(h:View X.K G H (.tup ys) y\/View X.K G H (.lst ys) y)(r:RelV y u)(kS:ys.all (Den.dw 60)=true):
  ∃(a:Addr)(its:List Value)(as:List Addr),u=.ref a/\ReadsAll s.heap its (hc ys) as/\(s.heap.IsTuple a its.toArray\/s.heap.IsList a its.toArray):=by
 rcases h with⟨a,xs,rfl,h,q⟩|⟨a,xs,rfl,h,q⟩
 .cases r;obtain⟨its,b4,⟨o,ay,aj,n,hd⟩,_⟩:=I.tuple (iC ab h);obtain⟨as,bZ⟩:=pb I ab 60 kS q b4;exact⟨a,its,as,rfl,bZ,.inl ⟨o,ay,aj,n,hd⟩⟩
 .cases r;obtain⟨its,b4,⟨o,n,ay,aj,_,hd⟩,_⟩:=I.list h;obtain⟨as,bZ⟩:=pb I ab 60 kS q b4;exact⟨a,its,as,rfl,bZ,.inr ⟨o,ay,aj,n,hd⟩⟩
def HS(bO:X.A.units+64<cLine):c1 X (compareOp .In) (fU X.K (Den.dq .mem)):=by
 intro pins s σ H x y v u Q I aW bB ⟨G,bb,cj,ab,bp,dc,hw⟩;have key:∀ys,(View X.K G H (.tup ys) y\/View X.K G H (.lst ys) y)->cV (Den.hZ bb ys) (λb=>Q (.aU b) H) (λ_=>False)->wpAny (model X.prog X.w) X.A (compareOp .In v u) (es X pins σ Q) X.cC s:=by
  intro ys aC hw;obtain⟨J,aa,q⟩:=Gr hw;obtain⟨bs,c7⟩:=pa I ab bp aW J;obtain⟨a,its,as,rfl,bZ,ay⟩:=Cz I ab aC bB aa;have e:its.toArray.any (lV s.heap bb)=Den.memD bb ys:=by rw[List.any_toArray];exact uX bZ aa
  have he:∀z,z∈its.toArray->SeqAt.EqAt X.A.in1 s z v (lV s.heap bb z):=λz hz=>vX bO c7 J bZ aa z (by simpa using hz)
  rcases ay with ay|ay
  .exact SeqAt.in_tupleAt _ ay he (by rw[e];exact⟨.aU _,H,I,rfl,q⟩)
  .exact SeqAt.in_listAt _ ay he (by rw[e];exact⟨.aU _,H,I,rfl,q⟩)
 cases cj with
 |tup ys=>exact key ys (.inl dc) hw
 |lst ys=>exact key ys (.inr dc) hw
 |_=>cases bb<;>exact hw.elim
def HY(bO:X.A.units+64<cLine):c1 X (compareOp .NotIn) (fU X.K (Den.dq .k4)):=by
 intro pins s σ H x y v u Q I aW bB ⟨G,bb,cj,ab,bp,dc,hw⟩;have key:∀ys,(View X.K G H (.tup ys) y\/View X.K G H (.lst ys) y)->cV (Den.ha (Den.hZ bb ys)) (λb=>Q (.aU b) H) (λ_=>False)->wpAny (model X.prog X.w) X.A (compareOp .NotIn v u) (es X pins σ Q) X.cC s:=by
  intro ys aC hw;obtain⟨J,aa,q⟩:=Gr (zc.mp hw);obtain⟨bs,c7⟩:=pa I ab bp aW J;obtain⟨a,its,as,rfl,bZ,ay⟩:=Cz I ab aC bB aa;have e:its.toArray.any (lV s.heap bb)=Den.memD bb ys:=by rw[List.any_toArray];exact uX bZ aa
  have he:∀z,z∈its.toArray->SeqAt.EqAt X.A.in1 s z v (lV s.heap bb z):=λz hz=>vX bO c7 J bZ aa z (by simpa using hz)
  rcases ay with ay|ay
  .exact SeqAt.notIn_tupleAt _ ay he (by rw[e];exact⟨.aU _,H,I,rfl,q⟩)
  .exact SeqAt.notIn_listAt _ ay he (by rw[e];exact⟨.aU _,H,I,rfl,q⟩)
 cases cj with
 |tup ys=>exact key ys (.inl dc) hw
 |lst ys=>exact key ys (.inr dc) hw
 |_=>cases bb<;>exact hw.elim
def Nt{M:Model}{A:Around}{E:Value->Shared->Prop}{s:Shared}{Q:Value->Shared->Prop}{v:Value}{b:Bool}(aT:∀n,v≠.builtin n)(h:Q (.bool (v==.bool b)) s):wpAny M A (compareOp .Is v (.bool b)) Q E s:=by
 cases v with
 |builtin n=>exact absurd rfl (aT n)
 |_=>exact wpAny_pure h
def Nu{M:Model}{A:Around}{E:Value->Shared->Prop}{s:Shared}{Q:Value->Shared->Prop}{v:Value}{b:Bool}(aT:∀n,v≠.builtin n)(h:Q (.bool (!(v==.bool b))) s):wpAny M A (compareOp .IsNot v (.bool b)) Q E s:=by
 cases v with
 |builtin n=>exact absurd rfl (aT n)
 |_=>exact wpAny_pure h
def Eu{x:V}{v:Value}(r:RelV x v):∀n,v≠.builtin n:=by
 intro n e;subst e;cases x<;>first|(cases r;done)|(obtain⟨t,h⟩:=r;cases h)
def CE{K:W.Frag}{bb cj:D}{x y:V}{v u:Value}{Q:Bool->Prop}{E:Nat->Prop}(bp:View K G H bb x)(dc:View K G H cj y)(aW:RelV x v)(bB:RelV y u)(h:cV (Den.oO bb cj) Q E):
  (u=.none/\Q (v==.none))\/∃b,u=.bool b/\Q (v==.bool b):=by
 cases cj with
 |cU =>
  cases dc;cases bB;refine .inl ⟨rfl,?_⟩;cases bb with
  |cU=>cases bp;cases aW;exact h
  |aU _=>cases bp;cases aW;exact h
  |int _=>cases bp;obtain⟨t,rfl⟩:=aW;exact h
  |str _=>cases bp;obtain⟨t,rfl⟩:=aW;exact h
  |tup _=>obtain⟨a,xs,rfl,_⟩:=bp;cases aW;exact h
  |lst _=>obtain⟨a,xs,rfl,_⟩:=bp;cases aW;exact h
  |bT _=>obtain⟨a,rfl,_⟩:=bp;cases aW;exact h
  |bx _=>obtain⟨a,ys,rfl,_⟩:=bp;cases aW;exact h
  |eR _=>exact bp.elim
 |aU b =>
  cases dc;cases bB;refine .inr ⟨b,rfl,?_⟩;cases bb with
  |cU=>cases bp;cases aW;exact h
  |aU a =>
   cases bp;cases aW;have e:(Value.bool a==Value.bool b)=(a==b):=by cases a<;>cases b<;>rfl
   rw[e];exact h
  |int _=>cases bp;obtain⟨t,rfl⟩:=aW;exact h
  |str _=>cases bp;obtain⟨t,rfl⟩:=aW;exact h
  |tup _=>obtain⟨a,xs,rfl,_⟩:=bp;cases aW;exact h
  |lst _=>obtain⟨a,xs,rfl,_⟩:=bp;cases aW;exact h
  |bT _=>obtain⟨a,rfl,_⟩:=bp;cases aW;exact h
  |bx _=>obtain⟨a,ys,rfl,_⟩:=bp;cases aW;exact h
  |eR _=>exact bp.elim
 |_=>cases bb<;>exact h.elim
def HT:c1 X (compareOp .Is) (fU X.K (Den.dq .is)):=by
 intro pins s σ H x y v u Q I aW bB ⟨G,bb,cj,ab,bp,dc,hw⟩;rw[Den.Ap]at hw;rcases CE bp dc aW bB hw with⟨rfl,q⟩|⟨b,rfl,q⟩
 .exact is_none_gen ⟨.aU _,H,I,rfl,q⟩
 .exact Nt (Eu aW) ⟨.aU _,H,I,rfl,q⟩
def HU:c1 X (compareOp .IsNot) (fU X.K (Den.dq .qU)):=by
 intro pins s σ H x y v u Q I aW bB ⟨G,bb,cj,ab,bp,dc,hw⟩;rw[Den.Aq]at hw;rcases CE bp dc aW bB (zc.mp hw) with⟨rfl,q⟩|⟨b,rfl,q⟩
 .exact isnot_none_gen ⟨.aU _,H,I,rfl,q⟩
 .exact Nu (Eu aW) ⟨.aU _,H,I,rfl,q⟩
end
end bR
end
section
namespace bR
open PySem PySem.Spec PyProof.Rows bJ
section
variable{xp:cq}{X:aS}{ai:List Nat}{m:et}{bk cz cI:a6->bw D}{a b c:Expr}{pos:Pos}
def xK{d:D}(h:Den.fp 0 d=true):∃i,d=.int i:=by
 cases d with
 |int i=>exact⟨i,rfl⟩
 |_=>cases h
theorem tj:∀{ds:List D},ds.all (Den.fp 0)=true->∃ns:List Int,ds=ns.map Den.D.int
 |[],_=>⟨[],rfl⟩
 |d::ds,h=>by
  simp only[List.all_cons,VX]at h;obtain⟨i,rfl⟩:=xK h.1;obtain⟨ns,rfl⟩:=tj h.2;exact⟨i::ns,rfl⟩
def Dg{d:D}(h:Den.fp 1 d=true):∃ns:List Int,d=.tup (ns.map Den.D.int):=by
 cases d with
 |tup ds=>obtain⟨ns,rfl⟩:=tj h;exact⟨ns,rfl⟩
 |_=>cases h
theorem jB{K:W.Frag}{G:ax}:∀{ns:List Int}{xs:List V},bG K G (ns.map Den.D.int) xs->xs=ns.map V.int
 |[],_,h=>h
 |n::ns,_,⟨v,r,e,J,aa⟩=>by
  subst e;have J:v=.int n:=J;rw[J,jB aa];rfl
theorem q8:∀a b:List Int,Den.kb (a.map Den.D.int) (b.map Den.D.int)=some (c5.lexLt a b)
 |[],[]=>rfl
 |[],_::_=>rfl
 |_::_,[]=>rfl
 |x::a,y::b=>by
  rw[show Den.kb ((x::a).map Den.D.int) ((y::b).map Den.D.int)=if (x==y)=true then Den.kb (a.map .int) (b.map .int) else some (decide (x<y)) from rfl,q8 a b];simp only[c5.lexLt]
  by_cases h:x=y<;>simp[h]
def HW (bO : X.A.units + 64 < cLine) : c1 X (compareOp .Lt) (fU X.K (Den.dq .lt)) := by
  intro pins s σ H x y v u Q I aW bB ⟨G, bb, cj, ab, bp, dc, hw⟩
  rw [Den.Ar] at hw
  unfold Den.ti at hw
  cases q : ((Den.fp 0 bb && Den.fp 0 cj) || (Den.fp 1 bb && Den.fp 1 cj)) with
  | false => rw [q] at hw; exact hw.elim
  | true =>
    rw [q] at hw
    simp only [WN] at hw
    simp only [XE, VX] at q
    rcases q with ⟨J, aa⟩ | ⟨J, aa⟩
    · obtain ⟨i, rfl⟩ := xK J
      obtain ⟨j, rfl⟩ := xK aa
      exact Pq pins s σ H x y v u Q I aW bB ⟨i, j, bp, dc, hw⟩
    · obtain ⟨ns, rfl⟩ := Dg J
      obtain ⟨ms, rfl⟩ := Dg aa
      obtain ⟨a, xs, ak, a0, aG⟩ := bp
      obtain ⟨b, ys, av, aQ, a5⟩ := dc
      rw [jB aG] at a0
      rw [jB a5] at aQ
      refine Pr (by omega) pins s σ H x y v u Q I aW bB ⟨a, b, ns, ms, ak, av, iC ab a0, iC ab aQ, ?_⟩
      simp only [Den.ka, q8, Den.x5] at hw
      exact hw
def HR:c1 X (compareOp .Gt) (fU X.K (Den.dq .gt)):=by
 intro pins s σ H x y v u Q I aW bB ⟨G,bb,cj,ab,bp,dc,hw⟩;cases bb<;>cases cj<;>first|exact hw.elim|skip
 exact Po pins s σ H x y v u Q I aW bB ⟨_,_,bp,dc,hw⟩
def HV:c1 X (compareOp .LtE) (fU X.K (Den.dq .le)):=by
 intro pins s σ H x y v u Q I aW bB ⟨G,bb,cj,ab,bp,dc,hw⟩;cases bb<;>cases cj<;>first|exact hw.elim|skip
 exact Pp pins s σ H x y v u Q I aW bB ⟨_,_,bp,dc,hw⟩
def HQ:c1 X (compareOp .GtE) (fU X.K (Den.dq .ge)):=by
 intro pins s σ H x y v u Q I aW bB ⟨G,bb,cj,ab,bp,dc,hw⟩;cases bb<;>cases cj<;>first|exact hw.elim|skip
 exact Pn pins s σ H x y v u Q I aW bB ⟨_,_,bp,dc,hw⟩
theorem cx.aU{K:W.Frag}{H aO ao:ax}{b:Bool}:cx K H aO ao m (.aU b) (.aU b):=by cases m<;>rfl
theorem cx.int{K:W.Frag}{H aO ao:ax}{i:Int}:cx K H aO ao m (.int i) (.int i):=by cases m<;>rfl
def cx.tx{K:W.Frag}{H aO ao:ax}{b:Bool}{v:V}(h:cx K H aO ao m (.aU b) v):v=.aU b:=by cases m<;>exact h
def cx.o1{K:W.Frag}{H aO ao:ax}{i:Int}{v:V}(h:cx K H aO ao m (.int i) v):v=.int i:=by cases m<;>exact h
noncomputable def vK(o:Den.gM)(bk cz:a6->bw D):a6->bw D:=λC=>bk C>>=λx=>cz C>>=λy=>Den.dq o x y>>=λk=>.ok (.aU k)
noncomputable def mg{α:Type}:bw α->Bool
 |.exc _=>false
 |_=>true
def DH{α:Type}{r:bw α}(h:mg r=true)(c:Nat):r≠.exc c:=λe=>by rw[e]at h;cases h
def mh{α:Type}{p:Prop}[Decidable p]{a b:bw α}(aA:mg a=true)(ae:mg b=true):mg (if p then a else b)=true:=by by_cases h:p<;>simp[h,aA,ae]
def x1{r:bw Bool}(h:mg r=true):mg (Den.ha r)=true:=by cases r<;>first|rfl|exact h
def O1(o:Option Bool):mg (Den.x5 o)=true:=by cases o<;>rfl
def DI(x y:D):mg (Den.oO x y)=true:=by cases x<;>cases y<;>rfl
def vI(o:Den.gM)(x y:D)(c:Nat):Den.dq o x y≠.exc c:=by
 refine DH ?_ c;cases o with
 |eq=>exact mh rfl rfl
 |ne=>exact x1 (mh rfl rfl)
 |lt=>exact mh (O1 _) rfl
 |is=>exact DI x y
 |qU=>exact x1 (DI x y)
 |mem=>cases y<;>first|rfl|exact mh rfl rfl
 |k4=>cases y<;>first|rfl|exact x1 (mh rfl rfl)
 |le=>cases x<;>cases y<;>rfl
 |gt=>cases x<;>cases y<;>rfl
 |ge=>cases x<;>cases y<;>rfl
def mD{α:Type}{r:bw α}{Q:α->Prop}{E rP:Nat->Prop}(h:cV r Q E)(az:∀c,r≠.exc c):cV r Q rP:=by
 cases r with
 |ok a=>exact h
 |exc c=>exact absurd rfl (az c)
 |bad=>exact h
def FH{o:Den.gM}{σ:bW}{H:ax}{Q:c2}(h:bo xp X ai m (vK o bk cz) σ H Q):rH (fU X.K (Den.dq o)) (bo xp X ai .view bk) (bo xp X ai .view cz) σ H Q:=by
 obtain⟨G,C,ab,hw⟩:=h;refine⟨G,C,ab,bV (bu.mp hw) (λbb k v aI H1 aR aG=>?_) λ_ q=>q⟩
 refine⟨aI,C,ab.ext aR,bV (bu.mp k) (λcj aQ v2 b9 aY bI a5=>?_) λ_ q=>q.mono aR.h⟩
 refine⟨b9,bb,cj,bI.sub,View.ext bI aG,a5,?_⟩;exact bV (mD (bu.mp aQ) (λc=>vI o bb cj c)) (λk q=>q (.aU k) b9 aY (aR.trans bI) cx.aU) λ_ q=>q
def Rw{o:Den.gM}{op:CmpOp}(ay:c1 X (compareOp op) (fU X.K (Den.dq o)))(aA:aP X a (bo xp X ai .view bk))(ae:aP X b (bo xp X ai .view cz))(hm:behindInMarks op b=false):
  aP X (.Compare a [op] [b] pos) (bo xp X ai m (vK o bk cz)):=λpins s σ H Q I h=>PN ay aA ae hm pins s σ H Q I (FH h)
noncomputable def fs(xp:cq)(X:aS)(ai:List Nat)(f:a6->bw D):TT:=λσ H Q =>
 ∃G C,el X.K ai G H C σ/\cV (f C>>=Den.fe) (λb=>∀aO ao,Ext G H aO ao->Q b ao) (λc=>fL xp X c H)
def yY{f:a6->bw D}{σ:bW}{H:ax}{Q:Bool->ax->Prop}(h:fs xp X ai f σ H Q):bo xp X ai .view f σ H (λx ao=>∃k,x=.aU k/\Q k ao):=by
 obtain⟨G,C,ab,hw⟩:=h;refine⟨G,C,ab,bV (bu.mp hw) (λd k v aO ao x r=>?_) λ_ q=>q⟩
 cases d with
 |aU b=>exact⟨b,cx.tx r,k aO ao x⟩
 |_=>exact k.elim
def Rz{o:Den.gM}{op:CmpOp}(ay:c1 X (compareOp op) (fU X.K (Den.dq o)))(aA:aP X a (bo xp X ai .view bk))(ae:aP X b (bo xp X ai .view cz))(hm:behindInMarks op b=false):
  dx X (.Compare a [op] [b] pos) (fs xp X ai (vK o bk cz)):=λpins s σ H Q I h=>QI ay aA ae hm pins s σ H Q I (FH (yY h))
def lb{f:a6->bw D}(h:aP X a (bo xp X ai .view f))(he:∀whole,isTrue a X.env whole=(do let v <- whole;standAt a.pos;holding [v] (truthy v))):dx X a (fs xp X ai f):=λpins s σ H Q I hw=>QK h he pins s σ H Q I (yY hw)
noncomputable def vJ(o bC:Den.gM)(bk cz cI:a6->bw D):a6->bw D:=λC=>bk C>>=λx=>cz C>>=λy=>Den.dq o x y>>=λk=>if k then cI C>>=λz=>Den.dq bC y z>>=λdj=>.ok (.aU dj) else .ok (.aU false)
def FI{o bC:Den.gM}{σ:bW}{H:ax}{Q:c2}(h:bo xp X ai m (vJ o bC bk cz cI) σ H Q):yT (fU X.K (Den.dq o)) (fU X.K (Den.dq bC)) (bo xp X ai .view bk) (bo xp X ai .view cz) (bo xp X ai .view cI) σ H Q:=by
 obtain⟨G,C,ab,hw⟩:=h;refine⟨G,C,ab,bV (bu.mp hw) (λbb k v aI H1 aR aG=>?_) λ_ q=>q⟩
 refine⟨aI,C,ab.ext aR,bV (bu.mp k) (λcj aQ v2 b9 aY bI a5=>?_) λ_ q=>q.mono aR.h⟩
 refine⟨b9,bb,cj,bI.sub,View.ext bI aG,a5,?_⟩;refine bV (mD (bu.mp aQ) (λc=>vI o bb cj c)) (λk q=>?_) λ_ q=>q
 refine⟨k,rfl,?_⟩;cases k with
 |false =>
  simp only[V1,Wm]at q ⊢;exact q (.aU false) b9 aY (aR.trans bI) cx.aU
 |true =>
  simp only[WN]at q ⊢;refine⟨b9,C,(ab.ext aR).ext bI,bV (bu.mp q) (λAL bq ue jM b8 ia dU=>?_) λ_ z=>(z.mono aR.h).mono bI.h⟩
  refine⟨jM,cj,AL,ia.sub,View.ext ia a5,dU,?_⟩;exact bV (mD (bu.mp bq) (λc=>vI bC cj AL c)) (λk q=>q (.aU k) jM b8 ((aR.trans bI).trans ia) cx.aU) λ_ q=>q
def Rx{o bC:Den.gM}{op op':CmpOp}(ay:c1 X (compareOp op) (fU X.K (Den.dq o)))(du:c1 X (compareOp op') (fU X.K (Den.dq bC)))(aA:aP X a (bo xp X ai .view bk))(ae:aP X b (bo xp X ai .view cz))(aj:aP X c (bo xp X ai .view cI))(hm:lastMarks [op,op'] [b,c]=false):
  aP X (.Compare a [op,op'] [b,c] pos) (bo xp X ai m (vJ o bC bk cz cI)):=λpins s σ H Q I h=>PM ay du aA ae aj hm pins s σ H Q I (FI h)
def Ry{o bC:Den.gM}{op op':CmpOp}(ay:c1 X (compareOp op) (fU X.K (Den.dq o)))(du:c1 X (compareOp op') (fU X.K (Den.dq bC)))(aA:aP X a (bo xp X ai .view bk))(ae:aP X b (bo xp X ai .view cz))(aj:aP X c (bo xp X ai .view cI))(hm:lastMarks [op,op'] [b,c]=false):
  dx X (.Compare a [op,op'] [b,c] pos) (fs xp X ai (vJ o bC bk cz cI)):=λpins s σ H Q I h=>QH ay du aA ae aj hm pins s σ H Q I (FI (yY h))
noncomputable def zH(bk cz:a6->bw D):a6->bw D:=λC=>bk C>>=λx=>Den.fe x>>=λk=>if k then cz C else .ok (.aU false)
noncomputable def DR(bk cz:a6->bw D):a6->bw D:=λC=>bk C>>=λx=>Den.fe x>>=λk=>if k then .ok (.aU true) else cz C
noncomputable def DL(bk:a6->bw D):a6->bw D:=λC=>bk C>>=λx=>Den.fe x>>=λk=>.ok (.aU (!k))
def cx.back{K:W.Frag}{H H1 aO ao:ax}(s:bQ H H1){d:D}{v:V}(h:cx K H1 aO ao m d v):cx K H aO ao m d v:=cx.old s h
def EK{rest:List Expr}(aA:aP X a (bo xp X ai .view bk))(ae:aP X (.BoolOp .And (b::rest) pos) (bo xp X ai m cz)):aP X (.BoolOp .And (a::b::rest) pos) (bo xp X ai m (zH bk cz)):=by
 intro pins s σ H Q I ⟨G,C,ab,hw⟩;refine PH aA ae pins s σ H Q I ?_;refine⟨G,C,ab,bV (bu.mp hw) (λbb k v aI H1 aR aG=>?_) λ_ q=>q⟩
 cases bb with
 |aU b =>
  refine⟨b,cx.tx aG,?_⟩;cases b with
  |true =>
   simp only[WN];exact⟨aI,C,ab.ext aR,bV k (λd q v2 b9 aY bI a5=>q v2 b9 aY (aR.trans bI) (cx.back aR.h a5)) λ_ q=>q.mono aR.h⟩
  |false =>
   simp only[V1,Wm];exact k (.aU false) aI H1 aR cx.aU
 |_=>exact k.elim
def EU{rest:List Expr}(aA:aP X a (bo xp X ai .view bk))(ae:aP X (.BoolOp .Or (b::rest) pos) (bo xp X ai m cz)):aP X (.BoolOp .Or (a::b::rest) pos) (bo xp X ai m (DR bk cz)):=by
 intro pins s σ H Q I ⟨G,C,ab,hw⟩;refine P0 aA ae pins s σ H Q I ?_;refine⟨G,C,ab,bV (bu.mp hw) (λbb k v aI H1 aR aG=>?_) λ_ q=>q⟩
 cases bb with
 |aU b =>
  refine⟨b,cx.tx aG,?_⟩;cases b with
  |false =>
   simp only[V1,Wm];exact⟨aI,C,ab.ext aR,bV k (λd q v2 b9 aY bI a5=>q v2 b9 aY (aR.trans bI) (cx.back aR.h a5)) λ_ q=>q.mono aR.h⟩
  |true =>
   simp only[WN];exact k (.aU true) aI H1 aR cx.aU
 |_=>exact k.elim
def RV(aA:aP X a (bo xp X ai .view bk)):aP X (.UnaryOp .Not a pos) (bo xp X ai m (DL bk)):=by
 intro pins s σ H Q I ⟨G,C,ab,hw⟩;refine PY aA pins s σ H Q I ?_;refine⟨G,C,ab,bV (bu.mp hw) (λbb k v aI H1 aR aG=>?_) λ_ q=>q⟩
 cases bb with
 |aU b=>exact⟨b,cx.tx aG,k (.aU (!b)) aI H1 aR cx.aU⟩
 |_=>exact k.elim
def EL{rest:List Expr}(aA:dx X a (fs xp X ai bk))(ae:ie X (.BoolOp .And (b::rest) pos) (fs xp X ai cz)):ie X (.BoolOp .And (a::b::rest) pos) (fs xp X ai (zH bk cz)):=by
 intro lu pins s σ H Q I ⟨G,C,ab,hw⟩;refine QL aA ae lu pins s σ H Q I ?_;refine⟨G,C,ab,?_⟩;refine bu.mpr (bV (bu.mp (bu.mp hw)) (λbb k=>bV (bu.mp k) (λb aQ aI H1 aR=>?_) λ_ q=>q) λ_ q=>q)
 cases b with
 |true =>
  simp only[WN]at aQ ⊢;exact⟨aI,C,ab.ext aR,bV (bu.mpr aQ) (λd q b9 aY bI=>q b9 aY (aR.trans bI)) λ_ q=>q.mono aR.h⟩
 |false =>
  simp only[V1,Wm]at aQ ⊢;exact aQ aI H1 aR
def EV{rest:List Expr}(aA:dx X a (fs xp X ai bk))(ae:ie X (.BoolOp .Or (b::rest) pos) (fs xp X ai cz)):ie X (.BoolOp .Or (a::b::rest) pos) (fs xp X ai (DR bk cz)):=by
 intro lu pins s σ H Q I ⟨G,C,ab,hw⟩;refine QN aA ae lu pins s σ H Q I ?_;refine⟨G,C,ab,?_⟩;refine bu.mpr (bV (bu.mp (bu.mp hw)) (λbb k=>bV (bu.mp k) (λb aQ aI H1 aR=>?_) λ_ q=>q) λ_ q=>q)
 cases b with
 |false =>
  simp only[V1,Wm]at aQ ⊢;exact⟨aI,C,ab.ext aR,bV (bu.mpr aQ) (λd q b9 aY bI=>q b9 aY (aR.trans bI)) λ_ q=>q.mono aR.h⟩
 |true =>
  simp only[WN]at aQ ⊢;exact aQ aI H1 aR
def RW(aA:dx X a (fs xp X ai bk)):dx X (.UnaryOp .Not a pos) (fs xp X ai (DL bk)):=by
 intro pins s σ H Q I ⟨G,C,ab,hw⟩;refine QJ aA pins s σ H Q I ?_;refine⟨G,C,ab,?_⟩;exact bu.mpr (bV (bu.mp (bu.mp hw)) (λbb k=>bV (bu.mp k) (λb aQ aI H1 aR=>aQ aI H1 aR) λ_ q=>q) λ_ q=>q)
end
end bR
end
section
namespace bR
open PySem PySem.Spec PyProof.Rows bJ
section
variable{xp:cq}{X:aS}{ai:List Nat}{m:et}{bk cz cI:a6->bw D}{a b c:Expr}{pos:Pos}{pins:List (Addr×Obj)}{σ:bW}{G H:ax}{s:Shared}
def xY(I:Inv X pins σ H s)(ab:bQ G H){ds:List D}{xs:List V}{its:List Value}{Q:c2}(r:Vals xs its)(q:bG X.K G ds xs)(hz:xs.length<=sizeLine)(k:∀v aO ao,Ext G H aO ao->Rep X.K aO (.tup ds) v->Q v ao):es X pins σ Q (.ref s.heap.objs.size) { s with heap:=s.heap.push { cls:=.type "tuple",data:=.seq its.toArray } }:=by
 refine⟨.ref s.heap.objs.size,_,I.laid (t':=s.toks) (o:=.tup xs) (λb bX q=>VY _ q) (VZ _) ⟨hz,its,r,IsTup.new _ _⟩,rfl,?_⟩
 exact k _ (upd G s.heap.objs.size (.tup xs)) _ (Ext.put ab I.fresh) ⟨_,xs,rfl,dF,q.mono (fV (ab.free I.fresh))⟩
def O0(I:Inv X pins σ H s)(ab:bQ G H){ds:List D}{xs:List V}{its:List Value}{Q:c2}(r:Vals xs its)(q:bG X.K G ds xs)(hz:xs.length<=sizeLine)(k:∀v aO ao,Ext G H aO ao->cx X.K H aO ao .fresh (.lst ds) v->Q v ao):es X pins σ Q (.ref s.heap.objs.size) { s with heap:=s.heap.push { cls:=.type "list",data:=.seq its.toArray } }:=by
 refine⟨.ref s.heap.objs.size,_,I.C8 (t':=s.toks) r hz,rfl,?_⟩;exact k _ G _ (Ext.own ab I.fresh) ⟨_,xs,rfl,dF,I.fresh,ab.free I.fresh,q⟩
def kn{ds:List D}{v:V}(h:View X.K G H (.lst ds) v):∃a xs,v=.ref a/\ew X.K H a xs/\bG X.K G ds xs:=h
def ko(ab:bQ G H){ds:List D}{v:V}(h:View X.K G H (.tup ds) v):∃a xs,v=.ref a/\fu X.K H a xs/\bG X.K G ds xs:=by
 obtain⟨a,xs,e,k,r⟩:=h;exact⟨a,xs,e,iC ab k,r⟩
def kz:Den.SZ=sizeLine:=by rw[sizeLine_eq];rfl
def Jb : c1 X (binaryOp .Add) (k9 X.K (Den.dT .add)) := by
  intro pins s σ H x y v u Q I aW bB ⟨G, bb, cj, ab, bp, dc, hw⟩
  cases bb with
  | int i =>
    cases cj with
    | int j => exact Pk pins s σ H x y v u Q I aW bB ⟨_, _, bp, dc, kN ab hw rfl⟩
    | _ => exact hw.elim
  | str i =>
    cases cj with
    | str j =>
      rw [Den.add_str] at hw
      by_cases h : i.length + j.length <= Den.SZ
      · rw [if_pos h] at hw
        exact Pl pins s σ H x y v u Q I aW bB ⟨_, _, bp, dc, by rw [<- kz]; exact h, kN ab hw rfl⟩
      · rw [if_neg h] at hw; exact hw.elim
    | _ => exact hw.elim
  | tup ds =>
    cases cj with
    | tup ag =>
      rw [Den.rX] at hw
      by_cases h : ds.length + ag.length <= Den.SZ
      · rw [if_pos h] at hw
        obtain ⟨l, xs, rfl, a0, aG⟩ := ko ab bp
        obtain ⟨b, ys, rfl, aQ, a5⟩ := ko ab dc
        cases aW
        cases bB
        obtain ⟨its, jG, bj, _⟩ := I.tuple a0
        obtain ⟨j7, jH, b3, _⟩ := I.tuple aQ
        have hz : xs.length + ys.length <= sizeLine := by rw [<- aG.length, <- a5.length, <- kz]; exact h
        by_cases dE : its = []
        · -- T7 left one is empty
          subst dE
          have : ds = [] := by
            have J := aG.length; have aa := jG.length
            simp at aa; rw [aa] at J; simp at J; exact J
          subst this
          obtain ⟨⟨cls, dD, data, b6⟩, ay, aj, n, hd⟩ := id bj
          obtain ⟨⟨vH, jS, data2, jC⟩, j1, ip, gL, hd2⟩ := id b3
          simp only at aj hd ip hd2
          subst aj hd ip hd2
          refine ZT ⟨_, ay, rfl⟩ ⟨_, j1, rfl⟩ ZI Z7 Yt Yq (Ym _ _)
            (tuple_addW0 l b _ j7.toArray n gL dD jS b6 jC rfl) ⟨ay, j1, ?_⟩
          exact ⟨.ref b, H, I, rfl, hw _ G H (Ext.refl ab) dc⟩
        · refine c5.H0 bj b3 dE (fun z => ?_) (fun z => ?_) (by rw [<- jG.length, <- jH.length]; exact hz)
          · have : ag = [] := by
              have J := a5.length; have aa := jH.length
              rw [z] at aa; simp at aa; rw [aa] at J; simp at J; exact J
            subst this
            rw [W5] at hw
            exact ⟨.ref l, H, I, rfl, hw _ G H (Ext.refl ab) bp⟩
          · exact xY I ab (jG.append jH) (aG.append a5) (by rw [V0]; exact hz) hw
      · rw [if_neg h] at hw; exact hw.elim
    | _ => exact hw.elim
  | lst ds =>
    cases cj with
    | lst ag =>
      rw [Den.mP] at hw
      by_cases h : ds.length + ag.length <= Den.SZ
      · rw [if_pos h] at hw
        obtain ⟨l, xs, rfl, a0, aG⟩ := kn bp
        obtain ⟨b, ys, rfl, aQ, a5⟩ := kn dc
        cases aW
        cases bB
        obtain ⟨its, jG, ⟨mj, n, ak, aj, hU, hd⟩, _⟩ := I.list a0
        obtain ⟨j7, jH, ⟨jz, gL, av, ip, Vn, hd2⟩, _⟩ := I.list aQ
        have hz : xs.length + ys.length <= sizeLine := by rw [<- aG.length, <- a5.length, <- kz]; exact h
        obtain ⟨cls, dD, data, b6⟩ := mj
        obtain ⟨vH, jS, data2, jC⟩ := jz
        simp only at aj hd ip hd2
        subst aj hd ip hd2
        refine ZT ⟨_, ak, rfl⟩ ⟨_, av, rfl⟩ noFill_list_add seq_list_add F.slot_list_add F.entry_list_add (F.args_list_add_2 _ _)
          (list_addW l b its.toArray j7.toArray n gL dD jS b6 jC (by rw [V9, V9, <- jG.length, <- jH.length]; exact hz)) ⟨ak, av, ?_⟩
        have d3 : its.toArray ++ j7.toArray = (its ++ j7).toArray := by simp
        rw [d3]
        exact O0 I ab (jG.append jH) (aG.append a5) (by rw [V0]; exact hz) hw
      · rw [if_neg h] at hw; exact hw.elim
    | _ => exact hw.elim
  | _ => cases cj <;> exact hw.elim
end
end bR
end
section
namespace bR
open PySem PySem.Spec PyProof.Rows bJ PySem.MeetsSeq
def O2:fillsNumberSlot (.type "tuple") "mul"=pure false :=
 PySem.fillsNumberSlot_seq (id:="tuple.__mul__") (r:=some (.builtin "tuple.__rmul__")) ZQ.lookup (by decide +kernel) F.slot_tuple_rmul.lookup (by decide +kernel)
def Q4:seqRepeat? (.type "tuple")=pure (some (.builtin "tuple.__mul__")):=by
 unfold seqRepeat?;rw[PySem.seqSlot_of (T:="tuple") (name:="__mul__") (id:="tuple.__mul__") ZQ.lookup (by decide +kernel),PySem.seqSlot_of (T:="tuple") (name:="__rmul__") (id:="tuple.__rmul__") F.slot_tuple_rmul.lookup (by decide +kernel)]
 rfl
def Nn(a:Int)(t:Tok)(l:Addr)(items:Array Value)(n:Nat)(dD:Option Addr)(b6:Array (Option Value)):
  Meets (Builtin.«int.__rmul__» ⟨[.int a t,.ref l],[]⟩) (λ_ R s=>s.heap.get? l=some { cls:=.type "tuple",dict:=dD,data:=.seq items n,slots:=b6 }/\R (.ok (.ret Value.notImplemented)) s) :=
 .of_wp λprog w A R s h=>by obtain⟨aE,g,d,tk,os⟩:=s;obtain⟨au,h⟩:=h;wp_walk;exact⟨_,rfl,h⟩
def Uc(l:Addr)(items:Array Value)(n:Nat)(dD:Option Addr)(b6:Array (Option Value))(x:Int)(u:Tok)(aa:2<=x)(ah:x<1000)(en:items.isEmpty=false)(hsz:items.size*x.toNat<=sizeLine):
  Meets (Builtin.«tuple.__mul__» ⟨[.ref l,.int x u],[]⟩) (λ_ R s=>s.heap.get? l=some { cls:=.type "tuple",dict:=dD,data:=.seq items n,slots:=b6 } /\
   R (.ok (.ret (Value.ref s.heap.objs.size))) { s with heap:=s.heap.push { cls:=Value.type "tuple",data:=Data.seq ((List.replicate x.toNat items).foldl (·++·) #[]) } }) :=
 .of_wp λprog w A R s h=>by
  obtain⟨aE,g,d,tk,os⟩:=s;obtain⟨au,h⟩:=h;have f1:=AutoSeq1.idx_int;have dp:(decide (x < -2 ^ 63)||decide (x>=2 ^ 63))=false:=by simp;omega
  have bz:(items.isEmpty||x==1)=false:=by rw[en];simp;omega
  have cW:(decide (x<=0)||items.isEmpty)=false:=by rw[en];simp;omega
  have hm:((items.size:Nat):Int)*x=((items.size*x.toNat:Nat):Int):=by
   rw[Int.natCast_mul];congr 1;omega
  have ab:sizeLine=16777216:=sizeLine_eq;have lN:Builtin.Tuple.tupleTooMany (((items.size:Nat):Int)*x)=false:=by unfold Builtin.Tuple.tupleTooMany;rw[hm];exact decide_eq_false (by omega)
  have iN:¬((items.size:Nat):Int)*x>(2 ^ 63-1) / 8:=by rw[hm];omega
  wp_walk using XO au
  rw[if_neg (by rw[dp];exact WA)]
  wp_walk using XO au
  rw[if_neg (by rw[bz];exact WA)]
  dsimp only;rw[if_neg (by rw[cW];exact WA)]
  rw[if_neg iN];rw[if_neg (by rw[lN];exact WA)]
  have hz:sizeOk (.seq (List.foldl (λaR bI=>aR++bI) #[] (List.replicate x.toNat items))):=by
   show(List.foldl (λaR bI=>aR++bI) #[] (List.replicate x.toNat items)).size<=sizeLine
   have f0:=foldl_rep items.toList x.toNat [];rw[List.nil_append]at f0;have e:items.toList.toArray=items:=by simp
   rw[e]at f0;rw[show(#[]:Array Value)=([]:List Value).toArray from rfl,f0,V9,len_rep,Nat.mul_comm];simpa using hsz
  exact VW (m:=Builtin.Tuple.tupleExact _) (Wv (wpAny_pure ⟨_,rfl,h⟩) hz)
section
variable{xp:cq}{X:aS}{ai:List Nat}{m:et}{bk cz cI:a6->bw D}{a b c:Expr}{pos:Pos}{pins:List (Addr×Obj)}{σ:bW}{G H:ax}{s:Shared}
theorem bG.rep{K:W.Frag}{ds:List D}{xs:List V}(h:bG K G ds xs):∀k:Nat,bG K G (List.replicate k ds).flatten (List.replicate k xs).flatten
 |0=>by simp[bG]
 |k+1=>by rw[Xp,Xp,XG,XG];exact h.append (bG.rep h k)
def Jg : c1 X (binaryOp .Mult) (k9 X.K (Den.dT .mul)) := by
  intro pins s σ H x y v u Q I aW bB ⟨G, bb, cj, ab, bp, dc, hw⟩
  cases bb with
  | int i =>
    cases cj with
    | int j =>
      rw [Den.mul_int] at hw
      by_cases h : (-Den.gB < i /\ i < Den.gB) \/ (-Den.gB < j /\ j < Den.gB)
      · rw [if_pos h] at hw
        exact Pu pins s σ H x y v u Q I aW bB ⟨_, _, bp, dc, h, kN ab hw rfl⟩
      · rw [if_neg h] at hw; exact hw.elim
    | _ => exact hw.elim
  | tup ds =>
    cases cj with
    | int j =>
      rw [Den.OV] at hw
      by_cases h : 2 <= j /\ ds ≠ [] /\ ds.length * j.toNat <= Den.SZ /\ j < 1000
      · rw [if_pos h] at hw
        obtain ⟨aa, en, hz, ah⟩ := h
        obtain ⟨l, xs, rfl, a0, aG⟩ := ko ab bp
        cases aW
        have dc : y = .int j := dc
        subst dc
        obtain ⟨t, rfl⟩ := bB
        obtain ⟨its, jG, bj, _⟩ := I.tuple a0
        obtain ⟨⟨cls, dD, data, b6⟩, ay, aj, n, hd⟩ := id bj
        simp only at aj hd
        subst aj hd
        have au : its.length = ds.length := by rw [<- jG.length, <- aG.length]
        have My : its.toArray.isEmpty = false := by
          cases its with
          | nil => cases ds with
            | nil => exact absurd rfl en
            | cons _ _ => simp at au
          | cons _ _ => rfl
        refine wpAny_binaryOp_repeat_ref (T := "tuple") (U := "int") (by decide) ⟨_, ay, rfl⟩ (fun s' => typeIs_int s' j t) O2 F.fills_int_mul F.slot_int_rmul Q4 F.slot_int_index.lookup
          (call_meets F.slot_int_rmul (typeIs_int s j t) F.entry_int_rmul (F.args_int_rmul_2 _ _) (Nn j t l its.toArray n dD b6)
            ⟨ay, rfl, ⟨_, ay, rfl⟩, call_meets ZQ ⟨_, ay, rfl⟩ F.entry_tuple_mul (F.args_tuple_mul_2 _ _) (Uc l its.toArray n dD b6 j t aa ah My (by rw [V9, au, <- kz]; exact hz)) ⟨ay, ?_⟩⟩)
        have f0 := foldl_rep its j.toNat []
        rw [List.nil_append] at f0
        rw [show (#[] : Array Value) = ([] : List Value).toArray from rfl, f0]
        exact xY I ab (jG.rep j.toNat) (aG.rep j.toNat) (by rw [len_rep, Nat.mul_comm, <- aG.length, <- kz]; exact hz) hw
      · rw [if_neg h] at hw; exact hw.elim
    | _ => exact hw.elim
  | _ => cases cj <;> exact hw.elim
end
end bR
end
section
namespace bR
open PySem PySem.Spec PyProof.Rows bJ
section
variable{xp:cq}{X:aS}{ai:List Nat}{m:et}{f bk cz cI:a6->bw D}{bF:a6->bw (List D)}{a b c e:Expr}{ag:List Expr}{pos:Pos}{pins:List (Addr×Obj)}{σ:bW}{G H:ax}{s:Shared}
def ET(aA:aP X a (bo xp X ai .view bk)):aP X (.UnaryOp .USub a pos) (bo xp X ai m λC=>bk C>>=λx=>Den.f3 x>>=λi=>.ok (.int (-i))):=by
 intro pins s σ H Q I ⟨G,C,ab,hw⟩;refine P5 Up aA pins s σ H Q I ?_;refine⟨G,C,ab,bV (bu.mp hw) (λbb k v aI H1 aR aG=>?_) λ_ q=>q⟩
 cases bb with
 |int i=>exact⟨i,cx.o1 aG,k (.int (-i)) aI H1 aR cx.int⟩
 |_=>exact k.elim
noncomputable def mz(xp:cq)(X:aS)(ai:List Nat)(f:a6->bw (List D)):fv:=λσ H Q =>
 ∃G C,el X.K ai G H C σ/\cV (f C) (λds=>∀af aO ao,Ext G H aO ao->bG X.K aO ds af->Q af ao) (λc=>fL xp X c H)
def RT:ft X [] (mz xp X ai λ_=>.ok []):=by
 intro p pins s σ H Q I ⟨G,C,ab,hw⟩;exact yc p pins s σ H Q I (hw [] G H (Ext.refl ab.sub) rfl)
def RA(he:aP X e (bo xp X ai .val f))(a9:ft X ag (mz xp X ai bF))(cN:starEach (e::ag) X.env=(false,eval e X.env)::starEach ag X.env):ft X (e::ag) (mz xp X ai λC=>f C>>=λx=>bF C>>=λxs=>.ok (x::xs)):=by
 intro p pins s σ H Q I ⟨G,C,ab,hw⟩;refine o4 he a9 cN p pins s σ H Q I ?_;refine⟨G,C,ab,bV (bu.mp hw) (λbb k v aI H1 aR aG=>?_) λ_ q=>q⟩
 refine⟨aI,C,ab.ext aR,bV (bu.mp k) (λds aQ af b9 aY bI a5=>?_) λ_ q=>q.mono aR.h⟩
 exact aQ (v::af) b9 aY (aR.trans bI) ⟨v,af,rfl,Rep.mono bI.g aG,a5⟩
def R8{j:Nat}(h:ft X ag (mz xp X ai bF))(au:∀C ds,bF C=.ok ds->ds.length<=sizeLine):aP X (.Tuple ag j pos) (bo xp X ai .val λC=>bF C>>=λds=>.ok (.tup ds)):=by
 intro pins s σ H Q I ⟨G,C,ab,hw⟩;refine P4 h pins s σ H Q I ?_;refine⟨G,C,ab,?_⟩;have hw:=bu.mp hw;cases q:bF C with
 |ok ds =>
  rw[q]at hw;intro af aI H1 aR aG;refine⟨by rw[<- aG.length];exact au C ds q,λp aE=>?_⟩
  exact hw (.ref p) (upd aI p (.tup af)) _ (aR.trans (Ext.put aR.sub aE)) ⟨p,af,rfl,dF,aG.mono (fV (aR.sub.free aE))⟩
 |exc c=>rw[q]at hw;exact hw
 |bad=>rw[q]at hw;exact hw
def RR(h:ft X ag (mz xp X ai bF))(au:∀C ds,bF C=.ok ds->ds.length<=sizeLine):aP X (.List ag pos) (bo xp X ai .fresh λC=>bF C>>=λds=>.ok (.lst ds)):=by
 intro pins s σ H Q I ⟨G,C,ab,hw⟩;refine PW h pins s σ H Q I ?_;refine⟨G,C,ab,?_⟩;have hw:=bu.mp hw;cases q:bF C with
 |ok ds =>
  rw[q]at hw;intro af aI H1 aR aG;refine⟨by rw[<- aG.length];exact au C ds q,λp aE=>?_⟩
  exact hw (.ref p) aI _ (aR.trans (Ext.own aR.sub aE)) ⟨p,af,rfl,dF,aR.h.free aE,aR.sub.free aE,aG⟩
 |exc c=>rw[q]at hw;exact hw
 |bad=>rw[q]at hw;exact hw
def CI(n:Nat)(i:Int):Den.iW n i=bJ.iW n i:=by
 unfold Den.iW bJ.iW
 by_cases h:0<=i
 .rw[if_pos h,if_pos h]
 .rw[if_neg h,if_neg h]
  by_cases q:0<=i+(n:Int)
  .rw[if_pos q,if_pos (by omega)]
  .rw[if_neg q,if_neg (by omega)]
def BD{K:W.Frag}{ds:List D}{xs:List V}{i:Int}{d:D}(r:bG K G ds xs)(h:Den.hQ ds i=some d):∃v,lL xs i=some v/\Rep K G d v:=by
 unfold Den.hQ at h;rw[CI,r.length]at h;unfold lL;cases q:bJ.iW xs.length i with
 |none=>rw[q]at h;cases h
 |some j =>
  rw[q]at h;obtain⟨v,e,z⟩:=r.get (i:=j) h;exact⟨v,e,z⟩
def Lo{xs:List Nat}{i:Int}{c:Nat}(h:Den.hQ xs i=some c):lL xs i=some c:=by
 unfold Den.hQ at h;rw[CI]at h;exact h
def RL (aA : aP X a (bo xp X ai .view bk)) (ae : aP X b (bo xp X ai .view cz)) (aE : uP b) : aP X (.Subscript a b pos) (bo xp X ai .val fun C => bk C >>= fun x => cz C >>= fun y => Den.g7 x y) := by
  intro pins s σ H Q I ⟨G, C, ab, hw⟩
  refine PV NF aA ae aE pins s σ H Q I ?_
  refine ⟨G, C, ab, bV (bu.mp hw) (fun bb k v aI H1 aR aG => ?_) fun _ q => q⟩
  refine ⟨aI, C, ab.ext aR, bV (bu.mp k) (fun cj aQ v2 b9 aY bI a5 => ?_) fun _ q => q.mono aR.h⟩
  have aG := View.ext bI aG
  cases bb with
  | lst ds =>
    cases cj with
    | int i =>
      simp only [Den.Cx] at aQ
      cases q : Den.hQ ds i with
      | none => rw [q] at aQ; exact aQ.elim
      | some d =>
        rw [q] at aQ
        obtain ⟨l, xs, rfl, e, r⟩ := kn aG
        obtain ⟨w, av, iA⟩ := BD r q
        exact .inl ⟨l, xs, i, w, rfl, a5, e, av, aQ w b9 aY (aR.trans bI) iA⟩
    | _ => exact aQ.elim
  | tup ds =>
    cases cj with
    | int i =>
      simp only [Den.Cy] at aQ
      cases q : Den.hQ ds i with
      | none => rw [q] at aQ; exact aQ.elim
      | some d =>
        rw [q] at aQ
        obtain ⟨l, xs, rfl, e, r⟩ := ko bI.sub aG
        obtain ⟨w, av, iA⟩ := BD r q
        exact .inr (.inl ⟨l, xs, i, w, rfl, a5, e, av, aQ w b9 aY (aR.trans bI) iA⟩)
    | _ => exact aQ.elim
  | str z =>
    cases cj with
    | int i =>
      simp only [Den.g7] at aQ
      by_cases hz : z.length <= Den.SZ
      · rw [if_pos hz] at aQ
        cases q : Den.hQ z.cps.toList i with
        | none => rw [q] at aQ; exact aQ.elim
        | some c =>
          rw [q] at aQ
          exact .inr (.inr ⟨z, i, c, aG, a5, by rw [<- kz]; exact hz, Lo q, aQ _ b9 aY (aR.trans bI) rfl⟩)
      · rw [if_neg hz] at aQ; exact aQ.elim
    | _ => exact aQ.elim
  | _ => cases cj <;> exact aQ.elim
noncomputable def mv(K:W.Frag)(m:et)(g:D->bw D):List V->ax->c2->Prop:=λxs H Q=>∃G x d,xs=[x]/\bQ G H/\View K G H d x/\cV (g d) (λd'=>∀v aO ao,Ext G H aO ao->cx K H aO ao m d' v->Q v ao) (λ_=>False)
def mm{er:TE}(he:aP X e er)(cN:starEach [e] X.env=[(false,eval e X.env)]):ft X [e] (t5 er yV):=o4 he yc cN
def tQ{g:D->bw D}{id:String}{x:Str}{p:Pos}(a8:∀d c,g d≠.exc c)(aj:hh X (.builtin id) (mv X.K m g))(ni:eb X x)(hm:X.aF x=none)(aT:bootBuiltins x=some (.builtin id))(aA:aP X e (bo xp X ai .view f))(az:x≠"__name__")(hu:(x==("__debug__":Str))=false)(cN:starEach [e] X.env=[(false,eval e X.env)]):aP X (.Call (.Name x p) [e] [] pos) (bo xp X ai m λC=>f C>>=λd=>g d):=by
 intro pins s σ H Q I ⟨G,C,ab,hw⟩;refine yd aj ni hm aT (mm aA cN) az hu cN rfl pins s σ H Q I ?_;refine⟨G,C,ab,bV (bu.mp hw) (λbb k v aI H1 aR aG=>?_) λ_ q=>q⟩
 refine⟨aI,v,bb,rfl,aR.sub,aG,?_⟩;exact bV (mD k (a8 bb)) (λd q v2 b9 aY bI a5=>q v2 b9 aY (aR.trans bI) (a5.old aR.h)) λ_ q=>q
def EP{g:D->bw D}{T:String}{x:Str}{p:Pos}(a8:∀d c,g d≠.exc c)(aj:hh X (.type T) (mv X.K m g))(ni:eb X x)(hm:X.aF x=none)(aT:bootBuiltins x=some (.type T))(aA:aP X e (bo xp X ai .view f))(az:x≠"__name__")(hu:(x==("__debug__":Str))=false)(cN:starEach [e] X.env=[(false,eval e X.env)]):aP X (.Call (.Name x p) [e] [] pos) (bo xp X ai m λC=>f C>>=λd=>g d):=by
 intro pins s σ H Q I ⟨G,C,ab,hw⟩;refine PL aj ni hm aT (mm aA cN) az hu cN rfl pins s σ H Q I ?_;refine⟨G,C,ab,bV (bu.mp hw) (λbb k v aI H1 aR aG=>?_) λ_ q=>q⟩
 refine⟨aI,v,bb,rfl,aR.sub,aG,?_⟩;exact bV (mD k (a8 bb)) (λd q v2 b9 aY bI a5=>q v2 b9 aY (aR.trans bI) (a5.old aR.h)) λ_ q=>q
def f_len:hh X (.builtin "len") (mv X.K m Den.jv):=by
 intro pins s σ H xs us Q I r ⟨G,x,d,ex,ab,bp,hw⟩;subst ex;cases d with
 |tup ds =>
  obtain⟨a,ys,rfl,k,q⟩:=ko ab bp;refine z8 pins s σ H _ us Q I r ⟨a,ys,rfl,.inr k,?_⟩;rw[<- q.length];exact hw _ G H (Ext.refl ab) cx.int
 |lst ds =>
  obtain⟨a,ys,rfl,k,q⟩:=kn bp;refine z8 pins s σ H _ us Q I r ⟨a,ys,rfl,.inl k,?_⟩;rw[<- q.length];exact hw _ G H (Ext.refl ab) cx.int
 |str z =>
  simp only[Den.jv]at hw
  by_cases hz:z.length<=Den.SZ
  .rw[if_pos hz]at hw;have bp:x=.str z:=bp;subst bp;exact HZ pins s σ H _ us Q I r ⟨z,rfl,by rw[<- kz];exact hz,hw _ G H (Ext.refl ab) cx.int⟩
  .rw[if_neg hz]at hw;exact hw.elim
 |_=>exact hw.elim
def f_list:hh X (.type "list") (mv X.K .fresh λd=>Den.fj d>>=λds=>.ok (.lst ds)):=by
 intro pins s σ H xs us Q I r ⟨G,x,d,ex,ab,bp,hw⟩;subst ex;cases d with
 |tup ds =>
  obtain⟨a,ys,rfl,k,q⟩:=ko ab bp;exact z9 pins s σ H _ us Q I r ⟨a,ys,rfl,.inr k,λl au=>hw _ G _ (Ext.own ab au) ⟨l,ys,rfl,dF,au,ab.free au,q⟩⟩
 |lst ds =>
  obtain⟨a,ys,rfl,k,q⟩:=kn bp;exact z9 pins s σ H _ us Q I r ⟨a,ys,rfl,.inl k,λl au=>hw _ G _ (Ext.own ab au) ⟨l,ys,rfl,dF,au,ab.free au,q⟩⟩
 |_=>exact hw.elim
def KY:hh X (.type "tuple") (mv X.K .val λd=>Den.fj d>>=λds=>.ok (.tup ds)):=by
 intro pins s σ H xs us Q I r ⟨G,x,d,ex,ab,bp,hw⟩;subst ex;cases d with
 |tup ds =>
  obtain⟨a,ys,rfl,k,q⟩:=ko ab bp;exact Ab pins s σ H _ us Q I r ⟨a,ys,rfl,.inr ⟨k,hw _ G H (Ext.refl ab) bp⟩⟩
 |lst ds =>
  obtain⟨a,ys,rfl,k,q⟩:=kn bp;exact Ab pins s σ H _ us Q I r ⟨a,ys,rfl,.inl ⟨k,λl au=>hw _ (upd G l (.tup ys)) _ (Ext.put ab au) ⟨l,ys,rfl,dF,q.mono (fV (ab.free au))⟩⟩⟩
 |_=>exact hw.elim
end
end bR
end
section
namespace bR
open PySem PySem.Spec PyProof.Rows bJ
def yp{X:aS}{pins:List (Addr×Obj)}{σ:bW}{H:ax}{s:Shared}{a:Addr}(I:Inv X pins σ H s)(h:(∃ys,hk H a (.dI ys))\/∃ys,hk H a (.d8 ys)):∃o,s.heap.get? a=some o/\o.cls=.type "dict":=by
 rcases h with⟨ys,h|⟨bh,h⟩⟩|⟨ys,h|⟨bh,h⟩⟩
 .obtain⟨_,_,_,_,o,_,_,e,x,_⟩:=(show dA X.prog X.w H s.heap a (.dI ys) from I.bM a _ h);exact⟨o,e,x.1⟩
 .obtain⟨_,_,_,_,_,o,_,_,e,x,_⟩:=(show dA X.prog X.w H s.heap a (.dW bh (.dI ys)) from I.bM a _ h);exact⟨o,e,x.1⟩
 .obtain⟨_,_,_,_,o,_,_,e,x,_⟩:=(show dA X.prog X.w H s.heap a (.d8 ys) from I.bM a _ h);exact⟨o,e,x.1⟩
 .obtain⟨_,_,_,_,_,o,_,_,e,x,_⟩:=(show dA X.prog X.w H s.heap a (.dW bh (.d8 ys)) from I.bM a _ h);exact⟨o,e,x.1⟩
section
variable{xp:cq}{X:aS}{ai:List Nat}{m:et}{f bk cz cI:a6->bw D}{bF:a6->bw (List D)}{a b c e:Expr}{ag:List Expr}{pos:Pos}{pins:List (Addr×Obj)}{σ:bW}{G H:ax}{s:Shared}
noncomputable def Uk:D->String
 |.cU=>"NoneType"
 |.aU _=>"bool"
 |.int _=>"int"
 |.str _=>"str"
 |.tup _=>"tuple"
 |.lst _=>"list"
 |.bT _=>"dict"
 |.bx _=>"dict"
 |.eR _=>""
noncomputable def pw:Den.Ty->String
 |.int=>"int"|.bool=>"bool"|.str=>"str"|.tuple=>"tuple"|.cls _=>""
def NY(K:W.Frag)(up:Den.gE)(d:D)(t:Den.Ty)(aV:∀c,t≠.cls c)(hd:∀c,d≠.eR c):∃b,Den.j6 up d t=.ok b/\PySem.W.kitOne K (.type (Uk d)) (.type (pw t))=some b:=by
 cases t with
 |cls c=>exact absurd rfl (aV c)
 |int=>cases d<;>first|exact absurd rfl (hd _)|exact⟨_,rfl,by kernel_rfl⟩
 |bool=>cases d<;>first|exact absurd rfl (hd _)|exact⟨_,rfl,by kernel_rfl⟩
 |str=>cases d<;>first|exact absurd rfl (hd _)|exact⟨_,rfl,by kernel_rfl⟩
 |tuple=>cases d<;>first|exact absurd rfl (hd _)|exact⟨_,rfl,by kernel_rfl⟩
def UQ(I:Inv X pins σ H s)(ab:bQ G H){d:D}{x:V}{u:Value}{up:Den.gE}{t:Den.Ty}(aV:∀c,t≠.cls c)(bp:View X.K G H d x)(aW:RelV x u){Q:c2}(hw:cV (Den.j6 up d t) (λb=>Q (.aU b) H) (λ_=>False)):
  wpAny (model X.prog X.w) X.A (call (.builtin "isinstance") [u,.type (pw t)]) (es X pins σ Q) X.cC s:=by
 have hd:∀c,d≠.eR c:=λc e=>by subst e;exact bp.elim
 obtain⟨b,ak,av⟩:=NY X.K up d t aV hd;rw[ak]at hw;have fin:∀tk,es X pins σ Q (.bool b) { s with toks:=tk }:=λtk=>⟨.aU b,H,I.tok tk,rfl,hw⟩
 cases d with
 |cU=>cases bp;exact ta I aW .cU av fin
 |aU y=>cases bp;exact ta I aW (.aU y) av fin
 |int i=>cases bp;exact ta I aW (.int i) av fin
 |str y=>cases bp;exact ta I aW (.str y) av fin
 |tup ds =>
  obtain⟨a,ys,rfl,k,q⟩:=ko ab bp;cases aW;obtain⟨its,bP,⟨o,J,aa,_⟩,hz⟩:=I.tuple k;exact WG PySem.W.kitx_tuple I.fG ⟨o,J,aa⟩ av (λz=>nomatch z) fin
 |lst ds =>
  obtain⟨a,ys,rfl,k,q⟩:=kn bp;cases aW;obtain⟨its,bP,⟨o,n,J,aa,_⟩,z⟩:=I.list k;exact WG Zv I.fG ⟨o,J,aa⟩ av (λz=>nomatch z) fin
 |bT ar =>
  obtain⟨a,rfl,h⟩:=bp;cases aW;obtain⟨o,J,aa⟩:=yp I (.inr ⟨_,h⟩);exact WG Yr I.fG ⟨o,J,aa⟩ av (λz=>nomatch z) fin
 |bx ar =>
  obtain⟨a,ys,rfl,h,_⟩:=bp;cases aW;obtain⟨o,J,aa⟩:=yp I (.inl ⟨_,h⟩);exact WG Yr I.fG ⟨o,J,aa⟩ av (λz=>nomatch z) fin
 |eR c=>exact absurd rfl (hd c)
def Nl{up:Den.gE}{d:D}{t:Den.Ty}{c:Nat}:Den.j6 up d t≠.exc c:=by
 intro h;cases t<;>first|(cases h;done)|skip
 cases d<;>cases h
def RN{up:Den.gE}{t:Den.Ty}{x y:Str}{p fz:Pos}(aV:∀c,t≠.cls c)(ni:eb X x)(hm:X.aF x=none)(aT:bootBuiltins x=some (.builtin "isinstance"))(L6:eb X y)(sR:X.aF y=none)(nx:bootBuiltins y=some (.type (pw t)))(aA:aP X e (bo xp X ai .view f))(az:x≠"__name__")(hu:(x==("__debug__":Str))=false)(hW:y≠"__name__")(LY:(y==("__debug__":Str))=false)(cN:starEach [e,.Name y fz] X.env=(false,eval e X.env)::starEach [.Name y fz] X.env):
  aP X (.Call (.Name x p) [e,.Name y fz] [] pos) (bo xp X ai m λC=>f C>>=λd=>Den.j6 up d t>>=λb=>.ok (.aU b)):=by
 intro pins s σ H Q I ⟨G,C,ab,hw⟩;have aj:hh X (.builtin "isinstance") (λxs H Q=>∃G x d,xs=[x,.ty (pw t)]/\bQ G H/\View X.K G H d x/\cV (Den.j6 up d t) (λb=>Q (.aU b) H) (λ_=>False)):=by
  intro pins s σ H xs us Q I r ⟨G,x,d,ex,ab,bp,hw⟩;subst ex;obtain⟨u,uc,rfl,dt,Rg⟩:=vals2 r;cases Rg;exact UQ I ab aV bp dt hw
 have qG:ft X [e,.Name y fz] (t5 (bo xp X ai .view f) (t5 (nV (.ty (pw t))) yV)):=o4 aA (o4 (PJ L6 sR nx rfl hW LY) yc rfl) cN;refine yd aj ni hm aT qG az hu cN rfl pins s σ H Q I ?_;refine⟨G,C,ab,bV (bu.mp hw) (λbb k v aI H1 aR aG=>?_) λ_ q=>q⟩
 refine⟨aI,v,bb,rfl,aR.sub,aG,?_⟩;exact bV (mD (bu.mp k) (λc=>Nl)) (λb q=>q (.aU b) aI H1 aR cx.aU) λ_ q=>q
end
end bR
end
section
namespace bR
open PySem PySem.Spec PyProof.Rows bJ
noncomputable def jJ(P:Program)(w:World)(xp:cq):i6:=λouter H s E e s' =>
 ∃(c:Nat)(ao:ax)(l:List Addr),s'.os=s.os/\AllBare s'.gens/\e0 (hO outer) [] H ao s.heap s'.heap/\d7 P w ao s'.heap/\bQ H ao/\(∀a∈l,s.heap.get? a=none/\ao a=none)/\xp c e l s'.heap/\E (.int c 0) none ao
noncomputable def nS(K:W.Frag)(hg:List D->bw D)(n:Nat):lG:=λaf H Q E =>
 af.length=n/\∃G ds,bQ G H/\(∀b xs,H b=some (.tup xs)->G b=some (.tup xs))/\bG K G ds af/\cV (hg ds) (λd=>∀v aO ao,Ext G H aO ao->Rep K aO d v->Q v ao) (λc=>∀ao,bQ H ao->E (.int c 0) none ao)
section
variable{xp:cq}{X:aS}{ai:List Nat}{m:et}{f bk cz cI:a6->bw D}{bF:a6->bw (List D)}{a b c e:Expr}{ag:List Expr}{pos:Pos}{pins:List (Addr×Obj)}{σ:bW}{G H:ax}{s:Shared}
noncomputable def AN(xp:cq)(X:aS):iL:=λu _ ao=>∀c:Nat,u=.int c 0->fL xp X c ao
def PG:Passes (jJ X.prog X.w xp) X (AN xp X):=by
 intro pins σ H s e s' I ⟨c,ao,l,os,bare,un,bM,df,az,ah,qp⟩;have iH:Inv X pins σ ao s':=I.z7 os un bM bare (λb z=>absurd z (by simp))
 exact qp c rfl pins σ ao s' e l iH (bQ.refl _) (λa aA=>.of I (az a aA).1 (az a aA).2) ah
end
end bR
end
section
namespace bR
open PySem PySem.Spec PyProof.Rows bJ
section
variable{prog:Program}{w:World}{A:Around}{R:Result->Shared->Prop}{s:Shared}
def It {elt target iter : Expr} {ifs : List Expr} {scope : Scope} {pos : Pos} {it acc : Value} {env : Env} (I : Nat -> Shared -> Prop)
    (turn : ∀ n s, I n s -> wpAny (model prog w) A (pyNext it) (fun r cG => match r with
      | none => R (.ok .next) cG
      | some v => wpAny (model prog w) A (letOwnedTupleGo target it v) (fun _ Fz => wpAny (model prog w) A (assign target env v) (fun _ hb =>
          wpAny (model prog w) A (forIn ifs true fun c r => if r = true then do let ok <- isTrue c env (eval c env); pure (ForInStep.yield ok) else pure (ForInStep.yield r)) (fun ok pl =>
            if ok = true then wpAny (model prog w) A (eval elt env) (fun x FA =>
              wpAny (model prog w) A (call (.builtin "list.append") [acc, x]) (fun _ FC => ∃ m, m < n /\ I m FC) (fun _ _ => False) FA) (fun _ _ => False) pl
            else ∃ m, m < n /\ I m pl) (fun _ _ => False) hb) (fun _ _ => False) Fz) (fun _ _ => False) cG) (fun _ _ => False) s)
    (n : Nat) (h : I n s) :
    codeAny (model prog w) A (.compLoop (.ListComp elt [⟨target, iter, ifs, 0⟩] scope pos) 0 it acc env) R s := by
  have up : ∀ {α : Type} {t : Sem α} {Q : α -> Shared -> Prop} {E : Value -> Shared -> Prop} {s : Shared}, wpAny (model prog w) A t Q (fun _ _ => False) s -> wpAny (model prog w) A t Q E s := fun h => WY h (fun _ _ q => q) fun _ _ z => z.elim
  refine codeAny_loop rfl I (fun n s ck => ?_) n h
  show wpAny _ A ((compTurn (.ListComp elt [⟨target, iter, ifs, 0⟩] scope pos) 0 it acc env).onRaise (fun x => do noteFrame x env; theTreesLotGoes x)) _ _ s
  refine wpAny_noted ?_
  rw [compTurn_list]
  refine VW (wpAny_standAt (VW (WY (turn n s ck) (fun r cG g6 => ?_) fun _ _ z => z.elim)))
  cases r with
  | none => exact wpAny_pure g6
  | some v =>
    refine VW (WY g6 (fun _ Fz M8 => ?_) fun _ _ z => z.elim)
    refine VW (WY M8 (fun _ hb qO => VW (WY qO (fun ok pl sZ => ?_) fun _ _ z => z.elim)) fun _ _ z => z.elim)
    cases ok with
    | false => exact wpAny_pure ⟨rfl, sZ⟩
    | true =>
      refine VW (VW (WY sZ (fun x FA M9 => VW (WY M9 (fun _ FC Na => ?_) fun _ _ z => z.elim)) fun _ _ z => z.elim))
      exact wpAny_pure (wpAny_pure ⟨rfl, Na⟩)
end
noncomputable def f7(env:Env):List (Str×NameKind)->List (Str×Addr)->List (Str×Addr)
 |[],cs=>cs
 |(n,k)::r,cs=>if k==.free then f7 env r ((n,(env.cells.lookup n).getD 0)::cs) else f7 env r cs
def Ic{scope:Scope}{env:Env}(h:∀x∈scope.names,x.2=.free->∃c,env.cells.lookup x.1=some c):closureFor scope env=pure (f7 env scope.names []):=by
 have key:∀(l:List (Str×NameKind))(cs:List (Str×Addr)),(∀x∈l,x.2=.free->∃c,env.cells.lookup x.1=some c) ->
   (forIn l cs λ(x:Str×NameKind)(r:List (Str×Addr))=>(match x with
    |(name,kind)=>if (kind==NameKind.free)=true then do let a <- cellOf env name;pure (ForInStep.yield ((name,a)::r)) else pure (ForInStep.yield r):Sem (ForInStep (List (Str×Addr)))))=(pure (f7 env l cs):Sem _):=by
  intro l
  induction l with
  |nil=>intro cs _;rfl
  |cons x l aD =>
   intro cs ah;obtain⟨n,k⟩:=x;simp only[List.forIn_cons,f7];cases q:(k==NameKind.free) with
   |false =>
    simp only[V1,Wm,pure_bind];exact aD cs λy aC=>ah y (List.mem_cons_of_mem _ aC)
   |true =>
    have aw:k=.free:=by simpa using q
    obtain⟨c,e⟩:=ah (n,k) List.mem_cons_self aw;simp only at e;simp only[WN,cellOf,e,pure_bind,Option.getD_some];exact aD _ λy aC=>ah y (List.mem_cons_of_mem _ aC)
 unfold closureFor;have:=key scope.names [] h;simp only[bind_pure];exact this
theorem vG {env : Env} {x : Str} {c : Addr} : ∀ (l : List (Str × NameKind)) (cs : List (Str × Addr)), (f7 env l cs).lookup x = some c -> cs.lookup x = some c \/ (∃ y ∈ l, y.1 = x /\ y.2 = .free /\ c = (env.cells.lookup x).getD 0)
  | [], cs, h => .inl h
  | (n, k) :: r, cs, h => by
    unfold f7 at h
    cases q : (k == NameKind.free) with
    | false =>
      rw [q] at h
      rcases vG r cs h with J | ⟨y, aC, J⟩
      · exact .inl J
      · exact .inr ⟨y, List.mem_cons_of_mem _ aC, J⟩
    | true =>
      rw [q] at h
      have aw : k = .free := by simpa using q
      rcases vG r _ h with J | ⟨y, aC, J⟩
      · rw [Ww] at J
        cases z : (x == n) with
        | false => rw [z] at J; exact .inl J
        | true =>
          rw [z] at J
          have e : x = n := by simpa using z
          subst e
          exact .inr ⟨(x, k), List.mem_cons_self, rfl, aw, (WE J).symm⟩
      · exact .inr ⟨y, List.mem_cons_of_mem _ aC, J⟩
theorem vF{env:Env}{x:Str}:∀(l:List (Str×NameKind))(cs:List (Str×Addr)),((∃y∈l,y.1=x/\y.2=.free)\/(cs.lookup x).isSome=true)->((f7 env l cs).lookup x).isSome=true
 |[],cs,h=>by
  rcases h with⟨y,aC,_⟩|h
  .simp at aC
  .exact h
 |(n,k)::r,cs,h=>by
  unfold f7;cases q:(k==NameKind.free) with
  |false =>
   refine vF r cs ?_;rcases h with⟨y,aC,J,aa⟩|h
   .rcases V2.mp aC with e|aC
    .subst e;simp only at aa;rw[aa]at q;cases q
    .exact .inl ⟨y,aC,J,aa⟩
   .exact .inr h
  |true =>
   refine vF r _ ?_;rcases h with⟨y,aC,J,aa⟩|h
   .rcases V2.mp aC with e|aC
    .subst e;simp only at J;subst J;exact .inr (by simp)
    .exact .inl ⟨y,aC,J,aa⟩
   .refine .inr ?_;rw[Ww];cases z:(x==n)
    .exact h
    .rfl
end bR
end
section
namespace bR
open PySem PySem.Spec PyProof.Rows bJ
theorem mb {env : Env} {x : Str} : ∀ {names : List (Str × NameKind)} {k : NameKind}, (names.map fun (n, k) => if (k == NameKind.free && env.scope.kind == .function && env.kindOf n == some .cell) then (n, NameKind.cell) else (n, k)).lookup x = some k ->
    names.lookup x = some k \/ (names.lookup x = some .free /\ k = .cell)
  | [], _, h => by simp at h
  | (n, j) :: r, k, h => by
    have h : List.lookup x ((if (j == NameKind.free && env.scope.kind == .function && env.kindOf n == some .cell) = true then (n, NameKind.cell) else (n, j)) :: (r.map fun (n, k) => if (k == NameKind.free && env.scope.kind == .function && env.kindOf n == some .cell) then (n, NameKind.cell) else (n, k))) = some k := h
    rw [Ww]
    cases ah : x == n with
    | true =>
      by_cases aj : (j == NameKind.free && env.scope.kind == .function && env.kindOf n == some .cell) = true
      · rw [if_pos aj, Ww] at h
        simp only [ah] at h
        have aB : j = .free := by simp only [VX, WQ] at aj; exact aj.1.1
        exact .inr ⟨by rw [aB], (WE h).symm⟩
      · rw [if_neg aj, Ww] at h
        simp only [ah] at h
        exact .inl h
    | false =>
      by_cases aj : (j == NameKind.free && env.scope.kind == .function && env.kindOf n == some .cell) = true
      · rw [if_pos aj, Ww] at h
        simp only [ah] at h
        exact mb h
      · rw [if_neg aj, Ww] at h
        simp only [ah] at h
        exact mb h
theorem tL {env : Env} {x : Str} {k : NameKind} : ∀ {names : List (Str × NameKind)}, names.lookup x = some k -> k ≠ .free -> (names.map fun (n, k) => if (k == NameKind.free && env.scope.kind == .function && env.kindOf n == some .cell) then (n, NameKind.cell) else (n, k)).lookup x = some k
  | [], h, _ => by simp at h
  | (n, j) :: r, h, aw => by
    show List.lookup x ((if (j == NameKind.free && env.scope.kind == .function && env.kindOf n == some .cell) = true then (n, NameKind.cell) else (n, j)) :: _) = _
    rw [Ww] at h
    cases ah : x == n with
    | true =>
      simp only [ah] at h
      have aB : j = k := WE h
      subst aB
      have aj : ¬ (j == NameKind.free && env.scope.kind == .function && env.kindOf n == some .cell) = true := by
        intro z; simp only [VX, WQ] at z; exact aw z.1.1
      rw [if_neg aj, Ww]; simp only [ah]
    | false =>
      simp only [ah] at h
      have aD := tL (env := env) h aw
      by_cases aj : (j == NameKind.free && env.scope.kind == .function && env.kindOf n == some .cell) = true
      · rw [if_pos aj, Ww]; simp only [ah]; exact aD
      · rw [if_neg aj, Ww]; simp only [ah]; exact aD
theorem yv{env:Env}{x:Str}:∀{names:List (Str×NameKind)},names.lookup x=some .free->(names.map λ(n,k)=>if (k==NameKind.free&&env.scope.kind==.function&&env.kindOf n==some .cell) then(n,NameKind.cell) else(n,k)).lookup x=some .cell\/(names.map λ(n,k)=>if (k==NameKind.free&&env.scope.kind==.function&&env.kindOf n==some .cell) then(n,NameKind.cell) else(n,k)).lookup x=some .free
 |[],h=>by simp at h
 |(n,j)::r,h=>by
  show List.lookup x ((if (j==NameKind.free&&env.scope.kind==.function&&env.kindOf n==some .cell)=true then(n,NameKind.cell) else(n,j))::_)=_\/List.lookup x ((if (j==NameKind.free&&env.scope.kind==.function&&env.kindOf n==some .cell)=true then(n,NameKind.cell) else(n,j))::_)=_;rw[Ww]at h;cases ah:x==n with
  |true =>
   simp only[ah]at h
   by_cases aj:(j==NameKind.free&&env.scope.kind==.function&&env.kindOf n==some .cell)=true
   .rw[if_pos aj,Ww];simp[ah]
   .rw[if_neg aj,Ww];simp only[ah];exact .inr h
  |false =>
   simp only[ah]at h;have aD:=yv (env:=env) h
   by_cases aj:(j==NameKind.free&&env.scope.kind==.function&&env.kindOf n==some .cell)=true
   .rw[if_pos aj,Ww];simp only[ah];exact aD
   .rw[if_neg aj,Ww];simp only[ah];exact aD
noncomputable def mV(X:aS)(H4:Env)(cL:List Str)(s3:Shared)(b8:ax)(bE:List Addr)(pins:List (Addr×Obj)):aS :=
 { X with N:=cL,e8:=s3,pL:=b8,env:=H4,outer:=X.stack,ex:=bE,fn:=λ_=>false,fA:=X.fA++pins,cC:=λ_ _=>False }
structure n3(X:aS)(scope:Scope)(xs:List Str)(cL:List Str):Prop where
 kind:scope.kind=.function
 mi:∀y∈scope.names,y.2≠.cell
 names:∀y∈scope.names,y.2=.local->scope.names.lookup y.1=some .local
 loc:∀y,scope.names.lookup y=some .local->y∈xs\/y=(".0":Str)
 fa:∀y∈xs,scope.names.lookup y=some .local
 fr:∀y∈scope.names,y.2=.free->X.env.scope.names.lookup y.1=some .cell\/X.env.scope.names.lookup y.1=some .free
 len:cL.length=X.N.length+xs.length
 old:∀(i:Nat) y,i<X.N.length->cL[i]?=some y->(scope.names.lookup y).isSome=true->X.N[i]?=some y/\y∉xs/\y≠(".0":Str)
 new:∀(j:Nat),cL[X.N.length+j]?=xs[j]?
 ep:cL.Nodup
section
variable{X:aS}{pins:List (Addr×Obj)}{σ:bW}{H:ax}{s:Shared}{bE:List Addr}{scope:Scope}{xs cL:List Str}{g6:Heap}{tk:Nat}
def HI (I : Inv X pins σ H s) (hf : ∀ b ∈ bE, jL X pins H b) (ay : ∀ b ∈ bE, ∃ o, s.heap.get? b = some o) (B : n3 X scope xs cL)
    (oG : g6.Ns s.heap.objs.size (fun _ => none)) (aw : ∀ b o, s.heap.get? b = some o -> g6.get? b = some o) :
    Inv (mV X (compEnvC scope (f7 X.env scope.names []) s.heap.objs.size X.env) cL s H bE pins) [] (σ ++ List.replicate xs.length none) H { s with heap := g6, toks := tk } := by
  have look : ∀ y c, (f7 X.env scope.names []).lookup y = some c -> X.env.cells.lookup y = some c := fun y c e => by
    rcases vG _ _ e with h | ⟨z, hz, ak, av, bL⟩
    · simp at h
    · have := B.fr z hz av
      rw [ak] at this
      obtain ⟨cy, c6⟩ := I.ok.has y (by rcases this with q | q; exact .inl q; exact .inr q)
      rw [c6] at bL
      simp at bL
      rw [c6, bL]
  have has : ∀ y, scope.names.lookup y = some .free -> ∃ c, (f7 X.env scope.names []).lookup y = some c := fun y e =>
    Option.isSome_iff_exists.mp (vF _ _ (.inl ⟨(y, .free), WI e, rfl, rfl⟩))
  have Vb : ∀ y c, X.env.cells.lookup y = some c -> c < s.heap.objs.size := fun y c e => by
    obtain ⟨v, q⟩ := I.cell y c e; exact q.lt
  have DK : ∀ b, b < s.heap.objs.size -> b ≠ s.heap.objs.size := fun b ae => Wn ae
  refine ⟨⟨I.ok.mod, B.kind, I.ok.glob, I.ok.blt, VZ _, fun y z c ak av => I.ok.inj y z c (look y c ak) (look z c av), fun y aC => ?_, fun y c q _ => Bool.noConfusion q, I.ok.hd, I.ok.frames, .inl rfl, fun b ae => ?_, I.bs, W7 I.ok.pZ I.eh, fun b o e ae => ?_, fun b ae jn => ?_, I.stack, I.Fv⟩,
    rfl, I.bare, e0.kept aw, ⟨_, oG, fun i y v ak av bL => ?_⟩, fun y c e => ?_, I.fresh, fun y c e => I.jT y c (look y c e), fun p aE => ?_, I.bM.kept aw, ?_⟩
  · -- has
    have aC : (relabel scope X.env).names.lookup y = some .cell \/ (relabel scope X.env).names.lookup y = some .free := aC
    have : scope.names.lookup y = some .free := by
      rcases aC with q | q
      · rcases mb q with z | z
        · exact absurd rfl (B.mi _ (WI z))
        · exact z.1
      · rcases mb q with z | z
        · exact z
        · exact z.1
    exact has y this
  · -- A9
    obtain ⟨f0, f1, f2, e1, f4, e2⟩ := hf b ae
    obtain ⟨o, ay⟩ := ay b ae
    exact ⟨DK b (Wb ay), fun y c e => f4 y c (look y c e)⟩
  · -- tr
    obtain ⟨f0, f1, f2, e1, f4, e2⟩ := hf b ae
    rcases e1 with q | q
    · exact I.ok.tr b o e q
    · have := Wb (I.ok.bs b o e).1
      exact absurd (Wk this q) (Xz _)
  · -- si
    obtain ⟨f0, f1, f2, e1, f4, e2⟩ := hf b ae
    rcases V2.mp (I.tZ b jn) with q | q
    · exact f1 q
    · exact f2 q
  · -- T7 names
    have hi : i < σ.length := by
      by_cases hi : i < σ.length
      · exact hi
      · rw [Wx (by omega), Yp] at av
        split at av <;> cases av
    rw [We hi] at av
    have Ma : i < X.N.length := by rw [<- I.len]; exact hi
    have bL : gn (relabel scope X.env) y := bL
    have MV : (scope.names.lookup y).isSome = true := by
      rcases bL with q | q | q
      all_goals
        rcases mb q with z | z
        · rw [z]; rfl
        · rw [z.1]; rfl
    obtain ⟨Jy, ah, h0⟩ := B.old i y Ma ak MV
    have l3 : scope.names.lookup y = some .free := by
      rcases bL with q | q | q
      · rcases mb q with z | z
        · rcases B.loc y z with w | w
          · exact absurd w ah
          · exact absurd w h0
        · exact z.1
      · rcases mb q with z | z
        · exact absurd rfl (B.mi _ (WI z))
        · exact z.1
      · rcases mb q with z | z
        · exact z
        · exact z.1
    have aH := B.fr (y, .free) (WI l3) rfl
    obtain ⟨m, az, au⟩ := I.loc
    obtain ⟨u, r, l⟩ := au i y v Jy av (by rcases aH with q | q; exact .inr (.inl q); exact .inr (.inr q))
    refine ⟨u, r, .inr ⟨?_, ?_⟩⟩
    · exact yv l3
    · rcases l with ⟨k, _⟩ | ⟨_, c, jh, z⟩
      · exfalso
        have k : X.env.scope.names.lookup y = some .local := k
        simp only at aH
        rcases aH with q | q <;> rw [k] at q <;> cases q
      · obtain ⟨cy, c6⟩ := has y l3
        have e : cy = c := by have := look y cy c6; rw [jh] at this; exact (WE this).symm
        subst e
        obtain ⟨o, J, aa⟩ := z
        exact ⟨cy, c6, o, aw _ _ J, aa⟩
  · -- cells
    obtain ⟨v, o, J, aa⟩ := I.cell y c (look y c e)
    exact ⟨v, o, aw _ _ J, aa⟩
  · -- pins
    have aE : p ∈ X.fA ++ pins := by simpa [mV] using aE
    obtain ⟨e, n, ne, mf, d⟩ := I.pin p aE
    refine ⟨aw _ _ e, n, DK _ (Wb e), fun ae => ?_, d⟩
    rcases V2.mp (I.tZ p.1 ae) with q | q
    · exact ne q
    · exact mf q
  · show _ = cL.length
    rw [V0, X1, B.len, I.len]
end
end bR
end
section
namespace bR
open PySem PySem.Spec PyProof.Rows bJ
noncomputable def mx:List Nat->List V->bW->bW
 |i::is,v::af,σ=>mx is af (σ.set i (some v))
 |_,_,σ=>σ
noncomputable def wm:List Nat->lH
 |[]=>Bz
 |i::is=>Bx (wk i) (wm is)
theorem By:∀(ts:List Nat)(af:List V)(σ:bW)(H:ax)(Q:bW->ax->Prop),af.length=ts.length->Q (mx ts af σ) H->wm ts af σ H Q
 |[],[],σ,H,Q,_,q=>⟨rfl,q⟩
 |[],_::_,_,_,_,h,_=>by simp at h
 |_::_,[],_,_,_,h,_=>by simp at h
 |i::is,v::af,σ,H,Q,h,q=>⟨v,af,rfl,By is af _ H Q (by simpa using h) q⟩
noncomputable def wj(K:W.Frag)(k:Nat)(ts:List Nat):kB:=λv σ H Q=>∃G d,bQ G H/\Rep K G d v/\cV (Den.fO k d) (λos=>∀(ws:List D)(af:List V),os=ws.map some->bG K G ws af->Q (mx ts af σ) H) (λ_=>False)
section
variable{X:aS}
theorem D5 (aZ : X.N.Nodup) : ∀ (ts : List Nat) (ys : List Str) (ag : List Expr), Den.namesOf ag = some ys -> ts.length = ys.length -> (∀ (j i : Nat) y, ts[j]? = some i -> ys[j]? = some y -> X.N[i]? = some y /\ Loc X.env.scope y /\ (X.fn y = true \/ X.env.scope.names.lookup y = some .local)) ->
    pP X ag (wm ts) /\ (assignEach ag X.env).length = ts.length /\ (assignEach ag X.env).findIdx? (·.1) = none
  | ts, ys, [], h, au, _ => by
    simp only [Den.namesOf, W2] at h
    subst h
    have : ts = [] := by simpa using au
    subst this
    exact ⟨Qk, rfl, rfl⟩
  | ts, ys, e :: ag, h, au, ah => by
    simp only [Den.namesOf] at h
    cases e with
    | Name x p =>
      cases q : Den.namesOf ag with
      | none => simp only [Den.nameOf, q] at h; cases h
      | some zs =>
        simp only [Den.nameOf, q, W2] at h
        subst h
        cases ts with
        | nil => simp at au
        | cons i is =>
          obtain ⟨a, b, c⟩ := ah 0 i x rfl rfl
          obtain ⟨J, aa, aL⟩ := D5 aZ is zs ag q (by simpa using au) fun j i y ak av => ah (j + 1) i y (by simpa using ak) (by simpa using av)
          refine ⟨Qj (D3 aZ a b c) J rfl, ?_, ?_⟩
          · show (assignEach ag X.env).length + 1 = is.length + 1; rw [aa]
          · show ((false, assign (.Name x p) X.env) :: assignEach ag X.env).findIdx? (·.1) = none
            rw [List.findIdx?_cons]
            simp only [V1, Wm]
            rw [aL]; rfl
    | _ => simp only [Den.nameOf] at h; cases h
def D4 (aj : X.calm = true) (aZ : X.N.Nodup) {k : Nat} {target : Expr} {ys : List Str} {ts : List Nat} (aV : Den.fa k target = some ys) (au : ts.length = ys.length)
    (ah : ∀ (j i : Nat) y, ts[j]? = some i -> ys[j]? = some y -> X.N[i]? = some y /\ Loc X.env.scope y /\ (X.fn y = true \/ X.env.scope.names.lookup y = some .local)) : iJ X target (wj X.K k ts) := by
  cases k with
  | zero =>
    cases target with
    | Name x p =>
      simp only [Den.fa, W2] at aV
      subst aV
      obtain ⟨i, rfl⟩ : ∃ i, ts = [i] := by
        match ts, au with
        | [i], _ => exact ⟨i, rfl⟩
      obtain ⟨a, b, c⟩ := ah 0 i x rfl rfl
      intro pins s σ H v u Q I r ⟨G, d, ab, eI, hw⟩
      refine D3 aZ a b c pins s σ H v u Q I r ?_
      exact hw [d] [v] rfl ⟨v, [], rfl, eI, rfl⟩
    | _ => simp only [Den.fa] at aV; cases aV
  | succ k =>
    cases target with
    | Tuple ag j p =>
      simp only [Den.fa] at aV
      cases q : Den.namesOf ag with
      | none => rw [q] at aV; cases aV
      | some zs =>
        rw [q] at aV
        simp only at aV
        by_cases hz : zs.length = k + 1
        · rw [if_pos hz] at aV
          simp only [W2] at aV
          subst aV
          obtain ⟨J, aa, aL⟩ := D5 aZ ts zs ag q au ah
          intro pins s σ H v u Q I r ⟨G, d, ab, eI, hw⟩
          refine Qi (n := ts.length) aj J aa aL pins s σ H v u Q I r ?_
          cases d with
          | tup ds =>
            obtain ⟨a, xs, e, hB, EG⟩ := eI
            have ae : Den.fO (k + 1) (.tup ds) = if ds.length = k + 1 then .ok (ds.map some) else .bad := rfl
            rw [ae] at hw
            by_cases hd : ds.length = k + 1
            · rw [if_pos hd] at hw
              have Ci : xs.length = ts.length := by rw [<- EG.length, hd, au, hz]
              exact ⟨a, xs, e, iC ab hB, Ci, By ts xs σ H Q Ci (hw ds xs rfl EG)⟩
            · rw [if_neg hd] at hw; exact hw.elim
          | _ => exact hw.elim
        · rw [if_neg hz] at aV; cases aV
    | _ => simp only [Den.fa] at aV; cases aV
end
structure mL(K:W.Frag)(P:ax->ax->Prop)(cn:i9)(ds:List D):Prop where
 go:∀(i:Nat) aI H1,P aI H1->i<ds.length->cn.go i H1
 kr:∀(i:Nat) aI H1 x aY d,P aI H1->bQ aI H1->ds[i]?=some d->cn.kr i H1 x aY->∃b9,Ext aI H1 b9 aY/\Rep K b9 d x
 stop:∀aI H1,P aI H1->cn.stop ds.length H1
noncomputable def pQ(m:et)(G H:ax):ax->ax->Prop:=λaI H1=>bQ G aI/\(match m with|.view=>bQ H H1|_=>bQ aI H1)
noncomputable def jE(xp:cq)(X:aS)(ai:List Nat)(m:et)(f:a6->bw (List D)):TI:=λσ H R =>
 ∃G C,el X.K ai G H C σ/\cV (f C) (λds=>∀cn aO ao,Ext G H aO ao->mL X.K (pQ m aO ao) cn ds->ds.length<=16777216->R cn ao) (λc=>fL xp X c H)
end bR
end
section
namespace bR
open PySem PySem.Spec PyProof.Rows bJ
def x2{α:Type}{r:bw α}{Q:α->Prop}{E:Nat->Prop}(h:cV (Den.iw r) Q E):∃a,r=.ok a/\Q a:=by
 cases r with
 |ok a=>exact⟨a,rfl,h⟩
 |exc c=>exact h.elim
 |bad=>exact h.elim
def el.more{K:W.Frag}{ai:List Nat}{G H:ax}{C:a6}{σ:bW}(h:el K ai G H C σ)(hy:∀i∈ai,i<C.length){ws:List D}{af:List V}(r:bG K G ws af):el K ai G H (C++ws.map some) (σ++af.map some) where
 len:=by rw[V0,V0,h.len,List.length_map,List.length_map,r.length]
 sub:=h.sub
 val:=λi d e hm=>by
  by_cases hi:i<C.length
  .rw[We hi]at e;obtain⟨v,a,b⟩:=h.val i d e hm;exact⟨v,by rw[We (by rw[<- h.len];exact hi)];exact a,b⟩
  .rw[Wx (by omega),Wg]at e
   cases q:ws[i-C.length]? with
   |none=>rw[q]at e;cases e
   |some w =>
    rw[q]at e;simp only[Option.map_some,W2]at e;subst e;obtain⟨v,a,b⟩:=r.get q;exact⟨v,by rw[Wx (by rw[<- h.len];omega),Wg,<- h.len,a];rfl,b⟩
 own:=λi d e hm au=>by
  have hi:=hy i hm;rw[We hi]at e;obtain⟨v,a,b⟩:=h.own i d e hm au;exact⟨v,by rw[We (by rw[<- h.len];exact hi)];exact a,b⟩
 lst:=λi d e hm au=>by
  have hi:=hy i hm;rw[We hi]at e;obtain⟨a,o,J,aa⟩:=h.lst i d e hm au;exact⟨a,o,by rw[We (by rw[<- h.len];exact hi)];exact J,aa⟩
 dZ:=h.dZ
 apart:=λi j ds ag a b ak av cB dd hi aB ne J aa=>by
  have dX:=hy i hi;have fF:=hy j aB;rw[We dX]at ak;rw[We fF]at av;rw[We (by rw[<- h.len];exact dX)]at J
  rw[We (by rw[<- h.len];exact fF)]at aa
  exact h.apart i j ds ag a b ak av cB dd hi aB ne J aa
theorem E1:∀(af:List V)(σ:bW)(fW:bW)(n:Nat),n=σ.length->fW.length=af.length->mx (List.range' n af.length) af (σ++fW)=σ++af.map some
 |[],σ,fW,n,az,aV=>by
  have:fW=[]:=by simpa using aV
  subst this;rfl
 |v::af,σ,fW,n,az,aV=>by
  cases fW with
  |nil=>simp at aV
  |cons t fW =>
   rw[List.length_cons,List.range'_succ,mx];have e:(σ++t::fW).set n (some v)=(σ++[some v])++fW:=by
    rw[YF _ _ (by omega),az];simp
   rw[e,E1 af (σ++[some v]) fW (n+1) (by simp[az]) (by simpa using aV)]
   simp
section
variable{xp:cq}{X:aS}{ai:List Nat}{ji:a6->bw (List D)}{gb:a6->bw D}{cI:a6->bw Bool}{elt target iter:Expr}{ifs:List Expr}{scope:Scope}{pos:Pos}{xs cL:List Str}{k:Nat}
noncomputable def iQ(k:Nat)(cI:a6->bw Bool)(gb:a6->bw D)(C:a6)(d:D):bw (Option D):=Den.fO k d>>=λaf=>cI (C++af)>>=λb=>if b then gb (C++af)>>=λy=>.ok (some y) else .ok none
noncomputable def gC(X:aS)(scope:Scope)(cL:List Str)(s3:Shared)(b8:ax)(bE:List Addr)(pins:List (Addr×Obj)):aS:=mV X (compEnvC scope (f7 X.env scope.names []) s3.heap.objs.size X.env) cL s3 b8 bE pins
def HC{k:Nat}{d:D}{os:List (Option D)}(h:Den.fO k d=.ok os):∃ws:List D,os=ws.map some:=by
 cases k with
 |zero=>cases h;exact⟨[d],rfl⟩
 |succ k =>
  cases d with
  |tup ds =>
   have ae:Den.fO (k+1) (.tup ds)=if ds.length=k+1 then .ok (ds.map some) else .bad:=rfl;rw[ae]at h
   by_cases hd:ds.length=k+1
   .rw[if_pos hd]at h;cases h;exact⟨ds,rfl⟩
   .rw[if_neg hd]at h;cases h
  |_=>cases h
end
end bR
end
section
namespace bR
open PySem PySem.Spec PyProof.Rows bJ
section
variable{xp:cq}{X:aS}{ai:List Nat}{ji:a6->bw (List D)}{gb:a6->bw D}{cI:a6->bw Bool}{elt target iter:Expr}{ifs:List Expr}{scope:Scope}{pos:Pos}{xs cL:List Str}{k:Nat}
noncomputable def pT(xp:cq)(X:aS)(ai:List Nat)(scope:Scope)(cL:List Str)(ifs:List Expr)(cI:a6->bw Bool):Prop :=
 (ifs=[]/\cI=λ_=>.ok true)\/∃(c:Expr)(sk:a6->bw D),ifs=[c]/\(cI=λC=>sk C>>=Den.fe)/\∀s3 b8 bE pins,dx (gC X scope cL s3 b8 bE pins) c (fs xp (gC X scope cL s3 b8 bE pins) ai sk)
def T6(aV:pT xp X ai scope cL ifs cI){s3:Shared}{b8:ax}{bE:List Addr}{pp pins:List (Addr×Obj)}{s:Shared}{σ:bW}{G H:ax}{C:a6}{b:Bool}{Q:Bool->Shared->Prop}(I:Inv (gC X scope cL s3 b8 bE pp) pins σ H s)(ab:el X.K ai G H C σ)(ae:cI C=.ok b)(aK:∀s' aO ao,Inv (gC X scope cL s3 b8 bE pp) pins σ ao s'->Ext G H aO ao->Q b s'):
  wpAny (model X.prog X.w) X.A (forIn ifs true λc r=>if r=true then do let ok <- isTrue c (gC X scope cL s3 b8 bE pp).env (eval c (gC X scope cL s3 b8 bE pp).env);pure (ForInStep.yield ok) else pure (ForInStep.yield r)) Q (λ_ _=>False) s:=by
 rcases aV with⟨rfl,rfl⟩|⟨c,sk,rfl,rfl,h⟩
 .cases ae;exact wpAny_tests_nil (aK s G H I (Ext.refl ab.sub))
 .refine wpAny_tests_one (WY (h s3 b8 bE pp pins s σ H (λhL ao=>hL=b/\∃aO,Ext G H aO ao) I ⟨G,C,ab,?_⟩) (λhL s' ⟨ao,iH,e,aO,x⟩=>?_) λ_ _ z=>z)
  .have ae:(sk C>>=Den.fe)=.ok b:=ae;rw[ae];exact λaO ao x=>⟨rfl,aO,x⟩
  .subst e;exact aK s' aO ao iH x
def HD{d:D}{os:List (Option D)}(aw:Den.fa k target=some xs)(h:Den.fO k d=.ok os):os.length=xs.length:=by
 cases k with
 |zero =>
  cases h;cases target with
  |Name x p=>simp only[Den.fa,W2]at aw;subst aw;rfl
  |_=>simp only[Den.fa]at aw;cases aw
 |succ k =>
  have ah:xs.length=k+1:=by
   cases target with
   |Tuple ag j p =>
    simp only[Den.fa]at aw;cases q:Den.namesOf ag with
    |none=>rw[q]at aw;cases aw
    |some zs =>
     rw[q]at aw;simp only at aw
     by_cases hz:zs.length=k+1
     .rw[if_pos hz]at aw;cases aw;exact hz
     .rw[if_neg hz]at aw;cases aw
   |_=>simp only[Den.fa]at aw;cases aw
  cases d with
  |tup ds =>
   have ae:Den.fO (k+1) (.tup ds)=if ds.length=k+1 then .ok (ds.map some) else .bad:=rfl;rw[ae]at h
   by_cases hd:ds.length=k+1
   .rw[if_pos hd]at h;cases h;rw[List.length_map,hd,ah]
   .rw[if_neg hd]at h;cases h
  |_=>cases h
def Ow{a b:List D}(h:a.map some=b.map some):a=b:=by
 induction a generalizing b with
 |nil=>cases b with|nil=>rfl|cons _ _=>simp at h
 |cons x a aD=>cases b with
  |nil=>simp at h
  |cons y b=>simp only[List.map_cons,List.cons.injEq,W2]at h;rw[h.1,aD h.2]
noncomputable def zj(X:aS)(pins:List (Addr×Obj))(σ:bW)(G H:ax)(use:Option (Value->Sem Unit))(Qc:Value->Shared->Prop)(ys:List D):Prop :=
 ∀(s4:Shared)(ao aO:ax)(bD dg:Addr)(nI:Str->Option Value),Ext G H aO ao->cx X.K H aO ao .fresh (.lst ys) (.ref dg)->s4.heap.Ns bD nI->jL X pins ao bD->(∀h',Heap.SameBut bD s4.heap h'->Inv X pins σ ao { s4 with heap:=h' }) ->
  compPost (model X.prog X.w) X.A X.cC use Qc (.ref dg) bD (.ok .next) s4
structure GB(X Y:aS)(f:D->bw (Option D))(gz:Nat->Heap->Prop)(bE:List Addr)(ds ys:List D)(xs:List Str)(σ:bW)(b9 aY:ax)(dg:Addr)(n:Nat)(s':Shared)(i:Nat)(fW:bW)(ao aO:ax)(lx rest:List D)(hn:List V):Prop where
 J:n=ds.length-i
 aa:i<=ds.length
 aL:fW.length=xs.length
 a7:Inv Y [] (σ++fW) ao s'
 cu:gz i s'.heap
 gZ:∀b∈bE,ao b=none
 il:Ext b9 aY aO ao
 eH:ao dg=some (.lst hn)
 l1:aO dg=none
 sE:bG X.K aO lx hn
 BI:lx.length<=i
 ht:Den.dC f (ds.drop i)=.ok rest
 Vj:ys=lx++rest
def JG{cI:a6->bw Bool}{gb:a6->bw D}{k:Nat}{C:a6}{d:D}{r rest:List D}(h:Den.dC (iQ k cI gb C) (d::r)=.ok rest):∃(ws:List D)(b:Bool)(pd:List D),Den.fO k d=.ok (ws.map some)/\cI (C++ws.map some)=.ok b /\
  Den.dC (iQ k cI gb C) r=.ok pd/\((b=false/\rest=pd)\/∃y,b=true/\gb (C++ws.map some)=.ok y/\rest=y::pd):=by
 simp only[Den.dC]at h;cases aN:iQ k cI gb C d with
 |exc c=>rw[aN]at h;cases h
 |bad=>rw[aN]at h;cases h
 |ok o =>
 rw[aN]at h;simp only[Den.R.ml]at h;cases ba:Den.dC (iQ k cI gb C) r with
 |exc c=>rw[ba]at h;cases h
 |bad=>rw[ba]at h;cases h
 |ok pd =>
 rw[ba]at h;simp only[Den.R.ml]at h;unfold iQ at aN;cases b5:Den.fO k d with
 |exc c=>rw[b5]at aN;cases aN
 |bad=>rw[b5]at aN;cases aN
 |ok os =>
 rw[b5]at aN;simp only[Den.R.ml]at aN;obtain⟨ws,rfl⟩:=HC b5;cases dn:cI (C++ws.map some) with
 |exc c=>rw[dn]at aN;cases aN
 |bad=>rw[dn]at aN;cases aN
 |ok b =>
 rw[dn]at aN;simp only[Den.R.ml]at aN;cases b with
 |false=>cases aN;cases h;exact⟨ws,false,_,rfl,dn,rfl,.inl ⟨rfl,rfl⟩⟩
 |true =>
  simp only[WN]at aN;cases h3:gb (C++ws.map some) with
  |exc c=>rw[h3]at aN;cases aN
  |bad=>rw[h3]at aN;cases aN
  |ok y =>
  rw[h3]at aN;cases aN;cases h;exact⟨ws,true,_,rfl,dn,rfl,.inr ⟨y,rfl,h3,rfl⟩⟩
def Av (aj : X.calm = true) (hy : ∀ i ∈ ai, i < X.N.length) (B : n3 X scope xs cL) (aw : Den.fa k target = some xs) (nv : ∀ x, foldedSetIterable iter X.env x = pure x)
    (hi : gR X target iter (jE xp X ai .view ji)) (he : ∀ s3 b8 bE pins, aP (gC X scope cL s3 b8 bE pins) elt (bo xp (gC X scope cL s3 b8 bE pins) ai .val gb)) (aV : pT xp X ai scope cL ifs cI)
    {use : Option (Value -> Sem Unit)} {Qc : Value -> Shared -> Prop} {pins : List (Addr × Obj)} {s : Shared} {σ : bW} {H G : ax} {C : a6} (I : Inv X pins σ H s) (ab : el X.K ai G H C σ)
    (hw : cV (ji C >>= fun ds => Den.iw (Den.dC (iQ k cI gb C) ds)) (zj X pins σ G H use Qc) (fun c => fL xp X c H)) {pos' : Pos} :
    wpAny (model X.prog X.w) X.A (comprehension (.ListComp elt [⟨target, iter, ifs, 0⟩] scope pos) scope X.env pos' (newList []) false (eval iter X.env) use) Qc X.cC s := by
  have LU : closureFor scope X.env = pure (f7 X.env scope.names []) := Ic fun x ah e => by
    have := B.fr x ah e
    exact I.ok.has x.1 (by rcases this with q | q; exact .inl q; exact .inr q)
  refine wpAny_comprehension_free (use := use) rfl nv LU B.kind B.names ?_
  refine bK (hi pins s σ H (fun cn ao => ∃ aO ds ys, Ext G H aO ao /\ mL X.K (pQ .view aO ao) cn ds /\ ds.length <= 16777216 /\ Den.dC (iQ k cI gb C) ds = .ok ys /\ zj X pins σ G H use Qc ys) I
    ⟨G, C, ab, bV (bu.mp hw) (fun ds hB cn aO ao x kU hz => ?_) fun _ q => q⟩) fun v s1 J => bK J fun xu s2 aa => ?_
  · obtain ⟨ys, e, q⟩ := x2 hB
    exact ⟨aO, ds, ys, x, kU, hz, e, q⟩
  obtain ⟨it, bE, gz, cn, aY, rfl, cS, T, eg, f2, b9, ds, ys, bI, kU, hz, M5, fin⟩ := aa
  refine Wv (wpAny_newFunctionEnv B.mi (by intro y aC; simp at aC) (fun g6 w6 xf => ?_) B.kind)
  dsimp only at w6 xf ⊢
  have eW : Inv X pins σ (upd aY s2.heap.objs.size (.lst [])) { s2 with heap := s2.heap.push { cls := .type "list", data := .seq ([] : List Value).toArray } } := cS.C8 (t' := s2.toks) (ys := []) (its := []) .nil (V6 _)
  generalize Cp : ({ s2 with heap := s2.heap.push { cls := .type "list", data := .seq ([] : List Value).toArray } } : Shared) = s3 at eW
  have B6 : s3.heap = s2.heap.push { cls := .type "list", data := .seq ([] : List Value).toArray } := by rw [<- Cp]
  rw [<- B6] at w6 xf ⊢
  generalize BO : s2.heap.objs.size = dg at *
  have qo : aY dg = none := by rw [<- BO]; exact cS.fresh
  have L4 : ∀ b ∈ bE, b ≠ dg := fun b ae z => by
    obtain ⟨o, e, _⟩ := T.obj _ _ eg b ae
    have := Wb e
    rw [z, <- BO] at this
    exact absurd this (Xz _)
  have Cd : ∀ b o, s2.heap.get? b = some o -> s3.heap.get? b = some o := fun b o e => by rw [B6]; exact VY _ e
  have cN : ({ heap := g6, gens := s2.gens, drawn := s2.drawn, toks := s2.toks + ([] : List (Str × Value)).length, os := s2.os } : Shared) = { s3 with heap := g6, toks := s2.toks } := by rw [<- Cp]; rfl
  rw [cN]
  show codeAny (model X.prog X.w) X.A (Code.compStart (elt.ListComp [{ target := target, iter := iter, ifs := ifs, is_async := 0 }] scope pos) 0 (Value.ref it) (Value.ref dg) (compEnvC scope (f7 X.env scope.names []) s3.heap.objs.size X.env))
    (compPost (model X.prog X.w) X.A X.cC use Qc (Value.ref dg) s3.heap.objs.size) { s3 with heap := g6, toks := s2.toks }
  have oG : g6.Ns s3.heap.objs.size (fun _ => none) := by simpa using w6
  have l4 : ∀ b o, s3.heap.get? b = some o -> g6.get? b = some o := fun b o e => xf.extBut b o (Wn (Wb e)) (VY _ e)
  have sN : ∀ b ∈ bE, jL X pins (upd aY dg (.lst [])) b := fun b ae => ⟨by rw [c8 (L4 b ae)]; exact (f2 b ae).1, (f2 b ae).2⟩
  have MA : ∀ b ∈ bE, ∃ o, s3.heap.get? b = some o := fun b ae => by
    obtain ⟨o, e, _⟩ := T.obj _ _ eg b ae
    exact ⟨o, Cd b o e⟩
  have rT := HI (tk := s2.toks) eW sN MA B oG l4
  generalize gd : mV X (compEnvC scope (f7 X.env scope.names []) s3.heap.objs.size X.env) cL s3 (upd aY dg (.lst [])) bE pins = Y at rT
  have Ve : Y = gC X scope cL s3 (upd aY dg (.lst [])) bE pins := gd.symm
  have Fs : gz 0 g6 := T.keep _ _ _ eg fun b ae o e => l4 b o (Cd b o e)
  have Fi : el X.K ai b9 aY C σ := ab.ext bI
  have Mv : ∀ i ∈ ai, i < C.length := fun i hi => by rw [ab.len, I.len]; exact hy i hi
  have Vx : ∀ (i : Nat) (d : D), i ∈ ai -> gv d = true -> C[i]? = some (some d) -> σ[i]? ≠ some (some (V.ref dg)) := fun i d hi au e z => by
    obtain ⟨a, af, J, aa, _⟩ := Fi.lst i d e hi au
    rw [J] at z
    injection z with z
    injection z with z
    injection z with z
    rw [z, qo] at aa; cases aa
  have wg : ∀ {ao : ax}, (∀ b ∈ bE, ao b = none) -> ∀ b ∈ bE, jL Y [] ao b := fun az b ae => by
    obtain ⟨f0, f1, KD, e1, f4, e2⟩ := sN b ae
    obtain ⟨ak, av⟩ := rT.ok.A9 b (by rw [<- gd]; exact ae)
    refine ⟨az b ae, ak, rT.ok.si b (by rw [<- gd]; exact ae), .inl (by rw [<- gd]; exact ae), av, fun p aE => ?_⟩
    rw [<- gd] at aE
    exact e2 p (by simpa [mV] using aE)
  have loop : codeAny (model X.prog X.w) X.A (.compLoop (.ListComp elt [⟨target, iter, ifs, 0⟩] scope pos) 0 (.ref it) (.ref dg) (compEnvC scope (f7 X.env scope.names []) s3.heap.objs.size X.env))
      (compPost (model X.prog X.w) X.A X.cC use Qc (Value.ref dg) s3.heap.objs.size) { s3 with heap := g6, toks := s2.toks } := by
    refine It (fun n s' => ∃ (i : Nat) (fW : bW) (ao aO : ax) (lx rest : List D) (hn : List V), GB X Y (iQ k cI gb C) gz bE ds ys xs σ b9 aY dg n s' i fW ao aO lx rest hn) ?_ ds.length
      ⟨0, List.replicate xs.length none, _, b9, [], ys, [], by simp, V6 _, by simp, rT, Fs, fun b ae => (sN b ae).1, Ext.own bI.sub qo, dF, bI.sub.free qo, rfl, VZ _, by simpa using M5, rfl⟩
    rintro n s' ⟨i, fW, ao, aO, lx, rest, hn, rfl, Ca, M7, iH, aJ, Bt, n0, oz, BQ, yo, Vs, j3, sY⟩
    have nf : pQ .view b9 aY aO ao := ⟨n0.g, n0.h⟩
    have B2 : Y.calm = true := by rw [<- gd]; exact aj
    have wK : Y.prog = X.prog := by rw [<- gd]; rfl
    have wL : Y.w = X.w := by rw [<- gd]; rfl
    have B1 : Y.K = X.K := by rw [<- gd]; rfl
    have B0 : Y.A = X.A := by rw [<- gd]; rfl
    have Vk : Y.cC = fun _ _ => False := by rw [<- gd]; rfl
    by_cases cm : i < ds.length
    · have hd : ds[i]? = some ds[i] := V5 cm
      generalize ds[i] = d at hd
      have LZ : ds.drop i = d :: ds.drop (i + 1) := by
        have := Wl.mp hd
        obtain ⟨J, aa⟩ := this
        rw [<- aa]; exact WO J
      rw [LZ] at j3
      have item := T.item Y wK wL B1 B2 i [] s' (σ ++ fW) ao (fun _ _ => False) iH (wg Bt) aJ (kU.go i aO ao nf cm)
      rw [B0] at item
      refine bK item fun r s4 ⟨u, a9, a7⟩ => ?_
      subst a9
      refine bK a7 fun _ s5 ⟨x, lC, lD, fI, zh, lj, wh⟩ => ?_
      obtain ⟨pJ, rL, eI⟩ := kU.kr i aO ao x lC d nf n0.sub hd zh
      have uD := lD.pinned (wg wh) (T.obj _ _ lj)
      obtain ⟨ws, b, pd, b5, dn, ba, ae⟩ := JG j3
      have qL : ws.length = xs.length := by have := HD aw b5; simpa using this
      subst gd
      have a8 : iJ (mV X (compEnvC scope (f7 X.env scope.names []) s3.heap.objs.size X.env) cL s3 (upd aY dg (.lst [])) bE pins) target (wj X.K k (List.range' X.N.length xs.length)) := by
        refine D4 (X := mV X (compEnvC scope (f7 X.env scope.names []) s3.heap.objs.size X.env) cL s3 (upd aY dg (.lst [])) bE pins) aj B.ep aw (by simp) fun j cO y ak av => ?_
        rw [List.getElem?_range' (Wl.mp av).1] at ak
        have aC : y ∈ xs := Xh av
        have oF : (relabel scope X.env).names.lookup y = some .local := tL (B.fa y aC) (by decide)
        cases ak
        refine ⟨?_, .inl oF, .inr oF⟩
        show cL[X.N.length + 1 * j]? = some y
        rw [Nat.one_mul, B.new j]; exact av
      refine bK (a8 _ s5 (σ ++ fW) lC x u (fun uv mI => ∃ af : List V, uv = σ ++ af.map some /\ af.length = xs.length /\ mI = lC /\ bG X.K pJ ws af) uD fI ⟨pJ, d, rL.sub, eI, ?_⟩) fun _ EI ⟨uv, mI, uE, af, Jx, Cr, p9, rws⟩ => ?_
      · rw [b5]
        intro VU af e r
        have e := Ow e
        subst e
        have au : af.length = xs.length := by rw [<- r.length, qL]
        refine ⟨af, ?_, au, rfl, r⟩
        rw [<- au]
        exact E1 af σ fW X.N.length (I.len.symm) (by rw [M7, au])
      subst Jx
      subst p9
      have zd : Ext b9 aY pJ mI := n0.trans rL
      have Fj : el X.K ai pJ mI (C ++ ws.map some) (σ ++ af.map some) := (Fi.ext zd).more Mv rws
      have BN : mI dg = some (.lst hn) := rL.h _ _ oz
      have LH : pJ dg = none := rL.new dg BQ (by rw [oz]; exact fun z => nomatch z)
      refine T6 aV uE Fj dn fun rB pK gN gO mE => ?_
      have wD : gN dg = some (.lst hn) := mE.h _ _ BN
      have BR : pK dg = none := mE.new dg LH (by rw [BN]; exact fun z => nomatch z)
      have Ek : bG X.K pK lx hn := (yo.mono rL.g).mono mE.g
      rcases ae with ⟨rfl, rfl⟩ | ⟨y, rfl, h3, rfl⟩
      · simp only [V1, Wm]
        refine ⟨ds.length - (i + 1), by omega, i + 1, af.map some, gN, pK, lx, rest, hn, rfl, by omega, by rw [List.length_map]; exact Cr, gO.px, T.keep _ _ _ lj fun b ae o e => (gO.pin (b, o) (Wf _ (Wf _ (oU ae e)))).1, fun b ae => ?_, zd.trans mE, wD, BR, Ek, by omega, ba, sY⟩
        obtain ⟨bX, e, _⟩ := T.obj _ _ lj b ae
        exact (gO.pin (b, bX) (Wf _ (Wf _ (oU ae e)))).2.1
      · simp only [WN]
        refine bK (he s3 (upd aY dg (.lst [])) bE pins _ rB (σ ++ af.map some) gN (fun v mJ => ∃ lB, Ext pK gN lB mJ /\ Rep X.K lB y v) gO ⟨pK, C ++ ws.map some, Fj.ext mE, by rw [h3]; exact fun v lB mJ pB ru => ⟨lB, pB, ru⟩⟩) fun u8 Ro ⟨uf, mJ, GG, ru, lB, pB, Q3⟩ => ?_
        have LG : mJ dg = some (.lst hn) := pB.h _ _ wD
        have BS : lB dg = none := pB.new dg BR (by rw [wD]; exact fun z => nomatch z)
        have hlen : hn.length < sizeLine := by rw [<- yo.length, sizeLine_eq]; omega
        refine bK (Dv (X := gC X scope cL s3 (upd aY dg (.lst [])) bE pins) _ Ro (σ ++ af.map some) mJ (.ref dg) [uf] (.ref dg) [u8] (fun _ zk => zk = upd mJ dg (.lst (hn ++ [uf]))) GG rfl (.cons ru .nil) ⟨dg, hn, uf, rfl, rfl, LG, hlen, rfl⟩) fun _ VN ⟨_, zk, uF, _, AM⟩ => ?_
        subst AM
        have rK : Ext b9 aY lB mJ := (zd.trans mE).trans pB
        refine ⟨ds.length - (i + 1), by omega, i + 1, af.map some, _, lB, lx ++ [y], pd, hn ++ [uf], rfl, by omega, by rw [List.length_map]; exact Cr, uF.px, T.keep _ _ _ lj fun b ae o e => (uF.pin (b, o) (Wf _ (Wf _ (oU ae e)))).1, fun b ae => ?_,
          ⟨rK.g, fun b o e => ?_, fun b o e => ?_, rK.new, fun b xs e => rK.dZ b xs (by
            by_cases q : b = dg
            · subst q; rw [dF] at e; cases e
            · rw [c8 q] at e; exact e)⟩, dF, BS, (Ek.mono pB.g).snoc Q3, by rw [V0, List.length_singleton]; omega, ba, by rw [sY, Wa]; rfl⟩
        · obtain ⟨bX, e, _⟩ := T.obj _ _ lj b ae
          exact (uF.pin (b, bX) (Wf _ (Wf _ (oU ae e)))).2.1
        · rw [c8 (me e qo)]; exact rK.h b o e
        · rw [c8 (me e BS)]; exact rK.sub b o e
    · have Me : i = ds.length := by omega
      subst Me
      have a9 : rest = [] := by
        rw [YO] at j3
        simp only [Den.dC] at j3
        cases j3; rfl
      subst a9
      rw [W5] at sY
      subst sY
      have done := T.done Y wK wL B1 B2 ds.length [] s' (σ ++ fW) ao (fun _ _ => False) iH (wg Bt) aJ (kU.stop aO ao nf)
      rw [B0] at done
      refine bK done fun r s4 ⟨a9, fK⟩ => ?_
      subst a9
      obtain ⟨nI, Cj, _⟩ := fK.loc
      have vU : Y.env.locals = s3.heap.objs.size := by rw [<- gd]; rfl
      rw [vU] at Cj
      refine fin s4 ao aO s3.heap.objs.size dg nI (bI.trans n0) ⟨dg, hn, rfl, oz, bI.h.free qo, BQ, yo⟩ Cj (eW.qi (VZ _) (by have := fK.free; rw [vU] at this; exact this)) fun h' cK => ?_
      have BM : ao s3.heap.objs.size = none := by have := fK.free; rw [vU] at this; exact this
      have un : e0 (hO X.stack) bE (upd aY dg (.lst [])) ao s3.heap s4.heap := by have := fK.base; rw [<- gd] at this; exact this
      have md : ∀ b o, s3.heap.get? b = some o -> b ≠ s3.heap.objs.size := fun b o e => Wn (Wb e)
      have Uo : e0 (hO X.stack) bE (upd aY dg (.lst [])) ao s3.heap h' :=
        ⟨fun b o e n ae ah => (cK.2 b (md b o e)).trans (un.keep b o e n ae ah), fun b o e n ae ah => by obtain ⟨b6, q⟩ := un.slot b o e n ae ah; exact ⟨b6, (cK.2 b (md b o e)).trans q⟩, un.free,
          fun b o e ah => by obtain ⟨bC, q⟩ := un.there b o e ah; exact ⟨bC, (cK.2 b (md b o e)).trans q⟩, un.kl, un.jl, un.kj⟩
      have w9 : d7 X.prog X.w ao h' := fun b o e => by
        have q := fK.bM b o e
        rw [wK, wL] at q
        refine q.ki (fun c v c6 q => (cK.2 c ?_).trans q) (fun _ q => q) fun _ _ q => q
        rcases c6 with z | z
        · rw [z]; rintro rfl; rw [BM] at e; cases e
        · rintro rfl; rw [BM] at z; cases z
      have PA : s4.os = s3.os := by have := fK.os; rw [<- gd] at this; exact this
      have GH : Inv X pins σ ao { s4 with heap := h' } := eW.z7 (s' := { s4 with heap := h' }) PA Uo w9 fK.bare fun b ae => by
        obtain ⟨f0, f1, KD, e1, f4, e2⟩ := sN b ae
        exact ⟨e1, f1, f4, e2⟩
      exact GH
  refine codeAny_compStart_list loop (T.self _ _ _ _ _ Fs loop)
def yB(aj:X.calm=true)(hy:∀i∈ai,i<X.N.length)(B:n3 X scope xs cL)(aw:Den.fa k target=some xs)(nv:∀x,foldedSetIterable iter X.env x=pure x)(hi:gR X target iter (jE xp X ai .view ji))(he:∀s3 b8 bE pins,aP (gC X scope cL s3 b8 bE pins) elt (bo xp (gC X scope cL s3 b8 bE pins) ai .val gb))(aV:pT xp X ai scope cL ifs cI):
  aP X (.ListComp elt [⟨target,iter,ifs,0⟩] scope pos) (bo xp X ai .fresh λC=>ji C>>=λds=>Den.iw (Den.dC (iQ k cI gb C) ds)>>=λys=>.ok (.lst ys)):=by
 intro pins s σ H Q I ⟨G,C,ab,hw⟩;rw[eval_ListComp];refine Av aj hy B aw nv hi he aV I ab (use:=none) (Qc:=es X pins σ Q) ?_;have hw:=bu.mp hw;refine bu.mpr (bV hw (λds a0=>?_) λ_ q=>q)
 refine bV (bu.mp a0) (λys aQ s4 ao aO bD dg nI x r az hf inv=>?_) λ_ q=>q
 exact⟨nI,az,λh' cK=>⟨.ref dg,ao,inv h' cK,rfl,aQ _ aO ao x r⟩⟩
end
end bR
end
section
namespace bR
open PySem PySem.Spec PyProof.Rows bJ
section
variable{xp:cq}{X:aS}{ai:List Nat}{m:et}{f bk cz:a6->bw D}{l a b dk:Expr}{pos p:Pos}
def Qn{hG:TE}(au:aP X l hG):gR X dk l (λσ H R=>hG σ H λx H1=>∃a xs,x=.ref a/\((ew X.K H1 a xs/\(xs.length<=sizeLine->R (uG X.K a) H1))\/(fu X.K H1 a xs/\(xs.length<=sizeLine->R (uH X.K a) H1)))):=by
 intro pins s σ H R I h;refine bK (au pins s σ H _ I h) λv s1 ⟨x,H1,bg,aG,aN⟩=>?_
 obtain⟨a,xs,e,⟨aK,q⟩|⟨aK,q⟩⟩:=aN
 .subst e;cases aG;obtain⟨its,b4,p,hz⟩:=bg.list aK;refine wpAny_pyIter_list p.isList ?_;refine⟨s1.heap.objs.size,[s1.heap.objs.size],_,_,H1,rfl,bg.kept (t':=s1.toks) λb o e=>VY _ e,Uh a _,⟨_,Wc _ rfl,rfl,rfl⟩,λb ae=>?_,q hz⟩
  have e:b=s1.heap.objs.size:=by simpa using ae
  subst e;exact bg.qi (VZ _) (bg.bM.fresh (VZ _))
 .subst e;cases aG;obtain⟨its,b4,p,hz⟩:=bg.tuple aK;refine wpAny_pyIter_tuple (show s1.heap.IsTuple a its.toArray from p) ?_;refine⟨s1.heap.objs.size,[s1.heap.objs.size],_,_,H1,rfl,bg.kept (t':=s1.toks) λb o e=>VY _ e,Uj a _,⟨_,Wc _ rfl,rfl,rfl⟩,λb ae=>?_,q hz⟩
  have e:b=s1.heap.objs.size:=by simpa using ae
  subst e;exact bg.qi (VZ _) (bg.bM.fresh (VZ _))
def CF{K:W.Frag}{P:ax->ax->Prop}{G:ax}{a:Addr}{xs:List V}{ds:List D}(d4:∀aI H1,P aI H1->bQ G aI/\ew K H1 a xs)(r:bG K G ds xs):mL K P (uG K a) ds where
 go:=λi aI H1 h hi=>by
  obtain⟨_,q⟩:=d4 aI H1 h;have ah:i<xs.length:=by rw[<- r.length];exact hi
  exact⟨xs,xs[i],q,V5 ah⟩
 kr:=λi aI H1 x aY d h ab hd ⟨e,y⟩=>by
  obtain⟨g,q⟩:=d4 aI H1 h;subst e;obtain⟨v,J,aa⟩:=r.get hd;have:=y xs q;rw[J]at this;cases this;exact⟨aI,Ext.refl ab,aa.mono g⟩
 stop:=λaI H1 h=>⟨xs,(d4 aI H1 h).2,by rw[r.length];exact VZ _⟩
def Nw{K:W.Frag}{P:ax->ax->Prop}{G:ax}{a:Addr}{xs:List V}{ds:List D}(d4:∀aI H1,P aI H1->bQ G aI/\fu K H1 a xs)(r:bG K G ds xs):mL K P (uH K a) ds where
 go:=λi aI H1 h hi=>by
  obtain⟨_,q⟩:=d4 aI H1 h;have ah:i<xs.length:=by rw[<- r.length];exact hi
  exact⟨xs,xs[i],q,V5 ah⟩
 kr:=λi aI H1 x aY d h ab hd ⟨e,y⟩=>by
  obtain⟨g,q⟩:=d4 aI H1 h;subst e;obtain⟨v,J,aa⟩:=r.get hd;have:=y xs q;rw[J]at this;cases this;exact⟨aI,Ext.refl ab,aa.mono g⟩
 stop:=λaI H1 h=>⟨xs,(d4 aI H1 h).2,by rw[r.length];exact VZ _⟩
def xB{K:W.Frag}{G:ax}{ds:List D}{xs:List V}(r:bG K G ds xs)(h:xs.length<=sizeLine):ds.length<=16777216:=by rw[r.length,<- sizeLine_eq];exact h
def RP(hm:m=.view\/m=.val)(au:aP X l (bo xp X ai m f)):gR X dk l (jE xp X ai m λC=>f C>>=λd=>Den.fj d):=by
 intro pins s σ H R I ⟨G,C,ab,hw⟩;refine Qn au pins s σ H R I ?_;refine⟨G,C,ab,bV (bu.mp hw) (λd k v aI H1 aR aG=>?_) λ_ q=>q⟩
 cases d with
 |lst ds =>
  rcases hm with rfl|rfl
  .obtain⟨a,xs,rfl,hB,r⟩:=kn (X:=X) aG;exact⟨a,xs,rfl,.inl ⟨hB,λhz=>k _ aI H1 aR (CF (G:=aI) (λb9 aY ⟨J,aa⟩=>⟨J,lh aa hB⟩) r) (xB r hz)⟩⟩
  .obtain⟨a,xs,rfl,hB,r⟩:=aG;exact⟨a,xs,rfl,.inl ⟨lh aR.sub hB,λhz=>k _ aI H1 aR (CF (G:=aI) (λb9 aY ⟨J,aa⟩=>⟨J,lh aa (lh J hB)⟩) r) (xB r hz)⟩⟩
 |tup ds =>
  have aG:Rep X.K aI (.tup ds) v:=by rcases hm with rfl|rfl<;>exact aG
  obtain⟨a,xs,rfl,hB,r⟩:=aG;refine⟨a,xs,rfl,.inr ⟨iC aR.sub hB,λhz=>k _ aI H1 aR (Nw (G:=aI) (λb9 aY ⟨J,aa⟩=>?_) r) (xB r hz)⟩⟩
  rcases hm with rfl|rfl
  .exact⟨J,Fp aa (iC aR.sub hB)⟩
  .exact⟨J,Fp aa (iC J hB)⟩
 |_=>exact k.elim
def CG {K : W.Frag} {P : ax -> ax -> Prop} {lo hi : Int} : mL K P (n4 lo (hi - lo).toNat) (Den.eM lo hi) where
  go := fun i aI H1 _ cm => by
    show i < (hi - lo).toNat
    unfold Den.eM at cm
    simpa using cm
  kr := fun i aI H1 x aY d _ ab hd ⟨e, y⟩ => by
    subst e
    unfold Den.eM at hd
    rw [Wg] at hd
    cases q : (List.range (hi - lo).toNat)[i]? with
    | none => rw [q] at hd; cases hd
    | some k =>
      rw [q] at hd
      have aw : k = i := by
        have := Wl.mp q
        obtain ⟨_, e⟩ := this
        rw [<- e]; simp
      subst aw
      cases hd
      exact ⟨aI, Ext.refl ab, y⟩
  stop := fun aI H1 _ => by
    show (hi - lo).toNat <= _
    unfold Den.eM
    simp
def yy{i j:Int}{Q:List D->Prop}{E:Nat->Prop}(h:cV (Den.iz i j) Q E):(-(2 ^ 62)<=i/\i<2 ^ 62/\-(2 ^ 62)<=j/\j<2 ^ 62)/\(Den.eM i j).length<=16777216/\Q (Den.eM i j):=by
 unfold Den.iz at h;cases q:(Den.nO i&&Den.nO j&&decide ((j-i).toNat<=1000000)) with
 |false=>rw[q]at h;exact h.elim
 |true =>
  rw[q]at h;simp only[VX,Den.nO,Wh]at q;obtain⟨⟨⟨a1,a2⟩,a3,iM⟩,U7⟩:=q;refine⟨⟨by omega,by omega,by omega,by omega⟩,?_,h⟩
  unfold Den.eM;rw[List.length_map,List.length_range];omega
def R2{x:Str}(ah:x="range")(a8:eb X x)(hm:X.aF x=none)(aA:aP X a (bo xp X ai .view bk))(cN:starEach [a] X.env=[(false,eval a X.env)]):
  gR X dk (.Call (.Name x p) [a] [] pos) (jE xp X ai m λC=>bk C>>=λd=>Den.f3 d>>=λi=>Den.iz 0 i):=by
 subst ah;intro pins s σ H R I ⟨G,C,ab,hw⟩;refine Ql a8 hm (mm aA cN) cN pins s σ H R I ?_;refine⟨G,C,ab,bV (bu.mp hw) (λd k v aI H1 aR aG=>?_) λ_ q=>q⟩
 have k:=bu.mp k;cases d with
 |int i =>
  obtain⟨⟨_,_,b1,b2⟩,hz,q⟩:=yy k;refine⟨i,by rw[cx.o1 aG],b1,b2,?_⟩
  have:=q (n4 0 (i-0).toNat) aI H1 aR CG hz;rw[Int.sub_zero]at this;exact this
 |_=>exact k.elim
def R3{x:Str}(ah:x="range")(a8:eb X x)(hm:X.aF x=none)(aA:aP X a (bo xp X ai .view bk))(ae:aP X b (bo xp X ai .view cz))(cN:starEach [a,b] X.env=[(false,eval a X.env),(false,eval b X.env)])(xh:starEach [b] X.env=[(false,eval b X.env)]):
  gR X dk (.Call (.Name x p) [a,b] [] pos) (jE xp X ai m λC=>bk C>>=λd=>Den.f3 d>>=λi=>cz C>>=λe=>Den.f3 e>>=λj=>Den.iz i j):=by
 subst ah;intro pins s σ H R I ⟨G,C,ab,hw⟩;refine Qm a8 hm (o4 aA (mm ae xh) (by rw[cN,xh])) cN xh pins s σ H R I ?_
 refine⟨G,C,ab,bV (bu.mp hw) (λd k v aI H1 aR aG=>?_) λ_ q=>q⟩
 have k:=bu.mp k;cases d with
 |int i =>
  refine⟨aI,C,ab.ext aR,bV (bu.mp k) (λe aQ v2 b9 aY bI a5=>?_) λ_ q=>q.mono aR.h⟩
  have aQ:=bu.mp aQ;cases e with
  |int j =>
   obtain⟨b1,hz,q⟩:=yy aQ;refine⟨i,j,by rw[cx.o1 aG,cx.o1 a5],b1,?_⟩
   exact q _ b9 aY (aR.trans bI) CG hz
  |_=>exact aQ.elim
 |_=>exact k.elim
end
end bR
end
section
namespace bR
open PySem PySem.Spec PyProof.Rows bJ
section
variable{xp:cq}{X:aS}{ai:List Nat}{m:et}{f bk cz:a6->bw D}{l a b dk:Expr}{pos p:Pos}{pins:List (Addr×Obj)}{σ:bW}{G H:ax}{s:Shared}
def EZ(ab:bQ G H){d:D}{x:V}(bp:View X.K G H d x){Q:List D->Prop}{E:Nat->Prop}(h:cV (Den.fj d) Q E):∃ds a xs,x=.ref a/\(ew X.K H a xs\/fu X.K H a xs)/\bG X.K G ds xs/\Q ds:=by
 cases d with
 |tup ds =>
  obtain⟨a,ys,rfl,k,q⟩:=ko ab bp;exact⟨ds,a,ys,rfl,.inr k,q,h⟩
 |lst ds =>
  obtain⟨a,ys,rfl,k,q⟩:=kn bp;exact⟨ds,a,ys,rfl,.inl k,q,h⟩
 |_=>exact h.elim
end
end bR
end
section
namespace bR
open PySem PySem.Spec PyProof.Rows bJ
section
variable{prog:Program}{w:World}{A:Around}{E:Value->Shared->Prop}{s:Shared}
def Lr{t b6:Addr}{items:Array Value}{fk fl:Value}{lo hi:Option Int}{Q:Value->Shared->Prop}(aV:IsTup s.heap t items)(ab:s.heap.IsSliceOf b6 fk fl .none)(cX:IsPart fk lo)(pu:IsPart fl hi)(hw:c5.bN items.size 0 lo=0/\c5.bN items.size items.size hi=items.size)(h:Q (.ref t) s):wpAny (model prog w) A (getItem (.ref t) (.ref b6)) Q E s:=by
 obtain⟨os,nr,l2,j0⟩:=id ab;have wJ:s.TypeIs (.ref b6) "slice":=⟨os,nr,l2⟩;unfold getItem
 try with_reducible refine Xc ?_
 first|refine VW (wpAny_pure ?_)|skip
 refine VW (wpAny_sequenceKey aV.typeIs (by decide) ?_)
 refine VW (Xi (name:=Str.ofString "__getitem__") aV.typeIs WL
  (W8 WL aV.typeIs entry_tuple_getitem ?_ (args_tuple_getitem _ _)))
 show wpAny _ _ (Builtin.Tuple.tupleItemsOf (.ref t)>>=_) _ _ s;refine VW (PyProof.Rows.tupleItemsOf_ aV ?_);refine VW (XR wJ ?_);rw[if_pos (by decide)]
 refine VW (c5.Fc ab cX pu ?_);have M4:(((c5.bN items.size 0 lo:Nat):Int)==0&&(1:Int)==1&&(c5.bN items.size items.size hi-c5.bN items.size 0 lo)==items.size)=true:=by
  rw[hw.1,hw.2];simp
 show wpAny _ _ (if (((c5.bN items.size 0 lo:Nat):Int)==0&&(1:Int)==1&&(c5.bN items.size items.size hi-c5.bN items.size 0 lo)==items.size)=true then _ else _) _ _ s;rw[if_pos M4];unfold Builtin.Tuple.tupleIsExact;refine VW (VW (XR aV.typeIs (wpAny_pure ?_)));rw[if_pos (by decide)]
 refine VW (Ya (wpAny_pure ⟨_,rfl,wpAny_pure h⟩))
end
section
variable{xp:cq}{X:aS}{ai:List Nat}{m:et}{f bk cz:a6->bw D}{hs qh:a6->bw (Option Int)}{a b dk:Expr}{lo hi:Option Expr}{pos p b3:Pos}{pins:List (Addr×Obj)}{σ:bW}{G H:ax}{s:Shared}
def tO(n d:Nat)(o:Option Int):Den.bN n d o=c5.bN n d o:=by
 cases o with
 |none=>rfl
 |some i =>
  simp only[Den.bN,c5.bN]
  by_cases h:i<0
  .rw[if_pos h,if_pos h];split<;>omega
  .rw[if_neg h,if_neg h];split<;>omega
def Ax{K:W.Frag}{ds:List D}{xs:List V}(r:bG K G ds xs)(lo hi:Option Int):bG K G (Den.cut ds lo hi) (kD xs lo hi):=by
 unfold Den.cut kD;rw[tO,tO,r.length];exact(r.drop _).take _
noncomputable def pq(xp:cq)(X:aS)(ai:List Nat)(f:a6->bw (Option Int)):kC:=λσ H Q =>
 ∃G C,el X.K ai G H C σ/\cV (f C) (λo=>∀aO ao,Ext G H aO ao->Q o ao) (λc=>fL xp X c H)
def RU:jN X none (pq xp X ai λ_=>.ok none):=by
 intro pins s σ H Q I ⟨G,C,ab,hw⟩;exact Qt pins s σ H Q I (hw G H (Ext.refl ab.sub))
def RX(aA:aP X a (bo xp X ai .view bk)):jN X (some a) (pq xp X ai λC=>bk C>>=λx=>Den.f3 x>>=λi=>.ok (some i)):=by
 intro pins s σ H Q I ⟨G,C,ab,hw⟩;refine Qu aA pins s σ H Q I ?_;refine⟨G,C,ab,bV (bu.mp hw) (λd k v aI H1 aR aG=>?_) λ_ q=>q⟩
 cases d with
 |int i=>exact⟨i,cx.o1 aG,k aI H1 aR⟩
 |_=>exact k.elim
noncomputable def QW(K:W.Frag):V->Option Int->Option Int->ax->c2->Prop:=λx lo hi H Q =>
 ∃G d,bQ G H/\View K G H d x/\cV (Den.kh d lo hi) (λd'=>∀v aO ao,Ext G H aO ao->cx K H aO ao .fresh d' v->Q v ao) (λ_=>False)
def SF:pS X (λx lo hi H Q=>∃a xs,x=.ref a/\fu X.K H a xs/\(c5.bN xs.length 0 lo=0/\c5.bN xs.length xs.length hi=xs.length)/\Q (.ref a) H):=by
 intro pins s σ H x v fk fl lo hi b6 Q I aW ab cX pu h;obtain⟨a,xs,rfl,ah,hw,q⟩:=h;cases aW;obtain⟨its,r,aV,hz⟩:=I.tuple ah;have hlen:its.toArray.size=xs.length:=by rw[V9];exact r.length.symm
 refine⟨"tuple",_,WL.lookup,aV.typeIs,?_⟩;exact Lr aV ab cX pu (by rw[hlen];exact hw) ⟨.ref a,H,I,rfl,q⟩
def IE{ds:List D}{lo hi:Option Int}(h:c5.bN ds.length 0 lo=0/\c5.bN ds.length ds.length hi=ds.length):Den.cut ds lo hi=ds:=by
 unfold Den.cut;rw[tO,tO,h.1,h.2];simp
def SE:pS X (QW X.K):=by
 intro pins s σ H x v fk fl lo hi b6 Q I aW ab cX pu ⟨G,d,oJ,bp,hw⟩;cases d with
 |tup ds =>
  obtain⟨a,xs,rfl,k,r⟩:=ko oJ bp
  by_cases fQ:c5.bN xs.length 0 lo=0/\c5.bN xs.length xs.length hi=xs.length
  .refine SF pins s σ H _ v fk fl lo hi b6 Q I aW ab cX pu ⟨a,xs,rfl,k,fQ,?_⟩;rw[Den.tV,IE (by rw[r.length];exact fQ)]at hw
   exact hw _ G H (Ext.refl oJ) bp
  .refine SI pins s σ H _ v fk fl lo hi b6 Q I aW ab cX pu ⟨a,xs,rfl,k,fQ,λp aE=>?_⟩
   rw[Den.tV]at hw;exact hw _ (upd G p (.tup (kD xs lo hi))) _ (Ext.put oJ aE) ⟨p,_,rfl,dF,(Ax r lo hi).mono (fV (oJ.free aE))⟩
 |lst ds =>
  obtain⟨a,xs,rfl,k,r⟩:=kn bp;refine SG pins s σ H _ v fk fl lo hi b6 Q I aW ab cX pu ⟨a,xs,rfl,k,λp aE=>?_⟩
  rw[Den.Fe]at hw;exact hw _ G _ (Ext.own oJ aE) ⟨p,_,rfl,dF,aE,oJ.free aE,Ax r lo hi⟩
 |_=>exact hw.elim
def SH{d:D}{lo hi:Option Int}{c:Nat}:Den.kh d lo hi≠.exc c:=by cases d<;>simp[Den.kh]
def R5(aA:aP X a (bo xp X ai .view bk))(au:jN X lo (pq xp X ai hs))(cM:jN X hi (pq xp X ai qh)):
  aP X (.Subscript a (.Slice lo hi none b3) pos) (bo xp X ai .fresh λC=>bk C>>=λx=>hs C>>=λl=>qh C>>=λh=>Den.kh x l h):=by
 intro pins s σ H Q I ⟨G,C,ab,hw⟩;refine P1 SE aA au cM pins s σ H Q I ?_;refine⟨G,C,ab,bV (bu.mp hw) (λbb N0 v aI H1 aR aG=>?_) λ_ q=>q⟩
 refine⟨aI,C,ab.ext aR,bV (bu.mp N0) (λl k b9 aY bI=>?_) λ_ q=>q.mono aR.h⟩
 refine⟨b9,C,(ab.ext aR).ext bI,bV (bu.mp k) (λh aQ jM b8 ia=>?_) λ_ q=>(q.mono aR.h).mono bI.h⟩
 refine⟨jM,bb,ia.sub,View.ext ia (View.ext bI aG),?_⟩;exact bV (mD aQ (λc=>SH)) (λd q v4 GD fB UT fi=>q v4 GD fB (((aR.trans bI).trans ia).trans UT) (((fi.old ia.h).old bI.h).old aR.h)) λ_ q=>q
end
end bR
end
section
namespace bR
open PySem PySem.Spec PyProof.Rows bJ
section
variable{prog:Program}{w:World}{A:Around}{E:Value->Shared->Prop}{s:Shared}
noncomputable def zx(prog:Program)(w:World)(A:Around)(af:List Value)(s1:Shared)(Q:Value->Shared->Prop):Prop :=
 ∃(κ:SortKind)(lt:Nat->Nat->Bool),Tm.Ord lt/\(∀i j,i<af.length->j<af.length->af.getD i Value.none=af.getD j Value.none->∀k,lt i k=lt j k/\lt k i=lt k j)/\af.length<1000 /\
   (2<=af.length->∀(h':Heap),(∀b o,s1.heap.get? b=some o->h'.get? b=some o)->∀ig:SortKind->Shared->Prop,ig κ { s1 with heap:=h' }->wpAny (model prog w) A (keyKind' af.toArray) ig (λ_ _=>False) { s1 with heap:=h' }) /\
   (2<=af.length->∀(h':Heap),(∀b o,s1.heap.get? b=some o->h'.get? b=some o)->∀(i j:Nat)(bD:Bool->Shared->Prop),i<af.length->j<af.length->bD (lt i j) { s1 with heap:=h' }->PySem.W.kas_ask prog w A κ af i j bD { s1 with heap:=h' }) /\
   ∀p:List Nat,p.Perm (List.range af.length)->p.Pairwise (λi j=>lt j i=false)->∀(h':Heap)(c:Nat),(∀b o,s1.heap.get? b=some o->h'.get? b=some o)->h'.get? s1.heap.objs.size=some (seqObj "list" (p.map λi=>af.getD i Value.none).toArray c)->Q (.ref s1.heap.objs.size) { s1 with heap:=h' }
def yK{src:Value}{Q:Value->Shared->Prop}(aj:wpAny (model prog w) A.in1 (collect src) (λaf s1=>zx prog w A.in1.in1 af s1 Q) (λ_ _=>False) s):wpAny (model prog w) A (call (.builtin "sorted") [src]) Q E s:=by
 refine Calls.call_function_entry kind_sorted plain_sorted entry_sorted (args_sorted1 _) ?_;unfold Builtin.«sorted»;refine VW (m:=checkCount "sorted" 1 1 _) (wpAny_pure ?_);refine VW (WY aj (λaf s1 ah=>?_) λ_ _ z=>z.elim)
 obtain⟨κ,lt,oA,aT,LD,aw,LW,aK⟩:=ah;refine VW (Z9 ?_ (by rw[sizeLine_eq];omega))
 have sT:(s1.heap.push (seqObj "list" af.toArray 0)).get? s1.heap.objs.size=some (seqObj "list" af.toArray 0):=Wc _ rfl;have keep:∀{h':Heap},(∀b o,b≠s1.heap.objs.size->(s1.heap.push (seqObj "list" af.toArray 0)).get? b=some o->h'.get? b=some o)->∀b o,s1.heap.get? b=some o->h'.get? b=some o:=λfS b o q =>
  fS b o (Wn (Wb q)) (VY _ q)
 show wpAny _ _ _ _ _ { s1 with heap:=s1.heap.push (seqObj "list" af.toArray 0) };refine VW (Xc (W8 slot_list_sort ⟨_,sT,rfl⟩ entry_list_sort ?body (args_list_sort _)))
 case body =>
  refine Tm.Oj (s:={ s1 with heap:=s1.heap.push (seqObj "list" af.toArray 0) }) (κ:=κ) (lt:=lt) oA aT sT LD (λaa h' k ig q=>?_) (λaa h' k=>LW aa h' (keep k)) λp bj b3 h' c k a8=>?_
  .exact WY (aw aa h' (keep k) ig q) (λ_ _ z=>z) λ_ _ z=>z.elim
  .exact⟨_,rfl,wpAny_pure ⟨_,rfl,aK p bj b3 h' c (keep k) a8⟩⟩
end
noncomputable abbrev jD(c:List Int):D:=bt.aM c
def ints_of{ds:List D}(h:ds.all (Den.fp 0)=true):∃ns:List Int,ds=ns.map Den.D.int:=tj h
theorem ub:∀{ds:List D},ds.all Den.oN=true->∃aq:List (List Int),ds=aq.map jD/\∀k∈aq,k≠[]
 |[],_=>⟨[],rfl,by simp⟩
 |d::ds,h=>by
  simp only[List.all_cons,VX]at h;obtain⟨aq,rfl,aw⟩:=ub h.2;cases d with
  |tup xs =>
   cases xs with
   |nil=>cases h.1
   |cons x xs =>
    have J:(Den.fp 0 x&&xs.all (Den.fp 0))=true:=h.1;have J:(x::xs).all (Den.fp 0)=true:=J;obtain⟨ns,e⟩:=tj J;refine⟨ns::aq,by rw[e];rfl,λk fS=>?_⟩
    rcases V2.mp fS with rfl|fS
    .rintro rfl;cases e
    .exact aw k fS
  |_=>cases h.1
section
variable{X:aS}{pins:List (Addr×Obj)}{σ:bW}{G H:ax}{s:Shared}
theorem y2(I:Inv X pins σ H s)(ab:bQ G H):∀{aq:List (List Int)}{xs:List V}{us:List Value},(∀k∈aq,k≠[])->bG X.K G (aq.map jD) xs->Vals xs us->eY.fN s.heap us aq
 |[],_,_,_,r,v=>by cases r;cases v;exact trivial
 |k::aq,_,_,az,⟨x,t,e,aG,a5⟩,v=>by
  subst e;cases v with
  |cons v1 v2 =>
   obtain⟨a,ys,rfl,h,q⟩:=aG;cases v1;obtain⟨its,b4,⟨o,ay,aj,n,hd⟩,_⟩:=I.tuple (iC ab h);rw[jB q]at b4;exact⟨⟨a,o,its.toArray,n,rfl,ay,aj,hd,by simpa using intsAre_of b4,az k List.mem_cons_self⟩,y2 I ab (λz hz=>az z (List.mem_cons_of_mem _ hz)) a5 v2⟩
theorem Ad:∀{ds:List D},ds.all Den.nB=true->∃cs:List (List (List Int)),ds=cs.map bt.p0/\(∀c∈cs,c≠[])/\∀c∈cs,∀k∈c,k≠[]
 |[],_=>⟨[],rfl,by simp,by simp⟩
 |d::ds,h=>by
  simp only[List.all_cons,VX]at h;obtain⟨cs,rfl,J,aa⟩:=Ad h.2;cases d with
  |tup xs =>
   cases xs with
   |nil=>cases h.1
   |cons x xs =>
    have aL:(x::xs).all Den.oN=true:=h.1;obtain⟨c,e,a7⟩:=ub aL;refine⟨c::cs,by rw[e];rfl,λk aw=>?_,λk aw=>?_⟩
    .rcases V2.mp aw with rfl|aw
     .rintro rfl;cases e
     .exact J k aw
    .rcases V2.mp aw with rfl|aw
     .exact a7
     .exact aa k aw
  |_=>cases h.1
theorem FW(I:Inv X pins σ H s)(ab:bQ G H):∀{cs:List (List (List Int))}{xs:List V}{us:List Value},(∀c∈cs,c≠[])->(∀c∈cs,∀k∈c,k≠[])->bG X.K G (cs.map bt.p0) xs->Vals xs us->eY.ih s.heap us cs
 |[],_,_,_,_,r,v=>by cases r;cases v;exact trivial
 |c::cs,_,_,az,hm,⟨x,t,e,aG,a5⟩,v=>by
  subst e;cases v with
  |cons v1 v2 =>
   obtain⟨a,ys,rfl,h,q⟩:=aG;cases v1;obtain⟨its,b4,⟨o,ay,aj,n,hd⟩,_⟩:=I.tuple (iC ab h);exact⟨⟨a,o,its.toArray,n,rfl,ay,aj,hd,by simpa using y2 I ab (hm c List.mem_cons_self) q b4,az c List.mem_cons_self⟩,FW I ab (λz hz=>az z (List.mem_cons_of_mem _ hz)) (λz hz=>hm z (List.mem_cons_of_mem _ hz)) a5 v2⟩
theorem Ex{K:W.Frag}{ds:List D}{xs:List V}{us:List Value}(r:bG K G ds xs)(v:Vals xs us):∀{p:List Nat},(∀i∈p,i<ds.length) ->
  ∃ys,bG K G (p.map λi=>ds.getD i .cU) ys/\Vals ys (p.map λi=>us.getD i Value.none)
 |[],_=>⟨[],rfl,.nil⟩
 |i::p,h=>by
  obtain⟨ys,J,aa⟩:=Ex r v (p:=p) λj aB=>h j (List.mem_cons_of_mem _ aB)
  have hi:=h i List.mem_cons_self;have e:ds[i]?=some (ds.getD i .cU):=by rw[V5 hi];simp[List.getD,V5 hi]
  obtain⟨y,a0,aQ⟩:=r.get e;obtain⟨u,bq,bY⟩:=v.get a0;have av:us.getD i Value.none=u:=by simp[List.getD,bq]
  exact⟨y::ys,⟨y,ys,rfl,aQ,J⟩,by rw[List.map_cons,av];exact .cons bY aa⟩
def yx{K:W.Frag}{κ:Type}{f:κ->D}{lt:κ->κ->Bool}(L:bt.gD lt)(hf:∀a b,Den.ka (f a) (f b)=some (lt a b))(z:κ){aq:List κ}{xs:List V}{us:List Value}(r:bG K G (aq.map f) xs)(v:Vals xs us){p:List Nat}(J:p.Perm (List.range us.length))(aa:p.Pairwise (λi j=>eY.ltI lt z aq j i=false)):
  ∃ys,bG K G (Den.gi (aq.map f)) ys/\Vals ys (p.map λi=>us.getD i Value.none):=by
 have au:us.length=aq.length:=by rw[<- v.length,<- r.length,List.length_map]
 rw[au]at J;rw[bt.my hf,<- eY.SR L z aq J aa,List.map_map];obtain⟨ys,a0,aQ⟩:=Ex r v (p:=p) λi hi=>by
  have:=J.mem_iff.mp hi;rw[List.length_map];simpa using this
 refine⟨ys,?_,aQ⟩;have e:(p.map λi=>(aq.map f).getD i .cU)=p.map (f ∘ λi=>aq.getD i z):=by
  apply Xx;intro i hi;have hi:i<aq.length:=by simpa using J.mem_iff.mp hi
  simp[List.getD,Wg,V5 hi]
 rw[<- e];exact a0
def yJ{Q:c2}{ds:List D}{xs:List V}{us:List Value}(cM:X.A.handled=none)(bO:X.A.units+64<cLine)(I:Inv X pins σ H s)(ab:bQ G H)(r:bG X.K G ds xs)(v:Vals xs us)(iT:(Den.hY ds||ds.all Den.nB)=true)(gc:ds.length<=255)(k:∀v aO ao,Ext G H aO ao->cx X.K H aO ao .fresh (.lst (Den.gi ds)) v->Q v ao):zx X.prog X.w X.A.in1.in1 us s (es X pins σ Q):=by
 have hlen:us.length=ds.length:=by rw[<- v.length,<- r.length]
 have fin:∀{out:List Value}{ys:List V}(h':Heap)(c:Nat),bG X.K G (Den.gi ds) ys->Vals ys out->out.length=us.length->(∀b o,s.heap.get? b=some o->h'.get? b=some o)->h'.get? s.heap.objs.size=some (seqObj "list" out.toArray c)->es X pins σ Q (.ref s.heap.objs.size) { s with heap:=h' }:=λ{out ys} h' c gy Gk ay aw a8=>by
  refine⟨.ref s.heap.objs.size,_,I.laid (t':=s.toks) (o:=.lst ys) aw (VZ _) ⟨by rw[Gk.length,ay,hlen,sizeLine_eq];omega,out,c,Gk,a8⟩,rfl,?_⟩
  exact k _ G _ (Ext.own ab I.fresh) ⟨_,ys,rfl,dF,I.fresh,ab.free I.fresh,gy⟩
 have xE:∀{p:List Nat},p.Perm (List.range us.length)->(p.map λi=>us.getD i Value.none).length=us.length:=λh=>by rw[List.length_map,h.length_eq,List.length_range]
 unfold Den.hY at iT;rw[XE,XE]at iT;rcases iT with(h|h)|h
 .obtain⟨ns,rfl⟩:=ints_of h;have ck:IntsAre us ns:=by rw[jB r]at v;exact intsAre_of v
  refine⟨oneType',eY.ltI bt.ltI 0 ns,eY.x9 bt.j9 0 ns,eY.x6 (eY.NO ck),by omega,λaa h' _ ig q=>eY.NV ck aa q,λaa h' _ i j bD hi aB q=>eY.Hm ck i j bD hi aB q,λp bj b3 h' c aw a8=>?_⟩
  obtain⟨ys,a0,aQ⟩:=yx bt.j9 (f:=Den.D.int) (λ_ _=>rfl) 0 r v bj b3
  exact fin h' c a0 aQ (xE bj) aw a8
 .obtain⟨aq,rfl,en⟩:=ub h;have c3:=y2 I ab en r v;refine⟨tuples' true,eY.ltI bt.lexLt [] aq,eY.x9 bt.k1 [] aq,eY.x6 (eY.NT c3),by omega,λaa h' k ig q=>eY.NW (s:={ s with heap:=h' }) (c3.kept k) aa q,λaa h' k i j bD hi aB q=>eY.Hn (s:={ s with heap:=h' }) (c3.kept k) i j bD hi aB q,λp bj b3 h' c aw a8=>?_⟩
  obtain⟨ys,a0,aQ⟩:=yx bt.k1 (f:=jD) (λa b=>bt.q7 a b) [] r v bj b3
  exact fin h' c a0 aQ (xE bj) aw a8
 .obtain⟨aq,rfl,en,Mz⟩:=Ad h;have c3:=FW I ab en Mz r v;refine⟨tuples' false,eY.ltI bt.fx [] aq,eY.x9 bt.C5 [] aq,eY.x6 (eY.NU c3),by omega,λaa h' k ig q=>eY.NX (s:={ s with heap:=h' }) (c3.kept k) aa q,λaa h' k i j bD hi aB q=>eY.Ho (s:={ s with heap:=h' }) (by show X.A.units+1+1+2<cLine;omega) (c3.kept k) i j bD hi aB q,λp bj b3 h' c aw a8=>?_⟩
  obtain⟨ys,a0,aQ⟩:=yx bt.C5 (f:=bt.p0) (λa b=>bt.Ot a b) [] r v bj b3
  exact fin h' c a0 aQ (xE bj) aw a8
end
section
variable{xp:cq}{X:aS}{ai:List Nat}{m:et}{f:a6->bw D}{e:Expr}{pos pos' p fz:Pos}
def UO{ds:List D}{Q:D->Prop}{E:Nat->Prop}(h:cV (Den.sorted ds) Q E):(Den.hY ds||ds.all Den.nB)=true/\ds.length<=255/\Q (.lst (Den.gi ds)):=by
 unfold Den.sorted at h;cases q:((Den.hY ds||ds.all Den.nB)&&decide (ds.length<=255)) with
 |false=>rw[q]at h;exact h.elim
 |true =>
  rw[q]at h;rw[VX,Wh]at q;exact⟨q.1,q.2,h⟩
def KV(aj:X.calm=true)(bO:X.A.units+64<cLine):hh X (.builtin "sorted") (mv X.K .fresh λd=>Den.fj d>>=λxs=>Den.sorted xs):=by
 intro pins s σ H xs us Q I r ⟨G,x,d,ex,ab,bp,hw⟩;subst ex;obtain⟨u,rfl,aW⟩:=vals1 r;obtain⟨ds,a,ys,rfl,aK,rs,hw⟩:=EZ ab bp (bu.mp hw);obtain⟨iT,gc,hw⟩:=UO hw;have cM:X.A.handled=none:=I.ok.hd aj;cases aW;rcases aK with aK|aK
 .obtain⟨its,b4,cX,hz⟩:=I.list aK;refine yK (collect_list cX.isList ?_ (by rw[<- b4.length];exact hz))
  have bg:Inv X pins σ H { s with heap:=(s.heap.push (seqObj "list" #[] 0)).update s.heap.objs.size (Obj.mapSeq (·++its.toArray)) }:=I.kept (t':=s.toks) λb o q=>(W9 _ _ (Xr (Wn (Wb q)))).trans (VY _ q)
  exact yJ cM bO bg ab rs b4 iT gc hw
 .obtain⟨its,b4,cX,hz⟩:=I.tuple aK;refine yK (Pv.Ir (show s.heap.IsTuple a its.toArray from cX) ?_ (by rw[<- b4.length];exact hz))
  have bg:Inv X pins σ H { s with heap:=(s.heap.push (seqObj "list" #[] 0)).update s.heap.objs.size (Obj.mapSeq (·++its.toArray)) }:=I.kept (t':=s.toks) λb o q=>(W9 _ _ (Xr (Wn (Wb q)))).trans (VY _ q)
  exact yJ cM bO bg ab rs b4 iT gc hw
end
end bR
end
section
namespace bR
open PySem PySem.Spec PyProof.Rows bJ
structure dV(K:W.Frag)(ai:List Nat)(cw bH G H:ax)(C:a6)(σ:bW):Prop where
 df:el K ai G H C σ
 ext:Ext cw bH G H
 own:∀(i:Nat)(d:D)(a:Addr),C[i]?=some (some d)->gv d=true->i∈ai->σ[i]?=some (some (V.ref a))->bH a=none
noncomputable def lX(K:W.Frag)(ai:List Nat)(cw bH:ax)(T:Ends):Den.fb->Prop
 |.cg C=>∀σ G H,dV K ai cw bH G H C σ->T.cg σ H
 |.dR d=>∀v G H,Ext cw bH G H->Rep K G d v->T.dR v H
noncomputable def ei(xp:cq)(X:aS)(ai:List Nat)(f:a6->bw Den.fb):gT:=λT σ H =>
 ∃cw bH G C,dV X.K ai cw bH G H C σ/\cV (f C) (lX X.K ai cw bH T) (λc=>fL xp X c bH)
def eG{α:Type}{l:List α}{i j:Nat}{a:α}(h:i≠j):(l.set i a)[j]?=l[j]?:=YW h
def get_eq{α:Type}{l:List α}{i:Nat}{a b:α}(h:(l.set i a)[i]?=some b):i<l.length/\b=a:=by
 rw[List.getElem?_set_self']at h;cases q:l[i]? with
 |none=>rw[q]at h;cases h
 |some c=>rw[q]at h;exact⟨(Wl.mp q).1,(WE h).symm⟩
def yD{α:Type}{l:List α}{i:Nat}{a:α}(h:i<l.length):(l.set i a)[i]?=some a:=by simp[h]
section
variable{K:W.Frag}{ai:List Nat}{cw bH G H aO ao:ax}{C:a6}{σ:bW}{i:Nat}{d:D}{v:V}
def el.rD(h:el K ai G H C σ)(hm:i∉ai)(r:Rep K G d v):el K ai G H (C.set i (some d)) (σ.set i (some v)) where
 len:=by rw[XF,XF];exact h.len
 sub:=h.sub
 val:=λj e q aB=>by
  by_cases c:i=j
  .subst c;obtain⟨J,aa⟩:=get_eq q;cases aa;exact⟨v,yD (by rw[<- h.len];exact J),r⟩
  .rw[eG c]at q ⊢;exact h.val j e q aB
 own:=λj e q aB au=>by
  have c:i≠j:=λz=>hm (z▸aB)
  rw[eG c]at q ⊢;exact h.own j e q aB au
 lst:=λj e q aB au=>by
  have c:i≠j:=λz=>hm (z▸aB)
  rw[eG c]at q;obtain⟨a,o,J,aa⟩:=h.lst j e q aB au;exact⟨a,o,by rw[eG c];exact J,aa⟩
 dZ:=h.dZ
 apart:=λj k d e a b aN ba cB dd aB aw ne ak av=>by
  have c:i≠j:=λz=>hm (z▸aB)
  have cy:i≠k:=λz=>hm (z▸aw)
  rw[eG c]at aN ak;rw[eG cy]at ba av;exact h.apart j k d e a b aN ba cB dd aB aw ne ak av
def el.set_own(h:el K ai G H C σ)(hm:i∈ai)(au:gv d=false)(r:Rep K G d v):el K ai G H (C.set i (some d)) (σ.set i (some v)) where
 len:=by rw[XF,XF];exact h.len
 sub:=h.sub
 val:=λj e q aB=>by
  have c:i≠j:=λz=>aB (z▸hm)
  rw[eG c]at q ⊢;exact h.val j e q aB
 own:=λj e q aB hle=>by
  by_cases c:i=j
  .subst c;obtain⟨J,aa⟩:=get_eq q;cases aa;exact⟨v,yD (by rw[<- h.len];exact J),r⟩
  .rw[eG c]at q ⊢;exact h.own j e q aB hle
 lst:=λj e q aB hle=>by
  by_cases c:i=j
  .subst c;obtain⟨J,aa⟩:=get_eq q;cases aa;rw[au]at hle;cases hle
  .rw[eG c]at q;obtain⟨a,o,J,aa⟩:=h.lst j e q aB hle;exact⟨a,o,by rw[eG c];exact J,aa⟩
 dZ:=h.dZ
 apart:=λj k d e a b aN ba cB dd aB aw ne ak av=>by
  have c:i≠j:=λz=>by subst z;obtain⟨J,aa⟩:=get_eq aN;cases aa;rw[au]at cB;cases cB
  have cy:i≠k:=λz=>by subst z;obtain⟨J,aa⟩:=get_eq ba;cases aa;rw[au]at dd;cases dd
  rw[eG c]at aN ak;rw[eG cy]at ba av;exact h.apart j k d e a b aN ba cB dd aB aw ne ak av
def el.Ss {a : Addr} {o : dz} {d : D} (h : el K ai G H C σ) (hm : i ∈ ai) (fg : gv d = true) (gu : H a = some o) (kP : G a = none) (r : jc K G d o)
    (az : ∀ (j : Nat) (e : D), j ≠ i -> j ∈ ai -> gv e = true -> C[j]? = some (some e) -> σ[j]? ≠ some (some (V.ref a))) : el K ai G H (C.set i (some d)) (σ.set i (some (.ref a))) where
  len := by rw [XF, XF]; exact h.len
  sub := h.sub
  val := fun j e q aB => by
    have c : i ≠ j := fun z => aB (z ▸ hm)
    rw [eG c] at q ⊢; exact h.val j e q aB
  own := fun j e q aB hle => by
    by_cases c : i = j
    · subst c
      obtain ⟨J, aa⟩ := get_eq q
      cases aa
      rw [fg] at hle; cases hle
    · rw [eG c] at q ⊢; exact h.own j e q aB hle
  lst := fun j e q aB hle => by
    by_cases c : i = j
    · subst c
      obtain ⟨J, aa⟩ := get_eq q
      cases aa
      exact ⟨a, o, yD (by rw [<- h.len]; exact J), gu, kP, r⟩
    · rw [eG c] at q
      obtain ⟨b, bC, J, aa⟩ := h.lst j e q aB hle
      exact ⟨b, bC, by rw [eG c]; exact J, aa⟩
  dZ := h.dZ
  apart := fun j k e f b hL aN ba cB dd aB aw ne ak av => by
    by_cases c : i = j
    · subst c
      have cy : i ≠ k := ne
      obtain ⟨J, aa⟩ := get_eq ak
      cases aa
      rw [eG cy] at ba av
      intro z
      exact az k f (Xr cy) aw dd ba (by rw [z]; exact av)
    · by_cases cy : i = k
      · subst cy
        obtain ⟨J, aa⟩ := get_eq av
        cases aa
        rw [eG c] at aN ak
        intro z
        exact az j e (Xr c) aB cB aN (by rw [<- z]; exact ak)
      · rw [eG c] at aN ak
        rw [eG cy] at ba av
        exact h.apart j k e f b hL aN ba cB dd aB aw ne ak av
def jc.nt{o:dz}:∀{d:D},jc K G d o->∀xs,o≠.tup xs
 |.lst _,⟨_,e,_⟩,_,z=>by rw[e]at z;cases z
 |.bT _,e,_,z=>by rw[show o=_ from e]at z;cases z
 |.bx _,⟨_,e,_⟩,_,z=>by rw[e]at z;cases z
def dV.step(h:dV K ai cw bH G H C σ)(x:Ext G H aO ao):dV K ai cw bH aO ao C σ:=⟨h.df.ext x,h.ext.trans x,h.own⟩
theorem dV.rD(h:dV K ai cw bH G H C σ)(hm:i∉ai)(r:Rep K G d v):dV K ai cw bH G H (C.set i (some d)) (σ.set i (some v)) :=
 ⟨h.df.rD hm r,h.ext,λj e a q fg aB z=>by
  have c:i≠j:=λz=>hm (z▸aB)
  rw[eG c]at q z;exact h.own j e a q fg aB z⟩
def dV.rC{a:Addr}{o:dz}(h:dV K ai cw bH G H C σ)(x:Ext G H aO ao)(hm:i∈ai)(fg:gv d=true)(J:ao a=some o)(aa:H a=none)(aL:aO a=none)(r:jc K aO d o):dV K ai cw bH aO ao (C.set i (some d)) (σ.set i (some (.ref a))):=by
 have h':=h.step x;refine⟨h'.df.Ss hm fg J aL r λj e aB w0 he q z=>?_,h'.ext,λj e b q he aB z=>?_⟩
 .obtain⟨b,bC,a0,aQ,bq,bY⟩:=h.df.lst j e q w0 he;rw[a0]at z;cases z;rw[aa]at aQ;cases aQ
 .by_cases c:i=j
  .subst c;obtain⟨_,w⟩:=get_eq z;cases w;exact h.ext.h.free aa
  .rw[eG c]at q z;exact h.own j e b q he aB z
def dV.E3(h:dV K ai cw bH G H C σ)(x:Ext G H aO ao)(hm:i∈ai)(r:cx K H aO ao .fresh d v):dV K ai cw bH aO ao (C.set i (some d)) (σ.set i (some v)):=by
 have go:gv d=false->Rep K aO d v->dV K ai cw bH aO ao (C.set i (some d)) (σ.set i (some v)):=λfg r=>by
  refine⟨(h.step x).df.set_own hm fg r,(h.step x).ext,λj e b q he aB z=>?_⟩
  by_cases c:i=j
  .subst c;obtain⟨_,w⟩:=get_eq q;cases w;rw[fg]at he;cases he
  .rw[eG c]at q z;exact h.own j e b q he aB z
 cases d with
 |lst ds =>
  obtain⟨a,xs,rfl,J,aa,aL,a7⟩:=r;exact h.rC x hm rfl J aa aL ⟨xs,rfl,a7⟩
 |bT ar=>exact r.elim
 |bx ar=>exact r.elim
 |_=>exact go rfl r
def dV.write {a : Addr} {bC : dz} {d e : D} (h : dV K ai cw bH G H C σ) (hm : i ∈ ai) (q : C[i]? = some (some d)) (hd : gv d = true) (he : gv e = true) (z : σ[i]? = some (some (V.ref a))) (kP : G a = none) (r : jc K G e bC) :
    dV K ai cw bH G (upd H a bC) (C.set i (some e)) σ := by
  have h0 : bH a = none := h.own i d a q hd hm z
  have hi : i < C.length := (Wl.mp q).1
  have other : ∀ (j : Nat) (f : D), j ≠ i -> j ∈ ai -> gv f = true -> C[j]? = some (some f) -> σ[j]? ≠ some (some (V.ref a)) := fun j f aB w0 hf QQ kI => h.df.apart j i f d a a QQ q hf hd w0 hm aB kI z rfl
  have Fw : bQ G (upd H a bC) := fun b o z => by
    have : b ≠ a := fun w => by rw [w, kP] at z; cases z
    rw [c8 this]; exact h.df.sub b o z
  have Fh : el K ai G (upd H a bC) (C.set i (some e)) σ := by
    refine ⟨by rw [XF]; exact h.df.len, Fw, fun j f dv aB => ?_, fun j f dv aB au => ?_, fun j f dv aB au => ?_, fun b xs w => ?_, fun j k f g b hL aN ba cB dd aB aw ne ak av => ?_⟩
    · have c : i ≠ j := fun z => aB (z ▸ hm)
      rw [eG c] at dv; exact h.df.val j f dv aB
    · by_cases c : i = j
      · subst c
        obtain ⟨_, w⟩ := get_eq dv
        cases w
        rw [he] at au; cases au
      · rw [eG c] at dv; exact h.df.own j f dv aB au
    · by_cases c : i = j
      · subst c
        obtain ⟨_, w⟩ := get_eq dv
        cases w
        exact ⟨a, bC, z, dF, kP, r⟩
      · rw [eG c] at dv
        obtain ⟨b, bX, a0, aQ, bq, bY⟩ := h.df.lst j f dv aB au
        have : b ≠ a := fun w => other j f (Xr c) aB au dv (by rw [a0, w])
        exact ⟨b, bX, a0, by rw [c8 this]; exact aQ, bq, bY⟩
    · by_cases c : b = a
      · subst c; rw [dF] at w; cases w; exact absurd rfl (r.nt xs)
      · rw [c8 c] at w; exact h.df.dZ b xs w
    · have full : ∀ (k : Nat) (g : D), gv g = true -> (C.set i (some e))[k]? = some (some g) -> ∃ g', gv g' = true /\ C[k]? = some (some g') := fun k g a8 z => by
        by_cases c : i = k
        · subst c; exact ⟨d, hd, q⟩
        · rw [eG c] at z; exact ⟨g, a8, z⟩
      obtain ⟨Bc, gw, o8⟩ := full j f cB aN
      obtain ⟨g', hC, iy⟩ := full k g dd ba
      exact h.df.apart j k Bc g' b hL o8 iy gw hC aB aw ne ak av
  refine ⟨Fh, ⟨h.ext.g, fun b o z => ?_, Fw, h.ext.new, fun b xs w => .inr (Fh.dZ b xs w)⟩, fun j f b dv hf aB kI => ?_⟩
  · have : b ≠ a := fun w => by rw [w, h0] at z; cases z
    rw [c8 this]; exact h.ext.h b o z
  · by_cases c : i = j
    · subst c; rw [z] at kI; cases kI; exact h0
    · rw [eG c] at dv; exact h.own j f b dv hf aB kI
end
section
variable{xp:cq}{X:aS}{ai:List Nat}{m:et}{f bk cz cI:a6->bw D}{g g1 g2:a6->bw Den.fb}{a b c e dk:Expr}{ag:List Expr}{pos bj b3 ef ix:Pos}{st:Stmt}{rG eA cK:List Stmt}{i:Nat}{x:Str}
def EM(hm:i∉ai)(aZ:X.N.Nodup)(hi:X.N[i]?=some x)(ah:Loc X.env.scope x)(he:aP X e (bo xp X ai .val f))(ab:swapsWith e (some (.Name x bj)) pos.line X.env=pure false)(hf:X.fn x=true\/X.env.scope.names.lookup x=some .local):
  eD X (.Assign [.Name x bj] e pos) (ei xp X ai λC=>f C>>=λd=>.ok (.cg (C.set i (some d)))):=by
 intro pins s σ H T I ⟨cw,bH,G,C,ae,hw⟩;refine tH aZ hi ah he ab hf pins s σ H T I ?_;refine⟨G,C,ae.df,bV (bu.mp hw) (λd k v aI H1 aR aG=>?_) λ_ q=>q.mono ae.ext.h⟩
 exact k _ aI H1 ((ae.step aR).rD hm aG)
def EN(hm:i∈ai)(aZ:X.N.Nodup)(hi:X.N[i]?=some x)(ah:Loc X.env.scope x)(he:aP X e (bo xp X ai .fresh f))(ab:swapsWith e (some (.Name x bj)) pos.line X.env=pure false)(hf:X.fn x=true\/X.env.scope.names.lookup x=some .local):
  eD X (.Assign [.Name x bj] e pos) (ei xp X ai λC=>f C>>=λd=>.ok (.cg (C.set i (some d)))):=by
 intro pins s σ H T I ⟨cw,bH,G,C,ae,hw⟩;refine tH aZ hi ah he ab hf pins s σ H T I ?_;refine⟨G,C,ae.df,bV (bu.mp hw) (λd k v aI H1 aR aG=>?_) λ_ q=>q.mono ae.ext.h⟩
 exact k _ aI H1 (ae.E3 aR hm aG)
def RZ(he:aP X e (bo xp X ai .val f)):eD X (.Return (some e) pos) (ei xp X ai λC=>f C>>=λd=>.ok (.dR d)):=by
 intro pins s σ H T I ⟨cw,bH,G,C,ae,hw⟩;refine yk he pins s σ H T I ?_;refine⟨G,C,ae.df,bV (bu.mp hw) (λd k v aI H1 aR aG=>?_) λ_ q=>q.mono ae.ext.h⟩
 exact k v aI H1 (ae.ext.trans aR) aG
def R1(hm:i∈ai)(aZ:X.N[i]?=some x)(aT:gn X.env.scope x)(J:(x==("__debug__":Str))=false)(aa:(x==("__classdict__":Str))=false):
  eD X (.Return (some (.Name x bj)) pos) (ei xp X ai λC=>Den.th C[i]?>>=λd=>.ok (.dR d)):=by
 intro pins s σ H T I ⟨cw,bH,G,C,ae,hw⟩;refine yk (h2 aZ aT J aa) pins s σ H T I ?_;dsimp only at hw;have key:∀ds,C[i]?=some (some (.lst ds))->lX X.K ai cw bH T (.dR (.lst ds))->mA i σ H T.dR:=λds q hw=>by
  obtain⟨a,o,a0,aQ,bq,xs,rfl,bY⟩:=ae.df.lst i (.lst ds) q hm rfl;refine⟨_,a0,?_⟩;have h0:bH a=none:=ae.own i (.lst ds) a q rfl hm a0;refine hw _ (upd G a (.lst xs)) H ⟨ae.ext.g.trans (fV bq),ae.ext.h,λb o z=>?_,λb cQ cp=>?_,λb xs z=>.inr (fV bq _ _ (ae.df.dZ b xs z))⟩ ⟨a,xs,rfl,.inl (.inl dF),bY.mono (fV bq)⟩
  .by_cases c:b=a
   .subst c;rw[dF]at z;rw[aQ];exact z
   .rw[c8 c]at z;exact ae.df.sub b o z
  .have:b≠a:=λw=>cp (by rw[w];exact h0)
   rw[c8 this];exact ae.ext.new b cQ cp
 cases q:C[i]? with
 |none=>rw[q]at hw;exact hw.elim
 |some o =>
  cases o with
  |none=>rw[q]at hw;exact hw.elim
  |some d =>
   rw[q]at hw;cases d with
   |lst ds=>exact key ds q hw
   |_=>exact hw.elim
noncomputable def Sn(g1 g2:a6->bw Den.fb):a6->bw Den.fb:=λC=>g1 C>>=λr=>match r with
 |.cg c0=>g2 c0
 |.dR d=>.ok (.dR d)
def R6:gS X [] (ei xp X ai λC=>.ok (.cg C)):=by
 intro pins s σ H T I ⟨cw,bH,G,C,ae,hw⟩;exact QG pins s σ H T I (hw σ G H ae)
def R4(J:eD X st (ei xp X ai g1))(aa:gS X rG (ei xp X ai g2)):gS X (st::rG) (ei xp X ai (Sn g1 g2)):=by
 intro pins s σ H T I ⟨cw,bH,G,C,ae,hw⟩;refine QF J aa pins s σ H T I ?_;refine⟨cw,bH,G,C,ae,bV (bu.mp hw) (λr k=>?_) λ_ q=>q⟩
 cases r with
 |cg c0=>exact λdG aO ao hT=>⟨cw,bH,aO,c0,hT,k⟩
 |dR d=>exact k
def RM(aj:dx X c (fs xp X ai cI))(aA:gS X eA (ei xp X ai g1))(ae:gS X cK (ei xp X ai g2)):eD X (.If c eA cK pos) (ei xp X ai λC=>cI C>>=λx=>Den.fe x>>=λk=>if k then g1 C else g2 C):=by
 intro pins s σ H T I ⟨cw,bH,G,C,iS,hw⟩;refine QE aj aA ae pins s σ H T I ?_;refine⟨G,C,iS.df,?_⟩;refine bu.mpr (bV (bu.mp hw) (λd k=>bV (bu.mp k) (λdj q aI H1 aR=>?_) λ_ q=>q.mono iS.ext.h) λ_ q=>q.mono iS.ext.h)
 cases dj with
 |true=>simp only[WN]at q ⊢;exact⟨cw,bH,aI,C,iS.step aR,q⟩
 |false=>simp only[V1,Wm]at q ⊢;exact⟨cw,bH,aI,C,iS.step aR,q⟩
end
end bR
end
section
namespace bR
open PySem PySem.Spec PyProof.Rows bJ
theorem qV{prog:Program}{w:World}:∀{af:List Value}{k:List Int},IntsAre af k->ItemsAre (intKind prog w) k af
 |_,_,.nil=>.nil
 |_,_,.cons n t r=>.cons (Pv.qR prog w n t) (qV r)
theorem zK{prog:Program}{w:World}:∀{k:List Int}{af:List Value},ItemsAre (intKind prog w) k af->IntsAre af k
 |_,_,.nil=>.nil
 |_,_,.cons h r=>by
  obtain⟨t,rfl⟩:=Zs h;exact .cons _ t (zK r)
theorem CC:∀{af:List Value}{a b:List Int},IntsAre af a->IntsAre af b->a=b
 |_,_,_,.nil,.nil=>rfl
 |_,_,_,.cons n t r,.cons _ _ q=>by rw[CC r q]
def xQ{κ:Type}[DecidableEq κ](aq:List κ){i:Nat}(h:i<=aq.length):(Pv.met aq i).length<=(bt.dN aq).length :=
 bt.nK (Pv.rf aq i) λz hz=>(bt.k2 z aq).mpr (Y1 ((Pv.tp aq i h z).mp hz))
def E5{κ:Type}[DecidableEq κ]{lt:κ->κ->Bool}(L:bt.gD lt){cP r cT:List κ}(J:cP.Perm r)(aa:r.Perm (Pv.met cT cT.length)):bt.cY lt cP=bt.cY lt (bt.dN cT):=by
 have h:=J.trans aa;have ep:cP.Nodup:=h.nodup_iff.mpr (Pv.rf cT _);refine bt.n9 L (bt.mS L ep) (bt.mS L (bt.oY cT)) λz=>?_
 rw[bt.k3,bt.k3,bt.k2,h.mem_iff,Pv.tp cT _ (VZ _),List.take_length]
def E4{κ:Type}[DecidableEq κ]{cP r cT:List κ}(J:cP.Perm r)(aa:r.Perm (Pv.met cT cT.length)):cP.length<=(bt.dN cT).length:=by
 rw[(J.trans aa).length_eq];exact xQ cT (VZ _)
def Nx{P:Nat->Value->Prop}{acc:Array Value}{l:List Value}(h:ItemsOf P acc l.length)(d4:∀i v,P i v->l[i]?=some v):acc.toList=l:=by
 obtain⟨J,aa⟩:=h;apply XH;intro i
 by_cases hi:i<l.length
 .have dX:i<acc.size:=by omega
  have e:acc[i]?=some acc[i]:=V4 dX;have:=d4 i _ (aa i _ e);rw[this];simpa using e
 .rw[Wu (by simp;omega),Wu (by omega)]
section
variable{X:aS}{pins:List (Addr×Obj)}{σ:bW}{G H:ax}{s:Shared}
noncomputable def uJ(K:W.Frag)(G:ax)(v:Value):Prop:=∃b k,v=.ref b/\Rep K G (jD k) (V.ref b)
theorem EF(I:Inv X pins σ H s)(ab:bQ G H):∀{aq:List (List Int)}{xs:List V}{us:List Value},bG X.K G (aq.map jD) xs->Vals xs us->Paired ((Pv.CJ (uJ X.K G) X.prog X.w).Row s.heap) us aq
 |[],_,_,r,v=>by cases r;cases v;exact .nil
 |k::aq,_,_,⟨x,t,e,aG,a5⟩,v=>by
  subst e;cases v with
  |cons v1 v2 =>
   obtain⟨a,ys,rfl,h,q⟩:=id aG;cases v1;obtain⟨its,b4,⟨o,ay,aj,n,hd⟩,_⟩:=I.tuple (iC ab h);rw[jB q]at b4;exact .cons ⟨a,rfl,⟨o,its.toArray,n,ay,aj,hd,qV (by simpa using intsAre_of b4)⟩,a,k,rfl,aG⟩ (EF I ab a5 v2)
theorem EE:∀{ns:List Int}{us:List Value},IntsAre us ns->Paired (λv (k:Int)=>∃t,v=Value.int k t) us ns
 |_,_,.nil=>.nil
 |_,_,.cons n t r=>.cons ⟨t,rfl⟩ (EE r)
theorem E6(I:Inv X pins σ H s)(ab:bQ G H):∀{ag:List (Int×Value)}{aq:List (List Int)},Paired (λe k=>Pv.ku X.prog X.w s.heap e k/\uJ X.K G e.2) ag aq->∃xs,bG X.K G (aq.map jD) xs/\Vals xs (ag.map (·.2))
 |_,_,.nil=>⟨[],rfl,.nil⟩
 |e::ag,k::aq,.cons ⟨⟨b,ak,_,o,items,n,ay,aj,hd,aw⟩,hL,dj,av,r⟩ t=>by
  obtain⟨xs,aG,a5⟩:=E6 I ab t;rw[ak]at av;injection av with av;subst av;have w3:dj=k:=by
   obtain⟨a,ys,d3,h,q⟩:=id r;cases d3;obtain⟨its,b4,⟨bC,du,_,cE,fE⟩,_⟩:=I.tuple (iC ab h);rw[ay]at du;cases du;rw[hd]at fE;injection fE with cB _;rw[jB q]at b4;have J:=intsAre_of b4;have aa:=zK aw;rw[cB]at aa;exact CC (by simpa using J) (by simpa using aa)
  subst w3;exact⟨V.ref b::xs,⟨_,_,rfl,r,aG⟩,by rw[List.map_cons,ak];exact .cons rfl a5⟩
theorem E7{K:W.Frag}:∀{ag:List (Int×Value)}{aq:List Int},Paired Pv.ks ag aq->∃xs,bG K G (aq.map Den.D.int) xs/\Vals xs (ag.map (·.2))
 |_,_,.nil=>⟨[],rfl,.nil⟩
 |e::ag,k::aq,.cons ⟨_,t,ak⟩ hG=>by
  obtain⟨xs,aG,a5⟩:=E7 (K:=K) hG;exact⟨V.int k::xs,⟨_,_,rfl,rfl,aG⟩,by rw[List.map_cons,ak];exact .cons ⟨t,rfl⟩ a5⟩
end
section
variable{xp:cq}{X:aS}{ai:List Nat}{m:et}{f:a6->bw D}{e:Expr}{pos pos' p fz:Pos}{x y:Str}{pins:List (Addr×Obj)}{σ:bW}{G H:ax}{s:Shared}
def UP{ds:List D}{Q:D->Prop}{E:Nat->Prop}(h:cV (Den.fJ ds) Q E):Den.hY ds=true/\(Den.kE ds).length<=255/\Q (.lst (Den.gi (Den.kE ds))):=by
 unfold Den.fJ at h;cases q:(Den.hY ds&&decide ((Den.kE ds).length<=255)) with
 |false=>rw[q]at h;exact h.elim
 |true =>
  rw[q]at h;simp only[VX,Wh]at q;exact⟨q.1,q.2,h⟩
def Inv.grown(I:Inv X pins σ H s){s':Shared}(g:Pv.rR s s'):Inv X pins σ H s':=by
 obtain⟨h',g',d',pv,rn⟩:=s';obtain⟨k,ak,av,bL⟩:=g;have ak:g'=s.gens:=ak;have av:d'=s.drawn:=av;have bL:rn=s.os:=bL;subst ak av bL;exact I.kept k
def Fo{Q:c2}(cM:X.A.handled=none)(bO:X.A.units+64<cLine)(I:Inv X pins σ H s)(ab:bQ G H){a:Addr}{o:Obj}{ag:Array (Int×Value)}{a4:Nat}{t:SetTable}(ay:s.heap.get? a=some o)(O:Pv.mO X.w o ag a4 t){ds:List D}{xs:List V}(r:bG X.K G ds xs)(v:Vals xs ((Pv.fT X.w a ag a4).toList.map (·.2)))(iT:Den.hY ds=true)(gc:ds.length<=255)(k:∀v aO ao,Ext G H aO ao->cx X.K H aO ao .fresh (.lst (Den.gi ds)) v->Q v ao):wpAny (model X.prog X.w) X.A (call (.builtin "sorted") [.ref a]) (es X pins σ Q) X.cC s:=by
 have hsz:(Pv.fT X.w a ag a4).size=ag.size:=by have:=(Pv.o3 X.w a ag a4).length_eq;simpa using this
 have au:ag.size<=255:=by
  have J:=v.length;have aa:=r.length;simp only[List.length_map,Array.length_toList]at J;omega
 refine yK (Pv.Iq (A:=X.A.in1) cM ay O (by rw[sizeLine_eq];omega) λs' acc g hS=>?_)
 have e:acc.toList=(Pv.fT X.w a ag a4).toList.map (·.2):=by
  refine Nx (P:=λi v=>∃x,(Pv.fT X.w a ag a4)[i]?=some x/\v=x.2) (l:=(Pv.fT X.w a ag a4).toList.map (·.2)) (by simpa[hsz] using hS) λi v aT=>?_
  obtain⟨z,J,aa⟩:=aT;rw[Wg,Wj,J,aa];rfl
 rw[e];exact yJ cM bO (Inv.grown I g) ab r v (by rw[iT];rfl) gc k
def UR {Q : c2} (aj : X.calm = true) (bO : X.A.units + 64 < cLine) (I : Inv X pins σ H s) (ab : bQ G H) {d : D} {z : V} {u : Value} (bp : View X.K G H d z) (aW : RelV z u)
    (hw : cV (Den.fj d >>= fun xs => Den.fJ xs) (fun d' => ∀ v aO ao, Ext G H aO ao -> cx X.K H aO ao .fresh d' v -> Q v ao) (fun _ => False)) :
    wpAny (model X.prog X.w) X.A (call (.type "set") [u]) (fun w s1 => wpAny (model X.prog X.w) X.A (call (.builtin "sorted") [w]) (es X pins σ Q) X.cC s1) X.cC s := by
  obtain ⟨ds, a, ys, rfl, aK, rs, hw⟩ := EZ ab bp (bu.mp hw)
  obtain ⟨iT, gc, hw⟩ := UP hw
  have cM : X.A.handled = none := I.ok.hd aj
  cases aW
  obtain ⟨its, b4, T, bh, fq, nl, c3, j2⟩ : ∃ (its : List Value), Vals ys its /\ ∃ T bh fq nl, (T = "list" \/ T = "tuple") /\ s.heap.get? a = some { cls := .type T, dict := bh, data := .seq its.toArray nl, slots := fq } := by
    rcases aK with aK | aK
    · obtain ⟨its, b4, ⟨⟨cls, dD, data, b6⟩, n, ay, J, _, aL⟩, _⟩ := I.list aK
      simp only at J aL
      subst J aL
      exact ⟨its, b4, "list", dD, b6, n, .inl rfl, ay⟩
    · obtain ⟨its, b4, ⟨⟨cls, dD, data, b6⟩, ay, J, n, aL⟩, _⟩ := I.tuple aK
      simp only at J aL
      subst J aL
      exact ⟨its, b4, "tuple", dD, b6, n, .inr rfl, ay⟩
  have keep : ∀ {h' : Heap} {tk : Nat}, (∀ b o, b < s.heap.objs.size -> s.heap.get? b = some o -> h'.get? b = some o) -> Inv X pins σ H { s with heap := h', toks := tk } := fun aw => I.kept fun b o q => aw b o (Wb q) q
  unfold Den.hY at iT
  rw [XE] at iT
  rcases iT with h | h
  · obtain ⟨ns, rfl⟩ := ints_of h
    have ck : IntsAre its ns := by rw [jB rs] at b4; exact intsAre_of b4
    rw [bt.sa (f := Den.D.int) bt.JO] at gc hw
    rw [List.length_map] at gc
    refine Pv.Aa (Pv.NI X.prog X.w) c3 cM bO j2 (show Paired (fun v (k : Int) => ∃ t, v = Value.int k t) its.toArray.toList ns from by simpa using EE ck) (fun i hi => by have := xQ ns (Yb hi); omega) fun h' tk r aX aE aw => ?_
    obtain ⟨o, ag, a4, t, ay, hex, hd, fC, _, ea, hV, qG, nk⟩ := aX
    obtain ⟨cP, aN, ba⟩ := Pv.Paired.perm (Pv.o3 X.w s.heap.objs.size ag a4) qG
    obtain ⟨xs, aG, a5⟩ := E7 (K := X.K) (G := G) ba
    have e : Den.gi (cP.map Den.D.int) = Den.gi ((bt.dN ns).map Den.D.int) := by
      rw [bt.my (f := Den.D.int) (lt := bt.ltI) fun _ _ => rfl, bt.my (f := Den.D.int) (lt := bt.ltI) fun _ _ => rfl, E5 bt.j9 aN aE]
    refine Fo (s := { s with heap := h', toks := tk }) cM bO (keep aw) ab ay ⟨hex, hd, fC, ea, hV⟩ aG a5 ?_ ?_ (by rw [e]; exact hw)
    · unfold Den.hY; rw [bt.xM]; rfl
    · rw [List.length_map]; have := E4 aN aE; omega
  · obtain ⟨aq, rfl, en⟩ := ub h
    rw [bt.sa (f := jD) bt.se] at gc hw
    rw [List.length_map] at gc
    refine Pv.Aa (Pv.CJ (uJ X.K G) X.prog X.w) c3 cM bO j2 (by simpa using EF I ab rs b4) (fun i hi => by have := xQ aq (Yb hi); omega) fun h' tk r aX aE aw => ?_
    obtain ⟨o, ag, a4, t, ay, hex, hd, fC, _, ea, hV, qG, nk⟩ := aX
    obtain ⟨cP, aN, ba⟩ := Pv.Paired.perm (Pv.o3 X.w s.heap.objs.size ag a4) qG
    have cS : Inv X pins σ H { s with heap := h', toks := tk } := keep aw
    obtain ⟨xs, aG, a5⟩ := E6 cS ab ba
    have e : Den.gi (cP.map jD) = Den.gi ((bt.dN aq).map jD) := by
      rw [bt.my (f := jD) (lt := bt.lexLt) bt.q7, bt.my (f := jD) (lt := bt.lexLt) bt.q7, E5 bt.k1 aN aE]
    refine Fo (s := { s with heap := h', toks := tk }) cM bO cS ab ay ⟨hex, hd, fC, ea, hV⟩ aG a5 ?_ ?_ (by rw [e]; exact hw)
    · unfold Den.hY
      rw [bt.vN fun c aj => en c ?_, Bool.or_true]
      have := ((aN.trans aE).mem_iff).mp aj
      exact Y1 ((Pv.tp aq _ (VZ _) c).mp this)
    · rw [List.length_map]; have := E4 aN aE; omega
def R7(aj:X.calm=true)(bO:X.A.units+64<cLine)(ah:x="sorted")(aC:y="set")(qv:eb X x)(qB:X.aF x=none)(qw:eb X y)(qC:X.aF y=none)(aA:aP X e (bo xp X ai .view f))(cN:starEach [e] X.env=[(false,eval e X.env)]):
  aP X (.Call (.Name x p) [.Call (.Name y fz) [e] [] pos'] [] pos) (bo xp X ai .fresh λC=>f C>>=λd=>Den.fj d>>=λxs=>Den.fJ xs):=by
 subst ah aC;intro pins s σ H Q I ⟨G,C,ab,hw⟩;refine Xs (j8 I qv qB (u:=.builtin "sorted") (by kernel_rfl) ?_)
 refine YH ?_ rfl rfl;show wpAny _ _ (spliced ((false,eval (.Call (.Name "set" fz) [e] [] pos') X.env)::[])) _ _ s;refine Yo ?_;refine Xs (j8 I qw qC (u:=.type "set") (by kernel_rfl) ?_)
 refine WK (bK (mm aA cN pos' pins s σ H (λaf H1=>∃v d aI,af=[v]/\Ext G H aI H1/\View X.K aI H1 d v/\cV (Den.fj d>>=λxs=>Den.fJ xs) (λd'=>∀v aO ao,Ext aI H1 aO ao->cx X.K H1 aO ao .fresh d' v->Q v ao) (λ_=>False)) I
  ⟨G,C,ab,bV (bu.mp hw) (λd k v aI H1 aR aG=>?_) λ_ q=>q⟩) λus s1 ⟨af,H1,bg,aG,aN⟩=>?_) cN rfl
 .refine⟨v,d,aI,rfl,aR,aG,?_⟩;refine bV (mD k λc=>?_) (λd' q pz b9 aY bI a5=>q pz b9 aY (aR.trans bI) (a5.old aR.h)) λ_ q=>q
  intro z;cases hd:Den.fj d with
  |ok ds=>rw[hd]at z;have z:Den.fJ ds=.exc c:=z;unfold Den.fJ at z;split at z<;>cases z
  |exc cy=>cases d<;>cases hd
  |bad=>rw[hd]at z;cases z
 .obtain⟨v,d,aI,ak,aR,bp,g5⟩:=aN;subst ak;obtain⟨u,rfl,aW⟩:=vals1 aG;refine bK (UR aj bO bg aR.sub bp aW g5) λw s2 aa=>?_
  exact Ys aa
end
end bR
end
section
namespace bR
open PySem PySem.Spec PyProof.Rows bJ
section
variable{xp:cq}{X:aS}{ai:List Nat}{m:et}{f bk cz:a6->bw D}{a b e dk:Expr}{pos p b3 ef ix:Pos}{pins:List (Addr×Obj)}{σ:bW}{G H:ax}{s:Shared}{x:Str}
def RJ{d:D}{v:V}{u:Value}(a8:eb X x)(hm:X.aF x=some u)(r:RelV v u)(rep:∀G,Rep X.K G d v)(hd:(x==("__debug__":Str))=false):aP X (.Name x p) (bo xp X ai .val λ_=>.ok d):=by
 intro pins s σ H Q I ⟨G,C,ab,hw⟩;exact PS a8 hm r hd pins s σ H Q I (hw v G H (Ext.refl ab.sub) (rep G))
def EO{t:a6->bw D}(h:∀C,t C=.bad):aP X e (bo xp X ai m t):=by
 intro pins s σ H Q I ⟨G,C,ab,hw⟩;rw[h]at hw;exact hw.elim
def UD (lo : Int) : ∀ {n : Nat} {l : List Value}, l.length = n -> (∀ (i : Nat) v, l[i]? = some v -> ∃ t, v = .int (lo + i * 1) t) -> Vals ((List.range n).map fun (k : Nat) => V.int (lo + (k : Nat))) l := by
  intro n l au h
  subst au
  induction l generalizing lo with
  | nil => exact .nil
  | cons v l aD =>
    rw [List.length_cons, ZV, List.map_cons, List.map_map]
    refine .cons ?_ ?_
    · obtain ⟨t, e⟩ := h 0 v rfl
      exact ⟨t, by rw [e]; simp⟩
    · have := aD (lo + 1) fun i w hw => by
        obtain ⟨t, e⟩ := h (i + 1) w (by simpa using hw)
        exact ⟨t, by rw [e]; congr 1; push_cast; omega⟩
      have av : ((fun (k : Nat) => V.int (lo + (k : Nat))) ∘ Nat.succ) = fun (k : Nat) => V.int (lo + 1 + (k : Nat)) := by
        funext k; simp only [Function.comp]; congr 1; push_cast; omega
      rw [av]; exact this
theorem Ey{K:W.Frag}(lo:Int):∀(l:List Nat),bG K G (l.map λ(k:Nat)=>Den.D.int (lo+(k:Nat))) (l.map λ(k:Nat)=>V.int (lo+(k:Nat)))
 |[]=>rfl
 |k::l=>⟨_,_,rfl,rfl,Ey lo l⟩
def Gs{R:Value->Shared->Prop}(a8:eb X "range")(hm:X.aF "range"=none)(aA:aP X a (bo xp X ai .view bk))(cN:starEach [a] X.env=[(false,eval a X.env)])(I:Inv X pins σ H s){C:a6}(ab:el X.K ai G H C σ){Q:List D->Prop}(hw:cV (bk C>>=λd=>Den.f3 d>>=λi=>Den.iz 0 i) Q (λc=>fL xp X c H))(k:∀(s1:Shared)(aI H1:ax)(n:Int)(r:Addr)(t u v:Tok)(h':Heap)(tk:Nat),Inv X pins σ H1 s1->Ext G H aI H1->Q (Den.eM 0 n)->(-(2 ^ 62)<=n/\n<2 ^ 62/\(Den.eM 0 n).length<=16777216)->Inv X pins σ H1 { s1 with heap:=h',toks:=tk }->IsRange h' r 0 n 1 t u v->R (.ref r) { s1 with heap:=h',toks:=tk }):
  wpAny (model X.prog X.w) X.A (eval (.Call (.Name "range" p) [a] [] pos) X.env) R X.cC s:=by
 refine Call_ (j8 I a8 hm boot_range (WK (bK (mm aA cN pos pins s σ H (λaf H1=>∃n aI,af=[.int n]/\Ext G H aI H1/\Q (Den.eM 0 n)/\(-(2 ^ 62)<=n/\n<2 ^ 62/\(Den.eM 0 n).length<=16777216)) I
  ⟨G,C,ab,bV (bu.mp hw) (λd q v aI H1 aR aG=>?_) λ_ q=>q⟩) λus s1 ⟨af,H1,bg,aG,n,aI,ak,aR,aK,ae⟩=>?_) cN rfl))
 .have q:=bu.mp q;cases d with
  |int i =>
   obtain⟨⟨_,_,b1,b2⟩,hz,q⟩:=yy q;exact⟨i,aI,by rw[cx.o1 aG],aR,q,b1,b2,hz⟩
  |_=>exact q.elim
 .subst ak;obtain⟨u,rfl,dt⟩:=vals1 aG;obtain⟨t,rfl⟩:=dt;refine call_range_1 ?_;exact k s1 aI H1 n _ _ _ _ _ _ bg aR aK ae (bg.kept λb o e=>VY _ e) (IsRange.new ..)
def EA(n:Int):Builtin.Range.rangeSize 0 n 1=((Den.eM 0 n).length:Int):=by
 unfold Den.eM;rw[List.length_map,List.length_range,rangeSize_one]
 split<;>omega
def QZ(n:Int):(Den.eM 0 n).length=n.toNat:=by unfold Den.eM;rw[List.length_map,List.length_range];congr 1;omega
def EB{acc:Array Value}{n:Int}(h:ItemsOf (λi v=>∃t,v=.int (0+i*1) t) acc (Den.eM 0 n).length):∃xs,bG X.K G (Den.eM 0 n) xs/\Vals xs acc.toList:=by
 have au:acc.toList.length=n.toNat:=by rw[Array.length_toList,h.1,QZ]
 have v:=UD 0 au λi v aT=>h.2 i v (by simpa using aT)
 have e:Den.eM 0 n=(List.range n.toNat).map λ(k:Nat)=>Den.D.int (0+(k:Nat)):=by
  unfold Den.eM;rw[Int.sub_zero]
 exact⟨_,by rw[e];exact Ey 0 _,v⟩
def R9{y:Str}(aj:X.calm=true)(ah:x="range")(aC:y="tuple")(qv:eb X x)(qB:X.aF x=none)(qw:eb X y)(qC:X.aF y=none)(aA:aP X a (bo xp X ai .view bk))(cN:starEach [a] X.env=[(false,eval a X.env)]):
  aP X (.Call (.Name y b3) [.Call (.Name x p) [a] [] pos] [] ef) (bo xp X ai .val λC=>(bk C>>=λd=>Den.f3 d>>=λi=>Den.iz 0 i)>>=λds=>.ok (.tup ds)):=by
 subst ah aC;intro pins s σ H Q I ⟨G,C,ab,hw⟩;refine Xs (j8 I qw qC (u:=.type "tuple") (by kernel_rfl) ?_)
 refine WK ?_ rfl rfl;show wpAny _ _ (spliced ((false,eval (.Call (.Name "range" p) [a] [] pos) X.env)::[])) _ _ s;refine Yo ?_;refine Gs qv qB aA cN I ab (bu.mp hw) λs1 aI H1 n r t u v h' tk bg aR aK ae cS a9=>Ys ?_
 have cM:X.A.handled=none:=cS.ok.hd aj;have az:=EA n;have meets:Meets (Builtin.«tuple.__new__» ⟨[.type "tuple",.ref r],[]⟩) (λA R s'=>A.handled=none/\IsRange s'.heap r 0 n 1 t u v /\
   ∀(s2:Shared)(acc:Array Value),Pv.rR s' s2->ItemsOf (λi v=>∃t,v=.int (0+i*1) t) acc (Den.eM 0 n).length->R (.ok (.ret (.ref s2.heap.objs.size))) { s2 with heap:=s2.heap.push { cls:=.type "tuple",data:=.seq acc } }) :=
  .of_wp λprog w A R s' h=>by
   obtain⟨J,aa,aL⟩:=h;have iU:=sub_tuple_self;have Vo:=init_tuple_lookup;have Vu:=madeHere_tuple;have c3:s'.TypeIs (.ref r) "range":=⟨_,aa,rfl⟩;have a7:A.in1.handled=none:=J
   wp_walk using XR c3,Pv.Ip (A:=A.in1) a7 aa (small_one (by omega) (by omega) ae.1 ae.2.1) az ae.2.2
   intro s2 acc g hS;have e:acc.toList.toArray=acc:=by simp
   refine VW (m:=Builtin.Tuple.tupleExact acc.toList.toArray) (Wv (wpAny_pure ⟨_,rfl,?_⟩) (show acc.toList.toArray.size<=sizeLine by rw[e,hS.1,sizeLine_eq];exact ae.2.2))
   rw[e];exact aL s2 acc g hS
 refine callType_new F.called_tuple (by decide) (F.typeCall_tuple_1 _) (F.newCall_tuple_1 _) (λobj=>F.args_object_init_2 obj _) F.entry_tuple_new meets ⟨cM,a9,λs2 acc g hS=>⟨⟨_,Wc _ rfl,rfl⟩,?_⟩⟩
 obtain⟨xs,a0,aQ⟩:=EB (X:=X) (G:=aI) hS;have eW:=Inv.grown cS g;have e:acc=acc.toList.toArray:=by simp
 rw[e];exact xY eW aR.sub aQ a0 (by rw[aQ.length,Array.length_toList,hS.1,sizeLine_eq];exact ae.2.2) λv aO ao bI a5=>aK v aO ao (aR.trans bI) a5
def RS{y:Str}(aj:X.calm=true)(ah:x="range")(aC:y="list")(qv:eb X x)(qB:X.aF x=none)(qw:eb X y)(qC:X.aF y=none)(aA:aP X a (bo xp X ai .view bk))(cN:starEach [a] X.env=[(false,eval a X.env)]):
  aP X (.Call (.Name y b3) [.Call (.Name x p) [a] [] pos] [] ef) (bo xp X ai .fresh λC=>(bk C>>=λd=>Den.f3 d>>=λi=>Den.iz 0 i)>>=λds=>.ok (.lst ds)):=by
 subst ah aC;intro pins s σ H Q I ⟨G,C,ab,hw⟩;refine Xs (j8 I qw qC (u:=.type "list") (by kernel_rfl) ?_)
 refine WK ?_ rfl rfl;show wpAny _ _ (spliced ((false,eval (.Call (.Name "range" p) [a] [] pos) X.env)::[])) _ _ s;refine Yo ?_;refine Gs qv qB aA cN I ab (bu.mp hw) λs1 aI H1 n r t u v h' tk bg aR aK ae cS a9=>Ys ?_
 have cM:X.A.handled=none:=cS.ok.hd aj;have az:=EA n;refine call_list_range cM a9 (small_one (by omega) (by omega) ae.1 ae.2.1) az ae.2.2 λaa T8 acc c aw a8 hS=>?_
 obtain⟨xs,a0,aQ⟩:=EB (X:=X) (G:=aI) hS;have e:acc=acc.toList.toArray:=by simp
 rw[e]at a8;refine⟨.ref h'.objs.size,_,cS.laid (t':=T8) (o:=.lst xs) aw (VZ _) ⟨by rw[aQ.length,Array.length_toList,hS.1,sizeLine_eq];exact ae.2.2,acc.toList,c,aQ,a8⟩,rfl,?_⟩
 have fr:H1 h'.objs.size=none:=cS.fresh;exact aK _ aI _ (aR.trans (Ext.own aR.sub fr)) ⟨_,xs,rfl,dF,aR.h.free fr,aR.sub.free fr,a0⟩
end
end bR
end
section
namespace bR
open PySem PySem.Spec PyProof.Rows bJ
section
variable{X:aS}{pins:List (Addr×Obj)}{σ:bW}{G H:ax}{s:Shared}{h':Heap}
end
end bR
end
section
namespace bR
open PySem PySem.Spec PyProof.Rows bJ
def ze:∀x y:Nat,(x ^^^ y)+2*(x &&& y)=x+y:=by
 intro x
 induction x using Nat.strongRecOn with
 |ind x aD =>
  intro y
  by_cases h:x=0
  .subst h;simp
  .have J:=aD (x / 2) (by omega) (y / 2)
   have ak:(x ^^^ y) / 2=x / 2 ^^^ y / 2:=ZY;have av:(x &&& y) / 2=x / 2 &&& y / 2:=Y3;have bL:(x ^^^ y)%2=(x%2+y%2)%2:=by
    have:=@Yw x y;rcases V8 x with a|a<;>rcases V8 y with b|b<;>rcases V8 (x ^^^ y) with c|c<;>simp[a,b,c]at this ⊢
   have fD:(x &&& y)%2=(x%2)*(y%2):=by
    have:=@XT x y;rcases V8 x with a|a<;>rcases V8 y with b|b<;>rcases V8 (x &&& y) with c|c<;>simp[a,b,c]at this ⊢
   rw[<- ak,<- av]at J;revert J bL fD;generalize x ^^^ y=p;generalize x &&& y=q;intro J bL fD;rcases V8 x with a|a<;>rcases V8 y with b|b<;>rw[a,b]at bL fD<;>omega
def zF{i j:Int}(hi:0<=i)(aB:0<=j):Builtin.bitAnd i j=((i.toNat &&& j.toNat:Nat):Int):=by
 unfold Builtin.bitAnd;rw[decide_eq_true hi,decide_eq_true aB]
def G1{i j:Int}(hi:0<=i)(aB:¬0<=j):Builtin.bitAnd i j=i-((i.toNat &&& (-j-1).toNat:Nat):Int):=by
 unfold Builtin.bitAnd;rw[decide_eq_true hi,decide_eq_false aB];rfl
def UX{i j:Int}(hi:0<=i)(aB:0<=j):Builtin.bitXor i j=((i.toNat ^^^ j.toNat:Nat):Int):=by
 rw[bitXor_and,zF hi aB];have:=ze i.toNat j.toNat;omega
section
variable{xp:cq}{X:aS}{ai:List Nat}{m:et}{f bk cz cI:a6->bw D}{a b c e:Expr}{pos:Pos}{pins:List (Addr×Obj)}{σ:bW}{G H:ax}{s:Shared}
def Jc:c1 X (binaryOp .BitAnd) (k9 X.K (Den.dT .and)):=by
 intro pins s σ H x y v u Q I aW bB ⟨G,bb,cj,ab,bp,dc,hw⟩;cases bb<;>cases cj<;>first|exact hw.elim|skip
 rename_i i j;have hw:cV (Den.mR i j) _ _:=hw;unfold Den.mR at hw
 by_cases h:0<=i
 .rw[if_pos h]at hw
  by_cases aa:0<=j
  .rw[if_pos aa]at hw;exact DP pins s σ H x y v u Q I aW bB ⟨_,_,bp,dc,by dsimp only;rw[zF h aa];exact kN ab hw rfl⟩
  .rw[if_neg aa]at hw;exact DP pins s σ H x y v u Q I aW bB ⟨_,_,bp,dc,by dsimp only;rw[G1 h aa];exact kN ab hw rfl⟩
 .rw[if_neg h]at hw;exact hw.elim
def Jj:c1 X (binaryOp .BitXor) (k9 X.K (Den.dT .xor)):=by
 intro pins s σ H x y v u Q I aW bB ⟨G,bb,cj,ab,bp,dc,hw⟩;cases bb<;>cases cj<;>first|exact hw.elim|skip
 rename_i i j;have hw:cV (Den.rM i j) _ _:=hw;unfold Den.rM at hw
 by_cases h:0<=i/\0<=j
 .rw[if_pos h]at hw;exact Px pins s σ H x y v u Q I aW bB ⟨_,_,bp,dc,by dsimp only;rw[UX h.1 h.2];exact kN ab hw rfl⟩
 .rw[if_neg h]at hw;exact hw.elim
def ER(aj:dx X c (fs xp X ai cI))(aA:aP X a (bo xp X ai m bk))(ae:aP X b (bo xp X ai m cz)):aP X (.IfExp c a b pos) (bo xp X ai m λC=>cI C>>=λx=>Den.fe x>>=λk=>if k then bk C else cz C):=by
 intro pins s σ H Q I ⟨G,C,ab,hw⟩;refine PT aj aA ae pins s σ H Q I ?_;refine⟨G,C,ab,bu.mpr (bV (bu.mp hw) (λd k=>bV (bu.mp k) (λdj q aI H1 aR=>?_) λ_ q=>q) λ_ q=>q)⟩
 cases dj with
 |true=>simp only[WN]at q ⊢;exact⟨aI,C,ab.ext aR,bV q (λd dY v b9 aY bI a5=>dY v b9 aY (aR.trans bI) (a5.old aR.h)) λ_ z=>z.mono aR.h⟩
 |false=>simp only[V1,Wm]at q ⊢;exact⟨aI,C,ab.ext aR,bV q (λd dY v b9 aY bI a5=>dY v b9 aY (aR.trans bI) (a5.old aR.h)) λ_ z=>z.mono aR.h⟩
def RQ(aj:dx X c (fs xp X ai cI))(aA:dx X a (fs xp X ai bk))(ae:dx X b (fs xp X ai cz)):dx X (.IfExp c a b pos) (fs xp X ai λC=>cI C>>=λx=>Den.fe x>>=λk=>if k then bk C else cz C):=by
 intro pins s σ H Q I ⟨G,C,ab,hw⟩;refine PyProof.Rows.isTrue_IfExp (bK (aj pins s σ H (λdj H1=>∃aI,Ext G H aI H1/\cV ((if dj then bk C else cz C)>>=Den.fe) (λb=>∀aO ao,Ext G H aO ao->Q b ao) (λc=>fL xp X c H)) I ⟨G,C,ab,?_⟩) λd s1 ⟨H1,bg,aI,aR,aN⟩=>?_)
 .refine bu.mpr (bV (bu.mp (bu.mp hw)) (λd k=>bV (bu.mp k) (λdj q aI H1 aR=>⟨aI,aR,bu.mpr q⟩) λ_ q=>q) λ_ q=>q)
 .have go:∀{g:a6->bw D}{e:Expr},dx X e (fs xp X ai g)->cV (g C>>=Den.fe) (λb=>∀aO ao,Ext G H aO ao->Q b ao) (λc=>fL xp X c H)->wpAny (model X.prog X.w) X.A (isTrue e X.env (eval e X.env)) (n7 X pins σ Q) X.cC s1:=λ{g e} h q =>
   h pins s1 σ H1 Q bg ⟨aI,C,ab.ext aR,bV q (λb dY b9 aY bI=>dY b9 aY (aR.trans bI)) λ_ z=>z.mono aR.h⟩
  cases d with
  |true=>exact go aA aN
  |false=>exact go ae aN
theorem qS:∀{ds:List D}{k:List Int},Den.intsOf ds=some k->ds=k.map .int
 |[],_,h=>by cases h;rfl
 |.int i::ds,k,h=>by
  cases q:Den.intsOf ds with
  |none=>simp[Den.intsOf,q]at h
  |some dj =>
   simp only[Den.intsOf,q,Option.map_some,W2]at h;subst h;rw[qS q];rfl
 |.cU::_,_,h=>by cases h
 |.aU _::_,_,h=>by cases h
 |.str _::_,_,h=>by cases h
 |.tup _::_,_,h=>by cases h
 |.lst _::_,_,h=>by cases h
 |.bT _::_,_,h=>by cases h
 |.bx _::_,_,h=>by cases h
 |.eR _::_,_,h=>by cases h
def ints_list(I:Inv X pins σ H s){K:W.Frag}(ab:bQ G H){ns:List Int}{z:V}{u:Value}(bp:View X.K G H (.lst (ns.map .int)) z)(aW:RelV z u):∃(a:Addr)(xs:Array (Int×Tok)),u=.ref a/\s.heap.IsList a (intItems xs)/\xs.toList.map (·.1)=ns:=by
 obtain⟨a,ys,rfl,aK,rs⟩:=bp;cases aW;rw[jB rs]at aK;obtain⟨its,b4,cX,hz⟩:=I.list aK;have hi:IntsAre its ns:=intsAre_of b4;obtain⟨xs,ex⟩:=hi.allInts.items;refine⟨a,xs,rfl,by rw[<- ex];exact cX.isList,?_⟩
 rw[<- nums_intItems,<- ex];exact hi.numsOf
def KW(aj:X.calm=true):hh X (.builtin "sum") (mv X.K m λd=>Den.oR d>>=λxs=>Den.i3 xs):=by
 intro pins s σ H xs us Q I r ⟨G,z,d,ex,ab,bp,hw⟩;subst ex;obtain⟨u,rfl,aW⟩:=vals1 r;cases d with
 |lst ds =>
  have iV:cV (Den.i3 ds) _ _:=hw;clear hw;unfold Den.i3 at iV;cases q:Den.intsOf ds with
  |none=>rw[q]at iV;exact iV.elim
  |some ns =>
   rw[q]at iV;cases qS q;obtain⟨a,xs,rfl,au,kK⟩:=ints_list (K:=X.K) I ab bp aW;refine sum_intListG (I.ok.hd aj) au λh' tk t' aw=>?_
   refine⟨.int ns.sum,H,I.kept aw,⟨t',?_⟩,iV _ G H (Ext.refl ab) cx.int⟩;rw[preSum_eq,WS (by simp),kK]
 |_=>exact hw.elim
theorem zL(g:Nat->Int):∀k,g (argBest (λi j=>decide (g i>g j)) k)=((List.range k).map λi=>g (i+1)).foldl (λm x=>if x>m then x else m) (g 0)
 |0=>rfl
 |k+1=>by
  rw[List.range_succ,List.map_append,List.foldl_append,<- zL g k];show g (if decide (g (k+1)>g (argBest (λi j=>decide (g i>g j)) k))=true then k+1 else argBest (λi j=>decide (g i>g j)) k)=_
  simp only[List.map_cons,Yc,List.foldl_cons,List.foldl_nil]
  by_cases h:g (k+1)>g (argBest (λi j=>decide (g i>g j)) k)
  .rw[if_pos (decide_eq_true h),if_pos h]
  .rw[if_neg (by simpa using h),if_neg h]
def Pa(xs:Array (Int×Tok))(n:Int)(ns:List Int)(h:xs.toList.map (·.1)=n::ns):numAt xs 0=n/\(List.range (xs.size-1)).map (λi=>numAt xs (i+1))=ns:=by
 have a8:∀i,numAt xs i=((n::ns)[i]?).getD 0:=λi=>by
  unfold numAt;rw[<- h,Wg,Wj]
 have hz:xs.size=ns.length+1:=by
  have:=Xl List.length h;simpa using this
 refine⟨by rw[a8];rfl,?_⟩
 rw[hz,Zp];apply XH;intro i;rw[Wg]
 by_cases hi:i<ns.length
 .rw[XP hi,Option.map_some,a8,List.getElem?_cons_succ,V5 hi];rfl
 .rw[Wu (by simpa using hi),Wu (by simpa using hi)];rfl
def KR (aj : X.calm = true) : hh X (.builtin "max") (mv X.K m fun d => Den.oR d >>= fun xs => Den.kc xs) := by
  intro pins s σ H xs us Q I r ⟨G, z, d, ex, ab, bp, hw⟩
  subst ex
  obtain ⟨u, rfl, aW⟩ := vals1 r
  cases d with
  | lst ds =>
    have iV : cV (Den.kc ds) _ _ := hw
    clear hw
    unfold Den.kc at iV
    cases q : Den.intsOf ds with
    | none => rw [q] at iV; exact iV.elim
    | some ns =>
      rw [q] at iV
      cases ns with
      | nil => exact iV.elim
      | cons n ns =>
        cases qS q
        obtain ⟨a, xs, rfl, au, kK⟩ := ints_list (K := X.K) I ab bp aW
        obtain ⟨dE, ak⟩ := Pa xs n ns kK
        have hz : 0 < xs.size := by
          have := Xl List.length kK
          simp at this; omega
        refine max_intList (I.ok.hd aj) au hz fun v h' tk aT aw => ?_
        obtain ⟨t, rfl⟩ := intItems_at aT
        refine ⟨.int (ns.foldl (fun m x => if x > m then x else m) n), H, I.kept aw, ⟨t, ?_⟩, iV _ G H (Ext.refl ab) cx.int⟩
        rw [zL (numAt xs), dE, ak]
  | _ => exact hw.elim
end
end bR
end
section
namespace bR
open PySem PySem.Spec PyProof.Rows bJ
section
variable{xp:cq}{X:aS}{ai:List Nat}{m:et}{f:a6->bw D}{e dk iter:Expr}{pos bj ix ap fP:Pos}{i:Nat}{x n:Str}{rG:List Stmt}
def Ag{o:Option (Option D)}{Q:Unit->Prop}{E:Nat->Prop}(h:cV (Den.lO o) Q E):∃ds,o=some (some (.lst ds))/\Q ():=by
 cases o with
 |none=>exact h.elim
 |some o =>
  cases o with
  |none=>exact h.elim
  |some d =>
   cases d with
   |lst ds=>exact⟨ds,rfl,h⟩
   |_=>exact h.elim
def B5(cN:starEach [e] X.env=[(false,eval e X.env)]):((backTo fP (starEach [e] X.env)).all (λx=>!x.1)&&(backToKw fP (keywordEach [] X.env)).all (λx=>x.1.isSome)&&decide ([e].length+([]:List Keyword).length+(if ([]:List Keyword).isEmpty then 0 else 1)<30))=true:=by
 rw[cN];rfl
def Rq(hm:i∈ai)(az:n="append")(aZ:X.N[i]?=some x)(aT:gn X.env.scope x)(J:(x==("__debug__":Str))=false)(aa:(x==("__classdict__":Str))=false)(qy:(ap.endLine==fP.line)=true)(he:aP X e (bo xp X ai .val f))(cN:starEach [e] X.env=[(false,eval e X.env)]):
  eD X (.Expr (.Call (.Attribute (.Name x bj) n ap) [e] [] fP) ix) (ei xp X ai λC=>Den.lO C[i]?>>=λ_=>f C>>=λd=>Den.pV C[i]? d>>=λy=>.ok (.cg (C.set i (some y)))):=by
 subst az;intro pins s σ H T I ⟨cw,bH,G,C,ae,hw⟩;refine Ee (DY ZR PySem.F.slot_list_append PySem.F.type_list_append Dv (h2 aZ aT J aa) (mm he cN) rfl (B5 cN) qy cN rfl) rfl pins s σ H T I ?_;obtain⟨ds,q,hw⟩:=Ag (bu.mp hw);obtain⟨a,o,a0,aQ,bq,xs,rfl,bY⟩:=ae.df.lst i (.lst ds) q hm rfl;refine⟨_,a0,.inl ⟨rfl,xs,ew.of aQ⟩,?_⟩;refine⟨G,C,ae.df,bV (bu.mp hw) (λd k v aI H1 aR aG=>?_) λ_ z=>z.mono ae.ext.h⟩
 have g4:=ae.step aR;rw[q,Den.rY]at k;have k:=bu.mp k
 by_cases hz:ds.length<Den.SZ
 .rw[if_pos hz]at k;have wH:H1 a=some (.lst xs):=aR.h _ _ aQ;have wG:aI a=none:=aR.new a bq (by rw[aQ];exact λz=>nomatch z)
  refine⟨a,xs,v,rfl,rfl,wH,by rw[<- bY.length,<- kz];exact hz,?_⟩
  exact k σ aI _ (g4.write (d:=.lst ds) (e:=.lst (ds++[d])) hm q rfl rfl a0 wG ⟨_,rfl,(bY.mono aR.g).snoc aG⟩)
 .rw[if_neg hz]at k;exact k.elim
noncomputable def iY(aI bH:ax):ax:=λa=>match aI a with
 |some o=>some o
 |none=>bH a
def qZ{aI bH:ax}{a:Addr}{o:dz}(h:aI a=some o):iY aI bH a=some o:=by unfold iY;rw[h]
def l9{aI bH:ax}{a:Addr}(h:aI a=none):iY aI bH a=bH a:=by unfold iY;rw[h]
variable{K:W.Frag}{cw bH aI H1 G H:ax}{C:a6}{σ:bW}
def EX(x:Ext cw bH aI H1):bQ bH (iY aI bH):=λa o h=>by
 cases q:aI a with
 |none=>rw[l9 q];exact h
 |some bC =>
  rw[qZ q];have ak:=x.sub a bC q;have av:=x.h a o h;rw[ak]at av;exact av
def KA(x:Ext cw bH aI H1)(y:Ext cw bH G H)(s:bQ aI G):Ext aI (iY aI bH) G H where
 g:=s
 h:=λa o e=>by
  cases q:aI a with
  |some bC=>rw[qZ q]at e;cases e;exact y.sub a o (s a o q)
  |none=>rw[l9 q]at e;exact y.h a o e
 sub:=y.sub
 new:=λa ak av=>by
  rw[l9 ak]at av;refine y.new a ?_ av;cases q:cw a with
  |none=>rfl
  |some o=>rw[x.g a o q]at ak;cases ak
 dZ:=λb xs z=>(y.dZ b xs z).elim (λw=>.inl (by
  cases q:aI b with
  |none=>rw[l9 q];exact w
  |some o=>rw[qZ q];rw[y.sub b o (s b o q)]at z;exact z)) .inr
def Ba(x:Ext cw bH aI H1)(y:Ext aI (iY aI bH) G H):Ext cw bH G H where
 g:=x.g.trans y.g
 h:=(EX x).trans y.h
 sub:=y.sub
 new:=λa ak av=>by
  have q:=x.new a ak av;exact y.new a q (by rw[l9 q];exact av)
 dZ:=λb xs z=>(y.dZ b xs z).elim (λw=>by
  cases q:aI b with
  |none=>rw[l9 q]at w;exact .inl w
  |some o=>rw[qZ q]at w;exact .inr (y.g _ _ (q.trans w))) .inr
def dV.re(x:Ext cw bH aI H1)(h:dV K ai cw bH G H C σ)(s:bQ aI G):dV K ai aI (iY aI bH) G H C σ:=by
 refine⟨h.df,KA x h.ext s,λi ds a q fg hi e=>?_⟩
 obtain⟨b,xs,a0,aQ,bq,bY⟩:=h.df.lst i ds q hi fg;rw[a0]at e;cases e;have:aI a=none:=by
  cases z:aI a with
  |none=>rfl
  |some o=>rw[s a o z]at bq;cases bq
 rw[l9 this];exact h.own i ds a q fg hi a0
def dV.back(x:Ext cw bH aI H1)(h:dV K ai aI (iY aI bH) G H C σ):dV K ai cw bH G H C σ:=by
 refine⟨h.df,Ba x h.ext,λi ds a q fg hi e=>?_⟩
 have:=h.own i ds a q fg hi e;cases z:aI a with
 |some o=>rw[qZ z]at this;cases this
 |none=>rw[l9 z]at this;exact this
theorem dV.E2:∀{ts:List Nat}{ws:List D}{af:List V}{C:a6}{σ:bW},(∀t∈ts,t∉ai)->dV K ai cw bH G H C σ->bG K G ws af->dV K ai cw bH G H (Den.lg ts (ws.map some) C) (mx ts af σ)
 |[],ws,af,C,σ,_,h,r=>by simpa[Den.lg,mx] using h
 |t::ts,[],af,C,σ,_,h,r=>by cases r;simpa[Den.lg,mx] using h
 |t::ts,w::ws,af,C,σ,aV,h,⟨v,r,e,aG,a5⟩=>by
  subst e;exact dV.E2 (ts:=ts) (λz hz=>aV z (List.mem_cons_of_mem _ hz)) (h.rD (aV t List.mem_cons_self) aG) a5
def Lc(g:D->a6->bw Den.fb)(d:D)(ds:List D)(C:a6):Den.forL g (d::ds) C=g d C>>=λr=>match r with
  |.cg c0=>Den.forL g ds c0
  |.dR x=>.ok (.dR x):=rfl
def RI {k : Nat} {ts : List Nat} {ji : a6 -> bw (List D)} {sv : a6 -> bw Den.fb} (aE : PassesOwn (model X.prog X.w) X.A X.env X.cC) (aj : X.calm = true) (MX : ∀ t ∈ ts, t ∉ ai) (hi : gR X dk iter (jE xp X ai .val ji)) (a8 : iJ X dk (wj X.K k ts)) (ae : gS X rG (ei xp X ai sv))
    (ab : ∀ z, foldedSetIterable iter X.env z = pure z) : eD X (.For dk iter rG [] pos) (ei xp X ai fun C => ji C >>= fun ds => Den.forL (fun d c0 => Den.fO k d >>= fun af => sv (Den.lg ts af c0)) ds C) := by
  intro pins s σ H T I ⟨cw, bH, G, C, iS, hw⟩
  refine QD aE aj hi a8 ae ab pins s σ H T I ?_
  refine ⟨G, C, iS.df, bV (bu.mp hw) (fun ds hB cn aI H1 aR kU hz => ?_) fun _ q => q.mono iS.ext.h⟩
  have ur : Ext cw bH aI H1 := iS.ext.trans aR
  have SA := EX ur
  refine ⟨fun j m dG ao => j + m = ds.length /\ ∃ aO c0, dV X.K ai aI (iY aI bH) aO ao c0 dG /\ cV (Den.forL (fun d c0 => Den.fO k d >>= fun af => sv (Den.lg ts af c0)) (ds.drop j) c0) (lX X.K ai cw bH T) (fun c => fL xp X c bH),
    ⟨ds.length, by omega, aI, C, dV.re ur (iS.step aR) (bQ.refl _), by simpa using hB⟩, ?_⟩
  rintro j m dG ao ⟨aB, aO, c0, cK, g5⟩
  have nf : pQ .val aI H1 aO ao := ⟨cK.ext.g, cK.df.sub⟩
  by_cases cm : j < ds.length
  · refine .inr ⟨kU.go j aO ao nf cm, fun uu aY => (j + 1) + (m - 1) = ds.length /\ ∃ b9 pE, dV X.K ai aI (iY aI bH) b9 aY pE uu /\ cV (Den.forL (fun d c0 => Den.fO k d >>= fun af => sv (Den.lg ts af c0)) (ds.drop (j + 1)) pE) (lX X.K ai cw bH T) (fun c => fL xp X c bH),
      fun uu aY aa => ⟨m - 1, by omega, aa⟩, fun v aY aC => ?_⟩
    have hd : ds[j]? = some ds[j] := V5 cm
    obtain ⟨b9, bI, eI⟩ := kU.kr j aO ao v aY ds[j] nf cK.df.sub hd aC
    have Sb := cK.step bI
    have JA : ds.drop j = ds[j] :: ds.drop (j + 1) := WO cm
    rw [JA, Lc] at g5
    have g5 := bu.mp (bu.mp g5)
    refine ⟨b9, ds[j], bI.sub, eI, ?_⟩
    cases q : Den.fO k ds[j] with
    | bad => rw [q] at g5; exact g5
    | exc c =>
      exfalso
      cases k with
      | zero => cases q
      | succ k =>
        cases fE : ds[j] with
        | tup zs =>
          rw [fE] at q
          have LS : Den.fO (k + 1) (.tup zs) = if zs.length = k + 1 then .ok (zs.map some) else .bad := rfl
          rw [LS] at q
          split at q <;> cases q
        | _ => rw [fE] at q; cases q
    | ok os =>
      rw [q] at g5
      intro ws af vV Rm
      subst vV
      refine ⟨aI, iY aI bH, b9, _, dV.E2 MX Sb Rm, bV g5 (fun r CN => ?_) fun c z => z.mono SA⟩
      cases r with
      | cg pE => exact fun pF jM b8 Sd => ⟨by omega, jM, pE, Sd, CN⟩
      | dR d => exact fun ue jM b8 ia dU => CN ue jM b8 (Ba ur ia) dU
  · have kI : j = ds.length := by omega
    subst kI
    refine .inl ⟨kU.stop aO ao nf, ?_⟩
    rw [YO] at g5
    exact g5 dG aO ao (dV.back ur cK)
end
end bR
end
section
namespace bR
open PySem PySem.Spec PyProof.Rows bJ
def xo(a k:List Int):decide (a.map (Sum.inl (β:=Str))=k.map Sum.inl)=decide (a=k):=by
 by_cases h:a=k
 .simp[h]
 .have:a.map (Sum.inl (β:=Str))≠k.map Sum.inl:=λz=>h ((List.map_inj_right (λa b=>Zt)).mp z)
  simp[h,this]
def Jp(ar:List (List Int×Int))(k:List Int):h9 (gF ar) (k.map Sum.inl)=(Den.nZ ar k).map V.int:=by
 induction ar with
 |nil=>rfl
 |cons p ar aD =>
  unfold h9 Den.nZ gF at aD ⊢;rw[List.map_cons,List.find?_cons,List.find?_cons];dsimp only;rw[xo]
  by_cases h:p.1=k
  .simp[h]
  .simp only[decide_eq_false h];exact aD
def Jo(ar:List (List Int×Int))(k:List Int)(n:Int):putK (gF ar) (k.map Sum.inl) (V.int n)=gF (Den.putN ar k n):=by
 have ak:((gF ar).any λcZ=>decide (cZ.1=k.map Sum.inl))=ar.any λp=>decide (p.1=k):=by
  induction ar with
  |nil=>rfl
  |cons p ar aD=>unfold gF at aD ⊢;rw[List.map_cons,List.any_cons,List.any_cons,aD,xo]
 have av:(gF ar).map (λcZ=>if cZ.1=k.map Sum.inl then(cZ.1,V.int n) else cZ)=gF (ar.map λp=>if p.1=k then(p.1,n) else p):=by
  unfold gF;rw[List.map_map,List.map_map];refine Xx λp _=>?_
  have:=xo p.1 k
  by_cases h:p.1=k
  .simp[h]
  .have h':¬p.1.map (Sum.inl (β:=Str))=k.map Sum.inl:=by simpa[h] using this
   simp[h,h']
 unfold putK Den.putN;rw[ak]
 split
 .exact av
 .unfold gF;rw[List.map_append];rfl
def CK(k:List Int):(k.map (Sum.inl (β:=Str))).map de=k.map V.int:=by rw[List.map_map];rfl
def p4{o:Option (Option D)}{ar:List (List Int×Int)}(h:Den.jR o=some ar):o=some (some (.bT ar)):=by
 unfold Den.jR at h
 split at h
 .cases h;rfl
 .cases h
def r9{o:Option (Option D)}{ar:List (Int×Int×Int)}(h:Den.iP o=some ar):o=some (some (.bx ar)):=by
 unfold Den.iP at h
 split at h
 .cases h;rfl
 .cases h
def oa{α:Type}{f:D->Option α}{o:Option (Option D)}{a:α}(h:Den.f5 f o=some a):∃d,o=some (some d)/\f d=some a:=by
 unfold Den.f5 at h
 split at h
 .exact⟨_,rfl,h⟩
 .cases h
def s8{d:D}{i:Int}(h:Den.intD d=some i):d=.int i:=by
 unfold Den.intD at h
 split at h
 .cases h;rfl
 .cases h
def FV{d:D}{k:List Int}(h:Den.jF d=some k):d=.tup (k.map .int):=by
 unfold Den.jF at h
 split at h
 .rw[qS h]
 .cases h
def EC{d:D}{r:Int×Int}(h:Den.rowOf d=some r):d=Den.nQ r:=by
 unfold Den.rowOf at h
 split at h
 .split at h
  .rename_i e;cases h;rw[qS e];rfl
  .cases h
 .cases h
section
variable{G:ax}
theorem eu.val:∀{ar:List (Int×Int×Int)}{ys:List (Key×V)},eu G ar ys->∀{k:Int}{r:Int×Int},Den.mC ar k=some r->∃b,h9 ys (Sum.inl k)=some (.ref b)/\G b=some (.tup [.int r.1,.int r.2])
 |[],_,_,k,r,e=>by cases e
 |p::ar,_,⟨b,t,e,J,aa⟩,k,r,q=>by
  subst e;unfold Den.mC at q;unfold h9;rw[List.find?_cons]at q ⊢
  by_cases c:p.1=k
  .simp only[c,decide_true,Option.map_some,W2]at q ⊢;subst q;exact⟨b,rfl,J⟩
  .have cy:¬(Sum.inl p.1:Key)=Sum.inl k:=λz=>c (Zt z)
   simp only[c,cy,decide_false]at q ⊢;exact eu.val aa q
theorem eu.any:∀{ar:List (Int×Int×Int)}{ys:List (Key×V)},eu G ar ys->∀k:Int,(ys.any λcZ=>decide (cZ.1=Sum.inl k))=ar.any λp=>decide (p.1=k)
 |[],_,h,k=>by cases h;rfl
 |p::ar,_,⟨b,t,e,J,aa⟩,k=>by
  subst e;rw[List.any_cons,List.any_cons,eu.any aa k];congr 1
  by_cases c:p.1=k
  .simp[c]
  .have cy:¬(Sum.inl p.1:Key)=Sum.inl k:=λz=>c (Zt z)
   simp[c,cy]
theorem eu.map{k:Int}{r:Int×Int}{b:Addr}(ae:G b=some (.tup [.int r.1,.int r.2])):∀{ar:List (Int×Int×Int)}{ys:List (Key×V)},eu G ar ys->eu G (ar.map λp=>if p.1=k then(p.1,r) else p) (ys.map λcZ=>if cZ.1=Sum.inl k then(cZ.1,.ref b) else cZ)
 |[],_,h=>by cases h;rfl
 |p::ar,_,⟨hL,t,e,J,aa⟩=>by
  subst e;rw[List.map_cons,List.map_cons]
  by_cases c:p.1=k
  .rw[if_pos c,if_pos (by rw[c])];exact⟨b,_,rfl,ae,eu.map ae aa⟩
  .rw[if_neg c,if_neg λz=>c (Zt z)];exact⟨hL,_,rfl,J,eu.map ae aa⟩
theorem eu.snoc{q:Int×Int×Int}{b:Addr}(ae:G b=some (.tup [.int q.2.1,.int q.2.2])):∀{ar:List (Int×Int×Int)}{ys:List (Key×V)},eu G ar ys->eu G (ar++[q]) (ys++[(Sum.inl q.1,.ref b)])
 |[],_,h=>by cases h;exact⟨b,[],rfl,ae,rfl⟩
 |p::ar,_,⟨hL,t,e,J,aa⟩=>by subst e;exact⟨hL,_,rfl,J,eu.snoc ae aa⟩
def eu.put{ar:List (Int×Int×Int)}{ys:List (Key×V)}(h:eu G ar ys)(k:Int){r:Int×Int}{b:Addr}(ae:G b=some (.tup [.int r.1,.int r.2])):eu G (Den.k8 ar k r) (putK ys (Sum.inl k) (.ref b)):=by
 unfold Den.k8 putK;rw[h.any k]
 split
 .exact h.map ae
 .exact h.snoc (q:=(k,r)) ae
theorem eu.len:∀{ar:List (Int×Int×Int)}{ys:List (Key×V)},eu G ar ys->ys.length=ar.length
 |[],_,h=>by cases h;rfl
 |p::ar,_,⟨b,t,e,J,aa⟩=>by subst e;rw[List.length_cons,List.length_cons,eu.len aa]
def ED{K:W.Frag}{r:Int×Int}{v:V}(h:Rep K G (Den.nQ r) v):∃b,v=.ref b/\G b=some (.tup [.int r.1,.int r.2]):=by
 obtain⟨b,xs,e,J,aa⟩:=h;rw[jB (ns:=[r.1,r.2]) aa]at J;exact⟨b,e,J⟩
def Rf{K:W.Frag}{r:Int×Int}{b:Addr}(h:G b=some (.tup [.int r.1,.int r.2])):Rep K G (Den.nQ r) (.ref b):=⟨b,_,rfl,h,.int r.1,_,rfl,rfl,.int r.2,_,rfl,rfl,rfl⟩
end
section
variable{X:aS}{pins:List (Addr×Obj)}{σ:bW}{G H:ax}{s:Shared}
def freeze{a:Addr}{u:dz}(I:Inv X pins σ H s)(d3:H a=some u)(bO:(∃ys,u=.dI ys)\/∃ys,u=.d8 ys):∃bh,Inv X pins σ (upd H a (.dW bh u)) s:=by
 obtain⟨bh,ay,_⟩:=yp I (a:=a) (by rcases bO with⟨ys,rfl⟩|⟨ys,rfl⟩;exact .inl ⟨ys,.inl d3⟩;exact .inr ⟨ys,.inl d3⟩)
 have ne:∀{b:Addr},H b=none->b≠a:=λq z=>by rw[z,d3]at q;cases q
 have nt:∀{b:Addr}{v:dz},H b=some v->(∀ys,v≠.dI ys)->(∀ys,v≠.d8 ys)->b≠a:=λq J aa z=>by
  rw[z,d3]at q;cases q;rcases bO with⟨ys,e⟩|⟨ys,e⟩
  .exact J ys e
  .exact aa ys e
 have ki:∀{b:Addr}{v:dz},dA X.prog X.w H s.heap b v->dA X.prog X.w (upd H a (.dW bh u)) s.heap b v:=λq=>q.ki (λ_ _ _ z=>z)
  (λc z=>by rw[c8 (nt z (λ_ w=>nomatch w) λ_ w=>nomatch w)];exact z) λc xs z=>by rw[c8 (nt z (λ_ w=>nomatch w) λ_ w=>nomatch w)];exact z
 refine⟨bh,I.ok,I.os,I.bare,⟨I.base.keep,I.base.slot,λb o e n ah=>?_,I.base.there,λb xs e=>?_,λb o v e=>?_,λb bf e=>?_⟩,I.loc,I.cell,?_,λx c e=>?_,λp aE=>?_,λb v e=>?_,I.len⟩
 .have q:=I.base.free b o e n ah;rw[c8 (ne q)];exact q
 .have q:=I.base.kl b xs e;rw[c8 (nt q (λ_ w=>nomatch w) λ_ w=>nomatch w)];exact q
 .have q:=I.base.jl b o v e;rw[c8 (nt q (λ_ w=>nomatch w) λ_ w=>nomatch w)];exact q
 .obtain⟨more,q⟩:=I.base.kj b bf e;exact⟨more,by rw[c8 (nt q (λ_ w=>nomatch w) λ_ w=>nomatch w)];exact q⟩
 .rw[c8 (ne I.free)];exact I.free
 .rw[c8 (ne (I.jT x c e))];exact I.jT x c e
 .obtain⟨cQ,cp,d6⟩:=I.pin p aE;exact⟨cQ,by rw[c8 (ne cp)];exact cp,d6⟩
 .by_cases c:b=a
  .subst c;rw[dF]at e;cases e;exact⟨ay,ki (I.bM b u d3)⟩
  .rw[c8 c]at e;exact ki (I.bM b v e)
def ye{er:TE}{e:Expr}(h:aP X e er):aP X e (λσ H Q=>er σ H λv H1=>∃a u,v=.ref a/\H1 a=some u/\((∃ys,u=.dI ys)\/∃ys,u=.d8 ys)/\∀bh,Q v (upd H1 a (.dW bh u))):=by
 intro pins s σ H Q I q;refine WY (h pins s σ H _ I q) (λw s1 ⟨v,H1,bg,b4,a,u,e,d3,bO,k⟩=>?_) λ_ _ z=>z
 obtain⟨bh,cS⟩:=freeze bg d3 bO;exact⟨v,_,cS,b4,k bh⟩
end
section
variable{xp:cq}{X:aS}{ai:List Nat}{m:et}{f:a6->bw D}{val:Expr}{pos bj b3 ef ix mq:Pos}{i j:Nat}{x y:Str}{pins:List (Addr×Obj)}{σ:bW}{G H:ax}{s:Shared}{C:a6}
def Ky(ab:bQ G H){a:Addr}{o bC:dz}(aE:H a=none)(ay:∀xs,bC≠.tup xs):Ext G H (upd G a bC) (upd (upd H a o) a bC):=by rw[y3];exact Ext.put ab aE
def RD(hm:i∈ai)(aZ:X.N.Nodup)(hi:X.N[i]?=some x)(ah:Loc X.env.scope x)(hf:X.fn x=true\/X.env.scope.names.lookup x=some .local):eD X (.Assign [.Name x bj] (.Dict [] [] mq) pos) (ei xp X ai λC=>.ok (.cg (C.set i (some (.bT []))))):=by
 intro pins s σ H T I ⟨cw,bH,G,C,ae,hw⟩;refine tH aZ hi ah PR rfl hf pins s σ H T I ?_;intro p aE;exact hw _ G _ (ae.rC (Ext.own ae.df.sub aE) hm rfl dF aE (ae.df.sub.free aE) rfl)
def RE(hm:i∈ai)(aZ:X.N.Nodup)(hi:X.N[i]?=some x)(ah:Loc X.env.scope x)(hf:X.fn x=true\/X.env.scope.names.lookup x=some .local):eD X (.Assign [.Name x bj] (.Dict [] [] mq) pos) (ei xp X ai λC=>.ok (.cg (C.set i (some (.bx []))))):=by
 intro pins s σ H T I ⟨cw,bH,G,C,ae,hw⟩;refine tH aZ hi ah DZ rfl hf pins s σ H T I ?_;intro p aE;exact hw _ G _ (ae.rC (Ext.own ae.df.sub aE) hm rfl dF aE (ae.df.sub.free aE) ⟨[],rfl,rfl⟩)
def RF:aP X (.Dict [] [] mq) (bo xp X ai .val λ_=>.ok (.bx [])):=by
 intro pins s σ H Q I ⟨G,C,ab,hw⟩;refine ye DZ pins s σ H Q I λp aE=>⟨p,_,rfl,dF,.inl ⟨_,rfl⟩,λbh=>?_⟩
 exact hw (.ref p) _ _ (Ky ab.sub aE λ_ z=>nomatch z) ⟨p,bh,[],rfl,dF,rfl⟩
def Fl(ab:el X.K ai G H C σ)(hm:j∉ai){k:List Int}(h:C[j]?=some (some (.tup (k.map .int)))):∃b,σ[j]?=some (some (V.ref b))/\H b=some (.tup ((k.map (Sum.inl (β:=Str))).map de)):=by
 obtain⟨v,J,b,ys,rfl,aa,aL⟩:=ab.val j _ h hm;rw[jB aL]at aa;exact⟨b,J,by rw[CK];exact ab.sub _ _ aa⟩
def RC(hi:i∉ai)(aB:j∉ai)(aZ:X.N[i]?=some x)(aT:gn X.env.scope x)(J:(x==("__debug__":Str))=false)(aa:(x==("__classdict__":Str))=false)(qq:X.N[j]?=some y)(nx:gn X.env.scope y)(qm:(y==("__debug__":Str))=false)(jm:(y==("__classdict__":Str))=false):aP X (.Dict [some (.Name x bj)] [.Name y b3] pos) (bo xp X ai .val λC=>Den.p6 C[i]? C[j]?):=by
 intro pins s σ H Q I ⟨G,C,ab,hw⟩;dsimp only at hw;unfold Den.p6 at hw;cases ak:Den.f5 Den.intD C[i]? with
 |none=>rw[ak]at hw;exact hw.elim
 |some k =>
  cases av:Den.f5 Den.rowOf C[j]? with
  |none=>rw[ak,av]at hw;exact hw.elim
  |some r =>
   rw[ak,av]at hw;obtain⟨cB,aN,ba⟩:=oa ak;obtain⟨dd,b5,dn⟩:=oa av;cases s8 ba;cases EC dn;obtain⟨v1,a0,cQ⟩:=ab.val i _ aN hi;have cQ:v1=.int k:=cQ;subst cQ;obtain⟨v2,aQ,cp⟩:=ab.val j _ b5 aB;obtain⟨b,rfl,ae⟩:=ED cp;refine ye (PQ (Qw (h2 aZ aT J aa) (h2 qq nx qm jm) Qx) rfl rfl (λz=>nomatch z) (by simp)) pins s σ H Q I λp aE=>?_
   refine⟨_,a0,_,aQ,dF,[(Sum.inl k,.ref b)],rfl,by simp,p,_,rfl,dF,.inl ⟨_,rfl⟩,λbh=>?_⟩
   have kP:=ab.sub.free aE;refine hw (.ref p) (upd G p (.dW bh (.dI (oW [] [(Sum.inl k,.ref b)])))) _ (by rw[y3,y3];exact Ext.put ab.sub aE) ⟨p,bh,_,rfl,dF,b,[],rfl,fV kP _ _ ae,rfl⟩
def RB(bO:X.A.units+64<cLine)(hm:i∉ai)(aB:j∉ai)(aZ:X.N[i]?=some x)(aT:gn X.env.scope x)(J:(x==("__debug__":Str))=false)(aa:(x==("__classdict__":Str))=false)(qq:X.N[j]?=some y)(nx:gn X.env.scope y)(qm:(y==("__debug__":Str))=false)(jm:(y==("__classdict__":Str))=false):aP X (.Subscript (.Name x bj) (.Name y b3) pos) (bo xp X ai m λC=>Den.kG C[i]? C[j]?):=by
 intro pins s σ H Q I ⟨G,C,ab,hw⟩;refine PO (by omega) (h2 aZ aT J aa) (h2 qq nx qm jm) (λ_ _=>rfl) pins s σ H Q I ?_
 dsimp only at hw;have NN:∀ar k,Den.jR C[i]?=some ar->Den.f5 Den.jF C[j]?=some k->yU (mA i) (mA j) σ H Q:=λar k ak av=>by
  rw[Den.kG,ak,av]at hw;dsimp only at hw;obtain⟨v,a0,a,bh,rfl,aQ⟩:=ab.val i _ (p4 ak) hm;obtain⟨dd,b5,dn⟩:=oa av;cases FV dn;obtain⟨b,bY,gI⟩:=Fl ab aB b5;cases bL:Den.nZ ar k with
  |none=>rw[bL]at hw;exact hw.elim
  |some n =>
   rw[bL]at hw;refine⟨_,a0,_,bY,a,.int n,rfl,.inr ⟨_,_,b,.inr ⟨bh,ab.sub _ _ aQ⟩,rfl,gI,by rw[Jp,bL];rfl⟩,hw _ G H (Ext.refl ab.sub) (by cases m<;>rfl)⟩
 have NK:∀ar k,Den.iP C[i]?=some ar->Den.f5 Den.intD C[j]?=some k->cV (match Den.mC ar k with|some r=>.ok (Den.nQ r)|none=>.bad) (λd=>∀v aO ao,Ext G H aO ao->cx X.K H aO ao m d v->Q v ao) (λc=>fL xp X c H)->yU (mA i) (mA j) σ H Q:=λar k ak av hw=>by
  obtain⟨v,a0,a,bh,ys,rfl,aQ,bq⟩:=ab.val i _ (r9 ak) hm;obtain⟨dd,b5,dn⟩:=oa av;cases s8 dn;obtain⟨v2,bY,cp⟩:=ab.val j _ b5 aB;have cp:v2=.int k:=cp;subst cp;cases bL:Den.mC ar k with
  |none=>rw[bL]at hw;exact hw.elim
  |some r =>
   rw[bL]at hw;obtain⟨b,g1,g2⟩:=bq.val bL;refine⟨_,a0,_,bY,a,.ref b,rfl,.inl ⟨ys,Sum.inl k,.inr ⟨bh,ab.sub _ _ aQ⟩,rfl,g1.symm⟩,hw _ G H (Ext.refl ab.sub) ?_⟩;have:=Rf (K:=X.K) g2;cases m<;>exact this
 cases ak:Den.jR C[i]? with
 |some ar =>
  cases av:Den.f5 Den.jF C[j]? with
  |some k=>exact NN ar k ak av
  |none =>
   rw[Den.kG,ak,av]at hw;have:Den.iP C[i]?=none:=by rw[p4 ak];rfl
   rw[this]at hw;exact hw.elim
 |none =>
  rw[Den.kG,ak]at hw;dsimp only at hw;cases bL:Den.iP C[i]? with
  |none=>rw[bL]at hw;exact hw.elim
  |some ar =>
   cases fD:Den.f5 Den.intD C[j]? with
   |none=>rw[bL,fD]at hw;exact hw.elim
   |some k=>rw[bL,fD]at hw;exact NK ar k bL fD hw
def RG (bO : X.A.units + 64 < cLine) (hm : i ∈ ai) (aB : j ∉ ai) (aZ : X.N[i]? = some x) (aT : gn X.env.scope x) (J : (x == ("__debug__" : Str)) = false) (aa : (x == ("__classdict__" : Str)) = false)
    (qq : X.N[j]? = some y) (nx : gn X.env.scope y) (qm : (y == ("__debug__" : Str)) = false) (jm : (y == ("__classdict__" : Str)) = false) (he : aP X val (bo xp X ai .val f)) (j4 : swapsWith val (some (.Subscript (.Name x bj) (.Name y b3) ef)) pos.line X.env = pure false) :
    eD X (.Assign [.Subscript (.Name x bj) (.Name y b3) ef] val pos) (ei xp X ai fun C => f C >>= fun d => Den.ou C[i]? C[j]? d >>= fun z => .ok (.cg (C.set i (some z)))) := by
  intro pins s σ H T I ⟨cw, bH, G, C, ae, hw⟩
  refine QC (by omega) (h2 aZ aT J aa) (h2 qq nx qm jm) he j4 pins s σ H T I ?_
  refine ⟨G, C, ae.df, bV (bu.mp hw) (fun d k v aI H1 aR aG => ?_) fun _ z => z.mono ae.ext.h⟩
  have g4 := ae.step aR
  have k := bu.mp k
  have Lx : ∀ ar dY n, Den.jR C[i]? = some ar -> Den.f5 Den.jF C[j]? = some dY -> d = .int n -> ar.length < 1000 -> lX X.K ai cw bH T (.cg (C.set i (some (.bT (Den.putN ar dY n))))) -> ∃ w, σ[i]? = some (some w) /\ ∃ u, σ[j]? = some (some u) /\ ∃ a fB, w = .ref a /\ i8 H1 a u v fB /\ T.cg σ fB := fun ar dY n ak av qb hz q => by
    subst qb
    have aG : v = .int n := aG
    subst aG
    obtain ⟨a, o, a0, aQ, bq, bY⟩ := g4.df.lst i _ (p4 ak) hm rfl
    cases bY
    obtain ⟨dd, b5, dn⟩ := oa av
    cases FV dn
    obtain ⟨b, gI, kY⟩ := Fl g4.df aB b5
    refine ⟨_, a0, _, gI, a, _, rfl, i8.t aQ kY (by unfold gF; rw [List.length_map, sizeLine_eq]; omega), ?_⟩
    rw [Jo]
    exact q σ aI _ (g4.write (d := .bT ar) (e := .bT (Den.putN ar dY n)) hm (p4 ak) rfl rfl a0 bq rfl)
  have Lw : ∀ ar dY r, Den.iP C[i]? = some ar -> Den.f5 Den.intD C[j]? = some dY -> d = Den.nQ r -> ar.length < 1000 -> lX X.K ai cw bH T (.cg (C.set i (some (.bx (Den.k8 ar dY r))))) -> ∃ w, σ[i]? = some (some w) /\ ∃ u, σ[j]? = some (some u) /\ ∃ a fB, w = .ref a /\ i8 H1 a u v fB /\ T.cg σ fB := fun ar dY r ak av qb hz q => by
    subst qb
    obtain ⟨c, rfl, aj⟩ := ED aG
    obtain ⟨a, o, a0, aQ, bq, ys, rfl, bY⟩ := g4.df.lst i _ (r9 ak) hm rfl
    obtain ⟨dd, b5, dn⟩ := oa av
    cases s8 dn
    obtain ⟨v2, gI, cp⟩ := g4.df.val j _ b5 aB
    have cp : v2 = .int dY := cp
    subst cp
    refine ⟨_, a0, _, gI, a, _, rfl, i8.k (k := Sum.inl dY) aQ (by rw [bY.len, sizeLine_eq]; omega), ?_⟩
    exact q σ aI _ (g4.write (d := .bx ar) (e := .bx (Den.k8 ar dY r)) hm (r9 ak) rfl rfl a0 bq ⟨_, rfl, bY.put dY aj⟩)
  have second : cV (match Den.iP C[i]?, Den.f5 Den.intD C[j]?, Den.rowOf d with | some ar, some k, some r => if ar.length < 1000 then .ok (Den.D.bx (Den.k8 ar k r)) else .bad | _, _, _ => .bad) (fun z => cV (.ok (Den.fb.cg (C.set i (some z)))) (lX X.K ai cw bH T) (fun c => fL xp X c bH)) (fun c => fL xp X c bH) -> ∃ w, σ[i]? = some (some w) /\ ∃ u, σ[j]? = some (some u) /\ ∃ a fB, w = .ref a /\ i8 H1 a u v fB /\ T.cg σ fB := fun k => by
    cases ak : Den.iP C[i]? with
    | none => rw [ak] at k; exact k.elim
    | some ar =>
      cases av : Den.f5 Den.intD C[j]? with
      | none => rw [ak, av] at k; exact k.elim
      | some dY =>
        cases bL : Den.rowOf d with
        | none => rw [ak, av, bL] at k; exact k.elim
        | some r =>
          rw [ak, av, bL] at k
          dsimp only at k
          by_cases hz : ar.length < 1000
          · rw [if_pos hz] at k; exact Lw ar dY r ak av (EC bL) hz k
          · rw [if_neg hz] at k; exact k.elim
  unfold Den.ou at k
  cases ak : Den.jR C[i]? with
  | none => rw [ak] at k; exact second k
  | some ar =>
    cases av : Den.f5 Den.jF C[j]? with
    | none => rw [ak, av] at k; exact second k
    | some dY =>
      cases bL : Den.intD d with
      | none => rw [ak, av, bL] at k; exact second k
      | some n =>
        rw [ak, av, bL] at k
        dsimp only at k
        by_cases hz : ar.length < 1000
        · rw [if_pos hz] at k; exact Lx ar dY n ak av (s8 bL) hz k
        · rw [if_neg hz] at k; exact k.elim
def R0(hm:i∈ai)(aZ:X.N[i]?=some x)(aT:gn X.env.scope x)(J:(x==("__debug__":Str))=false)(aa:(x==("__classdict__":Str))=false):
  eD X (.Return (some (.Name x bj)) pos) (ei xp X ai λC=>Den.p5 C[i]?>>=λd=>.ok (.dR d)):=by
 intro pins s σ H T I ⟨cw,bH,G,C,ae,hw⟩;refine yk (ye (h2 aZ aT J aa)) pins s σ H T I ?_;dsimp only at hw;have key:∀d,C[i]?=some (some d)->gv d=true->(∀o,jc X.K G d o->(∃ys,o=.dI ys)\/∃ys,o=.d8 ys)->(∀a o bh,jc X.K G d o->G a=none->Rep X.K (upd G a (.dW bh o)) d (.ref a))->lX X.K ai cw bH T (.dR d)->mA i σ H (λv H1=>∃a u,v=.ref a/\H1 a=some u/\((∃ys,u=.dI ys)\/∃ys,u=.d8 ys)/\∀bh,T.dR v (upd H1 a (.dW bh u))):=λd q fg ay a9 hw=>by
  obtain⟨a,o,a0,aQ,bq,bY⟩:=ae.df.lst i d q hm fg;have h0:bH a=none:=ae.own i d a q fg hm a0;have aw:=ay o bY;have nt:∀xs,o≠.tup xs:=λxs z=>by rcases aw with⟨_,e⟩|⟨_,e⟩<;>rw[e]at z<;>cases z
  refine⟨_,a0,a,o,rfl,aQ,aw,λbh=>?_⟩
  refine hw _ (upd G a (.dW bh o)) (upd H a (.dW bh o)) ⟨ae.ext.g.trans (fV bq),λb v z=>?_,λb v z=>?_,λb cQ cp=>?_,λb xs z=>.inr ?_⟩ (a9 a o bh bY bq)
  .have:b≠a:=λw=>by rw[w,h0]at z;cases z
   rw[c8 this];exact ae.ext.h b v z
  .by_cases c:b=a
   .subst c;rw[dF]at z ⊢;exact z
   .rw[c8 c]at z ⊢;exact ae.df.sub b v z
  .have:b≠a:=λw=>cp (by rw[w];exact h0)
   rw[c8 this];exact ae.ext.new b cQ cp
  .have c:b≠a:=λw=>by rw[w,dF]at z;cases z
   rw[c8 c]at z ⊢;exact ae.df.dZ b xs z
 cases q:C[i]? with
 |none=>rw[q]at hw;exact hw.elim
 |some o =>
  cases o with
  |none=>rw[q]at hw;exact hw.elim
  |some d =>
   rw[q]at hw;cases d with
   |bT ar=>exact key _ q rfl (λo e=>.inr ⟨_,e⟩) (λa o bh e g=>by cases e;exact⟨a,bh,rfl,dF⟩) hw
   |bx ar=>exact key _ q rfl (λo ⟨ys,e,_⟩=>.inl ⟨ys,e⟩) (λa o bh ⟨ys,e,r⟩ g=>by subst e;exact⟨a,bh,ys,rfl,dF,r.mono (fV g)⟩) hw
   |_=>exact hw.elim
end
end bR
end
section
namespace bR
open PySem PySem.Spec PyProof.Rows bJ
noncomputable def zl(d:Addr)(o:dz)(aq:List V):i9 :=
 ⟨λi H=>H d=some o/\i<aq.length,λi H v ao=>ao=H/\aq[i]?=some v,λi H=>H d=some o/\aq.length=i⟩
def Ug{P:Program}{w:World}{K:W.Frag}{dk:Expr}(d it:Addr){bh:Obj}{u:dz}{aq:List V}{ag:Array DictEntry}{a4:Nat}(hd:bh.data=.dict ag a4)(aT:Vals aq (ag.toList.map (·.key))):
  Turn P w K dk (zl d (.dW bh u) aq) [it] it (λi h=>h.IsKeyIter it d i ag.size a4) where
 mem:=by simp
 obj:=λi h st b ae=>by
  have e:b=it:=by simpa using ae
  subst e;obtain⟨o,e,c,d⟩:=st;exact⟨o,e,λv z=>by rw[d]at z;cases z⟩
 keep:=λi h h' st k=>st.at λo e=>k it (by simp) o e
 item:=by
  intro X d4 hw gH aj i pins s σ H E I hf st a8;subst d4 hw gH;obtain⟨aK,hi⟩:=a8;have ay:s.heap.get? d=some bh:=(show dA X.prog X.w H s.heap d (.dW bh u) from I.bM d _ aK).1;have au:aq.length=ag.size:=by rw[aT.length,List.length_map,Array.length_toList]
  have ah:aq[i]?=some aq[i]:=V5 hi;obtain⟨v,a0,aQ⟩:=aT.get ah;obtain⟨f0,f1,f2,e1,f4,e2⟩:=hf it (by simp)
  have cm:i<ag.size:=by omega
  refine Pv.Ja st ay hd cm λh' aJ cK=>?_
  have bg:Inv X pins σ H { s with heap:=h' }:=I.turned (t':=s.toks) (λb o ae e=>(cK.2 b ae).trans e) f0 f1 e1 f4 e2
  have m7:ag[i].key=v:=by
   rw[Wg,Wj,V4 cm]at a0;exact WE a0
  obtain⟨o,e,c,dD⟩:=id aJ;exact⟨_,rfl,sz (s:={ s with heap:=h' }) e c dD (by decide) ⟨aq[i],H,bg,by rw[m7];exact aQ,⟨rfl,ah⟩,aJ,λb ae=>(hf b ae).1⟩⟩
 done:=by
  intro X d4 hw gH aj i pins s σ H E I hf st a8;subst d4 hw gH;obtain⟨aK,hi⟩:=a8;have ay:s.heap.get? d=some bh:=(show dA X.prog X.w H s.heap d (.dW bh u) from I.bM d _ aK).1;have au:aq.length=ag.size:=by rw[aT.length,List.length_map,Array.length_toList]
  obtain⟨f0,f1,f2,e1,f4,e2⟩:=hf it (by simp)
  subst hi;rw[au]at st;exact Pv.I8 (I.ok.hd aj) st ay hd λh' ed=>⟨rfl,I.turned (t':=s.toks) (λb o ae e=>ed b o ae e) f0 f1 e1 f4 e2⟩
 self:=λ_ _ _ _ _ st h=>wpAny_pyIter_keyiter st h
def Nv{K:W.Frag}{P:ax->ax->Prop}{G:ax}{d:Addr}{o:dz}{aq:List V}{ds:List D}(d4:∀aI H1,P aI H1->bQ G aI/\H1 d=some o)(r:bG K G ds aq):mL K P (zl d o aq) ds where
 go:=λi aI H1 h hi=>⟨(d4 aI H1 h).2,by rw[<- r.length];exact hi⟩
 kr:=λi aI H1 x aY d h ab hd ⟨e,y⟩=>by
  obtain⟨g,q⟩:=d4 aI H1 h;subst e;obtain⟨v,J,aa⟩:=r.get hd;rw[J]at y;cases y;exact⟨aI,Ext.refl ab,aa.mono g⟩
 stop:=λaI H1 h=>⟨(d4 aI H1 h).2,r.length.symm⟩
section
variable{G H:ax}
theorem AB(dZ:∀b xs,H b=some (.tup xs)->G b=some (.tup xs)){K:W.Frag}:∀{ar:List (List Int×Int)}{xs:List (List Key×Addr×Value)},Paired (λ(p:List Key×V)(q:List Key×Addr×Value)=>p.1=q.1/\H q.2.1=some (.tup (p.1.map de))/\RelV p.2 q.2.2) (gF ar) xs ->
  bG K G (ar.map λp=>.tup (p.1.map .int)) (xs.map λq=>V.ref q.2.1)
 |[],_,h=>by cases h;rfl
 |p::ar,_,h=>by
  cases h with
  |@cons _ q _ xs J aa =>
   refine⟨V.ref q.2.1,_,rfl,⟨q.2.1,p.1.map V.int,rfl,dZ _ _ ?_,?_⟩,AB dZ aa⟩
   .have:=J.2.1;dsimp only at this;rw[CK]at this;exact this
   .exact ints_rep p.1
 where ints_rep {K:W.Frag} {G:ax}:∀ns:List Int,bG K G (ns.map Den.D.int) (ns.map V.int)
  |[]=>rfl
  |n::ns=>⟨.int n,ns.map V.int,rfl,rfl,ints_rep ns⟩
theorem Gj:∀xs:List (List Key×Addr×Value),Vals (xs.map λq=>V.ref q.2.1) (xs.map λq=>Value.ref q.2.1)
 |[]=>.nil
 |q::xs=>.cons (show RelV (V.ref q.2.1) (Value.ref q.2.1) from rfl) (Gj xs)
end
theorem AA{K:W.Frag}{G:ax}{P:Program}{w:World}:∀{ar:List (Int×Int×Int)}{ys:List (Key×V)}{af:List (Key×Value)}{ag:List DictEntry},eu G ar ys->eJ ys af->Pairs (g9 P w) ag af ->
  bG K G (ar.map λp=>.int p.1) (ar.map λp=>V.int p.1)/\Vals (ar.map λp=>V.int p.1) (ag.map (·.key))
 |[],_,_,_,J,aa,aL=>by cases J;cases aa;cases aL;exact⟨rfl,.nil⟩
 |p::ar,_,_,_,⟨b,t,e,aN,ba⟩,aa,aL=>by
  subst e;cases aa with
  |@cons _ q _ VS cQ cp =>
   cases aL with
   |@cons dE _ m9 _ a0 aQ bq =>
    obtain⟨aG,a5⟩:=AA (K:=K) ba cp bq;have cQ:=cQ.1;dsimp only at cQ;rw[<- cQ]at a0;refine⟨⟨.int p.1,_,rfl,rfl,aG⟩,.cons ?_ a5⟩;have a0:Value.isInt p.1 dE.key=true:=a0;cases aw:dE.key with
    |int i t=>rw[aw]at a0;exact⟨t,by show dE.key=_;rw[aw,(show i=p.1 by simpa[Value.isInt] using a0)]⟩
    |_=>rw[aw]at a0;cases a0
section
variable{xp:cq}{X:aS}{ai:List Nat}{m:et}{dk:Expr}{bj:Pos}{i:Nat}{x:Str}
def RK(hm:m=.view\/m=.val)(hi:i∉ai)(aZ:X.N[i]?=some x)(aT:gn X.env.scope x)(J:(x==("__debug__":Str))=false)(aa:(x==("__classdict__":Str))=false):gR X dk (.Name x bj) (jE xp X ai m λC=>Den.oo C[i]?):=by
 intro pins s σ H R I ⟨G,C,ab,hw⟩;dsimp only at hw;have go:∀{d:Addr}{bh:Obj}{u:dz}{aq:List V}{ds:List D}{ag:Array DictEntry}{a4:Nat},σ[i]?=some (some (.ref d))->G d=some (.dW bh u)->(d==sysModules)=false->bh.ExactDict->bh.data=.dict ag a4->bG X.K G ds aq->Vals aq (ag.toList.map (·.key))->ds.length<=16777216 ->
   (∀cn aO ao,Ext G H aO ao->mL X.K (pQ m aO ao) cn ds->ds.length<=16777216->R cn ao)->wpAny (model X.prog X.w) X.A (eval (.Name x bj) X.env) (λv s1=>wpAny (model X.prog X.w) X.A (pyIter v) (uO X pins σ dk R) X.cC s1) X.cC s:=λ{d bh u aq ds ag a4} a0 aQ bq bY gI kY kZ au k=>by
  refine bK (h2 aZ aT J aa pins s σ H (λv H1=>v=.ref d/\H1=H) I ⟨_,a0,rfl,rfl⟩) λv s1 ⟨w,H1,bg,aG,ak,av⟩=>?_
  subst ak av;cases aG;have gu:=ab.sub _ _ aQ;have ay:s1.heap.get? d=some bh:=(show dA X.prog X.w H1 s1.heap d (.dW bh u) from bg.bM d _ gu).1;refine Pv.I9 bq ay bY gI ?_;refine⟨s1.heap.objs.size,[s1.heap.objs.size],_,_,H1,rfl,bg.kept (t':=s1.toks) λb o e=>VY _ e,Ug (u:=u) d _ gI kZ,⟨_,Wc _ rfl,rfl,rfl⟩,λb ae=>?_,k _ G H1 (Ext.refl ab.sub) (Nv (G:=G) (o:=.dW bh u) (λaI aY ⟨cQ,cp⟩=>⟨cQ,?_⟩) kY) au⟩
  .have e:b=s1.heap.objs.size:=by simpa using ae
   subst e;exact bg.qi (VZ _) (bg.bM.fresh (VZ _))
  .rcases hm with rfl|rfl
   .exact cp _ _ gu
   .exact cp _ _ (cQ _ _ aQ)
 unfold Den.oo at hw;cases ak:Den.jR C[i]? with
 |some ar =>
  rw[ak]at hw;obtain⟨v,a0,a,bh,rfl,aQ⟩:=ab.val i _ (p4 ak) hi;obtain⟨ay,cQ,cp,xs,d6,o,ag,a4,ib,ly,lz,Gx,Gy⟩:=(show dA X.prog X.w H s.heap a (.dW bh (.d8 (gF ar))) from I.bM a _ (ab.sub _ _ aQ));rw[ay]at ib;cases ib;have a9:=AB (K:=X.K) ab.dZ d6;refine go a0 aQ cp ly lz a9 (by rw[Gx,List.map_map];exact Gj xs) ?_ hw
  rw[List.length_map];unfold gF at cQ;rw[List.length_map,sizeLine_eq]at cQ;exact cQ
 |none =>
  rw[ak]at hw;dsimp only at hw;cases av:Den.iP C[i]? with
  |none=>rw[av]at hw;exact hw.elim
  |some ar =>
   rw[av]at hw;obtain⟨v,a0,a,bh,ys,rfl,aQ,bq⟩:=ab.val i _ (r9 av) hi;obtain⟨ay,cQ,cp,af,d6,o,ag,a4,ib,ly,lz,Gx,Gy,VV⟩:=(show dA X.prog X.w H s.heap a (.dW bh (.dI ys)) from I.bM a _ (ab.sub _ _ aQ));rw[ay]at ib;cases ib;obtain⟨aG,a5⟩:=AA (K:=X.K) bq d6 Gy;refine go a0 aQ cp ly lz aG a5 ?_ hw;rw[List.length_map,<- bq.len];rw[sizeLine_eq]at cQ;exact cQ
end
end bR
end
section
namespace bR
open PySem PySem.Spec PyProof.Rows bJ
section
variable{X:aS}
def Oh{l b:Addr}{items g8:Array Value}{n gL:Nat}{jz:Obj}(aj:jz.cls=.type "list")(hd:jz.data=.seq g8 gL)(Vr:¬(!items.isEmpty&&Builtin.List.listTooLong (items.size+g8.size))=true)(hz:items.size<=sizeLine)(qN:items.size+g8.size<=sizeLine+1):
  Meets (Builtin.«list.extend» ⟨[.ref l,.ref b],[]⟩) λ_ R s=>s.heap.get? l=some { cls:=.type "list",dict:=none,data:=.seq items n,slots:=#[] }/\s.heap.get? b=some jz /\
   R (.ok (.ret Value.none)) { s with heap:=s.heap.update l (Obj.mapSeq λx=>x++g8),toks:=s.toks }:=by
 refine .of_wp λprog w A R s h=>?_
 obtain⟨aE,g,d,tk,os⟩:=s;obtain⟨bz,dd,Vd,jC⟩:=jz;cases aj;cases hd;obtain⟨ak,av,h⟩:=h;have f1:=AutoSeq1.idx_int;have f2:=AutoSeq1.sub_list_list;have e1:=AutoSeq1.sub_list_tuple;have f4:=ZF;have e2:=AutoSeq1.sub_tuple_list;have M6:(items++g8).size<=sizeLine+1:=by rw[Xv];exact qN
 wp_walk using (Z2 ak rfl (hz:=hz) (_hz':=M6)),XO ak,XO av
 exact⟨_,rfl,h⟩
noncomputable def QT(K:W.Frag):V->List V->ax->c2->Prop:=λx af H Q=>∃l b xs zs,x=.ref l/\af=[.ref b]/\H l=some (.lst xs)/\ew K H b zs/\xs.length+zs.length<=sizeLine/\Q .cU (upd H l (.lst (xs++zs)))
def OS:zo X "list.extend" (QT X.K):=by
 intro pins s σ H x af v us Q I aW b4 h;obtain⟨l,b,xs,zs,rfl,rfl,gu,g0,hz,q⟩:=h;cases aW;obtain⟨u,rfl,dt⟩:=b4.one;cases dt;obtain⟨z,its,n,r,au,e⟩:=I.Dd gu;obtain⟨j7,a5,⟨jz,gL,av,bz,_,dd⟩,qN⟩:=I.list g0;have l5:=a5.length;have hsz:its.toArray.size+j7.toArray.size<=sizeLine:=by rw[V9,V9];omega
 refine call_meets F.slot_list_extend ⟨_,e,rfl⟩ F.entry_list_extend (F.args_list_extend_2 _ _) (Oh bz dd (by rw[O7 hsz,XB];exact WA) (by rw[V9];omega) (by omega)) ⟨e,av,?_⟩
 refine⟨.cU,_,I.Dc (its':=its++j7) gu e (by simp) (r.append a5) ?_,rfl,q⟩
 rw[V0];omega
variable{xp:cq}{ai:List Nat}{f:a6->bw D}{e:Expr}{bj ix ap fP:Pos}{i:Nat}{x n:Str}
def RH (hm : i ∈ ai) (az : n = "extend") (aZ : X.N[i]? = some x) (aT : gn X.env.scope x) (J : (x == ("__debug__" : Str)) = false) (aa : (x == ("__classdict__" : Str)) = false) (qy : (ap.endLine == fP.line) = true) (he : aP X e (bo xp X ai .val f)) (cN : starEach [e] X.env = [(false, eval e X.env)]) :
    eD X (.Expr (.Call (.Attribute (.Name x bj) n ap) [e] [] fP) ix) (ei xp X ai fun C => Den.lO C[i]? >>= fun _ => f C >>= fun d => Den.sj C[i]? d >>= fun y => .ok (.cg (C.set i (some y)))) := by
  subst az
  intro pins s σ H T I ⟨cw, bH, G, C, ae, hw⟩
  refine Ee (DY ZR PySem.F.slot_list_extend PySem.F.type_list_extend OS (h2 aZ aT J aa) (mm he cN) rfl (B5 cN) qy cN rfl) rfl pins s σ H T I ?_
  obtain ⟨ds, q, hw⟩ := Ag (bu.mp hw)
  obtain ⟨a, o, a0, aQ, bq, xs, rfl, bY⟩ := ae.df.lst i (.lst ds) q hm rfl
  refine ⟨_, a0, .inl ⟨rfl, xs, ew.of aQ⟩, ?_⟩
  refine ⟨G, C, ae.df, bV (bu.mp hw) (fun d k v aI H1 aR aG => ?_) fun _ z => z.mono ae.ext.h⟩
  have g4 := ae.step aR
  rw [q] at k
  cases d with
  | lst ag =>
    have k : cV ((if ds.length + ag.length <= Den.SZ then Den.R.ok (Den.D.lst (ds ++ ag)) else .bad) >>= fun y => .ok (Den.fb.cg (C.set i (some y)))) _ _ := k
    have k := bu.mp k
    by_cases hz : ds.length + ag.length <= Den.SZ
    · rw [if_pos hz] at k
      obtain ⟨b, zs, rfl, aX, hR⟩ := aG
      have wH : H1 a = some (.lst xs) := aR.h _ _ aQ
      have wG : aI a = none := aR.new a bq (by rw [aQ]; exact fun z => nomatch z)
      refine ⟨a, b, xs, zs, rfl, rfl, wH, lh aR.sub aX, by rw [<- bY.length, <- hR.length, <- kz]; exact hz, ?_⟩
      exact k σ aI _ (g4.write (d := .lst ds) (e := .lst (ds ++ ag)) hm q rfl rfl a0 wG ⟨_, rfl, (bY.mono aR.g).append hR⟩)
    · rw [if_neg hz] at k; exact k.elim
  | _ => exact k.elim
end
end bR
end
section
namespace bR
open PySem PySem.Spec PyProof.Rows bJ
def Ld{K:W.Frag}{G H aO ao:ax}{d:D}{v:V}(x:Ext G H aO ao)(r:cx K H aO ao .fresh d v):∃b9,Ext G H b9 ao/\Rep K b9 d v:=by
 cases d with
 |lst ds =>
  obtain⟨a,xs,rfl,J,aa,aL,a7⟩:=r;refine⟨upd aO a (.lst xs),⟨x.g.trans (fV aL),x.h,λb o q=>?_,λb aN ba=>?_,λb xs q=>(x.dZ b xs q).imp id λz=>fV aL _ _ z⟩,a,xs,rfl,.inl (.inl dF),a7.mono (fV aL)⟩
  .by_cases ae:b=a
   .subst ae;rw[dF]at q;rw[J];exact q
   .rw[c8 ae]at q;exact x.sub b o q
  .rw[c8 (λz=>ba (by rw[z];exact aa))];exact x.new b aN ba
 |bT _=>exact r.elim
 |bx _=>exact r.elim
 |_=>exact⟨aO,x,r⟩
section
variable{xp:cq}{X:aS}{ai:List Nat}{ji:a6->bw (List D)}{gb:a6->bw D}{cI:a6->bw Bool}{elt target iter:Expr}{ifs:List Expr}{scope:Scope}{pos bj ix:Pos}{xs cL:List Str}{k i:Nat}{y:Str}
def Rr (aj : X.calm = true) (hy : ∀ i ∈ ai, i < X.N.length) (B : n3 X scope xs cL) (aw : Den.fa k target = some xs) (nv : ∀ x, foldedSetIterable iter X.env x = pure x)
    (hi : gR X target iter (jE xp X ai .view ji)) (he : ∀ s3 b8 bE pins, aP (gC X scope cL s3 b8 bE pins) elt (bo xp (gC X scope cL s3 b8 bE pins) ai .val gb)) (aV : pT xp X ai scope cL ifs cI)
    (aZ : X.N.Nodup) (aC : X.N[i]? = some y) (ah : Loc X.env.scope y) (hf : X.fn y = true \/ X.env.scope.names.lookup y = some .local) :
    eD X (.Assign [.Name y bj] (.ListComp elt [⟨target, iter, ifs, 0⟩] scope pos) ix) (ei xp X ai fun C => (ji C >>= fun ds => Den.iw (Den.dC (iQ k cI gb C) ds) >>= fun ys => .ok (.lst ys)) >>= fun d => .ok (.cg (C.set i (some d)))) := by
  have j4 : ∃ b : Bool, swapsWith (.ListComp elt [⟨target, iter, ifs, 0⟩] scope pos) (some (.Name y bj)) ix.line X.env = pure b := ⟨_, rfl⟩
  obtain ⟨b, j4⟩ := j4
  cases b with
  | false =>
    by_cases hm : i ∈ ai
    · exact EN hm aZ aC ah (yB aj hy B aw nv hi he aV) j4 hf
    · exact EM hm aZ aC ah (aP.val (yB aj hy B aw nv hi he aV)) j4 hf
  | true =>
    intro pins s σ H T I ⟨cw, bH, G, C, ae, hw⟩
    rw [exec_Assign_Name_used _ _ _ _ j4]
    refine VW (wpAny_standAt (VW ?_))
    show wpAny _ X.A (do let _ <- comprehension (.ListComp elt [⟨target, iter, ifs, 0⟩] scope pos) scope X.env _ (newList []) false (eval iter X.env) (some (assign (.Name y bj) X.env))) _ _ s
    refine VW (WY (Av aj hy B aw nv hi he aV I ae.df (use := some (assign (.Name y bj) X.env)) (Qc := fun _ s' => uR X pins T .next s') ?_) (fun _ s' aK => wpAny_pure (wpAny_pure aK)) fun _ _ e => e)
    have hw := bu.mp (bu.mp hw)
    refine bu.mpr (bV hw (fun ds a0 => ?_) fun _ q => q.mono ae.ext.h)
    refine bV (bu.mp a0) (fun ys aQ s4 ao aO bD dg nI x r az L3 inv => ?_) fun _ q => q.mono ae.ext.h
    have fK : Inv X pins σ ao s4 := inv s4.heap (Zx _ _)
    obtain ⟨rm, ag, a4, ay, a9⟩ := id az
    have Mx : ∀ v, rm.data ≠ .cell v := fun v z => by
      have := a9.1
      rw [z] at this; cases this
    obtain ⟨f0, f1, f2, e1, f4, e2⟩ := L3
    have GF : Inv X (pins ++ [(bD, rm)]) σ ao s4 := fK.yg fun p aE => by
      rcases Wi.mp aE with z | z
      · exact fK.pin p (Wf _ z)
      · have z := Ws.mp z
        subst z
        exact ⟨ay, f0, f1, f2, Mx⟩
    show wpAny _ X.A (assign (.Name y bj) X.env (.ref dg)) _ _ s4
    refine wpAny_assign_Name (yS GF aZ aC ah (v := .ref dg) rfl (fun s5 lD => ?_) hf)
    have cu : s5.heap.get? bD = some rm := (lD.pin (bD, rm) (Wf _ (Wf _ (Ws.mpr rfl)))).1
    refine ⟨nI, ⟨rm, ag, a4, cu, a9⟩, fun h' cK => ⟨σ.set i (some (.ref dg)), ao, ?_, ?_⟩⟩
    · exact (lD.px).turned (t' := s5.toks) (fun b o ae e => (cK.2 b ae).trans e) f0 f1 e1 f4 e2
    · by_cases hm : i ∈ ai
      · exact aQ _ aO ao (ae.E3 x hm r)
      · obtain ⟨b9, bI, a5⟩ := Ld x r
        exact aQ _ b9 ao ((ae.step bI).rD hm a5)
end
end bR
end
section
namespace bR
open PySem PySem.Spec PyProof.Rows bJ
noncomputable def nice:Expr->Bool
 |.Starred ..=>false
 |.Set ..=>false
 |.SetComp ..=>false
 |.DictComp ..=>false
 |.Slice ..=>false
 |_=>true
def nn{α:Type}{a:α}{p:Prop}(h:none=some a):p:=nomatch h
def iE{x:Expr}{y:Str}(h:Den.iD x=some y):∃p,x=.Name y p:=by
 cases x with
 |Name z p=>cases h;exact⟨p,rfl⟩
 |_=>exact nn h
def Uw{x:Expr}{c:Const}(h:Den.F8 x=some c):∃k p,x=.Constant c k p:=by
 cases x with
 |Constant z k p=>cases h;exact⟨k,p,rfl⟩
 |_=>exact nn h
def UB{x:Expr}{ag:List Expr}(h:Den.Ge x=some ag):∃k p,x=.Tuple ag k p:=by
 cases x with
 |Tuple z k p=>cases h;exact⟨k,p,rfl⟩
 |_=>exact nn h
def Uz{x:Expr}{ag:List Expr}(h:Den.Ga x=some ag):∃p,x=.List ag p:=by
 cases x with
 |List z p=>cases h;exact⟨p,rfl⟩
 |_=>exact nn h
def Uv{x a b:Expr}{o:Operator}(h:Den.F3 x=some (a,o,b)):∃p,x=.BinOp a o b p:=by
 cases x with
 |BinOp l o r p=>cases h;exact⟨p,rfl⟩
 |_=>exact nn h
def Gf{x a:Expr}{o:UnaryOp}(h:Den.y9 x=some (o,a)):∃p,x=.UnaryOp o a p:=by
 cases x with
 |UnaryOp o r p=>cases h;exact⟨p,rfl⟩
 |_=>exact nn h
def F5{x a:Expr}{os:List CmpOp}{ys:List Expr}(h:Den.y6 x=some (a,os,ys)):∃p,x=.Compare a os ys p:=by
 cases x with
 |Compare l o r p=>cases h;exact⟨p,rfl⟩
 |_=>exact nn h
def ug{x:Expr}{o:BoolOp}{ag:List Expr}{p:Pos}(h:Den.vBool x=some (o,ag,p)):x=.BoolOp o ag p:=by
 cases x with
 |BoolOp o ag p=>cases h;rfl
 |_=>exact nn h
def y8{x a b:Expr}(h:Den.ui x=some (a,b)):∃p,x=.Subscript a b p:=by
 cases x with
 |Subscript l r p=>cases h;exact⟨p,rfl⟩
 |_=>exact nn h
def UA{x:Expr}{a b c:Option Expr}(h:Den.Gd x=some (a,b,c)):∃p,x=.Slice a b c p:=by
 cases x with
 |Slice l r t p=>cases h;exact⟨p,rfl⟩
 |_=>exact nn h
def F4{x f:Expr}{ag:List Expr}{aq:List Keyword}(h:Den.y5 x=some (f,ag,aq)):∃p,x=.Call f ag aq p:=by
 cases x with
 |Call l r t p=>cases h;exact⟨p,rfl⟩
 |_=>exact nn h
def mB{x:Expr}{y:Str}{ag:List Expr}(h:Den.lr x=some (y,ag)):∃p q,x=.Call (.Name y p) ag [] q:=by
 unfold Den.lr at h
 split at h
 .rename_i f m9 ak;obtain⟨q,rfl⟩:=F4 ak
  split at h
  .rename_i z av;obtain⟨p,rfl⟩:=iE av;cases h;exact⟨p,q,rfl⟩
  .cases h
 .cases h
def Uy{x a b c:Expr}(h:Den.F9 x=some (a,b,c)):∃p,x=.IfExp a b c p:=by
 cases x with
 |IfExp l r t p=>cases h;exact⟨p,rfl⟩
 |_=>exact nn h
def F7{x a:Expr}{jV:List Comprehension}{sc:Scope}(h:Den.F6 x=some (a,jV,sc)):∃p,x=.ListComp a jV sc p:=by
 cases x with
 |ListComp l r t p=>cases h;exact⟨p,rfl⟩
 |_=>exact nn h
def fy{g:Den.Gt}{ct:Den.b7}{v:Bool}{e:Den.E}{x:Expr}(h:Den.bS g ct v e x=true):nice x=true:=by
 cases az:nice x with
 |true=>rfl
 |false =>
  exfalso;cases x<;>first|(cases az;done)|skip
  all_goals (cases e<;>exact WA h)
def nT{e:Expr}{ag:List Expr}{env:Env}(h:nice e=true):starEach (e::ag) env=(false,eval e env)::starEach ag env:=by
 cases e<;>first|rfl|cases h
def h6{e:Expr}{env:Env}(h:nice e=true):starEach [e] env=[(false,eval e env)]:=nT h
def SY{e bl:Expr}{env:Env}(h:nice e=true)(h':nice bl=true):starEach [e,bl] env=[(false,eval e env),(false,eval bl env)]:=by rw[nT h,h6 h']
def Qr{ag:List Expr}{env:Env}{pos:Pos}(h:∀e∈ag,nice e=true):(backTo pos (starEach ag env)).any (·.1)=false:=by
 induction ag with
 |nil=>rfl
 |cons e ag aD =>
  rw[nT (h e List.mem_cons_self)];show(false||(backTo pos (starEach ag env)).any (·.1))=false
  rw[aD λz hz=>h z (List.mem_cons_of_mem _ hz)];rfl
def ND{b:Expr}(h:nice b=true):uP b:=by
 intro o i;cases b<;>first|rfl|cases h
def set_plain{b:Expr}{env:Env}(h:nice b=true):∀x,foldedSetIterable b env x=pure x:=by
 intro x;cases b<;>first|rfl|cases h
def Dk{b:Expr}{op:CmpOp}(h:nice b=true):behindInMarks op b=false:=by
 cases b<;>first|rfl|cases h
def Fy{e:Expr}{t:Option Expr}{n:Nat}{env:Env}(h:nice e=true)(aj:Den.xZ e=true):swapsWith e t n env=pure false:=by
 cases e<;>first|rfl|(cases aj;done)|(cases h;done)
noncomputable def pG:List Str:=["len","isinstance","int","bool","str","tuple","list","sorted","set","range","sum","max"]
structure fC(P:Program)(w:World)(K:W.Frag)(aF:Str->Option Value)(base:Heap)(xp:cq)(k:Nat)(g:Den.Gt)(pg:Den.dm)(Φ:Den.dy):Prop where
 fn:∀(f:Nat)(x:Str),g.fns[f]?=some x->∃bk fd bf,aF x=some (.ref bk)/\W.keepIn K (.ref bk)=true/\Binds K fd bf []/\jK P w K aF base (jJ P w xp) k bk fd bf (nS K (Φ f) bf.length)/\∀ds,ds.length≠bf.length->Φ f ds=.bad
 blt:∀x:Str,x∈pG->aF x=none
 lY:∀(j:Nat)(x:Str)(d:D),g.lY[j]?=some x->pg.cs[j]?=some d->∃v u,aF x=some u/\RelV v u/\∀G,Rep K G d v
structure dB(xp:cq)(k:Nat)(g:Den.Gt)(pg:Den.dm)(Φ:Den.dy)(X:aS)(ct:Den.b7):Prop where
 cH:fC X.prog X.w X.K X.aF X.base xp k g pg Φ
 room:fM k X.A
 units:X.A.units+64<cLine
 calm:X.calm=true
 nm:X.N=ct.N
 ep:ct.N.Nodup
 ai:∀i∈ct.ai,i<ct.N.length
 lc:∀x,ct.sc.names.lookup x=some .local->X.env.scope.names.lookup x=some .local
 r3:∀x,(ct.sc.names.lookup x=some .cell\/ct.sc.names.lookup x=some .free)->(X.env.scope.names.lookup x=some .cell\/X.env.scope.names.lookup x=some .free)
 gl:∀x,ct.sc.names.lookup x=some .globalImplicit->X.env.kindOf x=some .globalImplicit
section
variable{xp:cq}{k:Nat}{g:Den.Gt}{pg:Den.dm}{Φ:Den.dy}{X:aS}{ct:Den.b7}
def dB.i5(h:dB xp k g pg Φ X ct){x:Str}(q:Den.kp ct.sc x=true):gn X.env.scope x:=by
 unfold Den.kp at q;simp only[XE,WQ]at q;rcases q with(q|q)|q
 .exact .inl (h.lc x q)
 .exact .inr (h.r3 x (.inl q))
 .exact .inr (h.r3 x (.inr q))
def dB.wz(h:dB xp k g pg Φ X ct){x:Str}(q:Den.lZ ct.sc x=true):eb X x:=by
 unfold Den.lZ at q;exact h.gl x (by simpa using q)
def h1{x:Str}(h:Den.okN x=true):(x==("__debug__":Str))=false/\(x==("__classdict__":Str))=false/\x≠"__name__":=by
 unfold Den.okN at h;simp only[VX,WH]at h;exact⟨h.1.1,h.1.2,λz=>by rw[z]at h;exact absurd h.2 (by decide)⟩
theorem dB.blt(h:dB xp k g pg Φ X ct){x:Str}(q:Den.eO g ct.sc x=true)(az:x∈pG):eb X x/\X.aF x=none:=by
 unfold Den.eO at q;simp only[VX,WH]at q;exact⟨h.wz q.1.1.1,h.cH.blt x az⟩
end
noncomputable def jx(v:Bool):et:=if v then .view else .val
structure Res(xp:cq)(X:aS)(ai:List Nat)(v fr:Bool)(x:Expr)(f:a6->bw D):Prop where
 dJ:aP X x (bo xp X ai (jx v) f)
 fresh:fr=true->aP X x (bo xp X ai .fresh f)
 pt:dx X x (fs xp X ai f)
 e5:(∃op ag p,x=.BoolOp op ag p)->ie X x (fs xp X ai f)
section
variable{xp:cq}{X:aS}{ai:List Nat}{v fr:Bool}{x:Expr}{f:a6->bw D}
theorem Res.view(h:Res xp X ai v fr x f):aP X x (bo xp X ai .view f):=aP.view h.dJ
theorem Res.val(h:Res xp X ai false fr x f):aP X x (bo xp X ai .val f):=h.dJ
def D0(h:aP X x (bo xp X ai .val f)):aP X x (bo xp X ai (jx v) f):=by
 cases v with
 |true=>exact aP.view h
 |false=>exact h
def Res.nM(h:aP X x (bo xp X ai .val f))(aV:∀whole,isTrue x X.env whole=(do let v <- whole;standAt x.pos;holding [v] (truthy v)))(ae:∀op ag p,x≠.BoolOp op ag p)(hf:fr=false):Res xp X ai v fr x f :=
 ⟨D0 h,λz=>(by rw[hf]at z;cases z),lb (aP.view h) aV,λ⟨op,ag,p,e⟩=>absurd e (ae op ag p)⟩
def Res.nL(h:aP X x (bo xp X ai .fresh f))(aV:∀whole,isTrue x X.env whole=(do let v <- whole;standAt x.pos;holding [v] (truthy v)))(ae:∀op ag p,x≠.BoolOp op ag p):Res xp X ai v fr x f :=
 ⟨D0 (aP.val h),λ_=>h,lb (aP.view h) aV,λ⟨op,ag,p,e⟩=>absurd e (ae op ag p)⟩
def Res.k6(h:∀m,aP X x (bo xp X ai m f))(aV:dx X x (fs xp X ai f))(ae:∀op ag p,x≠.BoolOp op ag p):Res xp X ai v fr x f :=
 ⟨h _,λ_=>h _,aV,λ⟨op,ag,p,e⟩=>absurd e (ae op ag p)⟩
end
end bR
end
section
namespace bR
open PySem PySem.Spec PyProof.Rows bJ
def ra(N xs:List Str):(Den.mask N xs).length=N.length:=by unfold Den.mask;rw[List.length_map]
structure pH(ct:Den.b7)(scope:Scope)(xs:List Str):Prop where
 kind:scope.kind=.function
 mi:∀y∈scope.names,y.2≠.cell
 names:∀y∈scope.names,y.2=.local->scope.names.lookup y.1=some .local
 fa:∀y∈xs,scope.names.lookup y=some .local
 loc:∀y∈scope.names,y.2=.local->y.1∈xs\/y.1=(".0":Str)
 fr:∀y∈scope.names,y.2=.free->ct.sc.names.lookup y.1=some .cell\/ct.sc.names.lookup y.1=some .free
 same:∀p∈(Den.mask ct.N xs).zip ct.N,p.1=p.2\/scope.names.lookup p.1=none
 ep:(Den.mask ct.N xs++xs).Nodup
 dot:(".0":Str)∉Den.mask ct.N xs++xs
section
variable{xp:cq}{k:Nat}{g:Den.Gt}{pg:Den.dm}{Φ:Den.dy}{X:aS}{ct:Den.b7}{scope:Scope}{xs:List Str}
def pH.block(aH:dB xp k g pg Φ X ct)(b:pH ct scope xs):n3 X scope xs (Den.mask ct.N xs++xs) where
 kind:=b.kind
 mi:=b.mi
 names:=b.names
 loc:=λy h=>b.loc (y,.local) (WI h) rfl
 fa:=b.fa
 fr:=λy aC e=>aH.r3 y.1 (b.fr y aC e)
 len:=by rw[V0,ra,aH.nm]
 old:=λi y hi e ab=>by
  rw[aH.nm]at hi ⊢;rw[We (by rw[ra];exact hi)]at e
  have hz:((Den.mask ct.N xs).zip ct.N)[i]?=some (y,ct.N[i]):=by
   rw[List.getElem?_zip_eq_some];exact⟨e,V5 hi⟩
  have hm:=b.same _ (Xh hz);have aC:y∈Den.mask ct.N xs:=Xh e;rcases hm with hm|hm
  .refine⟨by have hm:y=ct.N[i]:=hm;rw[V5 hi,<- hm],λah=>?_,λz=>b.dot (List.mem_append_left _ (z▸aC))⟩
   exact(YD.mp b.ep).2.2 y aC y ah rfl
  .simp only at hm;rw[hm]at ab;cases ab
 new:=λj=>by
  rw[aH.nm,Wx (by rw[ra];omega),ra];congr 1;omega
 ep:=b.ep
def pH.ok(aH:dB xp k g pg Φ X ct)(b:pH ct scope xs)(s3:Shared)(b8:ax)(bE:List Addr)(pins:List (Addr×Obj)):dB xp k g pg Φ (gC X scope (Den.mask ct.N xs++xs) s3 b8 bE pins) ⟨Den.mask ct.N xs++xs,scope,ct.ai⟩ where
 cH:=aH.cH
 room:=aH.room
 units:=aH.units
 calm:=aH.calm
 nm:=rfl
 ep:=b.ep
 ai:=λi hi=>by
  have:=aH.ai i hi;show i<(Den.mask ct.N xs++xs).length;rw[V0,ra];omega
 lc:=λx h=>tL h (by decide)
 r3:=λx h=>by
  rcases h with h|h
  .exact absurd rfl (b.mi _ (WI h))
  .exact yv h
 gl:=λx h=>tL h (by decide)
end
def HG {ct : Den.b7} {sc : Scope} {xs : List Str} (h : Den.pY ct sc xs = true) : pH ct sc xs := by
  unfold Den.pY at h
  rw [VX, VX, VX, VX, VX, VX, VX, VX, VX] at h
  obtain ⟨⟨⟨⟨⟨⟨⟨⟨⟨J, aa⟩, aL⟩, a7⟩, _⟩, cu⟩, gZ⟩, il⟩, eH⟩, l1⟩ := h
  exact {
    kind := ZD J
    mi := fun y aC => by simpa using Wt.mp aa y aC
    names := fun y aC e => by
      have := Wt.mp aL y aC
      rw [e] at this
      simpa using this
    fa := fun y aC => by
      have := Wt.mp a7 y aC
      simp only [VX, WQ] at this
      exact this.1
    loc := fun y aC e => by
      have := Wt.mp cu y aC
      rw [e] at this
      simpa using this
    fr := fun y aC e => by
      have := Wt.mp gZ y aC
      rw [e] at this
      simpa using this
    same := fun p aE => by
      have := Wt.mp il p aE
      simpa using this
    ep := ZD eH
    dot := by simpa using l1 }
section
variable{xp:cq}{k:Nat}{g:Den.Gt}{pg:Den.dm}{Φ:Den.dy}{X:aS}{ct:Den.b7}{v:Bool}
def PD{ag:List Expr}:ft X ag (λ_ _ _=>False):=λ_ _ _ _ _ _ _ h=>h.elim
def RO{ai:List Nat}{m:et}{f:a6->bw D}{up:Den.gE}{c:Nat}{e:Expr}{x t:Str}{p fz pos:Pos}(ni:eb X x)(hm:X.aF x=none)(aT:bootBuiltins x=some (.builtin "isinstance"))(aA:aP X e (bo xp X ai .view f))(az:x≠"__name__")(hu:(x==("__debug__":Str))=false)(cN:starEach [e,.Name t fz] X.env=(false,eval e X.env)::starEach [.Name t fz] X.env):
  aP X (.Call (.Name x p) [e,.Name t fz] [] pos) (bo xp X ai m λC=>f C>>=λd=>Den.j6 up d (.cls c)>>=λb=>.ok (.aU b)):=by
 intro pins s σ H Q I ⟨G,C,ab,hw⟩;refine yd (r:=λ_ _ _=>False) (λ_ _ _ _ _ _ _ _ _ z=>z.elim) ni hm aT (o4 aA PD cN) az hu cN rfl pins s σ H Q I ?_
 refine⟨G,C,ab,bV (bu.mp hw) (λbb k v aI H1 aR aG=>?_) λ_ q=>q⟩
 cases bb<;>first|exact k.elim|exact aG.elim
def Rv{ai:List Nat}{bF:a6->bw (List D)}{hg:List D->bw D}{fn:Addr}{fd:FuncData}{bf:List Str}{x:Str}{e:Expr}{ag:List Expr}{p pos:Pos}(F:jK X.prog X.w X.K X.aF X.base (jJ X.prog X.w xp) k fn fd bf (nS X.K hg bf.length))(a9:fM k X.A)(a8:eb X x)(hm:X.aF x=some (.ref fn))(aw:W.keepIn X.K (.ref fn)=true)(ae:Binds X.K fd bf [])(aA:ft X (e::ag) (mz xp X ai bF))(au:∀ds,ds.length≠bf.length->hg ds=.bad)(hu:(x==("__debug__":Str))=false)(he:starEach (e::ag) X.env=(false,eval e X.env)::starEach ag X.env)(ea:(backTo pos (starEach ag X.env)).any (·.1)=false):
  aP X (.Call (.Name x p) (e::ag) [] pos) (bo xp X ai .val λC=>bF C>>=λds=>hg ds):=by
 intro pins s σ H Q I ⟨G,C,ab,hw⟩;refine PK (dvs:=[]) (ds:=[]) (E:=AN xp X) F a9 a8 hm aw ae .nil PG aA hu he ea pins s σ H Q I ?_;have hw:=bu.mp hw;refine⟨G,C,ab,?_⟩;cases q:bF C with
 |ok ds =>
  rw[q]at hw;intro af aI H1 aR aG;rw[W5]
  by_cases hlen:ds.length=bf.length
  .refine⟨by rw[<- aG.length];exact hlen,aI,ds,aR.sub,(ab.ext aR).dZ,aG,?_⟩
   refine bV hw (λd k v b9 aY bI a5=>k v b9 aY (aR.trans bI) a5) λc z aY aa cy jh=>?_
   injection jh with jh _;have:c=cy:=by omega
   subst this;exact(z.mono aR.h).mono aa
  .have hw:cV (hg ds) _ _:=hw;rw[au ds hlen]at hw;exact hw.elim
 |exc c=>rw[q]at hw;exact hw
 |bad=>rw[q]at hw;exact hw
end
end bR
end
section
namespace bR
open PySem PySem.Spec PyProof.Rows bJ
section
variable{xp:cq}{k:Nat}{g:Den.Gt}{pg:Den.dm}{Φ:Den.dy}
def Hz(o:Den.Op)(x y:D)(c:Nat):Den.dT o x y≠.exc c:=by
 refine DH ?_ c;cases o<;>cases x<;>cases y<;>first|rfl|exact mh rfl rfl|exact mh (mh rfl rfl) rfl
def Oc(d:D)(c:Nat):Den.jv d≠.exc c:=by
 intro h;cases d<;>simp only[Den.jv]at h<;>first|(cases h;done)|(split at h<;>cases h)
def SS(d:D)(c:Nat):(Den.fj d>>=λxs=>Den.sorted xs)≠.exc c:=by
 intro h;have key:∀xs:List D,Den.sorted xs≠.exc c:=λxs h=>by
  unfold Den.sorted at h
  split at h<;>cases h
 cases d with
 |tup xs=>exact key xs h
 |lst xs=>exact key xs h
 |_=>cases h
def Sj(d:D)(c:Nat):(Den.fj d>>=λxs=>Den.R.ok (Den.D.lst xs))≠.exc c:=by
 intro h;cases d<;>cases h
def Sm(d:D)(c:Nat):(Den.fj d>>=λxs=>Den.R.ok (Den.D.tup xs))≠.exc c:=by
 intro h;cases d<;>cases h
def S8(d:D)(c:Nat):(Den.oR d>>=λxs=>Den.i3 xs)≠.exc c:=by
 intro h;cases d with
 |lst xs =>
  have h:Den.i3 xs=.exc c:=h;unfold Den.i3 at h
  split at h<;>cases h
 |_=>cases h
def OA(d:D)(c:Nat):(Den.oR d>>=λxs=>Den.kc xs)≠.exc c:=by
 intro h;cases d with
 |lst xs =>
  have h:Den.kc xs=.exc c:=h;unfold Den.kc at h
  split at h<;>cases h
 |_=>cases h
def hp{x y:Str}(h:(x==y)=true):x=y:=by simpa using h
def RY{X:aS}{ct:Den.b7}{ai:List Nat}{m:et}{p:Den.eE}{f:a6->bw D}{e:Expr}{x:Str}{q pos:Pos}(aH:dB xp k g pg Φ X ct)(aE:Den.rr p=true)(ah:x=Den.rq p)(ae:Den.eO g ct.sc x=true)(aA:aP X e (bo xp X ai .view f))(az:nice e=true):
  aP X (.Call (.Name x q) [e] [] pos) (bo xp X ai .fresh λC=>f C>>=λd=>Den.k7 pg.up p d):=by
 cases p with
 |len =>
  subst ah;obtain⟨J,aa⟩:=aH.blt ae (by decide)
  exact tQ (m:=.fresh) Oc f_len J aa (by kernel_rfl) aA (by decide) (by decide) (h6 az)
 |sorted =>
  subst ah;obtain⟨J,aa⟩:=aH.blt ae (by decide)
  exact tQ (m:=.fresh) SS (KV aH.calm aH.units) J aa (by kernel_rfl) aA (by decide) (by decide) (h6 az)
 |sum =>
  subst ah;obtain⟨J,aa⟩:=aH.blt ae (by decide)
  exact tQ (m:=.fresh) S8 (KW aH.calm) J aa (by kernel_rfl) aA (by decide) (by decide) (h6 az)
 |max =>
  subst ah;obtain⟨J,aa⟩:=aH.blt ae (by decide)
  exact tQ (m:=.fresh) OA (KR aH.calm) J aa (by kernel_rfl) aA (by decide) (by decide) (h6 az)
 |inst t=>cases aE
 |fJ=>cases aE
def ph{X:aS}{ct:Den.b7}(aH:dB xp k g pg Φ X ct){o:Den.gM}{op:CmpOp}(h:Den.r6 o op=true):c1 X (compareOp op) (fU X.K (Den.dq o)):=by
 cases o<;>cases op<;>first|(cases h;done)|skip
 .exact HP aH.units
 .exact HX aH.units
 .exact HW aH.units
 .exact HV
 .exact HR
 .exact HQ
 .exact HT
 .exact HU
 .exact HS aH.units
 .exact HY aH.units
def Ru{X:aS}{o:Den.Op}{op:Operator}(h:Den.DO o op=true):c1 X (binaryOp op) (k9 X.K (Den.dT o)):=by
 cases o<;>cases op<;>first|(cases h;done)|skip
 .exact Jb
 .exact Ji
 .exact Jg
 .exact Jd
 .exact Jf
 .exact Jc
 .exact Jj
def N2{op op':CmpOp}{b c:Expr}(h:nice c=true):lastMarks [op,op'] [b,c]=false:=Dk h
def boot_isinstance:bootBuiltins "isinstance"=some (.builtin "isinstance"):=by kernel_rfl
def HJ(t:Den.Ty)(aV:∀c,t≠.cls c):bootBuiltins (Den.tyName t)=some (.type (pw t))/\Den.tyName t≠"__name__"/\(Den.tyName t==("__debug__":Str))=false/\Den.tyName t∈pG:=by
 cases t with
 |cls c=>exact absurd rfl (aV c)
 |int=>exact⟨by kernel_rfl,by decide,by decide,by decide⟩
 |bool=>exact⟨by kernel_rfl,by decide,by decide,by decide⟩
 |str=>exact⟨by kernel_rfl,by decide,by decide,by decide⟩
 |tuple=>exact⟨by kernel_rfl,by decide,by decide,by decide⟩
end
end bR
end
section
namespace bR
open PySem PySem.Spec PyProof.Rows bJ
section
variable{xp:cq}{k:Nat}{g:Den.Gt}{pg:Den.dm}{Φ:Den.dy}
variable(xp k g pg Φ) in
structure iF (n:Nat):Prop where
 e:∀(e:Den.E)(x:Expr)(ct:Den.b7)(v:Bool)(X:aS),sizeOf e<n->dB xp k g pg Φ X ct->Den.bS g ct v e x=true->Res xp X ct.ai v (Den.ik e) x (λC=>Den.ev pg Φ C e)
 a:∀(a:Den.A)(ag:List Expr)(ct:Den.b7)(X:aS),sizeOf a<n->dB xp k g pg Φ X ct->Den.lP g ct a ag=true->ft X ag (mz xp X ct.ai λC=>Den.hr pg Φ C a)/\(∀e∈ag,nice e=true)/\∀C ds,Den.hr pg Φ C a=.ok ds->ds.length=ag.length
 o:∀(o:Den.O)(x:Option Expr)(ct:Den.b7)(X:aS),sizeOf o<n->dB xp k g pg Φ X ct->Den.p1 g ct o x=true->jN X x (pq xp X ct.ai λC=>Den.lW pg Φ C o)
 i:∀(s:Den.I)(x:Expr)(ct:Den.b7)(v:Bool)(X:aS)(dk:Expr),sizeOf s<n->dB xp k g pg Φ X ct->Den.gq g ct v s x=true->(Den.mn s=true->∃elts j p,dk=.Tuple elts j p)->gR X dk x (jE xp X ct.ai (jx v) λC=>Den.gG pg Φ C s)/\nice x=true
def Dm(v:Bool):jx v=.view\/jx v=.val:=by cases v<;>simp[jx]
variable{n:Nat}
def Hg{ct:Den.b7}{v:Bool}{X:aS}(aH:dB xp k g pg Φ X ct){i:Nat}{x:Str}{p:Pos}(h:(ct.N[i]?==some x&&Den.kp ct.sc x&&Den.okN x&&(v||!ct.ai.contains i))=true):Res xp X ct.ai v (Den.ik (.var i)) (.Name x p) (λC=>Den.ev pg Φ C (.var i)):=by
 simp only[VX,WQ,XE,WH]at h;obtain⟨⟨⟨J,aa⟩,aL⟩,a7⟩:=h;obtain⟨cB,dd,om⟩:=h1 aL;have aZ:X.N[i]?=some x:=by rw[aH.nm];exact J
 have aT:=aH.i5 aa;refine⟨?_,λz=>(by cases z),lb (EW aZ aT cB dd) λ_=>rfl,λ⟨_,_,_,z⟩=>(by cases z)⟩
 cases v with
 |true=>exact EW aZ aT cB dd
 |false =>
  rcases a7 with a7|a7
  .cases a7
  .exact Sa (λz=>by rw[W0.mpr z]at a7;cases a7) aZ aT cB dd
def Ha{ct:Den.b7}{v:Bool}{X:aS}(aH:dB xp k g pg Φ X ct){j:Nat}{x:Str}{p:Pos}(h:(g.lY[j]?==some x&&Den.lZ ct.sc x&&Den.okN x)=true):Res xp X ct.ai v (Den.ik (.glob j)) (.Name x p) (λC=>Den.ev pg Φ C (.glob j)):=by
 simp only[VX,WQ]at h;obtain⟨⟨J,aa⟩,aL⟩:=h;obtain⟨cB,dd,om⟩:=h1 aL;cases q:pg.cs[j]? with
 |none =>
  have e:∀C,Den.ev pg Φ C (.glob j)=.bad:=λC=>Xl Den.wx q
  exact Res.k6 (λm=>EO e) (lb (EO e) λ_=>rfl) λ_ _ _ z=>by cases z
 |some d =>
  obtain⟨w,u,ak,av,bL⟩:=aH.cH.lY j x d J q;have e:(λC=>Den.ev pg Φ C (.glob j))=λ_=>.ok d:=funext λC=>Den.J9 j q
  rw[e];exact Res.nM (RJ (aH.wz aa) ak av bL cB) (λ_=>rfl) (λ_ _ _ z=>by cases z) rfl
def G6(aD:iF xp k g pg Φ n){ct:Den.b7}{v:Bool}{X:aS}(aH:dB xp k g pg Φ X ct){f:Nat}{a:Den.A}(ab:sizeOf a<n){x:Str}{ag:List Expr}{p pos:Pos}(h:(g.fns[f]?==some x&&Den.lZ ct.sc x&&Den.okN x&&!ag.isEmpty&&Den.lP g ct a ag)=true):
  Res xp X ct.ai v (Den.ik (.call f a)) (.Call (.Name x p) ag [] pos) (λC=>Den.ev pg Φ C (.call f a)):=by
 simp only[VX,WQ,WH]at h;obtain⟨⟨⟨⟨J,aa⟩,aL⟩,a7⟩,cu⟩:=h;obtain⟨cB,dd,om⟩:=h1 aL;obtain⟨bj,b3,ef⟩:=aD.a a ag ct X ab aH cu;obtain⟨bk,fd,bf,ak,av,bL,fD,Jw⟩:=aH.cH.fn f x J;cases ag with
 |nil=>cases a7
 |cons e ag =>
  exact Res.nM (Rv fD aH.room (aH.wz aa) ak av bL bj Jw cB (nT (b3 e List.mem_cons_self)) (Qr λz hz=>b3 z (List.mem_cons_of_mem _ hz))) (λ_=>rfl) (λ_ _ _ z=>by cases z) rfl
def Hb(aD:iF xp k g pg Φ n){ct:Den.b7}{v:Bool}{X:aS}(aH:dB xp k g pg Φ X ct){t:Den.Ty}(aV:∀c,t=.cls c->False){a:Den.E}(ab:sizeOf a<n){x y:Str}{e:Expr}{p fz pos:Pos}(h:(x==("isinstance":Str)&&Den.eO g ct.sc x&&y==Den.tyName t&&Den.eO g ct.sc y&&Den.bS g ct true a e)=true):
  Res xp X ct.ai v (Den.ik (.prim (.inst t) a)) (.Call (.Name x p) [e,.Name y fz] [] pos) (λC=>Den.ev pg Φ C (.prim (.inst t) a)):=by
 simp only[VX]at h;obtain⟨⟨⟨⟨J,aa⟩,aL⟩,a7⟩,cu⟩:=h;have J:=hp J;have aL:=hp aL;subst J aL;have j5:∀c,t≠.cls c:=λc z=>aV c z
 obtain⟨b1,b2,ec,gp⟩:=HJ t j5;obtain⟨g1,g2⟩:=aH.blt aa (by decide)
 obtain⟨g3,iR⟩:=aH.blt a7 gp;have r:=aD.e a e ct true X ab aH cu;have dJ:∀m,aP X (.Call (.Name "isinstance" p) [e,.Name (Den.tyName t) fz] [] pos) (bo xp X ct.ai m λC=>Den.ev pg Φ C (.prim (.inst t) a)):=λm =>
  RN (up:=pg.up) j5 g1 g2 boot_isinstance g3 iR b1 r.view (by decide) (by decide) b2 ec (nT (fy cu))
 exact Res.k6 dJ (lb (dJ _) λ_=>rfl) λ_ _ _ z=>by cases z
def Hc(aD:iF xp k g pg Φ n){ct:Den.b7}{v:Bool}{X:aS}(aH:dB xp k g pg Φ X ct){c:Nat}{a:Den.E}(ab:sizeOf a<n){x t:Str}{e:Expr}{p fz pos:Pos}(J:(x==("isinstance":Str))=true)(aa:Den.eO g ct.sc x=true)(cu:Den.bS g ct true a e=true):
  Res xp X ct.ai v (Den.ik (.prim (.inst (.cls c)) a)) (.Call (.Name x p) [e,.Name t fz] [] pos) (λC=>Den.ev pg Φ C (.prim (.inst (.cls c)) a)):=by
 have J:=hp J;subst J;obtain⟨g1,g2⟩:=aH.blt aa (by decide)
 have r:=aD.e a e ct true X ab aH cu;have dJ:∀m,aP X (.Call (.Name "isinstance" p) [e,.Name t fz] [] pos) (bo xp X ct.ai m λC=>Den.ev pg Φ C (.prim (.inst (.cls c)) a)):=λm =>
  RO (up:=pg.up) (c:=c) g1 g2 boot_isinstance r.view (by decide) (by decide) (nT (fy cu))
 exact Res.k6 dJ (lb (dJ _) λ_=>rfl) λ_ _ _ z=>by cases z
def Ak{ct:Den.b7}{v:Bool}{a:Den.E}{x:Expr}(h:Den.gq g ct v (.e6 a) x=true):∃m p y pos,x=.Call (.Name m p) [y] [] pos/\m="range"/\Den.eO g ct.sc m=true/\Den.bS g ct true a y=true:=by
 rw[Den.gq]at h
 split at h
 .rename_i m y ak;obtain⟨p,pos,rfl⟩:=mB ak;simp only[VX]at h;exact⟨m,p,y,pos,rfl,hp h.1.1,h.1.2,h.2⟩
 .cases h
def He(aD:iF xp k g pg Φ n){ct:Den.b7}{v:Bool}{X:aS}(aH:dB xp k g pg Φ X ct){s:Den.I}(ab:sizeOf s<=n){x:Str}{e:Expr}{p pos:Pos}(h:(x==("tuple":Str)&&Den.eO g ct.sc x&&Den.tU s&&Den.gq g ct true s e)=true):
  aP X (.Call (.Name x p) [e] [] pos) (bo xp X ct.ai .val λC=>Den.ev pg Φ C (.tupI s)):=by
 simp only[VX]at h;obtain⟨⟨⟨J,aa⟩,aL⟩,a7⟩:=h;have J:=hp J;subst J;obtain⟨g1,g2⟩:=aH.blt aa (by decide)
 cases s with
 |seq a =>
  rw[Den.gq]at a7;have r:=aD.e a e ct true X (by simp at ab;omega) aH a7
  have ak:(λC=>Den.ev pg Φ C (.tupI (.seq a)))=λC=>Den.ev pg Φ C a>>=λd=>Den.fj d>>=λds=>.ok (.tup ds):=funext λC=>by
   rw[Den.A4,Den.v3];cases Den.ev pg Φ C a<;>rfl
  rw[ak];exact EP (m:=.val) Sm KY g1 g2 (by kernel_rfl) r.view (by decide) (by decide) (h6 (fy a7))
 |e6 a =>
  obtain⟨m,aN,y,ba,rfl,a0,aQ,bq⟩:=Ak a7;obtain⟨g3,iR⟩:=aH.blt aQ (by rw[a0];decide)
  have r:=aD.e a y ct true X (by simp at ab;omega) aH bq
  exact R9 aH.calm a0 rfl g3 iR g1 g2 r.view (h6 (fy bq))
 |_=>cases aL
def Hd(aD:iF xp k g pg Φ n){ct:Den.b7}{v:Bool}{X:aS}(aH:dB xp k g pg Φ X ct){s:Den.I}(ab:sizeOf s<=n){x:Str}{e:Expr}{p pos:Pos}(h:(x==("list":Str)&&Den.eO g ct.sc x&&Den.tU s&&Den.gq g ct true s e)=true):
  aP X (.Call (.Name x p) [e] [] pos) (bo xp X ct.ai .fresh λC=>Den.ev pg Φ C (.nG s)):=by
 simp only[VX]at h;obtain⟨⟨⟨J,aa⟩,aL⟩,a7⟩:=h;have J:=hp J;subst J;obtain⟨g1,g2⟩:=aH.blt aa (by decide)
 cases s with
 |seq a =>
  rw[Den.gq]at a7;have r:=aD.e a e ct true X (by simp at ab;omega) aH a7
  have ak:(λC=>Den.ev pg Φ C (.nG (.seq a)))=λC=>Den.ev pg Φ C a>>=λd=>Den.fj d>>=λds=>.ok (.lst ds):=funext λC=>by
   rw[Den.A2,Den.v3];cases Den.ev pg Φ C a<;>rfl
  rw[ak];exact EP (m:=.fresh) Sj f_list g1 g2 (by kernel_rfl) r.view (by decide) (by decide) (h6 (fy a7))
 |e6 a =>
  obtain⟨m,aN,y,ba,rfl,a0,aQ,bq⟩:=Ak a7;obtain⟨g3,iR⟩:=aH.blt aQ (by rw[a0];decide)
  have r:=aD.e a y ct true X (by simp at ab;omega) aH bq
  exact RS aH.calm a0 rfl g3 iR g1 g2 r.view (h6 (fy bq))
 |_=>cases aL
def zN(aD:iF xp k g pg Φ n){ct:Den.b7}{X:aS}(aH:dB xp k g pg Φ X ct){e:Den.E}{j:Nat}{s:Den.I}{c:Den.O}(ab:sizeOf e<n/\sizeOf s<n/\sizeOf c<n){x t it:Expr}{ifs:List Expr}{sc:Scope}{pos:Pos}{xs:List Str}(aw:Den.fa j t=some xs)(h:((!Den.mn s||j==2)&&Den.pY ct sc xs&&Den.gq g ct true s it&&Den.bS g ⟨Den.mask ct.N xs++xs,sc,ct.ai⟩ false e x&&Den.mY g ⟨Den.mask ct.N xs++xs,sc,ct.ai⟩ c ifs)=true):
  n3 X sc xs (Den.mask ct.N xs++xs)/\(∀z,foldedSetIterable it X.env z=pure z)/\gR X t it (jE xp X ct.ai .view λC=>Den.gG pg Φ C s)/\(∀s3 b8 bE pins,aP (gC X sc (Den.mask ct.N xs++xs) s3 b8 bE pins) x (bo xp (gC X sc (Den.mask ct.N xs++xs) s3 b8 bE pins) ct.ai .val λC=>Den.ev pg Φ C e)) /\
   pT xp X ct.ai sc (Den.mask ct.N xs++xs) ifs (λC=>Den.kL pg Φ C c)/\(λC=>Den.ev pg Φ C (.comp e j s c))=λC=>Den.gG pg Φ C s>>=λds=>Den.iw (Den.dC (iQ j (λC=>Den.kL pg Φ C c) (λC=>Den.ev pg Φ C e) C) ds)>>=λys=>.ok (.lst ys):=by
 simp only[VX]at h;obtain⟨⟨⟨⟨h0,J⟩,sE⟩,BI⟩,ht⟩:=h;have B:=HG J;have xb:Den.mn s=true->∃elts j p,t=.Tuple elts j p:=λaE=>by
  rw[aE]at h0;have aB:j=2:=by simpa using h0
  subst aB;cases t with
  |Tuple elts j p=>exact⟨elts,j,p,rfl⟩
  |_=>simp only[Den.fa]at aw;cases aw
 obtain⟨eS,gh⟩:=aD.i s it ct true X t ab.2.1 aH sE xb;refine⟨B.block aH,set_plain gh,eS,λs3 b8 bE pins=>(aD.e e x _ false _ ab.1 (B.ok aH s3 b8 bE pins) BI).dJ,?_,rfl⟩
 cases c with
 |none =>
  cases ifs with
  |nil=>exact .inl ⟨rfl,rfl⟩
  |cons _ _=>unfold Den.mY at ht;cases ht
 |some av =>
  match ifs,ht with
  |[],ht=>unfold Den.mY at ht;cases ht
  |[bI],ht =>
   refine .inr ⟨bI,λC=>Den.ev pg Φ C av,rfl,rfl,λs3 b8 bE pins=>?_⟩
   have ht:Den.bS g ⟨Den.mask ct.N xs++xs,sc,ct.ai⟩ true av bI=true:=by unfold Den.mY at ht;exact ht
   exact(aD.e av bI _ true _ (by have:=ab.2.2;simp at this;omega) (B.ok aH s3 b8 bE pins) ht).pt
  |_::_::_,ht=>unfold Den.mY at ht;cases ht
end
end bR
end
section
namespace bR
open PySem PySem.Spec PyProof.Rows bJ
section
variable{xp:cq}{k:Nat}{g:Den.Gt}{pg:Den.dm}{Φ:Den.dy}{n:Nat}
def CT{ag:List Expr}(h:ag.length<=1000):ag.length<=sizeLine:=by rw[sizeLine_eq];omega
def UE{ct:Den.b7}{x:Str}{t:Den.Ty}{a y e:Expr}(h:Den.uk g ct x t a y=some e):a=e/\∃m p,y=.Name m p/\(x==("isinstance":Str))=true/\Den.eO g ct.sc x=true/\((∀c,t≠.cls c)->(m==Den.tyName t&&Den.eO g ct.sc m)=true):=by
 unfold Den.uk at h
 split at h
 .rename_i m av;obtain⟨p,rfl⟩:=iE av
  split at h
  .rename_i aj;cases h;rw[VX,VX]at aj;exact⟨rfl,m,p,rfl,aj.1.1,aj.1.2,λaV=>by cases t<;>first|exact aj.2|exact(aV _ rfl).elim⟩
  .cases h
 .cases h
def UG{ct:Den.b7}{x:Str}{a e:Expr}(h:Den.um g ct x a=some e):∃y p q,a=.Call (.Name y p) [e] [] q/\(x==("sorted":Str))=true/\Den.eO g ct.sc x=true/\(y==("set":Str))=true/\Den.eO g ct.sc y=true:=by
 unfold Den.um at h
 split at h
 .rename_i y b av;obtain⟨py,bj,rfl⟩:=mB av
  split at h
  .rename_i aj;cases h;simp only[VX]at aj;exact⟨y,py,bj,rfl,aj.1.1.1,aj.1.1.2,aj.1.2,aj.2⟩
  .cases h
 .cases h
def uj{ct:Den.b7}{x:Str}{q:Den.eE}{ag:List Expr}{e:Expr}(h:(match ag with|[e]=>if Den.rr q&&x==Den.rq q&&Den.eO g ct.sc x then some e else none|_=>none)=some e):ag=[e]/\Den.rr q=true/\(x==Den.rq q)=true/\Den.eO g ct.sc x=true:=by
 match ag,h with
 |[a],h =>
  simp only at h
  split at h
  .rename_i aj;cases h;simp only[VX]at aj;exact⟨rfl,aj.1.1,aj.1.2,aj.2⟩
  .cases h
def Hf (aD : iF xp k g pg Φ n) {ct : Den.b7} {v : Bool} {X : aS} (aH : dB xp k g pg Φ X ct) {pr : Den.eE} {a : Den.E} (ab : sizeOf a < n) {x : Str} {ag : List Expr} {e : Expr} {p pos : Pos} (aT : Den.Gl g ct x pr ag = some e) (h : Den.bS g ct true a e = true) :
    Res xp X ct.ai v (Den.ik (.prim pr a)) (.Call (.Name x p) ag [] pos) (fun C => Den.ev pg Φ C (.prim pr a)) := by
  have one : ∀ {q : Den.eE}, ag = [e] /\ Den.rr q = true /\ (x == Den.rq q) = true /\ Den.eO g ct.sc x = true -> Res xp X ct.ai v (Den.ik (.prim q a)) (.Call (.Name x p) ag [] pos) (fun C => Den.ev pg Φ C (.prim q a)) := fun {q} ⟨h0, J, aa, aL⟩ => by
    subst h0
    have bZ := aD.e a e ct true X ab aH h
    exact Res.nL (RY (m := .fresh) aH J (hp aa) aL bZ.view (fy h)) (fun _ => rfl) (fun _ _ _ z => by cases z)
  cases pr with
  | inst t =>
    match ag, aT with
    | [bl, y], aT =>
      have aT : Den.uk g ct x t bl y = some e := aT
      obtain ⟨rfl, m, fz, rfl, J, aa, aL⟩ := UE aT
      by_cases aV : ∃ c, t = .cls c
      · obtain ⟨c, rfl⟩ := aV
        exact Hc aD aH ab J aa h
      · refine Hb aD aH (fun c aj => aV ⟨c, aj⟩) ab ?_
        have aL := aL fun c aj => aV ⟨c, aj⟩
        rw [VX] at aL
        simp only [VX]
        exact ⟨⟨⟨⟨J, aa⟩, aL.1⟩, aL.2⟩, h⟩
  | fJ =>
    match ag, aT with
    | [bl], aT =>
      have aT : Den.um g ct x bl = some e := aT
      obtain ⟨y, bj, b3, rfl, J, aa, aL, a7⟩ := UG aT
      obtain ⟨g1, g2⟩ := aH.blt aa (by rw [hp J]; decide)
      obtain ⟨g3, iR⟩ := aH.blt a7 (by rw [hp aL]; decide)
      have bZ := aD.e a e ct true X ab aH h
      exact Res.nL (R7 aH.calm aH.units (hp J) (hp aL) g1 g2 g3 iR bZ.view (h6 (fy h))) (fun _ => rfl) (fun _ _ _ z => by cases z)
  | len => exact one (uj aT)
  | sorted => exact one (uj aT)
  | sum => exact one (uj aT)
  | max => exact one (uj aT)
def Gb{z:Expr}{n k:Str}(h:Den.uh z=some (n,k)):∃bj b3 pos,z=.Subscript (.Name n bj) (.Name k b3) pos:=by
 unfold Den.uh at h
 split at h
 .rename_i x y ak;obtain⟨pos,rfl⟩:=y8 ak
  split at h
  .rename_i cE dj av bL;cases h;obtain⟨bj,rfl⟩:=iE av;obtain⟨b3,rfl⟩:=iE bL;exact⟨bj,b3,pos,rfl⟩
  .cases h
 .cases h
def Ux{z:Expr}{n k:Str}(h:Den.y7 z=some (n,k)):∃bj b3 pos,z=.Dict [some (.Name n bj)] [.Name k b3] pos:=by
 unfold Den.y7 at h
 split at h
 .cases h;exact⟨_,_,_,rfl⟩
 .cases h
def xt{z:Expr}(h:Den.s9 z=true):∃mq,z=.Dict [] [] mq:=by
 unfold Den.s9 at h
 split at h
 .exact⟨_,rfl⟩
 .cases h
def xX{ct:Den.b7}{i:Nat}{n:Str}(h:Den.ri ct i n=true):ct.N[i]?=some n/\Den.kp ct.sc n=true/\Den.okN n=true/\i∈ct.ai:=by
 unfold Den.ri at h;simp only[VX,WQ]at h;exact⟨h.1.1.1,h.1.1.2,h.1.2,W0.mp h.2⟩
def o5{ct:Den.b7}{i:Nat}{n:Str}(h:Den.mr ct i n=true):ct.N[i]?=some n/\Den.kp ct.sc n=true/\Den.okN n=true/\i∉ct.ai:=by
 unfold Den.mr at h;simp only[VX,WQ,WH]at h;exact⟨h.1.1.1,h.1.1.2,h.1.2,λz=>by rw[W0.mpr z]at h;cases h.2⟩
def Uu{x o:Expr}{n:Str}{p:Pos}(h:Den.F2 x=some (o,n,p)):x=.Attribute o n p:=by
 cases x with
 |Attribute o n p=>cases h;rfl
 |_=>exact nn h
def S2 (aD : iF xp k g pg Φ n) (e : Den.E) (x : Expr) (ct : Den.b7) (v : Bool) (X : aS) (ab : sizeOf e < n + 1) (aH : dB xp k g pg Φ X ct) (h : Den.bS g ct v e x = true) : Res xp X ct.ai v (Den.ik e) x (fun C => Den.ev pg Φ C e) := by
  cases e with
  | var i =>
    rw [Den.bS] at h
    split at h
    · rename_i y ak
      obtain ⟨p, rfl⟩ := iE ak
      exact Hg aH h
    · cases h
  | lit d =>
    rw [Den.bS] at h
    split at h
    · rename_i c ak
      obtain ⟨dY, p, rfl⟩ := Uw ak
      exact Res.k6 (fun m => ES h) (lb (ES h) fun _ => rfl) fun _ _ _ z => by cases z
    · cases h
  | glob j =>
    rw [Den.bS] at h
    split at h
    · rename_i y ak
      obtain ⟨p, rfl⟩ := iE ak
      exact Ha aH h
    · cases h
  | tup a =>
    rw [Den.bS] at h
    split at h
    · rename_i ag ak
      obtain ⟨j, p, rfl⟩ := UB ak
      simp only [VX, Wh] at h
      obtain ⟨bj, b3, ef⟩ := aD.a a ag ct X (by simp at ab; omega) aH h.1
      exact Res.nM (R8 bj fun C ds q => by rw [ef C ds q]; exact CT h.2) (fun _ => rfl) (fun _ _ _ z => by cases z) rfl
    · cases h
  | lst a =>
    rw [Den.bS] at h
    split at h
    · rename_i ag ak
      obtain ⟨p, rfl⟩ := Uz ak
      simp only [VX, Wh] at h
      obtain ⟨bj, b3, ef⟩ := aD.a a ag ct X (by simp at ab; omega) aH h.1
      exact Res.nL (RR bj fun C ds q => by rw [ef C ds q]; exact CT h.2) (fun _ => rfl) (fun _ _ _ z => by cases z)
    · cases h
  | bin op a b =>
    rw [Den.bS] at h
    split at h
    · rename_i x o y ak
      obtain ⟨p, rfl⟩ := Uv ak
      simp only [VX] at h
      have bZ := aD.e a x ct true X (by simp at ab; omega) aH h.1.2
      have c7 := aD.e b y ct true X (by simp at ab; omega) aH h.2
      exact Res.nL (Rt (Hz op) (Ru h.1.1) bZ.view c7.view) (fun _ => rfl) (fun _ _ _ z => by cases z)
    · cases h
  | not a =>
    rw [Den.bS] at h
    split at h
    · rename_i x ak
      obtain ⟨p, rfl⟩ := Gf ak
      have bZ := aD.e a x ct true X (by simp at ab; omega) aH h
      exact Res.k6 (fun m => RV bZ.view) (RW bZ.pt) fun _ _ _ z => by cases z
    · cases h
  | cmp op a b =>
    rw [Den.bS] at h
    split at h
    · rename_i x o y ak
      obtain ⟨p, rfl⟩ := F5 ak
      simp only [VX] at h
      have bZ := aD.e a x ct true X (by simp at ab; omega) aH h.1.2
      have c7 := aD.e b y ct true X (by simp at ab; omega) aH h.2
      have hm := Dk (op := o) (fy h.2)
      exact Res.k6 (fun m => Rw (ph aH h.1.1) bZ.view c7.view hm) (Rz (ph aH h.1.1) bZ.view c7.view hm) fun _ _ _ z => by cases z
    · cases h
  | r7 op op' a b c =>
    rw [Den.bS] at h
    split at h
    · rename_i x o bC y z ak
      obtain ⟨p, rfl⟩ := F5 ak
      simp only [VX] at h
      obtain ⟨⟨⟨⟨J, aa⟩, aL⟩, a7⟩, cu⟩ := h
      have bZ := aD.e a x ct true X (by simp at ab; omega) aH aL
      have c7 := aD.e b y ct true X (by simp at ab; omega) aH a7
      have rc := aD.e c z ct true X (by simp at ab; omega) aH cu
      have hm := N2 (op := o) (op' := bC) (b := y) (fy cu)
      exact Res.k6 (fun m => Rx (ph aH J) (ph aH aa) bZ.view c7.view rc.view hm) (Ry (ph aH J) (ph aH aa) bZ.view c7.view rc.view hm) fun _ _ _ z => by cases z
    · cases h
  | and a b =>
    rw [Den.bS] at h
    split at h
    · rename_i x y p ak
      obtain rfl := ug ak
      simp only [VX] at h
      have bZ := aD.e a x ct true X (by simp at ab; omega) aH h.1
      have c7 := aD.e b y ct v X (by simp at ab; omega) aH h.2
      have e5 := EL (pos := p) bZ.pt (QM c7.pt)
      exact ⟨EK bZ.view (D1 c7.dJ), fun z => (by cases z), e5.pt, fun _ => e5⟩
    · rename_i x y z r p ak
      obtain rfl := ug ak
      simp only [VX] at h
      have bZ := aD.e a x ct true X (by simp at ab; omega) aH h.1
      have c7 := aD.e b _ ct v X (by simp at ab; omega) aH h.2
      have e5 := EL (pos := p) bZ.pt (c7.e5 ⟨_, _, _, rfl⟩)
      exact ⟨EK bZ.view c7.dJ, fun z => (by cases z), e5.pt, fun _ => e5⟩
    · cases h
  | or a b =>
    rw [Den.bS] at h
    split at h
    · rename_i x y p ak
      obtain rfl := ug ak
      simp only [VX] at h
      have bZ := aD.e a x ct true X (by simp at ab; omega) aH h.1
      have c7 := aD.e b y ct v X (by simp at ab; omega) aH h.2
      have e5 := EV (pos := p) bZ.pt (QO c7.pt)
      exact ⟨EU bZ.view (D1 c7.dJ), fun z => (by cases z), e5.pt, fun _ => e5⟩
    · rename_i x y z r p ak
      obtain rfl := ug ak
      simp only [VX] at h
      have bZ := aD.e a x ct true X (by simp at ab; omega) aH h.1
      have c7 := aD.e b _ ct v X (by simp at ab; omega) aH h.2
      have e5 := EV (pos := p) bZ.pt (c7.e5 ⟨_, _, _, rfl⟩)
      exact ⟨EU bZ.view c7.dJ, fun z => (by cases z), e5.pt, fun _ => e5⟩
    · cases h
  | idx a b =>
    rw [Den.bS] at h
    split at h
    · rename_i x y ak
      obtain ⟨p, rfl⟩ := y8 ak
      simp only [VX] at h
      have bZ := aD.e a x ct true X (by simp at ab; omega) aH h.1
      have c7 := aD.e b y ct true X (by simp at ab; omega) aH h.2
      exact Res.nM (RL bZ.view c7.view (ND (fy h.2))) (fun _ => rfl) (fun _ _ _ z => by cases z) rfl
    · cases h
  | slice a lo hi =>
    rw [Den.bS] at h
    split at h
    · rename_i x y ak
      obtain ⟨p, rfl⟩ := y8 ak
      split at h
      · rename_i l u av
        obtain ⟨fz, rfl⟩ := UA av
        simp only [VX] at h
        have bZ := aD.e a x ct true X (by simp at ab; omega) aH h.1.1
        have rx := aD.o lo l ct X (by simp at ab; omega) aH h.1.2
        have Q7 := aD.o hi u ct X (by simp at ab; omega) aH h.2
        exact Res.nL (R5 bZ.view rx Q7) (fun _ => rfl) (fun _ _ _ z => by cases z)
      · cases h
    · cases h
  | call f a =>
    rw [Den.bS] at h
    split at h
    · rename_i x ag ak
      obtain ⟨p, q, rfl⟩ := mB ak
      exact G6 aD aH (by simp at ab; omega) h
    · cases h
  | prim pr a =>
    rw [Den.bS] at h
    split at h
    · rename_i x ag ak
      obtain ⟨p, q, rfl⟩ := mB ak
      split at h
      · rename_i e av
        exact Hf aD aH (by simp at ab; omega) av h
      · cases h
    · cases h
  | hN i j =>
    rw [Den.bS] at h
    split at h
    · rename_i cE dj ak
      obtain ⟨bj, b3, pos, rfl⟩ := Gb ak
      rw [VX] at h
      obtain ⟨a1, a2, a3, iM⟩ := o5 h.1
      obtain ⟨b1, b2, ec, gp⟩ := o5 h.2
      obtain ⟨cB, dd, _⟩ := h1 a3
      obtain ⟨f1, f2, _⟩ := h1 ec
      have aE : ∀ m, aP X (.Subscript (.Name cE bj) (.Name dj b3) pos) (bo xp X ct.ai m fun C => Den.kG C[i]? C[j]?) := fun m => RB aH.units iM gp (by rw [aH.nm]; exact a1) (aH.i5 a2) cB dd (by rw [aH.nm]; exact b1) (aH.i5 b2) f1 f2
      exact Res.k6 aE (lb (aE .view) fun _ => rfl) fun _ _ _ z => by cases z
    · cases h
  | oq i j =>
    rw [Den.bS] at h
    split at h
    · rename_i cE dj ak
      obtain ⟨bj, b3, pos, rfl⟩ := Ux ak
      rw [VX] at h
      obtain ⟨a1, a2, a3, iM⟩ := o5 h.1
      obtain ⟨b1, b2, ec, gp⟩ := o5 h.2
      obtain ⟨cB, dd, _⟩ := h1 a3
      obtain ⟨f1, f2, _⟩ := h1 ec
      exact Res.nM (RC iM gp (by rw [aH.nm]; exact a1) (aH.i5 a2) cB dd (by rw [aH.nm]; exact b1) (aH.i5 b2) f1 f2) (fun _ => rfl) (fun _ _ _ z => by cases z) rfl
    · cases h
  | ot =>
    rw [Den.bS] at h
    obtain ⟨mq, rfl⟩ := xt h
    exact Res.nM RF (fun _ => rfl) (fun _ _ _ z => by cases z) rfl
  | neg a =>
    rw [Den.bS] at h
    split at h
    · rename_i x ak
      obtain ⟨p, rfl⟩ := Gf ak
      have bZ := aD.e a x ct true X (by simp at ab; omega) aH h
      exact Res.k6 (fun m => ET bZ.view) (lb (ET bZ.view) fun _ => rfl) fun _ _ _ z => by cases z
    · cases h
  | ite c a b =>
    rw [Den.bS] at h
    split at h
    · rename_i x y w ak
      obtain ⟨p, rfl⟩ := Uy ak
      simp only [VX] at h
      have rc := aD.e c x ct true X (by simp at ab; omega) aH h.1.1
      have bZ := aD.e a y ct false X (by simp at ab; omega) aH h.1.2
      have c7 := aD.e b w ct false X (by simp at ab; omega) aH h.2
      refine ⟨?_, fun z => (by cases z), RQ rc.pt bZ.pt c7.pt, fun ⟨_, _, _, z⟩ => (by cases z)⟩
      cases v with
      | true => exact ER rc.pt bZ.view c7.view
      | false => exact ER rc.pt bZ.val c7.val
    · cases h
  | tupI s =>
    rw [Den.bS] at h
    split at h
    · rename_i x e ak
      obtain ⟨p, q, rfl⟩ := mB ak
      exact Res.nM (He (v := v) aD aH (by simp at ab; omega) h) (fun _ => rfl) (fun _ _ _ z => by cases z) rfl
    · cases h
  | nG s =>
    rw [Den.bS] at h
    split at h
    · rename_i x e ak
      obtain ⟨p, q, rfl⟩ := mB ak
      exact Res.nL (Hd (v := v) aD aH (by simp at ab; omega) h) (fun _ => rfl) (fun _ _ _ z => by cases z)
    · cases h
  | comp e j s c =>
    rw [Den.bS] at h
    split at h
    · rename_i x t it ifs sc ak
      obtain ⟨p, rfl⟩ := F7 ak
      split at h
      · rename_i xs aw
        obtain ⟨B, eS, gh, ju, qP, xj⟩ := zN (pos := p) aD aH (by simp at ab; omega) aw h
        rw [xj]
        exact Res.nL (yB aH.calm (by rw [aH.nm]; exact aH.ai) B aw eS gh ju qP) (fun _ => rfl) (fun _ _ _ z => by cases z)
      · cases h
    · cases h
def S0 (aD : iF xp k g pg Φ n) (a : Den.A) (ag : List Expr) (ct : Den.b7) (X : aS) (ab : sizeOf a < n + 1) (aH : dB xp k g pg Φ X ct) (h : Den.lP g ct a ag = true) : ft X ag (mz xp X ct.ai fun C => Den.hr pg Φ C a) /\ (∀ e ∈ ag, nice e = true) /\ ∀ C ds, Den.hr pg Φ C a = .ok ds -> ds.length = ag.length := by
  unfold Den.lP at h
  split at h
  · exact ⟨RT, by simp, fun C ds q => by rw [Den.AY] at q; cases q; rfl⟩
  · rename_i e a x xs
    simp only [VX] at h
    have re := aD.e e x ct false X (by simp at ab; omega) aH h.1
    obtain ⟨bj, b3, ef⟩ := aD.a a xs ct X (by simp at ab; omega) aH h.2
    refine ⟨RA re.val bj (nT (fy h.1)), fun z hz => ?_, fun C ds q => ?_⟩
    · rcases V2.mp hz with rfl | hz
      · exact fy h.1
      · exact b3 z hz
    · rw [Den.AX] at q
      cases aN : Den.ev pg Φ C e with
      | ok d =>
        rw [aN] at q
        simp only [Den.R.ml] at q
        cases ba : Den.hr pg Φ C a with
        | ok Js => rw [ba] at q; cases q; simp [ef C Js ba]
        | exc c => rw [ba] at q; cases q
        | bad => rw [ba] at q; cases q
      | exc c => rw [aN] at q; cases q
      | bad => rw [aN] at q; cases q
  · cases h
def S3(aD:iF xp k g pg Φ n)(o:Den.O)(x:Option Expr)(ct:Den.b7)(X:aS)(ab:sizeOf o<n+1)(aH:dB xp k g pg Φ X ct)(h:Den.p1 g ct o x=true):jN X x (pq xp X ct.ai λC=>Den.lW pg Φ C o):=by
 unfold Den.p1 at h
 split at h
 .exact RU
 .rename_i e x;exact RX (aD.e e x ct true X (by simp at ab;omega) aH h).view
 .cases h
def stepI(aD:iF xp k g pg Φ n)(s:Den.I)(x:Expr)(ct:Den.b7)(v:Bool)(X:aS)(dk:Expr)(ab:sizeOf s<n+1)(aH:dB xp k g pg Φ X ct)(h:Den.gq g ct v s x=true)(aE:Den.mn s=true->∃elts j p,dk=.Tuple elts j p):
  gR X dk x (jE xp X ct.ai (jx v) λC=>Den.gG pg Φ C s)/\nice x=true:=by
 cases s with
 |seq e =>
  rw[Den.gq]at h;exact⟨RP (Dm v) (aD.e e x ct v X (by simp at ab;omega) aH h).dJ,fy h⟩
 |e6 a =>
  rw[Den.gq]at h
  split at h
  .rename_i x y ak;obtain⟨QP,p,rfl⟩:=mB ak;simp only[VX]at h;obtain⟨⟨J,aa⟩,aL⟩:=h;obtain⟨g1,g2⟩:=aH.blt aa (by rw[hp J];decide)
   have bZ:=aD.e a y ct true X (by simp at ab;omega) aH aL
   exact⟨R2 (hp J) g1 g2 bZ.view (h6 (fy aL)),rfl⟩
  .cases h
 |tM a b =>
  rw[Den.gq]at h
  split at h
  .rename_i x y z ak;obtain⟨QP,p,rfl⟩:=mB ak;simp only[VX]at h;obtain⟨⟨⟨J,aa⟩,aL⟩,a7⟩:=h;obtain⟨g1,g2⟩:=aH.blt aa (by rw[hp J];decide)
   have bZ:=aD.e a y ct true X (by simp at ab;omega) aH aL
   have c7:=aD.e b z ct true X (by simp at ab;omega) aH a7
   exact⟨R3 (hp J) g1 g2 bZ.view c7.view (SY (fy aL) (fy a7)) (h6 (fy a7)),rfl⟩
  .cases h
 |lS i =>
  rw[Den.gq]at h
  split at h
  .rename_i cE ak;obtain⟨p,rfl⟩:=iE ak;obtain⟨a1,a2,a3,iM⟩:=o5 h;obtain⟨cB,dd,_⟩:=h1 a3;exact⟨RK (Dm v) iM (by rw[aH.nm];exact a1) (aH.i5 a2) cB dd,rfl⟩
  .cases h
theorem mQ:∀n,iF xp k g pg Φ n
 |0=>⟨λ_ _ _ _ _ h=>by omega,λ_ _ _ _ h=>by omega,λ_ _ _ _ h=>by omega,λ_ _ _ _ _ _ h=>by omega⟩
 |n+1=>⟨S2 (mQ n),S0 (mQ n),S3 (mQ n),stepI (mQ n)⟩
def o2{e:Den.E}{x:Expr}{ct:Den.b7}{v:Bool}{X:aS}(aH:dB xp k g pg Φ X ct)(h:Den.bS g ct v e x=true):Res xp X ct.ai v (Den.ik e) x (λC=>Den.ev pg Φ C e):=(mQ (sizeOf e+1)).e e x ct v X (XQ _) aH h
end
end bR
end
section
namespace bR
open PySem PySem.Spec PyProof.Rows bJ
def t2{x:Stmt}{ts:List Expr}{y:Expr}(h:Den.pn x=some (ts,y)):∃p,x=.Assign ts y p:=by
 cases x with
 |Assign a b p=>cases h;exact⟨p,rfl⟩
 |_=>exact nn h
def Tj{x:Stmt}{y:Expr}(h:Den.FF x=some y):∃p,x=.Expr y p:=by
 cases x with
 |Expr a p=>cases h;exact⟨p,rfl⟩
 |_=>exact nn h
def yX{x:Stmt}{y:Option Expr}(h:Den.ps x=some y):∃p,x=.Return y p:=by
 cases x with
 |Return a p=>cases h;exact⟨p,rfl⟩
 |_=>exact nn h
def Tp{x:Stmt}{t:Expr}{a b:List Stmt}(h:Den.t7 x=some (t,a,b)):∃p,x=.If t a b p:=by
 cases x with
 |If t a b p=>cases h;exact⟨p,rfl⟩
 |_=>exact nn h
def Tn{x:Stmt}{t it:Expr}{a b:List Stmt}(h:Den.t6 x=some (t,it,a,b)):∃p,x=.For t it a b p:=by
 cases x with
 |For t it a b p=>cases h;exact⟨p,rfl⟩
 |_=>exact nn h
def Ut{z y:Expr}{x n:Str}{ap:Pos}(h:Den.y4 z=some (x,n,ap,y)):∃p fP,z=.Call (.Attribute (.Name x p) n ap) [y] [] fP:=by
 unfold Den.y4 at h
 split at h
 .rename_i f Gu ak;obtain⟨fP,rfl⟩:=F4 ak
  split at h
  .rename_i o cE U8 av;obtain rfl:=Uu av
   split at h
   .rename_i n0 bL;obtain⟨p,rfl⟩:=iE bL;cases h;exact⟨p,fP,rfl⟩
   .cases h
  .cases h
 .cases h
structure mN(xp:cq)(g:Den.Gt)(pg:Den.dm)(X:aS)(ct:Den.b7):Prop where
 yR:X.stack=X.env::X.outer/\X.env.frame=some X.env.locals
 loc:∀x,Den.jw ct.sc x=true->Loc X.env.scope x
 fn:∀x,X.fn x=true
 pass:PassesOwn (model X.prog X.w) X.A X.env X.cC
section
variable{xp:cq}{k:Nat}{g:Den.Gt}{pg:Den.dm}{Φ:Den.dy}
def Ia {ct : Den.b7} {v : Bool} {e : Den.E} {x : Expr} {jV : List Comprehension} {sc : Scope} {pos : Pos} (h : Den.bS g ct v e (.ListComp x jV sc pos) = true) : ∃ bl j s c t it ifs xs, e = .comp bl j s c /\ jV = [⟨t, it, ifs, 0⟩] /\ Den.fa j t = some xs /\
    ((!Den.mn s || j == 2) && Den.pY ct sc xs && Den.gq g ct true s it && Den.bS g ⟨Den.mask ct.N xs ++ xs, sc, ct.ai⟩ false bl x && Den.mY g ⟨Den.mask ct.N xs ++ xs, sc, ct.ai⟩ c ifs) = true := by
  cases e with
  | comp bl j s c =>
    rw [Den.bS] at h
    split at h
    · rename_i n0 t it ifs VO ak
      obtain ⟨p, av⟩ := F7 ak
      cases av
      split at h
      · rename_i xs aw
        exact ⟨bl, j, s, c, t, it, ifs, xs, rfl, rfl, aw, h⟩
      · cases h
    · cases h
  | _ => exact (WA h).elim
def Iu(x:Expr):(∃y jV sc pos,x=.ListComp y jV sc pos)\/Den.xZ x=true:=by
 cases x<;>first|exact .inr rfl|exact .inl ⟨_,_,_,_,rfl⟩
def G4 {ct : Den.b7} {X : aS} (aH : dB xp k g pg Φ X ct) (oF : ∀ x, Den.jw ct.sc x = true -> Loc X.env.scope x) (nh : ∀ x, X.fn x = true) {i : Nat} {e : Den.E} {x : Str} {y : Expr} {p pos : Pos} (h : (ct.N[i]? == some x && Den.jw ct.sc x && Den.okN x && (!ct.ai.contains i || Den.ik e) && Den.bS g ct false e y) = true) :
    eD X (.Assign [.Name x p] y pos) (ei xp X ct.ai fun C => Den.ex pg Φ C (.asg i e)) := by
  simp only [VX, WQ, XE, WH] at h
  obtain ⟨⟨⟨⟨J, aa⟩, aL⟩, a7⟩, cu⟩ := h
  have aZ : X.N.Nodup := by rw [aH.nm]; exact aH.ep
  have hi : X.N[i]? = some x := by rw [aH.nm]; exact J
  have ah := oF x aa
  have hf : X.fn x = true \/ X.env.scope.names.lookup x = some .local := .inl (nh x)
  rcases Iu y with ⟨z, jV, sc, pos', rfl⟩ | aj
  · obtain ⟨bl, j, s, c, t, it, ifs, xs, rfl, rfl, aw, cM⟩ := Ia cu
    obtain ⟨B, eS, gh, ju, qP, xj⟩ := zN (pos := pos') (mQ (xp := xp) (k := k) (pg := pg) (Φ := Φ) (sizeOf (Den.E.comp bl j s c))) aH (by simp only [Den.E.comp.sizeOf_spec]; omega) aw cM
    have ak : (fun C => Den.ex pg Φ C (.asg i (.comp bl j s c))) = fun C => (Den.gG pg Φ C s >>= fun ds => Den.iw (Den.dC (iQ j (fun C => Den.kL pg Φ C c) (fun C => Den.ev pg Φ C bl) C) ds) >>= fun ys => .ok (.lst ys)) >>= fun d => .ok (.cg (C.set i (some d))) := by
      funext C
      have := congrFun xj C
      rw [Den.A7]
      rw [this]
    rw [ak]
    exact Rr aH.calm (by rw [aH.nm]; exact aH.ai) B aw eS gh ju qP aZ hi ah hf
  · have r := o2 aH cu
    have j4 := Fy (t := some (.Name x p)) (n := pos.line) (env := X.env) (fy cu) aj
    by_cases hm : i ∈ ct.ai
    · have L5 : Den.ik e = true := by
        rcases a7 with a7 | a7
        · rw [W0.mpr hm] at a7; cases a7
        · exact a7
      exact EN hm aZ hi ah (r.fresh L5) j4 hf
    · exact EM hm aZ hi ah r.val j4 hf
def G5{ct:Den.b7}{X:aS}(aH:dB xp k g pg Φ X ct)(oF:∀x,Den.jw ct.sc x=true->Loc X.env.scope x)(nh:∀x,X.fn x=true){i:Nat}{e:Den.E}{st:Stmt}(h:Den.vB g ct i e st=true):
  eD X st (ei xp X ct.ai λC=>Den.ex pg Φ C (.asg i e)):=by
 unfold Den.vB at h
 split at h
 .rename_i t y ak;obtain⟨pos,rfl⟩:=t2 ak
  split at h
  .rename_i x av;obtain⟨p,rfl⟩:=iE av;exact G4 aH oF nh h
  .cases h
 .cases h
def zO{ct:Den.b7}{i:Nat}{e:Den.E}{nm:Str}{st:Stmt}(h:Den.r4 g ct i e nm st=true):∃x n ap y bj fP ix,st=.Expr (.Call (.Attribute (.Name x bj) n ap) [y] [] fP) ix/\(ap.endLine==fP.line)=true/\ct.N[i]?=some x/\Den.kp ct.sc x=true/\Den.okN x=true/\i∈ct.ai/\n=nm/\Den.bS g ct false e y=true:=by
 unfold Den.r4 at h
 split at h
 .rename_i c ak;obtain⟨pos,rfl⟩:=Tj ak
  split at h
  .rename_i x n ap y av;obtain⟨bj,fP,rfl⟩:=Ut av;simp only[VX,WQ]at h;obtain⟨⟨⟨⟨⟨⟨h0,J⟩,aa⟩,aL⟩,a7⟩,cu⟩,gZ⟩:=h;have h0:ap.endLine=fP.line:=h0;exact⟨x,n,ap,y,bj,fP,pos,rfl,by simpa using h0,J,aa,aL,W0.mp a7,cu,gZ⟩
  .cases h
 .cases h
theorem Aj{ct:Den.b7}:∀{ts:List Nat}{xs:List Str},Den.oh ct ts xs=true->ts.length=xs.length/\(∀t∈ts,t∉ct.ai)/\∀(j i:Nat) y,ts[j]?=some i->xs[j]?=some y->ct.N[i]?=some y/\Den.jw ct.sc y=true
 |[],[],_=>⟨rfl,by simp,λj i y e=>by simp at e⟩
 |[],_::_,h=>by unfold Den.oh at h;cases h
 |_::_,[],h=>by unfold Den.oh at h;cases h
 |t::ts,x::xs,h=>by
  unfold Den.oh at h;simp only[VX,WQ,WH]at h;obtain⟨⟨⟨⟨J,aa⟩,aL⟩,a7⟩,cu⟩:=h;obtain⟨aG,a5,dU⟩:=Aj cu;refine⟨by simp[aG],λz hz=>?_,λj i y ak av=>?_⟩
  .rcases V2.mp hz with rfl|hz
   .intro w;rw[W0.mpr w]at a7;cases a7
   .exact a5 z hz
  .cases j with
   |zero=>simp at ak av;subst ak av;exact⟨J,aa⟩
   |succ j=>exact dU j i y (by simpa using ak) (by simpa using av)
variable(xp k g pg Φ) in
structure fm (n:Nat):Prop where
 s:∀(s:Den.S)(st:Stmt)(ct:Den.b7)(X:aS),sizeOf s<n->dB xp k g pg Φ X ct->mN xp g pg X ct->Den.lR g ct s st=true->eD X st (ei xp X ct.ai λC=>Den.ex pg Φ C s)
 b:∀(b:Den.B)(st:List Stmt)(ct:Den.b7)(X:aS),sizeOf b<n->dB xp k g pg Φ X ct->mN xp g pg X ct->Den.jP g ct b st=true->gS X st (ei xp X ct.ai λC=>Den.eQ pg Φ C b)
variable{n:Nat}
def G7{ct:Den.b7}{X:aS}(aH:dB xp k g pg Φ X ct)(aX:mN xp g pg X ct){i:Nat}{st:Stmt}(h:Den.og ct i st=true):eD X st (ei xp X ct.ai λC=>Den.ex pg Φ C (.m5 i)):=by
 unfold Den.og at h
 split at h
 .rename_i t y ak;obtain⟨pos,rfl⟩:=t2 ak
  split at h
  .rename_i x av;obtain⟨bj,rfl⟩:=iE av;simp only[VX,WQ]at h;obtain⟨⟨⟨⟨J,aa⟩,aL⟩,a7⟩,cu⟩:=h;obtain⟨mq,rfl⟩:=xt cu;exact RD (W0.mp a7) (by rw[aH.nm];exact aH.ep) (by rw[aH.nm];exact J) (aX.loc x aa) (.inl (aX.fn x))
  .cases h
 .cases h
def G8{ct:Den.b7}{X:aS}(aH:dB xp k g pg Φ X ct)(aX:mN xp g pg X ct){i:Nat}{st:Stmt}(h:Den.og ct i st=true):eD X st (ei xp X ct.ai λC=>Den.ex pg Φ C (.m6 i)):=by
 unfold Den.og at h
 split at h
 .rename_i t y ak;obtain⟨pos,rfl⟩:=t2 ak
  split at h
  .rename_i x av;obtain⟨bj,rfl⟩:=iE av;simp only[VX,WQ]at h;obtain⟨⟨⟨⟨J,aa⟩,aL⟩,a7⟩,cu⟩:=h;obtain⟨mq,rfl⟩:=xt cu;exact RE (W0.mp a7) (by rw[aH.nm];exact aH.ep) (by rw[aH.nm];exact J) (aX.loc x aa) (.inl (aX.fn x))
  .cases h
 .cases h
def G9{ct:Den.b7}{X:aS}(aH:dB xp k g pg Φ X ct){i j:Nat}{e:Den.E}{st:Stmt}(h:Den.vC g ct i j e st=true):eD X st (ei xp X ct.ai λC=>Den.ex pg Φ C (.jg i j e)):=by
 unfold Den.vC at h
 split at h
 .rename_i t v ak;obtain⟨pos,rfl⟩:=t2 ak
  split at h
  .rename_i x y av;obtain⟨bj,b3,ef,rfl⟩:=Gb av;simp only[VX]at h;obtain⟨⟨⟨J,aa⟩,aL⟩,a7⟩:=h;obtain⟨a1,a2,a3,iM⟩:=xX J;obtain⟨b1,b2,ec,gp⟩:=o5 aa;obtain⟨cB,dd,_⟩:=h1 a3;obtain⟨f1,f2,_⟩:=h1 ec;exact RG aH.units iM gp (by rw[aH.nm];exact a1) (aH.i5 a2) cB dd (by rw[aH.nm];exact b1) (aH.i5 b2) f1 f2 (o2 aH a7).val (Fy (fy a7) aL)
  .cases h
 .cases h
def S4 (aD : fm xp k g pg Φ n) (s : Den.S) (st : Stmt) (ct : Den.b7) (X : aS) (ab : sizeOf s < n + 1) (aH : dB xp k g pg Φ X ct) (aX : mN xp g pg X ct) (h : Den.lR g ct s st = true) : eD X st (ei xp X ct.ai fun C => Den.ex pg Φ C s) := by
  cases s with
  | asg i e => exact G5 aH aX.loc aX.fn h
  | app i e =>
    obtain ⟨x, n, ap, y, bj, fP, ix, rfl, J, aa, aL, a7, cu, gZ, il⟩ := zO (nm := "append") h
    obtain ⟨cB, dd, om⟩ := h1 a7
    exact Rq cu gZ (by rw [aH.nm]; exact aa) (aH.i5 aL) cB dd J (o2 aH il).val (h6 (fy il))
  | ret e =>
    rw [Den.lR] at h
    split at h
    · rename_i y ak
      obtain ⟨pos, rfl⟩ := yX ak
      exact RZ (o2 aH h).val
    · cases h
  | pf i =>
    rw [Den.lR] at h
    split at h
    · rename_i y ak
      obtain ⟨pos, rfl⟩ := yX ak
      split at h
      · rename_i x av
        obtain ⟨bj, rfl⟩ := iE av
        obtain ⟨a1, a2, a3, iM⟩ := xX h
        obtain ⟨cB, dd, _⟩ := h1 a3
        exact R1 iM (by rw [aH.nm]; exact a1) (aH.i5 a2) cB dd
      · cases h
    · cases h
  | pe i =>
    rw [Den.lR] at h
    split at h
    · rename_i y ak
      obtain ⟨pos, rfl⟩ := yX ak
      split at h
      · rename_i x av
        obtain ⟨bj, rfl⟩ := iE av
        obtain ⟨a1, a2, a3, iM⟩ := xX h
        obtain ⟨cB, dd, _⟩ := h1 a3
        exact R0 iM (by rw [aH.nm]; exact a1) (aH.i5 a2) cB dd
      · cases h
    · cases h
  | m5 i => exact G7 aH aX h
  | m6 i => exact G8 aH aX h
  | jg i j e => exact G9 aH h
  | ext i e =>
    obtain ⟨x, n, ap, y, bj, fP, ix, rfl, J, aa, aL, a7, cu, gZ, il⟩ := zO (nm := "extend") h
    obtain ⟨cB, dd, om⟩ := h1 a7
    exact RH cu gZ (by rw [aH.nm]; exact aa) (aH.i5 aL) cB dd J (o2 aH il).val (h6 (fy il))
  | iff c a b =>
    rw [Den.lR] at h
    split at h
    · rename_i t x y ak
      obtain ⟨pos, rfl⟩ := Tp ak
      simp only [VX] at h
      have bZ := aD.b a x ct X (by simp at ab; omega) aH aX h.1.2
      have c7 := aD.b b y ct X (by simp at ab; omega) aH aX h.2
      exact RM (o2 aH h.1.1).pt bZ c7
    · cases h
  | gs j ts s b =>
    rw [Den.lR] at h
    split at h
    · rename_i t it x ak
      obtain ⟨pos, rfl⟩ := Tn ak
      split at h
      · rename_i xs aw
        simp only [VX] at h
        obtain ⟨⟨⟨⟨h0, J⟩, _⟩, aL⟩, a7⟩ := h
        obtain ⟨dp, bz, cW⟩ := Aj J
        have aZ : X.N.Nodup := by rw [aH.nm]; exact aH.ep
        have xb : Den.mn s = true -> ∃ elts j p, t = .Tuple elts j p := fun aE => by
          rw [aE] at h0
          have aB : j = 2 := by simpa using h0
          subst aB
          cases t with
          | Tuple elts j p => exact ⟨elts, j, p, rfl⟩
          | _ => simp only [Den.fa] at aw; cases aw
        obtain ⟨eS, gh⟩ := (mQ (xp := xp) (k := k) (g := g) (pg := pg) (Φ := Φ) (sizeOf s + 1)).i s it ct false X t (XQ _) aH aL xb
        have a8 := D4 aH.calm aZ aw dp fun j i y ak av => by
          obtain ⟨cQ, cp⟩ := cW j i y ak av
          exact ⟨by rw [aH.nm]; exact cQ, aX.loc y cp, .inl (aX.fn y)⟩
        have c7 := aD.b b x ct X (by simp at ab; omega) aH aX a7
        exact RI aX.pass aH.calm bz eS a8 c7 (set_plain gh)
      · cases h
    · cases h
def S1(aD:fm xp k g pg Φ n)(b:Den.B)(st:List Stmt)(ct:Den.b7)(X:aS)(ab:sizeOf b<n+1)(aH:dB xp k g pg Φ X ct)(aX:mN xp g pg X ct)(h:Den.jP g ct b st=true):gS X st (ei xp X ct.ai λC=>Den.eQ pg Φ C b):=by
 unfold Den.jP at h
 split at h
 .exact R6
 .rename_i s b x xs;simp only[VX]at h;have aG:=aD.s s x ct X (by simp at ab;omega) aH aX h.1
  have a5:=aD.b b xs ct X (by simp at ab;omega) aH aX h.2
  exact R4 aG a5
 .cases h
theorem uU:∀n,fm xp k g pg Φ n
 |0=>⟨λ_ _ _ _ h=>by omega,λ_ _ _ _ h=>by omega⟩
 |n+1=>⟨S4 (uU n),S1 (uU n)⟩
def Ph{b:Den.B}{st:List Stmt}{ct:Den.b7}{X:aS}(aH:dB xp k g pg Φ X ct)(aX:mN xp g pg X ct)(h:Den.jP g ct b st=true):gS X st (ei xp X ct.ai λC=>Den.eQ pg Φ C b):=(uU (sizeOf b+1)).b b st ct X (XQ _) aH aX h
end
end bR
end
section
namespace bR
open PySem PySem.Spec PyProof.Rows bJ
def Ft{fd:Den.fX}{ds:List D}{i:Nat}{d:D}(h:(Den.start fd ds)[i]?=some (some d)):ds[i]?=some d/\i<ds.length:=by
 unfold Den.start at h
 by_cases hi:i<ds.length
 .rw[We (by simpa using hi),Wg]at h
  refine⟨?_,hi⟩;cases e:ds[i]? with
  |none=>rw[e]at h;cases h
  |some a=>rw[e]at h;cases h;rfl
 .rw[Wx (by simpa using hi),Yp]at h
  split at h<;>cases h
def SX{N:List Str}{af:List V}{i:Nat}{v:V}(h:af[i]?=some v):(bJ.start N af)[i]?=some (some v):=by
 have hi:=(Wl.mp h).1;unfold bJ.start;rw[We (by simpa using hi),Wg,h];rfl
def SN{K:W.Frag}{ai:List Nat}{G H:ax}{fd:Den.fX}{N:List Str}{ds:List D}{af:List V}(ab:bQ G H)(dZ:∀b xs,H b=some (.tup xs)->G b=some (.tup xs))(r:bG K G ds af)(az:N.length=fd.np+fd.nl)(au:ds.length=fd.np)(hm:∀i∈ai,fd.np<=i):
  dV K ai G H G H (Den.start fd ds) (bJ.start N af):=by
 have no:∀{i:Nat}{d:D},(Den.start fd ds)[i]?=some (some d)->i∈ai->False:=λh q=>by
  have:=(Ft h).2;have:=hm _ q;omega
 refine⟨⟨?_,ab,λi d h _=>?_,λi d h q=>(no h q).elim,λi d h q=>(no h q).elim,dZ,λi j d e a b h _ _ _ q=>(no h q).elim⟩,Ext.refl ab,λi d a h _ q=>(no h q).elim⟩
 .unfold Den.start bJ.start;rw[V0,V0,List.length_map,List.length_map,X1,X1,<- r.length];omega
 .obtain⟨v,J,aa⟩:=r.get (Ft h).1;exact⟨v,SX J,aa⟩
noncomputable def rN(K:W.Frag)(aF:Str->Option Value)(g:Den.Gt)(fds:List Den.fX)(f:Nat)(x:Str):Prop :=
 ∃fd N st bk kM,fds[f]?=some fd/\Den.lQ g N fd st=true/\aF x=some (.ref bk)/\bJ.pI K x x st bk kM/\Binds K kM ((gV st).args.map (·.arg)) []
section
variable{P:Program}{w:World}{K:W.Frag}{aF:Str->Option Value}{base:Heap}{xp:cq}{g:Den.Gt}{pg:Den.dm}{fds:List Den.fX}
def Ai{N:List Str}{fd:Den.fX}{st:Stmt}(h:Den.lQ g N fd st=true):((gV st).args.map (·.arg)).length=fd.np/\uB N ((gV st).args.map (·.arg)) (hq st)/\N.length=fd.np+fd.nl/\(∀i∈Den.kd fd.body,fd.np<=i/\i<N.length) /\
  Den.jP g ⟨N,hq st,Den.kd fd.body⟩ fd.body (kF st)=true:=by
 unfold Den.lQ at h
 split at h
 .rename_i name args body sc bind pos;simp only[VX,WQ,WH,Wt,bne_iff_ne,ne_eq,Wh]at h;obtain⟨⟨⟨⟨⟨⟨⟨⟨⟨⟨⟨⟨⟨⟨⟨J,aa⟩,aL⟩,a7⟩,cu⟩,gZ⟩,_⟩,_⟩,_⟩,_⟩,_⟩,_⟩,il⟩,eH⟩,l1⟩,sE⟩:=h;have au:(args.args.map (·.arg)).length=fd.np:=by rw[gZ,Wz];omega
  refine⟨au,⟨J,aa,aL,a7,?_,λx ah=>?_,eH⟩,cu,l1,sE⟩
  .show N.take (args.args.map (·.arg)).length=args.args.map (·.arg)
   rw[au,gZ]
  .have ah:x∈args.args.map (·.arg):=ah
   rw[gZ]at ah;have:=il x ah;unfold Den.jw at this;have this:sc.names.lookup x=some .local\/sc.names.lookup x=some .cell:=by simpa using this
   exact this
 .cases h
def Bp (kT : ∀ c e l h, ¬ xp c e l h) {n f : Nat} (T : fC P w K aF base xp n g pg (Den.run pg fds n)) {x : Str} {fd : Den.fX} {N : List Str} {st : Stmt} {bk : Addr} {kM : FuncData} (e : fds[f]? = some fd) (dh : Den.lQ g N fd st = true) (F : bJ.pI K x x st bk kM) :
    jK P w K aF base (jJ P w xp) (n + 1) bk kM ((gV st).args.map (·.arg)) (nS K (Den.run pg fds (n + 1) f) ((gV st).args.map (·.arg)).length) := by
  obtain ⟨au, S, aZ, hy, g0⟩ := Ai dh
  have MO : ∀ ds, Den.run pg fds (n + 1) f ds = Den.dK pg (Den.run pg fds n) fd ds := fun ds => by rw [Den.ry, e]
  obtain ⟨fH, bh, de, doc, pm, an, dQ, ct, fq, rfl, lk, jo⟩ := F.ex
  refine K9 lk jo S (fun af H Q E h => h.1) fun A outer s H af Q E a9 ⟨aT, G, ds, ab, dZ, r, hw⟩ => ?_
  have j0 : ds.length = fd.np := by rw [r.length, aT, au]
  rw [MO] at hw
  unfold Den.dK at hw
  rw [if_pos j0] at hw
  refine ⟨ei xp (m2 (jJ P w xp) P w K aF base N x (hq st) bk dQ A outer s H E) (Den.kd fd.body) fun C => Den.eQ pg (Den.run pg fds n) C fd.body, ?_, ?_⟩
  · refine Ph (ct := ⟨N, hq st, Den.kd fd.body⟩) (k := n) (g := g) (Φ := Den.run pg fds n) ⟨T, a9, a9.units, rfl, rfl, S.ep, fun i hi => (hy i hi).2, fun x h => h, fun x h => h, fun x h => h⟩ ⟨⟨rfl, rfl⟩, fun x h => ?_, fun _ => rfl, PassesOwn.leaving⟩ g0
    unfold Den.jw at h
    have h : (hq st).names.lookup x = some .local \/ (hq st).names.lookup x = some .cell := by simpa using h
    exact h
  · refine ⟨G, H, G, Den.start fd ds, SN ab dZ r aZ j0 fun i hi => (hy i hi).1, ?_⟩
    show cV (Den.eQ pg (Den.run pg fds n) (Den.start fd ds) fd.body) _ _
    generalize Den.eQ pg (Den.run pg fds n) (Den.start fd ds) fd.body = gy at hw ⊢
    have hR : ∀ c : Nat, (∀ ao, bQ H ao -> E (.int c 0) none ao) -> fL xp (m2 (jJ P w xp) P w K aF base N x (hq st) bk dQ A outer s H E) c H := fun c qp pins σ ao s' e l I df nw ah => absurd ah (kT _ _ _ _)
    cases gy with
    | bad => exact hw.elim
    | exc c => exact hR c hw
    | ok hs =>
      cases hs with
      | cg C => exact fun σ aO ao cK => hw .cU aO ao cK.ext rfl
      | dR d => exact fun v aO ao ext rep => hw v aO ao ext rep
def T5(kT:∀c e l h,¬xp c e l h){n:Nat}(T:fC P w K aF base xp n g pg (Den.run pg fds n))(hd:∀f x,g.fns[f]?=some x->rN K aF g fds f x):fC P w K aF base xp (n+1) g pg (Den.run pg fds (n+1)):=by
 refine⟨λf x ah=>?_,T.blt,T.lY⟩
 obtain⟨fd,N,st,bk,kM,e,dh,hm,F,ae⟩:=hd f x ah;obtain⟨au,_⟩:=Ai dh;exact⟨bk,kM,_,hm,F.iZ,ae,Bp kT T e dh F,λds j0=>by rw[Den.ry,e];unfold Den.dK;exact if_neg (by rw[<- au];exact j0)⟩
theorem FP(kT:∀c e l h,¬xp c e l h)(hd:∀f x,g.fns[f]?=some x->rN K aF g fds f x)(ae:∀x:Str,x∈pG->aF x=none)(a8:∀(j:Nat)(x:Str)(d:D),g.lY[j]?=some x->pg.cs[j]?=some d->∃v u,aF x=some u/\RelV v u/\∀G,Rep K G d v):
  ∀n,fC P w K aF base xp n g pg (Den.run pg fds n)
 |0=>⟨λf x ah=>by
   obtain⟨fd,N,st,bk,kM,e,dh,hm,F,ae⟩:=hd f x ah;exact⟨bk,kM,_,hm,F.iZ,ae,⟨λaf H Q E h=>h.1,λA outer s H args us af Q E _ _ _ _ ⟨_,_,_,_,_,_,h⟩=>h.elim⟩,λ_ _=>rfl⟩,ae,a8⟩
 |n+1=>T5 kT (FP kT hd ae a8 n) hd
end
noncomputable def n2(Q:Nat->Str->Prop):Nat->List Str->Prop
 |_,[]=>True
 |n,x::xs=>Q n x/\n2 Q (n+1) xs
theorem n2.get{Q:Nat->Str->Prop}:∀{xs:List Str}{n f:Nat}{x:Str},n2 Q n xs->xs[f]?=some x->Q (n+f) x
 |[],_,_,_,_,h=>by simp at h
 |y::xs,n,0,x,q,h=>by simp at h;subst h;exact q.1
 |y::xs,n,f+1,x,q,h=>by
  have:=n2.get (n:=n+1) (f:=f) q.2 (by simpa using h)
  rwa[Nat.add_right_comm,Nat.add_assoc]at this
def Kk{us:List Value}(h:us.length=1):∃a,us=[a]:=List.length_eq_one_iff.mp h
def Kl{us:List Value}(h:us.length=2):∃a b,us=[a,b]:=by
 match us,h with
 |[a,b],_=>exact⟨a,b,rfl⟩
def Km{us:List Value}(h:us.length=3):∃a b c,us=[a,b,c]:=by
 match us,h with
 |[a,b,c],_=>exact⟨a,b,c,rfl⟩
noncomputable def AllB(K:W.Frag):List Str->Prop
 |[]=>True
 |x::xs=>W.nsIn K mainGlobals x=some none/\AllB K xs
theorem AllB.get{K:W.Frag}{h:Heap}{aF:Str->Option Value}(X:K.In h)(G:h.Ns mainGlobals aF):∀{xs:List Str},AllB K xs->∀x∈xs,aF x=none
 |[],_,x,ah=>by simp at ah
 |y::ys,q,x,ah=>by
  rcases V2.mp ah with rfl|ah
  .exact PySem.W.mg_none_of X G q.1
  .exact AllB.get X G q.2 x ah
noncomputable def rO(K:W.Frag)(x:Str)(st:Stmt):Prop :=
 ∃(f:Addr)(fH:Value)(bh:Option Addr)(de doc pm:Value)(an:Option Addr)(dQ ct:Value)(fq:Array (Option Value)),W.nsIn K mainGlobals x=some (some (.ref f)) /\
  K.lookup f=some ⟨fH,bh,.func (W.fnOf x x (gV st) (kF st) (hq st) .none de doc pm an dQ ct),fq⟩/\W.codeIn K dQ x=true/\W.keepIn K (.ref f)=true
def Jk{K:W.Frag}{x:Str}{st:Stmt}{f:Addr}{fH:Value}{bh:Option Addr}{de doc pm:Value}{an:Option Addr}{dQ ct:Value}{fq:Array (Option Value)}(a:W.nsIn K mainGlobals x=some (some (.ref f)))(l:K.lookup f=some ⟨fH,bh,.func (W.fnOf x x (gV st) (kF st) (hq st) .none de doc pm an dQ ct),fq⟩)(c:W.codeIn K dQ x=true)(k:W.keepIn K (.ref f)=true):rO K x st:=⟨f,fH,bh,de,doc,pm,an,dQ,ct,fq,a,l,c,k⟩
def eF{K:W.Frag}{h:Heap}{aF:Str->Option Value}{g:Den.Gt}{fds:List Den.fX}{j:Nat}{x:Str}{st:Stmt}{fd:Den.fX}{N:List Str}(X:K.In h)(G:h.Ns mainGlobals aF)(d:rO K x st)(hf:fds[j]?=some fd)(dh:Den.lQ g N fd st=true)(ae:∀(de doc pm:Value)(an:Option Addr)(dQ ct:Value)(us:List Value),us.length=((gV st).args.map (·.arg)).length->bindArgs (W.fnOf x x (gV st) (kF st) (hq st) .none de doc pm an dQ ct) ⟨us,[]⟩=pure (((gV st).args.map (·.arg)).zip us)):rN K aF g fds j x:=by
 obtain⟨f,fH,bh,de,doc,pm,an,dQ,ct,fq,a,l,c,k⟩:=d;have F:=Bw l c k;exact⟨fd,N,st,f,_,hf,dh,PySem.W.mg_of X G a,F,F.binds ae⟩
theorem Ew{K:W.Frag}{G:ax}:∀ns:List Int,bG K G (ns.map Den.D.int) (ns.map V.int)
 |[]=>rfl
 |n::ns=>⟨.int n,ns.map V.int,rfl,rfl,Ew ns⟩
def SU{K:W.Frag}{H:ax}{a:Addr}{ns:List Int}{hg:List D->bw D}(aX:ew K H a (ns.map V.int))(aV:hg [.lst (ns.map .int)]=.ok (.aU true)):nS K hg 1 [.ref a] H (λv _=>v=.aU true) λ_ _ _=>False:=by
 refine⟨rfl,H,[.lst (ns.map .int)],bQ.refl H,λ_ _ z=>z,⟨.ref a,[],rfl,⟨a,_,rfl,aX,Ew ns⟩,rfl⟩,?_⟩
 rw[aV];exact λv aO ao _ r=>r
def IG{P:Program}{w:World}{xp:cq}{outer:List Env}{H:ax}{s:Shared}{e:Value}{s':Shared}:jJ P w xp outer H s (λ_ _ _=>False) e s'->False:=λ⟨_,_,_,_,_,_,_,_,_,_,h⟩=>h
noncomputable def iw:cq:=λ_ _ _ _=>False
def N7{l:PySem.W.OpenLaw}{w:World}{K:W.Frag}{h:Heap}{aF:Str->Option Value}{bk:Addr}{g:Den.Gt}{pg:Den.dm}{fds:List Den.fX}{xp:cq}{n f:Nat}{st:Stmt}{fd:Den.fX}{N:List Str}{x:Str}(X:K.In h)(G:h.Ns mainGlobals aF)(L1:aF "law"=some (.ref bk))(dl:rO K "law" st)(hf:fds[f]?=some fd)(dh:Den.lQ g N fd st=true)(ah:(gV st).args.map (·.arg)=[x])(wQ:∀(de doc pm:Value)(an:Option Addr)(dQ ct:Value)(s:Shared)(u:Value),BindsTo s (W.fnOf "law" "law" (gV st) (kF st) (hq st) .none de doc pm an dQ ct) ⟨[u],[]⟩ [(x,u)])(kT:∀c e l h,¬xp c e l h)(T:∀base:Heap,K.In base->base.Ns mainGlobals aF->fC l.prog w K aF base xp n g pg (Den.run pg fds n)):
  ∃fd:FuncData,(∀(s:Shared)(u:Value),BindsTo s fd ⟨[u],[]⟩ [(x,u)])/\∀base:Heap,K.In base->base.Ns mainGlobals aF->jK l.prog w K aF base (jJ l.prog w xp) (n+1) bk fd [x] (nS K (Den.run pg fds (n+1) f) 1):=by
 obtain⟨Bc,fH,bh,de,doc,pm,an,dQ,ct,fq,a,iu,c,k⟩:=dl;have e:=L1.symm.trans (PySem.W.mg_of X G a);cases e;refine⟨_,wQ de doc pm an dQ ct,λbase q2 nb=>?_⟩
 have F:=Bw iu c k;have:=Bp kT (T base q2 nb) (f:=f) hf dh F;rw[ah]at this;exact this
def walk{g:Den.Gt}{l:PySem.W.OpenLaw}{q:Program}{loose:List Str}{cq:(Str->Option Value)->Heap->Prop}{lJ:World->Heap->Prop}{d:DefRec}{K:Params->W.Frag}{pg:Den.dm}{fds:List Den.fX}{n f:Nat}{x:Str}(az:l.most=some 63)(qs:d.params.defaults=[])(a9:n<=40)(aV:∀ns:List Int,Den.run pg fds n f [.lst (ns.map .int)]=.ok (.aU true))(gd:∀(w:World)(h:Heap),lJ w h->(K w.params).In h)(F:∀(w:World)(aF:Str->Option Value)(bk:Addr)(h:Heap),(K w.params).In h->h.Ns mainGlobals aF->aF d.name=some (.ref bk) ->
   ∃fd:FuncData,(∀(s:Shared)(u:Value),BindsTo s fd ⟨[u],[]⟩ [(x,u)])/\∀base:Heap,(K w.params).In base->base.Ns mainGlobals aF->jK l.prog w (K w.params) aF base (jJ l.prog w iw) n bk fd [x] (nS (K w.params) (Den.run pg fds n f) 1)):
  PySem.W.WalkO q loose cq lJ l.row.toRowW d [] (λf af=>PySem.call f af) :=
 bJ.UK (n:=63) (k:=n) (x:=x) (CX:=λw=>jJ l.prog w iw) (sp:=λw=>nS (K w.params) (Den.run pg fds n f) 1) az (by decide) qs (fM.mono (⟨rfl,by decide,by decide⟩:fM 40 callerA) a9) gd F (λw H a ns _ _ aX=>SU aX (aV ns)) λ_ _ _ _ _ z=>IG z
end bR
end
section
set_option Elab.async false
namespace rS
open PySem PySem.Spec PyProof.Rows bJ bR
noncomputable def c9:List Nat:=[1,3,4,5,7,8,9,10,11,12,13,14,15,16,18,19,20,22,23,24,25,26,27,28,29,30,31,32]
noncomputable def st(j:Nat):Stmt:=PySem.Challenge.pw_holeyard_k23_whole_counted.main.body.getD (c9.getD j 0) (.Pass ⟨0,0,0,0⟩)
def H9:((List.range 28).all λj=>Den.lQ fZ.gt (fZ.DG.getD j []) (fZ.fds.getD j ⟨0,0,.nil⟩) (st j))=true:=by decide +kernel
def dh(j:Nat)(h:j<28):Den.lQ fZ.gt (fZ.DG.getD j []) (fZ.fds.getD j ⟨0,0,.nil⟩) (st j)=true:=Wt.mp H9 j (List.mem_range.mpr h)
structure Txt(K:W.Frag):Prop where
 ds:n2 (λj x=>rO K x (st j)) 0 fZ.gt.fns
 aU:AllB K pG
section
variable{K:W.Frag}{h:Heap}{aF:Str->Option Value}
theorem fns(X:K.In h)(G:h.Ns mainGlobals aF)(t:Txt K):n2 (rN K aF fZ.gt fZ.fds) 0 fZ.gt.fns:=by
 obtain⟨m3,cB,dd,om,I2,I3,I4,I5,I6,I7,IH,II,IJ,IK,IL,IM,IP,IQ,IS,IT,IU,IV,IW,IX,IY,IZ,I0,I1,-⟩:=t.ds;refine⟨eF X G m3 rfl (dh 0 (by decide)) ?_,eF X G cB rfl (dh 1 (by decide)) ?_,eF X G dd rfl (dh 2 (by decide)) ?_,eF X G om rfl (dh 3 (by decide)) ?_,eF X G I2 rfl (dh 4 (by decide)) ?_,eF X G I3 rfl (dh 5 (by decide)) ?_,eF X G I4 rfl (dh 6 (by decide)) ?_,eF X G I5 rfl (dh 7 (by decide)) ?_,eF X G I6 rfl (dh 8 (by decide)) ?_,eF X G I7 rfl (dh 9 (by decide)) ?_,eF X G IH rfl (dh 10 (by decide)) ?_,eF X G II rfl (dh 11 (by decide)) ?_,eF X G IJ rfl (dh 12 (by decide)) ?_,eF X G IK rfl (dh 13 (by decide)) ?_,eF X G IL rfl (dh 14 (by decide)) ?_,eF X G IM rfl (dh 15 (by decide)) ?_,eF X G IP rfl (dh 16 (by decide)) ?_,eF X G IQ rfl (dh 17 (by decide)) ?_,eF X G IS rfl (dh 18 (by decide)) ?_,eF X G IT rfl (dh 19 (by decide)) ?_,eF X G IU rfl (dh 20 (by decide)) ?_,eF X G IV rfl (dh 21 (by decide)) ?_,eF X G IW rfl (dh 22 (by decide)) ?_,eF X G IX rfl (dh 23 (by decide)) ?_,eF X G IY rfl (dh 24 (by decide)) ?_,eF X G IZ rfl (dh 25 (by decide)) ?_,eF X G I0 rfl (dh 26 (by decide)) ?_,eF X G I1 rfl (dh 27 (by decide)) ?_,trivial⟩<;>intro _ _ _ _ _ _ us au<;>first|(obtain⟨_,rfl⟩:=Kk au;rfl)|(obtain⟨_,_,rfl⟩:=Kl au;rfl)|(obtain⟨_,_,_,rfl⟩:=Km au;rfl)
def cH{P:Program}{w:World}(X:K.In h)(G:h.Ns mainGlobals aF)(t:Txt K)(base:Heap)(q2:K.In base)(nb:base.Ns mainGlobals aF):fC P w K aF base iw 20 fZ.gt fZ.pg (Den.run fZ.pg fZ.fds 20) :=
 FP (λ_ _ _ _ z=>z) (λf x e=>by have:=(fns X G t).get e;rwa[XS]at this) (AllB.get X G t.aU) (λj x d ak av=>by cases ak) _
end
end rS
noncomputable def PySem.W.Fast.tw15978605918712014785:=PySem.Challenge.pw_holeyard_k23_whole_counted
theorem PySem.W.Fast.te15978605918712014785:PySem.Challenge.pw_holeyard_k23_whole_counted=PySem.W.Fast.tw15978605918712014785:=rfl
noncomputable def PySem.W.Fast.tw10008821851918788460:=()
noncomputable def PySem.W.Fast.tw10560104564655021785:=()
noncomputable def PySem.W.Fast.tw10565671720383540265:=()
noncomputable def PySem.W.Fast.tw10640765229596387494:=()
noncomputable def PySem.W.Fast.tw10793410943184879481:=()
noncomputable def PySem.W.Fast.tw11461674720490213645:=()
noncomputable def PySem.W.Fast.tw11473348016309551471:=()
noncomputable def PySem.W.Fast.tw11662787037294732696:=()
noncomputable def PySem.W.Fast.tw1209686434105864667:=()
noncomputable def PySem.W.Fast.tw12120379833154478809:=()
noncomputable def PySem.W.Fast.tw13058214831928100256:=()
noncomputable def PySem.W.Fast.tw13294297220468951638:=()
noncomputable def PySem.W.Fast.tw13645610834990673828:=()
noncomputable def PySem.W.Fast.tw14538203988608535843:=()
noncomputable def PySem.W.Fast.tw14676713224493801705:=()
noncomputable def PySem.W.Fast.tw14906784886258119651:=()
noncomputable def PySem.W.Fast.tw15159290853679941580:=()
noncomputable def PySem.W.Fast.tw15258423474041969950:=()
noncomputable def PySem.W.Fast.tw15294093345590381111:=()
noncomputable def PySem.W.Fast.tw15373657848466359375:=()
noncomputable def PySem.W.Fast.tw15653268337086190509:=()
noncomputable def PySem.W.Fast.tw15871043496893512721:=()
noncomputable def PySem.W.Fast.tw16308039771362288951:=()
noncomputable def PySem.W.Fast.tw16502072409224665627:=()
noncomputable def PySem.W.Fast.tw17178458285093524999:=()
noncomputable def PySem.W.Fast.tw17694001049398393041:=()
noncomputable def PySem.W.Fast.tw17759515374101425689:=()
noncomputable def PySem.W.Fast.tw18038582860973365594:=()
noncomputable def PySem.W.Fast.tw1971229258711657724:=()
noncomputable def PySem.W.Fast.tw2082528635958579842:=()
noncomputable def PySem.W.Fast.tw2317508964990382499:=()
noncomputable def PySem.W.Fast.tw250210760011774715:=()
noncomputable def PySem.W.Fast.tw3595125380789036705:=()
noncomputable def PySem.W.Fast.tw380796240568621872:=()
noncomputable def PySem.W.Fast.tw3886222947572813577:=()
noncomputable def PySem.W.Fast.tw390226405370354375:=()
noncomputable def PySem.W.Fast.tw4051050323210021277:=()
noncomputable def PySem.W.Fast.tw4336790020974315463:=()
noncomputable def PySem.W.Fast.tw4534965629780804791:=()
noncomputable def PySem.W.Fast.tw4736361304718528800:=()
noncomputable def PySem.W.Fast.tw4736623643010903140:=()
noncomputable def PySem.W.Fast.tw5123347080022087545:=()
noncomputable def PySem.W.Fast.tw5147766719377629176:=()
noncomputable def PySem.W.Fast.tw5283226722650073849:=()
noncomputable def PySem.W.Fast.tw5349510528954578626:=()
noncomputable def PySem.W.Fast.tw5916260006594132442:=()
noncomputable def PySem.W.Fast.tw6016531822367578884:=()
noncomputable def PySem.W.Fast.tw6388823885270857121:=()
noncomputable def PySem.W.Fast.tw6420948599523804021:=()
noncomputable def PySem.W.Fast.tw6480539713361137132:=()
noncomputable def PySem.W.Fast.tw6578545582111796808:=()
noncomputable def PySem.W.Fast.tw6878103218051564749:=()
noncomputable def PySem.W.Fast.tw6951267048771328638:=()
noncomputable def PySem.W.Fast.tw7420215278204665719:=()
noncomputable def PySem.W.Fast.tw7488752826599066081:=()
noncomputable def PySem.W.Fast.tw7539986782492501148:=()
noncomputable def PySem.W.Fast.tw7623753627843400324:=()
noncomputable def PySem.W.Fast.tw7675399832458135394:=()
noncomputable def PySem.W.Fast.tw7799073047928891138:=()
noncomputable def PySem.W.Fast.tw8073937338182393276:=()
noncomputable def PySem.W.Fast.tw8288764048379400372:=()
noncomputable def PySem.W.Fast.tw8300055557693793395:=()
noncomputable def PySem.W.Fast.tw8937272224756241843:=()
noncomputable def PySem.W.Fast.tw9068435553773324562:=()
noncomputable def PySem.W.Fast.tw9094596679373298948:=()
noncomputable def PySem.W.Fast.tw9412948364225629751:=()
noncomputable def PySem.W.Fast.tw9508155323997785755:=()
noncomputable def PySem.W.Fast.tw951877019274869271:=()
noncomputable def PySem.W.Fast.tw9578526954389761581:=()
noncomputable def PySem.W.Fast.tw9707914235972921715:=()
noncomputable def PySem.W.Fast.tw971582930028556782:=()
noncomputable def PySem.W.Fast.tw9790176347890717402:=()
noncomputable def PySem.W.Fast.tw984325969602257804:=()
noncomputable def PySem.W.Fast.tw9945797042702331448:=()
noncomputable def PySem.W.Fast.tw9970467696361413884:=()
open PySem PySem.W PyProof.Rows
set_option maxRecDepth 100000 in
set_option maxHeartbeats 0 in
theorem PySem.Challenge.cw_holeyard_k23_whole_counted_holds : PySem.Challenge.rw_holeyard_k23_whole_counted.Holds := by
 w_on;o_law;k_head;(case hw=>w_witness2)
 k_fill
 refine bR.walk (g:=fZ.gt) (l:=PySem.Challenge.rw_holeyard_k23_whole_counted) (pg:=fZ.pg) (fds:=fZ.fds) (n:=21) (f:=27) (x:="_law_script") rfl rfl (by decide) zu.TQ (λw h Y=>PySem.W.kIn_of Y) ?F
 case F =>
  intro w aF bk h iI G qA;have t:rS.Txt (bJ.zm iI):=by
   refine⟨⟨?_,?_,?_,?_,?_,?_,?_,?_,?_,?_,?_,?_,?_,?_,?_,?_,?_,?_,?_,?_,?_,?_,?_,?_,?_,?_,?_,?_,trivial⟩,⟨?_,?_,?_,?_,?_,?_,?_,?_,?_,?_,?_,?_,trivial⟩⟩<;>dsimp only[bJ.zm]<;>first|(refine' bR.Jk ?a ?l ?c ?k;(case a=>k_is);(case l=>k_is);(case c=>k_is);(case k=>k_is))|k_is
  exact bR.N7 iI G qA (t.ds.get (f:=27) rfl) rfl (rS.dh 27 (by decide)) rfl (λ_ _ _ _ _ _ s u=>.of_eq rfl) (λ_ _ _ _ z=>z) (rS.cH iI G t)
end
