import PyProof.Rows.All
import Wide.All
import OpenK.AllK
import Wide.FinOn
import Lean
import PyProof.EqAt
import PyProof.EqKinds
import PyProof.TupleCall
import PySem.Value
import PySem.Sem
import PySem.SetTable
import PyProof.TupleKey
import PyProof.SetKind
import PyProof.DictKinds
import PyProof.IsRules
import PyProof.CompMap
import PyProof.Rows.SetFrom
import PyProof.WalksMore
import PyProof.FactsAll.subtypes_4
import PyProof.FactsAll.set
import PyProof.Seq
import PyProof.Walks
import KE.KDictSum
import PyProof.CollectStr
import PyProof.ListRange
import PyProof.Rows.SortShell
import PyProof.Rows.SortRuns
import KE.KSortAsk
import KE.KSortTup
import PyProof.ListMulAny
import PyProof.EnumMake
import PyProof.EnumFor
import PyProof.EnumStmt
import KE.BitLaws
import PyProof.Rows.SumAny
import PyProof.WalkInts
import PySem.Challenge.RW_holeyard_k21_whole_holes
set_option linter.all false
def Yf:=@PySem.wpAny_bind
def Yg:=@Bool.and_eq_true
def Yh:=@PySem.Heap.get?_push_of_some
def Yi:=@Nat.le_refl
def Yj.{u}:=@List.length_append.{u}
def Yk.{u}:=@List.mem_cons.{u}
def Yl.{u}:=@List.getElem?_eq_getElem.{u}
def Ym:=@Bool.false_eq_true
def Yn:=@PyProof.Rows.wpS_bind
def Yo.{u}:=@Array.getElem?_eq_getElem.{u}
def Yp:=@Nat.zero_le
def Yq.{u}:=@List.mem_append.{u}
def Yr.{u}:=@List.append_assoc.{u}
def Ys:=@PyProof.Rows.wpS_pure
def Yt:=@Nat.mod_two_eq_zero_or_one
def Yu:=@PySem.Heap.lt_size
def Yv.{u}:=@List.size_toArray.{u}
def Yw.{u}:=@List.mem_append_right.{u}
def Yx:=@PySem.Heap.get?_push_size
def Yy.{u,v}:=@List.getElem?_map.{u,v}
def Yz.{u}:=@List.pairwise_append.{u}
def YA.{u}:=@List.mem_singleton.{u}
def YB.{u}:=@List.getElem?_append_left.{u}
def YC:=@Nat.lt_of_lt_of_le
def YD:=@decide_eq_true_eq
def YE.{u}:=@List.pairwise_cons.{u}
def YF.{u}:=@Array.getElem?_toList.{u}
def YG.{u}:=@List.getElem?_eq_some_iff.{u}
def YH:=@Nat.ne_of_lt
def YI.{u}:=@List.all_eq_true.{u}
def YJ.{u}:=@Array.toList_append.{u}
def YK.{u}:=@if_false.{u}
def YL.{u}:=@Array.size_push.{u}
def YM:=@Nat.testBit_lt_two_pow
def YN:=@Nat.pow_le_pow_right
def YO.{u}:=@List.getElem?_eq_none.{u}
def YP.{u,v}:=@List.lookup_cons.{u,v}
def YQ.{u}:=@beq_eq_false_iff_ne.{u}
def YR.{u}:=@List.mem_filter.{u}
def YS.{u}:=@List.getElem?_append_right.{u}
def YT.{u}:=@Array.getElem?_eq_some_iff.{u}
def YU.{u}:=@List.length_take.{u}
def YV:=@PySem.wpAny_newObj_type
def YW:=@Bool.not_eq_true'
def YX.{u}:=@List.nodup_cons.{u}
def YY:=@Nat.max_eq_right
def YZ.{u}:=@Option.some.inj.{u}
def Y0:=@PySem.W.kia_one
def Y1.{u}:=@List.append_nil.{u}
def Y2:=@Nat.testBit_xor
def Y3.{u}:=@beq_iff_eq.{u}
def Y4:=@PySem.mem_of_lookup
def Y5.{u}:=@List.drop_eq_getElem_cons.{u}
def Y6:=@Bool.false_ne_true
def Y7:=@PyProof.Rows.callWith_type1
def Y8.{u}:=@List.idxOf_lt_length_of_mem.{u}
def Y9:=@PyProof.Rows.slot_tuple_getitem
def Za.{u}:=@List.contains_iff_mem.{u}
def Zb.{u}:=@List.length_drop.{u}
def Zc.{u}:=@Array.size_extract.{u}
def Zd.{u}:=@List.take_of_length_le.{u}
def Ze:=@PyProof.Rows.wpS_forRange
def Zf.{u}:=@Array.getElem?_setIfInBounds.{u}
def Zg.{u}:=@Array.getInternal_eq_getElem.{u}
def Zh:=@PySem.wpAny_mono
def Zi.{u}:=@List.take_append_drop.{u}
def Zj.{u}:=@List.Pairwise.sublist.{u}
def Zk:=@Nat.le_trans
def Zl.{u}:=@Option.some.injEq.{u}
def Zm.{u}:=@Array.getD_eq_getD_getElem?.{u}
def Zn.{u}:=@List.pairwise_singleton.{u}
def Zo.{u}:=@if_true.{u}
def Zp:=@PySem.wpAny_call_entry
def Zq:=@PySem.Heap.get?_update_other
def Zr.{u,v}:=@congrArg.{u,v}
def Zs.{u,v}:=@List.map_congr_left.{u,v}
def Zt:=@PySem.wpAny_truthy_bool
def Zu.{u,v}:=@List.pairwise_map.{u,v}
def Zv:=@PySem.wpAny_setState_of
def Zw:=@PySem.Heap.get?_update_self
def Zx:=@Nat.xor_assoc
def Zy.{u}:=@List.Pairwise.imp_of_mem.{u}
def Zz:=@PySem.codeAny_builtin
def ZA:=@PySem.F.slot_dict_keyiterator_next
def ZC:=@PySem.wpAny_Call_Name_kw
def ZD.{u}:=@List.mem_of_getElem?.{u}
def ZE:=@PySem.wpAny_callSpecial?_slot
def ZF.{u}:=@List.mem_iff_getElem.{u}
def ZG:=@PySem.Around.under_plainId
def ZH:=@PyProof.Rows.wpS_mono
def ZI.{u}:=@List.replicate_succ.{u}
def ZJ:=@PySem.Heap.SameBut.update
def ZK.{u}:=@Ne.symm.{u}
def ZL:=@PySem.Calls.spliced_cons
def ZM:=@PySem.wpAny_holding
def ZN.{u}:=@List.eq_nil_of_length_eq_zero.{u}
def ZO:=@Nat.eq_of_testBit_eq
def ZP:=@PySem.wpAny_typeNameOfWhole_keyiter
def ZQ.{u}:=@Array.size_append.{u}
def ZR:=@of_decide_eq_true
def ZS:=@PyProof.Rows.wpS_modify
def ZT:=@List.getElem?_range
def ZU:=@PyProof.Rows.F.plain_set_update_loop
def ZV:=@Nat.lt_irrefl
def ZW:=@Nat.zero_testBit
def ZX:=@Nat.lt_succ_self
def ZY.{u,v}:=@List.mem_flatMap.{u,v}
def ZZ.{u}:=@List.nodup_nil.{u}
def Z0:=@Nat.xor_lt_two_pow
def Z1.{u}:=@List.nodup_iff_pairwise_ne.{u}
def Z2.{u}:=@List.getElem_idxOf.{u}
def Z3.{u}:=@List.Perm.append_left.{u}
def Z4.{u}:=@List.pairwise_iff_getElem.{u}
def Z5:=@Bool.or_eq_true
def Z6.{u}:=@List.length_set.{u}
def Z7:=@PySem.Calls.spliced_nil
def Z8.{u,v}:=@List.map_nil.{u,v}
def Z9.{u}:=@List.flatten_cons.{u}
def aaa.{u,v}:=@List.all_map.{u,v}
def aab.{u}:=@List.ext_getElem?.{u}
def aac.{u}:=@bne_self_eq_false.{u}
def aad.{u}:=@Array.toList_reverse.{u}
def aae.{u}:=@List.nodup_append.{u}
def aaf:=@Bool.not_true
def aag:=@Nat.testBit_two_pow_self
def aah:=@PySem.wpAny_typeNameOf_keyiter
def aai:=@PyProof.Rows.callWith_builtin1
def aaj:=@Bool.and_false
def aak:=@PySem.wpAny_typeOf
def aal:=@Nat.zero_add
def aam:=@Nat.and_mod_two_eq_one
def aan.{u}:=@Array.getElem?_eq_none.{u}
def aao:=@PySem.F.called_set
def aap.{u}:=@List.Perm.append_right.{u}
def aaq.{u}:=@List.drop_eq_nil_of_le.{u}
def aar:=@Int.natCast_nonneg
def aas.{u}:=@List.countP_eq_length_filter.{u}
def aat.{u}:=@List.length_replicate.{u}
def aau.{u}:=@List.eq_nil_or_concat.{u}
def aav.{u}:=@List.concat_eq_append.{u}
def aaw.{u}:=@List.getElem?_toArray.{u}
def aax.{u}:=@List.perm_append_comm.{u}
def aay.{u}:=@List.Pairwise.imp.{u}
def aaz.{u}:=@List.countP_congr.{u}
def aaA.{u}:=@Array.toList_push.{u}
def aaB.{u}:=@List.count_append.{u}
def aaC:=@Nat.pow_lt_pow_right
def aaD:=@Nat.le_of_not_lt
def aaE:=@Nat.xor_self
def aaF:=@Nat.xor_zero
def aaG.{u}:=@List.countP_cons.{u}
def aaH.{u}:=@List.getElem_mem.{u}
def aaI:=@PySem.wpAny_askSetting
def aaJ.{u}:=@List.drop_length.{u}
def aaK.{u}:=@List.any_eq_true.{u}
def aaL.{u}:=@List.nil_sublist.{u}
def aaM:=@Nat.testBit_two_pow
def aaN:=@PyProof.Rows.F.entry_set_update_loop
def aaO.{u}:=@List.reverse_append.{u}
def aaP.{u,v}:=@List.flatMap_append.{u,v}
def aaQ:=@PySem.F.args_tuple_add_2
def aaR:=@PySem.wpAny_passesOwn
def aaS.{u,v}:=@List.countP_map.{u,v}
def aaT.{u,v}:=@List.mem_filterMap.{u,v}
def aaU:=@PySem.wpAny_rule
def aaV.{u}:=@List.getElem?_replicate.{u}
def aaW:=@PySem.F.entry_tuple_add
def aaX:=@PySem.F.plainAttrs_list
def aaY:=@Nat.le_of_lt
def aaZ:=@PySem.W.kitx_dict
def aa0:=@PySem.F.slot_tuple_add
def aa1:=@Bool.xor_false
def aa2:=@Nat.zero_xor
def aa3:=@Nat.xor_mod_two_eq_one
def aa4:=@List.pairwise_lt_range
def aa5:=@PySem.wpAny_setField
def aa6:=@PySem.F.plain_list_iadd
def aa7.{u}:=@List.getElem_take.{u}
def aa8:=@List.range_succ_eq_map
def aa9:=@PySem.F.slot_dict_get
def aba:=@PySem.builtinLookup_eq_fast
def abb.{u}:=@List.set_append_right.{u}
def abc.{u}:=@List.length_filter_le.{u}
def abd:=@PySem.wpAny_forIn_list
def abe:=@Nat.testBit_zero
def abf:=@Nat.testBit_succ
def abg:=@PySem.F.args_dict_keyiterator_next_1
def abh.{u}:=@Array.toList_inj.{u}
def abi:=@PyProof.Rows.reverseSlice'_eq
def abj.{u}:=@List.sublist_nil.{u}
def abk:=@PySem.plainId_quiet
def abl:=@PySem.wpAny_attempt
def abm.{u}:=@List.getElem?_set_ne.{u}
def abn.{u}:=@List.map_id.{u}
def abo:=@PySem.F.entry_dict_keyiterator_next
def abp.{u}:=@Array.toList_extract.{u}
def abq.{u}:=@List.mem_of_mem_take.{u}
def abr:=@Bool.and_eq_true_iff
def abt:=@Nat.two_pow_pos
def abu:=@Nat.and_div_two
def abv.{u}:=@List.countP_eq_zero.{u}
def abw:=@PySem.wpAny_setEntries_of
def abx.{u}:=@List.filter_sublist.{u}
def aby:=@PySem.codeAny_mono
def abz:=@Nat.lt_or_ge
def abA:=@PyProof.Rows.wpS_get
def abB:=@Bool.false_and
def abC:=@PySem.tupleKind_room_in1
def abD.{u}:=@List.Perm.refl.{u}
def abE:=@PySem.wpAny_runValue
def abF:=@PySem.isSubtype_type
def abG:=@PySem.wpAny_fieldsOf
def abH.{u}:=@List.take_zero.{u}
def abI.{u}:=@List.getElem?_drop.{u}
def abJ:=@Classical.byContradiction
def abK:=@PySem.Value.isInt_shape
def abL.{u,v}:=@Sum.inl.inj.{u,v}
def abM.{u}:=@List.any_eq_false.{u}
def abN:=@PySem.W.kitx_list
def abO:=@Nat.lt_trichotomy
def abP:=@PySem.wpAny_pyIter_slot
def abQ:=@PySem.wpAny_dictEntries
def abR.{u}:=@dif_pos.{u}
def abS.{u}:=@List.getElem_drop.{u}
def abT.{u}:=@List.Sublist.refl.{u}
def abU:=@Bool.and_true
def abV:=@PySem.noFill_tuple_add
def abW:=@PySem.F.args_dict_get_3
def abX:=@Nat.testBit_div_two_pow
def abY:=@Nat.testBit_mod_two_pow
def abZ.{u}:=@List.not_mem_nil.{u}
def ab0:=@PySem.wpAny_isInstance
def ab1:=@Nat.add_sub_cancel_left
def ab2:=@PySem.W.cellsFrom_some
def ab3:=@PySem.concat_meets
def ab4:=@PySem.call_meets
def ab5:=@PySem.F.entry_dict_get
def ab6:=@Nat.mod_lt
def ab7:=@PySem.wpAny_specialOf
def ab8:=@Nat.xor_div_two
def ab9:=@Nat.testBit_and
def aca:=@PySem.typeLookup_type
def acb:=@PySem.wpAny_dictEpoch
def acd:=@PySem.wpAny_updateSeq
def ace:=@Bool.eq_iff_iff
def acf:=@Bool.not_false
def acg:=@Nat.add_comm
def ach:=@Nat.xor_comm
def aci:=@Nat.sub_self
section
set_option Elab.async false
set_option linter.all false
set_option maxRecDepth 100000
namespace bJ
open PySem PySem.Spec PyProof.Rows
noncomputable abbrev Key:=Sum Int Str
noncomputable def pE:Key->Value->Bool
 |.inl k,v=>Value.isInt k v
 |.inr x,v=>Value.isStrOf x v
noncomputable def PE(w:World):Key->Int
 |.inl k=>hashInt k
 |.inr x=>hashStr w x
def lG:∀{k:Key}{v:Value},pE k v=true->(∃i t,k=Sum.inl i/\v=Value.int i t)\/(∃x t,k=Sum.inr x/\v=Value.str x t)
 |.inl i,v,h=>by
  obtain⟨t,e⟩:=abK (k:=i) (v:=v) h;exact .inl ⟨i,t,rfl,e⟩
 |.inr x,v,h=>by
  obtain⟨t,e⟩:=Value.isStrOf_shape (x:=x) (v:=v) h;exact .inr ⟨x,t,rfl,e⟩
def PG(i:Int)(t:Tok):pE (.inl i) (.int i t)=true:=by simp[pE,Value.isInt]
def PH(x:Str)(t:Tok):pE (.inr x) (.str x t)=true:=by simp[pE,Value.isStrOf]
def PK(a b:Int):decide ((Sum.inl a:Key)=Sum.inl b)=(a==b):=by
 by_cases e:a=b
 .subst e;simp
 .have h:¬(Sum.inl a:Key)=Sum.inl b:=λq=>e (abL q)
  rw[decide_eq_false h];exact(YQ.mpr e).symm
def PN(a b:Str):decide ((Sum.inr a:Key)=Sum.inr b)=decide (a=b):=by
 by_cases e:a=b
 .subst e;simp
 .have h:¬(Sum.inr a:Key)=Sum.inr b:=λq=>e (Sum.inr.inj q)
  rw[decide_eq_false h,decide_eq_false e]
def PL(a:Int)(b:Str):decide ((Sum.inl a:Key)=Sum.inr b)=false:=decide_eq_false (λq=>nomatch q)
def PM(a:Str)(b:Int):decide ((Sum.inr a:Key)=Sum.inl b)=false:=decide_eq_false (λq=>nomatch q)
noncomputable def gQ(prog:Program)(w:World):PySem.KeyKind prog w Key where
 is:=pE
 hash:=PE w
 inj:=λv a b ax ae=>by
  rcases lG ax with⟨i,t,rfl,rfl⟩|⟨x,t,rfl,rfl⟩
  .rcases lG ae with⟨j,u,rfl,e⟩|⟨y,u,rfl,e⟩
   .injection e with ai _;rw[ai]
   .exact nomatch e
  .rcases lG ae with⟨j,u,rfl,e⟩|⟨y,u,rfl,e⟩
   .exact nomatch e
   .injection e with ai _;rw[ai]
 byValue:=λk v h=>by
  rcases lG h with⟨i,t,rfl,rfl⟩|⟨x,t,rfl,rfl⟩<;>rfl
 pyHash:=λaV h=>by
  rcases lG aV with⟨i,t,rfl,rfl⟩|⟨x,t,rfl,rfl⟩
  .exact wpAny_pyHash_int h
  .exact wpAny_pyHash_str h
 eqBool:=λbz aV h=>by
  rcases lG bz with⟨i,t,rfl,rfl⟩|⟨x,t,rfl,rfl⟩
  .rcases lG aV with⟨j,u,rfl,rfl⟩|⟨y,u,rfl,rfl⟩
   .rw[PK]at h;exact wpAny_eqBool_int h
   .rw[PL]at h;exact SeqAt.EqAt.int_str i t y u _ _ _ _ h
  .rcases lG aV with⟨j,u,rfl,rfl⟩|⟨y,u,rfl,rfl⟩
   .rw[PM]at h;exact SeqAt.EqAt.str_int x t j u _ _ _ _ h
   .rw[PN]at h;exact wpAny_eqBool_str h
 «strs»:=λk x t v h=>by
  rcases lG h with⟨i,u,rfl,e⟩|⟨y,u,rfl,e⟩
  .exact nomatch e
  .injection e with ai _;subst ai;cases v<;>rfl
def QM(prog:Program)(w:World)(i:Int)(t:Tok):(gQ prog w).is (.inl i) (.int i t)=true:=PG i t
def QN(prog:Program)(w:World)(x:Str)(t:Tok):(gQ prog w).is (.inr x) (.str x t)=true:=PH x t
end bJ
namespace bJ
open PySem PySem.Spec PyProof.Rows
inductive V where
 |dr|aT (b:Bool)|int (i:Int)|str (x:Str)|wZ (b:Array UInt8)|iG (b:UInt64)|ref (a:Addr)|ty (n:String)
 deriving DecidableEq
noncomputable def RelV:V->Value->Prop
 |.dr,u=>u=Value.none
 |.aT b,u=>u=Value.bool b
 |.int i,u=>∃t,u=Value.int i t
 |.str x,u=>∃t,u=Value.str x t
 |.wZ b,u=>∃t,u=Value.bytes b t
 |.iG b,u=>∃t,u=Value.float b t
 |.ref a,u=>u=Value.ref a
 |.ty n,u=>u=Value.type n
noncomputable abbrev Vals:List V->List Value->Prop:=Paired RelV
theorem Vals.length{xs:List V}{us:List Value}(r:Vals xs us):xs.length=us.length:=Paired.length r
theorem Vals.get:∀{xs:List V}{us:List Value}{i:Nat}{x:V},Vals xs us->xs[i]?=some x->∃u,us[i]?=some u/\RelV x u
 |_,_,_,_,.nil,e=>by simp at e
 |_,_,0,_,.cons r _,e=>by simp at e;subst e;exact⟨_,rfl,r⟩
 |_,_,i+1,x,.cons _ t,e=>by
  obtain⟨u,J,aa⟩:=Vals.get (i:=i) (x:=x) t (by simpa using e);exact⟨u,by simpa using J,aa⟩
theorem Vals.append:∀{xs ys:List V}{us ws:List Value},Vals xs us->Vals ys ws->Vals (xs++ys) (us++ws)
 |_,_,_,_,.nil,s=>s
 |_,_,_,_,.cons r t,s=>.cons r (Vals.append t s)
theorem Vals.take:∀{xs:List V}{us:List Value}(n:Nat),Vals xs us->Vals (xs.take n) (us.take n)
 |_,_,0,_=>.nil
 |_,_,_+1,.nil=>.nil
 |_,_,n+1,.cons r t=>.cons r (Vals.take n t)
theorem Vals.drop:∀{xs:List V}{us:List Value}(n:Nat),Vals xs us->Vals (xs.drop n) (us.drop n)
 |_,_,0,r=>r
 |_,_,_+1,.nil=>.nil
 |_,_,n+1,.cons _ t=>Vals.drop n t
noncomputable def iE:Option V->Option Value->Prop
 |some v,some u=>RelV v u
 |none,none=>True
 |_,_=>False
noncomputable def eW{κ:Type}:List (κ×V)->List (κ×Value)->Prop:=Paired λ(p:κ×V)(q:κ×Value)=>p.1=q.1/\RelV p.2 q.2
noncomputable def dn:Key->V
 |.inl i=>.int i
 |.inr x=>.str x
inductive dJ where
  |lst (xs:List V)
  |tup (xs:List V)
  |dN (ak:List (Key×V))|d5 (ak:List (List Key×V))
  |set (S:Int->Bool) (n:Nat)
  |ins (bG bj:Addr) (bL:List (Str×V))
  |own (x:Addr)
  |Au (bL:List (Str×V))
  |met (f x:Addr)
  |eP (lo hi:Int)
  |eg (o:Obj) (u:dJ)
  |oA (a8:Array Value)
  |ext (hS:Heap->Prop)
noncomputable abbrev az:=Addr->Option dJ
noncomputable def upd(H:az)(a:Addr)(o:dJ):az:=λb=>if b=a then some o else H b
def dS{H:az}{a:Addr}{o:dJ}:upd H a o a=some o:=by unfold upd;rw[if_pos rfl]
def dm{H:az}{a b:Addr}{o:dJ}(h:b≠a):upd H a o b=H b:=by unfold upd;rw[if_neg h]
def Ac{H:az}{a:Addr}{o u:dJ}:upd (upd H a o) a u=upd H a u:=by
 funext b;unfold upd;split<;>rfl
def Q2{H:az}{a b:Addr}{o u:dJ}(h:H a=some o)(h':H b=some u)(d:o≠u):a≠b:=by
 intro e;subst e;rw[h]at h';exact d (YZ h')
def mS{H:az}{a b:Addr}{o:dJ}(h:H a=some o)(h':H b=none):a≠b:=by
 intro e;subst e;rw[h]at h';cases h'
section
variable(P:Program)(w:World)
noncomputable def dG(H:az)(h:Heap)(a:Addr):dJ->Prop
 |.lst xs=>xs.length<=sizeLine/\∃(its:List Value)(n:Nat),Vals xs its/\h.get? a=some { cls:=.type "list",data:=.seq its.toArray n }
 |.tup xs=>xs.length<=sizeLine/\∃its:List Value,Vals xs its/\IsTup h a its.toArray
 |.dN ak=>ak.length<=sizeLine/\(a==sysModules)=false/\∃af,eW ak af/\h.DictOf (gQ P w) a af
 |.d5 ak=>ak.length<=sizeLine/\(a==sysModules)=false/\∃xs:List (List Key×Addr×Value),
   Paired (λ(p:List Key×V)(q:List Key×Addr×Value)=>p.1=q.1/\H q.2.1=some (.tup (p.1.map dn))/\RelV p.2 q.2.2) ak xs /\
   ∃o ah ba,h.get? a=some o/\o.ExactDict/\o.data=.dict ah ba/\ah.toList=xs.map (entryOfKey (tupleKind (gQ P w)))/\(xs.map (·.1)).Nodup
 |.set S n=>h.SetOf (intKind P w) a S n
 |.ins bG bj bL=>H bj=some (.own a)/\bL.length<=1000/\bj≠a/\h.get? a=some (PySem.W.instObj bG bj) /\
   ∃e7,h.Ns1 bj e7/\(∀f,iE (bL.lookup f) (e7 f))/\PySem.Within e7 (bL.map (·.1))
 |.own _=>∃o,h.get? a=some o
 |.Au bL=>∃e7,h.Ns1 a e7/\∀f,iE (bL.lookup f) (e7 f)
 |.eP lo hi=>∃t u v,h.get? a=some { cls:=.type "range",data:=.fields #[.int lo t,.int hi u,.int 1 v] }
 |.eg o u=>h.get? a=some o/\dG H h a u
 |.oA a8=>h.get? a=some { cls:=.none,data:=.fields a8 }
 |.met f x=>h.get? a=some (PySem.W.methodObj (.ref f) (.ref x))
 |.ext hS=>hS h/\(∃o,h.get? a=some o)/\∀J aa:Heap,hS J->(∀o,J.get? a=some o->aa.get? a=some o)->hS aa
noncomputable def ep(H:az)(h:Heap):Prop:=∀a o,H a=some o->dG P w H h a o
end
section
variable{P:Program}{w:World}{H aq:az}{h h':Heap}{a:Addr}{o:dJ}
theorem dG.lt(x:dG P w H h a o):a<h.objs.size:=by
 cases o with
 |lst xs=>obtain⟨_,_,_,_,e⟩:=x;exact Yu e
 |tup xs=>obtain⟨_,_,_,p⟩:=x;exact p.lt
 |dN ak=>obtain⟨_,_,_,_,o,_,_,e,_⟩:=x;exact Yu e
 |d5 ak=>obtain⟨_,_,_,_,o,_,_,e,_⟩:=x;exact Yu e
 |set S n=>obtain⟨o,_,_,_,e,_⟩:=x;exact Yu e
 |ins bG bj bL=>obtain⟨_,_,_,e,_⟩:=x;exact Yu e
 |own y=>obtain⟨_,e⟩:=x;exact Yu e
 |Au bL=>obtain⟨_,⟨_,_,_,e,_⟩,_⟩:=x;exact Yu e
 |eP lo hi=>obtain⟨_,_,_,e⟩:=x;exact Yu e
 |eg bT u=>obtain⟨e,_⟩:=x;exact Yu e
 |oA a8=>exact Yu (show h.get? a=some _ from x)
 |met f y=>exact Yu (show h.get? a=some _ from x)
 |ext hS=>obtain⟨_,⟨_,e⟩,_⟩:=x;exact Yu e
theorem Paired.yX{α β:Type}{F G:α->β->Prop}:∀{EK:List α}{EL:List β},Paired F EK EL->(∀a b,F a b->G a b)->Paired G EK EL
 |_,_,.nil,_=>.nil
 |_,_,.cons r t,f=>.cons (f _ _ r) (Paired.yX t f)
def dG.kM(x:dG P w H h a o)(k:∀b u,(b=a\/H b=some (.own a))->h.get? b=some u->h'.get? b=some u)(ay:∀b,H b=some (.own a)->aq b=some (.own a))(aW:∀b xs,H b=some (.tup xs)->aq b=some (.tup xs)):dG P w aq h' a o:=by
 induction o with
 |lst xs=>obtain⟨z,its,n,r,e⟩:=x;exact⟨z,its,n,r,k _ _ (.inl rfl) e⟩
 |tup xs=>obtain⟨z,its,r,bT,e,c⟩:=x;exact⟨z,its,r,bT,k _ _ (.inl rfl) e,c⟩
 |dN ak=>obtain⟨z,y,af,r,bT,ah,ba,e,c⟩:=x;exact⟨z,y,af,r,bT,ah,ba,k _ _ (.inl rfl) e,c⟩
 |d5 ak =>
  obtain⟨z,y,xs,r,bT,ah,ba,e,c⟩:=x;exact⟨z,y,xs,Paired.yX r λp q z=>⟨z.1,aW _ _ z.2.1,z.2.2⟩,bT,ah,ba,k _ _ (.inl rfl) e,c⟩
 |set S n=>obtain⟨bT,ah,ba,t,e,c⟩:=x;exact⟨bT,ah,ba,t,k _ _ (.inl rfl) e,c⟩
 |ins bG bj bL =>
  obtain⟨d,z,ne,e,e7,⟨bk,ah,ba,av,c⟩,r⟩:=x;exact⟨ay _ d,z,ne,k _ _ (.inl rfl) e,e7,⟨bk,ah,ba,k _ _ (.inr d) av,c⟩,r⟩
 |own y=>obtain⟨bT,e⟩:=x;exact⟨bT,k _ _ (.inl rfl) e⟩
 |Au bL=>obtain⟨e7,⟨bk,ah,ba,e,c⟩,r⟩:=x;exact⟨e7,⟨bk,ah,ba,k _ _ (.inl rfl) e,c⟩,r⟩
 |eP lo hi=>obtain⟨t,u,v,e⟩:=x;exact⟨t,u,v,k _ _ (.inl rfl) e⟩
 |eg bT u aF=>obtain⟨e,q⟩:=x;exact⟨k _ _ (.inl rfl) e,aF q⟩
 |oA a8 =>
  have e:h.get? a=some { cls:=.none,data:=.fields a8 }:=x;show h'.get? a=some { cls:=.none,data:=.fields a8 };exact k a _ (.inl rfl) e
 |met f y =>
  have e:h.get? a=some (PySem.W.methodObj (.ref f) (.ref y)):=x;show h'.get? a=some (PySem.W.methodObj (.ref f) (.ref y));exact k a _ (.inl rfl) e
 |ext hS=>obtain⟨p,⟨o,e⟩,st⟩:=x;exact⟨st _ _ p λo q=>k _ _ (.inl rfl) q,⟨o,k _ _ (.inl rfl) e⟩,st⟩
theorem ep.lt(x:ep P w H h)(e:H a=some o):a<h.objs.size:=(x a o e).lt
def ep.fresh(x:ep P w H h)(e:h.objs.size<=a):H a=none:=by
 cases q:H a with
 |none=>rfl
 |some u=>exact absurd (YC (x.lt q) e) (ZV _)
def ep.kept(x:ep P w H h)(k:∀b u,h.get? b=some u->h'.get? b=some u):ep P w H h':=λa o e =>
 (x a o e).kM (λb u _ q=>k b u q) (λ_ q=>q) λ_ _ q=>q
def ep.laid(x:ep P w H h)(k:∀b u,h.get? b=some u->h'.get? b=some u)(aE:h.objs.size<=a)(new:dG P w (upd H a o) h' a o):ep P w (upd H a o) h':=λb u e=>by
 have aB:=x.fresh aE
 by_cases ae:b=a
 .subst ae;rw[dS]at e;cases e;exact new
 .rw[dm ae]at e;exact(x b u e).kM (λc v _ q=>k c v q) (λc q=>by rw[dm (mS q aB)];exact q) λc xs q=>by rw[dm (mS q aB)];exact q
end
noncomputable def g0(H:az)(a:Addr)(u:dJ):Prop:=H a=some u\/∃o,H a=some (.eg o u)
def g0.ok{P:Program}{w:World}{H:az}{h:Heap}{a:Addr}{u:dJ}(r:g0 H a u)(x:ep P w H h):dG P w H h a u:=by
 rcases r with r|⟨o,r⟩
 .exact x a u r
 .obtain⟨_,q⟩:=x a _ r;exact q
noncomputable def qx:Option dJ->Prop
 |some (.lst _)=>True
 |some (.dN _)=>True
 |some (.d5 _)=>True
 |some (.set _ _)=>True
 |some (.ins _ _ _)=>True
 |some (.ext _)=>True
 |_=>False
section
variable{P:Program}{w:World}{H:az}{h h':Heap}{x e:Addr}{bH:dJ}
def ep.write (ok : ep P w H h) (ao : qx (H x)) (he : e = x \/ H e = some (.own x)) (k : ∀ b u, b ≠ e -> h.get? b = some u -> h'.get? b = some u) (pk : ∃ u, h'.get? e = some u)
    (new : dG P w (upd H x bH) h' x bH) : ep P w (upd H x bH) h' := fun b u q => by
  have Fn : ∀ c y, H c = some (.own y) -> c ≠ x := fun c y r z => by subst z; rw [r] at ao; exact ao
  have Ra : ∀ c xs, H c = some (.tup xs) -> c ≠ x := fun c xs r z => by subst z; rw [r] at ao; exact ao
  by_cases ae : b = x
  · subst ae; rw [dS] at q; cases q; exact new
  · rw [dm ae] at q
    by_cases nU : b = e
    · have c2 : H b = some (.own x) := by
        rcases he with z | z
        · exact absurd (nU.trans z) ae
        · rw [nU]; exact z
      rw [q] at c2; cases c2
      obtain ⟨v, aV⟩ := pk
      exact ⟨v, by rw [nU]; exact aV⟩
    · refine (ok b u q).kM (fun c v aj r => k c v ?_ r) (fun c r => by rw [dm (Fn c b r)]; exact r) fun c xs r => by rw [dm (Ra c xs r)]; exact r
      rcases aj with rfl | aj
      · exact nU
      · rintro rfl
        rcases he with z | z
        · exact Fn c b aj z
        · rw [aj] at z; cases z; exact ae rfl
end
structure fg(bL ex:List Addr)(H aq:az)(h h':Heap):Prop where
 keep:∀b o,h.get? b=some o->H b=none->b∉bL->b∉ex->h'.get? b=some o
 slot:∀b o,h.get? b=some o->H b=none->b∈bL->b∉ex->∃cn,h'.get? b=some { o with slots:=cn }
 free:∀b o,h.get? b=some o->H b=none->b∉ex->aq b=none
 there:∀b o,h.get? b=some o->b∉ex->∃bH,h'.get? b=some bH
 kQ:∀b xs,H b=some (.tup xs)->aq b=some (.tup xs)
 jI:∀b o u,H b=some (.eg o u)->aq b=some (.eg o u)
 kO:∀b a8,H b=some (.oA a8)->∃more,aq b=some (.oA (a8++more))
section
variable{bL MV ex Xp:List Addr}{H H1 aY:az}{h J aa h':Heap}{a x e:Addr}{o:dJ}
def fg.any(u:fg bL ex H H1 h J){b:Addr}{bT:Obj}(q:h.get? b=some bT)(n:H b=none)(ag:b∉ex):∃cn,J.get? b=some { bT with slots:=cn }:=by
 by_cases ae:b∈bL
 .exact u.slot b bT q n ae ag
 .exact⟨bT.slots,u.keep b bT q n ae ag⟩
def fg.kept(k:∀b u,h.get? b=some u->h'.get? b=some u):fg bL ex H H h h' :=
 ⟨λb bT q _ _ _=>k b bT q,λb bT q _ _ _=>⟨bT.slots,k b bT q⟩,λ_ _ _ n _=>n,λb bT q _=>⟨bT,k b bT q⟩,λ_ _ q=>q,λ_ _ _ q=>q,λ_ a8 q=>⟨#[],by rw[q];simp⟩⟩
def fg.refl:fg bL ex H H h h:=fg.kept λ_ _ q=>q
def fg.laid(k:∀b u,h.get? b=some u->h'.get? b=some u)(aE:h.objs.size<=a)(aB:H a=none):fg bL ex H (upd H a o) h h' where
 keep:=λb u q _ _ _=>k b u q
 slot:=λb u q _ _ _=>⟨u.slots,k b u q⟩
 free:=λb u q n _=>by rw[dm (YH (YC (Yu q) aE))];exact n
 there:=λb u q _=>⟨u,k b u q⟩
 kQ:=λb xs q=>by rw[dm (mS q aB)];exact q
 jI:=λb u xs q=>by rw[dm (mS q aB)];exact q
 kO:=λb a8 q=>⟨#[],by rw[dm (mS q aB),q];simp⟩
def fg.write(ao:qx (H x))(he:e=x\/H e=some (.own x))(k:∀b u,b≠e->h.get? b=some u->h'.get? b=some u)(pk:∃u,h'.get? e=some u):fg bL ex H (upd H x o) h h':=by
 have ag:∀b,H b=none->b≠x:=λb n z=>by subst z;rw[n]at ao;exact ao
 have ae:∀b,H b=none->b≠e:=λb n z=>by
  subst z;rcases he with r|r
  .exact ag b n r
  .rw[n]at r;cases r
 have hm:∀b u,H b=some u->¬qx (some u)->b≠x:=λb u q nm z=>by subst z;rw[q]at ao;exact nm ao
 refine⟨λb u q n _ _=>k b u (ae b n) q,λb u q n _ _=>⟨u.slots,k b u (ae b n) q⟩,λb u q n _=>by rw[dm (ag b n)];exact n,λb u q _=>?_,
  λb xs q=>by rw[dm (hm b _ q λz=>z)];exact q,λb u xs q=>by rw[dm (hm b _ q λz=>z)];exact q,λb a8 q=>⟨#[],by rw[dm (hm b _ q λz=>z),q];simp⟩⟩
 by_cases nU:b=e
 .subst nU;exact pk
 .exact⟨u,k b u nU q⟩
end
noncomputable def vd(h:Heap)(H:az):List Addr:=(List.range h.objs.size).filter λa=>(H a).isSome
noncomputable def lr(h:Heap)(H:az):Heap:=PySem.W.hideAll h (vd h H)
def N0(h:Heap)(H:az):(lr h H).objs.size=h.objs.size:=PySem.W.hideAll_size _ _
def NZ{h:Heap}{H:az}{b:Addr}{o:Obj}(e:h.get? b=some o)(n:H b=none):(lr h H).get? b=some o :=
 PySem.W.hideAll_get _ e λhm=>by
  have q:(H b).isSome=true:=(YR.mp hm).2;rw[n]at q;simp at q
def Ri{h:Heap}{H:az}{b:Addr}{o:Obj}(e:(lr h H).get? b=some o):h.get? b=some o/\H b=none:=by
 have bq:h.get? b=some o:=PySem.W.of_hideAll (vd h H) e;refine⟨bq,?_⟩;cases q:H b with
 |none=>rfl
 |some x =>
  have hm:b∈vd h H:=YR.mpr ⟨List.mem_range.mpr (Yu bq),by simp[q]⟩;have z:(lr h H).get? b=none:=PySem.W.hideAll_none (vd h H) hm;rw[z]at e;cases e
noncomputable def Iv(g h:Heap)(L:Addr):List (Addr×Obj):=(List.range h.objs.size).filterMap λa=>if a=L\/(g.get? a).isSome=true then none else(h.get? a).map λo=>(a,o)
noncomputable def rest(g h:Heap)(L d:Addr):List (Addr×Obj):=(Iv g h L).filter λp=>decide (p.1≠d)
end bJ
namespace bJ
open PySem PySem.Spec PyProof.Rows
structure Mod(K:W.Frag)(aK:Str->Option Value)(base:Heap):Prop where
 yI:K.In base
 glob:base.Ns mainGlobals aK
 blt:∃jl,base.Ns builtinsNs jl/\∀x:Str,x≠"__name__"->jl x=bootBuiltins x
 nolimit:base.NoLimit
structure aU where
 prog:Program
 w:World
 K:W.Frag
 aK:Str->Option Value
 base:Heap
 A:Around
 N:List Str
 fq:Shared
 qu:az
 env:Env
 outer:List Env
 stack:List Env
 ex:List Addr
 fn:Str->Bool
 calm:Bool
 fX:List (Addr×Obj)
 cA:Value->Shared->Prop
noncomputable def iq(l:List Env):List Addr:=l.filterMap (·.frame)
noncomputable abbrev aU.bL(X:aU):List Addr:=iq X.outer
noncomputable def fT(sc:Scope)(x:Str):Prop:=sc.names.lookup x=some .local\/sc.names.lookup x=some .cell\/sc.names.lookup x=some .free
noncomputable def Loc(sc:Scope)(x:Str):Prop:=sc.names.lookup x=some .local\/sc.names.lookup x=some .cell
noncomputable def Look(env:Env)(h:Heap)(m:Str->Option Value)(x:Str)(u:Value):Prop :=
 (env.kindOf x=some .local/\m x=some u)\/((env.kindOf x=some .cell\/env.kindOf x=some .free)/\∃c,env.cells.lookup x=some c/\h.IsCell c (some u))
structure aU.Ok(X:aU):Prop where
 mod:Mod X.K X.aK X.base
 kind:X.env.scope.kind=.function
 glob:X.env.globals=mainGlobals
 blt:X.env.builtins=builtinsNs
 above:X.fq.heap.objs.size<=X.env.locals
 inj:∀x y c,X.env.cells.lookup x=some c->X.env.cells.lookup y=some c->x=y
 has:∀x,(X.env.kindOf x=some .cell\/X.env.kindOf x=some .free)->∃c,X.env.cells.lookup x=some c
 w1:∀x c,X.fn x=true->X.env.cells.lookup x=some c->X.fq.heap.objs.size<=c
 hd:X.calm=true->X.A.handled=none
 frames:X.A.frames=some X.stack
 zT:X.stack=X.outer\/(X.stack=X.env::X.outer/\X.env.frame=some X.env.locals)
 Cv:∀b∈X.ex,b≠X.env.locals/\∀x c,X.env.cells.lookup x=some c->c≠b
 bs:∀b o,X.base.get? b=some o->X.fq.heap.get? b=some o/\X.qu b=none
 qL:X.base.objs.size<=X.fq.heap.objs.size
 uw:∀b o,X.base.get? b=some o->b∉X.ex
 tf:∀b∈X.ex,b∉X.bL
 ll:X.fq.heap.FunFrames X.base X.outer
 tr:∀b∈X.bL,X.qu b=none
structure Inv(X:aU)(pins:List (Addr×Obj))(σ:List (Option V))(H:az)(s:Shared):Prop where
 ok:X.Ok
 os:s.os=X.fq.os
 bare:AllBare s.gens
 base:fg X.bL X.ex X.qu H X.fq.heap s.heap
 loc:∃m,s.heap.Ns X.env.locals m/\∀(i:Nat)(x:Str)(v:V),X.N[i]?=some x->σ[i]?=some (some v)->fT X.env.scope x->∃u,RelV v u/\Look X.env s.heap m x u
 cell:∀x c,X.env.cells.lookup x=some c->∃v,s.heap.IsCell c v
 free:H X.env.locals=none
 kj:∀x c,X.env.cells.lookup x=some c->H c=none
 pin:∀p∈X.fX++pins,s.heap.get? p.1=some p.2/\H p.1=none/\p.1≠X.env.locals/\p.1∉X.bL/\∀v,p.2.data≠.cell v
 bM:ep X.prog X.w H s.heap
 len:σ.length=X.N.length
section
variable{X:aU}{pins:List (Addr×Obj)}{σ:List (Option V)}{H aq:az}{s:Shared}{h':Heap}
def aU.Ok.Q6(ok:X.Ok){b:Addr}{o:Obj}(e:X.base.get? b=some o):b∉X.bL:=λae=>by
 have:=(ok.ll.mem ae).1;rw[e]at this;cases this
theorem Inv.bs(I:Inv X pins σ H s):∀b o,X.base.get? b=some o->s.heap.get? b=some o/\H b=none:=λb o e =>
 ⟨I.base.keep b o (I.ok.bs b o e).1 (I.ok.bs b o e).2 (I.ok.Q6 e) (I.ok.uw b o e),I.base.free b o (I.ok.bs b o e).1 (I.ok.bs b o e).2 (I.ok.uw b o e)⟩
def Inv.mi(I:Inv X pins σ H s):∀b o,X.base.get? b=some o->s.heap.get? b=some o:=λb o e=>(I.bs b o e).1
theorem Inv.mod(I:Inv X pins σ H s):Mod X.K X.aK X.base:=I.ok.mod
def Inv.f6(I:Inv X pins σ H s):X.K.In s.heap:=I.ok.mod.yI.keeps I.mi
theorem Inv.lt(I:Inv X pins σ H s):X.env.locals<s.heap.objs.size:=let ⟨_,aB,_⟩:=I.loc;aB.lt
def Inv.eH(I:Inv X pins σ H s):X.fq.heap.objs.size<=s.heap.objs.size:=Zk I.ok.above (aaY I.lt)
def Inv.Q8(I:Inv X pins σ H s){a:Addr}(h:s.heap.objs.size<=a):a∉X.bL:=λae=>by
 obtain⟨_,o,ay,_⟩:=I.ok.ll.mem ae;exact absurd (YC (Yu ay) (Zk I.eH h)) (ZV _)
def Inv.nH(I:Inv X pins σ H s):∀x c,X.env.cells.lookup x=some c->c≠X.env.locals:=λx c e z=>by
 obtain⟨v,o,ay,hd⟩:=I.cell x c e;obtain⟨m,⟨bH,ah,ba,dP,fA,_⟩,_⟩:=I.loc;rw[z,dP]at ay;cases ay;rw[fA]at hd;cases hd
theorem Inv.ll(I:Inv X pins σ H s):s.heap.FunFrames X.base X.outer:=by
 have all:∀(l:List Env),(∀b∈iq l,b∈X.bL)->X.fq.heap.FunFrames X.base l->s.heap.FunFrames X.base l:=by
  intro l
  induction l with
  |nil=>intro _ _;trivial
  |cons env r aF =>
   intro ab aw;obtain⟨au,⟨L,o,hf,aB,ay,hd⟩,a7⟩:=aw;have fl:L∈X.bL:=ab L (by unfold iq;rw[List.filterMap_cons,hf];exact List.mem_cons_self);obtain⟨cn,e⟩:=I.base.slot L o ay (I.ok.tr L fl) fl λz=>I.ok.tf L z fl
   exact⟨au,⟨L,_,hf,aB,e,hd⟩,aF (λb ae=>ab b (by unfold iq;rw[List.filterMap_cons,hf];exact List.mem_cons_of_mem _ ae)) a7⟩
 exact all X.outer (λ_ ae=>ae) I.ok.ll
theorem Inv.stack(I:Inv X pins σ H s):s.heap.FunFrames X.base X.stack:=by
 rcases I.ok.zT with e|⟨e,hf⟩
 .rw[e];exact I.ll
 .rw[e];obtain⟨m,aB,_⟩:=I.loc;refine .cons (by rw[I.ok.kind];decide) hf aB ?_ I.ll;exact Heap.get?_none_of_le (Zk I.ok.qL I.ok.above)
def Inv.u4(I:Inv X pins σ H s):∀b∈iq X.stack,b∈X.env.locals::X.bL:=λb ae=>by
 rcases I.ok.zT with e|⟨e,hf⟩
 .rw[e]at ae;exact List.mem_cons_of_mem _ ae
 .rw[e]at ae;unfold iq at ae;rw[List.filterMap_cons,hf]at ae;exact ae
def Inv.Hd(I:Inv X pins σ H s):∀b∈iq X.stack,H b=none:=λb ae=>by
 rcases Yk.mp (I.u4 b ae) with e|ae
 .rw[e];exact I.free
 .obtain⟨_,o,ay,_⟩:=I.ok.ll.mem ae;exact I.base.free b o ay (I.ok.tr b ae) λz=>I.ok.tf b z ae
def Inv.step{g':Array GenState}{t':Nat}{d':Drawn}{ch:List Addr}(I:Inv X pins σ H s)(ja:∀b∈ch,(b∈X.ex\/X.fq.heap.objs.size<=b)/\b≠X.env.locals/\(∀x c,X.env.cells.lookup x=some c->c≠b)/\∀p∈X.fX++pins,p.1≠b)(keep:∀b o,b≠X.env.locals->b∉X.bL->b∉ch->s.heap.get? b=some o->H b=none->h'.get? b=some o)(slot:∀b o,b≠X.env.locals->b∈X.bL->b∉ch->s.heap.get? b=some o->H b=none->∃cn,h'.get? b=some { o with slots:=cn })(free:∀b o,b∉ch->s.heap.get? b=some o->H b=none->aq b=none)(there:∀b o,b∉ch->s.heap.get? b=some o->∃bH,h'.get? b=some bH)(kQ:∀b xs,H b=some (.tup xs)->aq b=some (.tup xs))(jI:∀b o u,H b=some (.eg o u)->aq b=some (.eg o u))(kO:∀b a8,H b=some (.oA a8)->∃more,aq b=some (.oA (a8++more)))(ns:∀m,s.heap.Ns X.env.locals m->h'.Ns X.env.locals m)(bM:ep X.prog X.w aq h')(a4:AllBare g'):
  Inv X pins σ aq { s with heap:=h',gens:=g',drawn:=d',toks:=t' }:=by
 have E7:∀b o,X.fq.heap.get? b=some o->b≠X.env.locals:=λb o e=>YH (YC (Yu e) I.ok.above)
 have mR:∀b o,X.fq.heap.get? b=some o->b∉X.ex->b∉ch:=λb o e ag ae=>by
  rcases(ja b ae).1 with z|z
  .exact ag z
  .exact absurd (YC (Yu e) z) (ZV _)
 have cellK:∀x c,X.env.cells.lookup x=some c->∀v,s.heap.IsCell c v->h'.IsCell c v:=λx c e v ⟨o,ay,hd⟩=>by
  have rX:c∉ch:=λz=>(ja c z).2.2.1 x c e rfl
  by_cases aj:c∈X.bL
  .obtain⟨cn,q⟩:=slot c o (I.nH x c e) aj rX ay (I.kj x c e);exact⟨_,q,hd⟩
  .exact⟨o,keep c o (I.nH x c e) aj rX ay (I.kj x c e),hd⟩
 refine⟨I.ok,I.os,a4,⟨λb o e n ae ag=>?_,λb o e n ae ag=>?_,λb o e n ag=>?_,λb o e ag=>?_,λb xs e=>kQ b xs (I.base.kQ b xs e),λb o xs e=>jI b o xs (I.base.jI b o xs e),λb a8 e=>?_⟩,?_,λx c e=>?_,?_,λx c e=>?_,λp aE=>?_,bM,I.len⟩
 .exact keep b o (E7 b o e) ae (mR b o e ag) (I.base.keep b o e n ae ag) (I.base.free b o e n ag)
 .obtain⟨cn,ai⟩:=I.base.slot b o e n ae ag;obtain⟨UK,av⟩:=slot b _ (E7 b o e) ae (mR b o e ag) ai (I.base.free b o e n ag);exact⟨UK,av⟩
 .obtain⟨bH,ai⟩:=I.base.there b o e ag;exact free b bH (mR b o e ag) ai (I.base.free b o e n ag)
 .obtain⟨bH,ai⟩:=I.base.there b o e ag;exact there b bH (mR b o e ag) ai
 .obtain⟨gP,ai⟩:=I.base.kO b a8 e;obtain⟨h8,av⟩:=kO b _ ai;exact⟨gP++h8,by rw[av,Array.append_assoc]⟩
 .obtain⟨m,aB,aw⟩:=I.loc;refine⟨m,ns m aB,λi x v ai av bu=>?_⟩;obtain⟨u,r,l⟩:=aw i x v ai av bu;refine⟨u,r,?_⟩;rcases l with l|⟨k,c,e,z⟩
  .exact .inl l
  .exact .inr ⟨k,c,e,cellK x c e _ z⟩
 .obtain⟨v,z⟩:=I.cell x c e;exact⟨v,cellK x c e v z⟩
 .obtain⟨m,⟨o,_,_,ay,_⟩,_⟩:=I.loc;exact free _ o (λz=>(ja _ z).2.1 rfl) ay I.free
 .obtain⟨v,o,ay,hd⟩:=I.cell x c e;exact free c o (λz=>(ja c z).2.2.1 x c e rfl) ay (I.kj x c e)
 .obtain⟨e,n,ne,mT,d⟩:=I.pin p aE;have rX:p.1∉ch:=λz=>(ja p.1 z).2.2.2 p aE rfl
  exact⟨keep p.1 p.2 ne mT rX e n,free p.1 p.2 rX e n,ne,mT,d⟩
def Inv.un{t':Nat}(I:Inv X pins σ H s)(u:fg X.bL [] H aq s.heap h')(bM:ep X.prog X.w aq h'):Inv X pins σ aq { s with heap:=h',toks:=t' }:=by
 obtain⟨m,⟨o,ah,ba,ay,r⟩,_⟩:=id I.loc;obtain⟨cn,fl⟩:=u.any ay I.free (by simp);exact I.step (g':=s.gens) (d':=s.drawn) (ch:=[]) (λ_ z=>nomatch z) (λb o _ ae _ e n=>u.keep b o e n ae (by simp)) (λb o _ ae _ e n=>u.slot b o e n ae (by simp)) (λb o _ e n=>u.free b o e n (by simp)) (λb o _ e=>u.there b o e (by simp)) u.kQ u.jI u.kO (λdw hm=>by
  obtain⟨bH,nP,xl,dP,bW⟩:=hm;rw[ay]at dP;cases dP;exact⟨_,nP,xl,fl,bW⟩) bM I.bare
def Inv.call{g':Array GenState}{t':Nat}{d':Drawn}{ch:List Addr}(I:Inv X pins σ H s)(u:fg (iq X.stack) ch H aq s.heap h')(bM:ep X.prog X.w aq h')(a4:AllBare g')(ja:∀b∈ch,(b∈X.ex\/X.fq.heap.objs.size<=b)/\b≠X.env.locals/\(∀x c,X.env.cells.lookup x=some c->c≠b)/\∀p∈X.fX++pins,p.1≠b):
  Inv X pins σ aq { s with heap:=h',gens:=g',drawn:=d',toks:=t' }:=by
 obtain⟨m,⟨o,ah,ba,ay,r⟩,_⟩:=id I.loc;obtain⟨cn,fl⟩:=u.any ay I.free λz=>(ja _ z).2.1 rfl
 exact I.step (ch:=ch) ja (λb o fl ae aj e n=>u.keep b o e n (λz=>(Yk.mp (I.u4 b z)).elim fl ae) aj) (λb o _ _ aj e n=>u.any e n aj) (λb o aj e n=>u.free b o e n aj) (λb o aj e=>u.there b o e aj) u.kQ u.jI u.kO (λdw hm=>by
  obtain⟨bH,nP,xl,dP,bW⟩:=hm;rw[ay]at dP;cases dP;exact⟨_,nP,xl,fl,bW⟩) bM a4
def Inv.turned{t':Nat}{it:Addr}(I:Inv X pins σ H s)(k:∀b o,b≠it->s.heap.get? b=some o->h'.get? b=some o)(aB:H it=none)(fl:it≠X.env.locals)(J:it∈X.ex\/X.fq.heap.objs.size<=it)(aa:∀x c,X.env.cells.lookup x=some c->c≠it)(aI:∀p∈X.fX++pins,p.1≠it):Inv X pins σ H { s with heap:=h',toks:=t' }:=by
 have Fd:∀b u,H b=some u->b≠it:=λb u e z=>by rw[z,aB]at e;cases e
 refine I.step (g':=s.gens) (d':=s.drawn) (ch:=[it]) (λb ae=>?_) (λb o _ _ aj e _=>k b o (λz=>aj (by simp[z])) e) (λb o _ _ aj e _=>⟨o.slots,k b o (λz=>aj (by simp[z])) e⟩) (λ_ _ _ _ n=>n)
  (λb o aj e=>⟨o,k b o (λz=>aj (by simp[z])) e⟩) (λ_ _ e=>e) (λ_ _ _ e=>e) (λb a8 e=>⟨#[],by rw[e];simp⟩) (λm hm=>?_) (λb u e=>?_) I.bare
 .have e:b=it:=(by simpa using ae);subst e;exact⟨J,fl,aa,aI⟩
 .obtain⟨o,ah,ba,ay,r⟩:=hm;exact⟨o,ah,ba,k _ o (ZK fl) ay,r⟩
 .refine(I.bM b u e).kM (λc v aj q=>k c v ?_ q) (λ_ q=>q) λ_ _ q=>q
  rcases aj with z|z
  .rw[z];exact Fd b u e
  .exact Fd c _ z
def Inv.tok(I:Inv X pins σ H s)(t:Nat):Inv X pins σ H { s with toks:=t }:=I.un (h':=s.heap) (t':=t) fg.refl I.bM
theorem Inv.kept{t':Nat}(I:Inv X pins σ H s)(k:∀b u,s.heap.get? b=some u->h'.get? b=some u):Inv X pins σ H { s with heap:=h',toks:=t' }:=I.un (fg.kept k) (I.bM.kept k)
theorem Inv.laid{a:Addr}{o:dJ}{t':Nat}(I:Inv X pins σ H s)(k:∀b u,s.heap.get? b=some u->h'.get? b=some u)(aE:s.heap.objs.size<=a)(new:dG X.prog X.w (upd H a o) h' a o):
  Inv X pins σ (upd H a o) { s with heap:=h',toks:=t' }:=I.un (fg.laid k aE (I.bM.fresh aE)) (I.bM.laid k aE new)
theorem Inv.write{x e:Addr}{o:dJ}{t':Nat}(I:Inv X pins σ H s)(ao:qx (H x))(he:e=x\/H e=some (.own x))(k:∀b u,b≠e->s.heap.get? b=some u->h'.get? b=some u)(pk:∃u,h'.get? e=some u)(new:dG X.prog X.w (upd H x o) h' x o):Inv X pins σ (upd H x o) { s with heap:=h',toks:=t' }:=I.un (fg.write ao he k pk) (I.bM.write ao he k pk new)
def Inv.zh{FL:List (Addr×Obj)}(I:Inv X pins σ H s)(h:∀p∈FL,s.heap.get? p.1=some p.2/\H p.1=none/\p.1≠X.env.locals/\p.1∉X.bL/\∀v,p.2.data≠.cell v):Inv X FL σ H s :=
 ⟨I.ok,I.os,I.bare,I.base,I.loc,I.cell,I.free,I.kj,λp aE=>(Yq.mp aE).elim (λz=>I.pin p (List.mem_append_left _ z)) (h p),I.bM,I.len⟩
def Fh{N:List Str}(aS:N.Nodup){i j:Nat}{x:Str}(a:N[i]?=some x)(b:N[j]?=some x):i=j:=by
 obtain⟨J,ai⟩:=YG.mp a;obtain⟨aa,av⟩:=YG.mp b;exact(List.getElem_inj aS).mp (ai.trans av.symm)
def Vc{M:Model}{A:Around}{E:Value->Shared->Prop}{i:Nat}{x:Str}{v:V}{u:Value}{Q:Unit->Shared->Prop}(I:Inv X pins σ H s)(aS:X.N.Nodup)(hi:X.N[i]?=some x)(ag:Loc X.env.scope x)(r:RelV v u)(h:∀s',Inv X pins (σ.set i (some v)) H s'->(∃a,Heap.SameBut a s.heap s'.heap/\(a=X.env.locals\/X.env.cells.lookup x=some a))->Q () s')(hf:X.fn x=true\/X.env.scope.names.lookup x=some .local):wpAny M A (storeName X.env x u) Q E s:=by
 obtain⟨m,aB,aw⟩:=id I.loc;have NG:(X.env.scope.kind==.class||(X.env.scope.kind==.module&&X.env.locals != X.env.globals))=false:=by rw[I.ok.kind];rfl
 have Dy:i<σ.length:=by rw[I.len];exact(YG.mp hi).1
 have nH:=I.nH;have tracked:∀{a:Addr}{h':Heap},(∃o,s.heap.get? a=some o/\H a=none)->Heap.SameBut a s.heap h'->ep X.prog X.w H h':=λ{a h'} ax ab b bT e=>by
  obtain⟨_,_,pl⟩:=ax;refine(I.bM b bT e).kM (λc ee aj q=>(ab.2 c ?_).trans q) (λ_ q=>q) λ_ _ q=>q
  rintro rfl;rcases aj with rfl|aj
  .rw[pl]at e;cases e
  .rw[pl]at aj;cases aj
 rcases ag with au|au
 .refine wpAny_storeName_local au aB (λh' iw ab=>?_) NG;obtain⟨Rf,_,_,tS,_⟩:=id aB;refine h _ ⟨I.ok,I.os,I.bare,⟨λb o e n ae ag=>?_,λb o e n ae ag=>?_,I.base.free,λb o e ag=>?_,I.base.kQ,I.base.jI,I.base.kO⟩,⟨_,iw,λj y qj ai av bu=>?_⟩,λy c e=>?_,I.free,I.kj,λp aE=>?_,tracked ⟨Rf,tS,I.free⟩ ab,by simpa using I.len⟩ ⟨_,ab,.inl rfl⟩
  .exact(ab.2 b (YH (YC (Yu e) I.ok.above))).trans (I.base.keep b o e n ae ag)
  .obtain⟨cn,ai⟩:=I.base.slot b o e n ae ag;exact⟨cn,(ab.2 b (YH (YC (Yu e) I.ok.above))).trans ai⟩
  .obtain⟨bH,ai⟩:=I.base.there b o e ag;exact⟨bH,(ab.2 b (YH (YC (Yu e) I.ok.above))).trans ai⟩
  .by_cases aA:j=i
   .subst aA;rw[hi]at ai;cases ai;rw[List.getElem?_set_self Dy]at av;cases av;exact⟨u,r,.inl ⟨au,by simp⟩⟩
   .rw[abm (ZK aA)]at av;obtain⟨vh,bW,q⟩:=aw j y qj ai av bu;refine⟨vh,bW,?_⟩;rcases q with⟨k,e⟩|⟨k,c,e,z⟩
    .refine .inl ⟨k,?_⟩;have:y≠x:=λe=>aA (Fh aS ai (e▸hi))
     simp[this,e]
    .exact .inr ⟨k,c,e,z.sameBut ab (nH y c e)⟩
  .obtain⟨ee,z⟩:=I.cell y c e;exact⟨ee,z.sameBut ab (nH y c e)⟩
  .obtain⟨e,n,ne,mT,d⟩:=I.pin p aE;exact⟨(ab.2 p.1 ne).trans e,n,ne,mT,d⟩
 .have nV:X.fn x=true:=by
   rcases hf with z|z
   .exact z
   .rw[z]at au;cases au
  obtain⟨c,aj⟩:=I.ok.has x (.inl au);obtain⟨ee,z⟩:=I.cell x c aj;refine wpAny_storeName_cell I.ok.kind au aj z (λh' cT ab=>?_);obtain⟨f7,DI,Ow⟩:=id z;refine h { s with heap:=h' } ⟨I.ok,I.os,I.bare,⟨λb o e n ae ag=>?_,λb o e n ae ag=>?_,I.base.free,λb o e ag=>?_,I.base.kQ,I.base.jI,I.base.kO⟩,⟨m,aB.sameBut ab (ZK (nH x c aj)),λj y qj ai av bu=>?_⟩,λy cN e=>?_,I.free,I.kj,λp aE=>?_,tracked ⟨f7,DI,I.kj x c aj⟩ ab,by simpa using I.len⟩ ⟨c,ab,.inr aj⟩
  .exact(ab.2 b (YH (YC (Yu e) (I.ok.w1 x c nV aj)))).trans (I.base.keep b o e n ae ag)
  .obtain⟨cn,ai⟩:=I.base.slot b o e n ae ag;exact⟨cn,(ab.2 b (YH (YC (Yu e) (I.ok.w1 x c nV aj)))).trans ai⟩
  .obtain⟨bH,ai⟩:=I.base.there b o e ag;exact⟨bH,(ab.2 b (YH (YC (Yu e) (I.ok.w1 x c nV aj)))).trans ai⟩
  .by_cases aA:j=i
   .subst aA;rw[hi]at ai;cases ai;rw[List.getElem?_set_self Dy]at av;cases av;exact⟨u,r,.inr ⟨.inl au,c,aj,cT⟩⟩
   .rw[abm (ZK aA)]at av;obtain⟨vh,bW,q⟩:=aw j y qj ai av bu;refine⟨vh,bW,?_⟩;rcases q with q|⟨k,cN,e,gd⟩
    .exact .inl q
    .refine .inr ⟨k,cN,e,gd.sameBut ab ?_⟩;rintro rfl;exact aA (Fh aS ai (I.ok.inj _ _ _ e aj▸hi))
  .by_cases tJ:cN=c
   .subst tJ;exact⟨_,cT⟩
   .obtain⟨j4,cC⟩:=I.cell y cN e;exact⟨j4,cC.sameBut ab tJ⟩
  .obtain⟨e,n,ne,mT,d⟩:=I.pin p aE;refine⟨(ab.2 p.1 ?_).trans e,n,ne,mT,d⟩;intro q;rw[q,DI]at e;have c2:f7=p.2:=YZ e;exact d ee (by rw[<- c2];exact Ow)
def zU{M:Model}{A:Around}{E:Value->Shared->Prop}{i:Nat}{x:Str}{v:V}{u:Value}{Q:Unit->Shared->Prop}(I:Inv X pins σ H s)(aS:X.N.Nodup)(hi:X.N[i]?=some x)(ag:Loc X.env.scope x)(r:RelV v u)(h:∀s',Inv X pins (σ.set i (some v)) H s'->Q () s')(hf:X.fn x=true\/X.env.scope.names.lookup x=some .local:=by first|exact .inl rfl|exact .inr rfl|assumption):wpAny M A (storeName X.env x u) Q E s :=
 Vc I aS hi ag r (λs' iZ _=>h s' iZ) hf
def Inv.Bp{s':Shared}{ch:List Addr}(I:Inv X pins σ H s)(ay:s'.os=s.os)(u:fg (iq X.stack) ch H aq s.heap s'.heap)(bM:ep X.prog X.w aq s'.heap)(a4:AllBare s'.gens)(ja:∀b∈ch,(b∈X.ex\/X.fq.heap.objs.size<=b)/\b≠X.env.locals/\(∀x c,X.env.cells.lookup x=some c->c≠b)/\∀p∈X.fX++pins,p.1≠b):Inv X pins σ aq s':=by
 obtain⟨h',g',d',t',bH⟩:=s';have e:bH=s.os:=ay;subst e;exact I.call (g':=g') (t':=t') (d':=d') u bM a4 ja
end
noncomputable abbrev i2:=Value->Option Addr->az->Prop
noncomputable abbrev St:=List (Option V)
noncomputable abbrev de:=V->az->Prop
noncomputable abbrev TE:=St->az->de->Prop
noncomputable abbrev TT:=St->az->(Bool->az->Prop)->Prop
noncomputable abbrev fS:=St->az->(List V->az->Prop)->Prop
structure Ends where
 cg:St->az->Prop
 d7:de
 mi:St->az->Prop:=λ_ _=>False
 ct:St->az->Prop:=λ_ _=>False
noncomputable abbrev hy:=Ends->St->az->Prop
noncomputable def eJ(X:aU)(pins:List (Addr×Obj))(σ:St)(Q:de)(u:Value)(s':Shared):Prop:=∃v aq,Inv X pins σ aq s'/\RelV v u/\Q v aq
noncomputable def oN(X:aU)(pins:List (Addr×Obj))(σ:St)(Q:Bool->az->Prop)(b:Bool)(s':Shared):Prop:=∃aq,Inv X pins σ aq s'/\Q b aq
noncomputable def H6(X:aU)(pins:List (Addr×Obj))(σ:St)(Q:List V->az->Prop)(us:List Value)(s':Shared):Prop:=∃af aq,Inv X pins σ aq s'/\Vals af us/\Q af aq
noncomputable def vT(X:aU)(pins:List (Addr×Obj))(D:Ends)(f:Flow)(s':Shared):Prop :=
 match f with
 |.next=>∃dB aq,Inv X pins dB aq s'/\D.cg dB aq
 |.brk=>∃dB aq,Inv X pins dB aq s'/\D.mi dB aq
 |.cont=>∃dB aq,Inv X pins dB aq s'/\D.ct dB aq
 |.ret u=>∃v dB aq,Inv X pins dB aq s'/\RelV v u/\D.d7 v aq
noncomputable def aO(X:aU)(e:Expr)(t:TE):Prop :=
 ∀(pins:List (Addr×Obj))(s:Shared)(σ:St)(H:az)(Q:de),Inv X pins σ H s->t σ H Q->wpAny (model X.prog X.w) X.A (eval e X.env) (eJ X pins σ Q) X.cA s
noncomputable def dH(X:aU)(e:Expr)(t:TT):Prop :=
 ∀(pins:List (Addr×Obj))(s:Shared)(σ:St)(H:az)(Q:Bool->az->Prop),Inv X pins σ H s->t σ H Q->wpAny (model X.prog X.w) X.A (isTrue e X.env (eval e X.env)) (oN X pins σ Q) X.cA s
noncomputable def iC(X:aU)(e:Expr)(t:TT):Prop :=
 ∀(whole:Sem Value)(pins:List (Addr×Obj))(s:Shared)(σ:St)(H:az)(Q:Bool->az->Prop),Inv X pins σ H s->t σ H Q->wpAny (model X.prog X.w) X.A (isTrue e X.env whole) (oN X pins σ Q) X.cA s
def iC.pt{X:aU}{e:Expr}{t:TT}(h:iC X e t):dH X e t:=h _
noncomputable def fQ(X:aU)(ah:List Expr)(t:fS):Prop :=
 ∀(pos:Pos)(pins:List (Addr×Obj))(s:Shared)(σ:St)(H:az)(Q:List V->az->Prop),Inv X pins σ H s->t σ H Q->wpAny (model X.prog X.w) X.A (spliced (backTo pos (starEach ah X.env))) (H6 X pins σ Q) X.cA s
noncomputable def eu(X:aU)(st:Stmt)(t:hy):Prop :=
 ∀(pins:List (Addr×Obj))(s:Shared)(σ:St)(H:az)(D:Ends),Inv X pins σ H s->t D σ H->wpAny (model X.prog X.w) X.A (exec st X.env) (vT X pins D) X.cA s
noncomputable def hx(X:aU)(st:List Stmt)(t:hy):Prop :=
 ∀(pins:List (Addr×Obj))(s:Shared)(σ:St)(H:az)(D:Ends),Inv X pins σ H s->t D σ H->wpAny (model X.prog X.w) X.A (execs st X.env) (vT X pins D) X.cA s
def bO{α:Type}{t:Sem α}{Q iD:α->Shared->Prop}{M:Model}{A:Around}{E:Value->Shared->Prop}{s:Shared}(h:wpAny M A t Q E s)(eo:∀a s,Q a s->iD a s):wpAny M A t iD E s:=Zh h eo λ_ _ x=>x
end bJ
namespace bJ
open PySem PySem.Spec PyProof.Rows
section
variable{X:aU}
def bin{a b:Expr}{cu cW:TE}(ax:aO X a cu)(ae:aO X b cW){pins:List (Addr×Obj)}{s:Shared}{σ:St}{H:az}{R:V->V->az->Prop}(I:Inv X pins σ H s)(h:cu σ H λx H1=>cW σ H1 λy aY=>R x y aY){α:Type}{Q:α->Shared->Prop}{f:Value->Value->Sem α}(hf:∀v u s2 x y aY,Inv X pins σ aY s2->RelV x v->RelV y u->R x y aY->wpAny (model X.prog X.w) X.A (f v u) Q X.cA s2):
  wpAny (model X.prog X.w) X.A (eval a X.env) (λv cS=>wpAny (model X.prog X.w) X.A (eval b X.env) (λu hP=>wpAny (model X.prog X.w) X.A (f v u) Q X.cA hP) X.cA cS) X.cA s:=by
 refine bO (ax pins s σ H _ I h) λv s1 ⟨x,H1,bb,aH,aP⟩=>?_
 refine bO (ae pins s1 σ H1 _ bb aP) λu s2 ⟨y,aY,cM,a5,a9⟩=>?_
 exact hf v u s2 x y aY cM aH a5 a9
noncomputable def oz(i:Nat):TE:=λσ H Q=>∃v,σ[i]?=some (some v)/\Q v H
noncomputable def qe(v:V):TE:=λ_ H Q=>Q v H
def gn{i:Nat}{x:Str}{pos:Pos}(aS:X.N[i]?=some x)(aV:fT X.env.scope x)(hd:(x==("__debug__":Str))=false:=by decide)(lp:(x==("__classdict__":Str))=false:=by decide):aO X (.Name x pos) (oz i):=by
 intro pins s σ H Q I h;obtain⟨v,e,h⟩:=h;obtain⟨m,aB,aw⟩:=I.loc;obtain⟨u,r,l⟩:=aw i x v aS e aV;have fin:eJ X pins σ Q u s:=⟨v,H,I,r,h⟩;rcases l with⟨au,hm⟩|⟨au,c,aj,tK⟩
 .exact wpAny_Name (wpAny_loadName_local I.ok.kind au aB hm fin) hd
 .rcases au with au|au
  .exact wpAny_Name (wpAny_loadName_cell I.ok.kind au aj tK fin) hd
  .exact wpAny_Name (wpAny_loadName_free I.ok.kind au aj tK fin lp) hd
def zf{i j pos}:aO X (.Constant (.int i) j pos) (qe (.int i)):=λ_ _ _ H _ I h=>wpAny_Constant_int ⟨.int i,H,I.tok _,⟨_,rfl⟩,h⟩
def RI{b j pos}:aO X (.Constant (.bool b) j pos) (qe (.aT b)):=λ_ _ _ H _ I h=>Constant_bool ⟨.aT b,H,I,rfl,h⟩
def RV{j pos}:aO X (.Constant .none j pos) (qe .dr):=λ_ _ _ H _ I h=>Constant_none ⟨.dr,H,I,rfl,h⟩
def RZ{x j pos}:aO X (.Constant (.str x) j pos) (qe (.str x)):=λ_ _ _ H _ I h=>Calls.Constant_str ⟨.str x,H,I.tok _,⟨_,rfl⟩,h⟩
noncomputable def et(X:aU)(x:Str):Prop:=X.env.kindOf x=some .globalImplicit
def Qe{E:Value->Shared->Prop}{pins:List (Addr×Obj)}{s:Shared}{σ:St}{H:az}{x:Str}{u:Value}{pos:Pos}{Q:Value->Shared->Prop}(I:Inv X pins σ H s)(a4:et X x)(hm:X.aK x=some u)(h:Q u s)(hd:(x==("__debug__":Str))=false:=by decide):wpAny (model X.prog X.w) X.A (eval (.Name x pos) X.env) Q E s :=
 Calls.Name_function_global I.ok.kind a4 (Calls.loadGlobal_global (by rw[I.ok.glob];exact I.mod.glob.keeps I.mi) hm h) hd
def jT{E:Value->Shared->Prop}{pins:List (Addr×Obj)}{s:Shared}{σ:St}{H:az}{x:Str}{u:Value}{pos:Pos}{Q:Value->Shared->Prop}(I:Inv X pins σ H s)(a4:et X x)(hm:X.aK x=none)(aV:bootBuiltins x=some u)(h:Q u s)(aB:x≠"__name__":=by decide)(hd:(x==("__debug__":Str))=false:=by decide):wpAny (model X.prog X.w) X.A (eval (.Name x pos) X.env) Q E s:=by
 obtain⟨jl,J,aa⟩:=I.mod.blt;exact Calls.Name_function_global I.ok.kind a4 (Calls.loadGlobal_builtin (by rw[I.ok.glob];exact I.mod.glob.keeps I.mi) hm (by rw[I.ok.blt];exact J.keeps I.mi) ((aa x aB).trans aV) h) hd
def RJ{x:Str}{v:V}{u:Value}{pos:Pos}(a4:et X x)(hm:X.aK x=none)(aV:bootBuiltins x=some u)(r:RelV v u)(aB:x≠"__name__":=by decide)(hd:(x==("__debug__":Str))=false:=by decide):aO X (.Name x pos) (qe v) :=
 λ_ _ _ H _ I h=>jT I a4 hm aV ⟨v,H,I,r,h⟩ aB hd
variable{a b:Expr}{cu cW:TE}{pos:Pos}
noncomputable def qy(X:aU)(op:CmpOp)(a b:Expr)(t:TE):Prop :=
 ∀(pins:List (Addr×Obj))(s:Shared)(σ:St)(H:az)(Q:de),Inv X pins σ H s->t σ H Q ->
  wpAny (model X.prog X.w) X.A (eval a X.env) (λv cS=>wpAny (model X.prog X.w) X.A (eval b X.env) (λu hP=>wpAny (model X.prog X.w) X.A (compareOp op v u) (eJ X pins σ Q) X.cA hP) X.cA cS) X.cA s
noncomputable def Hi(t:TE):TT:=λσ H Q=>t σ H λx H1=>∃c,x=.aT c/\Q c H1
def X5{op:CmpOp}{t:TE}(h:qy X op a b t)(J:behindInMarks op b=false):dH X (.Compare a [op] [b] pos) (Hi t):=by
 intro pins s σ H Q I hw;refine wpAny_isTrue_Compare1 (bO (h pins s σ H _ I hw) λv s1 J=>bO J λu s2 aa=>bO aa λc s3 ⟨x,H1,bb,aH,aP⟩=>?_) J;obtain⟨d,rfl,q⟩:=aP;cases aH;exact Zt ⟨H1,bb,q⟩
def SG{e:Expr}{t:TE}(h:aO X e t)(he:∀whole,isTrue e X.env whole=(do let v <- whole;standAt e.pos;holding [v] (truthy v)):=by intro _;rfl):dH X e (Hi t):=by
 intro pins s σ H Q I hw;refine isTrue_plain (bO (h pins s σ H _ I hw) λv s1 ⟨x,H1,bb,aH,aP⟩=>?_) (he _);obtain⟨d,rfl,q⟩:=aP;cases aH;exact Zt ⟨H1,bb,q⟩
variable{jq u5:TT}{rest:List Expr}
noncomputable def Vi(t u:TT):TT:=λσ H Q=>t σ H λc H1=>if c=true then u σ H1 Q else Q false H1
noncomputable def VA(t u:TT):TT:=λσ H Q=>t σ H λc H1=>if c=true then Q true H1 else u σ H1 Q
noncomputable def Vy(t:TT):TT:=λσ H Q=>t σ H λc H1=>Q (!c) H1
def SI(ax:dH X a jq):iC X (.BoolOp .And [a] pos) jq:=by
 intro l0 pins s σ H Q I h;refine isTrue_and (bO (ax pins s σ H Q I h) λc s1 e=>?_);cases c with
 |true=>exact isTrue_and_nil e
 |false=>exact e
def SK(ax:dH X a jq):iC X (.BoolOp .Or [a] pos) jq:=by
 intro l0 pins s σ H Q I h;refine isTrue_or (bO (ax pins s σ H Q I h) λc s1 e=>?_);cases c with
 |false=>exact isTrue_or_nil e
 |true=>exact e
def SH(ax:dH X a jq)(ae:iC X (.BoolOp .And (b::rest) pos) u5):iC X (.BoolOp .And (a::b::rest) pos) (Vi jq u5):=by
 intro l0 pins s σ H Q I h;refine isTrue_and (bO (ax pins s σ H _ I h) λc s1 ⟨H1,bb,aP⟩=>?_);cases c with
 |true=>exact ae l0 pins s1 σ H1 Q bb aP
 |false=>exact⟨H1,bb,aP⟩
def SJ(ax:dH X a jq)(ae:iC X (.BoolOp .Or (b::rest) pos) u5):iC X (.BoolOp .Or (a::b::rest) pos) (VA jq u5):=by
 intro l0 pins s σ H Q I h;refine isTrue_or (bO (ax pins s σ H _ I h) λc s1 ⟨H1,bb,aP⟩=>?_);cases c with
 |true=>exact⟨H1,bb,aP⟩
 |false=>exact ae l0 pins s1 σ H1 Q bb aP
def SF(ax:dH X a jq):dH X (.UnaryOp .Not a pos) (Vy jq):=by
 intro pins s σ H Q I h;exact isTrue_not (ax pins s σ H (λc H1=>Q (!c) H1) I h)
noncomputable def Vj(cu cW:TE):TE:=λσ H Q=>cu σ H λx H1=>∃c,x=.aT c/\if c=true then cW σ H1 Q else Q (.aT false) H1
noncomputable def VB(cu cW:TE):TE:=λσ H Q=>cu σ H λx H1=>∃c,x=.aT c/\if c=true then Q (.aT true) H1 else cW σ H1 Q
noncomputable def Vz(cu:TE):TE:=λσ H Q=>cu σ H λx H1=>∃c,x=.aT c/\Q (.aT (!c)) H1
def FE{op}{t:TE}(h:aO X a t):aO X (.BoolOp op [a] pos) t:=λpins s σ H Q I hw=>BoolOp_one (h pins s σ H Q I hw)
def RH(ax:aO X a cu)(ae:aO X (.BoolOp .And (b::rest) pos) cW):aO X (.BoolOp .And (a::b::rest) pos) (Vj cu cW):=by
 intro pins s σ H Q I h;refine BoolOp_and (bO (ax pins s σ H _ I h) λv s1 ⟨x,H1,bb,aH,aP⟩=>?_);obtain⟨c,rfl,aP⟩:=aP;cases aH;refine Zt ?_;cases c with
 |true=>exact ae pins s1 σ H1 Q bb aP
 |false=>exact⟨.aT false,H1,bb,rfl,aP⟩
def RX(ax:aO X a cu)(ae:aO X (.BoolOp .Or (b::rest) pos) cW):aO X (.BoolOp .Or (a::b::rest) pos) (VB cu cW):=by
 intro pins s σ H Q I h;refine BoolOp_or (bO (ax pins s σ H _ I h) λv s1 ⟨x,H1,bb,aH,aP⟩=>?_);obtain⟨c,rfl,aP⟩:=aP;cases aH;refine Zt ?_;cases c with
 |false=>exact ae pins s1 σ H1 Q bb aP
 |true=>exact⟨.aT true,H1,bb,rfl,aP⟩
def RW(ax:aO X a cu):aO X (.UnaryOp .Not a pos) (Vz cu):=by
 intro pins s σ H Q I h;refine UnaryOp_ (bO (ax pins s σ H _ I h) λv s1 ⟨x,H1,bb,aH,aP⟩=>?_);obtain⟨c,rfl,aP⟩:=aP;cases aH;exact not_of (Zt ⟨.aT (!c),H1,bb,rfl,aP⟩)
noncomputable def u9(t:TT)(cu cW:TE):TE:=λσ H Q=>t σ H λc H1=>if c=true then cu σ H1 Q else cW σ H1 Q
def RS{c:Expr}(aj:dH X c jq)(ax:aO X a cu)(ae:aO X b cW):aO X (.IfExp c a b pos) (u9 jq cu cW):=by
 intro pins s σ H Q I h;refine wpAny_IfExp (bO (aj pins s σ H _ I h) λd s1 ⟨H1,bb,aP⟩=>?_);cases d with
 |true=>exact ax pins s1 σ H1 Q bb aP
 |false=>exact ae pins s1 σ H1 Q bb aP
end
end bJ
namespace bJ
open PySem PySem.Spec PyProof.Rows
noncomputable def eF(K:W.Frag)(H:az)(a:Addr)(xs:List V):Prop :=
 g0 H a (.lst xs) \/
  ∃(o:Obj)(its:Array Value)(n:Nat),K.lookup a=some o/\o.cls=.type "list"/\o.dict=none/\o.data=.seq its n/\its.size<=sizeLine/\Vals xs its.toList
noncomputable def fR(K:W.Frag)(H:az)(a:Addr)(xs:List V):Prop :=
 g0 H a (.tup xs) \/
  ∃(o:Obj)(its:Array Value)(n:Nat),K.lookup a=some o/\o.cls=.type "tuple"/\o.data=.seq its n/\its.size<=sizeLine/\Vals xs its.toList
noncomputable def Ip:Value->Option V
 |.none=>some .dr
 |.bool b=>some (.aT b)
 |.int i _=>some (.int i)
 |.str x _=>some (.str x)
 |.bytes b _=>some (.wZ b)
 |.float b _=>some (.iG b)
 |.ref a=>some (.ref a)
 |.type n=>some (.ty n)
 |_=>none
def RelV.abs{x:V}{u:Value}(r:RelV x u):Ip u=some x:=by
 cases x with
 |dr=>cases r;rfl
 |aT _=>cases r;rfl
 |int _=>obtain⟨t,rfl⟩:=r;rfl
 |str _=>obtain⟨t,rfl⟩:=r;rfl
 |wZ _=>obtain⟨t,rfl⟩:=r;rfl
 |iG _=>obtain⟨t,rfl⟩:=r;rfl
 |ref _=>cases r;rfl
 |ty _=>cases r;rfl
def RelV.inj{x y:V}{u:Value}(r:RelV x u)(q:RelV y u):x=y:=YZ (r.abs.symm.trans q.abs)
theorem Vals.inj:∀{xs ys:List V}{us:List Value},Vals xs us->Vals ys us->xs=ys
 |_,_,_,.nil,.nil=>rfl
 |_,_,_,.cons r t,.cons bW t'=>by rw[r.inj bW,Vals.inj t t']
section
variable{X:aU}{pins:List (Addr×Obj)}{σ:St}{H:az}{s:Shared}{a:Addr}{xs ys:List V}
def eF.of{K:W.Frag}(h:H a=some (.lst xs)):eF K H a xs:=.inl (.inl h)
def Inv.list(I:Inv X pins σ H s)(h:eF X.K H a xs):∃its:List Value,Vals xs its/\PlainL s.heap a its.toArray/\xs.length<=sizeLine:=by
 rcases h with h|⟨o,its,n,au,aj,hd,ab,hz,r⟩
 .obtain⟨z,its,n,r,e⟩:=h.ok I.bM;exact⟨its,r,⟨_,n,e,rfl,rfl,rfl⟩,z⟩
 .refine⟨its.toList,r,⟨o,n,I.f6 a o au,aj,hd,by simpa using ab⟩,?_⟩;have e:=r.length;simp only[Array.length_toList]at e;omega
def Inv.tuple(I:Inv X pins σ H s)(h:fR X.K H a xs):∃its:List Value,Vals xs its/\IsTup s.heap a its.toArray/\xs.length<=sizeLine:=by
 rcases h with h|⟨o,its,n,au,aj,ab,hz,r⟩
 .obtain⟨z,its,r,p⟩:=h.ok I.bM;exact⟨its,r,p,z⟩
 .refine⟨its.toList,r,⟨o,I.f6 a o au,aj,n,by simpa using ab⟩,?_⟩;have e:=r.length;simp only[Array.length_toList]at e;omega
def Inv.Qn(I:Inv X pins σ H s)(h:eF X.K H a xs)(h':eF X.K H a ys):xs=ys:=by
 obtain⟨its,r,⟨o,n,e,_,_,d⟩,_⟩:=I.list h;obtain⟨its',bW,⟨bH,cG,bq,_,_,d'⟩,_⟩:=I.list h';rw[e]at bq;cases bq;rw[d]at d';injection d' with cz _;have:its=its':=by simpa using Zr Array.toList cz
 subst this;exact r.inj bW
def Inv.Wk(I:Inv X pins σ H s)(h:fR X.K H a xs)(h':fR X.K H a ys):xs=ys:=by
 obtain⟨its,r,⟨o,e,_,n,d⟩,_⟩:=I.tuple h;obtain⟨its',bW,⟨bH,bq,_,cG,d'⟩,_⟩:=I.tuple h';rw[e]at bq;cases bq;rw[d]at d';injection d' with cz _;have:its=its':=by simpa using Zr Array.toList cz
 subst this;exact r.inj bW
end
section
variable{X:aU}{pins:List (Addr×Obj)}{σ:St}{H:az}{s:Shared}{E:Value->Shared->Prop}
end
section
variable{X:aU}{st:Stmt}{rest:List Stmt}{t u:hy}{e:Expr}{eI:TE}{pos:Pos}
noncomputable def Vw:hy:=λD σ H=>D.cg σ H
noncomputable def VD(t u:hy):hy:=λD σ H=>t { D with cg:=u D } σ H
def FY:hx X [] Vw:=λ_ _ σ H _ I h=>wpAny_execs_nil ⟨σ,H,I,h⟩
def FX(J:eu X st t)(aa:hx X rest u):hx X (st::rest) (VD t u):=by
 intro pins s σ H D I h;refine wpAny_execs_cons (bO (J pins s σ H { D with cg:=u D } I h) λf s1 q=>?_);cases f with
 |next =>
  obtain⟨dB,aq,iZ,q⟩:=q;exact aa pins s1 dB aq D iZ q
 |ret v=>exact q
 |brk=>exact q
 |cont=>exact q
def Inv.quiet{pins:List (Addr×Obj)}{σ:St}{H:az}{s:Shared}(I:Inv X pins σ H s):interactive X.env=false:=by simp[interactive,I.ok.kind]
noncomputable def Vq(eI:TE):hy:=λD σ H=>eI σ H λ_ H1=>D.cg σ H1
def FV(he:aO X e eI)(ab:swapsWith e none pos.line X.env=pure false:=by rfl):eu X (.Expr e pos) (Vq eI):=by
 intro pins s σ H D I h;exact wpAny_Expr_any (bO (he pins s σ H _ I h) λv s1 ⟨x,H1,bb,aH,aP⟩=>⟨σ,H1,bb,aP⟩) I.quiet ab
noncomputable def qg(eI:TE):hy:=λD σ H=>eI σ H D.d7
def zl(he:aO X e eI):eu X (.Return (some e) pos) (qg eI):=by
 intro pins s σ H D I h;exact wpAny_Return_some (bO (he pins s σ H _ I h) λv s1 ⟨x,H1,bb,aH,aP⟩=>⟨x,σ,H1,bb,aH,aP⟩)
noncomputable def Vt(c:TT)(t u:hy):hy:=λD σ H=>c σ H λb H1=>if b=true then t D σ H1 else u D σ H1
def SA{c:Expr}{a b:List Stmt}{kP:TT}(aj:dH X c kP)(ax:hx X a t)(ae:hx X b u):eu X (.If c a b pos) (Vt kP t u):=by
 intro pins s σ H D I h;refine wpAny_If (bO (aj pins s σ H _ I h) λd s1 ⟨H1,bb,aP⟩=>?_);cases d with
 |true=>exact ax pins s1 σ H1 D bb aP
 |false=>exact ae pins s1 σ H1 D bb aP
end
noncomputable abbrev kY:=V->St->az->(St->az->Prop)->Prop
noncomputable abbrev md:=List V->St->az->(St->az->Prop)->Prop
noncomputable def iB(X:aU)(target:Expr)(t:kY):Prop :=
 ∀(pins:List (Addr×Obj))(s:Shared)(σ:St)(H:az)(v:V)(u:Value)(Q:St->az->Prop),Inv X pins σ H s->RelV v u->t v σ H Q ->
  wpAny (model X.prog X.w) X.A (assign target X.env u) (λ_ s'=>∃dB aq,Inv X pins dB aq s'/\Q dB aq) X.cA s
noncomputable def qz(X:aU)(ts:List Expr)(t:md):Prop :=
 ∀(pins:List (Addr×Obj))(s:Shared)(σ:St)(H:az)(af:List V)(us:List Value)(Q:St->az->Prop),Inv X pins σ H s->Vals af us->t af σ H Q ->
  wpAny (model X.prog X.w) X.A (assignInOrder ((assignEach ts X.env).map (·.2)) us) (λ_ s'=>∃dB aq,Inv X pins dB aq s'/\Q dB aq) X.cA s
section
variable{X:aU}{pos:Pos}
noncomputable def xI(i:Nat):kY:=λv σ H Q=>Q (σ.set i (some v)) H
def FH{i:Nat}{x:Str}(aS:X.N.Nodup)(hi:X.N[i]?=some x)(ag:Loc X.env.scope x)(hf:X.fn x=true\/X.env.scope.names.lookup x=some .local:=by first|exact .inl rfl|exact .inr rfl|assumption):iB X (.Name x pos) (xI i):=by
 intro pins s σ H v u Q I r h;exact wpAny_assign_Name (zU I aS hi ag r (λs' iZ=>⟨_,H,iZ,h⟩) hf)
noncomputable def CS:md:=λaf σ H Q=>af=[]/\Q σ H
noncomputable def CQ(t:kY)(u:md):md:=λaf σ H Q=>∃v r,af=v::r/\t v σ H λdB aq=>u r dB aq Q
def Sg:qz X [] CS:=by
 intro pins s σ H af us Q I r h;obtain⟨e,h⟩:=h;subst e;cases r;exact assignInOrder_nil ⟨σ,H,I,h⟩
def Sf{e:Expr}{ah:List Expr}{t:kY}{u:md}(J:iB X e t)(aa:qz X ah u)(ab:(assignEach (e::ah) X.env).map (·.2)=assign e X.env::(assignEach ah X.env).map (·.2):=by rfl):qz X (e::ah) (CQ t u):=by
 intro pins s σ H af us Q I r h;obtain⟨v,Ya,ai,h⟩:=h;subst ai;cases r with
 |cons r gU =>
  rw[ab];refine assignInOrder_cons (bO (J pins s σ H _ _ _ I r h) λ_ s1 ⟨Xc,H1,bb,aP⟩=>?_);exact aa pins s1 Xc H1 _ _ Q bb gU aP
noncomputable def MZ(K:W.Frag)(n:Nat)(t:md):kY:=λv σ H Q=>∃a xs,v=.ref a/\fR K H a xs/\xs.length=n/\t xs σ H Q
def Se{ah:List Expr}{k:Nat}{t:md}{n:Nat}(aj:X.calm=true)(h:qz X ah t)(aB:(assignEach ah X.env).length=n:=by rfl)(cJ:(assignEach ah X.env).findIdx? (·.1)=none:=by rfl):iB X (.Tuple ah k pos) (MZ X.K n t):=by
 intro pins s σ H v u Q I r hw;obtain⟨a,xs,ai,aJ,aw,hw⟩:=hw;subst ai;cases r;obtain⟨its,cb,aW,hz⟩:=I.tuple aJ;refine assign_Tuple_tuple (I.ok.hd aj) aW (by simp[aB,<- aw,cb.length]) cJ λh' ag=>?_
 have bb:Inv X pins σ H { s with heap:=h' }:=I.kept (t':=s.toks) λb o e=>ag b o (YH (Yu e)) e
 exact h pins _ σ H xs _ Q bb (by simpa using cb) hw
noncomputable def m6(eI:TE)(g:kY):hy:=λD σ H=>eI σ H λx H1=>g x σ H1 D.cg
def r7{i:Nat}{x:Str}{e:Expr}{eI:TE}{pos':Pos}(aS:X.N.Nodup)(hi:X.N[i]?=some x)(ag:Loc X.env.scope x)(he:aO X e eI)(ab:swapsWith e (some (.Name x pos')) pos.line X.env=pure false:=by rfl)(hf:X.fn x=true\/X.env.scope.names.lookup x=some .local:=by first|exact .inl rfl|exact .inr rfl|assumption):
  eu X (.Assign [.Name x pos'] e pos) (m6 eI (xI i)):=by
 intro pins s σ H D I h;refine wpAny_Assign_Name (bO (he pins s σ H _ I h) λv s1 ⟨y,H1,bb,aH,aP⟩=>?_) ab;exact zU bb aS hi ag aH (λs2 cM=>⟨_,H1,cM,aP⟩) hf
end
section
variable{X:aU}{pos:Pos}
end
structure jw where
 go:Nat->az->Prop
 j5:Nat->az->V->az->Prop
 stop:Nat->az->Prop
noncomputable def kb(X:aU)(pins:List (Addr×Obj))(H:az)(b:Addr):Prop :=
 H b=none/\b≠X.env.locals/\b∉X.bL/\(b∈X.ex\/X.fq.heap.objs.size<=b)/\(∀x c,X.env.cells.lookup x=some c->c≠b)/\∀p∈X.fX++pins,p.1≠b
def Inv.q9{X:aU}{pins:List (Addr×Obj)}{σ:St}{H aq:az}{s:Shared}{b:Addr}(I:Inv X pins σ H s)(ae:s.heap.objs.size<=b)(aB:aq b=none):kb X pins aq b:=by
 refine⟨aB,Nat.ne_of_gt (YC I.lt ae),I.Q8 ae,.inr (Zk I.eH ae),λx c e z=>?_,λp aE z=>?_⟩
 .obtain⟨v,q⟩:=I.cell x c e;exact absurd (YC q.lt (by rw[z];exact ae)) (ZV _)
 .exact absurd (YC (Yu (I.pin p aE).1) (by rw[z];exact ae)) (ZV _)
structure Turn(P:Program)(w:World)(K:W.Frag)(dh:Expr)(cy:jw)(bB:List Addr)(it:Addr)(gV:Nat->Heap->Prop):Prop where
 mem:it∈bB
 obj:∀i h,gV i h->∀b∈bB,∃o,h.get? b=some o/\∀v,o.data≠.cell v
 keep:∀i h h',gV i h->(∀b∈bB,∀o,h.get? b=some o->h'.get? b=some o)->gV i h'
 item:∀(X:aU),X.prog=P->X.w=w->X.K=K->X.calm=true->∀(i:Nat)(pins:List (Addr×Obj))(s:Shared)(σ:St)(H:az)(E:Value->Shared->Prop),Inv X pins σ H s->(∀b∈bB,kb X pins H b)->gV i s.heap->cy.go i H ->
  wpAny (model P w) X.A (pyNext (.ref it)) (λr s1=>∃u,r=some u /\
   wpAny (model P w) X.A (letOwnedTupleGo dh (.ref it) u) (λ_ s2=>∃x aq,Inv X pins σ aq s2/\RelV x u/\cy.j5 i H x aq/\gV (i+1) s2.heap/\∀b∈bB,aq b=none) E s1) E s
 done:∀(X:aU),X.prog=P->X.w=w->X.K=K->X.calm=true->∀(i:Nat)(pins:List (Addr×Obj))(s:Shared)(σ:St)(H:az)(E:Value->Shared->Prop),Inv X pins σ H s->(∀b∈bB,kb X pins H b)->gV i s.heap->cy.stop i H ->
  wpAny (model P w) X.A (pyNext (.ref it)) (λr s1=>r=none/\Inv X pins σ H s1) E s
 self:∀(A:Around)(i:Nat)(s:Shared)(Q:Value->Shared->Prop)(E:Value->Shared->Prop),gV i s.heap->Q (.ref it) s->wpAny (model P w) A (pyIter (.ref it)) Q E s
noncomputable abbrev TI:=St->az->(jw->az->Prop)->Prop
noncomputable def vQ(X:aU)(pins:List (Addr×Obj))(σ:St)(dh:Expr)(R:jw->az->Prop)(yG:Value)(s2:Shared):Prop :=
 ∃(it:Addr)(bB:List Addr)(gV:Nat->Heap->Prop)(cy:jw)(aq:az),yG=.ref it/\Inv X pins σ aq s2/\Turn X.prog X.w X.K dh cy bB it gV/\gV 0 s2.heap/\(∀b∈bB,kb X pins aq b)/\R cy aq
noncomputable def gZ(X:aU)(dh iter:Expr)(qk:TI):Prop :=
 ∀(pins:List (Addr×Obj))(s:Shared)(σ:St)(H:az)(R:jw->az->Prop),Inv X pins σ H s->qk σ H R ->
  wpAny (model X.prog X.w) X.A (eval iter X.env) (λv s1=>wpAny (model X.prog X.w) X.A (pyIter v) (vQ X pins σ dh R) X.cA s1) X.cA s
def tB {M : Model} {A : Around} {E : Value -> Shared -> Prop} {s : Shared} {dh : Expr} {it : Addr} {u : Value} {o : Obj} {n : String} {af : Array Value} {Q : Unit -> Shared -> Prop} (ay : s.heap.get? it = some o) (aj : o.cls = .type n) (hd : o.data = .fields af)
    (aB : ["enumerate", "zip", "dict_itemiterator", "dict_reverseitemiterator", "odict_iterator", "itertools.zip_longest", "itertools.pairwise"].contains n = false) (eo : Q () s) : wpAny M A (letOwnedTupleGo dh (.ref it) u) Q E s := by
  unfold letOwnedTupleGo
  cases dh <;> first
    | exact wpAny_pure eo
    | (cases u <;> first
        | exact wpAny_pure eo
        | (refine Yf (wpAny_load ay ?_)
           rw [aj, hd]
           show wpAny M A (if (["enumerate", "zip", "dict_itemiterator", "dict_reverseitemiterator", "odict_iterator", "itertools.zip_longest", "itertools.pairwise"].contains n && af[0]? == some (rawInt _)) = true then _ else _) Q E s
           rw [if_neg (by intro h; rw [aB, abB] at h; cases h)]
           exact wpAny_pure eo))
noncomputable def vG(K:W.Frag)(a:Addr):jw :=
 ⟨λi H=>∃xs x,eF K H a xs/\xs[i]?=some x,λi H x aq=>aq=H/\∀xs,eF K H a xs->xs[i]?=some x,λi H=>∃xs,eF K H a xs/\xs.length<=i⟩
noncomputable def vH(K:W.Frag)(a:Addr):jw :=
 ⟨λi H=>∃xs x,fR K H a xs/\xs[i]?=some x,λi H x aq=>aq=H/\∀xs,fR K H a xs->xs[i]?=some x,λi H=>∃xs,fR K H a xs/\xs.length<=i⟩
noncomputable def oJ(lo:Int)(n:Nat):jw:=⟨λi _=>i<n,λi H x aq=>aq=H/\x=.int (lo+i),λi _=>n<=i⟩
def Wr{P:Program}{w:World}{K:W.Frag}{dh:Expr}(a it:Addr):Turn P w K dh (vG K a) [it] it (λi h=>h.IsListIter it a i) where
 mem:=by simp
 obj:=λi h st b ae=>by
  have e:b=it:=(by simpa using ae);subst e;obtain⟨o,e,c,d⟩:=st;exact⟨o,e,λv z=>by rw[d]at z;cases z⟩
 keep:=λi h h' st k=>st.at λo e=>k it (by simp) o e
 item:=by
  intro X es hw g9 aj i pins s σ H E I hf st a4;subst es hw g9;obtain⟨xs,x,aJ,ag⟩:=a4;obtain⟨its,cb,p,hz⟩:=I.list aJ;obtain⟨u,bz,c4⟩:=cb.get ag;obtain⟨f0,f1,f2,fi,f4,fj⟩:=hf it (by simp);refine wpAny_pyNext_list_item st p.isList (x:=u) (by simpa using bz) λh' aM cK=>?_
  have bb:Inv X pins σ H { s with heap:=h' }:=I.turned (t':=s.toks) (λb o ae e=>(cK.2 b ae).trans e) f0 f1 fi f4 fj;obtain⟨o,e,c,d⟩:=id aM;exact⟨u,rfl,tB (s:={ s with heap:=h' }) e c d (by decide) ⟨x,H,bb,c4,⟨rfl,λys aD=>by rw[I.Qn aD aJ];exact ag⟩,aM,λb ae=>(hf b ae).1⟩⟩
 done:=by
  intro X es hw g9 aj i pins s σ H E I hf st a4;subst es hw g9;obtain⟨xs,aJ,ag⟩:=a4;obtain⟨its,cb,p,hz⟩:=I.list aJ;obtain⟨f0,f1,f2,fi,f4,fj⟩:=hf it (by simp);have aw:=cb.length;exact wpAny_pyNext_list_end (I.ok.hd aj) st p.isList (by simp;omega) λh' ec=>⟨rfl,I.turned (t':=s.toks) (λb o ae e=>ec b o ae e) f0 f1 fi f4 fj⟩
 self:=λ_ _ _ _ _ st h=>wpAny_pyIter_listiter st h
def Wt{P:Program}{w:World}{K:W.Frag}{dh:Expr}(a it:Addr):Turn P w K dh (vH K a) [it] it (λi h=>h.IsTupleIter it a i) where
 mem:=by simp
 obj:=λi h st b ae=>by
  have e:b=it:=(by simpa using ae);subst e;obtain⟨o,e,c,d⟩:=st;exact⟨o,e,λv z=>by rw[d]at z;cases z⟩
 keep:=λi h h' st k=>st.at λo e=>k it (by simp) o e
 item:=by
  intro X es hw g9 aj i pins s σ H E I hf st a4;subst es hw g9;obtain⟨xs,x,aJ,ag⟩:=a4;obtain⟨its,cb,p,hz⟩:=I.tuple aJ;obtain⟨u,bz,c4⟩:=cb.get ag;obtain⟨f0,f1,f2,fi,f4,fj⟩:=hf it (by simp);refine wpAny_pyNext_tuple_item st (show s.heap.IsTuple a its.toArray from p) (x:=u) (by simpa using bz) λh' aM cK=>?_
  have bb:Inv X pins σ H { s with heap:=h' }:=I.turned (t':=s.toks) (λb o ae e=>(cK.2 b ae).trans e) f0 f1 fi f4 fj;obtain⟨o,e,c,d⟩:=id aM;exact⟨u,rfl,tB (s:={ s with heap:=h' }) e c d (by decide) ⟨x,H,bb,c4,⟨rfl,λys aD=>by rw[I.Wk aD aJ];exact ag⟩,aM,λb ae=>(hf b ae).1⟩⟩
 done:=by
  intro X es hw g9 aj i pins s σ H E I hf st a4;subst es hw g9;obtain⟨xs,aJ,ag⟩:=a4;obtain⟨its,cb,p,hz⟩:=I.tuple aJ;obtain⟨f0,f1,f2,fi,f4,fj⟩:=hf it (by simp);have aw:=cb.length;exact wpAny_pyNext_tuple_end (I.ok.hd aj) st (show s.heap.IsTuple a its.toArray from p) (by simp;omega) λh' ec=>⟨rfl,I.turned (t':=s.toks) (λb o ae e=>ec b o ae e) f0 f1 fi f4 fj⟩
 self:=λ_ _ _ _ _ st h=>wpAny_pyIter_tupleiter st h
def Ws{P:Program}{w:World}{K:W.Frag}{dh:Expr}(it:Addr)(lo:Int)(n:Nat):Turn P w K dh (oJ lo n) [it] it (λi h=>IsRangeIter h it (lo+(i:Nat)*1) ((n:Int)-(i:Nat)) 1) where
 mem:=by simp
 obj:=λi h st b ae=>by
  have e:b=it:=(by simpa using ae);subst e;exact⟨_,st,λv z=>by
   have gd:Data.fields _=Data.cell v:=z;cases gd⟩
 keep:=λi h h' st k=>k it (by simp) _ st
 item:=by
  intro X es hw g9 aj i pins s σ H E I hf st a4;subst es hw g9;obtain⟨f0,f1,f2,fi,f4,fj⟩:=hf it (by simp);have W:=Walks.range (prog:=X.prog) (w:=X.w) (I.ok.hd aj) it lo 1 n;refine W.item i s _ _ a4 st λv h' tk aV aM ei=>?_
  obtain⟨t,rfl⟩:=aV;have bb:Inv X pins σ H { s with heap:=h',toks:=tk }:=I.turned (λb o ae e=>ei b o (by simpa using ae) e) f0 f1 fi f4 fj;refine⟨_,rfl,tB (s:={ s with heap:=h',toks:=tk }) (n:="range_iterator") aM rfl rfl (by decide) ⟨.int (lo+i),H,bb,⟨t,?_⟩,⟨rfl,rfl⟩,aM,λb ae=>(hf b ae).1⟩⟩;rw[Int.mul_one]
 done:=by
  intro X es hw g9 aj i pins s σ H E I hf st a4;subst es hw g9;obtain⟨f0,f1,f2,fi,f4,fj⟩:=hf it (by simp);exact wpAny_pyNext_range_end (I.ok.hd aj) st (by have:n<=i:=a4;omega) λh' ec=>⟨rfl,I.turned (t':=s.toks) (λb o ae e=>ec b o ae e) f0 f1 fi f4 fj⟩
 self:=λ_ _ _ _ _ st h=>wpAny_pyIter_rangeiter st h
end bJ
namespace bJ
open PySem PySem.Spec PyProof.Rows
section
variable{X:aU}{dh:Expr}
def F6{pins:List (Addr×Obj)}{σ:St}{H:az}{s:Shared}{R:jw->az->Prop}{E:Value->Shared->Prop}{lo hi:Int}{t u v:Tok}{tk:Nat}(I:Inv X pins σ H s)(J:-(2 ^ 62)<=lo)(aa:lo<2 ^ 62)(aI:-(2 ^ 62)<=hi)(aX:hi<2 ^ 62)(q:R (oJ lo (hi-lo).toNat) H):wpAny (model X.prog X.w) X.A (pyIter (.ref s.heap.objs.size)) (vQ X pins σ dh R) E { s with heap:=s.heap.push { cls:=.type "range",data:=.fields #[.int lo t,.int hi u,.int 1 v] },toks:=tk }:=by
 refine wpAny_pyIter_range (IsRange.new ..) (small_one J aa aI aX) ?_;have bb:Inv X pins σ H { s with heap:=s.heap.push { cls:=.type "range",data:=.fields #[.int lo t,.int hi u,.int 1 v] },toks:=tk }:=I.kept λb o e=>Yh _ e
 refine⟨(s.heap.push { cls:=.type "range",data:=.fields #[.int lo t,.int hi u,.int 1 v] }).objs.size,[(s.heap.push { cls:=.type "range",data:=.fields #[.int lo t,.int hi u,.int 1 v] }).objs.size],_,_,H,rfl,
  bb.kept (t':=tk) λb o e=>Yh _ e,Ws _ lo (hi-lo).toNat,?_,λb ae=>?_,q⟩
 .have ai:lo+((0:Nat):Int)*1=lo:=(by simp);have av:(((hi-lo).toNat:Nat):Int)-((0:Nat):Int)=Builtin.Range.rangeSize lo hi 1:=(by rw[rangeSize_one];split<;>omega);show IsRangeIter _ _ (lo+((0:Nat):Int)*1) ((((hi-lo).toNat:Nat):Int)-((0:Nat):Int)) 1;rw[ai,av];exact Yx _ rfl
 .have e:b=(s.heap.push { cls:=.type "range",data:=.fields #[.int lo t,.int hi u,.int 1 v] }).objs.size:=(by simpa using ae);subst e;exact bb.q9 (Yi _) (bb.bM.fresh (Yi _))
noncomputable def O5(cu:fS):TI:=λσ H R=>cu σ H λaf H1=>∃j:Int,af=[.int j]/\-(2 ^ 62)<=j/\j<2 ^ 62/\R (oJ 0 j.toNat) H1
noncomputable def O6(cu:fS):TI:=λσ H R=>cu σ H λaf H1=>∃i j:Int,af=[.int i,.int j]/\(-(2 ^ 62)<=i/\i<2 ^ 62/\-(2 ^ 62)<=j/\j<2 ^ 62)/\R (oJ i (j-i).toNat) H1
def Sh{a:Expr}{cu:fS}{p pos:Pos}(a4:et X "range")(hm:X.aK "range"=none)(ax:fQ X [a] cu)(ab:starEach [a] X.env=[(false,eval a X.env)]:=by rfl):gZ X dh (.Call (.Name "range" p) [a] [] pos) (O5 cu):=by
 intro pins s σ H R I h;refine Call_ (jT I a4 hm boot_range (Y7 (bO (ax pos pins s σ H _ I h) λus s1 ⟨af,H1,bb,aH,aP⟩=>?_) ab rfl));obtain⟨j,e,aP,a9,q⟩:=aP;subst e;cases aH with
 |cons r gU =>
  cases gU;obtain⟨t,rfl⟩:=r;exact call_range_1 (F6 bb (by omega) (by omega) aP a9 (by simpa using q))
def Si{a b:Expr}{cu:fS}{p pos:Pos}(a4:et X "range")(hm:X.aK "range"=none)(ax:fQ X [a,b] cu)(ab:starEach [a,b] X.env=[(false,eval a X.env),(false,eval b X.env)]:=by rfl)(rt:starEach [b] X.env=[(false,eval b X.env)]:=by rfl):
  gZ X dh (.Call (.Name "range" p) [a,b] [] pos) (O6 cu):=by
 intro pins s σ H R I h;refine Call_ (jT I a4 hm boot_range (Y7 (bO (ax pos pins s σ H _ I h) λus s1 ⟨af,H1,bb,aH,aP⟩=>?_) (by rw[ab,rt]) (by rw[rt];rfl)));obtain⟨i,j,e,⟨aP,a9,b4,dg⟩,q⟩:=aP;subst e;cases aH with
 |cons r gU =>
  cases gU with
  |cons bW gU =>
   cases gU;obtain⟨t,rfl⟩:=r;obtain⟨t',rfl⟩:=bW;exact call_range_2 (F6 bb aP a9 b4 dg q)
noncomputable def u7(qk:TI)(g:kY)(cW:hy):hy:=λD σ H=>qk σ H λcy H1=>∃W:Nat->Nat->St->az->Prop,(∃m,W 0 m σ H1)/\∀i m σ H,W i m σ H ->
 (cy.stop i H/\D.cg σ H)\/(cy.go i H/\∃N:St->az->Prop,(∀dB aq,N dB aq->∃dw,dw<m/\W (i+1) dw dB aq)/\∀x aq,cy.j5 i H x aq->g x σ aq λoG aY=>cW { D with cg:=N,ct:=N,mi:=D.cg } oG aY)
noncomputable def uK(bB:List Addr)(h:Heap):List (Addr×Obj):=bB.filterMap λb=>(h.get? b).map λo=>(b,o)
def pM{bB:List Addr}{h:Heap}{b:Addr}{o:Obj}(ae:b∈bB)(e:h.get? b=some o):(b,o)∈uK bB h:=aaT.mpr ⟨b,ae,by rw[e];rfl⟩
def Rj{bB:List Addr}{h:Heap}{p:Addr×Obj}(aE:p∈uK bB h):p.1∈bB/\h.get? p.1=some p.2:=by
 obtain⟨b,ae,e⟩:=aaT.mp aE;cases q:h.get? b with
 |none=>rw[q]at e;cases e
 |some o =>
  rw[q]at e;have bq:(b,o)=p:=YZ e;subst bq;exact⟨ae,q⟩
def Inv.pinned{pins:List (Addr×Obj)}{σ:St}{H:az}{s:Shared}{bB:List Addr}(I:Inv X pins σ H s)(hf:∀b∈bB,kb X pins H b)(ay:∀b∈bB,∃o,s.heap.get? b=some o/\∀v,o.data≠.cell v):Inv X (pins++uK bB s.heap) σ H s :=
 I.zh λp aE=>(Yq.mp aE).elim (λz=>I.pin p (Yw _ z)) λz=>by
  obtain⟨ae,e⟩:=Rj z;obtain⟨f0,f1,f2,_⟩:=hf p.1 ae;obtain⟨o,bq,d⟩:=ay p.1 ae;rw[e]at bq;cases bq;exact⟨e,f0,f1,f2,d⟩
def Inv.qi{pins c7:List (Addr×Obj)}{σ:St}{H:az}{s:Shared}(I:Inv X (pins++c7) σ H s):Inv X pins σ H s:=I.zh λp aE=>I.pin p (Yw _ (List.mem_append_left _ aE))
def FW{iter:Expr}{body:List Stmt}{qk:TI}{g:kY}{cW:hy}{pos:Pos}(aE:PassesOwn (model X.prog X.w) X.A X.env X.cA)(aj:X.calm=true)(hi:gZ X dh iter qk)(a4:iB X dh g)(ae:hx X body cW)(ab:∀x,foldedSetIterable iter X.env x=pure x:=by intro _;rfl):eu X (.For dh iter body [] pos) (u7 qk g cW):=by
 intro pins s σ H D I h;refine wpAny_For (bO (hi pins s σ H _ I h) λv s1 J=>bO J λyG s2 aa=>?_) ab;obtain⟨it,bB,gV,cy,aY,e,cM,T,eD,f2,W,⟨m0,WR⟩,turn⟩:=aa;subst e;have zS:∀{aq:az},(∀b∈bB,aq b=none)->∀b∈bB,kb X pins aq b:=λaB b ae=>⟨aB b ae,(f2 b ae).2⟩
 refine codeAny_forLoop_any (λn s'=>∃i dB aq,Inv X pins dB aq s'/\gV i s'.heap/\(∀b∈bB,aq b=none)/\W i n dB aq) ?_ m0 ⟨0,σ,aY,cM,eD,λb ae=>(f2 b ae).1,WR⟩;rintro n s3 ⟨i,qn,b6,eV,gG,CN,WS⟩;rcases turn i n qn b6 WS with⟨stop,SO⟩|⟨go,N,aS,step⟩
 .refine aaR aE (bO (T.done X rfl rfl rfl aj i pins s3 qn b6 X.cA eV (zS CN) gG stop) λr s4 ⟨a7,fP⟩=>?_);subst a7;exact wpAny_execs_nil ⟨qn,b6,fP,SO⟩
 .refine aaR aE (bO (T.item X rfl rfl rfl aj i pins s3 qn b6 X.cA eV (zS CN) gG go) λr s4 ⟨u,a7,aX⟩=>?_);subst a7;refine aaR aE (bO aX λ_ s5 ⟨x,l8,l9,f9,Av,lV,xG⟩=>?_);have vD:=l9.pinned (zS xG) (T.obj _ _ lV);refine aaR aE (bO (a4 _ s5 qn l8 x u _ vD f9 (step x l8 Av)) λ_ Gw ⟨vw,ng,vE,m1⟩=>?_);refine aaR aE (bO (ae _ Gw vw ng _ vE m1) λf sh kH=>?_);have again:∀{j8:St}{hs:az},Inv X (pins++uK bB s5.heap) j8 hs sh->N j8 hs->∃m,m<n/\∃i dB aq,Inv X pins dB aq sh/\gV i sh.heap/\(∀b∈bB,aq b=none)/\W i m dB aq:=λ{j8 hs} ht rW=>by
   obtain⟨dw,hm,WT⟩:=aS j8 hs rW;refine⟨dw,hm,i+1,j8,hs,ht.qi,T.keep _ _ _ lV λb ae o e=>(ht.pin (b,o) (Yw _ (Yw _ (pM ae e)))).1,λb ae=>?_,WT⟩;obtain⟨o,e,d⟩:=T.obj _ _ lV b ae;exact(ht.pin (b,o) (Yw _ (Yw _ (pM ae e)))).2.1
  cases f with
  |next=>obtain⟨j8,hs,ht,rW⟩:=kH;exact again ht rW
  |cont=>obtain⟨j8,hs,ht,rW⟩:=kH;exact again ht rW
  |brk=>obtain⟨j8,hs,ht,kH⟩:=kH;exact⟨j8,hs,ht.qi,kH⟩
  |ret v=>obtain⟨nc,j8,hs,ht,zo,kH⟩:=kH;exact⟨nc,j8,hs,ht.qi,zo,kH⟩
end
end bJ
namespace bJ
open PySem PySem.Spec PyProof.Rows
noncomputable abbrev ft:=V->V->az->de->Prop
noncomputable def dj(X:aU)(f:Value->Value->Sem Value)(r:ft):Prop :=
 ∀(pins:List (Addr×Obj))(s:Shared)(σ:St)(H:az)(x y:V)(v u:Value)(Q:de),Inv X pins σ H s->RelV x v->RelV y u->r x y H Q ->
  wpAny (model X.prog X.w) X.A (f v u) (eJ X pins σ Q) X.cA s
noncomputable def vV(X:aU)(f:Value->Sem Value)(r:V->az->de->Prop):Prop :=
 ∀(pins:List (Addr×Obj))(s:Shared)(σ:St)(H:az)(x:V)(v:Value)(Q:de),Inv X pins σ H s->RelV x v->r x H Q ->
  wpAny (model X.prog X.w) X.A (f v) (eJ X pins σ Q) X.cA s
noncomputable def gX(X:aU)(f:Value)(r:List V->az->de->Prop):Prop :=
 ∀(pins:List (Addr×Obj))(s:Shared)(σ:St)(H:az)(xs:List V)(us:List Value)(Q:de),Inv X pins σ H s->Vals xs us->r xs H Q ->
  wpAny (model X.prog X.w) X.A (call f us) (eJ X pins σ Q) X.cA s
noncomputable def so(r:ft)(cu cW:TE):TE:=λσ H Q=>cu σ H λx H1=>cW σ H1 λy aY=>r x y aY Q
noncomputable def VG(r:V->az->de->Prop)(cu:TE):TE:=λσ H Q=>cu σ H λx H1=>r x H1 Q
noncomputable def sa(bG:Int->Int->Prop)(g:Int->Int->V):ft:=λx y H Q=>∃i j,x=.int i/\y=.int j/\bG i j/\Q (g i j) H
noncomputable def kJ(g:Int->Int->V):ft:=λx y H Q=>∃i j,x=.int i/\y=.int j/\Q (g i j) H
noncomputable def F4(g:Int->V):V->az->de->Prop:=λx H Q=>∃i,x=.int i/\Q (g i) H
section
variable{X:aU}{a b c:Expr}{cu cW kP:TE}{pos:Pos}
def wX(ax:aO X a cu)(ae:aO X b cW){pins:List (Addr×Obj)}{s:Shared}{σ:St}{H:az}{R:V->V->az->Prop}(I:Inv X pins σ H s)(h:cu σ H λx H1=>cW σ H1 λy aY=>R x y aY){Q:Value->Shared->Prop}{f:Value->Value->Sem Value}(hf:∀v u s2 x y aY,Inv X pins σ aY s2->RelV x v->RelV y u->R x y aY->wpAny (model X.prog X.w) X.A (f v u) Q X.cA s2):
  wpAny (model X.prog X.w) X.A (eval a X.env) (λv cS=>wpAny (model X.prog X.w) X.A (eval b X.env) (λu hP=>wpAny (model X.prog X.w) X.A (f v u) Q X.cA hP) X.cA cS) X.cA s:=by
 refine bO (ax pins s σ H _ I h) λv s1 ⟨x,H1,bb,aH,aP⟩=>?_
 refine bO (ae pins s1 σ H1 _ bb aP) λu s2 ⟨y,aY,cM,a5,a9⟩=>?_
 exact hf v u s2 x y aY cM aH a5 a9
def FF{op:Operator}{r:ft}(ay:dj X (binaryOp op) r)(ax:aO X a cu)(ae:aO X b cW):aO X (.BinOp a op b pos) (so r cu cW):=by
 intro pins s σ H Q I h;exact wpAny_BinOp (wX ax ae I h λv u s2 x y aY cM bg bI q=>ay pins s2 σ aY x y v u Q cM bg bI q)
def R1{op:UnaryOp}{r:V->az->de->Prop}(ay:vV X (unaryOp op) r)(ax:aO X a cu):aO X (.UnaryOp op a pos) (VG r cu):=by
 intro pins s σ H Q I h;exact UnaryOp_ (bO (ax pins s σ H _ I h) λv s1 ⟨x,H1,bb,aH,aP⟩=>ay pins s1 σ H1 x v Q bb aH aP)
def uC{f:Value->Value->Sem Value}{bG:Int->Int->Prop}{g:Int->Int->Int}(rule:∀(i j:Int)(t u:Tok)(s:Shared)(Q:Value->Shared->Prop)(E:Value->Shared->Prop),bG i j->Q (.int (g i j) s.toks) { s with toks:=s.toks+1 }->wpAny (model X.prog X.w) X.A (f (.int i t) (.int j u)) Q E s):
  dj X f (sa bG λi j=>.int (g i j)):=by
 intro pins s σ H x y v u Q I bg bI h;obtain⟨i,j,rfl,rfl,aj,q⟩:=h;obtain⟨t,rfl⟩:=bg;obtain⟨t',rfl⟩:=bI;exact rule i j t t' s _ _ aj ⟨.int (g i j),H,I.tok _,⟨_,rfl⟩,q⟩
def uD{f:Value->Value->Sem Value}{g:Int->Int->Int}(rule:∀(i j:Int)(t u:Tok)(s:Shared)(Q:Value->Shared->Prop)(E:Value->Shared->Prop),Q (.int (g i j) s.toks) { s with toks:=s.toks+1 }->wpAny (model X.prog X.w) X.A (f (.int i t) (.int j u)) Q E s):
  dj X f (kJ λi j=>.int (g i j)):=by
 intro pins s σ H x y v u Q I bg bI h;obtain⟨i,j,rfl,rfl,q⟩:=h;obtain⟨t,rfl⟩:=bg;obtain⟨t',rfl⟩:=bI;exact rule i j t t' s _ _ ⟨.int (g i j),H,I.tok _,⟨_,rfl⟩,q⟩
def uB{f:Value->Value->Sem Value}{g:Int->Int->Bool}(rule:∀(i j:Int)(t u:Tok)(s:Shared)(Q:Value->Shared->Prop)(E:Value->Shared->Prop),Q (.bool (g i j)) s->wpAny (model X.prog X.w) X.A (f (.int i t) (.int j u)) Q E s):
  dj X f (kJ λi j=>.aT (g i j)):=by
 intro pins s σ H x y v u Q I bg bI h;obtain⟨i,j,rfl,rfl,q⟩:=h;obtain⟨t,rfl⟩:=bg;obtain⟨t',rfl⟩:=bI;exact rule i j t t' s _ _ ⟨.aT (g i j),H,I,rfl,q⟩
noncomputable def H7(i j:Int):Prop:=0<j/\j<1073741824
noncomputable def H9(i j:Int):Prop:=0<=j/\j<=1000000/\i.natAbs<2 ^ 64
noncomputable def vz(i j:Int):Prop:=(-(2 ^ 64)<i/\i<2 ^ 64)\/(-(2 ^ 64)<j/\j<2 ^ 64)
def vz.ok{i j:Int}(h:vz i j):IntMulOk i j:=by
 rcases h with⟨J,aa⟩|⟨J,aa⟩
 .exact .of_left (intBits_le_64 J aa)
 .exact .of_right (intBits_le_64 J aa)
def Fq:dj X (binaryOp .Add) (kJ λi j=>.int (i+j)):=uD λ_ _ _ _ _ _ _ q=>add_int q
def Rw:dj X (binaryOp .Sub) (kJ λi j=>.int (i-j)):=uD λ_ _ _ _ _ _ _ q=>sub_int q
def Ru:dj X (binaryOp .Mult) (sa vz λi j=>.int (i*j)):=uC λ_ _ _ _ _ _ _ aj q=>mul_int q aj.ok
def Rm:dj X (binaryOp .FloorDiv) (sa H7 λi j=>.int (i / j)):=uC λi j _ _ _ _ _ aj q=>by
 have J:(0:Int)<j:=aj.1;have aa:j<1073741824:=aj.2;exact floordiv_int (by omega) (by rw[Int.fdiv_eq_ediv_of_nonneg i (by omega)];exact q) (.inl (PyProof.noPylong_small (by omega)))
def Rt:dj X (binaryOp .Mod) (sa (λ_ j=>0<j) λi j=>.int (i%j)):=uC λi j _ _ _ _ _ aj q=>by
 have J:(0:Int)<j:=aj;exact mod_int' (by omega) (by rw[Int.fmod_eq_emod_of_nonneg i (by omega)];exact q)
def Rv:dj X (binaryOp .LShift) (sa H9 λi j=>.int (i*2 ^ j.toNat)):=uC λ_ _ _ _ _ _ _ aj q=>lshift_int_small aj.1 aj.2.1 aj.2.2 q
def Fs:dj X (binaryOp .BitAnd) (kJ λi j=>.int (Builtin.bitAnd i j)):=uD λ_ _ _ _ _ _ _ q=>and_int q
def Rx:dj X (binaryOp .BitXor) (kJ λi j=>.int (Builtin.bitXor i j)):=uD λ_ _ _ _ _ _ _ q=>xor_int q
def Hy{f:Value->Sem Value}{g:Int->Int}(rule:∀(i:Int)(t:Tok)(s:Shared)(Q:Value->Shared->Prop)(E:Value->Shared->Prop),Q (.int (g i) s.toks) { s with toks:=s.toks+1 }->wpAny (model X.prog X.w) X.A (f (.int i t)) Q E s):
  vV X f (F4 λi=>.int (g i)):=by
 intro pins s σ H x v Q I bg h;obtain⟨i,rfl,q⟩:=h;obtain⟨t,rfl⟩:=bg;exact rule i t s _ _ ⟨.int (g i),H,I.tok _,⟨_,rfl⟩,q⟩
def Wz:vV X (unaryOp .USub) (F4 λi=>.int (-i)):=Hy λ_ _ _ _ _ q=>neg_int q
end
section
variable{X:aU}{a b c:Expr}{cu cW kP:TE}{pos:Pos}
def Rq:dj X (compareOp .Lt) (kJ λi j=>.aT (decide (i<j))):=uB λ_ _ _ _ _ _ _ q=>lt_int q
def Rp:dj X (compareOp .LtE) (kJ λi j=>.aT (decide (i<=j))):=uB λ_ _ _ _ _ _ _ q=>le_int q
def Ro:dj X (compareOp .Gt) (kJ λi j=>.aT (decide (j<i))):=uB λ_ _ _ _ _ _ _ q=>gt_int q
def Rn:dj X (compareOp .GtE) (kJ λi j=>.aT (decide (j<=i))):=uB λ_ _ _ _ _ _ _ q=>ge_int q
def RN{op:CmpOp}{r:ft}(ay:dj X (compareOp op) r)(ax:aO X a cu)(ae:aO X b cW)(hm:behindInMarks op b=false):aO X (.Compare a [op] [b] pos) (so r cu cW):=by
 intro pins s σ H Q I h;exact wpAny_Compare1 (wX ax ae I h λv u s2 x y aY cM bg bI q=>ay pins s2 σ aY x y v u Q cM bg bI q) hm
noncomputable def Hl(t:TE):TT:=λσ H Q=>t σ H λx aq=>∃k,x=.aT k/\Q k aq
def SE{op:CmpOp}{r:ft}(ay:dj X (compareOp op) r)(ax:aO X a cu)(ae:aO X b cW)(hm:behindInMarks op b=false):dH X (.Compare a [op] [b] pos) (Hl (so r cu cW)):=by
 intro pins s σ H Q I h;refine wpAny_isTrue_Compare1 (bO (ax pins s σ H _ I h) λv s1 ⟨x,H1,bb,aH,aP⟩=>bO (ae pins s1 σ H1 _ bb aP) λu s2 ⟨y,aY,cM,a5,a9⟩ =>
  bO (ay pins s2 σ aY x y v u _ cM aH a5 a9) λc s3 ⟨z,b6,eV,dR,k,e,b4⟩=>?_) hm
 subst e;cases dR;exact Zt ⟨b6,eV,b4⟩
noncomputable def zX(r bW:ft)(cu cW kP:TE):TE:=λσ H Q=>cu σ H λx H1=>cW σ H1 λy aY=>r x y aY λz b6=>∃k,z=.aT k /\
 (if k=true then kP σ b6 λee fY=>bW y ee fY Q else Q (.aT false) b6)
def RM{op op':CmpOp}{r bW:ft}(ay:dj X (compareOp op) r)(dP:dj X (compareOp op') bW)(ax:aO X a cu)(ae:aO X b cW)(aj:aO X c kP)(hm:lastMarks [op,op'] [b,c]=false:=by with_unfolding_all rfl):aO X (.Compare a [op,op'] [b,c] pos) (zX r bW cu cW kP):=by
 intro pins s σ H Q I h;refine Compare_chain (bO (ax pins s σ H _ I h) λv s1 ⟨x,H1,bb,aH,aP⟩=>chain_link (bO (ae pins s1 σ H1 _ bb aP) λu s2 ⟨y,aY,cM,a5,a9⟩ =>
  bO (ay pins s2 σ aY x y v u _ cM aH a5 a9) λd s3 ⟨z,b6,eV,dR,k,e,b4⟩=>?_)) hm
 subst e;cases dR;refine Zt ?_;cases k with
 |false=>exact ite_ff ⟨.aT false,b6,eV,rfl,b4⟩
 |true=>exact ite_tt (chain_last (bO (aj pins s3 σ b6 _ eV b4) λee s4 ⟨gd,fY,fP,fD,dg⟩=>dP pins s4 σ fY y gd u ee Q fP a5 fD dg))
def SD{op op':CmpOp}{r bW:ft}(ay:dj X (compareOp op) r)(dP:dj X (compareOp op') bW)(ax:aO X a cu)(ae:aO X b cW)(aj:aO X c kP)(hm:lastMarks [op,op'] [b,c]=false:=by with_unfolding_all rfl):dH X (.Compare a [op,op'] [b,c] pos) (Hl (zX r bW cu cW kP)):=by
 intro pins s σ H Q I h;refine isTrue_chain (bO (ax pins s σ H _ I h) λv s1 ⟨x,H1,bb,aH,aP⟩=>test_link (bO (ae pins s1 σ H1 _ bb aP) λu s2 ⟨y,aY,cM,a5,a9⟩ =>
  bO (ay pins s2 σ aY x y v u _ cM aH a5 a9) λd s3 ⟨z,b6,eV,dR,k,e,b4⟩=>?_)) hm
 subst e;cases dR;refine Zt ?_;cases k with
 |false =>
  obtain⟨dz,bq,c2⟩:=b4;cases bq;exact ite_ff ⟨b6,eV,c2⟩
 |true =>
  refine ite_tt (test_last (bO (aj pins s3 σ b6 _ eV b4) λee s4 ⟨gd,fY,fP,fD,dg⟩=>bO (dP pins s4 σ fY y gd u ee _ fP a5 fD dg) λd' s5 ⟨cC,l8,l9,f9,aQ,av,hh⟩=>?_));subst av;cases f9;exact Zt ⟨l8,l9,hh⟩
def uh:(sizeLine:Nat)<2 ^ 63:=by rw[sizeLine_eq];decide
def vals1{x:V}{us:List Value}(r:Vals [x] us):∃u,us=[u]/\RelV x u:=by
 cases r with
 |cons aH a5=>cases a5;exact⟨_,rfl,aH⟩
def vals2{x y:V}{us:List Value}(r:Vals [x,y] us):∃u ee,us=[u,ee]/\RelV x u/\RelV y ee:=by
 cases r with
 |cons aH a5 =>
  cases a5 with
  |cons dR fD=>cases fD;exact⟨_,_,rfl,aH,dR⟩
def JB:gX X (.type "int") (λxs H Q=>(∃i,xs=[.int i]/\Q (.int i) H)\/∃k,xs=[.aT k]/\Q (.int (if k then 1 else 0)) H):=by
 intro pins s σ H xs us Q I r h;rcases h with⟨i,rfl,q⟩|⟨k,rfl,q⟩
 .obtain⟨u,rfl,t,rfl⟩:=vals1 r;exact call_int_int ⟨.int i,H,I,⟨_,rfl⟩,q⟩
 .obtain⟨u,rfl,aH⟩:=vals1 r;cases aH;exact call_int_bool ⟨.int (if k then 1 else 0),H,I.tok _,⟨_,rfl⟩,q⟩
end
end bJ
namespace bJ
open PySem PySem.Spec PyProof.Rows
structure vN(h:Heap)(x bj bG:Addr)(e7:Str->Option Value):Prop where
 obj:h.get? x=some (PySem.W.instObj bG bj)
 ns:h.Ns1 bj e7
 ne:bj≠x
def Qq{h:Heap}{bj:Addr}{e7:Str->Option Value}(n:h.Ns1 bj e7):∃bk,h.get? bj=some bk/\∀name,PySem.W.lookIn name bk=some (e7 name):=by
 obtain⟨o,ah,ba,ay,hd,au,_,hm⟩:=n;refine⟨o,ay,λname=>?_⟩;have e:=hm name;unfold nsFind findBy at e;rw[<- Array.find?_toList]at e;unfold PySem.W.lookIn;rw[hd];dsimp only
 split
 .rename_i y q;rw[q]at e;exact Zr some e
 .rename_i q;rw[q]at e;have a:ah.toList.any (·.refKey)=false:=by
   rw[abM];intro y aD;obtain⟨z,t,ye⟩:=au y (Array.mem_toList_iff.mp aD);simp[DictEntry.refKey,ye]
  have mg:¬ah.toList.any (·.refKey)=true:=(by rw[a];exact Y6);rw[if_neg mg];exact Zr some e
def vN.look{h:Heap}{x bj bG:Addr}{e7:Str->Option Value}(I:vN h x bj bG e7):∃bk,PySem.W.InstAt h x (PySem.W.instObj bG bj) bG (some bk)/\∀name,PySem.W.lookIn name bk=some (e7 name) :=
 let ⟨bk,ay,aw⟩:=Qq I.ns
 ⟨bk,⟨I.obj,rfl,rfl,ay⟩,aw⟩
section
variable{prog:Program}{w:World}{A:Around}{E:Value->Shared->Prop}{s:Shared}{K:W.Frag}{x bj bG f:Addr}{e7:Str->Option Value}{name:Str}{v:Value}
end
def iE.some_of{v:V}{o:Option Value}(r:iE (some v) o):∃u,o=some u/\RelV v u:=by
 cases o with
 |none=>exact(show False from r).elim
 |some u=>exact⟨u,rfl,r⟩
section
variable{P:Program}{w:World}{H aq:az}{h h':Heap}{a bG bj:Addr}{bL MV:List (Str×V)}
def t6(bM:ep P w H h)(e:H a=some (.ins bG bj bL)):∃e7,vN h a bj bG e7/\(∀f,iE (bL.lookup f) (e7 f))/\PySem.Within e7 (bL.map (·.1))/\bL.length<=1000/\H bj=some (.own a):=by
 obtain⟨d,z,ne,bT,e7,n,r,q⟩:=(show dG P w H h a (.ins bG bj bL) from bM a _ e);exact⟨e7,⟨bT,n,ne⟩,r,q,z,d⟩
end
structure vA(K:W.Frag)(bG:Addr):Prop where
 pg:PySem.W.plainGet K bG Str.empty=true
 hd:PySem.W.hasDictIn K bG=true
 po:PySem.W.plainOver K bG=true
 eQ:PySem.W.findIn K (.ref bG) "__setattr__"=some (some (.builtin "object.__setattr__"))
def vA.get{K:W.Frag}{bG:Addr}(c:vA K bG)(f:Str):PySem.W.plainGet K bG f=true:=c.pg
structure Xd(K:W.Frag)(bG:Addr)(f:Str)(v:V)(u:Value):Prop where
 at_:PySem.W.findIn K (.ref bG) f=some (some u)
 rel:RelV v u
 get:PySem.W.specialIn K u "__get__"=some none
 ef:PySem.W.copiedNames.contains f=false
structure Meth(K:W.Frag)(bG:Addr)(m:Str)(f:Addr):Prop where
 at_:PySem.W.findIn K (.ref bG) m=some (some (.ref f))
 fn:PySem.W.isFn K (.ref f)=true
 jj:W.keepIn K (.ref f)=true
section
variable{X:aU}{pins:List (Addr×Obj)}{σ:St}{H:az}{s:Shared}{a bG bj:Addr}{bL:List (Str×V)}{f:Str}{v:V}{A:Around}{E:Value->Shared->Prop}
end
section
variable{X:aU}{o e value:Expr}{f:Str}{pos pos' Wi:Pos}{cu kR:TE}
end
section
variable{X:aU}{pins:List (Addr×Obj)}{σ:St}{H:az}{s:Shared}{A:Around}{E:Value->Shared->Prop}{Q:Value->Shared->Prop}{c:Value}{b:Bool}
inductive i1(K:W.Frag)(H:az):V->Value->Prop where
 |dr:i1 K H .dr (.type "NoneType")
 |aT (x:Bool):i1 K H (.aT x) (.type "bool")
 |int (i:Int):i1 K H (.int i) (.type "int")
 |str (x:Str):i1 K H (.str x) (.type "str")
 |iG (x:UInt64):i1 K H (.iG x) (.type "float")
 |lst {a:Addr} {xs:List V} (e:H a=some (.lst xs)):i1 K H (.ref a) (.type "list")
 |eg {a:Addr} {o:Obj} {xs:List V} (e:H a=some (.eg o (.lst xs))):i1 K H (.ref a) (.type "list")
 |tup {a:Addr} {xs:List V} (e:H a=some (.tup xs)):i1 K H (.ref a) (.type "tuple")
 |dN {a:Addr} {ak:List (Key×V)} (e:H a=some (.dN ak)):i1 K H (.ref a) (.type "dict")
 |d5 {a:Addr} {ak:List (List Key×V)} (e:H a=some (.d5 ak)):i1 K H (.ref a) (.type "dict")
 |ins {a bG bj:Addr} {bL:List (Str×V)} (e:H a=some (.ins bG bj bL)) (cl:vA K bG) (ax:PySem.W.findIn K (.ref bG) "__class__"=some (some (.builtin "object.__class__")))
   (aB:PySem.W.specialIn K (.builtin "object.__class__") "__get__"=some (some (.builtin "getset_descriptor.__get__"))) (DQ:PySem.W.takesIn K (.builtin "object.__class__")=some true)
   (hm:PySem.W.mroIn K bG (.type "object")=some true):i1 K H (.ref a) (.ref bG)
def t9{x:V}{u t:Value}(I:Inv X pins σ H s)(bg:RelV x u)(ty:i1 X.K H x t)(e:PySem.W.kitOne X.K t c=some b)(h:∀tk,Q (.bool b) { s with toks:=tk }):
  wpAny (model X.prog X.w) A (call (.builtin "isinstance") [u,c]) Q E s:=by
 cases ty with
 |dr=>cases (show u=Value.none from bg);exact Y0 PySem.W.kitx_none I.f6 True.intro e (λz=>nomatch z) h
 |aT y=>cases (show u=Value.bool y from bg);exact Y0 PySem.W.kitx_bool I.f6 True.intro e (λz=>nomatch z) h
 |int i=>obtain⟨t,q⟩:=(show ∃t,u=Value.int i t from bg);cases q;exact Y0 PySem.W.kitx_int I.f6 True.intro e (λz=>nomatch z) h
 |str y=>obtain⟨t,q⟩:=(show ∃t,u=Value.str y t from bg);cases q;exact Y0 PySem.W.kitx_str I.f6 True.intro e (λz=>nomatch z) h
 |iG y=>obtain⟨t,q⟩:=(show ∃t,u=Value.float y t from bg);cases q;exact Y0 PySem.W.kitx_float I.f6 True.intro e (λz=>nomatch z) h
 |@lst a xs eb =>
  cases (show u=Value.ref a from bg);obtain⟨_,_,n,_,J⟩:=(show dG X.prog X.w H s.heap a (.lst xs) from I.bM a _ eb);exact Y0 abN I.f6 ⟨_,J,rfl⟩ e (λz=>nomatch z) h
 |@eg a bT xs eb =>
  cases (show u=Value.ref a from bg);obtain⟨_,_,_,n,_,J⟩:=(show dG X.prog X.w H s.heap a (.eg bT (.lst xs)) from I.bM a _ eb);exact Y0 abN I.f6 ⟨_,J,rfl⟩ e (λz=>nomatch z) h
 |@tup a xs eb =>
  cases (show u=Value.ref a from bg);obtain⟨_,_,_,p⟩:=(show dG X.prog X.w H s.heap a (.tup xs) from I.bM a _ eb);obtain⟨o,J,aa,_⟩:=p;exact Y0 PySem.W.kitx_tuple I.f6 ⟨o,J,aa⟩ e (λz=>nomatch z) h
 |@dN a ak eb =>
  cases (show u=Value.ref a from bg);obtain⟨_,_,af,_,p⟩:=(show dG X.prog X.w H s.heap a (.dN ak) from I.bM a _ eb);obtain⟨o,ah,ba,J,aa,_⟩:=p;exact Y0 aaZ I.f6 ⟨o,J,aa.1⟩ e (λz=>nomatch z) h
 |@d5 a ak eb =>
  cases (show u=Value.ref a from bg);obtain⟨_,_,xs,_,o,ah,ba,J,aa,_⟩:=(show dG X.prog X.w H s.heap a (.d5 ak) from I.bM a _ eb);exact Y0 aaZ I.f6 ⟨o,J,aa.1⟩ e (λz=>nomatch z) h
 |@ins a bG bj bL eb cl ax aB DQ hm =>
  cases (show u=Value.ref a from bg);obtain⟨e7,O,_⟩:=t6 I.bM eb;obtain⟨bk,cy,_⟩:=O.look;exact Y0 (PySem.W.kitx_own (cl.get _) cl.hd ax aB DQ hm) I.f6 cy e (λz=>nomatch z) h
end
end bJ
namespace bJ
open PySem PySem.Spec PyProof.Rows
structure gg(k:Nat)(A:Around):Prop where
 hd:A.handled=none
 mx:A.depth+3*k+5<recursionLimit
 un:A.units+16*k+200<cLine
def gg.mono{j k:Nat}{A:Around}(r:gg k A)(h:j<=k):gg j A:=⟨r.hd,by have:=r.mx;omega,by have:=r.un;omega⟩
theorem gg.deeper{k:Nat}{A:Around}(r:gg (k+1) A)(env:Env):gg k (A.deeper env) :=
 ⟨r.hd,by have:=r.mx;show A.depth+1+3*k+5<_;omega,by have:=r.un;show A.units+3+16*k+200<_;omega⟩
theorem gg.depth{k:Nat}{A:Around}(r:gg k A):A.depth<recursionLimit:=by have:=r.mx;omega
theorem gg.units{k:Nat}{A:Around}(r:gg k A):A.units+64<cLine:=by have:=r.un;omega
noncomputable def zZ:fS:=λ_ H Q=>Q [] H
noncomputable def u6(cu:TE)(dE:fS):fS:=λσ H Q=>cu σ H λx H1=>dE σ H1 λxs aY=>Q (x::xs) aY
section
variable{X:aU}{e:Expr}{ah:List Expr}{eI:TE}{t:fS}{pos:Pos}
def zc:fQ X [] zZ:=λ_ _ _ _ H Q I h=>Z7 ⟨[],H,I,.nil,h⟩
def oj(ax:aO X e eI)(a7:fQ X ah t)(ab:starEach (e::ah) X.env=(false,eval e X.env)::starEach ah X.env:=by rfl):fQ X (e::ah) (u6 eI t):=by
 intro pos pins s σ H Q I h;rw[ab];show wpAny _ _ (spliced ((false,eval e X.env)::backTo pos (starEach ah X.env))) _ _ s;refine ZL (bO (ax pins s σ H _ I h) λu s1 ⟨x,H1,bb,aH,aP⟩=>?_);exact bO (a7 pos pins s1 σ H1 _ bb aP) λus s2 ⟨xs,aY,cM,a5,a9⟩=>⟨x::xs,aY,cM,.cons aH a5,a9⟩
noncomputable def VF(t:fS):TE:=λσ H Q=>t σ H λxs H1=>xs.length<=sizeLine/\∀p,H1 p=none->Q (.ref p) (upd H1 p (.tup xs))
noncomputable def Vv(t:fS):TE:=λσ H Q=>t σ H λxs H1=>xs.length<=sizeLine/\∀p,H1 p=none->Q (.ref p) (upd H1 p (.lst xs))
def R0{aR}(h:fQ X ah t):aO X (.Tuple ah aR pos) (VF t):=by
 intro pins s σ H Q I aJ;refine wpAny_Tuple_spliced (bO (h pos pins s σ H _ I aJ) λus s1 ⟨xs,H1,bb,r,z,q⟩=>⟨by rw[<- r.length];exact z,?_⟩);have hf:H1 s1.heap.objs.size=none:=bb.bM.fresh (Yi _);refine⟨.ref s1.heap.objs.size,upd H1 s1.heap.objs.size (.tup xs),bb.laid (t':=s1.toks) (λb u e=>Yh _ e) (Yi _) ?_,rfl,q _ hf⟩;exact⟨z,us,r,⟨_,Yx _ rfl,rfl,_,rfl⟩⟩
def RU(h:fQ X ah t):aO X (.List ah pos) (Vv t):=by
 intro pins s σ H Q I aJ;refine wpAny_List_spliced (bO (h pos pins s σ H _ I aJ) λus s1 ⟨xs,H1,bb,r,z,q⟩=>⟨by rw[<- r.length];exact z,?_⟩);have hf:H1 s1.heap.objs.size=none:=bb.bM.fresh (Yi _);refine⟨.ref s1.heap.objs.size,upd H1 s1.heap.objs.size (.lst xs),bb.laid (t':=s1.toks) (λb u e=>Yh _ e) (Yi _) ?_,rfl,q _ hf⟩;exact⟨z,us,0,r,Yx _ rfl⟩
end
noncomputable abbrev mc:=List V->az->de->i2->Prop
noncomputable abbrev ju:=List Env->az->Shared->i2->Value->Shared->Prop
structure sH(P:Program)(w:World)(K:W.Frag)(aK:Str->Option Value)(base:Heap)(A:Around)(outer:List Env)(s:Shared)(H:az):Prop where
 frames:A.frames=some outer
 mod:Mod K aK base
 bs:∀b o,base.get? b=some o->s.heap.get? b=some o/\H b=none
 qL:base.objs.size<=s.heap.objs.size
 ll:s.heap.FunFrames base outer
 tr:∀b∈iq outer,H b=none
 bM:ep P w H s.heap
 bare:AllBare s.gens
noncomputable def vy(outer:List Env)(P:Program)(w:World)(H:az)(s:Shared)(Q:de)(u:Value)(s':Shared):Prop :=
 ∃v aq,s'.os=s.os/\AllBare s'.gens/\fg (iq outer) [] H aq s.heap s'.heap/\ep P w aq s'.heap/\RelV v u/\Q v aq
noncomputable def Ia(CX:ju)(outer:List Env)(P:Program)(w:World)(H:az)(s:Shared)(Q:de)(E:i2)(r:Result)(s':Shared):Prop :=
 match r with
 |.ok (.ret u)=>vy outer P w H s Q u s'
 |.ok _=>False
 |.error e=>CX outer H s E e s'
structure ka(P:Program)(w:World)(K:W.Frag)(aK:Str->Option Value)(base:Heap)(CX:ju)(k:Nat)(f:Addr)(fd:FuncData)(a8:List Str)(sp:mc):Prop where
 len:∀af H Q E,sp af H Q E->af.length=a8.length
 run:∀(A:Around)(outer:List Env)(s:Shared)(H:az)(args:Args)(us:List Value)(af:List V)(Q:de)(E:i2),gg k A->sH P w K aK base A outer s H->BindsTo s fd args (a8.zip us)->Vals af us->sp af H Q E ->
  codeAny (model P w) A (.call (.ref f) args) (Ia CX outer P w H s Q E) s
section
variable{X:aU}{pins:List (Addr×Obj)}{σ:St}{H:az}{s s':Shared}
def Inv.Lq(I:Inv X pins σ H s):sH X.prog X.w X.K X.aK X.base X.A X.stack s H :=
 ⟨I.ok.frames,I.ok.mod,I.bs,Zk I.ok.qL I.eH,I.stack,I.Hd,I.bM,I.bare⟩
def Inv.after{Q:de}{u:Value}(I:Inv X pins σ H s)(h:vy X.stack X.prog X.w H s Q u s'):eJ X pins σ Q u s':=by
 obtain⟨v,aq,os,bare,un,bM,r,q⟩:=h;obtain⟨cF,g,d,t,r2⟩:=s';obtain rfl:r2=s.os:=os;exact⟨v,aq,I.call (h':=cF) (g':=g) (d':=d) (t':=t) (ch:=[]) un bM bare (λb z=>absurd z (by simp)),r,q⟩
end
noncomputable def Vl(sp:mc)(dvs:List V)(E:i2)(t:fS):TE:=λσ H Q=>t σ H λaf H1=>sp (af++dvs) H1 Q E
noncomputable def Binds(K:W.Frag)(fd:FuncData)(a8:List Str)(ds:List Value):Prop :=
 ∀(s:Shared)(us:List Value),K.In s.heap->(us++ds).length=a8.length->BindsTo s fd ⟨us,[]⟩ (a8.zip (us++ds))
def Binds.all{K:W.Frag}{fd:FuncData}{a8:List Str}(h:∀us:List Value,us.length=a8.length->bindArgs fd ⟨us,[]⟩=pure (a8.zip us)):Binds K fd a8 []:=λs us _ aw=>by
 rw[Y1]at aw ⊢;exact .of_eq (h us aw)
noncomputable def Passes(CX:ju)(X:aU)(E:i2):Prop:=∀(pins:List (Addr×Obj))(σ:St)(H:az)(s:Shared)(e:Value)(s':Shared),Inv X pins σ H s->CX X.stack H s E e s'->X.cA e s'
section
variable{X:aU}{CX:ju}{k:Nat}{f bG:Addr}{fd:FuncData}{a8:List Str}{sp:mc}{dvs:List V}{ds:List Value}{E:i2}{x m:Str}{p pos apos:Pos}{e o:Expr}{ah:List Expr}{cu:TE}{t:fS}
def Tn{pins:List (Addr×Obj)}{σ:St}{H:az}{s:Shared}{Q:de}{us:List Value}{af:List V}(F:ka X.prog X.w X.K X.aK X.base CX k f fd a8 sp)(a7:gg k X.A)(ae:Binds X.K fd a8 ds)(hd:Vals dvs ds)(ag:Passes CX X E)(I:Inv X pins σ H s)(r:Vals af us)(h:sp (af++dvs) H Q E):wpAny (model X.prog X.w) X.A (call (.ref f) us) (eJ X pins σ Q) X.cA s:=by
 have a5:Vals (af++dvs) (us++ds):=r.append hd;have aw:(us++ds).length=a8.length:=by rw[<- a5.length];exact F.len _ _ _ _ h
 refine wpAny_call (aby (F.run X.A X.stack s H ⟨us,[]⟩ (us++ds) (af++dvs) Q E a7 I.Lq (ae s us I.f6 aw) a5 h) λr s' aJ=>?_);cases r with
 |error e=>exact ag pins σ H s e s' I aJ
 |ok gK =>
  cases gK with
  |ret u=>exact I.after aJ
  |next=>exact False.elim aJ
  |brk=>exact False.elim aJ
  |cont=>exact False.elim aJ
def RK(F:ka X.prog X.w X.K X.aK X.base CX k f fd a8 sp)(a7:gg k X.A)(a4:et X x)(hm:X.aK x=some (.ref f))(au:W.keepIn X.K (.ref f)=true)(ae:Binds X.K fd a8 ds)(hd:Vals dvs ds)(ag:Passes CX X E)(ax:fQ X (e::ah) t)(h4:(x==("__debug__":Str))=false:=by decide)(he:starEach (e::ah) X.env=(false,eval e X.env)::starEach ah X.env:=by rfl)(e4:(backTo pos (starEach ah X.env)).any (·.1)=false:=by rfl):
  aO X (.Call (.Name x p) (e::ah) [] pos) (Vl sp dvs E t):=by
 intro pins s σ H Q I h;refine ZC (Qe I a4 hm ?_ h4);refine PySem.W.callWith_K (h₀:=X.base) I.ok.mod.yI au (bO (ax pos pins s σ H _ I h) λus s1 ⟨af,H1,bb,r,q⟩=>⟨bb.f6,?_⟩) he e4;exact Tn F a7 ae hd ag bb r q
structure gY(K:W.Frag)(bG f:Addr):Prop where
 makes:PySem.W.makesIn K bG=true
 init:PySem.W.findIn K (.ref bG) "__init__"=some (some (.ref f))
 fn:PySem.W.isFn K (.ref f)=true
 jj:W.keepIn K (.ref bG)=true
end
section
variable{X:aU}{CX:ju}{k:Nat}{f bG:Addr}{fd:FuncData}{a8 ar:List Str}{sp:mc}{E:i2}{x m:Str}{p pos apos XZ:Pos}{e o:Expr}{ah:List Expr}{X1:List Keyword}{eI cu:TE}{t tk:fS}{nm:Option Str}
structure Xe(K:W.Frag)(fd:FuncData)(a8 ar:List Str)(g:List Value->List Value->List Value)(CT:List V->List V->List V):Prop where
 to:∀(s:Shared)(us ws:List Value),K.In s.heap->(g us ws).length=a8.length->BindsTo s fd ⟨us,ar.zip ws⟩ (a8.zip (g us ws))
 rel:∀{af:List V}{us:List Value}{zs:List V}{ws:List Value},Vals af us->Vals zs ws->Vals (CT af zs) (g us ws)
variable{g:List Value->List Value->List Value}{CT:List V->List V->List V}
end
structure vB(N P:List Str)(sc:Scope):Prop where
 kind:sc.kind=.function
 co:sc.isCoroutine=false
 gen:sc.isGenerator=false
 ej:N.Nodup
 pre:N.take P.length=P
 par:∀x∈P,sc.names.lookup x=some .local\/sc.names.lookup x=some .cell
 Q7:∀y∈sc.names,y.2≠.free
theorem Bm{kindOf:Str->Option NameKind}{x:Str}:∀{binds:List (Str×Value)}{m:Str->Option Value},(∀v,(x,v)∉binds)->bindL kindOf binds m x=m x
 |[],_,_=>rfl
 |(n,v)::r,m,h=>by
  unfold bindL;rw[Bm λw hw=>h w (List.mem_cons_of_mem _ hw)]
  split
  .have:x≠n:=(by rintro rfl;exact h v List.mem_cons_self);simp[this]
  .rfl
theorem Bk{kindOf:Str->Option NameKind}{x:Str}:∀{binds:List (Str×Value)}{m:Str->Option Value},(∀v,(x,v)∉binds)->bindC kindOf binds m x=m x
 |[],_,_=>rfl
 |(n,v)::r,m,h=>by
  unfold bindC;rw[Bk λw hw=>h w (List.mem_cons_of_mem _ hw)]
  split
  .rfl
  .have:x≠n:=(by rintro rfl;exact h v List.mem_cons_self);simp[this]
theorem Bl{kindOf:Str->Option NameKind}{x:Str}{v:Value}:∀{P:List Str}{af:List Value}{i:Nat}{m:Str->Option Value},P.Nodup->P[i]?=some x->af[i]?=some v->kindOf x=some .local ->
  bindL kindOf (P.zip af) m x=some v
 |[],_,_,_,_,h,_,_=>by simp at h
 |_::_,[],_,_,_,_,h,_=>by simp at h
 |p::P,w::af,0,m,ej,J,aa,au=>by
  simp at J aa;subst J;subst aa;show bindL kindOf ((p,w)::P.zip af) m p=_;unfold bindL;rw[Bm λv aV=>(YX.mp ej).1 (List.of_mem_zip aV).1,if_pos au];simp
 |p::P,w::af,i+1,m,ej,J,aa,au=>by
  show bindL kindOf ((p,w)::P.zip af) m x=_;unfold bindL;exact Bl (i:=i) (YX.mp ej).2 (by simpa using J) (by simpa using aa) au
theorem Bj{kindOf:Str->Option NameKind}{x:Str}{v:Value}:∀{P:List Str}{af:List Value}{i:Nat}{m:Str->Option Value},P.Nodup->P[i]?=some x->af[i]?=some v->kindOf x≠some .local ->
  bindC kindOf (P.zip af) m x=some v
 |[],_,_,_,_,h,_,_=>by simp at h
 |_::_,[],_,_,_,_,h,_=>by simp at h
 |p::P,w::af,0,m,ej,J,aa,au=>by
  simp at J aa;subst J;subst aa;show bindC kindOf ((p,w)::P.zip af) m p=_;unfold bindC;rw[Bk λv aV=>(YX.mp ej).1 (List.of_mem_zip aV).1,if_neg au];simp
 |p::P,w::af,i+1,m,ej,J,aa,au=>by
  show bindC kindOf ((p,w)::P.zip af) m x=_;unfold bindC;exact Bj (i:=i) (YX.mp ej).2 (by simpa using J) (by simpa using aa) au
noncomputable def start(N:List Str)(af:List V):St:=af.map some++List.replicate (N.length-af.length) none
noncomputable def nJ(CX:ju)(P:Program)(w:World)(K:W.Frag)(aK:Str->Option Value)(base:Heap)(N:List Str)(qual:Str)(scope:Scope)(f:Addr)(cd:Value)(A:Around)(outer:List Env)(s:Shared)(H:az)(E:i2):aU where
 prog:=P
 w:=w
 K:=K
 aK:=aK
 base:=base
 A:=A.deeper (envOfC qual scope s.heap.objs.size f cd)
 N:=N
 fq:=s
 qu:=H
 env:=envOfC qual scope s.heap.objs.size f cd
 outer:=outer
 stack:=envOfC qual scope s.heap.objs.size f cd::outer
 ex:=[]
 calm:=true
 fn:=λ_=>true
 fX:=[]
 cA:=λe s'=>wpAny (model P w) (A.deeper (envOfC qual scope s.heap.objs.size f cd)) (leaving (envOfC qual scope s.heap.objs.size f cd) e) (λ_ sg=>CX outer H s E e sg) (λbq sg=>CX outer H s E bq sg) s'
def Bv{sc:Scope}{n:Nat}{x:Str}(h:sc.names.lookup x=some .cell):∃c,(cellsFrom n sc.names []).lookup x=some c:=by
 have q:=ab2 sc.names n [] (.inl h);exact Option.isSome_iff_exists.mp q
def Pm{CX:ju}{P:Program}{w:World}{K:W.Frag}{aK:Str->Option Value}{base:Heap}{N a8:List Str}{qual:Str}{scope:Scope}{f:Addr}{cd:Value}{A:Around}{outer:List Env}{s s1:Shared}{H:az}{E:i2}{us:List Value}{af:List V}(S:vB N a8 scope)(hd:A.handled=none)(dD:sH P w K aK base A outer s H)(aw:af.length=a8.length)(r:Vals af us)(x:InCallC s s.heap.objs.size (bindL (envOfC qual scope s.heap.objs.size f cd).kindOf (a8.zip us) λ_=>none) (cellsFrom (s.heap.objs.size+1) scope.names []) (bindC (envOfC qual scope s.heap.objs.size f cd).kindOf (a8.zip us) λ_=>none) s1):
  Inv (nJ CX P w K aK base N qual scope f cd A outer s H E) [] (start N af) H s1:=by
 have e4:a8.length<=N.length:=by have:=Zr List.length S.pre;rw[YU]at this;omega
 obtain⟨J,tk,rfl,au⟩:=x.done;have rY:∀b:Addr,b∉(nJ CX P w K aK base N qual scope f cd A outer s H E).ex:=λb z=>absurd (show b∈([]:List Addr) from z) (by simp)
 refine⟨⟨dD.mod,S.kind,rfl,rfl,Yi _,λy z c J aa=>?_,λy aD=>?_,λy c _ h=>?_,λ_=>hd,Around.frames_deeper dD.frames,.inr ⟨rfl,rfl⟩,λb z=>absurd z (rY b),dD.bs,dD.qL,λb _ _=>rY b,λb z=>absurd z (rY b),dD.ll,dD.tr⟩,
  rfl,dD.bare,fg.kept au,⟨_,x.toInCall.ns,λi y v J aa aI=>?_⟩,λy c h=>⟨_,x.cell y c h⟩,dD.bM.fresh (Yi _),λy c h=>?_,λp aE=>absurd (show p∈([]:List (Addr×Obj)) from aE) (by simp),dD.bM.kept au,?_⟩
 .exact name_of_addr x.apart (Y4 J) (Y4 aa)
 .have aD:scope.names.lookup y=some .cell\/scope.names.lookup y=some .free:=aD;rcases aD with aD|aD
  .exact Bv aD
  .exact absurd rfl (S.Q7 _ (Y4 aD))
 .exact aaY (x.above y c (Y4 h))
 .have hi:i<af.length:=by
   unfold start at aa
   by_cases hi:i<af.length
   .exact hi
   .rw[YS (by simpa using hi)]at aa;rw[aaV]at aa
    split at aa<;>cases aa
  have ax:af[i]?=some v:=by
   unfold start at aa;rw[YB (by simpa using hi),Yy]at aa;cases e:af[i]? with
   |none=>rw[e]at aa;cases aa
   |some a=>rw[e]at aa;cases aa;rfl
  obtain⟨u,bz,cb⟩:=r.get ax;have aE:a8[i]?=some y:=by
   rw[<- S.pre,List.getElem?_take_of_lt (by omega)];exact J
  have E6:a8.Nodup:=(by rw[<- S.pre];exact S.ej.sublist (List.take_sublist _ _));refine⟨u,cb,?_⟩;rcases S.par y (ZD aE) with k|k
  .exact .inl ⟨k,Bl E6 aE bz k⟩
  .obtain⟨c,e⟩:=Bv (n:=s.heap.objs.size+1) k;refine .inr ⟨.inl k,c,e,?_⟩;have q:=x.cell y c e;rw[Bj E6 aE bz (by show scope.names.lookup y≠_;rw[k];decide)]at q;exact q
 .exact dD.bM.fresh (aaY (x.above y c (Y4 h)))
 .unfold start;show _=N.length;rw[Yj,List.length_map,aat];omega
def MP{CX:ju}{P:Program}{w:World}{K:W.Frag}{aK:Str->Option Value}{base:Heap}{k:Nat}{f:Addr}{name qual:Str}{params:Arguments}{body:List Stmt}{scope:Scope}{sZ dn doc pm d4 ct f7:Value}{an bk:Option Addr}{fN:Array (Option Value)}{N a8:List Str}{sp:mc}(lk:K.lookup f=some ⟨f7,bk,.func (W.fnOf name qual params body scope sZ dn doc pm an d4 ct),fN⟩)(lp:W.codeIn K d4 qual=true)(S:vB N a8 scope)(len:∀af H Q E,sp af H Q E->af.length=a8.length)(NA:∀(A:Around)(outer:List Env)(s:Shared)(H:az)(af:List V)(Q:de)(E:i2),gg k (A.deeper (envOfC qual scope s.heap.objs.size f d4))->sp af H Q E ->
   ∃t,hx (nJ CX P w K aK base N qual scope f d4 A outer s H E) body t/\t { cg:=λ_ aq=>Q .dr aq,d7:=Q } (start N af) H):
  ka P w K aK base CX (k+1) f (W.fnOf name qual params body scope sZ dn doc pm an d4 ct) a8 sp:=by
 refine⟨len,λA outer s H args us af Q E a7 dD ae r px=>?_⟩;have aw:=len _ _ _ _ px;have i0:K.In s.heap:=dD.mod.yI.keeps λb o e=>(dD.bs b o e).1
 have lim:s.heap.NoLimit:=dD.mod.nolimit.keeps λb o e=>(dD.bs b o e).1
 have N7:∀y∈a8.zip us,scope.names.lookup y.1=some .local\/(scope.names.lookup y.1=some .cell/\((cellsFrom (s.heap.objs.size+1) scope.names []).lookup y.1).isSome=true):=λ⟨n,v⟩ aD=>by
  rcases S.par n (List.of_mem_zip aD).1 with q|q
  .exact .inl q
  .exact .inr ⟨q,ab2 _ _ _ (.inl q)⟩
 refine codeAny_call_function a7.depth (i0 _ _ lk) rfl S.co S.gen rfl (PySem.W.codeRec_of i0 lp) (ae _ _ _ _ ?_);refine wpAny_newFunctionEnv_cells S.kind N7 λenv he s1 x=>?_
 subst he;refine⟨lim.keeps x.toInCall.keep,codeAny_func ?_⟩;obtain⟨t,aW,aJ⟩:=NA A outer s H af Q E (a7.deeper _) px;have I:Inv (nJ CX P w K aK base N qual scope f d4 A outer s H E) [] (start N af) H s1:=Pm S a7.hd dD aw r x;refine Zh (aW [] s1 (start N af) H _ I aJ) (λgK s' ab=>?_) λe s' ab=>ab
 have fin:∀{dB:St}{aq:az}{v:V}{u:Value},Inv (nJ CX P w K aK base N qual scope f d4 A outer s H E) [] dB aq s'->RelV v u->Q v aq->vy outer P w H s Q u s' :=
  λ{dB aq v u} cy cb q=>⟨v,aq,cy.os,cy.bare,cy.base,cy.bM,cb,q⟩
 cases gK with
 |ret u =>
  obtain⟨v,dB,aq,cy,cb,q⟩:=ab;exact fin cy cb q
 |next =>
  obtain⟨dB,aq,cy,q⟩:=ab;exact fin (v:=V.dr) (u:=Value.none) cy rfl q
 |brk =>
  obtain⟨_,_,_,q⟩:=ab;exact False.elim q
 |cont =>
  obtain⟨_,_,_,q⟩:=ab;exact False.elim q
end bJ
namespace bJ
open PySem PySem.Spec PyProof.Rows
section
variable{X:aU}{x:Str}{p pos:Pos}{e:Expr}{ah:List Expr}{t:fS}{id T:String}{r:List V->az->de->Prop}
noncomputable def Hj(r:List V->az->de->Prop)(t:fS):TE:=λσ H Q=>t σ H λaf H1=>r af H1 Q
def uI(aj:gX X (.builtin id) r)(a4:et X x)(hm:X.aK x=none)(aV:bootBuiltins x=some (.builtin id))(ax:fQ X (e::ah) t)(aB:x≠"__name__":=by decide)(h4:(x==("__debug__":Str))=false:=by decide)(he:starEach (e::ah) X.env=(false,eval e X.env)::starEach ah X.env:=by rfl)(e4:(backTo pos (starEach ah X.env)).any (·.1)=false:=by rfl):aO X (.Call (.Name x p) (e::ah) [] pos) (Hj r t):=by
 intro pins s σ H Q I h;refine ZC (jT I a4 hm aV ?_ aB h4);exact aai (bO (ax pos pins s σ H _ I h) λus s1 ⟨af,H1,bb,aH,aP⟩=>aj pins s1 σ H1 af us Q bb aH aP) he e4
def RL(aj:gX X (.type T) r)(a4:et X x)(hm:X.aK x=none)(aV:bootBuiltins x=some (.type T))(ax:fQ X (e::ah) t)(aB:x≠"__name__":=by decide)(h4:(x==("__debug__":Str))=false:=by decide)(he:starEach (e::ah) X.env=(false,eval e X.env)::starEach ah X.env:=by rfl)(e4:(backTo pos (starEach ah X.env)).any (·.1)=false:=by rfl):aO X (.Call (.Name x p) (e::ah) [] pos) (Hj r t):=by
 intro pins s σ H Q I h;refine ZC (jT I a4 hm aV ?_ aB h4);exact Y7 (bO (ax pos pins s σ H _ I h) λus s1 ⟨af,H1,bb,aH,aP⟩=>aj pins s1 σ H1 af us Q bb aH aP) he e4
end
end bJ
namespace di
open PySem PyProof.Rows
noncomputable def lexLt:List Int->List Int->Bool
 |[],[]=>false
 |[],_::_=>true
 |_::_,[]=>false
 |x::xs,y::ys=>if x=y then lexLt xs ys else decide (x<y)
def Qi(x y:Int)(xs ys:List Int):lexLt (x::xs) (y::ys)=if x=y then lexLt xs ys else decide (x<y):=rfl
def Ql:lexLt [] []=false:=rfl
def Qk(y:Int)(ys:List Int):lexLt [] (y::ys)=true:=rfl
def Qj(x:Int)(xs:List Int):lexLt (x::xs) []=false:=rfl
def Lr(A:Around)(s:Shared)(a:Int)(t:Tok)(c:Int)(u:Tok):∃e,SeqAt.EqAt A s (.int a t) (.int c u) e/\(e=true<->a=c) :=
 ⟨(a==c),SeqAt.EqAt.int_int a t c u,by simp⟩
def S1(A:Around)(s:Shared)(a:Int)(t:Tok)(c:Int)(u:Tok)(prog:Program)(w:World)(E:Value->Shared->Prop)(Q:Value->Shared->Prop)(h:Q (.bool (decide (a<c))) s):
  wpAny (model prog w) A (richCompare .Lt (.int a t) (.int c u)) Q E s :=
 (PyProof.Rows.lt_int h:wpAny (model prog w) A (compareOp .Lt (.int a t) (.int c u)) Q E s)
section
open PySem.SeqAt
open PySem.AutoSeq1 (wpAny_loadPart')
open PySem.MeetsSeq PySem.MeetsSeq2 PySem.MeetsSeq3
def Wl(l b:Addr)(items hM:Array Value)(n hc:Nat)(df kg:Option Addr)(cn jZ:Array (Option Value))(ns ms:List Int)(hi:IntsAre items.toList ns)(aA:IntsAre hM.toList ms):
  Meets (Builtin.«tuple.__lt__» ⟨[.ref l,.ref b],[]⟩)
   (λ_ R s=>s.heap.get? l=some { cls:=.type "tuple",dict:=df,data:=.seq items n,slots:=cn }/\s.heap.get? b=some { cls:=.type "tuple",dict:=kg,data:=.seq hM hc,slots:=jZ } /\
    R (.ok (.ret (.bool (lexLt ns ms)))) s) :=
 .of_wp λprog w A R s h=>by
  obtain⟨aE,g,d,tk,os⟩:=s;obtain⟨aw,ae,h⟩:=h;have f2:=AutoSeq1.sub_tuple_tuple;have cX:items.size=ns.length:=(by rw[<- hi.length];simp);have cC:hM.size=ms.length:=by rw[<- aA.length];simp
  wp_walk using wpAny_loadPart' aw,wpAny_loadPart' ae,abd _ (λrest b s'=>b.1=none/\s'=⟨aE,g,d,tk,os⟩/\∃(af ws:List Value)(pT pP:List Int),rest=af.zip ws /\
   IntsAre af pT/\IntsAre ws pP/\pT.length+hM.size=pP.length+items.size/\R (.ok (.ret (.bool (lexLt pT pP)))) ⟨aE,g,d,tk,os⟩) _
  case turn =>
   rintro⟨y,x⟩ rest b s' ⟨fz,rfl,af,ws,pT,pP,hz,yw,tZ,hlen,hR⟩;cases yw with
   |nil=>rw[List.zip_nil_left]at hz;cases hz
   |cons a t OU =>
    cases tZ with
    |nil=>rw[List.zip_nil_right]at hz;cases hz
    |cons c u OW =>
     rw[List.zip_cons_cons]at hz;injection hz with rz kv;injection rz with aD ag;subst aD ag;rw[Qi]at hR;simp only[List.length_cons]at hlen;obtain⟨e,he,Dw⟩:=Lr A.in1 ⟨aE,g,d,tk,os⟩ a t c u;refine Yf (he prog w _ _ ?_);cases e with
     |true =>
      rw[if_pos (Dw.mp rfl)]at hR
      wp_walk
      exact⟨rfl,rfl,_,_,_,_,kv,OU,OW,by omega,hR⟩
     |false =>
      rw[if_neg (λq=>absurd (Dw.mpr q) Y6)]at hR;have OJ:=S1 A.in1 ⟨aE,g,d,tk,os⟩ a t c u prog w
      wp_walk using OJ
      exact⟨_,rfl,by simpa using hR⟩
  case fin =>
   rintro⟨b1,b2⟩ s' ⟨fz,rfl,af,ws,pT,pP,hz,yw,tZ,hlen,hR⟩;simp only at fz;subst fz;have aV:lexLt pT pP=decide (items.size<hM.size):=by
    cases yw with
    |nil =>
     cases tZ with
     |nil =>
      simp only[List.length_nil]at hlen;rw[Ql];exact(decide_eq_false (by omega)).symm
     |cons c u hw =>
      simp only[List.length_nil,List.length_cons]at hlen;rw[Qk];exact(decide_eq_true (by omega)).symm
    |cons a t aV =>
     cases tZ with
     |nil =>
      simp only[List.length_nil,List.length_cons]at hlen;rw[Qj];exact(decide_eq_false (by omega)).symm
     |cons c u hw =>
      rw[List.zip_cons_cons]at hz;cases hz
   rw[aV]at hR
   wp_walk
   exact⟨_,rfl,by simpa[Builtin.Tuple.tupleCompareSizes] using hR⟩
  case h =>
   exact⟨rfl,rfl,items.toList,hM.toList,ns,ms,rfl,hi,aA,by omega,h⟩
end
section
variable{prog:Program}{w:World}{A:Around}{E:Value->Shared->Prop}{s:Shared}
def EH{l b:Addr}{items hM:Array Value}{ns ms:List Int}{Q:Value->Shared->Prop}(aw:IsTup s.heap l items)(ae:IsTup s.heap b hM)(hi:IntsAre items.toList ns)(aA:IntsAre hM.toList ms)(bz:A.units<cLine)(h:Q (.bool (lexLt ns ms)) s):wpAny (model prog w) A (compareOp .Lt (.ref l) (.ref b)) Q E s:=by
 obtain⟨⟨cls,df,data,cn⟩,ay,aj,n,hd⟩:=id aw;obtain⟨⟨w8,kg,data2,jZ⟩,ku,iH,hc,hd2⟩:=id ae;simp only at aj hd iH hd2;subst aj hd iH hd2;exact richCompare_meets_room (op:=.Lt) ⟨_,ay,rfl⟩ ⟨_,ku,rfl⟩ PySem.F.slot_tuple_lt PySem.F.entry_tuple_lt (PySem.F.args_tuple_lt_2 _ _) (Wl l b items hM n hc df kg cn jZ ns ms hi aA)
  ⟨ay,ku,show Value.bool (lexLt ns ms)≠Value.notImplemented/\Q (.bool (lexLt ns ms)) s from⟨(λx=>nomatch x),h⟩⟩ bz
def JD{t b:Addr}{af ws:List Value}{Q:Value->Shared->Prop}(aW:IsTup s.heap t af.toArray)(ae:IsTup s.heap b ws.toArray)(aV:af≠[])(J:ws=[]->Q (.ref t) s)(aa:ws≠[]->Q (.ref s.heap.objs.size) { s with heap:=s.heap.push { cls:=.type "tuple",data:=.seq (af++ws).toArray } })(hsz:af.length+ws.length<=sizeLine):wpAny (model prog w) A (binaryOp .Add (.ref t) (.ref b)) Q E s:=by
 obtain⟨⟨cls,df,data,cn⟩,ay,aj,n,hd⟩:=id aW;obtain⟨⟨w8,kg,data2,jZ⟩,ku,iH,hc,hd2⟩:=id ae;simp only at aj hd iH hd2;subst aj hd iH hd2;have e:af.toArray++ws.toArray=(af++ws).toArray:=by simp
 by_cases hw:ws=[]
 .exact ab3 ⟨_,ay,rfl⟩ ⟨_,ku,rfl⟩ abV seq_tuple_add aa0 aaW (aaQ _ _)
   (tuple_addW1 t b af.toArray ws.toArray n hc df kg cn jZ (by simpa using aV) (by simp[hw])) ⟨ay,ku,J hw⟩
 .refine ab3 ⟨_,ay,rfl⟩ ⟨_,ku,rfl⟩ abV seq_tuple_add aa0 aaW (aaQ _ _)
   (tuple_addW2 t b af.toArray ws.toArray n hc df kg cn jZ (by simpa using aV) (by simpa using hw) (by rw[Yv,Yv];exact hsz)) ⟨ay,ku,?_⟩
  rw[e];exact aa hw
noncomputable def bU(n d:Nat):Option Int->Nat
 |none=>d
 |some v=>if v<0 then(v+(n:Int)).toNat else min v.toNat n
def uS(n d:Nat)(hd:d<=n)(o:Option Int):bU n d o<=n:=by
 cases o with
 |none=>exact hd
 |some v =>
  show(if v<0 then(v+(n:Int)).toNat else min v.toNat n)<=n
  by_cases aV:v<0
  .rw[if_pos aV];omega
  .rw[if_neg aV];exact Nat.min_le_right _ _
def BG(v:Int)(n d:Nat):(if v<0 then max (v+(n:Int)) 0 else min v (n:Int))=((bU n d (some v):Nat):Int):=by
 show(if v<0 then max (v+(n:Int)) 0 else min v (n:Int))=(((if v<0 then(v+(n:Int)).toNat else min v.toNat n):Nat):Int)
 by_cases aV:v<0
 .simp only[if_pos aV];omega
 .simp only[if_neg aV];omega
def Ir(lo hi:Option Int)(n:Nat):Builtin.Slice.sliceAdjust lo hi 1 (n:Int)=(((bU n 0 lo:Nat):Int),((bU n n hi:Nat):Int)):=by
 have J:¬((1:Int)<0):=by omega
 unfold Builtin.Slice.sliceAdjust;simp only[J,YK];refine Prod.ext ?_ ?_
 .cases lo with
  |none=>rfl
  |some v=>exact BG v n 0
 .cases hi with
  |none=>rfl
  |some v=>exact BG v n n
def Sn(i j:Nat):Builtin.Slice.slicePlaces (i:Int) (j:Int) 1=j-i:=by
 unfold Builtin.Slice.slicePlaces;have J:(1:Int)>0:=by omega
 simp only[J,Zo,Int.ediv_one]
 split<;>omega
def GX{v:Value}{o:Option Int}{Q:Option Int->Shared->Prop}(p:IsPart v o)(h:Q o s):wpAny (model prog w) A (Builtin.Slice.slicePartIndex v) Q E s:=by
 cases p with
 |none=>exact slicePart_none h
 |int i t=>exact slicePart_int h
def GW{cn:Addr}{fF fG:Value}{lo hi:Option Int}{n:Nat}{Q:Int×Int×Nat->Shared->Prop}(ab:s.heap.IsSliceOf cn fF fG .none)(c7:IsPart fF lo)(pu:IsPart fG hi)(h:Q (((bU n 0 lo:Nat):Int),1,bU n n hi-bU n 0 lo) s):wpAny (model prog w) A (Builtin.Slice.sliceApplied (.ref cn) (pure (n:Int))) Q E s:=by
 obtain⟨os,n1,jb,ks⟩:=id ab;unfold Builtin.Slice.sliceApplied Builtin.Slice.sliceFields;refine Yf (Yf (wpAny_field n1 ks (x:=fF) rfl (Yf (wpAny_field n1 ks (x:=fG) rfl (Yf (wpAny_field n1 ks (x:=.none) rfl (wpAny_pure ?_)))))));refine Yf (slicePart_none ?_);show wpAny _ _ (if ((1:Int)==0)=true then _ else _) _ _ s;rw[if_neg (by decide)];refine Yf (GX c7 (Yf (GX pu (Yf (wpAny_pure ?_)))));show wpAny _ _ (match Builtin.Slice.sliceAdjust lo hi 1 (n:Int) with|(lo,hi)=>pure (lo,(1:Int),Builtin.Slice.slicePlaces lo hi 1)) _ _ s;rw[Ir lo hi n];show wpAny _ _ (pure (((bU n 0 lo:Nat):Int),(1:Int),Builtin.Slice.slicePlaces ((bU n 0 lo:Nat):Int) ((bU n n hi:Nat):Int) 1)) _ _ s;rw[Sn];exact wpAny_pure h
def Sk(xs:Array Value)(i k:Nat):((List.range k).filterMap λ(m:Nat)=>xs[((i:Int)+(m:Int)*1).toNat]?).toArray=((xs.toList.drop i).take k).toArray:=by
 have e:(λ(m:Nat)=>xs[((i:Int)+(m:Int)*1).toNat]?)=λm=>xs[i+m]?:=by
  funext m;have:((i:Int)+(m:Int)*1).toNat=i+m:=(by omega);rw[this]
 rw[e];have:=pick_run xs i k;rw[List.filterMap_map]at this;have av:((λx=>xs[x]?) ∘ λx=>i+x)=λm=>xs[i+m]?:=rfl
 rw[av]at this;rw[this]
def M9{t cn:Addr}{items:Array Value}{fF fG:Value}{lo hi:Option Int}{Q:Value->Shared->Prop}(aW:IsTup s.heap t items)(ab:s.heap.IsSliceOf cn fF fG .none)(c7:IsPart fF lo)(pu:IsPart fG hi)(hw:¬(bU items.size 0 lo=0/\bU items.size items.size hi=items.size))(h:Q (.ref s.heap.objs.size) { s with heap:=s.heap.push { cls:=.type "tuple",data:=.seq ((items.toList.drop (bU items.size 0 lo)).take (bU items.size items.size hi-bU items.size 0 lo)).toArray } })(hsz:items.size<=sizeLine):wpAny (model prog w) A (getItem (.ref t) (.ref cn)) Q E s:=by
 have tY:sizeOk (.seq ((items.toList.drop (bU items.size 0 lo)).take (bU items.size items.size hi-bU items.size 0 lo)).toArray):=by
  show((items.toList.drop (bU items.size 0 lo)).take (bU items.size items.size hi-bU items.size 0 lo)).toArray.size<=sizeLine;rw[Yv,YU,Zb,Array.length_toList];omega
 have aA:bU items.size items.size hi<=items.size:=uS _ _ (Yi _) hi;obtain⟨os,n1,jb,ks⟩:=id ab;have xY:s.TypeIs (.ref cn) "slice":=⟨os,n1,jb⟩;unfold getItem
 try with_reducible refine ZM ?_
 first|refine Yf (wpAny_pure ?_)|skip
 refine Yf (wpAny_sequenceKey aW.typeIs (by decide) ?_);refine Yf (ZE (name:=Str.ofString "__getitem__") aW.typeIs Y9
  (Zp Y9 aW.typeIs entry_tuple_getitem ?_ (args_tuple_getitem _ _)))
 show wpAny _ _ (Builtin.Tuple.tupleItemsOf (.ref t)>>=_) _ _ s;refine Yf (tupleItemsOf_ aW ?_);refine Yf (aak xY ?_);rw[if_pos (by decide)];refine Yf (GW ab c7 pu ?_);have jP:¬((((bU items.size 0 lo:Nat):Int)==0&&(1:Int)==1&&(bU items.size items.size hi-bU items.size 0 lo)==items.size)=true):=by
  intro q;rw[Yg,Yg]at q;have aP:((bU items.size 0 lo:Nat):Int)=0:=eq_of_beq q.1.1;have a9:bU items.size items.size hi-bU items.size 0 lo=items.size:=eq_of_beq q.2;exact hw ⟨by omega,by omega⟩
 show wpAny _ _ (if (((bU items.size 0 lo:Nat):Int)==0&&(1:Int)==1&&(bU items.size items.size hi-bU items.size 0 lo)==items.size)=true then _ else _) _ _ s;rw[if_neg jP,Sk]
 first
  |exact Yf (m:=Builtin.Tuple.tupleExact _) (YV (wpAny_pure ⟨_,rfl,wpAny_pure h⟩) tY)
  |exact Yf (m:=Builtin.Tuple.tupleExact _) (YV (Yf (wpAny_pure (wpAny_pure ⟨_,rfl,wpAny_pure h⟩))) tY)
  |exact Yf (Yf (m:=Builtin.Tuple.tupleExact _) (YV (wpAny_pure (wpAny_pure ⟨_,rfl,wpAny_pure h⟩)) tY))
  |exact Yf (Yf (m:=Builtin.Tuple.tupleExact _) (YV (wpAny_pure ⟨_,rfl,wpAny_pure h⟩) tY))
end
end di
namespace bJ
open PySem PySem.Spec PyProof.Rows
noncomputable abbrev kZ:=St->az->(Option Int->az->Prop)->Prop
noncomputable def kc(X:aU)(e:Option Expr)(t:kZ):Prop :=
 ∀(pins:List (Addr×Obj))(s:Shared)(σ:St)(H:az)(Q:Option Int->az->Prop),Inv X pins σ H s->t σ H Q ->
  wpAny (model X.prog X.w) X.A (evalPart e X.env) (λu s'=>∃o aq,Inv X pins σ aq s'/\IsPart u o/\Q o aq) X.cA s
noncomputable def Vx:kZ:=λ_ H Q=>Q none H
noncomputable def VC(t:TE):kZ:=λσ H Q=>t σ H λx H1=>∃i,x=.int i/\Q (some i) H1
def intsAre_of{ns:List Int}:∀{us:List Value},Vals (ns.map V.int) us->IntsAre us ns:=by
 induction ns with
 |nil=>intro us r;rw[Z8]at r;cases r;exact .nil
 |cons n ns aF =>
  intro us r;rw[List.map_cons]at r;cases r with
  |cons aH a5 =>
   obtain⟨t,e⟩:=aH;subst e;exact .cons n t (aF a5)
section
variable{X:aU}{e:Expr}{eI:TE}{lo hi:Option Expr}{hj vc:kZ}{pos bE:Pos}
def Sq:kc X none Vx:=by
 intro pins s σ H Q I h;rw[evalPart_none];exact wpAny_pure ⟨none,H,I,.none,h⟩
def Sr(h:aO X e eI):kc X (some e) (VC eI):=by
 intro pins s σ H Q I hw;rw[evalPart_some];refine bO (h pins s σ H _ I hw) λu s1 ⟨x,H1,bb,aH,aP⟩=>?_
 obtain⟨i,rfl,q⟩:=aP;obtain⟨t,rfl⟩:=aH;exact⟨some i,H1,bb,.int i t,q⟩
noncomputable def qB(X:aU)(r:V->Option Int->Option Int->az->de->Prop):Prop :=
 ∀(pins:List (Addr×Obj))(s:Shared)(σ:St)(H:az)(x:V)(v fF fG:Value)(lo hi:Option Int)(cn:Addr)(Q:de),Inv X pins σ H s->RelV x v->s.heap.IsSliceOf cn fF fG .none->IsPart fF lo->IsPart fG hi->r x lo hi H Q ->
  ∃T id,typeLookup (.type T) "__getitem__"=pure (some (.builtin id))/\s.TypeIs v T/\wpAny (model X.prog X.w) X.A (getItem v (.ref cn)) (eJ X pins σ Q) X.cA s
noncomputable def VE(r:V->Option Int->Option Int->az->de->Prop)(eI:TE)(hj vc:kZ):TE:=λσ H Q=>eI σ H λx H1=>hj σ H1 λl aY=>vc σ aY λu b6=>r x l u b6 Q
def RY{r:V->Option Int->Option Int->az->de->Prop}(a7:qB X r)(he:aO X e eI)(aw:kc X lo hj)(bz:kc X hi vc):aO X (.Subscript e (.Slice lo hi none bE) pos) (VE r eI hj vc):=by
 intro pins s σ H Q I h;refine Subscript_ (bO (he pins s σ H _ I h) λv s1 ⟨x,H1,bb,aH,aP⟩=>?_);refine wpAny_Slice (bO (aw pins s1 σ H1 _ bb aP) λfF s2 ⟨l,aY,cM,c7,a9⟩=>bO (bz pins s2 σ aY _ cM a9) λfG s3 ⟨u,b6,eV,pu,b4⟩=>?_);rw[evalPart_none];refine wpAny_pure ?_;have fP:Inv X pins σ b6 { s3 with heap:=s3.heap.push { cls:=.type "slice",data:=.fields #[fF,fG,.none] } }:=eV.kept (t':=s3.toks) λb bT q=>Yh _ q
 obtain⟨T,id,cP,aW,a4⟩:=a7 pins { s3 with heap:=s3.heap.push { cls:=.type "slice",data:=.fields #[fF,fG,.none] } } σ b6 x v fF fG l u s3.heap.objs.size Q fP aH (Heap.IsSliceOf.new ..) c7 pu b4;show wpAny (model X.prog X.w) X.A (subscriptTail e (.Slice lo hi none bE) v (.ref s3.heap.objs.size)) (eJ X pins σ Q) X.cA { s3 with heap:=s3.heap.push { cls:=.type "slice",data:=.fields #[fF,fG,.none] } };exact tail_any (ops:=[.ref s3.heap.objs.size,v]) aW cP a4 (by with_unfolding_all rfl)
noncomputable def k3(xs:List V)(lo hi:Option Int):List V:=(xs.drop (di.bU xs.length 0 lo)).take (di.bU xs.length xs.length hi-di.bU xs.length 0 lo)
def BN(xs:List V)(lo hi:Option Int):(k3 xs lo hi).length<=xs.length:=by
 unfold k3;rw[YU,Zb];omega
noncomputable def SW(K:W.Frag):V->Option Int->Option Int->az->de->Prop:=λx lo hi H Q=>∃a xs,x=.ref a/\fR K H a xs /\
 ¬(di.bU xs.length 0 lo=0/\di.bU xs.length xs.length hi=xs.length)/\∀p,H p=none->Q (.ref p) (upd H p (.tup (k3 xs lo hi)))
def UP:qB X (SW X.K):=by
 intro pins s σ H x v fF fG lo hi cn Q I bg ab c7 pu h;obtain⟨a,xs,rfl,ag,hw,q⟩:=h;cases bg;obtain⟨its,r,aW,hz⟩:=I.tuple ag;have hlen:its.toArray.size=xs.length:=by rw[Yv];exact r.length.symm
 refine⟨"tuple",_,Y9.lookup,aW.typeIs,?_⟩;refine di.M9 aW ab c7 pu (by rw[hlen];exact hw) ?_ (by rw[hlen];exact hz);rw[hlen];refine⟨.ref s.heap.objs.size,_,I.laid (t':=s.toks) (o:=.tup (k3 xs lo hi)) (λb bT q=>Yh _ q) (Yi _) ?_,rfl,q _ (I.bM.fresh (Yi _))⟩;exact⟨Zk (BN xs lo hi) hz,_,(r.drop (di.bU xs.length 0 lo)).take (di.bU xs.length xs.length hi-di.bU xs.length 0 lo),IsTup.new _ _⟩
noncomputable def SS(K:W.Frag):ft:=λx y H Q=>∃a b ns ms,x=.ref a/\y=.ref b/\fR K H a (ns.map V.int)/\fR K H b (ms.map V.int)/\Q (.aT (di.lexLt ns ms)) H
def Rr(bz:X.A.units<cLine):dj X (compareOp .Lt) (SS X.K):=by
 intro pins s σ H x y v u Q I bg bI h;obtain⟨a,b,ns,ms,rfl,rfl,ax,ae,q⟩:=h;cases bg;cases bI;obtain⟨its,aH,bh,_⟩:=I.tuple ax;obtain⟨ky,a5,bE,_⟩:=I.tuple ae;have eB:IntsAre its.toArray.toList ns:=intsAre_of aH;have e6:IntsAre ky.toArray.toList ms:=intsAre_of a5;exact di.EH bh bE eB e6 bz ⟨.aT (di.lexLt ns ms),H,I,rfl,q⟩
end
end bJ
namespace bJ
open PySem PySem.Spec PyProof.Rows
noncomputable def jg(n:Nat)(i:Int):Option Nat:=if 0<=i then(if i<n then some i.toNat else none) else if -(n:Int)<=i then some (i+n).toNat else none
noncomputable def ny{α:Type}(xs:List α)(i:Int):Option α:=(jg xs.length i).bind λj=>xs[j]?
def Py{n:Nat}{i:Int}{j:Nat}(h:jg n i=some j):seqIndex? i n=some j/\j<n/\-(n:Int)<=i/\i<n:=by
 unfold jg at h
 by_cases h0:0<=i
 .rw[if_pos h0]at h
  by_cases J:i<n
  .rw[if_pos J]at h;have e:i.toNat=j:=YZ h;exact⟨by rw[seqIndex_of h0 J,e],by omega,by omega,J⟩
  .rw[if_neg J]at h;cases h
 .rw[if_neg h0]at h
  by_cases J:-(n:Int)<=i
  .rw[if_pos J]at h;have e:(i+n).toNat=j:=YZ h;exact⟨by rw[seqIndex_neg (by omega) J,e],by omega,J,by omega⟩
  .rw[if_neg J]at h;cases h
def v9{α:Type}{xs:List α}{i:Int}{v:α}(h:ny xs i=some v):∃j,seqIndex? i xs.length=some j/\xs[j]?=some v/\j<xs.length/\-(xs.length:Int)<=i/\i<xs.length:=by
 unfold ny at h;cases e:jg xs.length i with
 |none=>rw[e]at h;cases h
 |some j =>
  rw[e]at h;obtain⟨J,aa,aI,aX⟩:=Py e;exact⟨j,J,h,aa,aI,aX⟩
noncomputable def vR(b:Expr):Prop:=∀o i,subscripted b false o i=operate [o,i] (getItem o i)
noncomputable def kU(X:aU)(r:ft):Prop :=
 ∀(value slice:Expr)(pins:List (Addr×Obj))(s:Shared)(σ:St)(H:az)(x y:V)(v u:Value)(Q:de),Inv X pins σ H s->RelV x v->RelV y u->r x y H Q ->
  subscripted slice false v u=operate [v,u] (getItem v u)->wpAny (model X.prog X.w) X.A (subscriptTail value slice v u) (eJ X pins σ Q) X.cA s
noncomputable def Ih(X:aU)(id:String)(r:V->List V->az->de->Prop):Prop :=
 ∀(pins:List (Addr×Obj))(s:Shared)(σ:St)(H:az)(x:V)(xs:List V)(v:Value)(us:List Value)(Q:de),Inv X pins σ H s->RelV x v->Vals xs us->r x xs H Q ->
  wpAny (model X.prog X.w) X.A (call (.builtin id) (v::us)) (eJ X pins σ Q) X.cA s
section
variable{X:aU}{a b:Expr}{cu cW:TE}{pos:Pos}
def kU.or{r bW:ft}(h:kU X r)(h':kU X bW):kU X (λx y H Q=>r x y H Q\/bW x y H Q):=by
 intro value slice pins s σ H x y v u Q I bg bI q ab;rcases q with q|q
 .exact h value slice pins s σ H x y v u Q I bg bI q ab
 .exact h' value slice pins s σ H x y v u Q I bg bI q ab
def RT{r:ft}(a7:kU X r)(ax:aO X a cu)(ae:aO X b cW)(ab:vR b):aO X (.Subscript a b pos) (so r cu cW):=by
 intro pins s σ H Q I h;exact Subscript_ (wX ax ae I h λv u s2 x y aY cM bg bI q=>a7 a b pins s2 σ aY x y v u Q cM bg bI q (ab _ _))
noncomputable def F1(K:W.Frag):ft:=λx y H Q=>∃p xs i v,x=.ref p/\y=.int i/\eF K H p xs/\ny xs i=some v/\Q v H
noncomputable def F3(K:W.Frag):ft:=λx y H Q=>∃p xs i v,x=.ref p/\y=.int i/\fR K H p xs/\ny xs i=some v/\Q v H
noncomputable def F2:ft:=λx y H Q=>∃z i c,x=.str z/\y=.int i/\z.length<=sizeLine/\ny z.cps.toList i=some c/\Q (.str ⟨#[c]⟩) H
def Pz:kU X (F1 X.K):=by
 intro value slice pins s σ H x y v u Q I bg bI h ab;obtain⟨p,xs,i,z,rfl,rfl,aJ,he,q⟩:=h;cases bg;obtain⟨t,rfl⟩:=bI;obtain⟨its,r,c7,hz⟩:=I.list aJ;obtain⟨j,J,aa,aI,aX,cc⟩:=v9 he;obtain⟨w,te,ic⟩:=r.get aa;have aw:=r.length;have aB:=uh;have fin:eJ X pins σ Q w s:=⟨z,H,I,ic,q⟩
 by_cases h0:0<=i
 .have aA:i.toNat=j:=by
   rw[seqIndex_of h0 cc]at J;exact YZ J
  exact item_listR c7.isList h0 (by omega) (by rw[aA];simpa using te) fin ab
 .have aA:(i+(its.toArray.size:Int)).toNat=j:=by
   rw[seqIndex_neg (by omega) aX]at J;rw[Yv,<- aw];exact YZ J
  exact subscriptTail_builtinR (x:=w) c7.isList.typeIs slot_list_getitem.lookup
   (wpAny_getItem_list_neg (Q:=λr s'=>r=w/\eJ X pins σ Q r s') c7.isList (by omega) (by rw[Yv]<;>omega) (by omega) (by rw[aA];simpa using te) ⟨rfl,fin⟩) ab
def PD:kU X (F3 X.K):=by
 intro value slice pins s σ H x y v u Q I bg bI h ab;obtain⟨p,xs,i,z,rfl,rfl,aJ,he,q⟩:=h;cases bg;obtain⟨t,rfl⟩:=bI;obtain⟨its,r,c7,hz⟩:=I.tuple aJ;obtain⟨j,J,aa,aI,aX,cc⟩:=v9 he;obtain⟨w,te,ic⟩:=r.get aa;have aw:=r.length;have aB:=uh;have fin:eJ X pins σ Q w s:=⟨z,H,I,ic,q⟩;exact subscriptTail_builtinR (x:=w) c7.typeIs slot_tuple_getitem.lookup
  (getItem_tuple (j:=j) (Q:=λr s'=>r=w/\eJ X pins σ Q r s') c7 (by omega) (by omega) (by rw[Yv,<- aw];exact J) (by simpa using te) ⟨rfl,fin⟩) ab
def PC:kU X F2:=by
 intro value slice pins s σ H x y v u Q I bg bI h ab;obtain⟨z,i,c,rfl,rfl,hz,he,q⟩:=h;obtain⟨t,rfl⟩:=bg;obtain⟨t',rfl⟩:=bI;obtain⟨j,J,aa,aI,aX,cc⟩:=v9 he;have aw:z.cps.toList.length=z.length:=by simp[Str.length]
 rw[aw]at J aX cc;have aB:=uh;exact tail_any (typeIs_str s z t) slot_str_getitem.lookup (getItem_str (c:=c) (by
  have ai:decide (i < -(2 ^ 63:Int))=false:=decide_eq_false (by omega);have av:decide (i>=2 ^ 63)=false:=decide_eq_false (by omega);rw[ai,av,Bool.or_false]) (by rw[J];simpa using aa) ⟨.str ⟨#[c]⟩,H,I.tok _,⟨_,rfl⟩,q⟩) ab
noncomputable def SR(K:W.Frag):ft:=λx y H Q=>F1 K x y H Q\/F3 K x y H Q\/F2 x y H Q
def PB:kU X (SR X.K):=Pz.or (PD.or PC)
def UR(lo hi:Option Int)(n:Nat):(sliceBounds lo hi none n).1=((di.bU n 0 lo:Nat):Int)/\(sliceBounds lo hi none n).2.1=((di.bU n n hi:Nat):Int)/\(sliceBounds lo hi none n).2.2=1:=by
 refine⟨?_,?_,rfl⟩
 .cases lo with
  |none=>simp[sliceBounds,di.bU]
  |some i =>
   simp only[sliceBounds,di.bU,Option.getD_none,show(1:Int)>0 by decide,Zo]
   by_cases h:i<0
   .simp only[h,Zo]<;>omega
   .simp only[h,YK]<;>omega
 .cases hi with
  |none=>simp[sliceBounds,di.bU]
  |some i =>
   simp only[sliceBounds,di.bU,Option.getD_none,show(1:Int)>0 by decide,Zo]
   by_cases h:i<0
   .simp only[h,Zo]<;>omega
   .simp only[h,YK]<;>omega
def UQ(its:List Value)(lo hi:Option Int):slicePick its.toArray lo hi none=((its.drop (di.bU its.length 0 lo)).take (di.bU its.length its.length hi-di.bU its.length 0 lo)).toArray:=by
 obtain⟨J,aa,aI⟩:=UR lo hi its.toArray.size;unfold slicePick;rw[J,aa,aI];simp only[sliceRange_one,pick_run,Yv]<;>rfl
noncomputable def SV(K:W.Frag):V->Option Int->Option Int->az->de->Prop:=λx lo hi H Q=>∃a xs,x=.ref a/\eF K H a xs/\∀p,H p=none->Q (.ref p) (upd H p (.lst (k3 xs lo hi)))
def UN:qB X (SV X.K):=by
 intro pins s σ H x v fF fG lo hi cn Q I bg ab c7 pu h;obtain⟨a,xs,rfl,ag,q⟩:=h;cases bg;obtain⟨its,r,aW,hz⟩:=I.list ag;have hlen:=r.length;refine⟨"list",_,slot_list_getitem.lookup,aW.isList.typeIs,?_⟩;refine wpAny_getItem_list_slice aW.isList ab c7 pu .none (by simp) ?_ (by rw[Yv]<;>omega);rw[UQ,<- hlen];refine⟨.ref s.heap.objs.size,_,I.laid (t':=s.toks) (o:=.lst (k3 xs lo hi)) (λb bT q=>Yh _ q) (Yi _) ?_,rfl,q _ (I.bM.fresh (Yi _))⟩;exact⟨Zk (BN xs lo hi) hz,_,0,(r.drop (di.bU xs.length 0 lo)).take (di.bU xs.length xs.length hi-di.bU xs.length 0 lo),Yx _ rfl⟩
def Bq:gX X (.builtin "len") (λxs H Q=>∃p ys,xs=[.ref p]/\(eF X.K H p ys\/fR X.K H p ys)/\Q (.int ys.length) H):=by
 intro pins s σ H xs us Q I r h;obtain⟨p,ys,rfl,aJ,q⟩:=h;obtain⟨u,rfl,bg⟩:=vals1 r;cases bg;have aB:=uh;rcases aJ with aJ|aJ
 .obtain⟨its,bW,c7,hz⟩:=I.list aJ;have hlen:=bW.length;exact Calls.call_len_list c7.isList (by simp only[Yv]<;>omega) ⟨.int ys.length,H,I.tok _,⟨s.toks+1,by rw[Yv,hlen]⟩,q⟩
 .obtain⟨its,bW,c7,hz⟩:=I.tuple aJ;have hlen:=bW.length;exact len_tuple c7 (by simp only[Yv]<;>omega) ⟨.int ys.length,H,I.tok _,⟨s.toks+1,by rw[Yv,hlen]⟩,q⟩
def Br:gX X (.type "list") (λxs H Q=>∃p ys,xs=[.ref p]/\(eF X.K H p ys\/fR X.K H p ys)/\∀l,H l=none->Q (.ref l) (upd H l (.lst ys))):=by
 intro pins s σ H xs us Q I r h;obtain⟨p,ys,rfl,aJ,q⟩:=h;obtain⟨u,rfl,bg⟩:=vals1 r;cases bg;have fin:∀(its:List Value),Vals ys its->ys.length<=sizeLine->∀(h':Heap)(cN:Nat),(∀b bH,s.heap.get? b=some bH->h'.get? b=some bH) ->
   h'.get? s.heap.objs.size=some { cls:=.type "list",dict:=none,data:=.seq its.toArray cN,slots:=#[] }->eJ X pins σ Q (.ref s.heap.objs.size) { s with heap:=h' }:=λits bW hz h' cN jj e =>
  ⟨.ref s.heap.objs.size,_,I.laid (t':=s.toks) jj (Yi _) (show dG X.prog X.w _ h' _ (.lst ys) from⟨hz,its,cN,bW,e⟩),rfl,q _ (I.bM.fresh (Yi _))⟩
 rcases aJ with aJ|aJ
 .obtain⟨its,bW,c7,hz⟩:=I.list aJ;have hlen:=bW.length;obtain⟨o,ay,aj,n,hd⟩:=c7.isList;exact call_list_seq p (.inl rfl) ay aj hd (λh' cN jj e=>fin its bW hz h' cN jj e) (by simp only[Yv]<;>omega)
 .obtain⟨its,bW,c7,hz⟩:=I.tuple aJ;have hlen:=bW.length;obtain⟨o,ay,aj,n,hd⟩:=c7;exact call_list_seq p (.inr rfl) ay aj hd (λh' cN jj e=>fin its bW hz h' cN jj e) (by simp only[Yv]<;>omega)
def Bs:gX X (.type "tuple") (λxs H Q=>∃p ys,xs=[.ref p]/\((eF X.K H p ys/\∀l,H l=none->Q (.ref l) (upd H l (.tup ys)))\/(fR X.K H p ys/\Q (.ref p) H))):=by
 intro pins s σ H xs us Q I r h;obtain⟨p,ys,rfl,h⟩:=h;obtain⟨u,rfl,bg⟩:=vals1 r;cases bg;rcases h with⟨aJ,q⟩|⟨aJ,q⟩
 .obtain⟨its,bW,c7,hz⟩:=I.list aJ;have hlen:=bW.length;refine call_tuple_list c7.isList (λh' jj=>?_) (by simp only[Yv]<;>omega);have bb:Inv X pins σ H { s with heap:=h' }:=I.kept (t':=s.toks) jj;have cM:Inv X pins σ (upd H h'.objs.size (.tup ys)) { s with heap:=h'.push { cls:=.type "tuple",data:=.seq its.toArray } } :=
   bb.laid (t':=s.toks) (λb o e=>Yh _ e) (Yi _) (show dG X.prog X.w _ _ _ (.tup ys) from⟨hz,its,bW,IsTup.new _ _⟩)
  exact⟨.ref h'.objs.size,_,cM,rfl,q _ (bb.bM.fresh (Yi _))⟩
 .obtain⟨its,bW,c7,hz⟩:=I.tuple aJ;exact call_tuple_same c7 ⟨.ref p,H,I,rfl,q⟩
noncomputable def Hx(K:W.Frag)(T:String)(x:V)(H:az):Prop:=match x with
 |.str _=>T="str"
 |.int _=>T="int"
 |.ref p=>(T="list"/\∃xs,eF K H p xs)\/(T="tuple"/\∃o,K.lookup p=some o/\o.cls=.type "tuple"/\o.dict=none) \/
   (T="dict"/\((∃ak,H p=some (.dN ak))\/∃ak,H p=some (.d5 ak)))\/(T="set"/\∃S n,H p=some (.set S n))
 |_=>False
def Wv{pins:List (Addr×Obj)}{σ:St}{H:az}{s:Shared}{T:String}{x:V}{v:Value}(I:Inv X pins σ H s)(r:RelV x v)(ty:Hx X.K T x H):
  s.TypeIs v T/\∀a,v=.ref a->∃bT,s.heap.get? a=some bT/\bT.dict=none:=by
 cases x with
 |str z =>
  obtain⟨t,rfl⟩:=r;cases (show T="str" from ty);exact⟨typeIs_str s z t,λ_ e=>nomatch e⟩
 |int i =>
  obtain⟨t,rfl⟩:=r;cases (show T="int" from ty);exact⟨typeIs_int s i t,λ_ e=>nomatch e⟩
 |ref p =>
  cases r;rcases ty with⟨rfl,xs,aJ⟩|⟨rfl,o,au,aj,hd⟩|⟨rfl,au⟩|⟨rfl,S,n,au⟩
  .obtain⟨its,_,c7,_⟩:=I.list aJ;refine⟨c7.isList.typeIs,λa e=>?_⟩;cases e;obtain⟨o,n,e,c,hd,_⟩:=c7;exact⟨o,e,hd⟩
  .refine⟨⟨o,I.f6 p o au,aj⟩,λa e=>?_⟩;cases e;exact⟨o,I.f6 _ o au,hd⟩
  .have z:∃o,s.heap.get? p=some o/\o.ExactDict:=by
    rcases au with⟨ak,au⟩|⟨ak,au⟩
    .obtain⟨_,_,_,_,o,_,_,e,ex,_⟩:=I.bM p _ au;exact⟨o,e,ex⟩
    .obtain⟨_,_,_,_,o,_,_,e,ex,_⟩:=I.bM p _ au;exact⟨o,e,ex⟩
   obtain⟨o,e,ex⟩:=z;refine⟨⟨o,e,ex.1⟩,λa av=>?_⟩;cases av;exact⟨o,e,ex.2.1⟩
  .obtain⟨o,_,_,_,e,ex,_⟩:=I.bM p _ au;refine⟨⟨o,e,ex.1⟩,λa av=>?_⟩;cases av;exact⟨o,e,ex.2.1⟩
 |_=>exact False.elim ty
noncomputable def Vk(K:W.Frag)(T:String)(r:V->List V->az->de->Prop)(to:TE)(t:fS):TE:=λσ H Q=>to σ H λx H1=>Hx K T x H1/\t σ H1 λxs aY=>r x xs aY Q
variable{o e:Expr}{ah:List Expr}{to:TE}{t:fS}{name:Str}{apos gi:Pos}{T id:String}{r:V->List V->az->de->Prop}
def zd(Fy:PlainAttrs T)(slot:Slot T name id)(OS:typeOf (.builtin id)=pure (.type "method_descriptor"))(hm:Ih X id r)(ay:aO X o to)(ax:fQ X (e::ah) t)(Nx:attributeBase o name X.env (eval o X.env)=eval o X.env:=by rfl)(NN:((backTo gi (starEach (e::ah) X.env)).all (λx=>!x.1)&&(backToKw gi (keywordEach [] X.env)).all (λx=>x.1.isSome)
   && decide ((e::ah).length+([]:List Keyword).length+(if ([]:List Keyword).isEmpty then 0 else 1)<30))=true:=by rfl)(lu:(apos.endLine==gi.line)=true:=by rfl)(ab:starEach (e::ah) X.env=(false,eval e X.env)::starEach ah X.env:=by rfl)(OD:(backTo gi (starEach ah X.env)).any (·.1)=false:=by rfl):
  aO X (.Call (.Attribute o name apos) (e::ah) [] gi) (Vk X.K T r to t):=by
 intro pins s σ H Q I h;refine wpAny_Call_method_late Nx NN lu rfl (bO (ay pins s σ H _ I h) λv s1 ⟨x,H1,bb,aH,ty,aP⟩=>?_);obtain⟨J,aa⟩:=Wv bb aH ty;refine⟨T,id,Fy,slot,OS,J,aa,?_⟩;have rg:=ax gi pins s1 σ H1 _ bb aP;rw[ab]at rg ⊢;refine Calls.callWith_builtin (by show(false||(backTo gi (starEach ah X.env)).any (·.1))=false;rw[OD]<;>rfl) (Calls.evalArgs_plain ?_);exact bO rg λus s2 ⟨af,aY,cM,a5,a9⟩=>hm pins s2 σ aY x af v us Q cM aH a5 a9
end
end bJ
namespace bJ
open PySem PySem.Spec PyProof.Rows
noncomputable def vL(X:aU)(id:String)(r:V->List V->az->de->Prop):Prop :=
 ∀(pins:List (Addr×Obj))(s:Shared)(σ:St)(H:az)(x:V)(xs:List V)(v:Value)(us:List Value)(Q:de),Inv X pins σ H s->RelV x v->Vals xs us->r x xs H Q ->
  wpAny (model X.prog X.w) X.A (call (.builtin id) (v::us)) (eJ X pins σ Q) X.cA s
def Vals.one:∀{x:V}{us:List Value},Vals [x] us->∃u,us=[u]/\RelV x u
 |_,_,.cons r .nil=>⟨_,rfl,r⟩
theorem Vals.rep{xs:List V}{us:List Value}(h:Vals xs us):∀k:Nat,Vals (List.replicate k xs).flatten (List.replicate k us).flatten
 |0=>.nil
 |k+1=>by
  rw[ZI,ZI,Z9,Z9];exact Vals.append h (Vals.rep h k)
theorem foldl_rep(its:List Value):∀(k:Nat)(acc:List Value),
  List.foldl (λaR bF=>aR++bF) acc.toArray (List.replicate k its.toArray)=(acc++(List.replicate k its).flatten).toArray
 |0,acc=>by simp
 |k+1,acc=>by
  have e:acc.toArray++its.toArray=(acc++its).toArray:=(by simp);have av:(acc++its)++(List.replicate k its).flatten=acc++(List.replicate (k+1) its).flatten:=by
   rw[ZI,Z9,Yr]
  rw[<- av,<- foldl_rep its k (acc++its),<- e,ZI,List.foldl_cons]
section
variable{X:aU}{pins:List (Addr×Obj)}{σ:St}{H:az}{s:Shared}{l b:Addr}{xs ys zs:List V}
def Inv.ED{its its':List Value}{n:Nat}{f:Array Value->Array Value}{t':Nat}(I:Inv X pins σ H s)(gL:H l=some (.lst xs))(e:s.heap.get? l=some { cls:=.type "list",data:=.seq its.toArray n })(hf:f its.toArray=its'.toArray)(aV:Vals ys its')(hz:ys.length<=sizeLine):
  Inv X pins σ (upd H l (.lst ys)) { s with heap:=s.heap.update l (Obj.mapSeq f),toks:=t' }:=by
 have q:=PySem.IsL.update e f;rw[hf]at q;refine I.write (x:=l) (e:=l) (by rw[gL];exact trivial) (.inl rfl) (λik u ae bz=>(Zq s.heap (Obj.mapSeq f) (ZK ae)).trans bz) ⟨_,q⟩ ?_;exact⟨hz,its',_,aV,q⟩
def Inv.Ez{its:List Value}{t':Nat}(I:Inv X pins σ H s)(aV:Vals ys its)(hz:ys.length<=sizeLine):
  Inv X pins σ (upd H s.heap.objs.size (.lst ys)) { s with heap:=s.heap.push { cls:=.type "list",data:=.seq its.toArray },toks:=t' } :=
 I.laid (λ_ _ q=>Yh _ q) (Yi _) ⟨hz,its,0,aV,Yx _ rfl⟩
theorem Inv.fresh(I:Inv X pins σ H s):H s.heap.objs.size=none:=I.bM.fresh (Yi _)
def Inv.EE(I:Inv X pins σ H s)(gL:H l=some (.lst xs)):xs.length<=sizeLine/\∃(its:List Value)(n:Nat),Vals xs its/\xs.length=its.length/\s.heap.get? l=some { cls:=.type "list",data:=.seq its.toArray n }:=by
 obtain⟨z,its,n,r,e⟩:=I.bM l _ gL;exact⟨z,its,n,r,r.length,e⟩
def Fj{n:Nat}(h:n<=sizeLine):Builtin.List.listTooLong n=false:=by
 unfold Builtin.List.listTooLong;exact decide_eq_false (by omega)
end
section
variable{X:aU}
noncomputable def SP:V->List V->az->de->Prop:=λx af H Q=>∃l xs y,x=.ref l/\af=[y]/\H l=some (.lst xs)/\xs.length<sizeLine/\Q .dr (upd H l (.lst (xs++[y])))
def E1:vL X "list.append" SP:=by
 intro pins s σ H x af v us Q I bg cb h;obtain⟨l,xs,y,rfl,rfl,gL,hz,q⟩:=h;cases bg;obtain⟨u,rfl,c4⟩:=cb.one;obtain⟨z,its,n,r,aw,e⟩:=I.EE gL;refine ab4 F.slot_list_append ⟨_,e,rfl⟩ F.entry_list_append (F.args_list_append_2 _ _) (PySem.list_append l its.toArray n u (by rw[Yv];omega)) ⟨e,?_⟩;refine⟨.dr,_,I.ED (its':=its++[u]) gL e (by simp) (r.append (.cons c4 .nil)) ?_,rfl,q⟩;rw[Yj,List.length_singleton];omega
def len_rep{α:Type}(xs:List α)(k:Nat):(List.replicate k xs).flatten.length=k*xs.length:=by
 induction k with
 |zero=>simp
 |succ k aF=>rw[ZI,Z9,Yj,aF,Nat.succ_mul,acg]
end
section
variable{prog:Program}{w:World}{A:Around}{E:Value->Shared->Prop}{s:Shared}
end
section
variable{X:aU}
end
end bJ
namespace Ax
open PySem PySem.W PySem.Calls PyProof.Rows
def Pl{P:Params}{h:Heap}:∀(ns:List Int)(af:List Value),WellAll P h af (ns.map WData.int)->IntsAre af ns:=by
 intro ns
 induction ns with
 |nil =>
  intro af w;rw[Z8]at w;cases w;exact .nil
 |cons n ns aF =>
  intro af w;rw[List.map_cons]at w;cases w with
  |cons a b =>
   cases a;exact .cons _ _ (aF _ b)
def Uq{l:OpenLaw}{n:Nat}(aB:l.most=some n){P:Params}{h:Heap}{args:List WData}{vals:List Value}(tV:l.row.toRowW.claim.pre args=true)(ry:WellAll P h vals args):
  ∃a af ns,vals=[Value.ref a]/\args=[WData.list (ns.map WData.int)]/\h.get? a=some { cls:=.type "list",data:=.seq af.toArray }/\IntsAre af ns/\ns.length<=n:=by
 have ly:WShape.hasAll [] args [.list .int]=true:=(pre_splitW tV).1;have aj:l.pre.holds [] { args:=args }=true:=(pre_splitW tV).2;obtain⟨d,r,rfl,J,aa⟩:=hasAllW_cons ly;obtain rfl:=hasAllW_nil aa;obtain⟨xs,rfl,aI⟩:=hasW_list J;obtain⟨ns,rfl⟩:=items_int aI;have hlen:ns.length<=n:=by
  unfold OpenLaw.pre at aj;have aX:(WTm.not (.lt (.lit (.int (n:Int))) (.len (.arg 0)))).holds [] { args:=[.list (ns.map .int)] }=true:=by
   have aX:=(holds_andW aj).1;rw[aB]at aX;exact aX
  have cc:=condW_of aX (w_not (w_lt w_lit (w_len_list (w_arg rfl))));rw[List.length_map]at cc;refine aaD λq=>?_
  have c2:(n:Int)<((ns.length:Nat):Int):=by omega
  first
   |(rw[decide_eq_true c2]at cc;exact absurd cc (by decide))
   |(simp at cc;omega)
 cases ry with
 |cons ih j4 =>
  cases j4;cases ih with
  |list ay f3=>exact⟨_,_,ns,rfl,rfl,ay,Pl ns _ f3,hlen⟩
def Ss(l:OpenLaw)(args:List WData):l.row.toRowW.claim.post args (.bool true) args=true :=
 postW_of (r:=l.row.toRowW) (X:=(true==true))
  (show WShape.has [] (.bool true) .bool=true by first|rfl|decide|simp[WShape.has,WShape.arms,WShape.armsAll])
  (show(WTm.eq .res (.lit (.bool true))).value [] { args:=args,res:=some (.bool true),after:=args }=some (.bool (true==true)) from w_eq_bool (w_res rfl) w_lit) rfl
def I3{l:OpenLaw}{n:Nat}{q:Program}{loose:List Str}{cw:(Str->Option Value)->Heap->Prop}{mf:World->Heap->Prop}{d:DefRec}(aB:l.most=some n)(rk:d.params.defaults=[])(call:∀(w:World)(fq cS:Shared)(aK jl:Str->Option Value)(bo:Addr)(o:Obj)(pm cd doc:Value)(a:Addr)(af:List Value)(ns:List Int),
   Ground q loose [] cw w fq aK jl cS.heap->mf w cS.heap ->
   cS.heap.get? bo=some o->o.data=.func (docDef d.name d.params d.body d.scope pm cd doc)->cS.heap.CodeRec cd d.name->aK d.name=some (.ref bo) ->
   cS.heap.get? a=some { cls:=.type "list",data:=.seq af.toArray }->IntsAre af ns->ns.length<=n->cS.gens=#[] ->
   codeAny (model l.prog w) callerA (.call (.ref bo) ⟨[.ref a],[]⟩) (λr s'=>r=.ok (.ret (.bool true))/\OldK cS.heap s'.heap/\s'.os=cS.os/\AllBare s'.gens) cS):
  WalkO q loose cw mf l.row.toRowW d [] (λf af=>PySem.call f af):=by
 intro w fq cS aK jl G Y bo o pm cd doc sZ dn ay hd lp pb ro a4 args vals as tV XE XS ry XG;obtain rfl:sZ=.none:=Dflts.none pb rk;obtain rfl:dn=.none:=Dflts.noKw pb;obtain⟨a,af,ns,rfl,rfl,yk,hints,hlen⟩:=Uq aB tV ry;refine enter_call (aby (call w fq cS aK jl bo o pm cd doc a af ns G Y ay (fd_plain hd) lp ro yk hints hlen a4) λr s' aJ=>?_);obtain⟨rfl,aa,aI,aX⟩:=aJ;exact⟨.inl ⟨.bool true,.bool true,[],rfl,λ_=>rfl,.bool true,Ss l _,λ_=>⟨List.Pairwise.nil,λ_ hm=>(nomatch hm)⟩⟩,aa,aI,aX⟩
section
variable{prog:Program}{w:World}{A:Around}{E:Value->Shared->Prop}{s:Shared}{K:Frag}
end
end Ax
namespace bJ
open PySem PySem.Spec PyProof.Rows
theorem HQ:∀{af:List Value}{ns:List Int},IntsAre af ns->Vals (ns.map V.int) af
 |_,_,.nil=>.nil
 |_,_,.cons n t h=>.cons ⟨t,rfl⟩ (HQ h)
noncomputable def vO(H:az):Prop:=∀b,H b=none\/∃o xs,H b=some (.eg o (.lst xs))
def P5{P:Program}{w:World}{K:W.Frag}{aK jl:Str->Option Value}{CX:ju}{k:Nat}{bo a:Addr}{fd:FuncData}{x:Str}{sp:mc}{cS:Shared}{af:List Value}{ns:List Int}(i0:K.In cS.heap)(ps:cS.heap.Ns mainGlobals aK)(ae:cS.heap.Ns builtinsNs jl)(hJ:∀x:Str,x≠"__name__"->jl x=bootBuiltins x)(Od:cS.heap.NoLimit)(a4:cS.gens=#[])(ax:cS.heap.get? a=some { cls:=.type "list",data:=.seq af.toArray })(hi:IntsAre af ns)(aw:ns.length<=sizeLine)(a7:gg k callerA)(F:∀base:Heap,K.In base->base.Ns mainGlobals aK->ka P w K aK base CX k bo fd [x] sp)(x5:∀(s:Shared)(u:Value),BindsTo s fd ⟨[u],[]⟩ [(x,u)])(px:∀H:az,vO H->eF K H a (ns.map V.int)->sp [.ref a] H (λv _=>v=.aT true) λ_ _ _=>False)(xT:∀H e s',CX [] H cS (λ_ _ _=>False) e s'->False):
  codeAny (model P w) callerA (.call (.ref bo) ⟨[.ref a],[]⟩) (λr s'=>r=.ok (.ret (.bool true))/\OldK cS.heap s'.heap/\s'.os=cS.os/\AllBare s'.gens) cS:=by
 have cb:=HQ hi;have Qf:=hi.length;have core:∀H:az,vO H->eF K H a (ns.map V.int)->ep P w H cS.heap->(∀b,H b≠none->b=a)->(H a≠none->K.lookup a=none) ->
   codeAny (model P w) callerA (.call (.ref bo) ⟨[.ref a],[]⟩) (λr s'=>r=.ok (.ret (.bool true))/\OldK cS.heap s'.heap/\s'.os=cS.os/\AllBare s'.gens) cS:=by
  intro H pe a6 bM rg g9;have Bd:∀{b:Addr}{o:Obj},cS.heap.get? b=some o->H b=none->(lr cS.heap H).get? b=some o:=λe n=>NZ e n
  have rY:∀{b:Addr}{o:Obj}{ah:Array DictEntry}{ba:Nat},cS.heap.get? b=some o->o.data=.dict ah ba->H b=none:=λ{b o ah ba} e d=>by
   cases q:H b with
   |none=>rfl
   |some u =>
    have bq:b=a:=rg b (by rw[q];simp);subst bq;rw[ax]at e;cases e;have d':Data.seq af.toArray _=Data.dict ah ba:=d;cases d'
  have ux:∀{b:Addr}{m:Str->Option Value},cS.heap.Ns b m->(lr cS.heap H).Ns b m:=λ{b m} ⟨o,ah,ba,e,d,r⟩=>⟨o,ah,ba,Bd e (rY e d),d,r⟩;have Dh:K.In (lr cS.heap H):=λb o e=>Bd (i0 b o e) (by
   cases q:H b with
   |none=>rfl
   |some u =>
    have bq:b=a:=rg b (by rw[q];simp);subst bq;rw[g9 (by rw[q];simp)]at e;cases e)
  have fy:Mod K aK (lr cS.heap H):=⟨Dh,ux ps,⟨jl,ux ae,hJ⟩,let ⟨QD,J,aa⟩:=Od;⟨QD,ux J,aa⟩⟩;have dD:sH P w K aK (lr cS.heap H) callerA [] cS H:=⟨rfl,fy,λb o e=>Ri e,Nat.le_of_eq (N0 _ _),trivial,λb ae=>absurd (show b∈([]:List Addr) from ae) (by simp),bM,.of_eq a4⟩;refine aby ((F _ Dh (ux ps)).run callerA [] cS H ⟨[.ref a],[]⟩ [.ref a] [.ref a] _ _ a7 dD (x5 cS (.ref a)) (.cons rfl .nil) (px H pe a6)) λr s' h=>?_
  cases r with
  |error e=>exact(xT H e s' h).elim
  |ok gK =>
   cases gK with
   |next=>exact False.elim h
   |brk=>exact False.elim h
   |cont=>exact False.elim h
   |ret u =>
    obtain⟨v,aq,os,bare,un,yl,bW,q⟩:=h;have c2:v=.aT true:=q;subst c2;obtain rfl:u=Value.bool true:=bW;refine⟨rfl,OldK.of_keep λb o e=>?_,os,bare⟩;cases q:H b with
    |none=>exact un.keep b o e q (by intro z;exact absurd (show b∈([]:List Addr) from z) (by simp)) (by simp)
    |some u =>
     rcases pe b with z|⟨bT,xs,z⟩
     .rw[q]at z;cases z
     .have cC:=un.jI b bT _ z;obtain⟨ai,_⟩:=bM b _ z;obtain⟨av,_⟩:=yl b _ cC;rw[e]at ai;cases ai;exact av
 cases au:K.lookup a with
 |some o =>
  have e:=i0 a o au;rw[ax]at e;cases e;refine core (λ_=>none) (λ_=>.inl rfl) (.inr ⟨_,af.toArray,_,au,rfl,rfl,rfl,by rw[Yv,Qf];exact aw,by simpa using cb⟩) (λb u z=>by have gd:(none:Option dJ)=some u:=z;cases gd) (λb z=>absurd rfl z) λz=>absurd rfl z
 |none =>
  refine core (λb=>if b=a then some (.eg { cls:=.type "list",data:=.seq af.toArray } (.lst (ns.map V.int))) else none) (λb=>?_) (.inl (.inr ⟨{ cls:=.type "list",data:=.seq af.toArray },if_pos rfl⟩)) (λb u z=>?_) (λb z=>?_) λ_=>au
  .by_cases ae:b=a
   .exact .inr ⟨_,_,if_pos ae⟩
   .exact .inl (if_neg ae)
  .by_cases ae:b=a
   .have gd:=(if_pos ae).symm.trans z;cases gd;subst ae;exact⟨ax,by rw[List.length_map];exact aw,af,_,cb,ax⟩
   .have gd:=(if_neg ae).symm.trans z;cases gd
  .by_cases ae:b=a
   .exact ae
   .exact absurd (if_neg ae) z
end bJ
namespace bJ
open PySem PySem.Spec PyProof.Rows
noncomputable abbrev AD{K:W.Frag}{h:Heap}(_:K.In h):W.Frag:=K
def WU{l:PySem.W.OpenLaw}{n k:Nat}{q:Program}{loose:List Str}{cw:(Str->Option Value)->Heap->Prop}{mf:World->Heap->Prop}{d:DefRec}{K:Params->W.Frag}{CX:World->ju}{sp:World->mc}{x:Str}(aB:l.most=some n)(Ol:n<=sizeLine)(rk:d.params.defaults=[])(a7:gg k callerA)(gE:∀(w:World)(h:Heap),mf w h->(K w.params).In h)(F:∀(w:World)(aK:Str->Option Value)(bo:Addr)(h:Heap),(K w.params).In h->h.Ns mainGlobals aK->aK d.name=some (.ref bo) ->
   ∃fd:FuncData,(∀(s:Shared)(u:Value),BindsTo s fd ⟨[u],[]⟩ [(x,u)]) /\
    ∀base:Heap,(K w.params).In base->base.Ns mainGlobals aK->ka l.prog w (K w.params) aK base (CX w) k bo fd [x] (sp w))(px:∀(w:World)(H:az)(a:Addr)(ns:List Int),ns.length<=n->vO H->eF (K w.params) H a (ns.map V.int)->sp w [.ref a] H (λv _=>v=.aT true) λ_ _ _=>False)(xT:∀(w:World)(H:az)(s:Shared)(e:Value)(s':Shared),CX w [] H s (λ_ _ _=>False) e s'->False):
  PySem.W.WalkO q loose cw mf l.row.toRowW d [] (λf af=>PySem.call f af):=by
 refine Ax.I3 aB rk λw fq cS aK jl bo o pm cd doc a af ns G Y ay hd lp ro yk hints hlen a4=>?_
 have i0:=gE w _ Y;obtain⟨fd,ae,pd⟩:=F w aK bo _ i0 G.T.g ro;exact P5 i0 G.T.g G.T.b G.T.builtins G.T.nolimit a4 yk hints (Zk hlen Ol) a7 pd ae (λH pe a6=>px w H a ns hlen pe a6) λH e s'=>xT w H cS e s'
end bJ
namespace bJ
open PySem PySem.Spec PyProof.Rows
noncomputable def hB(s:Stmt):Arguments:=match s with
 |.FunctionDef _ a _ _ _ _ _ _ _ _=>a
 |_=>{ posonlyargs:=[],args:=[],vararg:=none,kwonlyargs:=[],kw_defaults:=[],kwarg:=none,defaults:=[] }
noncomputable def k5(s:Stmt):List Stmt:=match s with
 |.FunctionDef _ _ b _ _ _ _ _ _ _=>b
 |_=>[]
noncomputable def hZ(s:Stmt):Scope:=match s with
 |.FunctionDef _ _ _ _ _ _ sc _ _ _=>sc
 |_=>{ kind:=.function,names:=[],isGenerator:=false,isCoroutine:=false }
structure qq(K:W.Frag)(x qual:Str)(st:Stmt)(f:Addr)(fd:FuncData):Prop where
 ex:∃(f7:Value)(bk:Option Addr)(dn doc pm:Value)(an:Option Addr)(d4 ct:Value)(fN:Array (Option Value)),
  fd=W.fnOf x qual (hB st) (k5 st) (hZ st) .none dn doc pm an d4 ct/\K.lookup f=some ⟨f7,bk,.func fd,fN⟩/\W.codeIn K d4 qual=true
 jj:W.keepIn K (.ref f)=true
section
variable{P:Program}{w:World}{K:W.Frag}{aK:Str->Option Value}{base:Heap}
def qq.binds{x qual:Str}{st:Stmt}{f:Addr}{fd:FuncData}{a8:List Str}(F:qq K x qual st f fd)(h:∀(dn doc pm:Value)(an:Option Addr)(d4 ct:Value)(us:List Value),us.length=a8.length->bindArgs (W.fnOf x qual (hB st) (k5 st) (hZ st) .none dn doc pm an d4 ct) ⟨us,[]⟩=pure (a8.zip us)):Binds K fd a8 []:=by
 obtain⟨f7,bk,dn,doc,pm,an,d4,ct,fN,rfl,lk,lp⟩:=F.ex;exact .all (h dn doc pm an d4 ct)
def CP{x qual:Str}{st:Stmt}{f:Addr}{f7:Value}{bk an:Option Addr}{fN:Array (Option Value)}{dn doc pm d4 ct:Value}(l:K.lookup f=some ⟨f7,bk,.func (W.fnOf x qual (hB st) (k5 st) (hZ st) .none dn doc pm an d4 ct),fN⟩)(c:W.codeIn K d4 qual=true)(k:W.keepIn K (.ref f)=true):qq K x qual st f (W.fnOf x qual (hB st) (k5 st) (hZ st) .none dn doc pm an d4 ct):=⟨⟨f7,bk,dn,doc,pm,an,d4,ct,fN,rfl,l,c⟩,k⟩
end
section
variable{X:aU}
end
noncomputable def bV(H aq:az):Prop:=∀b o,H b=some o->aq b=some o
def bV.refl(H:az):bV H H:=λ_ _ h=>h
def bV.trans{H H1 aY:az}(a:bV H H1)(b:bV H1 aY):bV H aY:=λc o h=>b c o (a c o h)
def bV.free{H aq:az}(e:bV H aq){l:Addr}(h:aq l=Option.none):H l=Option.none:=by
 cases q:H l with
 |none=>rfl
 |some o =>
  rw[e l o q]at h;cases h
end bJ
end
section
set_option Elab.async false
set_option linter.all false
set_option maxRecDepth 100000
namespace bJ
open PySem PySem.Spec PyProof.Rows
section
variable{κ:Type}[DecidableEq κ]
noncomputable def ig(ak:List (κ×V))(k:κ):Option V:=(ak.find? λda=>decide (da.1=k)).map (·.2)
noncomputable def putK(ak:List (κ×V))(k:κ)(v:V):List (κ×V) :=
 if (ak.any λda=>decide (da.1=k))=true then ak.map (λda=>if da.1=k then(da.1,v) else da) else ak++[(k,v)]
def Ap{p:κ×V}{r:List (κ×V)}{k:κ}(e:p.1=k):ig (p::r) k=some p.2:=by simp[ig,List.find?_cons,e]
def Ao{p:κ×V}{r:List (κ×V)}{k:κ}(e:¬p.1=k):ig (p::r) k=ig r k:=by simp[ig,List.find?_cons,e]
theorem HP(k:κ):∀ak:List (κ×V),(ak.any λda=>decide (da.1=k))=(ig ak k).isSome
 |[]=>rfl
 |p::r=>by
  rw[List.any_cons]
  by_cases e:p.1=k
  .simp only[Ap e,decide_eq_true e,Bool.true_or,Option.isSome_some]
  .rw[Ao e,decide_eq_false e,Bool.false_or];exact HP k r
def yN(ak:List (κ×V))(k:κ)(v:V):(putK ak k v).length<=ak.length+1:=by
 unfold putK
 split
 .rw[List.length_map];omega
 .rw[Yj,List.length_cons,List.length_nil];omega
def iE.Po{o:Option V}{u:Option Value}(r:iE o u):o.isSome=u.isSome:=by
 cases o with
 |none=>cases u with
  |none=>rfl
  |some _=>exact(show False from r).elim
 |some _=>cases u with
  |none=>exact(show False from r).elim
  |some _=>rfl
theorem iE.getD{o:Option V}{u:Option Value}{d:V}{d':Value}(r:iE o u)(ek:RelV d d'):RelV (o.getD d) (u.getD d'):=by
 cases o with
 |none=>cases u with
  |none=>exact ek
  |some _=>exact(show False from r).elim
 |some _=>cases u with
  |none=>exact(show False from r).elim
  |some _=>exact r
def eW.val{ak:List (κ×V)}{af:List (κ×Value)}(r:eW ak af)(k:κ):iE (ig ak k) (valueAt af k):=by
 unfold eW at r
 induction r with
 |nil=>exact True.intro
 |@cons p q a8 qs h t aF =>
  obtain⟨J,aa⟩:=h
  by_cases e:p.1=k
  .have bq:q.1=k:=J.symm.trans e;have b:valueAt (q::qs) k=some q.2:=(by simp[valueAt,List.find?_cons,bq]);rw[Ap e,b];exact aa
  .have bq:¬q.1=k:=λz=>e (J.trans z)
   have b:valueAt (q::qs) k=valueAt qs k:=(by simp[valueAt,List.find?_cons,bq]);rw[Ao e,b];exact aF
theorem eW.any{ak:List (κ×V)}{af:List (κ×Value)}(r:eW ak af)(k:κ):(ak.any λda=>decide (da.1=k))=af.any λda=>decide (da.1=k):=by
 unfold eW at r
 induction r with
 |nil=>rfl
 |cons h t aF=>rw[List.any_cons,List.any_cons,aF,h.1]
def eW.zu{ak:List (κ×V)}{af:List (κ×Value)}(r:eW ak af)(k:κ){y:V}{u:Value}(bI:RelV y u):
  eW (ak.map λda=>if da.1=k then(da.1,y) else da) (af.map λda=>if da.1=k then(da.1,u) else da):=by
 unfold eW at r ⊢
 induction r with
 |nil=>exact .nil
 |@cons p q a8 qs h t aF =>
  rw[List.map_cons,List.map_cons];refine .cons ?_ aF;obtain⟨J,aa⟩:=h
  by_cases e:p.1=k
  .rw[if_pos e,if_pos (J.symm.trans e)];exact⟨J,bI⟩
  .rw[if_neg e,if_neg (λz=>e (J.trans z))];exact⟨J,aa⟩
def eW.put{ak:List (κ×V)}{af:List (κ×Value)}(r:eW ak af)(k:κ){y:V}{u:Value}(bI:RelV y u):eW (putK ak k y) (stored af k u):=by
 unfold putK stored;rw[r.any k]
 by_cases e:(af.any λda=>decide (da.1=k))=true
 .rw[if_pos e,if_pos e];exact r.zu k bI
 .rw[if_neg e,if_neg e];exact Paired.snoc r ⟨rfl,bI⟩
theorem eW.length{ak:List (κ×V)}{af:List (κ×Value)}(r:eW ak af):ak.length=af.length:=Paired.length r
end
def rK{P:Program}{w:World}{k:Key}{u:Value}(r:RelV (dn k) u):(gQ P w).is k u=true:=by
 cases k with
 |inl i=>obtain⟨t,e⟩:=(show ∃t,u=Value.int i t from r);subst e;exact QM P w i t
 |inr x=>obtain⟨t,e⟩:=(show ∃t,u=Value.str x t from r);subst e;exact QN P w x t
theorem rG{P:Program}{w:World}:∀{ar:List Key}{us:List Value},Vals (ar.map dn) us->ItemsAre (gQ P w) ar us
 |[],_,r=>by rw[Z8]at r;cases r;exact .nil
 |k::ar,_,r=>by
  rw[List.map_cons]at r;cases r with
  |cons h t=>exact .cons (rK h) (rG t)
noncomputable abbrev KT(H:az):List (List Key×V)->List (List Key×Addr×Value)->Prop:=Paired λp q=>p.1=q.1/\H q.2.1=some (.tup (p.1.map dn))/\RelV p.2 q.2.2
def KT.val{H:az}{ak:List (List Key×V)}{xs:List (List Key×Addr×Value)}(r:KT H ak xs)(k:List Key):iE (ig ak k) ((atKey xs k).map (·.2)):=by
 induction r with
 |nil=>exact True.intro
 |@cons p q a8 qs h t aF =>
  obtain⟨J,_,aa⟩:=h
  by_cases e:p.1=k
  .have bq:q.1=k:=J.symm.trans e;have b:atKey (q::qs) k=some q.2:=(by simp[atKey,List.find?_cons,bq]);rw[Ap e,b];exact aa
  .have bq:¬q.1=k:=λz=>e (J.trans z)
   have b:atKey (q::qs) k=atKey qs k:=(by simp[atKey,List.find?_cons,bq]);rw[Ao e,b];exact aF
def KT.zu{H:az}{ak:List (List Key×V)}{xs:List (List Key×Addr×Value)}(r:KT H ak xs)(k:List Key){y:V}{u:Value}(bI:RelV y u):
  KT H (ak.map λda=>if da.1=k then(da.1,y) else da) (xs.map (putAt k u)):=by
 induction r with
 |nil=>exact .nil
 |@cons p q a8 qs h t aF =>
  rw[List.map_cons,List.map_cons];refine .cons ?_ aF;obtain⟨J,aa,aI⟩:=h;unfold putAt
  by_cases e:p.1=k
  .rw[if_pos e,if_pos (J.symm.trans e)];exact⟨J,aa,bI⟩
  .rw[if_neg e,if_neg (λz=>e (J.trans z))];exact⟨J,aa,aI⟩
def KT.put{H:az}{ak:List (List Key×V)}{xs:List (List Key×Addr×Value)}(r:KT H ak xs)(k:List Key){b:Addr}{y:V}{u:Value}(ae:H b=some (.tup (k.map dn)))(bI:RelV y u):
  KT H (putK ak k y) (storedH xs k b u):=by
 have e:(ak.any λda=>decide (da.1=k))=(atKey xs k).isSome:=by
  rw[HP,(r.val k).Po,Option.isSome_map]
 unfold putK storedH;rw[e]
 by_cases q:(atKey xs k).isSome=true
 .rw[if_pos q,if_pos q];exact r.zu k bI
 .rw[if_neg q,if_neg q];exact Paired.snoc r ⟨rfl,ae,bI⟩
def KT.keeps{H aq:az}{ak:List (List Key×V)}{xs:List (List Key×Addr×Value)}(r:KT H ak xs)(aW:∀b ys,H b=some (.tup ys)->aq b=some (.tup ys)):KT aq ak xs :=
 Paired.yX r λ_ _ z=>⟨z.1,aW _ _ z.2.1,z.2.2⟩
section
variable{P:Program}{w:World}{H:az}{h:Heap}{a:Addr}
def F9{u:dJ}(ok:ep P w H h)(e:g0 H a u):dG P w H h a u:=e.ok ok
def qV{ak:List (Key×V)}(ok:ep P w H h)(e:g0 H a (.dN ak)):ak.length<=sizeLine/\(a==sysModules)=false/\∃af,eW ak af/\h.DictOf (gQ P w) a af :=
 show dG P w H h a (.dN ak) from F9 ok e
def B1{ak:List (Key×V)}(ok:ep P w H h)(e:H a=some (.dN ak)):ak.length<=sizeLine/\(a==sysModules)=false/\∃af,eW ak af/\h.DictOf (gQ P w) a af:=qV ok (.inl e)
def ud{ar:List Key}(ok:ep P w H h)(e:H a=some (.tup (ar.map dn))):(tupleKind (gQ P w)).is h ar a:=by
 obtain⟨_,its,r,o,J,aa,n,aI⟩:=(show dG P w H h a (.tup (ar.map dn)) from ok a _ e);exact⟨o,its.toArray,n,J,aa,aI,by simpa using rG r⟩
def qY{ak:List (List Key×V)}(ok:ep P w H h)(e:g0 H a (.d5 ak)):ak.length<=sizeLine/\(a==sysModules)=false /\
  ∃xs,KT H ak xs/\h.DictOfH (tupleKind (gQ P w)) a xs:=by
 obtain⟨z,y,xs,r,o,ah,ba,J,aa,aI,aX,cc⟩:=(show dG P w H h a (.d5 ak) from F9 ok e);refine⟨z,y,xs,r,o,ah,ba,J,aa,aI,aX,λx ag=>?_,cc⟩;have all:∀{l:List (List Key×V)}{m:List (List Key×Addr×Value)},KT H l m->∀x∈m,(tupleKind (gQ P w)).is h x.1 x.2.1:=by
  intro l m q
  induction q with
  |nil=>intro x ag;exact nomatch ag
  |@cons p q a8 qs aJ t aF =>
   intro x ag;rcases Yk.mp ag with e|ag
   .subst e;exact ud ok (by rw[<- aJ.1];exact aJ.2.1)
   .exact aF x ag
 exact all r x ag
def Lb{ak:List (List Key×V)}(ok:ep P w H h)(e:H a=some (.d5 ak)):ak.length<=sizeLine/\(a==sysModules)=false /\
  ∃xs,KT H ak xs/\h.DictOfH (tupleKind (gQ P w)) a xs:=qY ok (.inl e)
end
noncomputable def l4(H:az)(a:Addr)(y:V)(r:Option V):Prop :=
 (∃ak k,g0 H a (.dN ak)/\y=dn k/\r=ig ak k)\/∃ak k b,g0 H a (.d5 ak)/\y=.ref b/\H b=some (.tup (k.map dn))/\r=ig ak k
noncomputable def iX(H:az)(a:Addr)(y v:V)(aq:az):Prop :=
 (∃ak k,H a=some (.dN ak)/\y=dn k/\ak.length<sizeLine/\aq=upd H a (.dN (putK ak k v))) \/
 ∃ak k b,H a=some (.d5 ak)/\y=.ref b/\H b=some (.tup (k.map dn))/\ak.length<sizeLine/\aq=upd H a (.d5 (putK ak k v))
def l4.t{H:az}{a b:Addr}{ak:List (List Key×V)}{k:List Key}(e:H a=some (.d5 ak))(ec:H b=some (.tup (k.map dn))):l4 H a (.ref b) (ig ak k):=.inr ⟨ak,k,b,.inl e,rfl,ec,rfl⟩
theorem iX.k{H:az}{a:Addr}{ak:List (Key×V)}{k:Key}{v:V}(e:H a=some (.dN ak))(aw:ak.length<sizeLine):iX H a (dn k) v (upd H a (.dN (putK ak k v))):=.inl ⟨ak,k,e,rfl,aw,rfl⟩
def iX.t{H:az}{a b:Addr}{ak:List (List Key×V)}{k:List Key}{v:V}(e:H a=some (.d5 ak))(ec:H b=some (.tup (k.map dn)))(aw:ak.length<sizeLine):
  iX H a (.ref b) v (upd H a (.d5 (putK ak k v))):=.inr ⟨ak,k,b,e,rfl,ec,aw,rfl⟩
section
variable{X:aU}{pins:List (Addr×Obj)}{σ:St}{H:az}{s:Shared}{a:Addr}{y v:V}{u r:Value}{o:Option V}{A:Around}{E:Value->Shared->Prop}
def Inv.big(I:Inv X pins σ H s):sysModules<s.heap.objs.size:=by
 have h:mainGlobals<s.heap.objs.size:=(I.mod.glob.keeps I.mi).lt;exact Nat.lt_trans (by decide) h
def KS{Q:Value->Shared->Prop}(bz:A.units+1<cLine)(I:Inv X pins σ H s)(g:l4 H a y (some v))(bI:RelV y u)(h:∀ee s',Inv X pins σ H s'->RelV v ee->Q ee s'):
  wpAny (model X.prog X.w) A (getItem (.ref a) u) Q E s:=by
 rcases g with⟨ak,k,e,ez,l⟩|⟨ak,k,b,e,ez,ec,l⟩
 .subst ez;obtain⟨z,hd,af,rel,df⟩:=qV I.bM e;obtain⟨ee,hw,ic⟩:=iE.some_of (v:=v) (o:=valueAt af k) (by rw[l];exact rel.val k);exact wpAny_getItem_of (rK bI) df.mapOf hw (h ee _ (I.tok _) ic)
 .subst ez;cases (show u=Value.ref b from bI);obtain⟨z,hd,xs,rel,df⟩:=qY I.bM e;obtain⟨ee,hw,ic⟩:=iE.some_of (v:=v) (o:=(atKey xs k).map (·.2)) (by rw[l];exact rel.val k);obtain⟨p,aE,OB⟩:=Option.map_eq_some_iff.mp hw;refine wpAny_getItem_heap (abC bz) (ud I.bM ec) df aE ?_;rw[OB];exact h ee _ (I.tok _) ic
def xe{h':Heap}{t':Nat}{bT:dJ}(I:Inv X pins σ H s)(ao:qx (H a))(ab:Heap.SameBut a s.heap h')(he:∃q,h'.get? a=some q)(new:dG X.prog X.w (upd H a bT) h' a bT):
  Inv X pins σ (upd H a bT) { s with heap:=h',toks:=t' } :=
 I.write (x:=a) (e:=a) ao (.inl rfl) (λb q ae z=>(ab.2 b ae).trans z) he new
def B0{P:Program}{w:World}{aq:az}{h':Heap}{ak:List (Key×V)}{af:List (Key×Value)}(z:ak.length<=sizeLine)(hd:(a==sysModules)=false)(rel:eW ak af)(df:h'.DictOf (gQ P w) a af):
  dG P w aq h' a (.dN ak):=⟨z,hd,af,rel,df⟩
def KW{aq:az}{Q:Unit->Shared->Prop}(bz:A.units+1<cLine)(I:Inv X pins σ H s)(g:iX H a y v aq)(bI:RelV y u)(cb:RelV v r)(h:∀s',Inv X pins σ aq s'->Q () s'):
  wpAny (model X.prog X.w) A (setItem (.ref a) u r) Q E s:=by
 rcases g with⟨ak,k,e,ez,l,qZ⟩|⟨ak,k,b,e,ez,ec,l,qZ⟩
 .subst ez qZ;obtain⟨z,hd,af,rel,df⟩:=B1 I.bM e;have hz:af.length<=sizeLine:=(by rw[<- rel.length];exact z);have aw:(putK ak k v).length<=sizeLine:=(by have:=yN ak k v;omega);refine wpAny_setItem_pairs (hsz:=hz) (rK bI) df λh' nL ab=>h _ ?_
  have he:∃q,h'.get? a=some q:=let ⟨q,_,_,aJ,_⟩:=nL;⟨q,aJ⟩
  exact xe I (by rw[e];exact True.intro) ab he (B0 aw hd (rel.put k cb) nL)
 .subst ez qZ;cases (show u=Value.ref b from bI);obtain⟨z,hd,xs,rel,df⟩:=Lb I.bM e;have hz:xs.length<=sizeLine:=(by rw[<- Paired.length rel];exact z);have aw:(putK ak k v).length<=sizeLine:=(by have:=yN ak k v;omega);refine wpAny_setItem_heap (hsz:=hz) (abC bz) (ud I.bM ec) df λh' nL ab=>h _ ?_
  obtain⟨q,ah,ba,aJ,aa,aI,aX,_,cc⟩:=nL;refine xe I (by rw[e];exact True.intro) ab ⟨q,aJ⟩ ⟨aw,hd,_,(rel.put k ec cb).keeps λc ys jE=>?_,q,ah,ba,aJ,aa,aI,aX,cc⟩;rw[dm (Q2 jE e (λz=>nomatch z))];exact jE
end
section
variable{X:aU}{pins:List (Addr×Obj)}{σ:St}{H:az}{s:Shared}{a:Addr}{ak:List (Key×V)}{k:Key}{u:Value}{A:Around}{E:Value->Shared->Prop}
end
noncomputable def AF(i:Expr):Prop:=∀uG pC,subscripted i false uG pC=operate [uG,pC] (getItem uG pC)
def Vd{prog:Program}{w:World}{A:Around}{E:Value->Shared->Prop}{s:Shared}{env:Env}{value slice:Expr}{pos:Pos}{T id:String}{Q:Value->Shared->Prop}(aw:typeLookup (.type T) "__getitem__"=pure (some (.builtin id)))(ab:AF slice)(h:wpAny (model prog w) A (eval value env) (λo cS=>wpAny (model prog w) A (eval slice env) (λi hP=>hP.TypeIs o T/\wpAny (model prog w) A (getItem o i) Q E hP) E cS) E s):
  wpAny (model prog w) A (eval (.Subscript value slice pos) env) Q E s:=by
 refine Subscript_ (Zh h (λo cS hL=>Zh hL (λi hP rB=>?_) λ_ _ x=>x) λ_ _ x=>x);obtain⟨cP,rB⟩:=rB;unfold subscriptTail;refine Yf ?_;rw[getitemInPython_of_ne cP.not_modules];refine Yf (ab7 cP aw ?_);have fin:wpAny (model prog w) A (subscripted slice false o i) (λr qc=>wpAny (model prog w) A (letTemporaryGo value o r>>=λ_=>pure r) Q E qc) E hP:=by
  rw[ab o i];exact wpAny_operating (Zh rB (λr qc t4=>Yf (wpAny_letTemporaryGo (wpAny_pure t4))) λ_ _ x=>x)
 first
  |exact wpAny_pure (Yf fin)
  |exact Yf (wpAny_pure (Yf fin))
  |exact Yf fin
def K4{X:aU}{pins:List (Addr×Obj)}{σ:St}{H:az}{s:Shared}{a:Addr}{y:V}{o:Option V}(I:Inv X pins σ H s)(g:l4 H a y o):s.TypeIs (.ref a) "dict":=by
 rcases g with⟨ak,k,e,_,_⟩|⟨ak,k,b,e,_,_,_⟩
 .obtain⟨_,_,af,_,df⟩:=qV I.bM e;exact df.typeIs
 .obtain⟨_,_,xs,_,df⟩:=qY I.bM e;exact df.typeIs
noncomputable def zY(iT ty:TE):TE:=λσ H Q=>iT σ H λx H1=>ty σ H1 λy aY=>∃a v,x=.ref a/\l4 aY a y (some v)/\Q v aY
noncomputable def Tt(iT ty kR:TE):hy:=λD σ H=>kR σ H λv H1=>iT σ H1 λx aY=>ty σ aY λy b6=>∃a fY,x=.ref a/\iX b6 a y v fY/\D.cg σ fY
section
variable{X:aU}{o i e value:Expr}{pos pos' Wi:Pos}{iT ty kR:TE}
def RO(bz:X.A.units+1<cLine)(ay:aO X o iT)(hi:aO X i ty)(ab:AF i):aO X (.Subscript o i pos) (zY iT ty):=by
 intro pins s σ H Q I h;refine Vd PySem.F.slot_dict_getitem.lookup ab (bO (ay pins s σ H _ I h) λu s1 ⟨x,H1,bb,bg,aP⟩=>bO (hi pins s1 σ H1 _ bb aP) λpC s2 ⟨y,aY,cM,bI,a,v,ex,g,a9⟩=>?_);subst ex;obtain rfl:u=Value.ref a:=bg;exact⟨K4 cM g,KS bz cM g bI λee s3 eV ic=>⟨v,aY,eV,ic,a9⟩⟩
def FU(bz:X.A.units+1<cLine)(ay:aO X o iT)(hi:aO X i ty)(aV:aO X value kR)(ab:swapsWith value (some (.Subscript o i pos')) pos.line X.env=pure false):
  eu X (.Assign [.Subscript o i pos'] value pos) (Tt iT ty kR):=by
 intro pins s σ H D I h;refine wpAny_Assign_Subscript (bO (aV pins s σ H _ I h) λr s1 ⟨v,H1,bb,cb,aP⟩=>bO (ay pins s1 σ H1 _ bb aP) λu s2 ⟨x,aY,cM,bg,a9⟩=>bO (hi pins s2 σ aY _ cM a9) λpC s3 ⟨y,b6,eV,bI,a,fY,ex,g,b4⟩=>?_) ab;subst ex;obtain rfl:u=Value.ref a:=bg;exact KW bz eV g bI cb λs4 fP=>⟨σ,fY,fP,b4⟩
end
def BY{P:Program}{w:World}{H:az}(h:Heap)(ae:sysModules<h.objs.size):dG P w H (h.push { cls:=.type "dict",data:=.dict #[] }) h.objs.size (.dN []) :=
 ⟨Yp _,YQ.mpr (ZK (YH ae)),[],.nil,Heap.DictOf.new h⟩
def La{P:Program}{w:World}{H:az}(h:Heap)(ae:sysModules<h.objs.size):dG P w H (h.push { cls:=.type "dict",data:=.dict #[] }) h.objs.size (.d5 []) :=
 ⟨Yp _,YQ.mpr (ZK (YH ae)),[],.nil,_,#[],0,Yx _ rfl,⟨rfl,rfl,rfl⟩,rfl,rfl,ZZ⟩
noncomputable def Vn:TE:=λ_ H Q=>∀p,H p=none->Q (.ref p) (upd H p (.dN []))
noncomputable def Vo:TE:=λ_ H Q=>∀p,H p=none->Q (.ref p) (upd H p (.d5 []))
section
variable{X:aU}{pos:Pos}
def FC:aO X (.Dict [] [] pos) Vn:=λpins s σ H Q I h =>
 wpAny_Dict_empty ⟨.ref s.heap.objs.size,_,I.laid (a:=s.heap.objs.size) (o:=.dN []) (t':=s.toks) (λ_ _ q=>Yh _ q) (Yi _) (BY s.heap I.big),rfl,h _ (I.bM.fresh (Yi _))⟩
def RR:aO X (.Dict [] [] pos) Vo:=λpins s σ H Q I h =>
 wpAny_Dict_empty ⟨.ref s.heap.objs.size,_,I.laid (a:=s.heap.objs.size) (o:=.d5 []) (t':=s.toks) (λ_ _ q=>Yh _ q) (Yi _) (La s.heap I.big),rfl,h _ (I.bM.fresh (Yi _))⟩
end
noncomputable def z0:List (TE×TE)->St->az->(List (V×V)->az->Prop)->Prop
 |[],_,H,Q=>Q [] H
 |(tk,kR)::r,σ,H,Q=>tk σ H λx H1=>kR σ H1 λy aY=>z0 r σ aY λa8 b6=>Q ((x,y)::a8) b6
noncomputable abbrev AP:List (V×V)->List (Value×Value)->Prop:=Paired λp q=>RelV p.1 q.1/\RelV p.2 q.2
noncomputable def sN(X:aU)(pos:Pos)(keys:List (Option Expr))(values:List Expr)(lY:List (TE×TE)):Prop :=
 ∀(pins:List (Addr×Obj))(s:Shared)(σ:St)(H:az)(Q:List (V×V)->az->Prop),Inv X pins σ H s->z0 lY σ H Q ->
  wpAny (model X.prog X.w) X.A (evalPairs (pairTrees keys values X.env pos)) (λaf s'=>∃a8 aq,Inv X pins σ aq s'/\AP a8 af/\Q a8 aq) X.cA s
def Sv{X:aU}{pos:Pos}:sN X pos [] [] []:=λpins s σ H Q I h=>pairTrees_nil_walk ⟨[],H,I,.nil,h⟩
def Su{X:aU}{pos:Pos}{k v:Expr}{ar:List (Option Expr)}{af:List Expr}{tk kR:TE}{lY:List (TE×TE)}(au:aO X k tk)(aV:aO X v kR)(a7:sN X pos ar af lY):
  sN X pos (some k::ar) (v::af) ((tk,kR)::lY):=λpins s σ H Q I h =>
 pairTrees_cons_walk (bO (au pins s σ H _ I h) λu s1 ⟨x,H1,bb,bg,aP⟩=>bO (aV pins s1 σ H1 _ bb aP) λj4 s2 ⟨y,aY,cM,bI,a9⟩ =>
  bO (a7 pins s2 σ aY _ cM a9) λws s3 ⟨a8,b6,eV,rel,b4⟩=>⟨(x,y)::a8,b6,eV,.cons ⟨bg,bI⟩ rel,b4⟩)
noncomputable def pO(ak more:List (Key×V)):List (Key×V):=more.foldl (λacc da=>putK acc da.1 da.2) ak
def eW.merge:∀{more:List (Key×V)}{rs:List (Key×Value)}{ak:List (Key×V)}{af:List (Key×Value)},eW more rs->eW ak af->eW (pO ak more) (merged af rs):=by
 intro more rs ak af r;unfold eW at r
 induction r generalizing ak af with
 |nil=>intro q;exact q
 |@cons p q a8 qs h t aF =>
  intro ib;have e:eW (putK ak p.1 p.2) (stored af q.1 q.2):=by
   have:=ib.put p.1 h.2;rw[<- h.1];exact this
  exact aF e
theorem Em:∀(more ak:List (Key×V)),(pO ak more).length<=ak.length+more.length
 |[],ak=>by show ak.length<=ak.length+0;omega
 |p::r,ak=>by
  have J:=Em r (putK ak p.1 p.2);have aa:=yN ak p.1 p.2;show(pO (putK ak p.1 p.2) r).length<=_;rw[List.length_cons];omega
theorem Bt{P:Program}{w:World}:∀{ak:List (Key×V)}{ws:List (Value×Value)},AP (ak.map λda=>(dn da.1,da.2)) ws->∃rs,Carries (gQ P w) ws rs/\eW ak rs
 |[],_,r=>by rw[Z8]at r;cases r;exact⟨[],True.intro,.nil⟩
 |p::ak,_,r=>by
  rw[List.map_cons]at r;cases r with
  |@cons a b as bs h t =>
   obtain⟨rs,c,q⟩:=Bt (P:=P) (w:=w) t;obtain⟨b1,b2⟩:=b;exact⟨(p.1,b2)::rs,⟨rK h.1,rfl,c⟩,.cons ⟨rfl,h.2⟩ q⟩
noncomputable def Vp(lY:List (TE×TE)):TE:=λσ H Q=>∀p,H p=none->z0 lY σ (upd H p (.dN [])) λa8 aY=>aY p=some (.dN [])/\∃ak:List (Key×V),a8=ak.map (λda=>(dn da.1,da.2))/\ak.length<=15/\Q (.ref p) (upd aY p (.dN (pO [] ak)))
def RQ{X:aU}{pos:Pos}{keys:List (Option Expr)}{values:List Expr}{lY:List (TE×TE)}(h:sN X pos keys values lY)(f3:keys.all (·.isSome)=true)(aw:keys.length=values.length)(h0:keys≠[])(Ni:keys.length<=15):aO X (.Dict keys values pos) (Vp lY):=by
 intro pins s σ H Q I q;have aB:=I.bM.fresh (Yi s.heap.objs.size);have bb:=I.laid (a:=s.heap.objs.size) (o:=.dN []) (h':=s.heap.push { cls:=.type "dict",data:=.dict #[] }) (t':=s.toks) (λ_ _ q=>Yh _ q) (Yi _) (BY s.heap I.big);refine wpAny_Dict_walk (knd:=gQ X.prog X.w) f3 aw h0 Ni (bO (h pins _ σ _ _ bb (q _ aB)) λws s2 ⟨a8,aY,cM,rel,e,ak,ba,lk,a9⟩=>?_);subst ba;obtain⟨rs,c,e9⟩:=Bt (P:=X.prog) (w:=X.w) rel;obtain⟨z,hd,Yc,ib,df⟩:=B1 cM.bM e;cases ib;refine⟨rs,c,df,λh' nL ab=>⟨.ref s.heap.objs.size,_,?_,rfl,a9⟩⟩;have hz:(pO [] ak).length<=sizeLine:=by
  have J:=Em ak [];rw[List.length_nil]at J;rw[sizeLine_eq];omega
 have he:∃q,h'.get? s.heap.objs.size=some q:=let ⟨q,_,_,aJ,_⟩:=nL;⟨q,aJ⟩
 exact xe cM (by rw[e];exact True.intro) ab he (B0 hz hd (e9.merge .nil) nL)
structure Xf(X:aU)(o:Expr)(m:Str)(apos:Pos)(e:Expr)(gi:Pos):Prop where
 base:attributeBase o m X.env (eval o X.env)=eval o X.env
 xA:((backTo gi (starEach [e] X.env)).all (λx=>!x.1)&&(backToKw gi (keywordEach [] X.env)).all (λx=>x.1.isSome)
  && decide (([e]:List Expr).length+([]:List Keyword).length+(if ([]:List Keyword).isEmpty then 0 else 1)<30))=true
 line:(apos.endLine==gi.line)=true
 trees:backTo gi (starEach [e] X.env)=[(false,eval e X.env)]
structure M2(X:aU)(o:Expr)(m:Str)(apos:Pos)(e f:Expr)(gi:Pos):Prop where
 base:attributeBase o m X.env (eval o X.env)=eval o X.env
 xA:((backTo gi (starEach [e,f] X.env)).all (λx=>!x.1)&&(backToKw gi (keywordEach [] X.env)).all (λx=>x.1.isSome)
  && decide (([e,f]:List Expr).length+([]:List Keyword).length+(if ([]:List Keyword).isEmpty then 0 else 1)<30))=true
 line:(apos.endLine==gi.line)=true
 trees:backTo gi (starEach [e,f] X.env)=[(false,eval e X.env),(false,eval f X.env)]
noncomputable def AA(H:az)(a:Addr):Prop:=(∃ak,g0 H a (.dN ak))\/∃ak,g0 H a (.d5 ak)
def Pn{X:aU}{pins:List (Addr×Obj)}{σ:St}{H:az}{s:Shared}{a:Addr}(I:Inv X pins σ H s)(d:AA H a):
  s.TypeIs (.ref a) "dict"/\(∀b,Value.ref a=.ref b->∃bT,s.heap.get? b=some bT/\bT.dict=none)/\(a==sysModules)=false:=by
 rcases d with⟨ak,e⟩|⟨ak,e⟩
 .obtain⟨_,hd,af,_,df⟩:=qV I.bM e;refine⟨df.typeIs,λb q=>?_,hd⟩;cases q;obtain⟨bT,_,_,J,aa,_⟩:=df;exact⟨bT,J,aa.2.1⟩
 .obtain⟨_,hd,xs,_,df⟩:=qY I.bM e;refine⟨df.typeIs,λb q=>?_,hd⟩;cases q;obtain⟨bT,_,_,J,aa,_⟩:=df;exact⟨bT,J,aa.2.1⟩
section
variable{X:aU}{pins:List (Addr×Obj)}{σ:St}{H:az}{s:Shared}{a:Addr}{y d:V}{u r:Value}{o:Option V}{A:Around}{E:Value->Shared->Prop}
def KR{Q:Value->Shared->Prop}(bz:A.units+1<cLine)(I:Inv X pins σ H s)(g:l4 H a y o)(bI:RelV y u)(ek:RelV d r)(h:∀ee s',Inv X pins σ H s'->RelV (o.getD d) ee->Q ee s'):
  wpAny (model X.prog X.w) A (call (.builtin "dict.get") [.ref a,u,r]) Q E s:=by
 rcases g with⟨ak,k,e,ez,l⟩|⟨ak,k,b,e,ez,ec,l⟩
 .subst ez;obtain⟨z,hd,af,rel,df⟩:=qV I.bM e;refine call_meetsIn aa9 df.typeIs ab5 (abW _ _ _) (meets_dict_get_default (gQ X.prog X.w) a (rK bI) hd r) ⟨_,df.mapOf,h _ _ (I.tok _) ?_⟩;rw[l];exact(rel.val k).getD ek
 .subst ez;cases (show u=Value.ref b from bI);obtain⟨z,hd,xs,rel,df⟩:=qY I.bM e;refine call_meetsIn aa9 df.typeIs ab5 (abW _ _ _) (meetsH_dict_get_default (tupleKind (gQ X.prog X.w)) a b hd r) ⟨abC bz,k,xs,ud I.bM ec,df,h _ _ (I.tok _) ?_⟩;rw[l];exact(rel.val k).getD ek
end
noncomputable def Vm(iT ty vg:TE):TE:=λσ H Q=>iT σ H λx H1=>∃a,x=.ref a/\AA H1 a/\ty σ H1 λy aY=>vg σ aY λz b6=>∃o,l4 b6 a y o/\Q (o.getD z) b6
section
variable{X:aU}{o e f:Expr}{apos gi:Pos}{iT ty vg:TE}
def RP(bz:X.A.units+1<cLine)(ay:aO X o iT)(he:aO X e ty)(hf:aO X f vg)(m:M2 X o "get" apos e f gi):aO X (.Call (.Attribute o "get" apos) [e,f] [] gi) (Vm iT ty vg):=by
 intro pins s σ H Q I h;refine wpAny_Call_method m.base m.xA m.line PySem.F.plainAttrs_dict aa9 PySem.F.type_dict_get (bO (ay pins s σ H _ I h) λu s1 ⟨x,H1,bb,bg,a,ex,d,aP⟩=>?_);subst ex;obtain rfl:u=Value.ref a:=bg;obtain⟨t1,gq,_⟩:=Pn bb d;refine⟨t1,gq,?_⟩;rw[m.trees];refine Calls.callWith_builtin rfl (Calls.evalArgs_plain (ZL (bO (he pins s1 σ H1 _ bb aP) λpC s2 ⟨y,aY,cM,bI,a9⟩ =>
  ZL (bO (hf pins s2 σ aY _ cM a9) λXq s3 ⟨z,b6,eV,Tq,uG,g,b4⟩=>Z7 ?_))))
 exact KR bz eV g bI Tq λee s4 fP ic=>⟨_,b6,fP,ic,b4⟩
end
section
variable{X:aU}{pins:List (Addr×Obj)}{σ:St}{H:az}{s:Shared}{a:Addr}{ak:List (Key×V)}{A:Around}{E:Value->Shared->Prop}
end
section
variable{X:aU}{pins:List (Addr×Obj)}{σ:St}{H:az}{s:Shared}{a:Addr}{y:V}{u:Value}{A:Around}{E:Value->Shared->Prop}
end
end bJ
end
set_option autoImplicit false
set_option linter.all false
set_option maxRecDepth 100000
set_option maxHeartbeats 8000000
local macro_rules | `(tactic| omega) => `(tactic| first | decide | assumption | exact Nat.le_trans (by assumption) (by decide) | exact Nat.lt_succ_of_le (by assumption) | exact Nat.le_of_succ_le_succ (by assumption) | exact Nat.le_succ_of_le (by assumption) | exact Nat.le_of_lt (by assumption) | exact Nat.not_le.mp (by assumption) | exact Nat.not_lt.mp (by assumption) | exact Int.le_trans (by assumption) (by decide) | lia)
section
namespace Den
open PySem
inductive R(α:Type) where
 |ok (a:α)
 |exc (c:Nat)
 |bad
noncomputable def R.bind{α β:Type}:R α->(α->R β)->R β
 |.ok a,f=>f a
 |.exc c,_=>.exc c
 |.bad,_=>.bad
noncomputable instance:Monad R where
 pure:=R.ok
 bind:=R.bind
def bf{α:Type}{a b:α}(h:a=b):a=b:=h
@[simp] theorem R.lO {α β:Type} (a:α) (f:α->R β):(R.ok a>>=f)=f a:=bf rfl
@[simp] theorem R.Me {α β:Type} (c:Nat) (f:α->R β):(R.exc c>>=f)=R.exc c:=bf rfl
@[simp] theorem R.Xh {α β:Type} (f:α->R β):(R.bad>>=f)=R.bad:=bf rfl
@[simp] theorem R.X6 {α:Type} (a:α):(pure a:R α)=R.ok a:=rfl
inductive D where
 |dr
 |aT (b:Bool)
 |int (i:Int)
 |str (x:Str)
 |tup (xs:List D)
 |lst (xs:List D)
 |bK (ak:List (List Int×Int))
 |bD (ak:List (Int×Int×Int))
 |fw (c:Nat)
mutual
noncomputable def hD:D->D->Bool
 |.dr,.dr=>true
 |.aT a,.aT b=>a==b
 |.aT a,.int j=>(if a then 1 else 0)==j
 |.int i,.aT b=>i==(if b then 1 else 0)
 |.int i,.int j=>i==j
 |.str x,.str y=>x==y
 |.tup xs,.tup ys=>la xs ys
 |.lst xs,.lst ys=>la xs ys
 |_,_=>false
noncomputable def la:List D->List D->Bool
 |[],[]=>true
 |x::xs,y::ys=>hD x y&&la xs ys
 |_,_=>false
end
mutual
noncomputable def kA:D->D->Option Bool
 |.int i,.int j=>some (decide (i<j))
 |.tup xs,.tup ys=>kB xs ys
 |_,_=>none
noncomputable def kB:List D->List D->Option Bool
 |[],[]=>some false
 |[],_::_=>some true
 |_::_,[]=>some false
 |x::xs,y::ys=>if hD x y then kB xs ys else kA x y
end
noncomputable def fM:Nat->D->Bool
 |0,.int _=>true
 |n+1,.tup xs=>xs.all (fM n)
 |_,_=>false
noncomputable def pA(x:D):List D->List D
 |[]=>[x]
 |y::ys=>if kA y x=some true then y::pA x ys else x::y::ys
noncomputable def ie:List D->List D
 |[]=>[]
 |x::xs=>pA x (ie xs)
noncomputable def k4:List D->List D
 |[]=>[]
 |x::xs=>if xs.any (hD x) then k4 xs else x::k4 xs
noncomputable def lB:D->Bool
 |.tup (x::xs)=>fM 0 x&&xs.all (fM 0)
 |_=>false
noncomputable def n5:D->Bool
 |.tup (x::xs)=>lB x&&xs.all lB
 |_=>false
noncomputable def lJ(xs:List D):Bool:=xs.all (fM 0)||xs.all lB
noncomputable def SZ:Nat:=16777216
noncomputable def e0:Int:=18446744073709551616
noncomputable def sorted(xs:List D):R D:=if (lJ xs||xs.all n5)&&xs.length<=255 then .ok (.lst (ie xs)) else .bad
noncomputable def gb(xs:List D):R D:=if xs.all lB&&(k4 xs).length<=255 then .ok (.lst (ie (k4 xs))) else .bad
inductive Op where
 |add|sub|mul|fdiv|mod|and|xor|shl
inductive hr where
 |eq|ne|lt|le|gt|ge|mem|lM
noncomputable def nv(i j:Int):R D:=if 0<=i then(if 0<=j then .ok (.int (i.toNat &&& j.toNat:Nat)) else .ok (.int (i-(i.toNat &&& (-j-1).toNat:Nat)))) else .bad
noncomputable def sC(i j:Int):R D:=if 0<=i/\0<=j then .ok (.int (i.toNat ^^^ j.toNat:Nat)) else .bad
noncomputable def d3:Op->D->D->R D
 |.and,.int i,.int j=>nv i j
 |.xor,.int i,.int j=>sC i j
 |.shl,.int i,.int j=>if 0<=j/\j<=1000/\-e0<i/\i<e0 then .ok (.int (i*2 ^ j.toNat)) else .bad
 |.mul,.lst xs,.int j=>if 0<=j/\j<=1000/\xs.length<=1000 then .ok (.lst (List.replicate j.toNat xs).flatten) else .bad
 |.add,.int i,.int j=>.ok (.int (i+j))
 |.add,.tup xs,.tup ys=>if xs.length+ys.length<=SZ then .ok (.tup (xs++ys)) else .bad
 |.add,.lst xs,.lst ys=>if xs.length+ys.length<=SZ then .ok (.lst (xs++ys)) else .bad
 |.sub,.int i,.int j=>.ok (.int (i-j))
 |.mul,.int i,.int j=>if (-e0<i/\i<e0)\/(-e0<j/\j<e0) then .ok (.int (i*j)) else .bad
 |.fdiv,.int i,.int j=>if 0<j/\j<1073741824 then .ok (.int (i / j)) else .bad
 |.mod,.int i,.int j=>if 0<j then .ok (.int (i%j)) else .bad
 |_,_,_=>.bad
noncomputable def ix:R Bool->R Bool
 |.ok b=>.ok (!b)
 |.exc c=>.exc c
 |.bad=>.bad
noncomputable def dx:Nat->D->Bool
 |_,.dr=>true
 |_,.aT _=>true
 |_,.int _=>true
 |_,.str x=>x.cps.all (· < 0x110000)
 |n+1,.tup xs=>xs.all (dx n)
 |n+1,.lst xs=>xs.all (dx n)
 |_,_=>false
noncomputable def fv(x y:D):R Bool:=if dx 60 x&&dx 60 y then .ok (hD x y) else .bad
noncomputable def memD(x:D)(xs:List D):Bool:=xs.any λy=>hD y x
noncomputable def hN(x:D)(ys:List D):R Bool:=if dx 60 x&&ys.all (dx 60) then .ok (memD x ys) else .bad
noncomputable def y7:Option Bool->R Bool
 |some b=>.ok b
 |none=>.bad
noncomputable def uj(x y:D):R Bool:=if (fM 0 x&&fM 0 y)||(fM 1 x&&fM 1 y) then y7 (kA x y) else .bad
noncomputable def dM:hr->D->D->R Bool
 |.eq,x,y=>fv x y
 |.ne,x,y=>ix (fv x y)
 |.lt,x,y=>uj x y
 |.gt,.int i,.int j=>.ok (decide (j<i))
 |.le,.int i,.int j=>.ok (decide (i<=j))
 |.ge,.int i,.int j=>.ok (decide (j<=i))
 |.mem,x,.tup ys=>hN x ys
 |.mem,x,.lst ys=>hN x ys
 |.lM,x,.tup ys=>ix (hN x ys)
 |.lM,x,.lst ys=>ix (hN x ys)
 |_,_,_=>.bad
noncomputable def jg(n:Nat)(i:Int):Option Nat:=if 0<=i then(if i<n then some i.toNat else none) else(if 0<=i+n then some (i+n).toNat else none)
noncomputable def kk{α:Type}(xs:List α)(i:Int):Option α:=(jg xs.length i).bind (xs[·]?)
noncomputable def gM:D->D->R D
 |.tup xs,.int i=>match kk xs i with|some d=>.ok d|none=>.bad
 |.lst xs,.int i=>match kk xs i with|some d=>.ok d|none=>.bad
 |_,_=>.bad
noncomputable def bU(n d:Nat):Option Int->Nat
 |none=>d
 |some i=>if i<0 then(if i+n<0 then 0 else(i+n).toNat) else(if (n:Int)<i then n else i.toNat)
noncomputable def cut{α:Type}(xs:List α)(lo hi:Option Int):List α:=(xs.drop (bU xs.length 0 lo)).take (bU xs.length xs.length hi-bU xs.length 0 lo)
noncomputable def j0(d:D)(lo hi:Option Int):R D:=match d with
 |.tup xs=>.ok (.tup (cut xs lo hi))
 |.lst xs=>.ok (.lst (cut xs lo hi))
 |_=>.bad
noncomputable def kz:D->R D
 |.tup xs=>.ok (.int xs.length)
 |.lst xs=>.ok (.int xs.length)
 |_=>.bad
inductive Ty where
 |int|bool|str|tuple|cls (c:Nat)
noncomputable abbrev gJ:=Nat->List Nat
noncomputable def jS(up:gJ)(d:D):Ty->R Bool
 |.int=>.ok (match d with|.int _=>true|.aT _=>true|_=>false)
 |.bool=>.ok (match d with|.aT _=>true|_=>false)
 |.str=>.ok (match d with|.str _=>true|_=>false)
 |.tuple=>.ok (match d with|.tup _=>true|_=>false)
 |.cls c=>match d with|.fw k=>.ok ((up k).contains c)|_=>.bad
noncomputable def fE:D->R (List D)
 |.tup xs=>.ok xs
 |.lst xs=>.ok xs
 |_=>.bad
noncomputable def eO(lo hi:Int):List D:=(List.range (hi-lo).toNat).map λk=>.int (lo+(k:Nat))
noncomputable def oq(i:Int):Bool:=decide (-4611686018427387904<=i/\i<4611686018427387904)
noncomputable def iQ(i j:Int):R (List D):=if oq i&&oq j&&decide ((j-i).toNat<=1000000) then .ok (eO i j) else .bad
inductive eE where
 |len|inst (t:Ty)|sorted|gb|sum|max|int
mutual
inductive E where
 |var (i:Nat)
 |lit (d:D)
 |tup (a:A)
 |lst (a:A)
 |bin (op:Op) (a b:E)
 |not (a:E)
 |neg (a:E)
 |ite (c a b:E)
 |cmp (op:hr) (a b:E)
 |qP (op op':hr) (a b c:E)
 |and (a b:E)
 |or (a b:E)
 |idx (a b:E)
 |slice (a:E) (lo hi:O)
 |call (f:Nat) (a:A)
 |prim (p:eE) (a:E)
 |tupI (s:I)
 |mP (s:I)
 |comp (elt:E) (k:Nat) (s:I) (c:O)
 |hC (i j:Nat)
 |o2 (i:Nat)
 |min2 (a b:E)
 |lI (i j:Nat)
 |oY (i j:Nat)
 |oZ
inductive A where
 |nil
 |cons (e:E) (a:A)
inductive O where
 |none
 |some (e:E)
inductive I where
 |seq (e:E)
 |eP (a:E)
 |p6 (a b:E)
 |mv (i:Nat)
end
noncomputable abbrev a0:=List (Option D)
noncomputable abbrev dC:=Nat->List D->R D
noncomputable def fh:Nat->D->R (List (Option D))
 |0,d=>.ok [some d]
 |k,.tup xs=>if xs.length=k then .ok (xs.map some) else .bad
 |_,_=>.bad
noncomputable def cZ(f:D->R (Option D)):List D->R (List D)
 |[]=>.ok []
 |d::ds=>f d>>=λo=>cZ f ds>>=λr=>match o with|some x=>.ok (x::r)|none=>.ok r
noncomputable def iN{α:Type}:R α->R α
 |.exc _=>.bad
 |r=>r
noncomputable def intsOf:List D->Option (List Int)
 |[]=>some []
 |.int i::xs=>(intsOf xs).map (i::·)
 |_=>none
noncomputable def pI:D->R (List D)
 |.lst xs=>.ok xs
 |_=>.bad
noncomputable def kN(xs:List D):R D:=match intsOf xs with
 |some ns=>.ok (.int ns.sum)
 |none=>.bad
noncomputable def kC(xs:List D):R D:=match intsOf xs with
 |some (n::ns)=>.ok (.int (ns.foldl (λm x=>if x>m then x else m) n))
 |_=>.bad
noncomputable def jY(up:gJ):eE->D->R D
 |.len,d=>kz d
 |.inst t,d=>jS up d t>>=λb=>.ok (.aT b)
 |.sorted,d=>fE d>>=λxs=>sorted xs
 |.gb,d=>fE d>>=λxs=>gb xs
 |.sum,d=>pI d>>=λxs=>kN xs
 |.max,d=>pI d>>=λxs=>kC xs
 |.int,.aT b=>.ok (.int (if b then 1 else 0))
 |.int,_=>.bad
noncomputable def gr(ak:List (List Int×Int))(k:List Int):Option Int:=(ak.find? λp=>decide (p.1=k)).map (·.2)
noncomputable def putN(ak:List (List Int×Int))(k:List Int)(n:Int):List (List Int×Int):=if (ak.any λp=>decide (p.1=k))=true then ak.map (λp=>if p.1=k then(p.1,n) else p) else ak++[(k,n)]
noncomputable def ot(r:Int×Int):D:=.tup [.int r.1,.int r.2]
noncomputable def m8(ak:List (Int×Int×Int))(k:Int):Option (Int×Int):=(ak.find? λp=>decide (p.1=k)).map (·.2)
noncomputable def lQ(ak:List (Int×Int×Int))(k:Int)(r:Int×Int):List (Int×Int×Int):=if (ak.any λp=>decide (p.1=k))=true then ak.map (λp=>if p.1=k then(p.1,r) else p) else ak++[(k,r)]
noncomputable def hY:Option (Option D)->Option (List (List Int×Int))
 |some (some (.bK ak))=>some ak
 |_=>none
noncomputable def i5:Option (Option D)->Option (List (Int×Int×Int))
 |some (some (.bD ak))=>some ak
 |_=>none
noncomputable def rowOf:D->Option (Int×Int)
 |.tup ds=>(match intsOf ds with|some [a,b]=>some (a,b)|_=>none)
 |_=>none
noncomputable def intD:D->Option Int
 |.int i=>some i
 |_=>none
noncomputable def gc:D->Option (List Int)
 |.tup ds=>intsOf ds
 |_=>none
noncomputable def e2{α:Type}(f:D->Option α):Option (Option D)->Option α
 |some (some d)=>f d
 |_=>none
noncomputable def kh(o p:Option (Option D)):R D:=match hY o,e2 gc p with
 |some ak,some k=>(match gr ak k with|some n=>.ok (.int n)|none=>.bad)
 |_,_=>(match i5 o,e2 intD p with|some ak,some k=>(match m8 ak k with|some r=>.ok (ot r)|none=>.bad)|_,_=>.bad)
noncomputable def o1(o p:Option (Option D))(d:D):R D:=match hY o,e2 gc p,intD d with
 |some ak,some k,some n=>if ak.length<1000 then .ok (.bK (putN ak k n)) else .bad
 |_,_,_=>(match i5 o,e2 intD p,rowOf d with|some ak,some k,some r=>if ak.length<1000 then .ok (.bD (lQ ak k r)) else .bad|_,_,_=>.bad)
noncomputable def qW(p q:Option (Option D)):R D:=match e2 intD p,e2 rowOf q with
 |some k,some r=>.ok (.bD [(k,r)])
 |_,_=>.bad
noncomputable def oX(o:Option (Option D)):R (List D):=match hY o with
 |some ak=>.ok (ak.map λp=>.tup (p.1.map .int))
 |none=>(match i5 o with|some ak=>.ok (ak.map λp=>.int p.1)|none=>.bad)
noncomputable def o3(o:Option (Option D)):R D:=match hY o with
 |some ak=>sorted (ak.map λp=>.tup (p.1.map .int))
 |none=>.bad
noncomputable def qU(o p:Option (Option D)):R D:=match hY o,e2 gc p with
 |some ak,some k=>if ak.length<1000 then .ok (.bK (putN ak k ((gr ak k).getD 0+1))) else .bad
 |_,_=>.bad
noncomputable def m7:List D->Option (List (List Int))
 |[]=>some []
 |x::xs=>(match gc x,m7 xs with|some k,some ar=>some (k::ar)|_,_=>none)
noncomputable def ve:D->Option (List (List Int))
 |.lst xs=>m7 xs
 |_=>none
noncomputable def pG(o p:Option (Option D)):R D:=match e2 ve o,e2 gc p with
 |some ar,some k=>if k∈ar/\ar.length<=1000 then .ok (.int (ar.idxOf k:Nat)) else .bad
 |_,_=>.bad
noncomputable def ui:Option (Option D)->R D
 |some (some (.lst ds))=>.ok (.lst ds)
 |_=>.bad
noncomputable def qT:Option (Option D)->R D
 |some (some (.bK ak))=>.ok (.bK ak)
 |some (some (.bD ak))=>.ok (.bD ak)
 |_=>.bad
noncomputable def fJ:D->R Bool
 |.aT b=>.ok b
 |_=>.bad
noncomputable def e1:D->R Int
 |.int i=>.ok i
 |_=>.bad
noncomputable def xQ:Option (Option D)->R D
 |some (some d)=>.ok d
 |_=>.bad
structure dq where
 up:gJ
 cs:List D
section
variable(pg:dq)(Φ:dC)
mutual
noncomputable def ev (C:a0):E->R D
 |.var i=>xQ C[i]?
 |.lit d=>.ok d
 |.tup a=>h1 C a>>=λds=>.ok (.tup ds)
 |.lst a=>h1 C a>>=λds=>.ok (.lst ds)
 |.bin op a b=>ev C a>>=λx=>ev C b>>=λy=>d3 op x y
 |.neg a=>ev C a>>=λx=>e1 x>>=λi=>.ok (.int (-i))
 |.ite c a b=>ev C c>>=λx=>fJ x>>=λk=>if k then ev C a else ev C b
 |.not a=>ev C a>>=λx=>fJ x>>=λb=>.ok (.aT (!b))
 |.cmp op a b=>ev C a>>=λx=>ev C b>>=λy=>dM op x y>>=λc=>.ok (.aT c)
 |.qP op op' a b c=>ev C a>>=λx=>ev C b>>=λy=>dM op x y>>=λk=>if k then ev C c>>=λz=>dM op' y z>>=λdz=>.ok (.aT dz) else .ok (.aT false)
 |.and a b=>ev C a>>=λx=>fJ x>>=λk=>if k then ev C b else .ok (.aT false)
 |.or a b=>ev C a>>=λx=>fJ x>>=λk=>if k then .ok (.aT true) else ev C b
 |.idx a b=>ev C a>>=λx=>ev C b>>=λy=>gM x y
 |.slice a lo hi=>ev C a>>=λx=>mA C lo>>=λl=>mA C hi>>=λh=>j0 x l h
 |.call f a=>h1 C a>>=λds=>Φ f ds
 |.prim p a=>ev C a>>=λx=>jY pg.up p x
 |.tupI s=>g5 C s>>=λds=>.ok (.tup ds)
 |.mP s=>g5 C s>>=λds=>.ok (.lst ds)
 |.hC i j=>kh C[i]? C[j]?
 |.o2 i=>o3 C[i]?
 |.min2 a b=>ev C a>>=λx=>e1 x>>=λi=>ev C b>>=λy=>e1 y>>=λj=>.ok (.int (if j<i then j else i))
 |.lI i j=>pG C[i]? C[j]?
 |.oY i j=>qW C[i]? C[j]?
 |.oZ=>.ok (.bD [])
 |.comp e k s c=>g5 C s>>=λds=>iN (cZ (λd=>fh k d>>=λaf=>lg (C++af) c>>=λb=>if b then ev (C++af) e>>=λy=>.ok (some y) else .ok none) ds)>>=λys=>.ok (.lst ys)
noncomputable def h1 (C:a0):A->R (List D)
 |.nil=>.ok []
 |.cons e a=>ev C e>>=λx=>h1 C a>>=λxs=>.ok (x::xs)
noncomputable def mA (C:a0):O->R (Option Int)
 |.none=>.ok none
 |.some e=>ev C e>>=λx=>e1 x>>=λi=>.ok (some i)
noncomputable def lg (C:a0):O->R Bool
 |.none=>.ok true
 |.some e=>ev C e>>=λx=>fJ x
noncomputable def g5 (C:a0):I->R (List D)
 |.seq e=>ev C e>>=λx=>fE x
 |.eP a=>ev C a>>=λx=>e1 x>>=λi=>iQ 0 i
 |.p6 a b=>ev C a>>=λx=>e1 x>>=λi=>ev C b>>=λy=>e1 y>>=λj=>iQ i j
 |.mv i=>oX C[i]?
end
end
mutual
inductive S where
 |asg (i:Nat) (e:E)
 |app (i:Nat) (e:E)
 |mw (i:Nat)
 |p5 (i:Nat)
 |p4 (i:Nat)
 |nM (i:Nat)
 |jC (i j:Nat) (e:E)
 |k6 (i j:Nat)
 |ext (i:Nat) (e:E)
 |ret (e:E)
 |iff (c:E) (a b:B)
 |fx (k:Nat) (ts:List Nat) (s:I) (b:B)
inductive B where
 |nil
 |cons (s:S) (b:B)
end
inductive fb where
 |cg (C:a0)
 |d7 (d:D)
noncomputable def iy:List Nat->List (Option D)->a0->a0
 |i::is,v::af,C=>iy is af (C.set i v)
 |_,_,C=>C
noncomputable def forL(f:D->a0->R fb):List D->a0->R fb
 |[],C=>.ok (.cg C)
 |d::ds,C=>f d C>>=λr=>match r with
  |.cg cp=>forL f ds cp
  |.d7 x=>.ok (.d7 x)
noncomputable def qF:Option (Option D)->D->R D
 |some (some (.lst xs)),d=>if xs.length<SZ then .ok (.lst (xs++[d])) else .bad
 |_,_=>.bad
noncomputable def tg:Option (Option D)->D->R D
 |some (some (.lst xs)),.lst ys=>if xs.length+ys.length<=SZ then .ok (.lst (xs++ys)) else .bad
 |_,_=>.bad
noncomputable def mm:Option (Option D)->R Unit
 |some (some (.lst _))=>.ok ()
 |_=>.bad
section
variable(pg:dq)(Φ:dC)
mutual
noncomputable def ex (C:a0):S->R fb
 |.asg i e=>ev pg Φ C e>>=λd=>.ok (.cg (C.set i (some d)))
 |.app i e=>mm C[i]?>>=λ_=>ev pg Φ C e>>=λd=>qF C[i]? d>>=λx=>.ok (.cg (C.set i (some x)))
 |.ret e=>ev pg Φ C e>>=λd=>.ok (.d7 d)
 |.p5 i=>ui C[i]?>>=λd=>.ok (.d7 d)
 |.p4 i=>qT C[i]?>>=λd=>.ok (.d7 d)
 |.mw i=>.ok (.cg (C.set i (some (.bK []))))
 |.nM i=>.ok (.cg (C.set i (some (.bD []))))
 |.jC i j e=>ev pg Φ C e>>=λd=>o1 C[i]? C[j]? d>>=λx=>.ok (.cg (C.set i (some x)))
 |.k6 i j=>qU C[i]? C[j]?>>=λx=>.ok (.cg (C.set i (some x)))
 |.ext i e=>mm C[i]?>>=λ_=>ev pg Φ C e>>=λd=>tg C[i]? d>>=λx=>.ok (.cg (C.set i (some x)))
 |.iff c a b=>ev pg Φ C c>>=λx=>fJ x>>=λk=>if k then e3 C a else e3 C b
 |.fx k ts s b=>g5 pg Φ C s>>=λds=>forL (λd cp=>fh k d>>=λaf=>e3 (iy ts af cp) b) ds C
noncomputable def e3 (C:a0):B->R fb
 |.nil=>.ok (.cg C)
 |.cons s b=>ex C s>>=λr=>match r with
  |.cg cp=>e3 cp b
  |.d7 d=>.ok (.d7 d)
end
end
structure gu where
 np:Nat
 nl:Nat
 body:B
noncomputable def start(fd:gu)(ds:List D):a0:=ds.map some++List.replicate fd.nl none
noncomputable def mz:R fb->R D
 |.ok (.d7 d)=>.ok d
 |.ok (.cg _)=>.ok .dr
 |.exc c=>.exc c
 |.bad=>.bad
noncomputable def dt(pg:dq)(Φ:dC)(fd:gu)(ds:List D):R D:=if ds.length=fd.np then mz (e3 pg Φ (start fd ds) fd.body) else .bad
noncomputable def run(pg:dq)(fds:List gu):Nat->dC
 |0=>λ_ _=>.bad
 |n+1=>λf ds=>match fds[f]? with
  |some fd=>dt pg (run pg fds n) fd ds
  |none=>.bad
def sf(pg:dq)(fds:List gu)(n f:Nat)(ds:List D):run pg fds (n+1) f ds=(match fds[f]? with|some fd=>dt pg (run pg fds n) fd ds|none=>.bad):=rfl
structure Gt where
 fns:List Str
 cls:List Str
 rb:List Str
structure b8 where
 N:List Str
 sc:Scope
 ao:List Nat
noncomputable def js(sc:Scope)(x:Str):Bool:=sc.names.lookup x==some .local||sc.names.lookup x==some .cell||sc.names.lookup x==some .free
noncomputable def iK(sc:Scope)(x:Str):Bool:=sc.names.lookup x==some .local||sc.names.lookup x==some .cell
noncomputable def pa(sc:Scope)(x:Str):Bool:=sc.names.lookup x==some .globalImplicit
noncomputable def okN(x:Str):Bool:=!(x==("__debug__":Str))&&!(x==("__classdict__":Str))&&!(x==("__name__":Str))
noncomputable def Fp:Op->Operator->Bool
 |.add,.Add=>true|.sub,.Sub=>true|.mul,.Mult=>true|.fdiv,.FloorDiv=>true|.mod,.Mod=>true|.and,.BitAnd=>true|.xor,.BitXor=>true|.shl,.LShift=>true
 |_,_=>false
noncomputable def sX:hr->CmpOp->Bool
 |.mem,.In=>true|.lM,.NotIn=>true|.eq,.Eq=>true|.ne,.NotEq=>true|.lt,.Lt=>true|.le,.LtE=>true|.gt,.Gt=>true|.ge,.GtE=>true
 |_,_=>false
noncomputable def litOk:D->Const->Bool
 |.dr,.none=>true
 |.aT a,.bool b=>a==b
 |.int i,.int j=>i==j
 |.str x,.str y=>x==y
 |_,_=>false
noncomputable def tyName:Ty->Str
 |.int=>"int"|.bool=>"bool"|.str=>"str"|.tuple=>"tuple"|.cls _=>""
noncomputable def r5:eE->Str
 |.len=>"len"|.sorted=>"sorted"|.sum=>"sum"|.max=>"max"|.int=>"int"|_=>""
noncomputable def r6:eE->Bool
 |.len=>true|.sorted=>true|.sum=>true|.max=>true|.int=>true|_=>false
noncomputable def nameOf:Expr->Option Str
 |.Name x _=>some x
 |_=>none
noncomputable def namesOf:List Expr->Option (List Str)
 |[]=>some []
 |e::ah=>match nameOf e,namesOf ah with|some x,some xs=>some (x::xs)|_,_=>none
noncomputable def fs:Nat->Expr->Option (List Str)
 |0,.Name x _=>some [x]
 |k+1,.Tuple ah _ _=>match namesOf ah with|some xs=>if xs.length=k+1 then some xs else none|none=>none
 |_,_=>none
noncomputable def mask(N xs:List Str):List Str:=N.map λn=>if xs.contains n then(((".":Str))++n) else n
noncomputable def mY:I->Bool:=λ_=>false
noncomputable def uX:I->Bool
 |.seq _=>true
 |.eP _=>true
 |_=>false
noncomputable def rZ:Expr->Bool
 |.ListComp ..=>false
 |_=>true
noncomputable def eT(g:Gt)(sc:Scope)(x:Str):Bool:=pa sc x&&!(g.fns.contains x)&&!(g.cls.contains x)&&!(g.rb.contains x)
noncomputable def hl:Expr->Option Str
 |.Name x _=>some x
 |_=>none
noncomputable def vn:Expr->Option Const
 |.Constant c _ _=>some c
 |_=>none
noncomputable def HL:Expr->Option (List Expr)
 |.Tuple ah _ _=>some ah
 |_=>none
noncomputable def HJ:Expr->Option (List Expr)
 |.List ah _=>some ah
 |_=>none
noncomputable def Ae:Expr->Option (Expr×Operator×Expr)
 |.BinOp x o y _=>some (x,o,y)
 |_=>none
noncomputable def An:Expr->Option (UnaryOp×Expr)
 |.UnaryOp o x _=>some (o,x)
 |_=>none
noncomputable def Ag:Expr->Option (Expr×List CmpOp×List Expr)
 |.Compare x os ys _=>some (x,os,ys)
 |_=>none
noncomputable def vBool:Expr->Option (BoolOp×List Expr×Pos)
 |.BoolOp o ah p=>some (o,ah,p)
 |_=>none
noncomputable def vo:Expr->Option (Expr×Expr)
 |.Subscript x y _=>some (x,y)
 |_=>none
noncomputable def HK:Expr->Option (Option Expr×Option Expr×Option Expr)
 |.Slice l h t _=>some (l,h,t)
 |_=>none
noncomputable def vm:Expr->Option (Expr×List Expr×List Keyword)
 |.Call f ah ar _=>some (f,ah,ar)
 |_=>none
noncomputable def j2(x:Expr):Option (Str×List Expr):=match vm x with
 |some (f,ah,[])=>(match hl f with|some y=>some (y,ah)|none=>none)
 |_=>none
noncomputable def Ad:Expr->Option (Expr×Str×Pos)
 |.Attribute o n p=>some (o,n,p)
 |_=>none
noncomputable def HG:Expr->Option (Expr×List Comprehension×Scope)
 |.ListComp x h2 sc _=>some (x,h2,sc)
 |_=>none
noncomputable def tyB(g:Gt)(ct:b8)(n:Str):Ty->Bool
 |.cls c=>pa ct.sc n&&okN n&&(if c=1000 then n==("ValueError":Str)&&eT g ct.sc n else g.cls[c]?==some n)
 |t=>n==tyName t&&eT g ct.sc n
noncomputable def vp(g:Gt)(ct:b8)(x:Str)(t:Ty)(e y:Expr):Option Expr:=match hl y with
 |some n=>if x==("isinstance":Str)&&eT g ct.sc x&&tyB g ct n t then some e else none
 |none=>none
noncomputable def vq(g:Gt)(ct:b8)(x:Str)(e:Expr):Option Expr:=match j2 e with
 |some (y,[a])=>if x==("sorted":Str)&&eT g ct.sc x&&y==("set":Str)&&eT g ct.sc y then some a else none
 |_=>none
noncomputable def HS(g:Gt)(ct:b8)(x:Str)(p:eE)(ah:List Expr):Option Expr:=match p with
 |.inst t=>(match ah with|[e,y]=>vp g ct x t e y|_=>none)
 |.gb=>(match ah with|[e]=>vq g ct x e|_=>none)
 |p=>(match ah with|[e]=>if r6 p&&x==r5 p&&eT g ct.sc x then some e else none|_=>none)
noncomputable def qK(ct:b8)(sc:Scope)(xs:List Str):Bool:=decide (sc.kind=.function)&&sc.names.all (λy=>y.2 != .cell)&&sc.names.all (λy=>y.2 != .local||sc.names.lookup y.1==some .local)
 && xs.all (λy=>sc.names.lookup y==some .local&&okN y)&&decide xs.Nodup&&sc.names.all (λy=>y.2 != .local||xs.contains y.1||y.1==(".0":Str))
 && sc.names.all (λy=>y.2 != .free||(ct.sc.names.lookup y.1==some .cell||ct.sc.names.lookup y.1==some .free))&&((mask ct.N xs).zip ct.N).all (λp=>p.1==p.2||sc.names.lookup p.1==none)&&decide (mask ct.N xs++xs).Nodup&&!((mask ct.N xs++xs).contains (".0":Str))
noncomputable def t8:Expr->Bool
 |.Dict [] [] _=>true
 |_=>false
noncomputable def Ai:Expr->Option (Str×Str)
 |.Dict [some (.Name n _)] [.Name k _] _=>some (n,k)
 |_=>none
noncomputable def HI:Expr->Option (Expr×Expr×Expr)
 |.IfExp x y w _=>some (x,y,w)
 |_=>none
noncomputable def qE(ct:b8)(i:Nat)(n:Str):Bool:=ct.N[i]?==some n&&js ct.sc n&&okN n
noncomputable def Al(z:Expr):Option (Str×Str):=match j2 z with
 |some (x,[e])=>(match hl e with|some n=>some (x,n)|none=>none)
 |_=>none
noncomputable def oe(ct:b8)(i:Nat)(n:Str):Bool:=ct.N[i]?==some n&&js ct.sc n&&okN n&&ct.ao.contains i
noncomputable def mZ(ct:b8)(i:Nat)(n:Str):Bool:=ct.N[i]?==some n&&js ct.sc n&&okN n&&!ct.ao.contains i
noncomputable def sx(z:Expr):Option (Str×Str):=match vo z with
 |some (x,y)=>(match hl x,hl y with|some n,some k=>some (n,k)|_,_=>none)
 |none=>none
noncomputable def vk(z:Expr):Option (Str×Str×Pos×Expr):=match vm z with
 |some (f,[y],[])=>(match Ad f with
  |some (o,n,ap)=>(match hl o with|some x=>some (x,n,ap,y)|none=>none)
  |none=>none)
 |_=>none
section
variable(g:Gt)
mutual
noncomputable def bS (ct:b8) (v:Bool):E->Expr->Bool
 |.var i,z=>(match hl z with|some x=>ct.N[i]?==some x&&js ct.sc x&&okN x&&(v||!ct.ao.contains i)|none=>false)
 |.lit d,z=>(match vn z with|some c=>litOk d c|none=>false)
 |.tup a,z=>(match HL z with|some ah=>mn ct a ah&&decide (ah.length<=1000)|none=>false)
 |.lst a,z=>(match HJ z with|some ah=>mn ct a ah&&decide (ah.length<=1000)|none=>false)
 |.bin op a b,z=>(match Ae z with|some (x,o,y)=>Fp op o&&bS ct true a x&&bS ct true b y|none=>false)
 |.neg a,z=>(match An z with|some (.USub,x)=>bS ct true a x|_=>false)
 |.ite c a b,z=>(match HI z with|some (x,y,w)=>bS ct true c x&&bS ct false a y&&bS ct false b w|none=>false)
 |.not a,z=>(match An z with|some (.Not,x)=>bS ct true a x|_=>false)
 |.cmp op a b,z=>(match Ag z with|some (x,[o],[y])=>sX op o&&bS ct true a x&&bS ct true b y|_=>false)
 |.qP op op' a b c,z=>(match Ag z with|some (x,[o,bH],[y,w])=>sX op o&&sX op' bH&&bS ct true a x&&bS ct true b y&&bS ct true c w|_=>false)
 |.and a b,z=>(match vBool z with|some (.And,[x,y],_)=>bS ct true a x&&bS ct v b y|some (.And,x::y::w::r,p)=>bS ct true a x&&bS ct v b (.BoolOp .And (y::w::r) p)|_=>false)
 |.or a b,z=>(match vBool z with|some (.Or,[x,y],_)=>bS ct true a x&&bS ct v b y|some (.Or,x::y::w::r,p)=>bS ct true a x&&bS ct v b (.BoolOp .Or (y::w::r) p)|_=>false)
 |.idx a b,z=>(match vo z with|some (x,y)=>bS ct true a x&&bS ct true b y|none=>false)
 |.slice a lo hi,z=>(match vo z with|some (x,y)=>(match HK y with|some (l,h,none)=>bS ct true a x&&qN ct lo l&&qN ct hi h|_=>false)|none=>false)
 |.call f a,z=>(match j2 z with|some (x,ah)=>g.fns[f]?==some x&&pa ct.sc x&&okN x&&!ah.isEmpty&&mn ct a ah|none=>false)
 |.prim p a,z=>(match j2 z with|some (x,ah)=>(match HS g ct x p ah with|some e=>bS ct true a e|none=>false)|none=>false)
 |.tupI s,z=>(match j2 z with|some (x,[e])=>x==("tuple":Str)&&eT g ct.sc x&&uX s&&gA ct true s e|_=>false)
 |.mP s,z=>(match j2 z with|some (x,[e])=>x==("list":Str)&&eT g ct.sc x&&uX s&&gA ct true s e|_=>false)
 |.comp e k s c,z=>(match HG z with
   |some (x,[⟨t,it,ifs,0⟩],sc)=>(match fs k t with
    |some xs=>(!mY s||k==2)&&qK ct sc xs&&gA ct true s it&&bS ⟨mask ct.N xs++xs,sc,ct.ao⟩ false e x&&nE ⟨mask ct.N xs++xs,sc,ct.ao⟩ c ifs
    |none=>false)
   |_=>false)
 |.hC i j,z=>(match sx z with|some (n,k)=>qE ct i n&&mZ ct j k|none=>false)
 |.o2 i,z=>(match Al z with|some (x,n)=>x==("sorted":Str)&&eT g ct.sc x&&oe ct i n|none=>false)
 |.min2 a b,z=>(match j2 z with|some (x,[y,w])=>x==("min":Str)&&eT g ct.sc x&&bS ct true a y&&bS ct true b w|_=>false)
 |.lI i j,z=>(match vk z with|some (x,n,ap,y)=>(match hl y with|some k=>n==("index":Str)&&(ap.endLine==z.pos.line)&&qE ct i x&&qE ct j k|none=>false)|none=>false)
 |.oY i j,z=>(match Ai z with|some (n,k)=>mZ ct i n&&mZ ct j k|none=>false)
 |.oZ,z=>t8 z
noncomputable def mn (ct:b8):A->List Expr->Bool
 |.nil,[]=>true
 |.cons e a,x::xs=>bS ct false e x&&mn ct a xs
 |_,_=>false
noncomputable def qN (ct:b8):O->Option Expr->Bool
 |.none,none=>true
 |.some e,some x=>bS ct true e x
 |_,_=>false
noncomputable def nE (ct:b8):O->List Expr->Bool
 |.none,[]=>true
 |.some e,[x]=>bS ct true e x
 |_,_=>false
noncomputable def gA (ct:b8) (v:Bool):I->Expr->Bool
 |.seq e,z=>bS ct v e z
 |.eP a,z=>(match j2 z with|some (x,[y])=>x==("range":Str)&&eT g ct.sc x&&bS ct true a y|_=>false)
 |.p6 a b,z=>(match j2 z with|some (x,[y,w])=>x==("range":Str)&&eT g ct.sc x&&bS ct true a y&&bS ct true b w|_=>false)
 |.mv i,z=>(match hl z with|some n=>mZ ct i n|none=>false)
end
noncomputable def i8:E->Bool
 |.lst _=>true
 |.comp ..=>true
 |.bin .add _ _=>true
 |.bin .mul _ _=>true
 |.prim .sorted _=>true
 |.prim .gb _=>true
 |.mP _=>true
 |.o2 _=>true
 |_=>false
noncomputable def oW(ct:b8):List Nat->List Str->Bool
 |[],[]=>true
 |i::is,x::xs=>ct.N[i]?==some x&&iK ct.sc x&&okN x&&!ct.ao.contains i&&oW ct is xs
 |_,_=>false
noncomputable def m6:Stmt->Option (List Expr×Expr)
 |.Assign ts y _=>some (ts,y)
 |_=>none
noncomputable def Hk:Stmt->Option Expr
 |.Expr y _=>some y
 |_=>none
noncomputable def qg:Stmt->Option (Option Expr)
 |.Return y _=>some y
 |_=>none
noncomputable def u9:Stmt->Option (Expr×List Stmt×List Stmt)
 |.If t x y _=>some (t,x,y)
 |_=>none
noncomputable def u7:Stmt->Option (Expr×Expr×List Stmt×List Stmt)
 |.For t it x y _=>some (t,it,x,y)
 |_=>none
noncomputable def w2(ct:b8)(i:Nat)(e:E)(z:Stmt):Bool:=match m6 z with
 |some ([t],y)=>(match hl t with|some x=>ct.N[i]?==some x&&iK ct.sc x&&okN x&&(!ct.ao.contains i||i8 e)&&bS g ct false e y|none=>false)
 |_=>false
noncomputable def sW(ct:b8)(i:Nat)(e:E)(nm:Str)(z:Stmt):Bool:=match Hk z with
 |some c=>(match vk c with|some (x,n,ap,y)=>(ap.endLine==c.pos.line)&&ct.N[i]?==some x&&js ct.sc x&&okN x&&ct.ao.contains i&&n==nm&&bS g ct false e y|none=>false)
 |none=>false
noncomputable def oV(ct:b8)(i:Nat)(z:Stmt):Bool:=match m6 z with
 |some ([t],y)=>(match hl t with|some x=>ct.N[i]?==some x&&iK ct.sc x&&okN x&&ct.ao.contains i&&t8 y|none=>false)
 |_=>false
noncomputable def Aj(z:Expr):Option (Str×Str×Pos):=match vm z with
 |some (f,[k,o],[])=>(match Ad f with
  |some (d,n,ap)=>(match hl d,hl k,vn o with|some x,some y,some (.int i)=>if n==("get":Str)&&i==0 then some (x,y,ap) else none|_,_,_=>none)
  |none=>none)
 |_=>none
noncomputable def w3(ct:b8)(i j:Nat)(z:Stmt):Bool:=match m6 z with
 |some ([t],v)=>(match sx t with
  |some (x,y)=>(match Ae v with
   |some (c,.Add,one)=>(match Aj c,vn one with|some (jt,oE,ap),some (.int n)=>n==1&&jt==x&&oE==y&&oe ct i x&&mZ ct j y&&(ap.endLine==c.pos.line)|_,_=>false)
   |_=>false)
  |none=>false)
 |_=>false
noncomputable def w4(ct:b8)(i j:Nat)(e:E)(z:Stmt):Bool:=match m6 z with
 |some ([t],v)=>(match sx t with|some (x,y)=>oe ct i x&&mZ ct j y&&rZ v&&bS g ct false e v|none=>false)
 |_=>false
noncomputable def HC:B->Option (Nat×E)
 |.cons (.asg q e) .nil=>some (q,e)
 |_=>none
noncomputable def v1:List Stmt->Option Stmt
 |[st]=>some st
 |_=>none
noncomputable def w5(ct:b8)(b:B)(j1:List Stmt):Bool:=match HC b,v1 j1 with
 |some (q,e),some st=>(match m6 st with
  |some ([t],y)=>(match hl t with|some x=>ct.N[q]?==some x&&iK ct.sc x&&okN x&&!ct.ao.contains q&&rZ y&&bS g ct false e y|none=>false)
  |_=>false)
 |_,_=>false
mutual
noncomputable def mr (ct:b8):S->Stmt->Bool
 |.asg i e,z=>w2 g ct i e z
 |.app i e,z=>sW g ct i e "append" z
 |.ret e,z=>(match qg z with|some (some y)=>bS g ct false e y|_=>false)
 |.p5 i,z=>(match qg z with|some (some y)=>(match hl y with|some x=>oe ct i x|none=>false)|_=>false)
 |.p4 i,z=>(match qg z with|some (some y)=>(match hl y with|some x=>oe ct i x|none=>false)|_=>false)
 |.iff c a b,z=>(match u9 z with|some (t,x,y)=>bS g ct true c t&&kd ct a x&&kd ct b y|none=>false)
 |.fx k ts s b,z=>(match u7 z with|some (t,it,x,[])=>(match fs k t with|some xs=>(!mY s||k==2)&&oW ct ts xs&&decide ts.Nodup&&((gA g ct false s it&&kd ct b x)||(gA g ct true s it&&w5 g ct b x))|none=>false)|_=>false)
 |.mw i,z=>oV ct i z
 |.nM i,z=>oV ct i z
 |.jC i j e,z=>w4 g ct i j e z
 |.k6 i j,z=>w3 ct i j z
 |.ext i e,z=>sW g ct i e "extend" z
noncomputable def kd (ct:b8):B->List Stmt->Bool
 |.nil,[]=>true
 |.cons s b,x::xs=>mr ct s x&&kd ct b xs
 |_,_=>false
end
mutual
noncomputable def Q0:S->List Nat
 |.app j _=>[j]
 |.mw j=>[j]
 |.nM j=>[j]
 |.jC j _ _=>[j]
 |.k6 j _=>[j]
 |.ext j _=>[j]
 |.iff _ a b=>kE a++kE b
 |.fx _ _ _ b=>kE b
 |_=>[]
noncomputable def kE:B->List Nat
 |.nil=>[]
 |.cons s b=>Q0 s++kE b
end
noncomputable def mq(N:List Str)(fd:gu):Stmt->Bool
 |.FunctionDef name args body [] none [] sc none bind _ =>
   decide (sc.kind=.function)&&!sc.isCoroutine&&!sc.isGenerator&&decide N.Nodup&&N.length==fd.np+fd.nl
   && (args.args.map (·.arg))==N.take fd.np&&args.posonlyargs.isEmpty&&args.vararg.isNone&&args.kwonlyargs.isEmpty&&args.kwarg.isNone&&args.defaults.isEmpty&&args.kw_defaults.isEmpty
   && (N.take fd.np).all (λx=>iK sc x)&&sc.names.all (λy=>y.2 != .free)
   && (kE fd.body).all (λi=>decide (fd.np<=i)&&decide (i<N.length))&&kd g ⟨N,sc,kE fd.body⟩ fd.body body
 |_=>false
end
end Den
end
section
namespace bl
open PySem Den
noncomputable def wQ :B:=.cons (.ret (.comp (.bin .add (.slice (.var 0) (.none) (.some (.var 1))) (.slice (.var 0) (.some (.bin .add (.var 1) (.lit (.int 1)))) (.none))) 0 (.eP (.prim .len (.var 0))) (.some (.cmp .gt (.prim .len (.var 0)) (.lit (.int 1)))))) (.nil)
noncomputable def wg :B:=.cons (.asg 1 (.lst (.nil))) (.cons (.fx 0 [2] (.seq (.var 0)) (.cons (.asg 1 (.bin .add (.bin .add (.var 1) (.lst (.cons (.tup (.cons (.var 2) (.nil))) (.nil)))) (.comp (.bin .add (.var 3) (.tup (.cons (.var 2) (.nil)))) 0 (.seq (.var 1)) (.none)))) (.nil))) (.cons (.ret (.var 1)) (.nil)))
noncomputable def wi(Mn:Nat):B:=.cons (.asg 1 (.lst (.nil))) (.cons (.fx 0 [2] (.seq (.idx (.var 0) (.lit (.int 1)))) (.cons (.ext 1 (.call Mn (.cons (.var 2) (.nil)))) (.nil))) (.cons (.ret (.prim .gb (.var 1))) (.nil)))
noncomputable def we(Mp:Nat):B:=.cons (.ret (.tupI (.seq (.comp (.var 2) 0 (.seq (.call Mp (.cons (.var 0) (.nil)))) (.some (.cmp .eq (.bin .sub (.prim .len (.var 2)) (.lit (.int 1))) (.var 1))))))) (.nil)
noncomputable def wL(Mm:Nat):B:=.cons (.mw 2) (.cons (.asg 3 (.lit (.int 1))) (.cons (.fx 0 [4] (.seq (.call Mm (.cons (.var 0) (.cons (.var 1) (.nil))))) (.cons (.jC 2 4 (.var 3)) (.cons (.asg 3 (.bin .mul (.var 3) (.lit (.int 2)))) (.nil)))) (.cons (.p4 2) (.nil))))
noncomputable def wd :B:=.cons (.ret (.prim .sum (.comp (.hC 1 2) 0 (.seq (.var 0)) (.none)))) (.nil)
noncomputable def wh :B:=.cons (.ret (.tupI (.seq (.comp (.var 2) 0 (.mv 1) (.some (.cmp .ne (.bin .and (.var 0) (.hC 1 2)) (.lit (.int 0)))))))) (.nil)
noncomputable def wN(Ml:Nat)(Mu:Nat)(ti:Nat):B:=.cons (.asg 2 (.call ti (.cons (.var 0) (.cons (.bin .sub (.var 1) (.lit (.int 1))) (.nil))))) (.cons (.asg 3 (.call ti (.cons (.var 0) (.cons (.var 1) (.nil))))) (.cons (.ret (.comp (.tup (.cons (.call Ml (.cons (.call Mu (.cons (.var 4) (.nil))) (.cons (.var 2) (.nil)))) (.cons (.hC 3 4) (.nil)))) 0 (.mv 3) (.none))) (.nil)))
noncomputable def wR :B:=.cons (.ret (.tup (.cons (.bin .xor (.idx (.var 0) (.lit (.int 0))) (.idx (.var 1) (.lit (.int 0)))) (.cons (.bin .xor (.idx (.var 0) (.lit (.int 1))) (.idx (.var 1) (.lit (.int 1)))) (.nil))))) (.nil)
noncomputable def wM(Mx:Nat):B:=.cons (.fx 0 [2] (.mv 1) (.cons (.iff (.cmp .ne (.bin .and (.idx (.var 0) (.lit (.int 0))) (.var 2)) (.lit (.int 0))) (.cons (.asg 0 (.call Mx (.cons (.var 0) (.cons (.hC 1 2) (.nil))))) (.nil)) (.nil)) (.nil))) (.cons (.ret (.var 0)) (.nil))
noncomputable def wK :B:=.cons (.ret (.bin .and (.var 0) (.neg (.var 0)))) (.nil)
noncomputable def sU(o7:Nat)(Ms:Nat):B:=.cons (.asg 2 (.call o7 (.cons (.var 1) (.cons (.var 0) (.nil))))) (.cons (.iff (.cmp .eq (.idx (.var 2) (.lit (.int 0))) (.lit (.int 0))) (.cons (.ret (.var 0)) (.nil)) (.nil)) (.cons (.asg 3 (.call Ms (.cons (.idx (.var 2) (.lit (.int 0))) (.nil)))) (.cons (.nM 4) (.cons (.fx 0 [5] (.mv 0) (.cons (.jC 4 5 (.call o7 (.cons (.hC 0 5) (.cons (.oY 3 2) (.nil))))) (.nil))) (.cons (.jC 4 3 (.var 2)) (.cons (.p4 4) (.nil)))))))
noncomputable def wc(q6:Nat):B:=.cons (.asg 1 (.oZ)) (.cons (.fx 0 [2] (.seq (.var 0)) (.cons (.asg 1 (.call q6 (.cons (.var 1) (.cons (.var 2) (.nil))))) (.nil))) (.cons (.ret (.var 1)) (.nil)))
noncomputable def wk(q6:Nat)(o7:Nat):B:=.cons (.asg 1 (.oZ)) (.cons (.asg 2 (.lst (.nil))) (.cons (.fx 0 [3] (.seq (.var 0)) (.cons (.asg 4 (.call o7 (.cons (.var 3) (.cons (.var 1) (.nil))))) (.cons (.iff (.cmp .eq (.idx (.var 4) (.lit (.int 0))) (.lit (.int 0))) (.cons (.app 2 (.idx (.var 4) (.lit (.int 1)))) (.nil)) (.nil)) (.cons (.asg 1 (.call q6 (.cons (.var 1) (.cons (.var 3) (.nil))))) (.nil))))) (.cons (.p5 2) (.nil))))
noncomputable def wO(Mr:Nat)(Cz:Nat)(o7:Nat)(q6:Nat)(Mo:Nat)(ti:Nat)(Mk:Nat):B:=.cons (.asg 2 (.call Mk (.cons (.call Cz (.cons (.var 0) (.cons (.bin .add (.var 1) (.lit (.int 1))) (.nil)))) (.nil)))) (.cons (.asg 3 (.call ti (.cons (.var 0) (.cons (.var 1) (.nil))))) (.cons (.asg 4 (.lst (.nil))) (.cons (.fx 0 [5] (.seq (.call Mr (.cons (.call Cz (.cons (.var 0) (.cons (.var 1) (.nil)))) (.nil)))) (.cons (.asg 6 (.tup (.cons (.var 5) (.cons (.lit (.int 0)) (.nil))))) (.cons (.iff (.cmp .ne (.idx (.call o7 (.cons (.var 6) (.cons (.var 2) (.nil)))) (.lit (.int 0))) (.lit (.int 0))) (.cons (.app 4 (.call Mo (.cons (.var 5) (.cons (.var 3) (.nil))))) (.cons (.asg 2 (.call q6 (.cons (.var 2) (.cons (.var 6) (.nil))))) (.nil))) (.nil)) (.nil)))) (.cons (.ret (.tupI (.seq (.prim .sorted (.var 4))))) (.nil)))))
noncomputable def wj(q7:Nat):B:=.cons (.asg 1 (.prim .max (.comp (.prim .len (.var 2)) 0 (.seq (.idx (.var 0) (.lit (.int 1)))) (.none)))) (.cons (.ret (.tupI (.seq (.comp (.prim .len (.call q7 (.cons (.var 0) (.cons (.var 2) (.nil))))) 0 (.eP (.var 1)) (.none))))) (.nil))
noncomputable def wq :B:=.cons (.iff (.cmp .lt (.var 1) (.prim .len (.var 0))) (.cons (.ret (.idx (.var 0) (.var 1))) (.nil)) (.nil)) (.cons (.ret (.lit (.int 0))) (.nil))
noncomputable def wC(MA:Nat):B:=.cons (.asg 2 (.bin .mod (.bin .mul (.bin .add (.bin .add (.call MA (.cons (.var 0) (.cons (.var 1) (.nil)))) (.bin .mul (.lit (.int 7919)) (.var 1))) (.lit (.int 1))) (.lit (.int 48271))) (.lit (.int 2147483647)))) (.cons (.ret (.bin .mod (.bin .add (.bin .add (.bin .mul (.var 2) (.var 2)) (.bin .mul (.lit (.int 7)) (.var 2))) (.var 1)) (.lit (.int 2147483629)))) (.nil))
noncomputable def wu :B:=.cons (.asg 2 (.bin .mod (.bin .mul (.bin .add (.bin .add (.var 0) (.bin .mul (.lit (.int 104729)) (.var 1))) (.lit (.int 17))) (.lit (.int 69621))) (.lit (.int 2147483647)))) (.cons (.ret (.bin .mod (.bin .add (.bin .add (.bin .mul (.var 2) (.var 2)) (.bin .mul (.lit (.int 3)) (.var 2))) (.var 1)) (.lit (.int 2147483629)))) (.nil))
noncomputable def wB :B:=.cons (.ret (.cmp .eq (.comp (.var 2) 0 (.seq (.var 0)) (.some (.cmp .lM (.var 2) (.var 1)))) (.lst (.nil)))) (.nil)
noncomputable def wJ(MJ:Nat):B:=.cons (.asg 1 (.lst (.nil))) (.cons (.fx 0 [2] (.seq (.prim .gb (.var 0))) (.cons (.iff (.cmp .eq (.comp (.var 3) 0 (.seq (.var 0)) (.some (.and (.cmp .ne (.var 2) (.var 3)) (.call MJ (.cons (.var 2) (.cons (.var 3) (.nil))))))) (.lst (.nil))) (.cons (.app 1 (.var 2)) (.nil)) (.nil)) (.nil))) (.cons (.ret (.tupI (.seq (.var 1)))) (.nil)))
noncomputable def oS(nR:Nat):B:=.cons (.iff (.cmp .eq (.var 1) (.lit (.int 0))) (.cons (.ret (.lst (.cons (.tup (.nil)) (.nil)))) (.nil)) (.nil)) (.cons (.asg 2 (.lst (.nil))) (.cons (.fx 0 [3] (.eP (.prim .len (.var 0))) (.cons (.asg 2 (.bin .add (.var 2) (.comp (.bin .add (.tup (.cons (.idx (.var 0) (.var 3)) (.nil))) (.var 4)) 0 (.seq (.call nR (.cons (.slice (.var 0) (.some (.bin .add (.var 3) (.lit (.int 1)))) (.none)) (.cons (.bin .sub (.var 1) (.lit (.int 1))) (.nil))))) (.none)))) (.nil))) (.cons (.ret (.var 2)) (.nil))))
noncomputable def wI(CB:Nat):B:=.cons (.asg 2 (.comp (.tup (.cons (.var 6) (.nil))) 0 (.eP (.var 1)) (.none))) (.cons (.fx 0 [3] (.eP (.bin .mod (.var 0) (.lit (.int 9)))) (.cons (.asg 4 (.call CB (.cons (.var 0) (.cons (.var 3) (.nil))))) (.cons (.asg 5 (.tupI (.seq (.comp (.var 6) 0 (.eP (.var 1)) (.some (.cmp .lt (.bin .mod (.call CB (.cons (.var 4) (.cons (.var 6) (.nil)))) (.lit (.int 5))) (.bin .add (.lit (.int 2)) (.bin .mod (.var 4) (.lit (.int 2)))))))))) (.cons (.iff (.cmp .ne (.var 5) (.tup (.nil))) (.cons (.app 2 (.var 5)) (.nil)) (.nil)) (.nil))))) (.cons (.p5 2) (.nil)))
noncomputable def wD(MX:Nat)(nR:Nat)(MW:Nat):B:=.cons (.asg 2 (.bin .add (.lit (.int 1)) (.bin .mod (.var 0) (.var 1)))) (.cons (.asg 3 (.bin .mod (.bin .fdiv (.var 0) (.lit (.int 12))) (.lit (.int 8)))) (.cons (.iff (.cmp .eq (.var 3) (.lit (.int 0))) (.cons (.asg 4 (.call nR (.cons (.tupI (.eP (.var 2))) (.cons (.bin .add (.lit (.int 1)) (.bin .mod (.bin .fdiv (.var 0) (.lit (.int 96))) (.var 2))) (.nil))))) (.nil)) (.cons (.iff (.and (.cmp .eq (.var 3) (.lit (.int 1))) (.cmp .gt (.var 1) (.lit (.int 5)))) (.cons (.asg 2 (.lit (.int 6))) (.cons (.asg 4 (.comp (.tup (.cons (.lit (.int 0)) (.cons (.bin .add (.lit (.int 1)) (.var 5)) (.cons (.bin .add (.lit (.int 1)) (.bin .mod (.bin .add (.var 5) (.lit (.int 1))) (.lit (.int 5)))) (.nil))))) 0 (.eP (.lit (.int 5))) (.none))) (.cons (.asg 4 (.bin .add (.var 4) (.comp (.tup (.cons (.bin .add (.lit (.int 1)) (.var 5)) (.cons (.bin .add (.lit (.int 1)) (.bin .mod (.bin .add (.var 5) (.lit (.int 1))) (.lit (.int 5)))) (.cons (.bin .add (.lit (.int 1)) (.bin .mod (.bin .add (.var 5) (.lit (.int 3))) (.lit (.int 5)))) (.nil))))) 0 (.eP (.lit (.int 5))) (.none)))) (.nil)))) (.cons (.iff (.and (.cmp .eq (.var 3) (.lit (.int 2))) (.cmp .gt (.var 1) (.lit (.int 6)))) (.cons (.asg 2 (.lit (.int 7))) (.cons (.asg 4 (.comp (.tup (.cons (.var 5) (.cons (.bin .mod (.bin .add (.var 5) (.lit (.int 1))) (.lit (.int 7))) (.cons (.bin .mod (.bin .add (.var 5) (.lit (.int 3))) (.lit (.int 7))) (.nil))))) 0 (.eP (.lit (.int 7))) (.none))) (.cons (.asg 4 (.bin .add (.var 4) (.comp (.tup (.cons (.var 5) (.cons (.bin .mod (.bin .add (.var 5) (.lit (.int 2))) (.lit (.int 7))) (.cons (.bin .mod (.bin .add (.var 5) (.lit (.int 3))) (.lit (.int 7))) (.nil))))) 0 (.eP (.lit (.int 7))) (.none)))) (.nil)))) (.cons (.asg 4 (.call MW (.cons (.bin .fdiv (.var 0) (.lit (.int 96))) (.cons (.var 2) (.nil))))) (.nil))) (.nil))) (.nil))) (.cons (.ret (.tup (.cons (.var 2) (.cons (.call MX (.cons (.comp (.tupI (.seq (.prim .sorted (.var 5)))) 0 (.seq (.var 4)) (.none)) (.nil))) (.nil))))) (.nil))))
noncomputable def wt(nR:Nat):B:=.cons (.asg 2 (.lst (.nil))) (.cons (.fx 0 [3] (.seq (.idx (.var 0) (.lit (.int 1)))) (.cons (.asg 2 (.bin .add (.var 2) (.call nR (.cons (.var 3) (.cons (.bin .add (.var 1) (.lit (.int 1))) (.nil)))))) (.nil))) (.cons (.ret (.prim .gb (.var 2))) (.nil)))
noncomputable def wx :B:=.cons (.ret (.prim .max (.comp (.prim .len (.var 1)) 0 (.seq (.idx (.var 0) (.lit (.int 1)))) (.none)))) (.nil)
noncomputable def wF :B:=.cons (.ret (.and (.prim (.inst .int) (.var 0)) (.and (.not (.prim (.inst .bool) (.var 0))) (.qP .le .le (.var 1) (.var 0) (.var 2))))) (.nil)
noncomputable def wz(MR:Nat):B:=.cons (.iff (.or (.not (.prim (.inst .tuple) (.var 0))) (.cmp .eq (.var 0) (.tup (.nil)))) (.cons (.ret (.lit (.aT false))) (.nil)) (.nil)) (.cons (.iff (.cmp .ne (.comp (.var 2) 0 (.seq (.var 0)) (.some (.not (.call MR (.cons (.var 2) (.cons (.lit (.int 0)) (.cons (.bin .sub (.var 1) (.lit (.int 1))) (.nil)))))))) (.lst (.nil))) (.cons (.ret (.lit (.aT false))) (.nil)) (.nil)) (.cons (.ret (.cmp .eq (.comp (.var 2) 0 (.p6 (.lit (.int 1)) (.prim .len (.var 0))) (.some (.cmp .ge (.idx (.var 0) (.bin .sub (.var 2) (.lit (.int 1)))) (.idx (.var 0) (.var 2))))) (.lst (.nil)))) (.nil)))
noncomputable def wA(mB:Nat)(MH:Nat):B:=.cons (.iff (.or (.not (.prim (.inst .tuple) (.var 0))) (.cmp .ne (.comp (.var 3) 0 (.seq (.var 0)) (.some (.not (.call MH (.cons (.var 3) (.cons (.idx (.var 1) (.lit (.int 0))) (.nil))))))) (.lst (.nil)))) (.cons (.ret (.lit (.aT false))) (.nil)) (.nil)) (.cons (.ret (.cmp .eq (.mP (.seq (.var 0))) (.comp (.var 3) 0 (.seq (.call mB (.cons (.var 1) (.cons (.var 2) (.nil))))) (.some (.cmp .mem (.var 3) (.var 0)))))) (.nil))
noncomputable def wH :B:=.cons (.mw 1) (.cons (.fx 0 [2] (.seq (.var 0)) (.cons (.fx 0 [3] (.eP (.bin .mul (.prim .len (.var 2)) (.prim .int (.cmp .gt (.prim .len (.var 2)) (.lit (.int 1)))))) (.cons (.asg 4 (.bin .add (.slice (.var 2) (.none) (.some (.var 3))) (.slice (.var 2) (.some (.bin .add (.var 3) (.lit (.int 1)))) (.none)))) (.cons (.k6 1 4) (.nil)))) (.nil))) (.cons (.ret (.tupI (.seq (.comp (.var 5) 0 (.seq (.o2 1)) (.some (.cmp .eq (.bin .mod (.hC 1 5) (.lit (.int 2))) (.lit (.int 1)))))))) (.nil)))
noncomputable def qJ(nR:Nat)(mB:Nat):B:=.cons (.asg 2 (.call mB (.cons (.var 0) (.cons (.var 1) (.nil))))) (.cons (.iff (.cmp .eq (.var 1) (.lit (.int 0))) (.cons (.ret (.bin .mul (.lst (.cons (.lit (.int 0)) (.nil))) (.prim .len (.var 2)))) (.nil)) (.nil)) (.cons (.asg 3 (.call mB (.cons (.var 0) (.cons (.bin .sub (.var 1) (.lit (.int 1))) (.nil))))) (.cons (.ret (.comp (.prim .sum (.comp (.bin .shl (.lit (.int 1)) (.lI 3 5)) 0 (.seq (.call nR (.cons (.var 4) (.cons (.var 1) (.nil))))) (.none))) 0 (.seq (.var 2)) (.none))) (.nil))))
noncomputable def wG :B:=.cons (.asg 1 (.lst (.nil))) (.cons (.fx 0 [2] (.seq (.var 0)) (.cons (.asg 3 (.var 2)) (.cons (.fx 0 [4] (.seq (.var 1)) (.cons (.asg 3 (.min2 (.var 3) (.bin .xor (.var 3) (.var 4)))) (.nil))) (.cons (.iff (.cmp .gt (.var 3) (.lit (.int 0))) (.cons (.app 1 (.var 3)) (.nil)) (.nil)) (.nil))))) (.cons (.ret (.prim .len (.var 1))) (.nil)))
noncomputable def wy(mB:Nat)(tq:Nat)(xx:Nat)(MB:Nat):B:=.cons (.asg 1 (.call MB (.cons (.var 0) (.nil)))) (.cons (.asg 2 (.bin .add (.comp (.call tq (.cons (.call xx (.cons (.var 0) (.cons (.var 3) (.nil)))) (.nil))) 0 (.eP (.var 1)) (.none)) (.lst (.cons (.lit (.int 0)) (.nil))))) (.cons (.ret (.tupI (.seq (.comp (.bin .sub (.bin .sub (.prim .len (.call mB (.cons (.var 0) (.cons (.var 3) (.nil))))) (.idx (.var 2) (.var 3))) (.idx (.var 2) (.bin .add (.var 3) (.lit (.int 1))))) 0 (.eP (.var 1)) (.none))))) (.nil)))
noncomputable def wo :B:=.cons (.ret (.prim .sum (.comp (.bin .shl (.lit (.int 1)) (.lI 1 2)) 0 (.seq (.var 0)) (.none)))) (.nil)
noncomputable def wm(tq:Nat)(Mz:Nat)(xx:Nat)(MU:Nat)(MI:Nat)(q7:Nat)(mB:Nat)(Mq:Nat)(MC:Nat)(MQ:Nat)(MO:Nat):B:=.cons (.asg 1 (.call MQ (.cons (.call MO (.cons (.var 0) (.cons (.lit (.int 0)) (.nil)))) (.cons (.lit (.int 8)) (.nil))))) (.cons (.asg 2 (.call MC (.cons (.var 1) (.nil)))) (.cons (.asg 3 (.call Mq (.cons (.var 1) (.nil)))) (.cons (.iff (.or (.cmp .ne (.var 3) (.var 2)) (.or (.not (.prim (.inst .tuple) (.var 3))) (.cmp .ne (.comp (.var 9) 0 (.seq (.var 3)) (.some (.prim (.inst .bool) (.var 9)))) (.lst (.nil))))) (.cons (.ret (.lit (.aT false))) (.nil)) (.nil)) (.cons (.iff (.or (.cmp .ne (.call q7 (.cons (.var 1) (.cons (.min2 (.lit (.int 7)) (.prim .len (.var 2))) (.nil)))) (.tup (.nil))) (.cmp .ne (.call q7 (.cons (.var 1) (.cons (.lit (.int 7)) (.nil)))) (.tup (.nil)))) (.cons (.ret (.lit (.aT false))) (.nil)) (.nil)) (.cons (.fx 0 [4] (.eP (.prim .len (.var 2))) (.cons (.asg 5 (.call mB (.cons (.var 1) (.cons (.var 4) (.nil))))) (.cons (.asg 6 (.call q7 (.cons (.var 1) (.cons (.var 4) (.nil))))) (.cons (.iff (.or (.not (.prim (.inst .tuple) (.var 6))) (.cmp .ne (.prim .len (.var 6)) (.idx (.var 2) (.var 4)))) (.cons (.ret (.lit (.aT false))) (.nil)) (.nil)) (.cons (.iff (.cmp .ne (.comp (.var 9) 0 (.seq (.var 6)) (.some (.or (.not (.call MI (.cons (.var 9) (.cons (.var 1) (.cons (.var 4) (.nil)))))) (.cmp .ne (.call MU (.cons (.var 9) (.nil))) (.tup (.nil)))))) (.lst (.nil))) (.cons (.ret (.lit (.aT false))) (.nil)) (.nil)) (.cons (.asg 7 (.call xx (.cons (.var 1) (.cons (.bin .add (.var 4) (.lit (.int 1))) (.nil))))) (.cons (.asg 8 (.comp (.call Mz (.cons (.var 9) (.cons (.var 5) (.nil)))) 0 (.seq (.var 6)) (.none))) (.cons (.iff (.cmp .ne (.call tq (.cons (.bin .add (.var 7) (.var 8)) (.nil))) (.bin .add (.call tq (.cons (.var 7) (.nil))) (.prim .len (.var 8)))) (.cons (.ret (.lit (.aT false))) (.nil)) (.nil)) (.nil))))))))) (.cons (.ret (.lit (.aT true))) (.nil)))))))
end bl
end
section
namespace gx
open PySem Den
noncomputable def fds:List gu:=[
 ⟨1,0,bl.wQ⟩,
 ⟨1,2,bl.wg⟩,
 ⟨1,2,bl.wi 1⟩,
 ⟨2,0,bl.we 2⟩,
 ⟨2,3,bl.wL 3⟩,
 ⟨2,0,bl.wd⟩,
 ⟨2,0,bl.wh⟩,
 ⟨2,2,bl.wN 5 0 4⟩,
 ⟨2,0,bl.wR⟩,
 ⟨2,1,bl.wM 8⟩,
 ⟨1,0,bl.wK⟩,
 ⟨2,4,bl.sU 9 10⟩,
 ⟨1,2,bl.wc 11⟩,
 ⟨1,4,bl.wk 11 9⟩,
 ⟨2,5,bl.wO 13 7 9 11 6 4 12⟩,
 ⟨1,1,bl.wj 14⟩,
 ⟨2,0,bl.wq⟩,
 ⟨2,1,bl.wC 16⟩,
 ⟨2,1,bl.wu⟩,
 ⟨2,0,bl.wB⟩,
 ⟨1,2,bl.wJ 19⟩,
 ⟨2,2,bl.oS 21⟩,
 ⟨2,4,bl.wI 18⟩,
 ⟨2,3,bl.wD 20 21 22⟩,
 ⟨2,2,bl.wt 21⟩,
 ⟨1,0,bl.wx⟩,
 ⟨3,0,bl.wF⟩,
 ⟨2,0,bl.wz 26⟩,
 ⟨3,0,bl.wA 24 27⟩,
 ⟨1,4,bl.wH⟩,
 ⟨2,2,bl.qJ 21 24⟩,
 ⟨1,4,bl.wG⟩,
 ⟨1,2,bl.wy 24 31 30 25⟩,
 ⟨2,0,bl.wo⟩,
 ⟨1,8,bl.wm 31 33 30 29 28 14 24 15 32 23 17⟩]
noncomputable def cs:List D:=[]
noncomputable def up:gJ:=λc=>match c with |_=>[]
noncomputable def pg:dq:=⟨up,cs⟩
noncomputable def Fe:List (List Str):=[
 (["cell"]:List Str),
 (["top","found","corner"]:List Str),
 (["net","found","top"]:List Str),
 (["net","height"]:List Str),
 (["net","height","found","bit","cell"]:List Str),
 (["chain","marked"]:List Str),
 (["bits","marked"]:List Str),
 (["net","height","lower","own"]:List Str),
 (["one","other"]:List Str),
 (["row","basis","pivot"]:List Str),
 (["bits"]:List Str),
 (["basis","row","left","pivot","wider","other"]:List Str),
 (["rows","basis","row"]:List Str),
 (["rows","basis","found","row","left"]:List Str),
 (["net","height","reached","marked","found","bits","row"]:List Str),
 (["net","highest"]:List Str),
 (["_law_script","_law_k"]:List Str),
 (["_law_script","_law_k","_law_drawn_here"]:List Str),
 (["_law_number_here","_law_k","_law_drawn_here"]:List Str),
 (["_law_cell","_law_other"]:List Str),
 (["_law_some_here","_law_found","_law_cell"]:List Str),
 (["_law_cell","_law_size","_law_found","_law_at"]:List Str),
 (["_law_number_here","_law_many","_law_found","_law_k","_law_drawn_here","_law_cell"]:List Str),
 (["_law_number_here","_law_most","_law_many","_law_kind","_law_some_here"]:List Str),
 (["_law_net_here","_law_height","_law_found","_law_top"]:List Str),
 (["_law_net_here"]:List Str),
 (["_law_thing","_law_low","_law_high_here"]:List Str),
 (["_law_thing","_law_many"]:List Str),
 (["_law_thing","_law_net_here","_law_height"]:List Str),
 (["_law_chain","_law_counts","_law_cell","_law_at","_law_part"]:List Str),
 (["_law_net_here","_law_height","_law_some_here","_law_lower"]:List Str),
 (["_law_some_here","_law_basis","_law_one","_law_left","_law_other"]:List Str),
 (["_law_net_here","_law_high_here","_law_ranks"]:List Str),
 (["_law_chain","_law_every"]:List Str),
 (["_law_script","_law_net_here","_law_due","_law_found","_law_height","_law_some_here","_law_told","_law_filled","_law_more"]:List Str)]
noncomputable def gt:Gt:=⟨[("sides":Str),("cells_within":Str),("every_cell":Str),("cells_of_height":Str),("marks":Str),("bits_of":Str),("chain_of":Str),("rim_rows":Str),("sum_of_rows":Str),("reduced":Str),("lowest_bit":Str),("grown":Str),("basis_of":Str),("idle_parts":Str),("rounds_about":Str),("holes":Str),("_law_cell_at":Str),("_law_mixed":Str),("_law_drawn":Str),("_law_lies":Str),("_law_tops":Str),("_law_parts":Str),("_law_some":Str),("_law_net":Str),("_law_cells":Str),("_law_high":Str),("_law_number":Str),("_law_is_cell":Str),("_law_is_chain":Str),("_law_rim":Str),("_law_columns":Str),("_law_rank":Str),("_law_holes":Str),("_law_bits":Str),("law":Str)],[],[]⟩
end gx
end
section
namespace Den
section
variable{pg:dq}{Φ:dC}{C:a0}
noncomputable def vZ(pg:dq)(Φ:dC)(C:a0)(r:R D)(b:E):R D:=r>>=λx=>fJ x>>=λk=>if k then ev pg Φ C b else .ok (.aT false)
noncomputable def y9(pg:dq)(Φ:dC)(C:a0)(r:R D)(b:E):R D:=r>>=λx=>fJ x>>=λk=>if k then .ok (.aT true) else ev pg Φ C b
noncomputable def uU(pg:dq)(Φ:dC)(r:R fb)(b:B):R fb:=r>>=λx=>match x with
 |.cg cp=>e3 pg Φ cp b
 |.d7 d=>.ok (.d7 d)
noncomputable def yA(pg:dq)(Φ:dC)(C:a0)(r:R D)(a b:B):R fb:=r>>=λx=>fJ x>>=λk=>if k then e3 pg Φ C a else e3 pg Φ C b
noncomputable def turn(pg:dq)(Φ:dC)(k:Nat)(ts:List Nat)(b:B)(d:D)(C:a0):R fb:=fh k d>>=λaf=>e3 pg Φ (iy ts af C) b
noncomputable def elem(pg:dq)(Φ:dC)(C:a0)(e:E)(k:Nat)(c:O)(d:D):R (Option D):=fh k d>>=λaf=>lg pg Φ (C++af) c>>=λb=>if b then ev pg Φ (C++af) e>>=λy=>.ok (some y) else .ok none
def Cq(i:Nat){d:D}(h:C[i]?=some (some d)):ev pg Φ C (.var i)=.ok d:=Zr xQ h
def td(i:Nat):ev pg Φ C (.var i)=xQ C[i]?:=bf rfl
def LY{d:D}{r:a0}:ev pg Φ (some d::r) (.var 0)=.ok d:=bf rfl
def LZ{o:Option D}{r:a0}{i:Nat}:ev pg Φ (o::r) (.var (i+1))=ev pg Φ r (.var i):=bf rfl
def Ck(d:D):ev pg Φ C (.lit d)=.ok d:=bf rfl
def LX(a:A):ev pg Φ C (.tup a)=h1 pg Φ C a>>=λds=>.ok (.tup ds):=bf rfl
def LQ(a:A):ev pg Φ C (.lst a)=h1 pg Φ C a>>=λds=>.ok (.lst ds):=bf rfl
def LI(op:Op)(a b:E):ev pg Φ C (.bin op a b)=ev pg Φ C a>>=λx=>ev pg Φ C b>>=λy=>d3 op x y:=bf rfl
def LR(a:E):ev pg Φ C (.neg a)=ev pg Φ C a>>=λx=>e1 x>>=λi=>.ok (.int (-i)):=bf rfl
def tc(i:Nat):g5 pg Φ C (.mv i)=oX C[i]?:=bf rfl
def LS(a:E):ev pg Φ C (.not a)=ev pg Φ C a>>=λx=>fJ x>>=λb=>.ok (.aT (!b)):=bf rfl
def LK(op:hr)(a b:E):ev pg Φ C (.cmp op a b)=ev pg Φ C a>>=λx=>ev pg Φ C b>>=λy=>dM op x y>>=λc=>.ok (.aT c):=bf rfl
def LL(op op':hr)(a b c:E):ev pg Φ C (.qP op op' a b c)=ev pg Φ C a>>=λx=>ev pg Φ C b>>=λy=>dM op x y>>=λk=>if k then ev pg Φ C c>>=λz=>dM op' y z>>=λdz=>.ok (.aT dz) else .ok (.aT false):=bf rfl
def LH(a b:E):ev pg Φ C (.and a b)=vZ pg Φ C (ev pg Φ C a) b:=bf rfl
def LU(a b:E):ev pg Φ C (.or a b)=y9 pg Φ C (ev pg Φ C a) b:=bf rfl
def LP(a b:E):ev pg Φ C (.idx a b)=ev pg Φ C a>>=λx=>ev pg Φ C b>>=λy=>gM x y:=bf rfl
def LW(a:E)(lo hi:O):ev pg Φ C (.slice a lo hi)=ev pg Φ C a>>=λx=>mA pg Φ C lo>>=λl=>mA pg Φ C hi>>=λh=>j0 x l h:=bf rfl
def LJ(f:Nat)(a:A):ev pg Φ C (.call f a)=h1 pg Φ C a>>=λds=>Φ f ds:=bf rfl
def LV(p:eE)(a:E):ev pg Φ C (.prim p a)=ev pg Φ C a>>=λx=>jY pg.up p x:=bf rfl
def Cp(s:I):ev pg Φ C (.tupI s)=g5 pg Φ C s>>=λds=>.ok (.tup ds):=bf rfl
def Cn(s:I):ev pg Φ C (.mP s)=g5 pg Φ C s>>=λds=>.ok (.lst ds):=bf rfl
def LM(e:E)(k:Nat)(s:I)(c:O):ev pg Φ C (.comp e k s c)=g5 pg Φ C s>>=λds=>iN (cZ (elem pg Φ C e k c) ds)>>=λys=>.ok (.lst ys):=bf rfl
def y5{α:Type}(a:α):iN (.ok a)=.ok a:=bf rfl
def Ci:h1 pg Φ C .nil=.ok []:=bf rfl
def Cg(e:E)(a:A):h1 pg Φ C (.cons e a)=ev pg Φ C e>>=λx=>h1 pg Φ C a>>=λxs=>.ok (x::xs):=bf rfl
def LF:mA pg Φ C .none=.ok none:=bf rfl
def LG(e:E):mA pg Φ C (.some e)=ev pg Φ C e>>=λx=>e1 x>>=λi=>.ok (some i):=bf rfl
def LA:lg pg Φ C .none=.ok true:=bf rfl
def LB(e:E):lg pg Φ C (.some e)=ev pg Φ C e>>=λx=>fJ x:=bf rfl
def xt(e:E):g5 pg Φ C (.seq e)=ev pg Φ C e>>=λx=>fE x:=bf rfl
def LC(a:E):g5 pg Φ C (.eP a)=ev pg Φ C a>>=λx=>e1 x>>=λi=>iQ 0 i:=bf rfl
def LD(a b:E):g5 pg Φ C (.p6 a b)=ev pg Φ C a>>=λx=>e1 x>>=λi=>ev pg Φ C b>>=λy=>e1 y>>=λj=>iQ i j:=bf rfl
def IU(b:Bool):fJ (.aT b)=.ok b:=bf rfl
def IV(i:Int):e1 (.int i)=.ok i:=bf rfl
def Ux(xs:List D):fE (.tup xs)=.ok xs:=bf rfl
def Uw(xs:List D):fE (.lst xs)=.ok xs:=bf rfl
def Jd(d:D):fh 0 d=.ok [some d]:=bf rfl
def Je(x y:D):fh 2 (.tup [x,y])=.ok [some x,some y]:=bf rfl
def Iz(b:E):vZ pg Φ C (.ok (.aT true)) b=ev pg Φ C b:=bf rfl
def Iy(b:E):vZ pg Φ C (.ok (.aT false)) b=.ok (.aT false):=bf rfl
def Rz(b:E):y9 pg Φ C (.ok (.aT true)) b=.ok (.aT true):=bf rfl
def Ry(b:E):y9 pg Φ C (.ok (.aT false)) b=ev pg Φ C b:=bf rfl
def L5:e3 pg Φ C .nil=.ok (.cg C):=bf rfl
def L4(s:S)(b:B):e3 pg Φ C (.cons s b)=uU pg Φ (ex pg Φ C s) b:=bf rfl
def Ut(b:B):uU pg Φ (.ok (.cg C)) b=e3 pg Φ C b:=bf rfl
def Uu(d:D)(b:B):uU pg Φ (.ok (.d7 d)) b=.ok (.d7 d):=bf rfl
def Us(c:Nat)(b:B):uU pg Φ (.exc c) b=.exc c:=bf rfl
def Cs(i:Nat)(e:E):ex pg Φ C (.asg i e)=ev pg Φ C e>>=λd=>.ok (.cg (C.set i (some d))):=bf rfl
def L6(i:Nat)(e:E):ex pg Φ C (.app i e)=mm C[i]?>>=λ_=>ev pg Φ C e>>=λd=>qF C[i]? d>>=λx=>.ok (.cg (C.set i (some x))):=bf rfl
def Md(i:Nat):ex pg Φ C (.p5 i)=ui C[i]?>>=λd=>.ok (.d7 d):=bf rfl
def Qu(ds:List D):ui (some (some (.lst ds)))=.ok (.lst ds):=bf rfl
def Mc(e:E):ex pg Φ C (.ret e)=ev pg Φ C e>>=λd=>.ok (.d7 d):=bf rfl
def Mb(c:E)(a b:B):ex pg Φ C (.iff c a b)=yA pg Φ C (ev pg Φ C c) a b:=bf rfl
def Pc(a b:B):yA pg Φ C (.ok (.aT true)) a b=e3 pg Φ C a:=bf rfl
def Pb(a b:B):yA pg Φ C (.ok (.aT false)) a b=e3 pg Φ C b:=bf rfl
def Ma(k:Nat)(ts:List Nat)(s:I)(b:B):ex pg Φ C (.fx k ts s b)=g5 pg Φ C s>>=λds=>forL (turn pg Φ k ts b) ds C:=bf rfl
def Th{nl:Nat}{b:B}(x:D):dt pg Φ ⟨1,nl,b⟩ [x]=mz (e3 pg Φ (some x::List.replicate nl none) b):=bf rfl
def Ti{nl:Nat}{b:B}(x y:D):dt pg Φ ⟨2,nl,b⟩ [x,y]=mz (e3 pg Φ (some x::some y::List.replicate nl none) b):=bf rfl
def Tj{nl:Nat}{b:B}(x y z:D):dt pg Φ ⟨3,nl,b⟩ [x,y,z]=mz (e3 pg Φ (some x::some y::some z::List.replicate nl none) b):=bf rfl
def Ln(d:D):mz (.ok (.d7 d))=.ok d:=bf rfl
def Lm(C:a0):mz (.ok (.cg C))=.ok .dr:=bf rfl
def Ll(c:Nat):mz (.exc c)=.exc c:=bf rfl
def Sx(up:gJ)(d:D):jY up .len d=kz d:=bf rfl
def Sw(up:gJ)(t:Ty)(d:D):jY up (.inst t) d=jS up d t>>=λb=>.ok (.aT b):=bf rfl
def Sy(up:gJ)(d:D):jY up .sorted d=fE d>>=λxs=>sorted xs:=bf rfl
def Sz(up:gJ)(d:D):jY up .gb d=fE d>>=λxs=>gb xs:=bf rfl
def yM(xs:List D):kz (.tup xs)=.ok (.int xs.length):=bf rfl
def Ek(xs:List D):kz (.lst xs)=.ok (.int xs.length):=bf rfl
def BH(x y:D):dM .eq x y=fv x y:=bf rfl
def BJ(x y:D):dM .ne x y=ix (fv x y):=bf rfl
def BI(x y:D):dM .lt x y=uj x y:=bf rfl
def cmp_gt(i j:Int):dM .gt (.int i) (.int j)=.ok (decide (j<i)):=bf rfl
def JP(i j:Int):dM .le (.int i) (.int j)=.ok (decide (i<=j)):=bf rfl
def JO(i j:Int):dM .ge (.int i) (.int j)=.ok (decide (j<=i)):=bf rfl
def JR(x:D)(ys:List D):dM .mem x (.tup ys)=hN x ys:=bf rfl
def JQ(x:D)(ys:List D):dM .mem x (.lst ys)=hN x ys:=bf rfl
def JT(x:D)(ys:List D):dM .lM x (.tup ys)=ix (hN x ys):=bf rfl
def JS(x:D)(ys:List D):dM .lM x (.lst ys)=ix (hN x ys):=bf rfl
def Qw(i j:Int):uj (.int i) (.int j)=.ok (decide (i<j)):=bf rfl
def Q9(b:Bool):ix (.ok b)=.ok (!b):=bf rfl
def Lu(i j:Int):fv (.int i) (.int j)=.ok (i==j):=bf rfl
def Ls(i j:Bool):fv (.aT i) (.aT j)=.ok (i==j):=bf rfl
def add_int(i j:Int):d3 .add (.int i) (.int j)=.ok (.int (i+j)):=bf rfl
def sub_int(i j:Int):d3 .sub (.int i) (.int j)=.ok (.int (i-j)):=bf rfl
def sP(xs ys:List D):d3 .add (.tup xs) (.tup ys)=if xs.length+ys.length<=SZ then .ok (.tup (xs++ys)) else .bad:=bf rfl
def k0(xs ys:List D):d3 .add (.lst xs) (.lst ys)=if xs.length+ys.length<=SZ then .ok (.lst (xs++ys)) else .bad:=bf rfl
def mul_int(i j:Int):d3 .mul (.int i) (.int j)=if (-e0<i/\i<e0)\/(-e0<j/\j<e0) then .ok (.int (i*j)) else .bad:=bf rfl
def CA(i j:Int):d3 .fdiv (.int i) (.int j)=if 0<j/\j<1073741824 then .ok (.int (i / j)) else .bad:=bf rfl
def mod_int(i j:Int):d3 .mod (.int i) (.int j)=if 0<j then .ok (.int (i%j)) else .bad:=bf rfl
def DW(xs:List D)(i:Int):gM (.tup xs) (.int i)=(match kk xs i with|some d=>.ok d|none=>.bad):=bf rfl
def yz(xs:List D)(i:Int):gM (.lst xs) (.int i)=(match kk xs i with|some d=>.ok d|none=>.bad):=bf rfl
def uY(xs:List D)(lo hi:Option Int):j0 (.tup xs) lo hi=.ok (.tup (cut xs lo hi)):=bf rfl
def GY(xs:List D)(lo hi:Option Int):j0 (.lst xs) lo hi=.ok (.lst (cut xs lo hi)):=bf rfl
def Bz(xs:List D):mm (some (some (.lst xs)))=.ok ():=bf rfl
def sQ(xs:List D)(d:D):qF (some (some (.lst xs))) d=if xs.length<SZ then .ok (.lst (xs++[d])) else .bad:=bf rfl
def Uz{o v:Option D}{r:a0}:(o::r:a0).set 0 v=v::r:=bf rfl
def UB{o v:Option D}{r:a0}{i:Nat}:(o::r:a0).set (i+1) v=o::r.set i v:=bf rfl
def M5{o:Option D}{r:a0}:(o::r:a0)[0]?=some o:=bf rfl
def Na{o:Option D}{r:a0}{i:Nat}:(o::r:a0)[i+1]?=r[i]?:=bf rfl
def S5{α:Type}(x:α):List.replicate 0 x=[]:=bf rfl
def S6{α:Type}(n:Nat)(x:α):List.replicate (n+1) x=x::List.replicate n x:=bf rfl
def Wn(i:Nat)(b:B)(d:D):turn pg Φ 0 [i] b d C=e3 pg Φ (C.set i (some d)) b:=bf rfl
def Wo(i j:Nat)(b:B)(x y:D):turn pg Φ 2 [i,j] b (.tup [x,y]) C=e3 pg Φ ((C.set i (some x)).set j (some y)) b:=bf rfl
def Li(e:E)(c:O)(d:D):elem pg Φ C e 0 c d=lg pg Φ (C++[some d]) c>>=λb=>if b then ev pg Φ (C++[some d]) e>>=λy=>.ok (some y) else .ok none:=bf rfl
def Lj(e:E)(c:O)(x y:D):elem pg Φ C e 2 c (.tup [x,y])=lg pg Φ (C++[some x,some y]) c>>=λb=>if b then ev pg Φ (C++[some x,some y]) e>>=λy=>.ok (some y) else .ok none:=bf rfl
def Ph(up:gJ)(xs:List D):jS up (.tup xs) .tuple=.ok true:=bf rfl
end
end Den
end
section
def Den.bc:=And.intro (And.intro (And.intro (And.intro (And.intro (And.intro (@Den.LY) (And.intro (@Den.LZ) (@Den.Ck))) (And.intro (@Den.LX) (And.intro (@Den.LQ) (@Den.LI)))) (And.intro (And.intro (@Den.LS) (And.intro (@Den.LK) (@Den.LL))) (And.intro (And.intro (@Den.LH) (@Den.LU)) (And.intro (@Den.LP) (@Den.LW))))) (And.intro (And.intro (And.intro (@Den.LJ) (And.intro (@Den.LV) (@Den.Cp))) (And.intro (@Den.Cn) (And.intro (@Den.LM) (@Den.y5)))) (And.intro (And.intro (@Den.Ci) (And.intro (@Den.Cg) (@Den.LF))) (And.intro (And.intro (@Den.LG) (@Den.LA)) (And.intro (@Den.LB) (@Den.xt)))))) (And.intro (And.intro (And.intro (And.intro (@Den.LC) (And.intro (@Den.LD) (@Den.IU))) (And.intro (@Den.IV) (And.intro (@Den.Ux) (@Den.Uw)))) (And.intro (And.intro (@Den.Jd) (And.intro (@Den.Je) (@Den.Iz))) (And.intro (And.intro (@Den.Iy) (@Den.Rz)) (And.intro (@Den.Ry) (@Den.L5))))) (And.intro (And.intro (And.intro (@Den.L4) (And.intro (@Den.Ut) (@Den.Uu))) (And.intro (And.intro (@Den.Us) (@Den.Cs)) (And.intro (@Den.L6) (@Den.Bz)))) (And.intro (And.intro (@Den.Mc) (And.intro (@Den.Md) (@Den.Qu))) (And.intro (And.intro (@Den.Mb) (@Den.Pc)) (And.intro (@Den.Pb) (@Den.Ma))))))) (And.intro (And.intro (And.intro (And.intro (And.intro (@Den.Th) (And.intro (@Den.Ti) (@Den.Tj))) (And.intro (@Den.Ln) (And.intro (@Den.Lm) (@Den.Ll)))) (And.intro (And.intro (@Den.Sx) (And.intro (@Den.Sw) (@Den.Sy))) (And.intro (And.intro (@Den.Sz) (@Den.yM)) (And.intro (@Den.Ek) (@Den.BH))))) (And.intro (And.intro (And.intro (@Den.BJ) (And.intro (@Den.BI) (@Den.cmp_gt))) (And.intro (@Den.JP) (And.intro (@Den.JO) (@Den.JR)))) (And.intro (And.intro (@Den.JQ) (And.intro (@Den.JT) (@Den.JS))) (And.intro (And.intro (@Den.Qw) (@Den.Q9)) (And.intro (@Den.Lu) (@Den.Ls)))))) (And.intro (And.intro (And.intro (And.intro (@Den.add_int) (And.intro (@Den.sub_int) (@Den.uY))) (And.intro (@Den.GY) (And.intro (@Den.Uz) (@Den.UB)))) (And.intro (And.intro (@Den.M5) (And.intro (@Den.Na) (@Den.S5))) (And.intro (And.intro (@Den.S6) (@Den.Wn)) (And.intro (@Den.Wo) (@Den.Li))))) (And.intro (And.intro (And.intro (@Den.Lj) (And.intro (@Den.Ph) (@Den.R.lO))) (And.intro (And.intro (@Den.R.Me) (@List.cons_append.{0})) (And.intro (@List.nil_append.{0}) (@List.length_cons.{0})))) (And.intro (And.intro (@List.length_nil.{0}) (And.intro (@aal) (@Zo.{1}))) (And.intro (And.intro (@aaf) (@acf)) (And.intro (@Ym) (@YK.{1})))))))
end
section
namespace bC
open Den
theorem CL{α:Type}{f:α->D}{g:D->a0->R fb}(I:List α->a0->Prop)(all:List α):∀(xs pre:List α)(C:a0),all=pre++xs->I pre C ->
  (∀pre x post C,all=pre++x::post->I pre C->∃cp,g (f x) C=.ok (.cg cp)/\I (pre++[x]) cp)->∃cp,forL g (xs.map f) C=.ok (.cg cp)/\I all cp
 |[],pre,C,e,h,_=>⟨C,rfl,by rw[e];simpa using h⟩
 |x::xs,pre,C,e,h,ab=>by
  obtain⟨Xb,ai,eB⟩:=ab pre x xs C e h;obtain⟨l3,av,e6⟩:=CL I all xs (pre++[x]) Xb (by rw[e];simp) eB ab;refine⟨l3,?_,e6⟩;simp only[List.map_cons,forL,ai,R.lO];exact av
def g6{α:Type}{f:α->D}{g:D->a0->R fb}(I:List α->a0->Prop)(xs:List α)(C:a0)(h:I [] C)(ab:∀pre x post C,xs=pre++x::post->I pre C->∃cp,g (f x) C=.ok (.cg cp)/\I (pre++[x]) cp):∃cp,forL g (xs.map f) C=.ok (.cg cp)/\I xs cp :=
 CL I xs xs [] C rfl h ab
noncomputable def aC(c:List Int):D:=.tup (c.map .int)
theorem Cd:∀a b:List Int,la (a.map .int) (b.map .int)=decide (a=b)
 |[],[]=>rfl
 |[],_::_=>rfl
 |_::_,[]=>rfl
 |x::a,y::b=>by
  show(x==y&&la (a.map .int) (b.map .int))=_;rw[Cd a b]
  by_cases J:x=y
  .subst J;by_cases aa:a=b<;>simp[aa]
  .simp[J]
def nO(a b:List Int):hD (aC a) (aC b)=decide (a=b):=Cd a b
theorem Cc:∀a b:List (List Int),la (a.map aC) (b.map aC)=decide (a=b)
 |[],[]=>rfl
 |[],_::_=>rfl
 |_::_,[]=>rfl
 |x::a,y::b=>by
  show(hD (aC x) (aC y)&&la (a.map aC) (b.map aC))=_;rw[nO,Cc a b]
  by_cases J:x=y
  .subst J;by_cases aa:a=b<;>simp[aa]
  .simp[J]
noncomputable def lexLt:List Int->List Int->Bool
 |[],[]=>false
 |[],_::_=>true
 |_::_,[]=>false
 |x::xs,y::ys=>if x=y then lexLt xs ys else decide (x<y)
theorem rP:∀a b:List Int,kB (a.map .int) (b.map .int)=some (lexLt a b)
 |[],[]=>rfl
 |[],_::_=>rfl
 |_::_,[]=>rfl
 |x::a,y::b=>by
  show(if (x==y)=true then kB (a.map .int) (b.map .int) else some (decide (x<y)))=some (if x=y then lexLt a b else decide (x<y));rw[rP a b]
  by_cases h:x=y<;>simp[h]
def pJ(a b:List Int):kA (aC a) (aC b)=some (lexLt a b):=rP a b
def QF(x:Int)(xs:List Int):memD (.int x) (xs.map .int)=decide (x∈xs):=by
 unfold memD
 induction xs with
 |nil=>simp
 |cons y ys aF =>
  rw[List.map_cons,List.any_cons,aF];show(y==x||_)=_
  by_cases h:y=x
  .subst h;simp
  .have:¬x=y:=λe=>h e.symm
   simp[h,this]
def QE(c:List Int)(cs:List (List Int)):memD (aC c) (cs.map aC)=decide (c∈cs):=by
 unfold memD
 induction cs with
 |nil=>simp
 |cons y ys aF =>
  simp only[List.map_cons,List.any_cons,aF,nO,Yk]
  by_cases h:y=c
  .subst h;simp
  .have:¬c=y:=λe=>h e.symm
   simp[h,this]
theorem yQ:∀a:List Int,lexLt a a=false
 |[]=>rfl
 |x::a=>by simp[lexLt,yQ a]
theorem yR:∀{a b c:List Int},lexLt a b=true->lexLt b c=true->lexLt a c=true
 |[],[],_,h,_=>by simp[lexLt]at h
 |[],_::_,[],_,h=>by simp[lexLt]at h
 |[],_::_,_::_,_,_=>rfl
 |_::_,[],_,h,_=>by simp[lexLt]at h
 |_::_,_::_,[],_,h=>by simp[lexLt]at h
 |x::a,y::b,z::c,J,aa=>by
  simp only[lexLt]at *
  split at J<;>split at aa
  .rename_i ai av;subst ai;subst av;rw[if_pos rfl];exact yR J aa
  .rename_i ai av;subst ai;rw[if_neg av];exact aa
  .rename_i ai av;subst av;rw[if_neg ai];exact J
  .rename_i ai av;simp only[YD]at J aa;rw[if_neg (by omega)];simp;omega
theorem yP:∀a b:List Int,a≠b->lexLt a b=true\/lexLt b a=true
 |[],[],h=>absurd rfl h
 |[],_::_,_=>.inl rfl
 |_::_,[],_=>.inr rfl
 |x::a,y::b,h=>by
  simp only[lexLt]
  by_cases e:x=y
  .subst e;have h':a≠b:=λe=>h (by rw[e])
   simpa using yP a b h'
  .have bq:¬y=x:=λz=>e z.symm
   rw[if_neg e,if_neg bq];simp only[YD];omega
section
variable{α:Type}
noncomputable def ins(lt:α->α->Bool)(x:α):List α->List α
 |[]=>[x]
 |y::ys=>if lt y x=true then y::ins lt x ys else x::y::ys
noncomputable def cV(lt:α->α->Bool):List α->List α
 |[]=>[]
 |x::xs=>ins lt x (cV lt xs)
noncomputable def d6[DecidableEq α]:List α->List α
 |[]=>[]
 |x::xs=>if x∈xs then d6 xs else x::d6 xs
variable{lt:α->α->Bool}
theorem DY{f:α->D}(h:∀a b,kA (f a) (f b)=some (lt a b))(x:α):∀ys:List α,pA (f x) (ys.map f)=(ins lt x ys).map f
 |[]=>rfl
 |y::ys=>by
  simp only[List.map_cons,pA,ins,h,Zl]
  split
  .simp[DY h x ys]
  .rfl
theorem ov{f:α->D}(h:∀a b,kA (f a) (f b)=some (lt a b)):∀xs:List α,ie (xs.map f)=(cV lt xs).map f
 |[]=>rfl
 |x::xs=>by simp only[List.map_cons,ie,cV,ov h xs,DY h]
theorem xg[DecidableEq α]{f:α->D}(h:∀a b,hD (f a) (f b)=decide (a=b)):∀xs:List α,k4 (xs.map f)=(d6 xs).map f
 |[]=>rfl
 |x::xs=>by
  have e:(xs.map f).any (hD (f x))=decide (x∈xs):=by
   rw[List.any_map]
   induction xs with
   |nil=>simp
   |cons y ys aF=>simp only[List.any_cons,aF,Function.comp,h,Yk];by_cases q:x=y<;>simp[q]
  simp only[List.map_cons,k4,d6,e,xg h xs,YD]
  split<;>rfl
theorem uo(x z:α):∀ys:List α,z∈ins lt x ys<->z=x\/z∈ys
 |[]=>by simp[ins]
 |y::ys=>by
  unfold ins
  split
  .simp only[Yk,uo x z ys];constructor
   .rintro(h|h|h)
    .exact .inr (.inl h)
    .exact .inl h
    .exact .inr (.inr h)
   .rintro(h|h|h)
    .exact .inr (.inl h)
    .exact .inl h
    .exact .inr (.inr h)
  .simp
theorem kD(z:α):∀xs:List α,z∈cV lt xs<->z∈xs
 |[]=>by simp[cV]
 |x::xs=>by unfold cV;rw[uo,kD z xs];simp
theorem Ej(x:α):∀ys:List α,(ins lt x ys).length=ys.length+1
 |[]=>rfl
 |y::ys=>by unfold ins;split<;>simp[Ej x ys]
theorem rO:∀xs:List α,(cV lt xs).length=xs.length
 |[]=>rfl
 |x::xs=>by unfold cV;rw[Ej,rO xs];simp
theorem lK[DecidableEq α](z:α):∀xs:List α,z∈d6 xs<->z∈xs
 |[]=>by simp[d6]
 |x::xs=>by
  unfold d6
  split
  .rename_i h;rw[lK z xs,Yk];exact⟨.inr,λq=>q.elim (λe=>e▸h) id⟩
  .simp[lK z xs]
theorem pS[DecidableEq α]:∀xs:List α,(d6 xs).Nodup
 |[]=>ZZ
 |x::xs=>by
  unfold d6
  split
  .exact pS xs
  .rename_i h;exact YX.mpr ⟨λq=>h ((lK x xs).mp q),pS xs⟩
structure gI(lt:α->α->Bool):Prop where
 fL:∀a,lt a a=false
 dE:∀{a b c},lt a b=true->lt b c=true->lt a c=true
 conn:∀a b,a≠b->lt a b=true\/lt b a=true
noncomputable def dI(lt:α->α->Bool)(xs:List α):Prop:=xs.Pairwise λa b=>lt a b=true
theorem A7(L:gI lt)(x:α):∀{ys:List α},dI lt ys->x∉ys->dI lt (ins lt x ys)
 |[],_,_=>Zn _ _
 |y::ys,h,ag=>by
  obtain⟨J,aa⟩:=YE.mp h;have h7:x≠y:=λe=>ag (by simp[e])
  unfold ins
  split
  .rename_i q;refine YE.mpr ⟨λz hz=>?_,A7 L x aa λq=>ag (List.mem_cons_of_mem _ q)⟩;rcases(uo x z ys).mp hz with e|e
   .subst e;exact q
   .exact J z e
  .rename_i q;have c2:lt x y=true:=(L.conn x y h7).resolve_right q;refine YE.mpr ⟨λz hz=>?_,h⟩;rcases Yk.mp hz with e|e
   .subst e;exact c2
   .exact L.dE c2 (J z e)
theorem nx(L:gI lt):∀{xs:List α},xs.Nodup->dI lt (cV lt xs)
 |[],_=>List.Pairwise.nil
 |x::xs,h=>A7 L x (nx L (YX.mp h).2) λq=>(YX.mp h).1 ((kD x xs).mp q)
def dI.nodup(L:gI lt){xs:List α}(h:dI lt xs):xs.Nodup:=aay (λ{a b} q e=>by subst e;rw[L.fL]at q;cases q) h
theorem oR(L:gI lt):∀{xs ys:List α},dI lt xs->dI lt ys->(∀z,z∈xs<->z∈ys)->xs=ys
 |[],[],_,_,_=>rfl
 |[],y::_,_,_,h=>absurd ((h y).mpr List.mem_cons_self) (by simp)
 |x::_,[],_,_,h=>absurd ((h x).mp List.mem_cons_self) (by simp)
 |x::xs,y::ys,ag,aD,h=>by
  obtain⟨aR,bF⟩:=YE.mp ag;obtain⟨qm,oF⟩:=YE.mp aD;have e:x=y:=by
   rcases Yk.mp ((h x).mp List.mem_cons_self) with e|e
   .exact e
   .rcases Yk.mp ((h y).mpr List.mem_cons_self) with bq|bq
    .exact bq.symm
    .have a:=qm x e;have b:=aR y bq;have:=L.dE a b;rw[L.fL]at this;cases this
  subst e;have cg:x∉xs:=λq=>by have:=aR x q;rw[L.fL]at this;cases this
  have Rd:x∉ys:=λq=>by have:=qm x q;rw[L.fL]at this;cases this
  rw[oR L bF oF λz=>?_];constructor
  .intro hz;rcases Yk.mp ((h z).mp (List.mem_cons_of_mem _ hz)) with e|e
   .subst e;exact absurd hz cg
   .exact e
  .intro hz;rcases Yk.mp ((h z).mpr (List.mem_cons_of_mem _ hz)) with e|e
   .subst e;exact absurd hz Rd
   .exact e
def U3(L:gI lt){xs:List α}(h:dI lt xs):cV lt xs=xs:=oR L (nx L (h.nodup L)) h λz=>kD z xs
theorem xh[DecidableEq α]:∀xs:List α,(d6 xs).length<=xs.length
 |[]=>Yi _
 |x::xs=>by unfold d6;have:=xh xs;split<;>simp<;>omega
theorem lL[DecidableEq α]:∀{xs ys:List α},xs.Nodup->(∀z∈xs,z∈ys)->xs.length<=ys.length
 |[],_,_,_=>Yp _
 |x::xs,ys,h,ab=>by
  obtain⟨J,aa⟩:=YX.mp h;have ag:=ab x List.mem_cons_self;have:=lL (xs:=xs) (ys:=ys.erase x) aa λz hz=>by
   have eN:z≠x:=λe=>J (e▸hz)
   exact(List.mem_erase_of_ne eN).mpr (ab z (List.mem_cons_of_mem _ hz))
  rw[List.length_erase_of_mem ag]at this;have aE:0<ys.length:=List.length_pos_of_mem ag;simp only[List.length_cons];omega
end
def lH:gI lexLt:=⟨yQ,yR,yP⟩
noncomputable def ltI(a b:Int):Bool:=decide (a<b)
def jU:gI ltI:=⟨λa=>by simp[ltI],λJ aa=>by simp[ltI]at *;omega,λa b h=>by simp[ltI];omega⟩
def EJ(is:List Int):(is.map D.int).all (fM 0)=true:=by simp[aaa,fM]
def sY{cs:List (List Int)}(aB:∀c∈cs,c≠[]):(cs.map aC).all lB=true:=by
 rw[aaa,YI];intro c aj;cases c with
 |nil=>exact absurd rfl (aB [] aj)
 |cons x c=>show(fM 0 (.int x)&&(c.map D.int).all (fM 0))=true;rw[EJ];rfl
def UW{cs:List (List Int)}(aB:∀c∈cs,c≠[])(h:cs.length<=255):sorted (cs.map aC)=.ok (.lst ((cV lexLt cs).map aC)):=by
 unfold sorted lJ;rw[sY aB];simp[ov (lt:=lexLt) pJ,h]
def UX{cs:List Int}(h:cs.length<=255):sorted (cs.map .int)=.ok (.lst ((cV ltI cs).map .int)):=by
 unfold sorted lJ;rw[EJ];simp[ov (f:=D.int) (lt:=ltI) λa b=>rfl,h]
def zR{cs:List (List Int)}(aB:∀c∈cs,c≠[])(h:(d6 cs).length<=255):gb (cs.map aC)=.ok (.lst ((cV lexLt (d6 cs)).map aC)):=by
 unfold gb;rw[sY aB,xg nO,ov (lt:=lexLt) pJ];simp[h]
def sl(n:Nat)(i:Int):dx n (.int i)=true:=by cases n<;>rfl
def GS(n:Nat)(c:List Int):(c.map D.int).all (dx n)=true:=by simp[aaa,sl]
def sk(n:Nat)(c:List Int):dx (n+1) (aC c)=true:=GS n c
def zI(n:Nat)(cs:List (List Int)):(cs.map aC).all (dx (n+1))=true:=by simp[aaa,sk]
def QH(x:Int)(c:List Int):hN (.int x) (c.map .int)=.ok (decide (x∈c)):=by
 unfold hN;rw[sl,GS,QF];rfl
def QG(c:List Int)(cs:List (List Int)):hN (aC c) (cs.map aC)=.ok (decide (c∈cs)):=by
 unfold hN;rw[sk,zI,QE];rfl
def xn(a b:List Int):fv (aC a) (aC b)=.ok (decide (a=b)):=by unfold fv;rw[sk,sk,nO];rfl
def Lv(a b:List (List Int)):fv (.lst (a.map aC)) (.lst (b.map aC))=.ok (decide (a=b)):=by
 have h:∀a:List (List Int),dx 60 (.lst (a.map aC))=true:=λa=>zI 58 a
 unfold fv;rw[h,h];exact Zr R.ok (Cc a b)
def xo{ys:List D}(h:ys.all (dx 59)=true):fv (.lst ys) (.lst [])=.ok ys.isEmpty:=by
 have J:dx 60 (.lst ys)=true:=h;have aa:dx 60 (.lst [])=true:=rfl;unfold fv;rw[J,aa];cases ys<;>rfl
def Lw{ys:List D}(h:ys.all (dx 59)=true):fv (.tup ys) (.tup [])=.ok ys.isEmpty:=by
 have J:dx 60 (.tup ys)=true:=h;have aa:dx 60 (.tup [])=true:=rfl;unfold fv;rw[J,aa];cases ys<;>rfl
section
variable{α:Type}{lt:α->α->Bool}
noncomputable def oP(lt:α->α->Bool)(xs:List α):Prop:=xs.Pairwise λa b=>lt b a=false
theorem r4(x:α):∀ys:List α,(ins lt x ys).Perm (x::ys)
 |[]=>abD _
 |y::ys=>by
  unfold ins
  split
  .exact(List.Perm.cons y (r4 x ys)).trans (List.Perm.swap x y ys)
  .exact abD _
theorem uJ:∀xs:List α,(cV lt xs).Perm xs
 |[]=>abD _
 |x::xs=>(r4 x (cV lt xs)).trans (List.Perm.cons x (uJ xs))
def Ex(L:gI lt){a b:α}(h:lt a b=true):lt b a=false:=by
 cases q:lt b a with
 |false=>rfl
 |true=>have:=L.dE h q;rw[L.fL]at this;cases this
def Ew(L:gI lt){a b c:α}(J:lt b a=false)(aa:lt c b=false):lt c a=false:=by
 cases q:lt c a with
 |false=>rfl
 |true =>
  by_cases e:a=b
  .subst e;rw[aa]at q;cases q
  .rcases L.conn a b e with w|w
   .have:=L.dE q w;rw[aa]at this;cases this
   .rw[J]at w;cases w
theorem HT(L:gI lt)(x:α):∀{ys:List α},oP lt ys->oP lt (ins lt x ys)
 |[],_=>Zn _ _
 |y::ys,h=>by
  obtain⟨J,aa⟩:=YE.mp h;unfold ins
  split
  .rename_i c;refine YE.mpr ⟨λz hz=>?_,HT L x aa⟩;rcases(uo x z ys).mp hz with rfl|hz
   .exact Ex L c
   .exact J z hz
  .rename_i c;refine YE.mpr ⟨λz hz=>?_,h⟩;have c:lt y x=false:=(by simpa using c);rcases Yk.mp hz with rfl|hz
   .exact c
   .exact Ew L c (J z hz)
theorem HU(L:gI lt):∀xs:List α,oP lt (cV lt xs)
 |[]=>.nil
 |x::xs=>HT L x (HU L xs)
theorem HV(L:gI lt):∀{xs ys:List α},oP lt xs->oP lt ys->xs.Perm ys->xs=ys
 |[],ys,_,_,p=>(List.Perm.nil_eq p)
 |x::xs,[],_,_,p=>by have:=p.length_eq;simp at this
 |x::xs,y::ys,ag,aD,p=>by
  obtain⟨aR,bF⟩:=YE.mp ag;obtain⟨qm,oF⟩:=YE.mp aD;have e:x=y:=by
   apply abJ;intro ne;have h7:y∈xs:=by
    rcases Yk.mp (p.mem_iff.mpr List.mem_cons_self) with q|q
    .exact absurd q.symm ne
    .exact q
   have rz:x∈ys:=by
    rcases Yk.mp (p.mem_iff.mp List.mem_cons_self) with q|q
    .exact absurd q ne
    .exact q
   rcases L.conn x y ne with w|w
   .rw[qm x rz]at w;cases w
   .rw[aR y h7]at w;cases w
  subst e;rw[HV L bF oF (List.Perm.cons_inv p)]
end
end bC
end
section
namespace gf
def xor_swap(x y a:Nat):(x ^^^ a) ^^^ y=(x ^^^ y) ^^^ a:=by rw[Zx,ach a y,<- Zx]
def W7(x y a:Nat):(x ^^^ a) ^^^ (y ^^^ a)=x ^^^ y:=by rw[xor_swap,<- Zx,Zx,aaE,aaF]
def l1(x a:Nat):(x ^^^ a) ^^^ a=x:=by rw[Zx,aaE,aaF]
noncomputable def sp:List Nat->Nat->Prop
 |[],x=>x=0
 |a::L,x=>sp L x\/sp L (x ^^^ a)
theorem u2:∀L,sp L 0
 |[]=>rfl
 |_::L=>.inl (u2 L)
theorem iR:∀{L:List Nat}{x y:Nat},sp L x->sp L y->sp L (x ^^^ y)
 |[],x,y,J,aa=>by cases J;cases aa;rfl
 |a::L,x,y,J,aa=>by
  rcases J with J|J<;>rcases aa with aa|aa
  .exact .inl (iR J aa)
  .exact .inr (by rw[Zx];exact iR J aa)
  .exact .inr (by rw[<- xor_swap];exact iR J aa)
  .exact .inl (by rw[<- W7 x y a];exact iR J aa)
theorem dX:∀{L:List Nat}{a:Nat},a∈L->sp L a
 |b::L,a,h=>by
  rcases Yk.mp h with rfl|h
  .exact .inr (by rw[aaE];exact u2 L)
  .exact .inl (dX h)
theorem eG{M:List Nat}:∀{L:List Nat}{x:Nat},(∀a∈L,sp M a)->sp L x->sp M x
 |[],x,_,h=>by cases h;exact u2 M
 |a::L,x,ab,h=>by
  have fl:∀b∈L,sp M b:=λb ae=>ab b (List.mem_cons_of_mem _ ae)
  rcases h with h|h
  .exact eG fl h
  .have:=iR (eG fl h) (ab a List.mem_cons_self);rwa[l1]at this
theorem u1{k:Nat}:∀{L:List Nat}{x:Nat},(∀a∈L,a.testBit k=false)->sp L x->x.testBit k=false
 |[],x,_,h=>by cases h;exact ZW k
 |a::L,x,ab,h=>by
  have fl:∀b∈L,b.testBit k=false:=λb ae=>ab b (List.mem_cons_of_mem _ ae)
  rcases h with h|h
  .exact u1 fl h
  .have:=u1 fl h;rwa[Y2,ab a List.mem_cons_self,aa1]at this
theorem zO{n:Nat}:∀{L:List Nat}{x:Nat},(∀a∈L,a<2 ^ n)->sp L x->x<2 ^ n
 |[],x,_,h=>by cases h;exact abt n
 |a::L,x,ab,h=>by
  have fl:∀b∈L,b<2 ^ n:=λb ae=>ab b (List.mem_cons_of_mem _ ae)
  rcases h with h|h
  .exact zO fl h
  .have:=Z0 (zO fl h) (ab a List.mem_cons_self);rwa[l1]at this
noncomputable abbrev Row:=Nat×Nat
noncomputable abbrev cD:=List (Nat×Row)
noncomputable def rws(B:cD):List Nat:=B.map λe=>e.2.1
noncomputable def one(r:Row)(e:Nat×Row):Row:=if r.1.testBit e.1=true then(r.1 ^^^ e.2.1,r.2 ^^^ e.2.2) else r
noncomputable def red(B:cD)(r:Row):Row:=B.foldl one r
def p2(e:Nat×Row)(B:cD)(r:Row):red (e::B) r=red B (one r e):=rfl
structure dd(B:cD):Prop where
 ap:B.Pairwise λe f=>e.2.1.testBit f.1=false/\f.2.1.testBit e.1=false
 lo:∀e∈B,e.2.1.testBit e.1=true/\∀j,j<e.1->e.2.1.testBit j=false
structure l6(B:cD):Prop where
 ap:B.Pairwise λe f=>f.2.1.testBit e.1=false
 lo:∀e∈B,e.2.1.testBit e.1=true
def l6.tail{e:Nat×Row}{B:cD}(h:l6 (e::B)):l6 B:=⟨(YE.mp h.ap).2,λf hf=>h.lo f (List.mem_cons_of_mem _ hf)⟩
def dd.ai{B:cD}(h:dd B):l6 B:=⟨h.ap.imp λq=>q.2,λe he=>(h.lo e he).1⟩
theorem dd.nil:dd []:=⟨.nil,λ_ h=>nomatch h⟩
def dd.tail{e:Nat×Row}{B:cD}(h:dd (e::B)):dd B:=⟨(YE.mp h.ap).2,λf hf=>h.lo f (List.mem_cons_of_mem _ hf)⟩
theorem Gf{k:Nat}:∀{B:cD}{r:Row},(∀f∈B,f.2.1.testBit k=false)->(red B r).1.testBit k=r.1.testBit k
 |[],r,_=>rfl
 |e::B,r,h=>by
  rw[p2,Gf λf hf=>h f (List.mem_cons_of_mem _ hf)];unfold one
  split
  .rw[Y2,h e List.mem_cons_self,aa1]
  .rfl
theorem uN:∀{B:cD}{r:Row},l6 B->∀e∈B,(red B r).1.testBit e.1=false
 |f::B,r,h,e,he=>by
  obtain⟨J,aa⟩:=YE.mp h.ap;rw[p2];rcases Yk.mp he with rfl|he
  .rw[Gf λg a4=>J g a4];unfold one
   split
   .rename_i q;rw[Y2,q,h.lo e List.mem_cons_self];rfl
   .rename_i q;simpa using q
  .exact uN h.tail e he
theorem uO:∀{B:cD}{r:Row},sp (rws B) (r.1 ^^^ (red B r).1)
 |[],r=>aaE _
 |e::B,r=>by
  have aF:=uO (B:=B) (r:=one r e);rw[p2];unfold one at aF ⊢
  split
  .rename_i q;rw[if_pos q]at aF;exact .inr (by rw[<- xor_swap];exact aF)
  .rename_i q;rw[if_neg q]at aF;exact .inl aF
theorem Ca:∀{B:cD}{x:Nat},l6 B->sp (rws B) x->(∀e∈B,x.testBit e.1=false)->x=0
 |[],x,_,h,_=>h
 |e::B,x,h,ab,ae=>by
  obtain⟨J,aa⟩:=YE.mp h.ap;rcases ab with ab|ab
  .exact Ca h.tail ab λf hf=>ae f (List.mem_cons_of_mem _ hf)
  .exfalso;have:=u1 (k:=e.1) (λa ax=>by obtain⟨f,hf,rfl⟩:=List.mem_map.mp ax;exact J f hf) ab;rw[Y2,ae e List.mem_cons_self,h.lo e List.mem_cons_self]at this;cases this
def Gh{B:cD}{r:Row}(h:l6 B):(red B r).1=0<->sp (rws B) r.1:=by
 have J:=uO (B:=B) (r:=r);constructor
 .intro z;rwa[z,aaF]at J
 .intro z;have aa:=iR J z;rw[xor_swap,aaE,aa2]at aa;exact Ca h aa (uN h)
def sb{B:cD}{r:Row}(h:dd B):(red B r).1=0<->sp (rws B) r.1:=Gh h.ai
theorem yT : ∀ {bG : cD} {x k : Nat}, dd bG -> sp (rws bG) x -> x.testBit k = true -> (∀ j, j < k -> x.testBit j = false) -> ∃ f ∈ bG, f.1 = k
  | [], x, k, _, h, au, _ => by cases h; rw [ZW] at au; cases au
  | f :: bG, x, k, h, ab, au, aA => by
    obtain ⟨J, aa⟩ := YE.mp h.ap
    rcases ab with ab | ab
    · obtain ⟨g, a, b⟩ := yT h.tail ab au aA
      exact ⟨g, List.mem_cons_of_mem _ a, b⟩
    · have ae := u1 (k := f.1) (fun a ax => by obtain ⟨g, a4, rfl⟩ := List.mem_map.mp ax; exact (J g a4).2) ab
      obtain ⟨b0, cU⟩ := h.lo f List.mem_cons_self
      rw [Y2, b0] at ae
      have ag : x.testBit f.1 = true := by cases q : x.testBit f.1 <;> rw [q] at ae <;> first | rfl | cases ae
      by_cases c : f.1 = k
      · exact ⟨f, List.mem_cons_self, c⟩
      · have b7 : k < f.1 := by
          rcases abO k f.1 with q | q | q
          · exact q
          · exact absurd q.symm c
          · rw [aA f.1 q] at ag; cases ag
        obtain ⟨g, a, b⟩ := yT h.tail ab (k := k) (by rw [Y2, au, cU k b7]; rfl) fun j q => by rw [Y2, aA j q, cU j (by omega)]; rfl
        exact ⟨g, List.mem_cons_of_mem _ a, b⟩
def q0{B:cD}(h:dd B):(B.map (·.1)).Nodup:=by
 rw[Z1,Zu];refine Zy (λ{e f} he hf q z=>?_) h.ap;have:=(h.lo f hf).1;rw[<- z,q.2]at this;cases this
def s9{B bG:cD}(hG:dd B)(xS:dd bG)(h:∀x,sp (rws B) x->sp (rws bG) x):B.length<=bG.length:=by
 have:=bC.lL (q0 hG) (ys:=bG.map (·.1)) λz hz=>by
  obtain⟨e,he,rfl⟩:=List.mem_map.mp hz;obtain⟨f,hf,q⟩:=yT xS (h _ (dX (List.mem_map.mpr ⟨e,he,rfl⟩))) (hG.lo e he).1 (hG.lo e he).2;exact List.mem_map.mpr ⟨f,hf,q⟩
 simpa using this
noncomputable def pH:Nat->Nat->Nat
 |0,_=>0
 |f+1,n=>if n%2=1 then 0 else pH f (n / 2)+1
noncomputable def lo(n:Nat):Nat:=pH n n
theorem EB:∀(f n:Nat),0<n->n<=f->n.testBit (pH f n)=true/\(∀j,j<pH f n->n.testBit j=false)/\n-(n &&& (n-1))=2 ^ pH f n/\(n &&& (n-1))<=n
 |0,n,h,aa=>by omega
 |f+1,n,h,aa=>by
  rw[pH]
  by_cases c:n%2=1
  .rw[if_pos c];refine⟨by rw[abe];simp[c],λj aA=>by omega,?_,Nat.and_le_left⟩;have ai:(n &&& (n-1)) / 2=n / 2:=(by rw[abu,show(n-1) / 2=n / 2 by omega,Nat.and_self]);have av:(n &&& (n-1))%2=0:=by
    have:=@aam n (n-1);rcases Yt (n &&& (n-1)) with q|q
    .exact q
    .have:=(this.mp q).2;omega
   show n-(n &&& (n-1))=1;omega
  .rw[if_neg c];obtain⟨eB,e6,jR,rC⟩:=EB f (n / 2) (by omega) (by omega);refine⟨by rw[abf];exact eB,λj aA=>?_,?_,Nat.and_le_left⟩
   .cases j with
    |zero=>rw[abe];simp[c]
    |succ j=>rw[abf];exact e6 j (by omega)
   .have ai:(n &&& (n-1)) / 2=n / 2 &&& (n / 2-1):=(by rw[abu,show(n-1) / 2=n / 2-1 by omega]);have av:(n &&& (n-1))%2=0:=by
     have:=@aam n (n-1);rcases Yt (n &&& (n-1)) with q|q
     .exact q
     .have:=(this.mp q).1;omega
    rw[Nat.pow_succ];rw[<- ai]at jR rC;omega
def EA(n:Nat)(h:0<n):n.testBit (lo n)=true/\(∀j,j<lo n->n.testBit j=false)/\n-(n &&& (n-1))=2 ^ lo n/\(n &&& (n-1))<=n:=EB n n h (Yi _)
noncomputable def grow(B:cD)(r:Row):cD:=if (red B r).1=0 then B else B.map (λe=>(e.1,one e.2 (lo (red B r).1,red B r)))++[(lo (red B r).1,red B r)]
def nT {B : cD} (h : dd B) (r : Row) : dd (grow B r) := by
  unfold grow
  split
  · exact h
  · rename_i aw
    have ae := uN (r := r) h.ai
    generalize red B r = l at aw ae
    obtain ⟨b0, cU, -, -⟩ := EA l.1 (by omega)
    generalize lo l.1 = k at b0 cU
    have on : ∀ (e : Nat × Row) j, (one e.2 (k, l)).1.testBit j = (e.2.1.testBit j ^^ (e.2.1.testBit k && l.1.testBit j)) := fun e j => by
      unfold one
      by_cases q : e.2.1.testBit k = true
      · rw [if_pos q, Y2, q, Bool.true_and]
      · rw [if_neg q]
        have q : e.2.1.testBit k = false := by simpa using q
        rw [q, abB, aa1]
    refine ⟨Yz.mpr ⟨?_, Zn _ _, fun e he f hf => ?_⟩, fun e he => ?_⟩
    · rw [Zu]
      refine Zy (fun {e f} he hf q => ?_) h.ap
      dsimp only
      rw [on, on, q.1, q.2, ae e he, ae f hf, aaj, aaj]
      exact ⟨rfl, rfl⟩
    · obtain ⟨bq, ha, rfl⟩ := List.mem_map.mp he
      obtain rfl := YA.mp hf
      dsimp only
      rw [on, b0, ae bq ha, abU, Bool.xor_self]
      exact ⟨rfl, rfl⟩
    · rcases Yq.mp he with he | he
      · obtain ⟨bq, ha, rfl⟩ := List.mem_map.mp he
        dsimp only
        obtain ⟨cX, cC⟩ := h.lo bq ha
        refine ⟨by rw [on, cX, ae bq ha, aaj]; rfl, fun j aA => ?_⟩
        rw [on, cC j aA]
        by_cases q : bq.2.1.testBit k = true
        · have : bq.1 < k := by
            rcases abO bq.1 k with w | w | w
            · exact w
            · have := ae bq ha; rw [w, b0] at this; cases this
            · rw [cC k w] at q; cases q
          rw [cU j (by omega), aaj]; rfl
        · have q : bq.2.1.testBit k = false := by simpa using q
          rw [q]; rfl
      · obtain rfl := YA.mp he
        exact ⟨b0, cU⟩
def tC{B:cD}(h:dd B)(r:Row)(x:Nat):sp (rws (grow B r)) x<->sp (r.1::rws B) x:=by
 have h0:=uO (B:=B) (r:=r);unfold grow
 split
 .rename_i z;rw[z,aaF]at h0;exact⟨.inl,eG λa ax=>by rcases Yk.mp ax with rfl|ax;exact h0;exact dX ax⟩
 .generalize red B r=l at h0;generalize lo l.1=k;have aw:∀{M:List Nat},sp M l.1->(∀e∈B,sp M (one e.2 (k,l)).1)->∀a∈rws B,sp M a:=λ{M} J aa a ax=>by
   obtain⟨e,he,rfl⟩:=List.mem_map.mp ax;have:=aa e he;unfold one at this
   split at this
   .have:=iR this J;rwa[l1]at this
   .exact this
  constructor
  .refine eG λa ax=>?_
   have od:sp (r.1::rws B) l.1:=by
    have J:sp (r.1::rws B) (r.1 ^^^ l.1):=.inl h0;have:=iR J (dX (L:=r.1::rws B) List.mem_cons_self);rwa[xor_swap,aaE,aa2]at this
   unfold rws at ax;rw[List.map_append,List.map_map]at ax;rcases Yq.mp ax with ax|ax
   .obtain⟨e,he,rfl⟩:=List.mem_map.mp ax;have ES:sp (r.1::rws B) e.2.1:=.inl (dX (List.mem_map.mpr ⟨e,he,rfl⟩));show sp _ (one e.2 (k,l)).1;unfold one
    split
    .exact iR ES od
    .exact ES
   .obtain rfl:a=l.1:=(by simpa using ax);exact od
  .have od:sp (rws (B.map (λe=>(e.1,one e.2 (k,l)))++[(k,l)])) l.1:=dX (by unfold rws;simp);have EM:=aw od λe he=>dX (by unfold rws;rw[List.map_append,List.map_map];exact List.mem_append_left _ (List.mem_map.mpr ⟨e,he,rfl⟩))
   refine eG λa ax=>?_
   rcases Yk.mp ax with rfl|ax
   .have:=iR (eG EM h0) od;rwa[l1]at this
   .exact EM a ax
def rf(B:cD)(r:Row):(grow B r).length=B.length+if (red B r).1=0 then 0 else 1:=by
 unfold grow
 split<;>simp
noncomputable def c9(B:cD)(rs:List Row):cD:=rs.foldl grow B
theorem iu:∀{rs:List Row}{B:cD},dd B->dd (c9 B rs)
 |[],_,h=>h
 |r::rs,_,h=>iu (rs:=rs) (nT h r)
theorem nS:∀{rs:List Row}{B:cD},dd B->∀x,sp (rws (c9 B rs)) x<->sp (rs.map (·.1)++rws B) x
 |[],_,h,x=>Iff.rfl
 |r::rs,B,h,x=>by
  show sp (rws (c9 (grow B r) rs)) x<->_;rw[nS (nT h r) x];have g:=tC h r;constructor
  .refine eG λa ax=>?_
   rcases Yq.mp ax with ax|ax
   .exact dX (by rw[List.map_cons];exact List.mem_cons_of_mem _ (List.mem_append_left _ ax))
   .refine eG (λb ae=>?_) ((g a).mp (dX ax));refine dX ?_;rw[List.map_cons];rcases Yk.mp ae with rfl|ae
    .exact List.mem_cons_self
    .exact List.mem_cons_of_mem _ (Yw _ ae)
  .refine eG λa ax=>?_
   have aK:∀b,b∈r.1::rws B->sp (rs.map (·.1)++rws (grow B r)) b:=λb ae=>eG (λc aj=>dX (Yw _ aj)) ((g b).mpr (dX ae))
   rw[List.map_cons,List.cons_append]at ax;rcases Yk.mp ax with rfl|ax
   .exact aK _ List.mem_cons_self
   .rcases Yq.mp ax with ax|ax
    .exact dX (List.mem_append_left _ ax)
    .exact aK a (List.mem_cons_of_mem _ ax)
end gf
end
section
namespace gf
noncomputable def bd:List Nat->Nat->Nat
 |[],_=>0
 |a::as,z=>(if z%2=1 then a else 0) ^^^ bd as (z / 2)
def W5(a b c d:Nat):(a ^^^ b) ^^^ (c ^^^ d)=(a ^^^ c) ^^^ (b ^^^ d):=by rw[Zx,<- Zx b c d,ach b c,Zx c b d,<- Zx]
theorem oT:∀(as:List Nat)(x y:Nat),bd as (x ^^^ y)=bd as x ^^^ bd as y
 |[],_,_=>(aaE 0).symm
 |a::as,x,y=>by
  show(if (x ^^^ y)%2=1 then a else 0) ^^^ bd as ((x ^^^ y) / 2)=((if x%2=1 then a else 0) ^^^ bd as (x / 2)) ^^^ ((if y%2=1 then a else 0) ^^^ bd as (y / 2));rw[ab8,oT as,W5];congr 1;have:=@aa3 x y
  by_cases J:x%2=1<;>by_cases aa:y%2=1<;>simp[J,aa,this]
theorem wU:∀(as:List Nat)(a z:Nat),bd (as++[a]) z=bd as z ^^^ (if z.testBit as.length=true then a else 0)
 |[],a,z=>by
  show(if z%2=1 then a else 0) ^^^ 0=0 ^^^ _;rw[aaF,aa2,List.length_nil,abe];simp
 |b::as,a,z=>by
  show(if z%2=1 then b else 0) ^^^ bd (as++[a]) (z / 2)=((if z%2=1 then b else 0) ^^^ bd as (z / 2)) ^^^ _;rw[wU as a,List.length_cons,abf,Zx]
theorem Bf:∀(as:List Nat)(z:Nat),(∀j,j<as.length->z.testBit j=false)->bd as z=0
 |[],_,_=>rfl
 |a::as,z,h=>by
  have h0:=h 0 (by simp);rw[abe]at h0;show(if z%2=1 then a else 0) ^^^ bd as (z / 2)=0;rw[if_neg (by simpa using h0),Bf as (z / 2) λj aA=>by rw[<- abf];exact h (j+1) (by simpa using aA)];rfl
def Bh(as:List Nat)(a:Nat):bd (as++[a]) (2 ^ as.length)=a:=by
 rw[wU,Bf as _ λj aA=>by rw[aaM];simp;omega,aag,if_pos rfl,aa2]
def k2(as:List Nat)(a:Nat){z:Nat}(h:z<2 ^ as.length):bd (as++[a]) z=bd as z:=by
 rw[wU,YM h];simp
def qR{n z:Nat}(h:z<2 ^ (n+1)):(z.testBit n=false/\z<2 ^ n)\/(z.testBit n=true/\∀u,u<2 ^ (n+1)->u.testBit n=true->z ^^^ u<2 ^ n):=by
 have key:∀y,y<2 ^ (n+1)->y.testBit n=false->y<2 ^ n:=λy aD aB=>by
  refine Nat.lt_pow_two_of_testBit y λi hi=>?_
  rcases abz n i with q|q
  .exact YM (YC aD (YN (by decide) q))
  .rw[show i=n by omega];exact aB
 cases q:z.testBit n with
 |false=>exact .inl ⟨rfl,key z h q⟩
 |true=>exact .inr ⟨rfl,λu bz ae=>key _ (Z0 h bz) (by rw[Y2,q,ae];rfl)⟩
theorem Ge{as:List Nat}:∀{B:cD}{r:Row},(∀e∈B,bd as e.2.2=e.2.1)->bd as r.2=r.1->bd as (red B r).2=(red B r).1
 |[],r,_,h=>h
 |e::B,r,hG,h=>by
  rw[p2];refine Ge (λf hf=>hG f (List.mem_cons_of_mem _ hf)) ?_;unfold one
  split
  .show bd as (r.2 ^^^ e.2.2)=r.1 ^^^ e.2.1;rw[oT,h,hG e List.mem_cons_self]
  .exact h
theorem Gg{n:Nat}:∀{B:cD}{r:Row},(∀e∈B,e.2.2<2 ^ n)->∃u,u<2 ^ n/\(red B r).2=r.2 ^^^ u
 |[],r,_=>⟨0,abt n,(aaF _).symm⟩
 |e::B,r,hG=>by
  obtain⟨u,J,aa⟩:=Gg (B:=B) (r:=one r e) λf hf=>hG f (List.mem_cons_of_mem _ hf)
  rw[p2,aa];unfold one
  split
  .exact⟨e.2.2 ^^^ u,Z0 (hG e List.mem_cons_self) J,by rw[<- Zx]⟩
  .exact⟨u,J,rfl⟩
noncomputable def step(st:cD×List Nat)(r:Row):cD×List Nat:=(grow st.1 r,if (red st.1 r).1=0 then st.2++[(red st.1 r).2] else st.2)
noncomputable def eC(rs:List Row):cD×List Nat:=rs.foldl step ([],[])
noncomputable def d1(as:List Nat):List Row:=as.zipIdx.map λp=>(p.1,2 ^ p.2)
def QP(as:List Nat)(a:Nat):d1 (as++[a])=d1 as++[(a,2 ^ as.length)]:=by
 unfold d1;rw[List.zipIdx_append,List.map_append];simp
def DV(rs:List Row)(r:Row):eC (rs++[r])=step (eC rs) r:=by unfold eC;rw[List.foldl_append];rfl
noncomputable def bare(b:Nat):Row:=(b,0)
structure St(as:List Nat)(B:cD)(F:List Nat):Prop where
 my:dd B
 oU:∀e∈B,bd as e.2.2=e.2.1/\e.2.2<2 ^ as.length
 len:B.length+F.length=as.length
 iG:∀b∈F,b<2 ^ as.length
 nul:∀b∈F,bd as b=0
 fin:(c9 [] (F.map bare)).length=F.length
 uc:∀z,z<2 ^ as.length->bd as z=0->sp F z
 rD:∀z,z<2 ^ as.length->sp (rws B) (bd as z)
def zN{F:List Nat}{x:Nat}:sp (rws (c9 [] (F.map bare))) x<->sp F x:=by
 rw[nS dd.nil,List.map_map];have e:F.map ((λx:Row=>x.1) ∘ bare)=F:=by
  have:((λx:Row=>x.1) ∘ bare)=id:=rfl;rw[this,abn]
 rw[e];show sp (F++[]) x<->_;rw[Y1]
def snoc_ind{P:List Nat->Prop}(h0:P [])(J:∀as a,P as->P (as++[a]))(as:List Nat):P as:=by
 have key:∀n (as:List Nat),as.length=n->P as:=by
  intro n
  induction n with
  |zero=>intro as h;rw[ZN h];exact h0
  |succ n aF =>
   intro as h;rcases aau as with rfl|⟨l,a,rfl⟩
   .cases h
   .rw[aav]at h ⊢;exact J l a (aF l (by simpa using h))
 exact key _ as rfl
def Hb (as : List Nat) : St as (eC (d1 as)).1 (eC (d1 as)).2 := by
  refine snoc_ind (P := fun as => St as (eC (d1 as)).1 (eC (d1 as)).2) ?_ ?_ as
  · show St [] [] []
    refine ⟨dd.nil, (fun _ h => nomatch h), rfl, (fun _ h => nomatch h), (fun _ h => nomatch h), rfl, fun z h _ => ?_, fun _ _ => rfl⟩
    have h : z < 1 := h
    show z = 0
    omega
  · intro as a aF
    rw [QP, DV]
    generalize (eC (d1 as)) = st at aF
    obtain ⟨B, F⟩ := st
    dsimp only at aF
    unfold step
    dsimp only
    have ae : ∀ e ∈ B, bd (as ++ [a]) e.2.2 = e.2.1 := fun e he => by rw [k2 as a (aF.oU e he).2]; exact (aF.oU e he).1
    have b0 := Ge (r := (a, 2 ^ as.length)) ae (Bh as a)
    obtain ⟨u, bz, cU⟩ := Gg (B := B) (r := (a, 2 ^ as.length)) fun e he => (aF.oU e he).2
    have hz := sb (r := (a, 2 ^ as.length)) aF.my
    have a4 := rf B (a, 2 ^ as.length)
    have ia : (as ++ [a]).length = as.length + 1 := by simp
    have up : ∀ {z}, z < 2 ^ as.length -> z < 2 ^ (as ++ [a]).length := fun {z} h => by rw [ia, Nat.pow_succ]; omega
    have tt : (2 : Nat) ^ as.length < 2 ^ (as ++ [a]).length := by rw [ia]; exact aaC (by decide) (ZX _)
    have fm : (red B (a, 2 ^ as.length)).2 < 2 ^ (as ++ [a]).length := by rw [cU]; exact Z0 tt (up bz)
    have ue : (red B (a, 2 ^ as.length)).2.testBit as.length = true := by
      rw [cU, Y2]
      show ((2 ^ as.length).testBit as.length ^^ u.testBit as.length) = true
      rw [aag, YM bz]; rfl
    have top : ∀ {z}, z < 2 ^ (as ++ [a]).length -> z.testBit as.length = true -> bd (as ++ [a]) z = bd as (z ^^^ 2 ^ as.length) ^^^ a /\ z ^^^ 2 ^ as.length < 2 ^ as.length := fun {z} h q => by
      have b7 : z ^^^ 2 ^ as.length < 2 ^ as.length := by
        rcases qR (n := as.length) (by rw [<- ia]; exact h) with ⟨w, _⟩ | ⟨_, w⟩
        · rw [q] at w; cases w
        · exact w _ (by rw [<- ia]; exact tt) (aag)
      refine ⟨?_, b7⟩
      rw [<- k2 as a b7, oT, Bh, l1]
    have low : ∀ {z}, z < 2 ^ (as ++ [a]).length -> z.testBit as.length = false -> z < 2 ^ as.length := fun {z} h q => by
      rcases qR (n := as.length) (by rw [<- ia]; exact h) with ⟨_, w⟩ | ⟨w, _⟩
      · exact w
      · rw [q] at w; cases w
    generalize aw : red B (a, 2 ^ as.length) = l at b0 cU fm ue hz a4
    by_cases c : l.1 = 0
    · have yb : grow B (a, 2 ^ as.length) = B := by unfold grow; rw [aw, if_pos c]
      rw [if_pos c, yb]
      refine ⟨aF.my, fun e he => ⟨ae e he, up (aF.oU e he).2⟩, by rw [Yj, ia]; have := aF.len; simp; omega, fun b fz => ?_, fun b fz => ?_, ?_, fun z h0 J => ?_, fun z h0 => ?_⟩
      · rcases Yq.mp fz with h | h
        · exact up (aF.iG b h)
        · rw [YA.mp h]; exact fm
      · rcases Yq.mp fz with h | h
        · rw [k2 as a (aF.iG b h)]; exact aF.nul b h
        · rw [YA.mp h, b0, c]
      · rw [List.map_append]
        show (c9 [] (F.map bare ++ [bare l.2])).length = _
        unfold c9
        rw [List.foldl_append]
        show (grow (c9 [] (F.map bare)) (bare l.2)).length = _
        rw [rf, aF.fin, Yj, if_neg]
        · rfl
        · intro w
          have := zO aF.iG (zN.mp ((sb (iu dd.nil)).mp w))
          have this : l.2 < 2 ^ as.length := this
          rw [YM this] at ue; cases ue
      · cases q : z.testBit as.length with
        | false =>
          have := aF.uc z (low h0 q) (by rw [<- k2 as a (low h0 q)]; exact J)
          exact eG (fun b ae => dX (List.mem_append_left _ ae)) this
        | true =>
          have aa : z ^^^ l.2 < 2 ^ as.length := by
            rcases qR (n := as.length) (by rw [<- ia]; exact h0) with ⟨w, _⟩ | ⟨_, w⟩
            · rw [q] at w; cases w
            · exact w _ (by rw [<- ia]; exact fm) ue
          have aI := aF.uc _ aa (by rw [<- k2 as a aa, oT, J, b0, c]; rfl)
          have aX : sp (F ++ [l.2]) (z ^^^ l.2) := eG (fun b ae => dX (List.mem_append_left _ ae)) aI
          have := iR aX (dX (Yw F List.mem_cons_self))
          rwa [l1] at this
      · cases q : z.testBit as.length with
        | false => rw [k2 as a (low h0 q)]; exact aF.rD z (low h0 q)
        | true =>
          obtain ⟨t1, gq⟩ := top h0 q
          rw [t1]
          exact iR (aF.rD _ gq) (hz.mp c)
    · have yb : ∀ e ∈ grow B (a, 2 ^ as.length), bd (as ++ [a]) e.2.2 = e.2.1 /\ e.2.2 < 2 ^ (as ++ [a]).length := fun e he => by
        unfold grow at he
        rw [aw, if_neg c] at he
        rcases Yq.mp he with he | he
        · obtain ⟨f, hf, rfl⟩ := List.mem_map.mp he
          dsimp only
          unfold one
          split
          · exact ⟨by rw [oT, ae f hf, b0], Z0 (up (aF.oU f hf).2) fm⟩
          · exact ⟨ae f hf, up (aF.oU f hf).2⟩
        · rw [YA.mp he]; exact ⟨b0, fm⟩
      rw [if_neg c]
      rw [if_neg c] at a4
      refine ⟨nT aF.my _, yb, by rw [a4, ia]; have := aF.len; omega, fun b fz => up (aF.iG b fz), fun b fz => by rw [k2 as a (aF.iG b fz)]; exact aF.nul b fz, aF.fin, fun z h0 J => ?_, fun z h0 => ?_⟩
      · cases q : z.testBit as.length with
        | false => exact aF.uc z (low h0 q) (by rw [<- k2 as a (low h0 q)]; exact J)
        | true =>
          exfalso
          obtain ⟨t1, gq⟩ := top h0 q
          rw [J] at t1
          have : bd as (z ^^^ 2 ^ as.length) = a := by
            have w : 0 ^^^ a = (bd as (z ^^^ 2 ^ as.length) ^^^ a) ^^^ a := Zr (· ^^^ a) t1
            rw [l1, aa2] at w
            exact w.symm
          exact c (hz.mpr (by have cc := aF.rD _ gq; rw [this] at cc; exact cc))
      · rw [tC aF.my]
        cases q : z.testBit as.length with
        | false => rw [k2 as a (low h0 q)]; exact .inl (aF.rD z (low h0 q))
        | true =>
          obtain ⟨t1, gq⟩ := top h0 q
          rw [t1]
          exact .inr (by rw [l1]; exact aF.rD _ gq)
noncomputable def tell(st:cD×List Nat)(b:Nat):cD×List Nat:=(grow st.1 (bare b),if (red st.1 (bare b)).1=0 then st.2 else st.2++[b])
theorem z7:∀(F:List Nat)(B:cD)(G:List Nat),(F.foldl tell (B,G)).2.length+B.length=(c9 B (F.map bare)).length+G.length
 |[],B,G=>acg _ _
 |b::F,B,G=>by
  show(F.foldl tell (tell (B,G) b)).2.length+B.length=(c9 (grow B (bare b)) (F.map bare)).length+G.length;have h:=z7 F (grow B (bare b)) (if (red B (bare b)).1=0 then G else G++[b]);have aa:=rf B (bare b);have lb:tell (B,G) b=(grow B (bare b),if (red B (bare b)).1=0 then G else G++[b]):=rfl;rw[lb]
  by_cases c:(red B (bare b)).1=0
  .rw[if_pos c]at h aa ⊢;omega
  .rw[if_neg c]at h aa ⊢;rw[Yj]at h;simp at h;omega
def Td(as:List Nat)(rs:List Row)(h:∀r∈rs,r.1<2 ^ as.length/\bd as r.1=0):
  ((eC (d1 as)).2.foldl tell (c9 [] rs,[])).2.length+(c9 [] rs).length=(eC (d1 as)).2.length:=by
 have st:=Hb as;generalize (eC (d1 as)).2=F at st;rw[z7];have ai:=iu (rs:=rs) dd.nil;have av:=iu (rs:=F.map bare) ai;have bu:=iu (rs:=F.map bare) dd.nil;have s1:∀x,sp (rws (c9 (c9 [] rs) (F.map bare))) x<->sp F x:=λx=>by
  rw[nS ai,List.map_map,show F.map ((λx:Row=>x.1) ∘ bare)=F from abn F];refine⟨eG λa ax=>?_,eG λa ax=>dX (List.mem_append_left _ ax)⟩;rcases Yq.mp ax with ax|ax
  .exact dX ax
  .have:=(nS (rs:=rs) dd.nil a).mp (dX ax);refine eG (λb ae=>?_) this;rw[show rws []=[] from rfl,Y1]at ae;obtain⟨r,a7,rfl⟩:=List.mem_map.mp ae;exact st.uc _ (h r a7).1 (h r a7).2
 have eB:=s9 av bu λx ag=>zN.mpr ((s1 x).mp ag)
 have e6:=s9 bu av λx ag=>(s1 x).mpr (zN.mp ag)
 have:=st.fin;simp only[List.length_nil];omega
end gf
end
section
namespace gf
def As:∀x y:Nat,(x ^^^ y)+2*(x &&& y)=x+y:=by
 intro x
 induction x using Nat.strongRecOn with
 |ind x aF =>
  intro y
  by_cases h:x=0
  .subst h;simp
  .have J:=aF (x / 2) (by omega) (y / 2);have ai:(x ^^^ y) / 2=x / 2 ^^^ y / 2:=ab8;have av:(x &&& y) / 2=x / 2 &&& y / 2:=abu;have bu:(x ^^^ y)%2=(x%2+y%2)%2:=by
    have:=@aa3 x y;rcases Yt x with a|a<;>rcases Yt y with b|b<;>rcases Yt (x ^^^ y) with c|c<;>simp[a,b,c]at this ⊢
   have dU:(x &&& y)%2=(x%2)*(y%2):=by
    have:=@aam x y;rcases Yt x with a|a<;>rcases Yt y with b|b<;>rcases Yt (x &&& y) with c|c<;>simp[a,b,c]at this ⊢
   rw[<- ai,<- av]at J;revert J bu dU;generalize x ^^^ y=p;generalize x &&& y=q;intro J bu dU;rcases Yt x with a|a<;>rcases Yt y with b|b<;>rw[a,b]at bu dU<;>omega
noncomputable def iU:List Nat->Nat
 |[]=>0
 |a::as=>a ^^^ iU as
theorem vu(j:Nat):∀L:List Nat,(iU L).testBit j=decide ((L.countP λa=>a.testBit j)%2=1)
 |[]=>by simp[iU]
 |a::L=>by
  rw[iU,Y2,vu j L,aaG];cases a.testBit j with
  |false=>simp
  |true =>
   simp only[Zo,Bool.true_xor];rcases Yt (L.countP λa=>a.testBit j) with h|h
   .rw[h,show(List.countP (λa=>a.testBit j) L+1)%2=1 by omega];rfl
   .rw[h,show(List.countP (λa=>a.testBit j) L+1)%2=0 by omega];rfl
theorem wV:∀as:List Nat,bd as 0=0
 |[]=>rfl
 |a::as=>by show(if 0%2=1 then a else 0) ^^^ bd as (0 / 2)=0;rw[if_neg (by decide),Nat.zero_div,wV as];rfl
theorem Bg:∀(as:List Nat)(j:Nat),bd as (2 ^ j)=as.getD j 0
 |[],j=>by simp[bd]
 |a::as,0=>by
  show(if 1%2=1 then a else 0) ^^^ bd as (1 / 2)=a;rw[if_pos (by decide),show 1 / 2=0 by decide,wV,aaF]
 |a::as,j+1=>by
  show(if 2 ^ (j+1)%2=1 then a else 0) ^^^ bd as (2 ^ (j+1) / 2)=(a::as).getD (j+1) 0;have J:2 ^ (j+1)%2=0:=(by rw[Nat.pow_succ];omega);have aa:2 ^ (j+1) / 2=2 ^ j:=(by rw[Nat.pow_succ];omega);rw[if_neg (by omega),aa,Bg as j,aa2];rfl
theorem Bi(as:List Nat):∀L:List Nat,bd as (iU L)=iU (L.map (bd as))
 |[]=>wV as
 |a::L=>by rw[iU,oT,Bi as L,List.map_cons,iU]
section
variable{α:Type}[DecidableEq α]
noncomputable abbrev cx(U:List α)(x:α):Nat:=U.idxOf x
def D7{U:List α}(cI:U.Nodup){i:Nat}(h:i<U.length):cx U U[i]=i:=cI.idxOf_getElem i h
noncomputable def dA(U xs:List α):Nat:=iU (xs.map λx=>2 ^ cx U x)
def pQ{U:List α}(j:Nat)(aA:j<U.length){xs:List α}(ag:xs.Nodup)(cI:U.Nodup):(dA U xs).testBit j=decide (U[j]∈xs):=by
 unfold dA;rw[vu,aaS];have e:xs.countP ((λa=>a.testBit j) ∘ λx=>2 ^ U.idxOf x)=xs.countP λx=>x==U[j]:=by
  refine aaz λx ag=>?_
  simp only[Function.comp,aaM,YD,Y3];constructor
  .intro h;have:U[U.idxOf x]'(by omega)=x:=Z2 (by omega);rw[<- this];congr 1
  .intro h;rw[h];exact cI.idxOf_getElem j aA
 have JU:∀{xs:List α}(y:α),xs.Nodup->xs.countP (λx=>x==y)=if y∈xs then 1 else 0:=λ{xs} y=>by
  induction xs with
  |nil=>intro _;rfl
  |cons x xs aF =>
   intro aB;obtain⟨ia,hc⟩:=YX.mp aB;rw[aaG,aF hc]
   by_cases q:x=y
   .subst q;simp[ia]
   .simp[q,ZK q]
 rw[e,JU _ ag]
 by_cases h:U[j]∈xs
 .rw[if_pos h,decide_eq_true h];rfl
 .rw[if_neg h,decide_eq_false h];rfl
theorem pR{U:List α}:∀{xs:List α},(∀x∈xs,x∈U)->dA U xs<2 ^ U.length
 |[],_=>abt _
 |x::xs,h=>by
  show 2 ^ U.idxOf x ^^^ dA U xs<2 ^ U.length;refine Z0 (aaC (by decide) (Y8 (h x List.mem_cons_self))) (pR λy aD=>h y (List.mem_cons_of_mem _ aD))
theorem E0{U:List α}(cI:U.Nodup):∀{xs:List α},xs.Nodup->(∀x∈xs,x∈U)->(xs.map λx=>((2 ^ cx U x:Nat):Int)).sum=(dA U xs:Int)
 |[],_,_=>rfl
 |x::xs,ag,h=>by
  obtain⟨J,aa⟩:=YX.mp ag;have OX:=h x List.mem_cons_self;have b7:=Y8 OX;rw[List.map_cons,List.sum_cons,E0 cI aa λy aD=>h y (List.mem_cons_of_mem _ aD)];show _=((2 ^ cx U x ^^^ dA U xs:Nat):Int);have ae:(dA U xs).testBit (cx U x)=false:=(by rw[pQ _ b7 aa cI,Z2 b7,decide_eq_false J]);have ax:2 ^ cx U x &&& dA U xs=0:=by
   apply ZO;intro i;rw[ab9,aaM,ZW]
   by_cases q:cx U x=i
   .rw[<- q,ae];simp
   .simp[q]
  have:=As (2 ^ cx U x) (dA U xs);rw[ax]at this;omega
def Be{U V:List α}{sd:α->List α}{c:List α}(aj:∀x∈c,x∈U):bd (U.map λx=>dA V (sd x)) (dA U c)=iU (c.map λx=>dA V (sd x)):=by
 show bd _ (iU (c.map λx=>2 ^ cx U x))=_;rw[Bi,List.map_map];refine Zr iU (Zs λx ag=>?_);have b7:=Y8 (aj x ag);show bd _ (2 ^ U.idxOf x)=_;rw[Bg,List.getD,Yy,Yl b7,Z2 b7];rfl
def H2{V:List α}{sd:α->List α}{c:List α}(xZ:V.Nodup)(ab:∀x∈c,(sd x).Nodup){j:Nat}(aA:j<V.length):(iU (c.map λx=>dA V (sd x))).testBit j=decide ((c.countP λx=>decide (V[j]∈sd x))%2=1):=by
 rw[vu,aaS];have av:c.countP ((λa=>a.testBit j) ∘ λx=>dA V (sd x))=c.countP λx=>decide (V[j]∈sd x):=by
  refine aaz λx ag=>?_
  show(dA V (sd x)).testBit j=true<->_;rw[pQ j aA (ab x ag) xZ]
 rw[av]
def S9{U V:List α}{sd:α->List α}{c:List α}(xZ:V.Nodup)(aj:∀x∈c,x∈U)(ab:∀x∈c,(sd x).Nodup/\∀y∈sd x,y∈V)(aa:∀y,(c.countP λx=>decide (y∈sd x))%2=0):
  bd (U.map λx=>dA V (sd x)) (dA U c)=0:=by
 rw[Be aj];apply ZO;intro j;rw[ZW]
 by_cases aA:j<V.length
 .rw[H2 xZ (λx ag=>(ab x ag).1) aA,aa];rfl
 .rw[vu,aaS];have av:c.countP ((λa=>a.testBit j) ∘ λx=>dA V (sd x))=0:=by
   rw[abv];intro x ag;show ¬(dA V (sd x)).testBit j=true;rw[YM (YC (pR (ab x ag).2) (YN (by decide) (aaD aA)))];simp
  rw[av];rfl
def QX{U xs:List α}(cI:U.Nodup)(ag:xs.Nodup){x:α}(h:x∈xs)(bz:x∈U):dA U xs≠0:=λz=>by
 have b7:=Y8 bz;have:=pQ _ b7 ag cI;rw[z,ZW,Z2 b7]at this;exact of_decide_eq_false this.symm h
def QW{U xs ys:List α}(cI:U.Nodup)(ag:xs.Nodup)(aD:ys.Nodup)(h:∀x,x∈xs<->x∈ys)(bz:∀x∈xs,x∈U):dA U xs=dA U ys:=by
 apply ZO;intro j
 by_cases aA:j<U.length
 .rw[pQ j aA ag cI,pQ j aA aD cI];exact decide_eq_decide.mpr (h _)
 .have p:=YN (n:=2) (by decide) (aaD aA);rw[YM (YC (pR bz) p),YM (YC (pR λy aD=>bz y ((h y).mpr aD)) p)]
def EZ{U:List α}(cI:U.Nodup){b:Nat}(ae:b<2 ^ U.length):dA U (U.filter λc=>b.testBit (cx U c))=b:=by
 apply ZO;intro j
 by_cases aA:j<U.length
 .rw[pQ j aA (cI.filter _) cI];have e:(U[j]∈U.filter λc=>b.testBit (cx U c))<->b.testBit j=true:=(by rw[YR,D7 cI aA];exact⟨λh=>h.2,λh=>⟨aaH aA,h⟩⟩);cases q:b.testBit j with
  |true=>exact decide_eq_true (e.mpr q)
  |false=>exact decide_eq_false λz=>by rw[e.mp z]at q;cases q
 .have p:=YN (n:=2) (by decide) (aaD aA);rw[YM (YC (pR λx ag=>(YR.mp ag).1) p),YM (YC ae p)]
end
end gf
end
section
namespace gf
noncomputable def mQ(l w:Nat):Nat:=if l ^^^ w<l then l ^^^ w else l
noncomputable def fo(W:List Nat)(x:Nat):Nat:=W.foldl mQ x
noncomputable def lst(W:List Nat)(x:Nat):List Nat:=if 0<fo W x then W++[fo W x] else W
noncomputable def fC(cs:List Nat):List Nat:=cs.foldl lst []
noncomputable def ent(w:Nat):Nat×Row:=(w.log2,w,0)
def Ht{w:Nat}(h:0<w):w.testBit w.log2=true/\∀j,w.log2<j->w.testBit j=false:=by
 have J:=Nat.log2_self_le (n:=w) (by omega);have aa:=@Nat.lt_log2_self w;refine⟨?_,λj aA=>YM (YC aa (YN (by decide) aA))⟩;rcases qR aa with⟨_,q⟩|⟨q,_⟩
 .omega
 .exact q
def EG{x y k:Nat}(ag:x.testBit k=false)(aD:y.testBit k=true)(h:∀j,k<j->x.testBit j=y.testBit j):x<y:=by
 have e:x / 2 ^ (k+1)=y / 2 ^ (k+1):=by
  apply ZO;intro i;rw[abX,abX];exact h _ (by omega)
 have aE:=abt (k+1);have a:x%2 ^ (k+1)<2 ^ k:=by
  rcases qR (ab6 x aE) with⟨_,q⟩|⟨q,_⟩
  .exact q
  .rw[abY,ag]at q;simp at q
 have b:2 ^ k<=y%2 ^ (k+1):=by
  rcases abz (y%2 ^ (k+1)) (2 ^ k) with q|q
  .have:=YM q;rw[abY,aD]at this;simp at this
  .exact q
 have J:=Nat.div_add_mod x (2 ^ (k+1));have aa:=Nat.div_add_mod y (2 ^ (k+1));rw[e]at J;omega
def QU{w:Nat}(h:0<w)(l:Nat):mQ l w=if l.testBit w.log2=true then l ^^^ w else l:=by
 obtain⟨J,aa⟩:=Ht h;unfold mQ;cases q:l.testBit w.log2 with
 |true =>
  rw[if_pos rfl,if_pos];exact EG (k:=w.log2) (by rw[Y2,q,J];rfl) q λj aA=>by rw[Y2,aa j aA,aa1]
 |false =>
  rw[if_neg (show ¬(false=true) by decide)];have:l<l ^^^ w:=EG (k:=w.log2) q (by rw[Y2,q,J];rfl) λj aA=>by rw[Y2,aa j aA,aa1]
  rw[if_neg (by omega)]
theorem EC:∀{W:List Nat}(l:Nat),(∀w∈W,0<w)->red (W.map ent) (l,0)=(fo W l,0)
 |[],l,_=>rfl
 |w::W,l,h=>by
  rw[List.map_cons,p2];have e:one (l,0) (ent w)=(mQ l w,0):=by
   rw[QU (h w List.mem_cons_self)];unfold one ent;dsimp only
   split<;>rfl
  rw[e];exact EC (mQ l w) λz hz=>h z (List.mem_cons_of_mem _ hz)
def Tp(W:List Nat):rws (W.map ent)=W:=by
 unfold rws;rw[List.map_map];exact abn W
structure qw(W:List Nat)(B:cD):Prop where
 pos:∀w∈W,0<w
 ai:l6 (W.map ent)
 my:dd B
 len:W.length=B.length
 sp:∀x,sp W x<->sp (rws B) x
def qw.step{W:List Nat}{B:cD}(h:qw W B)(c:Nat):qw (lst W c) (grow B (bare c)):=by
 have aH:=EC c h.pos;have cX:=Gh (r:=(c,0)) h.ai;have cC:=sb (r:=bare c) h.my;have s1:=uO (B:=W.map ent) (r:=(c,0));have b1:=uN (r:=(c,0)) h.ai;rw[Tp]at cX s1;rw[aH]at cX s1 b1;dsimp only at cX s1 b1;have gl:=rf B (bare c);have h2:=tC h.my (bare c);unfold lst
 by_cases q:fo W c=0
 .rw[if_neg (by omega)];have a9:(red B (bare c)).1=0:=cC.mpr ((h.sp c).mp (cX.mp q));have e:grow B (bare c)=B:=(by unfold grow;rw[if_pos a9]);rw[e];exact h
 .rw[if_pos (by omega)];have a9:¬(red B (bare c)).1=0:=λw=>q (cX.mpr ((h.sp c).mpr (cC.mp w)))
  rw[if_neg a9]at gl;refine⟨λw hw=>?_,⟨?_,λe he=>?_⟩,nT h.my _,by rw[Yj,h.len,gl];rfl,λx=>?_⟩
  .rcases Yq.mp hw with hw|hw
   .exact h.pos w hw
   .rw[YA.mp hw];omega
  .rw[List.map_append];refine Yz.mpr ⟨h.ai.ap,Zn _ _,λe he f hf=>?_⟩;rw[YA.mp hf];exact b1 e he
  .rw[List.map_append]at he;rcases Yq.mp he with he|he
   .exact h.ai.lo e he
   .rw[YA.mp he];exact(Ht (w:=fo W c) (by omega)).1
  .rw[h2 x];have ab:∀y,gf.sp (c::rws B) y<->gf.sp (c::W) y:=λy=>by
    constructor
    .rintro(w|w)
     .exact .inl ((h.sp _).mpr w)
     .exact .inr ((h.sp _).mpr w)
    .rintro(w|w)
     .exact .inl ((h.sp _).mp w)
     .exact .inr ((h.sp _).mp w)
   rw[show(bare c).1=c from rfl,ab x];constructor
   .refine eG λa ax=>?_
    rcases Yq.mp ax with ax|ax
    .exact .inl (dX ax)
    .rw[YA.mp ax];exact .inr (by rw[ach];exact s1)
   .refine eG λa ax=>?_
    have od:gf.sp (W++[fo W c]) (fo W c):=dX (by simp);have EN:∀b∈W,gf.sp (W++[fo W c]) b:=λb ae=>dX (List.mem_append_left _ ae)
    rcases Yk.mp ax with rfl|ax
    .have:=iR (eG EN s1) od;rwa[l1]at this
    .exact EN a ax
def Qp(cs:List Nat):qw (fC cs) (c9 [] (cs.map bare)):=by
 refine snoc_ind (P:=λcs=>qw (fC cs) (c9 [] (cs.map bare))) ?_ (λcs c aF=>?_) cs
 .exact⟨(λ_ h=>nomatch h),⟨.nil,(λ_ h=>nomatch h)⟩,dd.nil,rfl,λ_=>Iff.rfl⟩
 .have ai:fC (cs++[c])=lst (fC cs) c:=(by unfold fC;rw[List.foldl_append];rfl);have av:c9 [] ((cs++[c]).map bare)=grow (c9 [] (cs.map bare)) (bare c):=(by unfold c9;rw[List.map_append,List.foldl_append];rfl);rw[ai,av];exact aF.step c
def yU(cs:List Nat):(fC cs).length=(c9 [] (cs.map bare)).length:=(Qp cs).len
def C0{rs qs:List Row}(h:∀x,sp (rs.map (·.1)) x<->sp (qs.map (·.1)) x):(c9 [] rs).length=(c9 [] qs).length:=by
 have e:∀(rs:List Row) x,sp (rws (c9 [] rs)) x<->sp (rs.map (·.1)) x:=λrs x=>by
  rw[nS dd.nil,show rws []=[] from rfl,Y1]
 have eB:=s9 (iu (rs:=rs) dd.nil) (iu (rs:=qs) dd.nil) λx ag=>(e qs x).mpr ((h x).mp ((e rs x).mp ag))
 have e6:=s9 (iu (rs:=qs) dd.nil) (iu (rs:=rs) dd.nil) λx ag=>(e rs x).mpr ((h x).mpr ((e qs x).mp ag))
 omega
def F7(rs:List Row):(c9 [] rs).length=(fC (rs.map (·.1))).length:=by
 rw[yU];refine C0 λx=>?_
 rw[List.map_map,show(λx:Row=>x.1) ∘ bare=id from rfl,abn]
theorem z8:∀(F:List Nat)(B:cD)(G:List Nat),dd B->dd (F.foldl tell (B,G)).1/\∃N,(F.foldl tell (B,G)).2=G++N/\(∀b∈N,b∈F)/\∀x,sp (rws B++F) x<->sp (rws B++N) x
 |[],B,G,h=>⟨h,[],(Y1 G).symm,λ_ z=>z,λ_=>Iff.rfl⟩
 |b::F,B,G,h=>by
  have z:=sb (r:=bare b) h;have h2:=tC h (bare b);obtain⟨ai,N,av,bu,dU⟩:=z8 F (grow B (bare b)) (if (red B (bare b)).1=0 then G else G++[b]) (nT h _);have CZ:∀(L:List Nat) x,sp (rws (grow B (bare b))++L) x<->sp (b::(rws B++L)) x:=λL x=>by
   constructor
   .refine eG λa ax=>?_
    rcases Yq.mp ax with ax|ax
    .refine eG (λc aj=>dX ?_) ((h2 a).mp (dX ax));rcases Yk.mp aj with rfl|aj
     .exact List.mem_cons_self
     .exact List.mem_cons_of_mem _ (List.mem_append_left _ aj)
    .exact dX (List.mem_cons_of_mem _ (Yw _ ax))
   .refine eG λa ax=>?_
    have gl:∀c,c∈(bare b).1::rws B->sp (rws (grow B (bare b))++L) c:=λc aj=>eG (λd hd=>dX (List.mem_append_left _ hd)) ((h2 c).mpr (dX aj))
    rcases Yk.mp ax with rfl|ax
    .exact gl _ List.mem_cons_self
    .rcases Yq.mp ax with ax|ax
     .exact gl a (List.mem_cons_of_mem _ ax)
     .exact dX (Yw _ ax)
  have lb:(b::F).foldl tell (B,G)=F.foldl tell (grow B (bare b),if (red B (bare b)).1=0 then G else G++[b]):=rfl;rw[lb];refine⟨ai,?_⟩;have all:∀x,sp (rws B++b::F) x<->sp (b::(rws B++N)) x:=λx=>by
   rw[<- CZ N x,<- dU x,CZ F x];exact⟨eG λa ax=>dX (by simp at ax ⊢;rcases ax with q|q|q<;>simp[q]),eG λa ax=>dX (by simp at ax ⊢;rcases ax with q|q|q<;>simp[q])⟩
  by_cases c:(red B (bare b)).1=0
  .refine⟨N,?_,λd hd=>List.mem_cons_of_mem _ (bu d hd),λx=>?_⟩
   .rw[if_pos c]at av ⊢;exact av
   .rw[all x];refine⟨eG λa ax=>?_,.inl⟩;rcases Yk.mp ax with rfl|ax
    .exact eG (λd hd=>dX (List.mem_append_left _ hd)) (z.mp c)
    .exact dX ax
  .refine⟨b::N,?_,λd hd=>?_,λx=>?_⟩
   .rw[if_neg c]at av ⊢;rw[av,Yr];rfl
   .rcases Yk.mp hd with rfl|hd
    .exact List.mem_cons_self
    .exact List.mem_cons_of_mem _ (bu d hd)
   .rw[all x];exact⟨eG λa ax=>dX (by simp at ax ⊢;rcases ax with q|q|q<;>simp[q]),eG λa ax=>dX (by simp at ax ⊢;rcases ax with q|q|q<;>simp[q])⟩
def Wg(rs:List Row)(F G:List Nat)(p:G.Perm (F.foldl tell (c9 [] rs,[])).2):(fC (rs.map (·.1)++G)).length=(fC (rs.map (·.1))).length+G.length:=by
 obtain⟨_,N,av,_,dU⟩:=z8 F (c9 [] rs) [] (iu dd.nil);have hj:=z7 F (c9 [] rs) [];rw[List.nil_append]at av;rw[av]at p hj;rw[p.length_eq,<- F7 rs,yU];have Nb:c9 (c9 [] rs) (F.map bare)=c9 [] (rs++F.map bare):=by unfold c9;rw[List.foldl_append]
 rw[Nb]at hj;have bm:∀L:List Nat,(L.map bare).map (λx:Row=>x.1)=L:=λL=>by rw[List.map_map];exact abn L
 have sS:∀x,sp (rws (c9 [] rs)) x<->sp (rs.map (·.1)) x:=λx=>by rw[nS dd.nil,show rws []=[] from rfl,Y1]
 have l:∀{A B L M:List Nat}{x},(∀x,sp A x->sp B x)->(∀a∈L,a∈M)->sp (A++L) x->sp (B++M) x:=λ{A B L M x} h m=>eG λa ax=>by
  rcases Yq.mp ax with ax|ax
  .exact eG (λb ae=>dX (List.mem_append_left _ ae)) (h a (dX ax))
  .exact dX (Yw _ (m a ax))
 have:=C0 (rs:=(rs.map (·.1)++G).map bare) (qs:=rs++F.map bare) λx=>by
  rw[bm,List.map_append,bm];constructor
  .exact λh=>l (λx=>(sS x).mp) (λ_ h=>h) ((dU x).mpr (l (λx=>(sS x).mpr) (λa h=>p.subset h) h))
  .exact λh=>l (λx=>(sS x).mp) (λa h=>p.symm.subset h) ((dU x).mp (l (λx=>(sS x).mpr) (λ_ h=>h) h))
 simp only[List.length_nil]at hj;omega
end gf
end
section
namespace gw
open PySem PySem.SetTable
noncomputable def mb(xs:Array Nat):Prop:=∀(i j a b:Nat),i<j->xs[i]?=some a->xs[j]?=some b->a<b
noncomputable def vJ(xs:Array Nat)(j p:Nat):Prop:=∀(q a:Nat),q<p->xs[q]?=some a->a<j
noncomputable def vC(xs:Array Nat)(j p:Nat):Prop:=∀(q a:Nat),p<=q->xs[q]?=some a->j<=a
theorem xR{xs:Array Nat}(a7:mb xs)(j:Nat):∀(fuel lo hi:Nat),hi-lo<=fuel->lo<=hi->hi<=xs.size->vJ xs j lo->vC xs j hi ->
  below.go xs j fuel lo hi<=xs.size/\vJ xs j (below.go xs j fuel lo hi)/\vC xs j (below.go xs j fuel lo hi)
 |0,lo,hi,J,aa,aI,aw,cF=>by
  have e:lo=hi:=(by omega);subst e;exact⟨aI,aw,cF⟩
 |fuel+1,lo,hi,J,aa,aI,aw,cF=>by
  unfold below.go
  by_cases b7:lo<hi
  .rw[if_pos b7];have hm:(lo+hi) / 2<xs.size:=(by omega);have a4:xs[(lo+hi) / 2]?=some xs[(lo+hi) / 2]:=Yo hm;have hd:xs.getD ((lo+hi) / 2) j=xs[(lo+hi) / 2]:=(by simp[Array.getD,hm]);simp only[hd]
   by_cases aj:xs[(lo+hi) / 2]<j
   .rw[if_pos aj];refine xR a7 j fuel _ _ (by omega) (by omega) aI ?_ cF;intro q a aJ ax
    by_cases e:q=(lo+hi) / 2
    .subst e;rw[a4]at ax;cases ax;exact aj
    .have:=a7 q ((lo+hi) / 2) a _ (by omega) ax a4;omega
   .rw[if_neg aj];refine xR a7 j fuel _ _ (by omega) (by omega) (by omega) aw ?_;intro q a aJ ax
    by_cases e:q=(lo+hi) / 2
    .subst e;rw[a4]at ax;cases ax;omega
    .have:=a7 ((lo+hi) / 2) q _ a (by omega) a4 ax;omega
  .rw[if_neg b7];have e:lo=hi:=(by omega);subst e;exact⟨aI,aw,cF⟩
def wW{xs:Array Nat}(a7:mb xs)(j:Nat):below xs j<=xs.size/\vJ xs j (below xs j)/\vC xs j (below xs j):=by
 unfold below;refine xR a7 j _ _ _ (by omega) (by omega) (by omega) (λq a aJ _=>by omega) (λq a aJ ax=>?_);have:=(YT.mp ax).1;omega
def below_at{xs:Array Nat}(a7:mb xs){i j:Nat}(h:xs[i]?=some j):below xs j=i:=by
 obtain⟨J,aa,aI⟩:=wW a7 j
 by_cases dk:i<below xs j
 .exact absurd (aa i j dk h) (ZV _)
 .by_cases bA:below xs j=i
  .exact bA
  .have hi:=(YT.mp h).1;have a4:xs[below xs j]?=some (xs[below xs j]'(by omega)):=Yo (by omega);have a:=aI _ _ (Yi _) a4;have b:=a7 (below xs j) i _ _ (by omega) a4 h;omega
def ou{t:SetTable}(a7:mb t.place){i j:Nat}(h:t.place[i]?=some j):t.slot j=.live i:=by
 unfold slot;rw[below_at a7 h];simp[h]
def US{t:SetTable}(hd:t.dummies=#[]){j:Nat}(h:∀i:Nat,t.place[i]?≠some j):t.slot j=.empty:=by
 unfold slot has;have h0:(t.place[below t.place j]?==some j)=false:=by
  rw[YQ];exact h _
 simp only[h0,hd];simp
noncomputable def ij(m:Nat)(p:Probe):Probe :=
 if p.more>0 then { p with j:=p.j+1,more:=p.more-1 } else
 { p with j:=(leap m p.i p.perturb).1,more:=runEnd m (leap m p.i p.perturb).1-(leap m p.i p.perturb).1,i:=(leap m p.i p.perturb).1,perturb:=(leap m p.i p.perturb).2 }
def It(t:SetTable)(p:Probe):t.advance p=ij t.mask p:=rfl
noncomputable def Pd(m:Nat)(h:Int):Probe:={ j:=bits h%(m+1),more:=runEnd m (bits h%(m+1))-bits h%(m+1),i:=bits h%(m+1),perturb:=bits h,dummy:=none }
noncomputable def pr(m:Nat)(h:Int):Nat->Probe
 |0=>Pd m h
 |n+1=>ij m (pr m h n)
noncomputable def dc(m:Nat)(h:Int)(n:Nat):Nat:=(pr m h n).j
theorem FO(m:Nat)(h:Int):∀n,(pr m h n).dummy=none
 |0=>rfl
 |n+1=>by
  have aF:=FO m h n;show(ij m (pr m h n)).dummy=none;unfold ij
  split<;>exact aF
def uQ{m i:Nat}(h:i<=m):runEnd m i<=m/\i<=runEnd m i/\runEnd m i<=i+9:=by
 unfold runEnd;split<;>omega
def Eh(m i p:Nat):(leap m i p).1<=m:=by
 unfold leap;have:(i*5+1+p / 32)%(m+1)<m+1:=ab6 _ (by omega);show(i*5+1+p / 32)%(m+1)<=m;omega
theorem FP(m:Nat)(h:Int):∀n,(pr m h n).j+(pr m h n).more<=m
 |0=>by
  have:bits h%(m+1)<m+1:=ab6 _ (by omega);have:=uQ (m:=m) (i:=bits h%(m+1)) (by omega);show bits h%(m+1)+(runEnd m (bits h%(m+1))-bits h%(m+1))<=m;omega
 |n+1=>by
  have aF:=FP m h n;show(ij m (pr m h n)).j+(ij m (pr m h n)).more<=m;unfold ij
  split
  .show(pr m h n).j+1+((pr m h n).more-1)<=m;omega
  .have:=Eh m (pr m h n).i (pr m h n).perturb;have:=uQ this;show(leap m (pr m h n).i (pr m h n).perturb).1+(runEnd m (leap m (pr m h n).i (pr m h n).perturb).1-(leap m (pr m h n).i (pr m h n).perturb).1)<=m;omega
def zP(m:Nat)(h:Int)(n:Nat):dc m h n<=m:=by have:=FP m h n;unfold dc;omega
noncomputable def run(m:Nat)(h:Int):Nat->Nat×Nat
 |0=>(bits h%(m+1),bits h)
 |r+1=>leap m (run m h r).1 (run m h r).2
def zy(m:Nat)(h:Int):∀r,(run m h r).1<=m
 |0=>by have:bits h%(m+1)<m+1:=ab6 _ (by omega);show bits h%(m+1)<=m;omega
 |r+1=>Eh _ _ _
noncomputable def st(m:Nat)(h:Int)(r d:Nat):Probe:={ j:=(run m h r).1+d,more:=runEnd m (run m h r).1-(run m h r).1-d,i:=(run m h r).1,perturb:=(run m h r).2,dummy:=none }
noncomputable def len(m:Nat)(h:Int)(r:Nat):Nat:=runEnd m (run m h r).1-(run m h r).1
def Qg(m:Nat)(h:Int)(r:Nat):len m h r<=9:=by have:=uQ (zy m h r);unfold len;omega
def AU{m:Nat}{h:Int}{r d:Nat}(hd:d<len m h r):ij m (st m h r d)=st m h r (d+1):=by
 unfold ij;have:(st m h r d).more>0:=by show runEnd m (run m h r).1-(run m h r).1-d>0;unfold len at hd;omega
 rw[if_pos this];show Probe.mk _ _ _ _ _=Probe.mk _ _ _ _ _;congr 1
def Iu{m:Nat}{h:Int}{r:Nat}:ij m (st m h r (len m h r))=st m h (r+1) 0:=by
 unfold ij;have:¬(st m h r (len m h r)).more>0:=by show ¬(runEnd m (run m h r).1-(run m h r).1-len m h r>0);unfold len;omega
 rw[if_neg this];rfl
theorem wb(m:Nat)(h:Int):∀r:Nat,∃n,n<=10*r/\pr m h n=st m h r 0/\∀k,k<n->∃bW d',bW<r/\d'<=len m h bW/\pr m h k=st m h bW d'
 |0=>⟨0,Yi _,rfl,λk au=>absurd au (Nat.not_lt_zero k)⟩
 |r+1=>by
  obtain⟨n,aB,e,au⟩:=wb m h r;have walk:∀d,d<=len m h r->pr m h (n+d)=st m h r d:=by
   intro d
   induction d with
   |zero=>intro _;exact e
   |succ d aF =>
    intro hd;show ij m (pr m h (n+d))=_;rw[aF (by omega)];exact AU (by omega)
  have aw:=Qg m h r;refine⟨n+len m h r+1,by omega,?_,λk gk=>?_⟩
  .show ij m (pr m h (n+len m h r))=_;rw[walk _ (Yi _)];exact Iu
  .by_cases c:k<n
   .obtain⟨bW,d',a,b,c⟩:=au k c;exact⟨bW,d',by omega,b,c⟩
   .refine⟨r,k-n,by omega,by omega,?_⟩;have:=walk (k-n) (by omega);rw[show n+(k-n)=k by omega]at this;exact this
def I2(m:Nat)(h:Int)(r d:Nat)(hd:d<=len m h r):∃n,n<=10*r+d/\pr m h n=st m h r d/\∀k,k<n->∃bW d',d'<=len m h bW/\(bW<r\/(bW=r/\d'<d))/\pr m h k=st m h bW d':=by
 obtain⟨n,aB,e,au⟩:=wb m h r;have walk:∀d,d<=len m h r->pr m h (n+d)=st m h r d:=by
  intro d
  induction d with
  |zero=>intro _;exact e
  |succ d aF =>
   intro hd;show ij m (pr m h (n+d))=_;rw[aF (by omega)];exact AU (by omega)
 refine⟨n+d,by omega,walk d hd,λk gk=>?_⟩
 by_cases c:k<n
 .obtain⟨bW,d',a,b,c⟩:=au k c;exact⟨bW,d',b,.inl a,c⟩
 .refine⟨r,k-n,by omega,.inr ⟨rfl,by omega⟩,?_⟩;have:=walk (k-n) (by omega);rw[show n+(k-n)=k by omega]at this;exact this
def Jh(h:Int):bits h<2 ^ 64:=by
 unfold bits;have J:=Int.emod_nonneg h (show(2 ^ 64:Int)≠0 by decide);have aa:=Int.emod_lt_of_pos h (show(0:Int)<2 ^ 64 by decide);have e:((2:Int) ^ 64)=18446744073709551616:=by decide
 rw[e]at J aa ⊢;omega
theorem FG(m:Nat)(h:Int):∀r,(run m h r).2=bits h / 32 ^ r
 |0=>by simp[run]
 |r+1=>by
  show(run m h r).2 / 32=_;rw[FG m h r,Nat.div_div_eq_div_mul,Nat.pow_succ]
def Sd(m:Nat)(h:Int)(r:Nat)(a7:13<=r):(run m h r).2=0:=by
 rw[FG];refine Nat.div_eq_of_lt (YC (Jh h) (Zk (show 2 ^ 64<=32 ^ 13 by decide) (YN (by decide) a7)))
noncomputable def gS(m:Nat):Nat->Nat->Nat
 |0,i=>i
 |n+1,i=>(gS m n i*5+1)%(m+1)
theorem Gv(m:Nat)(h:Int):∀n,(run m h (13+n)).1=gS m n (run m h 13).1
 |0=>rfl
 |n+1=>by
  show(leap m (run m h (13+n)).1 (run m h (13+n)).2).1=_;rw[Gv m h n,Sd m h (13+n) (by omega)];rfl
noncomputable def uE(m:Nat):Nat->Nat->List Nat
 |0,_=>[]
 |n+1,i=>i::uE m n ((i*5+1)%(m+1))
theorem Ft(m:Nat):∀n i,gS m n ((i*5+1)%(m+1))=gS m (n+1) i
 |0,i=>rfl
 |n+1,i=>by
  show(gS m n ((i*5+1)%(m+1))*5+1)%(m+1)=(gS m (n+1) i*5+1)%(m+1);rw[Ft m n i]
theorem uF(m:Nat):∀a b i,gS m (a+b) i=gS m b (gS m a i)
 |a,0,i=>rfl
 |a,b+1,i=>by
  show(gS m (a+b) i*5+1)%(m+1)=_;rw[uF m a b i];rfl
theorem EV(m:Nat):∀n i j,j∈uE m n i->∃k,k<n/\gS m k i=j
 |0,i,j,h=>by simp[uE]at h
 |n+1,i,j,h=>by
  rcases Yk.mp h with e|h
  .exact⟨0,by omega,e.symm⟩
  .obtain⟨k,au,e⟩:=EV m n _ j h;exact⟨k+1,by omega,by rw[<- Ft];exact e⟩
noncomputable def gY(m:Nat):Prop:=m=7\/m=31\/m=127\/m=511
noncomputable def qQ(m:Nat):Bool:=(List.range (m+1)).all λj=>(uE m (m+1) 0).contains j
def J8:qQ 7=true:=by decide +kernel
def J6:qQ 31=true:=by decide +kernel
def J5:qQ 127=true:=by decide +kernel
def J7:qQ 511=true:=by decide +kernel
def R6:gS 511 512 0=0:=by decide +kernel
def R7:gS 7 8 0=0:=by decide +kernel
def R5:gS 31 32 0=0:=by decide +kernel
def R4:gS 127 128 0=0:=by decide +kernel
def gY.gD{m:Nat}(h:gY m):qQ m=true/\gS m (m+1) 0=0:=by
 rcases h with rfl|rfl|rfl|rfl
 .exact⟨J8,R7⟩
 .exact⟨J6,R5⟩
 .exact⟨J5,R4⟩
 .exact⟨J7,R6⟩
def gY.Ga{m:Nat}(h:gY m){j:Nat}(aA:j<=m):∃k,k<m+1/\gS m k 0=j:=by
 have:=YI.mp h.gD.1 j (List.mem_range.mpr (by omega));exact EV m (m+1) 0 j (by simpa using this)
def gY.reach{m:Nat}(h:gY m){i j:Nat}(hi:i<=m)(aA:j<=m):∃k,k<m+1/\gS m k i=j:=by
 obtain⟨a,ax,eb⟩:=h.Ga hi;obtain⟨b,ae,ec⟩:=h.Ga aA
 by_cases c:a<=b
 .refine⟨b-a,by omega,?_⟩;rw[<- eb,<- uF,show a+(b-a)=b by omega];exact ec
 .refine⟨m+1-a+b,by omega,?_⟩;rw[<- eb,<- uF,show a+(m+1-a+b)=(m+1)+b by omega,uF,h.gD.2];exact ec
def gY.met{m:Nat}(hm:gY m)(h:Int){j:Nat}(aA:j<=m):∃r,r<m+14/\(run m h r).1=j:=by
 obtain⟨k,au,e⟩:=hm.reach (zy m h 13) aA;exact⟨13+k,by omega,by rw[Gv];exact e⟩
def gY.QJ{m:Nat}(hm:gY m)(h:Int){j:Nat}(aA:j<=m):∃n,n<10*turns m/\dc m h n=j:=by
 obtain⟨r,a7,e⟩:=hm.met h aA;obtain⟨n,aB,k9,_⟩:=wb m h r;refine⟨n,by unfold turns;omega,?_⟩;unfold dc;rw[k9];show(run m h r).1+0=j;omega
def least{P:Nat->Prop}(n:Nat)(h:P n):∃k,k<=n/\P k/\∀q,q<k->¬P q:=by
 induction n using Nat.strongRecOn with
 |ind n aF =>
  by_cases c:∃q,q<n/\P q
  .obtain⟨q,aJ,aE⟩:=c;obtain⟨k,a,b,d⟩:=aF q aJ aE;exact⟨k,by omega,b,d⟩
  .exact⟨n,Yi _,h,λq aJ aE=>c ⟨q,aJ,aE⟩⟩
def hole{xs:Array Nat}{m:Nat}(a7:mb xs)(ab:xs.size<=m):∃j,j<=m/\∀i:Nat,xs[i]?≠some j:=by
 by_cases c:∃j,j<=m/\∀i:Nat,xs[i]?≠some j
 .exact c
 .exfalso;have all:∀j,j<=m->∃i:Nat,xs[i]?=some j:=λj aA=>by
   by_cases cN:∃i:Nat,xs[i]?=some j
   .exact cN
   .exact absurd ⟨j,aA,λi e=>cN ⟨i,e⟩⟩ c
  have ge:∀j,j<=m->∀i:Nat,xs[i]?=some j->j<=i:=by
   intro j
   induction j with
   |zero=>intro _ i _;omega
   |succ j aF =>
    intro aA i hi;obtain⟨cQ,eh⟩:=all j (by omega);have:=aF (by omega) cQ eh
    by_cases dk:i<cQ
    .have:=a7 i cQ _ _ dk hi eh;omega
    .by_cases bA:i=cQ
     .subst bA;rw[hi]at eh;injection eh with e;omega
     .omega
  obtain⟨i,hi⟩:=all m (Yi _);have J:=ge m (Yi _) i hi;have aa:=(YT.mp hi).1;omega
def MG{t:SetTable}(hm:gY t.mask)(a7:mb t.place)(hd:t.dummies=#[])(ab:t.place.size<=t.mask)(h:Int):
  ∃N,N<10*turns t.mask/\t.slot (dc t.mask h N)=.empty/\(∀i:Nat,t.place[i]?≠some (dc t.mask h N))/\∀k,k<N->∃i:Nat,t.place[i]?=some (dc t.mask h k):=by
 obtain⟨j,aA,aB⟩:=hole a7 ab;obtain⟨n,iw,e⟩:=hm.QJ h aA;obtain⟨N,J,aa,aI⟩:=least (P:=λn=>∀i:Nat,t.place[i]?≠some (dc t.mask h n)) n (by rw[e];exact aB);refine⟨N,by omega,US hd aa,aa,λk au=>?_⟩
 by_cases c:∃i:Nat,t.place[i]?=some (dc t.mask h k)
 .exact c
 .exact absurd (λi e=>c ⟨i,e⟩) (aI k au)
theorem FR{t:SetTable}{h:Int}{hashAt:Nat->Int}(a7:mb t.place){N:Nat}(he:t.slot (dc t.mask h N)=.empty)(aw:∀k,k<N->∃i:Nat,t.place[i]?=some (dc t.mask h k)):
  ∀(fuel n:Nat),n<=N->N-n<fuel ->
   (∃k i,n<=k/\k<N/\t.place[i]?=some (dc t.mask h k)/\hashAt i=h/\(∀dz,n<=dz->dz<k->∀cQ:Nat,t.place[cQ]?=some (dc t.mask h dz)->hashAt cQ≠h)/\probe.go t hashAt h fuel (pr t.mask h n)=some (.candidate (dc t.mask h k) i (pr t.mask h (k+1))))
   \/ ((∀dz,n<=dz->dz<N->∀cQ:Nat,t.place[cQ]?=some (dc t.mask h dz)->hashAt cQ≠h)/\probe.go t hashAt h fuel (pr t.mask h n)=some (.empty (dc t.mask h N) none))
 |0,n,J,aa=>by omega
 |fuel+1,n,J,aa=>by
  unfold probe.go
  by_cases c:n=N
  .subst c;have e:t.slot (pr t.mask h n).j=.empty:=he;rw[e];refine .inr ⟨λdz a b=>by omega,?_⟩;show some (Met.empty _ (pr t.mask h n).dummy)=_;rw[FO];rfl
  .obtain⟨i,hi⟩:=aw n (by omega);have e:t.slot (pr t.mask h n).j=.live i:=ou a7 hi;rw[e]
   by_cases q:hashAt i=h
   .refine .inl ⟨n,i,Yi _,by omega,hi,q,λdz a b=>by omega,?_⟩;simp only[q,beq_self_eq_true,Zo];rfl
   .have c2:(hashAt i==h)=false:=(by rw[YQ];exact q);simp only[c2,Ym,YK];have ne:∀cQ:Nat,t.place[cQ]?=some (dc t.mask h n)->hashAt cQ≠h:=λcQ eh=>by
     have bq:=ou a7 eh;rw[ou a7 hi]at bq;injection bq with bq;rw[<- bq];exact q
    rw[It];show(∃k i,_/\_/\_/\_/\_/\probe.go t hashAt h fuel (pr t.mask h (n+1))=_)\/(_/\probe.go t hashAt h fuel (pr t.mask h (n+1))=_);rcases FR a7 he aw fuel (n+1) (by omega) (by omega) with⟨k,eB,a,b,d,ai,f,g⟩|⟨f,g⟩
    .refine .inl ⟨k,eB,by omega,b,d,ai,λdz bh bE cQ d2=>?_,g⟩
     by_cases cN:dz=n
     .subst cN;exact ne cQ d2
     .exact f dz (by omega) bE cQ d2
    .refine .inr ⟨λdz bh bE cQ d2=>?_,g⟩
     by_cases cN:dz=n
     .subst cN;exact ne cQ d2
     .exact f dz (by omega) bE cQ d2
def t6{α:Type}(xs:Array α)(p:Nat)(x:α)(aE:p<=xs.size)(i:Nat):
  (insertAt xs p x)[i]?=if i<p then xs[i]? else if i=p then some x else xs[i-1]?:=by
 unfold insertAt;rw[Array.getElem?_append,Array.getElem?_push,Array.getElem?_extract,Array.getElem?_extract,YL,Zc];have e:min p xs.size-0=p:=by omega
 rw[e,aal]
 by_cases dk:i<p
 .simp only[if_pos (show i<p+1 by omega),if_neg (show ¬i=p by omega),if_pos dk]
 .by_cases bA:i=p
  .simp only[if_pos (show i<p+1 by omega),if_neg dk,if_pos bA]
  .simp only[if_neg (show ¬i<p+1 by omega),if_neg dk,if_neg bA,Nat.min_self];have av:min p xs.size=p:=by omega
   by_cases c5:i-(p+1)<xs.size-p
   .rw[if_pos c5];congr 1;omega
   .rw[if_neg c5];rw[aan (by omega)]
def rE{α:Type}(xs:Array α)(p:Nat)(x:α)(aE:p<=xs.size):(insertAt xs p x).size=xs.size+1:=by
 unfold insertAt;rw[ZQ,YL,Zc,Zc];omega
def Pe{α:Type}(xs:Array α)(p:Nat)(x:α)(aE:p<=xs.size):(insertAt xs p x).toList.Perm (x::xs.toList):=by
 have e:(insertAt xs p x).toList=xs.toList.take p++x::xs.toList.drop p:=by
  unfold insertAt;simp[List.extract_eq_drop_take];rw[Zd (by simp)]
 rw[e];refine(List.perm_middle).trans (List.Perm.cons x ?_);rw[Zi]
structure Tab{α:Type}(ah:Array (Int×α))(t:SetTable):Prop where
 jn:mb t.place
 le:∀i j:Nat,t.place[i]?=some j->j<=t.mask
 eH:t.place.size=ah.size
 s7:t.dummies=#[]
 dA:gY t.mask
 full:t.place.size<=t.mask
 path:∀(i j:Nat)(e:Int×α),t.place[i]?=some j->ah[i]?=some e->∃n,dc t.mask e.1 n=j/\∀k,k<n->∃cQ:Nat,t.place[cQ]?=some (dc t.mask e.1 k)
section
variable{α:Type}{ah:Array (Int×α)}{t:SetTable}
theorem Tab.fill(T:Tab ah t):t.fill=ah.size:=by unfold SetTable.fill;rw[T.s7,T.eH];simp
def Tab.met(T:Tab ah t){h:Int}{N:Nat}(he:∀i:Nat,t.place[i]?≠some (dc t.mask h N)){i:Nat}{e:Int×α}(hi:ah[i]?=some e)(cF:e.1=h):∃k,k<N/\t.place[i]?=some (dc t.mask h k):=by
 have ab:=(YT.mp hi).1;rw[<- T.eH]at ab;have aE:t.place[i]?=some t.place[i]:=Yo ab;obtain⟨n,aB,ay⟩:=T.path i _ e aE hi;subst cF;refine⟨n,?_,by rw[aB];exact aE⟩
 by_cases c:n<N
 .exact c
 .exfalso
  by_cases bA:n=N
  .subst bA;exact he i (by rw[aB];exact aE)
  .obtain⟨cQ,eh⟩:=ay N (by omega);exact he cQ eh
theorem Tab.put(T:Tab ah t){h:Int}{x:α}{N:Nat}(he:∀i:Nat,t.place[i]?≠some (dc t.mask h N))(aw:∀k,k<N->∃i:Nat,t.place[i]?=some (dc t.mask h k))(hf:t.place.size+1<=t.mask):
  Tab (insertAt ah (t.put (dc t.mask h N)).2 (h,x)) (t.put (dc t.mask h N)).1/\(t.put (dc t.mask h N)).2<=ah.size/\(t.put (dc t.mask h N)).1.mask=t.mask/\(t.put (dc t.mask h N)).1.plain=t.plain/\(t.put (dc t.mask h N)).1.led=t.led
   /\ (t.put (dc t.mask h N)).1.place.size=ah.size+1:=by
 obtain⟨b1,b2,eL⟩:=wW T.jn (dc t.mask h N);generalize aA:dc t.mask h N=j at he b1 b2 eL ⊢;have hd:has t.dummies j=false:=by unfold has;rw[T.s7];simp
 have ai:t.put j=({ t with place:=insertAt t.place (below t.place j) j },below t.place j):=by
  unfold SetTable.put;simp only[hd];rfl
 rw[ai];generalize below t.place j=p at b1 b2 eL;have wY:p<=ah.size:=by rw[<- T.eH];exact b1
 have pg:=t6 t.place p j b1;have q2:=t6 ah p (h,x) wY;have I4:∀(q a:Nat),p<=q->t.place[q]?=some a->j<a:=λq a aJ ax=>by
  have:=eL q a aJ ax;have:j≠a:=λe=>he q (by rw[e];exact ax)
  omega
 have mem:∀v i:Nat,t.place[i]?=some v->∃cQ:Nat,(insertAt t.place p j)[cQ]?=some v:=λv i hi=>by
  by_cases c:i<p
  .exact⟨i,by rw[pg,if_pos c];exact hi⟩
  .exact⟨i+1,by rw[pg,if_neg (show ¬i+1<p by omega),if_neg (show ¬i+1=p by omega)];exact hi⟩
 refine⟨⟨?_,?_,?_,T.s7,T.dA,?_,?_⟩,wY,rfl,rfl,rfl,?_⟩
 .intro i cQ a b N3 ax ae;dsimp only at ax ae;rw[pg]at ax ae
  by_cases dk:i<p
  .rw[if_pos dk]at ax
   by_cases bA:cQ<p
   .rw[if_pos bA]at ae;exact T.jn i cQ a b N3 ax ae
   .rw[if_neg bA]at ae
    by_cases c5:cQ=p
    .rw[if_pos c5]at ae;injection ae with ae;subst ae;exact b2 i a dk ax
    .rw[if_neg c5]at ae;exact T.jn i (cQ-1) a b (by omega) ax ae
  .rw[if_neg dk]at ax;rw[if_neg (show ¬cQ<p by omega),if_neg (show ¬cQ=p by omega)]at ae
   by_cases c5:i=p
   .rw[if_pos c5]at ax;injection ax with ax;subst ax;exact I4 (cQ-1) b (by omega) ae
   .rw[if_neg c5]at ax;exact T.jn (i-1) (cQ-1) a b (by omega) ax ae
 .intro i v aV;dsimp only at aV ⊢;rw[pg]at aV
  split at aV
  .exact T.le _ _ aV
  .split at aV
   .injection aV with aV;rw[<- aV,<- aA];exact zP _ _ _
   .exact T.le _ _ aV
 .show(insertAt t.place p j).size=(insertAt ah p (h,x)).size;rw[rE _ _ _ b1,rE _ _ _ wY,T.eH]
 .show(insertAt t.place p j).size<=t.mask;rw[rE _ _ _ b1];exact hf
 .intro i v e aV jM;dsimp only at aV ⊢;rw[pg]at aV;rw[q2]at jM;have old:∀pz:Nat,t.place[pz]?=some v->ah[pz]?=some e->∃n,dc t.mask e.1 n=v/\∀k,k<n->∃cQ:Nat,(insertAt t.place p j)[cQ]?=some (dc t.mask e.1 k):=λpz a b=>by
   obtain⟨n,aB,ay⟩:=T.path pz v e a b;exact⟨n,aB,λk au=>let ⟨cQ,eh⟩:=ay k au;mem _ _ eh⟩
  by_cases dk:i<p
  .rw[if_pos dk]at aV jM;exact old i aV jM
  .rw[if_neg dk]at aV jM
   by_cases bA:i=p
   .rw[if_pos bA]at aV jM;injection aV with aV;injection jM with jM;subst jM;exact⟨N,by rw[aA];exact aV,λk au=>let ⟨cQ,eh⟩:=aw k au;mem _ _ eh⟩
   .rw[if_neg bA]at aV jM;exact old _ aV jM
 .show(insertAt t.place p j).size=ah.size+1;rw[rE _ _ _ b1,T.eH]
end
theorem y6:∀(k:Nat)(l:List Nat),l.Nodup->(∀x∈l,x<k)->l.length<=k
 |0,l,_,h=>by
  cases l with
  |nil=>simp
  |cons a r=>exact absurd (h a List.mem_cons_self) (Nat.not_lt_zero a)
 |k+1,l,ej,h=>by
  by_cases c:k∈l
  .have J:=y6 k (l.erase k) (ej.erase k) λx ag=>by
    have:=(ej.mem_erase_iff).mp ag;have:=h x this.2;omega
   rw[List.length_erase_of_mem c]at J;omega
  .have:=y6 k l ej λx ag=>by
    have:=h x ag;have:x≠k:=λe=>c (e▸ag)
    omega
   omega
noncomputable def ma(cB:Array (Option Nat))(j:Nat):Prop:=∃q,cB[j]?=some (some q)
theorem CO{m:Nat}{h:Int}{cB:Array (Option Nat)}(hz:cB.size=m+1):∀(fuel r:Nat),(∃ib,r<=ib/\ib<r+fuel/\cB[(run m h ib).1]?=some none) ->
  (∀bW d,d<=len m h bW->bW<r->ma cB ((run m h bW).1+d)) ->
  ∃aH cz,cz<=len m h aH/\layClean.free m cB fuel (run m h r).1 (run m h r).2=some ((run m h aH).1+cz)/\cB[(run m h aH).1+cz]?=some none/\∀bW d,d<=len m h bW->(bW<aH\/(bW=aH/\d<cz))->ma cB ((run m h bW).1+d)
 |0,r,⟨ib,a,b,_⟩,_=>by omega
 |fuel+1,r,⟨ib,a,b,c⟩,ae=>by
  unfold layClean.free;have XT:=uQ (zy m h r);have get:∀d,d<=len m h r->∃o,cB[(run m h r).1+d]?=some o/\cB.getD ((run m h r).1+d) (some 0)=o:=λd hd=>by
   unfold len at hd;have b7:(run m h r).1+d<cB.size:=(by rw[hz];omega);exact⟨cB[(run m h r).1+d],Yo b7,by simp[Array.getD,b7]⟩
  cases hf:(List.range (runEnd m (run m h r).1+1-(run m h r).1)).find? λk=>(cB.getD ((run m h r).1+k) (some 0)).isNone with
  |some k =>
   obtain⟨J,aa,aI⟩:=List.find?_range_eq_some.mp hf;have au:k<=len m h r:=(by have:=List.mem_range.mp aa;unfold len;omega);refine⟨r,k,au,rfl,?_,λbW d hd b7=>?_⟩
   .obtain⟨o,ai,av⟩:=get k au;rw[av]at J;rw[ai];cases o with
    |none=>rfl
    |some _=>simp at J
   .rcases b7 with b7|⟨rfl,b7⟩
    .exact ae bW d hd b7
    .obtain⟨o,ai,av⟩:=get d hd;have:=aI d b7;rw[av]at this;cases o with
     |none=>simp at this
     |some q=>exact⟨q,ai⟩
  |none =>
   have aB:=List.find?_range_eq_none.mp hf;have full:∀d,d<=len m h r->ma cB ((run m h r).1+d):=λd hd=>by
    obtain⟨o,ai,av⟩:=get d hd;have:=aB d (by unfold len at hd;omega);rw[av]at this;cases o with
    |none=>simp at this
    |some q=>exact⟨q,ai⟩
   have X2:ib≠r:=λe=>by
    subst e;obtain⟨q,aJ⟩:=full 0 (Yp _);rw[Nat.add_zero,c]at aJ;cases aJ
   show ∃aH cz,_/\layClean.free m cB fuel (run m h (r+1)).1 (run m h (r+1)).2=_/\_;refine CO hz fuel (r+1) ⟨ib,by omega,by omega,c⟩ λbW d hd b7=>?_
   by_cases e:bW=r
   .subst e;exact full d hd
   .exact ae bW d hd (by omega)
structure Own(m:Nat)(ab:List Int)(cB:Array (Option Nat)):Prop where
 size:cB.size=m+1
 lt:∀j q:Nat,cB[j]?=some (some q)->q<ab.length
 inj:∀j lD q:Nat,cB[j]?=some (some q)->cB[lD]?=some (some q)->j=lD
 all:∀(q:Nat)(h:Int),ab[q]?=some h->∃n,cB[dc m h n]?=some (some q)/\∀k,k<n->ma cB (dc m h k)
def Own.hole{m:Nat}{ab:List Int}{cB:Array (Option Nat)}(O:Own m ab cB)(aw:ab.length<=m):∃j,j<=m/\cB[j]?=some none:=by
 by_cases c:∃j,j<=m/\cB[j]?=some none
 .exact c
 .exfalso;have f7:∀j,j<=m->ma cB j:=λj aA=>by
   have a4:cB[j]?=some (cB[j]'(by rw[O.size];omega)):=Yo (by rw[O.size];omega);cases e:cB[j]'(by rw[O.size];omega) with
   |none=>exact absurd ⟨j,aA,by rw[a4,e]⟩ c
   |some q=>exact⟨q,by rw[a4,e]⟩
  have J:=y6 ab.length ((List.range (m+1)).map λj=>(cB.getD j none).getD 0) ?_ ?_
  .simp at J;omega
  .have key:∀j,j<=m->cB[j]?=some (some ((cB.getD j none).getD 0)):=λj aA=>by
    obtain⟨q,aJ⟩:=f7 j aA;have:cB.getD j none=some q:=(by rw[Zm,aJ];rfl);rw[this];exact aJ
   rw[List.Nodup,Zu];refine Zy ?_ (List.nodup_range (n:=m+1));intro a b ax ae ph e;have yH:=key a (by have:=List.mem_range.mp ax;omega);have rM:=key b (by have:=List.mem_range.mp ae;omega);rw[<- e]at rM;exact ph (O.inj a b _ yH rM)
  .intro x ag;obtain⟨j,aA,e⟩:=List.mem_map.mp ag;obtain⟨q,aJ⟩:=f7 j (by have:=List.mem_range.mp aA;omega);have:cB.getD j none=some q:=(by rw[Zm,aJ];rfl);rw[this]at e;have bq:q=x:=e;rw[<- bq];exact O.lt j q aJ
def Own.step{m:Nat}(hm:gY m){ab:List Int}{cB:Array (Option Nat)}(O:Own m ab cB)(aw:ab.length<=m)(h:Int):
  ∃j,layClean.free m cB (turns m) (bits h%(m+1)) (bits h)=some j/\Own m (ab++[h]) (cB.setIfInBounds j (some ab.length)):=by
 obtain⟨rH,N5,dD⟩:=O.hole aw;obtain⟨ib,XR,Lx⟩:=hm.met h N5;obtain⟨aH,cz,kr,ta,k9,Ov⟩:=CO (h:=h) O.size (turns m) 0 ⟨ib,Yp _,by unfold turns;omega,by rw[Lx];exact dD⟩ (λbW d _ b7=>absurd b7 (Nat.not_lt_zero _));obtain⟨n,_,aB,au⟩:=I2 m h aH cz kr;have Lz:dc m h n=(run m h aH).1+cz:=by unfold dc;rw[aB];rfl
 rw[<- Lz]at ta k9;have Rg:∀k,k<n->ma cB (dc m h k):=λk gk=>by
  obtain⟨bW,d',a,b,c⟩:=au k gk;unfold dc;rw[c];exact Ov bW d' a b
 refine⟨dc m h n,ta,?_,?_,?_,?_⟩
 .rw[Array.size_setIfInBounds];exact O.size
 .intro j q aJ;rw[Zf]at aJ;rw[Yj,List.length_singleton]
  split at aJ
  .split at aJ
   .injection aJ with aJ;injection aJ with aJ;omega
   .cases aJ
  .have:=O.lt j q aJ;omega
 .intro j lD q a b;rw[Zf]at a b
  split at a
  .rename_i ai
   split at b
   .rename_i av;rw[<- ai,<- av]
   .split at a
    .injection a with a;injection a with a;have:=O.lt lD q b;omega
    .cases a
  .split at b
   .split at b
    .injection b with b;injection b with b;have:=O.lt j q a;omega
    .cases b
   .exact O.inj j lD q a b
 .intro q h' aJ;have mono:∀j,ma cB j->ma (cB.setIfInBounds (dc m h n) (some ab.length)) j:=λj ⟨c2,rr⟩=>by
   by_cases c:dc m h n=j
   .refine⟨ab.length,?_⟩;rw[Zf,if_pos c,if_pos (by rw[O.size];have:=zP m h n;omega)]
   .exact⟨c2,by rw[Zf,if_neg c];exact rr⟩
  by_cases c:q<ab.length
  .rw[YB c]at aJ;obtain⟨cG,a,b⟩:=O.all q h' aJ;refine⟨cG,?_,λk gk=>mono _ (b k gk)⟩;rw[Zf,if_neg]
   .exact a
   .intro e;rw[<- e,k9]at a;cases a
  .have rr:=(YG.mp aJ).1;rw[Yj,List.length_singleton]at rr;have e:q=ab.length:=(by omega);subst e;rw[YS (Yi _),aci]at aJ;simp at aJ;subst aJ;refine⟨n,?_,λk gk=>mono _ (Rg k gk)⟩;rw[Zf,if_pos rfl,if_pos (by rw[O.size];have:=zP m h n;omega)]
def RB(m:Nat):Own m [] (Array.replicate (m+1) none):=by
 have no:∀j q:Nat,(Array.replicate (m+1) (none:Option Nat))[j]?≠some (some q):=λj q aJ=>by
  rw[Array.getElem?_replicate]at aJ
  split at aJ<;>cases aJ
 exact⟨by simp,λj q aJ=>absurd aJ (no j q),λj lD q aJ=>absurd aJ (no j q),λq h aJ=>by simp at aJ⟩
def Qd {m : Nat} (hm : gY m) (ab : Array Int) (aw : ab.size <= m) : ∃ cB, layClean m ab = some cB /\ Own m ab.toList cB := by
  unfold layClean
  rw [<- Array.foldl_toList]
  have main : ∀ (rest done : List Int) (cB : Array (Option Nat)), Own m done cB -> (done ++ rest).length <= m ->
      ∃ uH, rest.foldl (fun (acc : Option (Array (Option Nat) × Nat)) h => do
        let (owner, k) <- acc
        let j <- layClean.free m owner (turns m) (bits h % (m + 1)) (bits h)
        pure (owner.setIfInBounds j (some k), k + 1)) (some (cB, done.length)) = some (uH, (done ++ rest).length) /\ Own m (done ++ rest) uH := by
    intro rest
    induction rest with
    | nil => intro done cB O _; exact ⟨cB, by simp, by simpa using O⟩
    | cons h r aF =>
      intro done cB O hlen
      rw [Yj, List.length_cons] at hlen
      obtain ⟨j, ta, Ii⟩ := O.step hm (by omega) h
      have := aF (done ++ [h]) _ Ii (by simp; omega)
      rw [Yr] at this
      simp only [List.singleton_append, Yj, List.length_cons, List.length_nil, aal] at this
      obtain ⟨uH, e, Ij⟩ := this
      refine ⟨uH, ?_, Ij⟩
      rw [List.foldl_cons]
      simp only [Option.bind_eq_bind, Option.bind_some, ta, Option.pure_def] at e ⊢
      rw [e]
      simp only [Yj, List.length_cons]
  obtain ⟨cB, e, O⟩ := main ab.toList [] (Array.replicate (m + 1) none) (RB m) (by simpa using aw)
  refine ⟨cB, ?_, by simpa using O⟩
  simp only [List.length_nil] at e
  rw [e]; rfl
theorem xD{α β:Type}(f:α->Option β):∀(l:List α),(∀x∈l,(f x).isSome=true)->∀i:Nat,(l.filterMap f)[i]?=l[i]?.bind f
 |[],_,i=>by simp
 |x::r,h,i=>by
  have ag:=h x List.mem_cons_self;cases e:f x with
  |none=>rw[e]at ag;cases ag
  |some y =>
   rw[List.filterMap_cons,e];cases i with
   |zero=>simp[e]
   |succ i =>
    simp only[List.getElem?_cons_succ];exact xD f r (λz hz=>h z (List.mem_cons_of_mem _ hz)) i
theorem CH{α β:Type}(f:α->Option β):∀(l:List α),(∀x∈l,(f x).isSome=true)->(l.filterMap f).length=l.length
 |[],_=>rfl
 |x::r,h=>by
  have ag:=h x List.mem_cons_self;cases e:f x with
  |none=>rw[e]at ag;cases ag
  |some y=>rw[List.filterMap_cons,e,List.length_cons,List.length_cons,CH f r λz hz=>h z (List.mem_cons_of_mem _ hz)]
def PZ{α:Type}{m:Nat}(hm:gY m)(ah:Array (Int×α))(aw:ah.size<=m)(f E2:Nat)(led c7:Bool):
  ∃t' order,laid m f E2 led c7 (ah.map (·.1))=some (t',order)/\t'.mask=m/\t'.led=led/\t'.plain=c7/\(order.filterMap (ah[·]?)).size=ah.size/\Tab (order.filterMap (ah[·]?)) t'/\(order.filterMap (ah[·]?)).toList.Perm ah.toList/\order.toList.Perm (List.range ah.size):=by
 obtain⟨cB,e,O⟩:=Qd hm (ah.map (·.1)) (by simpa using aw);have hlen:(ah.map (·.1)).toList.length=ah.size:=by simp
 generalize fl:(List.range (m+1)).filterMap (λj=>(cB.getD j none).map (j,·))=L;have ob:∀j q,(j,q)∈L<->cB[j]?=some (some q):=λj q=>by
  rw[<- fl,aaT];constructor
  .rintro⟨lD,f5,bq⟩;cases h0:cB.getD lD none with
   |none=>rw[h0]at bq;cases bq
   |some c2 =>
    rw[h0]at bq;injection bq with bq;injection bq with ai av;subst ai;subst av;rw[Zm]at h0;cases J:cB[lD]? with
    |none=>rw[J]at h0;cases h0
    |some o=>rw[J]at h0;exact Zr some h0
  .intro h;refine⟨j,List.mem_range.mpr ?_,?_⟩
   .have:=(YT.mp h).1;rw[O.size]at this;exact this
   .rw[Zm,h];rfl
 have rise:L.Pairwise (λa b=>a.1<b.1):=by
  rw[<- fl];refine List.Pairwise.filterMap _ ?_ (aa4 (n:=m+1));intro a mg b7 b ae ik fz;cases h0:cB.getD a none with
  |none=>rw[h0]at ae;cases ae
  |some q =>
   cases J:cB.getD mg none with
   |none=>rw[J]at fz;cases fz
   |some c2 =>
    rw[h0]at ae;rw[J]at fz;cases ae;cases fz;exact b7
 have lt:∀p∈L,p.2<ah.size:=λp aE=>by
  have:=O.lt p.1 p.2 ((ob p.1 p.2).mp aE);rw[hlen]at this;exact this
 have Q1:(L.map (·.2)).Nodup:=by
  rw[List.Nodup,Zu];refine Zy ?_ rise;intro a b ax ae ph bq;have:=O.inj a.1 b.1 a.2 ((ob _ _).mp ax) (by rw[bq];exact(ob _ _).mp ae);omega
 have zg:(L.map (·.2)).Perm (List.range ah.size):=by
  refine(List.perm_ext_iff_of_nodup Q1 List.nodup_range).mpr λq=>?_
  rw[List.mem_range,List.mem_map];constructor
  .rintro⟨p,aE,rfl⟩;exact lt p aE
  .intro aJ;obtain⟨n,a,_⟩:=O.all q (ah[q].1) (by rw[YF,Array.getElem?_map,Yo aJ];rfl);exact⟨(_,q),(ob _ _).mpr a,rfl⟩
 have yJ:L.length=ah.size:=by have:=zg.length_eq;simpa using this
 have Fo:∀q∈L.map (·.2),(ah[q]?).isSome=true:=λq aJ=>by
  obtain⟨p,aE,rfl⟩:=List.mem_map.mp aJ;rw[Yo (lt p aE)];rfl
 have Rl:∀q∈List.range ah.size,(ah[q]?).isSome=true:=λq aJ=>by
  rw[Yo (List.mem_range.mp aJ)];rfl
 have xr:((L.map (·.2)).toArray.filterMap (ah[·]?)).toList=(L.map (·.2)).filterMap (ah[·]?):=by simp
 have M7:∀(i:Nat),((L.map (·.2)).toArray.filterMap (ah[·]?))[i]?=(L[i]?).bind λp=>ah[p.2]?:=by
  intro i;rw[<- YF,xr,xD _ _ Fo,Yy];cases L[i]?<;>rfl
 have GV:((L.map (·.2)).toArray.filterMap (ah[·]?)).size=ah.size:=by
  rw[<- Array.length_toList,xr,CH _ _ Fo,List.length_map,yJ]
 have R8:((L.map (·.2)).toArray.filterMap (ah[·]?)).toList.Perm ah.toList:=by
  rw[xr];refine(zg.filterMap (ah[·]?)).trans (List.Perm.of_eq ?_);refine aab λi=>?_
  rw[xD _ _ Rl]
  by_cases c:i<ah.size
  .rw[ZT c];simp
  .rw[YO (by simpa using c),YO (by simpa using c)];rfl
 refine⟨{ mask:=m,place:=(L.map (·.1)).toArray,dummies:=#[],finger:=f,led,moves:=E2,plain:=c7 },(L.map (·.2)).toArray,?_,rfl,rfl,rfl,GV,⟨?_,?_,?_,rfl,hm,?_,?_⟩,R8,by simpa using zg⟩
 .unfold laid;rw[e];simp only[Option.bind_eq_bind,Option.bind_some,Option.pure_def,fl]
 .intro i j a b rn ax ae;simp only[aaw,Yy]at ax ae;cases eb:L[i]? with
  |none=>rw[eb]at ax;cases ax
  |some Fy =>
   cases ec:L[j]? with
   |none=>rw[ec]at ae;cases ae
   |some X4 =>
    rw[eb]at ax;rw[ec]at ae;cases ax;cases ae;obtain⟨J,ai⟩:=YG.mp eb;obtain⟨aa,av⟩:=YG.mp ec;have:=Z4.mp rise i j J aa rn;rw[ai,av]at this;exact this
 .intro i j hi;simp only[aaw,Yy]at hi;cases k7:L[i]? with
  |none=>rw[k7]at hi;cases hi
  |some p =>
   rw[k7]at hi;cases hi;have:=(ob p.1 p.2).mp (ZD k7);have:=(YT.mp this).1;rw[O.size]at this;show p.1<=m;omega
 .show(L.map (·.1)).toArray.size=_;rw[GV];simp[yJ]
 .show(L.map (·.1)).toArray.size<=m;simp[yJ];exact aw
 .intro i j bq hi he;simp only[aaw,Yy]at hi;rw[M7]at he;cases k7:L[i]? with
  |none=>rw[k7]at hi;cases hi
  |some p =>
   rw[k7]at hi he;cases hi;have aE:=(ob p.1 p.2).mp (ZD k7);have ha:ah[p.2]?=some bq:=he;obtain⟨n,a,b⟩:=O.all p.2 bq.1 (by rw[YF,Array.getElem?_map,ha];rfl);refine⟨n,O.inj _ _ _ a aE,λk au=>?_⟩;obtain⟨c2,rr⟩:=b k au;obtain⟨cQ,eh,Lh⟩:=ZF.mp ((ob _ _).mpr rr);refine⟨cQ,?_⟩;show(L.map (·.1)).toArray[cQ]?=_;simp only[aaw,Yy];rw[Yl eh,Lh];rfl
end gw
end
section
namespace Pv
open PySem gw PySem.SetTable
section
variable{prog:Program}{w:World}{A:Around}{E:Value->Shared->Prop}{s:Shared}
noncomputable def hA(prog:Program)(w:World)(h:Heap)(ar:List Int)(b:Addr):Prop:=IsTupleKey (intKind prog w) h ar b
noncomputable def fK(prog:Program)(w:World)(ar:List Int):Int:=tupleKeyHash (intKind prog w) ar
noncomputable def kT(prog:Program)(w:World)(h:Heap)(e:Int×Value)(ar:List Int):Prop:=∃b,e.2=.ref b/\e.1=fK prog w ar/\hA prog w h ar b
def hA.kept{h h':Heap}{ar:List Int}{b:Addr}(x:hA prog w h ar b)(k:∀o,h.get? b=some o->h'.get? b=some o):hA prog w h' ar b :=
 let ⟨o,items,n,ay,r⟩:=x;⟨o,items,n,k o ay,r⟩
def hA.ne{h:Heap}{ar:List Int}{a b:Addr}{o:Obj}{ah ba t}(x:hA prog w h ar b)(ay:h.get? a=some o)(hd:o.data=.set ah ba t):b≠a:=by
 rintro rfl;obtain⟨bH,items,n,dP,_,fA,_⟩:=x;rw[ay]at dP;cases dP;rw[hd]at fA;cases fA
def BF{M:Model}{ar:List Int}{a:Addr}{Q:Bool->Shared->Prop}(au:hA prog w s.heap ar a)(h:Q false s):wpAny M A (ofAClassStatement 8 (.ref a)) Q E s:=by
 have cP:s.TypeIs (.ref a) "tuple":=IsTupleKey.typeIs au;obtain⟨o,items,n,ay,_,hd,hi⟩:=au;unfold ofAClassStatement;refine Yf (aak cP ?_);dsimp only;rw[if_pos (by rfl)];refine Yf (wpAny_pure ?_);simp only[aaf,Ym,YK];refine Yf (wpAny_seqItems ay hd ?_);refine Yf ?_;rw[<- Array.forIn_toList];refine abd _ (λrest r s'=>r.1=none/\s'=s/\∀v∈rest,carriedByValue v=true) _ ?_ ?_ _ _ ⟨rfl,rfl,hi.byValue⟩
 .rintro v rest r s' ⟨a7,rfl,f3⟩;have aV:=f3 v List.mem_cons_self;have e:ofAClassStatement 7 v=pure false:=by
   cases v with
   |ref b=>simp[carriedByValue]at aV
   |_=>unfold ofAClassStatement;rfl
  rw[e];refine Yf (wpAny_pure ?_);simp only[Ym,YK];exact wpAny_pure ⟨rfl,rfl,λu rx=>f3 u (List.mem_cons_of_mem _ rx)⟩
 .rintro⟨aH,a5⟩ s' ⟨a7,rfl,_⟩;simp only at a7;subst a7;exact wpAny_pure h
def Ur{ar:List Int}{b:Addr}{stored:List Value}{Q:Bool->Shared->Prop}(au:hA prog w s.heap ar b)(ab:∀v∈stored,∃c dQ,v=.ref c/\hA prog w s.heap dQ c)(h:Q false s):
  wpAny (model prog w) A (searchCouldBeSeen (.ref b) stored) Q E s:=by
 unfold searchCouldBeSeen;refine Yf ?_;refine abd _ (λrest r s'=>r.1=none/\s'=s/\∀v∈rest,∃c dQ,v=.ref c/\hA prog w s.heap dQ c) _ ?_ ?_ _ _ ⟨rfl,rfl,ab⟩
 .rintro v rest r s' ⟨a7,rfl,f3⟩;obtain⟨c,dQ,rfl,aj⟩:=f3 v List.mem_cons_self;have kv:∀v∈rest,∃c dQ,v=.ref c/\hA prog w s'.heap dQ c:=λu rx=>f3 u (List.mem_cons_of_mem _ rx)
  dsimp only
  split
  .exact wpAny_pure ⟨rfl,rfl,kv⟩
  .refine Yf (wpAny_eqIsQuiet_tuple au ?_);simp only[aaf,Ym,YK];refine Yf (wpAny_eqIsQuiet_tuple aj ?_);simp only[aaf,Ym,YK];refine Yf (BF au ?_);simp only[Ym,YK];refine Yf (BF aj ?_);simp only[Ym,YK];exact wpAny_pure ⟨rfl,rfl,kv⟩
 .rintro⟨aH,a5⟩ s' ⟨a7,rfl,_⟩;simp only at a7;subst a7;exact wpAny_pure h
def Jq{ar:List Int}{a:Addr}{Q:Bool->Shared->Prop}(au:hA prog w s.heap ar a)(h:Q true s):wpAny (model prog w) A (hashByValue 8 (.ref a)) Q E s:=by
 have cP:s.TypeIs (.ref a) "tuple":=IsTupleKey.typeIs au;obtain⟨o,items,n,ay,_,hd,hi⟩:=au;unfold hashByValue;refine Yf (ab7 cP F.slot_tuple_hash.lookup ?_);refine Yf (wpAny_seqItems ay hd ?_);refine Yf ?_;show wpAny _ _ (forIn items _ _) _ _ s;rw[<- Array.forIn_toList];have f3:∀v∈items.toList,∃i t,v=Value.int i t:=by
  clear hd ay;generalize items.toList=l at hi
  induction hi with
  |nil=>intro v aV;simp at aV
  |@cons k qj dQ af J _ aF =>
   intro v aV;rcases Yk.mp aV with rfl|aV
   .obtain⟨t,e⟩:=abK J;exact⟨_,t,e⟩
   .exact aF v aV
 refine abd _ (λrest r s'=>r.1=none/\s'=s/\∀v∈rest,∃i t,v=Value.int i t) _ ?_ ?_ _ _ ⟨rfl,rfl,f3⟩
 .rintro v rest r s' ⟨a7,rfl,f3⟩;obtain⟨i,t,rfl⟩:=f3 v List.mem_cons_self;have e:hashByValue 7 (Value.int i t)=pure true:=(by unfold hashByValue;rfl);rw[e];refine Yf (wpAny_pure ?_);simp only[aaf,Ym,YK];exact wpAny_pure ⟨rfl,rfl,λu rx=>f3 u (List.mem_cons_of_mem _ rx)⟩
 .rintro⟨aH,a5⟩ s' ⟨a7,rfl,_⟩;simp only at a7;subst a7;exact wpAny_pure h
theorem Tab.fits{ah:Array (Int×Value)}{t:SetTable}(T:Tab ah t):t.fits ah.size=true:=by
 unfold SetTable.fits;have J:=T.eH;have aa:=T.fill;have aI:=T.full;simp only[Yg,Y3,YD];exact⟨J,by rw[aa,<- J];exact aI⟩
def Tab.M1{ah:Array (Int×Value)}{t:SetTable}(T:Tab ah t):t.gaveWay=false:=by
 unfold SetTable.gaveWay;rcases T.dA with e|e|e|e<;>rw[e]<;>rfl
theorem GK {a b : Addr} {o : Obj} {ah : Array (Int × Value)} {ba : Nat} {t : SetTable} {ar : List Int} {c6 : List (List Int)} {qD : Bool} {R : SetFound -> Shared -> Prop} {N : Nat} (bz : A.units < cLine)
    (ay : s.heap.get? a = some o) (hd : o.data = .set ah ba t) (T : Tab ah t) (aE : Paired (kT prog w s.heap) ah.toList c6) (au : hA prog w s.heap ar b)
    (aS : N < 10 * turns t.mask) (he : t.slot (dc t.mask (fK prog w ar) N) = .empty) (jL : ∀ i : Nat, t.place[i]? ≠ some (dc t.mask (fK prog w ar) N)) (aw : ∀ k, k < N -> ∃ i : Nat, t.place[i]? = some (dc t.mask (fK prog w ar) k))
    (hf : ar ∉ c6 -> R (.free (dc t.mask (fK prog w ar) N) false) s) (aW : ar ∈ c6 -> ∀ r, R (.there r) s) :
    ∀ (fuel n : Nat) (u3 : Option Probe), n <= N -> N - n < fuel -> u3.getD (t.probeStart (fK prog w ar)) = pr t.mask (fK prog w ar) n ->
      (∀ k, k < n -> ∀ (i : Nat) (e : Int × Value), t.place[i]? = some (dc t.mask (fK prog w ar) k) -> ah[i]? = some e -> ¬ kT prog w s.heap e ar) ->
      wpAny (model prog w) A (setSearchFrom a (.ref b) (fK prog w ar) qD fuel u3) R E s
  | 0, n, u3, J, aa, _, _ => by omega
  | fuel + 1, n, u3, J, aa, cJ, jP => by
    unfold setSearchFrom
    refine Yf (Zv ay hd (Tab.fits T) ?_)
    dsimp only
    rw [Tab.M1 T]
    simp only [Ym, YK]
    rw [cJ]
    have tG : ∀ (i : Nat) (e : Int × Value), ah[i]? = some e -> (fun i => (ah[i]?.map (·.1)).getD 0) i = e.1 := fun i e h => by simp [h]
    generalize aG : t.probe _ (fK prog w ar) (pr t.mask (fK prog w ar) n) = X
    have mem_of : ∀ (i : Nat) (e : Int × Value), ah[i]? = some e -> ∃ dQ, dQ ∈ c6 /\ kT prog w s.heap e dQ := fun i e h => by
      have hm : e ∈ ah.toList := by rw [<- YF] at h; exact ZD h
      clear tG jP jL aw he aW hf
      generalize ah.toList = l at aE hm
      induction aE with
      | nil => simp at hm
      | cons J _ aF =>
        rcases Yk.mp hm with rfl | hm
        · exact ⟨_, List.mem_cons_self, J⟩
        · obtain ⟨dQ, a1, a2⟩ := aF hm
          exact ⟨dQ, List.mem_cons_of_mem _ a1, a2⟩
    rcases FR (h := fK prog w ar) (hashAt := fun i => (ah[i]?.map (·.1)).getD 0) T.jn he aw (10 * turns t.mask) n J (by omega) with ⟨k, i, b1, b2, eL, hX, nB, qI⟩ | ⟨nB, qI⟩
    · have sT : X = _ := aG.symm.trans qI
      rw [sT]
      dsimp only
      have hi : i < ah.size := by rw [<- T.eH]; exact (YT.mp eL).1
      have pj : ah[i]? = some ah[i] := Yo hi
      obtain ⟨dQ, yg, c, jE, q3, aj⟩ := mem_of i _ pj
      have rest : wpAny (model prog w) A (do
          let some (_, y) := ah[i]? | unsupported "internal:set-entry"
          let equal <- holding [y] (eqBool y (.ref b))
          let (nP, _, t') <- setState a
          if qD && equal then return SetFound.there none
          let some same := t'.sameMemory t.moves t.mask | unsupported "set.changed-during-lookup:is-the-new-block-at-the-old-address"
          let Vb <- match (if same then t'.slot (dc t.mask (fK prog w ar) k) else .empty) with
            | .live cQ => match nP[cQ]? with
              | some (_, oE) => do pure (if <- isSame oE y then some cQ else none)
              | none => pure none
            | _ => pure none
          match Vb with
          | none => rule "set.search.anew"; setSearchFrom a (.ref b) (fK prog w ar) qD fuel none
          | some cQ => if equal then return SetFound.there (some cQ) else setSearchFrom a (.ref b) (fK prog w ar) qD fuel (some (pr t.mask (fK prog w ar) (k + 1)))) R E s := by
        rw [pj]
        generalize jM : ah[i] = ev at jE q3 pj
        obtain ⟨Xn, Xo⟩ := ev
        dsimp only at jE q3
        subst jE
        refine Yf (ZM (wpAny_eqBool_tuple bz aj au ?_))
        refine Yf (Zv ay hd (Tab.fits T) ?_)
        dsimp only
        have same : t.sameMemory t.moves t.mask = some true := by unfold SetTable.sameMemory; simp
        by_cases q : dQ = ar
        · subst q
          simp only [decide_true, abU]
          cases qD
          · simp only [Ym, YK]
            rw [same]
            dsimp only
            rw [if_pos rfl, ou T.jn eL]
            dsimp only
            rw [pj]
            refine Yf (wpAny_isSame_ref_self (Yf (wpAny_pure ?_)))
            rw [if_pos rfl]
            first | exact wpAny_pure (aW yg _) | (rw [if_pos trivial]; exact wpAny_pure (aW yg _))
          · simp only [Zo]
            exact wpAny_pure (aW yg _)
        · simp only [decide_eq_false q, aaj, Ym, YK]
          rw [same]
          dsimp only
          rw [if_pos rfl, ou T.jn eL]
          dsimp only
          rw [pj]
          refine Yf (wpAny_isSame_ref_self (Yf (wpAny_pure ?_)))
          rw [if_pos rfl]
          refine GK bz ay hd T aE au aS he jL aw hf aW fuel (k + 1) _ (by omega) (by omega) rfl fun dz gk cQ bq ym ha ag => ?_
          by_cases dk : dz < n
          · exact jP dz dk cQ bq ym ha ag
          · by_cases bA : dz = k
            · subst bA
              have ai : cQ = i := by
                have := ou T.jn ym
                rw [ou T.jn eL] at this
                injection this with this
                exact this.symm
              subst ai
              rw [pj] at ha
              cases ha
              obtain ⟨cN, Le, _, cT⟩ := ag
              cases Le
              exact q (IsTupleKey.inj aj cT)
            · obtain ⟨_, _, Lg, _⟩ := ag
              exact nB dz (by omega) (by omega) cQ ym ((tG cQ bq ha).trans Lg)
      cases mH : t.led
      · simp only [acf, Zo]
        refine Yf (Ur au (fun v aV => ?_) ?_)
        · obtain ⟨e, ha, rfl⟩ := List.mem_map.mp aV
          have hm : e ∈ ah.toList := by
            rw [Array.toList_filter] at ha
            exact (YR.mp ha).1
          obtain ⟨j, aA⟩ := List.mem_iff_getElem?.mp hm
          obtain ⟨PV, _, bA, av, _, aa⟩ := mem_of j e (by rw [<- YF]; exact aA)
          exact ⟨bA, PV, av, aa⟩
        · simp only [Ym, YK]
          exact rest
      · simp only [aaf, Ym, YK]
        exact rest
    · have sT : X = _ := aG.symm.trans qI
      rw [sT]
      refine wpAny_pure (hf fun dO => ?_)
      obtain ⟨e, hm, ag⟩ : ∃ e ∈ ah.toList, kT prog w s.heap e ar := by
        clear tG jP jL aw he aW hf mem_of nB qI sT
        generalize ah.toList = l at aE
        induction aE with
        | nil => simp at dO
        | @cons bq dQ _ _ J _ aF =>
          rcases Yk.mp dO with rfl | dO
          · exact ⟨bq, List.mem_cons_self, J⟩
          · obtain ⟨e, a1, a2⟩ := aF dO
            exact ⟨e, List.mem_cons_of_mem _ a1, a2⟩
      obtain ⟨j, aA⟩ := List.mem_iff_getElem?.mp hm
      rw [YF] at aA
      obtain ⟨_, _, q3, _⟩ := id ag
      obtain ⟨k, mF, yd⟩ := T.met jL aA q3
      by_cases c : k < n
      · exact jP k c j e yd aA ag
      · exact nB k (by omega) mF j yd ((tG j e aA).trans q3)
noncomputable def oL(M:Value->Prop)(prog:Program)(w:World)(h:Heap)(a:Addr)(c6:List (List Int)):Prop :=
 ∃o ah ba t,h.get? a=some o/\o.ExactSet/\o.data=.set ah ba t/\Tab ah t/\ah.size*5<t.mask*3/\t.plain=true/\(t.led=true<->w.params.followText "set-order"=false)/\Paired (λe ar=>kT prog w h e ar/\M e.2) ah.toList c6/\c6.Nodup
def Paired.perm{α β:Type}{F:α->β->Prop}{b0 cU:List α}(p:b0.Perm cU):∀{ar:List β},Paired F cU ar->∃dQ,dQ.Perm ar/\Paired F b0 dQ:=by
 induction p with
 |nil=>intro ar h;cases h;exact⟨[],.refl _,.nil⟩
 |cons x _ aF =>
  intro ar h;cases h with
  |cons J t =>
   obtain⟨dQ,fW,h'⟩:=aF t;exact⟨_::dQ,fW.cons _,.cons J h'⟩
 |swap x y l =>
  intro ar h;cases h with
  |cons J t =>
   cases t with
   |cons aa t=>exact⟨_::_::_,List.Perm.swap _ _ _,.cons aa (.cons J t)⟩
 |trans _ _ yB yC =>
  intro ar h;obtain⟨aZ,bh,J⟩:=yC h;obtain⟨aQ,bE,aa⟩:=yB J;exact⟨aQ,bE.trans bh,aa⟩
theorem Paired.len{α β:Type}{F:α->β->Prop}:∀{l:List α}{ar:List β},Paired F l ar->l.length=ar.length
 |_,_,.nil=>rfl
 |_,_,.cons _ t=>by simp[Paired.len t]
theorem Paired.mp{α β:Type}{F G:α->β->Prop}(f:∀a b,F a b->G a b):∀{l:List α}{ar:List β},Paired F l ar->Paired G l ar
 |_,_,.nil=>.nil
 |_,_,.cons h t=>.cons (f _ _ h) (Paired.mp f t)
def Iq{M:Value->Prop}{a b:Addr}{ar:List Int}{c6:List (List Int)}{Q:Bool->Shared->Prop}(bz:A.units<cLine)(a6:oL M prog w s.heap a c6)(au:hA prog w s.heap ar b)(fy:M (.ref b))(DM:c6.length<256)(h:∀h' jk r,Heap.SameBut a s.heap h'->oL M prog w h' a jk->jk.Perm (if ar∈c6 then c6 else ar::c6)->Q r { s with heap:=h' }):
  wpAny (model prog w) A (setAddHashed a (.ref b) (fK prog w ar)) Q E s:=by
 obtain⟨o,ah,ba,t,ay,hex,hd,T,pq,e4,mH,aE,yh⟩:=a6;obtain⟨N,aS,he,jL,aw⟩:=MG T.dA T.jn T.s7 T.full (fK prog w ar);have hlen:ah.size=c6.length:=by have:=Paired.len aE;simpa using this
 unfold setAddHashed setAddHashedIn;refine ZM (Yf (Zv ay hd (Tab.fits T) ?_));dsimp only;have NB:byScan (.ref b) ah=false:=by unfold byScan;simp[Value.scannable]
 rw[NB];simp only[Ym,YK];refine Yf ?_;unfold setSearch;refine GK bz ay hd T (Paired.mp (λ_ _ x=>x.1) aE) au aS he jL aw (λDH=>?_) (λdO r=>?_) 100000 0 none (Yp _) ?_ rfl (λk gk=>absurd gk (Nat.not_lt_zero k))
 .-- it is new
  have NL:t.place.size+1<=t.mask:=by
   rw[T.eH];rcases T.dA with e|e|e|e<;>rw[e]at pq ⊢<;>omega
  obtain⟨oM,b1,b2,eL,hX,nB⟩:=T.put (x:=Value.ref b) jL aw NL;refine Yf (Zv ay hd (Tab.fits T) ?_);generalize es:t.put (dc t.mask (fK prog w ar) N)=P at oM b1 b2 eL hX nB;obtain⟨t1,bh⟩:=P;dsimp only at oM b1 b2 eL hX nB ⊢;rw[eL,e4];simp only[Zo];refine Yf (Jq au ?_);simp only[Zo];have tU:=Pe ah bh (fK prog w ar,Value.ref b) b1;have yu:(insertAt ah bh (fK prog w ar,Value.ref b)).size=ah.size+1:=rE _ _ _ b1;have NH:Paired (λe ar=>kT prog w s.heap e ar/\M e.2) ((fK prog w ar,Value.ref b)::ah.toList) (ar::c6):=.cons ⟨⟨b,rfl,rfl,au⟩,fy⟩ aE;obtain⟨Ee,aP,a9⟩:=Paired.perm tU NH;have DG:Ee.Nodup:=(aP.nodup_iff).mpr (YX.mpr ⟨DH,yh⟩);generalize Xz:insertAt ah bh (fK prog w ar,Value.ref b)=eX at oM tU yu a9;refine Yf (wpAny_storeSet_of ay hd ?_ (by rw[yu];have:sizeLine=2 ^ 40\/True:=.inr trivial;rw[sizeLine_eq];omega));have jN:(s.heap.update a (Obj.putSet eX t1)).get? a=some { o with data:=.set eX (ba+1) t1 }:=by
   have:=Zw (Obj.putSet eX t1) ay (by rw[putSet_of eX t1 hd];rfl);rw[putSet_of eX t1 hd]at this;exact this
  have yq:=ZJ s.heap a (Obj.putSet eX t1);have move:∀{h':Heap},Heap.SameBut a s.heap h'->∀(e:Int×Value)(dQ:List Int),(kT prog w s.heap e dQ/\M e.2)->(kT prog w h' e dQ/\M e.2):=λ{h'} ab e dQ ⟨⟨c,ai,av,bu⟩,dU⟩ =>
   ⟨⟨c,ai,av,bu.kept λbH dP=>(ab.2 c (bu.ne ay hd)).trans dP⟩,dU⟩
  have goal:∀h' jk,Heap.SameBut a s.heap h'->oL M prog w h' a jk->jk.Perm (ar::c6)->Q true { s with heap:=h' }:=λh' jk cX cC fa=>h h' jk true cX cC (by rw[if_neg DH];exact fa)
  have Dt:t1.fill=eX.size:=oM.fill
  by_cases ru:t1.tooFull=true
  .simp only[ru,acf,Bool.and_self,Zo];have Nz:∃m,gY m/\sizeAbove (grown eX.size)-1=m/\eX.size*5<m*3/\sizeAbove (grown eX.size)<=512:=by
    unfold SetTable.tooFull at ru;rw[Dt,b2]at ru;have lz:eX.size*5>=t.mask*3:=(by simpa using ru);rcases T.dA with e|e|e|e
    .rw[e]at lz pq;have:eX.size=5:=(by omega);rw[this];exact⟨31,.inr (.inl rfl),by decide,by decide,by decide⟩
    .rw[e]at lz pq;have:eX.size=19:=(by omega);rw[this];exact⟨127,.inr (.inr (.inl rfl)),by decide,by decide,by decide⟩
    .rw[e]at lz pq;have:eX.size=77:=(by omega);rw[this];exact⟨511,.inr (.inr (.inr rfl)),by decide,by decide,by decide⟩
    .rw[e]at lz pq;omega
   obtain⟨m,hm,Oh,DE,XI⟩:=Nz;refine Yf ?_;unfold setRelay;refine Yf (Zv jN rfl (Tab.fits oM) ?_);dsimp only;rw[<- yu];have ON:¬sizeAbove (grown eX.size)>sizeLine:=(by rw[sizeLine_eq];omega);rw[if_neg ON];obtain⟨gq,order,dk,bA,c5,i3,w0,Jr,Js,_⟩:=PZ (α:=Value) hm eX (by
    rcases hm with e|e|e|e<;>rw[e]at DE ⊢<;>omega) t1.finger (t1.movedTo m) t1.led t1.plain
   have OI:t1.relaid (eX.map (·.1)) (grown eX.size)=some (gq,order):=by
    unfold SetTable.relaid;rw[Oh];exact dk
   refine Yf ?_;rw[OI];show wpAny (model prog w) A (if ((order.filterMap (eX[·]?)).size != eX.size)=true then _ else pure (order.filterMap (eX[·]?),gq)) _ E _;rw[if_neg (by rw[w0];simp)];refine wpAny_pure ?_;dsimp only;refine wpAny_storeSet_of jN rfl ?_ (by rw[w0,sizeLine_eq];omega);obtain⟨PW,b4,dg⟩:=Paired.perm Js a9;have rl:((s.heap.update a (Obj.putSet eX t1)).update a (Obj.putSet (order.filterMap (eX[·]?)) gq)).get? a=some { o with data:=.set (order.filterMap (eX[·]?)) (ba+1+1) gq }:=by
    have:=Zw (Obj.putSet (order.filterMap (eX[·]?)) gq) jN (by rw[putSet_of _ gq rfl];rfl);rw[putSet_of _ gq rfl]at this;exact this
   have DO:=yq.trans (ZJ _ a (Obj.putSet (order.filterMap (eX[·]?)) gq));refine wpAny_pure (goal _ PW DO ⟨_,_,_,gq,rl,hex,rfl,Jr,by rw[w0,bA];exact DE,by rw[i3,eL];exact e4,by rw[c5,hX];exact mH,Paired.mp (move DO) dg,(b4.nodup_iff).mpr DG⟩ (b4.trans aP))
  .have lz:t1.tooFull=false:=(by simpa using ru);simp only[lz,aaj,Ym,YK];refine wpAny_pure (goal _ Ee yq ⟨_,_,_,t1,jN,hex,rfl,oM,?_,by rw[eL];exact e4,by rw[hX];exact mH,Paired.mp (move yq) a9,DG⟩ aP);unfold SetTable.tooFull at lz;rw[Dt]at lz;have:¬eX.size*5>=t1.mask*3:=(by simpa using lz);omega
 .dsimp only;exact wpAny_pure (h s.heap c6 false (Heap.SameBut.refl a s.heap) ⟨o,ah,ba,t,ay,hex,hd,T,pq,e4,mH,aE,yh⟩ (by rw[if_pos dO]))
 .have:turns t.mask<=526:=(by unfold turns;rcases T.dA with e|e|e|e<;>rw[e]<;>omega);omega
def UA{M:Value->Prop}{a b:Addr}{ar:List Int}{c6:List (List Int)}{Q:Bool->Shared->Prop}(bz:A.units<cLine)(a6:oL M prog w s.heap a c6)(au:hA prog w s.heap ar b)(fy:M (.ref b))(DM:c6.length<256)(h:∀h' tk jk r,s.toks<=tk->Heap.SameBut a s.heap h'->oL M prog w h' a jk->jk.Perm (if ar∈c6 then c6 else ar::c6)->Q r { s with heap:=h',toks:=tk }):
  wpAny (model prog w) A (setAdd a (.ref b)) Q E s:=by
 unfold setAdd;refine ZM (Yf (wpAny_pyHash_tuple bz au ?_));exact Iq (s:={ s with toks:=_ }) bz a6 au fy DM λh' jk r cX cC fa=>h h' _ jk r (Nat.le_add_right _ _) cX cC fa
def Pj(prog:Program)(w:World)(i:Int)(t:Tok):(intKind prog w).is i (.int i t)=true:=by show Value.isInt i (.int i t)=true;simp[Value.isInt]
end
end Pv
end
section
namespace Pv
open PySem PySem.Spec PyProof.Rows gw PySem.SetTable
section
variable{prog:Program}{w:World}
structure vU(prog:Program)(w:World)(κ:Type)[DecidableEq κ] where
 Row:Heap->Value->κ->Prop
 Set:Heap->Addr->List κ->Prop
 fresh:∀(h:Heap)(a:Addr),h.get? a=some { cls:=.type "set",dict:=none,data:=.set #[] 0 (.fresh 0 0 (!w.params.followText "set-order")) }->Set h a []
 moved:∀{h h':Heap}{a:Addr}{ar:List κ},Set h a ar->(∀o,h.get? a=some o->h'.get? a=some o)->(∀b o,h.get? b=some o->o.cls=.type "tuple"->h'.get? b=some o)->Set h' a ar
 Gp:∀{h h':Heap}{v:Value}{k:κ},Row h v k->(∀b o,h.get? b=some o->o.cls=.type "tuple"->h'.get? b=some o)->Row h' v k
 Fl:∀{h:Heap}{a:Addr}{ar:List κ},Set h a ar->∀o,h.get? a=some o->o.cls≠.type "tuple"
 add:∀{A:Around}{E:Value->Shared->Prop}{s:Shared}{a:Addr}{v:Value}{k:κ}{ar:List κ}{Q:Bool->Shared->Prop},A.units<cLine->Set s.heap a ar->Row s.heap v k->ar.length<256 ->
  (∀h' tk dQ r,s.toks<=tk->Heap.SameBut a s.heap h'->Set h' a dQ->dQ.Perm (if k∈ar then ar else k::ar)->Q r { s with heap:=h',toks:=tk })->wpAny (model prog w) A (setAdd a v) Q E s
section
variable{κ:Type}[DecidableEq κ]
noncomputable def met(ar:List κ):Nat->List κ
 |0=>[]
 |i+1=>match ar[i]? with
  |some k=>if k∈met ar i then met ar i else k::met ar i
  |none=>met ar i
theorem ur(ar:List κ):∀(i:Nat),i<=ar.length->∀k,k∈met ar i<->k∈ar.take i
 |0,_,k=>by simp[met]
 |i+1,hi,k=>by
  have aF:=ur ar i (by omega) k;have a4:ar[i]?=some ar[i]:=Yl (by omega);have e:ar.take (i+1)=ar.take i++[ar[i]]:=(by rw[List.take_succ,a4];rfl);unfold met;rw[a4,e,Yq,<- aF,YA];dsimp only
  split
  .rename_i c;constructor
   .exact .inl
   .rintro(h|h)
    .exact h
    .rw[h];exact c
  .rw[Yk];exact⟨λh=>h.symm,λh=>h.symm⟩
theorem rT(ar:List κ):∀i,(met ar i).Nodup
 |0=>ZZ
 |i+1=>by
  unfold met
  split
  .split
   .exact rT ar i
   .rename_i c;exact YX.mpr ⟨c,rT ar i⟩
  .exact rT ar i
def R9{k:κ}{l m:List κ}{iJ:List κ}(h:l.Perm m)(h':iJ.Perm (if k∈l then l else k::l)):iJ.Perm (if k∈m then m else k::m):=by
 by_cases c:k∈l
 .rw[if_pos c]at h';rw[if_pos (h.mem_iff.mp c)];exact h'.trans h
 .rw[if_neg c]at h';rw[if_neg (λz=>c (h.mem_iff.mpr z))];exact h'.trans (h.cons k)
def WA(K:vU prog w κ){A:Around}{R:Result->Shared->Prop}{I:Addr}{bB wr:List Addr}{n:Nat}{P:Nat->Value->Prop}{St:Nat->Shared->Prop}{G:Array GenState->Array GenState->Prop}(W:WalksS prog w A.in1 I bB wr G n P St)(S:Addr)(pf:S∉bB)(bz:A.in1.units<cLine)(c6:List κ)(h0:Heap)(DS:∀i s,St i s->∀b∈wr,∀o,s.heap.get? b=some o->o.cls≠.type "tuple")(OT:∀i v,P i v->∃k,c6[i]?=some k/\K.Row h0 v k)(ae:∀i,i<n->(met c6 i).length<256):
  ∀(k i:Nat)(s:Shared),n-i=k->i<=n->St i s->(∀b o,h0.get? b=some o->o.cls=.type "tuple"->s.heap.get? b=some o)->(∃l,K.Set s.heap S l/\l.Perm (met c6 i)) ->
   (∀s' l,Moved (S::wr) G s s'->K.Set s'.heap S l->l.Perm (met c6 n)->R (.ok (.ret .none)) s') ->
   codeAny (model prog w) A (.builtin "set.update.loop" ⟨[.ref S,.ref I],[]⟩) R s:=by
 have Dl:S∉wr:=λh=>pf (W.sub _ h)
 have jd:∀b∈wr,b∈S::wr:=λb ae=>List.mem_cons_of_mem _ ae
 intro k
 induction k with
 |zero =>
  intro i s au hi cJ DA ⟨l,a6,aw⟩ hR;have dO:i=n:=(by omega);subst dO;refine Zz aaN ?_;rw[ZG ZU _];show wpAny _ A.in1 (pyNext (.ref I)>>=_) _ _ s;refine Yf (W.done s _ _ cJ λs' hm=>?_);show wpAny _ A.in1 (ret Value.none) _ _ s';exact wpAny_pure (hR s' l (hm.mono jd) (K.moved a6 (λo e=>hm.heap S o Dl e) λb o e aj=>hm.heap b o (λx7=>DS _ s cJ b x7 o e aj) e) aw)
 |succ k aF =>
  intro i s au hi cJ DA ⟨l,a6,aw⟩ hR;have b7:i<n:=(by omega);refine Zz aaN ?_;rw[ZG ZU _];show wpAny _ A.in1 (pyNext (.ref I)>>=_) _ _ s;refine Yf (W.item i s _ _ b7 cJ λv s' es OR hm=>?_);obtain⟨key,ye,tH⟩:=OT i v es;have tk:∀b o,s.heap.get? b=some o->o.cls=.type "tuple"->s'.heap.get? b=some o:=λb o e aj=>hm.heap b o (λx7=>DS _ s cJ b x7 o e aj) e
  have kq:K.Set s'.heap S l:=K.moved a6 (λo e=>hm.heap S o Dl e) tk;have DB:∀b o,h0.get? b=some o->o.cls=.type "tuple"->s'.heap.get? b=some o:=λb o e aj=>tk b o (DA b o e aj) aj
  have gk:K.Row s'.heap v key:=K.Gp tH DB;show wpAny _ A.in1 (holding [v] (setAdd S v)>>=_) _ _ s';refine Yf (ZM (K.add bz kq gk (by rw[aw.length_eq];exact ae i b7) λh' z9 iJ r vv cX cC fa=>?_));have yj:∀b o,s'.heap.get? b=some o->o.cls=.type "tuple"->b≠S:=λb o e aj=>by
   rintro rfl;exact K.Fl kq o e aj
  refine wpAny_pure ⟨abk ZU _,aF (i+1) _ (by omega) b7 (W.frame _ s' _ _ OR vv λb ae o e=>?_) (λb o e aj=>?_) ⟨iJ,cC,?_⟩ λsg PY Og Nr N9=>?_⟩
  .rw[cX.2 b (λh:b=S=>pf (by rw[<- h];exact ae))];exact e
  .have bq:=DB b o e aj;show h'.get? b=some o;rw[cX.2 b (yj b o bq aj)];exact bq
  .unfold met;rw[ye];exact R9 aw fa
  .refine hR sg PY (Moved.trans W.gtrans ((hm.mono jd).then_heap vv λb o ae e=>?_) Og) Nr N9;rw[cX.2 b (λh:b=S=>ae (by rw[h];exact List.mem_cons_self))];exact e
end
def sj{A:Around}{E:Value->Shared->Prop}{s:Shared}(a:Value){Q₁:Value->Shared->Prop}(h:Q₁ (.ref s.heap.objs.size) { s with heap:=s.heap.push { cls:=.type "set",dict:=none,data:=.set #[] 0 (.fresh 0 0 (!w.params.followText "set-order")) } }):
  codeAny (model prog w) A (.call (.builtin "set.__new__") ⟨[.type "set",a],[]⟩) (wants Q₁ E) s:=by
 refine codeAny_of_tree ?_;show wpAny _ A.in1 (do checkBuiltinCall "set.__new__" ⟨[.type "set",a],[]⟩;again (.builtin "set.__new__" ⟨[.type "set",a],[]⟩)) _ _ s;refine Yf (wpAny_of_eq (F.newCall_set_1 a) (wpAny_pure ⟨abk F.plain_set_new _,Zz F.entry_set_new ?_⟩));rw[ZG F.plain_set_new _];unfold Builtin.«set.__new__» Builtin.Frozenset.newClass;have jd:=sub_set_self;obtain⟨aE,g,d,tk,os⟩:=s;dsimp only
 wp_walk
 refine aaI (wpAny_pure ?_);dsimp only;simp only[newObj];refine Yf (wpAny_alloc (wpAny_pure ?_));exact wpAny_pure h
def V8(led:Bool):Tab (α:=Value) #[] (SetTable.fresh 0 0 led):=by
 refine⟨λi j a b _ h=>?_,λi j h=>?_,rfl,rfl,.inl rfl,Yp _,λi j e h=>?_⟩
 .simp[SetTable.fresh]at h
 .simp[SetTable.fresh]at h
 .simp[SetTable.fresh]at h
theorem Fz{α β:Type}{F:α->β->Prop}:∀{l:List α}{ar:List β},Paired F l ar->∀(i:Nat)(v:α),l[i]?=some v->∃k,ar[i]?=some k/\F v k
 |_,_,.nil,i,v,h=>by simp at h
 |_,_,.cons J t,0,v,h=>by simp at h;subst h;exact⟨_,rfl,J⟩
 |_,_,.cons J t,i+1,v,h=>by
  have:=Fz t i v (by simpa using h);simpa using this
def WV{A:Around}(cF:A.handled=none){T:String}(cP:T="list"\/T="tuple"){h:Heap}{l:Addr}{bk:Option Addr}{fN:Array (Option Value)}{items:Array Value}{nl:Nat}(lx:h.get? l=some { cls:=.type T,dict:=bk,data:=.seq items nl,slots:=fN }):
  ∃(uz:Obj)(St:Nat->Heap->Prop),uz.cls≠.type "tuple"/\(∀(vx:Around)(E:Value->Shared->Prop)(s:Shared)(Q:Value->Shared->Prop),s.heap=h->Q (.ref h.objs.size) { s with heap:=h.push uz }->wpAny (model prog w) vx (pyIter (.ref l)) Q E s) /\
   Walks prog w A h.objs.size [h.objs.size,l] [h.objs.size] items.size (λi v=>items[i]?=some v) St/\St 0 (h.push uz)/\∀i h',St i h'->∀o,h'.get? h.objs.size=some o->o.cls≠.type "tuple":=by
 have b7:l<h.objs.size:=Yu lx;rcases cP with rfl|rfl
 .have aw:h.IsList l items:=⟨_,lx,rfl,nl,rfl⟩;refine⟨{ cls:=.type "list_iterator",data:=.fields #[.ref l,.int 0 0] },_,by show Value.type _≠Value.type _;decide,λvx E s Q e q=>?_,Walks.list cF h.objs.size l (YH b7) items,⟨⟨_,Yx _ rfl,rfl,rfl⟩,aw.push _⟩,λi h' st o e=>?_⟩
  .subst e;exact wpAny_pyIter_list aw q
  .obtain⟨⟨bH,bq,c,_⟩,_⟩:=st;rw[e]at bq;cases bq;rw[c];decide
 .have aw:h.IsTuple l items:=⟨_,lx,rfl,nl,rfl⟩;refine⟨{ cls:=.type "tuple_iterator",data:=.fields #[.ref l,.int 0 0] },_,by show Value.type _≠Value.type _;decide,λvx E s Q e q=>?_,Walks.tuple cF h.objs.size l (YH b7) items,⟨⟨_,Yx _ rfl,rfl,rfl⟩,⟨_,Yh _ lx,rfl,nl,rfl⟩⟩,λi h' st o e=>?_⟩
  .subst e;exact wpAny_pyIter_tuple aw q
  .obtain⟨⟨bH,bq,c,_⟩,_⟩:=st;rw[e]at bq;cases bq;rw[c];decide
def JC {κ : Type} [DecidableEq κ] (K : vU prog w κ) {A : Around} {E : Value -> Shared -> Prop} {s : Shared} {l : Addr} {T : String} {bk : Option Addr} {fN : Array (Option Value)} {items : Array Value} {nl : Nat} {c6 : List κ} {Q : Value -> Shared -> Prop} (cP : T = "list" \/ T = "tuple")
    (cF : A.handled = none) (bz : A.units + 64 < cLine) (lx : s.heap.get? l = some { cls := .type T, dict := bk, data := .seq items nl, slots := fN }) (hi : Paired (K.Row s.heap) items.toList c6) (ae : ∀ i, i < c6.length -> (met c6 i).length < 256)
    (h : ∀ (h' : Heap) (tk : Nat) (r : List κ), K.Set h' s.heap.objs.size r -> r.Perm (met c6 c6.length) ->
      (∀ b o, b < s.heap.objs.size -> s.heap.get? b = some o -> h'.get? b = some o) -> Q (.ref s.heap.objs.size) { s with heap := h', toks := tk }) :
    wpAny (model prog w) A (call (.type "set") [.ref l]) Q E s := by
  obtain ⟨c, hj, XN⟩ := aao.mro
  have XJ := aao.made
  have jd := aao.sub
  refine wpAny_call (codeAny_of_tree ?_)
  show wpAny _ _ (callAny (.type "set") _) _ _ _
  refine wpAny_pure ⟨Code.quiet_builtin _ (by decide +kernel), Zz F.entry_type_call ?_⟩
  rw [Around.under_plain (weight_type_call_type "set" [.ref l] []) rfl]
  have J := aao.notType
  have aa := aao.canCreate
  have Xx := F.typeCall_set_1 (.ref l)
  repeat (any_goals (first | assumption | wp_step))
  refine aby (sj (.ref l) (E := E) (Q₁ := fun obj cS => ∃ led : Bool, led = (!w.params.followText "set-order") /\ obj = .ref s.heap.objs.size /\ cS = { s with heap := s.heap.push { cls := .type "set", dict := none, data := .set #[] 0 (.fresh 0 0 led) } }) ⟨_, rfl, rfl, rfl⟩) fun r cS a7 => ?_
  cases r with
  | error e => exact a7
  | ok gK =>
    cases gK with
    | ret obj =>
      obtain ⟨led, mH, rfl, rfl⟩ := a7
      have a6 : (s.heap.push { cls := .type "set", dict := none, data := .set #[] 0 (.fresh 0 0 led) }).get? s.heap.objs.size = some { cls := .type "set", dict := none, data := .set #[] 0 (.fresh 0 0 led) } := Yx _ rfl
      have Nu : Shared.TypeIs { s with heap := s.heap.push { cls := .type "set", dict := none, data := .set #[] 0 (.fresh 0 0 led) } } (.ref s.heap.objs.size) "set" := ⟨_, a6, rfl⟩
      have XF := aao.init.lookup
      have Xw := aao.init.bind (.ref s.heap.objs.size)
      repeat (any_goals (first | assumption | wp_step))
      refine aby (codeAny_call_builtin (R := wants (fun r hP => r = .none /\ ∃ h' tk gU, hP = { s with heap := h', toks := tk } /\ K.Set h' s.heap.objs.size gU /\ gU.Perm (met c6 c6.length) /\
          (∀ b o, b < s.heap.objs.size -> s.heap.get? b = some o -> h'.get? b = some o)) E) aao.init.plain F.entry_set_init (check_set_init_1 Nu ?_)) fun Tr hP yo => ?_
      · have Ox : (s.heap.push { cls := .type "set", dict := none, data := .set #[] 0 (.fresh 0 0 led) }).get? l = some { cls := .type T, dict := bk, data := .seq items nl, slots := fN } := Yh _ lx
        have XW : isSubtype (.type T) (.type "set") = pure false := by rcases cP with rfl | rfl; exact F.sub_list_set; exact F.sub_tuple_set
        have XU : isSubtype (.type T) (.type "frozenset") = pure false := by rcases cP with rfl | rfl; exact F.sub_list_frozenset; exact F.sub_tuple_frozenset
        have eN : (Value.type T == Value.type "dict") = false := by rcases cP with rfl | rfl <;> decide
        have NU : A.in1.in1.in1.handled = none := by simp [cF]
        obtain ⟨uz, St, XQ, hit, W, st0, yj⟩ := WV (prog := prog) (w := w) NU cP Ox
        unfold Builtin.«set.__init__» noKeywords Builtin.Frozenset.updateFrom
        generalize Nq : pyIter = gZ
        wp_walk
        subst Nq
        refine hit _ _ _ _ rfl ?_
        refine Yf (abE ?_)
        have Oa : l < s.heap.objs.size := Yu lx
        have pf : s.heap.objs.size ∉ [(s.heap.push { cls := .type "set", dict := none, data := .set #[] 0 (.fresh 0 0 led) }).objs.size, l] := by
          rw [Heap.size_push]; simp only [Yk, YA, abZ, or_false, not_or]
          exact ⟨YH (ZX _), Nat.ne_of_gt Oa⟩
        have hlen : items.size = c6.length := by have := Paired.len hi; simpa using this
        refine WA K (W.toS) s.heap.objs.size pf ?hu2 c6 s.heap (fun i s' st b ae o e => ?nt) (fun i v aV => ?val) (fun i eh => ae i (by omega)) (items.size - 0) 0 _ (by omega) (Yp _)
          st0 (fun b o e _ => Yh _ (Yh _ e)) ⟨[], ?hS0, .refl _⟩ ?hR
        case hu2 => first | (show A.units + 1 + 1 + 1 + 1 < cLine; omega) | (show A.units + 1 + 1 + 1 < cLine; omega) | (simp [Around.in1]; omega)
        case nt =>
          rw [YA] at ae
          subst ae
          exact yj i _ st o e
        case val => exact Fz hi i v (by rw [YF]; exact aV)
        case hS0 =>
          refine K.fresh _ _ ?_
          rw [<- mH]
          exact Yh _ a6
        case hR =>
          intro s' gU hm kq tU
          obtain ⟨h', g', d', z9, r2⟩ := s'
          have q2 : g' = s.gens := hm.gens
          have q1 : d' = s.drawn := hm.drawn
          have q4 : r2 = s.os := hm.os
          subst q2; subst q1; subst q4
          show wpAny _ _ _ _ _ _
          refine wpAny_pure ?_
          show wpAny _ _ (ret Value.none) _ _ _
          refine wpAny_pure ⟨rfl, h', z9, gU, rfl, kq, by rw [<- hlen]; exact tU, fun b o ae e => ?_⟩
          have hI : b ≠ s.heap.objs.size := YH ae
          have jK : b ≠ (s.heap.push { cls := .type "set", dict := none, data := .set #[] 0 (.fresh 0 0 led) }).objs.size := by
            rw [Heap.size_push]; exact YH (Nat.lt_succ_of_lt ae)
          exact hm.heap b o (by simp only [Yk, YA, abZ, or_false, not_or]; exact ⟨hI, jK⟩) (Yh _ (Yh _ e))
      · cases Tr with
        | error e => exact yo
        | ok MK =>
          cases MK with
          | ret r =>
            obtain ⟨rfl, h', tk, gU, rfl, kq, OF, gk⟩ := yo
            repeat (any_goals (first | assumption | wp_step))
            exact h _ _ gU kq OF gk
          | _ => exact yo.elim
    | _ => exact a7.elim
end
section
variable{prog:Program}{w:World}
noncomputable def D9(M:Value->Prop)(prog:Program)(w:World):vU prog w (List Int) where
 Row:=λh v ar=>∃b,v=.ref b/\hA prog w h ar b/\M v
 Set:=oL M prog w
 fresh:=λh a e=>⟨_,#[],0,_,e,⟨rfl,rfl,rfl⟩,rfl,V8 _,by show 0*5<7*3;decide,rfl,by show(!w.params.followText "set-order")=true<->_;simp,.nil,ZZ⟩
 moved:=λ{h h' a c6} x yH k=>by
  obtain⟨o,ah,ba,t,ay,aH,a5,dR,fD,f9,uM,zo,r9⟩:=x;refine⟨o,ah,ba,t,yH _ ay,aH,a5,dR,fD,f9,uM,Paired.mp (λe ar ⟨⟨b,ai,av,bu⟩,dU⟩=>⟨⟨b,ai,av,?_⟩,dU⟩) zo,r9⟩;obtain⟨bT,items,n,J,aa,aI⟩:=bu;exact⟨bT,items,n,k b bT J aa,aa,aI⟩
 Gp:=λx k=>by
  obtain⟨b,e,⟨bT,items,m,cX,cC,fa⟩,hQ⟩:=x;exact⟨b,e,⟨bT,items,m,k b bT cX cC,cC,fa⟩,hQ⟩
 Fl:=λx o e=>by
  obtain⟨bH,_,_,_,dP,hex,_⟩:=x;rw[e]at dP;cases dP;rw[hex.1];decide
 add:=λ{A E s a v k ar Q} bz a6 a7 aw h=>by
  obtain⟨b,rfl,au,fy⟩:=a7;refine UA bz a6 au fy aw λh' tk dQ r vv cX cC fa=>h h' tk dQ r vv cX cC ?_
  by_cases c:k∈ar
  .rw[if_pos c]at fa ⊢;exact fa
  .rw[if_neg c]at fa ⊢;exact fa
end
def qb:Slot "set_iterator" "__next__" "set_iterator.__next__" :=
 .of (owner:="set_iterator") (n:="__next__") (by rw[aca,aba];kernel_rfl) (by decide +kernel) (by decide +kernel) (by decide +kernel)
  (by first|exact .inl (by decide +kernel)|exact .inr (by decide +kernel)) (by rw[abF];kernel_rfl)
def Cb:entryFor table "set_iterator.__next__"=some Builtin.«set_iterator.__next__»:=entryFor_of_tree (by kernel_rfl)
def Fv:Manifest.owners.lookup (String.ofList ['r','o','t','a','r','e','t','i','_','t','e','s'].reverse)=some Manifest.sig_set_iterator:=by kernel_rfl
def A2(a:Value):argsOk "set_iterator.__next__" ⟨[a],[]⟩:=by
 unfold argsOk;rw[signature?_of (id:="set_iterator.__next__") (n:=['_','_','t','x','e','n','_','_']) (o:=['r','o','t','a','r','e','t','i','_','t','e','s']) (by kernel_rfl) Fv];kernel_rfl
def G0:Slot "set_iterator" "__iter__" "set_iterator.__iter__" :=
 .of (owner:="set_iterator") (n:="__iter__") (by rw[aca,aba];kernel_rfl) (by decide +kernel) (by decide +kernel) (by decide +kernel)
  (by first|exact .inl (by decide +kernel)|exact .inr (by decide +kernel)) (by rw[abF];kernel_rfl)
def ID(a:Value):argsOk "set_iterator.__iter__" ⟨[a],[]⟩:=by
 unfold argsOk;rw[signature?_of (id:="set_iterator.__iter__") (n:=['_','_','r','e','t','i','_','_']) (o:=['r','o','t','a','r','e','t','i','_','t','e','s']) (by kernel_rfl) Fv];kernel_rfl
def GZ:Slot "set" "__iter__" "set.__iter__" :=
 .of (owner:="set") (n:="__iter__") (by rw[aca,aba];kernel_rfl) (by decide +kernel) (by decide +kernel) (by decide +kernel)
  (by first|exact .inl (by decide +kernel)|exact .inr (by decide +kernel)) (by rw[abF];kernel_rfl)
def IC(a:Value):argsOk "set.__iter__" ⟨[a],[]⟩:=by
 unfold argsOk;rw[signature?_of (id:="set.__iter__") (n:=['_','_','r','e','t','i','_','_']) (o:=['t','e','s']) (by kernel_rfl) PySem.F.owner_set];kernel_rfl
def Lo:entryFor table "set.__iter__"=some Builtin.«frozenset.__iter__»:=entryFor_alias (id':="frozenset.__iter__") (by kernel_rfl) rfl (by decide +kernel) (by kernel_rfl)
def Lp:entryFor table "set_iterator.__iter__"=some Builtin.«dict_keyiterator.__iter__»:=entryFor_alias (id':="dict_keyiterator.__iter__") (by kernel_rfl) rfl (by decide +kernel) (by kernel_rfl)
theorem Cf{α:Type}:∀(l:List α)(i:Nat)(h:i<l.length),(l[i]::l.eraseIdx i).Perm l
 |x::r,0,_=>by simp
 |x::r,i+1,h=>by
  simp only[List.getElem_cons_succ,List.eraseIdx_cons_succ];exact(List.Perm.swap _ _ _).trans ((Cf r i (by simpa using h)).cons x)
theorem FK{α:Type}(next:Nat->Nat):∀(fuel k:Nat)(left:List α)(out:Array α),left.length<=fuel->(pickOrder.go next fuel k left out).toList.Perm (out.toList++left)
 |0,k,left,out,h=>by
  have:left=[]:=List.length_eq_zero_iff.mp (by omega);subst this;simp[pickOrder.go]
 |fuel+1,k,left,out,h=>by
  unfold pickOrder.go;cases left with
  |nil=>simp
  |cons x r =>
   have b7:next k%(x::r).length<(x::r).length:=ab6 _ (by simp)
   have a4:(x::r)[next k%(x::r).length]?=some (x::r)[next k%(x::r).length]:=Yl b7;rw[a4];refine(FK next fuel (k+1) _ _ (by rw[List.length_eraseIdx_of_lt b7];simp only[List.length_cons]at h ⊢;omega)).trans ?_;rw[aaA,Yr];exact Z3 _ (Cf _ _ b7)
def Sl{α:Type}(next:Nat->Nat)(xs:Array α):(pickOrder next xs).toList.Perm xs.toList:=by
 unfold pickOrder;have:=FK next xs.size 0 xs.toList #[] (by simp)
 simpa using this
section
variable{prog:Program}{w:World}
structure nr(w:World)(o:Obj)(ah:Array (Int×Value))(ba:Nat)(t:SetTable):Prop where
 ex:o.ExactSet
 data:o.data=.set ah ba t
 tab:Tab ah t
 plain:t.plain=true
 led:t.led=true<->w.params.followText "set-order"=false
noncomputable def gm(w:World)(a:Addr)(ah:Array (Int×Value))(ba:Nat):Array (Int×Value):=if w.params.followText "set-order"=true then pickOrder (w.params.setOrder a ba) ah else ah
def r1(w:World)(a:Addr)(ah:Array (Int×Value))(ba:Nat):(gm w a ah ba).toList.Perm ah.toList:=by
 unfold gm;split
 .exact Sl _ _
 .exact .refl _
noncomputable def slotAt(w:World)(t:SetTable)(i:Nat):Nat:=if w.params.followText "set-order"=true then 0 else match i with
 |0=>0
 |j+1=>t.place.getD j 0+1
noncomputable def ni(h:Heap)(it a:Addr)(slot i n ba:Nat):Prop:=∃o,h.get? it=some o/\o.cls=.type "set_iterator"/\o.data=.fields #[.int slot 0,.int i 0,.ref a,.int n 0,.int ba 0]
def ni.typeIs{s:Shared}{it a:Addr}{slot i n ba:Nat}(h:ni s.heap it a slot i n ba):s.TypeIs (.ref it) "set_iterator":=let ⟨o,ay,aj,_⟩:=h;⟨o,ay,aj⟩
def I9{ah:Array (Int×Value)}{t:SetTable}(T:Tab ah t)(hw:w.params.followText "set-order"=false){i:Nat}(hi:i<=ah.size):below t.place (slotAt w t i)=i:=by
 unfold slotAt;rw[if_neg (by rw[hw];decide)];obtain⟨J,aa,aI⟩:=wW T.jn (match i with|0=>0|j+1=>t.place.getD j 0+1);rw[T.eH]at J;cases i with
 |zero =>
  dsimp only at J aa aI
  by_cases c:below t.place 0=0
  .exact c
  .exfalso;have b7:0<t.place.size:=(by rw[T.eH];omega);have:=aa 0 _ (by omega) (Yo b7);omega
 |succ j =>
  have aA:j<t.place.size:=(by rw[T.eH];omega);have a4:t.place[j]?=some t.place[j]:=Yo aA;have hd:t.place.getD j 0=t.place[j]:=(by simp[Array.getD,aA]);dsimp only at J aa aI ⊢;rw[hd]at J aa aI ⊢
  by_cases dk:below t.place (t.place[j]+1)<=j
  .exfalso;have:=aI j _ dk a4;omega
  .by_cases bA:j+1<below t.place (t.place[j]+1)
   .exfalso;have jO:j+1<t.place.size:=(by rw[T.eH];omega);have jN:t.place[j+1]?=some t.place[j+1]:=Yo jO;have a1:=aa (j+1) _ bA jN;have a2:=T.jn j (j+1) _ _ (by omega) a4 jN;omega
   .omega
variable{A:Around}{E:Value->Shared->Prop}{s:Shared}
def GN{a:Addr}{o:Obj}{ah:Array (Int×Value)}{ba:Nat}{t:SetTable}{i:Nat}{Q:Option (Value×Nat)->Shared->Prop}(ay:s.heap.get? a=some o)(O:nr w o ah ba t)(hi:i<=ah.size)(h:Q ((gm w a ah ba)[i]?.map λe=>(e.2,slotAt w t (i+1))) s):wpAny (model prog w) A (setNext a (slotAt w t i) i ba) Q E s:=by
 unfold setNext;refine Yf (Zv ay O.data (Tab.fits O.tab) ?_);dsimp only;unfold setsByText;refine Yf (Yf (aaI (wpAny_pure ?_)));cases hw:w.params.followText "set-order" with
 |true =>
  have e5:(model prog w).w.params.followText "set-order"=true:=hw;simp only[e5,Zo];simp only[aac,Ym,YK];refine Yf ?_;unfold setWalk;refine Yf (Zv ay O.data (Tab.fits O.tab) ?_);unfold setsByText;refine Yf (Yf (aaI (wpAny_pure ?_)));simp only[e5,Zo];refine Yf (aaI (wpAny_pure ?_));have ai:gm w a ah ba=pickOrder (w.params.setOrder a ba) ah:=(by unfold gm;rw[if_pos hw]);have av:∀i,slotAt w t i=0:=λi=>by unfold slotAt;rw[if_pos hw]
  rw[ai]at h;refine wpAny_pure ?_;simp only[av]at h ⊢;exact h
 |false =>
  have e5:(model prog w).w.params.followText "set-order"=false:=hw;simp only[e5,Ym,YK];have x9:(!t.plain&&decide (ah.size>1))=false:=(by rw[O.plain];rfl);show wpAny (model prog w) A (if (!t.plain&&decide (ah.size>1))=true then _ else _) Q E s;rw[x9];simp only[Ym,YK];have Ob:t.led=true:=O.led.mpr hw;refine Yf ?_;show wpAny (model prog w) A (if (!t.led&&!ah.isEmpty)=true then _ else pure ()) _ E s;rw[Ob];simp only[aaf,abB,Ym,YK];refine wpAny_pure ?_;rw[I9 O.tab hw hi];have ai:gm w a ah ba=ah:=(by unfold gm;rw[if_neg (by rw[hw];decide)]);rw[ai]at h;refine wpAny_pure ?_
  by_cases c:i<ah.size
  .have g1:ah[i]?=some ah[i]:=Yo c;have aE:i<t.place.size:=(by rw[O.tab.eH];exact c);have g2:t.place[i]?=some t.place[i]:=Yo aE;rw[g1]at h ⊢;rw[g2];have bu:slotAt w t (i+1)=t.place[i]+1:=(by unfold slotAt;rw[if_neg (by rw[hw];decide)];simp[Array.getD,aE]);rw[bu]at h;exact h
  .have g1:ah[i]?=none:=aan (by omega);rw[g1]at h ⊢;exact h
def next_item{it a:Addr}{o:Obj}{ah:Array (Int×Value)}{ba:Nat}{t:SetTable}{i:Nat}{x:Int×Value}{Q:Option Value->Shared->Prop}(ay:s.heap.get? a=some o)(O:nr w o ah ba t)(hit:ni s.heap it a (slotAt w t i) i ah.size ba)(ag:(gm w a ah ba)[i]?=some x)(eo:∀h',ni h' it a (slotAt w t (i+1)) (i+1) ah.size ba->Heap.SameBut it s.heap h'->Q (some x.2) { s with heap:=h' }):wpAny (model prog w) A (pyNext (.ref it)) Q E s:=by
 obtain⟨oh,mI,x8,iv⟩:=id hit;have hsz:(gm w a ah ba).size=ah.size:=by have:=(r1 w a ah ba).length_eq;simpa using this
 have hi:i<=ah.size:=by rw[<- hsz];exact aaY (YT.mp ag).1
 have eN:it≠a:=by
  rintro rfl;rw[ay]at mI;cases mI;rw[O.data]at iv;cases iv
 unfold pyNext;refine Yf (abl (ZE (name:=Str.ofString "__next__") hit.typeIs qb
  (Zp qb hit.typeIs Cb ?_ (A2 _))))
 unfold Builtin.«set_iterator.__next__»;refine Yf (m:=slotArgs _ _ _) (wpAny_pure ?_);refine Yf (abG mI iv ?_);dsimp only;refine Yf (abw ay O.data (Tab.fits O.tab) ?_);simp only[aac,Ym,YK];simp only[Int.toNat_natCast];refine Yf (GN ay O hi ?_);rw[ag];simp only[Option.map_some];have jN:=Zw (Obj.mapFields (·.setIfInBounds 0 (rawInt (slotAt w t (i+1):Nat)))) mI (by obtain⟨c,d,qX,cn⟩:=oh;simp only at iv;subst iv;rfl);refine Yf (aa5 mI iv (by simp) ?_);have kr:(Obj.mapFields (·.setIfInBounds 0 (rawInt (slotAt w t (i+1):Nat))) oh).data=.fields #[.int (slotAt w t (i+1):Nat) 0,.int i 0,.ref a,.int ah.size 0,.int ba 0]:=by
  obtain⟨c,d,qX,cn⟩:=oh;simp only at iv;subst iv;rfl
 have tI:(Obj.mapFields (·.setIfInBounds 0 (rawInt (slotAt w t (i+1):Nat))) oh).cls=.type "set_iterator":=by
  obtain⟨c,d,qX,cn⟩:=oh;simp only at iv x8;subst iv;exact x8
 generalize Obj.mapFields (·.setIfInBounds 0 (rawInt (slotAt w t (i+1):Nat))) oh=mW at jN kr tI;refine Yf (aa5 jN kr (by simp) ?_);have rl:=Zw (Obj.mapFields (·.setIfInBounds 1 (rawInt ((i:Int)+1)))) jN (by obtain⟨c,d,qX,cn⟩:=mW;simp only at kr;subst kr;rfl);refine wpAny_pure ?_;refine⟨_,rfl,wpAny_pure ?_⟩;refine eo _ ⟨_,rl,?_,?_⟩ ((ZJ ..).trans (ZJ ..))
 .obtain⟨c,d,qX,cn⟩:=mW;simp only at kr tI;subst kr;exact tI
 .obtain⟨c,d,qX,cn⟩:=mW;simp only at kr tI;subst kr;rfl
def next_end{it a:Addr}{o:Obj}{ah:Array (Int×Value)}{ba:Nat}{t:SetTable}{Q:Option Value->Shared->Prop}(cF:A.handled=none)(ay:s.heap.get? a=some o)(O:nr w o ah ba t)(hit:ni s.heap it a (slotAt w t ah.size) ah.size ah.size ba)(eo:∀h',Heap.ExtBut it s.heap h'->Q none { s with heap:=h' }):wpAny (model prog w) A (pyNext (.ref it)) Q E s:=by
 obtain⟨oh,mI,x8,iv⟩:=id hit;have hsz:(gm w a ah ba).size=ah.size:=by have:=(r1 w a ah ba).length_eq;simpa using this
 unfold pyNext;refine Yf (abl (ZE (name:=Str.ofString "__next__") hit.typeIs qb
  (Zp qb hit.typeIs Cb ?_ (A2 _))))
 unfold Builtin.«set_iterator.__next__»;refine Yf (m:=slotArgs _ _ _) (wpAny_pure ?_);refine Yf (abG mI iv ?_);dsimp only;refine Yf (abw ay O.data (Tab.fits O.tab) ?_);simp only[aac,Ym,YK];simp only[Int.toNat_natCast];refine Yf (GN ay O (Yi _) ?_);rw[aan (by omega)];simp only[Option.map_none];refine Yf (aa5 mI iv (by simp) ?_);show wpAny _ _ (newExc (.type "StopIteration") []>>=_) _ _ _;refine Yf ?_;simp only[newExc,newTuple];refine Yf (YV ?_ (by size_fits));refine Yf (m:=firstArgMember _ _) (wpAny_of_eq (a:=Value.none) (by first|rfl|(simp only[firstArgMember];rfl)) ?_);refine YV ?_ (by size_fits);simp only[raiseNew];refine Yf (wpAny_handled ?_);rw[show A.in1.handled=none from cF];refine Yf (wpAny_pure (wpAny_throw ?_));refine Yf (ab0 (T:="StopIteration") (b:=true) ⟨_,Yx _ rfl,rfl⟩ isSubtype_stop ?_);exact wpAny_pure (eo _ (((ZJ ..).extBut.push _).push _))
def Pu{it a:Addr}{slot i n ba:Nat}{Q:Value->Shared->Prop}(hit:ni s.heap it a slot i n ba)(h:Q (.ref it) s):wpAny (model prog w) A (pyIter (.ref it)) Q E s:=by
 refine abP hit.typeIs G0 (Zp G0 hit.typeIs Lp ?_ (ID _));show wpAny _ _ (ret (.ref it)) _ _ s;exact wpAny_pure ⟨_,rfl,"set_iterator",_,hit.typeIs,qb.lookup,h⟩
def Pw{a:Addr}{o:Obj}{ah:Array (Int×Value)}{ba:Nat}{t:SetTable}{Q:Value->Shared->Prop}(ay:s.heap.get? a=some o)(O:nr w o ah ba t)(eo:Q (.ref s.heap.objs.size) { s with heap:=s.heap.push { cls:=.type "set_iterator",data:=.fields #[.int 0 0,.int 0 0,.ref a,.int ah.size 0,.int ba 0] } }):wpAny (model prog w) A (pyIter (.ref a)) Q E s:=by
 have cP:s.TypeIs (.ref a) "set":=⟨o,ay,O.ex.1⟩;refine abP cP GZ (Zp GZ cP Lo ?_ (IC _));unfold Builtin.«frozenset.__iter__» Builtin.Frozenset.slot0 slotArgs;simp only[List.isEmpty_nil,aaf,Ym,↓reduceIte,bind_assoc,List.length_nil,aac];unfold Builtin.Frozenset.addrOf Builtin.Frozenset.sizeOf;simp only[pure_bind,bind_assoc];refine Yf (abw ay O.data (Tab.fits O.tab) ?_);unfold setDrawn;simp only[bind_assoc];refine Yf (Zv ay O.data (Tab.fits O.tab) ?_);unfold setsByText;simp only[bind_assoc];refine Yf (aaI ?_);simp only[pure_bind];have x9:∀b:Bool,(!b&&(!t.plain&&decide (ah.size>1)))=false:=λb=>by rw[O.plain];simp
 show wpAny (model prog w) A.in1 (if (!(model prog w).w.params.followText "set-order"&&(!t.plain&&decide (ah.size>1)))=true then _ else _) _ _ s;rw[x9];simp only[Ym,YK,pure_bind];unfold setEpoch;simp only[bind_assoc,pure_bind];refine Yf (Zv ay O.data (Tab.fits O.tab) ?_);dsimp only;refine Yf (YV (wpAny_pure ⟨_,rfl,"set_iterator",_,⟨_,Yx _ rfl,rfl⟩,qb.lookup,?_⟩));exact eo
def WX{A:Around}(cF:A.handled=none){I a:Addr}(eN:a≠I){o:Obj}{ah:Array (Int×Value)}{ba:Nat}{t:SetTable}(O:nr w o ah ba t):
  Walks prog w A I [I,a] [I] ah.size (λi v=>∃x,(gm w a ah ba)[i]?=some x/\v=x.2) (λi h=>ni h I a (slotAt w t i) i ah.size ba/\h.get? a=some o) where
 sub:=λb ae=>by simp at ae;simp[ae]
 frame:=λi h h' st au=>⟨let ⟨bH,e,r⟩:=st.1;⟨bH,au I (by simp) bH e,r⟩,au a (by simp) o st.2⟩
 item:=λi s Q E hi st eo=>by
  have hsz:(gm w a ah ba).size=ah.size:=(by have:=(r1 w a ah ba).length_eq;simpa using this);have ag:(gm w a ah ba)[i]?=some (gm w a ah ba)[i]:=Yo (by omega);exact next_item st.2 O st.1 ag λh' aM cK=>eo _ h' s.toks ⟨_,ag,rfl⟩ ⟨aM,(cK.2 a eN).trans st.2⟩ λb bH ae e=>cK.extBut b bH (λh=>ae (by simp[h])) e
 done:=λs Q E st eo=>next_end cF st.2 O st.1 λh' he=>eo h' s.toks λb bH ae e=>he b bH (λh=>ae (by simp[h])) e
 self:=λi s Q E st eo=>Pu st.1 eo
def N4{r:Addr}{Q:Bool->Shared->Prop}(cP:s.TypeIs (.ref r) "set")(h:Q false s):wpAny (model prog w) A (Builtin.List.listLengthHint (.ref r)) Q E s:=by
 unfold Builtin.List.listLengthHint;refine Yf (ab7 cP PySem.F.slot_set_len.lookup ?_);generalize Dv:("set.__len__":String)=O7
 wp_delta
 rw[show splitId O7=some ("set","__len__") from by subst Dv;decide +kernel];subst Dv;refine Yf (ab0 (T:="set") (b:=true) cP (by rw[abF];kernel_rfl) ?_);refine wpAny_ite_split (λph=>absurd ph (by decide)) (λ_=>?_);refine wpAny_ite_split (λ_=>?_) (λph=>absurd (by decide +kernel) ph);refine Yf (aak cP ?_);exact wpAny_pure h
end
end Pv
end
section
namespace Pv
open PySem PySem.Spec PyProof.Rows PySem.W
section
variable{prog:Program}{w:World}{A:Around}{E:Value->Shared->Prop}{s:Shared}{it d:Addr}{bk:Obj}{ah:Array DictEntry}{i ba:Nat}
def BS{Q:Value->Shared->Prop}(ab:(d==sysModules)=false)(ay:s.heap.get? d=some bk)(ag:bk.ExactDict)(hd:bk.data=.dict ah ba)(eo:Q (.ref s.heap.objs.size) { s with heap:=s.heap.push { cls:=.type "dict_keyiterator",data:=.fields #[.ref d,.int 0 0,.int ah.size 0,.int ba 0] } }):wpAny (model prog w) A (pyIter (.ref d)) Q E s:=by
 have cP:s.TypeIs (.ref d) "dict":=⟨bk,ay,ag.1⟩;refine abP cP F.slot_dict_iter (Zp F.slot_dict_iter cP F.entry_dict_iter ?_ (F.args_dict_iter_1 _));unfold Builtin.«dict.__iter__»;refine Yf ?_;unfold Builtin.Dict.dictSlotNone;refine Yf (wpAny_notOrdered_dict cP ?_);show wpAny _ _ (pure (Value.ref d)) _ _ s;refine wpAny_pure ?_;show wpAny _ _ (Builtin.Dict.showsAll d>>=_) _ _ s;unfold Builtin.Dict.showsAll;rw[if_neg (by rw[ab];exact Y6)];refine Yf (wpAny_pure ?_);refine Yf (abQ ay hd ?_);refine Yf (acb ay hd ?_);refine Yf (YV (wpAny_pure ⟨_,rfl,"dict_keyiterator",_,⟨_,Yx _ rfl,rfl⟩,ZA.lookup,?_⟩));simpa[rawInt] using eo
def BU{Q:Option Value->Shared->Prop}(hit:s.heap.IsKeyIter it d i ah.size ba)(rq:s.heap.get? d=some bk)(rj:bk.data=.dict ah ba)(b7:i<ah.size)(eo:∀h',h'.IsKeyIter it d (i+1) ah.size ba->Heap.SameBut it s.heap h'->Q (some ah[i].key) { s with heap:=h' }):wpAny (model prog w) A (pyNext (.ref it)) Q E s:=by
 obtain⟨o,ay,aj,hd⟩:=id hit;unfold pyNext;refine Yf (abl (ZE (name:=Str.ofString "__next__") hit.typeIs ZA
  (Zp ZA hit.typeIs abo ?_ (abg _))))
 refine Yf (wpAny_pure ?_);refine Yf ?_;refine Yf ?_
 first|refine Yf (ZP hit.typeIs (wpAny_pure ?_))|refine Yf (aah hit.typeIs (wpAny_pure ?_))
 refine Yf (abG ay hd ?_);simp only[show Builtin.Dict_items.ownsTuple "dict_keyiterator"=false by decide,Ym,YK];show wpAny _ _ (if (Value.ref d==Value.none)=true then _ else _) _ _ s;rw[if_neg (show ¬((Value.ref d==Value.none)=true) from Y6)];refine Yf (wpAny_pure ?_);refine Yf (abQ rq rj ?_);rw[if_neg (by simp)];refine Yf (wpAny_pure ?_);refine Yf (acb rq rj ?_);rw[if_neg (by simp)];refine wpAny_pure ?_;simp only[show ¬((i:Int)<0) from by omega,YK,Int.toNat_natCast,Yo b7];refine Yf ?_
 first|refine Yf (ZP hit.typeIs (wpAny_pure ?_))|refine Yf (aah hit.typeIs (wpAny_pure ?_))
 refine Yf (wpAny_isOneOf_keyiter hit.typeIs ?_);show wpAny _ _ (setField (.ref it) 1 (rawInt ((i:Int)+1))>>=_) _ _ s;refine Yf (aa5 ay hd (by simp) ?_);have tO:(s.heap.update it (Obj.mapFields (·.setIfInBounds 1 (rawInt ((i:Int)+1))))).IsKeyIter it d (i+1) ah.size ba :=
  ⟨_,Zw _ ay (Obj.isFreed_of_fields (Obj.data_mapFields hd _)),(Obj.cls_mapFields ..).trans aj,by rw[Obj.data_mapFields hd];simp[rawInt]⟩
 refine Yf (ZM ?_);refine Yf (wpAny_isOneOf_keyiter (s:={ s with heap:=s.heap.update it (Obj.mapFields (·.setIfInBounds 1 (rawInt ((i:Int)+1)))) }) tO.typeIs ?_);show wpAny _ _ (pure ah[i].key) _ _ _;exact wpAny_pure (wpAny_pure ⟨_,rfl,wpAny_pure (eo _ tO (ZJ ..))⟩)
def BR{Q:Option Value->Shared->Prop}(cF:A.handled=none)(hit:s.heap.IsKeyIter it d ah.size ah.size ba)(rq:s.heap.get? d=some bk)(rj:bk.data=.dict ah ba)(eo:∀h',Heap.ExtBut it s.heap h'->Q none { s with heap:=h' }):wpAny (model prog w) A (pyNext (.ref it)) Q E s:=by
 obtain⟨o,ay,aj,hd⟩:=id hit;unfold pyNext;refine Yf (abl (ZE (name:=Str.ofString "__next__") hit.typeIs ZA
  (Zp ZA hit.typeIs abo ?_ (abg _))))
 refine Yf (wpAny_pure ?_);refine Yf ?_;refine Yf ?_
 first|refine Yf (ZP hit.typeIs (wpAny_pure ?_))|refine Yf (aah hit.typeIs (wpAny_pure ?_))
 refine Yf (abG ay hd ?_);simp only[show Builtin.Dict_items.ownsTuple "dict_keyiterator"=false by decide,Ym,YK];show wpAny _ _ (if (Value.ref d==Value.none)=true then _ else _) _ _ s;rw[if_neg (show ¬((Value.ref d==Value.none)=true) from Y6)];refine Yf (wpAny_pure ?_);refine Yf (abQ rq rj ?_);rw[if_neg (by simp)];refine Yf (wpAny_pure ?_);refine Yf (acb rq rj ?_);rw[if_neg (by simp)];refine wpAny_pure ?_;simp only[show ¬((ah.size:Int)<0) from by omega,YK,Int.toNat_natCast,aan (Yi ah.size)];refine Yf ?_
 first|refine Yf (ZP hit.typeIs (wpAny_pure ?_))|refine Yf (aah hit.typeIs (wpAny_pure ?_))
 show wpAny _ _ (setField (.ref it) 0 .none>>=_) _ _ s;refine Yf (aa5 ay hd (by simp) ?_);show wpAny _ _ (newExc (.type "StopIteration") []>>=_) _ _ _;refine Yf ?_;simp only[newExc,newTuple];refine Yf (YV ?_ (by size_fits));refine Yf (m:=firstArgMember _ _) (wpAny_of_eq (a:=Value.none) (by first|rfl|(simp only[firstArgMember];rfl)) ?_);refine YV ?_ (by size_fits);simp only[raiseNew];refine Yf (wpAny_handled ?_);rw[show A.in1.handled=none from cF];refine Yf (wpAny_pure (wpAny_throw ?_));refine Yf (ab0 (T:="StopIteration") (b:=true) ⟨_,Yx _ rfl,rfl⟩ isSubtype_stop ?_);exact wpAny_pure (eo _ (((ZJ ..).extBut.push _).push _))
end
section
variable{prog:Program}{w:World}{A:Around}{d:Addr}{bk:Obj}{ah:Array DictEntry}{ba:Nat}
noncomputable def vI(ah:Array DictEntry)(i:Nat)(v:Value):Prop:=∃e,ah[i]?=some e/\v=e.key
def WW(cF:A.handled=none)(I:Addr)(eN:d≠I)(hd:bk.data=.dict ah ba):Walks prog w A I [I,d] [I] ah.size (vI ah) (λi h=>h.IsKeyIter I d i ah.size ba/\h.get? d=some bk) where
 sub:=λb ae=>by simp at ae;simp[ae]
 frame:=λ_ _ _ st au=>⟨st.1.at λo e=>au I (by simp) o e,au d (by simp) bk st.2⟩
 item:=λi s Q E hi st eo=>by
  refine BU st.1 st.2 hd hi λh' tO tW=>?_
  exact eo _ h' s.toks ⟨ah[i],Yo hi,rfl⟩ ⟨tO,tW.extBut d bk eN st.2⟩ λb o ae e=>tW.extBut b o (λh=>ae (by simp[h])) e
 done:=λs Q E st eo=>BR cF st.1 st.2 hd λh' ha=>eo h' s.toks λb o ae e=>ha b o (λh=>ae (by simp[h])) e
 self:=λ_ _ _ _ st eo=>wpAny_pyIter_keyiter st.1 eo
def U2(ab:(d==sysModules)=false)(ag:bk.ExactDict)(hd:bk.data=.dict ah ba):KdlSrc prog w "dict" d d ah.size (vI ah) (λh=>h.get? d=some bk) where
 type:=λ_ ay=>⟨bk,ay,ag.1⟩
 there:=λ_ ay=>⟨Yu ay,Yu ay⟩
 keep:=λ_ _ ay au=>au d (.inl rfl) bk ay
 notList:=by decide
 notTuple:=by decide
 hint:=λ_ _ _ _ ay aJ=>kdl_hint_dict ⟨bk,ay,ag.1⟩ aJ
 iter:=λ_ s cF ay=>⟨_,_,(λ_ _ aJ=>BS ab ay ag hd aJ),WW cF _ (YH (Yu ay)) hd,⟨⟨_,Yx _ rfl,rfl,rfl⟩,Yh _ ay⟩⟩
end
end Pv
end
section
namespace Pv
open PySem PySem.Spec PyProof.Rows gw PySem.SetTable
section
variable{prog:Program}{w:World}{A:Around}{E:Value->Shared->Prop}{s:Shared}
def JZ {l : Addr} {af : List Value} {Q : List Value -> Shared -> Prop} (aw : s.heap.IsTuple l af.toArray)
    (h : Q af { s with heap := (s.heap.push (seqObj "list" #[] 0)).update s.heap.objs.size (Obj.mapSeq (· ++ af.toArray)) }) (hsz : af.length <= sizeLine) :
    wpAny (model prog w) A (collect (.ref l)) Q E s := by
  obtain ⟨o, ay, aj, n, hd⟩ := id aw
  unfold collect
  refine Yf (abE (Zz entry_proto_collect' ?_))
  show wpAny _ _ (do again (.builtin "list.__iadd__" ⟨[<- newList [], .ref l], []⟩)) _ _ s
  refine Yf (wpAny_newList (wpAny_pure ⟨Code.quiet_builtin _ (by decide +kernel), Zz entry_list_iadd' ?_⟩))
  show wpAny _ _ (Builtin.List.listExtendWith (.ref s.heap.objs.size) (.ref l) (.ref s.heap.objs.size)) _ _ { s with heap := s.heap.push (seqObj "list" #[] 0) }
  unfold Builtin.List.listExtendWith
  have dP : (s.heap.push (seqObj "list" #[] 0)).get? l = some o := Yh _ ay
  refine Yf (aak (T := "tuple") ⟨o, dP, aj⟩ ?_)
  have aW : (Value.type "tuple" == Value.type "tuple") = true := by rfl
  rw [if_pos (by rw [aW]; simp)]
  refine Yf (listItems_at dP hd ?_)
  refine Yf (listItems_at (xs := #[]) (n := 0) (Yx _ rfl) rfl ?_)
  rw [if_neg (by simp)]
  refine Yf (listUpdate_at (xs := #[]) (n := 0) (Yx _ rfl) rfl ?_ (Yp _) (by show (#[] ++ af.toArray).size <= sizeLine + 1; simp only [ZQ, Yv, List.length_nil]; omega))
  refine wpAny_pure ?_
  show wpAny (model prog w) A (do
      let o <- load s.heap.objs.size
      match o.data with
      | .seq xs _ => pure xs.toList
      | _ => unsupported "internal:collect") Q E { s with heap := (s.heap.push (seqObj "list" #[] 0)).update s.heap.objs.size (Obj.mapSeq (· ++ af.toArray)) }
  refine Yf (wpAny_load (get?_update_seq (Yx _ rfl) _) ?_)
  show wpAny _ _ (pure ((#[] : Array Value) ++ af.toArray).toList) Q E _
  rw [show ((#[] : Array Value) ++ af.toArray).toList = af by simp]
  exact wpAny_pure h
noncomputable def sI(s s':Shared):Prop:=(∀b o,s.heap.get? b=some o->s'.heap.get? b=some o)/\s'.gens=s.gens/\s'.drawn=s.drawn/\s'.os=s.os
def JX{r:Addr}{a b c:Int}{t u v:Tok}{n:Nat}{Q:List Value->Shared->Prop}(cF:A.handled=none)(a7:IsRange s.heap r a b c t u v)(OO:Builtin.Range.small a b c=true)(aB:Builtin.Range.rangeSize a b c=n)(hlen:n<=2 ^ 24)(eo:∀s' acc,sI s s'->ItemsOf (λi v=>∃t,v=.int (a+i*c) t) acc n->Q acc.toList s'):wpAny (model prog w) A (collect (.ref r)) Q E s:=by
 unfold collect;refine Yf (abE (Zz F.entry_proto_collect ?_));rw[ZG F.plain_proto_collect _];show wpAny _ A.in1 (newList []>>=λl=>again (.builtin "list.__iadd__" ⟨[l,.ref r],[]⟩)) _ _ s;refine Yf (YV ?_);refine wpAny_pure ⟨abk aa6 _,Zz F.entry_list_iadd ?_⟩;rw[ZG aa6 _];show wpAny _ A.in1 (Builtin.List.listExtendWith (.ref s.heap.objs.size) (.ref r) (.ref s.heap.objs.size)) _ _ _;have a6:(s.heap.push { cls:=.type "list",data:=.seq ([]:List Value).toArray }).get? s.heap.objs.size=some { cls:=.type "list",data:=.seq ([]:List Value).toArray }:=Yx _ rfl;refine wpAny_extend_range (A:=A) (R:=wants _ E) (s:={ s with heap:=s.heap.push { cls:=.type "list",data:=.seq ([]:List Value).toArray } }) cF (Yh _ a7) OO aB hlen s.heap.objs.size (.ref s.heap.objs.size) 0 a6 λh' tk vW cN au kq hH=>?_
 show wpAny _ A (load s.heap.objs.size>>=_) _ _ _;refine Yf (wpAny_load kq ?_);exact wpAny_pure (eo _ vW ⟨λb o e=>au b o (YH (Yu e)) (Yh _ e),rfl,rfl,rfl⟩ hH)
def JY{a:Addr}{o:Obj}{ah:Array (Int×Value)}{ba:Nat}{t:SetTable}{Q:List Value->Shared->Prop}(cF:A.handled=none)(ay:s.heap.get? a=some o)(O:nr w o ah ba t)(aB:ah.size<=sizeLine)(eo:∀s' acc,sI s s'->ItemsOf (λi v=>∃x,(gm w a ah ba)[i]?=some x/\v=x.2) acc ah.size->Q acc.toList s'):wpAny (model prog w) A (collect (.ref a)) Q E s:=by
 have b7:a<s.heap.objs.size:=Yu ay;unfold collect;refine Yf (abE (Zz F.entry_proto_collect ?_));rw[ZG F.plain_proto_collect _];show wpAny _ A.in1 (newList []>>=λl=>again (.builtin "list.__iadd__" ⟨[l,.ref a],[]⟩)) _ _ s;refine Yf (YV ?_);refine wpAny_pure ⟨abk aa6 _,Zz F.entry_list_iadd ?_⟩;rw[ZG aa6 _];show wpAny _ A.in1 (Builtin.List.listExtendWith (.ref s.heap.objs.size) (.ref a) (.ref s.heap.objs.size)) _ _ _;unfold Builtin.List.listExtendWith;have n0:(s.heap.push { cls:=.type "list",data:=.seq ([]:List Value).toArray }).get? a=some o:=Yh _ ay;refine Yf (aak (T:="set") ⟨o,n0,O.ex.1⟩ ?_);have J:Builtin.List.listSameRef (.ref s.heap.objs.size) (.ref a)=false:=by
  have eN:s.heap.objs.size≠a:=ZK (YH b7);simp[Builtin.List.listSameRef,eN]
 have aa:(Value.type "set"==Value.type "list")=false:=by decide
 have aI:(Value.type "set"==Value.type "tuple")=false:=by decide
 simp only[J,aa,aI,Bool.or_false,Ym,YK];refine Yf (Pw (s:={ s with heap:=s.heap.push { cls:=.type "list",data:=.seq ([]:List Value).toArray } }) n0 O ?_);generalize gL:s.heap.push { cls:=.type "list",data:=.seq ([]:List Value).toArray }=H at *;have xX:H.objs.size=s.heap.objs.size+1:=by rw[<- gL,Heap.size_push]
 have Of:a<H.objs.size:=by rw[xX];exact Nat.lt_succ_of_lt b7
 refine Yf (ZM (N4 ⟨o,Yh _ n0,O.ex.1⟩ ?_));rw[if_pos (by decide)];have eN:a≠H.objs.size:=YH Of;have Dj:s.heap.objs.size≠H.objs.size:=by rw[xX];exact YH (ZX _)
 have Dk:s.heap.objs.size≠a:=ZK (YH b7);have pf:s.heap.objs.size∉[H.objs.size,a]:=λhm=>by
  rcases Yk.mp hm with e|e
  .exact Dj e
  .exact Dk (YA.mp e)
 generalize tF:H.push { cls:=.type "set_iterator",data:=.fields #[.int 0 0,.int 0 0,.ref a,.int ah.size 0,.int ba 0] }=cy;have a6:cy.get? s.heap.objs.size=some { cls:=.type "list",data:=.seq ([]:List Value).toArray }:=tF▸Yh _ (gL▸Yx _ rfl);have Ou:cy.get? a=some o:=tF▸Yh _ n0;have NV:cy.get? H.objs.size=some { cls:=.type "set_iterator",data:=.fields #[.int 0 0,.int 0 0,.ref a,.int ah.size 0,.int ba 0] }:=tF▸Yx _ rfl;have NT:A.in1.handled=none:=cF;have st0:slotAt w t 0=0:=by unfold slotAt;split<;>rfl
 refine Yf (aaU ?_);refine Yf ?_;show wpAny _ A.in1 (updateSeq s.heap.objs.size (·.push .none)>>=λ_=>updateSeq s.heap.objs.size (·.pop)) _ _ _;refine Yf (acd a6 rfl ?_);have Dm:=Zw (Obj.mapSeq (·.push Value.none)) a6 rfl;refine acd Dm rfl ?_;have Nt:=Zw (Obj.mapSeq (·.pop)) Dm rfl;have zb:∀b bT,b≠s.heap.objs.size->cy.get? b=some bT->((cy.update s.heap.objs.size (Obj.mapSeq (·.push Value.none))).update s.heap.objs.size (Obj.mapSeq (·.pop))).get? b=some bT :=
  λb bT ae e=>(Zq _ _ (ZK ae)).trans ((Zq _ _ (ZK ae)).trans e)
 refine wpAny_pure ⟨abk F.plain_extend_loop _,codeAny_extend_loopS (WX (prog:=prog) (A:=A.in1) NT eN O).toS aB _ pf _ ah.size 0 _ _ _ rfl (Yp _) ⟨⟨_,zb _ _ (ZK Dj) NV,rfl,by rw[st0];rfl⟩,zb _ _ (ZK Dk) Ou⟩ Nt (ItemsOf.nil _) λs' vW cN hm kq hH=>?_⟩;show wpAny _ A (load s.heap.objs.size>>=_) _ _ s';refine Yf (wpAny_load kq ?_);refine wpAny_pure (eo s' vW ⟨λb bT e=>hm.heap b bT (λae=>?_) (zb b bT (YH (Yu e)) (tF▸Yh _ (gL▸Yh _ e))),hm.gens,hm.drawn,hm.os⟩ hH);have tP:=Yu e;rcases Yk.mp ae with h|h
 .rw[h]at tP;exact ZV _ tP
 .rw[YA.mp h,xX]at tP;exact absurd tP (Nat.not_lt.mpr (Nat.le_succ _))
end
end Pv
end
section
namespace Tm
open PySem PyProof.Rows
noncomputable def ir:Bool->Keyed->Array Keyed->Nat->Nat->Nat->StateT SortSt Sem (Option Nat):=sortPriv% PySem.Builtin.gallop
noncomputable def IY(left:Bool)(key x:Keyed):StateT SortSt Sem (Option Bool):=if left then lt' x key else do return (<- lt' key x).map (!·)
noncomputable def jA(left:Bool)(key:Keyed)(arr:Array Keyed)(j:Nat):StateT SortSt Sem (Option Bool):=do
 let x <- elem' arr j
 IY left key x
def M0(left:Bool)(key:Keyed)(arr:Array Keyed)(b n h:Nat):ir left key arr b n h=(do
 let mut u:=0
 let mut v:=1
 let mut lo:=0
 let mut hi:=0
 let some r <- jA left key arr (b+h)|return none
 if r then
  let iM:=n-h
  for _ in [0:n] do
   if v>=iM then break
   let some q <- jA left key arr (b+(h+v))|return none
   if !q then break
   u:=v
   v:=2*v+1
  lo:=h+u+1
  hi:=h+min v iM
 else
  let iM:=h+1
  for _ in [0:n] do
   if v>=iM then break
   let some q <- jA left key arr (b+(h-v))|return none
   if q then break
   u:=v
   v:=2*v+1
  lo:=h+1-min v iM
  hi:=h-u
 for _ in [0:n] do
  if lo>=hi then break
  let m:=lo+(hi-lo) / 2
  let some q <- jA left key arr (b+m)|return none
  if q then lo:=m+1 else hi:=m
 return some hi):=rfl
noncomputable def bs(left:Bool)(key:Keyed)(arr:Array Keyed)(b n lo hi:Nat):StateT SortSt Sem (Option Nat):=do
 let mut lo:=lo
 let mut hi:=hi
 for _ in [0:n] do
  if lo>=hi then break
  let m:=lo+(hi-lo) / 2
  let some q <- jA left key arr (b+m)|return none
  if q then lo:=m+1 else hi:=m
 return some hi
section
variable{M:Model}{A:Around}{E:Value->Shared->Prop}{s:Shared}{left:Bool}{key:Keyed}{arr:Array Keyed}{b n h:Nat}{p:Nat->Bool}{st:SortSt}{Q:Option Nat->SortSt->Prop}
def Bn(aE:∀j,j<n->∀Q:Option Bool->SortSt->Prop,Q (some (p j)) st->wpS M A E s (jA left key arr (b+j)) Q st)(mono:∀i j,i<=j->j<n->p j=true->p i=true)(aJ:∀k,k<=n->(∀i,i<k->p i=true)->(∀i,k<=i->i<n->p i=false)->Q (some k) st){lo hi:Nat}(J:lo<=hi)(aa:hi<=n)(aw:∀i,i<lo->p i=true)(a7:∀i,hi<=i->i<n->p i=false):wpS M A E s (bs left key arr b n lo hi) Q st:=by
 unfold bs;refine Yn (ZH (Ze (I:=λx (c:Option (Option Nat)×Nat×Nat) aM=>aM=st/\c.1=none/\c.2.1<=c.2.2/\c.2.2<=n/\(∀i,i<c.2.1->p i=true)/\(∀i,c.2.2<=i->i<n->p i=false)/\c.2.2-c.2.1+x<=n)
  (Q:=λ(c:Option (Option Nat)×Nat×Nat) aM=>aM=st/\c.1=none/\c.2.2<=n/\(∀i,i<c.2.2->p i=true)/\∀i,c.2.2<=i->i<n->p i=false) ?step ?fin ⟨rfl,rfl,J,aa,aw,a7,by show hi-lo+0<=n;omega⟩) ?post)
 case step =>
  rintro x ⟨o,lo,hi⟩ aM _ ag ⟨rfl,rfl,aZ,aQ,br,bY,fU⟩;dsimp only at aZ aQ br bY fU ⊢
  by_cases c:lo>=hi
  .rw[if_pos c];have e:lo=hi:=(by omega);subst e;exact Ys ⟨rfl,rfl,aQ,br,bY⟩
  .rw[if_neg c];have hm:lo+(hi-lo) / 2<hi:=(by omega);refine Yn (aE _ (by omega) _ ?_);dsimp only;cases e:p (lo+(hi-lo) / 2) with
   |true =>
    rw[if_pos rfl];refine Ys ⟨rfl,rfl,by dsimp only;omega,aQ,λi eh=>?_,bY,by dsimp only;omega⟩;exact mono i _ (by dsimp only at eh;omega) (by omega) e
   |false =>
    rw[if_neg (by simp)];refine Ys ⟨rfl,rfl,by dsimp only;omega,by dsimp only;omega,br,λi eh dO=>?_,by dsimp only;omega⟩;cases q:p i with
    |false=>rfl
    |true=>rw[mono _ i eh dO q]at e;cases e
 case fin =>
  rintro⟨o,lo,hi⟩ aM ⟨rfl,rfl,aZ,aQ,br,bY,fU⟩;dsimp only at aZ aQ br bY fU ⊢;have e:lo=hi:=(by rw[YY (Yp n)]at fU;omega);subst e;exact⟨rfl,rfl,aQ,br,bY⟩
 case post =>
  rintro⟨o,lo,hi⟩ aM ⟨rfl,rfl,aQ,br,bY⟩;exact Ys (aJ hi aQ br bY)
def CU(aE:∀j,j<n->∀Q:Option Bool->SortSt->Prop,Q (some (p j)) st->wpS M A E s (jA left key arr (b+j)) Q st)(cF:h<n)(mono:∀i j,i<=j->j<n->p j=true->p i=true)(aJ:∀k,k<=n->(∀i,i<k->p i=true)->(∀i,k<=i->i<n->p i=false)->Q (some k) st):wpS M A E s (ir left key arr b n h) Q st:=by
 have AZ:∀i j,i<=j->j<n->p i=false->p j=false:=λi j rn aA hi=>by
  cases q:p j with
  |false=>rfl
  |true=>rw[mono i j rn aA q]at hi;cases hi
 rw[M0];refine Yn (aE h cF _ ?_);cases e:p h with
 |true =>
  dsimp only;rw[if_pos rfl];refine Yn (ZH (Ze (I:=λx (c:Option (Option Nat)×Nat×Nat) aM=>aM=st/\c.1=none/\c.2.1<c.2.2/\h+c.2.1<n/\p (h+c.2.1)=true/\x+1<=c.2.2)
   (Q:=λ(c:Option (Option Nat)×Nat×Nat) aM=>aM=st/\c.1=none/\c.2.1<c.2.2/\h+c.2.1<n/\p (h+c.2.1)=true/\(n-h<=c.2.2\/p (h+c.2.2)=false)) ?step ?fin ⟨rfl,rfl,Nat.zero_lt_one,cF,e,Yi _⟩) ?post)
  case step =>
   rintro x ⟨o,u,v⟩ aM _ ag ⟨rfl,rfl,aZ,aQ,br,bY⟩;dsimp only at aZ aQ br bY ⊢
   by_cases c:v>=n-h
   .rw[if_pos c];exact Ys ⟨rfl,rfl,aZ,aQ,br,.inl c⟩
   .rw[if_neg c];refine Yn (aE _ (by omega) _ ?_);dsimp only;cases bq:p (h+v) with
    |true=>rw[if_neg (by simp)];exact Ys ⟨rfl,rfl,by dsimp only;omega,by dsimp only;omega,bq,by dsimp only;omega⟩
    |false=>rw[if_pos (by simp)];exact Ys ⟨rfl,rfl,aZ,aQ,br,.inr bq⟩
  case fin =>
   rintro⟨o,u,v⟩ aM ⟨rfl,rfl,aZ,aQ,br,bY⟩;rw[YY (Yp n)]at bY;exact⟨rfl,rfl,aZ,aQ,br,.inl (by dsimp only at bY ⊢;omega)⟩
  case post =>
   rintro⟨o,u,v⟩ aM ⟨rfl,rfl,aZ,aQ,br,bY⟩;dsimp only at aZ aQ br bY;refine Bn (p:=p) aE mono aJ (lo:=h+u+1) (hi:=h+min v (n-h)) (by omega) (by omega) (λi hi=>mono i _ (by omega) aQ br) λi hi dO=>?_
   rcases bY with bY|bY
   .omega
   .by_cases c:v<=n-h
    .exact AZ _ i (by omega) dO bY
    .omega
 |false =>
  dsimp only;rw[if_neg (by simp)];refine Yn (ZH (Ze (I:=λx (c:Option (Option Nat)×Nat×Nat) aM=>aM=st/\c.1=none/\c.2.1<c.2.2/\c.2.1<=h/\p (h-c.2.1)=false/\x+1<=c.2.2)
   (Q:=λ(c:Option (Option Nat)×Nat×Nat) aM=>aM=st/\c.1=none/\c.2.1<c.2.2/\c.2.1<=h/\p (h-c.2.1)=false/\(h+1<=c.2.2\/p (h-c.2.2)=true)) ?step ?fin ⟨rfl,rfl,Nat.zero_lt_one,Yp _,e,Yi _⟩) ?post)
  case step =>
   rintro x ⟨o,u,v⟩ aM _ ag ⟨rfl,rfl,aZ,aQ,br,bY⟩;dsimp only at aZ aQ br bY ⊢
   by_cases c:v>=h+1
   .rw[if_pos c];exact Ys ⟨rfl,rfl,aZ,aQ,br,.inl c⟩
   .rw[if_neg c];refine Yn (aE _ (by omega) _ ?_);dsimp only;cases bq:p (h-v) with
    |true=>rw[if_pos rfl];exact Ys ⟨rfl,rfl,aZ,aQ,br,.inr bq⟩
    |false=>rw[if_neg (by simp)];exact Ys ⟨rfl,rfl,by dsimp only;omega,by dsimp only;omega,bq,by dsimp only;omega⟩
  case fin =>
   rintro⟨o,u,v⟩ aM ⟨rfl,rfl,aZ,aQ,br,bY⟩;rw[YY (Yp n)]at bY;exact⟨rfl,rfl,aZ,aQ,br,.inl (by dsimp only at bY ⊢;omega)⟩
  case post =>
   rintro⟨o,u,v⟩ aM ⟨rfl,rfl,aZ,aQ,br,bY⟩;dsimp only at aZ aQ br bY;refine Bn (p:=p) aE mono aJ (lo:=h+1-min v (h+1)) (hi:=h-u) (by omega) (by omega) (λi hi=>?_) λi hi dO=>AZ _ i hi dO br
   rcases bY with bY|bY
   .omega
   .by_cases c:v<=h+1
    .exact mono i _ (by omega) (by omega) bY
    .omega
end
noncomputable def y1:Array Keyed->Array Keyed->StateT SortSt Sem (Array Keyed):=sortPriv% PySem.Builtin.mergeLo
noncomputable abbrev setG(st:SortSt)(g:Nat):SortSt:=SortSt.mk' (kindOf st) (arrOf st) (pendingOf st) g (failedOf st)
def QS(a b:Array Keyed):y1 a b=(do
 rule "list.sort.merge-lo"
 let oB:=a.size+b.size
 let fin (r:Array Keyed) (i j:Nat):=r++a.extract i a.size++b.extract j b.size
 let fla (r:Array Keyed) (i j:Nat):=r++b.extract j b.size++a.extract i a.size
 let mut r:Array Keyed:=#[<- elem' b 0]
 let mut i:=0
 let mut j:=1
 if j==b.size then return fin r i j
 if i+1==a.size then return fla r i j
 let mut aK:=gallopOf (<- get)
 for _ in [0:oB] do
  let mut ca:=0
  let mut cv:=0
  for _ in [0:oB] do
   let some w <- lt' (<- elem' b j) (<- elem' a i)|return fin r i j
   if w then
    r:=r.push (<- elem' b j);j:=j+1;cv:=cv+1;ca:=0
    if j==b.size then return fin r i j
    if cv>=aK then break
   else
    r:=r.push (<- elem' a i);i:=i+1;ca:=ca+1;cv:=0
    if i+1==a.size then return fla r i j
    if ca>=aK then break
  rule "list.sort.gallop"
  aK:=aK+1
  for _ in [0:oB] do
   if aK>1 then aK:=aK-1
   modify λs=>setG s aK
   let some k <- ir false (<- elem' b j) a i (a.size-i) 0|return fin r i j
   ca:=k
   if k>0 then
    r:=r++a.extract i (i+k);i:=i+k
    if i+1==a.size then return fla r i j
    if i==a.size then return fin r i j
   r:=r.push (<- elem' b j);j:=j+1
   if j==b.size then return fin r i j
   let some k <- ir true (<- elem' a i) b j (b.size-j) 0|return fin r i j
   cv:=k
   if k>0 then
    r:=r++b.extract j (j+k);j:=j+k
    if j==b.size then return fin r i j
   r:=r.push (<- elem' a i);i:=i+1
   if i+1==a.size then return fla r i j
   if ca<7&&cv<7 then break
  aK:=aK+1
  modify λs=>setG s aK
 unsupported "internal:list.sort.merge-bound"):=rfl
structure eS(M:Model)(A:Around)(E:Value->Shared->Prop)(s:Shared)(κ:SortKind)(S:Keyed->Prop)(lt:Keyed->Keyed->Bool):Prop where
 ask:∀(x y:Keyed)(st:SortSt)(Q:Option Bool->SortSt->Prop),S x->S y->kindOf st=κ->Q (some (lt x y)) st->wpS M A E s (lt' x y) Q st
 hW:∀x y,S x->S y->lt x y=true->lt y x=false
 dE:∀x y z,S x->S y->S z->lt y x=false->lt z y=false->lt z x=false
noncomputable abbrev le(lt:Keyed->Keyed->Bool)(x y:Keyed):Prop:=lt y x=false
noncomputable def b3(st aM:SortSt):Prop:=kindOf aM=kindOf st/\arrOf aM=arrOf st/\pendingOf aM=pendingOf st/\failedOf aM=failedOf st
def b3.refl(st:SortSt):b3 st st:=⟨rfl,rfl,rfl,rfl⟩
def b3.set{st aM:SortSt}(h:b3 st aM)(g:Nat):b3 st (setG aM g):=h
section
variable{M:Model}{A:Around}{E:Value->Shared->Prop}{s:Shared}{κ:SortKind}{S:Keyed->Prop}{lt:Keyed->Keyed->Bool}{a b:Array Keyed}{st aM:SortSt}
def fu{i:Nat}{Q:Keyed->SortSt->Prop}(h:i<a.size)(q:Q a[i] st):wpS M A E s (elem' a i) Q st:=by
 rw[elem'_eq,Yo h];exact Ys q
def Ja(O:eS M A E s κ S lt)(au:kindOf st=κ){key:Keyed}{j:Nat}(h:j<a.size)(ab:S key)(ax:S a[j]){Q:Option Bool->SortSt->Prop}(q:Q (some (!lt key a[j])) st):wpS M A E s (jA false key a j) Q st:=by
 unfold jA;refine Yn (fu h ?_);show wpS M A E s (do return (<- lt' key a[j]).map (!·)) Q st;exact Yn (O.ask _ _ _ _ ab ax au (Ys q))
def Jb(O:eS M A E s κ S lt)(au:kindOf st=κ){key:Keyed}{j:Nat}(h:j<a.size)(ab:S key)(ax:S a[j]){Q:Option Bool->SortSt->Prop}(q:Q (some (lt a[j] key)) st):wpS M A E s (jA true key a j) Q st:=by
 unfold jA;refine Yn (fu h ?_);show wpS M A E s (lt' a[j] key) Q st;exact O.ask _ _ _ _ ax ab au q
noncomputable def hU(lt:Keyed->Keyed->Bool)(a:Array Keyed)(i n:Nat):Prop:=∀x y (ag:x<a.size) (aD:y<a.size),i<=x->x<=y->y<i+n->le lt a[x] a[y]
def xK(O:eS M A E s κ S lt)(au:kindOf st=κ){key:Keyed}{i n h:Nat}{Q:Option Nat->SortSt->Prop}(a6:∀x (ag:x<a.size),S a[x])(ab:S key)(aB:i+n<=a.size)(cF:h<n)(yt:hU lt a i n)(aJ:∀k,k<=n->(∀x (ag:x<a.size),i<=x->x<i+k->le lt a[x] key)->(∀x (ag:x<a.size),i+k<=x->x<i+n->lt key a[x]=true)->Q (some k) st):wpS M A E s (ir false key a i n h) Q st:=by
 refine CU (p:=λx=>!lt key (a.getD (i+x) key)) (λj aA Q q=>?_) cF (λx y h7 aD q=>?_) λk au J aa=>?_
 .have f5:i+j<a.size:=(by omega);refine Ja O au f5 ab (a6 _ f5) ?_;simp only[Array.getD,f5,abR]at q;exact q
 .have n3:i+x<a.size:=(by omega);have n4:i+y<a.size:=(by omega);simp only[Array.getD,n3,n4,abR,YW,Zg]at q ⊢;exact O.dE _ _ _ (a6 _ n3) (a6 _ n4) ab (yt _ _ n3 n4 (by omega) (by omega) (by omega)) q
 .refine aJ k au (λx ag b0 cU=>?_) λx ag b0 cU=>?_
  .have:=J (x-i) (by omega);have e:i+(x-i)=x:=(by omega);simp only[e,Array.getD,ag,abR,YW,Zg]at this;exact this
  .have:=aa (x-i) (by omega) (by omega);have e:i+(x-i)=x:=(by omega);simp only[e,Array.getD,ag,abR,Bool.not_eq_false',Zg]at this;exact this
def xM(O:eS M A E s κ S lt)(au:kindOf st=κ){key:Keyed}{i n h:Nat}{Q:Option Nat->SortSt->Prop}(a6:∀x (ag:x<a.size),S a[x])(ab:S key)(aB:i+n<=a.size)(cF:h<n)(yt:hU lt a i n)(aJ:∀k,k<=n->(∀x (ag:x<a.size),i<=x->x<i+k->lt a[x] key=true)->(∀x (ag:x<a.size),i+k<=x->x<i+n->le lt key a[x])->Q (some k) st):wpS M A E s (ir true key a i n h) Q st:=by
 refine CU (p:=λx=>lt (a.getD (i+x) key) key) (λj aA Q q=>?_) cF (λx y h7 aD q=>?_) λk au J aa=>?_
 .have f5:i+j<a.size:=(by omega);refine Jb O au f5 ab (a6 _ f5) ?_;simp only[Array.getD,f5,abR]at q;exact q
 .have n3:i+x<a.size:=(by omega);have n4:i+y<a.size:=(by omega);simp only[Array.getD,n3,n4,abR,Zg]at q ⊢;cases e:lt a[i+x] key with
  |true=>rfl
  |false=>rw[O.dE _ _ _ ab (a6 _ n3) (a6 _ n4) e (yt _ _ n3 n4 (by omega) (by omega) (by omega))]at q;cases q
 .refine aJ k au (λx ag b0 cU=>?_) λx ag b0 cU=>?_
  .have:=J (x-i) (by omega);have e:i+(x-i)=x:=(by omega);simp only[e,Array.getD,ag,abR,Zg]at this;exact this
  .have:=aa (x-i) (by omega) (by omega);have e:i+(x-i)=x:=(by omega);simp only[e,Array.getD,ag,abR,Zg]at this;exact this
end
structure dZ(lt:Keyed->Keyed->Bool)(a b r:List Keyed)(i j:Nat):Prop where
 perm:(r++(a.drop i++b.drop j)).Perm (a++b)
 bZ:(r++a.drop i).Pairwise (le lt)
 c3:(r++b.drop j).Pairwise (le lt)
noncomputable def ff(lt:Keyed->Keyed->Bool)(a b r:List Keyed):Prop:=r.Perm (a++b)/\r.Pairwise (le lt)
section
variable{lt:Keyed->Keyed->Bool}{a b r:List Keyed}{i j k:Nat}
def dZ.sq(h:dZ lt a b r i j)(k:Nat)(aw:∀x∈(a.drop i).take k,∀y∈b.drop j,le lt x y):dZ lt a b (r++(a.drop i).take k) (i+k) j:=by
 have e:a.drop i=(a.drop i).take k++a.drop (i+k):=by rw[<- List.drop_drop,Zi]
 refine⟨?_,?_,?_⟩
 .rw[Yr,<- Yr ((a.drop i).take k),<- e];exact h.perm
 .rw[Yr,<- e];exact h.bZ
 .have ae:=Yz.mp h.c3;have ax:=Yz.mp h.bZ;rw[e]at ax;have x3:=Yz.mp ax.2.1;rw[Yr];refine Yz.mpr ⟨ae.1,Yz.mpr ⟨x3.1,ae.2.1,aw⟩,λx ag y aD=>?_⟩;rcases Yq.mp aD with aD|aD
  .exact ax.2.2 x ag y (List.mem_append_left _ aD)
  .exact ae.2.2 x ag y aD
def dZ.sr(h:dZ lt a b r i j)(k:Nat)(aw:∀x∈(b.drop j).take k,∀y∈a.drop i,le lt x y):dZ lt a b (r++(b.drop j).take k) i (j+k):=by
 have e:b.drop j=(b.drop j).take k++b.drop (j+k):=by rw[<- List.drop_drop,Zi]
 refine⟨?_,?_,?_⟩
 .have bh:(r++(b.drop j).take k++(a.drop i++b.drop (j+k))).Perm (r++(a.drop i++b.drop j)):=by
   rw[Yr];refine Z3 r ?_;rw[<- Yr]
   conv=>rhs;rw[e,<- Yr]
   exact aap _ aax
  exact bh.trans h.perm
 .have ax:=Yz.mp h.bZ;have ae:=Yz.mp h.c3;rw[e]at ae;have jK:=Yz.mp ae.2.1;rw[Yr];refine Yz.mpr ⟨ax.1,Yz.mpr ⟨jK.1,ax.2.1,aw⟩,λx ag y aD=>?_⟩;rcases Yq.mp aD with aD|aD
  .exact ae.2.2 x ag y (List.mem_append_left _ aD)
  .exact ax.2.2 x ag y aD
 .rw[Yr,<- e];exact h.c3
def dZ.xB(h:dZ lt a b r i b.length):ff lt a b (r++a.drop i):=by
 have:=h.perm;rw[aaJ,Y1]at this;exact⟨this,h.bZ⟩
def dZ.xC(h:dZ lt a b r a.length j):ff lt a b (r++b.drop j):=by
 have:=h.perm;rw[aaJ,List.nil_append]at this;exact⟨this,h.c3⟩
def dZ.last(h:dZ lt a b r i j)(hi:i+1=a.length)(aw:∀y∈b,∀x,a[a.length-1]?=some x->le lt y x):ff lt a b (r++b.drop j++a.drop i):=by
 have e:∃x,a.drop i=[x]/\a[a.length-1]?=some x:=by
  have eh:i<a.length:=(by omega);refine⟨a[i],?_,?_⟩
  .rw[Y5 eh,aaq (by omega)]
  .rw[show a.length-1=i by omega];exact Yl eh
 obtain⟨x,e,ex⟩:=e;have ax:=Yz.mp h.bZ;have ae:=Yz.mp h.c3;refine⟨?_,?_⟩
 .refine List.Perm.trans ?_ h.perm;rw[Yr];exact Z3 r aax
 .refine Yz.mpr ⟨h.c3,by rw[e];simp,λz hz y aD=>?_⟩;rw[e]at aD;have:y=x:=(by simpa using aD);subst this;rcases Yq.mp hz with hz|hz
  .exact ax.2.2 z hz y (by rw[e];simp)
  .exact aw z (List.mem_of_mem_drop hz) y ex
end
def Cx(a:Array Keyed)(i k:Nat):(a.extract i (i+k)).toList=(a.toList.drop i).take k:=by
 rw[abp,List.extract_eq_drop_take,ab1]
def o6(a:Array Keyed)(i:Nat):(a.extract i a.size).toList=a.toList.drop i:=by
 rw[abp,List.extract_eq_drop_take,<- Array.length_toList,Zd (by rw[Zb];exact Yi _)]
def ET{l:List Keyed}{i k:Nat}{x:Keyed}(h:x∈(l.drop i).take k):∃n,∃(aB:n<l.length),i<=n/\n<i+k/\x=l[n]:=by
 obtain⟨n,aB,rfl⟩:=ZF.mp h;rw[YU,Zb]at aB;exact⟨i+n,by omega,by omega,by omega,by rw[aa7,abS]⟩
def um{l:List Keyed}{i:Nat}{x:Keyed}(h:x∈l.drop i):∃n,∃(aB:n<l.length),i<=n/\x=l[n]:=by
 obtain⟨n,aB,rfl⟩:=ZF.mp h;rw[Zb]at aB;exact⟨i+n,by omega,by omega,by rw[abS]⟩
def take1{l:List Keyed}{i:Nat}(h:i<l.length):(l.drop i).take 1=[l[i]]:=by
 rw[Y5 h];rfl
noncomputable abbrev nd(a b r:Array Keyed)(i j:Nat):Array Keyed:=r++a.extract i a.size++b.extract j b.size
noncomputable abbrev fb(a b r:Array Keyed)(i j:Nat):Array Keyed:=r++b.extract j b.size++a.extract i a.size
noncomputable abbrev TT:Type:=Option (Array Keyed)×Array Keyed×Nat×Nat×Nat×Nat×Nat
noncomputable def d2(a b r:Array Keyed)(i j aK ca cv:Nat):StateT SortSt Sem (ForInStep TT):=do
 let x <- elem' a i
 if i+1+1==a.size then pure (.done (some (fb a b (r.push x) (i+1) j),r.push x,i+1,j,aK,ca,cv))
 else if ca<7&&cv<7 then pure (.done (none,r.push x,i+1,j,aK,ca,cv)) else pure (.yield (none,r.push x,i+1,j,aK,ca,cv))
noncomputable def bE(a b r:Array Keyed)(i j aK ca cv:Nat):StateT SortSt Sem (ForInStep TT):=do
 let y <- elem' b j
 if j+1==b.size then pure (.done (some (nd a b (r.push y) i (j+1)),r.push y,i,j+1,aK,ca,cv))
 else do
  let x <- elem' a i
  let q <- ir true x b (j+1) (b.size-(j+1)) 0
  match q with
  |some k =>
   if k>0 then
    if j+1+k==b.size then pure (.done (some (nd a b (r.push y++b.extract (j+1) (j+1+k)) i (j+1+k)),r.push y++b.extract (j+1) (j+1+k),i,j+1+k,aK,ca,k))
    else d2 a b (r.push y++b.extract (j+1) (j+1+k)) i (j+1+k) aK ca k
   else d2 a b (r.push y) i (j+1) aK ca k
  |_=>pure (.done (some (nd a b (r.push y) i (j+1)),r.push y,i,j+1,aK,ca,cv))
noncomputable def bh(a b r:Array Keyed)(i j aK ca cv:Nat):StateT SortSt Sem (ForInStep TT):=do
 modify λs=>setG s aK
 let y <- elem' b j
 let q <- ir false y a i (a.size-i) 0
 match q with
 |some k =>
  if k>0 then
   if i+k+1==a.size then pure (.done (some (fb a b (r++a.extract i (i+k)) (i+k) j),r++a.extract i (i+k),i+k,j,aK,k,cv))
   else if i+k==a.size then pure (.done (some (nd a b (r++a.extract i (i+k)) (i+k) j),r++a.extract i (i+k),i+k,j,aK,k,cv))
   else bE a b (r++a.extract i (i+k)) (i+k) j aK k cv
  else bE a b r i j aK k cv
 |_=>pure (.done (some (nd a b r i j),r,i,j,aK,ca,cv))
section
variable{M:Model}{A:Around}{E:Value->Shared->Prop}{s:Shared}{κ:SortKind}{S:Keyed->Prop}{lt:Keyed->Keyed->Bool}{a b r:Array Keyed}{st0 st:SortSt}{i j aK ca cv N:Nat}
structure Pre(S:Keyed->Prop)(lt:Keyed->Keyed->Bool)(a b:Array Keyed):Prop where
 eQ:∀x (ag:x<a.size),S a[x]
 cK:∀x (ag:x<b.size),S b[x]
 lN:hU lt a 0 a.size
 bT:hU lt b 0 b.size
 last:∀y∈b.toList,∀x,a.toList[a.toList.length-1]?=some x->le lt y x
noncomputable def hv(lt:Keyed->Keyed->Bool)(a b:Array Keyed)(N:Nat)(r:Array Keyed)(i j:Nat):Prop:=dZ lt a.toList b.toList r.toList i j/\i+1<a.size/\j<b.size/\r.size=i+j/\N<=r.size
noncomputable def dH(lt:Keyed->Keyed->Bool)(a b:Array Keyed)(N:Nat)(t:TT):Prop:=match t.1 with
 |some res=>ff lt a.toList b.toList res.toList
 |none=>hv lt a b N t.2.1 t.2.2.1 t.2.2.2.1
noncomputable def sM(lt:Keyed->Keyed->Bool)(a b:Array Keyed)(N:Nat)(st0:SortSt)(f:ForInStep TT)(st:SortSt):Prop:=b3 st0 st/\match f with
 |.done t=>dH lt a b N t
 |.yield t=>t.1=none/\dH lt a b N t
def tn(P:Pre S lt a b)(h:dZ lt a.toList b.toList r.toList i j)(hi:i+1=a.size):ff lt a.toList b.toList (fb a b r i j).toList:=by
 show ff _ _ _ (r++b.extract j b.size++a.extract i a.size).toList;rw[YJ,YJ,o6,o6];exact h.last (by rw[Array.length_toList];exact hi) P.last
def tm(h:dZ lt a.toList b.toList r.toList i j)(aA:j=b.size):ff lt a.toList b.toList (nd a b r i j).toList:=by
 show ff _ _ _ (r++a.extract i a.size++b.extract j b.size).toList;subst aA;have e:b.toList.drop b.size=[]:=aaq (by rw[Array.length_toList];exact Yi _);rw[YJ,YJ,o6,o6,e,Y1];exact dZ.xB (by rw[Array.length_toList];exact h)
def MD(h:dZ lt a.toList b.toList r.toList i j)(hi:i=a.size):ff lt a.toList b.toList (nd a b r i j).toList:=by
 show ff _ _ _ (r++a.extract i a.size++b.extract j b.size).toList;subst hi;have e:a.toList.drop a.size=[]:=aaq (by rw[Array.length_toList];exact Yi _);rw[YJ,YJ,o6,o6,e,Y1];exact dZ.xC (by rw[Array.length_toList];exact h)
def dZ.pX(h:dZ lt a.toList b.toList r.toList i j)(hi:i<a.size)(aw:∀y (aD:y<b.size),j<=y->le lt a[i] b[y]):dZ lt a.toList b.toList (r.push a[i]).toList (i+1) j:=by
 have eh:i<a.toList.length:=by rw[Array.length_toList];exact hi
 have:=h.sq 1 (λx ag y aD=>by
  rw[take1 eh]at ag;obtain rfl:x=a.toList[i]:=(by simpa using ag);obtain⟨n,aB,b0,rfl⟩:=um aD;exact aw n (by rw[Array.length_toList]at aB;exact aB) b0)
 rw[take1 eh]at this;rw[aaA];exact this
def dZ.pY(h:dZ lt a.toList b.toList r.toList i j)(aA:j<b.size)(aw:∀y (aD:y<a.size),i<=y->le lt b[j] a[y]):dZ lt a.toList b.toList (r.push b[j]).toList i (j+1):=by
 have f5:j<b.toList.length:=by rw[Array.length_toList];exact aA
 have:=h.sr 1 (λx ag y aD=>by
  rw[take1 f5]at ag;obtain rfl:x=b.toList[j]:=(by simpa using ag);obtain⟨n,aB,b0,rfl⟩:=um aD;exact aw n (by rw[Array.length_toList]at aB;exact aB) b0)
 rw[take1 f5]at this;rw[aaA];exact this
def dZ.xv{k:Nat}(h:dZ lt a.toList b.toList r.toList i j)(aw:∀x (ag:x<a.size) y (aD:y<b.size),i<=x->x<i+k->j<=y->le lt a[x] b[y]):dZ lt a.toList b.toList (r++a.extract i (i+k)).toList (i+k) j:=by
 rw[YJ,Cx];refine h.sq k λx ag y aD=>?_
 obtain⟨n,aB,b0,cU,rfl⟩:=ET ag;obtain⟨m,hm,fm,rfl⟩:=um aD;rw[Array.length_toList]at aB hm;exact aw n aB m hm b0 cU fm
def dZ.xw{k:Nat}(h:dZ lt a.toList b.toList r.toList i j)(aw:∀x (ag:x<b.size) y (aD:y<a.size),j<=x->x<j+k->i<=y->le lt b[x] a[y]):dZ lt a.toList b.toList (r++b.extract j (j+k)).toList i (j+k):=by
 rw[YJ,Cx];refine h.sr k λx ag y aD=>?_
 obtain⟨n,aB,b0,cU,rfl⟩:=ET ag;obtain⟨m,hm,fm,rfl⟩:=um aD;rw[Array.length_toList]at aB hm;exact aw n aB m hm b0 cU fm
def Fx(P:Pre S lt a b)(g:b3 st0 st)(h:dZ lt a.toList b.toList r.toList i j)(hi:i+1<a.size)(aA:j<b.size)(a7:r.size=i+j)(aS:N<=r.size+1)(aw:∀y (aD:y<b.size),j<=y->le lt a[i] b[y]):
  wpS M A E s (d2 a b r i j aK ca cv) (sM lt a b N st0) st:=by
 unfold d2;have fB:i<a.size:=by omega
 refine Yn (fu fB ?_);have h':=h.pX fB aw
 split
 .rename_i c;have c:i+1+1=a.size:=(by simpa using c);exact Ys ⟨g,tn P h' c⟩
 .rename_i c;have c:¬i+1+1=a.size:=(by simpa using c);have cy:hv lt a b N (r.push a[i]) (i+1) j:=⟨h',by omega,aA,by rw[YL];omega,by rw[YL];exact aS⟩
  split
  .exact Ys ⟨g,cy⟩
  .exact Ys ⟨g,rfl,cy⟩
def Fw(O:eS M A E s κ S lt)(gF:kindOf st0=κ)(P:Pre S lt a b)(g:b3 st0 st)(h:dZ lt a.toList b.toList r.toList i j)(hi:i+1<a.size)(aA:j<b.size)(a7:r.size=i+j)(aS:N<=r.size+2)(aw:∀y (aD:y<a.size),i<=y->le lt b[j] a[y]):
  wpS M A E s (bE a b r i j aK ca cv) (sM lt a b N st0) st:=by
 unfold bE;have fB:i<a.size:=by omega
 refine Yn (fu aA ?_);have h':=h.pY aA aw
 split
 .rename_i c;have c:j+1=b.size:=(by simpa using c);exact Ys ⟨g,tm h' c⟩
 .rename_i c;have c:¬j+1=b.size:=(by simpa using c);refine Yn (fu fB ?_);refine Yn (xM O (g.1.trans gF) P.cK (P.eQ _ fB) (by omega) (by omega) (λx y ag aD b0 cU fm=>P.bT x y ag aD (Yp _) cU (by omega)) λk au f1 f2=>?_);dsimp only;have aa:dZ lt a.toList b.toList (r.push b[j]++b.extract (j+1) (j+1+k)).toList i (j+1+k):=h'.xw λx ag y aD b0 cU fm =>
   O.dE _ _ _ (P.cK _ ag) (P.eQ _ fB) (P.eQ _ aD) (O.hW _ _ (P.cK _ ag) (P.eQ _ fB) (f1 x ag b0 cU)) (P.lN i y fB aD (Yp _) fm (by omega))
  have eH:(r.push b[j]++b.extract (j+1) (j+1+k)).size=i+(j+1+k):=by
   rw[ZQ,YL,Zc];omega
  split
  .split
   .rename_i bA;have bA:j+1+k=b.size:=(by simpa using bA);exact Ys ⟨g,tm aa bA⟩
   .rename_i bA;have bA:¬j+1+k=b.size:=(by simpa using bA);exact Fx P g aa hi (by omega) eH (by rw[eH];omega) λy aD b0=>f2 y aD b0 (by omega)
  .have ua:k=0:=(by omega);subst ua;exact Fx P g h' hi (by omega) (by rw[YL];omega) (by rw[YL];omega) λy aD b0=>f2 y aD b0 (by omega)
def RC(O:eS M A E s κ S lt)(gF:kindOf st0=κ)(P:Pre S lt a b)(g:b3 st0 st)(h:dZ lt a.toList b.toList r.toList i j)(hi:i+1<a.size)(aA:j<b.size)(a7:r.size=i+j)(aS:N<=r.size+2):
  wpS M A E s (bh a b r i j aK ca cv) (sM lt a b N st0) st:=by
 unfold bh;refine Yn (ZS ?_);have g:=g.set aK;refine Yn (fu aA ?_);refine Yn (xK O (g.1.trans gF) P.eQ (P.cK _ aA) (by omega) (by omega) (λx y ag aD b0 cU fm=>P.lN x y ag aD (Yp _) cU (by omega)) λk au f1 f2=>?_);dsimp only;have aa:dZ lt a.toList b.toList (r++a.extract i (i+k)).toList (i+k) j:=h.xv λx ag y aD b0 cU fm =>
  O.dE _ _ _ (P.eQ _ ag) (P.cK _ aA) (P.cK _ aD) (f1 x ag b0 cU) (P.bT j y aA aD (Yp _) fm (by omega))
 have eH:(r++a.extract i (i+k)).size=i+k+j:=by
  rw[ZQ,Zc];omega
 have rest:∀y (aD:y<a.size),i+k<=y->le lt b[j] a[y]:=λy aD b0=>O.hW _ _ (P.cK _ aA) (P.eQ _ aD) (f2 y aD b0 (by omega))
 split
 .split
  .rename_i c;have c:i+k+1=a.size:=(by simpa using c);exact Ys ⟨g,tn P aa c⟩
  .rename_i c;have c:¬i+k+1=a.size:=by simpa using c
   split
   .rename_i bA;have bA:i+k=a.size:=(by simpa using bA);exact Ys ⟨g,MD aa bA⟩
   .rename_i bA;have bA:¬i+k=a.size:=(by simpa using bA);exact Fw O gF P g aa (by omega) aA eH (by rw[eH];omega) rest
 .have ua:k=0:=(by omega);subst ua;exact Fw O gF P g h hi aA a7 aS rest
end
noncomputable abbrev fS:Type:=Option (Array Keyed)×Array Keyed×Nat×Nat×Nat×Nat
noncomputable abbrev kZ:Type:=Option (Array Keyed)×Array Keyed×Nat×Nat×Nat
section
variable{M:Model}{A:Around}{E:Value->Shared->Prop}{s:Shared}{κ:SortKind}{S:Keyed->Prop}{lt:Keyed->Keyed->Bool}{a b r:Array Keyed}{st0 st:SortSt}{i j aK ca cv N:Nat}
def dY{α:Type}{c:Prop}[Decidable c]{t e:StateT SortSt Sem α}{Q:α->SortSt->Prop}(J:c->wpS M A E s t Q st)(aa:¬c->wpS M A E s e Q st):wpS M A E s (if c then t else e) Q st:=by
 by_cases h:c
 .rw[if_pos h];exact J h
 .rw[if_neg h];exact aa h
def hv.less{cY:Nat}(h:hv lt a b N r i j)(aS:cY<=N):hv lt a b cY r i j:=⟨h.1,h.2.1,h.2.2.1,h.2.2.2.1,Zk aS h.2.2.2.2⟩
def hv.no(h:hv lt a b N r i j)(aS:a.size+b.size<=N):False:=by
 obtain⟨_,J,aa,aI,aX⟩:=h;omega
theorem dH.less{t:TT}{cY:Nat}(h:dH lt a b N t)(aS:cY<=N):dH lt a b cY t:=by
 obtain⟨o,t⟩:=t;cases o with
 |some res=>exact h
 |none=>exact hv.less h aS
def sm(h:hU lt a 0 a.size):a.toList.Pairwise (le lt):=by
 rw[Z4];intro x y ag aD h7;rw[Array.length_toList]at ag aD;exact h x y ag aD (Yp _) (aaY h7) (by omega)
def QT{Q:Array Keyed->SortSt->Prop}(O:eS M A E s κ S lt)(au:kindOf st=κ)(P:Pre S lt a b)(ax:0<a.size)(ae:0<b.size)(h0:∀y (aD:y<a.size),le lt b[0] a[y])(aJ:∀res aM,b3 st aM->ff lt a.toList b.toList res.toList->Q res aM):
  wpS M A E s (y1 a b) Q st:=by
 rw[QS];refine Yn (wpS_lift (aaU ⟨rfl,?_⟩));refine Yn (fu ae ?_);have m0:dZ lt a.toList b.toList (#[]:Array Keyed).toList 0 0:=⟨abD _,sm P.lN,sm P.bT⟩;have gP:dZ lt a.toList b.toList (#[b[0]]:Array Keyed).toList 0 1:=m0.pY ae λy aD _=>h0 y aD
 refine dY (λgz=>?_) λgz=>?_
 .have c:=gz;have c:1=b.size:=(by simpa using c);exact Ys (aJ _ _ (.refl st) (tm gP c))
 .have c:=gz;have c:¬1=b.size:=(by simpa using c);refine dY (λgz=>?_) λgz=>?_
  .have bA:=gz;have bA:0+1=a.size:=(by simpa using bA);exact Ys (aJ _ _ (.refl st) (tn P gP bA))
  .have bA:=gz;have bA:¬0+1=a.size:=(by simpa using bA);refine Yn (abA ?_);refine Yn (ZH (Ze (I:=λx (c:kZ) aM=>b3 st aM/\c.1=none/\hv lt a b (x+1) c.2.1 c.2.2.1 c.2.2.2.1) (Q:=λ(c:kZ) aM=>b3 st aM/\∃res,c.1=some res/\ff lt a.toList b.toList res.toList)
    ?step ?fin ⟨.refl st,rfl,gP,by show 0+1<a.size;omega,by show 1<b.size;omega,rfl,Yi _⟩) ?post)
   case fin =>
    rintro⟨o,r,i,j,aK⟩ aM ⟨g,_,cy⟩;exact(cy.no (by rw[YY (Yp _)];omega)).elim
   case post =>
    rintro⟨o,r,i,j,aK⟩ aM ⟨g,res,rfl,m⟩;exact Ys (aJ res aM g m)
   case step =>
    rintro x ⟨o,r,i,j,aK⟩ dp _ ag ⟨g1,rfl,qv⟩;dsimp only at qv;refine Yn (ZH (Ze (I:=λy (c:fS) aM=>b3 st aM/\c.1=none/\hv lt a b (x+1+y) c.2.1 c.2.2.1 c.2.2.2.1)
     (Q:=λ(c:fS) aM=>b3 st aM/\dH lt a b (x+2) (c.1,c.2.1,c.2.2.1,c.2.2.2.1,0,0,0)) ?step2 ?fin2 ⟨g1,rfl,qv⟩) ?post2)
    case fin2 =>
     rintro⟨o,r,i,j,ca,cv⟩ aM ⟨g,_,cy⟩;exact(cy.no (by rw[YY (Yp _)];omega)).elim
    case step2 =>
     rintro y ⟨o,r,i,j,ca,cv⟩ eD _ aD ⟨g2,rfl,kV⟩;dsimp only at kV;obtain⟨h8,aP,a9,b4,dg⟩:=kV;have fB:i<a.size:=(by omega);refine Yn (fu a9 (Yn (fu fB ?_)));refine Yn (O.ask _ _ _ _ (P.cK _ a9) (P.eQ _ fB) (g2.1.trans au) ?_);cases e:lt b[j] a[i] with
     |true =>
      refine dY (λ_=>?_) λh=>absurd rfl h
      refine Yn (fu a9 ?_);have hb:=h8.pY a9 λy aD b0=>O.dE _ _ _ (P.cK _ a9) (P.eQ _ fB) (P.eQ _ aD) (O.hW _ _ (P.cK _ a9) (P.eQ _ fB) e) (P.lN i y fB aD (Yp _) b0 (by omega))
      refine dY (λgz=>?_) λgz=>?_
      .have c5:=gz;have c5:j+1=b.size:=(by simpa using c5);exact Ys ⟨g2,tm hb c5⟩
      .have c5:=gz;have c5:¬j+1=b.size:=(by simpa using c5);have jx:hv lt a b (x+1+(y+1)) (r.push b[j]) i (j+1):=⟨hb,aP,by omega,by rw[YL];omega,by rw[YL];omega⟩;refine dY (λgz=>?_) λgz=>?_
       .exact Ys ⟨g2,hv.less jx (by omega)⟩
       .exact Ys ⟨g2,rfl,jx⟩
     |false =>
      refine dY (λh=>nomatch h) λ_=>?_
      refine Yn (fu fB ?_);have hb:=h8.pX fB λy aD b0=>O.dE _ _ _ (P.eQ _ fB) (P.cK _ a9) (P.cK _ aD) e (P.bT j y a9 aD (Yp _) b0 (by omega))
      refine dY (λgz=>?_) λgz=>?_
      .have c5:=gz;have c5:i+1+1=a.size:=(by simpa using c5);exact Ys ⟨g2,tn P hb c5⟩
      .have c5:=gz;have c5:¬i+1+1=a.size:=(by simpa using c5);have jx:hv lt a b (x+1+(y+1)) (r.push a[i]) (i+1) j:=⟨hb,by omega,a9,by rw[YL];omega,by rw[YL];omega⟩;refine dY (λgz=>?_) λgz=>?_
       .exact Ys ⟨g2,hv.less jx (by omega)⟩
       .exact Ys ⟨g2,rfl,jx⟩
    case post2 =>
     rintro⟨o,r,i,j,ca,cv⟩ eD ⟨g2,p⟩;cases o with
     |some res=>exact Ys ⟨g2,res,rfl,p⟩
     |none =>
      have kV:hv lt a b (x+2) r i j:=p;refine Yn (wpS_lift (aaU ⟨rfl,?_⟩));refine Yn (ZH (Ze (I:=λz (c:TT) aM=>b3 st aM/\c.1=none/\hv lt a b (x+2+z) c.2.1 c.2.2.1 c.2.2.2.1) (Q:=λ(c:TT) aM=>b3 st aM/\dH lt a b (x+2) c)
       ?step3 ?fin3 ⟨g2,rfl,kV⟩) ?post3)
      case fin3 =>
       rintro⟨o,r,i,j,aK,ca,cv⟩ aM ⟨g,_,cy⟩;exact(cy.no (by rw[YY (Yp _)];omega)).elim
      case step3 =>
       rintro z ⟨o,r,i,j,aK,ca,cv⟩ gG _ hz ⟨g3,rfl,hb,aP,a9,b4,dg⟩;dsimp only at hb aP a9 b4 dg;have go:∀rU,wpS M A E s (bh a b r i j rU ca cv) (sM lt a b (x+2+(z+1)) st) gG:=λrU=>RC O au P g3 hb aP a9 b4 (by omega)
       refine dY (λ_=>?_) λ_=>?_
       .refine ZH (go (aK-1)) λf aM hf=>?_
        cases f with
        |done t=>exact⟨hf.1,dH.less hf.2 (by omega)⟩
        |yield t =>
         obtain⟨o,t⟩:=t;obtain⟨g',rfl,hf⟩:=hf;exact⟨g',rfl,hf⟩
       .refine ZH (go aK) λf aM hf=>?_
        cases f with
        |done t=>exact⟨hf.1,dH.less hf.2 (by omega)⟩
        |yield t =>
         obtain⟨o,t⟩:=t;obtain⟨g',rfl,hf⟩:=hf;exact⟨g',rfl,hf⟩
      case post3 =>
       rintro⟨o,r,i,j,aK,ca,cv⟩ gG ⟨g3,p⟩;cases o with
       |some res=>exact Ys ⟨g3,res,rfl,p⟩
       |none=>exact Yn (ZS (Ys ⟨g3.set _,rfl,p⟩))
end
noncomputable def yY:Array Keyed->Array Keyed->StateT SortSt Sem (Array Keyed):=sortPriv% PySem.Builtin.mergeHi
def QK(a b:Array Keyed):yY a b=(do
 rule "list.sort.merge-hi"
 let oB:=a.size+b.size
 let fin (r:Array Keyed) (i j:Nat):=a.extract 0 i++b.extract 0 j++r.reverse
 let tl (r:Array Keyed) (i j:Nat):=b.extract 0 j++a.extract 0 i++r.reverse
 let mut i:=a.size-1
 let mut j:=b.size
 let mut r:Array Keyed:=#[<- elem' a i]
 if i==0 then return fin r i j
 if j==1 then return tl r i j
 let mut aK:=gallopOf (<- get)
 for _ in [0:oB] do
  let mut ca:=0
  let mut cv:=0
  for _ in [0:oB] do
   let some w <- lt' (<- elem' b (j-1)) (<- elem' a (i-1))|return fin r i j
   if w then
    i:=i-1;r:=r.push (<- elem' a i);ca:=ca+1;cv:=0
    if i==0 then return fin r i j
    if ca>=aK then break
   else
    j:=j-1;r:=r.push (<- elem' b j);cv:=cv+1;ca:=0
    if j==1 then return tl r i j
    if cv>=aK then break
  rule "list.sort.gallop"
  aK:=aK+1
  for _ in [0:oB] do
   if aK>1 then aK:=aK-1
   modify λs=>setG s aK
   let some q <- ir false (<- elem' b (j-1)) a 0 i (i-1)|return fin r i j
   let k:=i-q
   ca:=k
   if k>0 then
    r:=r++(a.extract q i).reverse;i:=q
    if i==0 then return fin r i j
   j:=j-1;r:=r.push (<- elem' b j)
   if j==1 then return tl r i j
   let some q <- ir true (<- elem' a (i-1)) b 0 j (j-1)|return fin r i j
   let k:=j-q
   cv:=k
   if k>0 then
    r:=r++(b.extract q j).reverse;j:=q
    if j==1 then return tl r i j
    if j==0 then return fin r i j
   i:=i-1;r:=r.push (<- elem' a i)
   if i==0 then return fin r i j
   if ca<7&&cv<7 then break
  aK:=aK+1
  modify λs=>setG s aK
 unsupported "internal:list.sort.merge-bound"):=rfl
structure d8(lt:Keyed->Keyed->Bool)(a b t:List Keyed)(i j:Nat):Prop where
 perm:(a.take i++b.take j++t).Perm (a++b)
 cu:(a.take i++t).Pairwise (le lt)
 cW:(b.take j++t).Pairwise (le lt)
section
variable{lt:Keyed->Keyed->Bool}{a b t:List Keyed}{i j q:Nat}
def vb(l:List Keyed){q i:Nat}(h:q<=i):l.take i=l.take q++(l.take i).drop q:=by
 conv=>lhs;rw[<- Zi q (l.take i)]
 rw[List.take_take,Nat.min_eq_left h]
def d8.sq(h:d8 lt a b t i j)(aJ:q<=i)(aw:∀x∈b.take j,∀y∈(a.take i).drop q,le lt x y):d8 lt a b ((a.take i).drop q++t) q j:=by
 have e:=vb a aJ;refine⟨?_,?_,?_⟩
 .refine List.Perm.trans ?_ h.perm
  conv=>rhs;rw[e]
  rw[Yr,Yr,Yr];refine Z3 _ ?_;rw[<- Yr,<- Yr];exact aap t aax
 .rw[<- Yr,<- e];exact h.cu
 .have ae:=Yz.mp h.cW;have ax:=h.cu;rw[e,Yr]at ax;have x3:=(Yz.mp ax).2.1;refine Yz.mpr ⟨ae.1,x3,λx ag y aD=>?_⟩;rcases Yq.mp aD with aD|aD
  .exact aw x ag y aD
  .exact ae.2.2 x ag y aD
def d8.sr(h:d8 lt a b t i j)(aJ:q<=j)(aw:∀x∈a.take i,∀y∈(b.take j).drop q,le lt x y):d8 lt a b ((b.take j).drop q++t) i q:=by
 have e:=vb b aJ;refine⟨?_,?_,?_⟩
 .refine List.Perm.trans ?_ h.perm
  conv=>rhs;rw[e]
  rw[Yr,Yr,Yr]
 .have ax:=Yz.mp h.cu;have ae:=h.cW;rw[e,Yr]at ae;have jK:=(Yz.mp ae).2.1;refine Yz.mpr ⟨ax.1,jK,λx ag y aD=>?_⟩;rcases Yq.mp aD with aD|aD
  .exact aw x ag y aD
  .exact ax.2.2 x ag y aD
 .rw[<- Yr,<- e];exact h.cW
def d8.xB(h:d8 lt a b t 0 j):ff lt a b (b.take j++t):=by
 have:=h.perm;rw[abH,List.nil_append]at this;exact⟨this,h.cW⟩
def d8.xC(h:d8 lt a b t i 0):ff lt a b (a.take i++t):=by
 have:=h.perm;rw[abH,Y1]at this;exact⟨this,h.cu⟩
def d8.first(h:d8 lt a b t i 1)(aw:∀x∈b.take 1,∀y∈a,le lt x y):ff lt a b (b.take 1++a.take i++t):=by
 have ae:=Yz.mp h.cW;refine⟨?_,?_⟩
 .refine List.Perm.trans ?_ h.perm;exact aap t aax
 .rw[Yr];refine Yz.mpr ⟨ae.1,h.cu,λx ag y aD=>?_⟩;rcases Yq.mp aD with aD|aD
  .exact aw x ag y (abq aD)
  .exact ae.2.2 x ag y aD
end
def nQ(a:Array Keyed)(q i:Nat):(a.extract q i).toList=(a.toList.take i).drop q:=by
 rw[abp,List.extract_eq_drop_take,List.drop_take]
def o5(a:Array Keyed)(i:Nat):(a.extract 0 i).toList=a.toList.take i:=by rw[nQ,List.drop_zero]
def uq{l:List Keyed}{q i:Nat}{x:Keyed}(h:x∈(l.take i).drop q):∃n,∃(aB:n<l.length),q<=n/\n<i/\x=l[n]:=by
 obtain⟨n,aB,rfl⟩:=ZF.mp h;rw[Zb,YU]at aB;exact⟨q+n,by omega,by omega,by omega,by rw[abS,aa7]⟩
def rS{l:List Keyed}{i:Nat}{x:Keyed}(h:x∈l.take i):∃n,∃(aB:n<l.length),n<i/\x=l[n]:=by
 obtain⟨n,aB,rfl⟩:=ZF.mp h;rw[YU]at aB;exact⟨n,by omega,by omega,by rw[aa7]⟩
def uf{l:List Keyed}{i:Nat}(h0:0<i)(h:i<=l.length):(l.take i).drop (i-1)=[l[i-1]'(by omega)]:=by
 have aw:(l.take i).length=i:=by rw[YU];omega
 rw[Y5 (by rw[aw];omega),aaq (by rw[aw];omega),aa7]
noncomputable abbrev nf(a b r:Array Keyed)(i j:Nat):Array Keyed:=a.extract 0 i++b.extract 0 j++r.reverse
noncomputable abbrev et(a b r:Array Keyed)(i j:Nat):Array Keyed:=b.extract 0 j++a.extract 0 i++r.reverse
noncomputable abbrev me:Type:=Option (Array Keyed)×Nat×Nat×Array Keyed×Nat×Nat×Nat
noncomputable def aI(a b r:Array Keyed)(i j aK ca cv:Nat):StateT SortSt Sem (ForInStep me):=do
 let x <- elem' a (i-1)
 if i-1==0 then pure (.done (some (nf a b (r.push x) (i-1) j),i-1,j,r.push x,aK,ca,cv))
 else if ca<7&&cv<7 then pure (.done (none,i-1,j,r.push x,aK,ca,cv)) else pure (.yield (none,i-1,j,r.push x,aK,ca,cv))
noncomputable def aa(a b r:Array Keyed)(i j aK ca cv:Nat):StateT SortSt Sem (ForInStep me):=do
 let y <- elem' b (j-1)
 if j-1==1 then pure (.done (some (et a b (r.push y) i (j-1)),i,j-1,r.push y,aK,ca,cv))
 else do
  let x <- elem' a (i-1)
  let o <- ir true x b 0 (j-1) (j-1-1)
  match o with
  |some q =>
   if j-1-q>0 then
    if q==1 then pure (.done (some (et a b (r.push y++(b.extract q (j-1)).reverse) i q),i,q,r.push y++(b.extract q (j-1)).reverse,aK,ca,j-1-q))
    else if q==0 then pure (.done (some (nf a b (r.push y++(b.extract q (j-1)).reverse) i q),i,q,r.push y++(b.extract q (j-1)).reverse,aK,ca,j-1-q))
    else aI a b (r.push y++(b.extract q (j-1)).reverse) i q aK ca (j-1-q)
   else aI a b (r.push y) i (j-1) aK ca (j-1-q)
  |_=>pure (.done (some (nf a b (r.push y) i (j-1)),i,j-1,r.push y,aK,ca,cv))
noncomputable def J(a b r:Array Keyed)(i j aK ca cv:Nat):StateT SortSt Sem (ForInStep me):=do
 modify λs=>setG s aK
 let y <- elem' b (j-1)
 let o <- ir false y a 0 i (i-1)
 match o with
 |some q =>
  if i-q>0 then
   if q==0 then pure (.done (some (nf a b (r++(a.extract q i).reverse) q j),q,j,r++(a.extract q i).reverse,aK,i-q,cv))
   else aa a b (r++(a.extract q i).reverse) q j aK (i-q) cv
  else aa a b r i j aK (i-q) cv
 |_=>pure (.done (some (nf a b r i j),i,j,r,aK,ca,cv))
section
variable{M:Model}{A:Around}{E:Value->Shared->Prop}{s:Shared}{κ:SortKind}{S:Keyed->Prop}{lt:Keyed->Keyed->Bool}{a b r:Array Keyed}{st0 st:SortSt}{i j aK ca cv N:Nat}
structure qA(S:Keyed->Prop)(lt:Keyed->Keyed->Bool)(a b:Array Keyed):Prop where
 eQ:∀x (ag:x<a.size),S a[x]
 cK:∀x (ag:x<b.size),S b[x]
 lN:hU lt a 0 a.size
 bT:hU lt b 0 b.size
 first:∀x∈b.toList.take 1,∀y∈a.toList,le lt x y
noncomputable abbrev gv(lt:Keyed->Keyed->Bool)(a b r:Array Keyed)(i j:Nat):Prop:=d8 lt a.toList b.toList r.toList.reverse i j
noncomputable def hu(lt:Keyed->Keyed->Bool)(a b:Array Keyed)(N:Nat)(r:Array Keyed)(i j:Nat):Prop:=gv lt a b r i j/\0<i/\i<=a.size/\1<j/\j<=b.size/\r.size+i+j=a.size+b.size/\N<=r.size
noncomputable def kW(lt:Keyed->Keyed->Bool)(a b:Array Keyed)(N:Nat)(t:me):Prop:=match t.1 with
 |some res=>ff lt a.toList b.toList res.toList
 |none=>hu lt a b N t.2.2.2.1 t.2.1 t.2.2.1
noncomputable def iB(lt:Keyed->Keyed->Bool)(a b:Array Keyed)(N:Nat)(st0:SortSt)(f:ForInStep me)(st:SortSt):Prop:=b3 st0 st/\match f with
 |.done t=>kW lt a b N t
 |.yield t=>t.1=none/\kW lt a b N t
def tA(P:qA S lt a b)(h:gv lt a b r i j)(aA:j=1):ff lt a.toList b.toList (et a b r i j).toList:=by
 subst aA;show ff _ _ _ (b.extract 0 1++a.extract 0 i++r.reverse).toList;rw[YJ,YJ,o5,o5,aad];exact d8.first h P.first
def tx(h:gv lt a b r i j)(hi:i=0):ff lt a.toList b.toList (nf a b r i j).toList:=by
 subst hi;show ff _ _ _ (a.extract 0 0++b.extract 0 j++r.reverse).toList;rw[YJ,YJ,o5,o5,aad,abH,List.nil_append];exact d8.xB h
def Nc(h:gv lt a b r i j)(aA:j=0):ff lt a.toList b.toList (nf a b r i j).toList:=by
 subst aA;show ff _ _ _ (a.extract 0 i++b.extract 0 0++r.reverse).toList;rw[YJ,YJ,o5,o5,aad,abH,Y1];exact d8.xC h
def d8.xv{q:Nat}(h:gv lt a b r i j)(aJ:q<=i)(aw:∀x (ag:x<b.size) y (aD:y<a.size),x<j->q<=y->y<i->le lt b[x] a[y]):gv lt a b (r++(a.extract q i).reverse) q j:=by
 show d8 lt a.toList b.toList (r++(a.extract q i).reverse).toList.reverse q j;rw[YJ,aad,aaO,List.reverse_reverse,nQ];refine d8.sq h aJ λx ag y aD=>?_
 obtain⟨n,aB,b0,rfl⟩:=rS ag;obtain⟨m,hm,cU,fm,rfl⟩:=uq aD;rw[Array.length_toList]at aB hm;exact aw n aB m hm b0 cU fm
def d8.xw{q:Nat}(h:gv lt a b r i j)(aJ:q<=j)(aw:∀x (ag:x<a.size) y (aD:y<b.size),x<i->q<=y->y<j->le lt a[x] b[y]):gv lt a b (r++(b.extract q j).reverse) i q:=by
 show d8 lt a.toList b.toList (r++(b.extract q j).reverse).toList.reverse i q;rw[YJ,aad,aaO,List.reverse_reverse,nQ];refine d8.sr h aJ λx ag y aD=>?_
 obtain⟨n,aB,b0,rfl⟩:=rS ag;obtain⟨m,hm,cU,fm,rfl⟩:=uq aD;rw[Array.length_toList]at aB hm;exact aw n aB m hm b0 cU fm
def d8.pX(h:gv lt a b r i j)(h0:0<i)(hi:i<=a.size)(aw:∀x (ag:x<b.size),x<j->le lt b[x] (a[i-1]'(by omega))):gv lt a b (r.push (a[i-1]'(by omega))) (i-1) j:=by
 have kn:i-1<a.toList.length:=by rw[Array.length_toList];omega
 have:=d8.sq (q:=i-1) h (by omega) (λx ag y aD=>by
  rw[uf h0 (by rw[Array.length_toList];exact hi)]at aD;obtain rfl:y=a.toList[i-1]'kn:=(by simpa using aD);obtain⟨n,aB,b0,rfl⟩:=rS ag;exact aw n (by rw[Array.length_toList]at aB;exact aB) b0)
 rw[uf h0 (by rw[Array.length_toList];exact hi)]at this;show d8 lt a.toList b.toList (r.push (a[i-1]'(by omega))).toList.reverse (i-1) j;rw[aaA,aaO];exact this
def d8.pY(h:gv lt a b r i j)(h0:0<j)(aA:j<=b.size)(aw:∀x (ag:x<a.size),x<i->le lt a[x] (b[j-1]'(by omega))):gv lt a b (r.push (b[j-1]'(by omega))) i (j-1):=by
 have kn:j-1<b.toList.length:=by rw[Array.length_toList];omega
 have:=d8.sr (q:=j-1) h (by omega) (λx ag y aD=>by
  rw[uf h0 (by rw[Array.length_toList];exact aA)]at aD;obtain rfl:y=b.toList[j-1]'kn:=(by simpa using aD);obtain⟨n,aB,b0,rfl⟩:=rS ag;exact aw n (by rw[Array.length_toList]at aB;exact aB) b0)
 rw[uf h0 (by rw[Array.length_toList];exact aA)]at this;show d8 lt a.toList b.toList (r.push (b[j-1]'(by omega))).toList.reverse i (j-1);rw[aaA,aaO];exact this
def C5(P:qA S lt a b)(g:b3 st0 st)(h:gv lt a b r i j)(fB:0<i)(hi:i<=a.size)(aA:1<j)(f5:j<=b.size)(a7:r.size+i+j=a.size+b.size)(aS:N<=r.size+1)(aw:∀x (ag:x<b.size),x<j->le lt b[x] (a[i-1]'(by omega))):
  wpS M A E s (aI a b r i j aK ca cv) (iB lt a b N st0) st:=by
 unfold aI;refine Yn (fu (by omega) ?_);have h':=d8.pX h fB hi aw;refine dY (λc=>?_) λc=>?_
 .have c:i-1=0:=(by simpa using c);exact Ys ⟨g,tx h' c⟩
 .have c:¬i-1=0:=(by simpa using c);have cy:hu lt a b N (r.push (a[i-1]'(by omega))) (i-1) j:=⟨h',by omega,by omega,aA,f5,by rw[YL];omega,by rw[YL];exact aS⟩;refine dY (λ_=>?_) λ_=>?_
  .exact Ys ⟨g,cy⟩
  .exact Ys ⟨g,rfl,cy⟩
def C3(O:eS M A E s κ S lt)(gF:kindOf st0=κ)(P:qA S lt a b)(g:b3 st0 st)(h:gv lt a b r i j)(fB:0<i)(hi:i<=a.size)(aA:1<j)(f5:j<=b.size)(a7:r.size+i+j=a.size+b.size)(aS:N<=r.size+2)(aw:∀x (ag:x<a.size),x<i->le lt a[x] (b[j-1]'(by omega))):wpS M A E s (aa a b r i j aK ca cv) (iB lt a b N st0) st:=by
 unfold aa;refine Yn (fu (by omega) ?_);have h':=d8.pY h (by omega) f5 aw;refine dY (λc=>?_) λc=>?_
 .have c:j-1=1:=(by simpa using c);exact Ys ⟨g,tA P h' c⟩
 .have c:¬j-1=1:=(by simpa using c);refine Yn (fu (by omega) ?_);refine Yn (xM O (g.1.trans gF) P.cK (P.eQ _ (by omega)) (by omega) (by omega) (λx y ag aD b0 cU fm=>P.bT x y ag aD (Yp _) cU (by omega)) λq aJ f1 f2=>?_);have aX:gv lt a b (r.push (b[j-1]'(by omega))++(b.extract q (j-1)).reverse) i q:=d8.xw h' aJ λx ag y aD b0 cU fm =>
   O.dE _ _ _ (P.eQ _ ag) (P.eQ _ (by omega)) (P.cK _ aD) (P.lN x (i-1) ag (by omega) (Yp _) (by omega) (by omega)) (f2 y aD (by omega) (by omega))
  have eH:(r.push (b[j-1]'(by omega))++(b.extract q (j-1)).reverse).size+i+q=a.size+b.size:=by
   rw[ZQ,YL,Array.size_reverse,Zc];omega
  have rest:∀x (ag:x<b.size),x<q->le lt b[x] (a[i-1]'(by omega)):=λx ag b0=>O.hW _ _ (P.cK _ ag) (P.eQ _ (by omega)) (f1 x ag (Yp _) (by omega))
  refine dY (λbA=>?_) λbA=>?_
  .refine dY (λc5=>?_) λc5=>?_
   .have c5:q=1:=(by simpa using c5);exact Ys ⟨g,tA P aX c5⟩
   .have c5:¬q=1:=(by simpa using c5);refine dY (λi3=>?_) λi3=>?_
    .have i3:q=0:=(by simpa using i3);exact Ys ⟨g,Nc aX i3⟩
    .have i3:¬q=0:=(by simpa using i3);exact C5 P g aX fB hi (by omega) (by omega) eH (by omega) rest
  .have e:q=j-1:=(by omega);subst e;exact C5 P g h' fB hi (by omega) (by omega) (by rw[YL];omega) (by rw[YL];omega) rest
def Nj(O:eS M A E s κ S lt)(gF:kindOf st0=κ)(P:qA S lt a b)(g:b3 st0 st)(h:gv lt a b r i j)(fB:0<i)(hi:i<=a.size)(aA:1<j)(f5:j<=b.size)(a7:r.size+i+j=a.size+b.size)(aS:N<=r.size+2):
  wpS M A E s (J a b r i j aK ca cv) (iB lt a b N st0) st:=by
 unfold J;refine Yn (ZS ?_);have g:=g.set aK;refine Yn (fu (by omega) ?_);refine Yn (xK O (g.1.trans gF) P.eQ (P.cK _ (by omega)) (by omega) (by omega) (λx y ag aD b0 cU fm=>P.lN x y ag aD (Yp _) cU (by omega)) λq aJ f1 f2=>?_);have aX:gv lt a b (r++(a.extract q i).reverse) q j:=d8.xv h aJ λx ag y aD b0 cU fm =>
  O.dE _ _ _ (P.cK _ ag) (P.cK _ (by omega)) (P.eQ _ aD) (P.bT x (j-1) ag (by omega) (Yp _) (by omega) (by omega)) (O.hW _ _ (P.cK _ (by omega)) (P.eQ _ aD) (f2 y aD (by omega) (by omega)))
 have eH:(r++(a.extract q i).reverse).size+q+j=a.size+b.size:=by
  rw[ZQ,Array.size_reverse,Zc];omega
 have rest:∀x (ag:x<a.size),x<q->le lt a[x] (b[j-1]'(by omega)):=λx ag b0=>f1 x ag (Yp _) (by omega)
 refine dY (λc=>?_) λc=>?_
 .refine dY (λbA=>?_) λbA=>?_
  .have bA:q=0:=(by simpa using bA);exact Ys ⟨g,tx aX bA⟩
  .have bA:¬q=0:=(by simpa using bA);exact C3 O gF P g aX (by omega) (by omega) aA f5 eH (by omega) rest
 .have e:q=i:=(by omega);subst e;exact C3 O gF P g h fB hi aA f5 a7 aS rest
end
noncomputable abbrev AO:Type:=Option (Array Keyed)×Nat×Nat×Array Keyed×Nat×Nat
noncomputable abbrev oN:Type:=Option (Array Keyed)×Nat×Nat×Array Keyed×Nat
section
variable{M:Model}{A:Around}{E:Value->Shared->Prop}{s:Shared}{κ:SortKind}{S:Keyed->Prop}{lt:Keyed->Keyed->Bool}{a b r:Array Keyed}{st0 st:SortSt}{i j aK ca cv N:Nat}
def hu.less{cY:Nat}(h:hu lt a b N r i j)(aS:cY<=N):hu lt a b cY r i j:=⟨h.1,h.2.1,h.2.2.1,h.2.2.2.1,h.2.2.2.2.1,h.2.2.2.2.2.1,Zk aS h.2.2.2.2.2.2⟩
def hu.no(h:hu lt a b N r i j)(aS:a.size+b.size<=N):False:=by
 obtain⟨_,J,aa,aI,aX,cc,fk⟩:=h;omega
theorem kW.less{t:me}{cY:Nat}(h:kW lt a b N t)(aS:cY<=N):kW lt a b cY t:=by
 obtain⟨o,t⟩:=t;cases o with
 |some res=>exact h
 |none=>exact hu.less h aS
def QL{Q:Array Keyed->SortSt->Prop}(O:eS M A E s κ S lt)(au:kindOf st=κ)(P:qA S lt a b)(ax:0<a.size)(ae:0<b.size)(h0:∀x (ag:x<b.size),le lt b[x] (a[a.size-1]'(by omega)))(aJ:∀res aM,b3 st aM->ff lt a.toList b.toList res.toList->Q res aM):
  wpS M A E s (yY a b) Q st:=by
 rw[QK];refine Yn (wpS_lift (aaU ⟨rfl,?_⟩));refine Yn (fu (by omega) ?_);have eb:a.toList.take a.size=a.toList:=Zd (by rw[Array.length_toList];exact Yi _);have ec:b.toList.take b.size=b.toList:=Zd (by rw[Array.length_toList];exact Yi _);have m0:gv lt a b #[] a.size b.size:=by
  refine⟨?_,?_,?_⟩
  .rw[eb,ec];simp
  .rw[eb];simpa using sm P.lN
  .rw[ec];simpa using sm P.bT
 have gP:gv lt a b #[a[a.size-1]'(by omega)] (a.size-1) b.size:=d8.pX m0 ax (Yi _) λx ag _=>h0 x ag
 refine dY (λc=>?_) λc=>?_
 .have c:a.size-1=0:=(by simpa using c);exact Ys (aJ _ _ (.refl st) (tx gP c))
 .have c:¬a.size-1=0:=(by simpa using c);refine dY (λbA=>?_) λbA=>?_
  .have bA:b.size=1:=(by simpa using bA);exact Ys (aJ _ _ (.refl st) (tA P gP bA))
  .have bA:¬b.size=1:=(by simpa using bA);refine Yn (abA ?_);refine Yn (ZH (Ze (I:=λx (c:oN) aM=>b3 st aM/\c.1=none/\hu lt a b (x+1) c.2.2.2.1 c.2.1 c.2.2.1) (Q:=λ(c:oN) aM=>b3 st aM/\∃res,c.1=some res/\ff lt a.toList b.toList res.toList)
    ?step ?fin ⟨.refl st,rfl,gP,by show 0<a.size-1;omega,by show a.size-1<=a.size;omega,by show 1<b.size;omega,Yi _,by show 1+(a.size-1)+b.size=a.size+b.size;omega,Yi _⟩) ?post)
   case fin =>
    rintro⟨o,i,j,r,aK⟩ aM ⟨g,_,cy⟩;exact(cy.no (by rw[YY (Yp _)];omega)).elim
   case post =>
    rintro⟨o,i,j,r,aK⟩ aM ⟨g,res,rfl,m⟩;exact Ys (aJ res aM g m)
   case step =>
    rintro x ⟨o,i,j,r,aK⟩ dp _ ag ⟨g1,rfl,qv⟩;dsimp only at qv;refine Yn (ZH (Ze (I:=λy (c:AO) aM=>b3 st aM/\c.1=none/\hu lt a b (x+1+y) c.2.2.2.1 c.2.1 c.2.2.1)
     (Q:=λ(c:AO) aM=>b3 st aM/\kW lt a b (x+2) (c.1,c.2.1,c.2.2.1,c.2.2.2.1,0,0,0)) ?step2 ?fin2 ⟨g1,rfl,qv⟩) ?post2)
    case fin2 =>
     rintro⟨o,i,j,r,ca,cv⟩ aM ⟨g,_,cy⟩;exact(cy.no (by rw[YY (Yp _)];omega)).elim
    case step2 =>
     rintro y ⟨o,i,j,r,ca,cv⟩ eD _ aD ⟨g2,rfl,kV⟩;dsimp only at kV;obtain⟨h8,iO,aP,a9,iP,b4,dg⟩:=kV;have lq:i-1<a.size:=(by omega);have jO:j-1<b.size:=(by omega);refine Yn (fu jO (Yn (fu lq ?_)));refine Yn (O.ask _ _ _ _ (P.cK _ jO) (P.eQ _ lq) (g2.1.trans au) ?_);cases e:lt (b[j-1]'jO) (a[i-1]'lq) with
     |true =>
      refine dY (λ_=>?_) λh=>absurd rfl h
      refine Yn (fu lq ?_);have hb:=d8.pX h8 iO aP λx ag b0=>O.dE _ _ _ (P.cK _ ag) (P.cK _ jO) (P.eQ _ lq) (P.bT x (j-1) ag jO (Yp _) (by omega) (by omega)) (O.hW _ _ (P.cK _ jO) (P.eQ _ lq) e)
      refine dY (λc5=>?_) λc5=>?_
      .have c5:i-1=0:=(by simpa using c5);exact Ys ⟨g2,tx hb c5⟩
      .have c5:¬i-1=0:=(by simpa using c5);have jx:hu lt a b (x+1+(y+1)) (r.push (a[i-1]'lq)) (i-1) j:=⟨hb,by omega,by omega,a9,iP,by rw[YL];omega,by rw[YL];omega⟩;refine dY (λ_=>?_) λ_=>?_
       .exact Ys ⟨g2,hu.less jx (by omega)⟩
       .exact Ys ⟨g2,rfl,jx⟩
     |false =>
      refine dY (λh=>nomatch h) λ_=>?_
      refine Yn (fu jO ?_);have hb:=d8.pY h8 (by omega) iP λx ag b0=>O.dE _ _ _ (P.eQ _ ag) (P.eQ _ lq) (P.cK _ jO) (P.lN x (i-1) ag lq (Yp _) (by omega) (by omega)) e
      refine dY (λc5=>?_) λc5=>?_
      .have c5:j-1=1:=(by simpa using c5);exact Ys ⟨g2,tA P hb c5⟩
      .have c5:¬j-1=1:=(by simpa using c5);have jx:hu lt a b (x+1+(y+1)) (r.push (b[j-1]'jO)) i (j-1):=⟨hb,iO,aP,by omega,by omega,by rw[YL];omega,by rw[YL];omega⟩;refine dY (λ_=>?_) λ_=>?_
       .exact Ys ⟨g2,hu.less jx (by omega)⟩
       .exact Ys ⟨g2,rfl,jx⟩
    case post2 =>
     rintro⟨o,i,j,r,ca,cv⟩ eD ⟨g2,p⟩;cases o with
     |some res=>exact Ys ⟨g2,res,rfl,p⟩
     |none =>
      have kV:hu lt a b (x+2) r i j:=p;refine Yn (wpS_lift (aaU ⟨rfl,?_⟩));refine Yn (ZH (Ze (I:=λz (c:me) aM=>b3 st aM/\c.1=none/\hu lt a b (x+2+z) c.2.2.2.1 c.2.1 c.2.2.1) (Q:=λ(c:me) aM=>b3 st aM/\kW lt a b (x+2) c)
       ?step3 ?fin3 ⟨g2,rfl,kV⟩) ?post3)
      case fin3 =>
       rintro⟨o,i,j,r,aK,ca,cv⟩ aM ⟨g,_,cy⟩;exact(cy.no (by rw[YY (Yp _)];omega)).elim
      case step3 =>
       rintro z ⟨o,i,j,r,aK,ca,cv⟩ gG _ hz ⟨g3,rfl,hb,iO,aP,a9,iP,b4,dg⟩;dsimp only at hb iO aP a9 iP b4 dg;have go:∀rU,wpS M A E s (J a b r i j rU ca cv) (iB lt a b (x+2+(z+1)) st) gG:=λrU=>Nj O au P g3 hb iO aP a9 iP b4 (by omega)
       refine dY (λ_=>?_) λ_=>?_
       .refine ZH (go (aK-1)) λf aM hf=>?_
        cases f with
        |done t=>exact⟨hf.1,kW.less hf.2 (by omega)⟩
        |yield t =>
         obtain⟨o,t⟩:=t;obtain⟨g',rfl,hf⟩:=hf;exact⟨g',rfl,hf⟩
       .refine ZH (go aK) λf aM hf=>?_
        cases f with
        |done t=>exact⟨hf.1,kW.less hf.2 (by omega)⟩
        |yield t =>
         obtain⟨o,t⟩:=t;obtain⟨g',rfl,hf⟩:=hf;exact⟨g',rfl,hf⟩
      case post3 =>
       rintro⟨o,i,j,r,aK,ca,cv⟩ gG ⟨g3,p⟩;cases o with
       |some res=>exact Ys ⟨g3,res,rfl,p⟩
       |none=>exact Yn (ZS (Ys ⟨g3.set _,rfl,p⟩))
end
def QA(i:Nat):mergeAt' i=(do
 let s <- get
 let (some (u,n,fp),some (v,m,_)):=((pendingOf s)[i]?,(pendingOf s)[i+1]?)|unsupported "internal:list.sort.pending"
 set (setPending s (((pendingOf s).setIfInBounds i (u,n+m,fp)).eraseIdxIfInBounds (i+1)))
 let some k <- ir false (<- elem' (arrOf s) v) (arrOf s) u n 0|return false
 let (u,n):=(u+k,n-k)
 if n==0 then return true
 let some m <- ir true (<- elem' (arrOf s) (u+n-1)) (arrOf s) v m (m-1)|return false
 if m==0 then return true
 let x:=(arrOf s).extract u v
 let y:=(arrOf s).extract v (v+m)
 let out <- if n<=m then y1 x y else yY x y
 modify λs=>setArr s (out.toList.zipIdx.foldl (λa (p,j)=>a.setIfInBounds (u+j) p) (arrOf s))
 return (failedOf (<- get)).isNone):=rfl
theorem CJ:∀(m:List Keyed)(arr:Array Keyed)(k o:Nat),k+o+m.length<=arr.size->((m.zipIdx o).foldl (λa (p:Keyed×Nat)=>a.setIfInBounds (k+p.2) p.1) arr).toList=arr.toList.take (k+o)++m++arr.toList.drop (k+o+m.length)
 |[],arr,k,o,h=>by simp
 |x::m,arr,k,o,h=>by
  rw[List.zipIdx_cons,List.foldl_cons];rw[List.length_cons]at h;rw[CJ m _ k (o+1) (by rw[Array.size_setIfInBounds];omega)];rw[Array.toList_setIfInBounds];dsimp only;have aw:k+o<arr.toList.length:=(by rw[Array.length_toList];omega);rw[show k+(o+1)=k+o+1 by omega,List.take_set,List.drop_set_of_lt (by omega),List.length_cons];have e:(arr.toList.take (k+o+1)).set (k+o) x=arr.toList.take (k+o)++[x]:=by
   rw[List.take_succ_eq_append_getElem aw];rw[abb _ _ (by rw[YU];omega)];congr 1;rw[YU,Nat.min_eq_left (by omega),aci];rfl
  rw[e,show k+o+1+m.length=k+o+(m.length+1) by omega];simp only[Yr,List.cons_append,List.nil_append]
def MS(m:List Keyed)(arr:Array Keyed)(k:Nat)(h:k+m.length<=arr.size):(m.zipIdx.foldl (λa (p:Keyed×Nat)=>a.setIfInBounds (k+p.2) p.1) arr).toList=arr.toList.take k++m++arr.toList.drop (k+m.length):=CJ m arr k 0 h
section
variable{M:Model}{A:Around}{E:Value->Shared->Prop}{s:Shared}{κ:SortKind}{S:Keyed->Prop}{lt:Keyed->Keyed->Bool}{st:SortSt}
def kl{a:Array Keyed}{p q x:Nat}(h:x<(a.extract p q).size):∃(h':p+x<a.size),(a.extract p q)[x]=a[p+x]:=by
 rw[Zc]at h;exact⟨by omega,Array.getElem_extract ..⟩
def eS.fL(O:eS M A E s κ S lt){x:Keyed}(h:S x):lt x x=false:=by
 cases e:lt x x with
 |false=>rfl
 |true=>exact(O.hW x x h h e▸e).symm▸rfl
def get3{α:Type}(A R Z:List α)(x:Nat):(A++R++Z)[x]?=if x<A.length then A[x]? else if x<A.length+R.length then R[x-A.length]? else Z[x-(A.length+R.length)]?:=by
 rw[List.getElem?_append,Yj,List.getElem?_append]
 by_cases J:x<A.length
 .rw[if_pos (by omega),if_pos J,if_pos J]
 .rw[if_neg J,if_neg J]
def R2{α:Type}(p q:List α)(x y:α):(p++x::y::q).toArray[p.length]?=some x/\(p++x::y::q).toArray[p.length+1]?=some y:=by
 constructor<;>simp[YS]
def R3{α:Type}(p q:List α)(x y z:α):((p++x::y::q).toArray.setIfInBounds p.length z).eraseIdxIfInBounds (p.length+1)=(p++z::q).toArray:=by
 apply abh.mp;rw[Array.toList_eraseIdxIfInBounds,Array.toList_setIfInBounds];show((p++x::y::q).set p.length z).eraseIdx (p.length+1)=p++z::q;rw[abb _ _ (Yi _),aci,List.eraseIdx_append_of_length_le (Nat.le_add_right _ _),ab1];rfl
def QB{Q:Bool->SortSt->Prop}{u n m:Nat}{fp FZ:Nat}{p q:List (Nat×Nat×Nat)}(O:eS M A E s κ S lt)(au:kindOf st=κ)(hf:failedOf st=none)(aE:pendingOf st=(p++(u,n,fp)::(u+n,m,FZ)::q).toArray)(aB:0<n)(hm:0<m)(hz:u+n+m<=(arrOf st).size)(a6:∀x (ag:x<(arrOf st).size),S (arrOf st)[x])(J:hU lt (arrOf st) u n)(aa:hU lt (arrOf st) (u+n) m)(aJ:∀aM,kindOf aM=κ->failedOf aM=none->pendingOf aM=(p++(u,n+m,fp)::q).toArray->(arrOf aM).toList.Perm (arrOf st).toList->(∀k,(k<u\/u+n+m<=k)->(arrOf aM)[k]?=(arrOf st)[k]?)->hU lt (arrOf aM) u (n+m)->Q true aM):wpS M A E s (mergeAt' p.length) Q st:=by
 rw[QA];refine Yn (abA ?_);simp only[aE,R2,R3];have W3:∀{Q:PUnit->SortSt->Prop}{x:SortSt},Q ⟨⟩ x->wpS M A E s (set x:StateT SortSt Sem PUnit) Q st:=λ{Q x} h=>by
  unfold wpS;rw[StateT.run_set];exact wpAny_pure ⟨rfl,h⟩
 refine Yn (W3 ?_);generalize ai:setPending st (p++(u,n+m,fp)::q).toArray=dp;have aZ:kindOf dp=κ:=by rw[<- ai];exact au
 have f1:failedOf dp=none:=by rw[<- ai];exact hf
 have bh:pendingOf dp=(p++(u,n+m,fp)::q).toArray:=by rw[<- ai]
 have a1:arrOf dp=arrOf st:=by rw[<- ai]
 generalize arrOf st=c at hz a6 J aa aJ a1 ⊢;generalize aV:u+n=v at *;have iw:v<c.size:=by omega
 refine Yn (fu iw ?_);refine Yn (xK O aZ a6 (a6 _ iw) (by omega) aB J λk au g1 g2=>?_);have all:(∀x (ag:x<c.size),u<=x->x<v->le lt c[x] c[v])->hU lt c u (n+m):=λaj x y ag aD h0 h7 aw=>by
  by_cases nI:y<v
  .exact J x y ag aD h0 h7 (by omega)
  .by_cases kf:x<v
   .exact O.dE _ _ _ (a6 _ ag) (a6 _ iw) (a6 _ aD) (aj x ag h0 kf) (aa v y iw aD (Yi _) (by omega) (by omega))
   .exact aa x y ag aD (by omega) h7 (by omega)
 refine dY (λc0=>?_) λc0=>?_
 .have c0:n-k=0:=(by simpa using c0);refine Ys (aJ dp aZ f1 bh (by rw[a1]) (λ_ _=>by rw[a1]) (by rw[a1];exact all λx ag mN l=>g1 x ag mN (by omega)))
 .have c0:¬n-k=0:=(by simpa using c0);have aw:u+k+(n-k)-1=v-1:=(by omega);rw[aw];have nZ:v-1<c.size:=(by omega);refine Yn (fu nZ ?_);refine Yn (xM O aZ a6 (a6 _ nZ) (by omega) (by omega) aa λdw tQ g3 i9=>?_);refine dY (λqO=>?_) λqO=>?_
  .have qO:dw=0:=(by simpa using qO);have hw:=all λx ag mN l=>O.dE _ _ _ (a6 _ ag) (a6 _ nZ) (a6 _ iw) (J x (v-1) ag nZ mN (by omega) (by omega)) (i9 v iw (by omega) (by omega))
   exact Ys (aJ dp aZ f1 bh (by rw[a1]) (λ_ _=>by rw[a1]) (by rw[a1];exact hw))
  .have qO:¬dw=0:=(by simpa using qO);generalize ae:u+k=b at *;have lW:(c.extract b v).size=v-b:=(by rw[Zc];omega);have oy:(c.extract v (v+dw)).size=dw:=(by rw[Zc];omega);have AM:∀x (ag:x<(c.extract b v).size),S (c.extract b v)[x]:=λx ag=>by obtain⟨h',e⟩:=kl ag;rw[e];exact a6 _ h'
   have AN:∀x (ag:x<(c.extract v (v+dw)).size),S (c.extract v (v+dw))[x]:=λx ag=>by obtain⟨h',e⟩:=kl ag;rw[e];exact a6 _ h'
   have AG:hU lt (c.extract b v) 0 (c.extract b v).size:=λx y ag aD _ h7 _=>by
    obtain⟨eR,ai⟩:=kl ag;obtain⟨iz,av⟩:=kl aD;rw[ai,av];exact J _ _ eR iz (by omega) (by omega) (by rw[lW]at aD;omega)
   have AH:hU lt (c.extract v (v+dw)) 0 (c.extract v (v+dw)).size:=λx y ag aD _ h7 _=>by
    obtain⟨eR,ai⟩:=kl ag;obtain⟨iz,av⟩:=kl aD;rw[ai,av];exact aa _ _ eR iz (by omega) (by omega) (by rw[oy]at aD;omega)
   have below:∀y (aD:y<(c.extract v (v+dw)).size),le lt (c.extract v (v+dw))[y] c[v-1]:=λy aD=>by
    obtain⟨eR,ai⟩:=kl aD;rw[ai];exact O.hW _ _ (a6 _ eR) (a6 _ nZ) (g3 _ eR (by omega) (by rw[oy]at aD;omega))
   have Eg:∀z,(c.extract b v).toList[(c.extract b v).toList.length-1]?=some z->z=c[v-1]:=λz hz=>by
    rw[Array.length_toList,lW,YF,Yo (by rw[lW];omega)]at hz;obtain⟨eR,ai⟩:=kl (a:=c) (p:=b) (q:=v) (x:=v-b-1) (by rw[lW];omega);rw[ai]at hz;cases hz;congr 1;omega
   have CE:∀x (ag:x<(c.extract b v).size),le lt c[v] (c.extract b v)[x]:=λx ag=>by
    obtain⟨eR,ai⟩:=kl ag;rw[ai];exact O.hW _ _ (a6 _ iw) (a6 _ eR) (g2 _ eR (by omega) (by rw[lW]at ag;omega))
   have H4:(c.extract v (v+dw))[0]'(by rw[oy];omega)=c[v]:=by
    obtain⟨eR,ai⟩:=kl (a:=c) (p:=v) (q:=v+dw) (x:=0) (by rw[oy];omega);rw[ai];rfl
   have fin:∀(res:Array Keyed)(eD:SortSt),b3 dp eD->ff lt (c.extract b v).toList (c.extract v (v+dw)).toList res.toList->wpS M A E s (do
     modify λs=>setArr s (res.toList.zipIdx.foldl (λa (p,j)=>a.setIfInBounds (b+j) p) (arrOf s))
     return (failedOf (<- get)).isNone) Q eD:=λres eD g aK=>by
    refine Yn (ZS (Yn (abA (Ys ?_))));have CC:failedOf eD=none:=g.2.2.2.trans f1;have Io:arrOf eD=c:=g.2.1.trans a1;have hlen:res.toList.length=v-b+dw:=(by rw[aK.1.length_eq,Yj,Array.length_toList,Array.length_toList,lW,oy]);have lb:(res.toList.zipIdx.foldl (λa (p:Keyed×Nat)=>a.setIfInBounds (b+p.2) p.1) (arrOf eD)).toList=c.toList.take b++res.toList++c.toList.drop (v+dw):=by
     rw[Io,MS _ _ _ (by rw[hlen];omega),hlen];congr 2;omega
    have dD:c.toList=c.toList.take b++((c.extract b v).toList++(c.extract v (v+dw)).toList)++c.toList.drop (v+dw):=by
     rw[nQ,nQ];have aP:c.toList.take v=c.toList.take b++(c.toList.take v).drop b:=vb _ (by omega);have a9:c.toList.take (v+dw)=c.toList.take v++(c.toList.take (v+dw)).drop v:=vb _ (by omega);rw[<- Yr,<- aP,<- a9,Zi]
    show Q (failedOf eD).isNone _;rw[CC];have Ef:(c.toList.take b).length=b:=(by rw[YU,Array.length_toList];omega);refine aJ _ (g.1.trans aZ) CC (g.2.2.1.trans bh) ?_ ?_ ?_
    .show(res.toList.zipIdx.foldl (λa (p:Keyed×Nat)=>a.setIfInBounds (b+p.2) p.1) (arrOf eD)).toList.Perm _;rw[lb]
     conv=>rhs;rw[dD]
     exact aap _ (Z3 _ aK.1)
    .intro x ag;show(res.toList.zipIdx.foldl (λa (p:Keyed×Nat)=>a.setIfInBounds (b+p.2) p.1) (arrOf eD))[x]?=_;rw[<- YF,<- YF,lb,get3,Ef,hlen]
     by_cases dk:x<b
     .rw[if_pos dk,List.getElem?_take,if_pos dk]
     .rw[if_neg dk,if_neg (by omega),abI];congr 1;omega
    .show hU lt (res.toList.zipIdx.foldl (λa (p:Keyed×Nat)=>a.setIfInBounds (b+p.2) p.1) (arrOf eD)) u (n+m);generalize res.toList.zipIdx.foldl (λa (p:Keyed×Nat)=>a.setIfInBounds (b+p.2) p.1) (arrOf eD)=cN at lb;have jV:∀x∈res.toList,∃i,∃(hi:i<c.size),b<=i/\i<v+dw/\x=c[i]:=λx ag=>by
      rcases Yq.mp (aK.1.mem_iff.mp ag) with ag|ag
      .rw[nQ]at ag;obtain⟨i,hi,b0,cU,rfl⟩:=uq ag;rw[Array.length_toList]at hi;exact⟨i,hi,b0,by omega,rfl⟩
      .rw[nQ]at ag;obtain⟨i,hi,b0,cU,rfl⟩:=uq ag;rw[Array.length_toList]at hi;exact⟨i,hi,by omega,cU,rfl⟩
     have Qs:∀i j (hi:i<c.size) (aA:j<c.size),u<=i->i<b->b<=j->j<v+m->le lt c[i] c[j]:=λi j hi aA mN b0 cU fm=>by
      by_cases Xk:j<v
      .exact J i j hi aA mN (by omega) (by omega)
      .exact O.dE _ _ _ (a6 _ hi) (a6 _ iw) (a6 _ aA) (g1 i hi mN (by omega)) (aa v j iw aA (Yi _) (by omega) (by omega))
     have HA:∀i j (hi:i<c.size) (aA:j<c.size),u<=i->i<v+dw->v+dw<=j->j<v+m->le lt c[i] c[j]:=λi j hi aA mN b0 cU fm=>by
      by_cases ci:i<v
      .exact O.dE _ _ _ (a6 _ hi) (a6 _ nZ) (a6 _ aA) (J i (v-1) hi nZ mN (by omega) (by omega)) (i9 j aA (by omega) (by omega))
      .exact aa i j hi aA (by omega) (by omega) (by omega)
     have Bc:∀x (ag:x<cN.size),c.toList.take b++res.toList++c.toList.drop (v+dw)=cN.toList->(x<b->∃(h:x<c.size),cN[x]=c[x])/\(v+dw<=x->∃(h:x<c.size),cN[x]=c[x])/\(b<=x->x<v+dw->∃(h:x-b<res.toList.length),cN[x]=res.toList[x-b]):=λx ag Lf=>by
      have g3:=get3 (c.toList.take b) res.toList (c.toList.drop (v+dw)) x;rw[Lf,Ef,hlen,YF,Yo ag]at g3;refine⟨λl=>?_,λl=>?_,λl iJ=>?_⟩
      .rw[if_pos l,List.getElem?_take,if_pos l,YF,Yo (by omega)]at g3;exact⟨by omega,YZ g3⟩
      .rw[if_neg (by omega),if_neg (by omega),abI,show v+dw+(x-(b+(v-b+dw)))=x by omega,YF]at g3;obtain⟨h,e⟩:=YT.mp g3.symm;exact⟨h,e.symm⟩
      .rw[if_neg (by omega),if_pos (by omega)]at g3;obtain⟨h,e⟩:=YG.mp g3.symm;exact⟨h,e.symm⟩
     intro x y ag aD h0 h7 aw;obtain⟨aR,bF,hp⟩:=Bc x ag lb.symm;obtain⟨qm,oF,H5⟩:=Bc y aD lb.symm
     by_cases nI:x<b
     .obtain⟨cx,ex⟩:=aR nI;rw[ex]
      by_cases kf:y<b
      .obtain⟨jh,ez⟩:=qm kf;rw[ez];exact J x y cx jh h0 h7 (by omega)
      .by_cases xd:y<v+dw
       .obtain⟨jh,ez⟩:=H5 (by omega) xd;rw[ez];obtain⟨j,aA,b0,cU,e⟩:=jV _ (aaH jh);rw[e];exact Qs x j cx aA h0 nI b0 (by omega)
       .obtain⟨jh,ez⟩:=oF (by omega);rw[ez];exact HA x y cx jh h0 (by omega) (by omega) (by omega)
     .by_cases xd:x<v+dw
      .obtain⟨cx,ex⟩:=hp (by omega) xd;rw[ex]
       by_cases kf:y<v+dw
       .obtain⟨jh,ez⟩:=H5 (by omega) kf;rw[ez]
        by_cases Mi:x=y
        .subst Mi;obtain⟨j,aA,b0,cU,e⟩:=jV _ (aaH jh);rw[e];exact O.fL (a6 _ aA)
        .exact Z4.mp aK.2 _ _ cx jh (by omega)
       .obtain⟨jh,ez⟩:=oF (by omega);rw[ez];obtain⟨j,aA,b0,cU,e⟩:=jV _ (aaH cx);rw[e];exact HA j y aA jh (by omega) cU (by omega) (by omega)
      .obtain⟨cx,ex⟩:=bF (by omega);obtain⟨jh,ez⟩:=oF (by omega);rw[ex,ez];exact aa x y cx jh (by omega) h7 (by omega)
   refine dY (λ_=>?_) λ_=>?_
   .refine Yn (QT O aZ ⟨AM,AN,AG,AH,λy aD z hz=>?_⟩ (by rw[lW];omega) (by rw[oy];omega) (λx ag=>by rw[H4];exact CE x ag) fin);rw[Eg z hz];obtain⟨i,hi,rfl⟩:=ZF.mp aD;rw[Array.length_toList]at hi;exact below i hi
   .refine Yn (QL O aZ ⟨AM,AN,AG,AH,λz hz y aD=>?_⟩ (by rw[lW];omega) (by rw[oy];omega) (λx ag=>?_) fin)
    .obtain⟨i,hi,b0,rfl⟩:=rS hz;obtain rfl:i=0:=(by omega);obtain⟨j,aA,rfl⟩:=ZF.mp aD;rw[Array.length_toList]at aA;have:=CE j aA;rw[<- H4]at this;exact this
    .have:=below x ag;have e:=Eg ((c.extract b v)[(c.extract b v).size-1]'(by rw[lW];omega)) (by rw[Array.length_toList,YF];exact Yo _);rw[e];exact this
end
noncomputable abbrev at_(c:Array Keyed)(x:Nat):Keyed:=c.getD x (Value.none,Value.none)
def nz{c:Array Keyed}{x:Nat}(h:x<c.size):at_ c x=c[x]:=by
 show c.getD x _=_;unfold Array.getD;rw[abR h];rfl
def nA{c d:Array Keyed}{x y:Nat}(h:c[x]?=d[y]?):at_ c x=at_ d y:=by
 show c.getD x _=d.getD y _;rw[Zm,Zm,h]
def jz{c:Array Keyed}{i j:Nat}(aA:j<=c.size)(k:Nat):at_ (mirror c i j ((j-i) / 2)) k=if i<=k/\k<j then at_ c (i+j-1-k) else at_ c k:=by
 have h:=getElem?_mirror (i:=i) aA ((j-i) / 2) (by omega) k
 by_cases dk:(i<=k/\k<i+(j-i) / 2)\/(j-(j-i) / 2<=k/\k<j)
 .rw[if_pos dk]at h;rw[if_pos (by omega)];exact nA h
 .rw[if_neg dk]at h
  by_cases bA:i<=k/\k<j
  .rw[if_pos bA];have:i+j-1-k=k:=(by omega);rw[this];exact nA h
  .rw[if_neg bA];exact nA h
def wa{c:Array Keyed}{k d:Nat}(au:k<c.size)(hd:d<=k)(x:Nat):at_ (bubble c k d) x=if x=k-d then at_ c k else if k-d<x/\x<=k then at_ c (x-1) else at_ c x:=by
 have h:=getElem?_bubble au d hd x
 by_cases dk:x=k-d
 .rw[if_pos dk]at h ⊢;exact nA h
 .rw[if_neg dk]at h ⊢
  by_cases bA:k-d<x/\x<=k
  .rw[if_pos bA]at h ⊢;exact nA h
  .rw[if_neg bA]at h ⊢;exact nA h
noncomputable def fc(lt:Keyed->Keyed->Bool)(c:Array Keyed)(l n:Nat):Prop:=∀x y,l<=x->x<=y->y<l+n->le lt (at_ c x) (at_ c y)
noncomputable def Dec(lt:Keyed->Keyed->Bool)(c:Array Keyed)(l n:Nat):Prop:=∀x y,l<=x->x<=y->y<l+n->le lt (at_ c y) (at_ c x)
structure dT(c d:Array Keyed)(l h:Nat):Prop where
 size:d.size=c.size
 perm:d.toList.Perm c.toList
 out:∀k,(k<l\/h<=k)->at_ d k=at_ c k
theorem dT.refl(c:Array Keyed)(l h:Nat):dT c c l h:=⟨rfl,.refl _,λ_ _=>rfl⟩
theorem dT.trans{c d e:Array Keyed}{l h:Nat}(x:dT c d l h)(y:dT d e l h):dT c e l h:=⟨y.size.trans x.size,y.perm.trans x.perm,λk q=>(y.out k q).trans (x.out k q)⟩
def dT.mono{c d:Array Keyed}{l h iJ h':Nat}(x:dT c d l h)(a:iJ<=l)(b:h<=h'):dT c d iJ h':=⟨x.size,x.perm,λk q=>x.out k (by omega)⟩
def dT.rev{c:Array Keyed}{i j:Nat}(aA:j<=c.size):dT c (mirror c i j ((j-i) / 2)) i j :=
 ⟨mirror_size ..,Array.perm_iff_toList_perm.mp (mirror_perm ..),λk q=>by rw[jz aA,if_neg (by omega)]⟩
def dT.Jo{c:Array Keyed}{k d:Nat}(au:k<c.size)(hd:d<=k):dT c (bubble c k d) (k-d) (k+1) :=
 ⟨bubble_size ..,Array.perm_iff_toList_perm.mp (bubble_perm ..),λx q=>by rw[wa au hd,if_neg (by omega),if_neg (by omega)]⟩
section
variable{M:Model}{A:Around}{E:Value->Shared->Prop}{s:Shared}{κ:SortKind}{S:Keyed->Prop}{lt:Keyed->Keyed->Bool}{st aM:SortSt}{c d:Array Keyed}{l h n:Nat}
noncomputable abbrev fH(S:Keyed->Prop)(c:Array Keyed):Prop:=∀x∈c.toList,S x
theorem fH.at_(h:fH S c){x:Nat}(ag:x<c.size):S (at_ c x):=by rw[nz ag];exact h _ (by simp)
def fH.perm(h:fH S c)(p:d.toList.Perm c.toList):fH S d:=λx ag=>h x (p.mem_iff.mp ag)
def qH(O:eS M A E s κ S lt)(au:kindOf st=κ)(a6:fH S (arrOf st)){i j:Nat}(hi:i<(arrOf st).size)(aA:j<(arrOf st).size){Q:Option Bool->SortSt->Prop}(q:Q (some (lt (at_ (arrOf st) i) (at_ (arrOf st) j))) st):wpS M A E s (ltAt' i j) Q st:=by
 rw[ltAt'_eq];refine Yn (abA ?_);show wpS _ _ _ _ (do let x <- elem' (arrOf st) i;let y <- elem' (arrOf st) j;lt' x y) Q st;refine Yn (fu hi (Yn (fu aA ?_)));rw[nz hi,nz aA]at q;exact O.ask _ _ _ _ (a6 _ (by simp)) (a6 _ (by simp)) au q
def fc.snoc(O:eS M A E s κ S lt)(a6:fH S c)(aB:l+n<c.size)(h0:0<n)(h:fc lt c l n)(q:le lt (at_ c (l+n-1)) (at_ c (l+n))):fc lt c l (n+1):=by
 intro x y J aa aI
 by_cases e:y=l+n
 .subst e
  by_cases av:x=l+n
  .subst av;exact O.fL (a6.at_ aB)
  .exact O.dE _ _ _ (a6.at_ (by omega)) (a6.at_ (by omega)) (a6.at_ aB) (h x (l+n-1) J (by omega) (by omega)) q
 .exact h x y J aa (by omega)
def Dec.snoc(O:eS M A E s κ S lt)(a6:fH S c)(aB:l+n<c.size)(h0:0<n)(h:Dec lt c l n)(q:le lt (at_ c (l+n)) (at_ c (l+n-1))):Dec lt c l (n+1):=by
 intro x y J aa aI
 by_cases e:y=l+n
 .subst e
  by_cases av:x=l+n
  .subst av;exact O.fL (a6.at_ aB)
  .exact O.dE _ _ _ (a6.at_ aB) (a6.at_ (by omega)) (a6.at_ (by omega)) q (h x (l+n-1) J (by omega) (by omega))
 .exact h x y J aa (by omega)
def fc.one(O:eS M A E s κ S lt)(a6:fH S c)(aB:l<c.size):fc lt c l 1:=λx y J aa aI=>by
 obtain rfl:x=l:=by omega
 obtain rfl:y=x:=by omega
 exact O.fL (a6.at_ aB)
def Dec.rev(h:Dec lt c l n)(aB:l+n<=c.size):fc lt (mirror c l (l+n) ((l+n-l) / 2)) l n:=by
 intro x y J aa aI;rw[jz aB,jz aB,if_pos (by omega),if_pos (by omega)];exact h _ _ (by omega) (by omega) (by omega)
def fc.Rh(h:fc lt c l n){a b:Nat}(p:dT c d a b)(q:l+n<=a\/b<=l):fc lt d l n:=λx y J aa aI=>by
 rw[p.out x (by omega),p.out y (by omega)];exact h x y J aa aI
def fc.cV(h:fc lt c l n):hU lt c l n:=λx y ag aD J aa aI=>by
 have:=h x y J aa aI;rw[nz ag,nz aD]at this;exact this
end
noncomputable def hj(l z jm:Nat):StateT SortSt Sem (Option Nat):=do
 reverseSlice' l (l+jm)
 let mut n:=jm
 for _ in [n:z] do
  let some q <- ltAt' (l+n) (l+n-1)|return none
  if q then break
  n:=n+1
 return some n
noncomputable def mx(l z jm:Nat):StateT SortSt Sem (Option Nat):=do
 rule "list.sort.descending-run"
 let mut n:=jm+1
 let mut e:=0
 for _ in [n:z] do
  let some q <- ltAt' (l+n) (l+n-1)|return none
  if q then
   if e>0 then reverseSlice' (l+n-(e+1)) (l+n)
   e:=0
  else
   let some g <- ltAt' (l+n-1) (l+n)|return none
   if g then break
   e:=e+1
  n:=n+1
 if e>0 then reverseSlice' (l+n-(e+1)) (l+n)
 hj l z n
def J9(l z:Nat):countRun' l z=(do
 let mut n:=1
 for _ in [1:z] do
  let some q <- ltAt' (l+n) (l+n-1)|return none
  if q then break
  n:=n+1
 if n==z then return some n
 if n>1 then
  let some g <- ltAt' l (l+n-1)|return none
  if g then return some n
  reverseSlice' l (l+n)
 mx l z n):=by
 rw[countRun'_eq];unfold mx hj;rfl
noncomputable def kX(st aM:SortSt):Prop:=kindOf aM=kindOf st/\pendingOf aM=pendingOf st/\failedOf aM=failedOf st
section
variable{M:Model}{A:Around}{E:Value->Shared->Prop}{s:Shared}{κ:SortKind}{S:Keyed->Prop}{lt:Keyed->Keyed->Bool}{st st0:SortSt}{l z n jm:Nat}
noncomputable def qy(lt:Keyed->Keyed->Bool)(l z:Nat)(st0:SortSt)(o:Option Nat)(aM:SortSt):Prop:=∃m,o=some m/\1<=m/\m<=z/\kX st0 aM/\dT (arrOf st0) (arrOf aM) l (l+z)/\fc lt (arrOf aM) l m
def Ba(O:eS M A E s κ S lt)(au:kindOf st=κ)(a6:fH S (arrOf st))(hz:l+z<=(arrOf st).size)(J:1<=jm)(aB:jm<=z)(h:fc lt (arrOf st) l jm){Q:Option (Option Nat)×Nat->SortSt->Prop}(aJ:∀n,jm<=n->n<=z->fc lt (arrOf st) l n->(n=z\/lt (at_ (arrOf st) (l+n)) (at_ (arrOf st) (l+n-1))=true)->Q (none,n) st):wpS M A E s (forIn [jm:z] ((none:Option (Option Nat)),jm) λx __s=>do
   let __x <- ltAt' (l+__s.snd) (l+__s.snd-1)
   match __x with
    |some q=>if q=true then pure (ForInStep.done (none,__s.snd)) else pure (ForInStep.yield (none,__s.snd+1))
    |x=>pure (ForInStep.done (some none,__s.snd))) Q st:=by
 refine Ze (I:=λx (c:Option (Option Nat)×Nat) aM=>aM=st/\c.1=none/\c.2=x/\jm<=x/\x<=z/\fc lt (arrOf st) l x) ?step ?fin ⟨rfl,rfl,rfl,Yi _,aB,h⟩
 case fin =>
  rintro⟨o,n⟩ aM ⟨rfl,rfl,rfl,aZ,aQ,br⟩;rw[YY aB]at br ⊢;exact aJ z aB (Yi _) br (.inl rfl)
 case step =>
  rintro x ⟨o,n⟩ aM _ ag ⟨rfl,rfl,e,aZ,aQ,br⟩;dsimp only at e ⊢;subst e;refine Yn (qH O au a6 (by omega) (by omega) ?_);cases e:lt (at_ (arrOf aM) (l+n)) (at_ (arrOf aM) (l+n-1)) with
  |true=>dsimp only;rw[if_pos rfl];exact Ys (aJ n aZ aQ br (.inr e))
  |false=>dsimp only;rw[if_neg (by simp)];exact Ys ⟨rfl,rfl,rfl,by omega,by omega,br.snoc O a6 (by omega) (by omega) e⟩
def Hs(O:eS M A E s κ S lt)(gF:kindOf st0=κ)(hS0:fH S (arrOf st0))(ab:kX st0 st)(aE:dT (arrOf st0) (arrOf st) l (l+z))(hz:l+z<=(arrOf st0).size)(J:1<=n)(aB:n<=z)(h:Dec lt (arrOf st) l n):wpS M A E s (hj l z n) (qy lt l z st0) st:=by
 unfold hj;rw[abi];refine Yn (ZS ?_);have jQ:l+z<=(arrOf st).size:=by rw[aE.size];exact hz
 generalize ai:setArr st (mirror (arrOf st) l (l+n) ((l+n-l) / 2))=dp;have a1:arrOf dp=mirror (arrOf st) l (l+n) ((l+n-l) / 2):=by rw[<- ai]
 have s1:kX st0 dp:=by rw[<- ai];exact ab
 have bh:dT (arrOf st0) (arrOf dp) l (l+z):=by rw[a1];exact aE.trans ((dT.rev (by omega)).mono (Yi _) (by omega))
 have eB:fc lt (arrOf dp) l n:=by rw[a1];exact h.rev (by omega)
 refine Yn (Ba O (s1.1.trans gF) (hS0.perm bh.perm) (by rw[bh.size];exact hz) J aB eB λm aZ aQ br _=>?_);exact Ys ⟨m,rfl,by omega,aQ,s1,bh,br⟩
def Jk(O:eS M A E s κ S lt){c:Array Keyed}(a6:fH S c){e:Nat}(aB:l+n<=c.size)(he:e+1<=n)(h:Dec lt c l n)(ae:∀x y,l+n-(e+1)<=x->x<l+n->l+n-(e+1)<=y->y<l+n->le lt (at_ c x) (at_ c y)):
  Dec lt (mirror c (l+n-(e+1)) (l+n) ((l+n-(l+n-(e+1))) / 2)) l n:=by
 intro x y J aa aI;rw[jz aB,jz aB]
 by_cases nI:l+n-(e+1)<=x
 .rw[if_pos (by omega),if_pos (by omega)];exact ae _ _ (by omega) (by omega) (by omega) (by omega)
 .rw[if_neg (show ¬(l+n-(e+1)<=x/\x<l+n) by omega)]
  by_cases kf:l+n-(e+1)<=y
  .rw[if_pos (by omega)];exact h _ _ J (by omega) (by omega)
  .rw[if_neg (by omega)];exact h _ _ J aa aI
structure l5(lt:Keyed->Keyed->Bool)(S:Keyed->Prop)(l z:Nat)(st0 st:SortSt)(n e:Nat):Prop where
 ss:kX st0 st
 dW:dT (arrOf st0) (arrOf st) l (l+z)
 dec:Dec lt (arrOf st) l n
 len:e+1<=n
 uy:n<=z
 eq:∀x y,l+n-(e+1)<=x->x<l+n->l+n-(e+1)<=y->y<l+n->le lt (at_ (arrOf st) x) (at_ (arrOf st) y)
def l5.turn{e:Nat}(O:eS M A E s κ S lt)(hS0:fH S (arrOf st0))(hz:l+z<=(arrOf st0).size)(h:l5 lt S l z st0 st n e):l5 lt S l z st0 (setArr st (mirror (arrOf st) (l+n-(e+1)) (l+n) ((l+n-(l+n-(e+1))) / 2))) n 0:=by
 have J:=h.len;have aa:=h.uy;have jQ:l+n<=(arrOf st).size:=by rw[h.dW.size];omega
 refine⟨h.ss,h.dW.trans ((dT.rev jQ).mono (by omega) (by omega)),Jk O (hS0.perm h.dW.perm) jQ J h.dec h.eq,by omega,h.uy,λx y aZ aQ br bY=>?_⟩;have ex:x=l+n-1:=by omega
 have ez:y=l+n-1:=by omega
 subst ex ez;have dW:dT (arrOf st0) (mirror (arrOf st) (l+n-(e+1)) (l+n) ((l+n-(l+n-(e+1))) / 2)) l (l+z):=h.dW.trans ((dT.rev jQ).mono (by omega) (by omega));exact O.fL ((hS0.perm dW.perm).at_ (by rw[dW.size];omega))
def B4(O:eS M A E s κ S lt)(gF:kindOf st0=κ)(hS0:fH S (arrOf st0))(ab:kX st0 st)(aE:dT (arrOf st0) (arrOf st) l (l+z))(hz:l+z<=(arrOf st0).size)(aB:n<z)(h:Dec lt (arrOf st) l (n+1)):wpS M A E s (mx l z n) (qy lt l z st0) st:=by
 unfold mx;refine Yn (wpS_lift (aaU ⟨rfl,?_⟩));have nK:l5 lt S l z st0 st (n+1) 0:=by
  refine⟨ab,aE,h,by omega,aB,λx y aZ aQ br bY=>?_⟩;have ex:x=l+n:=(by omega);have ez:y=l+n:=(by omega);subst ex ez;exact O.fL ((hS0.perm aE.perm).at_ (by rw[aE.size];omega))
 refine Yn (ZH (Ze (I:=λx (c:Option (Option Nat)×Nat×Nat) aM=>c.1=none/\c.2.1=x/\l5 lt S l z st0 aM x c.2.2) (Q:=λ(c:Option (Option Nat)×Nat×Nat) aM=>c.1=none/\l5 lt S l z st0 aM c.2.1 c.2.2) ?step ?fin ⟨rfl,rfl,nK⟩) ?post)
 case fin =>
  rintro⟨o,cG,e⟩ aM ⟨rfl,rfl,D⟩;exact⟨rfl,D⟩
 case post =>
  rintro⟨o,cG,e⟩ aM ⟨rfl,D⟩;dsimp only at D ⊢;refine dY (λ_=>?_) λ_=>?_
  .rw[abi];have jv:=D.turn O hS0 hz;exact Yn (ZS (Hs O gF hS0 jv.ss jv.dW hz (by have:=jv.len;omega) jv.uy jv.dec))
  .exact Hs O gF hS0 D.ss D.dW hz (by have:=D.len;omega) D.uy D.dec
 case step =>
  rintro x ⟨o,cG,e⟩ dp lA ag ⟨rfl,ai,D⟩;dsimp only at ai D ⊢;subst ai;have J:=D.len;have jQ:l+z<=(arrOf dp).size:=(by rw[D.dW.size];exact hz);have eA:=hS0.perm D.dW.perm;have mF:=D.ss.1.trans gF;refine Yn (qH O mF eA (by omega) (by omega) ?_);cases av:lt (at_ (arrOf dp) (l+cG)) (at_ (arrOf dp) (l+cG-1)) with
  |true =>
   dsimp only;rw[if_pos rfl];have next:∀eD,l5 lt S l z st0 eD cG 0->le lt (at_ (arrOf eD) (l+cG)) (at_ (arrOf eD) (l+cG-1))->l5 lt S l z st0 eD (cG+1) 0:=λeD jv q=>by
    have rA:l+z<=(arrOf eD).size:=(by rw[jv.dW.size];exact hz);have Di:=hS0.perm jv.dW.perm;refine⟨jv.ss,jv.dW,jv.dec.snoc O Di (by omega) (by omega) q,by omega,by omega,λx y aZ aQ br bY=>?_⟩;have ex:x=l+cG:=(by omega);have ez:y=l+cG:=(by omega);subst ex ez;exact O.fL (Di.at_ (by omega))
   have iO:=O.hW _ _ (eA.at_ (by omega)) (eA.at_ (by omega)) av;refine dY (λc=>?_) λc=>?_
   .rw[abi];refine Yn (ZS (Ys ⟨rfl,rfl,next _ (D.turn O hS0 hz) ?_⟩));show le lt (at_ (mirror (arrOf dp) (l+cG-(e+1)) (l+cG) ((l+cG-(l+cG-(e+1))) / 2)) (l+cG)) (at_ (mirror (arrOf dp) (l+cG-(e+1)) (l+cG) ((l+cG-(l+cG-(e+1))) / 2)) (l+cG-1));rw[jz (by omega),jz (by omega),if_neg (by omega),if_pos (by omega)];exact O.dE _ _ _ (eA.at_ (by omega)) (eA.at_ (by omega)) (eA.at_ (by omega)) iO (D.eq _ _ (by omega) (by omega) (by omega) (by omega))
   .have dD:e=0:=(by omega);subst dD;exact Ys ⟨rfl,rfl,next dp D iO⟩
  |false =>
   dsimp only;rw[if_neg (by simp)];refine Yn (qH O mF eA (by omega) (by omega) ?_);cases bu:lt (at_ (arrOf dp) (l+cG-1)) (at_ (arrOf dp) (l+cG)) with
   |true=>dsimp only;rw[if_pos rfl];exact Ys ⟨rfl,D⟩
   |false =>
    dsimp only;rw[if_neg (by simp)];refine Ys ⟨rfl,rfl,D.ss,D.dW,D.dec.snoc O eA (by omega) (by omega) bu,by show e+1+1<=cG+1;omega,by omega,λx y aZ aQ br bY=>?_⟩;have aZ:l+(cG+1)-(e+1+1)<=x:=aZ;have br:l+(cG+1)-(e+1+1)<=y:=br;have tt:∀u,l+cG-(e+1)<=u->u<l+cG->le lt (at_ (arrOf dp) u) (at_ (arrOf dp) (l+cG))/\le lt (at_ (arrOf dp) (l+cG)) (at_ (arrOf dp) u):=λu eR iz =>
     ⟨O.dE _ _ _ (eA.at_ (by omega)) (eA.at_ (by omega)) (eA.at_ (by omega)) (D.eq u (l+cG-1) eR iz (by omega) (by omega)) av,O.dE _ _ _ (eA.at_ (by omega)) (eA.at_ (by omega)) (eA.at_ (by omega)) bu (D.eq (l+cG-1) u (by omega) (by omega) eR iz)⟩
    by_cases nI:x=l+cG
    .by_cases kf:y=l+cG
     .subst nI kf;exact O.fL (eA.at_ (by omega))
     .subst nI;exact(tt y (by omega) (by omega)).2
    .by_cases kf:y=l+cG
     .subst kf;exact(tt x (by omega) (by omega)).1
     .exact D.eq x y (by omega) (by omega) (by omega) (by omega)
def Ka(O:eS M A E s κ S lt)(au:kindOf st=κ)(a6:fH S (arrOf st))(hz:l+z<=(arrOf st).size)(J:1<=z):wpS M A E s (countRun' l z) (qy lt l z st) st:=by
 rw[J9];refine Yn (Ba O au a6 hz (Yi 1) J (fc.one O a6 (by omega)) λn aZ aQ br bY=>?_);dsimp only;refine dY (λc=>?_) λc=>?_
 .exact Ys ⟨n,rfl,aZ,aQ,⟨rfl,rfl,rfl⟩,.refl ..,br⟩
 .have c:¬n=z:=(by simpa using c);have q:=O.hW _ _ (a6.at_ (by omega)) (a6.at_ (by omega)) (bY.resolve_left c);refine dY (λbA=>?_) λbA=>?_
  .refine Yn (qH O au a6 (by omega) (by omega) ?_);cases e:lt (at_ (arrOf st) l) (at_ (arrOf st) (l+n-1)) with
   |true=>dsimp only;rw[if_pos rfl];exact Ys ⟨n,rfl,aZ,aQ,⟨rfl,rfl,rfl⟩,.refl ..,br⟩
   |false =>
    dsimp only;rw[if_neg (by simp),abi];refine Yn (ZS ?_);have jQ:l+n<=(arrOf st).size:=(by omega);have dW:dT (arrOf st) (mirror (arrOf st) l (l+n) ((l+n-l) / 2)) l (l+z):=(dT.rev jQ).mono (Yi _) (by omega);have AV:∀x y,l<=x->x<l+n->l<=y->y<l+n->le lt (at_ (arrOf st) x) (at_ (arrOf st) y):=λx y eR iz vi Wx =>
     O.dE _ _ _ (a6.at_ (by omega)) (a6.at_ (by omega)) (a6.at_ (by omega)) (br x (l+n-1) eR (by omega) (by omega))
      (O.dE _ _ _ (a6.at_ (by omega)) (a6.at_ (by omega)) (a6.at_ (by omega)) e (br l y (Yi _) vi Wx))
    refine B4 (st0:=st) O au a6 ⟨rfl,rfl,rfl⟩ dW hz (by omega) ?_;show Dec lt (mirror (arrOf st) l (l+n) ((l+n-l) / 2)) l (n+1);have nK:Dec lt (mirror (arrOf st) l (l+n) ((l+n-l) / 2)) l n:=λx y eR iz vi=>by
     rw[jz jQ,jz jQ,if_pos (by omega),if_pos (by omega)];exact AV _ _ (by omega) (by omega) (by omega) (by omega)
    refine nK.snoc O (a6.perm dW.perm) (by rw[dW.size];omega) (by omega) ?_;rw[jz jQ,jz jQ,if_neg (by omega),if_pos (by omega)];exact O.dE _ _ _ (a6.at_ (by omega)) (a6.at_ (by omega)) (a6.at_ (by omega)) q (AV _ _ (by omega) (by omega) (by omega) (by omega))
  .have ia:n=1:=(by omega);subst ia;refine B4 (st0:=st) O au a6 ⟨rfl,rfl,rfl⟩ (.refl ..) hz (by omega) ?_;have nK:Dec lt (arrOf st) l 1:=λx y eR iz vi=>by
    obtain rfl:x=l:=(by omega);obtain rfl:y=x:=(by omega);exact O.fL (a6.at_ (by omega))
   exact nK.snoc O a6 (by omega) (by omega) q
end
section
variable{M:Model}{A:Around}{E:Value->Shared->Prop}{s:Shared}{κ:SortKind}{S:Keyed->Prop}{lt:Keyed->Keyed->Bool}{st st0:SortSt}{l z n ok:Nat}
def Jp(O:eS M A E s κ S lt){c:Array Keyed}(a6:fH S c){k p:Nat}(au:l+k<c.size)(aE:p<=k)(h:fc lt c l k)(J:∀x,x<p->le lt (at_ c (l+x)) (at_ c (l+k)))(aa:∀x,p<=x->x<k->le lt (at_ c (l+k)) (at_ c (l+x))):fc lt (bubble c (l+k) (k-p)) l (k+1):=by
 intro x y eR iz vi;have e:l+k-(k-p)=l+p:=by omega
 rw[wa au (by omega),wa au (by omega),e];have g1:∀u,l<=u->u<l+p->le lt (at_ c u) (at_ c (l+k)):=λu a b=>by have:=J (u-l) (by omega);rwa[show l+(u-l)=u by omega]at this
 have g2:∀u,l+p<=u->u<l+k->le lt (at_ c (l+k)) (at_ c u):=λu a b=>by have:=aa (u-l) (by omega) (by omega);rwa[show l+(u-l)=u by omega]at this
 by_cases a:x=l+p
 .rw[if_pos a]
  by_cases b:y=l+p
  .rw[if_pos b];exact O.fL (a6.at_ au)
  .rw[if_neg b,if_pos (by omega)];exact g2 _ (by omega) (by omega)
 .rw[if_neg a]
  by_cases a2:l+p<x
  .rw[if_pos (by omega),if_neg (by omega),if_pos (by omega)];exact h _ _ (by omega) (by omega) (by omega)
  .rw[if_neg (by omega)]
   by_cases b:y=l+p
   .rw[if_pos b];exact g1 _ eR (by omega)
   .rw[if_neg b]
    by_cases b2:l+p<y
    .rw[if_pos (by omega)];exact h _ _ eR (by omega) (by omega)
    .rw[if_neg (by omega)];exact h _ _ eR iz (by omega)
def Jn(O:eS M A E s κ S lt)(gF:kindOf st=κ)(hS0:fH S (arrOf st))(hz:l+n<=(arrOf st).size)(J:1<=ok)(aB:ok<=n)(h:fc lt (arrOf st) l ok){Q:Bool->SortSt->Prop}(aJ:∀aM,kX st aM->dT (arrOf st) (arrOf aM) l (l+n)->fc lt (arrOf aM) l n->Q true aM):wpS M A E s (binarySort' l n ok) Q st:=by
 rw[binarySort'_eq];rw[Nat.max_eq_left J];refine Yn (ZH (Ze (I:=λk (c:Option Bool×Unit) aM=>c=(none,())/\k<=n/\kX st aM/\dT (arrOf st) (arrOf aM) l (l+n)/\fc lt (arrOf aM) l k)
  (Q:=λ(c:Option Bool×Unit) aM=>c=(none,())/\kX st aM/\dT (arrOf st) (arrOf aM) l (l+n)/\fc lt (arrOf aM) l n) ?step ?fin ⟨rfl,aB,⟨rfl,rfl,rfl⟩,.refl ..,h⟩) ?post)
 case fin =>
  rintro c aM ⟨rfl,aZ,aQ,br,bY⟩;rw[YY aB]at bY;exact⟨rfl,aQ,br,bY⟩
 case post =>
  rintro c aM ⟨rfl,aQ,br,bY⟩;exact Ys (aJ aM aQ br bY)
 case step =>
  rintro k c dp mF yd ⟨rfl,aP,a9,b4,dg⟩;have XX:l+n<=(arrOf dp).size:=(by rw[b4.size];exact hz);have eA:=hS0.perm b4.perm;have ei:=a9.1.trans gF;refine Yn (ZH (Ze (I:=λx (c:Option Bool×Nat×Nat) aM=>aM=dp/\c.1=none/\c.2.1<=c.2.2/\c.2.2<=k/\(∀x,x<c.2.1->le lt (at_ (arrOf dp) (l+x)) (at_ (arrOf dp) (l+k)))/\(∀x,c.2.2<=x->x<k->le lt (at_ (arrOf dp) (l+k)) (at_ (arrOf dp) (l+x)))/\c.2.2-c.2.1+x<=k)
   (Q:=λ(c:Option Bool×Nat×Nat) aM=>aM=dp/\c.1=none/\c.2.1<=k/\(∀x,x<c.2.1->le lt (at_ (arrOf dp) (l+x)) (at_ (arrOf dp) (l+k)))/\∀x,c.2.1<=x->x<k->le lt (at_ (arrOf dp) (l+k)) (at_ (arrOf dp) (l+x))) ?step2 ?fin2
   ⟨rfl,rfl,Yp _,Yi _,λx ag=>absurd ag (Nat.not_lt_zero _),λx eR iz=>absurd iz (by dsimp only at eR;omega),by show k-0+0<=k;omega⟩) ?post2)
  case fin2 =>
   rintro⟨o,a,b⟩ aM ⟨rfl,rfl,aH,a5,dR,fD,f9⟩;dsimp only at aH a5 dR fD f9;rw[YY (Yp _)]at f9;have e:a=b:=(by omega);subst e;exact⟨rfl,rfl,a5,dR,fD⟩
  case step2 =>
   rintro x ⟨o,a,b⟩ aM _ ag ⟨rfl,rfl,aH,a5,dR,fD,f9⟩;dsimp only at aH a5 dR fD f9 ⊢;refine dY (λc=>?_) λc=>?_
   .have e:a=b:=(by omega);subst e;exact Ys ⟨rfl,rfl,a5,dR,fD⟩
   .have hm:(a+b) / 2<b:=(by omega);have tQ:a<=(a+b) / 2:=(by omega);refine Yn (qH O ei eA (by omega) (by omega) ?_);cases e:lt (at_ (arrOf aM) (l+k)) (at_ (arrOf aM) (l+(a+b) / 2)) with
    |true =>
     dsimp only;rw[if_pos rfl];refine Ys ⟨rfl,rfl,tQ,by dsimp only;omega,dR,λy eR iz=>?_,by dsimp only;omega⟩;exact O.dE _ _ _ (eA.at_ (by omega)) (eA.at_ (by omega)) (eA.at_ (by omega)) (O.hW _ _ (eA.at_ (by omega)) (eA.at_ (by omega)) e) (dg _ _ (by omega) (by dsimp only at eR;omega) (by omega))
    |false =>
     dsimp only;rw[if_neg (by simp)];refine Ys ⟨rfl,rfl,by dsimp only;omega,a5,λy eR=>?_,fD,by dsimp only;omega⟩;exact O.dE _ _ _ (eA.at_ (by dsimp only at eR;omega)) (eA.at_ (by omega)) (eA.at_ (by omega)) (dg _ _ (by omega) (by dsimp only at eR;omega) (by omega)) e
  case post2 =>
   rintro⟨o,p,b⟩ aM ⟨rfl,rfl,a5,dR,fD⟩;dsimp only at a5 dR fD ⊢;rw[moveDown'_eq];refine Yn (ZS (Ys ⟨rfl,by omega,a9,?_,?_⟩))
   .show dT (arrOf st) (bubble (arrOf aM) (l+k) (l+k-(l+p))) l (l+n);exact b4.trans ((dT.Jo (by omega) (by omega)).mono (by omega) (by omega))
   .show fc lt (bubble (arrOf aM) (l+k) (l+k-(l+p))) l (k+1);rw[show l+k-(l+p)=k-p by omega];exact Jp O eA (by omega) a5 dg dR fD
end
noncomputable def Runs(lt:Keyed->Keyed->Bool)(c:Array Keyed):Nat->List (Nat×Nat×Nat)->Nat->Prop
 |a,[],b=>a=b
 |a,r::P,b=>r.1=a/\0<r.2.1/\fc lt c a r.2.1/\Runs lt c (a+r.2.1) P b
def QV{α:Type}(P:List α)(r:α)(g:α->α):(P++[r]).toArray.modify ((P++[r]).toArray.size-1) g=(P++[g r]).toArray:=by
 apply abh.mp;rw[Array.toList_modify];show(P++[r]).modify ((P++[r]).length-1) g=P++[g r];rw[Yj,List.length_singleton,Nat.add_sub_cancel]
 induction P with
 |nil=>rfl
 |cons x P aF=>exact Zr (x::·) aF
section
variable{lt:Keyed->Keyed->Bool}{c d:Array Keyed}
theorem Runs.len:∀{P:List (Nat×Nat×Nat)}{a b:Nat},Runs lt c a P b->a+P.length<=b
 |[],_,_,h=>Nat.le_of_eq h
 |r::P,a,b,⟨_,J,_,h⟩=>by have:=Runs.len h;rw[List.length_cons];omega
theorem Runs.app:∀{P Q:List (Nat×Nat×Nat)}{a b:Nat},Runs lt c a (P++Q) b<->∃m,Runs lt c a P m/\Runs lt c m Q b
 |[],_,a,b=>⟨λh=>⟨a,rfl,h⟩,λ⟨m,J,aa⟩=>by cases (show a=m from J);exact aa⟩
 |r::P,_,a,b=>⟨λ⟨J,aa,aI,h⟩=>let ⟨m,aP,a9⟩:=Runs.app.mp h;⟨m,⟨J,aa,aI,aP⟩,a9⟩,λ⟨m,⟨J,aa,aI,aP⟩,a9⟩=>⟨J,aa,aI,Runs.app.mpr ⟨m,aP,a9⟩⟩⟩
theorem Runs.same:∀{P:List (Nat×Nat×Nat)}{a b:Nat},Runs lt c a P b->(∀k,a<=k->k<b->at_ d k=at_ c k)->Runs lt d a P b
 |[],_,_,h,_=>h
 |r::P,a,b,⟨J,aa,aI,h⟩,e=>by
  have:=h.len;exact⟨J,aa,λx y aP a9 b4=>by rw[e x (by omega) (by omega),e y (by omega) (by omega)];exact aI x y aP a9 b4,h.same λk aP a9=>e k (by omega) a9⟩
end
section
variable{M:Model}{A:Around}{E:Value->Shared->Prop}{s:Shared}{κ:SortKind}{S:Keyed->Prop}{lt:Keyed->Keyed->Bool}{st st0:SortSt}
def EY{Q:Bool->SortSt->Prop}{i b:Nat}{P:List (Nat×Nat×Nat)}(O:eS M A E s κ S lt)(au:kindOf st=κ)(hf:failedOf st=none)(aE:pendingOf st=P.toArray)(hi:i+1<P.length)(R:Runs lt (arrOf st) 0 P b)(ae:b<=(arrOf st).size)(a6:fH S (arrOf st))(aJ:∀aM hT,kindOf aM=κ->failedOf aM=none->pendingOf aM=hT.toArray->hT.length+1=P.length->dT (arrOf st) (arrOf aM) 0 b->Runs lt (arrOf aM) 0 hT b->Q true aM):wpS M A E s (mergeAt' i) Q st:=by
 obtain⟨p,x,y,q,e,aw⟩:∃p x y q,P=p++x::y::q/\p.length=i:=⟨P.take i,P[i],P[i+1],P.drop (i+2),by
  rw[List.getElem_cons_drop,List.getElem_cons_drop,Zi],by rw[YU];omega⟩
 subst e aw;obtain⟨u,n,fp⟩:=x;obtain⟨v,m,FZ⟩:=y;obtain⟨m0,Im,aH,a5,dR,fD,f9,uM,ft⟩:=Runs.app.mp R;dsimp only at aH a5 dR fD f9 uM ft;subst aH fD;have L:=ft.len;refine QB O au hf aE a5 f9 (by omega) (λx ag=>a6 _ (by simp)) dR.cV uM.cV λaM cX cC fa hQ j6 j7=>?_
 have eH:(arrOf aM).size=(arrOf st).size:=by rw[<- Array.length_toList,<- Array.length_toList];exact hQ.length_eq
 have dW:dT (arrOf st) (arrOf aM) u (u+n+m):=⟨eH,hQ,λk au=>nA (j6 k au)⟩;refine aJ aM (p++(u,n+m,fp)::q) cX cC fa (by simp only[Yj,List.length_cons];omega) (dW.mono (Yp _) (by omega)) (Runs.app.mpr ⟨u,Im.same λk _ h=>dW.out k (.inl h),rfl,by dsimp only;omega,λx y J aa aI=>?_,?_⟩)
 .dsimp only at aI;rw[nz (by omega),nz (by omega)];exact j7 x y _ _ J aa aI
 .dsimp only;rw[<- Nat.add_assoc];exact ft.same λk h _=>dW.out k (.inr h)
noncomputable def AJ(lt:Keyed->Keyed->Bool)(st0:SortSt)(N x:Nat)(c:Option Unit×Nat)(st:SortSt):Prop:=c.1=none/\kindOf st=kindOf st0/\failedOf st=none/\dT (arrOf st0) (arrOf st) 0 N/\(x<=c.2\/c.2=N)/\c.2<=N/\∃P,pendingOf st=P.toArray/\Runs lt (arrOf st) 0 P c.2
noncomputable def AK(lt:Keyed->Keyed->Bool)(st0:SortSt)(b:Nat)(st:SortSt):Prop:=kindOf st=kindOf st0/\failedOf st=none/\dT (arrOf st0) (arrOf st) 0 b/\∃P,P≠[]/\pendingOf st=P.toArray/\Runs lt (arrOf st) 0 P b
def To {Q : Unit -> SortSt -> Prop} (O : eS M A E s κ S lt) (au : kindOf st = κ) (hf : failedOf st = none) (aE : pendingOf st = #[]) (a6 : fH S (arrOf st)) (aa : 2 <= (arrOf st).size)
    (aJ : ∀ aM, failedOf aM = none -> (arrOf aM).toList.Perm (arrOf st).toList -> (arrOf aM).toList.Pairwise (le lt) -> Q () aM) : wpS M A E s sortRuns' Q st := by
  rw [sortRuns'_eq]
  refine Yn (abA ?_)
  dsimp only
  generalize XM : minRun' (arrOf st).size (arrOf st).size 0 = y3
  generalize aS : (arrOf st).size = N at aa ⊢
  refine Yn (ZH (Ze (I := AJ lt st N) (Q := fun (c : Option Unit × Nat) aM => AJ lt st N 0 c aM /\ c.2 = N) ?step ?fin ⟨rfl, rfl, hf, .refl .., .inl (Yi _), Yp _, [], aE, rfl⟩) ?post)
  case fin =>
    rintro c aM ⟨aP, a9, b4, dg, hh, m1, kH⟩
    rw [YY (Yp _)] at hh
    exact ⟨⟨aP, a9, b4, dg, .inl (Yp _), m1, kH⟩, by omega⟩
  case step =>
    rintro x ⟨o, lo⟩ dp _ ag ⟨rfl, aZ, aQ, br, bY, fU, P, lF, mM⟩
    dsimp only at bY fU lF mM ⊢
    have ei : kindOf dp = κ := aZ.trans au
    have eA := a6.perm br.perm
    have hsz : (arrOf dp).size = N := br.size.trans aS
    refine dY (fun c => Ys ⟨⟨rfl, aZ, aQ, br, .inl (Yp _), fU, P, lF, mM⟩, by dsimp only; omega⟩) fun c => ?_
    refine Yn (ZH (Ka (l := lo) (z := N - lo) O ei eA (by rw [hsz]; omega) (by omega)) ?_)
    rintro o eD ⟨m, rfl, gP, h8, s2, bE, e6⟩
    refine dY (fun bA => ?b1) fun bA => ?b2
    case' b1 =>
      refine Yn (wpS_lift (aaU ⟨rfl, ?_⟩))
      refine Yn (Jn O (s2.1.trans ei) (eA.perm bE.perm) (by rw [bE.size, hsz]; omega) gP (by omega) e6 fun gG s3 d2 jR => ?_)
      rw [if_neg (by simp)]
      have m2 : kX dp gG := ⟨s3.1.trans s2.1, s3.2.1.trans s2.2.1, s3.2.2.trans s2.2.2⟩
      have r3 : dT (arrOf dp) (arrOf gG) lo (lo + (N - lo)) := bE.trans (d2.mono (Yi _) (by omega))
      have rQ : 1 <= min (N - lo) y3 := by omega
      have yW : min (N - lo) y3 <= N - lo := by omega
      clear s2 bE e6 s3 d2 gP h8 bA
      clear eD
      revert rQ yW jR
      generalize min (N - lo) y3 = dw
      intro jR rQ yW
    case' b2 =>
      clear bA
      have h := And.intro s2 (And.intro bE (And.intro e6 (And.intro gP h8)))
      clear s2 bE e6 gP h8
      revert h
      generalize m = dw
      generalize eD = gG
      rintro ⟨m2, r3, jR, rQ, yW⟩
    all_goals
      refine Yn (abA ?_)
      have ba : pendingOf gG = P.toArray := m2.2.1.trans lF
      have Vh : (arrOf gG).size = N := r3.size.trans hsz
      have vS : Runs lt (arrOf gG) 0 P lo := mM.same fun k _ h => r3.out k (.inl h)
      have P3 : dT (arrOf st) (arrOf gG) 0 N := br.trans (r3.mono (Yp _) (by omega))
      rcases aau P with rfl | ⟨Ik, ⟨a1, a2, a3⟩, rfl⟩
      · rw [ba]
        cases (show 0 = lo from vS)
        refine Yn (ZS (Ys ⟨rfl, m2.1.trans aZ, m2.2.2.trans aQ, P3, by dsimp only; omega, by dsimp only; omega, [(0, dw, 0)], ?_, rfl, rQ, jR, rfl⟩))
        show (pendingOf gG).push _ = _
        rw [ba]
        rfl
      · rw [aav] at ba vS
        rw [ba, show (Ik ++ [(a1, a2, a3)]).toArray.back? = some (a1, a2, a3) by simp]
        dsimp only
        generalize power' N (2 * a1 + a2) (2 * a1 + a2 + a2 + dw) N = fp
        refine Yn (ZH (Ze (I := fun x (c : Option Unit × Unit) aM => c = (none, ()) /\ AK lt gG lo aM) (Q := fun (c : Option Unit × Unit) aM => c = (none, ()) /\ AK lt gG lo aM) ?a1 ?a2 ⟨rfl, rfl, m2.2.2.trans aQ, .refl .., _, by simp, ba, vS⟩) ?a3)
        case a2 => exact fun c aM h => h
        case a1 =>
          rintro x c aM _ _ ⟨rfl, lE, rI, mK, hT, rH, n6, pD⟩
          refine Yn (abA ?_)
          rw [n6]
          rcases ay : (if hT.toArray.size > 1 then hT.toArray[hT.toArray.size - 2]? else none) with _ | ⟨mW, jX, X3⟩
          · exact Ys ⟨rfl, lE, rI, mK, hT, rH, n6, pD⟩
          · have aa : 1 < hT.length := by
              by_cases h : hT.toArray.size > 1
              · exact h
              · rw [if_neg h] at ay; cases ay
            refine dY (fun _ => Ys ⟨rfl, lE, rI, mK, hT, rH, n6, pD⟩) fun _ => ?_
            refine Yn (EY O (lE.trans (m2.1.trans ei)) rI n6 (show hT.length - 2 + 1 < hT.length by omega) pD (by rw [mK.size, Vh]; omega) ((eA.perm r3.perm).perm mK.perm) fun U4 vP cX cC fa hQ j6 j7 => ?_)
            rw [if_neg (by simp)]
            exact Ys ⟨rfl, cX.trans (m2.1.trans ei).symm, cC, mK.trans j6, vP, fun e => by rw [e] at hQ; rw [<- hQ] at aa; exact absurd aa (by decide), fa, j7⟩
        case a3 =>
          rintro c aM ⟨rfl, lE, rI, mK, hT, rH, n6, pD⟩
          rcases aau hT with rfl | ⟨Il, ⟨b1, b2, eL⟩, rfl⟩
          · exact absurd rfl rH
          rw [aav] at n6 pD
          obtain ⟨uu, aH, a5, dR, fD, f9⟩ := Runs.app.mp pD
          refine Yn (ZS (Yn (ZS (Ys ⟨rfl, lE.trans (m2.1.trans aZ), rI, P3.trans (mK.mono (Yi _) fU), by dsimp only; omega, by dsimp only; omega, (Il ++ [(b1, b2, fp)]) ++ [(lo, dw, 0)], ?_, Runs.app.mpr ⟨lo, Runs.app.mpr ⟨uu, aH, a5, dR, fD, f9⟩, rfl, rQ, ?_, rfl⟩⟩))))
          · show ((pendingOf aM).modify ((pendingOf aM).size - 1) _).push _ = _
            rw [n6, QV]
            exact List.push_toArray _ _
          · exact jR.Rh mK (.inr (Yi _))
  case post =>
    rintro ⟨o, lo⟩ dp ⟨⟨rfl, aZ, aQ, br, -, -, P, lF, mM⟩, rfl⟩
    have ei : kindOf dp = κ := aZ.trans au
    have eA := a6.perm br.perm
    have hsz : (arrOf dp).size = lo := br.size.trans aS
    refine Yn (ZH (Ze (I := fun x (c : Option Unit × Unit) aM => c = (none, ()) /\ kindOf aM = κ /\ failedOf aM = none /\ dT (arrOf st) (arrOf aM) 0 lo /\ ∃ P, (P.length <= 1 \/ P.length + x <= lo) /\ pendingOf aM = P.toArray /\ Runs lt (arrOf aM) 0 P lo)
      (Q := fun (c : Option Unit × Unit) aM => c = (none, ()) /\ failedOf aM = none /\ dT (arrOf st) (arrOf aM) 0 lo /\ ∃ P, P.length <= 1 /\ Runs lt (arrOf aM) 0 P lo) ?step2 ?fin2 ⟨rfl, ei, aQ, br, P, .inr (by have := mM.len; omega), lF, mM⟩) ?post2)
    case fin2 =>
      rintro c aM ⟨rfl, aP, a9, b4, P, dg, hh, m1⟩
      rw [YY (Yp _)] at dg
      exact ⟨rfl, a9, b4, P, by omega, m1⟩
    case post2 =>
      rintro c aM ⟨rfl, aP, a9, P, b4, dg⟩
      refine Ys (aJ aM aP a9.perm ?_)
      have hz : (arrOf aM).size = lo := a9.size.trans aS
      match P, b4, dg with
      | [], _, e => cases (show 0 = lo from e); omega
      | [r], _, ⟨ai, av, bu, dU⟩ =>
        have dU : 0 + r.2.1 = lo := dU
        refine sm ?_
        rw [hz, <- dU, aal]
        exact bu.cV
    case step2 =>
      rintro y c aM _ aD ⟨rfl, aP, a9, b4, P, dg, hh, m1⟩
      refine Yn (abA ?_)
      rw [hh]
      refine dY (fun h => Ys ⟨rfl, a9, b4, P, h, m1⟩) fun h => ?_
      have h : ¬ P.length <= 1 := h
      refine Yn (EY O aP a9 hh ?_ m1 (by rw [b4.size, aS]; omega) (a6.perm b4.perm) fun U4 vP cX cC fa hQ j6 j7 => ?_)
      · have aux : ∀ b : Bool, (if b = true then P.length - 2 - 1 else P.length - 2) + 1 < P.length := fun b => by cases b <;> simp only [Zo, Ym, YK] <;> omega
        exact aux _
      · rw [if_neg (by simp)]
        exact Ys ⟨rfl, cX, cC, b4.trans j6, vP, by omega, fa, j7⟩
end
end Tm
end
section
namespace Tm
open PySem PySem.W PyProof.Rows PySem.Calls
def Sa{α β:Type}(f:α->β){iJ m:List β}(h:iJ.Perm m):∀l:List α,m=l.map f->∃p:List α,p.Perm l/\iJ=p.map f:=by
 induction h with
 |nil=>intro l e;cases l with
  |nil=>exact⟨[],.refl _,rfl⟩
  |cons=>cases e
 |cons x _ aF =>
  intro l e;cases l with
  |nil=>cases e
  |cons y l =>
   rw[List.map_cons]at e;injection e with ai av;obtain⟨p,J,aa⟩:=aF l av;exact⟨y::p,J.cons y,by rw[List.map_cons,ai,aa]⟩
 |swap x y m =>
  intro l e
  match l,e with
  |u::v::l,e =>
   rw[List.map_cons,List.map_cons]at e;injection e with ai av;injection av with av bu;exact⟨v::u::l,.swap u v l,by rw[List.map_cons,List.map_cons,ai,av,bu]⟩
 |trans _ _ yB yC =>
  intro l e;obtain⟨p,J,aa⟩:=yC l e;obtain⟨q,aI,aX⟩:=yB p aa;exact⟨q,aI.trans J,aX⟩
structure Ord(lt:Nat->Nat->Bool):Prop where
 fL:∀x,lt x x=false
 dE:∀x y z,lt y x=false->lt z y=false->lt z x=false
 hW:∀x y,lt x y=true->lt y x=false
section
variable{prog:Program}{w:World}{A:Around}{E:Value->Shared->Prop}{s:Shared}
noncomputable abbrev pr(af:List Value)(i:Nat):Keyed:=(af.getD i Value.none,af.getD i Value.none)
def W9(af:List Value):(af.toArray.zip af.toArray).toList=(List.range af.length).map (pr af):=by
 apply aab;intro i;rw[Yy]
 by_cases h:i<af.length
 .rw[ZT h];simp[List.getElem?_zip_eq_some,List.getD,Yl h]
 .rw[YO (by simpa using h),YO (by simpa using h)];rfl
def Qo{a:Addr}{af:List Value}{n:Nat}{κ:SortKind}{lt:Nat->Nat->Bool}{P:PySem.Fin->Shared->Prop}(O:Ord lt)(aV:∀i j,i<af.length->j<af.length->af.getD i Value.none=af.getD j Value.none->∀k,lt i k=lt j k/\lt k i=lt k j)(ay:s.heap.get? a=some (seqObj "list" af.toArray n))(Xr:af.length<1000)(au:2<=af.length->∀(h':Heap),(∀b o,b≠a->s.heap.get? b=some o->h'.get? b=some o)->∀Q:SortKind->Shared->Prop,Q κ { s with heap:=h' }->wpAny (model prog w) A (keyKind' af.toArray) Q E { s with heap:=h' })(aj:2<=af.length->∀(h':Heap),(∀b o,b≠a->s.heap.get? b=some o->h'.get? b=some o)->∀(i j:Nat)(bG:Bool->Shared->Prop),i<af.length->j<af.length->bG (lt i j) { s with heap:=h' }->kas_ask prog w A κ af i j bG { s with heap:=h' })(h:∀p:List Nat,p.Perm (List.range af.length)->p.Pairwise (λi j=>lt j i=false)->∀(h':Heap)(c:Nat),(∀b o,b≠a->s.heap.get? b=some o->h'.get? b=some o)->h'.get? a=some (seqObj "list" (p.map λi=>af.getD i Value.none).toArray c)->P (.done (.ret .none)) { s with heap:=h' }):
  wpAny (model prog w) A (Builtin.«list.sort» ⟨[.ref a],[]⟩) P E s:=by
 rw[list_sort_plain];have ax:a<s.heap.objs.size:=Yu ay;refine Yf (listItems_at ay rfl ?_);refine Yf (listUpdate_at ay rfl ?_ (by rw[Yv,sizeLine_eq];omega) (Yp _));obtain⟨ai,n0⟩:∃ai,(s.heap.update a (Obj.mapSeq λ_=>(#[]:Array Value))).get? a=some (seqObj "list" #[] ai):=⟨_,get?_update_seq ay λ_=>#[]⟩;refine Yf (seqEpoch_at n0 rfl ?_);refine Yf (wpAny_newTuple ?_ (by show af.length<=_;rw[sizeLine_eq];omega));refine Yf (wpAny_newList ?_ (Yp _));refine ZM ?_;have pv:(((s.heap.update a (Obj.mapSeq λ_=>(#[]:Array Value))).push (seqObj "tuple" af.toArray 0)).push (seqObj "list" #[] 0)).get? a=some (seqObj "list" #[] ai):=Yh _ (Yh _ n0);have keep:∀b o,b≠a->s.heap.get? b=some o->(((s.heap.update a (Obj.mapSeq λ_=>(#[]:Array Value))).push (seqObj "tuple" af.toArray 0)).push (seqObj "list" #[] 0)).get? b=some o:=λb o ae q =>
  Yh _ (Yh _ ((Zq _ _ (ZK ae)).trans q))
 show wpAny (model prog w) A _ P E { s with heap:=((s.heap.update a (Obj.mapSeq λ_=>(#[]:Array Value))).push (seqObj "tuple" af.toArray 0)).push (seqObj "list" #[] 0) };generalize ((s.heap.update a (Obj.mapSeq λ_=>(#[]:Array Value))).push (seqObj "tuple" af.toArray 0)).push (seqObj "list" #[] 0)=J at pv keep;dsimp only;have fin:∀p:List Nat,p.Perm (List.range af.length)->p.Pairwise (λi j=>lt j i=false)->P (.done (.ret .none)) { s with heap:=J.update a (Obj.mapSeq λ_=>(p.map λi=>af.getD i Value.none).toArray) }:=λp aE ab=>by
  obtain⟨bA,iH⟩:∃bA,(J.update a (Obj.mapSeq λ_=>(p.map λi=>af.getD i Value.none).toArray)).get? a=some (seqObj "list" (p.map λi=>af.getD i Value.none).toArray bA):=⟨_,get?_update_seq pv λ_=>(p.map λi=>af.getD i Value.none).toArray⟩;exact h p aE ab _ bA (λb o ae q=>(Zq _ _ (ZK ae)).trans (keep b o ae q)) iH
 have hz:=W9 af
 by_cases aa:af.toArray.size<2
 .rw[if_pos aa,if_pos aa];refine Yf (wpAny_pure ?_);rw[StateT.run_pure];refine Yf (wpAny_pure ?_);dsimp only;refine Yf (seqEpoch_at pv rfl ?_);have bu:(arrOf (SortSt.mk' general' (af.toArray.zip af.toArray) #[] 7 none)).map (·.2)=((List.range af.length).map λi=>af.getD i Value.none).toArray:=by
   show(af.toArray.zip af.toArray).map (·.2)=_;apply abh.mp;rw[Array.toList_map,hz,List.map_map];rfl
  rw[bu];refine Yf (listUpdate_at pv rfl ?_ (Yp _) (by rw[Yv,List.length_map,List.length_range,sizeLine_eq];omega));simp only[aac,Ym,YK];refine wpAny_pure (fin _ (.refl _) ?_);have hF:af.length<2:=by simpa using aa
  match af,hF with
  |[],_=>exact List.Pairwise.nil
  |[_],_=>exact Zn _ _
 .rw[if_neg aa,if_neg aa];have hF:2<=af.length:=(by simp at aa;exact aa);refine Yf (au hF J keep _ ?_);have cx:∀x:Keyed,∃i,(∃i,i<af.length/\x=pr af i)->i<af.length/\x=pr af i:=λx=>by
   by_cases c:∃i,i<af.length/\x=pr af i
   .obtain⟨i,hi⟩:=c;exact⟨i,λ_=>hi⟩
   .exact⟨0,λq=>absurd q c⟩
  obtain⟨idx,tN⟩:∃idx:Keyed->Nat,∀x,(∃i,i<af.length/\x=pr af i)->idx x<af.length/\x=pr af (idx x):=⟨λx=>(cx x).choose,λx=>(cx x).choose_spec⟩;have Or:eS (model prog w) A E { s with heap:=J } κ (λx=>∃i,i<af.length/\x=pr af i) (λx y=>lt (idx x) (idx y)):=by
   refine⟨λx y st Q ag aD yf q=>?_,λx y _ _ q=>O.hW _ _ q,λx y z _ _ _ aP a9=>O.dE _ _ _ aP a9⟩;obtain⟨eB,ex⟩:=tN x ag;obtain⟨lE,ez⟩:=tN y aD;rw[lt'_eq];refine Yn (abA ?_);refine Yn (wpS_lift (abl ?_));have:=aj hF J keep (idx x) (idx y) (λb s'=>s'={ s with heap:=J }/\b=lt (idx x) (idx y)) eB lE ⟨rfl,rfl⟩;unfold kas_ask at this;have ai:af.getD (idx x) Value.none=x.1:=(Zr Prod.fst ex).symm;have av:af.getD (idx y) Value.none=y.1:=(Zr Prod.fst ez).symm;rw[ai,av]at this;rw[yf];refine Zh this (λb s' ⟨ab,ae⟩=>⟨ab,?_⟩) λ_ _ z=>z.elim
   subst ae;exact Ys q
  have run:=To (st:=SortSt.mk' κ (af.toArray.zip af.toArray) #[] 7 none) (Q:=λ_ aM=>failedOf aM=none/\∃p:List Nat,p.Perm (List.range af.length)/\p.Pairwise (λi j=>lt j i=false)/\(arrOf aM).toList=p.map (pr af)) Or rfl rfl rfl
   (λx ag=>by
    have ag:x∈(af.toArray.zip af.toArray).toList:=ag;rw[hz]at ag;obtain⟨i,hi,rfl⟩:=List.mem_map.mp ag;exact⟨i,List.mem_range.mp hi,rfl⟩) (by show 2<=(af.toArray.zip af.toArray).size;rw[<- Array.length_toList,hz];simpa using hF) λaM aH a5 dR=>by
     have a5:(arrOf aM).toList.Perm (af.toArray.zip af.toArray).toList:=a5;rw[hz]at a5;obtain⟨p,bh,bE⟩:=Sa (pr af) a5 _ rfl;refine⟨aH,p,bh,?_,bE⟩;rw[bE,Zu]at dR;refine Zy (λ{i j} hi aA q=>?_) dR;have hi:=List.mem_range.mp (bh.mem_iff.mp hi);have aA:=List.mem_range.mp (bh.mem_iff.mp aA);obtain⟨eB,k7⟩:=tN (pr af i) ⟨i,hi,rfl⟩;obtain⟨lE,jF⟩:=tN (pr af j) ⟨j,aA,rfl⟩;have q:lt (idx (pr af j)) (idx (pr af i))=false:=q;rw[(aV j (idx (pr af j)) aA lE (Zr Prod.fst jF) i).1,(aV i (idx (pr af i)) hi eB (Zr Prod.fst k7) _).2];exact q
  refine Yf (Zh run ?_ λ_ _ e=>e);rintro⟨⟨⟩,aM⟩ s' ⟨rfl,hf,p,bh,bE,d2⟩;have Oz:(arrOf aM).map (·.2)=(p.map λi=>af.getD i Value.none).toArray:=by
   apply abh.mp;rw[Array.toList_map,d2,List.map_map];rfl
  rw[Oz];refine Yf (seqEpoch_at pv rfl ?_);refine Yf (listUpdate_at pv rfl ?_ (Yp _) (by rw[Yv,List.length_map,bh.length_eq,List.length_range,sizeLine_eq];omega));rw[hf];simp only[aac,Ym,YK];exact wpAny_pure (fin p bh bE)
end
end Tm
end
section
namespace fe
open PySem PySem.W PyProof.Rows PySem.Calls
section
variable{prog:Program}{w:World}{A:Around}{E:Value->Shared->Prop}{s:Shared}
noncomputable def ltI{κ:Type}(lt:κ->κ->Bool)(z:κ)(ar:List κ)(i j:Nat):Bool:=lt (ar.getD i z) (ar.getD j z)
def za{κ:Type}{lt:κ->κ->Bool}(L:bC.gI lt)(z:κ)(ar:List κ):Tm.Ord (ltI lt z ar) where
 fL:=λx=>L.fL _
 dE:=λx y z J aa=>bC.Ew L J aa
 hW:=λx y h=>bC.Ex L h
def M6{κ:Type}(z:κ)(ar:List κ):(List.range ar.length).map (λi=>ar.getD i z)=ar:=by
 apply aab;intro i;rw[Yy]
 by_cases h:i<ar.length
 .rw[ZT h];simp[List.getD,h]
 .rw[YO (by simpa using h),YO (by simpa using h)];rfl
def UY{κ:Type}{lt:κ->κ->Bool}(L:bC.gI lt)(z:κ)(ar:List κ){p:List Nat}(J:p.Perm (List.range ar.length))(aa:p.Pairwise (λi j=>ltI lt z ar j i=false)):(p.map λi=>ar.getD i z)=bC.cV lt ar:=by
 refine bC.HV L ?_ (bC.HU L ar) ?_
 .unfold bC.oP;rw[Zu];exact aa
 .refine((J.map λi=>ar.getD i z).trans ?_).trans (bC.uJ ar).symm;rw[M6]
def y8{κ:Type}{lt:κ->κ->Bool}{z:κ}{ar:List κ}{af:List Value}(h:∀i j,i<af.length->j<af.length->af.getD i Value.none=af.getD j Value.none->ar.getD i z=ar.getD j z):
  ∀i j,i<af.length->j<af.length->af.getD i Value.none=af.getD j Value.none->∀k,ltI lt z ar i k=ltI lt z ar j k/\ltI lt z ar k i=ltI lt z ar k j:=λi j hi aA e k=>by
 unfold ltI;rw[h i j hi aA e];exact⟨rfl,rfl⟩
theorem ints_get:∀{af:List Value}{ns:List Int}(h:IntsAre af ns)(i:Nat),i<af.length->∃t,af.getD i Value.none=.int (ns.getD i 0) t
 |_,_,.nil,i,h=>by simp at h
 |_,_,.cons n t _,0,_=>⟨t,rfl⟩
 |_,_,.cons n t r,i+1,h=>by
  obtain⟨u,e⟩:=ints_get r i (by simpa using h);exact⟨u,by simpa[List.getD] using e⟩
theorem yE:∀{af:List Value}{ns:List Int}(h:IntsAre af ns),ns.length=af.length
 |_,_,.nil=>rfl
 |_,_,.cons n t r=>by simp[yE r]
def PJ{af:List Value}{ns:List Int}(h:IntsAre af ns):∀i j,i<af.length->j<af.length->af.getD i Value.none=af.getD j Value.none->ns.getD i 0=ns.getD j 0:=λi j hi aA e=>by
 obtain⟨t,ai⟩:=ints_get h i hi;obtain⟨u,av⟩:=ints_get h j aA;rw[ai,av]at e;injection e
def IZ{af:List Value}{ns:List Int}(cf:IntsAre af ns)(i j:Nat)(bG:Bool->Shared->Prop)(hi:i<af.length)(aA:j<af.length)(h:bG (ltI bC.ltI 0 ns i j) s):kas_ask prog w A oneType' af i j bG s:=by
 obtain⟨t,ai⟩:=ints_get cf i hi;obtain⟨u,av⟩:=ints_get cf j aA;unfold kas_ask;rw[ai,av];exact kat_lt_int h
def PR{af:List Value}{ns:List Int}(cf:IntsAre af ns)(aa:2<=af.length){Q:SortKind->Shared->Prop}(h:Q oneType' s):wpAny (model prog w) A (keyKind' af.toArray) Q E s:=by
 obtain⟨vr,vs,rest,rfl⟩:∃vr vs rest,af=vr::vs::rest:=by
  match af,aa with
  |vr::vs::rest,_=>exact⟨vr,vs,rest,rfl⟩
 rw[keyKind_ints cf];exact wpAny_pure h
noncomputable def gh(h:Heap):List Value->List (List Int)->Prop
 |[],[]=>True
 |v::af,k::ar=>(∃a o xs n,v=.ref a/\h.get? a=some o/\o.cls=.type "tuple"/\o.data=.seq xs n/\IntsAre xs.toList k/\k≠[])/\gh h af ar
 |_,_=>False
theorem gh.kept{h h':Heap}(k:∀b o,h.get? b=some o->h'.get? b=some o):∀{af:List Value}{ar:List (List Int)},gh h af ar->gh h' af ar
 |[],[],_=>trivial
 |v::af,x::ar,⟨⟨a,o,xs,n,e,ay,r⟩,t⟩=>⟨⟨a,o,xs,n,e,k a o ay,r⟩,t.kept k⟩
theorem gh.len{h:Heap}:∀{af:List Value}{ar:List (List Int)},gh h af ar->ar.length=af.length
 |[],[],_=>rfl
 |v::af,x::ar,⟨_,t⟩=>by simp[t.len]
theorem gh.get{h:Heap}:∀{af:List Value}{ar:List (List Int)},gh h af ar->∀i,i<af.length->∃a o xs n,af.getD i Value.none=.ref a/\h.get? a=some o/\o.cls=.type "tuple"/\o.data=.seq xs n/\IntsAre xs.toList (ar.getD i [])/\ar.getD i []≠[]
 |[],[],_,i,hi=>by simp at hi
 |v::af,x::ar,⟨q,t⟩,0,_=>q
 |v::af,x::ar,⟨q,t⟩,i+1,hi=>by
  have:=t.get i (by simpa using hi);simpa[List.getD] using this
def D2{us:List Value}{xs:List Int}(h:IntsAre us xs):∀{ys:List Int},IntsAre us ys->xs=ys:=by
 induction h with
 |nil=>intro ys q;cases q;rfl
 |cons n t _ aF =>
  intro ys q;cases q with
  |cons _ _ q=>rw[aF q]
def PO{h:Heap}{af:List Value}{ar:List (List Int)}(H:gh h af ar):∀i j,i<af.length->j<af.length->af.getD i Value.none=af.getD j Value.none->ar.getD i []=ar.getD j []:=λi j hi aA e=>by
 obtain⟨a,o,xs,n,ai,aP,_,a9,b4,_⟩:=H.get i hi;obtain⟨mg,bH,W8,cG,av,pZ,_,iP,zm,_⟩:=H.get j aA;rw[ai,av]at e;injection e with e;subst e;rw[aP]at pZ;cases pZ;rw[a9]at iP;cases iP;exact D2 b4 zm
theorem gh.rL {h : Heap} : ∀ {af : List Value} {ar : List (List Int)}, gh h af ar -> ∃ bL : List Value, KatTups h af bL /\ bL.length = af.length /\ ∀ v ∈ bL, ∃ i t, v = Value.int i t
  | [], [], _ => ⟨[], KatTups.nil, rfl, by simp⟩
  | v :: af, x :: ar, ⟨⟨a, o, xs, n, e, ay, aj, hd, cf, eN⟩, t⟩ => by
    subst e
    obtain ⟨bL, J, aa, aI⟩ := t.rL
    obtain ⟨i, u, hf⟩ : ∃ i u, xs[0]? = some (Value.int i u) := by
      cases q : xs.toList with
      | nil => rw [q] at cf; cases cf; exact absurd rfl eN
      | cons y ys =>
        rw [q] at cf
        cases cf with
        | cons n t r => exact ⟨n, t, by have : xs.toList[0]? = some (Value.int n t) := by rw [q]; rfl
                                        simpa using this⟩
    refine ⟨Value.int i u :: bL, KatTups.cons ay aj hd hf J, by simp [aa], fun z hz => ?_⟩
    rcases Yk.mp hz with rfl | hz
    · exact ⟨i, u, rfl⟩
    · exact aI z hz
noncomputable def n7(fin:Bool):List Int->List Int->Bool
 |x::xs,y::ys=>if x=y then n7 fin xs ys else decide (x<y)
 |_,_=>fin
theorem Es:∀(xs ys:List Int),n7 (decide (xs.length<ys.length)) xs ys=bC.lexLt xs ys
 |[],[]=>rfl
 |[],_::_=>rfl
 |_::_,[]=>rfl
 |x::xs,y::ys=>by
  have e:decide ((x::xs).length<(y::ys).length)=decide (xs.length<ys.length):=(by simp);rw[e];simp only[n7,bC.lexLt,Es xs ys]
theorem Eb{fin:Bool}{Q:Bool->Shared->Prop}:∀{us af:List Value}{xs ys:List Int}(i:Nat),IntsAre us xs->IntsAre af ys->Q (n7 fin xs ys) s->KatLex prog w A true fin Q (us.zip af) i s
 |_,_,_,_,i,.nil,_,h=>by simpa[n7] using kat_nil (prog:=prog) (w:=w) (A:=A) (b:=true) (i:=i) h
 |_,_,_,_,i,.cons x t r,.nil,h=>by simpa[n7] using kat_nil (prog:=prog) (w:=w) (A:=A) (b:=true) (i:=i) h
 |_,_,_,_,i,.cons x t r,.cons y u q,h=>by
  refine kat_cons (wpAny_eqBool_int ?_);simp only[n7]at h
  by_cases e:x=y
  .subst e;rw[if_pos rfl]at h;rw[show(x==x)=true by simp];exact kat_yes (Eb (i+1) r q h)
  .rw[if_neg e]at h;rw[show(x==y)=false by simpa using e];refine kat_no ?_;cases ae:(true&&i==0) with
   |true=>exact oneLt_int h
   |false=>exact kat_one _ _ (lt_int (show W.BoolBack Q (Value.bool (decide (x<y))) s from h))
def I0{af:List Value}{ar:List (List Int)}(cP:gh s.heap af ar)(i j:Nat)(bG:Bool->Shared->Prop)(hi:i<af.length)(aA:j<af.length)(h:bG (ltI bC.lexLt [] ar i j) s):kas_ask prog w A (tuples' true) af i j bG s:=by
 obtain⟨a,o,xs,n,ai,ay,aj,hd,cf,_⟩:=cP.get i hi;obtain⟨b,bH,ys,cG,av,dP,cT,fA,ko,_⟩:=cP.get j aA;unfold kas_ask;rw[ai,av];refine kat_lt ay hd dP fA (Eb 0 cf ko ?_);have b0:(ar.getD i []).length=xs.size:=by rw[yE cf,Array.length_toList]
 have cU:(ar.getD j []).length=ys.size:=by rw[yE ko,Array.length_toList]
 rw[<- b0,<- cU,Es];exact h
def PS{af:List Value}{ar:List (List Int)}(cP:gh s.heap af ar)(aa:2<=af.length){Q:SortKind->Shared->Prop}(h:Q (tuples' true) s):wpAny (model prog w) A (keyKind' af.toArray) Q E s:=by
 obtain⟨bL,aZ,aQ,br⟩:=cP.rL;refine kat_kind (T:=Value.type "int") aZ (by omega) (λv aV=>?_) (by decide) (by rw[show(Value.type "int" != Value.type "tuple")=true by decide];exact h);obtain⟨i,t,rfl⟩:=br v aV;exact Looks.of_pure rfl
end
end fe
end
section
namespace bC
noncomputable def fV:List (List Int)->List (List Int)->Bool
 |[],[]=>false
 |[],_::_=>true
 |_::_,[]=>false
 |x::xs,y::ys=>if x=y then fV xs ys else lexLt x y
theorem Eo:∀a,fV a a=false
 |[]=>rfl
 |x::a=>by simp[fV,Eo a]
theorem En:∀a b,a≠b->fV a b=true\/fV b a=true
 |[],[],h=>absurd rfl h
 |[],_::_,_=>.inl rfl
 |_::_,[],_=>.inr rfl
 |x::a,y::b,h=>by
  simp only[fV]
  by_cases e:x=y
  .subst e;simp only[Zo];exact En a b λz=>h (by rw[z])
  .rw[if_neg e,if_neg (ZK e)];exact yP x y e
theorem Ep:∀{a b c},fV a b=true->fV b c=true->fV a c=true
 |[],[],_,h,_=>by simp[fV]at h
 |[],_::_,[],_,h=>by simp[fV]at h
 |[],_::_,_::_,_,_=>rfl
 |_::_,[],_,h,_=>by simp[fV]at h
 |_::_,_::_,[],_,h=>by simp[fV]at h
 |x::a,y::b,z::c,J,aa=>by
  simp only[fV]at *
  by_cases e:x=y
  .subst e;rw[if_pos rfl]at J
   by_cases av:x=z
   .subst av;rw[if_pos rfl]at aa ⊢;exact Ep J aa
   .rw[if_neg av]at aa ⊢;exact aa
  .rw[if_neg e]at J
   by_cases av:y=z
   .subst av;rw[if_neg e];exact J
   .rw[if_neg av]at aa;have t:=yR J aa
    by_cases bu:x=z
    .subst bu;rw[yQ]at t;cases t
    .rw[if_neg bu];exact t
def Eu:gI fV:=⟨Eo,Ep,En⟩
noncomputable def qM(c:List (List Int)):Den.D:=.tup (c.map aC)
theorem EF:∀a b:List (List Int),Den.kB (a.map aC) (b.map aC)=some (fV a b)
 |[],[]=>rfl
 |[],_::_=>rfl
 |_::_,[]=>rfl
 |x::a,y::b=>by
  rw[show Den.kB ((x::a).map aC) ((y::b).map aC)=if Den.hD (aC x) (aC y)=true then Den.kB (a.map aC) (b.map aC) else Den.kA (aC x) (aC y) from rfl,EF a b,pJ,nO];simp only[fV]
  by_cases h:x=y<;>simp[h]
def Qv(a b:List (List Int)):Den.kA (qM a) (qM b)=some (fV a b):=EF a b
end bC
namespace fe
open PySem PySem.W PyProof.Rows PySem.Calls
noncomputable def iF(h:Heap):List Value->List (List (List Int))->Prop
 |[],[]=>True
 |v::af,k::ar=>(∃a o xs n,v=.ref a/\h.get? a=some o/\o.cls=.type "tuple"/\o.data=.seq xs n/\gh h xs.toList k/\k≠[])/\iF h af ar
 |_,_=>False
theorem iF.kept{h h':Heap}(k:∀b o,h.get? b=some o->h'.get? b=some o):∀{af:List Value}{ar:List (List (List Int))},iF h af ar->iF h' af ar
 |[],[],_=>trivial
 |v::af,x::ar,⟨⟨a,o,xs,n,e,ay,aj,hd,cf,eN⟩,t⟩=>⟨⟨a,o,xs,n,e,k _ _ ay,aj,hd,cf.kept k,eN⟩,t.kept k⟩
 |[],_::_,h=>h.elim
 |_::_,[],h=>h.elim
theorem iF.get{h:Heap}:∀{af:List Value}{ar:List (List (List Int))},iF h af ar->∀i,i<af.length->∃a o xs n,af.getD i Value.none=.ref a/\h.get? a=some o/\o.cls=.type "tuple"/\o.data=.seq xs n/\gh h xs.toList (ar.getD i [])/\ar.getD i []≠[]
 |[],[],_,i,hi=>by simp at hi
 |v::af,x::ar,⟨t,r⟩,0,_=>by simpa[List.getD] using t
 |v::af,x::ar,⟨t,r⟩,i+1,hi=>by simpa[List.getD] using iF.get r i (by simpa using hi)
 |[],_::_,h,_,_=>h.elim
 |_::_,[],h,_,_=>h.elim
theorem Hw{h:Heap}:∀{af:List Value}{xs ys:List (List Int)},gh h af xs->gh h af ys->xs=ys
 |[],[],[],_,_=>rfl
 |v::af,x::xs,y::ys,⟨⟨a,o,us,n,e,ay,aj,hd,cf,_⟩,t⟩,⟨⟨mg,bH,X9,cG,bq,dP,cT,fA,ko,_⟩,t'⟩=>by
  subst e;cases bq;rw[ay]at dP;cases dP;rw[hd]at fA;cases fA;rw[D2 cf ko,Hw t t']
 |[],_::_,_,h,_=>h.elim
 |[],[],_::_,_,h=>h.elim
 |_::_,[],_,h,_=>h.elim
 |_::_,_::_,[],_,h=>h.elim
def PQ{h:Heap}{af:List Value}{ar:List (List (List Int))}(H:iF h af ar):∀i j,i<af.length->j<af.length->af.getD i Value.none=af.getD j Value.none->ar.getD i []=ar.getD j []:=λi j hi aA e=>by
 obtain⟨a,o,xs,n,aP,iO,_,a9,b4,_⟩:=H.get i hi;obtain⟨mg,bH,W8,cG,pZ,F0,_,iP,zm,_⟩:=H.get j aA;rw[aP,pZ]at e;cases e;rw[iO]at F0;cases F0;rw[a9]at iP;cases iP;exact Hw b4 zm
theorem iF.rL {h : Heap} : ∀ {af : List Value} {ar : List (List (List Int))}, iF h af ar -> ∃ bL : List Value, KatTups h af bL /\ bL.length = af.length /\ ∀ v ∈ bL, ∃ a o, v = Value.ref a /\ h.get? a = some o /\ o.cls = .type "tuple"
  | [], [], _ => ⟨[], KatTups.nil, rfl, by simp⟩
  | v :: af, x :: ar, ⟨⟨a, o, xs, n, e, ay, aj, hd, cf, eN⟩, t⟩ => by
    subst e
    obtain ⟨bL, J, aa, aI⟩ := t.rL
    obtain ⟨b, bH, hf, ae, Ny⟩ : ∃ b bH, xs[0]? = some (Value.ref b) /\ h.get? b = some bH /\ bH.cls = .type "tuple" := by
      cases q : xs.toList with
      | nil =>
        rw [q] at cf
        cases x with
        | nil => exact absurd rfl eN
        | cons _ _ => exact cf.elim
      | cons y ys =>
        rw [q] at cf
        cases x with
        | nil => exact cf.elim
        | cons k x =>
          obtain ⟨⟨b, bH, us, cG, ai, av, bu, _⟩, _⟩ := cf
          exact ⟨b, bH, by have : xs.toList[0]? = some (Value.ref b) := by rw [q, ai]; rfl
                           simpa using this, av, bu⟩
    refine ⟨Value.ref b :: bL, KatTups.cons ay aj hd hf J, by simp [aa], fun z hz => ?_⟩
    rcases Yk.mp hz with rfl | hz
    · exact ⟨b, bH, rfl, ae, Ny⟩
    · exact aI z hz
  | [], _ :: _, h => h.elim
  | _ :: _, [], h => h.elim
section
variable{prog:Program}{w:World}{A:Around}{E:Value->Shared->Prop}{s:Shared}
noncomputable def n8(fin:Bool):List (List Int)->List (List Int)->Bool
 |x::xs,y::ys=>if x=y then n8 fin xs ys else bC.lexLt x y
 |_,_=>fin
theorem Er:∀(xs ys:List (List Int)),n8 (decide (xs.length<ys.length)) xs ys=bC.fV xs ys
 |[],[]=>rfl
 |[],_::_=>rfl
 |_::_,[]=>rfl
 |x::xs,y::ys=>by
  have e:decide ((x::xs).length<(y::ys).length)=decide (xs.length<ys.length):=(by simp);rw[e];simp only[n8,bC.fV,Er xs ys]
theorem Et:∀a b:List Int,di.lexLt a b=bC.lexLt a b
 |[],[]=>rfl
 |[],_::_=>rfl
 |_::_,[]=>rfl
 |x::a,y::b=>by simp only[di.lexLt,bC.lexLt,Et a b]
noncomputable def r8(k:List Int):PyData:=.tuple (k.map .int)
theorem zr{h:Heap}:∀{us:List Value}{k:List Int},IntsAre us k->ReadsAll h us (k.map .int) []
 |_,_,.nil=>.nil
 |_,_,.cons n t r=>.cons (as:=[]) (.int n t) (zr r)
theorem Ce:∀a b:List Int,PyData.eqvAll (a.map .int) (b.map .int)=decide (a=b)
 |[],[]=>rfl
 |[],_::_=>rfl
 |_::_,[]=>rfl
 |x::a,y::b=>by
  rw[List.map_cons,List.map_cons,PyData.eqvAll,Ce a b,PyData.eqv]
  by_cases h:x=y<;>simp[h]
theorem ug:∀a:List Int,PyData.canLayAll0 (a.map .int)=true/\PyData.depthAll (a.map .int)=0
 |[]=>⟨rfl,rfl⟩
 |x::a=>by
  obtain⟨J,aa⟩:=ug a;exact⟨by rw[List.map_cons,PyData.canLayAll0,J];rfl,by rw[List.map_cons];show max (PyData.depth (.int x)) (PyData.depthAll (a.map .int))=0;rw[aa];rfl⟩
theorem Ec{fin:Bool}{Q:Bool->Shared->Prop}(bz:A.units+2<cLine):∀{us af:List Value}{xs ys:List (List Int)}(i:Nat),gh s.heap us xs->gh s.heap af ys->Q (n8 fin xs ys) s->KatLex prog w A false fin Q (us.zip af) i s
 |[],_,[],_,i,_,_,h=>by simpa[n8] using kat_nil (prog:=prog) (w:=w) (A:=A) (b:=false) (i:=i) h
 |_::_,[],_::_,[],i,_,_,h=>by simpa[n8] using kat_nil (prog:=prog) (w:=w) (A:=A) (b:=false) (i:=i) h
 |u::us,v::af,x::xs,y::ys,i,⟨⟨a,o,as,n,e,ay,aj,hd,cf,_⟩,t⟩,⟨⟨b,bH,bs,cG,bq,dP,cT,fA,ko,_⟩,t'⟩,h=>by
  subst e bq;have aH:Reads s.heap (.ref a) (r8 x) []:=.tuple ay aj hd (zr cf);have a5:Reads s.heap (.ref b) (r8 y) []:=.tuple dP cT fA (zr ko);have dep:∀k:List Int,(r8 k).depth=1:=λk=>by show PyData.depthAll (k.map .int)+1=1;rw[(ug k).2]
  have eq:=SeqAt.eqAt_reads _ _ A s _ _ _ _ aH a5 (show PyData.canLayAll0 (x.map .int)=true from(ug x).1) (show PyData.canLayAll0 (y.map .int)=true from(ug y).1) (by rw[dep,dep];show A.units+1<cLine;omega);rw[show PyData.eqv (r8 x) (r8 y)=decide (x=y) from Ce x y]at eq;refine kat_cons (eq prog w _ _ ?_);simp only[n8]at h
  by_cases e:x=y
  .rw[if_pos e]at h;rw[decide_eq_true e];exact kat_yes (Ec bz (i+1) t t' h)
  .rw[if_neg e]at h;rw[decide_eq_false e];refine kat_no (kat_one _ _ ?_);have bh:s.heap.IsTuple a as:=⟨o,ay,aj,n,hd⟩;have bE:s.heap.IsTuple b bs:=⟨bH,dP,cT,cG,fA⟩;exact di.EH bh bE cf ko (by omega) (by rw[Et];exact h)
 |[],_,_::_,_,_,h,_,_=>h.elim
 |_::_,_,[],_,_,h,_,_=>h.elim
 |_::_,[],_::_,_::_,_,_,h,_=>h.elim
 |_::_,_::_,_::_,[],_,_,h,_=>h.elim
def I1{af:List Value}{ar:List (List (List Int))}(bz:A.units+2<cLine)(cP:iF s.heap af ar)(i j:Nat)(bG:Bool->Shared->Prop)(hi:i<af.length)(aA:j<af.length)(h:bG (ltI bC.fV [] ar i j) s):kas_ask prog w A (tuples' false) af i j bG s:=by
 obtain⟨a,o,xs,n,ai,ay,aj,hd,cf,_⟩:=cP.get i hi;obtain⟨b,bH,ys,cG,av,dP,cT,fA,ko,_⟩:=cP.get j aA;unfold kas_ask;rw[ai,av];refine kat_lt ay hd dP fA (Ec bz 0 cf ko ?_);have b0:(ar.getD i []).length=xs.size:=by rw[cf.len,Array.length_toList]
 have cU:(ar.getD j []).length=ys.size:=by rw[ko.len,Array.length_toList]
 rw[<- b0,<- cU,Er];exact h
def PT{af:List Value}{ar:List (List (List Int))}(cP:iF s.heap af ar)(aa:2<=af.length){Q:SortKind->Shared->Prop}(h:Q (tuples' false) s):wpAny (model prog w) A (keyKind' af.toArray) Q E s:=by
 obtain⟨bL,aZ,aQ,br⟩:=cP.rL;refine kat_kind (T:=Value.type "tuple") aZ (by omega) (λv aV=>?_) (by decide) (by rw[show(Value.type "tuple" != Value.type "tuple")=false by decide];exact h);obtain⟨a,o,rfl,ay,aj⟩:=br v aV;rw[<- aj];exact(Looks.ld ay).andThen .now
end
end fe
end
section
namespace eE
open Den bC
variable{pg:dq}{Φ:dC}
section
variable{α:Type}{lt:α->α->Bool}
noncomputable def nu(lt:α->α->Bool):List α->Bool
 |a::b::r=>lt a b&&nu lt (b::r)
 |_=>true
theorem AR(L:gI lt):∀xs:List α,nu lt xs=true<->dI lt xs
 |[]=>⟨λ_=>.nil,λ_=>rfl⟩
 |[a]=>⟨λ_=>Zn _ _,λ_=>rfl⟩
 |a::b::r=>by
  simp only[nu,Yg,AR L (b::r)];constructor
  .rintro⟨J,aa⟩;refine YE.mpr ⟨λz hz=>?_,aa⟩;rcases Yk.mp hz with e|e
   .subst e;exact J
   .exact L.dE J ((YE.mp aa).1 z e)
  .intro h;exact⟨(YE.mp h).1 b List.mem_cons_self,(YE.mp h).2⟩
def uS{n d k:Nat}(h:k<=n):bU n d (some (k:Int))=k:=by
 have J:¬((k:Int)<0):=by omega
 have aa:¬((n:Int)<(k:Int)):=by omega
 simp only[bU,if_neg J,if_neg aa];omega
def Gx{n d k:Nat}(h:n<k):bU n d (some (k:Int))=n:=by
 have J:¬((k:Int)<0):=by omega
 have aa:((n:Int)<(k:Int)):=by omega
 simp only[bU,if_neg J,if_pos aa]
def BP{β:Type}(xs:List β)(k:Nat):cut xs (some (k:Int)) none=xs.drop k:=by
 unfold cut
 by_cases h:k<=xs.length
 .rw[uS h];show List.take (xs.length-k) (xs.drop k)=_;rw[Zd (by simp)]
 .rw[Gx (by omega),List.drop_of_length_le (Yi _),List.drop_of_length_le (by omega)];simp
def Kc{β:Type}(xs:List β)(k:Nat):cut xs none (some (k:Int))=xs.take k:=by
 unfold cut
 by_cases h:k<=xs.length
 .rw[uS h];simp[bU]
 .rw[Gx (by omega)];simp only[bU,List.drop_zero,Nat.sub_zero];rw[Zd (Yi _),Zd (by omega)]
end
noncomputable def IsCell(m:Int)(c:List Int):Prop:=c≠[]/\(∀x∈c,0<=x/\x<m)/\dI ltI c
noncomputable instance (m:Int) (c:List Int):Decidable (IsCell m c):=by unfold IsCell dI;infer_instance
def xP{α:Type}(xs:List α)(k:Nat):kk xs (k:Int)=xs[k]?:=by
 unfold kk jg;rw[if_pos (by omega)]
 by_cases h:k<xs.length
 .rw[if_pos (by omega)];simp
 .rw[if_neg (by omega)];simp;omega
noncomputable def lies(c o:List Int):Bool:=c.all λx=>decide (x∈o)
def yS{c o:List Int}:lies c o=true<->∀x∈c,x∈o:=by simp[lies]
def MN{α β:Type}(f:α->β)(xs:List α):xs.filterMap (λx=>some (f x))=xs.map f:=by
 induction xs with
 |nil=>rfl
 |cons x xs aF=>simp
def MM{α β:Type}(q:α->Bool)(f:α->β)(xs:List α):xs.filterMap (λx=>if q x then some (f x) else none)=(xs.filter q).map f:=by
 induction xs with
 |nil=>rfl
 |cons x xs aF=>cases h:q x<;>simp[h,aF]
noncomputable def b9(m:Int):List Int:=(List.range m.toNat).map λ(k:Nat)=>(k:Int)
def p1(m:Int):eO 0 m=(b9 m).map .int:=by
 unfold eO b9;rw[List.map_map];have:(m-0).toNat=m.toNat:=by omega
 rw[this];apply Zs;intro k _;simp
def pL{m x:Int}:x∈b9 m<->0<=x/\x<m:=by
 unfold b9;rw[List.mem_map];constructor
 .rintro⟨k,au,rfl⟩;have:=List.mem_range.mp au;omega
 .rintro⟨J,aa⟩;exact⟨x.toNat,List.mem_range.mpr (by omega),by omega⟩
noncomputable def gD(m:Int)(ts:List (List Int)):Bool:=(b9 m).all λk=>ts.any (lies [k])
def xc{m:Int}{ts:List (List Int)}:gD m ts=true<->∀x,0<=x->x<m->∃t∈ts,x∈t:=by
 unfold gD;simp only[YI,aaK,yS,pL,YA,forall_eq];exact⟨λh x a b=>h x ⟨a,b⟩,λh x AQ=>h x AQ.1 AQ.2⟩
def Gl{m:Int}(h:-1000<=m)(h':m<=1000):oq m=true:=by unfold oq;simp;omega
def jo{i j:Int}(J:-1000<=i)(aa:i<=1000)(aI:-1000<=j)(aX:j<=1000):iQ i j=.ok (eO i j):=by
 have cc:(j-i).toNat<=1000000:=by omega
 unfold iQ;rw[Gl J aa,Gl aI aX,decide_eq_true cc];rfl
def MF{α:Type}{p:α->Bool}{c:α}(pre:List α)(h:p c=true):(pre++[c]).filter p=pre.filter p++[c]:=by rw[List.filter_append];simp[h]
def ME{α:Type}{p:α->Bool}{c:α}(pre:List α)(h:p c=false):(pre++[c]).filter p=pre.filter p:=by rw[List.filter_append];simp[h]
noncomputable def iA(cs:List (List Int)):List (List Int):=(cV lexLt (d6 cs)).filter λc=>!((cV lexLt (d6 cs)).filter λo=>decide (c.length<o.length)).any (lies c)
def g4:SZ=16777216:=rfl
noncomputable def bP(m:Int)(ts:List (List Int)):D:=.tup [.int m,.tup (ts.map aC)]
noncomputable def xA(d:D):Prop:=∀m ts,d=bP m ts->(∀c∈ts,IsCell m c)->(d6 ts).length<=255
end eE
end
section
namespace d9
open Den bC eE
variable{pg:dq}{Φ:dC}
mutual
theorem UG:∀(n:Nat)(d:D),dx n d=true->dx (n+1) d=true
 |n,.dr,_=>rfl
 |n,.aT _,_=>rfl
 |n,.int _,_=>rfl
 |0,.str _,h=>h
 |n+1,.str _,h=>h
 |0,.tup _,h=>by cases h
 |n+1,.tup xs,h=>zK n xs h
 |0,.lst _,h=>by cases h
 |n+1,.lst xs,h=>zK n xs h
 |0,.bK _,h=>by cases h
 |0,.bD _,h=>by cases h
 |n+1,.bK _,h=>by cases h
 |n+1,.bD _,h=>by cases h
 |0,.fw _,h=>by cases h
 |n+1,.fw _,h=>by cases h
theorem zK:∀(n:Nat)(xs:List D),xs.all (dx n)=true->xs.all (dx (n+1))=true
 |_,[],_=>rfl
 |n,x::xs,h=>by
  simp only[List.all_cons,Yg]at h ⊢;exact⟨UG n x h.1,zK n xs h.2⟩
end
def ML{α β:Type}(p:α->Option β)(xs:List α):(xs.filterMap p).isEmpty=xs.all λx=>(p x).isNone:=by
 induction xs with
 |nil=>rfl
 |cons x xs aF=>simp only[List.filterMap_cons,List.all_cons];cases p x<;>simp[aF]
def t5{c:List Int}{k:Nat}{x:Int}(h:c[k]?=some x):gM (.tup (c.map .int)) (.int (k:Int))=.ok (.int x):=by
 rw[DW,xP,Yy,h];rfl
def SX(n:Nat):eO 1 (n:Int)=(List.range (n-1)).map λ(k:Nat)=>D.int ((k:Int)+1):=by
 unfold eO;have:((n:Int)-1).toNat=n-1:=by omega
 rw[this];apply Zs;intro k _;congr 1;omega
def J1{g:D->R (Option D)}{p:Nat->Option D}{f:Nat->D}{ar:List Nat}(h:∀k∈ar,g (f k)=.ok (p k)):cZ g (ar.map f)=.ok (ar.filterMap p):=by
 induction ar with
 |nil=>rfl
 |cons c cs aF =>
  simp only[List.map_cons,cZ,h c List.mem_cons_self,R.lO,aF λy aD=>h y (List.mem_cons_of_mem _ aD),List.filterMap_cons];cases p c<;>rfl
theorem AS:∀(c:List Int),nu ltI c=(List.range (c.length-1)).all λk=>decide (c.getD k 0<c.getD (k+1) 0)
 |[]=>rfl
 |[_]=>rfl
 |a::b::r=>by
  have e:(a::b::r).length-1=(b::r).length-1+1:=(by simp);rw[e,aa8,List.all_cons,aaa];simp only[nu,AS (b::r)];rfl
def P2(c:List Int)(m:Int)(hlen:c.length<=1000):ev pg Φ [some (D.tup (c.map .int)),some (D.int m)] (.cmp .eq (.comp (.var 2) 0 (.p6 (.lit (.int 1)) (.prim .len (.var 0))) (.some (.cmp .ge (.idx (.var 0) (.bin .sub (.var 2) (.lit (.int 1)))) (.idx (.var 0) (.var 2))))) (.lst (.nil)))=.ok (.aT (nu ltI c)):=by
 have bu:cZ (elem pg Φ [some (D.tup (c.map .int)),some (D.int m)] (.var 2) 0 (.some (.cmp .ge (.idx (.var 0) (.bin .sub (.var 2) (.lit (.int 1)))) (.idx (.var 0) (.var 2))))) ((List.range (c.length-1)).map λ(k:Nat)=>D.int ((k:Int)+1))
   = .ok ((List.range (c.length-1)).filterMap λk=>if decide (c.getD k 0<c.getD (k+1) 0) then none else some (D.int ((k:Int)+1))):=J1 λk au=>by
  have au:=List.mem_range.mp au;have g1:c[k]?=some (c.getD k 0):=(by rw[Yl (by omega)];simp[List.getD,Yl (show k<c.length by omega)]);have g2:c[k+1]?=some (c.getD (k+1) 0):=(by rw[Yl (by omega)];simp[List.getD,Yl (show k+1<c.length by omega)]);have eB:=t5 g1;have e6:=t5 g2;have jD:(k:Int)+1-1=(k:Int):=(by omega);have i6:(k:Int)+1=((k+1:Nat):Int):=(by omega);simp only[Den.bc,Nat.reduceAdd,jD,eB];rw[i6,e6];simp only[Den.bc,Nat.reduceAdd]
  by_cases z:c.getD k 0<c.getD (k+1) 0
  .have gd:¬c.getD (k+1) 0<=c.getD k 0:=(by omega);simp only[Den.bc,Nat.reduceAdd,decide_eq_true z,decide_eq_false gd]
  .have gd:c.getD (k+1) 0<=c.getD k 0:=(by omega);simp only[Den.bc,Nat.reduceAdd,decide_eq_false z,decide_eq_true gd]
 have a7:=jo (i:=1) (j:=((c.length:Nat):Int)) (by omega) (by omega) (by omega) (by omega);simp only[Den.bc,Nat.reduceAdd,List.length_map,a7,SX,bu,xo (ys:=(List.range (c.length-1)).filterMap λk=>if decide (c.getD k 0<c.getD (k+1) 0) then none else some (D.int ((k:Int)+1))) (by rw[YI];intro d hd;obtain⟨k,_,au⟩:=aaT.mp hd;split at au<;>cases au;exact sl _ _),ML];have dU:((List.range (c.length-1)).all λk=>(if decide (c.getD k 0<c.getD (k+1) 0)=true then(none:Option D) else some (D.int ((k:Int)+1))).isNone)=nu ltI c:=by
  rw[AS];exact Zr (λp=>List.all (List.range (c.length-1)) p) (funext λk=>by generalize decide (c.getD k 0<c.getD (k+1) 0)=b;cases b<;>rfl)
 rw[dU]
def BL{α:Type}{g:D->R (Option D)}{p:α->Option D}{f:α->D}{ar:List α}(h:∀k∈ar,g (f k)=.ok (p k)):cZ g (ar.map f)=.ok (ar.filterMap p):=by
 induction ar with
 |nil=>rfl
 |cons c cs aF =>
  simp only[List.map_cons,cZ,h c List.mem_cons_self,R.lO,aF λy aD=>h y (List.mem_cons_of_mem _ aD),List.filterMap_cons];cases p c<;>rfl
def i4{α:Type}{g:D->R (Option D)}{q:α->Bool}{h:α->D}{f:α->D}{ar:List α}(e:∀k∈ar,g (f k)=.ok (if q k then some (h k) else none)):cZ g (ar.map f)=.ok ((ar.filter q).map h):=by
 rw[BL e,MM]
def gC{α:Type}{g:D->R (Option D)}{h:α->D}{f:α->D}{ar:List α}(e:∀k∈ar,g (f k)=.ok (some (h k))):cZ g (ar.map f)=.ok (ar.map h):=by
 rw[BL (p:=λk=>some (h k)) e,MN]
def zD(c:List Int):fE (aC c)=.ok (c.map .int):=rfl
def CG{α:Type}(q:α->Bool)(xs:List α):(xs.filter q).isEmpty=xs.all λx=>!q x:=by
 induction xs with
 |nil=>rfl
 |cons x xs aF=>cases h:q x<;>simp[h,aF]
def y2{α β:Type}(f:α->β)(xs:List α):(xs.map f).isEmpty=xs.isEmpty:=by cases xs<;>rfl
def P8(c o:List Int):dt pg Φ ⟨2,0,bl.wB⟩ [aC c,aC o]=.ok (.aT (lies c o)):=by
 have ai:cZ (elem pg Φ [some (aC c),some (aC o)] (.var 2) 0 (.some (.cmp .lM (.var 2) (.var 1)))) (c.map .int)=.ok ((c.filter λx=>!decide (x∈o)).map .int):=i4 λx _=>by
  simp only[Den.bc,Nat.reduceAdd];unfold aC;simp only[Den.bc,Nat.reduceAdd,QH];cases decide (x∈o)<;>simp only[Den.bc,Nat.reduceAdd]
 simp only[Den.bc,Nat.reduceAdd,bl.wB,zD,ai,xo (ys:=(c.filter λx=>!decide (x∈o)).map .int) (by simp[aaa,sl]),y2,CG,lies,Bool.not_not]
noncomputable def n9(cs:List (List Int)):List (List Int):=(cV lexLt (d6 cs)).filter λc=>cs.all λo=>!(!decide (c=o)&&lies c o)
def Qb{f:Nat}(hf:∀c o:List Int,Φ f [aC c,aC o]=.ok (.aT (lies c o))){d:D}{cs:List (List Int)}(hd:fE d=.ok (cs.map aC))(aB:∀c∈cs,c≠[])(g7:(d6 cs).length<=255):
  dt pg Φ ⟨1,2,bl.wJ f⟩ [d]=.ok (.tup ((n9 cs).map aC)):=by
 simp only[Den.bc,Nat.reduceAdd,bl.wJ,hd,zR aB g7];have hlen:(cV lexLt (d6 cs)).length<=255:=by rw[rO];exact g7
 unfold n9;generalize cV lexLt (d6 cs)=ds at *;obtain⟨cp,e,x,he⟩:=g6 (f:=aC) (g:=turn pg Φ 0 [2] (.cons (.iff (.cmp .eq (.comp (.var 3) 0 (.seq (.var 0)) (.some (.and (.cmp .ne (.var 2) (.var 3)) (.call f (.cons (.var 2) (.cons (.var 3) (.nil))))))) (.lst (.nil))) (.cons (.app 1 (.var 2)) (.nil)) (.nil)) (.nil)))
  (λa8 C=>∃(x:Option D),C=[some d,some (.lst ((a8.filter λc=>cs.all λo=>!(!decide (c=o)&&lies c o)).map aC)),x])
  ds [some d,some (.lst []),none] ⟨none,rfl⟩ (λpre c post C aE ⟨x,cf⟩=>by
   subst cf;have ai:∀z,cZ (elem pg Φ [some d,z,some (aC c)] (.var 3) 0 (.some (.and (.cmp .ne (.var 2) (.var 3)) (.call f (.cons (.var 2) (.cons (.var 3) (.nil))))))) (cs.map aC)=.ok ((cs.filter λo=>!decide (c=o)&&lies c o).map aC):=λz=>i4 λo _=>by
    simp only[Den.bc,Nat.reduceAdd,xn,hf];cases decide (c=o)<;>simp only[Den.bc,Nat.reduceAdd,hf,abB,Bool.true_and];cases lies c o<;>simp only[Den.bc,Nat.reduceAdd]
   have aw:((pre.filter λc=>cs.all λo=>!(!decide (c=o)&&lies c o)).map aC).length<SZ:=by
    have J:=abc (λc=>cs.all λo=>!(!decide (c=o)&&lies c o)) pre;have aa:pre.length<=ds.length:=(by rw[aE];simp);rw[List.length_map,g4];omega
   simp only[Den.bc,Nat.reduceAdd,hd,ai,xo (zI 58 _),y2,CG];cases q:(cs.all λo=>!(!decide (c=o)&&lies c o))
   .refine⟨_,by simp only[Den.bc,Nat.reduceAdd];rfl,some (aC c),?_⟩;rw[ME pre (by rw[q])]
   .refine⟨_,by simp only[Den.bc,Nat.reduceAdd,sQ,if_pos aw];rfl,some (aC c),?_⟩;rw[MF pre (by rw[q]),List.map_append];rfl)
 rw[e,he];simp only[Den.bc,Nat.reduceAdd]
def IX{c o:List Int}(aj:dI ltI c)(ay:dI ltI o)(h:∀x∈c,x∈o)(ne:c≠o):c.length<o.length:=by
 have J:c.length<=o.length:=lL (aj.nodup jU) h;rcases abz c.length o.length with q|q
 .exact q
 .exfalso;apply ne;refine oR jU aj ay λz=>⟨h z,λhz=>?_⟩
  by_cases DT:z∈c
  .exact DT
  .exfalso;have:(z::c).length<=o.length:=lL (YX.mpr ⟨DT,aj.nodup jU⟩) λw hw=>by
    rcases Yk.mp hw with rfl|hw
    .exact hz
    .exact h w hw
   simp at this;omega
def Qx{cs:List (List Int)}(h:∀c∈cs,dI ltI c):n9 cs=iA cs:=by
 unfold n9 iA;apply List.filter_congr;intro c aj;have hm:∀z,z∈cV lexLt (d6 cs)<->z∈cs:=λz=>by rw[kD,lK]
 have aj:=(hm c).mp aj;rw[ace];simp only[YI,YW,Bool.and_eq_false_iff,Bool.not_eq_false',YD,abM,YR,hm];constructor
 .intro q o ⟨ay,aw⟩;rcases q o ay with rfl|q
  .omega
  .rw[q];exact Y6
 .intro q o ay
  by_cases e:c=o
  .exact .inl e
  .refine .inr ?_;cases z:lies c o with
   |false=>rfl
   |true=>exact absurd z (q o ⟨ay,IX (h c aj) (h o ay) (yS.mp z) e⟩)
noncomputable def hE(w:Nat):Nat->D->Bool
 |_,.dr=>true
 |_,.aT _=>true
 |_,.int _=>true
 |_,.str x=>x.cps.all (· < 0x110000)
 |n+1,.tup xs=>decide (xs.length<=w)&&xs.all (hE w n)
 |n+1,.lst xs=>decide (xs.length<=w)&&xs.all (hE w n)
 |_,_=>false
def CV{w n:Nat}{xs:List D}(h:(decide (xs.length<=w)&&xs.all (hE w n))=true):xs.length<=w/\xs.all (hE w n)=true:=let ⟨a,b⟩:=abr.mp h;⟨ZR a,b⟩
mutual
theorem M3 {w:Nat}:∀(n:Nat)(d:D),hE w n d=true->dx n d=true
 |n,.dr,_=>by cases n<;>rfl
 |n,.aT _,_=>by cases n<;>rfl
 |n,.int _,_=>by cases n<;>rfl
 |0,.str _,h=>h
 |n+1,.str _,h=>h
 |0,.tup _,h=>by cases h
 |n+1,.tup xs,h=>xN n xs (abr.mp (show(decide _&&xs.all (hE w n))=true from h)).2
 |0,.lst _,h=>by cases h
 |n+1,.lst xs,h=>xN n xs (abr.mp (show(decide _&&xs.all (hE w n))=true from h)).2
 |0,.bK _,h=>by cases h
 |0,.bD _,h=>by cases h
 |n+1,.bK _,h=>by cases h
 |n+1,.bD _,h=>by cases h
 |0,.fw _,h=>by cases h
 |n+1,.fw _,h=>by cases h
theorem xN {w:Nat}:∀(n:Nat)(xs:List D),xs.all (hE w n)=true->xs.all (dx n)=true
 |_,[],_=>rfl
 |n,x::xs,h=>by
  simp only[List.all_cons,Yg]at h ⊢;exact⟨M3 n x h.1,xN n xs h.2⟩
end
mutual
theorem M4 {w ee:Nat} (hw:w<=ee):∀(n:Nat)(d:D),hE w n d=true->hE ee (n+1) d=true
 |n,.dr,_=>rfl
 |n,.aT _,_=>rfl
 |n,.int _,_=>rfl
 |0,.str _,h=>h
 |n+1,.str _,h=>h
 |0,.tup _,h=>by cases h
 |n+1,.tup xs,h=>by
  have h:=CV (show(decide (xs.length<=w)&&xs.all (hE w n))=true from h);show(decide (xs.length<=ee)&&xs.all (hE ee (n+1)))=true;rw[xO hw n xs h.2,abU];exact decide_eq_true (by omega)
 |0,.lst _,h=>by cases h
 |n+1,.lst xs,h=>by
  have h:=CV (show(decide (xs.length<=w)&&xs.all (hE w n))=true from h);show(decide (xs.length<=ee)&&xs.all (hE ee (n+1)))=true;rw[xO hw n xs h.2,abU];exact decide_eq_true (by omega)
 |0,.bK _,h=>by cases h
 |0,.bD _,h=>by cases h
 |n+1,.bK _,h=>by cases h
 |n+1,.bD _,h=>by cases h
 |0,.fw _,h=>by cases h
 |n+1,.fw _,h=>by cases h
theorem xO {w ee:Nat} (hw:w<=ee):∀(n:Nat)(xs:List D),xs.all (hE w n)=true->xs.all (hE ee (n+1))=true
 |_,[],_=>rfl
 |n,x::xs,h=>by
  simp only[List.all_cons,Yg]at h ⊢;exact⟨M4 hw n x h.1,xO hw n xs h.2⟩
end
def mj{m:Int}{c:List Int}(h:IsCell m c):c.length<=m.toNat:=by
 have:c.length<=(b9 m).length:=lL (h.2.2.nodup jU) λz hz=>pL.mpr (h.2.1 z hz)
 simpa[b9] using this
def pB{m:Int}(h:m<=8):(b9 m).length<=8:=by unfold b9;simp;omega
noncomputable def cO:Nat->List Int->List (List Int)
 |0,_=>[[]]
 |_+1,[]=>[]
 |s+1,x::r=>(cO s r).map (x::·)++cO (s+1) r
theorem oc:∀(s:Nat)(c z:List Int),z∈cO s c<->z.length=s/\z.Sublist c
 |0,c,z=>by
  simp only[cO,YA,List.length_eq_zero_iff];exact⟨λh=>⟨h,by subst h;exact aaL _⟩,λh=>h.1⟩
 |s+1,[],z=>by
  simp only[cO,abZ,abj,false_iff];rintro⟨J,aa⟩;subst aa;simp at J
 |s+1,x::r,z=>by
  simp only[cO,Yq,List.mem_map,oc s r,oc (s+1) r,List.sublist_cons_iff];constructor
  .rintro(⟨y,⟨J,aa⟩,rfl⟩|⟨J,aa⟩)
   .exact⟨by simp[J],.inr ⟨y,rfl,aa⟩⟩
   .exact⟨J,.inl aa⟩
  .rintro⟨J,aa|⟨y,rfl,aa⟩⟩
   .exact .inr ⟨J,aa⟩
   .exact .inl ⟨y,⟨by simpa using J,aa⟩,rfl⟩
theorem rN:∀(s:Nat)(c:List Int),(cO s c).length<=2 ^ c.length
 |0,c=>by simp only[cO,List.length_singleton];exact Nat.one_le_two_pow
 |s+1,[]=>by simp[cO]
 |s+1,x::r=>by
  have J:=rN s r;have aa:=rN (s+1) r;simp only[cO,Yj,List.length_map,List.length_cons,Nat.pow_succ];omega
noncomputable def fX:Nat->Nat->Nat
 |0,_=>1
 |_+1,0=>0
 |s+1,n+1=>fX s n+fX (s+1) n
theorem zk:∀(s:Nat)(c:List Int),(cO s c).length=fX s c.length
 |0,c=>by simp[cO,fX]
 |s+1,[]=>by simp[cO,fX]
 |s+1,x::r=>by simp only[cO,Yj,List.length_map,List.length_cons,fX,zk s r,zk (s+1) r]
theorem zi:∀{s n:Nat},n<s->fX s n=0
 |0,_,h=>by omega
 |s+1,0,_=>rfl
 |s+1,n+1,h=>by simp only[fX,zi (s:=s) (n:=n) (by omega),zi (s:=s+1) (n:=n) (by omega)]
theorem FT:∀(s:Nat)(c:List Int),cO (s+1) c=(List.range c.length).flatMap λk=>(cO s (c.drop (k+1))).map (c.getD k 0::·)
 |s,[]=>rfl
 |s,x::r=>by
  rw[List.length_cons,aa8,List.flatMap_cons,List.flatMap_map];show _=(cO s r).map (x::·)++(List.range r.length).flatMap λk=>(cO s (r.drop (k+1))).map (r.getD k 0::·)
  rw[<- FT s r];rfl
def O9{c:List Int}{k:Nat}(h:k<c.length):gM (.tup (c.map .int)) (.int (k:Int))=.ok (.int (c.getD k 0)):=t5 (by rw[Yl h];simp[List.getD,Yl h])
def p0(n:Nat):eO 0 (n:Int)=(List.range n).map λ(k:Nat)=>D.int (k:Int):=by
 unfold eO;have:((n:Int)-0).toNat=n:=by omega
 rw[this];apply Zs;intro k _;congr 1;omega
theorem tp{α β:Type}{f:α->List β}{k:Nat}:∀{xs:List α},(∀x∈xs,(f x).length<=k)->(xs.flatMap f).length<=xs.length*k
 |[],_=>by simp
 |x::xs,h=>by
  have:=tp (f:=f) (xs:=xs) λc aj=>h c (List.mem_cons_of_mem _ aj)
  have J:=h x List.mem_cons_self;simp only[List.flatMap_cons,Yj,List.length_cons,Nat.succ_mul];omega
def RE{f:Nat}(c:List Int):dt pg Φ ⟨2,2,bl.oS f⟩ [aC c,.int 0]=.ok (.lst ((cO 0 c).map aC)):=by
 have e:fv (.int 0) (.int 0)=.ok true:=rfl;simp only[Den.bc,Nat.reduceAdd,bl.oS,e,cO];rfl
def RF{f:Nat}{c:List Int}{s:Nat}(aj:c.length<=8)(hf:∀cN:List Int,cN.length<=8->Φ f [aC cN,.int (s:Int)]=.ok (.lst ((cO s cN).map aC))):dt pg Φ ⟨2,2,bl.oS f⟩ [aC c,.int ((s:Int)+1)]=.ok (.lst ((cO (s+1) c).map aC)):=by
 have h0:((s:Int)+1==0)=false:=by rw[YQ];omega
 have J:kz (aC c)=.ok (.int (c.length:Int)):=by unfold aC;rw[yM,List.length_map]
 simp only[Den.bc,Nat.reduceAdd,bl.oS,h0,J,jo (i:=0) (j:=(c.length:Int)) (by omega) (by omega) (by omega) (by omega),p0];have nD:∀ar:List Nat,ar.length<=8->(ar.flatMap λk=>(cO s (c.drop (k+1))).map (c.getD k 0::·)).length<=2048:=λar au=>by
  have:=tp (f:=λk=>(cO s (c.drop (k+1))).map (c.getD k 0::·)) (k:=256) (xs:=ar) λk _=>by
   have aa:=rN s (c.drop (k+1));have aI:(c.drop (k+1)).length<=8:=(by rw[Zb];omega);have aX:2 ^ (c.drop (k+1)).length<=2 ^ 8:=YN (by decide) aI;rw[List.length_map];omega
  omega
 obtain⟨cp,e,x,he⟩:=g6 (f:=λk:Nat=>D.int (k:Int)) (g:=turn pg Φ 0 [3] (.cons (.asg 2 (.bin .add (.var 2) (.comp (.bin .add (.tup (.cons (.idx (.var 0) (.var 3)) (.nil))) (.var 4)) 0 (.seq (.call f (.cons (.slice (.var 0) (.some (.bin .add (.var 3) (.lit (.int 1)))) (.none)) (.cons (.bin .sub (.var 1) (.lit (.int 1))) (.nil))))) (.none)))) (.nil)))
  (λa8 C=>∃(x:Option D),C=[some (aC c),some (.int ((s:Int)+1)),some (.lst ((a8.flatMap λk=>(cO s (c.drop (k+1))).map (c.getD k 0::·)).map aC)),x])
  (List.range c.length) [some (aC c),some (.int ((s:Int)+1)),some (.lst []),none] ⟨none,rfl⟩ (λpre k post C aE ⟨x,cf⟩=>by
   subst cf;have au:k<c.length:=by
    have:k∈List.range c.length:=(by rw[aE];simp);exact List.mem_range.mp this
   have e4:pre.length+1<=c.length:=by
    have:(List.range c.length).length=(pre++k::post).length:=(by rw[aE]);simp at this;omega
   have ab:j0 (aC c) (some ((k:Int)+1)) none=.ok (aC (c.drop (k+1))):=by
    unfold aC;rw[uY];have:((k:Int)+1)=((k+1:Nat):Int):=(by omega);rw[this,BP,List.map_drop]
   have jd:(s:Int)+1-1=(s:Int):=(by omega);have hd:(c.drop (k+1)).length<=8:=(by rw[Zb];omega);have ai:∀a b,cZ (elem pg Φ [some (aC c),a,b,some (D.int (k:Int))] (.bin .add (.tup (.cons (.idx (.var 0) (.var 3)) (.nil))) (.var 4)) 0 .none) ((cO s (c.drop (k+1))).map aC)=.ok ((cO s (c.drop (k+1))).map λz=>aC (c.getD k 0::z)):=λa b=>gC λz hz=>by
    have hz:=(oc _ _ _).mp hz;have XY:=hz.2.length_le;have eB:=O9 au;have aw:[D.int (c.getD k 0)].length+(z.map D.int).length<=SZ:=(by rw[List.length_map,g4];simp only[List.length_singleton];omega);simp only[Den.bc,Nat.reduceAdd];unfold aC;simp only[Den.bc,Nat.reduceAdd,eB,sP];rw[if_pos (by simpa using aw)];rfl
   have hlen:((pre.flatMap λk=>(cO s (c.drop (k+1))).map (c.getD k 0::·)).map aC).length+((cO s (c.drop (k+1))).map λz=>aC (c.getD k 0::z)).length<=SZ:=by
    have J:=nD pre (by omega);have aa:=rN s (c.drop (k+1));have aX:2 ^ (c.drop (k+1)).length<=2 ^ 8:=YN (by decide) hd;rw[List.length_map,List.length_map,g4];omega
   refine⟨_,by simp only[Den.bc,Nat.reduceAdd,ab,jd,hf _ hd,ai,k0,if_pos hlen];rfl,some (.int (k:Int)),?_⟩;simp[aaP])
 rw[e,he,<- FT];simp only[Den.bc,Nat.reduceAdd]
theorem FA{fds:List gu}{f:Nat}(hf:fds[f]?=some ⟨2,2,bl.oS f⟩):∀(s n:Nat)(c:List Int),s<n->c.length<=8->run pg fds n f [aC c,.int (s:Int)]=.ok (.lst ((cO s c).map aC))
 |0,0,c,h,_=>by omega
 |s+1,0,c,h,_=>by omega
 |0,n+1,c,_,_=>by rw[sf,hf];exact RE c
 |s+1,n+1,c,h,aj=>by
  rw[sf,hf];have:((s+1:Nat):Int)=(s:Int)+1:=(by omega);rw[this];exact RF aj λcN cT=>FA hf s n cN (by omega) cT
theorem sR:∀{o c:List Int},dI ltI c->dI ltI o->(∀x∈c,x∈o)->c.Sublist o
 |[],[],_,_,_=>aaL _
 |[],x::c,_,_,h=>by have:=h x List.mem_cons_self;simp at this
 |y::o,[],_,_,_=>aaL _
 |y::o,x::c,aj,ay,h=>by
  obtain⟨dk,bA⟩:=YE.mp aj;obtain⟨mW,jX⟩:=YE.mp ay
  by_cases e:x=y
  .subst e;refine List.Sublist.cons_cons x (sR bA jX λz hz=>?_);rcases Yk.mp (h z (List.mem_cons_of_mem _ hz)) with q|q
   .have:=dk z hz;subst q;simp[ltI]at this
   .exact q
  .have ag:x∈o:=by
    rcases Yk.mp (h x List.mem_cons_self) with q|q
    .exact absurd q e
    .exact q
   have rz:=mW x ag;refine List.Sublist.cons y (sR aj jX λz hz=>?_);rcases Yk.mp (h z hz) with q|q
   .exfalso;subst q;rcases Yk.mp hz with w|w
    .exact e w.symm
    .have:=dk z w;simp[ltI]at this rz;omega
   .exact q
noncomputable def ml(ts:List (List Int))(h:Nat):List (List Int):=cV lexLt (d6 (ts.flatMap (cO (h+1))))
def QI{ts:List (List Int)}{h:Nat}{z:List Int}:z∈ml ts h<->z.length=h+1/\∃t∈ts,z.Sublist t:=by
 unfold ml;rw[kD,lK,ZY];simp only[oc];exact⟨λ⟨t,a,b,c⟩=>⟨b,t,a,c⟩,λ⟨b,t,a,c⟩=>⟨t,a,b,c⟩⟩
def IW(ts:List (List Int))(h:Nat):dI lexLt (ml ts h):=nx lH (pS _)
def A8(m:Int):dI ltI (b9 m):=by
 unfold b9 dI;rw[Zu];exact aay (λ{a b}(q:a<b)=>by simp[ltI];omega) aa4
def Bw{m:Int}{c:List Int}(h:IsCell m c):c.Sublist (b9 m):=sR h.2.2 (A8 m) λx ag=>pL.mpr (h.2.1 x ag)
def Ve{m:Int}{z t:List Int}(h:IsCell m t)(s:z.Sublist t)(hz:z≠[]):IsCell m z:=⟨hz,λx ag=>h.2.1 x (s.subset ag),Zj s h.2.2⟩
def P6{f h:Nat}{m:Int}{ts:List (List Int)}(hf:∀c:List Int,c.length<=8->Φ f [aC c,.int ((h:Int)+1)]=.ok (.lst ((cO (h+1) c).map aC)))(aW:∀t∈ts,t.length<=8)(aw:ts.length<=255)(g7:(ml ts h).length<=255):
  dt pg Φ ⟨2,2,bl.wt f⟩ [bP m ts,.int (h:Int)]=.ok (.lst ((ml ts h).map aC)):=by
 have hi:gM (bP m ts) (.int 1)=.ok (.tup (ts.map aC)):=rfl;simp only[Den.bc,Nat.reduceAdd,bl.wt,hi];have nD:∀ar:List (List Int),ar.length<=255->(∀t∈ar,t.length<=8)->(ar.flatMap (cO (h+1))).length<=65280:=λar au dV=>by
  have:=tp (f:=cO (h+1)) (k:=256) (xs:=ar) λt kx=>by
   have aa:=rN (h+1) t;have aX:2 ^ t.length<=2 ^ 8:=YN (by decide) (dV t kx);omega
  omega
 obtain⟨cp,e,x,he⟩:=g6 (f:=aC) (g:=turn pg Φ 0 [3] (.cons (.asg 2 (.bin .add (.var 2) (.call f (.cons (.var 3) (.cons (.bin .add (.var 1) (.lit (.int 1))) (.nil)))))) (.nil)))
  (λa8 C=>∃(x:Option D),C=[some (bP m ts),some (.int (h:Int)),some (.lst ((a8.flatMap (cO (h+1))).map aC)),x])
  ts [some (bP m ts),some (.int (h:Int)),some (.lst []),none] ⟨none,rfl⟩ (λpre t post C aE ⟨x,cf⟩=>by
   subst cf;have rv:t∈ts:=(by rw[aE];simp);have e4:pre.length+1<=ts.length:=(by rw[aE];simp);have J:=nD pre (by omega) λt kx=>aW t (by rw[aE];simp[kx])
   have aa:=nD [t] (by simp) λz hz=>by simp at hz;subst hz;exact aW z rv
   have hlen:((pre.flatMap (cO (h+1))).map aC).length+((cO (h+1) t).map aC).length<=SZ:=by
    simp at aa;rw[List.length_map,List.length_map,g4];omega
   refine⟨_,by simp only[Den.bc,Nat.reduceAdd,hf t (aW t rv),k0,if_pos hlen];rfl,some (aC t),?_⟩;simp[aaP])
 rw[e,he];have aB:∀c∈ts.flatMap (cO (h+1)),c≠[]:=λc aj=>by
  obtain⟨t,_,aj⟩:=ZY.mp aj;intro z;subst z;have:=((oc _ _ _).mp aj).1;simp at this
 have:(d6 (ts.flatMap (cO (h+1)))).length<=255:=by unfold ml at g7;rw[rO]at g7;exact g7
 simp only[Den.bc,Nat.reduceAdd,zR aB this,ml]
noncomputable def Hy:D->Int
 |.int i=>i
 |_=>0
def jW(i j:Int)(h:(-e0<i/\i<e0)\/(-e0<j/\j<e0)):d3 .mul (.int i) (.int j)=.ok (.int (i*j)):=by rw[mul_int,if_pos h]
def h9(i j:Int)(h:0<j):d3 .mod (.int i) (.int j)=.ok (.int (i%j)):=by rw[mod_int,if_pos h]
def xy(i j:Int)(h:0<j)(h':j<1073741824):d3 .fdiv (.int i) (.int j)=.ok (.int (i / j)):=by rw[CA,if_pos ⟨h,h'⟩]
def iW:e0=18446744073709551616:=rfl
noncomputable def nk:Int:=2147483629
def AE:nk=2147483629:=rfl
def k8(a:Int){b:Int}(h:0<b):0<=a%b/\a%b<b:=⟨Int.emod_nonneg a (by omega),Int.emod_lt_of_pos a h⟩
def K7(i k:Int):∃r:Int,0<=r/\r<nk/\dt pg Φ ⟨2,1,bl.wu⟩ [.int i,.int k]=.ok (.int r):=by
 have b1:=k8 ((i+104729*k+17)*69621) (b:=2147483647) (by decide);refine⟨((i+104729*k+17)*69621%2147483647*((i+104729*k+17)*69621%2147483647)+3*((i+104729*k+17)*69621%2147483647)+k)%2147483629,?_,?_,by
  simp only[Den.bc,Nat.reduceAdd,bl.wu,jW 104729 k (.inl (by rw[iW];omega)),jW _ 69621 (.inr (by rw[iW];omega)),h9 _ 2147483647 (by decide),h9 _ 2147483629 (by decide),
   jW ((i+104729*k+17)*69621%2147483647) ((i+104729*k+17)*69621%2147483647) (.inl (by rw[iW];omega)),jW 3 ((i+104729*k+17)*69621%2147483647) (.inl (by rw[iW];omega))]⟩
 .exact(k8 _ (by decide)).1
 .rw[AE];exact(k8 _ (by decide)).2
def JE(is:List Int)(k:Nat):dt pg Φ ⟨2,0,bl.wq⟩ [.lst (is.map .int),.int (k:Int)]=.ok (.int (is.getD k 0)):=by
 simp only[Den.bc,Nat.reduceAdd,bl.wq,List.length_map]
 by_cases h:k<is.length
 .have h':(k:Int)<(is.length:Int):=(by omega);have e:gM (.lst (is.map D.int)) (.int (k:Int))=.ok (.int (is.getD k 0)):=by
   rw[yz,xP,Yy,Yl h];simp[List.getD,Yl h]
  simp only[Den.bc,Nat.reduceAdd,decide_eq_true h',e]
 .have h':¬(k:Int)<(is.length:Int):=(by omega);have e:is.getD k 0=0:=(by simp[List.getD,YO (aaD h)]);simp only[Den.bc,Nat.reduceAdd,decide_eq_false h',e]
def QO{f:Nat}{is:List Int}(hf:∀k:Nat,Φ f [.lst (is.map .int),.int (k:Int)]=.ok (.int (is.getD k 0)))(k:Nat):∃r:Int,0<=r/\r<nk/\dt pg Φ ⟨2,1,bl.wC f⟩ [.lst (is.map .int),.int (k:Int)]=.ok (.int r):=by
 have b1:=k8 ((is.getD k 0+7919*(k:Int)+1)*48271) (b:=2147483647) (by decide);refine⟨((is.getD k 0+7919*(k:Int)+1)*48271%2147483647*((is.getD k 0+7919*(k:Int)+1)*48271%2147483647)+7*((is.getD k 0+7919*(k:Int)+1)*48271%2147483647)+(k:Int))%2147483629,?_,?_,by
  simp only[Den.bc,Nat.reduceAdd,bl.wC,hf,jW 7919 (k:Int) (.inl (by rw[iW];omega)),jW _ 48271 (.inr (by rw[iW];omega)),h9 _ 2147483647 (by decide),h9 _ 2147483629 (by decide),
   jW ((is.getD k 0+7919*(k:Int)+1)*48271%2147483647) ((is.getD k 0+7919*(k:Int)+1)*48271%2147483647) (.inl (by rw[iW];omega)),jW 7 ((is.getD k 0+7919*(k:Int)+1)*48271%2147483647) (.inl (by rw[iW];omega))]⟩
 .exact(k8 _ (by decide)).1
 .rw[AE];exact(k8 _ (by decide)).2
def UU{f:Nat}(hf:∀i k:Int,∃r:Int,0<=r/\r<nk/\Φ f [.int i,.int k]=.ok (.int r))(i m:Int)(J:1<=m)(dV:m<=8):
  ∃cs:List (List Int),dt pg Φ ⟨2,4,bl.wI f⟩ [.int i,.int m]=.ok (.lst (cs.map aC))/\(∀c∈cs,IsCell m c)/\gD m cs=true/\cs.length<=16:=by
 have a7:=jo (i:=0) (j:=m) (by omega) (by omega) (by omega) (by omega);have I5:=k8 i (b:=9) (by decide);have OH:=jo (i:=0) (j:=i%9) (by omega) (by omega) (by omega) (by omega);have s8:eO 0 (i%9)=(b9 (i%9)).map .int:=p1 _;have dD:cZ (elem pg Φ [some (.int i),some (.int m),none,none,none,none] (.tup (.cons (.var 6) (.nil))) 0 .none) ((b9 m).map .int)=.ok ((b9 m).map λk=>aC [k]):=gC λk _=>by
  simp only[Den.bc,Nat.reduceAdd];rfl
 simp only[Den.bc,Nat.reduceAdd,bl.wI,a7,p1,dD,h9 i 9 (by decide),OH];have h0:∀k∈b9 m,IsCell m [k]:=λk au=>⟨by simp,by simpa using pL.mp au,Zn _ _⟩
 obtain⟨cp,e,cs,x,y,z,he,aj,aw⟩:=g6 (f:=D.int) (g:=turn pg Φ 0 [3] (.cons (.asg 4 (.call f (.cons (.var 0) (.cons (.var 3) (.nil))))) (.cons (.asg 5 (.tupI (.seq (.comp (.var 6) 0 (.eP (.var 1)) (.some (.cmp .lt (.bin .mod (.call f (.cons (.var 4) (.cons (.var 6) (.nil)))) (.lit (.int 5))) (.bin .add (.lit (.int 2)) (.bin .mod (.var 4) (.lit (.int 2)))))))))) (.cons (.iff (.cmp .ne (.var 5) (.tup (.nil))) (.cons (.app 2 (.var 5)) (.nil)) (.nil)) (.nil)))))
  (λa8 C=>∃(cs:List (List Int))(x y z:Option D),C=[some (.int i),some (.int m),some (.lst (((b9 m).map λk=>[k]).map aC++cs.map aC)),x,y,z]/\(∀c∈cs,IsCell m c)/\cs.length<=a8.length)
  (b9 (i%9)) [some (.int i),some (.int m),some (.lst ((b9 m).map λk=>aC [k])),none,none,none] ⟨[],none,none,none,by simp[Function.comp_def],by simp,by simp⟩ (λpre k post C aE ⟨cs,x,y,z,cf,aj,aw⟩=>by
   subst cf;obtain⟨r,aH,a5,OG⟩:=hf i k;have ex:∃q:Int->Bool,∀x y z,cZ (elem pg Φ [some (.int i),some (.int m),x,y,some (.int r),z] (.var 6) 0 (.some (.cmp .lt (.bin .mod (.call f (.cons (.var 4) (.cons (.var 6) (.nil)))) (.lit (.int 5))) (.bin .add (.lit (.int 2)) (.bin .mod (.var 4) (.lit (.int 2))))))) ((b9 m).map .int)=.ok (((b9 m).filter q).map .int):=by
    obtain⟨g,a4⟩:∃g:Int->Int,∀k,Φ f [.int r,.int k]=.ok (.int (g k)):=⟨λk=>Classical.choose (hf r k),λk=>(Classical.choose_spec (hf r k)).2.2⟩;refine⟨λk=>decide (g k%5<2+r%2),λx y z=>i4 λk _=>?_⟩;have ab:=a4 k;simp only[Den.bc,Nat.reduceAdd,ab,h9 _ 5 (by decide),h9 _ 2 (by decide)]
    split<;>rfl
   obtain⟨q,aJ⟩:=ex;have jd:((b9 m).filter q).Sublist (b9 m):=abx;simp only[Den.bc,Nat.reduceAdd,OG,a7,p1,aJ];have aB:fv (.tup (((b9 m).filter q).map .int)) (.tup [])=.ok ((b9 m).filter q).isEmpty:=by
    rw[Lw (by simp[aaa,sl]),y2]
   simp only[Den.bc,Nat.reduceAdd,aB];have e4:pre.length+1<=9:=by
    have J:(b9 (i%9)).length=(pre++k::post).length:=(by rw[<- aE]);have aa:(b9 (i%9)).length<=9:=(by unfold b9;simp;omega);simp at J;omega
   cases DK:((b9 m).filter q).isEmpty
   .have eN:(b9 m).filter q≠[]:=(by intro z;rw[z]at DK;cases DK);have tK:IsCell m ((b9 m).filter q):=⟨eN,λx ag=>pL.mp (jd.subset ag),Zj jd (A8 m)⟩;have hlen:(((b9 m).map λk=>[k]).map aC++cs.map aC).length<SZ:=by
     have:=pB dV;simp only[Yj,List.length_map,g4];omega
    refine⟨_,by simp only[Den.bc,Nat.reduceAdd,sQ,if_pos hlen];rfl,cs++[(b9 m).filter q],_,_,_,by simp only[List.map_append,Yr];rfl,λc cT=>?_,by simp;omega⟩;rcases Yq.mp cT with w|w
    .exact aj c w
    .simp at w;subst w;exact tK
   .exact⟨_,by simp only[Den.bc,Nat.reduceAdd];rfl,cs,_,_,_,rfl,aj,by simp;omega⟩)
 rw[e,he];simp only[Den.bc,Nat.reduceAdd];refine⟨((b9 m).map λk=>[k])++cs,by rw[List.map_append],λc cT=>?_,?_,?_⟩
 .rcases Yq.mp cT with w|w
  .obtain⟨k,au,rfl⟩:=List.mem_map.mp w;exact h0 k au
  .exact aj c w
 .rw[xc];intro x a b;exact⟨[x],by simp[pL];exact .inl ⟨a,b⟩,by simp⟩
 .have:=pB dV;have aa:(b9 (i%9)).length<=8:=(by unfold b9;simp;omega);simp only[Yj,List.length_map];omega
def pN{cs:List (List Int)}{c:List Int}:c∈iA cs<->c∈cs/\∀o∈cs,c.length<o.length->¬lies c o=true:=by
 unfold iA;simp only[YR,kD,lK,YW,abM,YD,and_imp]
def Bb(cs:List (List Int)):dI lexLt (iA cs):=Zj abx (nx lH (pS _))
def WC(cs:List (List Int)):iA (iA cs)=iA cs:=by
 refine oR lH (Bb _) (Bb _) λz=>?_
 rw[pN];refine⟨λh=>h.1,λh=>⟨h,λo ay aw=>(pN.mp h).2 o (pN.mp ay).1 aw⟩⟩
theorem Hz{m:Int}{cs:List (List Int)}(h:∀c∈cs,IsCell m c):∀(n:Nat)(c:List Int),c∈cs->m.toNat<=c.length+n->∃t∈iA cs,∀x∈c,x∈t
 |0,c,aj,aB=>⟨c,pN.mpr ⟨aj,λo ay aw=>by have:=mj (h o ay);omega⟩,λ_ ag=>ag⟩
 |n+1,c,aj,aB=>by
  by_cases q:∀o∈cs,c.length<o.length->¬lies c o=true
  .exact⟨c,pN.mpr ⟨aj,q⟩,λ_ ag=>ag⟩
  .obtain⟨o,ay,aw,ab⟩:∃o,o∈cs/\c.length<o.length/\lies c o=true:=by
    apply abJ;intro z;exact q λo ay aw ab=>z ⟨o,ay,aw,ab⟩
   obtain⟨t,aW,tW⟩:=Hz h n o ay (by omega);exact⟨t,aW,λx ag=>tW x (yS.mp ab x ag)⟩
structure Net(m:Int)(ts:List (List Int)):Prop where
 lo:1<=m
 hi:m<=8
 cell:∀c∈ts,IsCell m c
 top:ts=iA ts
 gD:gD m ts=true
def Q4{m:Int}{cs:List (List Int)}(J:1<=m)(dV:m<=8)(aj:∀c∈cs,IsCell m c)(aV:gD m cs=true):Net m (iA cs) where
 lo:=J
 hi:=dV
 cell:=λc h=>aj c (pN.mp h).1
 top:=(WC cs).symm
 gD:=by
  rw[xc]at aV ⊢;intro x a b;obtain⟨c,h,ag⟩:=aV x a b;obtain⟨t,aW,ab⟩:=Hz aj m.toNat c h (by omega);exact⟨t,aW,ab x ag⟩
def WB(cs:List (List Int)):(iA cs).length<=cs.length:=by
 unfold iA;have J:=abc (λc=>!((cV lexLt (d6 cs)).filter λo=>decide (c.length<o.length)).any (lies c)) (cV lexLt (d6 cs));have aa:=xh cs;rw[rO]at J;omega
def zQ{m:Int}{c:List Int}(h:IsCell m c):cV ltI c=c:=U3 jU h.2.2
def G8{m:Int}{cs:List (List Int)}(h:∀c∈cs,IsCell m c):cs.map (cV ltI)=cs:=by
 conv=>rhs;rw[<- abn cs]
 exact Zs λc aj=>zQ (h c aj)
noncomputable def JI:Bool:=(List.range 7).all λm=>(List.range 7).all λs=>(decide (s=0)||decide (m<s))||((cO s (b9 (m:Int))).all (λc=>decide (IsCell (m:Int) c))&&gD (m:Int) (cO s (b9 (m:Int))))
def Bz:JI=true:=by decide +kernel
noncomputable def band:List (List Int):=(b9 5).map (λk=>[0,1+k,1+(k+1)%5])++(b9 5).map λk=>[1+k,1+(k+1)%5,1+(k+3)%5]
def I6:(band.map (cV ltI)).all (λc=>decide (IsCell 6 c))&&gD 6 (band.map (cV ltI))&&decide (band.length<=20)&&band.all (λc=>decide (c.length<=255))=true:=by decide +kernel
def Sp{s n:Nat}(h:n<=8):fX s n<=70:=by
 rcases abz n s with q|q
 .rw[zi q];omega
 .have:∀n:Fin 9,∀s:Fin 9,fX s.val n.val<=70:=(by decide);exact this ⟨n,by omega⟩ ⟨s,by omega⟩
def uv{ra:Nat}{cs:List (List Int)}{m:Int}(hf:∀cs:List (List Int),(∀c∈cs,c≠[])->(d6 cs).length<=255->Φ ra [.lst (cs.map aC)]=.ok (.tup ((n9 cs).map aC)))(J:1<=m)(dV:m<=8)(aw:cs.length<=70)(Nk:∀c∈cs,c.length<=255)(aj:∀c∈cs,IsCell m (cV ltI c))(aV:gD m (cs.map (cV ltI))=true){a b c:D}:
  ∃ts,mz (e3 pg Φ [some a,some b,some (.int m),some c,some (.lst (cs.map aC))] (.cons (.ret (.tup (.cons (.var 2) (.cons (.call ra (.cons (.comp (.tupI (.seq (.prim .sorted (.var 5)))) 0 (.seq (.var 4)) (.none)) (.nil))) (.nil))))) (.nil)))=.ok (bP m ts)/\Net m ts/\ts.length<=70:=by
 have jb:∀c∈cs.map (cV ltI),IsCell m c:=λc cT=>by obtain⟨o,ay,rfl⟩:=List.mem_map.mp cT;exact aj o ay
 refine⟨iA (cs.map (cV ltI)),?_,Q4 J dV jb aV,by have:=WB (cs.map (cV ltI));rw[List.length_map]at this;omega⟩;have ai:cZ (elem pg Φ [some a,some b,some (.int m),some c,some (.lst (cs.map aC))] (.tupI (.seq (.prim .sorted (.var 5)))) 0 .none) (cs.map aC)=.ok (cs.map λc=>aC (cV ltI c)):=gC λc cT=>by
  simp only[Den.bc,Nat.reduceAdd,zD,UX (Nk c cT)];rfl
 have av:(cs.map λc=>aC (cV ltI c))=(cs.map (cV ltI)).map aC:=by rw[List.map_map];rfl
 have g7:(d6 (cs.map (cV ltI))).length<=255:=by have:=xh (cs.map (cV ltI));rw[List.length_map]at this;omega
 simp only[Den.bc,Nat.reduceAdd,ai,av,hf _ (λc cT=>(jb c cT).1) g7,Qx (λc cT=>(jb c cT).2.2)];rfl
noncomputable def Bx:Bool:=(List.range 9).all λm=>(List.range 9).all λs=>(decide (s=0)||decide (m<s))||((cO s (b9 (m:Int))).all (λc=>decide (IsCell (m:Int) c))&&gD (m:Int) (cO s (b9 (m:Int))))
def JJ:Bx=true:=by decide +kernel
def Iw{m:Int}{s:Nat}(J:1<=m)(fk:m<=8)(ab:1<=s)(rt:(s:Int)<=m):(∀c∈cO s (b9 m),IsCell m c)/\gD m (cO s (b9 m))=true:=by
 have h:=JJ;unfold Bx at h;rw[YI]at h;have h:=h m.toNat (List.mem_range.mpr (by omega));rw[YI]at h;have h:=h s (List.mem_range.mpr (by omega));have e:((m.toNat:Nat):Int)=m:=by omega
 rw[e]at h;have ia:¬s=0:=by omega
 have hc:¬m.toNat<s:=by omega
 simp only[decide_eq_false ia,decide_eq_false hc,Bool.or_self,Bool.false_or,Yg,YI,YD]at h;exact h
noncomputable def oD:List (List Int):=(b9 7).map (λk=>[k,(k+1)%7,(k+3)%7])++(b9 7).map λk=>[k,(k+2)%7,(k+3)%7]
def Ww:(oD.map (cV ltI)).all (λc=>decide (IsCell 7 c))&&gD 7 (oD.map (cV ltI))&&decide (oD.length<=70)&&oD.all (λc=>decide (c.length<=255))=true:=by decide +kernel
def Q3{ra bB bL:Nat}(aW:∀cs:List (List Int),(∀c∈cs,c≠[])->(d6 cs).length<=255->Φ ra [.lst (cs.map aC)]=.ok (.tup ((n9 cs).map aC)))(aE:∀(s:Nat)(c:List Int),s<=8->c.length<=8->Φ bB [aC c,.int (s:Int)]=.ok (.lst ((cO s c).map aC)))(ab:∀i m:Int,1<=m->m<=8->∃cs:List (List Int),Φ bL [.int i,.int m]=.ok (.lst (cs.map aC))/\(∀c∈cs,IsCell m c)/\gD m cs=true/\cs.length<=16)(i:Int)(h0:0<=i):
  ∃m ts,dt pg Φ ⟨2,3,bl.wD ra bB bL⟩ [.int i,.int 8]=.ok (bP m ts)/\Net m ts/\ts.length<=70:=by
 have qI:=k8 i (b:=8) (by decide);have cz:decide ((5:Int)<8)=true:=rfl;have c1:decide ((6:Int)<8)=true:=rfl;simp only[Den.bc,Nat.reduceAdd,bl.wD,h9 i 8 (by decide),xy i 12 (by decide) (by decide),h9 _ 8 (by decide)];cases ua:(i / 12%8==0)
 .cases aZ:(i / 12%8==1)
  .cases aQ:(i / 12%8==2)
   .obtain⟨cs,e,aj,aV,aw⟩:=ab (i / 96) (1+i%8) (by omega) (by omega);obtain⟨ts,av,aB,mG⟩:=uv (pg:=pg) (Φ:=Φ) (cs:=cs) (m:=1+i%8) (a:=.int i) (b:=.int 8) (c:=.int (i / 12%8)) aW (by omega) (by omega) (by omega) (λc cT=>by have:=mj (aj c cT);omega) (λc cT=>by rw[zQ (aj c cT)];exact aj c cT) (by rw[G8 aj];exact aV);refine⟨1+i%8,ts,?_,aB,mG⟩;rw[<- av];simp only[Den.bc,Nat.reduceAdd,aZ,aQ,xy i 96 (by decide) (by decide),e]
   .have ae:=Ww;simp only[Yg,YI,YD]at ae;obtain⟨⟨⟨hI,jK⟩,Dr⟩,x4⟩:=ae;obtain⟨ts,av,aB,mG⟩:=uv (pg:=pg) (Φ:=Φ) (cs:=oD) (m:=7) (a:=.int i) (b:=.int 8) (c:=.int (i / 12%8)) aW (by decide) (by decide) Dr x4 (λc cT=>hI _ (List.mem_map_of_mem cT)) jK;refine⟨7,ts,?_,aB,mG⟩;rw[<- av];have f9:=jo (i:=0) (j:=7) (by omega) (by omega) (by omega) (by omega);have dk:∀a b c d e,cZ (elem pg Φ [a,b,c,d,e] (.tup (.cons (.var 5) (.cons (.bin .mod (.bin .add (.var 5) (.lit (.int 1))) (.lit (.int 7))) (.cons (.bin .mod (.bin .add (.var 5) (.lit (.int 3))) (.lit (.int 7))) (.nil))))) 0 .none) ((b9 7).map .int)=.ok ((b9 7).map λk=>aC [k,(k+1)%7,(k+3)%7]):=λa b c d e=>gC λk _=>by
     simp only[Den.bc,Nat.reduceAdd,h9 _ 7 (by decide)];rfl
    have bA:∀a b c d e,cZ (elem pg Φ [a,b,c,d,e] (.tup (.cons (.var 5) (.cons (.bin .mod (.bin .add (.var 5) (.lit (.int 2))) (.lit (.int 7))) (.cons (.bin .mod (.bin .add (.var 5) (.lit (.int 3))) (.lit (.int 7))) (.nil))))) 0 .none) ((b9 7).map .int)=.ok ((b9 7).map λk=>aC [k,(k+2)%7,(k+3)%7]):=λa b c d e=>gC λk _=>by
     simp only[Den.bc,Nat.reduceAdd,h9 _ 7 (by decide)];rfl
    have ec:oD.map aC=(b9 7).map (λk=>aC [k,(k+1)%7,(k+3)%7])++(b9 7).map λk=>aC [k,(k+2)%7,(k+3)%7]:=by
     unfold oD;rw[List.map_append,List.map_map,List.map_map];rfl
    have hlen:((b9 7).map (λk=>aC [k,(k+1)%7,(k+3)%7])).length+((b9 7).map λk=>aC [k,(k+2)%7,(k+3)%7]).length<=SZ:=by
     have:=pB (m:=7) (by decide);rw[List.length_map,List.length_map,g4];omega
    simp only[Den.bc,Nat.reduceAdd,aZ,aQ,c1,f9,p1,dk,bA,k0,if_pos hlen,<- ec]
  .have ae:=I6;simp only[Yg,YI,YD]at ae;obtain⟨⟨⟨hI,jK⟩,Dr⟩,x4⟩:=ae;obtain⟨ts,av,aB,mG⟩:=uv (pg:=pg) (Φ:=Φ) (cs:=band) (m:=6) (a:=.int i) (b:=.int 8) (c:=.int (i / 12%8)) aW (by decide) (by decide) (by omega) x4 (λc cT=>hI _ (List.mem_map_of_mem cT)) jK;refine⟨6,ts,?_,aB,mG⟩;rw[<- av];have f9:=jo (i:=0) (j:=5) (by omega) (by omega) (by omega) (by omega);have dk:∀a b c d e,cZ (elem pg Φ [a,b,c,d,e] (.tup (.cons (.lit (.int 0)) (.cons (.bin .add (.lit (.int 1)) (.var 5)) (.cons (.bin .add (.lit (.int 1)) (.bin .mod (.bin .add (.var 5) (.lit (.int 1))) (.lit (.int 5)))) (.nil))))) 0 .none) ((b9 5).map .int)=.ok ((b9 5).map λk=>aC [0,1+k,1+(k+1)%5]):=λa b c d e=>gC λk _=>by
    simp only[Den.bc,Nat.reduceAdd,h9 _ 5 (by decide)];rfl
   have bA:∀a b c d e,cZ (elem pg Φ [a,b,c,d,e] (.tup (.cons (.bin .add (.lit (.int 1)) (.var 5)) (.cons (.bin .add (.lit (.int 1)) (.bin .mod (.bin .add (.var 5) (.lit (.int 1))) (.lit (.int 5)))) (.cons (.bin .add (.lit (.int 1)) (.bin .mod (.bin .add (.var 5) (.lit (.int 3))) (.lit (.int 5)))) (.nil))))) 0 .none) ((b9 5).map .int)=.ok ((b9 5).map λk=>aC [1+k,1+(k+1)%5,1+(k+3)%5]):=λa b c d e=>gC λk _=>by
    simp only[Den.bc,Nat.reduceAdd,h9 _ 5 (by decide)];rfl
   have ec:band.map aC=(b9 5).map (λk=>aC [0,1+k,1+(k+1)%5])++(b9 5).map λk=>aC [1+k,1+(k+1)%5,1+(k+3)%5]:=by
    unfold band;rw[List.map_append,List.map_map,List.map_map];rfl
   have hlen:((b9 5).map (λk=>aC [0,1+k,1+(k+1)%5])).length+((b9 5).map λk=>aC [1+k,1+(k+1)%5,1+(k+3)%5]).length<=SZ:=by
    have:=pB (m:=5) (by decide);rw[List.length_map,List.length_map,g4];omega
   simp only[Den.bc,Nat.reduceAdd,aZ,cz,f9,p1,dk,bA,k0,if_pos hlen,<- ec]
 .have I5:=k8 (i / 96) (b:=1+i%8) (by omega);obtain⟨s,yp⟩:∃s:Nat,(s:Int)=1+i / 96%(1+i%8):=⟨(1+i / 96%(1+i%8)).toNat,by omega⟩;obtain⟨aj,aV⟩:=Iw (m:=1+i%8) (s:=s) (by omega) (by omega) (by omega) (by omega);have Dx:(b9 (1+i%8)).length<=8:=(by unfold b9;simp;omega);have Oe:(cO s (b9 (1+i%8))).length<=70:=(by rw[zk];exact Sp Dx);obtain⟨ts,av,aB,mG⟩:=uv (pg:=pg) (Φ:=Φ) (cs:=cO s (b9 (1+i%8))) (m:=1+i%8) (a:=.int i) (b:=.int 8) (c:=.int (i / 12%8)) aW (by omega) (by omega) Oe (λc cT=>by have:=mj (aj c cT);omega) (λc cT=>by rw[zQ (aj c cT)];exact aj c cT) (by rw[G8 aj];exact aV);refine⟨1+i%8,ts,?_,aB,mG⟩;rw[<- av];have DJ:=aE s (b9 (1+i%8)) (by omega) (by omega);unfold aC at DJ;simp only[Den.bc,Nat.reduceAdd,xy i 96 (by decide) (by decide),h9 (i / 96) (1+i%8) (by omega),<- yp,jo (i:=0) (j:=1+i%8) (by omega) (by omega) (by omega) (by omega),p1,DJ];rfl
end d9
end
section
namespace d9
open Den bC eE
noncomputable def dy(c:List Int):List (List Int):=if 1<c.length then(List.range c.length).map λk=>c.take k++c.drop (k+1) else []
noncomputable def c8(a b:List (List Int)):List (List Int):=cV lexLt (d6 (a.filter (λx=>!decide (x∈b))++b.filter λx=>!decide (x∈a)))
def A9{xs:List (List Int)}(h:dI lexLt xs):xs.Nodup:=aay (λ{a b} h e=>by subst e;rw[lH.fL]at h;cases h) h
def v8{xs:List Int}(h:dI ltI xs):xs.Nodup:=aay (λ{a b} h e=>by subst e;rw[jU.fL]at h;cases h) h
noncomputable def cnt(e:List Int)(cs:List (List Int)):Nat:=cs.countP λc=>decide (e∈dy c)
theorem uJ{α:Type}(lt:α->α->Bool):∀xs:List α,(cV lt xs).Perm xs
 |[]=>.nil
 |x::xs=>(r4 lt x (cV lt xs)).trans ((uJ lt xs).cons x)
 where r4 {α:Type} (lt:α->α->Bool) (x:α):∀ys:List α,(ins lt x ys).Perm (x::ys)
  |[]=>.refl _
  |y::ys=>by
   unfold ins
   split
   .exact((r4 lt x ys).cons y).trans (List.Perm.swap x y ys)
   .exact .refl _
def Sb{α:Type}[DecidableEq α]{xs ys:List α}(ag:xs.Nodup)(aD:ys.Nodup)(h:∀z,z∈xs<->z∈ys):xs.Perm ys:=(List.perm_ext_iff_of_nodup ag aD).mpr h
def m4{c e:List Int}(h:dI ltI c):e∈dy c<->1<c.length/\e.length+1=c.length/\e.Sublist c:=by
 unfold dy;constructor
 .intro he
  split at he
  .rename_i aw;obtain⟨k,au,rfl⟩:=List.mem_map.mp he;have au:=List.mem_range.mp au;refine⟨aw,by rw[Yj,YU,Zb];omega,?_⟩
   conv=>rhs;rw[<- Zi k c]
   refine List.Sublist.append (abT _) ?_;rw[Y5 au];exact List.sublist_cons_self _ _
  .cases he
 .rintro⟨aw,J,ab⟩;rw[if_pos aw];refine List.mem_map.mpr ?_;have key:∀{e c:List Int},e.Sublist c->e.length+1=c.length->∃k,k<c.length/\c.take k++c.drop (k+1)=e:=by
   intro e c ab
   induction ab with
   |slnil=>intro z;cases z
   |@cons e c x ab aF =>
    intro z;have:e.length=c.length:=(by simpa using z);exact⟨0,by simp,by simpa using (ab.eq_of_length this).symm⟩
   |@cons_cons e c x ab aF =>
    intro z;obtain⟨k,au,nN⟩:=aF (by simpa using z);exact⟨k+1,by simpa using au,by simp[nN]⟩
  obtain⟨k,au,nN⟩:=key ab J;exact⟨k,List.mem_range.mpr au,nN⟩
def zL{c e:List Int}(h:dI ltI c)(he:e∈dy c):dI ltI e:=Zj ((m4 h).mp he).2.2 h
def Ly{c e:List Int}(aj:dI ltI c)(he:dI ltI e)(ab:e.Sublist c){k:Nat}(au:k<c.length):e.Sublist (c.take k++c.drop (k+1))<->c[k]∉e:=by
 have aB:=v8 aj;have hd:(c.take k++c[k]::c.drop (k+1))=c:=by rw[<- Y5 au,Zi]
 rw[<- hd]at aB;have Oi:∀x,x∈c<->x=c[k]\/x∈c.take k++c.drop (k+1):=λx=>by
  conv=>lhs;rw[<- hd]
  simp only[Yq,Yk];constructor
  .rintro(h|h|h)
   .exact .inr (.inl h)
   .exact .inl h
   .exact .inr (.inr h)
  .rintro(h|h|h)
   .exact .inr (.inl h)
   .exact .inl h
   .exact .inr (.inr h)
 have jP:c[k]∉c.take k++c.drop (k+1):=λz=>by
  have:=List.perm_middle.nodup_iff.mp aB;exact(YX.mp this).1 z
 have jd:(c.take k++c.drop (k+1)).Sublist c:=by
  conv=>rhs;rw[<- hd]
  exact List.Sublist.append (abT _) (List.sublist_cons_self _ _)
 constructor
 .exact λz w=>jP (z.subset w)
 .exact λz=>sR he (Zj jd aj) λx ag=>((Oi x).mp (ab.subset ag)).elim (λe=>absurd (e▸ag) z) id
theorem El{α:Type}(p:α->Bool):∀c:List α,c.length=c.countP p+c.countP (λx=>!p x)
 |[]=>rfl
 |x::c=>by
  rw[List.length_cons,El p c,aaG,aaG];cases p x<;>simp<;>omega
def J4{α:Type}[DecidableEq α]{c e:List α}(aj:c.Nodup)(he:e.Nodup)(ab:∀x∈e,x∈c):c.countP (λx=>!decide (x∈e))+e.length=c.length:=by
 have J:(c.filter λx=>decide (x∈e)).Perm e:=Sb (aj.filter _) he λz=>by
  rw[YR];simp only[YD];exact⟨λh=>h.2,λh=>⟨ab z h,h⟩⟩
 have aa:c.length=(c.filter λx=>decide (x∈e)).length+(c.filter λx=>!decide (x∈e)).length:=by
  rw[<- aas,<- aas];exact El (λx=>decide (x∈e)) c
 rw[J.length_eq]at aa;rw[aas];omega
def JV{c:List Int}(aj:dI ltI c)(e:List Int):cnt e (dy c)=0\/cnt e (dy c)=2:=by
 by_cases aw:1<c.length
 .by_cases ab:e.Sublist c/\e.length+2=c.length/\2<c.length
  .obtain⟨ab,aa,aI⟩:=ab;have he:dI ltI e:=Zj ab aj;right;have ai:cnt e (dy c)=c.countP λx=>!decide (x∈e):=by
    unfold cnt;rw[show dy c=(List.range c.length).map (λk=>c.take k++c.drop (k+1)) from if_pos aw,aaS];have:c=(List.range c.length).map λk=>c.getD k 0:=by
     apply List.ext_getElem
     .simp
     .intro i J aa;simp[List.getD,J]
    conv=>rhs;rw[this]
    rw[aaS];refine aaz λk au=>?_
    have au:=List.mem_range.mp au;have OM:dI ltI (c.take k++c.drop (k+1)):=zL aj (by unfold dy;rw[if_pos aw];exact List.mem_map.mpr ⟨k,List.mem_range.mpr au,rfl⟩);have hlen:(c.take k++c.drop (k+1)).length+1=c.length:=(by rw[Yj,YU,Zb];omega);simp only[Function.comp,YD,YW,decide_eq_false_iff_not];rw[m4 OM,Ly aj he ab au];have:c.getD k 0=c[k]:=(by simp[List.getD,au]);rw[this];exact⟨λz=>z.2.2,λz=>⟨by omega,by omega,z⟩⟩
   rw[ai];have:=J4 (v8 aj) (v8 he) λx ag=>ab.subset ag
   omega
  .left;unfold cnt;rw[abv];intro d hd;simp only[YD];intro z;obtain⟨_,b2,eL⟩:=(m4 aj).mp hd;obtain⟨a1,a2,a3⟩:=(m4 (zL aj hd)).mp z;exact ab ⟨a3.trans eL,by omega,by omega⟩
 .left;unfold cnt dy;rw[if_neg aw];rfl
def qa{c:List Int}(aj:dI ltI c):(dy c).Nodup:=by
 unfold dy
 split
 .rw[Z1,Zu];refine Zy (λ{i j} hi aA (rn:i<j) e=>?_) aa4;have aA:=List.mem_range.mp aA;have hi:i<c.length:=List.mem_range.mp hi;have J:(c.take i++c.drop (i+1))[i]?=c[i+1]?:=by
   rw[YS (by simp;omega),abI];congr 1;simp;omega
  have aa:(c.take j++c.drop (j+1))[i]?=c[i]?:=by
   rw[YB (by simp;omega),List.getElem?_take_of_lt rn]
  rw[e,aa]at J;rw[Yl hi,Yl (by omega:i+1<c.length)]at J;have:=Z4.mp aj i (i+1) hi (by omega) (by omega);injection J with J;rw[J,jU.fL]at this;cases this
 .exact ZZ
end d9
end
section
namespace d9
open Den bC eE gf
variable{pg:dq}{Φ:dC}
def o4{C:a0}(i j:Nat):ev pg Φ C (.hC i j)=kh C[i]? C[j]?:=bf rfl
def LN{C:a0}(i j:Nat):ev pg Φ C (.oY i j)=qW C[i]? C[j]?:=bf rfl
def Cj{C:a0}:ev pg Φ C .oZ=.ok (.bD []):=bf rfl
def Ct{C:a0}(i:Nat):ex pg Φ C (.mw i)=.ok (.cg (C.set i (some (.bK [])))):=bf rfl
def L8{C:a0}(i:Nat):ex pg Φ C (.nM i)=.ok (.cg (C.set i (some (.bD [])))):=bf rfl
def xu{C:a0}(i j:Nat)(e:E):ex pg Φ C (.jC i j e)=ev pg Φ C e>>=λd=>o1 C[i]? C[j]? d>>=λx=>.ok (.cg (C.set i (some x))):=bf rfl
def L9{C:a0}(i:Nat)(e:E):ex pg Φ C (.ext i e)=mm C[i]?>>=λ_=>ev pg Φ C e>>=λd=>tg C[i]? d>>=λx=>.ok (.cg (C.set i (some x))):=bf rfl
def Cu{C:a0}(i:Nat):ex pg Φ C (.p4 i)=qT C[i]?>>=λd=>.ok (.d7 d):=bf rfl
def zj(up:gJ)(xs:List D):jY up .sum (.lst xs)=kN xs:=bf rfl
def FQ(up:gJ)(xs:List D):jY up .max (.lst xs)=kC xs:=bf rfl
def pF(c:List Int):kz (aC c)=.ok (.int (c.length:Int)):=by unfold aC;rw[yM,List.length_map]
def GU{c:List Int}(h:c.length<=1000)(k:Nat):d3 .add (.tup (cut (c.map D.int) none (some (k:Int)))) (.tup (cut (c.map D.int) (some ((k:Int)+1)) none))=.ok (aC (c.take k++c.drop (k+1))):=by
 have e:((k:Int)+1)=((k+1:Nat):Int):=by omega
 rw[e,Kc,BP,sP,if_pos]
 .unfold aC;rw[List.map_append,List.map_take,List.map_drop]
 .rw[YU,Zb,List.length_map,g4];omega
def UI(c:List Int)(h:c.length<=1000):dt pg Φ ⟨1,0,bl.wQ⟩ [aC c]=.ok (.lst ((dy c).map aC)):=by
 have ai:cZ (elem pg Φ [some (aC c)] (.bin .add (.slice (.var 0) (.none) (.some (.var 1))) (.slice (.var 0) (.some (.bin .add (.var 1) (.lit (.int 1)))) (.none))) 0 (.some (.cmp .gt (.prim .len (.var 0)) (.lit (.int 1))))) ((List.range c.length).map λ(k:Nat)=>D.int (k:Int))=.ok (((List.range c.length).filter λ_=>decide (1<c.length)).map λk=>aC (c.take k++c.drop (k+1))):=i4 λk _=>by
  have ab:∀lo hi,j0 (aC c) lo hi=.ok (.tup (cut (c.map D.int) lo hi)):=λlo hi=>rfl
  simp only[Den.bc,Nat.reduceAdd,pF,ab,GU h]
  by_cases q:1<c.length
  .have c2:(1:Int)<(c.length:Int):=(by omega);simp only[decide_eq_true q,decide_eq_true c2,Zo]
  .have c2:¬(1:Int)<(c.length:Int):=(by omega);simp only[decide_eq_false q,decide_eq_false c2,Ym,YK]
 simp only[Den.bc,Nat.reduceAdd,bl.wQ,pF,jo (i:=0) (j:=(c.length:Int)) (by omega) (by omega) (by omega) (by omega),p0,ai];congr 2;unfold dy
 by_cases q:1<c.length
 .rw[if_pos q,decide_eq_true q,List.filter_eq_self.mpr λ_ _=>rfl,List.map_map];rfl
 .rw[if_neg q,decide_eq_false q,List.filter_eq_nil_iff.mpr λ_ _=>by decide];rfl
def UH{c e:List Int}(h:dI ltI c)(he:e∈dy c):e≠[]:=λz=>by
 obtain⟨a,b,_⟩:=(m4 h).mp he;subst z;simp at b;omega
noncomputable def eM(t:List Int):List (List Int):=t.foldl (λf x=>f++[[x]]++f.map (·++[x])) []
def cw_snoc(t:List Int)(x:Int):eM (t++[x])=eM t++[[x]]++(eM t).map (·++[x]):=by unfold eM;rw[List.foldl_append];rfl
def G5{P:List Int->Prop}(h0:P [])(J:∀as a,P as->P (as++[a]))(as:List Int):P as:=by
 have key:∀n (as:List Int),as.length=n->P as:=by
  intro n
  induction n with
  |zero=>intro as h;rw[ZN h];exact h0
  |succ n aF =>
   intro as h;rcases aau as with rfl|⟨l,a,rfl⟩
   .cases h
   .rw[aav]at h ⊢;exact J l a (aF l (by simpa using h))
 exact key _ as rfl
def sub_snoc{z t:List Int}{x:Int}:z.Sublist (t++[x])<->z.Sublist t\/∃y,z=y++[x]/\y.Sublist t:=by
 rw[List.sublist_append_iff];constructor
 .rintro⟨a,b,rfl,J,aa⟩;have ae:b=[]\/b=[x]:=by
   cases aa with
   |cons _ h=>exact .inl (abj.mp h)
   |cons_cons _ h=>exact .inr (by rw[abj.mp h])
  rcases ae with rfl|rfl
  .exact .inl (by simpa using J)
  .exact .inr ⟨a,rfl,J⟩
 .rintro(h|⟨y,rfl,h⟩)
  .exact⟨z,[],by simp,h,aaL _⟩
  .exact⟨y,[x],rfl,h,abT _⟩
def pK(t:List Int):∀z,z∈eM t<->z≠[]/\z.Sublist t:=by
 refine G5 (P:=λt=>∀z,z∈eM t<->z≠[]/\z.Sublist t) (λz=>?_) (λt x aF z=>?_) t
 .constructor
  .intro h;cases h
  .rintro⟨J,aa⟩;exact absurd (abj.mp aa) J
 .rw[cw_snoc,Yq,Yq,YA,List.mem_map,sub_snoc,aF];constructor
  .rintro((⟨J,aa⟩|rfl)|⟨y,aD,rfl⟩)
   .exact⟨J,.inl aa⟩
   .exact⟨by simp,.inr ⟨[],rfl,aaL _⟩⟩
   .exact⟨by simp,.inr ⟨y,rfl,((aF y).mp aD).2⟩⟩
  .rintro⟨J,aa|⟨y,rfl,aa⟩⟩
   .exact .inl (.inl ⟨J,aa⟩)
   .by_cases aD:y=[]
    .subst aD;exact .inl (.inr rfl)
    .exact .inr ⟨y,(aF y).mpr ⟨aD,aa⟩,rfl⟩
def yK(t:List Int):(eM t).length+1=2 ^ t.length:=by
 refine G5 (P:=λt=>(eM t).length+1=2 ^ t.length) rfl (λt x aF=>?_) t;rw[cw_snoc,Yj,Yj,Yj,List.length_map,List.length_singleton,List.length_singleton,Nat.pow_succ];omega
noncomputable def il(ts:List (List Int)):List (List Int):=cV lexLt (d6 (ts.flatMap eM))
def EU{ts:List (List Int)}{z:List Int}:z∈il ts<->z≠[]/\∃t∈ts,z.Sublist t:=by
 unfold il;rw[kD,lK,ZY];constructor
 .rintro⟨t,J,aa⟩;exact⟨((pK t z).mp aa).1,t,J,((pK t z).mp aa).2⟩
 .rintro⟨h0,t,J,aa⟩;exact⟨t,J,(pK t z).mpr ⟨h0,aa⟩⟩
def A6(ts:List (List Int)):dI lexLt (il ts):=nx lH (pS _)
noncomputable def cl(ts:List (List Int))(n:Nat):List (List Int):=(il ts).filter λc=>decide (c.length=n)
def iL{ts:List (List Int)}{n:Nat}{z:List Int}:z∈cl ts n<->z.length=n/\z≠[]/\∃t∈ts,z.Sublist t:=by
 unfold cl;rw[YR,EU];simp only[YD];exact⟨λh=>⟨h.2,h.1⟩,λh=>⟨h.2,h.1⟩⟩
def A5(ts:List (List Int))(n:Nat):dI lexLt (cl ts n):=Zj abx (A6 ts)
def jB(ts:List (List Int))(n:Nat):(cl ts n).Nodup:=A9 (A5 ts n)
def BD(ts:List (List Int))(h:Nat):ml ts h=cl ts (h+1):=oR lH (IW ts h) (A5 ts _) λz=>by
 rw[QI,iL];exact⟨λ⟨J,aa⟩=>⟨J,by rintro rfl;simp at J,aa⟩,λ⟨J,_,aa⟩=>⟨J,aa⟩⟩
def Cr{m:Int}{ts:List (List Int)}(dV:m<=8)(aW:∀t∈ts,IsCell m t):(il ts).length<=255:=by
 have J:(il ts).length<=(eM (b9 m)).length:=lL (A9 (A6 ts)) λz hz=>by
  obtain⟨h0,t,J,aa⟩:=EU.mp hz;exact(pK _ z).mpr ⟨h0,aa.trans (Bw (aW t J))⟩
 have aa:=yK (b9 m);have aI:=pB dV;have aX:2 ^ (b9 m).length<=2 ^ 8:=YN (by decide) aI;omega
def ke{m:Int}{ts:List (List Int)}(dV:m<=8)(aW:∀t∈ts,IsCell m t)(n:Nat):(cl ts n).length<=255:=Zk (abc _ _) (Cr dV aW)
def nF{m:Int}{ts:List (List Int)}{n:Nat}(aW:∀t∈ts,IsCell m t){z:List Int}(hz:z∈cl ts n):dI ltI z:=by
 obtain⟨_,_,t,J,aa⟩:=iL.mp hz;exact Zj aa (aW t J).2.2
def nG{m:Int}{ts:List (List Int)}{n:Nat}(aW:∀t∈ts,IsCell m t){z e:List Int}(hz:z∈cl ts n)(he:e∈dy z):e∈cl ts (n-1):=by
 obtain⟨J,aa,aI⟩:=(m4 (nF aW hz)).mp he;obtain⟨aX,cc,t,fk,g8⟩:=iL.mp hz;exact iL.mpr ⟨by omega,by rintro rfl;simp at aa;omega,t,fk,aI.trans g8⟩
def WY(c:List Int)(dV:c.length<=8):dt pg Φ ⟨1,2,bl.wg⟩ [aC c]=.ok (.lst ((eM c).map aC)):=by
 simp only[Den.bc,Nat.reduceAdd,bl.wg,zD];obtain⟨cp,e,x,he⟩:=g6 (f:=D.int) (g:=turn pg Φ 0 [2] (.cons (.asg 1 (.bin .add (.bin .add (.var 1) (.lst (.cons (.tup (.cons (.var 2) (.nil))) (.nil)))) (.comp (.bin .add (.var 3) (.tup (.cons (.var 2) (.nil)))) 0 (.seq (.var 1)) (.none)))) (.nil)))
  (λa8 C=>∃(x:Option D),C=[some (aC c),some (.lst ((eM a8).map aC)),x])
  c [some (aC c),some (.lst []),none] ⟨none,rfl⟩ (λpre k post C aE ⟨x,cf⟩=>by
   subst cf;have e4:pre.length+1<=c.length:=(by rw[aE];simp);have J:=yK pre;have aa:2 ^ pre.length<=2 ^ 8:=YN (by decide) (by omega);have ai:cZ (elem pg Φ [some (aC c),some (.lst ((eM pre).map aC)),some (.int k)] (.bin .add (.var 3) (.tup (.cons (.var 2) (.nil)))) 0 .none) ((eM pre).map aC)=.ok ((eM pre).map λz=>aC (z++[k])):=gC λz hz=>by
    have hz:=((pK pre z).mp hz).2.length_le;have:d3 .add (aC z) (.tup [.int k])=.ok (aC (z++[k])):=by
     unfold aC;rw[sP,if_pos (by rw[List.length_map,g4];simp;omega),List.map_append];rfl
    simp only[Den.bc,Nat.reduceAdd,this]
   have a1:d3 .add (.lst ((eM pre).map aC)) (.lst [.tup [.int k]])=.ok (.lst ((eM pre++[[k]]).map aC)):=by
    rw[k0,if_pos (by rw[List.length_map,g4];simp;omega),List.map_append];rfl
   have a2:d3 .add (.lst ((eM pre++[[k]]).map aC)) (.lst ((eM pre).map λz=>aC (z++[k])))=.ok (.lst ((eM (pre++[k])).map aC)):=by
    rw[k0,if_pos (by rw[List.length_map,List.length_map,Yj,g4];simp;omega),cw_snoc];simp only[List.map_append,List.map_map];rfl
   refine⟨_,by simp only[Den.bc,Nat.reduceAdd,a1,ai,a2],some (.int k),rfl⟩)
 rw[e,he];simp only[Den.bc,Nat.reduceAdd]
def Mg(xs ys:List D):tg (some (some (.lst xs))) (.lst ys)=if xs.length+ys.length<=SZ then .ok (.lst (xs++ys)) else .bad:=bf rfl
def L0{f:Nat}{m:Int}{ts:List (List Int)}(hf:∀c:List Int,c.length<=8->Φ f [aC c]=.ok (.lst ((eM c).map aC)))(aW:∀t∈ts,t.length<=8)(aw:ts.length<=255)(tE:(il ts).length<=255):
  dt pg Φ ⟨1,2,bl.wi f⟩ [bP m ts]=.ok (.lst ((il ts).map aC)):=by
 have hi:gM (bP m ts) (.int 1)=.ok (.tup (ts.map aC)):=rfl;simp only[Den.bc,Nat.reduceAdd,bl.wi,hi];have nD:∀ar:List (List Int),ar.length<=255->(∀t∈ar,t.length<=8)->(ar.flatMap eM).length<=65280:=λar au dV=>by
  have:=tp (f:=eM) (k:=256) (xs:=ar) λt kx=>by
   have aa:=yK t;have aX:2 ^ t.length<=2 ^ 8:=YN (by decide) (dV t kx);omega
  omega
 obtain⟨cp,e,x,he⟩:=g6 (f:=aC) (g:=turn pg Φ 0 [2] (.cons (.ext 1 (.call f (.cons (.var 2) (.nil)))) (.nil)))
  (λa8 C=>∃(x:Option D),C=[some (bP m ts),some (.lst ((a8.flatMap eM).map aC)),x])
  ts [some (bP m ts),some (.lst []),none] ⟨none,rfl⟩ (λpre t post C aE ⟨x,cf⟩=>by
   subst cf;have rv:t∈ts:=(by rw[aE];simp);have e4:pre.length+1<=ts.length:=(by rw[aE];simp);have J:=nD pre (by omega) λt kx=>aW t (by rw[aE];simp[kx])
   have aa:=nD [t] (by simp) λz hz=>by simp at hz;subst hz;exact aW z rv
   have hlen:((pre.flatMap eM).map aC).length+((eM t).map aC).length<=SZ:=by
    simp at aa;rw[List.length_map,List.length_map,g4];omega
   refine⟨_,by simp only[Den.bc,Nat.reduceAdd,L9,hf t (aW t rv),Mg,if_pos hlen];rfl,some (aC t),?_⟩;simp[aaP])
 rw[e,he];have aB:∀c∈ts.flatMap eM,c≠[]:=λc aj=>by
  obtain⟨t,_,aj⟩:=ZY.mp aj;exact((pK _ _).mp aj).1
 have:(d6 (ts.flatMap eM)).length<=255:=by unfold il at tE;rw[rO]at tE;exact tE
 simp only[Den.bc,Nat.reduceAdd,zR aB this,il]
def JW{f:Nat}{m:Int}{ts:List (List Int)}(n:Nat)(hf:Φ f [bP m ts]=.ok (.lst ((il ts).map aC))):dt pg Φ ⟨2,0,bl.we f⟩ [bP m ts,.int ((n:Int)-1)]=.ok (.tup ((cl ts n).map aC)):=by
 have ai:cZ (elem pg Φ [some (bP m ts),some (.int ((n:Int)-1))] (.var 2) 0 (.some (.cmp .eq (.bin .sub (.prim .len (.var 2)) (.lit (.int 1))) (.var 1)))) ((il ts).map aC)=.ok (((il ts).filter λc=>decide (c.length=n)).map aC):=i4 λc _=>by
  simp only[Den.bc,Nat.reduceAdd,pF]
  by_cases q:c.length=n
  .rw[decide_eq_true q,Y3.mpr (show(c.length:Int)-1=(n:Int)-1 by omega)];rfl
  .rw[decide_eq_false q,YQ.mpr (show(c.length:Int)-1≠(n:Int)-1 by omega)];rfl
 simp only[Den.bc,Nat.reduceAdd,bl.we,hf,ai];rfl
noncomputable def mk(U:List (List Int)):List (List Int×Int):=U.zipIdx.map λp=>(p.1,((2 ^ p.2:Nat):Int))
def QR(U:List (List Int))(c:List Int):mk (U++[c])=mk U++[(c,((2 ^ U.length:Nat):Int))]:=by unfold mk;rw[List.zipIdx_append,List.map_append];simp
def y0(U:List (List Int)):(mk U).map (·.1)=U:=by
 unfold mk;rw[List.map_map];show U.zipIdx.map (λp=>p.1)=U;exact List.zipIdx_map_fst 0 U
def QQ(U:List (List Int)):(mk U).length=U.length:=by have:=Zr List.length (y0 U);simpa using this
def idx_map{α β:Type}[DecidableEq α]{U:List α}(cI:U.Nodup)(g:α->Nat->β):U.map (λc=>g c (cx U c))=U.zipIdx.map λp=>g p.1 p.2:=by
 apply aab;intro i;rw[Yy,Yy,List.getElem?_zipIdx]
 by_cases h:i<U.length
 .rw[Yl h];simp only[Option.map_some,cI.idxOf_getElem i h,aal]
 .rw[YO (by omega)];rfl
def WL{U:List (List Int)}(cI:U.Nodup){c:List Int}(aj:c∈U):gr (mk U) c=some ((2 ^ cx U c:Nat):Int):=by
 unfold mk;rw[<- idx_map cI λc i=>(c,((2 ^ i:Nat):Int))];unfold gr;rw[List.find?_map];have:U.find? ((λp:List Int×Int=>decide (p.1=c)) ∘ λc=>(c,((2 ^ cx U c:Nat):Int)))=some c:=by
  have key:∀V:List (List Int),c∈V->V.find? ((λp:List Int×Int=>decide (p.1=c)) ∘ λc=>(c,((2 ^ cx U c:Nat):Int)))=some c:=λV=>by
   induction V with
   |nil=>intro h;cases h
   |cons v V aF =>
    intro h;rw[List.find?_cons]
    by_cases q:v=c
    .subst q;simp
    .rw[show((λp:List Int×Int=>decide (p.1=c)) ∘ λc=>(c,((2 ^ cx U c:Nat):Int))) v=false by simp[q]];exact aF ((Yk.mp h).resolve_left (ZK q))
  exact key U aj
 rw[this];rfl
def oC(c:List Int):gc (aC c)=some c:=by
 show intsOf (c.map .int)=some c
 induction c with
 |nil=>rfl
 |cons x c aF=>rw[List.map_cons,intsOf,aF];rfl
def K9(ak:List (List Int×Int))(c:List Int)(n:Int)(h:ak.length<1000)(aj:c∉ak.map (·.1)):o1 (some (some (.bK ak))) (some (some (aC c))) (.int n)=.ok (.bK (ak++[(c,n)])):=by
 have e:putN ak c n=ak++[(c,n)]:=by
  unfold putN;rw[if_neg];intro z;obtain⟨p,aE,q⟩:=aaK.mp z;exact aj (List.mem_map.mpr ⟨p,aE,by simpa using q⟩)
 show(match some ak,gc (aC c),some n with
  |some ak,some k,some n=>if ak.length<1000 then R.ok (D.bK (putN ak k n)) else .bad
  |_,_,_=>_)=_
 rw[oC];dsimp only;rw[if_pos h,e]
def xi{U:List (List Int)}(cI:U.Nodup){c:List Int}(aj:c∈U):kh (some (some (.bK (mk U)))) (some (some (aC c)))=.ok (.int ((2 ^ cx U c:Nat):Int)):=by
 show(match some (mk U),gc (aC c) with
  |some ak,some k=>(match gr ak k with|some n=>R.ok (D.int n)|none=>.bad)
  |_,_=>_)=_
 rw[oC];dsimp only;rw[WL cI aj]
def BX(U:List (List Int)):oX (some (some (.bK (mk U))))=.ok (U.map aC):=by
 show R.ok ((mk U).map λp=>D.tup (p.1.map .int))=_;have:((mk U).map λp=>D.tup (p.1.map .int))=((mk U).map (·.1)).map aC:=by rw[List.map_map];rfl
 rw[this,y0]
def K2(ak:List (List Int×Int)):qT (some (some (.bK ak)))=.ok (.bK ak):=bf rfl
def K3(ak:List (Int×Int×Int)):qT (some (some (.bD ak)))=.ok (.bD ak):=bf rfl
def Qz{f:Nat}{m:Int}{ts:List (List Int)}(n:Nat)(hf:Φ f [bP m ts,.int ((n:Int)-1)]=.ok (.tup ((cl ts n).map aC)))(aw:(cl ts n).length<=255):dt pg Φ ⟨2,3,bl.wL f⟩ [bP m ts,.int ((n:Int)-1)]=.ok (.bK (mk (cl ts n))):=by
 simp only[Den.bc,Nat.reduceAdd,bl.wL,Ct,hf];have cI:=jB ts n;obtain⟨cp,e,x,he⟩:=g6 (f:=aC) (g:=turn pg Φ 0 [4] (.cons (.jC 2 4 (.var 3)) (.cons (.asg 3 (.bin .mul (.var 3) (.lit (.int 2)))) (.nil))))
  (λa8 C=>∃(x:Option D),C=[some (bP m ts),some (.int ((n:Int)-1)),some (.bK (mk a8)),some (.int ((2 ^ a8.length:Nat):Int)),x])
  (cl ts n) [some (bP m ts),some (.int ((n:Int)-1)),some (.bK []),some (.int 1),none] ⟨none,rfl⟩ (λpre c post C aE ⟨x,cf⟩=>by
   subst cf;have e4:pre.length+1<=(cl ts n).length:=(by rw[aE];simp);have aj:c∉(mk pre).map (·.1):=by
    rw[y0];intro z;rw[aE]at cI;exact(aae.mp cI).2.2 c z c List.mem_cons_self rfl
   have ab:=K9 (mk pre) c ((2 ^ pre.length:Nat):Int) (by rw[QQ];omega) aj;have hm:d3 .mul (.int ((2 ^ pre.length:Nat):Int)) (.int 2)=.ok (.int ((2 ^ (pre++[c]).length:Nat):Int)):=by
    rw[jW _ _ (.inr ⟨by rw[iW];omega,by rw[iW];omega⟩),Yj,List.length_singleton,Nat.pow_succ];rfl
   refine⟨_,by simp only[Den.bc,Nat.reduceAdd,xu,ab,hm];rfl,some (aC c),?_⟩;rw[QR])
 rw[e,he];simp only[Den.bc,Nat.reduceAdd,Cu,K2]
def D0(is:List Int):intsOf (is.map .int)=some is:=oC is
def zV{U xs:List (List Int)}(cI:U.Nodup)(ag:xs.Nodup)(h:∀x∈xs,x∈U):kN (xs.map λx=>D.int ((2 ^ cx U x:Nat):Int))=.ok (.int (dA U xs:Int)):=by
 have:=D0 (xs.map λx=>((2 ^ cx U x:Nat):Int));rw[List.map_map]at this;unfold kN;rw[show(xs.map λx=>D.int ((2 ^ cx U x:Nat):Int))=xs.map (D.int ∘ λx=>((2 ^ cx U x:Nat):Int)) from rfl,this];dsimp only;rw[E0 cI ag h]
def Ji{U xs:List (List Int)}(cI:U.Nodup)(ag:xs.Nodup)(h:∀x∈xs,x∈U):dt pg Φ ⟨2,0,bl.wd⟩ [.lst (xs.map aC),.bK (mk U)]=.ok (.int (dA U xs:Int)):=by
 have ai:cZ (elem pg Φ [some (.lst (xs.map aC)),some (.bK (mk U))] (.hC 1 2) 0 .none) (xs.map aC)=.ok (xs.map λx=>D.int ((2 ^ cx U x:Nat):Int)):=gC λx ag=>by
  simp only[Den.bc,Nat.reduceAdd,o4,xi cI (h x ag)]
 simp only[Den.bc,Nat.reduceAdd,bl.wd,ai,zj,zV cI ag h]
def v3(a b:Nat):d3 .and (.int (a:Int)) (.int (b:Int))=.ok (.int ((a &&& b:Nat):Int)):=by
 show nv (a:Int) (b:Int)=_;unfold nv;rw[if_pos (aar a),if_pos (aar b)];rfl
def H3(a b:Nat):d3 .xor (.int (a:Int)) (.int (b:Int))=.ok (.int ((a ^^^ b:Nat):Int)):=by
 show sC (a:Int) (b:Int)=_;unfold sC;rw[if_pos ⟨aar a,aar b⟩];rfl
def AX(a k:Nat):((a &&& 2 ^ k:Nat):Int)=0<->a.testBit k=false:=by
 have key:a &&& 2 ^ k=0<->a.testBit k=false:=by
  constructor
  .intro h;have:=Zr (λz=>z.testBit k) h;simpa[ab9,aag] using this
  .intro h;apply ZO;intro i;rw[ab9,aaM,ZW]
   by_cases q:k=i
   .rw[<- q,h];rfl
   .simp[q]
 rw[<- key];omega
def E8(a k:Nat):dM .ne (.int ((a &&& 2 ^ k:Nat):Int)) (.int 0)=.ok (a.testBit k):=by
 show ix (.ok (((a &&& 2 ^ k:Nat):Int)==0))=_;cases q:a.testBit k with
 |false=>rw[Y3.mpr ((AX a k).mpr q)];rfl
 |true=>rw[YQ.mpr λz=>by rw[(AX a k).mp z]at q;cases q];rfl
def JH{U:List (List Int)}(cI:U.Nodup)(b:Nat):dt pg Φ ⟨2,0,bl.wh⟩ [.int (b:Int),.bK (mk U)]=.ok (.tup ((U.filter λc=>b.testBit (cx U c)).map aC)):=by
 have ai:cZ (elem pg Φ [some (.int (b:Int)),some (.bK (mk U))] (.var 2) 0 (.some (.cmp .ne (.bin .and (.var 0) (.hC 1 2)) (.lit (.int 0))))) (U.map aC)=.ok ((U.filter λc=>b.testBit (cx U c)).map aC):=i4 λc aj=>by
  have:=E8 b (cx U c);simp only[Den.bc,Nat.reduceAdd,o4,xi cI aj,v3];have aa:ix (.ok (((b &&& 2 ^ cx U c:Nat):Int)==0))=.ok (b.testBit (cx U c)):=this;rw[show ix (.ok (((b &&& 2 ^ cx U c:Nat):Int)==0))=R.ok (!(((b &&& 2 ^ cx U c:Nat):Int)==0)) from rfl]at aa;injection aa with aa;rw[aa];cases b.testBit (cx U c)<;>rfl
 simp only[Den.bc,Nat.reduceAdd,bl.wh,tc,BX,ai]
noncomputable def cq(r:Row):D:=.tup [.int (r.1:Int),.int (r.2:Int)]
noncomputable def cR(ts:List (List Int))(n:Nat):List Nat:=(cl ts n).map λc=>dA (cl ts (n-1)) (dy c)
def Ta{cm bL o8:Nat}{m:Int}{ts:List (List Int)}(n:Nat)(aW:∀t∈ts,IsCell m t)(dV:m<=8)(hm:∀n:Nat,Φ o8 [bP m ts,.int ((n:Int)-1)]=.ok (.bK (mk (cl ts n))))(ab:∀c:List Int,c.length<=1000->Φ bL [aC c]=.ok (.lst ((dy c).map aC)))(ae:∀U xs:List (List Int),U.Nodup->xs.Nodup->(∀x∈xs,x∈U)->Φ cm [.lst (xs.map aC),.bK (mk U)]=.ok (.int (dA U xs:Int))):
  dt pg Φ ⟨2,2,bl.wN cm bL o8⟩ [bP m ts,.int (n:Int)]=.ok (.lst ((d1 (cR ts (n+1))).map cq)):=by
 have cI:=jB ts (n+1);have gP:=hm n;have h8:Φ o8 [bP m ts,.int (n:Int)]=.ok (.bK (mk (cl ts (n+1)))):=by
  have:=hm (n+1);rwa[show(((n+1:Nat):Int)-1)=(n:Int) by omega]at this
 have ai:cZ (elem pg Φ [some (bP m ts),some (.int (n:Int)),some (.bK (mk (cl ts n))),some (.bK (mk (cl ts (n+1))))] (.tup (.cons (.call cm (.cons (.call bL (.cons (.var 4) (.nil))) (.cons (.var 2) (.nil)))) (.cons (.hC 3 4) (.nil)))) 0 .none) ((cl ts (n+1)).map aC)=.ok ((cl ts (n+1)).map λc=>cq (dA (cl ts n) (dy c),2 ^ cx (cl ts (n+1)) c)):=gC λc aj=>by
  have hK:=nF aW aj;have hlen:c.length<=1000:=by
   obtain⟨_,_,t,J,aa⟩:=iL.mp aj;have:=aa.length_le;have:=mj (aW t J);omega
  simp only[Den.bc,Nat.reduceAdd,o4,ab c hlen,ae (cl ts n) (dy c) (jB ts n) (qa hK) (λe he=>nG aW aj he),xi cI aj];rfl
 have av:(d1 (cR ts (n+1))).map cq=(cl ts (n+1)).map λc=>cq (dA (cl ts n) (dy c),2 ^ cx (cl ts (n+1)) c):=by
  rw[idx_map cI λc i=>cq (dA (cl ts n) (dy c),2 ^ i)];unfold d1 cR;rw[List.zipIdx_map,List.map_map,List.map_map];rfl
 simp only[Den.bc,Nat.reduceAdd,bl.wN,gP,h8,tc,BX,ai,av]
def lC(r:Row):gM (cq r) (.int 0)=.ok (.int (r.1:Int)):=rfl
def D6(r:Row):gM (cq r) (.int 1)=.ok (.int (r.2:Int)):=rfl
def Vg(r q:Row):dt pg Φ ⟨2,0,bl.wR⟩ [cq r,cq q]=.ok (cq (r.1 ^^^ q.1,r.2 ^^^ q.2)):=by
 simp only[Den.bc,Nat.reduceAdd,bl.wR,lC,D6,H3];rfl
noncomputable def dv(B:cD):List (Int×Int×Int):=B.map λe=>(((2 ^ e.1:Nat):Int),(e.2.1:Int),(e.2.2:Int))
def FN{a b:Nat}(h:a≠b):((2 ^ a:Nat):Int)≠((2 ^ b:Nat):Int):=λz=>by
 have z:2 ^ a=2 ^ b:=Int.ofNat.inj z;rcases abO a b with q|q|q
 .have:=aaC (show 1<2 by decide) q;omega
 .exact h q
 .have:=aaC (show 1<2 by decide) q;omega
theorem HN : ∀ {B : cD}, (B.map (·.1)).Nodup -> ∀ e ∈ B, m8 (dv B) ((2 ^ e.1 : Nat) : Int) = some ((e.2.1 : Int), (e.2.2 : Int))
  | f :: B, h, e, he => by
    obtain ⟨J, aa⟩ := YX.mp h
    unfold m8 dv
    rw [List.map_cons, List.find?_cons]
    dsimp only
    by_cases q : f.1 = e.1
    · have : f = e := by
        rcases Yk.mp he with z | z
        · exact z.symm
        · exact absurd (List.mem_map.mpr ⟨e, z, q.symm⟩) J
      subst this
      rw [decide_eq_true rfl]
      rfl
    · rw [decide_eq_false (FN q)]
      exact HN aa e ((Yk.mp he).resolve_left fun z => q (by rw [z]))
def BW{B:cD}(h:(B.map (·.1)).Nodup){e:Nat×Row}(he:e∈B):kh (some (some (.bD (dv B)))) (some (some (.int ((2 ^ e.1:Nat):Int))))=.ok (cq e.2):=by
 show(match some (dv B),some ((2 ^ e.1:Nat):Int) with
  |some ak,some k=>(match m8 ak k with|some r=>R.ok (ot r)|none=>.bad)
  |_,_=>R.bad)=_
 dsimp only;rw[HN h e he];rfl
def BZ(B:cD):oX (some (some (.bD (dv B))))=.ok (B.map λe=>D.int ((2 ^ e.1:Nat):Int)):=by
 show R.ok ((dv B).map λp=>D.int p.1)=_;unfold dv;rw[List.map_map];rfl
def S2(B:cD)(e:Nat×Row)(r:Row):red (B++[e]) r=one (red B r) e:=by unfold red;rw[List.foldl_append];rfl
def S3{f:Nat}(hf:∀r q:Row,Φ f [cq r,cq q]=.ok (cq (r.1 ^^^ q.1,r.2 ^^^ q.2))){B:cD}(h:(B.map (·.1)).Nodup)(r:Row):dt pg Φ ⟨2,1,bl.wM f⟩ [cq r,.bD (dv B)]=.ok (cq (red B r)):=by
 simp only[Den.bc,Nat.reduceAdd,bl.wM,tc,BZ];obtain⟨cp,e,x,he⟩:=g6 (f:=λe:Nat×Row=>D.int ((2 ^ e.1:Nat):Int)) (g:=turn pg Φ 0 [2] (.cons (.iff (.cmp .ne (.bin .and (.idx (.var 0) (.lit (.int 0))) (.var 2)) (.lit (.int 0))) (.cons (.asg 0 (.call f (.cons (.var 0) (.cons (.hC 1 2) (.nil))))) (.nil)) (.nil)) (.nil)))
  (λa8 C=>∃(x:Option D),C=[some (cq (red a8 r)),some (.bD (dv B)),x])
  B [some (cq r),some (.bD (dv B)),none] ⟨none,rfl⟩ (λpre e post C aE ⟨x,cf⟩=>by
   subst cf;have jL:e∈B:=(by rw[aE];simp);have aB:=E8 (red pre r).1 e.1;have aB:ix (.ok ((((red pre r).1 &&& 2 ^ e.1:Nat):Int)==0))=.ok ((red pre r).1.testBit e.1):=aB;rw[S2];unfold one;cases q:(red pre r).1.testBit e.1 with
   |true =>
    rw[q]at aB;refine⟨_,by simp only[Den.bc,Nat.reduceAdd,lC,v3,aB,o4,BW h jL,hf],some (.int ((2 ^ e.1:Nat):Int)),rfl⟩
   |false =>
    rw[q]at aB;refine⟨_,by simp only[Den.bc,Nat.reduceAdd,lC,v3,aB],some (.int ((2 ^ e.1:Nat):Int)),rfl⟩)
 rw[e,he];simp only[Den.bc,Nat.reduceAdd]
def Qr(n:Nat)(h:0<n):dt pg Φ ⟨1,0,bl.wK⟩ [.int (n:Int)]=.ok (.int ((2 ^ lo n:Nat):Int)):=by
 have e:d3 .and (.int (n:Int)) (.int (-(n:Int)))=.ok (.int ((2 ^ lo n:Nat):Int)):=by
  show nv (n:Int) (-(n:Int))=_;unfold nv;rw[if_pos (aar n),if_neg (by omega)];obtain⟨_,_,aI,aX⟩:=EA n h;have cc:(-(-(n:Int))-1).toNat=n-1:=(by omega);rw[cc,Int.toNat_natCast];congr 2;omega
 simp only[Den.bc,Nat.reduceAdd,bl.wK,LR,e]
def B5(ak:List (Int×Int×Int))(k:Int)(r:Row)(h:ak.length<1000)(aj:k∉ak.map (·.1)):o1 (some (some (.bD ak))) (some (some (.int k))) (cq r)=.ok (.bD (ak++[(k,(r.1:Int),(r.2:Int))])):=by
 have e:lQ ak k ((r.1:Int),(r.2:Int))=ak++[(k,(r.1:Int),(r.2:Int))]:=by
  unfold lQ;rw[if_neg];intro z;obtain⟨p,aE,q⟩:=aaK.mp z;exact aj (List.mem_map.mpr ⟨p,aE,by simpa using q⟩)
 show(if ak.length<1000 then R.ok (D.bD (lQ ak k ((r.1:Int),(r.2:Int)))) else .bad)=_;rw[if_pos h,e]
def K6(k:Nat)(r:Row):qW (some (some (.int ((2 ^ k:Nat):Int)))) (some (some (cq r)))=.ok (.bD (dv [(k,r)])):=rfl
def BQ(B:cD){k:Nat}(h:k∉B.map (·.1)):((2 ^ k:Nat):Int)∉(dv B).map (·.1):=λz=>by
 unfold dv at z;rw[List.map_map]at z;obtain⟨e,he,q⟩:=List.mem_map.mp z;exact FN (λw=>h (List.mem_map.mpr ⟨e,he,w⟩)) q
def Nh{fr gK:Nat}(a7:∀(B:cD)(r:Row),(B.map (·.1)).Nodup->Φ fr [cq r,.bD (dv B)]=.ok (cq (red B r)))(aw:∀n:Nat,0<n->Φ gK [.int (n:Int)]=.ok (.int ((2 ^ lo n:Nat):Int))){B:cD}(h:dd B)(hG:B.length<900)(r:Row):
  dt pg Φ ⟨2,4,bl.sU fr gK⟩ [.bD (dv B),cq r]=.ok (.bD (dv (grow B r))):=by
 have aB:=q0 h;have a4:=nT h r
 by_cases c:(red B r).1=0
 .have hz:(((red B r).1:Int)==0)=true:=(by rw[c];rfl);simp only[Den.bc,Nat.reduceAdd,bl.sU,a7 B r aB,lC,hz];unfold grow;rw[if_pos c]
 .have hz:(((red B r).1:Int)==0)=false:=YQ.mpr (by omega);have au:=aw (red B r).1 (by omega);have nN:grow B r=B.map (λe=>(e.1,one e.2 (lo (red B r).1,red B r)))++[(lo (red B r).1,red B r)]:=(by unfold grow;rw[if_neg c]);rw[nN]at a4 ⊢;have tR:=q0 a4;simp only[Den.bc,Nat.reduceAdd,bl.sU,a7 B r aB,lC,hz,au,L8,tc,BZ];generalize red B r=l at tR;generalize lo l.1=k at tR;have C7:((B.map λe=>(e.1,one e.2 (k,l))).map (·.1))=B.map (·.1):=(by rw[List.map_map];rfl);have N6:k∉B.map (·.1):=by
   rw[List.map_append,C7]at tR;exact λz=>(aae.mp tR).2.2 k z k (by simp) rfl
  obtain⟨cp,e,x,he⟩:=g6 (f:=λe:Nat×Row=>D.int ((2 ^ e.1:Nat):Int)) (g:=turn pg Φ 0 [5] (.cons (.jC 4 5 (.call fr (.cons (.hC 0 5) (.cons (.oY 3 2) (.nil))))) (.nil)))
   (λa8 C=>∃(x:Option D),C=[some (.bD (dv B)),some (cq r),some (cq l),some (.int ((2 ^ k:Nat):Int)),some (.bD (dv (a8.map λe=>(e.1,one e.2 (k,l))))),x])
   B [some (.bD (dv B)),some (cq r),some (cq l),some (.int ((2 ^ k:Nat):Int)),some (.bD []),none] ⟨none,rfl⟩ (λpre e post C aE ⟨x,cf⟩=>by
    subst cf;have jL:e∈B:=(by rw[aE];simp);have e4:pre.length+1<=B.length:=(by rw[aE];simp);have J:=a7 [(k,l)] e.2 (by simp);have J:Φ fr [cq e.2,.bD (dv [(k,l)])]=.ok (cq (one e.2 (k,l))):=J;have eN:e.1∉(pre.map λe=>(e.1,one e.2 (k,l))).map (·.1):=by
     rw[List.map_map];intro z;have z:e.1∈pre.map (·.1):=z;rw[aE,List.map_append,List.map_cons]at aB;exact(aae.mp aB).2.2 e.1 z e.1 List.mem_cons_self rfl
    have aa:=B5 (dv (pre.map λe=>(e.1,one e.2 (k,l)))) ((2 ^ e.1:Nat):Int) (one e.2 (k,l)) (by unfold dv;simp;omega) (BQ _ eN);refine⟨_,by simp only[Den.bc,Nat.reduceAdd,xu,o4,LN,BW aB jL,K6,J,aa];rfl,some (.int ((2 ^ e.1:Nat):Int)),?_⟩;unfold dv;simp only[List.map_append,List.map_cons,Z8])
  rw[e,he];have aI:=B5 (dv (B.map λe=>(e.1,one e.2 (k,l)))) ((2 ^ k:Nat):Int) l (by unfold dv;simp;omega) (BQ _ (by rw[C7];exact N6));simp only[Den.bc,Nat.reduceAdd,xu,aI,Cu,K3];unfold dv;simp only[List.map_append,List.map_cons,Z8]
def Ng(B:cD)(rs:List Row)(r:Row):c9 B (rs++[r])=grow (c9 B rs) r:=by unfold c9;rw[List.foldl_append];rfl
def C1(B:cD)(r:Row):(grow B r).length<=B.length+1:=by rw[rf];split<;>omega
theorem rd:∀(rs:List Row)(B:cD),(c9 B rs).length<=B.length+rs.length
 |[],B=>Yi _
 |r::rs,B=>by
  have J:=rd rs (grow B r);have aa:=C1 B r;show(c9 (grow B r) rs).length<=_;rw[List.length_cons];omega
def yy(rs:List Row):(eC rs).1=c9 [] rs:=by
 have key:∀(rs:List Row)(st:cD×List Nat),(rs.foldl step st).1=c9 st.1 rs:=λrs=>by
  induction rs with
  |nil=>intro st;rfl
  |cons r rs aF=>intro st;exact aF (step st r)
 exact key rs ([],[])
def DU(rs:List Row):(eC rs).2.length<=rs.length:=by
 have key:∀(rs:List Row)(st:cD×List Nat),(rs.foldl step st).2.length<=st.2.length+rs.length:=λrs=>by
  induction rs with
  |nil=>intro st;exact Yi _
  |cons r rs aF =>
   intro st;have J:=aF (step st r);have aa:(step st r).2.length<=st.2.length+1:=(by unfold step;dsimp only;split<;>simp);show(rs.foldl step (step st r)).2.length<=_;rw[List.length_cons];omega
 have:=key rs ([],[]);simp only[List.length_nil,aal]at this;exact this
def I8{jG:Nat}(a4:∀(B:cD)(r:Row),dd B->B.length<900->Φ jG [.bD (dv B),cq r]=.ok (.bD (dv (grow B r)))){rs:List Row}(aw:rs.length<=255):dt pg Φ ⟨1,2,bl.wc jG⟩ [.lst (rs.map cq)]=.ok (.bD (dv (c9 [] rs))):=by
 simp only[Den.bc,Nat.reduceAdd,bl.wc,Cj];obtain⟨cp,e,x,he⟩:=g6 (f:=cq) (g:=turn pg Φ 0 [2] (.cons (.asg 1 (.call jG (.cons (.var 1) (.cons (.var 2) (.nil))))) (.nil)))
  (λa8 C=>∃(x:Option D),C=[some (.lst (rs.map cq)),some (.bD (dv (c9 [] a8))),x])
  rs [some (.lst (rs.map cq)),some (.bD []),none] ⟨none,rfl⟩ (λpre r post C aE ⟨x,cf⟩=>by
   subst cf;have e4:pre.length+1<=rs.length:=(by rw[aE];simp);have J:=rd pre [];have aa:=a4 (c9 [] pre) r (iu dd.nil) (by simp at J;omega);rw[Ng];refine⟨_,by simp only[Den.bc,Nat.reduceAdd,aa],some (cq r),rfl⟩)
 rw[e,he];simp only[Den.bc,Nat.reduceAdd]
def v7(xs:List D)(d:D)(h:xs.length<SZ):qF (some (some (.lst xs))) d=.ok (.lst (xs++[d])):=by rw[sQ,if_pos h]
def O8{jG fr:Nat}(a4:∀(B:cD)(r:Row),dd B->B.length<900->Φ jG [.bD (dv B),cq r]=.ok (.bD (dv (grow B r))))(a7:∀(B:cD)(r:Row),(B.map (·.1)).Nodup->Φ fr [cq r,.bD (dv B)]=.ok (cq (red B r))){rs:List Row}(aw:rs.length<=255):
  dt pg Φ ⟨1,4,bl.wk jG fr⟩ [.lst (rs.map cq)]=.ok (.lst ((eC rs).2.map λb:Nat=>D.int (b:Int))):=by
 simp only[Den.bc,Nat.reduceAdd,bl.wk,Cj];obtain⟨cp,e,x,y,he⟩:=g6 (f:=cq) (g:=turn pg Φ 0 [3] (.cons (.asg 4 (.call fr (.cons (.var 3) (.cons (.var 1) (.nil))))) (.cons (.iff (.cmp .eq (.idx (.var 4) (.lit (.int 0))) (.lit (.int 0))) (.cons (.app 2 (.idx (.var 4) (.lit (.int 1)))) (.nil)) (.nil)) (.cons (.asg 1 (.call jG (.cons (.var 1) (.cons (.var 3) (.nil))))) (.nil)))))
  (λa8 C=>∃(x y:Option D),C=[some (.lst (rs.map cq)),some (.bD (dv (eC a8).1)),some (.lst ((eC a8).2.map λb:Nat=>D.int (b:Int))),x,y])
  rs [some (.lst (rs.map cq)),some (.bD []),some (.lst []),none,none] ⟨none,none,rfl⟩ (λpre r post C aE ⟨x,y,cf⟩=>by
   subst cf;have e4:pre.length+1<=rs.length:=(by rw[aE];simp);have J:=rd pre [];have aX:=DU pre;have ri:dd (eC pre).1:=(by rw[yy];exact iu dd.nil);have aa:=a4 (eC pre).1 r ri (by rw[yy];simp at J;omega);have aI:=a7 (eC pre).1 r (q0 ri);rw[DV];unfold step;dsimp only
   by_cases c:(red (eC pre).1 r).1=0
   .have hz:(((red (eC pre).1 r).1:Int)==0)=true:=(by rw[c];rfl);have cc:=v7 ((eC pre).2.map λb:Nat=>D.int (b:Int)) (.int ((red (eC pre).1 r).2:Int)) (by rw[List.length_map,g4];omega);rw[if_pos c];refine⟨_,by simp only[Den.bc,Nat.reduceAdd,aI,lC,D6,hz,cc,aa];rfl,some (cq r),some (cq (red (eC pre).1 r)),?_⟩;rw[List.map_append];rfl
   .have hz:(((red (eC pre).1 r).1:Int)==0)=false:=YQ.mpr (by omega);rw[if_neg c];refine⟨_,by simp only[Den.bc,Nat.reduceAdd,aI,lC,hz,aa],some (cq r),some (cq (red (eC pre).1 r)),rfl⟩)
 rw[e,he];simp only[Den.bc,Nat.reduceAdd]
noncomputable def ey(U:List (List Int))(b:Nat):D:=.tup ((U.filter λc=>b.testBit (cx U c)).map aC)
theorem G6{α:Type}(f:α->D):∀xs:List α,∃ys:List α,ys.Perm xs/\ie (xs.map f)=ys.map f
 |[]=>⟨[],.nil,rfl⟩
 |x::xs=>by
  have ins:∀ys:List α,∃zs:List α,zs.Perm (x::ys)/\pA (f x) (ys.map f)=zs.map f:=λys=>by
   induction ys with
   |nil=>exact⟨[x],.refl _,rfl⟩
   |cons y ys aF =>
    rw[List.map_cons,pA]
    split
    .obtain⟨zs,p,e⟩:=aF;exact⟨y::zs,(p.cons y).trans (List.Perm.swap x y ys),by rw[e];rfl⟩
    .exact⟨x::y::ys,.refl _,rfl⟩
  obtain⟨ys,p,e⟩:=G6 f xs;obtain⟨zs,bE,av⟩:=ins ys;exact⟨zs,bE.trans (p.cons x),by rw[List.map_cons,ie,e,av]⟩
def JG{U:List (List Int)}(cI:U.Nodup)(aB:∀c∈U,c≠[]){b:Nat}(h0:b≠0)(ae:b<2 ^ U.length):n5 (ey U b)=true:=by
 obtain⟨i,hi⟩:∃i,b.testBit i=true:=Nat.exists_testBit_of_ne_zero h0;have b7:i<U.length:=by
  rcases abz i U.length with q|q
  .exact q
  .rw[YM (YC ae (YN (by decide) q))]at hi;cases hi
 have hm:U[i]∈U.filter λc=>b.testBit (cx U c):=YR.mpr ⟨aaH b7,by rw[D7 cI b7];exact hi⟩
 have aj:∀c∈U.filter λc=>b.testBit (cx U c),c≠[]:=λc h=>aB c (YR.mp h).1
 unfold ey;generalize (U.filter λc=>b.testBit (cx U c))=cs at hm aj;cases cs with
 |nil=>cases hm
 |cons c cs =>
  have:=sY aj;exact this
def lT(ts:List (List Int))(n:Nat):(cR ts n).length=(cl ts n).length:=by unfold cR;rw[List.length_map]
def EX(as:List Nat):(d1 as).length=as.length:=by unfold d1;simp
def I7{m:Int}{ts:List (List Int)}(n:Nat)(aW:∀t∈ts,IsCell m t):∀r∈d1 (cR ts (n+2)),r.1<2 ^ (cR ts (n+1)).length/\bd (cR ts (n+1)) r.1=0:=by
 intro r a7;obtain⟨p,aE,rfl⟩:=List.mem_map.mp a7;have OA:p.1∈cR ts (n+2):=List.fst_mem_of_mem_zipIdx aE;obtain⟨c,aj,e⟩:=List.mem_map.mp OA;dsimp only;rw[<- e,lT];have hK:=nF aW aj;have dO:∀x∈dy c,x∈cl ts (n+1):=λx ag=>nG aW aj ag
 refine⟨pR dO,S9 (jB ts n) dO (λx ag=>⟨qa (zL hK ag),λy aD=>nG aW (dO x ag) aD⟩) λy=>?_⟩;have z:=JV hK y;refine(Zr (· % 2) (?e:_=cnt y (dy c))).trans ?_
 case e=>exact aaz λx _=>by simp only[YD]
 omega
structure Told(ts:List (List Int))(n:Nat)(G:List Nat):Prop where
 len:G.length+(c9 [] (d1 (cR ts (n+2)))).length+(c9 [] (d1 (cR ts (n+1)))).length=(cl ts (n+1)).length
 zw:∀b∈G,b<2 ^ (cl ts (n+1)).length/\bd (cR ts (n+1)) b=0
 ind:(fC (cR ts (n+2)++G)).length=(fC (cR ts (n+2))).length+G.length
def yZ(as:List Nat):(d1 as).map (·.1)=as:=by
 unfold d1;rw[List.map_map];exact List.zipIdx_map_fst 0 as
def Te{CD xH fr jG cj o8 cm:Nat}{m:Int}{ts:List (List Int)}(n:Nat)(aW:∀t∈ts,IsCell m t)(dV:m<=8)(hi:∀rs:List Row,rs.length<=255->Φ CD [.lst (rs.map cq)]=.ok (.lst ((eC rs).2.map λb:Nat=>D.int (b:Int))))(DN:∀n:Nat,Φ xH [bP m ts,.int (n:Int)]=.ok (.lst ((d1 (cR ts (n+1))).map cq)))(a7:∀(B:cD)(r:Row),(B.map (·.1)).Nodup->Φ fr [cq r,.bD (dv B)]=.ok (cq (red B r)))(a4:∀(B:cD)(r:Row),dd B->B.length<900->Φ jG [.bD (dv B),cq r]=.ok (.bD (dv (grow B r))))(aj:∀(U:List (List Int))(b:Nat),U.Nodup->Φ cj [.int (b:Int),.bK (mk U)]=.ok (ey U b))(hm:Φ o8 [bP m ts,.int (n:Int)]=.ok (.bK (mk (cl ts (n+1)))))(ae:∀rs:List Row,rs.length<=255->Φ cm [.lst (rs.map cq)]=.ok (.bD (dv (c9 [] rs)))):
  ∃G:List Nat,dt pg Φ ⟨2,5,bl.wO CD xH fr jG cj o8 cm⟩ [bP m ts,.int (n:Int)]=.ok (.tup (G.map (ey (cl ts (n+1)))))/\Told ts n G:=by
 have b0:(d1 (cR ts (n+1))).length<=255:=by rw[EX,lT];exact ke dV aW _
 have cU:(d1 (cR ts (n+2))).length<=255:=by rw[EX,lT];exact ke dV aW _
 have aH:=DN n;have a5:Φ xH [bP m ts,.int ((n:Int)+1)]=.ok (.lst ((d1 (cR ts (n+2))).map cq)):=DN (n+1);have eB:=hi _ b0;have b1:=ae _ cU;have cI:=jB ts (n+1);have st:=Hb (cR ts (n+1));have se:=Td (cR ts (n+1)) _ (I7 n aW);have pd:=DU (d1 (cR ts (n+1)));have cn:=st.len;rw[yy,lT]at cn;have zH:=st.iG;rw[lT]at zH;have sn:=st.nul;have dE:=Wg (d1 (cR ts (n+2))) (eC (d1 (cR ts (n+1)))).2;rw[yZ]at dE;obtain⟨-,N,t1,gq,-⟩:=z8 (eC (d1 (cR ts (n+1)))).2 (c9 [] (d1 (cR ts (n+2)))) [] (iu dd.nil);rw[List.nil_append]at t1;have tH:=rd (d1 (cR ts (n+2))) [];simp only[List.length_nil,aal]at tH;have Dd:=iu (rs:=d1 (cR ts (n+2))) dd.nil;simp only[Den.bc,Nat.reduceAdd,bl.wO,aH,a5,eB,b1,hm];generalize (eC (d1 (cR ts (n+1)))).2=F at se cn zH pd sn dE t1 gq;generalize Nm:c9 [] (d1 (cR ts (n+2)))=hq at se tH Dd dE t1;obtain⟨cp,e,x,y,J,aa,aI,aX,he⟩:=g6 (f:=λb:Nat=>D.int (b:Int)) (g:=turn pg Φ 0 [5] (.cons (.asg 6 (.tup (.cons (.var 5) (.cons (.lit (.int 0)) (.nil))))) (.cons (.iff (.cmp .ne (.idx (.call fr (.cons (.var 6) (.cons (.var 2) (.nil)))) (.lit (.int 0))) (.lit (.int 0))) (.cons (.app 4 (.call cj (.cons (.var 5) (.cons (.var 3) (.nil))))) (.cons (.asg 2 (.call jG (.cons (.var 2) (.cons (.var 6) (.nil))))) (.nil))) (.nil)) (.nil))))
  (λa8 C=>∃(x y:Option D),dd (a8.foldl tell (hq,[])).1/\(a8.foldl tell (hq,[])).1.length<=hq.length+a8.length/\(a8.foldl tell (hq,[])).2.length<=a8.length/\(∀b∈(a8.foldl tell (hq,[])).2,b≠0/\b<2 ^ (cl ts (n+1)).length) /\
   C=[some (bP m ts),some (.int (n:Int)),some (.bD (dv (a8.foldl tell (hq,[])).1)),some (.bK (mk (cl ts (n+1)))),some (.lst ((a8.foldl tell (hq,[])).2.map (ey (cl ts (n+1))))),x,y])
  F [some (bP m ts),some (.int (n:Int)),some (.bD (dv hq)),some (.bK (mk (cl ts (n+1)))),some (.lst []),none,none] ⟨none,none,Dd,Yi _,Yi _,(λ_ h=>nomatch h),rfl⟩ (λpre b post C aE ⟨x,y,J,aa,aI,aX,cf⟩=>by
   subst cf;have Nw:b∈F:=(by rw[aE];simp);have e4:pre.length+1<=F.length:=(by rw[aE];simp);rw[List.foldl_append];show ∃cp,_/\∃x y,dd (tell (pre.foldl tell (hq,[])) b).1/\(tell (pre.foldl tell (hq,[])) b).1.length<=hq.length+(pre++[b]).length/\(tell (pre.foldl tell (hq,[])) b).2.length<=(pre++[b]).length/\(∀z∈(tell (pre.foldl tell (hq,[])) b).2,z≠0/\z<2 ^ (cl ts (n+1)).length)/\cp=[some (bP m ts),some (.int (n:Int)),some (.bD (dv (tell (pre.foldl tell (hq,[])) b).1)),some (.bK (mk (cl ts (n+1)))),some (.lst ((tell (pre.foldl tell (hq,[])) b).2.map (ey (cl ts (n+1))))),x,y];generalize pre.foldl tell (hq,[])=w at J aa aI aX;obtain⟨B,G⟩:=w;dsimp only at J aa aI aX;have g1:=nT J (bare b);have g2:=C1 B (bare b);have g3:=a7 B (bare b) (q0 J);have i9:=a4 B (bare b) J (by omega);have MY:=aj (cl ts (n+1)) b cI;have ec:D.tup [.int (b:Int),.int 0]=cq (bare b):=rfl;have Xa:=sb (r:=bare b) J;unfold tell;dsimp only
   by_cases c:(red B (bare b)).1=0
   .have hz:(((red B (bare b)).1:Int)==0)=true:=(by rw[c];rfl);have q2:grow B (bare b)=B:=(by unfold grow;rw[if_pos c]);rw[if_pos c,q2];refine⟨_,by simp only[Den.bc,Nat.reduceAdd,ec,g3,lC,hz],some (.int (b:Int)),some (cq (bare b)),J,by rw[Yj];omega,by rw[Yj];omega,aX,rfl⟩
   .have hz:(((red B (bare b)).1:Int)==0)=false:=YQ.mpr (by omega);have cc:=v7 (G.map (ey (cl ts (n+1)))) (ey (cl ts (n+1)) b) (by rw[List.length_map,g4];omega);rw[if_neg c];refine⟨_,by simp only[Den.bc,Nat.reduceAdd,ec,g3,lC,hz,MY,cc,i9];rfl,some (.int (b:Int)),some (cq (bare b)),g1,by rw[Yj,List.length_singleton];omega,by rw[Yj,Yj];simp;omega,λz hz=>?_,?_⟩
    .rcases Yq.mp hz with hz|hz
     .exact aX z hz
     .rw[YA.mp hz];exact⟨λe=>c (Xa.mpr (by rw[e];exact u2 _)),zH b Nw⟩
    .rw[List.map_append];rfl)
 rw[e,he];rw[t1]at se aI aX dE;have tJ:(N.map (ey (cl ts (n+1)))).all n5=true:=by
  rw[aaa,YI];exact λb ae=>JG cI (λc aj=>(iL.mp aj).2.1) (aX b ae).1 (aX b ae).2
 obtain⟨G,p,Lc⟩:=G6 (ey (cl ts (n+1))) N;have ab:Den.sorted (N.map (ey (cl ts (n+1))))=.ok (.lst (G.map (ey (cl ts (n+1))))):=by
  unfold Den.sorted;rw[tJ,Bool.or_true,Bool.true_and,if_pos,Lc];rw[List.length_map,YD];omega
 refine⟨G,by simp only[Den.bc,Nat.reduceAdd,t1,ab],?_,λb ae=>⟨(aX b (p.subset ae)).2,sn b (gq b (p.subset ae))⟩,dE G p⟩;rw[p.length_eq,Nm];omega
noncomputable def e9(ts:List (List Int))(k:Nat):Nat:=(c9 [] (d1 (cR ts (k+1)))).length
noncomputable def nn(ts:List (List Int))(k:Nat):Nat:=(cl ts (k+1)).length
noncomputable def ek(ts:List (List Int))(k:Nat):Nat:=nn ts k-e9 ts (k+1)-e9 ts k
noncomputable def iM(m:Nat)(ns:List Nat):Nat:=ns.foldl (λm x=>if x>m then x else m) m
theorem E5:∀(ns:List Nat)(m:Nat),m<=iM m ns/\∀n∈ns,n<=iM m ns
 |[],m=>⟨Yi _,λ_ h=>nomatch h⟩
 |x::ns,m=>by
  show m<=iM (if x>m then x else m) ns/\_;obtain⟨J,aa⟩:=E5 ns (if x>m then x else m);refine⟨by split at J<;>split<;>omega,λn aB=>?_⟩;rcases Yk.mp aB with rfl|aB
  .show n<=iM (if n>m then n else m) ns
   split at J<;>split<;>omega
  .exact aa n aB
theorem E3{k:Nat}:∀(ns:List Nat)(m:Nat),m<=k->(∀n∈ns,n<=k)->iM m ns<=k
 |[],m,h,_=>h
 |x::ns,m,h,aB=>E3 ns _ (by dsimp only;split;exact aB x List.mem_cons_self;exact h) λn h'=>aB n (List.mem_cons_of_mem _ h')
theorem E4:∀(ns:List Nat)(m:Nat),(ns.map λn:Nat=>(n:Int)).foldl (λm x=>if x>m then x else m) (m:Int)=(iM m ns:Int)
 |[],m=>rfl
 |x::ns,m=>by
  rw[List.map_cons,List.foldl_cons];have:(if (x:Int)>(m:Int) then(x:Int) else(m:Int))=((if x>m then x else m:Nat):Int):=by
   by_cases q:x>m
   .rw[if_pos q,if_pos (by omega)]
   .rw[if_neg q,if_neg (by omega)]
  rw[this];exact E4 ns _
noncomputable def hi:List (List Int)->Nat
 |[]=>0
 |t::ts=>iM t.length (ts.map (·.length))
def NY{ts:List (List Int)}:∀t∈ts,t.length<=hi ts:=by
 cases ts with
 |nil=>intro t h;cases h
 |cons a ts =>
  intro t h;obtain⟨J,aa⟩:=E5 (ts.map (·.length)) a.length;rcases Yk.mp h with rfl|h
  .exact J
  .exact aa _ (List.mem_map.mpr ⟨t,h,rfl⟩)
def NX{ts:List (List Int)}{k:Nat}(h:∀t∈ts,t.length<=k):hi ts<=k:=by
 cases ts with
 |nil=>exact Yp _
 |cons a ts=>exact E3 _ _ (h a List.mem_cons_self) λn aB=>by obtain⟨t,aW,rfl⟩:=List.mem_map.mp aB;exact h t (List.mem_cons_of_mem _ aW)
def EP{ts:List (List Int)}(h:ts≠[]):kC (ts.map λt=>D.int (t.length:Int))=.ok (.int (hi ts:Int)):=by
 cases ts with
 |nil=>exact absurd rfl h
 |cons a ts =>
  have e:((a::ts).map λt=>D.int (t.length:Int))=((a::ts).map λt=>(t.length:Int)).map D.int:=(by rw[List.map_map];rfl);unfold kC;rw[e,D0];show R.ok (D.int ((ts.map λt=>(t.length:Int)).foldl (λm x=>if x>m then x else m) (a.length:Int)))=_;have av:(ts.map λt=>(t.length:Int))=(ts.map (·.length)).map λn:Nat=>(n:Int):=by rw[List.map_map];rfl
  rw[av,E4];rfl
def BE(ts:List (List Int)):cl ts (hi ts+1)=[]:=by
 rw[List.eq_nil_iff_forall_not_mem];intro z hz;obtain⟨J,_,t,aa,aI⟩:=iL.mp hz;have:=NY t aa;have:=aI.length_le;omega
def Tc(ts:List (List Int)):e9 ts (hi ts)=0:=by unfold e9 cR;rw[BE];rfl
theorem Told.ek{ts:List (List Int)}{n:Nat}{G:List Nat}(h:Told ts n G):ek ts n=G.length:=by
 have:G.length+e9 ts (n+1)+e9 ts n=nn ts n:=h.len;unfold d9.ek;omega
def N2{m:Int}{ts:List (List Int)}(h:ts≠[]):dt pg Φ ⟨1,0,bl.wx⟩ [bP m ts]=.ok (.int (hi ts:Int)):=by
 have eh:gM (bP m ts) (.int 1)=.ok (.tup (ts.map aC)):=rfl;have ai:cZ (elem pg Φ [some (bP m ts)] (.prim .len (.var 1)) 0 .none) (ts.map aC)=.ok (ts.map λt=>D.int (t.length:Int)):=gC λt _=>by simp only[Den.bc,Nat.reduceAdd,pF]
 simp only[Den.bc,Nat.reduceAdd,bl.wx,eh,ai,FQ,EP h]
def Oy{f:Nat}{m:Int}{ts:List (List Int)}(h:ts≠[])(dV:hi ts<=8)(hf:∀n:Nat,∃G:List Nat,Φ f [bP m ts,.int (n:Int)]=.ok (.tup (G.map (ey (cl ts (n+1)))))/\Told ts n G):dt pg Φ ⟨1,1,bl.wj f⟩ [bP m ts]=.ok (.tup ((List.range (hi ts)).map λk=>D.int (ek ts k:Int))):=by
 have eh:gM (bP m ts) (.int 1)=.ok (.tup (ts.map aC)):=rfl;have ai:cZ (elem pg Φ [some (bP m ts),none] (.prim .len (.var 2)) 0 .none) (ts.map aC)=.ok (ts.map λt=>D.int (t.length:Int)):=gC λt _=>by simp only[Den.bc,Nat.reduceAdd,pF]
 have av:cZ (elem pg Φ [some (bP m ts),some (.int (hi ts:Int))] (.prim .len (.call f (.cons (.var 0) (.cons (.var 2) (.nil))))) 0 .none) ((List.range (hi ts)).map λk:Nat=>D.int (k:Int))=.ok ((List.range (hi ts)).map λk=>D.int (ek ts k:Int)):=gC λk _=>by
  obtain⟨G,a,b⟩:=hf k;simp only[Den.bc,Nat.reduceAdd,a,b.ek,List.length_map]
 simp only[Den.bc,Nat.reduceAdd,bl.wj,eh,ai,FQ,EP h,jo (i:=0) (j:=(hi ts:Int)) (by omega) (by omega) (by omega) (by omega),p0,av]
def LO{C:a0}(i:Nat):ev pg Φ C (.o2 i)=o3 C[i]?:=bf rfl
def Cm{C:a0}(i j:Nat):ev pg Φ C (.lI i j)=pG C[i]? C[j]?:=bf rfl
def Co{C:a0}(a b:E):ev pg Φ C (.min2 a b)=ev pg Φ C a>>=λx=>e1 x>>=λi=>ev pg Φ C b>>=λy=>e1 y>>=λj=>.ok (.int (if j<i then j else i)):=bf rfl
def L7{C:a0}(i j:Nat):ex pg Φ C (.k6 i j)=qU C[i]? C[j]?>>=λx=>.ok (.cg (C.set i (some x))):=bf rfl
def DZ(up:gJ)(i:Int):jS up (.int i) .bool=.ok false:=bf rfl
def Pf(up:gJ)(i:Int):jS up (.int i) .int=.ok true:=bf rfl
def Rc{x lo hi:Int}(J:lo<=x)(aa:x<=hi):dt pg Φ ⟨3,0,bl.wF⟩ [.int x,.int lo,.int hi]=.ok (.aT true):=by
 simp only[Den.bc,Nat.reduceAdd,bl.wF,Pf,DZ,decide_eq_true J,decide_eq_true aa]
def q8{α β:Type}(f:α->β)(xs:List α):(xs.filter λ_=>false).map f=[]:=by rw[List.filter_eq_nil_iff.mpr λ_ _=>by decide];rfl
def Pp{f:Nat}(hf:∀x lo hi:Int,lo<=x->x<=hi->Φ f [.int x,.int lo,.int hi]=.ok (.aT true)){c:List Int}{m:Int}(h:IsCell m c)(aw:c.length<=1000):dt pg Φ ⟨2,0,bl.wz f⟩ [aC c,.int m]=.ok (.aT true):=by
 unfold aC;have dD:fv (.tup (c.map .int)) (.tup [])=.ok false:=(xn c []).trans (by rw[decide_eq_false h.1]);have ai:cZ (elem pg Φ [some (D.tup (c.map .int)),some (D.int m)] (.var 2) 0 (.some (.not (.call f (.cons (.var 2) (.cons (.lit (.int 0)) (.cons (.bin .sub (.var 1) (.lit (.int 1))) .nil))))))) (c.map .int)=.ok []:=(i4 (q:=λ_=>false) (h:=D.int) λx ag=>by
  have:=h.2.1 x ag;simp only[Den.bc,Nat.reduceAdd,hf x 0 (m-1) this.1 (by omega)]).trans (by rw[q8])
 have av:fv (.lst []) (.lst [])=.ok true:=rfl;simp only[Den.bc,Nat.reduceAdd,bl.wz,dD,ai,av,P2 c m aw,(AR jU c).mpr h.2.2]
def Pq{cj gK h:Nat}{m:Int}{ts:List (List Int)}(aW:∀t∈ts,IsCell m t)(aj:∀(c:List Int),IsCell m c->Φ cj [aC c,.int m]=.ok (.aT true))(aw:Φ gK [bP m ts,.int (h:Int)]=.ok (.lst ((cl ts (h+1)).map aC)))(b:Nat):dt pg Φ ⟨3,0,bl.wA gK cj⟩ [ey (cl ts (h+1)) b,bP m ts,.int (h:Int)]=.ok (.aT true):=by
 have pz:gM (bP m ts) (.int 0)=.ok (.int m):=rfl;unfold ey;generalize jb:(cl ts (h+1)).filter (λc=>b.testBit (cx (cl ts (h+1)) c))=cs;have dO:∀c∈cs,c∈cl ts (h+1):=λc aj=>by rw[<- jb]at aj;exact(YR.mp aj).1
 have ai:cZ (elem pg Φ [some (.tup (cs.map aC)),some (bP m ts),some (.int (h:Int))] (.var 3) 0 (.some (.not (.call cj (.cons (.var 3) (.cons (.idx (.var 1) (.lit (.int 0))) (.nil))))))) (cs.map aC)=.ok []:=(i4 (q:=λ_=>false) (h:=aC) λc cT=>by
  obtain⟨_,a,t,b,s⟩:=iL.mp (dO c cT);simp only[Den.bc,Nat.reduceAdd,pz,aj c (Ve (aW t b) s a)]).trans (by rw[q8])
 have av:fv (.lst []) (.lst [])=.ok true:=rfl;have jD:cZ (elem pg Φ [some (.tup (cs.map aC)),some (bP m ts),some (.int (h:Int))] (.var 3) 0 (.some (.cmp .mem (.var 3) (.var 0)))) ((cl ts (h+1)).map aC)=.ok (((cl ts (h+1)).filter λz=>decide (z∈cs)).map aC):=i4 λz _=>by
  simp only[Den.bc,Nat.reduceAdd,QG];cases decide (z∈cs)<;>rfl
 have i6:((cl ts (h+1)).filter λz=>decide (z∈cs))=cs:=by
  conv=>rhs;rw[<- jb]
  refine List.filter_congr λz hz=>?_
  rw[<- jb,ace,YD,YR];exact⟨λq=>q.2,λq=>⟨hz,q⟩⟩
 simp only[Den.bc,Nat.reduceAdd,bl.wA,ai,av,aw,jD,i6,Lv,decide_true]
structure oO(ak:List (List Int×Int))(ar:List (List Int)):Prop where
 ej:(ak.map (·.1)).Nodup
 af:∀p∈ak,p.2=(ar.count p.1:Int)
 ms:∀k,k∈ak.map (·.1)<->k∈ar
def WM{ak:List (List Int×Int)}{k:List Int}(h:k∉ak.map (·.1)):gr ak k=none:=by
 unfold gr;rw[List.find?_eq_none.mpr]
 .rfl
 .intro p aE z;exact h (List.mem_map.mpr ⟨p,aE,ZR z⟩)
def HO{ak:List (List Int×Int)}{ar:List (List Int)}(t:oO ak ar){k:List Int}(h:k∈ar):gr ak k=some (ar.count k:Int):=by
 unfold gr;cases q:ak.find? λp=>decide (p.1=k) with
 |none =>
  obtain⟨p,aE,e⟩:=List.mem_map.mp ((t.ms k).mpr h);exact absurd (decide_eq_true e) (List.find?_eq_none.mp q p aE)
 |some p =>
  have e:p.1=k:=(by have:=List.find?_some q;exact ZR this);have:=t.af p (List.mem_of_find?_eq_some q);rw[e]at this;rw[Option.map_some,this]
def Wa{ak:List (List Int×Int)}{ar:List (List Int)}(t:oO ak ar)(k:List Int):oO (putN ak k ((gr ak k).getD 0+1)) (ar++[k]):=by
 unfold putN
 by_cases h:k∈ar
 .have au:=(t.ms k).mpr h;obtain⟨p,aE,e⟩:=List.mem_map.mp au;rw[if_pos (aaK.mpr ⟨p,aE,decide_eq_true e⟩),HO t h];have ai:((ak.map λp=>if p.1=k then(p.1,(some (ar.count k:Int)).getD 0+1) else p).map (·.1))=ak.map (·.1):=by
   rw[List.map_map];refine Zs λp _=>?_
   simp only[Function.comp]
   split<;>rfl
  refine⟨by rw[ai];exact t.ej,λq aJ=>?_,λz=>?_⟩
  .obtain⟨o,ay,rfl⟩:=List.mem_map.mp aJ;have:=t.af o ay
   split
   .rename_i e;simp only[Option.getD_some,e,aaB,List.count_singleton_self];omega
   .rename_i e;rw[this,aaB,List.count_singleton];have bq:¬k=o.1:=λz=>e z.symm
    simp[bq]
  .rw[ai,t.ms,Yq,YA];exact⟨.inl,λw=>w.elim (λx=>x) λx=>x▸h⟩
 .have au:k∉ak.map (·.1):=λz=>h ((t.ms k).mp z)
  have:¬(ak.any λp=>decide (p.1=k))=true:=λz=>by
   obtain⟨p,aE,e⟩:=aaK.mp z;exact au (List.mem_map.mpr ⟨p,aE,ZR e⟩)
  rw[if_neg this,WM au];refine⟨?_,λq aJ=>?_,λz=>?_⟩
  .rw[List.map_append];refine aae.mpr ⟨t.ej,YX.mpr ⟨by simp,ZZ⟩,λx ag y aD e=>?_⟩;rw[List.map_singleton,YA]at aD;subst e;subst aD;exact au ag
  .rcases Yq.mp aJ with aJ|aJ
   .have J:=t.af q aJ;have aa:q.1∈ar:=(t.ms _).mp (List.mem_map.mpr ⟨q,aJ,rfl⟩);have aI:k≠q.1:=λz=>h (z▸aa)
    rw[J,aaB,List.count_singleton];simp[aI]
   .rw[YA]at aJ;subst aJ;rw[aaB,List.count_singleton_self,List.count_eq_zero.mpr h];rfl
  .rw[List.map_append,Yq,t.ms,Yq];rfl
theorem BK(e:List Int):∀cs:List (List Int),(∀c∈cs,dI ltI c)->(cs.flatMap dy).count e=cnt e cs
 |[],_=>rfl
 |c::cs,h=>by
  have J:=BK e cs λd hd=>h d (List.mem_cons_of_mem _ hd)
  rw[List.flatMap_cons,aaB,J];unfold cnt;rw[aaG,acg];congr 1
  by_cases q:e∈dy c
  .rw[decide_eq_true q,if_pos rfl];have J:=List.nodup_iff_count.mp (qa (h c List.mem_cons_self)) e;have aa:=List.count_pos_iff.mpr q;omega
  .rw[decide_eq_false q,List.count_eq_zero.mpr q];rfl
def K5{ak:List (List Int×Int)}(h:ak.length<1000)(o:List Int):qU (some (some (.bK ak))) (some (some (aC o)))=.ok (.bK (putN ak o ((gr ak o).getD 0+1))):=by
 show(match some ak,gc (aC o) with
  |some ak,some k=>if ak.length<1000 then R.ok (D.bK (putN ak k ((gr ak k).getD 0+1))) else .bad
  |_,_=>.bad)=_
 rw[oC];exact if_pos h
def K1{ak:List (List Int×Int)}{c:List Int}{n:Int}(h:gr ak c=some n):kh (some (some (.bK ak))) (some (some (aC c)))=.ok (.int n):=by
 show(match some ak,gc (aC c) with
  |some ak,some k=>(match gr ak k with|some n=>R.ok (D.int n)|none=>.bad)
  |_,_=>_)=_
 rw[oC];dsimp only;rw[h]
def Qa{cs U:List (List Int)}(aj:∀c∈cs,dI ltI c/\c.length<=1000)(cI:∀c∈cs,∀e∈dy c,e∈U)(tE:U.length<=255)(h0:∀k,cnt k cs%2=0):dt pg Φ ⟨1,4,bl.wH⟩ [.tup (cs.map aC)]=.ok (.tup []):=by
 simp only[Den.bc,Nat.reduceAdd,bl.wH,Ct];have short:∀{ak ar},oO ak ar->(∀k∈ar,k∈U)->ak.length<=255:=λt h=>by
  have:=lL t.ej λz hz=>h z ((t.ms z).mp hz)
  rw[List.length_map]at this;omega
 generalize hd:D.tup (cs.map aC)=d;obtain⟨cp,e,ak,x,y,z,he,lX⟩:=g6 (f:=aC) (g:=turn pg Φ 0 [2] (.cons (.fx 0 [3] (.eP (.bin .mul (.prim .len (.var 2)) (.prim .int (.cmp .gt (.prim .len (.var 2)) (.lit (.int 1)))))) (.cons (.asg 4 (.bin .add (.slice (.var 2) (.none) (.some (.var 3))) (.slice (.var 2) (.some (.bin .add (.var 3) (.lit (.int 1)))) (.none)))) (.cons (.k6 1 4) (.nil)))) (.nil)))
  (λa8 C=>∃(ak:List (List Int×Int))(x y z:Option D),C=[some d,some (.bK ak),x,y,z]/\oO ak (a8.flatMap dy))
  cs [some d,some (.bK []),none,none,none] ⟨[],none,none,none,rfl,⟨ZZ,λ_ h=>by simp at h,λ_=>by simp⟩⟩ (λpre c post C aE ⟨ak,x,y,z,cf,lX⟩=>by
   subst cf;have tL:c∈cs:=(by rw[aE];simp);have OE:∀z∈pre,z∈cs:=λz hz=>by rw[aE];simp[hz]
   obtain⟨hK,Ds⟩:=aj c tL;have OC:∀k∈pre.flatMap dy,k∈U:=λk au=>by
    obtain⟨o,ay,au⟩:=ZY.mp au;exact cI o (OE o ay) k au
   obtain⟨n,XO,hm,DP⟩:∃n:Nat,n<=1000/\d3 .mul (.int (c.length:Int)) (.int (if decide ((1:Int)<(c.length:Int))=true then 1 else 0))=.ok (.int (n:Int))/\dy c=(List.range n).map λk=>c.take k++c.drop (k+1):=by
    unfold dy
    by_cases q:1<c.length
    .have c2:(1:Int)<(c.length:Int):=(by omega);exact⟨c.length,Ds,by rw[decide_eq_true c2,if_pos rfl,jW _ _ (.inr (by rw[iW];omega))];simp,if_pos q⟩
    .have c2:¬(1:Int)<(c.length:Int):=(by omega);exact⟨0,by omega,by rw[decide_eq_false c2,if_neg (by decide),jW _ _ (.inr (by rw[iW];omega))];simp,if_neg q⟩
   have ab:∀lo hi,j0 (aC c) lo hi=.ok (.tup (cut (c.map D.int) lo hi)):=λlo hi=>rfl
   obtain⟨cp,e,X0,oE,gd,he,V9⟩:=g6 (f:=λk:Nat=>D.int (k:Int)) (g:=turn pg Φ 0 [3] (.cons (.asg 4 (.bin .add (.slice (.var 2) (.none) (.some (.var 3))) (.slice (.var 2) (.some (.bin .add (.var 3) (.lit (.int 1)))) (.none)))) (.cons (.k6 1 4) (.nil))))
    (λa8 C=>∃(ak:List (List Int×Int))(y z:Option D),C=[some d,some (.bK ak),some (aC c),y,z]/\oO ak (pre.flatMap dy++a8.map λk=>c.take k++c.drop (k+1)))
    (List.range n) [some d,some (.bK ak),some (aC c),y,z] ⟨ak,y,z,rfl,by rw[Z8,Y1];exact lX⟩ (λpr k po C aE ⟨ak,y,z,cf,lX⟩=>by
     subst cf;have aw:ak.length<1000:=by
      have:=short lX λw hw=>by
       rcases Yq.mp hw with hw|hw
       .exact OC w hw
       .obtain⟨j,aA,rfl⟩:=List.mem_map.mp hw;exact cI c tL _ (by rw[DP];exact List.mem_map.mpr ⟨j,by rw[aE];simp[aA],rfl⟩)
      omega
     refine⟨_,by simp only[Den.bc,Nat.reduceAdd,ab,GU Ds,L7,K5 aw];rfl,_,_,_,rfl,?_⟩;rw[List.map_append,<- Yr];exact Wa lX _)
   have Sm:∀b:Bool,jY pg.up .int (.aT b)=.ok (.int (if b=true then 1 else 0)):=λb=>rfl
   refine⟨_,by simp only[Den.bc,Nat.reduceAdd,Sm,pF,hm,jo (i:=0) (j:=(n:Int)) (by omega) (by omega) (by omega) (by omega),p0,e,he];rfl,_,_,_,_,rfl,?_⟩;rw[aaP,List.flatMap_singleton,DP];exact V9)
 rw[e,he];have hK:∀c∈cs,dI ltI c:=λc h=>(aj c h).1
 have dO:∀k∈cs.flatMap dy,k∈U:=λk au=>by
  obtain⟨o,ay,au⟩:=ZY.mp au;exact cI o ay k au
 have aw:=short lX dO;have eN:∀c∈ak.map (·.1),c≠[]:=λk au=>by
  obtain⟨o,ay,au⟩:=ZY.mp ((lX.ms k).mp au);exact UH (hK o ay) au
 have OQ:o3 (some (some (.bK ak)))=.ok (.lst ((cV lexLt (ak.map (·.1))).map aC)):=by
  simp only[o3,hY];have:(ak.map λp=>D.tup (p.1.map .int))=(ak.map (·.1)).map aC:=(by rw[List.map_map];rfl);rw[this,UW eN (by rw[List.length_map];exact aw)]
 have ai:cZ (elem pg Φ [some d,some (.bK ak),x,y,z] (.var 5) 0 (.some (.cmp .eq (.bin .mod (.hC 1 5) (.lit (.int 2))) (.lit (.int 1))))) ((cV lexLt (ak.map (·.1))).map aC)=.ok []:=(i4 (q:=λ_=>false) (h:=aC) λk au=>by
  have au:=(lX.ms k).mp ((kD _ _).mp au);have a4:=K1 (HO lX au);rw[BK k cs hK]at a4;have c2:((cnt k cs:Int)%2==1)=false:=(by rw[YQ];have:=h0 k;omega);simp only[Den.bc,Nat.reduceAdd,o4,a4,h9 _ 2 (by decide),c2]).trans (by rw[q8])
 simp only[Den.bc,Nat.reduceAdd,LO,OQ,ai]
def S8 {m : Int} {ts : List (List Int)} {n b : Nat} (aW : ∀ t ∈ ts, IsCell m t) (ae : b < 2 ^ (cl ts (n + 1)).length) (h : bd (cR ts (n + 1)) b = 0) (k : List Int) : cnt k ((cl ts (n + 1)).filter fun c => b.testBit (cx (cl ts (n + 1)) c)) % 2 = 0 := by
  have dO : ∀ c ∈ (cl ts (n + 1)).filter (fun c => b.testBit (cx (cl ts (n + 1)) c)), c ∈ cl ts (n + 1) := fun c aj => (YR.mp aj).1
  rw [<- EZ (jB ts (n + 1)) ae] at h
  unfold cR at h
  rw [Be dO] at h
  generalize (cl ts (n + 1)).filter (fun c => b.testBit (cx (cl ts (n + 1)) c)) = cs at h dO
  by_cases au : k ∈ cl ts n
  · have b7 := Y8 au
    have := H2 (sd := dy) (c := cs) (jB ts n) (fun x ag => qa (nF aW (dO x ag))) b7
    rw [show n + 1 - 1 = n from rfl] at h
    rw [h, ZW, Z2 b7] at this
    have kn := of_decide_eq_false this.symm
    have e : cnt k cs % 2 ≠ 1 := by
      intro z
      refine kn ((Zr (· % 2) (?e : _ = cnt k cs)).trans z)
      exact aaz fun x _ => by simp only [YD]
    omega
  · have : cnt k cs = 0 := by
      unfold cnt
      rw [abv]
      intro c aj z
      exact au (nG aW (dO c aj) (ZR z))
    omega
noncomputable abbrev eZ(xs:List Nat):D:=.lst (xs.map λb:Nat=>D.int (b:Int))
def Pa{α:Type}(b1 b2:BEq α)[J:@LawfulBEq α b1][aa:@LawfulBEq α b2](c:α)(U:List α):@List.idxOf α b1 c U=@List.idxOf α b2 c U:=by
 unfold List.idxOf;congr 1;funext x;rw[ace,@Y3 α b1,@Y3 α b2]
def D8{α:Type}[DecidableEq α]{U:List α}{c:α}(h:c∈U):cx U c<U.length:=Y8 h
def Ey{U:List (List Int)}(aw:U.length<=1000){c:List Int}(aj:c∈U):pG (some (some (.lst (U.map aC)))) (some (some (aC c)))=.ok (.int (cx U c:Int)):=by
 have e:∀V:List (List Int),m7 (V.map aC)=some V:=λV=>by
  induction V with
  |nil=>rfl
  |cons v V aF=>rw[List.map_cons,m7,oC,aF]
 show(match m7 (U.map aC),gc (aC c) with
  |some ar,some k=>if k∈ar/\ar.length<=1000 then R.ok (D.int (ar.idxOf k:Nat)) else .bad
  |_,_=>.bad)=_
 rw[e,oC];dsimp only;rw[if_pos ⟨aj,aw⟩];exact Zr (λz:Nat=>R.ok (D.int (z:Int))) (Pa _ instBEqOfDecidableEq c U)
def GR{n:Nat}(h:n<=1000):d3 .shl (.int 1) (.int (n:Int))=.ok (.int ((2 ^ n:Nat):Int)):=by
 show(if 0<=(n:Int)/\(n:Int)<=1000/\-e0<1/\1<e0 then R.ok (D.int (1*2 ^ (n:Int).toNat)) else .bad)=_;rw[if_pos ⟨by omega,by omega,by decide,by decide⟩,Int.toNat_natCast,Int.one_mul];congr 2
theorem uL:∀(s:Nat){c:List Int},dI ltI c->(cO s c).Nodup
 |0,_,_=>by simp[cO]
 |s+1,[],_=>ZZ
 |s+1,x::r,h=>by
  obtain⟨J,aa⟩:=YE.mp h;refine aae.mpr ⟨?_,uL (s+1) aa,λa ax b ae e=>?_⟩
  .rw[Z1,Zu];exact aay (λq z=>q (List.cons.inj z).2) (Z1.mp (uL s aa))
  .subst e;obtain⟨y,_,rfl⟩:=List.mem_map.mp ax;have:=J x (((oc _ _ _).mp ae).2.subset List.mem_cons_self);rw[jU.fL]at this;cases this
def J0{bB cj:Nat}{m:Int}{ts:List (List Int)}{n:Nat}(aB:n<=8)(aW:∀t∈ts,IsCell m t)(dV:m<=8)(aE:∀c:List Int,c.length<=8->Φ bB [aC c,.int (n:Int)]=.ok (.lst ((cO n c).map aC)))(aj:∀k:Nat,k<=8->Φ cj [bP m ts,.int (k:Int)]=.ok (.lst ((cl ts (k+1)).map aC))):dt pg Φ ⟨2,2,bl.qJ bB cj⟩ [bP m ts,.int (n:Int)]=.ok (eZ (cR ts (n+1))):=by
 have J:=aj n aB;have hlen:=ke dV aW (n+1);cases n with
 |zero =>
  have J:Φ cj [bP m ts,.int 0]=.ok (.lst ((cl ts 1).map aC)):=J;have hz:((0:Int)==0)=true:=rfl;have hm:d3 .mul (.lst [.int 0]) (.int ((cl ts 1).length:Int))=.ok (eZ (cR ts 1)):=by
   show(if 0<=((cl ts 1).length:Int)/\((cl ts 1).length:Int)<=1000/\[D.int 0].length<=1000 then R.ok (D.lst (List.replicate ((cl ts 1).length:Int).toNat [D.int 0]).flatten) else .bad)=_;have hlen:(cl ts 1).length<=255:=hlen;rw[if_pos ⟨by omega,by omega,by simp⟩,Int.toNat_natCast,List.flatten_replicate_singleton];unfold eZ cR;rw[List.map_map];congr 2;symm;rw[List.eq_replicate_iff];refine⟨by simp,λd hd=>?_⟩;obtain⟨c,cT,rfl⟩:=List.mem_map.mp hd;have:dy c=[]:=(by unfold dy;rw[if_neg];rw[(iL.mp cT).1];decide);show D.int ((dA (cl ts (1-1)) (dy c):Nat):Int)=_;rw[this];rfl
  show dt pg Φ ⟨2,2,bl.qJ bB cj⟩ [bP m ts,.int 0]=_;simp only[Den.bc,Nat.reduceAdd,bl.qJ,J,hz,List.length_map,hm]
 |succ n =>
  have hz:(((n+1:Nat):Int)==0)=false:=YQ.mpr (by omega);have aa:=aj n (by omega);have ab:d3 .sub (.int ((n+1:Nat):Int)) (.int 1)=.ok (.int (n:Int)):=(by rw[sub_int];congr 2;omega);have cI:=jB ts (n+1);have XD:=ke dV aW (n+1);have ai:cZ (elem pg Φ [some (bP m ts),some (.int ((n+1:Nat):Int)),some (.lst ((cl ts (n+2)).map aC)),some (.lst ((cl ts (n+1)).map aC))] (.prim .sum (.comp (.bin .shl (.lit (.int 1)) (.lI 3 5)) 0 (.seq (.call bB (.cons (.var 4) (.cons (.var 1) (.nil))))) (.none))) 0 .none) ((cl ts (n+2)).map aC)=.ok ((cl ts (n+2)).map λc=>D.int ((dA (cl ts (n+1)) (dy c):Nat):Int)):=gC λc cT=>by
   have hK:=nF aW cT;obtain⟨dk,bA,t,c5,i3⟩:=iL.mp cT;have NC:c.length<=8:=by
    have:=i3.length_le;have:=mj (aW t c5);omega
   have uu:∀z,z∈cO (n+1) c<->z∈dy c:=λz=>by
    rw[oc,m4 hK,dk];exact⟨λh=>⟨by omega,by omega,h.2⟩,λh=>⟨by omega,h.2.2⟩⟩
   have dO:∀z∈cO (n+1) c,z∈cl ts (n+1):=λz hz=>nG aW cT ((uu z).mp hz)
   have av:cZ (elem pg Φ [some (bP m ts),some (.int ((n+1:Nat):Int)),some (.lst ((cl ts (n+2)).map aC)),some (.lst ((cl ts (n+1)).map aC)),some (aC c)] (.bin .shl (.lit (.int 1)) (.lI 3 5)) 0 .none) ((cO (n+1) c).map aC)=.ok ((cO (n+1) c).map λx=>D.int ((2 ^ cx (cl ts (n+1)) x:Nat):Int)):=gC λz hz=>by
    have:=D8 (dO z hz);simp only[Den.bc,Nat.reduceAdd,Cm,Ey (by omega) (dO z hz),GR (n:=cx (cl ts (n+1)) z) (by omega)]
   simp only[Den.bc,Nat.reduceAdd,aE c NC,av,zj,zV cI (uL _ hK) dO];rw[QW cI (uL _ hK) (qa hK) uu dO]
  simp only[Den.bc,Nat.reduceAdd,bl.qJ,J,hz,ab,aa,ai];unfold eZ cR;rw[List.map_map];rfl
def P4{U:List (List Int)}(cI:U.Nodup)(aw:U.length<=255){b:Nat}(ae:b<2 ^ U.length):dt pg Φ ⟨2,0,bl.wo⟩ [ey U b,.lst (U.map aC)]=.ok (.int (b:Int)):=by
 have e:=EZ cI ae;have aB:=cI.filter λc=>b.testBit (cx U c)
 have dO:∀c∈U.filter (λc=>b.testBit (cx U c)),c∈U:=λc aj=>(YR.mp aj).1
 unfold ey;generalize U.filter (λc=>b.testBit (cx U c))=cs at e aB dO;have av:cZ (elem pg Φ [some (.tup (cs.map aC)),some (.lst (U.map aC))] (.bin .shl (.lit (.int 1)) (.lI 1 2)) 0 .none) (cs.map aC)=.ok (cs.map λx=>D.int ((2 ^ cx U x:Nat):Int)):=gC λz hz=>by
  have:=D8 (dO z hz);simp only[Den.bc,Nat.reduceAdd,Cm,Ey (by omega) (dO z hz),GR (n:=cx U z) (by omega)]
 simp only[Den.bc,Nat.reduceAdd,bl.wo,av,zj,zV cI aB dO,e]
def Qt(cs:List Nat)(c:Nat):fC (cs++[c])=lst (fC cs) c:=by unfold fC;rw[List.foldl_append];rfl
def S0{xs:List Nat}(aw:xs.length<=1000):dt pg Φ ⟨1,4,bl.wG⟩ [eZ xs]=.ok (.int ((fC xs).length:Int)):=by
 simp only[Den.bc,Nat.reduceAdd,bl.wG];generalize hd:eZ xs=d;obtain⟨cp,e,x,y,z,he⟩:=g6 (f:=λb:Nat=>D.int (b:Int)) (g:=turn pg Φ 0 [2] (.cons (.asg 3 (.var 2)) (.cons (.fx 0 [4] (.seq (.var 1)) (.cons (.asg 3 (.min2 (.var 3) (.bin .xor (.var 3) (.var 4)))) (.nil))) (.cons (.iff (.cmp .gt (.var 3) (.lit (.int 0))) (.cons (.app 1 (.var 3)) (.nil)) (.nil)) (.nil)))))
  (λa8 C=>∃(x y z:Option D),C=[some d,some (eZ (fC a8)),x,y,z])
  xs [some d,some (.lst []),none,none,none] ⟨none,none,none,rfl⟩ (λpre c post C aE ⟨x,y,z,cf⟩=>by
   subst cf;have e4:pre.length+1<=xs.length:=(by rw[aE];simp);have au:(fC pre).length<=pre.length:=by
    have:=rd (pre.map bare) [];rw[yU];simpa using this
   rw[Qt];generalize fC pre=W at au;obtain⟨cp,e,gd,he⟩:=g6 (f:=λb:Nat=>D.int (b:Int)) (g:=turn pg Φ 0 [4] (.cons (.asg 3 (.min2 (.var 3) (.bin .xor (.var 3) (.var 4)))) (.nil)))
    (λa8 C=>∃(z:Option D),C=[some d,some (eZ W),some (.int (c:Int)),some (.int (fo a8 c:Int)),z])
    W [some d,some (eZ W),some (.int (c:Int)),some (.int (c:Int)),z] ⟨z,rfl⟩ (λpr w po C aE ⟨z,cf⟩=>by
     subst cf;have ai:fo (pr++[w]) c=mQ (fo pr c) w:=(by unfold fo;rw[List.foldl_append];rfl);have av:(if ((fo pr c ^^^ w:Nat):Int)<(fo pr c:Int) then((fo pr c ^^^ w:Nat):Int) else(fo pr c:Int))=(mQ (fo pr c) w:Int):=by
      unfold mQ
      by_cases q:fo pr c ^^^ w<fo pr c
      .rw[if_pos q,if_pos (by omega)]
      .rw[if_neg q,if_neg (by omega)]
     rw[ai];refine⟨_,by simp only[Den.bc,Nat.reduceAdd,Co,H3,av],some (.int (w:Int)),rfl⟩)
   unfold lst
   by_cases q:0<fo W c
   .have c2:(0:Int)<(fo W c:Int):=(by omega);have cc:=v7 (W.map λb:Nat=>D.int (b:Int)) (.int (fo W c:Int)) (by rw[List.length_map,g4];omega);rw[if_pos q];refine⟨_,by simp only[Den.bc,Nat.reduceAdd,eZ,e,he,decide_eq_true c2,cc];rfl,some (.int (c:Int)),some (.int (fo W c:Int)),gd,?_⟩;simp only[eZ,List.map_append,List.map_cons,Z8]
   .have c2:¬(0:Int)<(fo W c:Int):=(by omega);rw[if_neg q];refine⟨_,by simp only[Den.bc,Nat.reduceAdd,eZ,e,he,decide_eq_false c2],some (.int (c:Int)),some (.int (fo W c:Int)),gd,rfl⟩)
 rw[e,he];simp only[Den.bc,Nat.reduceAdd,eZ,List.length_map]
def Tb(ts:List (List Int))(k:Nat):(fC (cR ts (k+1))).length=e9 ts k:=by
 unfold e9;rw[F7,yZ]
def P7{cj fr mD mC:Nat}{m:Int}{ts:List (List Int)}(aW:∀t∈ts,IsCell m t)(dV:m<=8)(XA:hi ts<=8)(aj:∀k:Nat,k<=8->Φ cj [bP m ts,.int (k:Int)]=.ok (.lst ((cl ts (k+1)).map aC)))(a7:∀xs:List Nat,xs.length<=1000->Φ fr [eZ xs]=.ok (.int ((fC xs).length:Int)))(ay:∀n:Nat,n<=8->Φ mD [bP m ts,.int (n:Int)]=.ok (eZ (cR ts (n+1))))(cF:Φ mC [bP m ts]=.ok (.int (hi ts:Int)))(ab:∀k,ek ts k+e9 ts (k+1)+e9 ts k=nn ts k):dt pg Φ ⟨1,2,bl.wy cj fr mD mC⟩ [bP m ts]=.ok (.tup ((List.range (hi ts)).map λk=>D.int (ek ts k:Int))):=by
 have ai:cZ (elem pg Φ [some (bP m ts),some (.int (hi ts:Int)),none] (.call fr (.cons (.call mD (.cons (.var 0) (.cons (.var 3) (.nil)))) (.nil))) 0 .none) ((List.range (hi ts)).map λk:Nat=>D.int (k:Int))=.ok ((List.range (hi ts)).map λk=>D.int (e9 ts k:Int)):=gC λk au=>by
  have au:=List.mem_range.mp au;have:=ke dV aW (k+1);simp only[Den.bc,Nat.reduceAdd,ay k (by omega),a7 _ (by rw[lT];omega:(cR ts (k+1)).length<=1000),Tb]
 have av:d3 .add (.lst ((List.range (hi ts)).map λk=>D.int (e9 ts k:Int))) (.lst [.int 0])=.ok (.lst ((List.range (hi ts+1)).map λk=>D.int (e9 ts k:Int))):=by
  rw[k0,if_pos (by rw[List.length_map,List.length_range,g4];simp;omega),List.range_succ,List.map_append,List.map_singleton,Tc];rfl
 have bu:∀k,k<=hi ts->gM (.lst ((List.range (hi ts+1)).map λk=>D.int (e9 ts k:Int))) (.int (k:Int))=.ok (.int (e9 ts k:Int)):=λk au=>by
  rw[yz,xP,Yy,ZT (by omega)];rfl
 have dU:cZ (elem pg Φ [some (bP m ts),some (.int (hi ts:Int)),some (.lst ((List.range (hi ts+1)).map λk=>D.int (e9 ts k:Int)))] (.bin .sub (.bin .sub (.prim .len (.call cj (.cons (.var 0) (.cons (.var 3) (.nil))))) (.idx (.var 2) (.var 3))) (.idx (.var 2) (.bin .add (.var 3) (.lit (.int 1))))) 0 .none) ((List.range (hi ts)).map λk:Nat=>D.int (k:Int))=.ok ((List.range (hi ts)).map λk=>D.int (ek ts k:Int)):=gC λk au=>by
  have au:=List.mem_range.mp au;have e6:gM (.lst ((List.range (hi ts+1)).map λk=>D.int (e9 ts k:Int))) (.int ((k:Int)+1))=.ok (.int (e9 ts (k+1):Int)):=bu (k+1) (by omega);have aI:=ab k;have:((cl ts (k+1)).length:Int)-(e9 ts k:Int)-(e9 ts (k+1):Int)=(ek ts k:Int):=(by unfold nn at aI;omega);simp only[Den.bc,Nat.reduceAdd,aj k (by omega),bu k (by omega),e6,List.length_map,this]
 simp only[Den.bc,Nat.reduceAdd,bl.wy,cF,jo (i:=0) (j:=(hi ts:Int)) (by omega) (by omega) (by omega) (by omega),p0,ai,av,dU]
def E9{m:Int}{ts:List (List Int)}(h:Net m ts):ts≠[]:=λe=>by
 subst e;obtain⟨t,aW,_⟩:=xc.mp h.gD 0 (Int.le_refl 0) (by have:=h.lo;omega);cases aW
def y4{m:Int}{ts:List (List Int)}(h:Net m ts):hi ts<=8:=NX λt aW=>by
 have:=mj (h.cell t aW);have:=h.hi;omega
def Wh{m:Int}{ts:List (List Int)}(aW:∀t∈ts,IsCell m t)(dV:m<=8):nn ts 7<=e9 ts 7:=by
 have J:nn ts 7<=[b9 m].length:=lL (jB ts 8) λc aj=>by
  obtain⟨dk,_,t,c5,i3⟩:=iL.mp aj;have:=pB dV;exact YA.mpr ((i3.trans (Bw (aW t c5))).eq_of_length_le (by omega))
 have J:nn ts 7<=1:=J;rcases Nat.eq_zero_or_pos (nn ts 7) with h|h
 .omega
 .obtain⟨c,aj⟩:=List.exists_mem_of_length_pos h;rcases Nat.eq_zero_or_pos (e9 ts 7) with q|q
  .exfalso;have ax:dA (cl ts 7) (dy c)∈cR ts 8:=List.mem_map.mpr ⟨c,aj,rfl⟩;have ab:sp (rws (c9 [] (d1 (cR ts 8)))) (dA (cl ts 7) (dy c)):=(nS dd.nil _).mpr (dX (List.mem_append_left _ (by rw[yZ];exact ax)));rw[ZN q]at ab;have ab:dA (cl ts 7) (dy c)=0:=ab;have hK:=nF aW aj;have dk:=(iL.mp aj).1;have hd:c.drop 1∈dy c:=(m4 hK).mpr ⟨by omega,by rw[Zb];omega,List.drop_sublist 1 c⟩;have dO:=nG aW aj hd;exact QX (jB ts 7) (qa hK) hd dO ab
  .omega
def Wf{m:Int}{ts:List (List Int)}{n:Nat}{G:List Nat}(aW:∀t∈ts,IsCell m t)(dV:m<=8)(aB:n=hi ts\/n=7)(h:Told ts n G):G=[]:=by
 apply ZN;have J:G.length+e9 ts (n+1)+e9 ts n=nn ts n:=h.len;rcases aB with rfl|rfl
 .have:nn ts (hi ts)=0:=(by unfold nn;rw[BE];rfl);omega
 .have:=Wh aW dV;omega
def P1{fr cm mD tu tj o9 cj mC CF fn xE:Nat}{is:List Int}(hm:∀k:Nat,∃r:Int,0<=r/\r<nk/\Φ xE [.lst (is.map .int),.int (k:Int)]=.ok (.int r))(aB:∀i:Int,0<=i->∃m ts,Φ fn [.int i,.int 8]=.ok (bP m ts)/\Net m ts/\ts.length<=70)(Oc:∀m ts,Net m ts->ts.length<=70->Φ CF [bP m ts]=.ok (.tup ((List.range (hi ts)).map λk=>D.int (ek ts k:Int))))(cF:∀m ts,Net m ts->ts.length<=70->Φ mC [bP m ts]=.ok (.tup ((List.range (hi ts)).map λk=>D.int (ek ts k:Int))))(DL:∀m ts (n:Nat),Net m ts->ts.length<=70->∃G:List Nat,Φ o9 [bP m ts,.int (n:Int)]=.ok (.tup (G.map (ey (cl ts (n+1)))))/\Told ts n G)(aj:∀m ts (h:Nat),Net m ts->ts.length<=70->h<=8->Φ cj [bP m ts,.int (h:Int)]=.ok (.lst ((cl ts (h+1)).map aC)))(ja:∀m ts (h b:Nat),Net m ts->ts.length<=70->h<=8->Φ tj [ey (cl ts (h+1)) b,bP m ts,.int (h:Int)]=.ok (.aT true))(OK:∀m ts (n b:Nat),Net m ts->b<2 ^ (cl ts (n+1)).length->bd (cR ts (n+1)) b=0->Φ tu [ey (cl ts (n+1)) b]=.ok (.tup []))(ay:∀m ts (n:Nat),Net m ts->ts.length<=70->n<=8->Φ mD [bP m ts,.int (n:Int)]=.ok (eZ (cR ts (n+1))))(ae:∀(U:List (List Int))(b:Nat),U.Nodup->U.length<=255->b<2 ^ U.length->Φ cm [ey U b,.lst (U.map aC)]=.ok (.int (b:Int)))(a7:∀xs:List Nat,xs.length<=1000->Φ fr [eZ xs]=.ok (.int ((fC xs).length:Int))):dt pg Φ ⟨1,8,bl.wm fr cm mD tu tj o9 cj mC CF fn xE⟩ [.lst (is.map .int)]=.ok (.aT true):=by
 obtain⟨r,ib,-,dD⟩:=hm 0;have dD:Φ xE [.lst (is.map .int),.int 0]=.ok (.int r):=dD;obtain⟨m,ts,ai,aS,aw⟩:=aB r ib;have dV:=y4 aS;have NK:∃ab:List Int,ab.length=hi ts/\(∀k,k<hi ts->ab[k]?=some (ek ts k:Int))/\D.tup ((List.range (hi ts)).map λk=>D.int (ek ts k:Int))=.tup (ab.map .int) :=
  ⟨(List.range (hi ts)).map λk=>(ek ts k:Int),by simp,λk au=>by rw[Yy,ZT au];rfl,by rw[List.map_map];rfl⟩
 obtain⟨ab,yp,rt,tX⟩:=NK;have av:=Oc m ts aS aw;have bu:=cF m ts aS aw;rw[tX]at av bu;have dU:fv (.tup (ab.map .int)) (.tup (ab.map .int))=.ok true:=(xn ab ab).trans (by rw[decide_eq_true rfl]);have jD:cZ (elem pg Φ [some (.lst (is.map .int)),some (bP m ts),some (.tup (ab.map .int)),some (.tup (ab.map .int)),none,none,none,none,none] (.var 9) 0 (.some (.prim (.inst .bool) (.var 9)))) (ab.map .int)=.ok []:=(i4 (q:=λ_=>false) (h:=D.int) λx ag=>by
  simp only[Den.bc,Nat.reduceAdd,DZ]).trans (by rw[q8])
 have i6:fv (.lst []) (.lst [])=.ok true:=rfl;have B7:fv (.tup []) (.tup [])=.ok true:=rfl;have jP:∀n:Nat,n=hi ts\/n=7->Φ o9 [bP m ts,.int (n:Int)]=.ok (.tup []):=λn aB=>by
  obtain⟨G,a,b⟩:=DL m ts n aS aw;rw[Wf aS.cell aS.hi aB b]at a;exact a
 have B8:Φ o9 [bP m ts,.int 7]=.ok (.tup []):=jP 7 (.inr rfl);have s8:Φ o9 [bP m ts,.int (if (hi ts:Int)<7 then(hi ts:Int) else 7)]=.ok (.tup []):=by
  split
  .exact jP _ (.inl rfl)
  .exact B8
 simp only[Den.bc,Nat.reduceAdd,Co,bl.wm,dD,ai,av,bu,dU,jD,i6,B7,B8,s8,List.length_map,yp,jo (i:=0) (j:=(hi ts:Int)) (by omega) (by omega) (by omega) (by omega),p0];obtain⟨cp,e,a1,a2,a3,gy,oQ,he⟩:=g6 (f:=λk:Nat=>D.int (k:Int)) (g:=turn pg Φ 0 [4] (.cons (.asg 5 (.call cj (.cons (.var 1) (.cons (.var 4) (.nil))))) (.cons (.asg 6 (.call o9 (.cons (.var 1) (.cons (.var 4) (.nil))))) (.cons (.iff (.or (.not (.prim (.inst .tuple) (.var 6))) (.cmp .ne (.prim .len (.var 6)) (.idx (.var 2) (.var 4)))) (.cons (.ret (.lit (.aT false))) (.nil)) (.nil)) (.cons (.iff (.cmp .ne (.comp (.var 9) 0 (.seq (.var 6)) (.some (.or (.not (.call tj (.cons (.var 9) (.cons (.var 1) (.cons (.var 4) (.nil)))))) (.cmp .ne (.call tu (.cons (.var 9) (.nil))) (.tup (.nil)))))) (.lst (.nil))) (.cons (.ret (.lit (.aT false))) (.nil)) (.nil)) (.cons (.asg 7 (.call mD (.cons (.var 1) (.cons (.bin .add (.var 4) (.lit (.int 1))) (.nil))))) (.cons (.asg 8 (.comp (.call cm (.cons (.var 9) (.cons (.var 5) (.nil)))) 0 (.seq (.var 6)) (.none))) (.cons (.iff (.cmp .ne (.call fr (.cons (.bin .add (.var 7) (.var 8)) (.nil))) (.bin .add (.call fr (.cons (.var 7) (.nil))) (.prim .len (.var 8)))) (.cons (.ret (.lit (.aT false))) (.nil)) (.nil)) (.nil)))))))))
  (λa8 C=>∃a1 a2 a3 gy oQ:Option D,C=[some (.lst (is.map .int)),some (bP m ts),some (.tup (ab.map .int)),some (.tup (ab.map .int)),a1,a2,a3,gy,oQ])
  (List.range (hi ts)) [some (.lst (is.map .int)),some (bP m ts),some (.tup (ab.map .int)),some (.tup (ab.map .int)),none,none,none,none,none] ⟨none,none,none,none,none,rfl⟩ (λpre k post C aE ⟨a1,a2,a3,gy,oQ,cf⟩=>by
   subst cf;have N8:k<hi ts:=List.mem_range.mp (by rw[aE];simp);have J:=aj m ts k aS aw (by omega);obtain⟨G,aa,cP⟩:=DL m ts k aS aw;have cI:=jB ts (k+1);have Nv:=ke aS.hi aS.cell (k+1);have Xu:=ke aS.hi aS.cell (k+2);have Xt:G.length<=255:=(by have:=cP.len;omega);have aI:gM (.tup (ab.map .int)) (.int (k:Int))=.ok (.int (G.length:Int)):=by
    rw[<- cP.ek];exact t5 (rt k N8)
   have aX:=ay m ts (k+1) aS aw (by omega);have aX:Φ mD [bP m ts,.int ((k:Int)+1)]=.ok (eZ (cR ts (k+2))):=aX;have hz:((G.length:Int)==(G.length:Int))=true:=beq_self_eq_true _;have dk:cZ (elem pg Φ [some (.lst (is.map .int)),some (bP m ts),some (.tup (ab.map .int)),some (.tup (ab.map .int)),some (.int (k:Int)),some (.lst ((cl ts (k+1)).map aC)),some (.tup (G.map (ey (cl ts (k+1))))),gy,oQ] (.var 9) 0 (.some (.or (.not (.call tj (.cons (.var 9) (.cons (.var 1) (.cons (.var 4) (.nil)))))) (.cmp .ne (.call tu (.cons (.var 9) (.nil))) (.tup (.nil)))))) (G.map (ey (cl ts (k+1))))=.ok []:=(i4 (q:=λ_=>false) (h:=ey (cl ts (k+1))) λb fz=>by
    simp only[Den.bc,Nat.reduceAdd,ja m ts k b aS aw (by omega),OK m ts k b aS (cP.zw b fz).1 (cP.zw b fz).2,B7]).trans (by rw[q8])
   have bA:cZ (elem pg Φ [some (.lst (is.map .int)),some (bP m ts),some (.tup (ab.map .int)),some (.tup (ab.map .int)),some (.int (k:Int)),some (.lst ((cl ts (k+1)).map aC)),some (.tup (G.map (ey (cl ts (k+1))))),some (eZ (cR ts (k+2))),oQ] (.call cm (.cons (.var 9) (.cons (.var 5) (.nil)))) 0 .none) (G.map (ey (cl ts (k+1))))=.ok (G.map λb:Nat=>D.int (b:Int)):=gC λb fz=>by
    simp only[Den.bc,Nat.reduceAdd,ae _ b cI Nv (cP.zw b fz).1]
   have cc:d3 .add (eZ (cR ts (k+2))) (eZ G)=.ok (eZ (cR ts (k+2)++G)):=by
    unfold eZ;rw[k0,if_pos,List.map_append];rw[List.length_map,List.length_map,lT,g4];omega
   have fk:=a7 (cR ts (k+2)++G) (by rw[Yj,lT];omega);have g8:=a7 (cR ts (k+2)) (by rw[lT];omega);rw[cP.ind]at fk;have rA:((((fC (cR ts (k+2))).length+G.length:Nat):Int)==((fC (cR ts (k+2))).length:Int)+(G.length:Int))=true:=Y3.mpr (by omega);have a4:D.lst (G.map λb:Nat=>D.int (b:Int))=eZ G:=rfl;have rl:kz (eZ G)=.ok (.int (G.length:Int)):=(by rw[Ek,List.length_map]);refine⟨_,by simp only[Den.bc,Nat.reduceAdd,J,aa,List.length_map,aI,hz,dk,i6,aX,bA,a4,cc,fk,g8,rl,rA];rfl,_,_,_,_,_,rfl⟩)
 rw[e,he];simp only[Den.bc,Nat.reduceAdd]
end d9
end
section
namespace AI
open Den bC eE d9 gf gx
def el{f:Nat}{fd:gu}(h:fds[f]?=some fd)(n:Nat)(ds:List D):run pg fds (n+1) f ds=dt pg (run pg fds n) fd ds:=by rw[sf,h]
noncomputable abbrev c4(n:Nat):dC:=run pg fds n
def V3(n:Nat)(c:List Int)(h:c.length<=1000):c4 (n+1) 0 [aC c]=.ok (.lst ((dy c).map aC)):=(el (f:=0) rfl n _).trans (UI c h)
def V7(n:Nat)(c:List Int)(h:c.length<=8):c4 (n+1) 1 [aC c]=.ok (.lst ((eM c).map aC)):=(el (f:=1) rfl n _).trans (WY c h)
def Aa{m:Int}{ts:List (List Int)}(aS:Net m ts):∀t∈ts,t.length<=8:=λt aW=>by have:=mj (aS.cell t aW);have:=aS.hi;omega
def VN(n:Nat)(m:Int)(ts:List (List Int))(aS:Net m ts)(aw:ts.length<=70):c4 (n+2) 2 [bP m ts]=.ok (.lst ((il ts).map aC)):=(el (f:=2) rfl _ _).trans (L0 (V7 n) (Aa aS) (by omega) (Cr aS.hi aS.cell))
def VL(n:Nat)(m:Int)(ts:List (List Int))(aS:Net m ts)(aw:ts.length<=70)(k:Nat):c4 (n+3) 3 [bP m ts,.int ((k:Int)-1)]=.ok (.tup ((cl ts k).map aC)):=(el (f:=3) rfl _ _).trans (JW k (VN n m ts aS aw))
def Hp(n:Nat)(m:Int)(ts:List (List Int))(aS:Net m ts)(aw:ts.length<=70)(k:Nat):c4 (n+4) 4 [bP m ts,.int ((k:Int)-1)]=.ok (.bK (mk (cl ts k))):=(el (f:=4) rfl _ _).trans (Qz k (VL n m ts aS aw k) (ke aS.hi aS.cell k))
def VJ(n:Nat)(U xs:List (List Int))(cI:U.Nodup)(ag:xs.Nodup)(h:∀x∈xs,x∈U):c4 (n+1) 5 [.lst (xs.map aC),.bK (mk U)]=.ok (.int (dA U xs:Int)):=(el (f:=5) rfl _ _).trans (Ji cI ag h)
def VK(n:Nat)(U:List (List Int))(b:Nat)(cI:U.Nodup):c4 (n+1) 6 [.int (b:Int),.bK (mk U)]=.ok (ey U b):=(el (f:=6) rfl _ _).trans (JH cI b)
def V2(n:Nat)(m:Int)(ts:List (List Int))(aS:Net m ts)(aw:ts.length<=70)(k:Nat):c4 (n+5) 7 [bP m ts,.int (k:Int)]=.ok (.lst ((d1 (cR ts (k+1))).map cq)):=(el (f:=7) rfl _ _).trans (Ta k aS.cell aS.hi (Hp n m ts aS aw) (V3 (n+3)) (VJ (n+3)))
def V5(n:Nat)(r q:Row):c4 (n+1) 8 [cq r,cq q]=.ok (cq (r.1 ^^^ q.1,r.2 ^^^ q.2)):=(el (f:=8) rfl _ _).trans (Vg r q)
def z5(n:Nat)(B:cD)(r:Row)(h:(B.map (·.1)).Nodup):c4 (n+2) 9 [cq r,.bD (dv B)]=.ok (cq (red B r)):=(el (f:=9) rfl _ _).trans (S3 (V5 n) h r)
def VY(n k:Nat)(h:0<k):c4 (n+1) 10 [.int (k:Int)]=.ok (.int ((2 ^ lo k:Nat):Int)):=(el (f:=10) rfl _ _).trans (Qr k h)
def z3(n:Nat)(B:cD)(r:Row)(h:dd B)(hG:B.length<900):c4 (n+3) 11 [.bD (dv B),cq r]=.ok (.bD (dv (grow B r))):=(el (f:=11) rfl _ _).trans (Nh (z5 n) (VY (n+1)) h hG r)
def VI(n:Nat)(rs:List Row)(h:rs.length<=255):c4 (n+4) 12 [.lst (rs.map cq)]=.ok (.bD (dv (c9 [] rs))):=(el (f:=12) rfl _ _).trans (I8 (z3 n) h)
def VQ(n:Nat)(rs:List Row)(h:rs.length<=255):c4 (n+4) 13 [.lst (rs.map cq)]=.ok (.lst ((eC rs).2.map λb:Nat=>D.int (b:Int))):=(el (f:=13) rfl _ _).trans (O8 (z3 n) (z5 (n+1)) h)
def z6(n:Nat)(m:Int)(ts:List (List Int))(k:Nat)(aS:Net m ts)(aw:ts.length<=70):∃G:List Nat,c4 (n+6) 14 [bP m ts,.int (k:Int)]=.ok (.tup (G.map (ey (cl ts (k+1)))))/\Told ts k G:=by
 have hm:c4 (n+5) 4 [bP m ts,.int (k:Int)]=.ok (.bK (mk (cl ts (k+1)))):=by
  have:=Hp (n+1) m ts aS aw (k+1);rwa[show(((k+1:Nat):Int)-1)=(k:Int) by omega]at this
 obtain⟨ds,a,b⟩:=Te (pg:=pg) (Φ:=c4 (n+5)) k aS.cell aS.hi (VQ (n+1)) (V2 n m ts aS aw) (z5 (n+3)) (z3 (n+2)) (VK (n+4)) hm (VI (n+1));exact⟨ds,(el (f:=14) rfl _ _).trans a,b⟩
def VP(n:Nat)(m:Int)(ts:List (List Int))(aS:Net m ts)(aw:ts.length<=70):c4 (n+7) 15 [bP m ts]=.ok (.tup ((List.range (hi ts)).map λk=>D.int (ek ts k:Int))):=(el (f:=15) rfl _ _).trans (Oy (E9 aS) (y4 aS) λk=>z6 n m ts k aS aw)
def VH(n:Nat)(is:List Int)(k:Nat):c4 (n+1) 16 [.lst (is.map .int),.int (k:Int)]=.ok (.int (is.getD k 0)):=(el (f:=16) rfl _ _).trans (JE is k)
def VZ(n:Nat)(is:List Int)(k:Nat):∃r:Int,0<=r/\r<nk/\c4 (n+2) 17 [.lst (is.map .int),.int (k:Int)]=.ok (.int r):=by
 obtain⟨r,a,b,e⟩:=QO (pg:=pg) (VH n is) k;exact⟨r,a,b,(el (f:=17) rfl _ _).trans e⟩
def VM(n:Nat)(i k:Int):∃r:Int,0<=r/\r<nk/\c4 (n+1) 18 [.int i,.int k]=.ok (.int r):=by
 obtain⟨r,a,b,e⟩:=K7 (pg:=pg) (Φ:=c4 n) i k;exact⟨r,a,b,(el (f:=18) rfl _ _).trans e⟩
def VW(n:Nat)(c o:List Int):c4 (n+1) 19 [aC c,aC o]=.ok (.aT (lies c o)):=(el (f:=19) rfl n _).trans (P8 c o)
def V6(n:Nat)(ts:List (List Int))(aB:∀c∈ts,c≠[])(h:(d6 ts).length<=255):c4 (n+2) 20 [.lst (ts.map aC)]=.ok (.tup ((n9 ts).map aC)):=(el (f:=20) rfl _ _).trans (Qb (VW n) rfl aB h)
def z4(n s:Nat)(c:List Int)(ab:s<=9)(aj:c.length<=8):c4 (n+10) 21 [aC c,.int (s:Int)]=.ok (.lst ((cO s c).map aC)):=FA (fds:=fds) (f:=21) rfl s (n+10) c (by omega) aj
def V4(n:Nat)(i m:Int)(J:1<=m)(dV:m<=8):∃cs:List (List Int),c4 (n+2) 22 [.int i,.int m]=.ok (.lst (cs.map aC))/\(∀c∈cs,IsCell m c)/\gD m cs=true/\cs.length<=16:=by
 obtain⟨cs,e,r⟩:=UU (pg:=pg) (VM n) i m J dV;exact⟨cs,(el (f:=22) rfl _ _).trans e,r⟩
def VX(n:Nat)(i:Int)(h0:0<=i):∃m ts,c4 (n+11) 23 [.int i,.int 8]=.ok (bP m ts)/\Net m ts/\ts.length<=70:=by
 obtain⟨m,ts,e,r⟩:=Q3 (pg:=pg) (Φ:=c4 (n+10)) (V6 (n+8)) (λs c ab=>z4 n s c (by omega)) (V4 (n+8)) i h0;exact⟨m,ts,(el (f:=23) rfl _ _).trans e,r⟩
def va(n:Nat)(m:Int)(ts:List (List Int))(h:Nat)(aS:Net m ts)(aw:ts.length<=70)(g8:h<=8):c4 (n+11) 24 [bP m ts,.int (h:Int)]=.ok (.lst ((cl ts (h+1)).map aC)):=by
 rw[<- BD];exact(el (f:=24) rfl _ _).trans (P6 (λc aj=>z4 n (h+1) c (by omega) aj) (Aa aS) (by omega) (by rw[BD];exact ke aS.hi aS.cell _))
def VO(n:Nat)(m:Int)(ts:List (List Int))(aS:Net m ts):c4 (n+1) 25 [bP m ts]=.ok (.int (hi ts:Int)):=(el (f:=25) rfl _ _).trans (N2 (E9 aS))
def V0(n:Nat)(x lo hi:Int)(J:lo<=x)(aa:x<=hi):c4 (n+1) 26 [.int x,.int lo,.int hi]=.ok (.aT true):=(el (f:=26) rfl _ _).trans (Rc J aa)
def VR(n:Nat)(m:Int)(dV:m<=8)(c:List Int)(h:IsCell m c):c4 (n+2) 27 [aC c,.int m]=.ok (.aT true):=(el (f:=27) rfl _ _).trans (Pp (V0 n) h (by have:=mj h;omega))
def VS(n:Nat)(m:Int)(ts:List (List Int))(h b:Nat)(aS:Net m ts)(aw:ts.length<=70)(g8:h<=8):c4 (n+12) 28 [ey (cl ts (h+1)) b,bP m ts,.int (h:Int)]=.ok (.aT true):=(el (f:=28) rfl _ _).trans (Pq aS.cell (VR (n+9) m aS.hi) (va n m ts h aS aw g8) b)
def V1(n:Nat)(m:Int)(ts:List (List Int))(k b:Nat)(aS:Net m ts)(ae:b<2 ^ (cl ts (k+1)).length)(h0:bd (cR ts (k+1)) b=0):c4 (n+1) 29 [ey (cl ts (k+1)) b]=.ok (.tup []) :=
 (el (f:=29) rfl _ _).trans (Qa (U:=cl ts k) (λc aj=>by
  have aj:=(YR.mp aj).1;refine⟨nF aS.cell aj,?_⟩;obtain⟨_,_,t,J,aa⟩:=iL.mp aj;have:=aa.length_le;have:=Aa aS t J;omega) (λc aj e he=>nG aS.cell (YR.mp aj).1 he) (ke aS.hi aS.cell _) (S8 aS.cell ae h0))
def Ho(n:Nat)(m:Int)(ts:List (List Int))(k:Nat)(aS:Net m ts)(aw:ts.length<=70)(au:k<=8):c4 (n+12) 30 [bP m ts,.int (k:Int)]=.ok (eZ (cR ts (k+1))):=(el (f:=30) rfl _ _).trans (J0 au aS.cell aS.hi (λc aj=>z4 (n+1) k c (by omega) aj) λj aA=>va n m ts j aS aw aA)
def Hq(n:Nat)(xs:List Nat)(h:xs.length<=1000):c4 (n+1) 31 [eZ xs]=.ok (.int ((fC xs).length:Int)):=(el (f:=31) rfl _ _).trans (S0 h)
def VV(n:Nat)(m:Int)(ts:List (List Int))(aS:Net m ts)(aw:ts.length<=70):c4 (n+13) 32 [bP m ts]=.ok (.tup ((List.range (hi ts)).map λk=>D.int (ek ts k:Int))):=(el (f:=32) rfl _ _).trans (P7 aS.cell aS.hi (y4 aS) (λj aA=>va (n+1) m ts j aS aw aA) (Hq (n+11)) (λj aA=>Ho n m ts j aS aw aA) (VO (n+11) m ts aS) λk=>by
 obtain⟨G,_,b⟩:=z6 0 m ts k aS aw;rw[b.ek];exact b.len)
def VU(n:Nat)(U:List (List Int))(b:Nat)(cI:U.Nodup)(aw:U.length<=255)(ae:b<2 ^ U.length):c4 (n+1) 33 [ey U b,.lst (U.map aC)]=.ok (.int (b:Int)):=(el (f:=33) rfl _ _).trans (P4 cI aw ae)
def VT(is:List Int):run pg fds 21 34 [.lst (is.map .int)]=.ok (.aT true) :=
 (el (f:=34) rfl _ _).trans (P1 (VZ 18 is) (VX 9) (VV 7) (VP 13) (z6 14) (va 9) (VS 8) (V1 19) (Ho 8) (VU 19) (Hq 19))
end AI
end
section
namespace bR
open PySem PySem.Spec PyProof.Rows bJ
noncomputable abbrev D:=Den.D
noncomputable abbrev a0:=Den.a0
noncomputable abbrev bw:=Den.R
noncomputable abbrev b3:=List (Option V)
noncomputable def cL{α:Type}(r:bw α)(Q:α->Prop)(E:Nat->Prop):Prop:=match r with
 |.ok a=>Q a
 |.exc c=>E c
 |.bad=>False
def bt{α β:Type}{r:bw α}{f:α->bw β}{Q:β->Prop}{E:Nat->Prop}:cL (r>>=f) Q E<->cL r (λa=>cL (f a) Q E) E:=by
 cases r<;>exact Iff.rfl
def bX{α:Type}{r:bw α}{Q iD:α->Prop}{E sG:Nat->Prop}(h:cL r Q E)(aJ:∀a,Q a->iD a)(he:∀c,E c->sG c):cL r iD sG:=by
 cases r with
 |ok a=>exact aJ a h
 |exc c=>exact he c h
 |bad=>exact h
noncomputable def gj(ak:List (List Int×Int)):List (List Key×V):=ak.map λp=>(p.1.map Sum.inl,V.int p.2)
noncomputable def eK(G:az):List (Int×Int×Int)->List (Key×V)->Prop
 |[],ys=>ys=[]
 |p::a8,ys=>∃b r,ys=(Sum.inl p.1,.ref b)::r/\G b=some (.tup [.int p.2.1,.int p.2.2])/\eK G a8 r
theorem eK.mono{G aN:az}(s:bV G aN):∀{a8:List (Int×Int×Int)}{ys:List (Key×V)},eK G a8 ys->eK aN a8 ys
 |[],_,h=>h
 |p::a8,_,⟨b,r,e,J,aa⟩=>⟨b,r,e,s _ _ J,aa.mono s⟩
mutual
noncomputable def Rep (K:W.Frag) (G:az):D->V->Prop
 |.dr,v=>v=.dr
 |.aT b,v=>v=.aT b
 |.int i,v=>v=.int i
 |.str x,v=>v=.str x
 |.tup ds,v=>∃a xs,v=.ref a/\G a=some (.tup xs)/\bN K G ds xs
 |.lst ds,v=>∃a xs,v=.ref a/\eF K G a xs/\bN K G ds xs
 |.bK ak,v=>∃a bk,v=.ref a/\G a=some (.eg bk (.d5 (gj ak)))
 |.bD ak,v=>∃a bk ys,v=.ref a/\G a=some (.eg bk (.dN ys))/\eK G ak ys
 |.fw _,_=>False
noncomputable def bN (K:W.Frag) (G:az):List D->List V->Prop
 |[],xs=>xs=[]
 |d::ds,xs=>∃v r,xs=v::r/\Rep K G d v/\bN K G ds r
end
section
variable{K:W.Frag}{G aN H aq:az}
def G7(s:bV G aN){a:Addr}{xs:List V}(h:fR K G a xs):fR K aN a xs:=by
 rcases h with(h|⟨o,h⟩)|h
 .exact .inl (.inl (s _ _ h))
 .exact .inl (.inr ⟨o,s _ _ h⟩)
 .exact .inr h
def iS(s:bV G aN){a:Addr}{xs:List V}(h:G a=some (.tup xs)):fR K aN a xs:=.inl (.inl (s _ _ h))
def lU(s:bV G aN){a:Addr}{xs:List V}(h:eF K G a xs):eF K aN a xs:=by
 rcases h with(h|⟨o,h⟩)|h
 .exact .inl (.inl (s _ _ h))
 .exact .inl (.inr ⟨o,s _ _ h⟩)
 .exact .inr h
def F8(s:bV G aN){a:Addr}{u:dJ}(h:g0 G a u):g0 aN a u:=by
 rcases h with h|⟨o,h⟩
 .exact .inl (s _ _ h)
 .exact .inr ⟨o,s _ _ h⟩
mutual
theorem Rep.mono (s:bV G aN):∀{d:D}{v:V},Rep K G d v->Rep K aN d v
 |.dr,_,h=>h
 |.aT _,_,h=>h
 |.int _,_,h=>h
 |.str _,_,h=>h
 |.tup ds,_,⟨a,xs,e,h,r⟩=>⟨a,xs,e,s _ _ h,bN.mono s r⟩
 |.lst ds,_,⟨a,xs,e,h,r⟩=>⟨a,xs,e,lU s h,bN.mono s r⟩
 |.bK _,_,⟨a,bk,e,h⟩=>⟨a,bk,e,s _ _ h⟩
 |.bD _,_,⟨a,bk,ys,e,h,r⟩=>⟨a,bk,ys,e,s _ _ h,r.mono s⟩
 |.fw _,_,h=>h
theorem bN.mono (s:bV G aN):∀{ds:List D}{xs:List V},bN K G ds xs->bN K aN ds xs
 |[],_,h=>h
 |d::ds,_,⟨v,r,e,J,aa⟩=>⟨v,r,e,Rep.mono s J,bN.mono s aa⟩
end
theorem bN.length:∀{ds:List D}{xs:List V},bN K G ds xs->ds.length=xs.length
 |[],_,h=>by cases h;rfl
 |d::ds,_,⟨v,r,e,J,aa⟩=>by subst e;simp[bN.length aa]
theorem bN.append:∀{ds ah:List D}{xs ys:List V},bN K G ds xs->bN K G ah ys->bN K G (ds++ah) (xs++ys)
 |[],_,_,_,h,q=>by cases h;exact q
 |d::ds,_,_,_,⟨v,r,e,J,aa⟩,q=>by subst e;exact⟨v,r++_,rfl,J,bN.append aa q⟩
theorem bN.get:∀{ds:List D}{xs:List V}{i:Nat}{d:D},bN K G ds xs->ds[i]?=some d->∃v,xs[i]?=some v/\Rep K G d v
 |[],_,_,_,h,e=>by simp at e
 |d::ds,_,0,_,⟨v,r,e,J,aa⟩,q=>by subst e;simp at q;subst q;exact⟨v,rfl,J⟩
 |d::ds,_,i+1,_,⟨v,r,e,J,aa⟩,q=>by subst e;simpa using bN.get aa (by simpa using q)
theorem bN.drop:∀{ds:List D}{xs:List V}(n:Nat),bN K G ds xs->bN K G (ds.drop n) (xs.drop n)
 |_,_,0,h=>by simpa using h
 |[],_,n+1,h=>by cases h;simp[bN]
 |d::ds,_,n+1,⟨v,r,e,J,aa⟩=>by subst e;simpa using bN.drop n aa
theorem bN.take:∀{ds:List D}{xs:List V}(n:Nat),bN K G ds xs->bN K G (ds.take n) (xs.take n)
 |_,_,0,h=>by simp[bN]
 |[],_,n+1,h=>by cases h;simp[bN]
 |d::ds,_,n+1,⟨v,r,e,J,aa⟩=>by subst e;exact⟨v,r.take n,by simp,J,bN.take n aa⟩
def bN.snoc{ds:List D}{xs:List V}{d:D}{v:V}(h:bN K G ds xs)(q:Rep K G d v):bN K G (ds++[d]) (xs++[v]):=h.append ⟨v,[],rfl,q,rfl⟩
noncomputable def View(K:W.Frag)(G H:az):D->V->Prop
 |.bK ak,v=>∃a,v=.ref a/\g0 H a (.d5 (gj ak))
 |.bD ak,v=>∃a ys,v=.ref a/\g0 H a (.dN ys)/\eK G ak ys
 |.lst ds,v=>∃a xs,v=.ref a/\eF K H a xs/\bN K G ds xs
 |d,v=>Rep K G d v
def Rep.view(s:bV G H):∀{d:D}{v:V},Rep K G d v->View K G H d v
 |.lst ds,_,⟨a,xs,e,h,r⟩=>⟨a,xs,e,lU s h,r⟩
 |.dr,_,h=>h
 |.aT _,_,h=>h
 |.int _,_,h=>h
 |.str _,_,h=>h
 |.tup _,_,h=>h
 |.bK _,_,⟨a,bk,e,h⟩=>⟨a,e,.inr ⟨bk,s _ _ h⟩⟩
 |.bD _,_,⟨a,bk,ys,e,h,r⟩=>⟨a,ys,e,.inr ⟨bk,s _ _ h⟩,r⟩
 |.fw _,_,h=>h
structure Ext(G H aN aq:az):Prop where
 g:bV G aN
 h:bV H aq
 sub:bV aN aq
 new:∀a,G a=none->H a≠none->aN a=none
 ed:∀b xs,aq b=some (.tup xs)->H b=some (.tup xs)\/aN b=some (.tup xs)
theorem Ext.refl(s:bV G H):Ext G H G H:=⟨bV.refl G,bV.refl H,s,λ_ h _=>h,λ_ _ h=>.inl h⟩
theorem Ext.trans{aL H1:az}(x:Ext G H aL H1)(y:Ext aL H1 aN aq):Ext G H aN aq :=
 ⟨x.g.trans y.g,x.h.trans y.h,y.sub,λa J aa=>y.new a (x.new a J aa) (λz=>by
  cases q:H a with
  |none=>exact aa q
  |some o=>rw[x.h a o q]at z;cases z),λb xs z=>(y.ed b xs z).elim (λz=>(x.ed b xs z).imp id λz=>y.g _ _ z) .inr⟩
def gp{H:az}{a:Addr}{o:dJ}(h:H a=none):bV H (upd H a o):=λb u e=>by rw[dm (mS e h)];exact e
def View.ext{H1 aL:az}(x:Ext G H aL H1):∀{d:D}{v:V},View K G H d v->View K aL H1 d v
 |.lst ds,_,⟨a,xs,e,h,r⟩=>⟨a,xs,e,lU x.h h,r.mono x.g⟩
 |.dr,_,h=>h
 |.aT _,_,h=>h
 |.int _,_,h=>h
 |.str _,_,h=>h
 |.tup _,_,h=>Rep.mono (K:=K) x.g h
 |.bK _,_,⟨a,e,h⟩=>⟨a,e,F8 x.h h⟩
 |.bD _,_,⟨a,ys,e,h,r⟩=>⟨a,ys,e,F8 x.h h,r.mono x.g⟩
 |.fw _,_,h=>h
def Ext.own(s:bV G H){a:Addr}{o:dJ}(h:H a=none)(ay:∀xs,o≠.tup xs):Ext G H G (upd H a o):=⟨bV.refl G,gp h,s.trans (gp h),λ_ J _=>J,λb xs e=>by
 by_cases q:b=a
 .subst q;rw[dS]at e;cases e;exact absurd rfl (ay xs)
 .rw[dm q]at e;exact .inl e⟩
def Ext.put(s:bV G H){a:Addr}{o:dJ}(h:H a=none):Ext G H (upd G a o) (upd H a o):=by
 have mE:G a=none:=s.free h;refine⟨gp mE,gp h,λb u e=>?_,λb J aa=>?_,λb xs e=>?_⟩
 .by_cases q:b=a
  .subst q;rw[dS]at e ⊢;exact e
  .rw[dm q]at e ⊢;exact s b u e
 .rw[dm (λq=>aa (by rw[q];exact h))];exact J
 .by_cases q:b=a
  .subst q;rw[dS]at e ⊢;exact .inr e
  .rw[dm q]at e;exact .inl e
end
inductive er where
 |view|val|fresh
noncomputable def cE(K:W.Frag)(H aN aq:az):er->D->V->Prop
 |.view,d,v=>View K aN aq d v
 |.val,d,v=>Rep K aN d v
 |.fresh,.lst ds,v=>∃a xs,v=.ref a/\aq a=some (.lst xs)/\H a=none/\aN a=none/\bN K aN ds xs
 |.fresh,.bK _,_=>False
 |.fresh,.bD _,_=>False
 |.fresh,d,v=>Rep K aN d v
noncomputable def gN:D->Bool
 |.lst _=>true
 |.bK _=>true
 |.bD _=>true
 |_=>false
noncomputable def jy(K:W.Frag)(G:az):D->dJ->Prop
 |.lst ds,o=>∃xs,o=.lst xs/\bN K G ds xs
 |.bK ak,o=>o=.d5 (gj ak)
 |.bD ak,o=>∃ys,o=.dN ys/\eK G ak ys
 |_,_=>False
theorem jy.mono{K:W.Frag}{G aN:az}(s:bV G aN):∀{d:D}{o:dJ},jy K G d o->jy K aN d o
 |.lst _,_,⟨xs,e,r⟩=>⟨xs,e,r.mono s⟩
 |.bK _,_,h=>h
 |.bD _,_,⟨ys,e,r⟩=>⟨ys,e,r.mono s⟩
 |.dr,_,h=>h
 |.aT _,_,h=>h
 |.int _,_,h=>h
 |.str _,_,h=>h
 |.tup _,_,h=>h
 |.fw _,_,h=>h
structure ew(K:W.Frag)(ao:List Nat)(G H:az)(C:a0)(σ:b3):Prop where
 len:C.length=σ.length
 sub:bV G H
 val:∀(i:Nat)(d:D),C[i]?=some (some d)->i∉ao->∃v,σ[i]?=some (some v)/\Rep K G d v
 own:∀(i:Nat)(d:D),C[i]?=some (some d)->i∈ao->gN d=false->∃v,σ[i]?=some (some v)/\Rep K G d v
 lst:∀(i:Nat)(d:D),C[i]?=some (some d)->i∈ao->gN d=true->∃a o,σ[i]?=some (some (V.ref a))/\H a=some o/\G a=none/\jy K G d o
 ed:∀b xs,H b=some (.tup xs)->G b=some (.tup xs)
 apart:∀(i j:Nat)(d e:D)(a b:Addr),C[i]?=some (some d)->C[j]?=some (some e)->gN d=true->gN e=true->i∈ao->j∈ao->i≠j->σ[i]?=some (some (V.ref a))->σ[j]?=some (some (V.ref b))->a≠b
def ew.ext{K:W.Frag}{ao:List Nat}{G H aN aq:az}{C:a0}{σ:b3}(h:ew K ao G H C σ)(x:Ext G H aN aq):ew K ao aN aq C σ where
 len:=h.len
 sub:=x.sub
 val:=λi d e hm=>let ⟨v,a,b⟩:=h.val i d e hm;⟨v,a,b.mono x.g⟩
 own:=λi d e hm aw=>let ⟨v,a,b⟩:=h.own i d e hm aw;⟨v,a,b.mono x.g⟩
 lst:=λi d e hm aw=>let ⟨a,o,J,aa,aI,aX⟩:=h.lst i d e hm aw;⟨a,o,J,x.h _ _ aa,x.new a aI (by rw[aa];exact λz=>nomatch z),aX.mono x.g⟩
 ed:=λb xs z=>(x.ed b xs z).elim (λz=>x.g _ _ (h.ed b xs z)) id
 apart:=h.apart
theorem ew.view{K:W.Frag}{ao:List Nat}{G H:az}{C:a0}{σ:b3}(h:ew K ao G H C σ){i:Nat}{d:D}(e:C[i]?=some (some d)):∃v,σ[i]?=some (some v)/\View K G H d v:=by
 by_cases hm:i∈ao
 .cases hd:gN d with
  |false=>obtain⟨v,J,aa⟩:=h.own i _ e hm hd;exact⟨v,J,aa.view h.sub⟩
  |true =>
   obtain⟨a,o,J,aa,aI,aX⟩:=h.lst i d e hm hd;cases d with
   |lst ds=>obtain⟨xs,rfl,r⟩:=aX;exact⟨_,J,a,xs,rfl,.inl (.inl aa),r⟩
   |bK ak=>cases aX;exact⟨_,J,a,rfl,.inl aa⟩
   |bD ak=>obtain⟨ys,rfl,r⟩:=aX;exact⟨_,J,a,ys,rfl,.inl aa,r⟩
   |_=>cases hd
 .obtain⟨v,J,aa⟩:=h.val i d e hm;exact⟨v,J,aa.view h.sub⟩
noncomputable abbrev cw:=Nat->Value->List Addr->Heap->Prop
noncomputable def vM(X:aU)(pins:List (Addr×Obj))(H:az)(a:Addr):Prop :=
 H a=none/\(a∈X.ex\/X.fq.heap.get? a=none)/\a≠X.env.locals/\(∀x c,X.env.cells.lookup x=some c->c≠a)/\∀p∈X.fX++pins,p.1≠a
def vM.of{X:aU}{pins:List (Addr×Obj)}{σ:b3}{H aq:az}{s:Shared}{a:Addr}(I:Inv X pins σ H s)(h:s.heap.get? a=none)(h':aq a=none):vM X pins aq a:=by
 have no:∀{b:Addr}{o:Obj},s.heap.get? b=some o->b≠a:=λq z=>by rw[z,h]at q;cases q
 refine⟨h',?_,λz=>?_,λx c q=>?_,λp q=>no (I.pin p q).1⟩
 .by_cases ag:a∈X.ex
  .exact .inl ag
  .refine .inr ?_;cases q:X.fq.heap.get? a with
   |none=>rfl
   |some o=>obtain⟨bH,e⟩:=I.base.there a o q ag;rw[h]at e;cases e
 .obtain⟨m,⟨o,_,_,ay,_⟩,_⟩:=I.loc;exact no ay z.symm
 .obtain⟨v,o,ay,_⟩:=I.cell x c q;exact no ay
noncomputable def fI(xp:cw)(X:aU)(c:Nat)(H:az):Prop:=∀(pins:List (Addr×Obj))(σ:b3)(aq:az)(s':Shared)(e:Value)(l:List Addr),Inv X pins σ aq s'->bV H aq->(∀a∈l,vM X pins aq a)->xp c e l s'.heap->X.cA e s'
def fI.mono{xp:cw}{X:aU}{c:Nat}{H aq:az}(h:fI xp X c H)(s:bV H aq):fI xp X c aq:=λpins σ aY s' e l I q n x=>h pins σ aY s' e l I (s.trans q) n x
noncomputable def bp(xp:cw)(X:aU)(ao:List Nat)(m:er)(f:a0->bw D):TE:=λσ H Q =>
 ∃G C,ew X.K ao G H C σ/\cL (f C) (λd=>∀v aN aq,Ext G H aN aq->cE X.K H aN aq m d v->Q v aq) (λc=>fI xp X c H)
theorem cE.view{K:W.Frag}{H aN aq:az}(s:bV aN aq):∀{m:er}{d:D}{v:V},cE K H aN aq m d v->View K aN aq d v
 |.view,_,_,h=>h
 |.val,_,_,h=>Rep.view s h
 |.fresh,.lst ds,_,⟨a,xs,e,J,_,_,r⟩=>⟨a,xs,e,.inl (.inl J),r⟩
 |.fresh,.dr,_,h=>h
 |.fresh,.aT _,_,h=>h
 |.fresh,.int _,_,h=>h
 |.fresh,.str _,_,h=>h
 |.fresh,.tup _,_,h=>h
 |.fresh,.bK _,_,h=>h.elim
 |.fresh,.bD _,_,h=>h.elim
 |.fresh,.fw _,_,h=>h
theorem aO.val{xp:cw}{X:aU}{ao:List Nat}{e:Expr}{f:a0->bw D}(h:aO X e (bp xp X ao .fresh f)):aO X e (bp xp X ao .val f):=by
 intro pins s σ H Q I ⟨G,C,ab,hw⟩;refine h pins s σ H Q I ⟨G,C,ab,bX hw (λd k v aN aq x r=>?_) λ_ q=>q⟩;cases d with
 |lst ds =>
  obtain⟨a,xs,rfl,J,aa,aI,aX⟩:=r;refine k _ (upd aN a (.lst xs)) aq ⟨x.g.trans (gp aI),x.h,λb o q=>?_,λb aP a9=>?_,λb xs q=>(x.ed b xs q).imp id λz=>gp aI _ _ z⟩ ⟨a,xs,rfl,.inl (.inl dS),aX.mono (gp aI)⟩
  .by_cases ae:b=a
   .subst ae;rw[dS]at q;rw[J];exact q
   .rw[dm ae]at q;exact x.sub b o q
  .rw[dm (λz=>a9 (by rw[z];exact aa))];exact x.new b aP a9
 |bK _=>exact r.elim
 |bD _=>exact r.elim
 |_=>exact k v aN aq x r
theorem aO.view{xp:cw}{X:aU}{ao:List Nat}{m:er}{e:Expr}{f:a0->bw D}(h:aO X e (bp xp X ao m f)):aO X e (bp xp X ao .view f):=by
 intro pins s σ H Q I ⟨G,C,ab,hw⟩;exact h pins s σ H Q I ⟨G,C,ab,bX hw (λd k v aN aq x r=>k v aN aq x (r.view x.sub)) λ_ q=>q⟩
section
variable{xp:cw}{X:aU}{ao:List Nat}{pg:Den.dq}{Φ:Den.dC}
def GI{i:Nat}{x:Str}{p:Pos}(aS:X.N[i]?=some x)(aV:fT X.env.scope x)(J:(x==("__debug__":Str))=false)(aa:(x==("__classdict__":Str))=false):aO X (.Name x p) (bp xp X ao .view λC=>Den.ev pg Φ C (.var i)):=by
 intro pins s σ H Q I ⟨G,C,ab,hw⟩;dsimp only at hw;cases e:C[i]? with
 |none=>rw[Den.td,e]at hw;exact hw.elim
 |some o =>
  cases o with
  |none=>rw[Den.td,e]at hw;exact hw.elim
  |some d =>
   rw[Den.Cq i e]at hw;obtain⟨v,a,b⟩:=ab.view e;exact gn aS aV J aa pins s σ H Q I ⟨v,a,hw v G H (Ext.refl ab.sub) b⟩
def Up{i:Nat}{x:Str}{p:Pos}(hm:i∉ao)(aS:X.N[i]?=some x)(aV:fT X.env.scope x)(J:(x==("__debug__":Str))=false)(aa:(x==("__classdict__":Str))=false):aO X (.Name x p) (bp xp X ao .val λC=>Den.ev pg Φ C (.var i)):=by
 intro pins s σ H Q I ⟨G,C,ab,hw⟩;dsimp only at hw;cases e:C[i]? with
 |none=>rw[Den.td,e]at hw;exact hw.elim
 |some o =>
  cases o with
  |none=>rw[Den.td,e]at hw;exact hw.elim
  |some d =>
   rw[Den.Cq i e]at hw;obtain⟨v,a,b⟩:=ab.val i d e hm;exact gn aS aV J aa pins s σ H Q I ⟨v,a,hw v G H (Ext.refl ab.sub) b⟩
def GD{d:D}{c:Const}{j:Nat}{p:Pos}{m:er}(h:Den.litOk d c=true):aO X (.Constant c j p) (bp xp X ao m λC=>Den.ev pg Φ C (.lit d)):=by
 intro pins s σ H Q I ⟨G,C,ab,hw⟩;dsimp only at hw;rw[Den.Ck]at hw;have fin:∀v,cE X.K H G H m d v->Q v H:=λv r=>hw v G H (Ext.refl ab.sub) r
 cases d with
 |dr=>cases c<;>simp[Den.litOk]at h;exact RV pins s σ H Q I (fin _ (by cases m<;>rfl))
 |aT b =>
  cases c<;>simp[Den.litOk]at h;subst h;exact RI pins s σ H Q I (fin _ (by cases m<;>rfl))
 |int i =>
  cases c<;>simp[Den.litOk]at h;subst h;exact zf pins s σ H Q I (fin _ (by cases m<;>rfl))
 |str x =>
  cases c<;>simp[Den.litOk]at h;subst h;exact RZ pins s σ H Q I (fin _ (by cases m<;>rfl))
 |_=>cases c<;>simp[Den.litOk]at h
noncomputable def kI(K:W.Frag)(g:D->D->bw D):ft:=λx y H Q=>∃G bj cH,bV G H/\View K G H bj x/\View K G H cH y/\cL (g bj cH) (λd=>∀v aN aq,Ext G H aN aq->cE K H aN aq .fresh d v->Q v aq) (λ_=>False)
def cE.old{K:W.Frag}{H H1 aN aq:az}(s:bV H H1):∀{m:er}{d:D}{v:V},cE K H1 aN aq m d v->cE K H aN aq m d v
 |.view,_,_,h=>h
 |.val,_,_,h=>h
 |.fresh,.lst ds,_,⟨a,xs,e,J,aa,aI,r⟩=>⟨a,xs,e,J,s.free aa,aI,r⟩
 |.fresh,.dr,_,h=>h
 |.fresh,.aT _,_,h=>h
 |.fresh,.int _,_,h=>h
 |.fresh,.str _,_,h=>h
 |.fresh,.tup _,_,h=>h
 |.fresh,.bK _,_,h=>h
 |.fresh,.bD _,_,h=>h
 |.fresh,.fw _,_,h=>h
def Tw{bo cm:a0->bw D}{g:D->D->bw D}{a b:Expr}{op:Operator}{pos:Pos}(a4:∀x y c,g x y≠.exc c)(ay:dj X (binaryOp op) (kI X.K g))(ax:aO X a (bp xp X ao .view bo))(ae:aO X b (bp xp X ao .view cm)):
  aO X (.BinOp a op b pos) (bp xp X ao .fresh λC=>bo C>>=λx=>cm C>>=λy=>g x y):=by
 intro pins s σ H Q I ⟨G,C,ab,hw⟩;refine FF ay ax ae pins s σ H Q I ?_;refine⟨G,C,ab,bX (bt.mp hw) (λbj k v aL H1 aR aH=>?_) λ_ q=>q⟩;refine⟨aL,C,ab.ext aR,bX (bt.mp k) (λcH aQ v2 b5 aY bF a5=>?_) λ_ q=>q.mono aR.h⟩;refine⟨b5,bj,cH,bF.sub,View.ext bF aH,a5,?_⟩;cases q:g bj cH with
 |ok d =>
  rw[q]at aQ;exact λsv iY b6 hp dR=>aQ sv iY b6 ((aR.trans bF).trans hp) (dR.old (aR.h.trans bF.h))
 |exc c=>exact absurd q (a4 _ _ _)
 |bad=>rw[q]at aQ;exact aQ
def lj{K:W.Frag}{G H:az}{Q:de}{d:D}{v:V}(ab:bV G H)(k:∀v aN aq,Ext G H aN aq->cE K H aN aq .fresh d v->Q v aq)(r:cE K H G H .fresh d v):Q v H:=k v G H (Ext.refl ab) r
def KY:dj X (binaryOp .Sub) (kI X.K (Den.d3 .sub)):=by
 intro pins s σ H x y v u Q I bg bI ⟨G,bj,cH,ab,bQ,dF,hw⟩;cases bj<;>cases cH<;>first|exact hw.elim|skip
 exact Rw pins s σ H x y v u Q I bg bI ⟨_,_,bQ,dF,lj ab hw rfl⟩
def KU:dj X (binaryOp .Mod) (kI X.K (Den.d3 .mod)):=by
 intro pins s σ H x y v u Q I bg bI ⟨G,bj,cH,ab,bQ,dF,hw⟩;cases bj<;>cases cH<;>first|exact hw.elim|skip
 rename_i i j;rw[Den.mod_int]at hw
 by_cases h:0<j
 .rw[if_pos h]at hw;exact Rt pins s σ H x y v u Q I bg bI ⟨_,_,bQ,dF,h,lj ab hw rfl⟩
 .rw[if_neg h]at hw;exact hw.elim
def KQ:dj X (binaryOp .FloorDiv) (kI X.K (Den.d3 .fdiv)):=by
 intro pins s σ H x y v u Q I bg bI ⟨G,bj,cH,ab,bQ,dF,hw⟩;cases bj<;>cases cH<;>first|exact hw.elim|skip
 rename_i i j;rw[Den.CA]at hw
 by_cases h:0<j/\j<1073741824
 .rw[if_pos h]at hw;exact Rm pins s σ H x y v u Q I bg bI ⟨_,_,bQ,dF,h,lj ab hw rfl⟩
 .rw[if_neg h]at hw;exact hw.elim
end
mutual
noncomputable def toPy:D->PyData
 |.dr=>.none
 |.aT b=>.bool b
 |.int i=>.int i
 |.str x=>.str x
 |.tup xs=>.tuple (hk xs)
 |.lst xs=>.list (hk xs)
 |.bK _=>.dict []
 |.bD _=>.dict []
 |.fw _=>.dict []
noncomputable def hk:List D->List PyData
 |[]=>[]
 |d::ds=>toPy d::hk ds
end
mutual
theorem q5:∀a b:D,PyData.eqv (toPy a) (toPy b)=Den.hD a b
 |.dr,b=>by cases b<;>rfl
 |.aT _,b=>by cases b<;>rfl
 |.int _,b=>by cases b<;>rfl
 |.str _,b=>by cases b<;>rfl
 |.tup xs,b=>by
  cases b with
  |tup ys=>exact xq xs ys
  |_=>rfl
 |.lst xs,b=>by
  cases b with
  |lst ys=>exact xq xs ys
  |_=>rfl
 |.bK _,b=>by cases b<;>rfl
 |.bD _,b=>by cases b<;>rfl
 |.fw _,b=>by cases b<;>rfl
theorem xq:∀a b:List D,PyData.eqvAll (hk a) (hk b)=Den.la a b
 |[],[]=>rfl
 |[],_::_=>rfl
 |_::_,[]=>rfl
 |x::xs,y::ys=>by simp only[hk,PyData.eqvAll,Den.la,q5 x y,xq xs ys]
end
mutual
theorem p9:∀(n:Nat)(d:D),Den.dx n d=true->(toPy d).canLay0=true/\(toPy d).depth<=n
 |n,.dr,_=>⟨rfl,Yp _⟩
 |n,.aT _,_=>⟨rfl,Yp _⟩
 |n,.int _,_=>⟨rfl,Yp _⟩
 |0,.str x,h=>⟨h,Yp _⟩
 |n+1,.str x,h=>⟨h,Yp _⟩
 |0,.tup _,h=>by cases h
 |n+1,.tup xs,h=>by
  obtain⟨a,b⟩:=zJ n xs h;exact⟨a,by show PyData.depthAll (hk xs)+1<=n+1;omega⟩
 |0,.lst _,h=>by cases h
 |n+1,.lst xs,h=>by
  obtain⟨a,b⟩:=zJ n xs h;exact⟨a,by show PyData.depthAll (hk xs)+1<=n+1;omega⟩
 |0,.bK _,h=>by cases h
 |n+1,.bK _,h=>by cases h
 |0,.bD _,h=>by cases h
 |n+1,.bD _,h=>by cases h
 |0,.fw _,h=>by cases h
 |n+1,.fw _,h=>by cases h
theorem zJ:∀(n:Nat)(ds:List D),ds.all (Den.dx n)=true->PyData.canLayAll0 (hk ds)=true/\PyData.depthAll (hk ds)<=n
 |n,[],_=>⟨rfl,Yp _⟩
 |n,d::ds,h=>by
  simp only[List.all_cons,Yg]at h;obtain⟨a,b⟩:=p9 n d h.1;obtain⟨mg,ik⟩:=zJ n ds h.2;refine⟨by simp only[hk,PyData.canLayAll0,a,mg,Bool.and_self],?_⟩;show max (PyData.depth (toPy d)) (PyData.depthAll (hk ds))<=n;omega
end
def uV{d:D}(h:Den.dx 60 d=true):SeqAt.shaped (toPy d)=true:=by
 obtain⟨a,b⟩:=p9 60 d h;unfold SeqAt.shaped;rw[a,Bool.true_and];exact decide_eq_true (by omega)
section
variable{xp:cw}{X:aU}{ao:List Nat}{pg:Den.dq}{Φ:Den.dC}{pins:List (Addr×Obj)}{σ:b3}{G H:az}{s:Shared}
mutual
theorem Gd (I:Inv X pins σ H s) (ab:bV G H):∀(n:Nat){d:D}{v:V}{u:Value},Den.dx n d=true->Rep X.K G d v->RelV v u->∃as,Reads s.heap u (toPy d) as
 |_,.dr,_,_,_,h,r=>by cases h;cases r;exact⟨_,.none⟩
 |_,.aT b,_,_,_,h,r=>by cases h;cases r;exact⟨_,.bool b⟩
 |_,.int i,_,_,_,h,r=>by cases h;obtain⟨t,rfl⟩:=r;exact⟨_,.int i t⟩
 |_,.str x,_,_,_,h,r=>by cases h;obtain⟨t,rfl⟩:=r;exact⟨_,.str x t⟩
 |0,.tup ds,_,_,z,_,_=>by cases z
 |n+1,.tup ds,_,_,z,⟨a,xs,e,h,q⟩,r=>by
  subst e;cases r;obtain⟨its,cb,⟨o,ay,aj,cG,hd⟩,_⟩:=I.tuple (iS ab h);obtain⟨as,bZ⟩:=oo I ab n z q cb;exact⟨as,.tuple ay aj hd (by simpa using bZ)⟩
 |0,.lst ds,_,_,z,_,_=>by cases z
 |n+1,.lst ds,_,_,z,⟨a,xs,e,h,q⟩,r=>by
  subst e;cases r;obtain⟨its,cb,⟨o,cG,ay,aj,_,hd⟩,_⟩:=I.list (lU ab h);obtain⟨as,bZ⟩:=oo I ab n z q cb;exact⟨a::as,.list ay aj hd (by simpa using bZ)⟩
 |0,.bK _,_,_,z,_,_=>by cases z
 |n+1,.bK _,_,_,z,_,_=>by cases z
 |0,.bD _,_,_,z,_,_=>by cases z
 |n+1,.bD _,_,_,z,_,_=>by cases z
 |_,.fw _,_,_,_,h,_=>h.elim
theorem oo (I:Inv X pins σ H s) (ab:bV G H):∀(n:Nat){ds:List D}{xs:List V}{us:List Value},ds.all (Den.dx n)=true->bN X.K G ds xs->Vals xs us->∃as,ReadsAll s.heap us (hk ds) as
 |_,[],_,_,_,h,r=>by cases h;cases r;exact⟨_,.nil⟩
 |n,d::ds,_,_,z,⟨v,t,e,J,aa⟩,r=>by
  subst e;simp only[List.all_cons,Yg]at z;cases r with
  |cons aH a5 =>
   obtain⟨as,bZ⟩:=Gd I ab n z.1 J aH;obtain⟨bs,c3⟩:=oo I ab n z.2 aa a5;exact⟨as++bs,.cons bZ c3⟩
end
def om(I:Inv X pins σ H s)(ab:bV G H){d:D}{v:V}{u:Value}(h:View X.K G H d v)(r:RelV v u)(ly:Den.dx 60 d=true):∃as,Reads s.heap u (toPy d) as:=by
 cases d with
 |bK ak=>cases ly
 |bD ak=>cases ly
 |lst ds =>
  obtain⟨a,xs,rfl,h,q⟩:=h;cases r;obtain⟨its,cb,⟨o,n,ay,aj,_,hd⟩,_⟩:=I.list h;obtain⟨as,bZ⟩:=oo I ab 59 ly q cb;exact⟨a::as,.list ay aj hd (by simpa using bZ)⟩
 |_=>exact Gd I ab 60 ly h r
noncomputable def gT(K:W.Frag)(g:D->D->bw Bool):ft:=λx y H Q=>∃G bj cH,bV G H/\View K G H bj x/\View K G H cH y/\cL (g bj cH) (λb=>Q (.aT b) H) (λ_=>False)
def HY{r:bw Bool}{Q:Bool->Prop}{E:Nat->Prop}:cL (Den.ix r) Q E<->cL r (λb=>Q (!b)) E:=by cases r<;>exact Iff.rfl
def HW{x y:D}{Q:Bool->Prop}{E:Nat->Prop}(h:cL (Den.fv x y) Q E):Den.dx 60 x=true/\Den.dx 60 y=true/\Q (Den.hD x y):=by
 unfold Den.fv at h;cases q:(Den.dx 60 x&&Den.dx 60 y) with
 |false=>rw[q]at h;exact h.elim
 |true =>
  rw[q]at h;simp only[Yg]at q;exact⟨q.1,q.2,h⟩
def Jt(bz:X.A.units+64<cLine):dj X (compareOp .Eq) (gT X.K (Den.dM .eq)):=by
 intro pins s σ H x y v u Q I bg bI ⟨G,bj,cH,ab,bQ,dF,hw⟩;rw[Den.BH]at hw;obtain⟨J,aa,q⟩:=HW hw;obtain⟨as,bZ⟩:=om I ab bQ bg J;obtain⟨bs,c3⟩:=om I ab dF bI aa;refine eq_dataH bZ c3 (uV J) (uV aa) bz ?_;rw[q5];exact⟨.aT _,H,I,rfl,q⟩
def Jz(bz:X.A.units+64<cLine):dj X (compareOp .NotEq) (gT X.K (Den.dM .ne)):=by
 intro pins s σ H x y v u Q I bg bI ⟨G,bj,cH,ab,bQ,dF,hw⟩;rw[Den.BJ]at hw;obtain⟨J,aa,q⟩:=HW (HY.mp hw);obtain⟨as,bZ⟩:=om I ab bQ bg J;obtain⟨bs,c3⟩:=om I ab dF bI aa;refine ne_dataH bZ c3 (uV J) (uV aa) bz ?_;rw[q5];exact⟨.aT _,H,I,rfl,q⟩
end
section
variable{xp:cw}{X:aU}{ao:List Nat}{pg:Den.dq}{Φ:Den.dC}{pins:List (Addr×Obj)}{σ:b3}{G H:az}{s:Shared}
open Classical in
noncomputable def ki (h:Heap) (bj:D) (y:Value):Bool:=decide (∃(d:D)(as:List Addr),Reads h y (toPy d) as/\Den.dx 60 d=true/\Den.hD d bj=true)
open Classical in
theorem xm {h:Heap} {bj d:D} {y:Value} {as:List Addr} (r:Reads h y (toPy d) as) (hd:Den.dx 60 d=true):ki h bj y=Den.hD d bj:=by
 unfold ki;cases q:Den.hD d bj with
 |true=>exact decide_eq_true ⟨d,as,r,hd,q⟩
 |false =>
  refine decide_eq_false ?_;rintro⟨d',Xg,bW,fA,c2⟩;have e:=SeqAt.Reads.unique _ _ _ _ _ (p9 60 d hd).1 r bW;rw[<- q5]at q c2;rw[e,c2]at q;cases q
theorem v5{h:Heap}{bj:D}:∀{ds:List D}{us:List Value}{as:List Addr},ReadsAll h us (hk ds) as->ds.all (Den.dx 60)=true->us.any (ki h bj)=ds.any λd=>Den.hD d bj
 |[],_,_,r,_=>by cases r;rfl
 |d::ds,_,_,r,hd=>by
  cases r with
  |cons aH a5 =>
   simp only[List.all_cons,Yg]at hd;simp only[List.any_cons,xm aH hd.1,v5 a5 hd.2]
theorem tb(bz:X.A.units+64<cLine){bj:D}{v:Value}{bs:List Addr}(bg:Reads s.heap v (toPy bj) bs)(ag:Den.dx 60 bj=true):∀{ds:List D}{us:List Value}{as:List Addr},ReadsAll s.heap us (hk ds) as->ds.all (Den.dx 60)=true->∀y,y∈us->SeqAt.EqAt X.A.in1 s y v (ki s.heap bj y)
 |[],_,_,r,_,y,aD=>by cases r;simp at aD
 |d::ds,_,_,r,hd,y,aD=>by
  cases r with
  |cons aH a5 =>
   simp only[List.all_cons,Yg]at hd;rcases Yk.mp aD with rfl|aD
   .rw[xm aH hd.1,<- q5];refine SeqAt.eqAt_reads _ _ _ _ _ _ _ _ aH bg (p9 60 _ hd.1).1 (p9 60 _ ag).1 ?_;have J:=(p9 60 _ hd.1).2;show X.A.units+1+_<cLine;have:min (toPy d).depth (toPy bj).depth<=60:=Zk (Nat.min_le_left _ _) J;omega
   .exact tb bz bg ag a5 hd.2 y aD
def HX{x:D}{ys:List D}{Q:Bool->Prop}{E:Nat->Prop}(h:cL (Den.hN x ys) Q E):Den.dx 60 x=true/\ys.all (Den.dx 60)=true/\Q (Den.memD x ys):=by
 unfold Den.hN at h;cases q:(Den.dx 60 x&&ys.all (Den.dx 60)) with
 |false=>rw[q]at h;exact h.elim
 |true =>
  rw[q]at h;simp only[Yg]at q;exact⟨q.1,q.2,h⟩
def DX{ys:List D}{y:V}{u:Value}(I:Inv X pins σ H s)(ab:bV G H)(h:View X.K G H (.tup ys) y\/View X.K G H (.lst ys) y)(r:RelV y u)(ly:ys.all (Den.dx 60)=true):
  ∃(a:Addr)(its:List Value)(as:List Addr),u=.ref a/\ReadsAll s.heap its (hk ys) as/\(s.heap.IsTuple a its.toArray\/s.heap.IsList a its.toArray):=by
 rcases h with⟨a,xs,rfl,h,q⟩|⟨a,xs,rfl,h,q⟩
 .cases r;obtain⟨its,cb,⟨o,ay,aj,n,hd⟩,_⟩:=I.tuple (iS ab h);obtain⟨as,bZ⟩:=oo I ab 60 ly q cb;exact⟨a,its,as,rfl,bZ,.inl ⟨o,ay,aj,n,hd⟩⟩
 .cases r;obtain⟨its,cb,⟨o,n,ay,aj,_,hd⟩,_⟩:=I.list h;obtain⟨as,bZ⟩:=oo I ab 60 ly q cb;exact⟨a,its,as,rfl,bZ,.inr ⟨o,ay,aj,n,hd⟩⟩
def Jw(bz:X.A.units+64<cLine):dj X (compareOp .In) (gT X.K (Den.dM .mem)):=by
 intro pins s σ H x y v u Q I bg bI ⟨G,bj,cH,ab,bQ,dF,hw⟩;have key:∀ys,(View X.K G H (.tup ys) y\/View X.K G H (.lst ys) y)->cL (Den.hN bj ys) (λb=>Q (.aT b) H) (λ_=>False)->wpAny (model X.prog X.w) X.A (compareOp .In v u) (eJ X pins σ Q) X.cA s:=by
  intro ys aD hw;obtain⟨J,aa,q⟩:=HX hw;obtain⟨bs,c3⟩:=om I ab bQ bg J;obtain⟨a,its,as,rfl,bZ,ay⟩:=DX I ab aD bI aa;have e:its.toArray.any (ki s.heap bj)=Den.memD bj ys:=(by rw[List.any_toArray];exact v5 bZ aa);have he:∀z,z∈its.toArray->SeqAt.EqAt X.A.in1 s z v (ki s.heap bj z):=λz hz=>tb bz c3 J bZ aa z (by simpa using hz)
  rcases ay with ay|ay
  .exact SeqAt.in_tupleAt _ ay he (by rw[e];exact⟨.aT _,H,I,rfl,q⟩)
  .exact SeqAt.in_listAt _ ay he (by rw[e];exact⟨.aT _,H,I,rfl,q⟩)
 cases cH with
 |tup ys=>exact key ys (.inl dF) hw
 |lst ys=>exact key ys (.inr dF) hw
 |_=>cases bj<;>exact hw.elim
def JA(bz:X.A.units+64<cLine):dj X (compareOp .NotIn) (gT X.K (Den.dM .lM)):=by
 intro pins s σ H x y v u Q I bg bI ⟨G,bj,cH,ab,bQ,dF,hw⟩;have key:∀ys,(View X.K G H (.tup ys) y\/View X.K G H (.lst ys) y)->cL (Den.ix (Den.hN bj ys)) (λb=>Q (.aT b) H) (λ_=>False)->wpAny (model X.prog X.w) X.A (compareOp .NotIn v u) (eJ X pins σ Q) X.cA s:=by
  intro ys aD hw;obtain⟨J,aa,q⟩:=HX (HY.mp hw);obtain⟨bs,c3⟩:=om I ab bQ bg J;obtain⟨a,its,as,rfl,bZ,ay⟩:=DX I ab aD bI aa;have e:its.toArray.any (ki s.heap bj)=Den.memD bj ys:=(by rw[List.any_toArray];exact v5 bZ aa);have he:∀z,z∈its.toArray->SeqAt.EqAt X.A.in1 s z v (ki s.heap bj z):=λz hz=>tb bz c3 J bZ aa z (by simpa using hz)
  rcases ay with ay|ay
  .exact SeqAt.notIn_tupleAt _ ay he (by rw[e];exact⟨.aT _,H,I,rfl,q⟩)
  .exact SeqAt.notIn_listAt _ ay he (by rw[e];exact⟨.aT _,H,I,rfl,q⟩)
 cases cH with
 |tup ys=>exact key ys (.inl dF) hw
 |lst ys=>exact key ys (.inr dF) hw
 |_=>cases bj<;>exact hw.elim
end
section
variable{xp:cw}{X:aU}{ao:List Nat}{m:er}{bo cm cj:a0->bw D}{a b c:Expr}{pos:Pos}
def yV{d:D}(h:Den.fM 0 d=true):∃i,d=.int i:=by
 cases d with
 |int i=>exact⟨i,rfl⟩
 |_=>cases h
theorem uk:∀{ds:List D},ds.all (Den.fM 0)=true->∃ns:List Int,ds=ns.map Den.D.int
 |[],_=>⟨[],rfl⟩
 |d::ds,h=>by
  simp only[List.all_cons,Yg]at h;obtain⟨i,rfl⟩:=yV h.1;obtain⟨ns,rfl⟩:=uk h.2;exact⟨i::ns,rfl⟩
def EI{d:D}(h:Den.fM 1 d=true):∃ns:List Int,d=.tup (ns.map Den.D.int):=by
 cases d with
 |tup ds=>obtain⟨ns,rfl⟩:=uk h;exact⟨ns,rfl⟩
 |_=>cases h
theorem kK{K:W.Frag}{G:az}:∀{ns:List Int}{xs:List V},bN K G (ns.map Den.D.int) xs->xs=ns.map V.int
 |[],_,h=>h
 |n::ns,_,⟨v,r,e,J,aa⟩=>by
  subst e;have J:v=.int n:=J;rw[J,kK aa];rfl
theorem rP:∀a b:List Int,Den.kB (a.map Den.D.int) (b.map Den.D.int)=some (di.lexLt a b)
 |[],[]=>rfl
 |[],_::_=>rfl
 |_::_,[]=>rfl
 |x::a,y::b=>by
  rw[show Den.kB ((x::a).map Den.D.int) ((y::b).map Den.D.int)=if (x==y)=true then Den.kB (a.map .int) (b.map .int) else some (decide (x<y)) from rfl,rP a b];simp only[di.lexLt]
  by_cases h:x=y<;>simp[h]
def Jy(bz:X.A.units+64<cLine):dj X (compareOp .Lt) (gT X.K (Den.dM .lt)):=by
 intro pins s σ H x y v u Q I bg bI ⟨G,bj,cH,ab,bQ,dF,hw⟩;rw[Den.BI]at hw;unfold Den.uj at hw;cases q:((Den.fM 0 bj&&Den.fM 0 cH)||(Den.fM 1 bj&&Den.fM 1 cH)) with
 |false=>rw[q]at hw;exact hw.elim
 |true =>
  rw[q]at hw;simp only[Zo]at hw;simp only[Z5,Yg]at q;rcases q with⟨J,aa⟩|⟨J,aa⟩
  .obtain⟨i,rfl⟩:=yV J;obtain⟨j,rfl⟩:=yV aa;exact Rq pins s σ H x y v u Q I bg bI ⟨i,j,bQ,dF,hw⟩
  .obtain⟨ns,rfl⟩:=EI J;obtain⟨ms,rfl⟩:=EI aa;obtain⟨a,xs,ai,aZ,aH⟩:=bQ;obtain⟨b,ys,av,aQ,a5⟩:=dF;rw[kK aH]at aZ;rw[kK a5]at aQ;refine Rr (by omega) pins s σ H x y v u Q I bg bI ⟨a,b,ns,ms,ai,av,iS ab aZ,iS ab aQ,?_⟩;simp only[Den.kA,rP,Den.y7]at hw;exact hw
def Jv:dj X (compareOp .Gt) (gT X.K (Den.dM .gt)):=by
 intro pins s σ H x y v u Q I bg bI ⟨G,bj,cH,ab,bQ,dF,hw⟩;cases bj<;>cases cH<;>first|exact hw.elim|skip
 exact Ro pins s σ H x y v u Q I bg bI ⟨_,_,bQ,dF,hw⟩
def Jx:dj X (compareOp .LtE) (gT X.K (Den.dM .le)):=by
 intro pins s σ H x y v u Q I bg bI ⟨G,bj,cH,ab,bQ,dF,hw⟩;cases bj<;>cases cH<;>first|exact hw.elim|skip
 exact Rp pins s σ H x y v u Q I bg bI ⟨_,_,bQ,dF,hw⟩
def Ju:dj X (compareOp .GtE) (gT X.K (Den.dM .ge)):=by
 intro pins s σ H x y v u Q I bg bI ⟨G,bj,cH,ab,bQ,dF,hw⟩;cases bj<;>cases cH<;>first|exact hw.elim|skip
 exact Rn pins s σ H x y v u Q I bg bI ⟨_,_,bQ,dF,hw⟩
theorem cE.aT{K:W.Frag}{H aN aq:az}{b:Bool}:cE K H aN aq m (.aT b) (.aT b):=by cases m<;>rfl
theorem cE.int{K:W.Frag}{H aN aq:az}{i:Int}:cE K H aN aq m (.int i) (.int i):=by cases m<;>rfl
def cE.uA{K:W.Frag}{H aN aq:az}{b:Bool}{v:V}(h:cE K H aN aq m (.aT b) v):v=.aT b:=by cases m<;>exact h
def cE.pU{K:W.Frag}{H aN aq:az}{i:Int}{v:V}(h:cE K H aN aq m (.int i) v):v=.int i:=by cases m<;>exact h
noncomputable def xb(o:Den.hr)(bo cm:a0->bw D):a0->bw D:=λC=>bo C>>=λx=>cm C>>=λy=>Den.dM o x y>>=λk=>.ok (.aT k)
noncomputable def og{α:Type}:bw α->Bool
 |.exc _=>false
 |_=>true
def Ff{α:Type}{r:bw α}(h:og r=true)(c:Nat):r≠.exc c:=λe=>by rw[e]at h;cases h
def mU{α:Type}{p:Prop}[Decidable p]{a b:bw α}(ax:og a=true)(ae:og b=true):og (if p then a else b)=true:=by by_cases h:p<;>simp[h,ax,ae]
def Fg{r:bw Bool}(h:og r=true):og (Den.ix r)=true:=by cases r<;>first|rfl|exact h
def Q5(o:Option Bool):og (Den.y7 o)=true:=by cases o<;>rfl
def w9(o:Den.hr)(x y:D)(c:Nat):Den.dM o x y≠.exc c:=by
 refine Ff ?_ c;cases o with
 |eq=>exact mU rfl rfl
 |ne=>exact Fg (mU rfl rfl)
 |lt=>exact mU (Q5 _) rfl
 |mem=>cases y<;>first|rfl|exact mU rfl rfl
 |lM=>cases y<;>first|rfl|exact Fg (mU rfl rfl)
 |le=>cases x<;>cases y<;>rfl
 |gt=>cases x<;>cases y<;>rfl
 |ge=>cases x<;>cases y<;>rfl
def m9{α:Type}{r:bw α}{Q:α->Prop}{E sG:Nat->Prop}(h:cL r Q E)(aB:∀c,r≠.exc c):cL r Q sG:=by
 cases r with
 |ok a=>exact h
 |exc c=>exact absurd rfl (aB c)
 |bad=>exact h
def Hm{o:Den.hr}{σ:b3}{H:az}{Q:de}(h:bp xp X ao m (xb o bo cm) σ H Q):so (gT X.K (Den.dM o)) (bp xp X ao .view bo) (bp xp X ao .view cm) σ H Q:=by
 obtain⟨G,C,ab,hw⟩:=h;refine⟨G,C,ab,bX (bt.mp hw) (λbj k v aL H1 aR aH=>?_) λ_ q=>q⟩;refine⟨aL,C,ab.ext aR,bX (bt.mp k) (λcH aQ v2 b5 aY bF a5=>?_) λ_ q=>q.mono aR.h⟩;refine⟨b5,bj,cH,bF.sub,View.ext bF aH,a5,?_⟩;exact bX (m9 (bt.mp aQ) (λc=>w9 o bj cH c)) (λk q=>q (.aT k) b5 aY (aR.trans bF) cE.aT) λ_ q=>q
def TA{o:Den.hr}{op:CmpOp}(ay:dj X (compareOp op) (gT X.K (Den.dM o)))(ax:aO X a (bp xp X ao .view bo))(ae:aO X b (bp xp X ao .view cm))(hm:behindInMarks op b=false):
  aO X (.Compare a [op] [b] pos) (bp xp X ao m (xb o bo cm)):=λpins s σ H Q I h=>RN ay ax ae hm pins s σ H Q I (Hm h)
noncomputable def fO(xp:cw)(X:aU)(ao:List Nat)(f:a0->bw D):TT:=λσ H Q =>
 ∃G C,ew X.K ao G H C σ/\cL (f C>>=Den.fJ) (λb=>∀aN aq,Ext G H aN aq->Q b aq) (λc=>fI xp X c H)
def z2{f:a0->bw D}{σ:b3}{H:az}{Q:Bool->az->Prop}(h:fO xp X ao f σ H Q):bp xp X ao .view f σ H (λx aq=>∃k,x=.aT k/\Q k aq):=by
 obtain⟨G,C,ab,hw⟩:=h;refine⟨G,C,ab,bX (bt.mp hw) (λd k v aN aq x r=>?_) λ_ q=>q⟩;cases d with
 |aT b=>exact⟨b,cE.uA r,k aN aq x⟩
 |_=>exact k.elim
def TF{o:Den.hr}{op:CmpOp}(ay:dj X (compareOp op) (gT X.K (Den.dM o)))(ax:aO X a (bp xp X ao .view bo))(ae:aO X b (bp xp X ao .view cm))(hm:behindInMarks op b=false):
  dH X (.Compare a [op] [b] pos) (fO xp X ao (xb o bo cm)):=λpins s σ H Q I h=>SE ay ax ae hm pins s σ H Q I (Hm (z2 h))
def kL{f:a0->bw D}(h:aO X a (bp xp X ao .view f))(he:∀whole,isTrue a X.env whole=(do let v <- whole;standAt a.pos;holding [v] (truthy v))):dH X a (fO xp X ao f):=λpins s σ H Q I hw=>SG h he pins s σ H Q I (z2 hw)
noncomputable def xa(o bH:Den.hr)(bo cm cj:a0->bw D):a0->bw D:=λC=>bo C>>=λx=>cm C>>=λy=>Den.dM o x y>>=λk=>if k then cj C>>=λz=>Den.dM bH y z>>=λdz=>.ok (.aT dz) else .ok (.aT false)
def Hn{o bH:Den.hr}{σ:b3}{H:az}{Q:de}(h:bp xp X ao m (xa o bH bo cm cj) σ H Q):zX (gT X.K (Den.dM o)) (gT X.K (Den.dM bH)) (bp xp X ao .view bo) (bp xp X ao .view cm) (bp xp X ao .view cj) σ H Q:=by
 obtain⟨G,C,ab,hw⟩:=h;refine⟨G,C,ab,bX (bt.mp hw) (λbj k v aL H1 aR aH=>?_) λ_ q=>q⟩;refine⟨aL,C,ab.ext aR,bX (bt.mp k) (λcH aQ v2 b5 aY bF a5=>?_) λ_ q=>q.mono aR.h⟩;refine⟨b5,bj,cH,bF.sub,View.ext bF aH,a5,?_⟩;refine bX (m9 (bt.mp aQ) (λc=>w9 o bj cH c)) (λk q=>?_) λ_ q=>q
 refine⟨k,rfl,?_⟩;cases k with
 |false =>
  simp only[Ym,YK]at q ⊢;exact q (.aT false) b5 aY (aR.trans bF) cE.aT
 |true =>
  simp only[Zo]at q ⊢;refine⟨b5,C,(ab.ext aR).ext bF,bX (bt.mp q) (λB6 br sv iY b6 hp dR=>?_) λ_ z=>(z.mono aR.h).mono bF.h⟩;refine⟨iY,cH,B6,hp.sub,View.ext hp a5,dR,?_⟩;exact bX (m9 (bt.mp br) (λc=>w9 bH cH B6 c)) (λk q=>q (.aT k) iY b6 ((aR.trans bF).trans hp) cE.aT) λ_ q=>q
def TB{o bH:Den.hr}{op op':CmpOp}(ay:dj X (compareOp op) (gT X.K (Den.dM o)))(dP:dj X (compareOp op') (gT X.K (Den.dM bH)))(ax:aO X a (bp xp X ao .view bo))(ae:aO X b (bp xp X ao .view cm))(aj:aO X c (bp xp X ao .view cj))(hm:lastMarks [op,op'] [b,c]=false):
  aO X (.Compare a [op,op'] [b,c] pos) (bp xp X ao m (xa o bH bo cm cj)):=λpins s σ H Q I h=>RM ay dP ax ae aj hm pins s σ H Q I (Hn h)
def TC{o bH:Den.hr}{op op':CmpOp}(ay:dj X (compareOp op) (gT X.K (Den.dM o)))(dP:dj X (compareOp op') (gT X.K (Den.dM bH)))(ax:aO X a (bp xp X ao .view bo))(ae:aO X b (bp xp X ao .view cm))(aj:aO X c (bp xp X ao .view cj))(hm:lastMarks [op,op'] [b,c]=false):
  dH X (.Compare a [op,op'] [b,c] pos) (fO xp X ao (xa o bH bo cm cj)):=λpins s σ H Q I h=>SD ay dP ax ae aj hm pins s σ H Q I (Hn (z2 h))
noncomputable def AY(bo cm:a0->bw D):a0->bw D:=λC=>bo C>>=λx=>Den.fJ x>>=λk=>if k then cm C else .ok (.aT false)
noncomputable def Fu(bo cm:a0->bw D):a0->bw D:=λC=>bo C>>=λx=>Den.fJ x>>=λk=>if k then .ok (.aT true) else cm C
noncomputable def Fm(bo:a0->bw D):a0->bw D:=λC=>bo C>>=λx=>Den.fJ x>>=λk=>.ok (.aT (!k))
def cE.back{K:W.Frag}{H H1 aN aq:az}(s:bV H H1){d:D}{v:V}(h:cE K H1 aN aq m d v):cE K H aN aq m d v:=cE.old s h
def Gy{rest:List Expr}(ax:aO X a (bp xp X ao .view bo))(ae:aO X (.BoolOp .And (b::rest) pos) (bp xp X ao m cm)):aO X (.BoolOp .And (a::b::rest) pos) (bp xp X ao m (AY bo cm)):=by
 intro pins s σ H Q I ⟨G,C,ab,hw⟩;refine RH ax ae pins s σ H Q I ?_;refine⟨G,C,ab,bX (bt.mp hw) (λbj k v aL H1 aR aH=>?_) λ_ q=>q⟩;cases bj with
 |aT b =>
  refine⟨b,cE.uA aH,?_⟩;cases b with
  |true =>
   simp only[Zo];exact⟨aL,C,ab.ext aR,bX k (λd q v2 b5 aY bF a5=>q v2 b5 aY (aR.trans bF) (cE.back aR.h a5)) λ_ q=>q.mono aR.h⟩
  |false =>
   simp only[Ym,YK];exact k (.aT false) aL H1 aR cE.aT
 |_=>exact k.elim
def GG{rest:List Expr}(ax:aO X a (bp xp X ao .view bo))(ae:aO X (.BoolOp .Or (b::rest) pos) (bp xp X ao m cm)):aO X (.BoolOp .Or (a::b::rest) pos) (bp xp X ao m (Fu bo cm)):=by
 intro pins s σ H Q I ⟨G,C,ab,hw⟩;refine RX ax ae pins s σ H Q I ?_;refine⟨G,C,ab,bX (bt.mp hw) (λbj k v aL H1 aR aH=>?_) λ_ q=>q⟩;cases bj with
 |aT b =>
  refine⟨b,cE.uA aH,?_⟩;cases b with
  |false =>
   simp only[Ym,YK];exact⟨aL,C,ab.ext aR,bX k (λd q v2 b5 aY bF a5=>q v2 b5 aY (aR.trans bF) (cE.back aR.h a5)) λ_ q=>q.mono aR.h⟩
  |true =>
   simp only[Zo];exact k (.aT true) aL H1 aR cE.aT
 |_=>exact k.elim
def T9(ax:aO X a (bp xp X ao .view bo)):aO X (.UnaryOp .Not a pos) (bp xp X ao m (Fm bo)):=by
 intro pins s σ H Q I ⟨G,C,ab,hw⟩;refine RW ax pins s σ H Q I ?_;refine⟨G,C,ab,bX (bt.mp hw) (λbj k v aL H1 aR aH=>?_) λ_ q=>q⟩;cases bj with
 |aT b=>exact⟨b,cE.uA aH,k (.aT (!b)) aL H1 aR cE.aT⟩
 |_=>exact k.elim
def Gz{rest:List Expr}(ax:dH X a (fO xp X ao bo))(ae:iC X (.BoolOp .And (b::rest) pos) (fO xp X ao cm)):iC X (.BoolOp .And (a::b::rest) pos) (fO xp X ao (AY bo cm)):=by
 intro l0 pins s σ H Q I ⟨G,C,ab,hw⟩;refine SH ax ae l0 pins s σ H Q I ?_;refine⟨G,C,ab,?_⟩;refine bt.mpr (bX (bt.mp (bt.mp hw)) (λbj k=>bX (bt.mp k) (λb aQ aL H1 aR=>?_) λ_ q=>q) λ_ q=>q);cases b with
 |true =>
  simp only[Zo]at aQ ⊢;exact⟨aL,C,ab.ext aR,bX (bt.mpr aQ) (λd q b5 aY bF=>q b5 aY (aR.trans bF)) λ_ q=>q.mono aR.h⟩
 |false =>
  simp only[Ym,YK]at aQ ⊢;exact aQ aL H1 aR
def GH{rest:List Expr}(ax:dH X a (fO xp X ao bo))(ae:iC X (.BoolOp .Or (b::rest) pos) (fO xp X ao cm)):iC X (.BoolOp .Or (a::b::rest) pos) (fO xp X ao (Fu bo cm)):=by
 intro l0 pins s σ H Q I ⟨G,C,ab,hw⟩;refine SJ ax ae l0 pins s σ H Q I ?_;refine⟨G,C,ab,?_⟩;refine bt.mpr (bX (bt.mp (bt.mp hw)) (λbj k=>bX (bt.mp k) (λb aQ aL H1 aR=>?_) λ_ q=>q) λ_ q=>q);cases b with
 |false =>
  simp only[Ym,YK]at aQ ⊢;exact⟨aL,C,ab.ext aR,bX (bt.mpr aQ) (λd q b5 aY bF=>q b5 aY (aR.trans bF)) λ_ q=>q.mono aR.h⟩
 |true =>
  simp only[Zo]at aQ ⊢;exact aQ aL H1 aR
def Ua(ax:dH X a (fO xp X ao bo)):dH X (.UnaryOp .Not a pos) (fO xp X ao (Fm bo)):=by
 intro pins s σ H Q I ⟨G,C,ab,hw⟩;refine SF ax pins s σ H Q I ?_;refine⟨G,C,ab,?_⟩;exact bt.mpr (bX (bt.mp (bt.mp hw)) (λbj k=>bX (bt.mp k) (λb aQ aL H1 aR=>aQ aL H1 aR) λ_ q=>q) λ_ q=>q)
end
section
variable{xp:cw}{X:aU}{ao:List Nat}{m:er}{bo cm cj:a0->bw D}{a b c:Expr}{pos:Pos}{pins:List (Addr×Obj)}{σ:b3}{G H:az}{s:Shared}
def Fc(I:Inv X pins σ H s)(ab:bV G H){ds:List D}{xs:List V}{its:List Value}{Q:de}(r:Vals xs its)(q:bN X.K G ds xs)(hz:xs.length<=sizeLine)(k:∀v aN aq,Ext G H aN aq->Rep X.K aN (.tup ds) v->Q v aq):eJ X pins σ Q (.ref s.heap.objs.size) { s with heap:=s.heap.push { cls:=.type "tuple",data:=.seq its.toArray } }:=by
 refine⟨.ref s.heap.objs.size,_,I.laid (t':=s.toks) (o:=.tup xs) (λb bT q=>Yh _ q) (Yi _) ⟨hz,its,r,IsTup.new _ _⟩,rfl,?_⟩;exact k _ (upd G s.heap.objs.size (.tup xs)) _ (Ext.put ab I.fresh) ⟨_,xs,rfl,dS,q.mono (gp (ab.free I.fresh))⟩
def Fb(I:Inv X pins σ H s)(ab:bV G H){ds:List D}{xs:List V}{its:List Value}{Q:de}(r:Vals xs its)(q:bN X.K G ds xs)(hz:xs.length<=sizeLine)(k:∀v aN aq,Ext G H aN aq->cE X.K H aN aq .fresh (.lst ds) v->Q v aq):eJ X pins σ Q (.ref s.heap.objs.size) { s with heap:=s.heap.push { cls:=.type "list",data:=.seq its.toArray } }:=by
 refine⟨.ref s.heap.objs.size,_,I.Ez (t':=s.toks) r hz,rfl,?_⟩;exact k _ G _ (Ext.own ab I.fresh λ_ z=>nomatch z) ⟨_,xs,rfl,dS,I.fresh,ab.free I.fresh,q⟩
def j3{ds:List D}{v:V}(h:View X.K G H (.lst ds) v):∃a xs,v=.ref a/\eF X.K H a xs/\bN X.K G ds xs:=h
def lZ(ab:bV G H){ds:List D}{v:V}(h:View X.K G H (.tup ds) v):∃a xs,v=.ref a/\fR X.K H a xs/\bN X.K G ds xs:=by
 obtain⟨a,xs,e,k,r⟩:=h;exact⟨a,xs,e,iS ab k,r⟩
def sO:Den.SZ=sizeLine:=by rw[sizeLine_eq];rfl
def KO:dj X (binaryOp .Add) (kI X.K (Den.d3 .add)):=by
 intro pins s σ H x y v u Q I bg bI ⟨G,bj,cH,ab,bQ,dF,hw⟩;cases bj with
 |int i =>
  cases cH with
  |int j=>exact Fq pins s σ H x y v u Q I bg bI ⟨_,_,bQ,dF,lj ab hw rfl⟩
  |_=>exact hw.elim
 |tup ds =>
  cases cH with
  |tup ah =>
   rw[Den.sP]at hw
   by_cases h:ds.length+ah.length<=Den.SZ
   .rw[if_pos h]at hw;obtain⟨l,xs,rfl,aZ,aH⟩:=lZ ab bQ;obtain⟨b,ys,rfl,aQ,a5⟩:=lZ ab dF;cases bg;cases bI;obtain⟨its,ih,bh,_⟩:=I.tuple aZ;obtain⟨ky,j4,bE,_⟩:=I.tuple aQ;have hz:xs.length+ys.length<=sizeLine:=by rw[<- aH.length,<- a5.length,<- sO];exact h
    by_cases dD:its=[]
    .-- Wd left one is empty
     subst dD;have:ds=[]:=by
      have J:=aH.length;have aa:=ih.length;simp at aa;rw[aa]at J;simp at J;exact J
     subst this;obtain⟨⟨cls,df,data,cn⟩,ay,aj,n,hd⟩:=id bh;obtain⟨⟨w8,kg,data2,jZ⟩,ku,iH,hc,hd2⟩:=id bE;simp only at aj hd iH hd2;subst aj hd iH hd2;refine ab3 ⟨_,ay,rfl⟩ ⟨_,ku,rfl⟩ abV seq_tuple_add aa0 aaW (aaQ _ _)
      (tuple_addW0 l b _ ky.toArray n hc df kg cn jZ rfl) ⟨ay,ku,?_⟩
     exact⟨.ref b,H,I,rfl,hw _ G H (Ext.refl ab) dF⟩
    .refine di.JD bh bE dD (λz=>?_) (λz=>?_) (by rw[<- ih.length,<- j4.length];exact hz)
     .have:ah=[]:=by
       have J:=a5.length;have aa:=j4.length;rw[z]at aa;simp at aa;rw[aa]at J;simp at J;exact J
      subst this;rw[Y1]at hw;exact⟨.ref l,H,I,rfl,hw _ G H (Ext.refl ab) bQ⟩
     .exact Fc I ab (ih.append j4) (aH.append a5) (by rw[Yj];exact hz) hw
   .rw[if_neg h]at hw;exact hw.elim
  |_=>exact hw.elim
 |lst ds =>
  cases cH with
  |lst ah =>
   rw[Den.k0]at hw
   by_cases h:ds.length+ah.length<=Den.SZ
   .rw[if_pos h]at hw;obtain⟨l,xs,rfl,aZ,aH⟩:=j3 bQ;obtain⟨b,ys,rfl,aQ,a5⟩:=j3 dF;cases bg;cases bI;obtain⟨its,ih,⟨mW,n,ai,aj,iv,hd⟩,_⟩:=I.list aZ;obtain⟨ky,j4,⟨jX,hc,av,iH,Xy,hd2⟩,_⟩:=I.list aQ;have hz:xs.length+ys.length<=sizeLine:=(by rw[<- aH.length,<- a5.length,<- sO];exact h);obtain⟨cls,df,data,cn⟩:=mW;obtain⟨w8,kg,data2,jZ⟩:=jX;simp only at aj hd iH hd2;subst aj hd iH hd2;refine ab3 ⟨_,ai,rfl⟩ ⟨_,av,rfl⟩ noFill_list_add seq_list_add F.slot_list_add F.entry_list_add (F.args_list_add_2 _ _)
     (list_addW l b its.toArray ky.toArray n hc df kg cn jZ (by rw[Yv,Yv,<- ih.length,<- j4.length];exact hz)) ⟨ai,av,?_⟩
    have eb:its.toArray++ky.toArray=(its++ky).toArray:=(by simp);rw[eb];exact Fb I ab (ih.append j4) (aH.append a5) (by rw[Yj];exact hz) hw
   .rw[if_neg h]at hw;exact hw.elim
  |_=>exact hw.elim
 |_=>cases cH<;>exact hw.elim
end
end bR
end
section
namespace bR
open PySem PySem.Spec PyProof.Rows bJ PySem.MeetsSeq
section
variable{xp:cw}{X:aU}{ao:List Nat}{m:er}{bo cm cj:a0->bw D}{a b c:Expr}{pos:Pos}{pins:List (Addr×Obj)}{σ:b3}{G H:az}{s:Shared}
theorem bN.rep{K:W.Frag}{ds:List D}{xs:List V}(h:bN K G ds xs):∀k:Nat,bN K G (List.replicate k ds).flatten (List.replicate k xs).flatten
 |0=>by simp[bN]
 |k+1=>by rw[ZI,ZI,Z9,Z9];exact h.append (bN.rep h k)
def KV:dj X (binaryOp .Mult) (kI X.K (Den.d3 .mul)):=by
 intro pins s σ H x y v u Q I bg bI ⟨G,bj,cH,ab,bQ,dF,hw⟩;cases bj with
 |int i =>
  cases cH with
  |int j =>
   rw[Den.mul_int]at hw
   by_cases h:(-Den.e0<i/\i<Den.e0)\/(-Den.e0<j/\j<Den.e0)
   .rw[if_pos h]at hw;exact Ru pins s σ H x y v u Q I bg bI ⟨_,_,bQ,dF,h,lj ab hw rfl⟩
   .rw[if_neg h]at hw;exact hw.elim
  |_=>exact hw.elim
 |lst ds =>
  cases cH with
  |int j =>
   have hw:cL (if 0<=j/\j<=1000/\ds.length<=1000 then Den.R.ok (Den.D.lst (List.replicate j.toNat ds).flatten) else .bad) _ _:=hw
   by_cases h:0<=j/\j<=1000/\ds.length<=1000
   .rw[if_pos h]at hw;obtain⟨h0,J,aa⟩:=h;obtain⟨l,xs,rfl,aZ,aH⟩:=j3 bQ;cases bg;have dF:y=.int j:=dF;subst dF;obtain⟨t,rfl⟩:=bI;obtain⟨its,ih,⟨⟨cls,df,data,cn⟩,n,ay,aj,_,hd⟩,_⟩:=I.list aZ;simp only at aj hd;subst aj hd;have aw:its.length=ds.length:=(by rw[<- ih.length,<- aH.length]);have hlen:its.toArray.size*j.toNat<=sizeLine:=by
     rw[Yv,aw,sizeLine_eq];exact Zk (Nat.mul_le_mul aa (show j.toNat<=1000 by omega)) (by decide)
    have ND:¬its.toArray.size*j.toNat>(2 ^ 63-1) / 8:=by
     have:(sizeLine:Nat)<=(2 ^ 63-1) / 8:=(by decide);omega
    have NO:¬(!Builtin.List.listFitsIndex j)=true:=by
     rw[fitsIndex_both (by omega) (by omega)];exact Y6
    have DC:¬Builtin.List.listTooLong (its.toArray.size*j.toNat)=true:=by
     rw[Fj hlen];exact Y6
    have Oo:List.foldl (λaR bF=>aR++bF) #[] (List.replicate (if its.toArray.isEmpty=true then 0 else j.toNat) its.toArray)=(List.replicate j.toNat its).flatten.toArray:=by
     have f0:∀m:Nat,List.foldl (λaR bF=>aR++bF) #[] (List.replicate m its.toArray)=(List.replicate m its).flatten.toArray:=λm=>by
      have:=foldl_rep its m [];rw[List.nil_append]at this;exact this
     rw[f0];cases its with
     |nil=>simp
     |cons _ _=>rfl
    refine wpAny_binaryOp_repeat_ref (T:="list") (U:="int") (by decide) ⟨_,ay,rfl⟩ (λs'=>typeIs_int s' j t) noFill_list_mul F.fills_int_mul F.slot_int_rmul repeat_list F.slot_int_index.lookup
     (ab4 F.slot_int_rmul (typeIs_int s j t) F.entry_int_rmul (F.args_int_rmul_2 _ _) (lm_int_rmul_list_any j t l its.toArray n df cn)
      ⟨ay,rfl,⟨_,ay,rfl⟩,ab4 F.slot_list_mul ⟨_,ay,rfl⟩ F.entry_list_mul (F.args_list_mul_2 _ _) (lm_list_mul_any l its.toArray n df cn j t NO ND DC) ⟨ay,?_⟩⟩)
    rw[Oo];exact Fb I ab (ih.rep j.toNat) (aH.rep j.toNat) (by rw[len_rep,Nat.mul_comm,ih.length];simpa using hlen) hw
   .rw[if_neg h]at hw;exact hw.elim
  |_=>exact hw.elim
 |_=>cases cH<;>exact hw.elim
end
end bR
end
section
namespace bR
open PySem PySem.Spec PyProof.Rows bJ
section
variable{xp:cw}{X:aU}{ao:List Nat}{m:er}{f bo cm cj:a0->bw D}{bL:a0->bw (List D)}{a b c e:Expr}{ah:List Expr}{pos:Pos}{pins:List (Addr×Obj)}{σ:b3}{G H:az}{s:Shared}
def GF(ax:aO X a (bp xp X ao .view bo)):aO X (.UnaryOp .USub a pos) (bp xp X ao m λC=>bo C>>=λx=>Den.e1 x>>=λi=>.ok (.int (-i))):=by
 intro pins s σ H Q I ⟨G,C,ab,hw⟩;refine R1 Wz ax pins s σ H Q I ?_;refine⟨G,C,ab,bX (bt.mp hw) (λbj k v aL H1 aR aH=>?_) λ_ q=>q⟩;cases bj with
 |int i=>exact⟨i,cE.pU aH,k (.int (-i)) aL H1 aR cE.int⟩
 |_=>exact k.elim
noncomputable def m5(xp:cw)(X:aU)(ao:List Nat)(f:a0->bw (List D)):fS:=λσ H Q =>
 ∃G C,ew X.K ao G H C σ/\cL (f C) (λds=>∀af aN aq,Ext G H aN aq->bN X.K aN ds af->Q af aq) (λc=>fI xp X c H)
def T7:fQ X [] (m5 xp X ao λ_=>.ok []):=by
 intro p pins s σ H Q I ⟨G,C,ab,hw⟩;exact zc p pins s σ H Q I (hw [] G H (Ext.refl ab.sub) rfl)
def TG(he:aO X e (bp xp X ao .val f))(a7:fQ X ah (m5 xp X ao bL))(cJ:starEach (e::ah) X.env=(false,eval e X.env)::starEach ah X.env):fQ X (e::ah) (m5 xp X ao λC=>f C>>=λx=>bL C>>=λxs=>.ok (x::xs)):=by
 intro p pins s σ H Q I ⟨G,C,ab,hw⟩;refine oj he a7 cJ p pins s σ H Q I ?_;refine⟨G,C,ab,bX (bt.mp hw) (λbj k v aL H1 aR aH=>?_) λ_ q=>q⟩;refine⟨aL,C,ab.ext aR,bX (bt.mp k) (λds aQ af b5 aY bF a5=>?_) λ_ q=>q.mono aR.h⟩;exact aQ (v::af) b5 aY (aR.trans bF) ⟨v,af,rfl,Rep.mono bF.g aH,a5⟩
def Un{j:Nat}(h:fQ X ah (m5 xp X ao bL))(aw:∀C ds,bL C=.ok ds->ds.length<=sizeLine):aO X (.Tuple ah j pos) (bp xp X ao .val λC=>bL C>>=λds=>.ok (.tup ds)):=by
 intro pins s σ H Q I ⟨G,C,ab,hw⟩;refine R0 h pins s σ H Q I ?_;refine⟨G,C,ab,?_⟩;have hw:=bt.mp hw;cases q:bL C with
 |ok ds =>
  rw[q]at hw;intro af aL H1 aR aH;refine⟨by rw[<- aH.length];exact aw C ds q,λp aE=>?_⟩;exact hw (.ref p) (upd aL p (.tup af)) _ (aR.trans (Ext.put aR.sub aE)) ⟨p,af,rfl,dS,aH.mono (gp (aR.sub.free aE))⟩
 |exc c=>rw[q]at hw;exact hw
 |bad=>rw[q]at hw;exact hw
def T4(h:fQ X ah (m5 xp X ao bL))(aw:∀C ds,bL C=.ok ds->ds.length<=sizeLine):aO X (.List ah pos) (bp xp X ao .fresh λC=>bL C>>=λds=>.ok (.lst ds)):=by
 intro pins s σ H Q I ⟨G,C,ab,hw⟩;refine RU h pins s σ H Q I ?_;refine⟨G,C,ab,?_⟩;have hw:=bt.mp hw;cases q:bL C with
 |ok ds =>
  rw[q]at hw;intro af aL H1 aR aH;refine⟨by rw[<- aH.length];exact aw C ds q,λp aE=>?_⟩;exact hw (.ref p) aL _ (aR.trans (Ext.own aR.sub aE λ_ z=>nomatch z)) ⟨p,af,rfl,dS,aR.h.free aE,aR.sub.free aE,aH⟩
 |exc c=>rw[q]at hw;exact hw
 |bad=>rw[q]at hw;exact hw
def Px(n:Nat)(i:Int):Den.jg n i=bJ.jg n i:=by
 unfold Den.jg bJ.jg
 by_cases h:0<=i
 .rw[if_pos h,if_pos h]
 .rw[if_neg h,if_neg h]
  by_cases q:0<=i+(n:Int)
  .rw[if_pos q,if_pos (by omega)]
  .rw[if_neg q,if_neg (by omega)]
def CW{K:W.Frag}{ds:List D}{xs:List V}{i:Int}{d:D}(r:bN K G ds xs)(h:Den.kk ds i=some d):∃v,ny xs i=some v/\Rep K G d v:=by
 unfold Den.kk at h;rw[Px,r.length]at h;unfold ny;cases q:bJ.jg xs.length i with
 |none=>rw[q]at h;cases h
 |some j =>
  rw[q]at h;obtain⟨v,e,z⟩:=r.get (i:=j) h;exact⟨v,e,z⟩
def TV(ax:aO X a (bp xp X ao .view bo))(ae:aO X b (bp xp X ao .view cm))(aE:vR b):aO X (.Subscript a b pos) (bp xp X ao .val λC=>bo C>>=λx=>cm C>>=λy=>Den.gM x y):=by
 intro pins s σ H Q I ⟨G,C,ab,hw⟩;refine RT PB ax ae aE pins s σ H Q I ?_;refine⟨G,C,ab,bX (bt.mp hw) (λbj k v aL H1 aR aH=>?_) λ_ q=>q⟩;refine⟨aL,C,ab.ext aR,bX (bt.mp k) (λcH aQ v2 b5 aY bF a5=>?_) λ_ q=>q.mono aR.h⟩;have aH:=View.ext bF aH;cases bj with
 |lst ds =>
  cases cH with
  |int i =>
   simp only[Den.yz]at aQ;cases q:Den.kk ds i with
   |none=>rw[q]at aQ;exact aQ.elim
   |some d =>
    rw[q]at aQ;obtain⟨l,xs,rfl,e,r⟩:=j3 aH;obtain⟨w,av,ic⟩:=CW r q;exact .inl ⟨l,xs,i,w,rfl,a5,e,av,aQ w b5 aY (aR.trans bF) ic⟩
  |_=>exact aQ.elim
 |tup ds =>
  cases cH with
  |int i =>
   simp only[Den.DW]at aQ;cases q:Den.kk ds i with
   |none=>rw[q]at aQ;exact aQ.elim
   |some d =>
    rw[q]at aQ;obtain⟨l,xs,rfl,e,r⟩:=lZ bF.sub aH;obtain⟨w,av,ic⟩:=CW r q;exact .inr (.inl ⟨l,xs,i,w,rfl,a5,e,av,aQ w b5 aY (aR.trans bF) ic⟩)
  |_=>exact aQ.elim
 |_=>cases cH<;>exact aQ.elim
noncomputable def lS(K:W.Frag)(m:er)(g:D->bw D):List V->az->de->Prop:=λxs H Q=>∃G x d,xs=[x]/\bV G H/\View K G H d x/\cL (g d) (λd'=>∀v aN aq,Ext G H aN aq->cE K H aN aq m d' v->Q v aq) (λ_=>False)
def kG{eI:TE}(he:aO X e eI)(cJ:starEach [e] X.env=[(false,eval e X.env)]):fQ X [e] (u6 eI zZ):=oj he zc cJ
def uT{g:D->bw D}{id:String}{x:Str}{p:Pos}(a4:∀d c,g d≠.exc c)(aj:gX X (.builtin id) (lS X.K m g))(nW:et X x)(hm:X.aK x=none)(aV:bootBuiltins x=some (.builtin id))(ax:aO X e (bp xp X ao .view f))(aB:x≠"__name__")(h4:(x==("__debug__":Str))=false)(cJ:starEach [e] X.env=[(false,eval e X.env)]):aO X (.Call (.Name x p) [e] [] pos) (bp xp X ao m λC=>f C>>=λd=>g d):=by
 intro pins s σ H Q I ⟨G,C,ab,hw⟩;refine uI aj nW hm aV (kG ax cJ) aB h4 cJ rfl pins s σ H Q I ?_;refine⟨G,C,ab,bX (bt.mp hw) (λbj k v aL H1 aR aH=>?_) λ_ q=>q⟩;refine⟨aL,v,bj,rfl,aR.sub,aH,?_⟩;exact bX (m9 k (a4 bj)) (λd q v2 b5 aY bF a5=>q v2 b5 aY (aR.trans bF) (a5.old aR.h)) λ_ q=>q
def zA{g:D->bw D}{T:String}{x:Str}{p:Pos}(a4:∀d c,g d≠.exc c)(aj:gX X (.type T) (lS X.K m g))(nW:et X x)(hm:X.aK x=none)(aV:bootBuiltins x=some (.type T))(ax:aO X e (bp xp X ao .view f))(aB:x≠"__name__")(h4:(x==("__debug__":Str))=false)(cJ:starEach [e] X.env=[(false,eval e X.env)]):aO X (.Call (.Name x p) [e] [] pos) (bp xp X ao m λC=>f C>>=λd=>g d):=by
 intro pins s σ H Q I ⟨G,C,ab,hw⟩;refine RL aj nW hm aV (kG ax cJ) aB h4 cJ rfl pins s σ H Q I ?_;refine⟨G,C,ab,bX (bt.mp hw) (λbj k v aL H1 aR aH=>?_) λ_ q=>q⟩;refine⟨aL,v,bj,rfl,aR.sub,aH,?_⟩;exact bX (m9 k (a4 bj)) (λd q v2 b5 aY bF a5=>q v2 b5 aY (aR.trans bF) (a5.old aR.h)) λ_ q=>q
def f_len:gX X (.builtin "len") (lS X.K m Den.kz):=by
 intro pins s σ H xs us Q I r ⟨G,x,d,ex,ab,bQ,hw⟩;subst ex;cases d with
 |tup ds =>
  obtain⟨a,ys,rfl,k,q⟩:=lZ ab bQ;refine Bq pins s σ H _ us Q I r ⟨a,ys,rfl,.inr k,?_⟩;rw[<- q.length];exact hw _ G H (Ext.refl ab) cE.int
 |lst ds =>
  obtain⟨a,ys,rfl,k,q⟩:=j3 bQ;refine Bq pins s σ H _ us Q I r ⟨a,ys,rfl,.inl k,?_⟩;rw[<- q.length];exact hw _ G H (Ext.refl ab) cE.int
 |_=>exact hw.elim
def f_list:gX X (.type "list") (lS X.K .fresh λd=>Den.fE d>>=λds=>.ok (.lst ds)):=by
 intro pins s σ H xs us Q I r ⟨G,x,d,ex,ab,bQ,hw⟩;subst ex;cases d with
 |tup ds =>
  obtain⟨a,ys,rfl,k,q⟩:=lZ ab bQ;exact Br pins s σ H _ us Q I r ⟨a,ys,rfl,.inr k,λl aw=>hw _ G _ (Ext.own ab aw λ_ z=>nomatch z) ⟨l,ys,rfl,dS,aw,ab.free aw,q⟩⟩
 |lst ds =>
  obtain⟨a,ys,rfl,k,q⟩:=j3 bQ;exact Br pins s σ H _ us Q I r ⟨a,ys,rfl,.inl k,λl aw=>hw _ G _ (Ext.own ab aw λ_ z=>nomatch z) ⟨l,ys,rfl,dS,aw,ab.free aw,q⟩⟩
 |_=>exact hw.elim
def My:gX X (.type "tuple") (lS X.K .val λd=>Den.fE d>>=λds=>.ok (.tup ds)):=by
 intro pins s σ H xs us Q I r ⟨G,x,d,ex,ab,bQ,hw⟩;subst ex;cases d with
 |tup ds =>
  obtain⟨a,ys,rfl,k,q⟩:=lZ ab bQ;exact Bs pins s σ H _ us Q I r ⟨a,ys,rfl,.inr ⟨k,hw _ G H (Ext.refl ab) bQ⟩⟩
 |lst ds =>
  obtain⟨a,ys,rfl,k,q⟩:=j3 bQ;exact Bs pins s σ H _ us Q I r ⟨a,ys,rfl,.inl ⟨k,λl aw=>hw _ (upd G l (.tup ys)) _ (Ext.put ab aw) ⟨l,ys,rfl,dS,q.mono (gp (ab.free aw))⟩⟩⟩
 |_=>exact hw.elim
end
def zq{X:aU}{pins:List (Addr×Obj)}{σ:b3}{H:az}{s:Shared}{a:Addr}(I:Inv X pins σ H s)(h:(∃ys,g0 H a (.dN ys))\/∃ys,g0 H a (.d5 ys)):∃o,s.heap.get? a=some o/\o.cls=.type "dict":=by
 rcases h with⟨ys,h|⟨bk,h⟩⟩|⟨ys,h|⟨bk,h⟩⟩
 .obtain⟨_,_,_,_,o,_,_,e,x,_⟩:=(show dG X.prog X.w H s.heap a (.dN ys) from I.bM a _ h);exact⟨o,e,x.1⟩
 .obtain⟨_,_,_,_,_,o,_,_,e,x,_⟩:=(show dG X.prog X.w H s.heap a (.eg bk (.dN ys)) from I.bM a _ h);exact⟨o,e,x.1⟩
 .obtain⟨_,_,_,_,o,_,_,e,x,_⟩:=(show dG X.prog X.w H s.heap a (.d5 ys) from I.bM a _ h);exact⟨o,e,x.1⟩
 .obtain⟨_,_,_,_,_,o,_,_,e,x,_⟩:=(show dG X.prog X.w H s.heap a (.eg bk (.d5 ys)) from I.bM a _ h);exact⟨o,e,x.1⟩
section
variable{xp:cw}{X:aU}{ao:List Nat}{m:er}{f bo cm cj:a0->bw D}{bL:a0->bw (List D)}{a b c e:Expr}{ah:List Expr}{pos:Pos}{pins:List (Addr×Obj)}{σ:b3}{G H:az}{s:Shared}
noncomputable def Wu:D->String
 |.dr=>"NoneType"
 |.aT _=>"bool"
 |.int _=>"int"
 |.str _=>"str"
 |.tup _=>"tuple"
 |.lst _=>"list"
 |.bK _=>"dict"
 |.bD _=>"dict"
 |.fw _=>""
noncomputable def qh:Den.Ty->String
 |.int=>"int"|.bool=>"bool"|.str=>"str"|.tuple=>"tuple"|.cls _=>""
def PU(K:W.Frag)(up:Den.gJ)(d:D)(t:Den.Ty)(aW:∀c,t≠.cls c)(hd:∀c,d≠.fw c):∃b,Den.jS up d t=.ok b/\PySem.W.kitOne K (.type (Wu d)) (.type (qh t))=some b:=by
 cases t with
 |cls c=>exact absurd rfl (aW c)
 |int=>cases d<;>first|exact absurd rfl (hd _)|exact⟨_,rfl,by kernel_rfl⟩
 |bool=>cases d<;>first|exact absurd rfl (hd _)|exact⟨_,rfl,by kernel_rfl⟩
 |str=>cases d<;>first|exact absurd rfl (hd _)|exact⟨_,rfl,by kernel_rfl⟩
 |tuple=>cases d<;>first|exact absurd rfl (hd _)|exact⟨_,rfl,by kernel_rfl⟩
def W0(I:Inv X pins σ H s)(ab:bV G H){d:D}{x:V}{u:Value}{up:Den.gJ}{t:Den.Ty}(aW:∀c,t≠.cls c)(bQ:View X.K G H d x)(bg:RelV x u){Q:de}(hw:cL (Den.jS up d t) (λb=>Q (.aT b) H) (λ_=>False)):
  wpAny (model X.prog X.w) X.A (call (.builtin "isinstance") [u,.type (qh t)]) (eJ X pins σ Q) X.cA s:=by
 have hd:∀c,d≠.fw c:=λc e=>by subst e;exact bQ.elim
 obtain⟨b,ai,av⟩:=PU X.K up d t aW hd;rw[ai]at hw;have fin:∀tk,eJ X pins σ Q (.bool b) { s with toks:=tk }:=λtk=>⟨.aT b,H,I.tok tk,rfl,hw⟩
 cases d with
 |dr=>cases bQ;exact t9 I bg .dr av fin
 |aT y=>cases bQ;exact t9 I bg (.aT y) av fin
 |int i=>cases bQ;exact t9 I bg (.int i) av fin
 |str y=>cases bQ;exact t9 I bg (.str y) av fin
 |tup ds =>
  obtain⟨a,ys,rfl,k,q⟩:=lZ ab bQ;cases bg;obtain⟨its,bW,⟨o,J,aa,_⟩,hz⟩:=I.tuple k;exact Y0 PySem.W.kitx_tuple I.f6 ⟨o,J,aa⟩ av (λz=>nomatch z) fin
 |lst ds =>
  obtain⟨a,ys,rfl,k,q⟩:=j3 bQ;cases bg;obtain⟨its,bW,⟨o,n,J,aa,_⟩,z⟩:=I.list k;exact Y0 abN I.f6 ⟨o,J,aa⟩ av (λz=>nomatch z) fin
 |bK ak =>
  obtain⟨a,rfl,h⟩:=bQ;cases bg;obtain⟨o,J,aa⟩:=zq I (.inr ⟨_,h⟩);exact Y0 aaZ I.f6 ⟨o,J,aa⟩ av (λz=>nomatch z) fin
 |bD ak =>
  obtain⟨a,ys,rfl,h,_⟩:=bQ;cases bg;obtain⟨o,J,aa⟩:=zq I (.inl ⟨_,h⟩);exact Y0 aaZ I.f6 ⟨o,J,aa⟩ av (λz=>nomatch z) fin
 |fw c=>exact absurd rfl (hd c)
def Pg{up:Den.gJ}{d:D}{t:Den.Ty}{c:Nat}:Den.jS up d t≠.exc c:=by
 intro h;cases t<;>first|(cases h;done)|skip
 cases d<;>cases h
def TY{up:Den.gJ}{t:Den.Ty}{x y:Str}{p fW:Pos}(aW:∀c,t≠.cls c)(nW:et X x)(hm:X.aK x=none)(aV:bootBuiltins x=some (.builtin "isinstance"))(NS:et X y)(tQ:X.aK y=none)(jf:bootBuiltins y=some (.type (qh t)))(ax:aO X e (bp xp X ao .view f))(aB:x≠"__name__")(h4:(x==("__debug__":Str))=false)(iw:y≠"__name__")(NI:(y==("__debug__":Str))=false)(cJ:starEach [e,.Name y fW] X.env=(false,eval e X.env)::starEach [.Name y fW] X.env):
  aO X (.Call (.Name x p) [e,.Name y fW] [] pos) (bp xp X ao m λC=>f C>>=λd=>Den.jS up d t>>=λb=>.ok (.aT b)):=by
 intro pins s σ H Q I ⟨G,C,ab,hw⟩;have aj:gX X (.builtin "isinstance") (λxs H Q=>∃G x d,xs=[x,.ty (qh t)]/\bV G H/\View X.K G H d x/\cL (Den.jS up d t) (λb=>Q (.aT b) H) (λ_=>False)):=by
  intro pins s σ H xs us Q I r ⟨G,x,d,ex,ab,bQ,hw⟩;subst ex;obtain⟨u,vh,rfl,c4,Tg⟩:=vals2 r;cases Tg;exact W0 I ab aW bQ c4 hw
 have yn:fQ X [e,.Name y fW] (u6 (bp xp X ao .view f) (u6 (qe (.ty (qh t))) zZ)):=oj ax (oj (RJ NS tQ jf rfl iw NI) zc rfl) cJ;refine uI aj nW hm aV yn aB h4 cJ rfl pins s σ H Q I ?_;refine⟨G,C,ab,bX (bt.mp hw) (λbj k v aL H1 aR aH=>?_) λ_ q=>q⟩;refine⟨aL,v,bj,rfl,aR.sub,aH,?_⟩;exact bX (m9 (bt.mp k) (λc=>Pg)) (λb q=>q (.aT b) aL H1 aR cE.aT) λ_ q=>q
end
noncomputable def j9(P:Program)(w:World)(xp:cw):ju:=λouter H s E e s' =>
 ∃(c:Nat)(aq:az)(l:List Addr),s'.os=s.os/\AllBare s'.gens/\fg (iq outer) [] H aq s.heap s'.heap/\ep P w aq s'.heap/\bV H aq/\(∀a∈l,s.heap.get? a=none/\aq a=none)/\xp c e l s'.heap/\E (.int c 0) none aq
noncomputable def ow(K:W.Frag)(hS:List D->bw D)(n:Nat):mc:=λaf H Q E =>
 af.length=n/\∃G ds,bV G H/\(∀b xs,H b=some (.tup xs)->G b=some (.tup xs))/\bN K G ds af/\cL (hS ds) (λd=>∀v aN aq,Ext G H aN aq->Rep K aN d v->Q v aq) (λc=>∀aq,bV H aq->E (.int c 0) none aq)
section
variable{xp:cw}{X:aU}{ao:List Nat}{m:er}{f bo cm cj:a0->bw D}{bL:a0->bw (List D)}{a b c e:Expr}{ah:List Expr}{pos:Pos}{pins:List (Addr×Obj)}{σ:b3}{G H:az}{s:Shared}
noncomputable def B9(xp:cw)(X:aU):i2:=λu _ aq=>∀c:Nat,u=.int c 0->fI xp X c aq
def RG:Passes (j9 X.prog X.w xp) X (B9 xp X):=by
 intro pins σ H s e s' I ⟨c,aq,l,os,bare,un,bM,c8,aB,ag,ri⟩;have iZ:Inv X pins σ aq s':=I.Bp os un bM bare (λb z=>absurd z (by simp));exact ri c rfl pins σ aq s' e l iZ (bV.refl _) (λa ax=>.of I (aB a ax).1 (aB a ax).2) ag
end
section
variable{prog:Program}{w:World}{A:Around}{R:Result->Shared->Prop}{s:Shared}
def J2{elt target iter:Expr}{ifs:List Expr}{scope:Scope}{pos:Pos}{it acc:Value}{env:Env}(I:Nat->Shared->Prop)(turn:∀n s,I n s->wpAny (model prog w) A (pyNext it) (λr cS=>match r with
   |none=>R (.ok .next) cS
   |some v=>wpAny (model prog w) A (letOwnedTupleGo target it v) (λ_ Hf=>wpAny (model prog w) A (assign target env v) (λ_ hP =>
     wpAny (model prog w) A (forIn ifs true λc r=>if r=true then do let ok <- isTrue c env (eval c env);pure (ForInStep.yield ok) else pure (ForInStep.yield r)) (λok qc =>
      if ok=true then wpAny (model prog w) A (eval elt env) (λx Hg =>
       wpAny (model prog w) A (call (.builtin "list.append") [acc,x]) (λ_ Hh=>∃m,m<n/\I m Hh) (λ_ _=>False) Hg) (λ_ _=>False) qc
      else ∃m,m<n/\I m qc) (λ_ _=>False) hP) (λ_ _=>False) Hf) (λ_ _=>False) cS) (λ_ _=>False) s)(n:Nat)(h:I n s):
  codeAny (model prog w) A (.compLoop (.ListComp elt [⟨target,iter,ifs,0⟩] scope pos) 0 it acc env) R s:=by
 have up:∀{α:Type}{t:Sem α}{Q:α->Shared->Prop}{E:Value->Shared->Prop}{s:Shared},wpAny (model prog w) A t Q (λ_ _=>False) s->wpAny (model prog w) A t Q E s:=λh=>Zh h (λ_ _ q=>q) λ_ _ z=>z.elim
 refine codeAny_loop rfl I (λn s cf=>?_) n h;show wpAny _ A ((compTurn (.ListComp elt [⟨target,iter,ifs,0⟩] scope pos) 0 it acc env).onRaise (λx=>do noteFrame x env;theTreesLotGoes x)) _ _ s;refine wpAny_noted ?_;rw[compTurn_list];refine Yf (wpAny_standAt (Yf (Zh (turn n s cf) (λr cS hL=>?_) λ_ _ z=>z.elim)));cases r with
 |none=>exact wpAny_pure hL
 |some v =>
  refine Yf (Zh hL (λ_ Hf O2=>?_) λ_ _ z=>z.elim);refine Yf (Zh O2 (λ_ hP rB=>Yf (Zh rB (λok qc t4=>?_) λ_ _ z=>z.elim)) λ_ _ z=>z.elim);cases ok with
  |false=>exact wpAny_pure ⟨rfl,t4⟩
  |true =>
   refine Yf (Yf (Zh t4 (λx Hg O3=>Yf (Zh O3 (λ_ Hh O4=>?_) λ_ _ z=>z.elim)) λ_ _ z=>z.elim));exact wpAny_pure (wpAny_pure ⟨rfl,O4⟩)
end
noncomputable def gB(env:Env):List (Str×NameKind)->List (Str×Addr)->List (Str×Addr)
 |[],cs=>cs
 |(n,k)::r,cs=>if k==.free then gB env r ((n,(env.cells.lookup n).getD 0)::cs) else gB env r cs
def JN{scope:Scope}{env:Env}(h:∀x∈scope.names,x.2=.free->∃c,env.cells.lookup x.1=some c):closureFor scope env=pure (gB env scope.names []):=by
 have key:∀(l:List (Str×NameKind))(cs:List (Str×Addr)),(∀x∈l,x.2=.free->∃c,env.cells.lookup x.1=some c) ->
   (forIn l cs λ(x:Str×NameKind)(r:List (Str×Addr))=>(match x with
    |(name,kind)=>if (kind==NameKind.free)=true then do let a <- cellOf env name;pure (ForInStep.yield ((name,a)::r)) else pure (ForInStep.yield r):Sem (ForInStep (List (Str×Addr)))))=(pure (gB env l cs):Sem _):=by
  intro l
  induction l with
  |nil=>intro cs _;rfl
  |cons x l aF =>
   intro cs ag;obtain⟨n,k⟩:=x;simp only[List.forIn_cons,gB];cases q:(k==NameKind.free) with
   |false =>
    simp only[Ym,YK,pure_bind];exact aF cs λy aD=>ag y (List.mem_cons_of_mem _ aD)
   |true =>
    have au:k=.free:=(by simpa using q);obtain⟨c,e⟩:=ag (n,k) List.mem_cons_self au;simp only at e;simp only[Zo,cellOf,e,pure_bind,Option.getD_some];exact aF _ λy aD=>ag y (List.mem_cons_of_mem _ aD)
 unfold closureFor;have:=key scope.names [] h;simp only[bind_pure];exact this
theorem w7{env:Env}{x:Str}{c:Addr}:∀(l:List (Str×NameKind))(cs:List (Str×Addr)),(gB env l cs).lookup x=some c->cs.lookup x=some c\/(∃y∈l,y.1=x/\y.2=.free/\c=(env.cells.lookup x).getD 0)
 |[],cs,h=>.inl h
 |(n,k)::r,cs,h=>by
  unfold gB at h;cases q:(k==NameKind.free) with
  |false =>
   rw[q]at h;rcases w7 r cs h with J|⟨y,aD,J⟩
   .exact .inl J
   .exact .inr ⟨y,List.mem_cons_of_mem _ aD,J⟩
  |true =>
   rw[q]at h;have au:k=.free:=(by simpa using q);rcases w7 r _ h with J|⟨y,aD,J⟩
   .rw[YP]at J;cases z:(x==n) with
    |false=>rw[z]at J;exact .inl J
    |true =>
     rw[z]at J;have e:x=n:=(by simpa using z);subst e;exact .inr ⟨(x,k),List.mem_cons_self,rfl,au,(YZ J).symm⟩
   .exact .inr ⟨y,List.mem_cons_of_mem _ aD,J⟩
theorem w6{env:Env}{x:Str}:∀(l:List (Str×NameKind))(cs:List (Str×Addr)),((∃y∈l,y.1=x/\y.2=.free)\/(cs.lookup x).isSome=true)->((gB env l cs).lookup x).isSome=true
 |[],cs,h=>by
  rcases h with⟨y,aD,_⟩|h
  .simp at aD
  .exact h
 |(n,k)::r,cs,h=>by
  unfold gB;cases q:(k==NameKind.free) with
  |false =>
   refine w6 r cs ?_;rcases h with⟨y,aD,J,aa⟩|h
   .rcases Yk.mp aD with e|aD
    .subst e;simp only at aa;rw[aa]at q;cases q
    .exact .inl ⟨y,aD,J,aa⟩
   .exact .inr h
  |true =>
   refine w6 r _ ?_;rcases h with⟨y,aD,J,aa⟩|h
   .rcases Yk.mp aD with e|aD
    .subst e;simp only at J;subst J;exact .inr (by simp)
    .exact .inl ⟨y,aD,J,aa⟩
   .refine .inr ?_;rw[YP];cases z:(x==n)
    .exact h
    .rfl
theorem mO{env:Env}{x:Str}:∀{names:List (Str×NameKind)}{k:NameKind},(names.map λ(n,k)=>if (k==NameKind.free&&env.scope.kind==.function&&env.kindOf n==some .cell) then(n,NameKind.cell) else(n,k)).lookup x=some k ->
  names.lookup x=some k\/(names.lookup x=some .free/\k=.cell)
 |[],_,h=>by simp at h
 |(n,j)::r,k,h=>by
  have h:List.lookup x ((if (j==NameKind.free&&env.scope.kind==.function&&env.kindOf n==some .cell)=true then(n,NameKind.cell) else(n,j))::(r.map λ(n,k)=>if (k==NameKind.free&&env.scope.kind==.function&&env.kindOf n==some .cell) then(n,NameKind.cell) else(n,k)))=some k:=h;rw[YP];cases ag:x==n with
  |true =>
   by_cases aj:(j==NameKind.free&&env.scope.kind==.function&&env.kindOf n==some .cell)=true
   .rw[if_pos aj,YP]at h;simp only[ag]at h;have aA:j=.free:=(by simp only[Yg,Y3]at aj;exact aj.1.1);exact .inr ⟨by rw[aA],(YZ h).symm⟩
   .rw[if_neg aj,YP]at h;simp only[ag]at h;exact .inl h
  |false =>
   by_cases aj:(j==NameKind.free&&env.scope.kind==.function&&env.kindOf n==some .cell)=true
   .rw[if_pos aj,YP]at h;simp only[ag]at h;exact mO h
   .rw[if_neg aj,YP]at h;simp only[ag]at h;exact mO h
theorem uP{env:Env}{x:Str}{k:NameKind}:∀{names:List (Str×NameKind)},names.lookup x=some k->k≠.free->(names.map λ(n,k)=>if (k==NameKind.free&&env.scope.kind==.function&&env.kindOf n==some .cell) then(n,NameKind.cell) else(n,k)).lookup x=some k
 |[],h,_=>by simp at h
 |(n,j)::r,h,au=>by
  show List.lookup x ((if (j==NameKind.free&&env.scope.kind==.function&&env.kindOf n==some .cell)=true then(n,NameKind.cell) else(n,j))::_)=_;rw[YP]at h;cases ag:x==n with
  |true =>
   simp only[ag]at h;have aA:j=k:=YZ h;subst aA;have aj:¬(j==NameKind.free&&env.scope.kind==.function&&env.kindOf n==some .cell)=true:=by
    intro z;simp only[Yg,Y3]at z;exact au z.1.1
   rw[if_neg aj,YP];simp only[ag]
  |false =>
   simp only[ag]at h;have aF:=uP (env:=env) h au
   by_cases aj:(j==NameKind.free&&env.scope.kind==.function&&env.kindOf n==some .cell)=true
   .rw[if_pos aj,YP];simp only[ag];exact aF
   .rw[if_neg aj,YP];simp only[ag];exact aF
theorem zt{env:Env}{x:Str}:∀{names:List (Str×NameKind)},names.lookup x=some .free->(names.map λ(n,k)=>if (k==NameKind.free&&env.scope.kind==.function&&env.kindOf n==some .cell) then(n,NameKind.cell) else(n,k)).lookup x=some .cell\/(names.map λ(n,k)=>if (k==NameKind.free&&env.scope.kind==.function&&env.kindOf n==some .cell) then(n,NameKind.cell) else(n,k)).lookup x=some .free
 |[],h=>by simp at h
 |(n,j)::r,h=>by
  show List.lookup x ((if (j==NameKind.free&&env.scope.kind==.function&&env.kindOf n==some .cell)=true then(n,NameKind.cell) else(n,j))::_)=_\/List.lookup x ((if (j==NameKind.free&&env.scope.kind==.function&&env.kindOf n==some .cell)=true then(n,NameKind.cell) else(n,j))::_)=_;rw[YP]at h;cases ag:x==n with
  |true =>
   simp only[ag]at h
   by_cases aj:(j==NameKind.free&&env.scope.kind==.function&&env.kindOf n==some .cell)=true
   .rw[if_pos aj,YP];simp[ag]
   .rw[if_neg aj,YP];simp only[ag];exact .inr h
  |false =>
   simp only[ag]at h;have aF:=zt (env:=env) h
   by_cases aj:(j==NameKind.free&&env.scope.kind==.function&&env.kindOf n==some .cell)=true
   .rw[if_pos aj,YP];simp only[ag];exact aF
   .rw[if_neg aj,YP];simp only[ag];exact aF
noncomputable def nC(X:aU)(JF:Env)(cY:List Str)(s3:Shared)(b6:az)(bB:List Addr)(pins:List (Addr×Obj)):aU :=
 { X with N:=cY,fq:=s3,qu:=b6,env:=JF,outer:=X.stack,ex:=bB,fn:=λ_=>false,fX:=X.fX++pins,cA:=λ_ _=>False }
structure oI(X:aU)(scope:Scope)(xs:List Str)(cY:List Str):Prop where
 kind:scope.kind=.function
 mV:∀y∈scope.names,y.2≠.cell
 names:∀y∈scope.names,y.2=.local->scope.names.lookup y.1=some .local
 loc:∀y,scope.names.lookup y=some .local->y∈xs\/y=(".0":Str)
 fs:∀y∈xs,scope.names.lookup y=some .local
 fr:∀y∈scope.names,y.2=.free->X.env.scope.names.lookup y.1=some .cell\/X.env.scope.names.lookup y.1=some .free
 len:cY.length=X.N.length+xs.length
 old:∀(i:Nat) y,i<X.N.length->cY[i]?=some y->(scope.names.lookup y).isSome=true->X.N[i]?=some y/\y∉xs/\y≠(".0":Str)
 new:∀(j:Nat),cY[X.N.length+j]?=xs[j]?
 ej:cY.Nodup
section
variable{X:aU}{pins:List (Addr×Obj)}{σ:b3}{H:az}{s:Shared}{bB:List Addr}{scope:Scope}{xs cY:List Str}{hL:Heap}{tk:Nat}
def Jl(I:Inv X pins σ H s)(hf:∀b∈bB,kb X pins H b)(ay:∀b∈bB,∃o,s.heap.get? b=some o)(B:oI X scope xs cY)(ps:hL.Ns s.heap.objs.size (λ_=>none))(au:∀b o,s.heap.get? b=some o->hL.get? b=some o):
  Inv (nC X (compEnvC scope (gB X.env scope.names []) s.heap.objs.size X.env) cY s H bB pins) [] (σ++List.replicate xs.length none) H { s with heap:=hL,toks:=tk }:=by
 have look:∀y c,(gB X.env scope.names []).lookup y=some c->X.env.cells.lookup y=some c:=λy c e=>by
  rcases w7 _ _ e with h|⟨z,hz,ai,av,bu⟩
  .simp at h
  .have:=B.fr z hz av;rw[ai]at this;obtain⟨cN,cT⟩:=I.ok.has y (by rcases this with q|q;exact .inl q;exact .inr q);rw[cT]at bu;simp at bu;rw[cT,bu]
 have has:∀y,scope.names.lookup y=some .free->∃c,(gB X.env scope.names []).lookup y=some c:=λy e =>
  Option.isSome_iff_exists.mp (w6 _ _ (.inl ⟨(y,.free),Y4 e,rfl,rfl⟩))
 have Xj:∀y c,X.env.cells.lookup y=some c->c<s.heap.objs.size:=λy c e=>by
  obtain⟨v,q⟩:=I.cell y c e;exact q.lt
 have Fi:∀b,b<s.heap.objs.size->b≠s.heap.objs.size:=λb ae=>YH ae
 refine⟨⟨I.ok.mod,B.kind,I.ok.glob,I.ok.blt,Yi _,λy z c ai av=>I.ok.inj y z c (look y c ai) (look z c av),λy aD=>?_,λy c q _=>Bool.noConfusion q,I.ok.hd,I.ok.frames,.inl rfl,λb ae=>?_,I.bs,Zk I.ok.qL I.eH,λb o e ae=>?_,λb ae jK=>?_,I.stack,I.Hd⟩,
  rfl,I.bare,fg.kept au,⟨_,ps,λi y v ai av bu=>?_⟩,λy c e=>?_,I.fresh,λy c e=>I.kj y c (look y c e),λp aE=>?_,I.bM.kept au,?_⟩
 .-- has
  have aD:(relabel scope X.env).names.lookup y=some .cell\/(relabel scope X.env).names.lookup y=some .free:=aD;have:scope.names.lookup y=some .free:=by
   rcases aD with q|q
   .rcases mO q with z|z
    .exact absurd rfl (B.mV _ (Y4 z))
    .exact z.1
   .rcases mO q with z|z
    .exact z
    .exact z.1
  exact has y this
 .-- Cv
  obtain⟨f0,f1,f2,fi,f4,fj⟩:=hf b ae;obtain⟨o,ay⟩:=ay b ae;exact⟨Fi b (Yu ay),λy c e=>f4 y c (look y c e)⟩
 .-- uw
  obtain⟨f0,f1,f2,fi,f4,fj⟩:=hf b ae;rcases fi with q|q
  .exact I.ok.uw b o e q
  .have:=Yu (I.ok.bs b o e).1;exact absurd (YC this q) (ZV _)
 .-- tf
  obtain⟨f0,f1,f2,fi,f4,fj⟩:=hf b ae;rcases Yk.mp (I.u4 b jK) with q|q
  .exact f1 q
  .exact f2 q
 .-- Wd names
  have hi:i<σ.length:=by
   by_cases hi:i<σ.length
   .exact hi
   .rw[YS (by omega),aaV]at av
    split at av<;>cases av
  rw[YB hi]at av;have NW:i<X.N.length:=(by rw[<- I.len];exact hi);have bu:fT (relabel scope X.env) y:=bu;have OP:(scope.names.lookup y).isSome=true:=by
   rcases bu with q|q|q
   all_goals
    rcases mO q with z|z
    .rw[z];rfl
    .rw[z.1];rfl
  obtain⟨Ld,ag,h0⟩:=B.old i y NW ai OP;have pl:scope.names.lookup y=some .free:=by
   rcases bu with q|q|q
   .rcases mO q with z|z
    .rcases B.loc y z with w|w
     .exact absurd w ag
     .exact absurd w h0
    .exact z.1
   .rcases mO q with z|z
    .exact absurd rfl (B.mV _ (Y4 z))
    .exact z.1
   .rcases mO q with z|z
    .exact z
    .exact z.1
  have aG:=B.fr (y,.free) (Y4 pl) rfl;obtain⟨m,aB,aw⟩:=I.loc;obtain⟨u,r,l⟩:=aw i y v Ld av (by rcases aG with q|q;exact .inr (.inl q);exact .inr (.inr q));refine⟨u,r,.inr ⟨?_,?_⟩⟩
  .exact zt pl
  .rcases l with⟨k,_⟩|⟨_,c,jE,z⟩
   .exfalso;have k:X.env.scope.names.lookup y=some .local:=k;simp only at aG;rcases aG with q|q<;>rw[k]at q<;>cases q
   .obtain⟨cN,cT⟩:=has y pl;have e:cN=c:=(by have:=look y cN cT;rw[jE]at this;exact(YZ this).symm);subst e;obtain⟨o,J,aa⟩:=z;exact⟨cN,cT,o,au _ _ J,aa⟩
 .-- cells
  obtain⟨v,o,J,aa⟩:=I.cell y c (look y c e);exact⟨v,o,au _ _ J,aa⟩
 .-- pins
  have aE:p∈X.fX++pins:=(by simpa[nC] using aE);obtain⟨e,n,ne,mT,d⟩:=I.pin p aE;refine⟨au _ _ e,n,Fi _ (Yu e),λae=>?_,d⟩;rcases Yk.mp (I.u4 p.1 ae) with q|q
  .exact ne q
  .exact mT q
 .show _=cY.length;rw[Yj,aat,B.len,I.len]
end
noncomputable def m3:List Nat->List V->b3->b3
 |i::is,v::af,σ=>m3 is af (σ.set i (some v))
 |_,_,σ=>σ
noncomputable def xJ:List Nat->md
 |[]=>CS
 |i::is=>CQ (xI i) (xJ is)
theorem CR:∀(ts:List Nat)(af:List V)(σ:b3)(H:az)(Q:b3->az->Prop),af.length=ts.length->Q (m3 ts af σ) H->xJ ts af σ H Q
 |[],[],σ,H,Q,_,q=>⟨rfl,q⟩
 |[],_::_,_,_,_,h,_=>by simp at h
 |_::_,[],_,_,_,h,_=>by simp at h
 |i::is,v::af,σ,H,Q,h,q=>⟨v,af,rfl,CR is af _ H Q (by simpa using h) q⟩
noncomputable def tv(K:W.Frag)(k:Nat)(ts:List Nat):kY:=λv σ H Q=>∃G d,bV G H/\Rep K G d v/\cL (Den.fh k d) (λos=>∀(ws:List D)(af:List V),os=ws.map some->bN K G ws af->Q (m3 ts af σ) H) (λ_=>False)
section
variable{X:aU}
theorem FJ(aS:X.N.Nodup):∀(ts:List Nat)(ys:List Str)(ah:List Expr),Den.namesOf ah=some ys->ts.length=ys.length->(∀(j i:Nat) y,ts[j]?=some i->ys[j]?=some y->X.N[i]?=some y/\Loc X.env.scope y/\(X.fn y=true\/X.env.scope.names.lookup y=some .local)) ->
  qz X ah (xJ ts)/\(assignEach ah X.env).length=ts.length/\(assignEach ah X.env).findIdx? (·.1)=none
 |ts,ys,[],h,aw,_=>by
  simp only[Den.namesOf,Zl]at h;subst h;have:ts=[]:=(by simpa using aw);subst this;exact⟨Sg,rfl,rfl⟩
 |ts,ys,e::ah,h,aw,ag=>by
  simp only[Den.namesOf]at h;cases e with
  |Name x p =>
   cases q:Den.namesOf ah with
   |none=>simp only[Den.nameOf,q]at h;cases h
   |some zs =>
    simp only[Den.nameOf,q,Zl]at h;subst h;cases ts with
    |nil=>simp at aw
    |cons i is =>
     obtain⟨a,b,c⟩:=ag 0 i x rfl rfl;obtain⟨J,aa,aI⟩:=FJ aS is zs ah q (by simpa using aw) λj i y ai av=>ag (j+1) i y (by simpa using ai) (by simpa using av)
     refine⟨Sf (FH aS a b c) J rfl,?_,?_⟩
     .show(assignEach ah X.env).length+1=is.length+1;rw[aa]
     .show((false,assign (.Name x p) X.env)::assignEach ah X.env).findIdx? (·.1)=none;rw[List.findIdx?_cons];simp only[Ym,YK];rw[aI];rfl
  |_=>simp only[Den.nameOf]at h;cases h
def FI(aj:X.calm=true)(aS:X.N.Nodup){k:Nat}{target:Expr}{ys:List Str}{ts:List Nat}(aW:Den.fs k target=some ys)(aw:ts.length=ys.length)(ag:∀(j i:Nat) y,ts[j]?=some i->ys[j]?=some y->X.N[i]?=some y/\Loc X.env.scope y/\(X.fn y=true\/X.env.scope.names.lookup y=some .local)):iB X target (tv X.K k ts):=by
 cases k with
 |zero =>
  cases target with
  |Name x p =>
   simp only[Den.fs,Zl]at aW;subst aW;obtain⟨i,rfl⟩:∃i,ts=[i]:=by
    match ts,aw with
    |[i],_=>exact⟨i,rfl⟩
   obtain⟨a,b,c⟩:=ag 0 i x rfl rfl;intro pins s σ H v u Q I r ⟨G,d,ab,ek,hw⟩;refine FH aS a b c pins s σ H v u Q I r ?_;exact hw [d] [v] rfl ⟨v,[],rfl,ek,rfl⟩
  |_=>simp only[Den.fs]at aW;cases aW
 |succ k =>
  cases target with
  |Tuple ah j p =>
   simp only[Den.fs]at aW;cases q:Den.namesOf ah with
   |none=>rw[q]at aW;cases aW
   |some zs =>
    rw[q]at aW;simp only at aW
    by_cases hz:zs.length=k+1
    .rw[if_pos hz]at aW;simp only[Zl]at aW;subst aW;obtain⟨J,aa,aI⟩:=FJ aS ts zs ah q aw ag;intro pins s σ H v u Q I r ⟨G,d,ab,ek,hw⟩;refine Se (n:=ts.length) aj J aa aI pins s σ H v u Q I r ?_;cases d with
     |tup ds =>
      obtain⟨a,xs,e,gO,Gu⟩:=ek;have ae:Den.fh (k+1) (.tup ds)=if ds.length=k+1 then .ok (ds.map some) else .bad:=rfl;rw[ae]at hw
      by_cases hd:ds.length=k+1
      .rw[if_pos hd]at hw;have DD:xs.length=ts.length:=(by rw[<- Gu.length,hd,aw,hz]);exact⟨a,xs,e,iS ab gO,DD,CR ts xs σ H Q DD (hw ds xs rfl Gu)⟩
      .rw[if_neg hd]at hw;exact hw.elim
     |_=>exact hw.elim
    .rw[if_neg hz]at aW;cases aW
  |_=>simp only[Den.fs]at aW;cases aW
end
structure nj(K:W.Frag)(P:az->az->Prop)(cy:jw)(ds:List D):Prop where
 go:∀(i:Nat) aL H1,P aL H1->i<ds.length->cy.go i H1
 j5:∀(i:Nat) aL H1 x aY d,P aL H1->bV aL H1->ds[i]?=some d->cy.j5 i H1 x aY->∃b5,Ext aL H1 b5 aY/\Rep K b5 d x
 stop:∀aL H1,P aL H1->cy.stop ds.length H1
noncomputable def oK(m:er)(G H:az):az->az->Prop:=λaL H1=>bV G aL/\(match m with|.view=>bV H H1|_=>bV aL H1)
noncomputable def jr(xp:cw)(X:aU)(ao:List Nat)(m:er)(f:a0->bw (List D)):TI:=λσ H R =>
 ∃G C,ew X.K ao G H C σ/\cL (f C) (λds=>∀cy aN aq,Ext G H aN aq->nj X.K (oK m aN aq) cy ds->ds.length<=16777216->R cy aq) (λc=>fI xp X c H)
def y5{α:Type}{r:bw α}{Q:α->Prop}{E:Nat->Prop}(h:cL (Den.iN r) Q E):∃a,r=.ok a/\Q a:=by
 cases r with
 |ok a=>exact⟨a,rfl,h⟩
 |exc c=>exact h.elim
 |bad=>exact h.elim
def ew.more{K:W.Frag}{ao:List Nat}{G H:az}{C:a0}{σ:b3}(h:ew K ao G H C σ)(h5:∀i∈ao,i<C.length){ws:List D}{af:List V}(r:bN K G ws af):ew K ao G H (C++ws.map some) (σ++af.map some) where
 len:=by rw[Yj,Yj,h.len,List.length_map,List.length_map,r.length]
 sub:=h.sub
 val:=λi d e hm=>by
  by_cases hi:i<C.length
  .rw[YB hi]at e;obtain⟨v,a,b⟩:=h.val i d e hm;exact⟨v,by rw[YB (by rw[<- h.len];exact hi)];exact a,b⟩
  .rw[YS (by omega),Yy]at e;cases q:ws[i-C.length]? with
   |none=>rw[q]at e;cases e
   |some w =>
    rw[q]at e;simp only[Option.map_some,Zl]at e;subst e;obtain⟨v,a,b⟩:=r.get q;exact⟨v,by rw[YS (by rw[<- h.len];omega),Yy,<- h.len,a];rfl,b⟩
 own:=λi d e hm aw=>by
  have hi:=h5 i hm;rw[YB hi]at e;obtain⟨v,a,b⟩:=h.own i d e hm aw;exact⟨v,by rw[YB (by rw[<- h.len];exact hi)];exact a,b⟩
 lst:=λi d e hm aw=>by
  have hi:=h5 i hm;rw[YB hi]at e;obtain⟨a,o,J,aa⟩:=h.lst i d e hm aw;exact⟨a,o,by rw[YB (by rw[<- h.len];exact hi)];exact J,aa⟩
 ed:=h.ed
 apart:=λi j ds ah a b ai av cz c1 hi aA ne J aa=>by
  have eh:=h5 i hi;have f5:=h5 j aA;rw[YB eh]at ai;rw[YB f5]at av;rw[YB (by rw[<- h.len];exact eh)]at J;rw[YB (by rw[<- h.len];exact f5)]at aa;exact h.apart i j ds ah a b ai av cz c1 hi aA ne J aa
theorem GO:∀(af:List V)(σ:b3)(gs:b3)(n:Nat),n=σ.length->gs.length=af.length->m3 (List.range' n af.length) af (σ++gs)=σ++af.map some
 |[],σ,gs,n,aB,aW=>by
  have:gs=[]:=(by simpa using aW);subst this;rfl
 |v::af,σ,gs,n,aB,aW=>by
  cases gs with
  |nil=>simp at aW
  |cons t gs =>
   rw[List.length_cons,List.range'_succ,m3];have e:(σ++t::gs).set n (some v)=(σ++[some v])++gs:=by
    rw[abb _ _ (by omega),aB];simp
   rw[e,GO af (σ++[some v]) gs (n+1) (by simp[aB]) (by simpa using aW)];simp
section
variable{xp:cw}{X:aU}{ao:List Nat}{ip:a0->bw (List D)}{eY:a0->bw D}{cj:a0->bw Bool}{elt target iter:Expr}{ifs:List Expr}{scope:Scope}{pos:Pos}{xs cY:List Str}{k:Nat}
noncomputable def i7(k:Nat)(cj:a0->bw Bool)(eY:a0->bw D)(C:a0)(d:D):bw (Option D):=Den.fh k d>>=λaf=>cj (C++af)>>=λb=>if b then eY (C++af)>>=λy=>.ok (some y) else .ok none
noncomputable def gW(X:aU)(scope:Scope)(cY:List Str)(s3:Shared)(b6:az)(bB:List Addr)(pins:List (Addr×Obj)):aU:=nC X (compEnvC scope (gB X.env scope.names []) s3.heap.objs.size X.env) cY s3 b6 bB pins
def Jf{k:Nat}{d:D}{os:List (Option D)}(h:Den.fh k d=.ok os):∃ws:List D,os=ws.map some:=by
 cases k with
 |zero=>cases h;exact⟨[d],rfl⟩
 |succ k =>
  cases d with
  |tup ds =>
   have ae:Den.fh (k+1) (.tup ds)=if ds.length=k+1 then .ok (ds.map some) else .bad:=rfl;rw[ae]at h
   by_cases hd:ds.length=k+1
   .rw[if_pos hd]at h;cases h;exact⟨ds,rfl⟩
   .rw[if_neg hd]at h;cases h
  |_=>cases h
end
section
variable{xp:cw}{X:aU}{ao:List Nat}{ip:a0->bw (List D)}{eY:a0->bw D}{cj:a0->bw Bool}{elt target iter:Expr}{ifs:List Expr}{scope:Scope}{pos:Pos}{xs cY:List Str}{k:Nat}
noncomputable def qC(xp:cw)(X:aU)(ao:List Nat)(scope:Scope)(cY:List Str)(ifs:List Expr)(cj:a0->bw Bool):Prop :=
 (ifs=[]/\cj=λ_=>.ok true)\/∃(c:Expr)(th:a0->bw D),ifs=[c]/\(cj=λC=>th C>>=Den.fJ)/\∀s3 b6 bB pins,dH (gW X scope cY s3 b6 bB pins) c (fO xp (gW X scope cY s3 b6 bB pins) ao th)
def Wc(aW:qC xp X ao scope cY ifs cj){s3:Shared}{b6:az}{bB:List Addr}{pp pins:List (Addr×Obj)}{s:Shared}{σ:b3}{G H:az}{C:a0}{b:Bool}{Q:Bool->Shared->Prop}(I:Inv (gW X scope cY s3 b6 bB pp) pins σ H s)(ab:ew X.K ao G H C σ)(ae:cj C=.ok b)(aJ:∀s' aN aq,Inv (gW X scope cY s3 b6 bB pp) pins σ aq s'->Ext G H aN aq->Q b s'):
  wpAny (model X.prog X.w) X.A (forIn ifs true λc r=>if r=true then do let ok <- isTrue c (gW X scope cY s3 b6 bB pp).env (eval c (gW X scope cY s3 b6 bB pp).env);pure (ForInStep.yield ok) else pure (ForInStep.yield r)) Q (λ_ _=>False) s:=by
 rcases aW with⟨rfl,rfl⟩|⟨c,th,rfl,rfl,h⟩
 .cases ae;exact wpAny_tests_nil (aJ s G H I (Ext.refl ab.sub))
 .refine wpAny_tests_one (Zh (h s3 b6 bB pp pins s σ H (λik aq=>ik=b/\∃aN,Ext G H aN aq) I ⟨G,C,ab,?_⟩) (λik s' ⟨aq,iZ,e,aN,x⟩=>?_) λ_ _ z=>z)
  .have ae:(th C>>=Den.fJ)=.ok b:=ae;rw[ae];exact λaN aq x=>⟨rfl,aN,x⟩
  .subst e;exact aJ s' aN aq iZ x
def Jg{d:D}{os:List (Option D)}(au:Den.fs k target=some xs)(h:Den.fh k d=.ok os):os.length=xs.length:=by
 cases k with
 |zero =>
  cases h;cases target with
  |Name x p=>simp only[Den.fs,Zl]at au;subst au;rfl
  |_=>simp only[Den.fs]at au;cases au
 |succ k =>
  have ag:xs.length=k+1:=by
   cases target with
   |Tuple ah j p =>
    simp only[Den.fs]at au;cases q:Den.namesOf ah with
    |none=>rw[q]at au;cases au
    |some zs =>
     rw[q]at au;simp only at au
     by_cases hz:zs.length=k+1
     .rw[if_pos hz]at au;cases au;exact hz
     .rw[if_neg hz]at au;cases au
   |_=>simp only[Den.fs]at au;cases au
  cases d with
  |tup ds =>
   have ae:Den.fh (k+1) (.tup ds)=if ds.length=k+1 then .ok (ds.map some) else .bad:=rfl;rw[ae]at h
   by_cases hd:ds.length=k+1
   .rw[if_pos hd]at h;cases h;rw[List.length_map,hd,ag]
   .rw[if_neg hd]at h;cases h
  |_=>cases h
def Qy{a b:List D}(h:a.map some=b.map some):a=b:=by
 induction a generalizing b with
 |nil=>cases b with|nil=>rfl|cons _ _=>simp at h
 |cons x a aF=>cases b with
  |nil=>simp at h
  |cons y b=>simp only[List.map_cons,List.cons.injEq,Zl]at h;rw[h.1,aF h.2]
noncomputable def Ay(X:aU)(pins:List (Addr×Obj))(σ:b3)(G H:az)(use:Option (Value->Sem Unit))(Qc:Value->Shared->Prop)(ys:List D):Prop :=
 ∀(s4:Shared)(aq aN:az)(bG du:Addr)(oa:Str->Option Value),Ext G H aN aq->cE X.K H aN aq .fresh (.lst ys) (.ref du)->s4.heap.Ns bG oa->kb X pins aq bG->(∀h',Heap.SameBut bG s4.heap h'->Inv X pins σ aq { s4 with heap:=h' }) ->
  compPost (model X.prog X.w) X.A X.cA use Qc (.ref du) bG (.ok .next) s4
structure H8(X Y:aU)(f:D->bw (Option D))(gV:Nat->Heap->Prop)(bB:List Addr)(ds ys:List D)(xs:List Str)(σ:b3)(b5 aY:az)(du:Addr)(n:Nat)(s':Shared)(i:Nat)(gs:b3)(aq aN:az)(l2 rest:List D)(hV:List V):Prop where
 J:n=ds.length-i
 aa:i<=ds.length
 aI:gs.length=xs.length
 aX:Inv Y [] (σ++gs) aq s'
 cc:gV i s'.heap
 fk:∀b∈bB,aq b=none
 g8:Ext b5 aY aN aq
 dV:aq du=some (.lst hV)
 kn:aN du=none
 tD:bN X.K aN l2 hV
 C2:l2.length<=i
 h3:Den.cZ f (ds.drop i)=.ok rest
 Xs:ys=l2++rest
def Lk{cj:a0->bw Bool}{eY:a0->bw D}{k:Nat}{C:a0}{d:D}{r rest:List D}(h:Den.cZ (i7 k cj eY C) (d::r)=.ok rest):∃(ws:List D)(b:Bool)(p3:List D),Den.fh k d=.ok (ws.map some)/\cj (C++ws.map some)=.ok b /\
  Den.cZ (i7 k cj eY C) r=.ok p3/\((b=false/\rest=p3)\/∃y,b=true/\eY (C++ws.map some)=.ok y/\rest=y::p3):=by
 simp only[Den.cZ]at h;cases aP:i7 k cj eY C d with
 |exc c=>rw[aP]at h;cases h
 |bad=>rw[aP]at h;cases h
 |ok o =>
 rw[aP]at h;simp only[Den.R.lO]at h;cases a9:Den.cZ (i7 k cj eY C) r with
 |exc c=>rw[a9]at h;cases h
 |bad=>rw[a9]at h;cases h
 |ok p3 =>
 rw[a9]at h;simp only[Den.R.lO]at h;unfold i7 at aP;cases b4:Den.fh k d with
 |exc c=>rw[b4]at aP;cases aP
 |bad=>rw[b4]at aP;cases aP
 |ok os =>
 rw[b4]at aP;simp only[Den.R.lO]at aP;obtain⟨ws,rfl⟩:=Jf b4;cases dg:cj (C++ws.map some) with
 |exc c=>rw[dg]at aP;cases aP
 |bad=>rw[dg]at aP;cases aP
 |ok b =>
 rw[dg]at aP;simp only[Den.R.lO]at aP;cases b with
 |false=>cases aP;cases h;exact⟨ws,false,_,rfl,dg,rfl,.inl ⟨rfl,rfl⟩⟩
 |true =>
  simp only[Zo]at aP;cases hh:eY (C++ws.map some) with
  |exc c=>rw[hh]at aP;cases aP
  |bad=>rw[hh]at aP;cases aP
  |ok y =>
  rw[hh]at aP;cases aP;cases h;exact⟨ws,true,_,rfl,dg,rfl,.inr ⟨y,rfl,hh,rfl⟩⟩
def BM (aj : X.calm = true) (h5 : ∀ i ∈ ao, i < X.N.length) (B : oI X scope xs cY) (au : Den.fs k target = some xs) (n2 : ∀ x, foldedSetIterable iter X.env x = pure x)
    (hi : gZ X target iter (jr xp X ao .view ip)) (he : ∀ s3 b6 bB pins, aO (gW X scope cY s3 b6 bB pins) elt (bp xp (gW X scope cY s3 b6 bB pins) ao .val eY)) (aW : qC xp X ao scope cY ifs cj)
    {use : Option (Value -> Sem Unit)} {Qc : Value -> Shared -> Prop} {pins : List (Addr × Obj)} {s : Shared} {σ : b3} {H G : az} {C : a0} (I : Inv X pins σ H s) (ab : ew X.K ao G H C σ)
    (hw : cL (ip C >>= fun ds => Den.iN (Den.cZ (i7 k cj eY C) ds)) (Ay X pins σ G H use Qc) (fun c => fI xp X c H)) {pos' : Pos} :
    wpAny (model X.prog X.w) X.A (comprehension (.ListComp elt [⟨target, iter, ifs, 0⟩] scope pos) scope X.env pos' (newList []) false (eval iter X.env) use) Qc X.cA s := by
  have NF : closureFor scope X.env = pure (gB X.env scope.names []) := JN fun x ag e => by
    have := B.fr x ag e
    exact I.ok.has x.1 (by rcases this with q | q; exact .inl q; exact .inr q)
  refine wpAny_comprehension_free (use := use) rfl n2 NF B.kind B.names ?_
  refine bO (hi pins s σ H (fun cy aq => ∃ aN ds ys, Ext G H aN aq /\ nj X.K (oK .view aN aq) cy ds /\ ds.length <= 16777216 /\ Den.cZ (i7 k cj eY C) ds = .ok ys /\ Ay X pins σ G H use Qc ys) I
    ⟨G, C, ab, bX (bt.mp hw) (fun ds gO cy aN aq x iI hz => ?_) fun _ q => q⟩) fun v s1 J => bO J fun yG s2 aa => ?_
  · obtain ⟨ys, e, q⟩ := y5 gO
    exact ⟨aN, ds, ys, x, iI, hz, e, q⟩
  obtain ⟨it, bB, gV, cy, aY, rfl, cM, T, eD, f2, b5, ds, ys, bF, iI, hz, OZ, fin⟩ := aa
  refine YV (wpAny_newFunctionEnv B.mV (by intro y aD; simp at aD) (fun hL yi yr => ?_) B.kind)
  dsimp only at yi yr ⊢
  have eV : Inv X pins σ (upd aY s2.heap.objs.size (.lst [])) { s2 with heap := s2.heap.push { cls := .type "list", data := .seq ([] : List Value).toArray } } := cM.Ez (t' := s2.toks) (ys := []) (its := []) .nil (Yp _)
  generalize tX : ({ s2 with heap := s2.heap.push { cls := .type "list", data := .seq ([] : List Value).toArray } } : Shared) = s3 at eV
  have Du : s3.heap = s2.heap.push { cls := .type "list", data := .seq ([] : List Value).toArray } := by rw [<- tX]
  rw [<- Du] at yi yr ⊢
  generalize Dc : s2.heap.objs.size = du at *
  have rh : aY du = none := by rw [<- Dc]; exact cM.fresh
  have NQ : ∀ b ∈ bB, b ≠ du := fun b ae z => by
    obtain ⟨o, e, _⟩ := T.obj _ _ eD b ae
    have := Yu e
    rw [z, <- Dc] at this
    exact absurd this (ZV _)
  have Dz : ∀ b o, s2.heap.get? b = some o -> s3.heap.get? b = some o := fun b o e => by rw [Du]; exact Yh _ e
  have cJ : ({ heap := hL, gens := s2.gens, drawn := s2.drawn, toks := s2.toks + ([] : List (Str × Value)).length, os := s2.os } : Shared) = { s3 with heap := hL, toks := s2.toks } := by rw [<- tX]; rfl
  rw [cJ]
  show codeAny (model X.prog X.w) X.A (Code.compStart (elt.ListComp [{ target := target, iter := iter, ifs := ifs, is_async := 0 }] scope pos) 0 (Value.ref it) (Value.ref du) (compEnvC scope (gB X.env scope.names []) s3.heap.objs.size X.env))
    (compPost (model X.prog X.w) X.A X.cA use Qc (Value.ref du) s3.heap.objs.size) { s3 with heap := hL, toks := s2.toks }
  have ps : hL.Ns s3.heap.objs.size (fun _ => none) := by simpa using yi
  have mF : ∀ b o, s3.heap.get? b = some o -> hL.get? b = some o := fun b o e => yr.extBut b o (YH (Yu e)) (Yh _ e)
  have tM : ∀ b ∈ bB, kb X pins (upd aY du (.lst [])) b := fun b ae => ⟨by rw [dm (NQ b ae)]; exact (f2 b ae).1, (f2 b ae).2⟩
  have Ot : ∀ b ∈ bB, ∃ o, s3.heap.get? b = some o := fun b ae => by
    obtain ⟨o, e, _⟩ := T.obj _ _ eD b ae
    exact ⟨o, Dz b o e⟩
  have sL := Jl (tk := s2.toks) eV tM Ot B ps mF
  generalize gE : nC X (compEnvC scope (gB X.env scope.names []) s3.heap.objs.size X.env) cY s3 (upd aY du (.lst [])) bB pins = Y at sL
  have Xm : Y = gW X scope cY s3 (upd aY du (.lst [])) bB pins := gE.symm
  have G9 : gV 0 hL := T.keep _ _ _ eD fun b ae o e => mF b o (Dz b o e)
  have G2 : ew X.K ao b5 aY C σ := ab.ext bF
  have Oj : ∀ i ∈ ao, i < C.length := fun i hi => by rw [ab.len, I.len]; exact h5 i hi
  have XP : ∀ (i : Nat) (d : D), i ∈ ao -> gN d = true -> C[i]? = some (some d) -> σ[i]? ≠ some (some (V.ref du)) := fun i d hi aw e z => by
    obtain ⟨a, af, J, aa, _⟩ := G2.lst i d e hi aw
    rw [J] at z
    injection z with z
    injection z with z
    injection z with z
    rw [z, rh] at aa; cases aa
  have xF : ∀ {aq : az}, (∀ b ∈ bB, aq b = none) -> ∀ b ∈ bB, kb Y [] aq b := fun aB b ae => by
    obtain ⟨f0, f1, Mj, fi, f4, fj⟩ := tM b ae
    obtain ⟨ai, av⟩ := sL.ok.Cv b (by rw [<- gE]; exact ae)
    refine ⟨aB b ae, ai, sL.ok.tf b (by rw [<- gE]; exact ae), .inl (by rw [<- gE]; exact ae), av, fun p aE => ?_⟩
    rw [<- gE] at aE
    exact fj p (by simpa [nC] using aE)
  have loop : codeAny (model X.prog X.w) X.A (.compLoop (.ListComp elt [⟨target, iter, ifs, 0⟩] scope pos) 0 (.ref it) (.ref du) (compEnvC scope (gB X.env scope.names []) s3.heap.objs.size X.env))
      (compPost (model X.prog X.w) X.A X.cA use Qc (Value.ref du) s3.heap.objs.size) { s3 with heap := hL, toks := s2.toks } := by
    refine J2 (fun n s' => ∃ (i : Nat) (gs : b3) (aq aN : az) (l2 rest : List D) (hV : List V), H8 X Y (i7 k cj eY C) gV bB ds ys xs σ b5 aY du n s' i gs aq aN l2 rest hV) ?_ ds.length
      ⟨0, List.replicate xs.length none, _, b5, [], ys, [], by simp, Yp _, by simp, sL, G9, fun b ae => (tM b ae).1, Ext.own bF.sub rh (fun _ z => nomatch z), dS, bF.sub.free rh, rfl, Yi _, by simpa using OZ, rfl⟩
    rintro n s' ⟨i, gs, aq, aN, l2, rest, hV, rfl, Dx, O1, iZ, aM, CM, jt, pb, De, zp, XH, kv, t2⟩
    have jJ : oK .view b5 aY aN aq := ⟨jt.g, jt.h⟩
    have Dq : Y.calm = true := by rw [<- gE]; exact aj
    have x1 : Y.prog = X.prog := by rw [<- gE]; rfl
    have x2 : Y.w = X.w := by rw [<- gE]; rfl
    have Dp : Y.K = X.K := by rw [<- gE]; rfl
    have Dn : Y.A = X.A := by rw [<- gE]; rfl
    have Xv : Y.cA = fun _ _ => False := by rw [<- gE]; rfl
    by_cases b7 : i < ds.length
    · have hd : ds[i]? = some ds[i] := Yl b7
      generalize ds[i] = d at hd
      have NJ : ds.drop i = d :: ds.drop (i + 1) := by
        have := YG.mp hd
        obtain ⟨J, aa⟩ := this
        rw [<- aa]; exact Y5 J
      rw [NJ] at kv
      have item := T.item Y x1 x2 Dp Dq i [] s' (σ ++ gs) aq (fun _ _ => False) iZ (xF CM) aM (iI.go i aN aq jJ b7)
      rw [Dn] at item
      refine bO item fun r s4 ⟨u, a7, aX⟩ => ?_
      subst a7
      refine bO aX fun _ s5 ⟨x, l8, l9, f9, Av, lV, xG⟩ => ?_
      obtain ⟨qr, sA, ek⟩ := iI.j5 i aN aq x l8 d jJ jt.sub hd Av
      have vD := l9.pinned (xF xG) (T.obj _ _ lV)
      obtain ⟨ws, b, p3, b4, dg, a9, ae⟩ := Lk kv
      have ry : ws.length = xs.length := by have := Jg au b4; simpa using this
      subst gE
      have a4 : iB (nC X (compEnvC scope (gB X.env scope.names []) s3.heap.objs.size X.env) cY s3 (upd aY du (.lst [])) bB pins) target (tv X.K k (List.range' X.N.length xs.length)) := by
        refine FI (X := nC X (compEnvC scope (gB X.env scope.names []) s3.heap.objs.size X.env) cY s3 (upd aY du (.lst [])) bB pins) aj B.ej au (by simp) fun j cQ y ai av => ?_
        rw [List.getElem?_range' (YG.mp av).1] at ai
        have aD : y ∈ xs := ZD av
        have pn : (relabel scope X.env).names.lookup y = some .local := uP (B.fs y aD) (by decide)
        cases ai
        refine ⟨?_, .inl pn, .inr pn⟩
        show cY[X.N.length + 1 * j]? = some y
        rw [Nat.one_mul, B.new j]; exact av
      refine bO (a4 _ s5 (σ ++ gs) l8 x u (fun vw ng => ∃ af : List V, vw = σ ++ af.map some /\ af.length = xs.length /\ ng = l8 /\ bN X.K qr ws af) vD f9 ⟨qr, d, sA.sub, ek, ?_⟩) fun _ Gw ⟨vw, ng, vE, af, i6, DR, qZ, rws⟩ => ?_
      · rw [b4]
        intro Yd af e r
        have e := Qy e
        subst e
        have aw : af.length = xs.length := by rw [<- r.length, ry]
        refine ⟨af, ?_, aw, rfl, r⟩
        rw [<- aw]
        exact GO af σ gs X.N.length (I.len.symm) (by rw [O1, aw])
      subst i6
      subst qZ
      have Ar : Ext b5 aY qr ng := jt.trans sA
      have G3 : ew X.K ao qr ng (C ++ ws.map some) (σ ++ af.map some) := (G2.ext Ar).more Oj rws
      have C9 : ng du = some (.lst hV) := sA.h _ _ pb
      have Np : qr du = none := sA.new du De (by rw [pb]; exact fun z => nomatch z)
      refine Wc aW vE G3 dg fun sh qt hs ht nc => ?_
      have xU : hs du = some (.lst hV) := nc.h _ _ C9
      have Df : qt du = none := nc.new du Np (by rw [C9]; exact fun z => nomatch z)
      have F5 : bN X.K qt l2 hV := (zp.mono sA.g).mono nc.g
      rcases ae with ⟨rfl, rfl⟩ | ⟨y, rfl, hh, rfl⟩
      · simp only [Ym, YK]
        refine ⟨ds.length - (i + 1), by omega, i + 1, af.map some, hs, qt, l2, rest, hV, rfl, by omega, by rw [List.length_map]; exact DR, ht.qi, T.keep _ _ _ lV fun b ae o e => (ht.pin (b, o) (Yw _ (Yw _ (pM ae e)))).1, fun b ae => ?_, Ar.trans nc, xU, Df, F5, by omega, a9, t2⟩
        obtain ⟨bT, e, _⟩ := T.obj _ _ lV b ae
        exact (ht.pin (b, bT) (Yw _ (Yw _ (pM ae e)))).2.1
      · simp only [Zo]
        refine bO (he s3 (upd aY du (.lst [])) bB pins _ sh (σ ++ af.map some) hs (fun v nh => ∃ l7, Ext qt hs l7 nh /\ Rep X.K l7 y v) ht ⟨qt, C ++ ws.map some, G3.ext nc, by rw [hh]; exact fun v l7 nh ql r9 => ⟨l7, ql, r9⟩⟩) fun u8 Ts ⟨vj, nh, Ie, r9, l7, ql, S4⟩ => ?_
        have Nn : nh du = some (.lst hV) := ql.h _ _ xU
        have Dg : l7 du = none := ql.new du Df (by rw [xU]; exact fun z => nomatch z)
        have hlen : hV.length < sizeLine := by rw [<- zp.length, sizeLine_eq]; omega
        refine bO (E1 (X := gW X scope cY s3 (upd aY du (.lst [])) bB pins) _ Ts (σ ++ af.map some) nh (.ref du) [vj] (.ref du) [u8] (fun _ Az => Az = upd nh du (.lst (hV ++ [vj]))) Ie rfl (.cons r9 .nil) ⟨du, hV, vj, rfl, rfl, Nn, hlen, rfl⟩) fun _ X7 ⟨_, Az, vF, _, s8⟩ => ?_
        subst s8
        have sz : Ext b5 aY l7 nh := (Ar.trans nc).trans ql
        refine ⟨ds.length - (i + 1), by omega, i + 1, af.map some, _, l7, l2 ++ [y], p3, hV ++ [vj], rfl, by omega, by rw [List.length_map]; exact DR, vF.qi, T.keep _ _ _ lV fun b ae o e => (vF.pin (b, o) (Yw _ (Yw _ (pM ae e)))).1, fun b ae => ?_,
          ⟨sz.g, fun b o e => ?_, fun b o e => ?_, sz.new, fun b xs e => sz.ed b xs (by
            by_cases q : b = du
            · subst q; rw [dS] at e; cases e
            · rw [dm q] at e; exact e)⟩, dS, Dg, (F5.mono ql.g).snoc S4, by rw [Yj, List.length_singleton]; omega, a9, by rw [t2, Yr]; rfl⟩
        · obtain ⟨bT, e, _⟩ := T.obj _ _ lV b ae
          exact (vF.pin (b, bT) (Yw _ (Yw _ (pM ae e)))).2.1
        · rw [dm (mS e rh)]; exact sz.h b o e
        · rw [dm (mS e Dg)]; exact sz.sub b o e
    · have N1 : i = ds.length := by omega
      subst N1
      have a7 : rest = [] := by
        rw [aaJ] at kv
        simp only [Den.cZ] at kv
        cases kv; rfl
      subst a7
      rw [Y1] at t2
      subst t2
      have done := T.done Y x1 x2 Dp Dq ds.length [] s' (σ ++ gs) aq (fun _ _ => False) iZ (xF CM) aM (iI.stop aN aq jJ)
      rw [Dn] at done
      refine bO done fun r s4 ⟨a7, fP⟩ => ?_
      subst a7
      obtain ⟨oa, DF, _⟩ := fP.loc
      have xj : Y.env.locals = s3.heap.objs.size := by rw [<- gE]; rfl
      rw [xj] at DF
      refine fin s4 aq aN s3.heap.objs.size du oa (bF.trans jt) ⟨du, hV, rfl, pb, bF.h.free rh, De, zp⟩ DF (eV.q9 (Yi _) (by have := fP.free; rw [xj] at this; exact this)) fun h' cK => ?_
      have C8 : aq s3.heap.objs.size = none := by have := fP.free; rw [xj] at this; exact this
      have un : fg (iq X.stack) bB (upd aY du (.lst [])) aq s3.heap s4.heap := by have := fP.base; rw [<- gE] at this; exact this
      have mR : ∀ b o, s3.heap.get? b = some o -> b ≠ s3.heap.objs.size := fun b o e => YH (Yu e)
      have Wy : fg (iq X.stack) bB (upd aY du (.lst [])) aq s3.heap h' :=
        ⟨fun b o e n ae ag => (cK.2 b (mR b o e)).trans (un.keep b o e n ae ag), fun b o e n ae ag => by obtain ⟨cn, q⟩ := un.slot b o e n ae ag; exact ⟨cn, (cK.2 b (mR b o e)).trans q⟩, un.free,
          fun b o e ag => by obtain ⟨bH, q⟩ := un.there b o e ag; exact ⟨bH, (cK.2 b (mR b o e)).trans q⟩, un.kQ, un.jI, un.kO⟩
      have yl : ep X.prog X.w aq h' := fun b o e => by
        have q := fP.bM b o e
        rw [x1, x2] at q
        refine q.kM (fun c v cT q => (cK.2 c ?_).trans q) (fun _ q => q) fun _ _ q => q
        rcases cT with z | z
        · rw [z]; rintro rfl; rw [C8] at e; cases e
        · rintro rfl; rw [C8] at z; cases z
      have RA : s4.os = s3.os := by have := fP.os; rw [<- gE] at this; exact this
      have Ig : Inv X pins σ aq { s4 with heap := h' } := eV.Bp (s' := { s4 with heap := h' }) RA Wy yl fP.bare fun b ae => by
        obtain ⟨f0, f1, Mj, fi, f4, fj⟩ := tM b ae
        exact ⟨fi, f1, f4, fj⟩
      exact Ig
  refine codeAny_compStart_list loop (T.self _ _ _ _ _ G9 loop)
def zB(aj:X.calm=true)(h5:∀i∈ao,i<X.N.length)(B:oI X scope xs cY)(au:Den.fs k target=some xs)(n2:∀x,foldedSetIterable iter X.env x=pure x)(hi:gZ X target iter (jr xp X ao .view ip))(he:∀s3 b6 bB pins,aO (gW X scope cY s3 b6 bB pins) elt (bp xp (gW X scope cY s3 b6 bB pins) ao .val eY))(aW:qC xp X ao scope cY ifs cj):
  aO X (.ListComp elt [⟨target,iter,ifs,0⟩] scope pos) (bp xp X ao .fresh λC=>ip C>>=λds=>Den.iN (Den.cZ (i7 k cj eY C) ds)>>=λys=>.ok (.lst ys)):=by
 intro pins s σ H Q I ⟨G,C,ab,hw⟩;rw[eval_ListComp];refine BM aj h5 B au n2 hi he aW I ab (use:=none) (Qc:=eJ X pins σ Q) ?_;have hw:=bt.mp hw;refine bt.mpr (bX hw (λds aZ=>?_) λ_ q=>q);refine bX (bt.mp aZ) (λys aQ s4 aq aN bG du oa x r aB hf inv=>?_) λ_ q=>q
 exact⟨oa,aB,λh' cK=>⟨.ref du,aq,inv h' cK,rfl,aQ _ aN aq x r⟩⟩
end
section
variable{xp:cw}{X:aU}{ao:List Nat}{m:er}{f bo cm:a0->bw D}{l a b dh:Expr}{pos p:Pos}
def Sj{hj:TE}(aw:aO X l hj):gZ X dh l (λσ H R=>hj σ H λx H1=>∃a xs,x=.ref a/\((eF X.K H1 a xs/\(xs.length<=sizeLine->R (vG X.K a) H1))\/(fR X.K H1 a xs/\(xs.length<=sizeLine->R (vH X.K a) H1)))):=by
 intro pins s σ H R I h;refine bO (aw pins s σ H _ I h) λv s1 ⟨x,H1,bb,aH,aP⟩=>?_
 obtain⟨a,xs,e,⟨aJ,q⟩|⟨aJ,q⟩⟩:=aP
 .subst e;cases aH;obtain⟨its,cb,p,hz⟩:=bb.list aJ;refine wpAny_pyIter_list p.isList ?_;refine⟨s1.heap.objs.size,[s1.heap.objs.size],_,_,H1,rfl,bb.kept (t':=s1.toks) λb o e=>Yh _ e,Wr a _,⟨_,Yx _ rfl,rfl,rfl⟩,λb ae=>?_,q hz⟩;have e:b=s1.heap.objs.size:=(by simpa using ae);subst e;exact bb.q9 (Yi _) (bb.bM.fresh (Yi _))
 .subst e;cases aH;obtain⟨its,cb,p,hz⟩:=bb.tuple aJ;refine wpAny_pyIter_tuple (show s1.heap.IsTuple a its.toArray from p) ?_;refine⟨s1.heap.objs.size,[s1.heap.objs.size],_,_,H1,rfl,bb.kept (t':=s1.toks) λb o e=>Yh _ e,Wt a _,⟨_,Yx _ rfl,rfl,rfl⟩,λb ae=>?_,q hz⟩;have e:b=s1.heap.objs.size:=(by simpa using ae);subst e;exact bb.q9 (Yi _) (bb.bM.fresh (Yi _))
def D3{K:W.Frag}{P:az->az->Prop}{G:az}{a:Addr}{xs:List V}{ds:List D}(es:∀aL H1,P aL H1->bV G aL/\eF K H1 a xs)(r:bN K G ds xs):nj K P (vG K a) ds where
 go:=λi aL H1 h hi=>by
  obtain⟨_,q⟩:=es aL H1 h;have ag:i<xs.length:=(by rw[<- r.length];exact hi);exact⟨xs,xs[i],q,Yl ag⟩
 j5:=λi aL H1 x aY d h ab hd ⟨e,y⟩=>by
  obtain⟨g,q⟩:=es aL H1 h;subst e;obtain⟨v,J,aa⟩:=r.get hd;have:=y xs q;rw[J]at this;cases this;exact⟨aL,Ext.refl ab,aa.mono g⟩
 stop:=λaL H1 h=>⟨xs,(es aL H1 h).2,by rw[r.length];exact Yi _⟩
def Pt{K:W.Frag}{P:az->az->Prop}{G:az}{a:Addr}{xs:List V}{ds:List D}(es:∀aL H1,P aL H1->bV G aL/\fR K H1 a xs)(r:bN K G ds xs):nj K P (vH K a) ds where
 go:=λi aL H1 h hi=>by
  obtain⟨_,q⟩:=es aL H1 h;have ag:i<xs.length:=(by rw[<- r.length];exact hi);exact⟨xs,xs[i],q,Yl ag⟩
 j5:=λi aL H1 x aY d h ab hd ⟨e,y⟩=>by
  obtain⟨g,q⟩:=es aL H1 h;subst e;obtain⟨v,J,aa⟩:=r.get hd;have:=y xs q;rw[J]at this;cases this;exact⟨aL,Ext.refl ab,aa.mono g⟩
 stop:=λaL H1 h=>⟨xs,(es aL H1 h).2,by rw[r.length];exact Yi _⟩
def yL{K:W.Frag}{G:az}{ds:List D}{xs:List V}(r:bN K G ds xs)(h:xs.length<=sizeLine):ds.length<=16777216:=by rw[r.length,<- sizeLine_eq];exact h
def T1(hm:m=.view\/m=.val)(aw:aO X l (bp xp X ao m f)):gZ X dh l (jr xp X ao m λC=>f C>>=λd=>Den.fE d):=by
 intro pins s σ H R I ⟨G,C,ab,hw⟩;refine Sj aw pins s σ H R I ?_;refine⟨G,C,ab,bX (bt.mp hw) (λd k v aL H1 aR aH=>?_) λ_ q=>q⟩;cases d with
 |lst ds =>
  rcases hm with rfl|rfl
  .obtain⟨a,xs,rfl,gO,r⟩:=j3 (X:=X) aH;exact⟨a,xs,rfl,.inl ⟨gO,λhz=>k _ aL H1 aR (D3 (G:=aL) (λb5 aY ⟨J,aa⟩=>⟨J,lU aa gO⟩) r) (yL r hz)⟩⟩
  .obtain⟨a,xs,rfl,gO,r⟩:=aH;exact⟨a,xs,rfl,.inl ⟨lU aR.sub gO,λhz=>k _ aL H1 aR (D3 (G:=aL) (λb5 aY ⟨J,aa⟩=>⟨J,lU aa (lU J gO)⟩) r) (yL r hz)⟩⟩
 |tup ds =>
  have aH:Rep X.K aL (.tup ds) v:=(by rcases hm with rfl|rfl<;>exact aH);obtain⟨a,xs,rfl,gO,r⟩:=aH;refine⟨a,xs,rfl,.inr ⟨iS aR.sub gO,λhz=>k _ aL H1 aR (Pt (G:=aL) (λb5 aY ⟨J,aa⟩=>?_) r) (yL r hz)⟩⟩;rcases hm with rfl|rfl
  .exact⟨J,G7 aa (iS aR.sub gO)⟩
  .exact⟨J,G7 aa (iS J gO)⟩
 |_=>exact k.elim
def D4{K:W.Frag}{P:az->az->Prop}{lo hi:Int}:nj K P (oJ lo (hi-lo).toNat) (Den.eO lo hi) where
 go:=λi aL H1 _ b7=>by
  show i<(hi-lo).toNat;unfold Den.eO at b7;simpa using b7
 j5:=λi aL H1 x aY d _ ab hd ⟨e,y⟩=>by
  subst e;unfold Den.eO at hd;rw[Yy]at hd;cases q:(List.range (hi-lo).toNat)[i]? with
  |none=>rw[q]at hd;cases hd
  |some k =>
   rw[q]at hd;have au:k=i:=by
    have:=YG.mp q;obtain⟨_,e⟩:=this;rw[<- e];simp
   subst au;cases hd;exact⟨aL,Ext.refl ab,y⟩
 stop:=λaL H1 _=>by
  show(hi-lo).toNat<=_;unfold Den.eO;simp
def zx{i j:Int}{Q:List D->Prop}{E:Nat->Prop}(h:cL (Den.iQ i j) Q E):(-(2 ^ 62)<=i/\i<2 ^ 62/\-(2 ^ 62)<=j/\j<2 ^ 62)/\(Den.eO i j).length<=16777216/\Q (Den.eO i j):=by
 unfold Den.iQ at h;cases q:(Den.oq i&&Den.oq j&&decide ((j-i).toNat<=1000000)) with
 |false=>rw[q]at h;exact h.elim
 |true =>
  rw[q]at h;simp only[Yg,Den.oq,YD]at q;obtain⟨⟨⟨a1,a2⟩,a3,gy⟩,oQ⟩:=q;refine⟨⟨by omega,by omega,by omega,by omega⟩,?_,h⟩;unfold Den.eO;rw[List.length_map,List.length_range];omega
def Uh{x:Str}(ag:x="range")(a4:et X x)(hm:X.aK x=none)(ax:aO X a (bp xp X ao .view bo))(cJ:starEach [a] X.env=[(false,eval a X.env)]):
  gZ X dh (.Call (.Name x p) [a] [] pos) (jr xp X ao m λC=>bo C>>=λd=>Den.e1 d>>=λi=>Den.iQ 0 i):=by
 subst ag;intro pins s σ H R I ⟨G,C,ab,hw⟩;refine Sh a4 hm (kG ax cJ) cJ pins s σ H R I ?_;refine⟨G,C,ab,bX (bt.mp hw) (λd k v aL H1 aR aH=>?_) λ_ q=>q⟩;have k:=bt.mp k;cases d with
 |int i =>
  obtain⟨⟨_,_,b1,b2⟩,hz,q⟩:=zx k;refine⟨i,by rw[cE.pU aH],b1,b2,?_⟩;have:=q (oJ 0 (i-0).toNat) aL H1 aR D4 hz;rw[Int.sub_zero]at this;exact this
 |_=>exact k.elim
def Ui{x:Str}(ag:x="range")(a4:et X x)(hm:X.aK x=none)(ax:aO X a (bp xp X ao .view bo))(ae:aO X b (bp xp X ao .view cm))(cJ:starEach [a,b] X.env=[(false,eval a X.env),(false,eval b X.env)])(mJ:starEach [b] X.env=[(false,eval b X.env)]):
  gZ X dh (.Call (.Name x p) [a,b] [] pos) (jr xp X ao m λC=>bo C>>=λd=>Den.e1 d>>=λi=>cm C>>=λe=>Den.e1 e>>=λj=>Den.iQ i j):=by
 subst ag;intro pins s σ H R I ⟨G,C,ab,hw⟩;refine Si a4 hm (oj ax (kG ae mJ) (by rw[cJ,mJ])) cJ mJ pins s σ H R I ?_;refine⟨G,C,ab,bX (bt.mp hw) (λd k v aL H1 aR aH=>?_) λ_ q=>q⟩;have k:=bt.mp k;cases d with
 |int i =>
  refine⟨aL,C,ab.ext aR,bX (bt.mp k) (λe aQ v2 b5 aY bF a5=>?_) λ_ q=>q.mono aR.h⟩;have aQ:=bt.mp aQ;cases e with
  |int j =>
   obtain⟨b1,hz,q⟩:=zx aQ;refine⟨i,j,by rw[cE.pU aH,cE.pU a5],b1,?_⟩;exact q _ b5 aY (aR.trans bF) D4 hz
  |_=>exact aQ.elim
 |_=>exact k.elim
end
section
variable{xp:cw}{X:aU}{ao:List Nat}{m:er}{f bo cm:a0->bw D}{l a b dh:Expr}{pos p:Pos}{pins:List (Addr×Obj)}{σ:b3}{G H:az}{s:Shared}
def GL(ab:bV G H){d:D}{x:V}(bQ:View X.K G H d x){Q:List D->Prop}{E:Nat->Prop}(h:cL (Den.fE d) Q E):∃ds a xs,x=.ref a/\(eF X.K H a xs\/fR X.K H a xs)/\bN X.K G ds xs/\Q ds:=by
 cases d with
 |tup ds =>
  obtain⟨a,ys,rfl,k,q⟩:=lZ ab bQ;exact⟨ds,a,ys,rfl,.inr k,q,h⟩
 |lst ds =>
  obtain⟨a,ys,rfl,k,q⟩:=j3 bQ;exact⟨ds,a,ys,rfl,.inl k,q,h⟩
 |_=>exact h.elim
end
section
variable{prog:Program}{w:World}{A:Around}{E:Value->Shared->Prop}{s:Shared}
def M8{t cn:Addr}{items:Array Value}{fF fG:Value}{lo hi:Option Int}{Q:Value->Shared->Prop}(aW:IsTup s.heap t items)(ab:s.heap.IsSliceOf cn fF fG .none)(c7:IsPart fF lo)(pu:IsPart fG hi)(hw:di.bU items.size 0 lo=0/\di.bU items.size items.size hi=items.size)(h:Q (.ref t) s):wpAny (model prog w) A (getItem (.ref t) (.ref cn)) Q E s:=by
 obtain⟨os,n1,jb,ks⟩:=id ab;have xY:s.TypeIs (.ref cn) "slice":=⟨os,n1,jb⟩;unfold getItem
 try with_reducible refine ZM ?_
 first|refine Yf (wpAny_pure ?_)|skip
 refine Yf (wpAny_sequenceKey aW.typeIs (by decide) ?_);refine Yf (ZE (name:=Str.ofString "__getitem__") aW.typeIs Y9
  (Zp Y9 aW.typeIs entry_tuple_getitem ?_ (args_tuple_getitem _ _)))
 show wpAny _ _ (Builtin.Tuple.tupleItemsOf (.ref t)>>=_) _ _ s;refine Yf (PyProof.Rows.tupleItemsOf_ aW ?_);refine Yf (aak xY ?_);rw[if_pos (by decide)];refine Yf (di.GW ab c7 pu ?_);have OY:(((di.bU items.size 0 lo:Nat):Int)==0&&(1:Int)==1&&(di.bU items.size items.size hi-di.bU items.size 0 lo)==items.size)=true:=by
  rw[hw.1,hw.2];simp
 show wpAny _ _ (if (((di.bU items.size 0 lo:Nat):Int)==0&&(1:Int)==1&&(di.bU items.size items.size hi-di.bU items.size 0 lo)==items.size)=true then _ else _) _ _ s;rw[if_pos OY];unfold Builtin.Tuple.tupleIsExact;refine Yf (Yf (aak aW.typeIs (wpAny_pure ?_)));rw[if_pos (by decide)];refine Yf (aaU (wpAny_pure ⟨_,rfl,wpAny_pure h⟩))
end
section
variable{xp:cw}{X:aU}{ao:List Nat}{m:er}{f bo cm:a0->bw D}{gK mC:a0->bw (Option Int)}{a b dh:Expr}{lo hi:Option Expr}{pos p bE:Pos}{pins:List (Addr×Obj)}{σ:b3}{G H:az}{s:Shared}
def uR(n d:Nat)(o:Option Int):Den.bU n d o=di.bU n d o:=by
 cases o with
 |none=>rfl
 |some i =>
  simp only[Den.bU,di.bU]
  by_cases h:i<0
  .rw[if_pos h,if_pos h];split<;>omega
  .rw[if_neg h,if_neg h];split<;>omega
def BO{K:W.Frag}{ds:List D}{xs:List V}(r:bN K G ds xs)(lo hi:Option Int):bN K G (Den.cut ds lo hi) (k3 xs lo hi):=by
 unfold Den.cut k3;rw[uR,uR,r.length];exact(r.drop _).take _
noncomputable def qf(xp:cw)(X:aU)(ao:List Nat)(f:a0->bw (Option Int)):kZ:=λσ H Q =>
 ∃G C,ew X.K ao G H C σ/\cL (f C) (λo=>∀aN aq,Ext G H aN aq->Q o aq) (λc=>fI xp X c H)
def T8:kc X none (qf xp X ao λ_=>.ok none):=by
 intro pins s σ H Q I ⟨G,C,ab,hw⟩;exact Sq pins s σ H Q I (hw G H (Ext.refl ab.sub))
def Ub(ax:aO X a (bp xp X ao .view bo)):kc X (some a) (qf xp X ao λC=>bo C>>=λx=>Den.e1 x>>=λi=>.ok (some i)):=by
 intro pins s σ H Q I ⟨G,C,ab,hw⟩;refine Sr ax pins s σ H Q I ?_;refine⟨G,C,ab,bX (bt.mp hw) (λd k v aL H1 aR aH=>?_) λ_ q=>q⟩;cases d with
 |int i=>exact⟨i,cE.pU aH,k aL H1 aR⟩
 |_=>exact k.elim
noncomputable def SU(K:W.Frag):V->Option Int->Option Int->az->de->Prop:=λx lo hi H Q =>
 ∃G d,bV G H/\View K G H d x/\cL (Den.j0 d lo hi) (λd'=>∀v aN aq,Ext G H aN aq->cE K H aN aq .fresh d' v->Q v aq) (λ_=>False)
def UM:qB X (λx lo hi H Q=>∃a xs,x=.ref a/\fR X.K H a xs/\(di.bU xs.length 0 lo=0/\di.bU xs.length xs.length hi=xs.length)/\Q (.ref a) H):=by
 intro pins s σ H x v fF fG lo hi cn Q I bg ab c7 pu h;obtain⟨a,xs,rfl,ag,hw,q⟩:=h;cases bg;obtain⟨its,r,aW,hz⟩:=I.tuple ag;have hlen:its.toArray.size=xs.length:=by rw[Yv];exact r.length.symm
 refine⟨"tuple",_,Y9.lookup,aW.typeIs,?_⟩;exact M8 aW ab c7 pu (by rw[hlen];exact hw) ⟨.ref a,H,I,rfl,q⟩
def Kb{ds:List D}{lo hi:Option Int}(h:di.bU ds.length 0 lo=0/\di.bU ds.length ds.length hi=ds.length):Den.cut ds lo hi=ds:=by
 unfold Den.cut;rw[uR,uR,h.1,h.2];simp
def UL:qB X (SU X.K):=by
 intro pins s σ H x v fF fG lo hi cn Q I bg ab c7 pu ⟨G,d,pw,bQ,hw⟩;cases d with
 |tup ds =>
  obtain⟨a,xs,rfl,k,r⟩:=lZ pw bQ
  by_cases f3:di.bU xs.length 0 lo=0/\di.bU xs.length xs.length hi=xs.length
  .refine UM pins s σ H _ v fF fG lo hi cn Q I bg ab c7 pu ⟨a,xs,rfl,k,f3,?_⟩;rw[Den.uY,Kb (by rw[r.length];exact f3)]at hw;exact hw _ G H (Ext.refl pw) bQ
  .refine UP pins s σ H _ v fF fG lo hi cn Q I bg ab c7 pu ⟨a,xs,rfl,k,f3,λp aE=>?_⟩;rw[Den.uY]at hw;exact hw _ (upd G p (.tup (k3 xs lo hi))) _ (Ext.put pw aE) ⟨p,_,rfl,dS,(BO r lo hi).mono (gp (pw.free aE))⟩
 |lst ds =>
  obtain⟨a,xs,rfl,k,r⟩:=j3 bQ;refine UN pins s σ H _ v fF fG lo hi cn Q I bg ab c7 pu ⟨a,xs,rfl,k,λp aE=>?_⟩;rw[Den.GY]at hw;exact hw _ G _ (Ext.own pw aE λ_ z=>nomatch z) ⟨p,_,rfl,dS,aE,pw.free aE,BO r lo hi⟩
 |_=>exact hw.elim
def UO{d:D}{lo hi:Option Int}{c:Nat}:Den.j0 d lo hi≠.exc c:=by cases d<;>simp[Den.j0]
def Uk(ax:aO X a (bp xp X ao .view bo))(aw:kc X lo (qf xp X ao gK))(cF:kc X hi (qf xp X ao mC)):
  aO X (.Subscript a (.Slice lo hi none bE) pos) (bp xp X ao .fresh λC=>bo C>>=λx=>gK C>>=λl=>mC C>>=λh=>Den.j0 x l h):=by
 intro pins s σ H Q I ⟨G,C,ab,hw⟩;refine RY UL ax aw cF pins s σ H Q I ?_;refine⟨G,C,ab,bX (bt.mp hw) (λbj PX v aL H1 aR aH=>?_) λ_ q=>q⟩;refine⟨aL,C,ab.ext aR,bX (bt.mp PX) (λl k b5 aY bF=>?_) λ_ q=>q.mono aR.h⟩;refine⟨b5,C,(ab.ext aR).ext bF,bX (bt.mp k) (λh aQ iY b6 hp=>?_) λ_ q=>(q.mono aR.h).mono bF.h⟩;refine⟨iY,bj,hp.sub,View.ext hp (View.ext bF aH),?_⟩;exact bX (m9 aQ (λc=>UO)) (λd q v4 Ib fY W4 fD=>q v4 Ib fY (((aR.trans bF).trans hp).trans W4) (((fD.old hp.h).old bF.h).old aR.h)) λ_ q=>q
end
section
variable{prog:Program}{w:World}{A:Around}{E:Value->Shared->Prop}{s:Shared}
noncomputable def AL(prog:Program)(w:World)(A:Around)(af:List Value)(s1:Shared)(Q:Value->Shared->Prop):Prop :=
 ∃(κ:SortKind)(lt:Nat->Nat->Bool),Tm.Ord lt/\(∀i j,i<af.length->j<af.length->af.getD i Value.none=af.getD j Value.none->∀k,lt i k=lt j k/\lt k i=lt k j)/\af.length<1000 /\
   (2<=af.length->∀(h':Heap),(∀b o,s1.heap.get? b=some o->h'.get? b=some o)->∀iD:SortKind->Shared->Prop,iD κ { s1 with heap:=h' }->wpAny (model prog w) A (keyKind' af.toArray) iD (λ_ _=>False) { s1 with heap:=h' }) /\
   (2<=af.length->∀(h':Heap),(∀b o,s1.heap.get? b=some o->h'.get? b=some o)->∀(i j:Nat)(bG:Bool->Shared->Prop),i<af.length->j<af.length->bG (lt i j) { s1 with heap:=h' }->PySem.W.kas_ask prog w A κ af i j bG { s1 with heap:=h' }) /\
   ∀p:List Nat,p.Perm (List.range af.length)->p.Pairwise (λi j=>lt j i=false)->∀(h':Heap)(c:Nat),(∀b o,s1.heap.get? b=some o->h'.get? b=some o)->h'.get? s1.heap.objs.size=some (seqObj "list" (p.map λi=>af.getD i Value.none).toArray c)->Q (.ref s1.heap.objs.size) { s1 with heap:=h' }
def u0{src:Value}{Q:Value->Shared->Prop}(aj:wpAny (model prog w) A.in1 (collect src) (λaf s1=>AL prog w A.in1.in1 af s1 Q) (λ_ _=>False) s):wpAny (model prog w) A (call (.builtin "sorted") [src]) Q E s:=by
 refine Calls.call_function_entry kind_sorted plain_sorted entry_sorted (args_sorted1 _) ?_;unfold Builtin.«sorted»;refine Yf (m:=checkCount "sorted" 1 1 _) (wpAny_pure ?_);refine Yf (Zh aj (λaf s1 ag=>?_) λ_ _ z=>z.elim);obtain⟨κ,lt,pe,aV,Nl,au,tL,aJ⟩:=ag;refine Yf (wpAny_newList ?_ (by rw[sizeLine_eq];omega));have tS:(s1.heap.push (seqObj "list" af.toArray 0)).get? s1.heap.objs.size=some (seqObj "list" af.toArray 0):=Yx _ rfl;have keep:∀{h':Heap},(∀b o,b≠s1.heap.objs.size->(s1.heap.push (seqObj "list" af.toArray 0)).get? b=some o->h'.get? b=some o)->∀b o,s1.heap.get? b=some o->h'.get? b=some o:=λgk b o q =>
  gk b o (YH (Yu q)) (Yh _ q)
 show wpAny _ _ _ _ _ { s1 with heap:=s1.heap.push (seqObj "list" af.toArray 0) };refine Yf (ZM (Zp slot_list_sort ⟨_,tS,rfl⟩ entry_list_sort ?body (args_list_sort _)))
 case body =>
  refine Tm.Qo (s:={ s1 with heap:=s1.heap.push (seqObj "list" af.toArray 0) }) (κ:=κ) (lt:=lt) pe aV tS Nl (λaa h' k iD q=>?_) (λaa h' k=>tL aa h' (keep k)) λp bh bE h' c k a4=>?_
  .exact Zh (au aa h' (keep k) iD q) (λ_ _ z=>z) λ_ _ z=>z.elim
  .exact⟨_,rfl,wpAny_pure ⟨_,rfl,aJ p bh bE h' c (keep k) a4⟩⟩
end
noncomputable abbrev gH(c:List Int):D:=bC.aC c
def ints_of{ds:List D}(h:ds.all (Den.fM 0)=true):∃ns:List Int,ds=ns.map Den.D.int:=uk h
theorem vf:∀{ds:List D},ds.all Den.lB=true->∃ar:List (List Int),ds=ar.map gH/\∀k∈ar,k≠[]
 |[],_=>⟨[],rfl,by simp⟩
 |d::ds,h=>by
  simp only[List.all_cons,Yg]at h;obtain⟨ar,rfl,au⟩:=vf h.2;cases d with
  |tup xs =>
   cases xs with
   |nil=>cases h.1
   |cons x xs =>
    have J:(Den.fM 0 x&&xs.all (Den.fM 0))=true:=h.1;have J:(x::xs).all (Den.fM 0)=true:=J;obtain⟨ns,e⟩:=uk J;refine⟨ns::ar,by rw[e];rfl,λk gk=>?_⟩;rcases Yk.mp gk with rfl|gk
    .rintro rfl;cases e
    .exact au k gk
  |_=>cases h.1
section
variable{X:aU}{pins:List (Addr×Obj)}{σ:b3}{G H:az}{s:Shared}
theorem Ab(I:Inv X pins σ H s)(ab:bV G H):∀{ar:List (List Int)}{xs:List V}{us:List Value},(∀k∈ar,k≠[])->bN X.K G (ar.map gH) xs->Vals xs us->fe.gh s.heap us ar
 |[],_,_,_,r,v=>by cases r;cases v;exact trivial
 |k::ar,_,_,aB,⟨x,t,e,aH,a5⟩,v=>by
  subst e;cases v with
  |cons v1 v2 =>
   obtain⟨a,ys,rfl,h,q⟩:=aH;cases v1;obtain⟨its,cb,⟨o,ay,aj,n,hd⟩,_⟩:=I.tuple (iS ab h);rw[kK q]at cb;exact⟨⟨a,o,its.toArray,n,rfl,ay,aj,hd,by simpa using intsAre_of cb,aB k List.mem_cons_self⟩,Ab I ab (λz hz=>aB z (List.mem_cons_of_mem _ hz)) a5 v2⟩
theorem Bu:∀{ds:List D},ds.all Den.n5=true->∃cs:List (List (List Int)),ds=cs.map bC.qM/\(∀c∈cs,c≠[])/\∀c∈cs,∀k∈c,k≠[]
 |[],_=>⟨[],rfl,by simp,by simp⟩
 |d::ds,h=>by
  simp only[List.all_cons,Yg]at h;obtain⟨cs,rfl,J,aa⟩:=Bu h.2;cases d with
  |tup xs =>
   cases xs with
   |nil=>cases h.1
   |cons x xs =>
    have aI:(x::xs).all Den.lB=true:=h.1;obtain⟨c,e,aX⟩:=vf aI;refine⟨c::cs,by rw[e];rfl,λk au=>?_,λk au=>?_⟩
    .rcases Yk.mp au with rfl|au
     .rintro rfl;cases e
     .exact J k au
    .rcases Yk.mp au with rfl|au
     .exact aX
     .exact aa k au
  |_=>cases h.1
theorem Hu(I:Inv X pins σ H s)(ab:bV G H):∀{cs:List (List (List Int))}{xs:List V}{us:List Value},(∀c∈cs,c≠[])->(∀c∈cs,∀k∈c,k≠[])->bN X.K G (cs.map bC.qM) xs->Vals xs us->fe.iF s.heap us cs
 |[],_,_,_,_,r,v=>by cases r;cases v;exact trivial
 |c::cs,_,_,aB,hm,⟨x,t,e,aH,a5⟩,v=>by
  subst e;cases v with
  |cons v1 v2 =>
   obtain⟨a,ys,rfl,h,q⟩:=aH;cases v1;obtain⟨its,cb,⟨o,ay,aj,n,hd⟩,_⟩:=I.tuple (iS ab h);exact⟨⟨a,o,its.toArray,n,rfl,ay,aj,hd,by simpa using Ab I ab (hm c List.mem_cons_self) q cb,aB c List.mem_cons_self⟩,Hu I ab (λz hz=>aB z (List.mem_cons_of_mem _ hz)) (λz hz=>hm z (List.mem_cons_of_mem _ hz)) a5 v2⟩
theorem Gj{K:W.Frag}{ds:List D}{xs:List V}{us:List Value}(r:bN K G ds xs)(v:Vals xs us):∀{p:List Nat},(∀i∈p,i<ds.length) ->
  ∃ys,bN K G (p.map λi=>ds.getD i .dr) ys/\Vals ys (p.map λi=>us.getD i Value.none)
 |[],_=>⟨[],rfl,.nil⟩
 |i::p,h=>by
  obtain⟨ys,J,aa⟩:=Gj r v (p:=p) λj aA=>h j (List.mem_cons_of_mem _ aA)
  have hi:=h i List.mem_cons_self;have e:ds[i]?=some (ds.getD i .dr):=(by rw[Yl hi];simp[List.getD,Yl hi]);obtain⟨y,aZ,aQ⟩:=r.get e;obtain⟨u,br,bY⟩:=v.get aZ;have av:us.getD i Value.none=u:=(by simp[List.getD,br]);exact⟨y::ys,⟨y,ys,rfl,aQ,J⟩,by rw[List.map_cons,av];exact .cons bY aa⟩
def zv{K:W.Frag}{κ:Type}{f:κ->D}{lt:κ->κ->Bool}(L:bC.gI lt)(hf:∀a b,Den.kA (f a) (f b)=some (lt a b))(z:κ){ar:List κ}{xs:List V}{us:List Value}(r:bN K G (ar.map f) xs)(v:Vals xs us){p:List Nat}(J:p.Perm (List.range us.length))(aa:p.Pairwise (λi j=>fe.ltI lt z ar j i=false)):
  ∃ys,bN K G (Den.ie (ar.map f)) ys/\Vals ys (p.map λi=>us.getD i Value.none):=by
 have aw:us.length=ar.length:=by rw[<- v.length,<- r.length,List.length_map]
 rw[aw]at J;rw[bC.ov hf,<- fe.UY L z ar J aa,List.map_map];obtain⟨ys,aZ,aQ⟩:=Gj r v (p:=p) λi hi=>by
  have:=J.mem_iff.mp hi;rw[List.length_map];simpa using this
 refine⟨ys,?_,aQ⟩;have e:(p.map λi=>(ar.map f).getD i .dr)=p.map (f ∘ λi=>ar.getD i z):=by
  apply Zs;intro i hi;have hi:i<ar.length:=(by simpa using J.mem_iff.mp hi);simp[List.getD,Yy,Yl hi]
 rw[<- e];exact aZ
def uZ{Q:de}{ds:List D}{xs:List V}{us:List Value}(cF:X.A.handled=none)(bz:X.A.units+64<cLine)(I:Inv X pins σ H s)(ab:bV G H)(r:bN X.K G ds xs)(v:Vals xs us)(jc:(Den.lJ ds||ds.all Den.n5)=true)(g7:ds.length<=255)(k:∀v aN aq,Ext G H aN aq->cE X.K H aN aq .fresh (.lst (Den.ie ds)) v->Q v aq):AL X.prog X.w X.A.in1.in1 us s (eJ X pins σ Q):=by
 have hlen:us.length=ds.length:=by rw[<- v.length,<- r.length]
 have fin:∀{out:List Value}{ys:List V}(h':Heap)(c:Nat),bN X.K G (Den.ie ds) ys->Vals ys out->out.length=us.length->(∀b o,s.heap.get? b=some o->h'.get? b=some o)->h'.get? s.heap.objs.size=some (seqObj "list" out.toArray c)->eJ X pins σ Q (.ref s.heap.objs.size) { s with heap:=h' }:=λ{out ys} h' c gU HR ay au a4=>by
  refine⟨.ref s.heap.objs.size,_,I.laid (t':=s.toks) (o:=.lst ys) au (Yi _) ⟨by rw[HR.length,ay,hlen,sizeLine_eq];omega,out,c,HR,a4⟩,rfl,?_⟩;exact k _ G _ (Ext.own ab I.fresh λ_ z=>nomatch z) ⟨_,ys,rfl,dS,I.fresh,ab.free I.fresh,gU⟩
 have yO:∀{p:List Nat},p.Perm (List.range us.length)->(p.map λi=>us.getD i Value.none).length=us.length:=λh=>by rw[List.length_map,h.length_eq,List.length_range]
 unfold Den.lJ at jc;rw[Z5,Z5]at jc;rcases jc with(h|h)|h
 .obtain⟨ns,rfl⟩:=ints_of h;have cf:IntsAre us ns:=(by rw[kK r]at v;exact intsAre_of v);refine⟨oneType',fe.ltI bC.ltI 0 ns,fe.za bC.jU 0 ns,fe.y8 (fe.PJ cf),by omega,λaa h' _ iD q=>fe.PR cf aa q,λaa h' _ i j bG hi aA q=>fe.IZ cf i j bG hi aA q,λp bh bE h' c au a4=>?_⟩;obtain⟨ys,aZ,aQ⟩:=zv bC.jU (f:=Den.D.int) (λ_ _=>rfl) 0 r v bh bE;exact fin h' c aZ aQ (yO bh) au a4
 .obtain⟨ar,rfl,eN⟩:=vf h;have cP:=Ab I ab eN r v;refine⟨tuples' true,fe.ltI bC.lexLt [] ar,fe.za bC.lH [] ar,fe.y8 (fe.PO cP),by omega,λaa h' k iD q=>fe.PS (s:={ s with heap:=h' }) (cP.kept k) aa q,λaa h' k i j bG hi aA q=>fe.I0 (s:={ s with heap:=h' }) (cP.kept k) i j bG hi aA q,λp bh bE h' c au a4=>?_⟩;obtain⟨ys,aZ,aQ⟩:=zv bC.lH (f:=gH) (λa b=>bC.pJ a b) [] r v bh bE;exact fin h' c aZ aQ (yO bh) au a4
 .obtain⟨ar,rfl,eN,Oq⟩:=Bu h;have cP:=Hu I ab eN Oq r v;refine⟨tuples' false,fe.ltI bC.fV [] ar,fe.za bC.Eu [] ar,fe.y8 (fe.PQ cP),by omega,λaa h' k iD q=>fe.PT (s:={ s with heap:=h' }) (cP.kept k) aa q,λaa h' k i j bG hi aA q=>fe.I1 (s:={ s with heap:=h' }) (by show X.A.units+1+1+2<cLine;omega) (cP.kept k) i j bG hi aA q,λp bh bE h' c au a4=>?_⟩;obtain⟨ys,aZ,aQ⟩:=zv bC.Eu (f:=bC.qM) (λa b=>bC.Qv a b) [] r v bh bE;exact fin h' c aZ aQ (yO bh) au a4
end
section
variable{xp:cw}{X:aU}{ao:List Nat}{m:er}{f:a0->bw D}{e:Expr}{pos pos' p fW:Pos}
def HZ{ds:List D}{Q:D->Prop}{E:Nat->Prop}(h:cL (Den.sorted ds) Q E):(Den.lJ ds||ds.all Den.n5)=true/\ds.length<=255/\Q (.lst (Den.ie ds)):=by
 unfold Den.sorted at h;cases q:((Den.lJ ds||ds.all Den.n5)&&decide (ds.length<=255)) with
 |false=>rw[q]at h;exact h.elim
 |true =>
  rw[q]at h;rw[Yg,YD]at q;exact⟨q.1,q.2,h⟩
def Mv(aj:X.calm=true)(bz:X.A.units+64<cLine):gX X (.builtin "sorted") (lS X.K .fresh λd=>Den.fE d>>=λxs=>Den.sorted xs):=by
 intro pins s σ H xs us Q I r ⟨G,x,d,ex,ab,bQ,hw⟩;subst ex;obtain⟨u,rfl,bg⟩:=vals1 r;obtain⟨ds,a,ys,rfl,aJ,rs,hw⟩:=GL ab bQ (bt.mp hw);obtain⟨jc,g7,hw⟩:=HZ hw;have cF:X.A.handled=none:=I.ok.hd aj;cases bg;rcases aJ with aJ|aJ
 .obtain⟨its,cb,c7,hz⟩:=I.list aJ;refine u0 (collect_list c7.isList ?_ (by rw[<- cb.length];exact hz));have bb:Inv X pins σ H { s with heap:=(s.heap.push (seqObj "list" #[] 0)).update s.heap.objs.size (Obj.mapSeq (·++its.toArray)) }:=I.kept (t':=s.toks) λb o q=>(Zq _ _ (ZK (YH (Yu q)))).trans (Yh _ q)
  exact uZ cF bz bb ab rs cb jc g7 hw
 .obtain⟨its,cb,c7,hz⟩:=I.tuple aJ;refine u0 (Pv.JZ (show s.heap.IsTuple a its.toArray from c7) ?_ (by rw[<- cb.length];exact hz));have bb:Inv X pins σ H { s with heap:=(s.heap.push (seqObj "list" #[] 0)).update s.heap.objs.size (Obj.mapSeq (·++its.toArray)) }:=I.kept (t':=s.toks) λb o q=>(Zq _ _ (ZK (YH (Yu q)))).trans (Yh _ q)
  exact uZ cF bz bb ab rs cb jc g7 hw
end
structure d0(K:W.Frag)(ao:List Nat)(ck bx G H:az)(C:a0)(σ:b3):Prop where
 c8:ew K ao G H C σ
 ext:Ext ck bx G H
 own:∀(i:Nat)(d:D)(a:Addr),C[i]?=some (some d)->gN d=true->i∈ao->σ[i]?=some (some (V.ref a))->bx a=none
noncomputable def jH(K:W.Frag)(ao:List Nat)(ck bx:az)(T:Ends):Den.fb->Prop
 |.cg C=>∀σ G H,d0 K ao ck bx G H C σ->T.cg σ H
 |.d7 d=>∀v G H,Ext ck bx G H->Rep K G d v->T.d7 v H
noncomputable def en(xp:cw)(X:aU)(ao:List Nat)(f:a0->bw Den.fb):hy:=λT σ H =>
 ∃ck bx G C,d0 X.K ao ck bx G H C σ/\cL (f C) (jH X.K ao ck bx T) (λc=>fI xp X c bx)
def eU{α:Type}{l:List α}{i j:Nat}{a:α}(h:i≠j):(l.set i a)[j]?=l[j]?:=abm h
def get_eq{α:Type}{l:List α}{i:Nat}{a b:α}(h:(l.set i a)[i]?=some b):i<l.length/\b=a:=by
 rw[List.getElem?_set_self']at h;cases q:l[i]? with
 |none=>rw[q]at h;cases h
 |some c=>rw[q]at h;exact⟨(YG.mp q).1,(YZ h).symm⟩
def zG{α:Type}{l:List α}{i:Nat}{a:α}(h:i<l.length):(l.set i a)[i]?=some a:=by simp[h]
section
variable{K:W.Frag}{ao:List Nat}{ck bx G H aN aq:az}{C:a0}{σ:b3}{i:Nat}{d:D}{v:V}
def ew.p8(h:ew K ao G H C σ)(hm:i∉ao)(r:Rep K G d v):ew K ao G H (C.set i (some d)) (σ.set i (some v)) where
 len:=by rw[Z6,Z6];exact h.len
 sub:=h.sub
 val:=λj e q aA=>by
  by_cases c:i=j
  .subst c;obtain⟨J,aa⟩:=get_eq q;cases aa;exact⟨v,zG (by rw[<- h.len];exact J),r⟩
  .rw[eU c]at q ⊢;exact h.val j e q aA
 own:=λj e q aA aw=>by
  have c:i≠j:=λz=>hm (z▸aA)
  rw[eU c]at q ⊢;exact h.own j e q aA aw
 lst:=λj e q aA aw=>by
  have c:i≠j:=λz=>hm (z▸aA)
  rw[eU c]at q;obtain⟨a,o,J,aa⟩:=h.lst j e q aA aw;exact⟨a,o,by rw[eU c];exact J,aa⟩
 ed:=h.ed
 apart:=λj k d e a b aP a9 cz c1 aA au ne ai av=>by
  have c:i≠j:=λz=>hm (z▸aA)
  have cN:i≠k:=λz=>hm (z▸au)
  rw[eU c]at aP ai;rw[eU cN]at a9 av;exact h.apart j k d e a b aP a9 cz c1 aA au ne ai av
def ew.set_own(h:ew K ao G H C σ)(hm:i∈ao)(aw:gN d=false)(r:Rep K G d v):ew K ao G H (C.set i (some d)) (σ.set i (some v)) where
 len:=by rw[Z6,Z6];exact h.len
 sub:=h.sub
 val:=λj e q aA=>by
  have c:i≠j:=λz=>aA (z▸hm)
  rw[eU c]at q ⊢;exact h.val j e q aA
 own:=λj e q aA hle=>by
  by_cases c:i=j
  .subst c;obtain⟨J,aa⟩:=get_eq q;cases aa;exact⟨v,zG (by rw[<- h.len];exact J),r⟩
  .rw[eU c]at q ⊢;exact h.own j e q aA hle
 lst:=λj e q aA hle=>by
  by_cases c:i=j
  .subst c;obtain⟨J,aa⟩:=get_eq q;cases aa;rw[aw]at hle;cases hle
  .rw[eU c]at q;obtain⟨a,o,J,aa⟩:=h.lst j e q aA hle;exact⟨a,o,by rw[eU c];exact J,aa⟩
 ed:=h.ed
 apart:=λj k d e a b aP a9 cz c1 aA au ne ai av=>by
  have c:i≠j:=λz=>by subst z;obtain⟨J,aa⟩:=get_eq aP;cases aa;rw[aw]at cz;cases cz
  have cN:i≠k:=λz=>by subst z;obtain⟨J,aa⟩:=get_eq a9;cases aa;rw[aw]at c1;cases c1
  rw[eU c]at aP ai;rw[eU cN]at a9 av;exact h.apart j k d e a b aP a9 cz c1 aA au ne ai av
def ew.UD{a:Addr}{o:dJ}{d:D}(h:ew K ao G H C σ)(hm:i∈ao)(fy:gN d=true)(gL:H a=some o)(mE:G a=none)(r:jy K G d o)(aB:∀(j:Nat)(e:D),j≠i->j∈ao->gN e=true->C[j]?=some (some e)->σ[j]?≠some (some (V.ref a))):ew K ao G H (C.set i (some d)) (σ.set i (some (.ref a))) where
 len:=by rw[Z6,Z6];exact h.len
 sub:=h.sub
 val:=λj e q aA=>by
  have c:i≠j:=λz=>aA (z▸hm)
  rw[eU c]at q ⊢;exact h.val j e q aA
 own:=λj e q aA hle=>by
  by_cases c:i=j
  .subst c;obtain⟨J,aa⟩:=get_eq q;cases aa;rw[fy]at hle;cases hle
  .rw[eU c]at q ⊢;exact h.own j e q aA hle
 lst:=λj e q aA hle=>by
  by_cases c:i=j
  .subst c;obtain⟨J,aa⟩:=get_eq q;cases aa;exact⟨a,o,zG (by rw[<- h.len];exact J),gL,mE,r⟩
  .rw[eU c]at q;obtain⟨b,bH,J,aa⟩:=h.lst j e q aA hle;exact⟨b,bH,by rw[eU c];exact J,aa⟩
 ed:=h.ed
 apart:=λj k e f b ik aP a9 cz c1 aA au ne ai av=>by
  by_cases c:i=j
  .subst c;have cN:i≠k:=ne;obtain⟨J,aa⟩:=get_eq ai;cases aa;rw[eU cN]at a9 av;intro z;exact aB k f (ZK cN) au c1 a9 (by rw[z];exact av)
  .by_cases cN:i=k
   .subst cN;obtain⟨J,aa⟩:=get_eq av;cases aa;rw[eU c]at aP ai;intro z;exact aB j e (ZK c) aA cz aP (by rw[<- z];exact ai)
   .rw[eU c]at aP ai;rw[eU cN]at a9 av;exact h.apart j k e f b ik aP a9 cz c1 aA au ne ai av
def jy.nt{o:dJ}:∀{d:D},jy K G d o->∀xs,o≠.tup xs
 |.lst _,⟨_,e,_⟩,_,z=>by rw[e]at z;cases z
 |.bK _,e,_,z=>by rw[show o=_ from e]at z;cases z
 |.bD _,⟨_,e,_⟩,_,z=>by rw[e]at z;cases z
def d0.step(h:d0 K ao ck bx G H C σ)(x:Ext G H aN aq):d0 K ao ck bx aN aq C σ:=⟨h.c8.ext x,h.ext.trans x,h.own⟩
theorem d0.p8(h:d0 K ao ck bx G H C σ)(hm:i∉ao)(r:Rep K G d v):d0 K ao ck bx G H (C.set i (some d)) (σ.set i (some v)) :=
 ⟨h.c8.p8 hm r,h.ext,λj e a q fy aA z=>by
  have c:i≠j:=λz=>hm (z▸aA)
  rw[eU c]at q z;exact h.own j e a q fy aA z⟩
def d0.sj{a:Addr}{o:dJ}(h:d0 K ao ck bx G H C σ)(x:Ext G H aN aq)(hm:i∈ao)(fy:gN d=true)(J:aq a=some o)(aa:H a=none)(aI:aN a=none)(r:jy K aN d o):d0 K ao ck bx aN aq (C.set i (some d)) (σ.set i (some (.ref a))):=by
 have h':=h.step x;refine⟨h'.c8.UD hm fy J aI r λj e aA yc he q z=>?_,h'.ext,λj e b q he aA z=>?_⟩
 .obtain⟨b,bH,aZ,aQ,br,bY⟩:=h.c8.lst j e q yc he;rw[aZ]at z;cases z;rw[aa]at aQ;cases aQ
 .by_cases c:i=j
  .subst c;obtain⟨_,w⟩:=get_eq z;cases w;exact h.ext.h.free aa
  .rw[eU c]at q z;exact h.own j e b q he aA z
def d0.GP(h:d0 K ao ck bx G H C σ)(x:Ext G H aN aq)(hm:i∈ao)(r:cE K H aN aq .fresh d v):d0 K ao ck bx aN aq (C.set i (some d)) (σ.set i (some v)):=by
 have go:gN d=false->Rep K aN d v->d0 K ao ck bx aN aq (C.set i (some d)) (σ.set i (some v)):=λfy r=>by
  refine⟨(h.step x).c8.set_own hm fy r,(h.step x).ext,λj e b q he aA z=>?_⟩
  by_cases c:i=j
  .subst c;obtain⟨_,w⟩:=get_eq q;cases w;rw[fy]at he;cases he
  .rw[eU c]at q z;exact h.own j e b q he aA z
 cases d with
 |lst ds =>
  obtain⟨a,xs,rfl,J,aa,aI,aX⟩:=r;exact h.sj x hm rfl J aa aI ⟨xs,rfl,aX⟩
 |bK ak=>exact r.elim
 |bD ak=>exact r.elim
 |_=>exact go rfl r
def d0.write {a : Addr} {bH : dJ} {d e : D} (h : d0 K ao ck bx G H C σ) (hm : i ∈ ao) (q : C[i]? = some (some d)) (hd : gN d = true) (he : gN e = true) (z : σ[i]? = some (some (V.ref a))) (mE : G a = none) (r : jy K G e bH) :
    d0 K ao ck bx G (upd H a bH) (C.set i (some e)) σ := by
  have h0 : bx a = none := h.own i d a q hd hm z
  have hi : i < C.length := (YG.mp q).1
  have other : ∀ (j : Nat) (f : D), j ≠ i -> j ∈ ao -> gN f = true -> C[j]? = some (some f) -> σ[j]? ≠ some (some (V.ref a)) := fun j f aA yc hf SN jF => h.c8.apart j i f d a a SN q hf hd yc hm aA jF z rfl
  have He : bV G (upd H a bH) := fun b o z => by
    have : b ≠ a := fun w => by rw [w, mE] at z; cases z
    rw [dm this]; exact h.c8.sub b o z
  have G1 : ew K ao G (upd H a bH) (C.set i (some e)) σ := by
    refine ⟨by rw [Z6]; exact h.c8.len, He, fun j f c2 aA => ?_, fun j f c2 aA aw => ?_, fun j f c2 aA aw => ?_, fun b xs w => ?_, fun j k f g b ik aP a9 cz c1 aA au ne ai av => ?_⟩
    · have c : i ≠ j := fun z => aA (z ▸ hm)
      rw [eU c] at c2; exact h.c8.val j f c2 aA
    · by_cases c : i = j
      · subst c
        obtain ⟨_, w⟩ := get_eq c2
        cases w
        rw [he] at aw; cases aw
      · rw [eU c] at c2; exact h.c8.own j f c2 aA aw
    · by_cases c : i = j
      · subst c
        obtain ⟨_, w⟩ := get_eq c2
        cases w
        exact ⟨a, bH, z, dS, mE, r⟩
      · rw [eU c] at c2
        obtain ⟨b, bT, aZ, aQ, br, bY⟩ := h.c8.lst j f c2 aA aw
        have : b ≠ a := fun w => other j f (ZK c) aA aw c2 (by rw [aZ, w])
        exact ⟨b, bT, aZ, by rw [dm this]; exact aQ, br, bY⟩
    · by_cases c : b = a
      · subst c; rw [dS] at w; cases w; exact absurd rfl (r.nt xs)
      · rw [dm c] at w; exact h.c8.ed b xs w
    · have full : ∀ (k : Nat) (g : D), gN g = true -> (C.set i (some e))[k]? = some (some g) -> ∃ g', gN g' = true /\ C[k]? = some (some g') := fun k g a4 z => by
        by_cases c : i = k
        · subst c; exact ⟨d, hd, q⟩
        · rw [eU c] at z; exact ⟨g, a4, z⟩
      obtain ⟨Cy, gP, pZ⟩ := full j f cz aP
      obtain ⟨g', h8, iP⟩ := full k g c1 a9
      exact h.c8.apart j k Cy g' b ik pZ iP gP h8 aA au ne ai av
  refine ⟨G1, ⟨h.ext.g, fun b o z => ?_, He, h.ext.new, fun b xs w => .inr (G1.ed b xs w)⟩, fun j f b c2 hf aA jF => ?_⟩
  · have : b ≠ a := fun w => by rw [w, h0] at z; cases z
    rw [dm this]; exact h.ext.h b o z
  · by_cases c : i = j
    · subst c; rw [z] at jF; cases jF; exact h0
    · rw [eU c] at c2; exact h.own j f b c2 hf aA jF
end
section
variable{xp:cw}{X:aU}{ao:List Nat}{m:er}{f bo cm cj:a0->bw D}{g g1 g2:a0->bw Den.fb}{a b c e dh:Expr}{ah:List Expr}{pos bh bE d2 hg:Pos}{st:Stmt}{j1 eQ cK:List Stmt}{i:Nat}{x:Str}
def GA(hm:i∉ao)(aS:X.N.Nodup)(hi:X.N[i]?=some x)(ag:Loc X.env.scope x)(he:aO X e (bp xp X ao .val f))(ab:swapsWith e (some (.Name x bh)) pos.line X.env=pure false)(hf:X.fn x=true\/X.env.scope.names.lookup x=some .local):
  eu X (.Assign [.Name x bh] e pos) (en xp X ao λC=>f C>>=λd=>.ok (.cg (C.set i (some d)))):=by
 intro pins s σ H T I ⟨ck,bx,G,C,ae,hw⟩;refine r7 aS hi ag he ab hf pins s σ H T I ?_;refine⟨G,C,ae.c8,bX (bt.mp hw) (λd k v aL H1 aR aH=>?_) λ_ q=>q.mono ae.ext.h⟩;exact k _ aL H1 ((ae.step aR).p8 hm aH)
def GB(hm:i∈ao)(aS:X.N.Nodup)(hi:X.N[i]?=some x)(ag:Loc X.env.scope x)(he:aO X e (bp xp X ao .fresh f))(ab:swapsWith e (some (.Name x bh)) pos.line X.env=pure false)(hf:X.fn x=true\/X.env.scope.names.lookup x=some .local):
  eu X (.Assign [.Name x bh] e pos) (en xp X ao λC=>f C>>=λd=>.ok (.cg (C.set i (some d)))):=by
 intro pins s σ H T I ⟨ck,bx,G,C,ae,hw⟩;refine r7 aS hi ag he ab hf pins s σ H T I ?_;refine⟨G,C,ae.c8,bX (bt.mp hw) (λd k v aL H1 aR aH=>?_) λ_ q=>q.mono ae.ext.h⟩;exact k _ aL H1 (ae.GP aR hm aH)
def Ud(he:aO X e (bp xp X ao .val f)):eu X (.Return (some e) pos) (en xp X ao λC=>f C>>=λd=>.ok (.d7 d)):=by
 intro pins s σ H T I ⟨ck,bx,G,C,ae,hw⟩;refine zl he pins s σ H T I ?_;refine⟨G,C,ae.c8,bX (bt.mp hw) (λd k v aL H1 aR aH=>?_) λ_ q=>q.mono ae.ext.h⟩;exact k v aL H1 (ae.ext.trans aR) aH
def Ug(hm:i∈ao)(aS:X.N[i]?=some x)(aV:fT X.env.scope x)(J:(x==("__debug__":Str))=false)(aa:(x==("__classdict__":Str))=false):
  eu X (.Return (some (.Name x bh)) pos) (en xp X ao λC=>Den.ui C[i]?>>=λd=>.ok (.d7 d)):=by
 intro pins s σ H T I ⟨ck,bx,G,C,ae,hw⟩;refine zl (gn aS aV J aa) pins s σ H T I ?_;dsimp only at hw;have key:∀ds,C[i]?=some (some (.lst ds))->jH X.K ao ck bx T (.d7 (.lst ds))->oz i σ H T.d7:=λds q hw=>by
  obtain⟨a,o,aZ,aQ,br,xs,rfl,bY⟩:=ae.c8.lst i (.lst ds) q hm rfl;refine⟨_,aZ,?_⟩;have h0:bx a=none:=ae.own i (.lst ds) a q rfl hm aZ;refine hw _ (upd G a (.lst xs)) H ⟨ae.ext.g.trans (gp br),ae.ext.h,λb o z=>?_,λb cX cC=>?_,λb xs z=>.inr (gp br _ _ (ae.c8.ed b xs z))⟩ ⟨a,xs,rfl,.inl (.inl dS),bY.mono (gp br)⟩
  .by_cases c:b=a
   .subst c;rw[dS]at z;rw[aQ];exact z
   .rw[dm c]at z;exact ae.c8.sub b o z
  .have:b≠a:=λw=>cC (by rw[w];exact h0)
   rw[dm this];exact ae.ext.new b cX cC
 cases q:C[i]? with
 |none=>rw[q]at hw;exact hw.elim
 |some o =>
  cases o with
  |none=>rw[q]at hw;exact hw.elim
  |some d =>
   rw[q]at hw;cases d with
   |lst ds=>exact key ds q hw
   |_=>exact hw.elim
noncomputable def zE(g1 g2:a0->bw Den.fb):a0->bw Den.fb:=λC=>g1 C>>=λr=>match r with
 |.cg cp=>g2 cp
 |.d7 d=>.ok (.d7 d)
def Ul:hx X [] (en xp X ao λC=>.ok (.cg C)):=by
 intro pins s σ H T I ⟨ck,bx,G,C,ae,hw⟩;exact FY pins s σ H T I (hw σ G H ae)
def Uj(J:eu X st (en xp X ao g1))(aa:hx X j1 (en xp X ao g2)):hx X (st::j1) (en xp X ao (zE g1 g2)):=by
 intro pins s σ H T I ⟨ck,bx,G,C,ae,hw⟩;refine FX J aa pins s σ H T I ?_;refine⟨ck,bx,G,C,ae,bX (bt.mp hw) (λr k=>?_) λ_ q=>q⟩;cases r with
 |cg cp=>exact λdB aN aq fz=>⟨ck,bx,aN,cp,fz,k⟩
 |d7 d=>exact k
def TX(aj:dH X c (fO xp X ao cj))(ax:hx X eQ (en xp X ao g1))(ae:hx X cK (en xp X ao g2)):eu X (.If c eQ cK pos) (en xp X ao λC=>cj C>>=λx=>Den.fJ x>>=λk=>if k then g1 C else g2 C):=by
 intro pins s σ H T I ⟨ck,bx,G,C,hJ,hw⟩;refine SA aj ax ae pins s σ H T I ?_;refine⟨G,C,hJ.c8,?_⟩;refine bt.mpr (bX (bt.mp hw) (λd k=>bX (bt.mp k) (λdz q aL H1 aR=>?_) λ_ q=>q.mono hJ.ext.h) λ_ q=>q.mono hJ.ext.h);cases dz with
 |true=>simp only[Zo]at q ⊢;exact⟨ck,bx,aL,C,hJ.step aR,q⟩
 |false=>simp only[Ym,YK]at q ⊢;exact⟨ck,bx,aL,C,hJ.step aR,q⟩
end
theorem rG{prog:Program}{w:World}:∀{af:List Value}{k:List Int},IntsAre af k->ItemsAre (intKind prog w) k af
 |_,_,.nil=>.nil
 |_,_,.cons n t r=>.cons (Pv.Pj prog w n t) (rG r)
theorem A0{prog:Program}{w:World}:∀{k:List Int}{af:List Value},ItemsAre (intKind prog w) k af->IntsAre af k
 |_,_,.nil=>.nil
 |_,_,.cons h r=>by
  obtain⟨t,rfl⟩:=abK h;exact .cons _ t (A0 r)
theorem D1:∀{af:List Value}{a b:List Int},IntsAre af a->IntsAre af b->a=b
 |_,_,_,.nil,.nil=>rfl
 |_,_,_,.cons n t r,.cons _ _ q=>by rw[D1 r q]
def EW{κ:Type}[DecidableEq κ](ar:List κ){i:Nat}(h:i<=ar.length):(Pv.met ar i).length<=(bC.d6 ar).length :=
 bC.lL (Pv.rT ar i) λz hz=>(bC.lK z ar).mpr (abq ((Pv.ur ar i h z).mp hz))
def UE{κ:Type}[DecidableEq κ]{lt:κ->κ->Bool}(L:bC.gI lt){dQ r c6:List κ}(J:dQ.Perm r)(aa:r.Perm (Pv.met c6 c6.length)):bC.cV lt dQ=bC.cV lt (bC.d6 c6):=by
 have h:=J.trans aa;have ej:dQ.Nodup:=h.nodup_iff.mpr (Pv.rT c6 _);refine bC.oR L (bC.nx L ej) (bC.nx L (bC.pS c6)) λz=>?_
 rw[bC.kD,bC.kD,bC.lK,h.mem_iff,Pv.ur c6 _ (Yi _),List.take_length]
def UC{κ:Type}[DecidableEq κ]{dQ r c6:List κ}(J:dQ.Perm r)(aa:r.Perm (Pv.met c6 c6.length)):dQ.length<=(bC.d6 c6).length:=by
 rw[(J.trans aa).length_eq];exact EW c6 (Yi _)
def D5{P:Nat->Value->Prop}{acc:Array Value}{l:List Value}(h:ItemsOf P acc l.length)(es:∀i v,P i v->l[i]?=some v):acc.toList=l:=by
 obtain⟨J,aa⟩:=h;apply aab;intro i
 by_cases hi:i<l.length
 .have eh:i<acc.size:=(by omega);have e:acc[i]?=some acc[i]:=Yo eh;have:=es i _ (aa i _ e);rw[this];simpa using e
 .rw[YO (by simp;omega),YO (by omega)]
section
variable{X:aU}{pins:List (Addr×Obj)}{σ:b3}{G H:az}{s:Shared}
noncomputable def vK(K:W.Frag)(G:az)(v:Value):Prop:=∃b k,v=.ref b/\Rep K G (gH k) (V.ref b)
theorem Gs(I:Inv X pins σ H s)(ab:bV G H):∀{ar:List (List Int)}{xs:List V}{us:List Value},bN X.K G (ar.map gH) xs->Vals xs us->Paired ((Pv.D9 (vK X.K G) X.prog X.w).Row s.heap) us ar
 |[],_,_,r,v=>by cases r;cases v;exact .nil
 |k::ar,_,_,⟨x,t,e,aH,a5⟩,v=>by
  subst e;cases v with
  |cons v1 v2 =>
   obtain⟨a,ys,rfl,h,q⟩:=id aH;cases v1;obtain⟨its,cb,⟨o,ay,aj,n,hd⟩,_⟩:=I.tuple (iS ab h);rw[kK q]at cb;exact .cons ⟨a,rfl,⟨o,its.toArray,n,ay,aj,hd,rG (by simpa using intsAre_of cb)⟩,a,k,rfl,aH⟩ (Gs I ab a5 v2)
theorem GQ(I:Inv X pins σ H s)(ab:bV G H):∀{ah:List (Int×Value)}{ar:List (List Int)},Paired (λe k=>Pv.kT X.prog X.w s.heap e k/\vK X.K G e.2) ah ar->∃xs,bN X.K G (ar.map gH) xs/\Vals xs (ah.map (·.2))
 |_,_,.nil=>⟨[],rfl,.nil⟩
 |e::ah,k::ar,.cons ⟨⟨b,ai,_,o,items,n,ay,aj,hd,au⟩,ik,dz,av,r⟩ t=>by
  obtain⟨xs,aH,a5⟩:=GQ I ab t;rw[ai]at av;injection av with av;subst av;have yf:dz=k:=by
   obtain⟨a,ys,eb,h,q⟩:=id r;cases eb;obtain⟨its,cb,⟨bH,dP,_,cG,fA⟩,_⟩:=I.tuple (iS ab h);rw[ay]at dP;cases dP;rw[hd]at fA;injection fA with cz _;rw[kK q]at cb;have J:=intsAre_of cb;have aa:=A0 au;rw[cz]at aa;exact D1 (by simpa using J) (by simpa using aa)
  subst yf;exact⟨V.ref b::xs,⟨_,_,rfl,r,aH⟩,by rw[List.map_cons,ai];exact .cons rfl a5⟩
end
section
variable{xp:cw}{X:aU}{ao:List Nat}{m:er}{f:a0->bw D}{e:Expr}{pos pos' p fW:Pos}{x y:Str}{pins:List (Addr×Obj)}{σ:b3}{G H:az}{s:Shared}
def WZ{ds:List D}{Q:D->Prop}{E:Nat->Prop}(h:cL (Den.gb ds) Q E):ds.all Den.lB=true/\(Den.k4 ds).length<=255/\Q (.lst (Den.ie (Den.k4 ds))):=by
 unfold Den.gb at h;cases q:(ds.all Den.lB&&decide ((Den.k4 ds).length<=255)) with
 |false=>rw[q]at h;exact h.elim
 |true =>
  rw[q]at h;simp only[Yg,YD]at q;exact⟨q.1,q.2,h⟩
def Inv.grown(I:Inv X pins σ H s){s':Shared}(g:Pv.sI s s'):Inv X pins σ H s':=by
 obtain⟨h',g',d',z9,r2⟩:=s';obtain⟨k,ai,av,bu⟩:=g;have ai:g'=s.gens:=ai;have av:d'=s.drawn:=av;have bu:r2=s.os:=bu;subst ai av bu;exact I.kept k
def U0{Q:de}(cF:X.A.handled=none)(bz:X.A.units+64<cLine)(I:Inv X pins σ H s)(ab:bV G H){a:Addr}{o:Obj}{ah:Array (Int×Value)}{ba:Nat}{t:SetTable}(ay:s.heap.get? a=some o)(O:Pv.nr X.w o ah ba t){ds:List D}{xs:List V}(r:bN X.K G ds xs)(v:Vals xs ((Pv.gm X.w a ah ba).toList.map (·.2)))(jc:Den.lJ ds=true)(g7:ds.length<=255)(k:∀v aN aq,Ext G H aN aq->cE X.K H aN aq .fresh (.lst (Den.ie ds)) v->Q v aq):wpAny (model X.prog X.w) X.A (call (.builtin "sorted") [.ref a]) (eJ X pins σ Q) X.cA s:=by
 have hsz:(Pv.gm X.w a ah ba).size=ah.size:=by have:=(Pv.r1 X.w a ah ba).length_eq;simpa using this
 have aw:ah.size<=255:=by
  have J:=v.length;have aa:=r.length;simp only[List.length_map,Array.length_toList]at J;omega
 refine u0 (Pv.JY (A:=X.A.in1) cF ay O (by rw[sizeLine_eq];omega) λs' acc g hH=>?_);have e:acc.toList=(Pv.gm X.w a ah ba).toList.map (·.2):=by
  refine D5 (P:=λi v=>∃x,(Pv.gm X.w a ah ba)[i]?=some x/\v=x.2) (l:=(Pv.gm X.w a ah ba).toList.map (·.2)) (by simpa[hsz] using hH) λi v aV=>?_
  obtain⟨z,J,aa⟩:=aV;rw[Yy,YF,J,aa];rfl
 rw[e];exact uZ cF bz (Inv.grown I g) ab r v (by rw[jc];rfl) g7 k
def W2{Q:de}(aj:X.calm=true)(bz:X.A.units+64<cLine)(I:Inv X pins σ H s)(ab:bV G H){d:D}{z:V}{u:Value}(bQ:View X.K G H d z)(bg:RelV z u)(hw:cL (Den.fE d>>=λxs=>Den.gb xs) (λd'=>∀v aN aq,Ext G H aN aq->cE X.K H aN aq .fresh d' v->Q v aq) (λ_=>False)):
  wpAny (model X.prog X.w) X.A (call (.type "set") [u]) (λw s1=>wpAny (model X.prog X.w) X.A (call (.builtin "sorted") [w]) (eJ X pins σ Q) X.cA s1) X.cA s:=by
 obtain⟨ds,a,ys,rfl,aJ,rs,hw⟩:=GL ab bQ (bt.mp hw);obtain⟨jc,g7,hw⟩:=WZ hw;have cF:X.A.handled=none:=I.ok.hd aj;cases bg;obtain⟨its,cb,T,bk,fN,nl,cP,lx⟩:∃(its:List Value),Vals ys its/\∃T bk fN nl,(T="list"\/T="tuple")/\s.heap.get? a=some { cls:=.type T,dict:=bk,data:=.seq its.toArray nl,slots:=fN }:=by
  rcases aJ with aJ|aJ
  .obtain⟨its,cb,⟨⟨cls,df,data,cn⟩,n,ay,J,_,aI⟩,_⟩:=I.list aJ;simp only at J aI;subst J aI;exact⟨its,cb,"list",df,cn,n,.inl rfl,ay⟩
  .obtain⟨its,cb,⟨⟨cls,df,data,cn⟩,ay,J,n,aI⟩,_⟩:=I.tuple aJ;simp only at J aI;subst J aI;exact⟨its,cb,"tuple",df,cn,n,.inr rfl,ay⟩
 have keep:∀{h':Heap}{tk:Nat},(∀b o,b<s.heap.objs.size->s.heap.get? b=some o->h'.get? b=some o)->Inv X pins σ H { s with heap:=h',toks:=tk }:=λau=>I.kept λb o q=>au b o (Yu q) q
 obtain⟨ar,rfl,eN⟩:=vf jc;rw[bC.xg (f:=gH) bC.nO]at g7 hw;rw[List.length_map]at g7;refine Pv.JC (Pv.D9 (vK X.K G) X.prog X.w) cP cF bz lx (by simpa using Gs I ab rs cb) (λi hi=>by have:=EW ar (aaY hi);omega) λh' tk r a6 aE au=>?_
 obtain⟨o,ah,ba,t,ay,hex,hd,gw,_,e4,mH,yn,yh⟩:=a6;obtain⟨dQ,aP,a9⟩:=Pv.Paired.perm (Pv.r1 X.w s.heap.objs.size ah ba) yn;have cM:Inv X pins σ H { s with heap:=h',toks:=tk }:=keep au;obtain⟨xs,aH,a5⟩:=GQ cM ab a9;have e:Den.ie (dQ.map gH)=Den.ie ((bC.d6 ar).map gH):=by
  rw[bC.ov (f:=gH) (lt:=bC.lexLt) bC.pJ,bC.ov (f:=gH) (lt:=bC.lexLt) bC.pJ,UE bC.lH aP aE]
 refine U0 (s:={ s with heap:=h',toks:=tk }) cF bz cM ab ay ⟨hex,hd,gw,e4,mH⟩ aH a5 ?_ ?_ (by rw[e];exact hw)
 .unfold Den.lJ;rw[bC.sY λc aj=>eN c ?_,Bool.or_true];have:=((aP.trans aE).mem_iff).mp aj;exact abq ((Pv.ur ar _ (Yi _) c).mp this)
 .rw[List.length_map];have:=UC aP aE;omega
def Um(aj:X.calm=true)(bz:X.A.units+64<cLine)(ag:x="sorted")(aD:y="set")(nX:et X x)(nY:X.aK x=none)(rm:et X y)(rp:X.aK y=none)(ax:aO X e (bp xp X ao .view f))(cJ:starEach [e] X.env=[(false,eval e X.env)]):
  aO X (.Call (.Name x p) [.Call (.Name y fW) [e] [] pos'] [] pos) (bp xp X ao .fresh λC=>f C>>=λd=>Den.fE d>>=λxs=>Den.gb xs):=by
 subst ag aD;intro pins s σ H Q I ⟨G,C,ab,hw⟩;refine ZC (jT I nX nY (u:=.builtin "sorted") (by kernel_rfl) ?_);refine aai ?_ rfl rfl;show wpAny _ _ (spliced ((false,eval (.Call (.Name "set" fW) [e] [] pos') X.env)::[])) _ _ s;refine ZL ?_;refine ZC (jT I rm rp (u:=.type "set") (by kernel_rfl) ?_);refine Y7 (bO (kG ax cJ pos' pins s σ H (λaf H1=>∃v d aL,af=[v]/\Ext G H aL H1/\View X.K aL H1 d v/\cL (Den.fE d>>=λxs=>Den.gb xs) (λd'=>∀v aN aq,Ext aL H1 aN aq->cE X.K H1 aN aq .fresh d' v->Q v aq) (λ_=>False)) I
  ⟨G,C,ab,bX (bt.mp hw) (λd k v aL H1 aR aH=>?_) λ_ q=>q⟩) λus s1 ⟨af,H1,bb,aH,aP⟩=>?_) cJ rfl
 .refine⟨v,d,aL,rfl,aR,aH,?_⟩;refine bX (m9 k λc=>?_) (λd' q qj b5 aY bF a5=>q qj b5 aY (aR.trans bF) (a5.old aR.h)) λ_ q=>q
  intro z;cases hd:Den.fE d with
  |ok ds=>rw[hd]at z;have z:Den.gb ds=.exc c:=z;unfold Den.gb at z;split at z<;>cases z
  |exc cN=>cases d<;>cases hd
  |bad=>rw[hd]at z;cases z
 .obtain⟨v,d,aL,ai,aR,bQ,e5⟩:=aP;subst ai;obtain⟨u,rfl,bg⟩:=vals1 aH;refine bO (W2 aj bz bb aR.sub bQ bg e5) λw s2 aa=>?_
  exact Z7 aa
end
section
variable{xp:cw}{X:aU}{ao:List Nat}{m:er}{f bo cm:a0->bw D}{a b e dh:Expr}{pos p bE d2 hg:Pos}{pins:List (Addr×Obj)}{σ:b3}{G H:az}{s:Shared}{x:Str}
def f_int:gX X (.type "int") (lS X.K m λd=>match d with|.aT b=>.ok (.int (if b then 1 else 0))|_=>.bad):=by
 intro pins s σ H xs us Q I r ⟨G,z,d,ex,ab,bQ,hw⟩;subst ex;cases d with
 |aT b =>
  have bQ:z=.aT b:=bQ;subst bQ;exact JB pins s σ H _ us Q I r (.inr ⟨b,rfl,hw _ G H (Ext.refl ab) cE.int⟩)
 |_=>exact hw.elim
def WN (lo : Int) : ∀ {n : Nat} {l : List Value}, l.length = n -> (∀ (i : Nat) v, l[i]? = some v -> ∃ t, v = .int (lo + i * 1) t) -> Vals ((List.range n).map fun (k : Nat) => V.int (lo + (k : Nat))) l := by
  intro n l aw h
  subst aw
  induction l generalizing lo with
  | nil => exact .nil
  | cons v l aF =>
    rw [List.length_cons, aa8, List.map_cons, List.map_map]
    refine .cons ?_ ?_
    · obtain ⟨t, e⟩ := h 0 v rfl
      exact ⟨t, by rw [e]; simp⟩
    · have := aF (lo + 1) fun i w hw => by
        obtain ⟨t, e⟩ := h (i + 1) w (by simpa using hw)
        exact ⟨t, by rw [e]; congr 1; push_cast; omega⟩
      have av : ((fun (k : Nat) => V.int (lo + (k : Nat))) ∘ Nat.succ) = fun (k : Nat) => V.int (lo + 1 + (k : Nat)) := by
        funext k; simp only [Function.comp]; congr 1; push_cast; omega
      rw [av]; exact this
theorem Gk{K:W.Frag}(lo:Int):∀(l:List Nat),bN K G (l.map λ(k:Nat)=>Den.D.int (lo+(k:Nat))) (l.map λ(k:Nat)=>V.int (lo+(k:Nat)))
 |[]=>rfl
 |k::l=>⟨_,_,rfl,rfl,Gk lo l⟩
def H0{R:Value->Shared->Prop}(a4:et X "range")(hm:X.aK "range"=none)(ax:aO X a (bp xp X ao .view bo))(cJ:starEach [a] X.env=[(false,eval a X.env)])(I:Inv X pins σ H s){C:a0}(ab:ew X.K ao G H C σ){Q:List D->Prop}(hw:cL (bo C>>=λd=>Den.e1 d>>=λi=>Den.iQ 0 i) Q (λc=>fI xp X c H))(k:∀(s1:Shared)(aL H1:az)(n:Int)(r:Addr)(t u v:Tok)(h':Heap)(tk:Nat),Inv X pins σ H1 s1->Ext G H aL H1->Q (Den.eO 0 n)->(-(2 ^ 62)<=n/\n<2 ^ 62/\(Den.eO 0 n).length<=16777216)->Inv X pins σ H1 { s1 with heap:=h',toks:=tk }->IsRange h' r 0 n 1 t u v->R (.ref r) { s1 with heap:=h',toks:=tk }):
  wpAny (model X.prog X.w) X.A (eval (.Call (.Name "range" p) [a] [] pos) X.env) R X.cA s:=by
 refine Call_ (jT I a4 hm boot_range (Y7 (bO (kG ax cJ pos pins s σ H (λaf H1=>∃n aL,af=[.int n]/\Ext G H aL H1/\Q (Den.eO 0 n)/\(-(2 ^ 62)<=n/\n<2 ^ 62/\(Den.eO 0 n).length<=16777216)) I
  ⟨G,C,ab,bX (bt.mp hw) (λd q v aL H1 aR aH=>?_) λ_ q=>q⟩) λus s1 ⟨af,H1,bb,aH,n,aL,ai,aR,aJ,ae⟩=>?_) cJ rfl))
 .have q:=bt.mp q;cases d with
  |int i =>
   obtain⟨⟨_,_,b1,b2⟩,hz,q⟩:=zx q;exact⟨i,aL,by rw[cE.pU aH],aR,q,b1,b2,hz⟩
  |_=>exact q.elim
 .subst ai;obtain⟨u,rfl,c4⟩:=vals1 aH;obtain⟨t,rfl⟩:=c4;refine call_range_1 ?_;exact k s1 aL H1 n _ _ _ _ _ _ bb aR aJ ae (bb.kept λb o e=>Yh _ e) (IsRange.new ..)
def Gm(n:Int):Builtin.Range.rangeSize 0 n 1=((Den.eO 0 n).length:Int):=by
 unfold Den.eO;rw[List.length_map,List.length_range,rangeSize_one]
 split<;>omega
def SY(n:Int):(Den.eO 0 n).length=n.toNat:=by unfold Den.eO;rw[List.length_map,List.length_range];congr 1;omega
def Gn{acc:Array Value}{n:Int}(h:ItemsOf (λi v=>∃t,v=.int (0+i*1) t) acc (Den.eO 0 n).length):∃xs,bN X.K G (Den.eO 0 n) xs/\Vals xs acc.toList:=by
 have aw:acc.toList.length=n.toNat:=by rw[Array.length_toList,h.1,SY]
 have v:=WN 0 aw λi v aV=>h.2 i v (by simpa using aV)
 have e:Den.eO 0 n=(List.range n.toNat).map λ(k:Nat)=>Den.D.int (0+(k:Nat)):=by
  unfold Den.eO;rw[Int.sub_zero]
 exact⟨_,by rw[e];exact Gk 0 _,v⟩
def Uo{y:Str}(aj:X.calm=true)(ag:x="range")(aD:y="tuple")(nX:et X x)(nY:X.aK x=none)(rm:et X y)(rp:X.aK y=none)(ax:aO X a (bp xp X ao .view bo))(cJ:starEach [a] X.env=[(false,eval a X.env)]):
  aO X (.Call (.Name y bE) [.Call (.Name x p) [a] [] pos] [] d2) (bp xp X ao .val λC=>(bo C>>=λd=>Den.e1 d>>=λi=>Den.iQ 0 i)>>=λds=>.ok (.tup ds)):=by
 subst ag aD;intro pins s σ H Q I ⟨G,C,ab,hw⟩;refine ZC (jT I rm rp (u:=.type "tuple") (by kernel_rfl) ?_);refine Y7 ?_ rfl rfl;show wpAny _ _ (spliced ((false,eval (.Call (.Name "range" p) [a] [] pos) X.env)::[])) _ _ s;refine ZL ?_;refine H0 nX nY ax cJ I ab (bt.mp hw) λs1 aL H1 n r t u v h' tk bb aR aJ ae cM a7=>Z7 ?_
 have cF:X.A.handled=none:=cM.ok.hd aj;have aB:=Gm n;have meets:Meets (Builtin.«tuple.__new__» ⟨[.type "tuple",.ref r],[]⟩) (λA R s'=>A.handled=none/\IsRange s'.heap r 0 n 1 t u v /\
   ∀(s2:Shared)(acc:Array Value),Pv.sI s' s2->ItemsOf (λi v=>∃t,v=.int (0+i*1) t) acc (Den.eO 0 n).length->R (.ok (.ret (.ref s2.heap.objs.size))) { s2 with heap:=s2.heap.push { cls:=.type "tuple",data:=.seq acc } }) :=
  .of_wp λprog w A R s' h=>by
   obtain⟨J,aa,aI⟩:=h;have jd:=sub_tuple_self;have XB:=init_tuple_lookup;have XK:=madeHere_tuple;have cP:s'.TypeIs (.ref r) "range":=⟨_,aa,rfl⟩;have aX:A.in1.handled=none:=J
   wp_walk using aak cP,Pv.JX (A:=A.in1) aX aa (small_one (by omega) (by omega) ae.1 ae.2.1) aB ae.2.2
   intro s2 acc g hH;have e:acc.toList.toArray=acc:=(by simp);refine Yf (m:=Builtin.Tuple.tupleExact acc.toList.toArray) (YV (wpAny_pure ⟨_,rfl,?_⟩) (show acc.toList.toArray.size<=sizeLine by rw[e,hH.1,sizeLine_eq];exact ae.2.2));rw[e];exact aI s2 acc g hH
 refine callType_new F.called_tuple (by decide) (F.typeCall_tuple_1 _) (F.newCall_tuple_1 _) (λobj=>F.args_object_init_2 obj _) F.entry_tuple_new meets ⟨cF,a7,λs2 acc g hH=>⟨⟨_,Yx _ rfl,rfl⟩,?_⟩⟩;obtain⟨xs,aZ,aQ⟩:=Gn (X:=X) (G:=aL) hH;have eV:=Inv.grown cM g;have e:acc=acc.toList.toArray:=by simp
 rw[e];exact Fc eV aR.sub aQ aZ (by rw[aQ.length,Array.length_toList,hH.1,sizeLine_eq];exact ae.2.2) λv aN aq bF a5=>aJ v aN aq (aR.trans bF) a5
def T5{y:Str}(aj:X.calm=true)(ag:x="range")(aD:y="list")(nX:et X x)(nY:X.aK x=none)(rm:et X y)(rp:X.aK y=none)(ax:aO X a (bp xp X ao .view bo))(cJ:starEach [a] X.env=[(false,eval a X.env)]):
  aO X (.Call (.Name y bE) [.Call (.Name x p) [a] [] pos] [] d2) (bp xp X ao .fresh λC=>(bo C>>=λd=>Den.e1 d>>=λi=>Den.iQ 0 i)>>=λds=>.ok (.lst ds)):=by
 subst ag aD;intro pins s σ H Q I ⟨G,C,ab,hw⟩;refine ZC (jT I rm rp (u:=.type "list") (by kernel_rfl) ?_);refine Y7 ?_ rfl rfl;show wpAny _ _ (spliced ((false,eval (.Call (.Name "range" p) [a] [] pos) X.env)::[])) _ _ s;refine ZL ?_;refine H0 nX nY ax cJ I ab (bt.mp hw) λs1 aL H1 n r t u v h' tk bb aR aJ ae cM a7=>Z7 ?_
 have cF:X.A.handled=none:=cM.ok.hd aj;have aB:=Gm n;refine call_list_range cF a7 (small_one (by omega) (by omega) ae.1 ae.2.1) aB ae.2.2 λaa We acc c au a4 hH=>?_
 obtain⟨xs,aZ,aQ⟩:=Gn (X:=X) (G:=aL) hH;have e:acc=acc.toList.toArray:=by simp
 rw[e]at a4;refine⟨.ref h'.objs.size,_,cM.laid (t':=We) (o:=.lst xs) au (Yi _) ⟨by rw[aQ.length,Array.length_toList,hH.1,sizeLine_eq];exact ae.2.2,acc.toList,c,aQ,a4⟩,rfl,?_⟩;have fr:H1 h'.objs.size=none:=cM.fresh;exact aJ _ aL _ (aR.trans (Ext.own aR.sub fr λ_ z=>nomatch z)) ⟨_,xs,rfl,dS,aR.h.free fr,aR.sub.free fr,aZ⟩
end
section
variable{X:aU}{pins:List (Addr×Obj)}{σ:b3}{G H:az}{s:Shared}{h':Heap}
end
def As:∀x y:Nat,(x ^^^ y)+2*(x &&& y)=x+y:=by
 intro x
 induction x using Nat.strongRecOn with
 |ind x aF =>
  intro y
  by_cases h:x=0
  .subst h;simp
  .have J:=aF (x / 2) (by omega) (y / 2);have ai:(x ^^^ y) / 2=x / 2 ^^^ y / 2:=ab8;have av:(x &&& y) / 2=x / 2 &&& y / 2:=abu;have bu:(x ^^^ y)%2=(x%2+y%2)%2:=by
    have:=@aa3 x y;rcases Yt x with a|a<;>rcases Yt y with b|b<;>rcases Yt (x ^^^ y) with c|c<;>simp[a,b,c]at this ⊢
   have dU:(x &&& y)%2=(x%2)*(y%2):=by
    have:=@aam x y;rcases Yt x with a|a<;>rcases Yt y with b|b<;>rcases Yt (x &&& y) with c|c<;>simp[a,b,c]at this ⊢
   rw[<- ai,<- av]at J;revert J bu dU;generalize x ^^^ y=p;generalize x &&& y=q;intro J bu dU;rcases Yt x with a|a<;>rcases Yt y with b|b<;>rw[a,b]at bu dU<;>omega
def AW{i j:Int}(hi:0<=i)(aA:0<=j):Builtin.bitAnd i j=((i.toNat &&& j.toNat:Nat):Int):=by
 unfold Builtin.bitAnd;rw[decide_eq_true hi,decide_eq_true aA]
def IA{i j:Int}(hi:0<=i)(aA:¬0<=j):Builtin.bitAnd i j=i-((i.toNat &&& (-j-1).toNat:Nat):Int):=by
 unfold Builtin.bitAnd;rw[decide_eq_true hi,decide_eq_false aA];rfl
def W6{i j:Int}(hi:0<=i)(aA:0<=j):Builtin.bitXor i j=((i.toNat ^^^ j.toNat:Nat):Int):=by
 rw[bitXor_and,AW hi aA];have:=As i.toNat j.toNat;omega
section
variable{xp:cw}{X:aU}{ao:List Nat}{m:er}{f bo cm cj:a0->bw D}{a b c e:Expr}{pos:Pos}{pins:List (Addr×Obj)}{σ:b3}{G H:az}{s:Shared}
def KP:dj X (binaryOp .BitAnd) (kI X.K (Den.d3 .and)):=by
 intro pins s σ H x y v u Q I bg bI ⟨G,bj,cH,ab,bQ,dF,hw⟩;cases bj<;>cases cH<;>first|exact hw.elim|skip
 rename_i i j;have hw:cL (Den.nv i j) _ _:=hw;unfold Den.nv at hw
 by_cases h:0<=i
 .rw[if_pos h]at hw
  by_cases aa:0<=j
  .rw[if_pos aa]at hw;exact Fs pins s σ H x y v u Q I bg bI ⟨_,_,bQ,dF,by dsimp only;rw[AW h aa];exact lj ab hw rfl⟩
  .rw[if_neg aa]at hw;exact Fs pins s σ H x y v u Q I bg bI ⟨_,_,bQ,dF,by dsimp only;rw[IA h aa];exact lj ab hw rfl⟩
 .rw[if_neg h]at hw;exact hw.elim
def KZ:dj X (binaryOp .BitXor) (kI X.K (Den.d3 .xor)):=by
 intro pins s σ H x y v u Q I bg bI ⟨G,bj,cH,ab,bQ,dF,hw⟩;cases bj<;>cases cH<;>first|exact hw.elim|skip
 rename_i i j;have hw:cL (Den.sC i j) _ _:=hw;unfold Den.sC at hw
 by_cases h:0<=i/\0<=j
 .rw[if_pos h]at hw;exact Rx pins s σ H x y v u Q I bg bI ⟨_,_,bQ,dF,by dsimp only;rw[W6 h.1 h.2];exact lj ab hw rfl⟩
 .rw[if_neg h]at hw;exact hw.elim
def KX:dj X (binaryOp .LShift) (kI X.K (Den.d3 .shl)):=by
 intro pins s σ H x y v u Q I bg bI ⟨G,bj,cH,ab,bQ,dF,hw⟩;cases bj<;>cases cH<;>first|exact hw.elim|skip
 rename_i i j;have hw:cL (if 0<=j/\j<=1000/\-Den.e0<i/\i<Den.e0 then Den.R.ok (Den.D.int (i*2 ^ j.toNat)) else .bad) _ _:=hw
 by_cases h:0<=j/\j<=1000/\-Den.e0<i/\i<Den.e0
 .rw[if_pos h]at hw;obtain⟨J,aa,aI,aX⟩:=h;have e:Den.e0=18446744073709551616:=rfl;refine Rv pins s σ H x y v u Q I bg bI ⟨_,_,bQ,dF,⟨J,by omega,?_⟩,lj ab hw rfl⟩;rw[e]at aI aX;show i.natAbs<18446744073709551616;omega
 .rw[if_neg h]at hw;exact hw.elim
def T6{x:Str}{p:Pos}(aj:X.calm=true)(ag:x="min")(a4:et X x)(hm:X.aK x=none)(ax:aO X a (bp xp X ao .view bo))(ae:aO X b (bp xp X ao .view cm))(cJ:starEach [a,b] X.env=[(false,eval a X.env),(false,eval b X.env)])(mJ:starEach [b] X.env=[(false,eval b X.env)]):
  aO X (.Call (.Name x p) [a,b] [] pos) (bp xp X ao m λC=>bo C>>=λx=>Den.e1 x>>=λi=>cm C>>=λy=>Den.e1 y>>=λj=>.ok (.int (if j<i then j else i))):=by
 subst ag;intro pins s σ H Q I ⟨G,C,ab,hw⟩;have xS:gX X (.builtin "min") (λxs H Q=>∃i j,xs=[.int i,.int j]/\Q (.int (if j<i then j else i)) H):=by
  intro pins s σ H xs us Q I r ⟨i,j,e,q⟩;subst e;cases r with
  |cons aH a5 =>
   cases a5 with
   |cons a5 dR =>
    cases dR;obtain⟨t,rfl⟩:=aH;obtain⟨u,rfl⟩:=a5;refine min_two_ints (I.ok.hd aj) λh' tk au=>?_
    refine⟨_,H,I.kept au,?_,q⟩
    by_cases c:j<i
    .rw[if_pos c,if_pos c];exact⟨u,rfl⟩
    .rw[if_neg c,if_neg c];exact⟨t,rfl⟩
 refine uI xS a4 hm (by kernel_rfl) (oj ax (kG ae mJ) (by rw[cJ,mJ])) (by decide) (by decide) (by rw[cJ,mJ]) (by rw[mJ];rfl) pins s σ H Q I ?_;refine⟨G,C,ab,bX (bt.mp hw) (λbj k v aL H1 aR aH=>?_) λ_ q=>q⟩;cases bj with
 |int i =>
  have k:cL (cm C>>=λy=>Den.e1 y>>=λj=>.ok (Den.D.int (if j<i then j else i))) _ _:=k;refine⟨aL,C,ab.ext aR,bX (bt.mp k) (λcH aQ w b5 aY bF a5=>?_) λ_ q=>q.mono aR.h⟩;cases cH with
  |int j =>
   have aH:v=.int i:=aH;have a5:w=.int j:=a5;subst aH a5;exact⟨i,j,rfl,aQ _ b5 aY (aR.trans bF) cE.int⟩
  |_=>exact aQ.elim
 |_=>exact k.elim
def GC(aj:dH X c (fO xp X ao cj))(ax:aO X a (bp xp X ao m bo))(ae:aO X b (bp xp X ao m cm)):aO X (.IfExp c a b pos) (bp xp X ao m λC=>cj C>>=λx=>Den.fJ x>>=λk=>if k then bo C else cm C):=by
 intro pins s σ H Q I ⟨G,C,ab,hw⟩;refine RS aj ax ae pins s σ H Q I ?_;refine⟨G,C,ab,bt.mpr (bX (bt.mp hw) (λd k=>bX (bt.mp k) (λdz q aL H1 aR=>?_) λ_ q=>q) λ_ q=>q)⟩;cases dz with
 |true=>simp only[Zo]at q ⊢;exact⟨aL,C,ab.ext aR,bX q (λd ei v b5 aY bF a5=>ei v b5 aY (aR.trans bF) (a5.old aR.h)) λ_ z=>z.mono aR.h⟩
 |false=>simp only[Ym,YK]at q ⊢;exact⟨aL,C,ab.ext aR,bX q (λd ei v b5 aY bF a5=>ei v b5 aY (aR.trans bF) (a5.old aR.h)) λ_ z=>z.mono aR.h⟩
def T2(aj:dH X c (fO xp X ao cj))(ax:dH X a (fO xp X ao bo))(ae:dH X b (fO xp X ao cm)):dH X (.IfExp c a b pos) (fO xp X ao λC=>cj C>>=λx=>Den.fJ x>>=λk=>if k then bo C else cm C):=by
 intro pins s σ H Q I ⟨G,C,ab,hw⟩;refine PyProof.Rows.isTrue_IfExp (bO (aj pins s σ H (λdz H1=>∃aL,Ext G H aL H1/\cL ((if dz then bo C else cm C)>>=Den.fJ) (λb=>∀aN aq,Ext G H aN aq->Q b aq) (λc=>fI xp X c H)) I ⟨G,C,ab,?_⟩) λd s1 ⟨H1,bb,aL,aR,aP⟩=>?_)
 .refine bt.mpr (bX (bt.mp (bt.mp hw)) (λd k=>bX (bt.mp k) (λdz q aL H1 aR=>⟨aL,aR,bt.mpr q⟩) λ_ q=>q) λ_ q=>q)
 .have go:∀{g:a0->bw D}{e:Expr},dH X e (fO xp X ao g)->cL (g C>>=Den.fJ) (λb=>∀aN aq,Ext G H aN aq->Q b aq) (λc=>fI xp X c H)->wpAny (model X.prog X.w) X.A (isTrue e X.env (eval e X.env)) (oN X pins σ Q) X.cA s1:=λ{g e} h q =>
   h pins s1 σ H1 Q bb ⟨aL,C,ab.ext aR,bX q (λb ei b5 aY bF=>ei b5 aY (aR.trans bF)) λ_ z=>z.mono aR.h⟩
  cases d with
  |true=>exact go ax aP
  |false=>exact go ae aP
theorem rF:∀{ds:List D}{k:List Int},Den.intsOf ds=some k->ds=k.map .int
 |[],_,h=>by cases h;rfl
 |.int i::ds,k,h=>by
  cases q:Den.intsOf ds with
  |none=>simp[Den.intsOf,q]at h
  |some dz =>
   simp only[Den.intsOf,q,Option.map_some,Zl]at h;subst h;rw[rF q];rfl
 |.dr::_,_,h=>by cases h
 |.aT _::_,_,h=>by cases h
 |.str _::_,_,h=>by cases h
 |.tup _::_,_,h=>by cases h
 |.lst _::_,_,h=>by cases h
 |.bK _::_,_,h=>by cases h
 |.bD _::_,_,h=>by cases h
 |.fw _::_,_,h=>by cases h
def ints_list(I:Inv X pins σ H s){K:W.Frag}(ab:bV G H){ns:List Int}{z:V}{u:Value}(bQ:View X.K G H (.lst (ns.map .int)) z)(bg:RelV z u):∃(a:Addr)(xs:Array (Int×Tok)),u=.ref a/\s.heap.IsList a (intItems xs)/\xs.toList.map (·.1)=ns:=by
 obtain⟨a,ys,rfl,aJ,rs⟩:=bQ;cases bg;rw[kK rs]at aJ;obtain⟨its,cb,c7,hz⟩:=I.list aJ;have hi:IntsAre its ns:=intsAre_of cb;obtain⟨xs,ex⟩:=hi.allInts.items;refine⟨a,xs,rfl,by rw[<- ex];exact c7.isList,?_⟩;rw[<- nums_intItems,<- ex];exact hi.numsOf
def Mw(aj:X.calm=true):gX X (.builtin "sum") (lS X.K m λd=>Den.pI d>>=λxs=>Den.kN xs):=by
 intro pins s σ H xs us Q I r ⟨G,z,d,ex,ab,bQ,hw⟩;subst ex;obtain⟨u,rfl,bg⟩:=vals1 r;cases d with
 |lst ds =>
  have h6:cL (Den.kN ds) _ _:=hw;clear hw;unfold Den.kN at h6;cases q:Den.intsOf ds with
  |none=>rw[q]at h6;exact h6.elim
  |some ns =>
   rw[q]at h6;cases rF q;obtain⟨a,xs,rfl,aw,k9⟩:=ints_list (K:=X.K) I ab bQ bg;refine sum_intListG (I.ok.hd aj) aw λh' tk t' au=>?_
   refine⟨.int ns.sum,H,I.kept au,⟨t',?_⟩,h6 _ G H (Ext.refl ab) cE.int⟩;rw[preSum_eq,Zd (by simp),k9]
 |_=>exact hw.elim
theorem A1(g:Nat->Int):∀k,g (argBest (λi j=>decide (g i>g j)) k)=((List.range k).map λi=>g (i+1)).foldl (λm x=>if x>m then x else m) (g 0)
 |0=>rfl
 |k+1=>by
  rw[List.range_succ,List.map_append,List.foldl_append,<- A1 g k];show g (if decide (g (k+1)>g (argBest (λi j=>decide (g i>g j)) k))=true then k+1 else argBest (λi j=>decide (g i>g j)) k)=_;simp only[List.map_cons,Z8,List.foldl_cons,List.foldl_nil]
  by_cases h:g (k+1)>g (argBest (λi j=>decide (g i>g j)) k)
  .rw[if_pos (decide_eq_true h),if_pos h]
  .rw[if_neg (by simpa using h),if_neg h]
def Rb(xs:Array (Int×Tok))(n:Int)(ns:List Int)(h:xs.toList.map (·.1)=n::ns):numAt xs 0=n/\(List.range (xs.size-1)).map (λi=>numAt xs (i+1))=ns:=by
 have a4:∀i,numAt xs i=((n::ns)[i]?).getD 0:=λi=>by
  unfold numAt;rw[<- h,Yy,YF]
 have hz:xs.size=ns.length+1:=by
  have:=Zr List.length h;simpa using this
 refine⟨by rw[a4];rfl,?_⟩;rw[hz,Nat.add_sub_cancel];apply aab;intro i;rw[Yy]
 by_cases hi:i<ns.length
 .rw[ZT hi,Option.map_some,a4,List.getElem?_cons_succ,Yl hi];rfl
 .rw[YO (by simpa using hi),YO (by simpa using hi)];rfl
def Mt(aj:X.calm=true):gX X (.builtin "max") (lS X.K m λd=>Den.pI d>>=λxs=>Den.kC xs):=by
 intro pins s σ H xs us Q I r ⟨G,z,d,ex,ab,bQ,hw⟩;subst ex;obtain⟨u,rfl,bg⟩:=vals1 r;cases d with
 |lst ds =>
  have h6:cL (Den.kC ds) _ _:=hw;clear hw;unfold Den.kC at h6;cases q:Den.intsOf ds with
  |none=>rw[q]at h6;exact h6.elim
  |some ns =>
   rw[q]at h6;cases ns with
   |nil=>exact h6.elim
   |cons n ns =>
    cases rF q;obtain⟨a,xs,rfl,aw,k9⟩:=ints_list (K:=X.K) I ab bQ bg;obtain⟨dD,ai⟩:=Rb xs n ns k9;have hz:0<xs.size:=by
     have:=Zr List.length k9;simp at this;omega
    refine max_intList (I.ok.hd aj) aw hz λv h' tk aV au=>?_
    obtain⟨t,rfl⟩:=intItems_at aV;refine⟨.int (ns.foldl (λm x=>if x>m then x else m) n),H,I.kept au,⟨t,?_⟩,h6 _ G H (Ext.refl ab) cE.int⟩;rw[A1 (numAt xs),dD,ai]
 |_=>exact hw.elim
end
section
variable{xp:cw}{X:aU}{ao:List Nat}{m:er}{f:a0->bw D}{e dh iter:Expr}{pos bh hg ap ef:Pos}{i:Nat}{x n:Str}{j1:List Stmt}
def By{o:Option (Option D)}{Q:Unit->Prop}{E:Nat->Prop}(h:cL (Den.mm o) Q E):∃ds,o=some (some (.lst ds))/\Q ():=by
 cases o with
 |none=>exact h.elim
 |some o =>
  cases o with
  |none=>exact h.elim
  |some d =>
   cases d with
   |lst ds=>exact⟨ds,rfl,h⟩
   |_=>exact h.elim
def ya(cJ:starEach [e] X.env=[(false,eval e X.env)]):((backTo ef (starEach [e] X.env)).all (λx=>!x.1)&&(backToKw ef (keywordEach [] X.env)).all (λx=>x.1.isSome)&&decide ([e].length+([]:List Keyword).length+(if ([]:List Keyword).isEmpty then 0 else 1)<30))=true:=by
 rw[cJ];rfl
def Tu(hm:i∈ao)(aB:n="append")(aS:X.N[i]?=some x)(aV:fT X.env.scope x)(J:(x==("__debug__":Str))=false)(aa:(x==("__classdict__":Str))=false)(lu:(ap.endLine==ef.line)=true)(he:aO X e (bp xp X ao .val f))(cJ:starEach [e] X.env=[(false,eval e X.env)]):
  eu X (.Expr (.Call (.Attribute (.Name x bh) n ap) [e] [] ef) hg) (en xp X ao λC=>Den.mm C[i]?>>=λ_=>f C>>=λd=>Den.qF C[i]? d>>=λy=>.ok (.cg (C.set i (some y)))):=by
 subst aB;intro pins s σ H T I ⟨ck,bx,G,C,ae,hw⟩;refine FV (zd aaX PySem.F.slot_list_append PySem.F.type_list_append E1 (gn aS aV J aa) (kG he cJ) rfl (ya cJ) lu cJ rfl) rfl pins s σ H T I ?_;obtain⟨ds,q,hw⟩:=By (bt.mp hw);obtain⟨a,o,aZ,aQ,br,xs,rfl,bY⟩:=ae.c8.lst i (.lst ds) q hm rfl;refine⟨_,aZ,.inl ⟨rfl,xs,eF.of aQ⟩,?_⟩;refine⟨G,C,ae.c8,bX (bt.mp hw) (λd k v aL H1 aR aH=>?_) λ_ z=>z.mono ae.ext.h⟩;have hI:=ae.step aR;rw[q,Den.sQ]at k;have k:=bt.mp k
 by_cases hz:ds.length<Den.SZ
 .rw[if_pos hz]at k;have xW:H1 a=some (.lst xs):=aR.h _ _ aQ;have xV:aL a=none:=aR.new a br (by rw[aQ];exact λz=>nomatch z);refine⟨a,xs,v,rfl,rfl,xW,by rw[<- bY.length,<- sO];exact hz,?_⟩;exact k σ aL _ (hI.write (d:=.lst ds) (e:=.lst (ds++[d])) hm q rfl rfl aZ xV ⟨_,rfl,(bY.mono aR.g).snoc aH⟩)
 .rw[if_neg hz]at k;exact k.elim
noncomputable def ji(aL bx:az):az:=λa=>match aL a with
 |some o=>some o
 |none=>bx a
def rJ{aL bx:az}{a:Addr}{o:dJ}(h:aL a=some o):ji aL bx a=some o:=by unfold ji;rw[h]
def mL{aL bx:az}{a:Addr}(h:aL a=none):ji aL bx a=bx a:=by unfold ji;rw[h]
variable{K:W.Frag}{ck bx aL H1 G H:az}{C:a0}{σ:b3}
def GJ(x:Ext ck bx aL H1):bV bx (ji aL bx):=λa o h=>by
 cases q:aL a with
 |none=>rw[mL q];exact h
 |some bH =>
  rw[rJ q];have ai:=x.sub a bH q;have av:=x.h a o h;rw[ai]at av;exact av
def Mh(x:Ext ck bx aL H1)(y:Ext ck bx G H)(s:bV aL G):Ext aL (ji aL bx) G H where
 g:=s
 h:=λa o e=>by
  cases q:aL a with
  |some bH=>rw[rJ q]at e;cases e;exact y.sub a o (s a o q)
  |none=>rw[mL q]at e;exact y.h a o e
 sub:=y.sub
 new:=λa ai av=>by
  rw[mL ai]at av;refine y.new a ?_ av;cases q:ck a with
  |none=>rfl
  |some o=>rw[x.g a o q]at ai;cases ai
 ed:=λb xs z=>(y.ed b xs z).elim (λw=>.inl (by
  cases q:aL b with
  |none=>rw[mL q];exact w
  |some o=>rw[rJ q];rw[y.sub b o (s b o q)]at z;exact z)) .inr
def Cw(x:Ext ck bx aL H1)(y:Ext aL (ji aL bx) G H):Ext ck bx G H where
 g:=x.g.trans y.g
 h:=(GJ x).trans y.h
 sub:=y.sub
 new:=λa ai av=>by
  have q:=x.new a ai av;exact y.new a q (by rw[mL q];exact av)
 ed:=λb xs z=>(y.ed b xs z).elim (λw=>by
  cases q:aL b with
  |none=>rw[mL q]at w;exact .inl w
  |some o=>rw[rJ q]at w;exact .inr (y.g _ _ (q.trans w))) .inr
def d0.re(x:Ext ck bx aL H1)(h:d0 K ao ck bx G H C σ)(s:bV aL G):d0 K ao aL (ji aL bx) G H C σ:=by
 refine⟨h.c8,Mh x h.ext s,λi ds a q fy hi e=>?_⟩;obtain⟨b,xs,aZ,aQ,br,bY⟩:=h.c8.lst i ds q hi fy;rw[aZ]at e;cases e;have:aL a=none:=by
  cases z:aL a with
  |none=>rfl
  |some o=>rw[s a o z]at br;cases br
 rw[mL this];exact h.own i ds a q fy hi aZ
def d0.back(x:Ext ck bx aL H1)(h:d0 K ao aL (ji aL bx) G H C σ):d0 K ao ck bx G H C σ:=by
 refine⟨h.c8,Cw x h.ext,λi ds a q fy hi e=>?_⟩;have:=h.own i ds a q fy hi e;cases z:aL a with
 |some o=>rw[rJ z]at this;cases this
 |none=>rw[mL z]at this;exact this
theorem d0.zF:∀{ts:List Nat}{ws:List D}{af:List V}{C:a0}{σ:b3},(∀t∈ts,t∉ao)->d0 K ao ck bx G H C σ->bN K G ws af->d0 K ao ck bx G H (Den.iy ts (ws.map some) C) (m3 ts af σ)
 |[],ws,af,C,σ,_,h,r=>by simpa[Den.iy,m3] using h
 |t::ts,[],af,C,σ,_,h,r=>by cases r;simpa[Den.iy,m3] using h
 |t::ts,w::ws,af,C,σ,aW,h,⟨v,r,e,aH,a5⟩=>by
  subst e;exact d0.zF (ts:=ts) (λz hz=>aW z (List.mem_cons_of_mem _ hz)) (h.p8 (aW t List.mem_cons_self) aH) a5
def CK(g:D->a0->bw Den.fb)(d:D)(ds:List D)(C:a0):Den.forL g (d::ds) C=g d C>>=λr=>match r with
  |.cg cp=>Den.forL g ds cp
  |.d7 x=>.ok (.d7 x):=rfl
def TR{k:Nat}{ts:List Nat}{ip:a0->bw (List D)}{tw:a0->bw Den.fb}(aE:PassesOwn (model X.prog X.w) X.A X.env X.cA)(aj:X.calm=true)(yv:∀t∈ts,t∉ao)(hi:gZ X dh iter (jr xp X ao .val ip))(a4:iB X dh (tv X.K k ts))(ae:hx X j1 (en xp X ao tw))(ab:∀z,foldedSetIterable iter X.env z=pure z):eu X (.For dh iter j1 [] pos) (en xp X ao λC=>ip C>>=λds=>Den.forL (λd cp=>Den.fh k d>>=λaf=>tw (Den.iy ts af cp)) ds C):=by
 intro pins s σ H T I ⟨ck,bx,G,C,hJ,hw⟩;refine FW aE aj hi a4 ae ab pins s σ H T I ?_;refine⟨G,C,hJ.c8,bX (bt.mp hw) (λds gO cy aL H1 aR iI hz=>?_) λ_ q=>q.mono hJ.ext.h⟩;have vt:Ext ck bx aL H1:=hJ.ext.trans aR;have UJ:=GJ vt;refine⟨λj m dB aq=>j+m=ds.length/\∃aN cp,d0 X.K ao aL (ji aL bx) aN aq cp dB/\cL (Den.forL (λd cp=>Den.fh k d>>=λaf=>tw (Den.iy ts af cp)) (ds.drop j) cp) (jH X.K ao ck bx T) (λc=>fI xp X c bx),
  ⟨ds.length,by omega,aL,C,d0.re vt (hJ.step aR) (bV.refl _),by simpa using gO⟩,?_⟩
 rintro j m dB aq ⟨aA,aN,cp,cK,e5⟩;have jJ:oK .val aL H1 aN aq:=⟨cK.ext.g,cK.c8.sub⟩
 by_cases b7:j<ds.length
 .refine .inr ⟨iI.go j aN aq jJ b7,λoG aY=>(j+1)+(m-1)=ds.length/\∃b5 l3,d0 X.K ao aL (ji aL bx) b5 aY l3 oG/\cL (Den.forL (λd cp=>Den.fh k d>>=λaf=>tw (Den.iy ts af cp)) (ds.drop (j+1)) l3) (jH X.K ao ck bx T) (λc=>fI xp X c bx),
   λoG aY aa=>⟨m-1,by omega,aa⟩,λv aY aD=>?_⟩
  have hd:ds[j]?=some ds[j]:=Yl b7;obtain⟨b5,bF,ek⟩:=iI.j5 j aN aq v aY ds[j] jJ cK.c8.sub hd aD;have zC:=cK.step bF;have xk:ds.drop j=ds[j]::ds.drop (j+1):=Y5 b7;rw[xk,CK]at e5;have e5:=bt.mp (bt.mp e5);refine⟨b5,ds[j],bF.sub,ek,?_⟩;cases q:Den.fh k ds[j] with
  |bad=>rw[q]at e5;exact e5
  |exc c =>
   exfalso;cases k with
   |zero=>cases q
   |succ k =>
    cases fA:ds[j] with
    |tup zs =>
     rw[fA]at q;have x6:Den.fh (k+1) (.tup zs)=if zs.length=k+1 then .ok (zs.map some) else .bad:=rfl;rw[x6]at q
     split at q<;>cases q
    |_=>rw[fA]at q;cases q
  |ok os =>
   rw[q]at e5;intro ws af q4 zz;subst q4;refine⟨aL,ji aL bx,b5,_,d0.zF yv zC zz,bX e5 (λr Ed=>?_) λc z=>z.mono UJ⟩;cases r with
   |cg l3=>exact λqn iY b6 si=>⟨by omega,iY,l3,si,Ed⟩
   |d7 d=>exact λsv iY b6 hp dR=>Ed sv iY b6 (Cw vt hp) dR
 .have jF:j=ds.length:=(by omega);subst jF;refine .inl ⟨iI.stop aN aq jJ,?_⟩;rw[aaJ]at e5;exact e5 dB aN aq (d0.back vt cK)
end
def yD(a k:List Int):decide (a.map (Sum.inl (β:=Str))=k.map Sum.inl)=decide (a=k):=by
 by_cases h:a=k
 .simp[h]
 .have:a.map (Sum.inl (β:=Str))≠k.map Sum.inl:=λz=>h ((List.map_inj_right (λa b=>abL)).mp z)
  simp[h,this]
def B3(ak:List (List Int×Int))(k:List Int):ig (gj ak) (k.map Sum.inl)=(Den.gr ak k).map V.int:=by
 induction ak with
 |nil=>rfl
 |cons p ak aF =>
  unfold ig Den.gr gj at aF ⊢;rw[List.map_cons,List.find?_cons,List.find?_cons];dsimp only;rw[yD]
  by_cases h:p.1=k
  .simp[h]
  .simp only[decide_eq_false h];exact aF
def B2(ak:List (List Int×Int))(k:List Int)(n:Int):putK (gj ak) (k.map Sum.inl) (V.int n)=gj (Den.putN ak k n):=by
 have ai:((gj ak).any λda=>decide (da.1=k.map Sum.inl))=ak.any λp=>decide (p.1=k):=by
  induction ak with
  |nil=>rfl
  |cons p ak aF=>unfold gj at aF ⊢;rw[List.map_cons,List.any_cons,List.any_cons,aF,yD]
 have av:(gj ak).map (λda=>if da.1=k.map Sum.inl then(da.1,V.int n) else da)=gj (ak.map λp=>if p.1=k then(p.1,n) else p):=by
  unfold gj;rw[List.map_map,List.map_map];refine Zs λp _=>?_
  have:=yD p.1 k
  by_cases h:p.1=k
  .simp[h]
  .have h':¬p.1.map (Sum.inl (β:=Str))=k.map Sum.inl:=(by simpa[h] using this);simp[h,h']
 unfold putK Den.putN;rw[ai]
 split
 .exact av
 .unfold gj;rw[List.map_append];rfl
def Ea(k:List Int):(k.map (Sum.inl (β:=Str))).map dn=k.map V.int:=by rw[List.map_map];rfl
def mu{o:Option (Option D)}{ak:List (List Int×Int)}(h:Den.hY o=some ak):o=some (some (.bK ak)):=by
 unfold Den.hY at h
 split at h
 .cases h;rfl
 .cases h
def s6{o:Option (Option D)}{ak:List (Int×Int×Int)}(h:Den.i5 o=some ak):o=some (some (.bD ak)):=by
 unfold Den.i5 at h
 split at h
 .cases h;rfl
 .cases h
def k1{α:Type}{f:D->Option α}{o:Option (Option D)}{a:α}(h:Den.e2 f o=some a):∃d,o=some (some d)/\f d=some a:=by
 unfold Den.e2 at h
 split at h
 .exact⟨_,rfl,h⟩
 .cases h
def t7{d:D}{i:Int}(h:Den.intD d=some i):d=.int i:=by
 unfold Den.intD at h
 split at h
 .cases h;rfl
 .cases h
def su{d:D}{k:List Int}(h:Den.gc d=some k):d=.tup (k.map .int):=by
 unfold Den.gc at h
 split at h
 .rw[rF h]
 .cases h
def Gq{d:D}{r:Int×Int}(h:Den.rowOf d=some r):d=Den.ot r:=by
 unfold Den.rowOf at h
 split at h
 .split at h
  .rename_i e;cases h;rw[rF e];rfl
  .cases h
 .cases h
section
variable{G:az}
theorem eK.val:∀{ak:List (Int×Int×Int)}{ys:List (Key×V)},eK G ak ys->∀{k:Int}{r:Int×Int},Den.m8 ak k=some r->∃b,ig ys (Sum.inl k)=some (.ref b)/\G b=some (.tup [.int r.1,.int r.2])
 |[],_,_,k,r,e=>by cases e
 |p::ak,_,⟨b,t,e,J,aa⟩,k,r,q=>by
  subst e;unfold Den.m8 at q;unfold ig;rw[List.find?_cons]at q ⊢
  by_cases c:p.1=k
  .simp only[c,decide_true,Option.map_some,Zl]at q ⊢;subst q;exact⟨b,rfl,J⟩
  .have cN:¬(Sum.inl p.1:Key)=Sum.inl k:=λz=>c (abL z)
   simp only[c,cN,decide_false]at q ⊢;exact eK.val aa q
theorem eK.any:∀{ak:List (Int×Int×Int)}{ys:List (Key×V)},eK G ak ys->∀k:Int,(ys.any λda=>decide (da.1=Sum.inl k))=ak.any λp=>decide (p.1=k)
 |[],_,h,k=>by cases h;rfl
 |p::ak,_,⟨b,t,e,J,aa⟩,k=>by
  subst e;rw[List.any_cons,List.any_cons,eK.any aa k];congr 1
  by_cases c:p.1=k
  .simp[c]
  .have cN:¬(Sum.inl p.1:Key)=Sum.inl k:=λz=>c (abL z)
   simp[c,cN]
theorem eK.map{k:Int}{r:Int×Int}{b:Addr}(ae:G b=some (.tup [.int r.1,.int r.2])):∀{ak:List (Int×Int×Int)}{ys:List (Key×V)},eK G ak ys->eK G (ak.map λp=>if p.1=k then(p.1,r) else p) (ys.map λda=>if da.1=Sum.inl k then(da.1,.ref b) else da)
 |[],_,h=>by cases h;rfl
 |p::ak,_,⟨ik,t,e,J,aa⟩=>by
  subst e;rw[List.map_cons,List.map_cons]
  by_cases c:p.1=k
  .rw[if_pos c,if_pos (by rw[c])];exact⟨b,_,rfl,ae,eK.map ae aa⟩
  .rw[if_neg c,if_neg λz=>c (abL z)];exact⟨ik,_,rfl,J,eK.map ae aa⟩
theorem eK.snoc{q:Int×Int×Int}{b:Addr}(ae:G b=some (.tup [.int q.2.1,.int q.2.2])):∀{ak:List (Int×Int×Int)}{ys:List (Key×V)},eK G ak ys->eK G (ak++[q]) (ys++[(Sum.inl q.1,.ref b)])
 |[],_,h=>by cases h;exact⟨b,[],rfl,ae,rfl⟩
 |p::ak,_,⟨ik,t,e,J,aa⟩=>by subst e;exact⟨ik,_,rfl,J,eK.snoc ae aa⟩
def eK.put{ak:List (Int×Int×Int)}{ys:List (Key×V)}(h:eK G ak ys)(k:Int){r:Int×Int}{b:Addr}(ae:G b=some (.tup [.int r.1,.int r.2])):eK G (Den.lQ ak k r) (putK ys (Sum.inl k) (.ref b)):=by
 unfold Den.lQ putK;rw[h.any k]
 split
 .exact h.map ae
 .exact h.snoc (q:=(k,r)) ae
theorem eK.len:∀{ak:List (Int×Int×Int)}{ys:List (Key×V)},eK G ak ys->ys.length=ak.length
 |[],_,h=>by cases h;rfl
 |p::ak,_,⟨b,t,e,J,aa⟩=>by subst e;rw[List.length_cons,List.length_cons,eK.len aa]
def Gr{K:W.Frag}{r:Int×Int}{v:V}(h:Rep K G (Den.ot r) v):∃b,v=.ref b/\G b=some (.tup [.int r.1,.int r.2]):=by
 obtain⟨b,xs,e,J,aa⟩:=h;rw[kK (ns:=[r.1,r.2]) aa]at J;exact⟨b,e,J⟩
def Tf{K:W.Frag}{r:Int×Int}{b:Addr}(h:G b=some (.tup [.int r.1,.int r.2])):Rep K G (Den.ot r) (.ref b):=⟨b,_,rfl,h,.int r.1,_,rfl,rfl,.int r.2,_,rfl,rfl,rfl⟩
end
section
variable{X:aU}{pins:List (Addr×Obj)}{σ:b3}{G H:az}{s:Shared}
def freeze{a:Addr}{u:dJ}(I:Inv X pins σ H s)(eb:H a=some u)(bz:(∃ys,u=.dN ys)\/∃ys,u=.d5 ys):∃bk,Inv X pins σ (upd H a (.eg bk u)) s:=by
 obtain⟨bk,ay,_⟩:=zq I (a:=a) (by rcases bz with⟨ys,rfl⟩|⟨ys,rfl⟩;exact .inl ⟨ys,.inl eb⟩;exact .inr ⟨ys,.inl eb⟩);have ne:∀{b:Addr},H b=none->b≠a:=λq z=>by rw[z,eb]at q;cases q
 have nt:∀{b:Addr}{v:dJ},H b=some v->(∀ys,v≠.dN ys)->(∀ys,v≠.d5 ys)->b≠a:=λq J aa z=>by
  rw[z,eb]at q;cases q;rcases bz with⟨ys,e⟩|⟨ys,e⟩
  .exact J ys e
  .exact aa ys e
 have kM:∀{b:Addr}{v:dJ},dG X.prog X.w H s.heap b v->dG X.prog X.w (upd H a (.eg bk u)) s.heap b v:=λq=>q.kM (λ_ _ _ z=>z)
  (λc z=>by rw[dm (nt z (λ_ w=>nomatch w) λ_ w=>nomatch w)];exact z) λc xs z=>by rw[dm (nt z (λ_ w=>nomatch w) λ_ w=>nomatch w)];exact z
 refine⟨bk,I.ok,I.os,I.bare,⟨I.base.keep,I.base.slot,λb o e n ag=>?_,I.base.there,λb xs e=>?_,λb o v e=>?_,λb a8 e=>?_⟩,I.loc,I.cell,?_,λx c e=>?_,λp aE=>?_,λb v e=>?_,I.len⟩
 .have q:=I.base.free b o e n ag;rw[dm (ne q)];exact q
 .have q:=I.base.kQ b xs e;rw[dm (nt q (λ_ w=>nomatch w) λ_ w=>nomatch w)];exact q
 .have q:=I.base.jI b o v e;rw[dm (nt q (λ_ w=>nomatch w) λ_ w=>nomatch w)];exact q
 .obtain⟨more,q⟩:=I.base.kO b a8 e;exact⟨more,by rw[dm (nt q (λ_ w=>nomatch w) λ_ w=>nomatch w)];exact q⟩
 .rw[dm (ne I.free)];exact I.free
 .rw[dm (ne (I.kj x c e))];exact I.kj x c e
 .obtain⟨cX,cC,fa⟩:=I.pin p aE;exact⟨cX,by rw[dm (ne cC)];exact cC,fa⟩
 .by_cases c:b=a
  .subst c;rw[dS]at e;cases e;exact⟨ay,kM (I.bM b u eb)⟩
  .rw[dm c]at e;exact kM (I.bM b v e)
def ze{eI:TE}{e:Expr}(h:aO X e eI):aO X e (λσ H Q=>eI σ H λv H1=>∃a u,v=.ref a/\H1 a=some u/\((∃ys,u=.dN ys)\/∃ys,u=.d5 ys)/\∀bk,Q v (upd H1 a (.eg bk u))):=by
 intro pins s σ H Q I q;refine Zh (h pins s σ H _ I q) (λw s1 ⟨v,H1,bb,cb,a,u,e,eb,bz,k⟩=>?_) λ_ _ z=>z
 obtain⟨bk,cM⟩:=freeze bb eb bz;exact⟨v,_,cM,cb,k bk⟩
end
section
variable{xp:cw}{X:aU}{ao:List Nat}{m:er}{f:a0->bw D}{val:Expr}{pos bh bE d2 hg lP:Pos}{i j:Nat}{x y:Str}{pins:List (Addr×Obj)}{σ:b3}{G H:az}{s:Shared}{C:a0}
def Mf(ab:bV G H){a:Addr}{o bH:dJ}(aE:H a=none)(ay:∀xs,bH≠.tup xs):Ext G H (upd G a bH) (upd (upd H a o) a bH):=by rw[Ac];exact Ext.put ab aE
def TL(hm:i∈ao)(aS:X.N.Nodup)(hi:X.N[i]?=some x)(ag:Loc X.env.scope x)(hf:X.fn x=true\/X.env.scope.names.lookup x=some .local):eu X (.Assign [.Name x bh] (.Dict [] [] lP) pos) (en xp X ao λC=>.ok (.cg (C.set i (some (.bK []))))):=by
 intro pins s σ H T I ⟨ck,bx,G,C,ae,hw⟩;refine r7 aS hi ag RR rfl hf pins s σ H T I ?_;intro p aE;exact hw _ G _ (ae.sj (Ext.own ae.c8.sub aE λ_ z=>nomatch z) hm rfl dS aE (ae.c8.sub.free aE) rfl)
def TM(hm:i∈ao)(aS:X.N.Nodup)(hi:X.N[i]?=some x)(ag:Loc X.env.scope x)(hf:X.fn x=true\/X.env.scope.names.lookup x=some .local):eu X (.Assign [.Name x bh] (.Dict [] [] lP) pos) (en xp X ao λC=>.ok (.cg (C.set i (some (.bD []))))):=by
 intro pins s σ H T I ⟨ck,bx,G,C,ae,hw⟩;refine r7 aS hi ag FC rfl hf pins s σ H T I ?_;intro p aE;exact hw _ G _ (ae.sj (Ext.own ae.c8.sub aE λ_ z=>nomatch z) hm rfl dS aE (ae.c8.sub.free aE) ⟨[],rfl,rfl⟩)
def TN:aO X (.Dict [] [] lP) (bp xp X ao .val λ_=>.ok (.bD [])):=by
 intro pins s σ H Q I ⟨G,C,ab,hw⟩;refine ze FC pins s σ H Q I λp aE=>⟨p,_,rfl,dS,.inl ⟨_,rfl⟩,λbk=>?_⟩
 exact hw (.ref p) _ _ (Mf ab.sub aE λ_ z=>nomatch z) ⟨p,bk,[],rfl,dS,rfl⟩
def zM(ab:ew X.K ao G H C σ)(hm:j∉ao){k:List Int}(h:C[j]?=some (some (.tup (k.map .int)))):∃b,σ[j]?=some (some (V.ref b))/\H b=some (.tup ((k.map (Sum.inl (β:=Str))).map dn)):=by
 obtain⟨v,J,b,ys,rfl,aa,aI⟩:=ab.val j _ h hm;rw[kK aI]at aa;exact⟨b,J,by rw[Ea];exact ab.sub _ _ aa⟩
def TK(hi:i∉ao)(aA:j∉ao)(aS:X.N[i]?=some x)(aV:fT X.env.scope x)(J:(x==("__debug__":Str))=false)(aa:(x==("__classdict__":Str))=false)(kp:X.N[j]?=some y)(jf:fT X.env.scope y)(km:(y==("__debug__":Str))=false)(hF:(y==("__classdict__":Str))=false):aO X (.Dict [some (.Name x bh)] [.Name y bE] pos) (bp xp X ao .val λC=>Den.qW C[i]? C[j]?):=by
 intro pins s σ H Q I ⟨G,C,ab,hw⟩;dsimp only at hw;unfold Den.qW at hw;cases ai:Den.e2 Den.intD C[i]? with
 |none=>rw[ai]at hw;exact hw.elim
 |some k =>
  cases av:Den.e2 Den.rowOf C[j]? with
  |none=>rw[ai,av]at hw;exact hw.elim
  |some r =>
   rw[ai,av]at hw;obtain⟨cz,aP,a9⟩:=k1 ai;obtain⟨c1,b4,dg⟩:=k1 av;cases t7 a9;cases Gq dg;obtain⟨v1,aZ,cX⟩:=ab.val i _ aP hi;have cX:v1=.int k:=cX;subst cX;obtain⟨v2,aQ,cC⟩:=ab.val j _ b4 aA;obtain⟨b,rfl,ae⟩:=Gr cC;refine ze (RQ (Su (gn aS aV J aa) (gn kp jf km hF) Sv) rfl rfl (λz=>nomatch z) (by simp)) pins s σ H Q I λp aE=>?_
   refine⟨_,aZ,_,aQ,dS,[(Sum.inl k,.ref b)],rfl,by simp,p,_,rfl,dS,.inl ⟨_,rfl⟩,λbk=>?_⟩;have mE:=ab.sub.free aE;refine hw (.ref p) (upd G p (.eg bk (.dN (pO [] [(Sum.inl k,.ref b)])))) _ (by rw[Ac,Ac];exact Ext.put ab.sub aE) ⟨p,bk,_,rfl,dS,b,[],rfl,gp mE _ _ ae,rfl⟩
def TH(bz:X.A.units+64<cLine)(aA:j∉ao)(aS:X.N[i]?=some x)(aV:fT X.env.scope x)(J:(x==("__debug__":Str))=false)(aa:(x==("__classdict__":Str))=false)(kp:X.N[j]?=some y)(jf:fT X.env.scope y)(km:(y==("__debug__":Str))=false)(hF:(y==("__classdict__":Str))=false):aO X (.Subscript (.Name x bh) (.Name y bE) pos) (bp xp X ao m λC=>Den.kh C[i]? C[j]?):=by
 intro pins s σ H Q I ⟨G,C,ab,hw⟩;refine RO (by omega) (gn aS aV J aa) (gn kp jf km hF) (λ_ _=>rfl) pins s σ H Q I ?_;dsimp only at hw;have PI:∀ak k,Den.hY C[i]?=some ak->Den.e2 Den.gc C[j]?=some k->zY (oz i) (oz j) σ H Q:=λak k ai av=>by
  rw[Den.kh,ai,av]at hw;dsimp only at hw;obtain⟨v,aZ,a,rfl,aQ⟩:=ab.view (mu ai);obtain⟨c1,b4,dg⟩:=k1 av;cases su dg;obtain⟨b,bY,fU⟩:=zM ab aA b4;cases bu:Den.gr ak k with
  |none=>rw[bu]at hw;exact hw.elim
  |some n =>
   rw[bu]at hw;refine⟨_,aZ,_,bY,a,.int n,rfl,.inr ⟨_,_,b,aQ,rfl,fU,by rw[B3,bu];rfl⟩,hw _ G H (Ext.refl ab.sub) (by cases m<;>rfl)⟩
 have PF:∀ak k,Den.i5 C[i]?=some ak->Den.e2 Den.intD C[j]?=some k->cL (match Den.m8 ak k with|some r=>.ok (Den.ot r)|none=>.bad) (λd=>∀v aN aq,Ext G H aN aq->cE X.K H aN aq m d v->Q v aq) (λc=>fI xp X c H)->zY (oz i) (oz j) σ H Q:=λak k ai av hw=>by
  obtain⟨v,aZ,a,ys,rfl,aQ,br⟩:=ab.view (s6 ai);obtain⟨c1,b4,dg⟩:=k1 av;cases t7 dg;obtain⟨v2,bY,cC⟩:=ab.val j _ b4 aA;have cC:v2=.int k:=cC;subst cC;cases bu:Den.m8 ak k with
  |none=>rw[bu]at hw;exact hw.elim
  |some r =>
   rw[bu]at hw;obtain⟨b,g1,g2⟩:=br.val bu;refine⟨_,aZ,_,bY,a,.ref b,rfl,.inl ⟨ys,Sum.inl k,aQ,rfl,g1.symm⟩,hw _ G H (Ext.refl ab.sub) ?_⟩;have:=Tf (K:=X.K) g2;cases m<;>exact this
 cases ai:Den.hY C[i]? with
 |some ak =>
  cases av:Den.e2 Den.gc C[j]? with
  |some k=>exact PI ak k ai av
  |none =>
   rw[Den.kh,ai,av]at hw;have:Den.i5 C[i]?=none:=(by rw[mu ai];rfl);rw[this]at hw;exact hw.elim
 |none =>
  rw[Den.kh,ai]at hw;dsimp only at hw;cases bu:Den.i5 C[i]? with
  |none=>rw[bu]at hw;exact hw.elim
  |some ak =>
   cases dU:Den.e2 Den.intD C[j]? with
   |none=>rw[bu,dU]at hw;exact hw.elim
   |some k=>rw[bu,dU]at hw;exact PF ak k bu dU hw
def TO(bz:X.A.units+64<cLine)(hm:i∈ao)(aA:j∉ao)(aS:X.N[i]?=some x)(aV:fT X.env.scope x)(J:(x==("__debug__":Str))=false)(aa:(x==("__classdict__":Str))=false)(kp:X.N[j]?=some y)(jf:fT X.env.scope y)(km:(y==("__debug__":Str))=false)(hF:(y==("__classdict__":Str))=false)(he:aO X val (bp xp X ao .val f))(je:swapsWith val (some (.Subscript (.Name x bh) (.Name y bE) d2)) pos.line X.env=pure false):
  eu X (.Assign [.Subscript (.Name x bh) (.Name y bE) d2] val pos) (en xp X ao λC=>f C>>=λd=>Den.o1 C[i]? C[j]? d>>=λz=>.ok (.cg (C.set i (some z)))):=by
 intro pins s σ H T I ⟨ck,bx,G,C,ae,hw⟩;refine FU (by omega) (gn aS aV J aa) (gn kp jf km hF) he je pins s σ H T I ?_;refine⟨G,C,ae.c8,bX (bt.mp hw) (λd k v aL H1 aR aH=>?_) λ_ z=>z.mono ae.ext.h⟩;have hI:=ae.step aR;have k:=bt.mp k;have Nf:∀ak ei n,Den.hY C[i]?=some ak->Den.e2 Den.gc C[j]?=some ei->d=.int n->ak.length<1000->jH X.K ao ck bx T (.cg (C.set i (some (.bK (Den.putN ak ei n)))))->∃w,σ[i]?=some (some w)/\∃u,σ[j]?=some (some u)/\∃a fY,w=.ref a/\iX H1 a u v fY/\T.cg σ fY:=λak ei n ai av q1 hz q=>by
  subst q1;have aH:v=.int n:=aH;subst aH;obtain⟨a,o,aZ,aQ,br,bY⟩:=hI.c8.lst i _ (mu ai) hm rfl;cases bY;obtain⟨c1,b4,dg⟩:=k1 av;cases su dg;obtain⟨b,fU,lF⟩:=zM hI.c8 aA b4;refine⟨_,aZ,_,fU,a,_,rfl,iX.t aQ lF (by unfold gj;rw[List.length_map,sizeLine_eq];omega),?_⟩;rw[B2];exact q σ aL _ (hI.write (d:=.bK ak) (e:=.bK (Den.putN ak ei n)) hm (mu ai) rfl rfl aZ br rfl)
 have Nd:∀ak ei r,Den.i5 C[i]?=some ak->Den.e2 Den.intD C[j]?=some ei->d=Den.ot r->ak.length<1000->jH X.K ao ck bx T (.cg (C.set i (some (.bD (Den.lQ ak ei r)))))->∃w,σ[i]?=some (some w)/\∃u,σ[j]?=some (some u)/\∃a fY,w=.ref a/\iX H1 a u v fY/\T.cg σ fY:=λak ei r ai av q1 hz q=>by
  subst q1;obtain⟨c,rfl,aj⟩:=Gr aH;obtain⟨a,o,aZ,aQ,br,ys,rfl,bY⟩:=hI.c8.lst i _ (s6 ai) hm rfl;obtain⟨c1,b4,dg⟩:=k1 av;cases t7 dg;obtain⟨v2,fU,cC⟩:=hI.c8.val j _ b4 aA;have cC:v2=.int ei:=cC;subst cC;refine⟨_,aZ,_,fU,a,_,rfl,iX.k (k:=Sum.inl ei) aQ (by rw[bY.len,sizeLine_eq];omega),?_⟩;exact q σ aL _ (hI.write (d:=.bD ak) (e:=.bD (Den.lQ ak ei r)) hm (s6 ai) rfl rfl aZ br ⟨_,rfl,bY.put ei aj⟩)
 have second:cL (match Den.i5 C[i]?,Den.e2 Den.intD C[j]?,Den.rowOf d with|some ak,some k,some r=>if ak.length<1000 then .ok (Den.D.bD (Den.lQ ak k r)) else .bad|_,_,_=>.bad) (λz=>cL (.ok (Den.fb.cg (C.set i (some z)))) (jH X.K ao ck bx T) (λc=>fI xp X c bx)) (λc=>fI xp X c bx)->∃w,σ[i]?=some (some w)/\∃u,σ[j]?=some (some u)/\∃a fY,w=.ref a/\iX H1 a u v fY/\T.cg σ fY:=λk=>by
  cases ai:Den.i5 C[i]? with
  |none=>rw[ai]at k;exact k.elim
  |some ak =>
   cases av:Den.e2 Den.intD C[j]? with
   |none=>rw[ai,av]at k;exact k.elim
   |some ei =>
    cases bu:Den.rowOf d with
    |none=>rw[ai,av,bu]at k;exact k.elim
    |some r =>
     rw[ai,av,bu]at k;dsimp only at k
     by_cases hz:ak.length<1000
     .rw[if_pos hz]at k;exact Nd ak ei r ai av (Gq bu) hz k
     .rw[if_neg hz]at k;exact k.elim
 unfold Den.o1 at k;cases ai:Den.hY C[i]? with
 |none=>rw[ai]at k;exact second k
 |some ak =>
  cases av:Den.e2 Den.gc C[j]? with
  |none=>rw[ai,av]at k;exact second k
  |some ei =>
   cases bu:Den.intD d with
   |none=>rw[ai,av,bu]at k;exact second k
   |some n =>
    rw[ai,av,bu]at k;dsimp only at k
    by_cases hz:ak.length<1000
    .rw[if_pos hz]at k;exact Nf ak ei n ai av (t7 bu) hz k
    .rw[if_neg hz]at k;exact k.elim
def Ue(hm:i∈ao)(aS:X.N[i]?=some x)(aV:fT X.env.scope x)(J:(x==("__debug__":Str))=false)(aa:(x==("__classdict__":Str))=false):
  eu X (.Return (some (.Name x bh)) pos) (en xp X ao λC=>Den.qT C[i]?>>=λd=>.ok (.d7 d)):=by
 intro pins s σ H T I ⟨ck,bx,G,C,ae,hw⟩;refine zl (ze (gn aS aV J aa)) pins s σ H T I ?_;dsimp only at hw;have key:∀d,C[i]?=some (some d)->gN d=true->(∀o,jy X.K G d o->(∃ys,o=.dN ys)\/∃ys,o=.d5 ys)->(∀a o bk,jy X.K G d o->G a=none->Rep X.K (upd G a (.eg bk o)) d (.ref a))->jH X.K ao ck bx T (.d7 d)->oz i σ H (λv H1=>∃a u,v=.ref a/\H1 a=some u/\((∃ys,u=.dN ys)\/∃ys,u=.d5 ys)/\∀bk,T.d7 v (upd H1 a (.eg bk u))):=λd q fy ay a7 hw=>by
  obtain⟨a,o,aZ,aQ,br,bY⟩:=ae.c8.lst i d q hm fy;have h0:bx a=none:=ae.own i d a q fy hm aZ;have au:=ay o bY;have nt:∀xs,o≠.tup xs:=λxs z=>by rcases au with⟨_,e⟩|⟨_,e⟩<;>rw[e]at z<;>cases z
  refine⟨_,aZ,a,o,rfl,aQ,au,λbk=>?_⟩;refine hw _ (upd G a (.eg bk o)) (upd H a (.eg bk o)) ⟨ae.ext.g.trans (gp br),λb v z=>?_,λb v z=>?_,λb cX cC=>?_,λb xs z=>.inr ?_⟩ (a7 a o bk bY br)
  .have:b≠a:=λw=>by rw[w,h0]at z;cases z
   rw[dm this];exact ae.ext.h b v z
  .by_cases c:b=a
   .subst c;rw[dS]at z ⊢;exact z
   .rw[dm c]at z ⊢;exact ae.c8.sub b v z
  .have:b≠a:=λw=>cC (by rw[w];exact h0)
   rw[dm this];exact ae.ext.new b cX cC
  .have c:b≠a:=λw=>by rw[w,dS]at z;cases z
   rw[dm c]at z ⊢;exact ae.c8.ed b xs z
 cases q:C[i]? with
 |none=>rw[q]at hw;exact hw.elim
 |some o =>
  cases o with
  |none=>rw[q]at hw;exact hw.elim
  |some d =>
   rw[q]at hw;cases d with
   |bK ak=>exact key _ q rfl (λo e=>.inr ⟨_,e⟩) (λa o bk e g=>by cases e;exact⟨a,bk,rfl,dS⟩) hw
   |bD ak=>exact key _ q rfl (λo ⟨ys,e,_⟩=>.inl ⟨ys,e⟩) (λa o bk ⟨ys,e,r⟩ g=>by subst e;exact⟨a,bk,ys,rfl,dS,r.mono (gp g)⟩) hw
   |_=>exact hw.elim
end
noncomputable def AB(d:Addr)(o:dJ)(ar:List V):jw :=
 ⟨λi H=>H d=some o/\i<ar.length,λi H v aq=>aq=H/\ar[i]?=some v,λi H=>H d=some o/\ar.length=i⟩
def Wq{P:Program}{w:World}{K:W.Frag}{dh:Expr}(d it:Addr){bk:Obj}{u:dJ}{ar:List V}{ah:Array DictEntry}{ba:Nat}(hd:bk.data=.dict ah ba)(aV:Vals ar (ah.toList.map (·.key))):
  Turn P w K dh (AB d (.eg bk u) ar) [it] it (λi h=>h.IsKeyIter it d i ah.size ba) where
 mem:=by simp
 obj:=λi h st b ae=>by
  have e:b=it:=(by simpa using ae);subst e;obtain⟨o,e,c,d⟩:=st;exact⟨o,e,λv z=>by rw[d]at z;cases z⟩
 keep:=λi h h' st k=>st.at λo e=>k it (by simp) o e
 item:=by
  intro X es hw g9 aj i pins s σ H E I hf st a4;subst es hw g9;obtain⟨aJ,hi⟩:=a4;have ay:s.heap.get? d=some bk:=(show dG X.prog X.w H s.heap d (.eg bk u) from I.bM d _ aJ).1;have aw:ar.length=ah.size:=(by rw[aV.length,List.length_map,Array.length_toList]);have ag:ar[i]?=some ar[i]:=Yl hi;obtain⟨v,aZ,aQ⟩:=aV.get ag;obtain⟨f0,f1,f2,fi,f4,fj⟩:=hf it (by simp);have b7:i<ah.size:=(by omega);refine Pv.BU st ay hd b7 λh' aM cK=>?_
  have bb:Inv X pins σ H { s with heap:=h' }:=I.turned (t':=s.toks) (λb o ae e=>(cK.2 b ae).trans e) f0 f1 fi f4 fj;have nN:ah[i].key=v:=by
   rw[Yy,YF,Yo b7]at aZ;exact YZ aZ
  obtain⟨o,e,c,df⟩:=id aM;exact⟨_,rfl,tB (s:={ s with heap:=h' }) e c df (by decide) ⟨ar[i],H,bb,by rw[nN];exact aQ,⟨rfl,ag⟩,aM,λb ae=>(hf b ae).1⟩⟩
 done:=by
  intro X es hw g9 aj i pins s σ H E I hf st a4;subst es hw g9;obtain⟨aJ,hi⟩:=a4;have ay:s.heap.get? d=some bk:=(show dG X.prog X.w H s.heap d (.eg bk u) from I.bM d _ aJ).1;have aw:ar.length=ah.size:=(by rw[aV.length,List.length_map,Array.length_toList]);obtain⟨f0,f1,f2,fi,f4,fj⟩:=hf it (by simp);subst hi;rw[aw]at st;exact Pv.BR (I.ok.hd aj) st ay hd λh' ec=>⟨rfl,I.turned (t':=s.toks) (λb o ae e=>ec b o ae e) f0 f1 fi f4 fj⟩
 self:=λ_ _ _ _ _ st h=>wpAny_pyIter_keyiter st h
def Pr{K:W.Frag}{P:az->az->Prop}{G:az}{d:Addr}{o:dJ}{ar:List V}{ds:List D}(es:∀aL H1,P aL H1->bV G aL/\H1 d=some o)(r:bN K G ds ar):nj K P (AB d o ar) ds where
 go:=λi aL H1 h hi=>⟨(es aL H1 h).2,by rw[<- r.length];exact hi⟩
 j5:=λi aL H1 x aY d h ab hd ⟨e,y⟩=>by
  obtain⟨g,q⟩:=es aL H1 h;subst e;obtain⟨v,J,aa⟩:=r.get hd;rw[J]at y;cases y;exact⟨aL,Ext.refl ab,aa.mono g⟩
 stop:=λaL H1 h=>⟨(es aL H1 h).2,r.length.symm⟩
section
variable{G H:az}
theorem xf(ed:∀b xs,H b=some (.tup xs)->G b=some (.tup xs)){K:W.Frag}:∀{ak:List (List Int×Int)}{xs:List (List Key×Addr×Value)},Paired (λ(p:List Key×V)(q:List Key×Addr×Value)=>p.1=q.1/\H q.2.1=some (.tup (p.1.map dn))/\RelV p.2 q.2.2) (gj ak) xs ->
  bN K G (ak.map λp=>.tup (p.1.map .int)) (xs.map λq=>V.ref q.2.1)
 |[],_,h=>by cases h;rfl
 |p::ak,_,h=>by
  cases h with
  |@cons _ q _ xs J aa =>
   refine⟨V.ref q.2.1,_,rfl,⟨q.2.1,p.1.map V.int,rfl,ed _ _ ?_,?_⟩,xf ed aa⟩
   .have:=J.2.1;dsimp only at this;rw[Ea]at this;exact this
   .exact ints_rep p.1
 where ints_rep {K:W.Frag} {G:az}:∀ns:List Int,bN K G (ns.map Den.D.int) (ns.map V.int)
  |[]=>rfl
  |n::ns=>⟨.int n,ns.map V.int,rfl,rfl,ints_rep ns⟩
theorem Aq:∀xs:List (List Key×Addr×Value),Vals (xs.map λq=>V.ref q.2.1) (xs.map λq=>Value.ref q.2.1)
 |[]=>.nil
 |q::xs=>.cons (show RelV (V.ref q.2.1) (Value.ref q.2.1) from rfl) (Aq xs)
end
theorem BV{K:W.Frag}{G:az}{P:Program}{w:World}:∀{ak:List (Int×Int×Int)}{ys:List (Key×V)}{af:List (Key×Value)}{ah:List DictEntry},eK G ak ys->eW ys af->Pairs (gQ P w) ah af ->
  bN K G (ak.map λp=>.int p.1) (ak.map λp=>V.int p.1)/\Vals (ak.map λp=>V.int p.1) (ah.map (·.key))
 |[],_,_,_,J,aa,aI=>by cases J;cases aa;cases aI;exact⟨rfl,.nil⟩
 |p::ak,_,_,_,⟨b,t,e,aP,a9⟩,aa,aI=>by
  subst e;cases aa with
  |@cons _ q _ Yb cX cC =>
   cases aI with
   |@cons dD _ nP _ aZ aQ br =>
    obtain⟨aH,a5⟩:=BV (K:=K) a9 cC br;have cX:=cX.1;dsimp only at cX;rw[<- cX]at aZ;refine⟨⟨.int p.1,_,rfl,rfl,aH⟩,.cons ?_ a5⟩;have aZ:Value.isInt p.1 dD.key=true:=aZ;cases au:dD.key with
    |int i t=>rw[au]at aZ;exact⟨t,by show dD.key=_;rw[au,(show i=p.1 by simpa[Value.isInt] using aZ)]⟩
    |_=>rw[au]at aZ;cases aZ
section
variable{xp:cw}{X:aU}{ao:List Nat}{m:er}{dh:Expr}{bh:Pos}{i:Nat}{x:Str}
def TU(hm:m=.view\/m=.val)(hi:i∉ao)(aS:X.N[i]?=some x)(aV:fT X.env.scope x)(J:(x==("__debug__":Str))=false)(aa:(x==("__classdict__":Str))=false):gZ X dh (.Name x bh) (jr xp X ao m λC=>Den.oX C[i]?):=by
 intro pins s σ H R I ⟨G,C,ab,hw⟩;dsimp only at hw;have go:∀{d:Addr}{bk:Obj}{u:dJ}{ar:List V}{ds:List D}{ah:Array DictEntry}{ba:Nat},σ[i]?=some (some (.ref d))->G d=some (.eg bk u)->(d==sysModules)=false->bk.ExactDict->bk.data=.dict ah ba->bN X.K G ds ar->Vals ar (ah.toList.map (·.key))->ds.length<=16777216 ->
   (∀cy aN aq,Ext G H aN aq->nj X.K (oK m aN aq) cy ds->ds.length<=16777216->R cy aq)->wpAny (model X.prog X.w) X.A (eval (.Name x bh) X.env) (λv s1=>wpAny (model X.prog X.w) X.A (pyIter v) (vQ X pins σ dh R) X.cA s1) X.cA s:=λ{d bk u ar ds ah ba} aZ aQ br bY fU lF mM aw k=>by
  refine bO (gn aS aV J aa pins s σ H (λv H1=>v=.ref d/\H1=H) I ⟨_,aZ,rfl,rfl⟩) λv s1 ⟨w,H1,bb,aH,ai,av⟩=>?_
  subst ai av;cases aH;have gL:=ab.sub _ _ aQ;have ay:s1.heap.get? d=some bk:=(show dG X.prog X.w H1 s1.heap d (.eg bk u) from bb.bM d _ gL).1;refine Pv.BS br ay bY fU ?_;refine⟨s1.heap.objs.size,[s1.heap.objs.size],_,_,H1,rfl,bb.kept (t':=s1.toks) λb o e=>Yh _ e,Wq (u:=u) d _ fU mM,⟨_,Yx _ rfl,rfl,rfl⟩,λb ae=>?_,k _ G H1 (Ext.refl ab.sub) (Pr (G:=G) (o:=.eg bk u) (λaL aY ⟨cX,cC⟩=>⟨cX,?_⟩) lF) aw⟩
  .have e:b=s1.heap.objs.size:=(by simpa using ae);subst e;exact bb.q9 (Yi _) (bb.bM.fresh (Yi _))
  .rcases hm with rfl|rfl
   .exact cC _ _ gL
   .exact cC _ _ (cX _ _ aQ)
 unfold Den.oX at hw;cases ai:Den.hY C[i]? with
 |some ak =>
  rw[ai]at hw;obtain⟨v,aZ,a,bk,rfl,aQ⟩:=ab.val i _ (mu ai) hi;obtain⟨ay,cX,cC,xs,fa,o,ah,ba,hQ,j6,j7,sD,Aw⟩:=(show dG X.prog X.w H s.heap a (.eg bk (.d5 (gj ak))) from I.bM a _ (ab.sub _ _ aQ));rw[ay]at hQ;cases hQ;have a7:=xf (K:=X.K) ab.ed fa;refine go aZ aQ cC j6 j7 a7 (by rw[sD,List.map_map];exact Aq xs) ?_ hw;rw[List.length_map];unfold gj at cX;rw[List.length_map,sizeLine_eq]at cX;exact cX
 |none =>
  rw[ai]at hw;dsimp only at hw;cases av:Den.i5 C[i]? with
  |none=>rw[av]at hw;exact hw.elim
  |some ak =>
   rw[av]at hw;obtain⟨v,aZ,a,bk,ys,rfl,aQ,br⟩:=ab.val i _ (s6 av) hi;obtain⟨ay,cX,cC,af,fa,o,ah,ba,hQ,j6,j7,sD,Aw,Ye⟩:=(show dG X.prog X.w H s.heap a (.eg bk (.dN ys)) from I.bM a _ (ab.sub _ _ aQ));rw[ay]at hQ;cases hQ;obtain⟨aH,a5⟩:=BV (K:=X.K) br fa Aw;refine go aZ aQ cC j6 j7 aH a5 ?_ hw;rw[List.length_map,<- br.len];rw[sizeLine_eq]at cX;exact cX
end
section
variable{X:aU}
def Qm{l b:Addr}{items hM:Array Value}{n hc:Nat}{jX:Obj}(aj:jX.cls=.type "list")(hd:jX.data=.seq hM hc)(DC:¬(!items.isEmpty&&Builtin.List.listTooLong (items.size+hM.size))=true)(hz:items.size<=sizeLine)(rA:items.size+hM.size<=sizeLine+1):
  Meets (Builtin.«list.extend» ⟨[.ref l,.ref b],[]⟩) λ_ R s=>s.heap.get? l=some { cls:=.type "list",dict:=none,data:=.seq items n,slots:=#[] }/\s.heap.get? b=some jX /\
   R (.ok (.ret Value.none)) { s with heap:=s.heap.update l (Obj.mapSeq λx=>x++hM),toks:=s.toks }:=by
 refine .of_wp λprog w A R s h=>?_
 obtain⟨aE,g,d,tk,os⟩:=s;obtain⟨bA,c1,Xl,jZ⟩:=jX;cases aj;cases hd;obtain⟨ai,av,h⟩:=h;have f1:=AutoSeq1.idx_int;have f2:=AutoSeq1.sub_list_list;have fi:=AutoSeq1.sub_list_tuple;have f4:=AutoSeq1.sub_tuple_tuple;have fj:=AutoSeq1.sub_tuple_list;have O0:(items++hM).size<=sizeLine+1:=by rw[ZQ];exact rA
 wp_walk using (acd ai rfl (hz:=hz) (_hz':=O0)),AutoSeq1.wpAny_loadPart' ai,AutoSeq1.wpAny_loadPart' av
 exact⟨_,rfl,h⟩
noncomputable def SQ(K:W.Frag):V->List V->az->de->Prop:=λx af H Q=>∃l b xs zs,x=.ref l/\af=[.ref b]/\H l=some (.lst xs)/\eF K H b zs/\xs.length+zs.length<=sizeLine/\Q .dr (upd H l (.lst (xs++zs)))
def QY:vL X "list.extend" (SQ X.K):=by
 intro pins s σ H x af v us Q I bg cb h;obtain⟨l,b,xs,zs,rfl,rfl,gL,hG,hz,q⟩:=h;cases bg;obtain⟨u,rfl,c4⟩:=cb.one;cases c4;obtain⟨z,its,n,r,aw,e⟩:=I.EE gL;obtain⟨ky,a5,⟨jX,hc,av,bA,_,c1⟩,rA⟩:=I.list hG;have mG:=a5.length;have hsz:its.toArray.size+ky.toArray.size<=sizeLine:=by rw[Yv,Yv];omega
 refine ab4 F.slot_list_extend ⟨_,e,rfl⟩ F.entry_list_extend (F.args_list_extend_2 _ _) (Qm bA c1 (by rw[Fj hsz,aaj];exact Y6) (by rw[Yv];omega) (by omega)) ⟨e,av,?_⟩;refine⟨.dr,_,I.ED (its':=its++ky) gL e (by simp) (r.append a5) ?_,rfl,q⟩;rw[Yj];omega
variable{xp:cw}{ao:List Nat}{f:a0->bw D}{e:Expr}{bh hg ap ef:Pos}{i:Nat}{x n:Str}
def TQ(hm:i∈ao)(aB:n="extend")(aS:X.N[i]?=some x)(aV:fT X.env.scope x)(J:(x==("__debug__":Str))=false)(aa:(x==("__classdict__":Str))=false)(lu:(ap.endLine==ef.line)=true)(he:aO X e (bp xp X ao .val f))(cJ:starEach [e] X.env=[(false,eval e X.env)]):
  eu X (.Expr (.Call (.Attribute (.Name x bh) n ap) [e] [] ef) hg) (en xp X ao λC=>Den.mm C[i]?>>=λ_=>f C>>=λd=>Den.tg C[i]? d>>=λy=>.ok (.cg (C.set i (some y)))):=by
 subst aB;intro pins s σ H T I ⟨ck,bx,G,C,ae,hw⟩;refine FV (zd aaX PySem.F.slot_list_extend PySem.F.type_list_extend QY (gn aS aV J aa) (kG he cJ) rfl (ya cJ) lu cJ rfl) rfl pins s σ H T I ?_;obtain⟨ds,q,hw⟩:=By (bt.mp hw);obtain⟨a,o,aZ,aQ,br,xs,rfl,bY⟩:=ae.c8.lst i (.lst ds) q hm rfl;refine⟨_,aZ,.inl ⟨rfl,xs,eF.of aQ⟩,?_⟩;refine⟨G,C,ae.c8,bX (bt.mp hw) (λd k v aL H1 aR aH=>?_) λ_ z=>z.mono ae.ext.h⟩;have hI:=ae.step aR;rw[q]at k;cases d with
 |lst ah =>
  have k:cL ((if ds.length+ah.length<=Den.SZ then Den.R.ok (Den.D.lst (ds++ah)) else .bad)>>=λy=>.ok (Den.fb.cg (C.set i (some y)))) _ _:=k;have k:=bt.mp k
  by_cases hz:ds.length+ah.length<=Den.SZ
  .rw[if_pos hz]at k;obtain⟨b,zs,rfl,a6,hR⟩:=aH;have xW:H1 a=some (.lst xs):=aR.h _ _ aQ;have xV:aL a=none:=aR.new a br (by rw[aQ];exact λz=>nomatch z);refine⟨a,b,xs,zs,rfl,rfl,xW,lU aR.sub a6,by rw[<- bY.length,<- hR.length,<- sO];exact hz,?_⟩;exact k σ aL _ (hI.write (d:=.lst ds) (e:=.lst (ds++ah)) hm q rfl rfl aZ xV ⟨_,rfl,(bY.mono aR.g).append hR⟩)
  .rw[if_neg hz]at k;exact k.elim
 |_=>exact k.elim
end
theorem Hv:∀{xs:List D}{ar:List (List Int)},Den.m7 xs=some ar->xs=ar.map gH
 |[],ar,h=>by cases h;rfl
 |x::xs,ar,h=>by
  unfold Den.m7 at h;cases ai:Den.gc x with
  |none=>rw[ai]at h;cases h
  |some k =>
   cases av:Den.m7 xs with
   |none=>rw[ai,av]at h;cases h
   |some dQ =>
    rw[ai,av]at h;cases h;rw[su ai,Hv av];rfl
def Wm{d:D}{ar:List (List Int)}(h:Den.ve d=some ar):d=.lst (ar.map gH):=by
 unfold Den.ve at h
 split at h
 .rw[Hv h]
 .cases h
theorem Gb{h:Heap}:∀{ds:List D}{us:List Value}{as:List Addr},ReadsAll h us (hk ds) as->∀(m:Nat)(hm:m<us.length),∃d bs,ds[m]?=some d/\Reads h us[m] (toPy d) bs
 |[],_,_,r,m,hm=>by cases r;simp at hm
 |d::ds,_,_,r,m,hm=>by
  cases r with
  |cons aH a5 =>
   cases m with
   |zero=>exact⟨d,_,rfl,aH⟩
   |succ m =>
    obtain⟨d',bs,ai,av⟩:=Gb a5 m (by simpa using hm);exact⟨d',bs,by simpa using ai,av⟩
def uW(k:List Int):Den.dx 60 (gH k)=true:=bC.sk 59 k
section
variable{xp:cw}{X:aU}{ao:List Nat}{m:er}{pos bh bE ap ef:Pos}{i j:Nat}{x y n:Str}
def QZ(bz:X.A.units+64<cLine):vL X "list.index" (λx af H Q=>∃(G:az)(l:Addr)(v:V)(xs:List V)(ar:List (List Int))(k:List Int),bV G H/\x=.ref l/\af=[v]/\eF X.K H l xs/\bN X.K G (ar.map gH) xs/\View X.K G H (gH k) v/\k∈ar/\ar.length<=1000/\Q (.int (ar.idxOf k:Nat)) H):=by
 intro pins s σ H x af v us Q I bg cb h;obtain⟨G,l,w,xs,ar,k,ab,rfl,rfl,aJ,a7,aV,au,hlen,q⟩:=h;cases bg;obtain⟨u,rfl,c4⟩:=cb.one;obtain⟨its,ih,⟨⟨cls,df,data,cn⟩,c,ay,aj,_,hd⟩,_⟩:=I.list aJ;simp only at aj hd;subst aj hd;have f3:(ar.map gH).all (Den.dx 60)=true:=by rw[aaa,YI];exact λk _=>uW k
 obtain⟨as,bZ⟩:=oo I ab 60 f3 a7 ih;obtain⟨bs,c3⟩:=om I ab aV c4 (uW k);have aw:its.length=ar.length:=by rw[<- ih.length,<- a7.length,List.length_map]
 have key:∀m (hm:m<its.length),ki s.heap (gH k) its[m]=decide (ar[m]'(by omega)=k):=λm hm=>by
  obtain⟨d,Xi,ai,av⟩:=Gb bZ m hm;rw[Yy,Yl (by omega)]at ai;cases ai;rw[xm av (uW _)];exact bC.nO _ _
 have aA:=Y8 au;refine ab4 F.slot_list_index ⟨_,ay,rfl⟩ F.entry_list_index (F.args_list_index_2 _ _) (SeqAt.list_indexAt l its.toArray c df cn u (ki s.heap (gH k)) (ar.idxOf k) (by rw[Yv];omega) (by omega) ?_ ?_) ⟨ay,λz hz=>tb bz c3 (uW k) bZ f3 z (by simpa using hz),?_⟩
 .have:=key (ar.idxOf k) (by omega);simp only[List.getElem_toArray];rw[this,Z2 aA];simp
 .intro dw hm aa;have:=key dw (by simpa using hm);simp only[List.getElem_toArray];rw[this];refine decide_eq_false λe=>?_
  have:=List.not_of_lt_findIdx (p:=(·==k)) (xs:=ar) aa;simp[e]at this
 .exact⟨.int _,H,I.kept (t':=_) λb o e=>e,⟨_,rfl⟩,q⟩
def T3(bz:X.A.units+64<cLine)(aB:n="index")(lu:(ap.endLine==ef.line)=true)(aS:X.N[i]?=some x)(aV:fT X.env.scope x)(J:(x==("__debug__":Str))=false)(aa:(x==("__classdict__":Str))=false)(kp:X.N[j]?=some y)(jf:fT X.env.scope y)(km:(y==("__debug__":Str))=false)(hF:(y==("__classdict__":Str))=false):aO X (.Call (.Attribute (.Name x bh) n ap) [.Name y bE] [] ef) (bp xp X ao m λC=>Den.pG C[i]? C[j]?):=by
 subst aB;intro pins s σ H Q I ⟨G,C,ab,hw⟩;dsimp only at hw;unfold Den.pG at hw;cases ai:Den.e2 Den.ve C[i]? with
 |none=>rw[ai]at hw;exact hw.elim
 |some ar =>
  cases av:Den.e2 Den.gc C[j]? with
  |none=>rw[ai,av]at hw;exact hw.elim
  |some k =>
   rw[ai,av]at hw;dsimp only at hw
   by_cases hz:k∈ar/\ar.length<=1000
   .rw[if_pos hz]at hw;obtain⟨cz,aP,a9⟩:=k1 ai;cases Wm a9;obtain⟨c1,b4,dg⟩:=k1 av;cases su dg;obtain⟨v1,aZ,a,xs,rfl,aQ,br⟩:=ab.view aP;obtain⟨v2,bY,fU⟩:=ab.view b4;refine zd aaX PySem.F.slot_list_index PySem.F.type_list_index (QZ bz) (gn aS aV J aa) (kG (gn kp jf km hF) rfl) rfl (ya rfl) lu rfl rfl pins s σ H Q I ?_;exact⟨_,aZ,.inl ⟨rfl,xs,aQ⟩,_,bY,G,a,v2,xs,ar,k,ab.sub,rfl,rfl,aQ,br,fU,hz.1,hz.2,hw _ G H (Ext.refl ab.sub) (by cases m<;>rfl)⟩
   .rw[if_neg hz]at hw;exact hw.elim
end
section
variable{xp:cw}{X:aU}{ao:List Nat}{m:er}{pos bh bE d2 hg lP ap ef:Pos}{i j:Nat}{x y:Str}{pins:List (Addr×Obj)}{σ:b3}{G H:az}{s:Shared}{C:a0}
def G4(ab:ew X.K ao G H C σ)(hm:i∈ao){ak:List (List Int×Int)}(h:C[i]?=some (some (.bK ak))):∃a,σ[i]?=some (some (V.ref a))/\H a=some (.d5 (gj ak))/\G a=none:=by
 obtain⟨a,o,J,aa,aI,aX⟩:=ab.lst i _ h hm rfl;cases aX;exact⟨a,J,aa,aI⟩
def Wj{o:Option (Option D)}{k:List Int}(h:Den.e2 Den.gc o=some k):o=some (some (.tup (k.map .int))):=by
 obtain⟨d,ai,av⟩:=k1 h;rw[ai,su av]
def TJ(bz:X.A.units+64<cLine)(hm:i∈ao)(aA:j∉ao)(aS:X.N[i]?=some x)(aV:fT X.env.scope x)(J:(x==("__debug__":Str))=false)(aa:(x==("__classdict__":Str))=false)(kp:X.N[j]?=some y)(jf:fT X.env.scope y)(km:(y==("__debug__":Str))=false)(hF:(y==("__classdict__":Str))=false)(lu:(ap.endLine==ef.line)=true){Bo dk:Nat}{iO aP a9 b4 dg:Pos}:
  eu X (.Assign [.Subscript (.Name x bh) (.Name y bE) d2] (.BinOp (.Call (.Attribute (.Name x iO) "get" ap) [.Name y aP,.Constant (.int 0) Bo a9] [] ef) .Add (.Constant (.int 1) dk b4) dg) pos) (en xp X ao λC=>Den.qU C[i]? C[j]?>>=λd=>.ok (.cg (C.set i (some d)))):=by
 intro pins s σ H T I ⟨ck,bx,G,C,ae,hw⟩;refine FU (by omega) (gn aS aV J aa) (gn kp jf km hF) (FF Fq (RP (by omega) (gn aS aV J aa) (gn kp jf km hF) zf ⟨rfl,rfl,lu,rfl⟩) zf) rfl pins s σ H T I ?_;have hw:=bt.mp hw;unfold Den.qU at hw;cases ai:Den.hY C[i]? with
 |none=>rw[ai]at hw;exact hw.elim
 |some ak =>
  cases av:Den.e2 Den.gc C[j]? with
  |none=>rw[ai,av]at hw;exact hw.elim
  |some k =>
   rw[ai,av]at hw;dsimp only at hw;obtain⟨a,aZ,aQ,br⟩:=G4 ae.c8 hm (mu ai);obtain⟨b,bY,fU⟩:=zM ae.c8 aA (Wj av)
   by_cases hz:ak.length<1000
   .rw[if_pos hz]at hw;have a4:=l4.t aQ fU;rw[B3]at a4;have ev:((Den.gr ak k).map V.int).getD (.int 0)=.int ((Den.gr ak k).getD 0):=(by cases Den.gr ak k<;>rfl);refine⟨_,aZ,a,rfl,.inr ⟨_,.inl aQ⟩,_,bY,_,a4,?_⟩;refine⟨_,_,ev,rfl,_,aZ,_,bY,a,_,rfl,iX.t aQ fU (by unfold gj;rw[List.length_map,sizeLine_eq];omega),?_⟩;rw[B2];exact hw σ G _ (ae.write (d:=.bK ak) hm (mu ai) rfl rfl aZ br rfl)
   .rw[if_neg hz]at hw;exact hw.elim
def TP(aj:X.calm=true)(bz:X.A.units+64<cLine)(ag:x="sorted")(nX:et X x)(nY:X.aK x=none)(hm:i∈ao)(aS:X.N[i]?=some y)(aV:fT X.env.scope y)(J:(y==("__debug__":Str))=false)(aa:(y==("__classdict__":Str))=false):
  aO X (.Call (.Name x bh) [.Name y bE] [] pos) (bp xp X ao .fresh λC=>Den.o3 C[i]?):=by
 subst ag;intro pins s σ H Q I ⟨G,C,ab,hw⟩;have cF:X.A.handled=none:=I.ok.hd aj;dsimp only at hw;unfold Den.o3 at hw;cases ai:Den.hY C[i]? with
 |none=>rw[ai]at hw;exact hw.elim
 |some ak =>
  rw[ai]at hw;dsimp only at hw;obtain⟨jc,C6,hw⟩:=HZ hw;obtain⟨a,aZ,aQ,br⟩:=G4 ab hm (mu ai);refine ZC (jT I nX nY (u:=.builtin "sorted") (by kernel_rfl) ?_);refine aai ?_ rfl rfl;show wpAny _ _ (spliced ((false,eval (.Name y bE) X.env)::[])) _ _ s;refine ZL ?_;refine bO (gn aS aV J aa pins s σ H (λv H1=>v=.ref a/\H1=H) I ⟨_,aZ,rfl,rfl⟩) λu s1 ⟨v,H1,bb,aH,av,bu⟩=>?_
  subst av bu;cases aH;refine Z7 ?_;obtain⟨cX,cC,xs,fa,o,ah,ba,hQ,j6,j7,sD,Aw⟩:=(show dG X.prog X.w H1 s1.heap a (.d5 (gj ak)) from bb.bM a _ aQ);have a7:=xf (K:=X.K) ab.ed fa;have hsz:ah.size=xs.length:=(by rw[<- Array.length_toList,sD,List.length_map]);have XC:ak.length=xs.length:=(by have:=a7.length;simpa using this);rw[List.length_map]at C6;refine u0 (PySem.W.kdu_collect (A:=X.A.in1) (Pv.U2 cC j6 j7) cF hQ (by rw[hsz,sizeLine_eq];omega) λh' tk acc au hH=>?_);have cM:Inv X pins σ H1 { s1 with heap:=h',toks:=tk }:=bb.kept au;have eb:acc.toList=xs.map λq=>Value.ref q.2.1:=by
   refine D5 (P:=Pv.vI ah) (l:=xs.map λq=>Value.ref q.2.1) (by rw[List.length_map,<- hsz];exact hH) λj v aV=>?_
   obtain⟨e,he,rfl⟩:=aV;rw[<- YF,sD,Yy]at he;cases q:xs[j]? with
   |none=>rw[q]at he;cases he
   |some x=>rw[q]at he;cases he;rw[Yy,q];rfl
  rw[eb];refine uZ cF bz cM ab.sub a7 (Aq xs) jc (by rw[List.length_map];exact C6) λv aN aq x r=>hw v aN aq x r
end
noncomputable def qG(q:Nat)(eY:a0->bw D):a0->bw Den.fb:=zE (λC=>eY C>>=λd=>.ok (.cg (C.set q (some d)))) (λC=>.ok (.cg C))
section
variable{xp:cw}{X:aU}{ao:List Nat}{m:er}{dh iter e:Expr}{pos bh hg:Pos}{q:Nat}{y:Str}
def TS{k:Nat}{ts:List Nat}{ip:a0->bw (List D)}{eY:a0->bw D}(aE:PassesOwn (model X.prog X.w) X.A X.env X.cA)(aj:X.calm=true)(yv:∀t∈ts,t∉ao)(hi:gZ X dh iter (jr xp X ao .view ip))(a4:iB X dh (tv X.K k ts))(aJ:q∉ao)(aS:X.N.Nodup)(aD:X.N[q]?=some y)(ag:Loc X.env.scope y)(he:aO X e (bp xp X ao .val eY))(je:swapsWith e (some (.Name y bh)) hg.line X.env=pure false)(hf:X.fn y=true\/X.env.scope.names.lookup y=some .local)(ab:∀z,foldedSetIterable iter X.env z=pure z):eu X (.For dh iter [.Assign [.Name y bh] e hg] [] pos) (en xp X ao λC=>ip C>>=λds=>Den.forL (λd cp=>Den.fh k d>>=λaf=>qG q eY (Den.iy ts af cp)) ds C):=by
 intro pins s σ H T I ⟨ck,bx,G,C,hJ,hw⟩;refine FW aE aj hi a4 (FX (r7 aS aD ag he je hf) FY) ab pins s σ H T I ?_;refine⟨G,C,hJ.c8,bX (bt.mp hw) (λds gO cy aL H1 aR iI hz=>?_) λ_ q=>q.mono hJ.ext.h⟩;generalize pd:(λd cp=>Den.fh k d>>=λaf=>qG q eY (Den.iy ts af cp))=F at gO;refine⟨λj m dB aq=>j+m=ds.length/\∃aN cp,d0 X.K ao ck bx aN aq cp dB/\Ext aL H1 aN aq/\cL (Den.forL F (ds.drop j) cp) (jH X.K ao ck bx T) (λc=>fI xp X c bx),
  ⟨ds.length,by omega,aL,C,hJ.step aR,Ext.refl aR.sub,by simpa using gO⟩,?_⟩
 rintro j m dB aq ⟨aA,aN,cp,cK,cA,e5⟩;have jJ:oK .view aL H1 aN aq:=⟨cA.g,cA.h⟩
 by_cases b7:j<ds.length
 .refine .inr ⟨iI.go j aN aq jJ b7,λoG aY=>(j+1)+(m-1)=ds.length/\∃b5 l3,d0 X.K ao ck bx b5 aY l3 oG/\Ext aL H1 b5 aY/\cL (Den.forL F (ds.drop (j+1)) l3) (jH X.K ao ck bx T) (λc=>fI xp X c bx),
   λoG aY aa=>⟨m-1,by omega,aa⟩,λv aY aD=>?_⟩
  have hd:ds[j]?=some ds[j]:=Yl b7;obtain⟨b5,bF,ek⟩:=iI.j5 j aN aq v aY ds[j] jJ cK.c8.sub hd aD;have zC:=cK.step bF;have xk:ds.drop j=ds[j]::ds.drop (j+1):=Y5 b7;rw[xk,CK,<- pd]at e5;have e5:=bt.mp (bt.mp e5);refine⟨b5,ds[j],bF.sub,ek,?_⟩;cases lR:Den.fh k ds[j] with
  |bad=>rw[lR]at e5;exact e5
  |exc c =>
   exfalso;cases k with
   |zero=>cases lR
   |succ k =>
    cases fA:ds[j] with
    |tup zs =>
     rw[fA]at lR;have x6:Den.fh (k+1) (.tup zs)=if zs.length=k+1 then .ok (zs.map some) else .bad:=rfl;rw[x6]at lR
     split at lR<;>cases lR
    |_=>rw[fA]at lR;cases lR
  |ok os =>
   rw[lR]at e5;intro ws af q4 zz;subst q4;have si:=d0.zF yv zC zz;have h6:cL (qG q eY (Den.iy ts (ws.map some) cp)) _ _:=e5;unfold qG zE at h6;have OV:=bt.mp (bt.mp h6);refine⟨b5,_,si.c8,bX OV (λd ub sv iY b6 hp dR=>?_) λc z=>z.mono si.ext.h⟩;have ub:cL (Den.forL (λd cp=>Den.fh k d>>=λaf=>qG q eY (Den.iy ts af cp)) (ds.drop (j+1)) ((Den.iy ts (ws.map some) cp).set q (some d))) (jH X.K ao ck bx T) (λc=>fI xp X c bx):=ub;rw[pd]at ub;exact⟨by omega,iY,_,(si.step hp).p8 aJ dR,(cA.trans bF).trans hp,ub⟩
 .have jF:j=ds.length:=(by omega);subst jF;refine .inl ⟨iI.stop aN aq jJ,?_⟩;rw[aaJ]at e5;exact e5 dB aN aq cK
end
def MT{K:W.Frag}{G H aN aq:az}{d:D}{v:V}(x:Ext G H aN aq)(r:cE K H aN aq .fresh d v):∃b5,Ext G H b5 aq/\Rep K b5 d v:=by
 cases d with
 |lst ds =>
  obtain⟨a,xs,rfl,J,aa,aI,aX⟩:=r;refine⟨upd aN a (.lst xs),⟨x.g.trans (gp aI),x.h,λb o q=>?_,λb aP a9=>?_,λb xs q=>(x.ed b xs q).imp id λz=>gp aI _ _ z⟩,a,xs,rfl,.inl (.inl dS),aX.mono (gp aI)⟩
  .by_cases ae:b=a
   .subst ae;rw[dS]at q;rw[J];exact q
   .rw[dm ae]at q;exact x.sub b o q
  .rw[dm (λz=>a9 (by rw[z];exact aa))];exact x.new b aP a9
 |bK _=>exact r.elim
 |bD _=>exact r.elim
 |_=>exact⟨aN,x,r⟩
section
variable{xp:cw}{X:aU}{ao:List Nat}{ip:a0->bw (List D)}{eY:a0->bw D}{cj:a0->bw Bool}{elt target iter:Expr}{ifs:List Expr}{scope:Scope}{pos bh hg:Pos}{xs cY:List Str}{k i:Nat}{y:Str}
def Tv(aj:X.calm=true)(h5:∀i∈ao,i<X.N.length)(B:oI X scope xs cY)(au:Den.fs k target=some xs)(n2:∀x,foldedSetIterable iter X.env x=pure x)(hi:gZ X target iter (jr xp X ao .view ip))(he:∀s3 b6 bB pins,aO (gW X scope cY s3 b6 bB pins) elt (bp xp (gW X scope cY s3 b6 bB pins) ao .val eY))(aW:qC xp X ao scope cY ifs cj)(aS:X.N.Nodup)(aD:X.N[i]?=some y)(ag:Loc X.env.scope y)(hf:X.fn y=true\/X.env.scope.names.lookup y=some .local):
  eu X (.Assign [.Name y bh] (.ListComp elt [⟨target,iter,ifs,0⟩] scope pos) hg) (en xp X ao λC=>(ip C>>=λds=>Den.iN (Den.cZ (i7 k cj eY C) ds)>>=λys=>.ok (.lst ys))>>=λd=>.ok (.cg (C.set i (some d)))):=by
 have je:∃b:Bool,swapsWith (.ListComp elt [⟨target,iter,ifs,0⟩] scope pos) (some (.Name y bh)) hg.line X.env=pure b:=⟨_,rfl⟩;obtain⟨b,je⟩:=je;cases b with
 |false =>
  by_cases hm:i∈ao
  .exact GB hm aS aD ag (zB aj h5 B au n2 hi he aW) je hf
  .exact GA hm aS aD ag (aO.val (zB aj h5 B au n2 hi he aW)) je hf
 |true =>
  intro pins s σ H T I ⟨ck,bx,G,C,ae,hw⟩;rw[exec_Assign_Name_used _ _ _ _ je];refine Yf (wpAny_standAt (Yf ?_));show wpAny _ X.A (do let _ <- comprehension (.ListComp elt [⟨target,iter,ifs,0⟩] scope pos) scope X.env _ (newList []) false (eval iter X.env) (some (assign (.Name y bh) X.env))) _ _ s;refine Yf (Zh (BM aj h5 B au n2 hi he aW I ae.c8 (use:=some (assign (.Name y bh) X.env)) (Qc:=λ_ s'=>vT X pins T .next s') ?_) (λ_ s' aJ=>wpAny_pure (wpAny_pure aJ)) λ_ _ e=>e);have hw:=bt.mp (bt.mp hw);refine bt.mpr (bX hw (λds aZ=>?_) λ_ q=>q.mono ae.ext.h);refine bX (bt.mp aZ) (λys aQ s4 aq aN bG du oa x r aB NP inv=>?_) λ_ q=>q.mono ae.ext.h
  have fP:Inv X pins σ aq s4:=inv s4.heap (Heap.SameBut.refl _ _);obtain⟨r0,ah,ba,ay,a7⟩:=id aB;have Om:∀v,r0.data≠.cell v:=λv z=>by
   have:=a7.1;rw[z]at this;cases this
  obtain⟨f0,f1,f2,fi,f4,fj⟩:=NP;have Ic:Inv X (pins++[(bG,r0)]) σ aq s4:=fP.zh λp aE=>by
   rcases Yq.mp aE with z|z
   .exact fP.pin p (Yw _ z)
   .have z:=YA.mp z;subst z;exact⟨ay,f0,f1,f2,Om⟩
  show wpAny _ X.A (assign (.Name y bh) X.env (.ref du)) _ _ s4;refine wpAny_assign_Name (zU Ic aS aD ag (v:=.ref du) rfl (λs5 l9=>?_) hf);have cc:s5.heap.get? bG=some r0:=(l9.pin (bG,r0) (Yw _ (Yw _ (YA.mpr rfl)))).1;refine⟨oa,⟨r0,ah,ba,cc,a7⟩,λh' cK=>⟨σ.set i (some (.ref du)),aq,?_,?_⟩⟩
  .exact(l9.qi).turned (t':=s5.toks) (λb o ae e=>(cK.2 b ae).trans e) f0 f1 fi f4 fj
  .by_cases hm:i∈ao
   .exact aQ _ aN aq (ae.GP x hm r)
   .obtain⟨b5,bF,a5⟩:=MT x r;exact aQ _ b5 aq ((ae.step bF).p8 hm a5)
end
noncomputable def nice:Expr->Bool
 |.Starred ..=>false
 |.Set ..=>false
 |.SetComp ..=>false
 |.DictComp ..=>false
 |.Slice ..=>false
 |_=>true
def nn{α:Type}{a:α}{p:Prop}(h:none=some a):p:=nomatch h
def hn{x:Expr}{y:Str}(h:Den.hl x=some y):∃p,x=.Name y p:=by
 cases x with
 |Name z p=>cases h;exact⟨p,rfl⟩
 |_=>exact nn h
def Ah{x:Expr}{c:Const}(h:Den.vn x=some c):∃k p,x=.Constant c k p:=by
 cases x with
 |Constant z k p=>cases h;exact⟨k,p,rfl⟩
 |_=>exact nn h
def WK{x:Expr}{ah:List Expr}(h:Den.HL x=some ah):∃k p,x=.Tuple ah k p:=by
 cases x with
 |Tuple z k p=>cases h;exact⟨k,p,rfl⟩
 |_=>exact nn h
def WH{x:Expr}{ah:List Expr}(h:Den.HJ x=some ah):∃p,x=.List ah p:=by
 cases x with
 |List z p=>cases h;exact⟨p,rfl⟩
 |_=>exact nn h
def HE{x a b:Expr}{o:Operator}(h:Den.Ae x=some (a,o,b)):∃p,x=.BinOp a o b p:=by
 cases x with
 |BinOp l o r p=>cases h;exact⟨p,rfl⟩
 |_=>exact nn h
def HM{x a:Expr}{o:UnaryOp}(h:Den.An x=some (o,a)):∃p,x=.UnaryOp o a p:=by
 cases x with
 |UnaryOp o r p=>cases h;exact⟨p,rfl⟩
 |_=>exact nn h
def HF{x a:Expr}{os:List CmpOp}{ys:List Expr}(h:Den.Ag x=some (a,os,ys)):∃p,x=.Compare a os ys p:=by
 cases x with
 |Compare l o r p=>cases h;exact⟨p,rfl⟩
 |_=>exact nn h
def vl{x:Expr}{o:BoolOp}{ah:List Expr}{p:Pos}(h:Den.vBool x=some (o,ah,p)):x=.BoolOp o ah p:=by
 cases x with
 |BoolOp o ah p=>cases h;rfl
 |_=>exact nn h
def Am{x a b:Expr}(h:Den.vo x=some (a,b)):∃p,x=.Subscript a b p:=by
 cases x with
 |Subscript l r p=>cases h;exact⟨p,rfl⟩
 |_=>exact nn h
def WI{x:Expr}{a b c:Option Expr}(h:Den.HK x=some (a,b,c)):∃p,x=.Slice a b c p:=by
 cases x with
 |Slice l r t p=>cases h;exact⟨p,rfl⟩
 |_=>exact nn h
def Af{x f:Expr}{ah:List Expr}{ar:List Keyword}(h:Den.vm x=some (f,ah,ar)):∃p,x=.Call f ah ar p:=by
 cases x with
 |Call l r t p=>cases h;exact⟨p,rfl⟩
 |_=>exact nn h
def kS{x:Expr}{y:Str}{ah:List Expr}(h:Den.j2 x=some (y,ah)):∃p q,x=.Call (.Name y p) ah [] q:=by
 unfold Den.j2 at h
 split at h
 .rename_i f nP ai;obtain⟨q,rfl⟩:=Af ai
  split at h
  .rename_i z av;obtain⟨p,rfl⟩:=hn av;cases h;exact⟨p,q,rfl⟩
  .cases h
 .cases h
def WG{x a b c:Expr}(h:Den.HI x=some (a,b,c)):∃p,x=.IfExp a b c p:=by
 cases x with
 |IfExp l r t p=>cases h;exact⟨p,rfl⟩
 |_=>exact nn h
def HH{x a:Expr}{h2:List Comprehension}{sc:Scope}(h:Den.HG x=some (a,h2,sc)):∃p,x=.ListComp a h2 sc p:=by
 cases x with
 |ListComp l r t p=>cases h;exact⟨p,rfl⟩
 |_=>exact nn h
def e8{g:Den.Gt}{ct:Den.b8}{v:Bool}{e:Den.E}{x:Expr}(h:Den.bS g ct v e x=true):nice x=true:=by
 cases aB:nice x with
 |true=>rfl
 |false =>
  exfalso;cases x<;>first|(cases aB;done)|skip
  all_goals (cases e<;>exact Y6 h)
def ox{e:Expr}{ah:List Expr}{env:Env}(h:nice e=true):starEach (e::ah) env=(false,eval e env)::starEach ah env:=by
 cases e<;>first|rfl|cases h
def hO{e:Expr}{env:Env}(h:nice e=true):starEach [e] env=[(false,eval e env)]:=ox h
def Hc{e bq:Expr}{env:Env}(h:nice e=true)(h':nice bq=true):starEach [e,bq] env=[(false,eval e env),(false,eval bq env)]:=by rw[ox h,hO h']
def So{ah:List Expr}{env:Env}{pos:Pos}(h:∀e∈ah,nice e=true):(backTo pos (starEach ah env)).any (·.1)=false:=by
 induction ah with
 |nil=>rfl
 |cons e ah aF =>
  rw[ox (h e List.mem_cons_self)];show(false||(backTo pos (starEach ah env)).any (·.1))=false;rw[aF λz hz=>h z (List.mem_cons_of_mem _ hz)];rfl
def PA{b:Expr}(h:nice b=true):vR b:=by
 intro o i;cases b<;>first|rfl|cases h
def set_plain{b:Expr}{env:Env}(h:nice b=true):∀x,foldedSetIterable b env x=pure x:=by
 intro x;cases b<;>first|rfl|cases h
def EO{b:Expr}{op:CmpOp}(h:nice b=true):behindInMarks op b=false:=by
 cases b<;>first|rfl|cases h
def zW{e:Expr}{t:Option Expr}{n:Nat}{env:Env}(h:nice e=true)(aj:Den.rZ e=true):swapsWith e t n env=pure false:=by
 cases e<;>first|rfl|(cases aj;done)|(cases h;done)
noncomputable def qo:List Str:=["len","isinstance","int","bool","str","tuple","list","sorted","set","range","sum","max","min"]
structure gw(P:Program)(w:World)(K:W.Frag)(aK:Str->Option Value)(base:Heap)(xp:cw)(k:Nat)(g:Den.Gt)(pg:Den.dq)(Φ:Den.dC):Prop where
 fn:∀(f:Nat)(x:Str),g.fns[f]?=some x->∃bo fd a8,aK x=some (.ref bo)/\W.keepIn K (.ref bo)=true/\Binds K fd a8 []/\ka P w K aK base (j9 P w xp) k bo fd a8 (ow K (Φ f) a8.length)/\∀ds,ds.length≠a8.length->Φ f ds=.bad
 blt:∀x:Str,x∈qo->aK x=none
 rb:∀(j:Nat)(x:Str)(d:D),g.rb[j]?=some x->pg.cs[j]?=some d->∃v u,aK x=some u/\RelV v u/\∀G,Rep K G d v
structure dK(xp:cw)(k:Nat)(g:Den.Gt)(pg:Den.dq)(Φ:Den.dC)(X:aU)(ct:Den.b8):Prop where
 cW:gw X.prog X.w X.K X.aK X.base xp k g pg Φ
 room:gg k X.A
 units:X.A.units+64<cLine
 calm:X.calm=true
 nm:X.N=ct.N
 ej:ct.N.Nodup
 ao:∀i∈ct.ao,i<ct.N.length
 lc:∀x,ct.sc.names.lookup x=some .local->X.env.scope.names.lookup x=some .local
 sV:∀x,(ct.sc.names.lookup x=some .cell\/ct.sc.names.lookup x=some .free)->(X.env.scope.names.lookup x=some .cell\/X.env.scope.names.lookup x=some .free)
 gl:∀x,ct.sc.names.lookup x=some .globalImplicit->X.env.kindOf x=some .globalImplicit
section
variable{xp:cw}{k:Nat}{g:Den.Gt}{pg:Den.dq}{Φ:Den.dC}{X:aU}{ct:Den.b8}
def dK.ho(h:dK xp k g pg Φ X ct){x:Str}(q:Den.js ct.sc x=true):fT X.env.scope x:=by
 unfold Den.js at q;simp only[Z5,Y3]at q;rcases q with(q|q)|q
 .exact .inl (h.lc x q)
 .exact .inr (h.sV x (.inl q))
 .exact .inr (h.sV x (.inr q))
def dK.CY(h:dK xp k g pg Φ X ct){x:Str}(q:Den.pa ct.sc x=true):et X x:=by
 unfold Den.pa at q;exact h.gl x (by simpa using q)
def gR{x:Str}(h:Den.okN x=true):(x==("__debug__":Str))=false/\(x==("__classdict__":Str))=false/\x≠"__name__":=by
 unfold Den.okN at h;simp only[Yg,YW]at h;exact⟨h.1.1,h.1.2,λz=>by rw[z]at h;exact absurd h.2 (by decide)⟩
theorem dK.blt(h:dK xp k g pg Φ X ct){x:Str}(q:Den.eT g ct.sc x=true)(aB:x∈qo):et X x/\X.aK x=none:=by
 unfold Den.eT at q;simp only[Yg,YW]at q;exact⟨h.CY q.1.1.1,h.cW.blt x aB⟩
end
noncomputable def jV(v:Bool):er:=if v then .view else .val
structure Res(xp:cw)(X:aU)(ao:List Nat)(v fr:Bool)(x:Expr)(f:a0->bw D):Prop where
 dW:aO X x (bp xp X ao (jV v) f)
 fresh:fr=true->aO X x (bp xp X ao .fresh f)
 pt:dH X x (fO xp X ao f)
 fp:(∃op ah p,x=.BoolOp op ah p)->iC X x (fO xp X ao f)
section
variable{xp:cw}{X:aU}{ao:List Nat}{v fr:Bool}{x:Expr}{f:a0->bw D}
theorem Res.view(h:Res xp X ao v fr x f):aO X x (bp xp X ao .view f):=aO.view h.dW
theorem Res.val(h:Res xp X ao false fr x f):aO X x (bp xp X ao .val f):=h.dW
def FD(h:aO X x (bp xp X ao .val f)):aO X x (bp xp X ao (jV v) f):=by
 cases v with
 |true=>exact aO.view h
 |false=>exact h
def Res.pV(h:aO X x (bp xp X ao .val f))(aW:∀whole,isTrue x X.env whole=(do let v <- whole;standAt x.pos;holding [v] (truthy v)))(ae:∀op ah p,x≠.BoolOp op ah p)(hf:fr=false):Res xp X ao v fr x f :=
 ⟨FD h,λz=>(by rw[hf]at z;cases z),kL (aO.view h) aW,λ⟨op,ah,p,e⟩=>absurd e (ae op ah p)⟩
def Res.mX(h:aO X x (bp xp X ao .fresh f))(aW:∀whole,isTrue x X.env whole=(do let v <- whole;standAt x.pos;holding [v] (truthy v)))(ae:∀op ah p,x≠.BoolOp op ah p):Res xp X ao v fr x f :=
 ⟨FD (aO.val h),λ_=>h,kL (aO.view h) aW,λ⟨op,ah,p,e⟩=>absurd e (ae op ah p)⟩
def Res.kF(h:∀m,aO X x (bp xp X ao m f))(aW:dH X x (fO xp X ao f))(ae:∀op ah p,x≠.BoolOp op ah p):Res xp X ao v fr x f :=
 ⟨h _,λ_=>h _,aW,λ⟨op,ah,p,e⟩=>absurd e (ae op ah p)⟩
end
def rR(N xs:List Str):(Den.mask N xs).length=N.length:=by unfold Den.mask;rw[List.length_map]
structure qp(ct:Den.b8)(scope:Scope)(xs:List Str):Prop where
 kind:scope.kind=.function
 mV:∀y∈scope.names,y.2≠.cell
 names:∀y∈scope.names,y.2=.local->scope.names.lookup y.1=some .local
 fs:∀y∈xs,scope.names.lookup y=some .local
 loc:∀y∈scope.names,y.2=.local->y.1∈xs\/y.1=(".0":Str)
 fr:∀y∈scope.names,y.2=.free->ct.sc.names.lookup y.1=some .cell\/ct.sc.names.lookup y.1=some .free
 same:∀p∈(Den.mask ct.N xs).zip ct.N,p.1=p.2\/scope.names.lookup p.1=none
 ej:(Den.mask ct.N xs++xs).Nodup
 dot:(".0":Str)∉Den.mask ct.N xs++xs
section
variable{xp:cw}{k:Nat}{g:Den.Gt}{pg:Den.dq}{Φ:Den.dC}{X:aU}{ct:Den.b8}{scope:Scope}{xs:List Str}
def qp.block(aG:dK xp k g pg Φ X ct)(b:qp ct scope xs):oI X scope xs (Den.mask ct.N xs++xs) where
 kind:=b.kind
 mV:=b.mV
 names:=b.names
 loc:=λy h=>b.loc (y,.local) (Y4 h) rfl
 fs:=b.fs
 fr:=λy aD e=>aG.sV y.1 (b.fr y aD e)
 len:=by rw[Yj,rR,aG.nm]
 old:=λi y hi e ab=>by
  rw[aG.nm]at hi ⊢;rw[YB (by rw[rR];exact hi)]at e;have hz:((Den.mask ct.N xs).zip ct.N)[i]?=some (y,ct.N[i]):=by
   rw[List.getElem?_zip_eq_some];exact⟨e,Yl hi⟩
  have hm:=b.same _ (ZD hz);have aD:y∈Den.mask ct.N xs:=ZD e;rcases hm with hm|hm
  .refine⟨by have hm:y=ct.N[i]:=hm;rw[Yl hi,<- hm],λag=>?_,λz=>b.dot (List.mem_append_left _ (z▸aD))⟩;exact(aae.mp b.ej).2.2 y aD y ag rfl
  .simp only at hm;rw[hm]at ab;cases ab
 new:=λj=>by
  rw[aG.nm,YS (by rw[rR];omega),rR];congr 1;omega
 ej:=b.ej
def qp.ok(aG:dK xp k g pg Φ X ct)(b:qp ct scope xs)(s3:Shared)(b6:az)(bB:List Addr)(pins:List (Addr×Obj)):dK xp k g pg Φ (gW X scope (Den.mask ct.N xs++xs) s3 b6 bB pins) ⟨Den.mask ct.N xs++xs,scope,ct.ao⟩ where
 cW:=aG.cW
 room:=aG.room
 units:=aG.units
 calm:=aG.calm
 nm:=rfl
 ej:=b.ej
 ao:=λi hi=>by
  have:=aG.ao i hi;show i<(Den.mask ct.N xs++xs).length;rw[Yj,rR];omega
 lc:=λx h=>uP h (by decide)
 sV:=λx h=>by
  rcases h with h|h
  .exact absurd rfl (b.mV _ (Y4 h))
  .exact zt h
 gl:=λx h=>uP h (by decide)
end
def Jj{ct:Den.b8}{sc:Scope}{xs:List Str}(h:Den.qK ct sc xs=true):qp ct sc xs:=by
 unfold Den.qK at h;rw[Yg,Yg,Yg,Yg,Yg,Yg,Yg,Yg,Yg]at h;obtain⟨⟨⟨⟨⟨⟨⟨⟨⟨J,aa⟩,aI⟩,aX⟩,_⟩,cc⟩,fk⟩,g8⟩,dV⟩,kn⟩:=h;exact {
  kind:=ZR J
  mV:=λy aD=>by simpa using YI.mp aa y aD
  names:=λy aD e=>by
   have:=YI.mp aI y aD;rw[e]at this;simpa using this
  fs:=λy aD=>by
   have:=YI.mp aX y aD;simp only[Yg,Y3]at this;exact this.1
  loc:=λy aD e=>by
   have:=YI.mp cc y aD;rw[e]at this;simpa using this
  fr:=λy aD e=>by
   have:=YI.mp fk y aD;rw[e]at this;simpa using this
  same:=λp aE=>by
   have:=YI.mp g8 p aE;simpa using this
  ej:=ZR dV
  dot:=by simpa using kn }
section
variable{xp:cw}{k:Nat}{g:Den.Gt}{pg:Den.dq}{Φ:Den.dC}{X:aU}{ct:Den.b8}{v:Bool}
def RD{ah:List Expr}:fQ X ah (λ_ _ _=>False):=λ_ _ _ _ _ _ _ h=>h.elim
def TZ{ao:List Nat}{m:er}{f:a0->bw D}{up:Den.gJ}{c:Nat}{e:Expr}{x t:Str}{p fW pos:Pos}(nW:et X x)(hm:X.aK x=none)(aV:bootBuiltins x=some (.builtin "isinstance"))(ax:aO X e (bp xp X ao .view f))(aB:x≠"__name__")(h4:(x==("__debug__":Str))=false)(cJ:starEach [e,.Name t fW] X.env=(false,eval e X.env)::starEach [.Name t fW] X.env):
  aO X (.Call (.Name x p) [e,.Name t fW] [] pos) (bp xp X ao m λC=>f C>>=λd=>Den.jS up d (.cls c)>>=λb=>.ok (.aT b)):=by
 intro pins s σ H Q I ⟨G,C,ab,hw⟩;refine uI (r:=λ_ _ _=>False) (λ_ _ _ _ _ _ _ _ _ z=>z.elim) nW hm aV (oj ax RD cJ) aB h4 cJ rfl pins s σ H Q I ?_;refine⟨G,C,ab,bX (bt.mp hw) (λbj k v aL H1 aR aH=>?_) λ_ q=>q⟩;cases bj<;>first|exact k.elim|exact aH.elim
def Tz{ao:List Nat}{bL:a0->bw (List D)}{hS:List D->bw D}{fn:Addr}{fd:FuncData}{a8:List Str}{x:Str}{e:Expr}{ah:List Expr}{p pos:Pos}(F:ka X.prog X.w X.K X.aK X.base (j9 X.prog X.w xp) k fn fd a8 (ow X.K hS a8.length))(a7:gg k X.A)(a4:et X x)(hm:X.aK x=some (.ref fn))(au:W.keepIn X.K (.ref fn)=true)(ae:Binds X.K fd a8 [])(ax:fQ X (e::ah) (m5 xp X ao bL))(aw:∀ds,ds.length≠a8.length->hS ds=.bad)(h4:(x==("__debug__":Str))=false)(he:starEach (e::ah) X.env=(false,eval e X.env)::starEach ah X.env)(e4:(backTo pos (starEach ah X.env)).any (·.1)=false):
  aO X (.Call (.Name x p) (e::ah) [] pos) (bp xp X ao .val λC=>bL C>>=λds=>hS ds):=by
 intro pins s σ H Q I ⟨G,C,ab,hw⟩;refine RK (dvs:=[]) (ds:=[]) (E:=B9 xp X) F a7 a4 hm au ae .nil RG ax h4 he e4 pins s σ H Q I ?_;have hw:=bt.mp hw;refine⟨G,C,ab,?_⟩;cases q:bL C with
 |ok ds =>
  rw[q]at hw;intro af aL H1 aR aH;rw[Y1]
  by_cases hlen:ds.length=a8.length
  .refine⟨by rw[<- aH.length];exact hlen,aL,ds,aR.sub,(ab.ext aR).ed,aH,?_⟩;refine bX hw (λd k v b5 aY bF a5=>k v b5 aY (aR.trans bF) a5) λc z aY aa cN jE=>?_
   injection jE with jE _;have:c=cN:=(by omega);subst this;exact(z.mono aR.h).mono aa
  .have hw:cL (hS ds) _ _:=hw;rw[aw ds hlen]at hw;exact hw.elim
 |exc c=>rw[q]at hw;exact hw
 |bad=>rw[q]at hw;exact hw
end
section
variable{xp:cw}{k:Nat}{g:Den.Gt}{pg:Den.dq}{Φ:Den.dC}
def Jc(o:Den.Op)(x y:D)(c:Nat):Den.d3 o x y≠.exc c:=by
 refine Ff ?_ c;cases o<;>cases x<;>first|rfl|(cases y<;>first|rfl|exact mU rfl rfl|exact mU (mU rfl rfl) rfl)
def Qh(d:D)(c:Nat):Den.kz d≠.exc c:=by
 intro h;cases d<;>simp only[Den.kz]at h<;>first|(cases h;done)|(split at h<;>cases h)
def UZ(d:D)(c:Nat):(Den.fE d>>=λxs=>Den.sorted xs)≠.exc c:=by
 intro h;have key:∀xs:List D,Den.sorted xs≠.exc c:=λxs h=>by
  unfold Den.sorted at h
  split at h<;>cases h
 cases d with
 |tup xs=>exact key xs h
 |lst xs=>exact key xs h
 |_=>cases h
def Uv(d:D)(c:Nat):(Den.fE d>>=λxs=>Den.R.ok (Den.D.lst xs))≠.exc c:=by
 intro h;cases d<;>cases h
def Uy(d:D)(c:Nat):(Den.fE d>>=λxs=>Den.R.ok (Den.D.tup xs))≠.exc c:=by
 intro h;cases d<;>cases h
def Pk(d:D)(c:Nat):(match d with|.aT b=>Den.R.ok (Den.D.int (if b then 1 else 0))|_=>Den.R.bad)≠.exc c:=by
 intro h;cases d<;>cases h
def Vf(d:D)(c:Nat):(Den.pI d>>=λxs=>Den.kN xs)≠.exc c:=by
 intro h;cases d with
 |lst xs =>
  have h:Den.kN xs=.exc c:=h;unfold Den.kN at h
  split at h<;>cases h
 |_=>cases h
def QC(d:D)(c:Nat):(Den.pI d>>=λxs=>Den.kC xs)≠.exc c:=by
 intro h;cases d with
 |lst xs =>
  have h:Den.kC xs=.exc c:=h;unfold Den.kC at h
  split at h<;>cases h
 |_=>cases h
def fZ{x y:Str}(h:(x==y)=true):x=y:=by simpa using h
def Uc{X:aU}{ct:Den.b8}{ao:List Nat}{m:er}{p:Den.eE}{f:a0->bw D}{e:Expr}{x:Str}{q pos:Pos}(aG:dK xp k g pg Φ X ct)(aE:Den.r6 p=true)(ag:x=Den.r5 p)(ae:Den.eT g ct.sc x=true)(ax:aO X e (bp xp X ao .view f))(aB:nice e=true):
  aO X (.Call (.Name x q) [e] [] pos) (bp xp X ao .fresh λC=>f C>>=λd=>Den.jY pg.up p d):=by
 cases p with
 |len =>
  subst ag;obtain⟨J,aa⟩:=aG.blt ae (by decide);exact uT (m:=.fresh) Qh f_len J aa (by kernel_rfl) ax (by decide) (by decide) (hO aB)
 |sorted =>
  subst ag;obtain⟨J,aa⟩:=aG.blt ae (by decide);exact uT (m:=.fresh) UZ (Mv aG.calm aG.units) J aa (by kernel_rfl) ax (by decide) (by decide) (hO aB)
 |sum =>
  subst ag;obtain⟨J,aa⟩:=aG.blt ae (by decide);exact uT (m:=.fresh) Vf (Mw aG.calm) J aa (by kernel_rfl) ax (by decide) (by decide) (hO aB)
 |max =>
  subst ag;obtain⟨J,aa⟩:=aG.blt ae (by decide);exact uT (m:=.fresh) QC (Mt aG.calm) J aa (by kernel_rfl) ax (by decide) (by decide) (hO aB)
 |int =>
  subst ag;obtain⟨J,aa⟩:=aG.blt ae (by decide);have ai:(λC=>f C>>=λd=>Den.jY pg.up .int d)=λC=>f C>>=λd=>(match d with|.aT b=>Den.R.ok (Den.D.int (if b then 1 else 0))|_=>Den.R.bad):=by
   funext C;congr 1;funext d;cases d<;>rfl
  rw[ai];exact zA (m:=.fresh) Pk f_int J aa (by kernel_rfl) ax (by decide) (by decide) (hO aB)
 |inst t=>cases aE
 |gb=>cases aE
def p7{X:aU}{ct:Den.b8}(aG:dK xp k g pg Φ X ct){o:Den.hr}{op:CmpOp}(h:Den.sX o op=true):dj X (compareOp op) (gT X.K (Den.dM o)):=by
 cases o<;>cases op<;>first|(cases h;done)|skip
 .exact Jt aG.units
 .exact Jz aG.units
 .exact Jy aG.units
 .exact Jx
 .exact Jv
 .exact Ju
 .exact Jw aG.units
 .exact JA aG.units
def Tx{X:aU}{o:Den.Op}{op:Operator}(h:Den.Fp o op=true):dj X (binaryOp op) (kI X.K (Den.d3 o)):=by
 cases o<;>cases op<;>first|(cases h;done)|skip
 .exact KO
 .exact KY
 .exact KV
 .exact KQ
 .exact KU
 .exact KP
 .exact KZ
 .exact KX
def P0{op op':CmpOp}{b c:Expr}(h:nice c=true):lastMarks [op,op'] [b,c]=false:=EO h
def boot_isinstance:bootBuiltins "isinstance"=some (.builtin "isinstance"):=by kernel_rfl
def Jm(t:Den.Ty)(aW:∀c,t≠.cls c):bootBuiltins (Den.tyName t)=some (.type (qh t))/\Den.tyName t≠"__name__"/\(Den.tyName t==("__debug__":Str))=false/\Den.tyName t∈qo:=by
 cases t with
 |cls c=>exact absurd rfl (aW c)
 |int=>exact⟨by kernel_rfl,by decide,by decide,by decide⟩
 |bool=>exact⟨by kernel_rfl,by decide,by decide,by decide⟩
 |str=>exact⟨by kernel_rfl,by decide,by decide,by decide⟩
 |tuple=>exact⟨by kernel_rfl,by decide,by decide,by decide⟩
end
section
variable{xp:cw}{k:Nat}{g:Den.Gt}{pg:Den.dq}{Φ:Den.dC}
variable(xp k g pg Φ) in
structure iV (n:Nat):Prop where
 e:∀(e:Den.E)(x:Expr)(ct:Den.b8)(v:Bool)(X:aU),sizeOf e<n->dK xp k g pg Φ X ct->Den.bS g ct v e x=true->Res xp X ct.ao v (Den.i8 e) x (λC=>Den.ev pg Φ C e)
 a:∀(a:Den.A)(ah:List Expr)(ct:Den.b8)(X:aU),sizeOf a<n->dK xp k g pg Φ X ct->Den.mn g ct a ah=true->fQ X ah (m5 xp X ct.ao λC=>Den.h1 pg Φ C a)/\(∀e∈ah,nice e=true)/\∀C ds,Den.h1 pg Φ C a=.ok ds->ds.length=ah.length
 o:∀(o:Den.O)(x:Option Expr)(ct:Den.b8)(X:aU),sizeOf o<n->dK xp k g pg Φ X ct->Den.qN g ct o x=true->kc X x (qf xp X ct.ao λC=>Den.mA pg Φ C o)
 i:∀(s:Den.I)(x:Expr)(ct:Den.b8)(v:Bool)(X:aU)(dh:Expr),sizeOf s<n->dK xp k g pg Φ X ct->Den.gA g ct v s x=true->(Den.mY s=true->∃elts j p,dh=.Tuple elts j p)->gZ X dh x (jr xp X ct.ao (jV v) λC=>Den.g5 pg Φ C s)/\nice x=true
def ER(v:Bool):jV v=.view\/jV v=.val:=by cases v<;>simp[jV]
variable{n:Nat}
def IT{ct:Den.b8}{v:Bool}{X:aU}(aG:dK xp k g pg Φ X ct){i:Nat}{x:Str}{p:Pos}(h:(ct.N[i]?==some x&&Den.js ct.sc x&&Den.okN x&&(v||!ct.ao.contains i))=true):Res xp X ct.ao v (Den.i8 (.var i)) (.Name x p) (λC=>Den.ev pg Φ C (.var i)):=by
 simp only[Yg,Y3,Z5,YW]at h;obtain⟨⟨⟨J,aa⟩,aI⟩,aX⟩:=h;obtain⟨cz,c1,qS⟩:=gR aI;have aS:X.N[i]?=some x:=by rw[aG.nm];exact J
 have aV:=aG.ho aa;refine⟨?_,λz=>(by cases z),kL (GI aS aV cz c1) λ_=>rfl,λ⟨_,_,_,z⟩=>(by cases z)⟩;cases v with
 |true=>exact GI aS aV cz c1
 |false =>
  rcases aX with aX|aX
  .cases aX
  .exact Up (λz=>by rw[Za.mpr z]at aX;cases aX) aS aV cz c1
def IG(aF:iV xp k g pg Φ n){ct:Den.b8}{v:Bool}{X:aU}(aG:dK xp k g pg Φ X ct){f:Nat}{a:Den.A}(ab:sizeOf a<n){x:Str}{ah:List Expr}{p pos:Pos}(h:(g.fns[f]?==some x&&Den.pa ct.sc x&&Den.okN x&&!ah.isEmpty&&Den.mn g ct a ah)=true):
  Res xp X ct.ao v (Den.i8 (.call f a)) (.Call (.Name x p) ah [] pos) (λC=>Den.ev pg Φ C (.call f a)):=by
 simp only[Yg,Y3,YW]at h;obtain⟨⟨⟨⟨J,aa⟩,aI⟩,aX⟩,cc⟩:=h;obtain⟨cz,c1,qS⟩:=gR aI;obtain⟨bh,bE,d2⟩:=aF.a a ah ct X ab aG cc;obtain⟨bo,fd,a8,ai,av,bu,dU,jD⟩:=aG.cW.fn f x J;cases ah with
 |nil=>cases aX
 |cons e ah =>
  exact Res.pV (Tz dU aG.room (aG.CY aa) ai av bu bh jD cz (ox (bE e List.mem_cons_self)) (So λz hz=>bE z (List.mem_cons_of_mem _ hz))) (λ_=>rfl) (λ_ _ _ z=>by cases z) rfl
def IL(aF:iV xp k g pg Φ n){ct:Den.b8}{v:Bool}{X:aU}(aG:dK xp k g pg Φ X ct){t:Den.Ty}(aW:∀c,t=.cls c->False){a:Den.E}(ab:sizeOf a<n){x y:Str}{e:Expr}{p fW pos:Pos}(h:(x==("isinstance":Str)&&Den.eT g ct.sc x&&y==Den.tyName t&&Den.eT g ct.sc y&&Den.bS g ct true a e)=true):
  Res xp X ct.ao v (Den.i8 (.prim (.inst t) a)) (.Call (.Name x p) [e,.Name y fW] [] pos) (λC=>Den.ev pg Φ C (.prim (.inst t) a)):=by
 simp only[Yg]at h;obtain⟨⟨⟨⟨J,aa⟩,aI⟩,aX⟩,cc⟩:=h;have J:=fZ J;have aI:=fZ aI;subst J aI;have kx:∀c,t≠.cls c:=λc z=>aW c z
 obtain⟨b1,b2,eL,hX⟩:=Jm t kx;obtain⟨g1,g2⟩:=aG.blt aa (by decide);obtain⟨g3,i9⟩:=aG.blt aX hX;have r:=aF.e a e ct true X ab aG cc;have dW:∀m,aO X (.Call (.Name "isinstance" p) [e,.Name (Den.tyName t) fW] [] pos) (bp xp X ct.ao m λC=>Den.ev pg Φ C (.prim (.inst t) a)):=λm =>
  TY (up:=pg.up) kx g1 g2 boot_isinstance g3 i9 b1 r.view (by decide) (by decide) b2 eL (ox (e8 cc))
 exact Res.kF dW (kL (dW _) λ_=>rfl) λ_ _ _ z=>by cases z
def IM(aF:iV xp k g pg Φ n){ct:Den.b8}{v:Bool}{X:aU}(aG:dK xp k g pg Φ X ct){c:Nat}{a:Den.E}(ab:sizeOf a<n){x t:Str}{e:Expr}{p fW pos:Pos}(J:(x==("isinstance":Str))=true)(aa:Den.eT g ct.sc x=true)(cc:Den.bS g ct true a e=true):
  Res xp X ct.ao v (Den.i8 (.prim (.inst (.cls c)) a)) (.Call (.Name x p) [e,.Name t fW] [] pos) (λC=>Den.ev pg Φ C (.prim (.inst (.cls c)) a)):=by
 have J:=fZ J;subst J;obtain⟨g1,g2⟩:=aG.blt aa (by decide);have r:=aF.e a e ct true X ab aG cc;have dW:∀m,aO X (.Call (.Name "isinstance" p) [e,.Name t fW] [] pos) (bp xp X ct.ao m λC=>Den.ev pg Φ C (.prim (.inst (.cls c)) a)):=λm =>
  TZ (up:=pg.up) (c:=c) g1 g2 boot_isinstance r.view (by decide) (by decide) (ox (e8 cc))
 exact Res.kF dW (kL (dW _) λ_=>rfl) λ_ _ _ z=>by cases z
def BC{ct:Den.b8}{v:Bool}{a:Den.E}{x:Expr}(h:Den.gA g ct v (.eP a) x=true):∃m p y pos,x=.Call (.Name m p) [y] [] pos/\m="range"/\Den.eT g ct.sc m=true/\Den.bS g ct true a y=true:=by
 rw[Den.gA]at h
 split at h
 .rename_i m y ai;obtain⟨p,pos,rfl⟩:=kS ai;simp only[Yg]at h;exact⟨m,p,y,pos,rfl,fZ h.1.1,h.1.2,h.2⟩
 .cases h
def IQ(aF:iV xp k g pg Φ n){ct:Den.b8}{v:Bool}{X:aU}(aG:dK xp k g pg Φ X ct){s:Den.I}(ab:sizeOf s<=n){x:Str}{e:Expr}{p pos:Pos}(h:(x==("tuple":Str)&&Den.eT g ct.sc x&&Den.uX s&&Den.gA g ct true s e)=true):
  aO X (.Call (.Name x p) [e] [] pos) (bp xp X ct.ao .val λC=>Den.ev pg Φ C (.tupI s)):=by
 simp only[Yg]at h;obtain⟨⟨⟨J,aa⟩,aI⟩,aX⟩:=h;have J:=fZ J;subst J;obtain⟨g1,g2⟩:=aG.blt aa (by decide);cases s with
 |seq a =>
  rw[Den.gA]at aX;have r:=aF.e a e ct true X (by simp at ab;omega) aG aX;have ai:(λC=>Den.ev pg Φ C (.tupI (.seq a)))=λC=>Den.ev pg Φ C a>>=λd=>Den.fE d>>=λds=>.ok (.tup ds):=funext λC=>by
   rw[Den.Cp,Den.xt];cases Den.ev pg Φ C a<;>rfl
  rw[ai];exact zA (m:=.val) Uy My g1 g2 (by kernel_rfl) r.view (by decide) (by decide) (hO (e8 aX))
 |eP a =>
  obtain⟨m,aP,y,a9,rfl,aZ,aQ,br⟩:=BC aX;obtain⟨g3,i9⟩:=aG.blt aQ (by rw[aZ];decide);have r:=aF.e a y ct true X (by simp at ab;omega) aG br;exact Uo aG.calm aZ rfl g3 i9 g1 g2 r.view (hO (e8 br))
 |_=>cases aI
def IP(aF:iV xp k g pg Φ n){ct:Den.b8}{v:Bool}{X:aU}(aG:dK xp k g pg Φ X ct){s:Den.I}(ab:sizeOf s<=n){x:Str}{e:Expr}{p pos:Pos}(h:(x==("list":Str)&&Den.eT g ct.sc x&&Den.uX s&&Den.gA g ct true s e)=true):
  aO X (.Call (.Name x p) [e] [] pos) (bp xp X ct.ao .fresh λC=>Den.ev pg Φ C (.mP s)):=by
 simp only[Yg]at h;obtain⟨⟨⟨J,aa⟩,aI⟩,aX⟩:=h;have J:=fZ J;subst J;obtain⟨g1,g2⟩:=aG.blt aa (by decide);cases s with
 |seq a =>
  rw[Den.gA]at aX;have r:=aF.e a e ct true X (by simp at ab;omega) aG aX;have ai:(λC=>Den.ev pg Φ C (.mP (.seq a)))=λC=>Den.ev pg Φ C a>>=λd=>Den.fE d>>=λds=>.ok (.lst ds):=funext λC=>by
   rw[Den.Cn,Den.xt];cases Den.ev pg Φ C a<;>rfl
  rw[ai];exact zA (m:=.fresh) Uv f_list g1 g2 (by kernel_rfl) r.view (by decide) (by decide) (hO (e8 aX))
 |eP a =>
  obtain⟨m,aP,y,a9,rfl,aZ,aQ,br⟩:=BC aX;obtain⟨g3,i9⟩:=aG.blt aQ (by rw[aZ];decide);have r:=aF.e a y ct true X (by simp at ab;omega) aG br;exact T5 aG.calm aZ rfl g3 i9 g1 g2 r.view (hO (e8 br))
 |_=>cases aI
def A3(aF:iV xp k g pg Φ n){ct:Den.b8}{X:aU}(aG:dK xp k g pg Φ X ct){e:Den.E}{j:Nat}{s:Den.I}{c:Den.O}(ab:sizeOf e<n/\sizeOf s<n/\sizeOf c<n){x t it:Expr}{ifs:List Expr}{sc:Scope}{pos:Pos}{xs:List Str}(au:Den.fs j t=some xs)(h:((!Den.mY s||j==2)&&Den.qK ct sc xs&&Den.gA g ct true s it&&Den.bS g ⟨Den.mask ct.N xs++xs,sc,ct.ao⟩ false e x&&Den.nE g ⟨Den.mask ct.N xs++xs,sc,ct.ao⟩ c ifs)=true):
  oI X sc xs (Den.mask ct.N xs++xs)/\(∀z,foldedSetIterable it X.env z=pure z)/\gZ X t it (jr xp X ct.ao .view λC=>Den.g5 pg Φ C s)/\(∀s3 b6 bB pins,aO (gW X sc (Den.mask ct.N xs++xs) s3 b6 bB pins) x (bp xp (gW X sc (Den.mask ct.N xs++xs) s3 b6 bB pins) ct.ao .val λC=>Den.ev pg Φ C e)) /\
   qC xp X ct.ao sc (Den.mask ct.N xs++xs) ifs (λC=>Den.lg pg Φ C c)/\(λC=>Den.ev pg Φ C (.comp e j s c))=λC=>Den.g5 pg Φ C s>>=λds=>Den.iN (Den.cZ (i7 j (λC=>Den.lg pg Φ C c) (λC=>Den.ev pg Φ C e) C) ds)>>=λys=>.ok (.lst ys):=by
 simp only[Yg]at h;obtain⟨⟨⟨⟨h0,J⟩,tD⟩,C2⟩,h3⟩:=h;have B:=Jj J;have tT:Den.mY s=true->∃elts j p,t=.Tuple elts j p:=λaE=>by
  rw[aE]at h0;have aA:j=2:=(by simpa using h0);subst aA;cases t with
  |Tuple elts j p=>exact⟨elts,j,p,rfl⟩
  |_=>simp only[Den.fs]at au;cases au
 obtain⟨eB,e6⟩:=aF.i s it ct true X t ab.2.1 aG tD tT;refine⟨B.block aG,set_plain e6,eB,λs3 b6 bB pins=>(aF.e e x _ false _ ab.1 (B.ok aG s3 b6 bB pins) C2).dW,?_,rfl⟩;cases c with
 |none =>
  cases ifs with
  |nil=>exact .inl ⟨rfl,rfl⟩
  |cons _ _=>unfold Den.nE at h3;cases h3
 |some av =>
  match ifs,h3 with
  |[],h3=>unfold Den.nE at h3;cases h3
  |[bF],h3 =>
   refine .inr ⟨bF,λC=>Den.ev pg Φ C av,rfl,rfl,λs3 b6 bB pins=>?_⟩;have h3:Den.bS g ⟨Den.mask ct.N xs++xs,sc,ct.ao⟩ true av bF=true:=(by unfold Den.nE at h3;exact h3);exact(aF.e av bF _ true _ (by have:=ab.2.2;simp at this;omega) (B.ok aG s3 b6 bB pins) h3).pt
  |_::_::_,h3=>unfold Den.nE at h3;cases h3
end
section
variable{xp:cw}{k:Nat}{g:Den.Gt}{pg:Den.dq}{Φ:Den.dC}{n:Nat}
def Ei{ah:List Expr}(h:ah.length<=1000):ah.length<=sizeLine:=by rw[sizeLine_eq];omega
def WO{ct:Den.b8}{x:Str}{t:Den.Ty}{a y e:Expr}(h:Den.vp g ct x t a y=some e):a=e/\∃m p,y=.Name m p/\(x==("isinstance":Str))=true/\Den.eT g ct.sc x=true/\((∀c,t≠.cls c)->(m==Den.tyName t&&Den.eT g ct.sc m)=true):=by
 unfold Den.vp at h
 split at h
 .rename_i m av;obtain⟨p,rfl⟩:=hn av
  split at h
  .rename_i aj;cases h;rw[Yg,Yg]at aj;exact⟨rfl,m,p,rfl,aj.1.1,aj.1.2,λaW=>by cases t<;>first|exact aj.2|exact(aW _ rfl).elim⟩
  .cases h
 .cases h
def WQ{ct:Den.b8}{x:Str}{a e:Expr}(h:Den.vq g ct x a=some e):∃y p q,a=.Call (.Name y p) [e] [] q/\(x==("sorted":Str))=true/\Den.eT g ct.sc x=true/\(y==("set":Str))=true/\Den.eT g ct.sc y=true:=by
 unfold Den.vq at h
 split at h
 .rename_i y b av;obtain⟨py,bh,rfl⟩:=kS av
  split at h
  .rename_i aj;cases h;simp only[Yg]at aj;exact⟨y,py,bh,rfl,aj.1.1.1,aj.1.1.2,aj.1.2,aj.2⟩
  .cases h
 .cases h
def sy{ct:Den.b8}{x:Str}{q:Den.eE}{ah:List Expr}{e:Expr}(h:(match ah with|[e]=>if Den.r6 q&&x==Den.r5 q&&Den.eT g ct.sc x then some e else none|_=>none)=some e):ah=[e]/\Den.r6 q=true/\(x==Den.r5 q)=true/\Den.eT g ct.sc x=true:=by
 match ah,h with
 |[a],h =>
  simp only at h
  split at h
  .rename_i aj;cases h;simp only[Yg]at aj;exact⟨rfl,aj.1.1,aj.1.2,aj.2⟩
  .cases h
def IS(aF:iV xp k g pg Φ n){ct:Den.b8}{v:Bool}{X:aU}(aG:dK xp k g pg Φ X ct){pr:Den.eE}{a:Den.E}(ab:sizeOf a<n){x:Str}{ah:List Expr}{e:Expr}{p pos:Pos}(aV:Den.HS g ct x pr ah=some e)(h:Den.bS g ct true a e=true):
  Res xp X ct.ao v (Den.i8 (.prim pr a)) (.Call (.Name x p) ah [] pos) (λC=>Den.ev pg Φ C (.prim pr a)):=by
 have one:∀{q:Den.eE},ah=[e]/\Den.r6 q=true/\(x==Den.r5 q)=true/\Den.eT g ct.sc x=true->Res xp X ct.ao v (Den.i8 (.prim q a)) (.Call (.Name x p) ah [] pos) (λC=>Den.ev pg Φ C (.prim q a)):=λ{q} ⟨h0,J,aa,aI⟩=>by
  subst h0;have bZ:=aF.e a e ct true X ab aG h;exact Res.mX (Uc (m:=.fresh) aG J (fZ aa) aI bZ.view (e8 h)) (λ_=>rfl) (λ_ _ _ z=>by cases z)
 cases pr with
 |inst t =>
  match ah,aV with
  |[bq,y],aV =>
   have aV:Den.vp g ct x t bq y=some e:=aV;obtain⟨rfl,m,fW,rfl,J,aa,aI⟩:=WO aV
   by_cases aW:∃c,t=.cls c
   .obtain⟨c,rfl⟩:=aW;exact IM aF aG ab J aa h
   .refine IL aF aG (λc aj=>aW ⟨c,aj⟩) ab ?_;have aI:=aI λc aj=>aW ⟨c,aj⟩
    rw[Yg]at aI;simp only[Yg];exact⟨⟨⟨⟨J,aa⟩,aI.1⟩,aI.2⟩,h⟩
 |gb =>
  match ah,aV with
  |[bq],aV =>
   have aV:Den.vq g ct x bq=some e:=aV;obtain⟨y,bh,bE,rfl,J,aa,aI,aX⟩:=WQ aV;obtain⟨g1,g2⟩:=aG.blt aa (by rw[fZ J];decide);obtain⟨g3,i9⟩:=aG.blt aX (by rw[fZ aI];decide);have bZ:=aF.e a e ct true X ab aG h;exact Res.mX (Um aG.calm aG.units (fZ J) (fZ aI) g1 g2 g3 i9 bZ.view (hO (e8 h))) (λ_=>rfl) (λ_ _ _ z=>by cases z)
 |len=>exact one (sy aV)
 |sorted=>exact one (sy aV)
 |sum=>exact one (sy aV)
 |max=>exact one (sy aV)
 |int=>exact one (sy aV)
def Ak{z:Expr}{n k:Str}(h:Den.sx z=some (n,k)):∃bh bE pos,z=.Subscript (.Name n bh) (.Name k bE) pos:=by
 unfold Den.sx at h
 split at h
 .rename_i x y ai;obtain⟨pos,rfl⟩:=Am ai
  split at h
  .rename_i cG dz av bu;cases h;obtain⟨bh,rfl⟩:=hn av;obtain⟨bE,rfl⟩:=hn bu;exact⟨bh,bE,pos,rfl⟩
  .cases h
 .cases h
def WD{z:Expr}{n k:Str}(h:Den.Ai z=some (n,k)):∃bh bE pos,z=.Dict [some (.Name n bh)] [.Name k bE] pos:=by
 unfold Den.Ai at h
 split at h
 .cases h;exact⟨_,_,_,rfl⟩
 .cases h
def yF{z:Expr}(h:Den.t8 z=true):∃lP,z=.Dict [] [] lP:=by
 unfold Den.t8 at h
 split at h
 .exact⟨_,rfl⟩
 .cases h
def rV{ct:Den.b8}{i:Nat}{n:Str}(h:Den.oe ct i n=true):ct.N[i]?=some n/\Den.js ct.sc n=true/\Den.okN n=true/\i∈ct.ao:=by
 unfold Den.oe at h;simp only[Yg,Y3]at h;exact⟨h.1.1.1,h.1.1.2,h.1.2,Za.mp h.2⟩
def pW{ct:Den.b8}{i:Nat}{n:Str}(h:Den.mZ ct i n=true):ct.N[i]?=some n/\Den.js ct.sc n=true/\Den.okN n=true/\i∉ct.ao:=by
 unfold Den.mZ at h;simp only[Yg,Y3,YW]at h;exact⟨h.1.1.1,h.1.1.2,h.1.2,λz=>by rw[Za.mpr z]at h;cases h.2⟩
def vY{ct:Den.b8}{i:Nat}{n:Str}(h:Den.qE ct i n=true):ct.N[i]?=some n/\Den.js ct.sc n=true/\Den.okN n=true:=by
 unfold Den.qE at h;simp only[Yg,Y3]at h;exact⟨h.1.1,h.1.2,h.2⟩
def HD{x o:Expr}{n:Str}{p:Pos}(h:Den.Ad x=some (o,n,p)):x=.Attribute o n p:=by
 cases x with
 |Attribute o n p=>cases h;rfl
 |_=>exact nn h
def WJ{z:Expr}{x n:Str}(h:Den.Al z=some (x,n)):∃bh bE pos,z=.Call (.Name x bh) [.Name n bE] [] pos:=by
 unfold Den.Al at h
 split at h
 .rename_i jt e ai;obtain⟨bh,pos,rfl⟩:=kS ai
  split at h
  .rename_i cG av;cases h;obtain⟨bE,rfl⟩:=hn av;exact⟨bh,bE,pos,rfl⟩
  .cases h
 .cases h
def HB{z y:Expr}{x n:Str}{ap:Pos}(h:Den.vk z=some (x,n,ap,y)):∃p ef,z=.Call (.Attribute (.Name x p) n ap) [y] [] ef:=by
 unfold Den.vk at h
 split at h
 .rename_i f oE ai;obtain⟨ef,rfl⟩:=Af ai
  split at h
  .rename_i o cG IB av;obtain rfl:=HD av
   split at h
   .rename_i jt bu;obtain⟨p,rfl⟩:=hn bu;cases h;exact⟨p,ef,rfl⟩
   .cases h
  .cases h
 .cases h
def U8(aF:iV xp k g pg Φ n)(e:Den.E)(x:Expr)(ct:Den.b8)(v:Bool)(X:aU)(ab:sizeOf e<n+1)(aG:dK xp k g pg Φ X ct)(h:Den.bS g ct v e x=true):Res xp X ct.ao v (Den.i8 e) x (λC=>Den.ev pg Φ C e):=by
 cases e with
 |var i =>
  rw[Den.bS]at h
  split at h
  .rename_i y ai;obtain⟨p,rfl⟩:=hn ai;exact IT aG h
  .cases h
 |lit d =>
  rw[Den.bS]at h
  split at h
  .rename_i c ai;obtain⟨ei,p,rfl⟩:=Ah ai;exact Res.kF (λm=>GD h) (kL (GD h) λ_=>rfl) λ_ _ _ z=>by cases z
  .cases h
 |tup a =>
  rw[Den.bS]at h
  split at h
  .rename_i ah ai;obtain⟨j,p,rfl⟩:=WK ai;simp only[Yg,YD]at h;obtain⟨bh,bE,d2⟩:=aF.a a ah ct X (by simp at ab;omega) aG h.1;exact Res.pV (Un bh λC ds q=>by rw[d2 C ds q];exact Ei h.2) (λ_=>rfl) (λ_ _ _ z=>by cases z) rfl
  .cases h
 |lst a =>
  rw[Den.bS]at h
  split at h
  .rename_i ah ai;obtain⟨p,rfl⟩:=WH ai;simp only[Yg,YD]at h;obtain⟨bh,bE,d2⟩:=aF.a a ah ct X (by simp at ab;omega) aG h.1;exact Res.mX (T4 bh λC ds q=>by rw[d2 C ds q];exact Ei h.2) (λ_=>rfl) (λ_ _ _ z=>by cases z)
  .cases h
 |bin op a b =>
  rw[Den.bS]at h
  split at h
  .rename_i x o y ai;obtain⟨p,rfl⟩:=HE ai;simp only[Yg]at h;have bZ:=aF.e a x ct true X (by simp at ab;omega) aG h.1.2;have c3:=aF.e b y ct true X (by simp at ab;omega) aG h.2;exact Res.mX (Tw (Jc op) (Tx h.1.1) bZ.view c3.view) (λ_=>rfl) (λ_ _ _ z=>by cases z)
  .cases h
 |not a =>
  rw[Den.bS]at h
  split at h
  .rename_i x ai;obtain⟨p,rfl⟩:=HM ai;have bZ:=aF.e a x ct true X (by simp at ab;omega) aG h;exact Res.kF (λm=>T9 bZ.view) (Ua bZ.pt) λ_ _ _ z=>by cases z
  .cases h
 |cmp op a b =>
  rw[Den.bS]at h
  split at h
  .rename_i x o y ai;obtain⟨p,rfl⟩:=HF ai;simp only[Yg]at h;have bZ:=aF.e a x ct true X (by simp at ab;omega) aG h.1.2;have c3:=aF.e b y ct true X (by simp at ab;omega) aG h.2;have hm:=EO (op:=o) (e8 h.2);exact Res.kF (λm=>TA (p7 aG h.1.1) bZ.view c3.view hm) (TF (p7 aG h.1.1) bZ.view c3.view hm) λ_ _ _ z=>by cases z
  .cases h
 |qP op op' a b c =>
  rw[Den.bS]at h
  split at h
  .rename_i x o bH y z ai;obtain⟨p,rfl⟩:=HF ai;simp only[Yg]at h;obtain⟨⟨⟨⟨J,aa⟩,aI⟩,aX⟩,cc⟩:=h;have bZ:=aF.e a x ct true X (by simp at ab;omega) aG aI;have c3:=aF.e b y ct true X (by simp at ab;omega) aG aX;have rc:=aF.e c z ct true X (by simp at ab;omega) aG cc;have hm:=P0 (op:=o) (op':=bH) (b:=y) (e8 cc);exact Res.kF (λm=>TB (p7 aG J) (p7 aG aa) bZ.view c3.view rc.view hm) (TC (p7 aG J) (p7 aG aa) bZ.view c3.view rc.view hm) λ_ _ _ z=>by cases z
  .cases h
 |and a b =>
  rw[Den.bS]at h
  split at h
  .rename_i x y p ai;obtain rfl:=vl ai;simp only[Yg]at h;have bZ:=aF.e a x ct true X (by simp at ab;omega) aG h.1;have c3:=aF.e b y ct v X (by simp at ab;omega) aG h.2;have fp:=Gz (pos:=p) bZ.pt (SI c3.pt);exact⟨Gy bZ.view (FE c3.dW),λz=>(by cases z),fp.pt,λ_=>fp⟩
  .rename_i x y z r p ai;obtain rfl:=vl ai;simp only[Yg]at h;have bZ:=aF.e a x ct true X (by simp at ab;omega) aG h.1;have c3:=aF.e b _ ct v X (by simp at ab;omega) aG h.2;have fp:=Gz (pos:=p) bZ.pt (c3.fp ⟨_,_,_,rfl⟩);exact⟨Gy bZ.view c3.dW,λz=>(by cases z),fp.pt,λ_=>fp⟩
  .cases h
 |or a b =>
  rw[Den.bS]at h
  split at h
  .rename_i x y p ai;obtain rfl:=vl ai;simp only[Yg]at h;have bZ:=aF.e a x ct true X (by simp at ab;omega) aG h.1;have c3:=aF.e b y ct v X (by simp at ab;omega) aG h.2;have fp:=GH (pos:=p) bZ.pt (SK c3.pt);exact⟨GG bZ.view (FE c3.dW),λz=>(by cases z),fp.pt,λ_=>fp⟩
  .rename_i x y z r p ai;obtain rfl:=vl ai;simp only[Yg]at h;have bZ:=aF.e a x ct true X (by simp at ab;omega) aG h.1;have c3:=aF.e b _ ct v X (by simp at ab;omega) aG h.2;have fp:=GH (pos:=p) bZ.pt (c3.fp ⟨_,_,_,rfl⟩);exact⟨GG bZ.view c3.dW,λz=>(by cases z),fp.pt,λ_=>fp⟩
  .cases h
 |idx a b =>
  rw[Den.bS]at h
  split at h
  .rename_i x y ai;obtain⟨p,rfl⟩:=Am ai;simp only[Yg]at h;have bZ:=aF.e a x ct true X (by simp at ab;omega) aG h.1;have c3:=aF.e b y ct true X (by simp at ab;omega) aG h.2;exact Res.pV (TV bZ.view c3.view (PA (e8 h.2))) (λ_=>rfl) (λ_ _ _ z=>by cases z) rfl
  .cases h
 |slice a lo hi =>
  rw[Den.bS]at h
  split at h
  .rename_i x y ai;obtain⟨p,rfl⟩:=Am ai
   split at h
   .rename_i l u av;obtain⟨fW,rfl⟩:=WI av;simp only[Yg]at h;have bZ:=aF.e a x ct true X (by simp at ab;omega) aG h.1.1;have se:=aF.o lo l ct X (by simp at ab;omega) aG h.1.2;have S7:=aF.o hi u ct X (by simp at ab;omega) aG h.2;exact Res.mX (Uk bZ.view se S7) (λ_=>rfl) (λ_ _ _ z=>by cases z)
   .cases h
  .cases h
 |call f a =>
  rw[Den.bS]at h
  split at h
  .rename_i x ah ai;obtain⟨p,q,rfl⟩:=kS ai;exact IG aF aG (by simp at ab;omega) h
  .cases h
 |prim pr a =>
  rw[Den.bS]at h
  split at h
  .rename_i x ah ai;obtain⟨p,q,rfl⟩:=kS ai
   split at h
   .rename_i e av;exact IS aF aG (by simp at ab;omega) av h
   .cases h
  .cases h
 |hC i j =>
  rw[Den.bS]at h
  split at h
  .rename_i cG dz ai;obtain⟨bh,bE,pos,rfl⟩:=Ak ai;rw[Yg]at h;obtain⟨a1,a2,a3⟩:=vY h.1;obtain⟨b1,b2,eL,hX⟩:=pW h.2;obtain⟨cz,c1,_⟩:=gR a3;obtain⟨f1,f2,_⟩:=gR eL;have aE:∀m,aO X (.Subscript (.Name cG bh) (.Name dz bE) pos) (bp xp X ct.ao m λC=>Den.kh C[i]? C[j]?):=λm=>TH aG.units hX (by rw[aG.nm];exact a1) (aG.ho a2) cz c1 (by rw[aG.nm];exact b1) (aG.ho b2) f1 f2
   exact Res.kF aE (kL (aE .view) λ_=>rfl) λ_ _ _ z=>by cases z
  .cases h
 |o2 i =>
  rw[Den.bS]at h
  split at h
  .rename_i x cG ai;obtain⟨bh,bE,pos,rfl⟩:=WJ ai;simp only[Yg]at h;obtain⟨⟨J,aa⟩,aI⟩:=h;obtain⟨g1,g2⟩:=aG.blt aa (by rw[fZ J];decide);obtain⟨a1,a2,a3,gy⟩:=rV aI;obtain⟨cz,c1,_⟩:=gR a3;exact Res.mX (TP aG.calm aG.units (fZ J) g1 g2 gy (by rw[aG.nm];exact a1) (aG.ho a2) cz c1) (λ_=>rfl) (λ_ _ _ z=>by cases z)
  .cases h
 |min2 a b =>
  rw[Den.bS]at h
  split at h
  .rename_i x y w ai;obtain⟨p,q,rfl⟩:=kS ai;simp only[Yg]at h;obtain⟨⟨⟨J,aa⟩,aI⟩,aX⟩:=h;obtain⟨g1,g2⟩:=aG.blt aa (by rw[fZ J];decide);have bZ:=aF.e a y ct true X (by simp at ab;omega) aG aI;have c3:=aF.e b w ct true X (by simp at ab;omega) aG aX;have aE:∀m,aO X (.Call (.Name x p) [y,w] [] q) (bp xp X ct.ao m λC=>Den.ev pg Φ C (.min2 a b)):=λm=>T6 aG.calm (fZ J) g1 g2 bZ.view c3.view (Hc (e8 aI) (e8 aX)) (hO (e8 aX))
   exact Res.kF aE (kL (aE .view) λ_=>rfl) λ_ _ _ z=>by cases z
  .cases h
 |lI i j =>
  rw[Den.bS]at h
  split at h
  .rename_i x cG ap y ai;obtain⟨bh,ef,rfl⟩:=HB ai
   split at h
   .rename_i dz av;obtain⟨bE,rfl⟩:=hn av;simp only[Yg]at h;obtain⟨⟨⟨J,aa⟩,aI⟩,aX⟩:=h;obtain⟨a1,a2,a3⟩:=vY aI;obtain⟨b1,b2,eL⟩:=vY aX;obtain⟨cz,c1,_⟩:=gR a3;obtain⟨f1,f2,_⟩:=gR eL;have aE:∀m,aO X (.Call (.Attribute (.Name x bh) cG ap) [.Name dz bE] [] ef) (bp xp X ct.ao m λC=>Den.pG C[i]? C[j]?):=λm=>T3 aG.units (fZ J) aa (by rw[aG.nm];exact a1) (aG.ho a2) cz c1 (by rw[aG.nm];exact b1) (aG.ho b2) f1 f2
    exact Res.kF aE (kL (aE .view) λ_=>rfl) λ_ _ _ z=>by cases z
   .cases h
  .cases h
 |oY i j =>
  rw[Den.bS]at h
  split at h
  .rename_i cG dz ai;obtain⟨bh,bE,pos,rfl⟩:=WD ai;rw[Yg]at h;obtain⟨a1,a2,a3,gy⟩:=pW h.1;obtain⟨b1,b2,eL,hX⟩:=pW h.2;obtain⟨cz,c1,_⟩:=gR a3;obtain⟨f1,f2,_⟩:=gR eL;exact Res.pV (TK gy hX (by rw[aG.nm];exact a1) (aG.ho a2) cz c1 (by rw[aG.nm];exact b1) (aG.ho b2) f1 f2) (λ_=>rfl) (λ_ _ _ z=>by cases z) rfl
  .cases h
 |oZ =>
  rw[Den.bS]at h;obtain⟨lP,rfl⟩:=yF h;exact Res.pV TN (λ_=>rfl) (λ_ _ _ z=>by cases z) rfl
 |neg a =>
  rw[Den.bS]at h
  split at h
  .rename_i x ai;obtain⟨p,rfl⟩:=HM ai;have bZ:=aF.e a x ct true X (by simp at ab;omega) aG h;exact Res.kF (λm=>GF bZ.view) (kL (GF bZ.view) λ_=>rfl) λ_ _ _ z=>by cases z
  .cases h
 |ite c a b =>
  rw[Den.bS]at h
  split at h
  .rename_i x y w ai;obtain⟨p,rfl⟩:=WG ai;simp only[Yg]at h;have rc:=aF.e c x ct true X (by simp at ab;omega) aG h.1.1;have bZ:=aF.e a y ct false X (by simp at ab;omega) aG h.1.2;have c3:=aF.e b w ct false X (by simp at ab;omega) aG h.2;refine⟨?_,λz=>(by cases z),T2 rc.pt bZ.pt c3.pt,λ⟨_,_,_,z⟩=>(by cases z)⟩;cases v with
   |true=>exact GC rc.pt bZ.view c3.view
   |false=>exact GC rc.pt bZ.val c3.val
  .cases h
 |tupI s =>
  rw[Den.bS]at h
  split at h
  .rename_i x e ai;obtain⟨p,q,rfl⟩:=kS ai;exact Res.pV (IQ (v:=v) aF aG (by simp at ab;omega) h) (λ_=>rfl) (λ_ _ _ z=>by cases z) rfl
  .cases h
 |mP s =>
  rw[Den.bS]at h
  split at h
  .rename_i x e ai;obtain⟨p,q,rfl⟩:=kS ai;exact Res.mX (IP (v:=v) aF aG (by simp at ab;omega) h) (λ_=>rfl) (λ_ _ _ z=>by cases z)
  .cases h
 |comp e j s c =>
  rw[Den.bS]at h
  split at h
  .rename_i x t it ifs sc ai;obtain⟨p,rfl⟩:=HH ai
   split at h
   .rename_i xs au;obtain⟨B,eB,e6,jR,rC,yx⟩:=A3 (pos:=p) aF aG (by simp at ab;omega) au h;rw[yx];exact Res.mX (zB aG.calm (by rw[aG.nm];exact aG.ao) B au eB e6 jR rC) (λ_=>rfl) (λ_ _ _ z=>by cases z)
   .cases h
  .cases h
def U6(aF:iV xp k g pg Φ n)(a:Den.A)(ah:List Expr)(ct:Den.b8)(X:aU)(ab:sizeOf a<n+1)(aG:dK xp k g pg Φ X ct)(h:Den.mn g ct a ah=true):fQ X ah (m5 xp X ct.ao λC=>Den.h1 pg Φ C a)/\(∀e∈ah,nice e=true)/\∀C ds,Den.h1 pg Φ C a=.ok ds->ds.length=ah.length:=by
 unfold Den.mn at h
 split at h
 .exact⟨T7,by simp,λC ds q=>by rw[Den.Ci]at q;cases q;rfl⟩
 .rename_i e a x xs;simp only[Yg]at h;have re:=aF.e e x ct false X (by simp at ab;omega) aG h.1;obtain⟨bh,bE,d2⟩:=aF.a a xs ct X (by simp at ab;omega) aG h.2;refine⟨TG re.val bh (ox (e8 h.1)),λz hz=>?_,λC ds q=>?_⟩
  .rcases Yk.mp hz with rfl|hz
   .exact e8 h.1
   .exact bE z hz
  .rw[Den.Cg]at q;cases aP:Den.ev pg Φ C e with
   |ok d =>
    rw[aP]at q;simp only[Den.R.lO]at q;cases a9:Den.h1 pg Φ C a with
    |ok K8=>rw[a9]at q;cases q;simp[d2 C K8 a9]
    |exc c=>rw[a9]at q;cases q
    |bad=>rw[a9]at q;cases q
   |exc c=>rw[aP]at q;cases q
   |bad=>rw[aP]at q;cases q
 .cases h
def U9(aF:iV xp k g pg Φ n)(o:Den.O)(x:Option Expr)(ct:Den.b8)(X:aU)(ab:sizeOf o<n+1)(aG:dK xp k g pg Φ X ct)(h:Den.qN g ct o x=true):kc X x (qf xp X ct.ao λC=>Den.mA pg Φ C o):=by
 unfold Den.qN at h
 split at h
 .exact T8
 .rename_i e x;exact Ub (aF.e e x ct true X (by simp at ab;omega) aG h).view
 .cases h
def stepI(aF:iV xp k g pg Φ n)(s:Den.I)(x:Expr)(ct:Den.b8)(v:Bool)(X:aU)(dh:Expr)(ab:sizeOf s<n+1)(aG:dK xp k g pg Φ X ct)(h:Den.gA g ct v s x=true)(aE:Den.mY s=true->∃elts j p,dh=.Tuple elts j p):
  gZ X dh x (jr xp X ct.ao (jV v) λC=>Den.g5 pg Φ C s)/\nice x=true:=by
 cases s with
 |seq e =>
  rw[Den.gA]at h;exact⟨T1 (ER v) (aF.e e x ct v X (by simp at ab;omega) aG h).dW,e8 h⟩
 |eP a =>
  rw[Den.gA]at h
  split at h
  .rename_i x y ai;obtain⟨SM,p,rfl⟩:=kS ai;simp only[Yg]at h;obtain⟨⟨J,aa⟩,aI⟩:=h;obtain⟨g1,g2⟩:=aG.blt aa (by rw[fZ J];decide);have bZ:=aF.e a y ct true X (by simp at ab;omega) aG aI;exact⟨Uh (fZ J) g1 g2 bZ.view (hO (e8 aI)),rfl⟩
  .cases h
 |p6 a b =>
  rw[Den.gA]at h
  split at h
  .rename_i x y z ai;obtain⟨SM,p,rfl⟩:=kS ai;simp only[Yg]at h;obtain⟨⟨⟨J,aa⟩,aI⟩,aX⟩:=h;obtain⟨g1,g2⟩:=aG.blt aa (by rw[fZ J];decide);have bZ:=aF.e a y ct true X (by simp at ab;omega) aG aI;have c3:=aF.e b z ct true X (by simp at ab;omega) aG aX;exact⟨Ui (fZ J) g1 g2 bZ.view c3.view (Hc (e8 aI) (e8 aX)) (hO (e8 aX)),rfl⟩
  .cases h
 |mv i =>
  rw[Den.gA]at h
  split at h
  .rename_i cG ai;obtain⟨p,rfl⟩:=hn ai;obtain⟨a1,a2,a3,gy⟩:=pW h;obtain⟨cz,c1,_⟩:=gR a3;exact⟨TU (ER v) gy (by rw[aG.nm];exact a1) (aG.ho a2) cz c1,rfl⟩
  .cases h
theorem mh:∀n,iV xp k g pg Φ n
 |0=>⟨λ_ _ _ _ _ h=>by omega,λ_ _ _ _ h=>by omega,λ_ _ _ _ h=>by omega,λ_ _ _ _ _ _ h=>by omega⟩
 |n+1=>⟨U8 (mh n),U6 (mh n),U9 (mh n),stepI (mh n)⟩
def oi{e:Den.E}{x:Expr}{ct:Den.b8}{v:Bool}{X:aU}(aG:dK xp k g pg Φ X ct)(h:Den.bS g ct v e x=true):Res xp X ct.ao v (Den.i8 e) x (λC=>Den.ev pg Φ C e):=(mh (sizeOf e+1)).e e x ct v X (ZX _) aG h
end
def qd{x:Stmt}{ts:List Expr}{y:Expr}(h:Den.m6 x=some (ts,y)):∃p,x=.Assign ts y p:=by
 cases x with
 |Assign a b p=>cases h;exact⟨p,rfl⟩
 |_=>exact nn h
def Vr{x:Stmt}{y:Expr}(h:Den.Hk x=some y):∃p,x=.Expr y p:=by
 cases x with
 |Expr a p=>cases h;exact⟨p,rfl⟩
 |_=>exact nn h
def z1{x:Stmt}{y:Option Expr}(h:Den.qg x=some y):∃p,x=.Return y p:=by
 cases x with
 |Return a p=>cases h;exact⟨p,rfl⟩
 |_=>exact nn h
def Vu{x:Stmt}{t:Expr}{a b:List Stmt}(h:Den.u9 x=some (t,a,b)):∃p,x=.If t a b p:=by
 cases x with
 |If t a b p=>cases h;exact⟨p,rfl⟩
 |_=>exact nn h
def Vs{x:Stmt}{t it:Expr}{a b:List Stmt}(h:Den.u7 x=some (t,it,a,b)):∃p,x=.For t it a b p:=by
 cases x with
 |For t it a b p=>cases h;exact⟨p,rfl⟩
 |_=>exact nn h
structure nq(xp:cw)(g:Den.Gt)(pg:Den.dq)(X:aU)(ct:Den.b8):Prop where
 zT:X.stack=X.env::X.outer/\X.env.frame=some X.env.locals
 loc:∀x,Den.iK ct.sc x=true->Loc X.env.scope x
 fn:∀x,X.fn x=true
 pass:PassesOwn (model X.prog X.w) X.A X.env X.cA
section
variable{xp:cw}{k:Nat}{g:Den.Gt}{pg:Den.dq}{Φ:Den.dC}
def JM{ct:Den.b8}{v:Bool}{e:Den.E}{x:Expr}{h2:List Comprehension}{sc:Scope}{pos:Pos}(h:Den.bS g ct v e (.ListComp x h2 sc pos)=true):∃bq j s c t it ifs xs,e=.comp bq j s c/\h2=[⟨t,it,ifs,0⟩]/\Den.fs j t=some xs /\
  ((!Den.mY s||j==2)&&Den.qK ct sc xs&&Den.gA g ct true s it&&Den.bS g ⟨Den.mask ct.N xs++xs,sc,ct.ao⟩ false bq x&&Den.nE g ⟨Den.mask ct.N xs++xs,sc,ct.ao⟩ c ifs)=true:=by
 cases e with
 |comp bq j s c =>
  rw[Den.bS]at h
  split at h
  .rename_i jt t it ifs X8 ai;obtain⟨p,av⟩:=HH ai;cases av
   split at h
   .rename_i xs au;exact⟨bq,j,s,c,t,it,ifs,xs,rfl,rfl,au,h⟩
   .cases h
  .cases h
 |_=>exact(Y6 h).elim
def J3(x:Expr):(∃y h2 sc pos,x=.ListComp y h2 sc pos)\/Den.rZ x=true:=by
 cases x<;>first|exact .inr rfl|exact .inl ⟨_,_,_,_,rfl⟩
def IE {ct : Den.b8} {X : aU} (aG : dK xp k g pg Φ X ct) (pn : ∀ x, Den.iK ct.sc x = true -> Loc X.env.scope x) (nV : ∀ x, X.fn x = true) {i : Nat} {e : Den.E} {x : Str} {y : Expr} {p pos : Pos} (h : (ct.N[i]? == some x && Den.iK ct.sc x && Den.okN x && (!ct.ao.contains i || Den.i8 e) && Den.bS g ct false e y) = true) :
    eu X (.Assign [.Name x p] y pos) (en xp X ct.ao fun C => Den.ex pg Φ C (.asg i e)) := by
  simp only [Yg, Y3, Z5, YW] at h
  obtain ⟨⟨⟨⟨J, aa⟩, aI⟩, aX⟩, cc⟩ := h
  have aS : X.N.Nodup := by rw [aG.nm]; exact aG.ej
  have hi : X.N[i]? = some x := by rw [aG.nm]; exact J
  have ag := pn x aa
  have hf : X.fn x = true \/ X.env.scope.names.lookup x = some .local := .inl (nV x)
  rcases J3 y with ⟨z, h2, sc, pos', rfl⟩ | aj
  · obtain ⟨bq, j, s, c, t, it, ifs, xs, rfl, rfl, au, cF⟩ := JM cc
    obtain ⟨B, eB, e6, jR, rC, yx⟩ := A3 (pos := pos') (mh (xp := xp) (k := k) (pg := pg) (Φ := Φ) (sizeOf (Den.E.comp bq j s c))) aG (by simp only [Den.E.comp.sizeOf_spec]; omega) au cF
    have ai : (fun C => Den.ex pg Φ C (.asg i (.comp bq j s c))) = fun C => (Den.g5 pg Φ C s >>= fun ds => Den.iN (Den.cZ (i7 j (fun C => Den.lg pg Φ C c) (fun C => Den.ev pg Φ C bq) C) ds) >>= fun ys => .ok (.lst ys)) >>= fun d => .ok (.cg (C.set i (some d))) := by
      funext C
      have := congrFun yx C
      rw [Den.Cs]
      rw [this]
    rw [ai]
    exact Tv aG.calm (by rw [aG.nm]; exact aG.ao) B au eB e6 jR rC aS hi ag hf
  · have r := oi aG cc
    have je := zW (t := some (.Name x p)) (n := pos.line) (env := X.env) (e8 cc) aj
    by_cases hm : i ∈ ct.ao
    · have NR : Den.i8 e = true := by
        rcases aX with aX | aX
        · rw [Za.mpr hm] at aX; cases aX
        · exact aX
      exact GB hm aS hi ag (r.fresh NR) je hf
    · exact GA hm aS hi ag r.val je hf
def IF{ct:Den.b8}{X:aU}(aG:dK xp k g pg Φ X ct)(pn:∀x,Den.iK ct.sc x=true->Loc X.env.scope x)(nV:∀x,X.fn x=true){i:Nat}{e:Den.E}{st:Stmt}(h:Den.w2 g ct i e st=true):
  eu X st (en xp X ct.ao λC=>Den.ex pg Φ C (.asg i e)):=by
 unfold Den.w2 at h
 split at h
 .rename_i t y ai;obtain⟨pos,rfl⟩:=qd ai
  split at h
  .rename_i x av;obtain⟨p,rfl⟩:=hn av;exact IE aG pn nV h
  .cases h
 .cases h
def A4{ct:Den.b8}{i:Nat}{e:Den.E}{nm:Str}{st:Stmt}(h:Den.sW g ct i e nm st=true):∃x n ap y bh ef hg,st=.Expr (.Call (.Attribute (.Name x bh) n ap) [y] [] ef) hg/\(ap.endLine==ef.line)=true/\ct.N[i]?=some x/\Den.js ct.sc x=true/\Den.okN x=true/\i∈ct.ao/\n=nm/\Den.bS g ct false e y=true:=by
 unfold Den.sW at h
 split at h
 .rename_i c ai;obtain⟨pos,rfl⟩:=Vr ai
  split at h
  .rename_i x n ap y av;obtain⟨bh,ef,rfl⟩:=HB av;simp only[Yg,Y3]at h;obtain⟨⟨⟨⟨⟨⟨h0,J⟩,aa⟩,aI⟩,aX⟩,cc⟩,fk⟩:=h;have h0:ap.endLine=ef.line:=h0;exact⟨x,n,ap,y,bh,ef,pos,rfl,by simpa using h0,J,aa,aI,Za.mp aX,cc,fk⟩
  .cases h
 .cases h
theorem BB{ct:Den.b8}:∀{ts:List Nat}{xs:List Str},Den.oW ct ts xs=true->ts.length=xs.length/\(∀t∈ts,t∉ct.ao)/\∀(j i:Nat) y,ts[j]?=some i->xs[j]?=some y->ct.N[i]?=some y/\Den.iK ct.sc y=true
 |[],[],_=>⟨rfl,by simp,λj i y e=>by simp at e⟩
 |[],_::_,h=>by unfold Den.oW at h;cases h
 |_::_,[],h=>by unfold Den.oW at h;cases h
 |t::ts,x::xs,h=>by
  unfold Den.oW at h;simp only[Yg,Y3,YW]at h;obtain⟨⟨⟨⟨J,aa⟩,aI⟩,aX⟩,cc⟩:=h;obtain⟨aH,a5,dR⟩:=BB cc;refine⟨by simp[aH],λz hz=>?_,λj i y ai av=>?_⟩
  .rcases Yk.mp hz with rfl|hz
   .intro w;rw[Za.mpr w]at aX;cases aX
   .exact a5 z hz
  .cases j with
   |zero=>simp at ai av;subst ai av;exact⟨J,aa⟩
   |succ j=>exact dR j i y (by simpa using ai) (by simpa using av)
variable(xp k g pg Φ) in
structure fH (n:Nat):Prop where
 s:∀(s:Den.S)(st:Stmt)(ct:Den.b8)(X:aU),sizeOf s<n->dK xp k g pg Φ X ct->nq xp g pg X ct->Den.mr g ct s st=true->eu X st (en xp X ct.ao λC=>Den.ex pg Φ C s)
 b:∀(b:Den.B)(st:List Stmt)(ct:Den.b8)(X:aU),sizeOf b<n->dK xp k g pg Φ X ct->nq xp g pg X ct->Den.kd g ct b st=true->hx X st (en xp X ct.ao λC=>Den.e3 pg Φ C b)
variable{n:Nat}
def II{ct:Den.b8}{X:aU}(aG:dK xp k g pg Φ X ct)(a6:nq xp g pg X ct){i:Nat}{st:Stmt}(h:Den.oV ct i st=true):eu X st (en xp X ct.ao λC=>Den.ex pg Φ C (.mw i)):=by
 unfold Den.oV at h
 split at h
 .rename_i t y ai;obtain⟨pos,rfl⟩:=qd ai
  split at h
  .rename_i x av;obtain⟨bh,rfl⟩:=hn av;simp only[Yg,Y3]at h;obtain⟨⟨⟨⟨J,aa⟩,aI⟩,aX⟩,cc⟩:=h;obtain⟨lP,rfl⟩:=yF cc;exact TL (Za.mp aX) (by rw[aG.nm];exact aG.ej) (by rw[aG.nm];exact J) (a6.loc x aa) (.inl (a6.fn x))
  .cases h
 .cases h
def IJ{ct:Den.b8}{X:aU}(aG:dK xp k g pg Φ X ct)(a6:nq xp g pg X ct){i:Nat}{st:Stmt}(h:Den.oV ct i st=true):eu X st (en xp X ct.ao λC=>Den.ex pg Φ C (.nM i)):=by
 unfold Den.oV at h
 split at h
 .rename_i t y ai;obtain⟨pos,rfl⟩:=qd ai
  split at h
  .rename_i x av;obtain⟨bh,rfl⟩:=hn av;simp only[Yg,Y3]at h;obtain⟨⟨⟨⟨J,aa⟩,aI⟩,aX⟩,cc⟩:=h;obtain⟨lP,rfl⟩:=yF cc;exact TM (Za.mp aX) (by rw[aG.nm];exact aG.ej) (by rw[aG.nm];exact J) (a6.loc x aa) (.inl (a6.fn x))
  .cases h
 .cases h
def IK{ct:Den.b8}{X:aU}(aG:dK xp k g pg Φ X ct){i j:Nat}{e:Den.E}{st:Stmt}(h:Den.w4 g ct i j e st=true):eu X st (en xp X ct.ao λC=>Den.ex pg Φ C (.jC i j e)):=by
 unfold Den.w4 at h
 split at h
 .rename_i t v ai;obtain⟨pos,rfl⟩:=qd ai
  split at h
  .rename_i x y av;obtain⟨bh,bE,d2,rfl⟩:=Ak av;simp only[Yg]at h;obtain⟨⟨⟨J,aa⟩,aI⟩,aX⟩:=h;obtain⟨a1,a2,a3,gy⟩:=rV J;obtain⟨b1,b2,eL,hX⟩:=pW aa;obtain⟨cz,c1,_⟩:=gR a3;obtain⟨f1,f2,_⟩:=gR eL;exact TO aG.units gy hX (by rw[aG.nm];exact a1) (aG.ho a2) cz c1 (by rw[aG.nm];exact b1) (aG.ho b2) f1 f2 (oi aG aX).val (zW (e8 aX) aI)
  .cases h
 .cases h
def WE{z:Expr}{x y:Str}{ap:Pos}(h:Den.Aj z=some (x,y,ap)):∃bh bE c d2 ef,z=.Call (.Attribute (.Name x bh) "get" ap) [.Name y bE,.Constant (.int 0) c d2] [] ef:=by
 unfold Den.Aj at h
 split at h
 .rename_i f k o ai;obtain⟨ef,rfl⟩:=Af ai
  split at h
  .rename_i d n IB av;obtain rfl:=HD av
   split at h
   .rename_i jt oE cQ bu dU jD
    split at h
    .rename_i i6;cases h;simp only[Yg]at i6;obtain⟨bh,rfl⟩:=hn bu;obtain⟨bE,rfl⟩:=hn dU;obtain⟨c,d2,rfl⟩:=Ah jD;obtain rfl:=fZ i6.1;obtain rfl:cQ=0:=(by simpa using i6.2);exact⟨bh,bE,c,d2,ef,rfl⟩
    .cases h
   .cases h
  .cases h
 .cases h
def IH{ct:Den.b8}{X:aU}(aG:dK xp k g pg Φ X ct){i j:Nat}{st:Stmt}(h:Den.w3 ct i j st=true):eu X st (en xp X ct.ao λC=>Den.ex pg Φ C (.k6 i j)):=by
 unfold Den.w3 at h
 split at h
 .rename_i t v ai;obtain⟨pos,rfl⟩:=qd ai
  split at h
  .rename_i x y av;obtain⟨bh,bE,d2,rfl⟩:=Ak av
   split at h
   .rename_i c one bu;obtain⟨dg,rfl⟩:=HE bu
    split at h
    .rename_i jt oE ap n dU jD;simp only[Yg,Y3]at h;obtain⟨⟨⟨⟨⟨J,aa⟩,aI⟩,aX⟩,cc⟩,fk⟩:=h;subst J;subst aa;subst aI;obtain⟨iO,aP,Bo,a9,ef,rfl⟩:=WE dU;obtain⟨dk,b4,rfl⟩:=Ah jD;obtain⟨a1,a2,a3,gy⟩:=rV aX;obtain⟨b1,b2,eL,hX⟩:=pW cc;obtain⟨cz,c1,_⟩:=gR a3;obtain⟨f1,f2,_⟩:=gR eL;have fk:ap.endLine=ef.line:=fk;exact TJ aG.units gy hX (by rw[aG.nm];exact a1) (aG.ho a2) cz c1 (by rw[aG.nm];exact b1) (aG.ho b2) f1 f2 (by simpa using fk)
    .cases h
   .cases h
  .cases h
 .cases h
def JK{ct:Den.b8}{b:Den.B}{j1:List Stmt}(h:Den.w5 g ct b j1=true):∃q e x p y pos,b=.cons (.asg q e) .nil/\j1=[.Assign [.Name x p] y pos]/\ct.N[q]?=some x/\Den.iK ct.sc x=true/\q∉ct.ao/\Den.rZ y=true/\Den.bS g ct false e y=true:=by
 unfold Den.w5 at h
 split at h
 .rename_i q e st ai av;have ae:b=.cons (.asg q e) .nil:=by
   unfold Den.HC at ai
   split at ai
   .cases ai;rfl
   .cases ai
  have cJ:j1=[st]:=by
   unfold Den.v1 at av
   split at av
   .cases av;rfl
   .cases av
  split at h
  .rename_i t y bu;obtain⟨pos,rfl⟩:=qd bu
   split at h
   .rename_i x dU;obtain⟨p,rfl⟩:=hn dU;simp only[Yg,Y3,YW]at h;obtain⟨⟨⟨⟨⟨J,aa⟩,aI⟩,aX⟩,cc⟩,fk⟩:=h;exact⟨q,e,x,p,y,pos,ae,cJ,J,aa,(λz=>by rw[Za.mpr z]at aX;cases aX),cc,fk⟩
   .cases h
  .cases h
 .cases h
def Va(aF:fH xp k g pg Φ n)(s:Den.S)(st:Stmt)(ct:Den.b8)(X:aU)(ab:sizeOf s<n+1)(aG:dK xp k g pg Φ X ct)(a6:nq xp g pg X ct)(h:Den.mr g ct s st=true):eu X st (en xp X ct.ao λC=>Den.ex pg Φ C s):=by
 cases s with
 |asg i e=>exact IF aG a6.loc a6.fn h
 |app i e =>
  obtain⟨x,n,ap,y,bh,ef,hg,rfl,J,aa,aI,aX,cc,fk,g8⟩:=A4 (nm:="append") h;obtain⟨cz,c1,qS⟩:=gR aX;exact Tu cc fk (by rw[aG.nm];exact aa) (aG.ho aI) cz c1 J (oi aG g8).val (hO (e8 g8))
 |ret e =>
  rw[Den.mr]at h
  split at h
  .rename_i y ai;obtain⟨pos,rfl⟩:=z1 ai;exact Ud (oi aG h).val
  .cases h
 |p5 i =>
  rw[Den.mr]at h
  split at h
  .rename_i y ai;obtain⟨pos,rfl⟩:=z1 ai
   split at h
   .rename_i x av;obtain⟨bh,rfl⟩:=hn av;obtain⟨a1,a2,a3,gy⟩:=rV h;obtain⟨cz,c1,_⟩:=gR a3;exact Ug gy (by rw[aG.nm];exact a1) (aG.ho a2) cz c1
   .cases h
  .cases h
 |p4 i =>
  rw[Den.mr]at h
  split at h
  .rename_i y ai;obtain⟨pos,rfl⟩:=z1 ai
   split at h
   .rename_i x av;obtain⟨bh,rfl⟩:=hn av;obtain⟨a1,a2,a3,gy⟩:=rV h;obtain⟨cz,c1,_⟩:=gR a3;exact Ue gy (by rw[aG.nm];exact a1) (aG.ho a2) cz c1
   .cases h
  .cases h
 |mw i=>exact II aG a6 h
 |nM i=>exact IJ aG a6 h
 |jC i j e=>exact IK aG h
 |k6 i j=>exact IH aG h
 |ext i e =>
  obtain⟨x,n,ap,y,bh,ef,hg,rfl,J,aa,aI,aX,cc,fk,g8⟩:=A4 (nm:="extend") h;obtain⟨cz,c1,qS⟩:=gR aX;exact TQ cc fk (by rw[aG.nm];exact aa) (aG.ho aI) cz c1 J (oi aG g8).val (hO (e8 g8))
 |iff c a b =>
  rw[Den.mr]at h
  split at h
  .rename_i t x y ai;obtain⟨pos,rfl⟩:=Vu ai;simp only[Yg]at h;have bZ:=aF.b a x ct X (by simp at ab;omega) aG a6 h.1.2;have c3:=aF.b b y ct X (by simp at ab;omega) aG a6 h.2;exact TX (oi aG h.1.1).pt bZ c3
  .cases h
 |fx j ts s b =>
  rw[Den.mr]at h
  split at h
  .rename_i t it x ai;obtain⟨pos,rfl⟩:=Vs ai
   split at h
   .rename_i xs au;simp only[Yg]at h;obtain⟨⟨⟨h0,J⟩,_⟩,C4⟩:=h;rw[Z5,Yg,Yg]at C4;obtain⟨dk,bA,c5⟩:=BB J;have aS:X.N.Nodup:=(by rw[aG.nm];exact aG.ej);have tT:Den.mY s=true->∃elts j p,t=.Tuple elts j p:=λaE=>by
     rw[aE]at h0;have aA:j=2:=(by simpa using h0);subst aA;cases t with
     |Tuple elts j p=>exact⟨elts,j,p,rfl⟩
     |_=>simp only[Den.fs]at au;cases au
    have a4:=FI aG.calm aS au dk λj i y ai av=>by
     obtain⟨cX,cC⟩:=c5 j i y ai av;exact⟨by rw[aG.nm];exact cX,a6.loc y cC,.inl (a6.fn y)⟩
    rcases C4 with⟨aI,aX⟩|⟨aI,aX⟩
    .obtain⟨eB,e6⟩:=(mh (xp:=xp) (k:=k) (g:=g) (pg:=pg) (Φ:=Φ) (sizeOf s+1)).i s it ct false X t (ZX _) aG aI tT;have c3:=aF.b b x ct X (by simp at ab;omega) aG a6 aX;exact TR a6.pass aG.calm bA eB a4 c3 (set_plain e6)
    .obtain⟨eB,e6⟩:=(mh (xp:=xp) (k:=k) (g:=g) (pg:=pg) (Φ:=Φ) (sizeOf s+1)).i s it ct true X t (ZX _) aG aI tT;obtain⟨q,e,y,p,z,pos',rfl,rfl,aP,a9,b4,dg,hh⟩:=JK aX;exact TS a6.pass aG.calm bA eB a4 b4 aS (by rw[aG.nm];exact aP) (a6.loc y a9) (oi aG hh).val (zW (e8 hh) dg) (.inl (a6.fn y)) (set_plain e6)
   .cases h
  .cases h
def U7(aF:fH xp k g pg Φ n)(b:Den.B)(st:List Stmt)(ct:Den.b8)(X:aU)(ab:sizeOf b<n+1)(aG:dK xp k g pg Φ X ct)(a6:nq xp g pg X ct)(h:Den.kd g ct b st=true):hx X st (en xp X ct.ao λC=>Den.e3 pg Φ C b):=by
 unfold Den.kd at h
 split at h
 .exact Ul
 .rename_i s b x xs;simp only[Yg]at h;have aH:=aF.s s x ct X (by simp at ab;omega) aG a6 h.1;have a5:=aF.b b xs ct X (by simp at ab;omega) aG a6 h.2;exact Uj aH a5
 .cases h
theorem vX:∀n,fH xp k g pg Φ n
 |0=>⟨λ_ _ _ _ h=>by omega,λ_ _ _ _ h=>by omega⟩
 |n+1=>⟨Va (vX n),U7 (vX n)⟩
def Rk{b:Den.B}{st:List Stmt}{ct:Den.b8}{X:aU}(aG:dK xp k g pg Φ X ct)(a6:nq xp g pg X ct)(h:Den.kd g ct b st=true):hx X st (en xp X ct.ao λC=>Den.e3 pg Φ C b):=(vX (sizeOf b+1)).b b st ct X (ZX _) aG a6 h
end
def Ha{fd:Den.gu}{ds:List D}{i:Nat}{d:D}(h:(Den.start fd ds)[i]?=some (some d)):ds[i]?=some d/\i<ds.length:=by
 unfold Den.start at h
 by_cases hi:i<ds.length
 .rw[YB (by simpa using hi),Yy]at h;refine⟨?_,hi⟩;cases e:ds[i]? with
  |none=>rw[e]at h;cases h
  |some a=>rw[e]at h;cases h;rfl
 .rw[YS (by simpa using hi),aaV]at h
  split at h<;>cases h
def U5{N:List Str}{af:List V}{i:Nat}{v:V}(h:af[i]?=some v):(bJ.start N af)[i]?=some (some v):=by
 have hi:=(YG.mp h).1;unfold bJ.start;rw[YB (by simpa using hi),Yy,h];rfl
def UT{K:W.Frag}{ao:List Nat}{G H:az}{fd:Den.gu}{N:List Str}{ds:List D}{af:List V}(ab:bV G H)(ed:∀b xs,H b=some (.tup xs)->G b=some (.tup xs))(r:bN K G ds af)(aB:N.length=fd.np+fd.nl)(aw:ds.length=fd.np)(hm:∀i∈ao,fd.np<=i):
  d0 K ao G H G H (Den.start fd ds) (bJ.start N af):=by
 have no:∀{i:Nat}{d:D},(Den.start fd ds)[i]?=some (some d)->i∈ao->False:=λh q=>by
  have:=(Ha h).2;have:=hm _ q;omega
 refine⟨⟨?_,ab,λi d h _=>?_,λi d h q=>(no h q).elim,λi d h q=>(no h q).elim,ed,λi j d e a b h _ _ _ q=>(no h q).elim⟩,Ext.refl ab,λi d a h _ q=>(no h q).elim⟩
 .unfold Den.start bJ.start;rw[Yj,Yj,List.length_map,List.length_map,aat,aat,<- r.length];omega
 .obtain⟨v,J,aa⟩:=r.get (Ha h).1;exact⟨v,U5 J,aa⟩
noncomputable def sE(K:W.Frag)(aK:Str->Option Value)(g:Den.Gt)(fds:List Den.gu)(f:Nat)(x:Str):Prop :=
 ∃fd N st bo lh,fds[f]?=some fd/\Den.mq g N fd st=true/\aK x=some (.ref bo)/\bJ.qq K x x st bo lh/\Binds K lh ((hB st).args.map (·.arg)) []
section
variable{P:Program}{w:World}{K:W.Frag}{aK:Str->Option Value}{base:Heap}{xp:cw}{g:Den.Gt}{pg:Den.dq}{fds:List Den.gu}
def BA{N:List Str}{fd:Den.gu}{st:Stmt}(h:Den.mq g N fd st=true):((hB st).args.map (·.arg)).length=fd.np/\vB N ((hB st).args.map (·.arg)) (hZ st)/\N.length=fd.np+fd.nl/\(∀i∈Den.kE fd.body,fd.np<=i/\i<N.length) /\
  Den.kd g ⟨N,hZ st,Den.kE fd.body⟩ fd.body (k5 st)=true:=by
 unfold Den.mq at h
 split at h
 .rename_i name args body sc bind pos;simp only[Yg,Y3,YW,YI,bne_iff_ne,ne_eq,YD]at h;obtain⟨⟨⟨⟨⟨⟨⟨⟨⟨⟨⟨⟨⟨⟨⟨J,aa⟩,aI⟩,aX⟩,cc⟩,fk⟩,_⟩,_⟩,_⟩,_⟩,_⟩,_⟩,g8⟩,dV⟩,kn⟩,tD⟩:=h;have aw:(args.args.map (·.arg)).length=fd.np:=(by rw[fk,YU];omega);refine⟨aw,⟨J,aa,aI,aX,?_,λx ag=>?_,dV⟩,cc,kn,tD⟩
  .show N.take (args.args.map (·.arg)).length=args.args.map (·.arg);rw[aw,fk]
  .have ag:x∈args.args.map (·.arg):=ag;rw[fk]at ag;have:=g8 x ag;unfold Den.iK at this;have this:sc.names.lookup x=some .local\/sc.names.lookup x=some .cell:=(by simpa using this);exact this
 .cases h
def CI(lA:∀c e l h,¬xp c e l h){n f:Nat}(T:gw P w K aK base xp n g pg (Den.run pg fds n)){x:Str}{fd:Den.gu}{N:List Str}{st:Stmt}{bo:Addr}{lh:FuncData}(e:fds[f]?=some fd)(c0:Den.mq g N fd st=true)(F:bJ.qq K x x st bo lh):
  ka P w K aK base (j9 P w xp) (n+1) bo lh ((hB st).args.map (·.arg)) (ow K (Den.run pg fds (n+1) f) ((hB st).args.map (·.arg)).length):=by
 obtain⟨aw,S,aS,h5,hG⟩:=BA c0;have OL:∀ds,Den.run pg fds (n+1) f ds=Den.dt pg (Den.run pg fds n) fd ds:=λds=>by rw[Den.sf,e]
 obtain⟨f7,bk,dn,doc,pm,an,d4,ct,fN,rfl,lk,lp⟩:=F.ex;refine MP lk lp S (λaf H Q E h=>h.1) λA outer s H af Q E a7 ⟨aV,G,ds,ab,ed,r,hw⟩=>?_
 have ks:ds.length=fd.np:=by rw[r.length,aV,aw]
 rw[OL]at hw;unfold Den.dt at hw;rw[if_pos ks]at hw;refine⟨en xp (nJ (j9 P w xp) P w K aK base N x (hZ st) bo d4 A outer s H E) (Den.kE fd.body) λC=>Den.e3 pg (Den.run pg fds n) C fd.body,?_,?_⟩
 .refine Rk (ct:=⟨N,hZ st,Den.kE fd.body⟩) (k:=n) (g:=g) (Φ:=Den.run pg fds n) ⟨T,a7,a7.units,rfl,rfl,S.ej,λi hi=>(h5 i hi).2,λx h=>h,λx h=>h,λx h=>h⟩ ⟨⟨rfl,rfl⟩,λx h=>?_,λ_=>rfl,PassesOwn.leaving⟩ hG;unfold Den.iK at h;have h:(hZ st).names.lookup x=some .local\/(hZ st).names.lookup x=some .cell:=(by simpa using h);exact h
 .refine⟨G,H,G,Den.start fd ds,UT ab ed r aS ks λi hi=>(h5 i hi).1,?_⟩;show cL (Den.e3 pg (Den.run pg fds n) (Den.start fd ds) fd.body) _ _;generalize Den.e3 pg (Den.run pg fds n) (Den.start fd ds) fd.body=gU at hw ⊢;have hR:∀c:Nat,(∀aq,bV H aq->E (.int c 0) none aq)->fI xp (nJ (j9 P w xp) P w K aK base N x (hZ st) bo d4 A outer s H E) c H:=λc ri pins σ aq s' e l I c8 nw ag=>absurd ag (lA _ _ _ _)
  cases gU with
  |bad=>exact hw.elim
  |exc c=>exact hR c hw
  |ok gK =>
   cases gK with
   |cg C=>exact λσ aN aq cK=>hw .dr aN aq cK.ext rfl
   |d7 d=>exact λv aN aq ext rep=>hw v aN aq ext rep
def Wb(lA:∀c e l h,¬xp c e l h){n:Nat}(T:gw P w K aK base xp n g pg (Den.run pg fds n))(hd:∀f x,g.fns[f]?=some x->sE K aK g fds f x):gw P w K aK base xp (n+1) g pg (Den.run pg fds (n+1)):=by
 refine⟨λf x ag=>?_,T.blt,T.rb⟩;obtain⟨fd,N,st,bo,lh,e,c0,hm,F,ae⟩:=hd f x ag;obtain⟨aw,_⟩:=BA c0;exact⟨bo,lh,_,hm,F.jj,ae,CI lA T e c0 F,λds ks=>by rw[Den.sf,e];unfold Den.dt;exact if_neg (by rw[<- aw];exact ks)⟩
theorem Hr(lA:∀c e l h,¬xp c e l h)(hd:∀f x,g.fns[f]?=some x->sE K aK g fds f x)(ae:∀x:Str,x∈qo->aK x=none)(a4:∀(j:Nat)(x:Str)(d:D),g.rb[j]?=some x->pg.cs[j]?=some d->∃v u,aK x=some u/\RelV v u/\∀G,Rep K G d v):
  ∀n,gw P w K aK base xp n g pg (Den.run pg fds n)
 |0=>⟨λf x ag=>by
   obtain⟨fd,N,st,bo,lh,e,c0,hm,F,ae⟩:=hd f x ag;exact⟨bo,lh,_,hm,F.jj,ae,⟨λaf H Q E h=>h.1,λA outer s H args us af Q E _ _ _ _ ⟨_,_,_,_,_,_,h⟩=>h.elim⟩,λ_ _=>rfl⟩,ae,a4⟩
 |n+1=>Wb lA (Hr lA hd ae a4 n) hd
end
noncomputable def oH(Q:Nat->Str->Prop):Nat->List Str->Prop
 |_,[]=>True
 |n,x::xs=>Q n x/\oH Q (n+1) xs
theorem oH.get{Q:Nat->Str->Prop}:∀{xs:List Str}{n f:Nat}{x:Str},oH Q n xs->xs[f]?=some x->Q (n+f) x
 |[],_,_,_,_,h=>by simp at h
 |y::xs,n,0,x,q,h=>by simp at h;subst h;exact q.1
 |y::xs,n,f+1,x,q,h=>by
  have:=oH.get (n:=n+1) (f:=f) q.2 (by simpa using h);rwa[Nat.add_right_comm,Nat.add_assoc]at this
def L1{us:List Value}(h:us.length=1):∃a,us=[a]:=List.length_eq_one_iff.mp h
def L2{us:List Value}(h:us.length=2):∃a b,us=[a,b]:=by
 match us,h with
 |[a,b],_=>exact⟨a,b,rfl⟩
def L3{us:List Value}(h:us.length=3):∃a b c,us=[a,b,c]:=by
 match us,h with
 |[a,b,c],_=>exact⟨a,b,c,rfl⟩
noncomputable def AllB(K:W.Frag):List Str->Prop
 |[]=>True
 |x::xs=>W.nsIn K mainGlobals x=some none/\AllB K xs
theorem AllB.get{K:W.Frag}{h:Heap}{aK:Str->Option Value}(X:K.In h)(G:h.Ns mainGlobals aK):∀{xs:List Str},AllB K xs->∀x∈xs,aK x=none
 |[],_,x,ag=>by simp at ag
 |y::ys,q,x,ag=>by
  rcases Yk.mp ag with rfl|ag
  .exact PySem.W.mg_none_of X G q.1
  .exact AllB.get X G q.2 x ag
noncomputable def sF(K:W.Frag)(x:Str)(st:Stmt):Prop :=
 ∃(f:Addr)(f7:Value)(bk:Option Addr)(dn doc pm:Value)(an:Option Addr)(d4 ct:Value)(fN:Array (Option Value)),W.nsIn K mainGlobals x=some (some (.ref f)) /\
  K.lookup f=some ⟨f7,bk,.func (W.fnOf x x (hB st) (k5 st) (hZ st) .none dn doc pm an d4 ct),fN⟩/\W.codeIn K d4 x=true/\W.keepIn K (.ref f)=true
def K0{K:W.Frag}{x:Str}{st:Stmt}{f:Addr}{f7:Value}{bk:Option Addr}{dn doc pm:Value}{an:Option Addr}{d4 ct:Value}{fN:Array (Option Value)}(a:W.nsIn K mainGlobals x=some (some (.ref f)))(l:K.lookup f=some ⟨f7,bk,.func (W.fnOf x x (hB st) (k5 st) (hZ st) .none dn doc pm an d4 ct),fN⟩)(c:W.codeIn K d4 x=true)(k:W.keepIn K (.ref f)=true):sF K x st:=⟨f,f7,bk,dn,doc,pm,an,d4,ct,fN,a,l,c,k⟩
def ea{K:W.Frag}{h:Heap}{aK:Str->Option Value}{g:Den.Gt}{fds:List Den.gu}{j:Nat}{x:Str}{st:Stmt}{fd:Den.gu}{N:List Str}(X:K.In h)(G:h.Ns mainGlobals aK)(d:sF K x st)(hf:fds[j]?=some fd)(c0:Den.mq g N fd st=true)(ae:∀(dn doc pm:Value)(an:Option Addr)(d4 ct:Value)(us:List Value),us.length=((hB st).args.map (·.arg)).length->bindArgs (W.fnOf x x (hB st) (k5 st) (hZ st) .none dn doc pm an d4 ct) ⟨us,[]⟩=pure (((hB st).args.map (·.arg)).zip us)):sE K aK g fds j x:=by
 obtain⟨f,f7,bk,dn,doc,pm,an,d4,ct,fN,a,l,c,k⟩:=d;have F:=CP l c k;exact⟨fd,N,st,f,_,hf,c0,PySem.W.mg_of X G a,F,F.binds ae⟩
theorem Gi{K:W.Frag}{G:az}:∀ns:List Int,bN K G (ns.map Den.D.int) (ns.map V.int)
 |[]=>rfl
 |n::ns=>⟨.int n,ns.map V.int,rfl,rfl,Gi ns⟩
def U1{K:W.Frag}{H:az}{a:Addr}{ns:List Int}{hS:List D->bw D}(a6:eF K H a (ns.map V.int))(aW:hS [.lst (ns.map .int)]=.ok (.aT true)):ow K hS 1 [.ref a] H (λv _=>v=.aT true) λ_ _ _=>False:=by
 refine⟨rfl,H,[.lst (ns.map .int)],bV.refl H,λ_ _ z=>z,⟨.ref a,[],rfl,⟨a,_,rfl,a6,Gi ns⟩,rfl⟩,?_⟩;rw[aW];exact λv aN aq _ r=>r
def Kd{P:Program}{w:World}{xp:cw}{outer:List Env}{H:az}{s:Shared}{e:Value}{s':Shared}:j9 P w xp outer H s (λ_ _ _=>False) e s'->False:=λ⟨_,_,_,_,_,_,_,_,_,_,h⟩=>h
noncomputable def iN:cw:=λ_ _ _ _=>False
def P9{l:PySem.W.OpenLaw}{w:World}{K:W.Frag}{h:Heap}{aK:Str->Option Value}{bo:Addr}{g:Den.Gt}{pg:Den.dq}{fds:List Den.gu}{xp:cw}{n f:Nat}{st:Stmt}{fd:Den.gu}{N:List Str}{x:Str}(X:K.In h)(G:h.Ns mainGlobals aK)(NM:aK "law"=some (.ref bo))(dl:sF K "law" st)(hf:fds[f]?=some fd)(c0:Den.mq g N fd st=true)(ag:(hB st).args.map (·.arg)=[x])(x5:∀(dn doc pm:Value)(an:Option Addr)(d4 ct:Value)(s:Shared)(u:Value),BindsTo s (W.fnOf "law" "law" (hB st) (k5 st) (hZ st) .none dn doc pm an d4 ct) ⟨[u],[]⟩ [(x,u)])(lA:∀c e l h,¬xp c e l h)(T:∀base:Heap,K.In base->base.Ns mainGlobals aK->gw l.prog w K aK base xp n g pg (Den.run pg fds n)):
  ∃fd:FuncData,(∀(s:Shared)(u:Value),BindsTo s fd ⟨[u],[]⟩ [(x,u)])/\∀base:Heap,K.In base->base.Ns mainGlobals aK->ka l.prog w K aK base (j9 l.prog w xp) (n+1) bo fd [x] (ow K (Den.run pg fds (n+1) f) 1):=by
 obtain⟨Cy,f7,bk,dn,doc,pm,an,d4,ct,fN,a,iJ,c,k⟩:=dl;have e:=NM.symm.trans (PySem.W.mg_of X G a);cases e;refine⟨_,x5 dn doc pm an d4 ct,λbase rM nb=>?_⟩;have F:=CP iJ c k;have:=CI lA (T base rM nb) (f:=f) hf c0 F;rw[ag]at this;exact this
def walk{g:Den.Gt}{l:PySem.W.OpenLaw}{q:Program}{loose:List Str}{cw:(Str->Option Value)->Heap->Prop}{mf:World->Heap->Prop}{d:DefRec}{K:Params->W.Frag}{pg:Den.dq}{fds:List Den.gu}{n f:Nat}{x:Str}(aB:l.most=some 63)(rk:d.params.defaults=[])(a7:n<=40)(aW:∀ns:List Int,Den.run pg fds n f [.lst (ns.map .int)]=.ok (.aT true))(gE:∀(w:World)(h:Heap),mf w h->(K w.params).In h)(F:∀(w:World)(aK:Str->Option Value)(bo:Addr)(h:Heap),(K w.params).In h->h.Ns mainGlobals aK->aK d.name=some (.ref bo) ->
   ∃fd:FuncData,(∀(s:Shared)(u:Value),BindsTo s fd ⟨[u],[]⟩ [(x,u)])/\∀base:Heap,(K w.params).In base->base.Ns mainGlobals aK->ka l.prog w (K w.params) aK base (j9 l.prog w iN) n bo fd [x] (ow (K w.params) (Den.run pg fds n f) 1)):
  PySem.W.WalkO q loose cw mf l.row.toRowW d [] (λf af=>PySem.call f af) :=
 bJ.WU (n:=63) (k:=n) (x:=x) (CX:=λw=>j9 l.prog w iN) (sp:=λw=>ow (K w.params) (Den.run pg fds n f) 1) aB (by decide) rk (gg.mono (⟨rfl,by decide,by decide⟩:gg 40 callerA) a7) gE F (λw H a ns _ _ a6=>U1 a6 (aW ns)) λ_ _ _ _ _ z=>Kd z
end bR
end
section
set_option Elab.async false
namespace sJ
open PySem PySem.Spec PyProof.Rows bJ bR
noncomputable def cx:List Nat:=[1,3,4,5,7,8,9,10,11,12,13,14,15,16,18,19,21,22,23,24,25,26,27,28,29,30,31,32,33,34,35,36,37,38,39]
noncomputable def st(j:Nat):Stmt:=PySem.Challenge.pw_holeyard_k21_whole_holes.main.body.getD (cx.getD j 0) (.Pass ⟨0,0,0,0⟩)
def JL:((List.range 35).all λj=>Den.mq gx.gt (gx.Fe.getD j []) (gx.fds.getD j ⟨0,0,.nil⟩) (st j))=true:=by decide +kernel
def c0(j:Nat)(h:j<35):Den.mq gx.gt (gx.Fe.getD j []) (gx.fds.getD j ⟨0,0,.nil⟩) (st j)=true:=YI.mp JL j (List.mem_range.mpr h)
structure Txt(K:W.Frag):Prop where
 ds:oH (λj x=>sF K x (st j)) 0 gx.gt.fns
 aT:AllB K qo
section
variable{K:W.Frag}{h:Heap}{aK:Str->Option Value}
theorem fns(X:K.In h)(G:h.Ns mainGlobals aK)(t:Txt K):oH (sE K aK gx.gt gx.fds) 0 gx.gt.fns:=by
 obtain⟨nK,cz,c1,qS,KG,KH,KI,KJ,KL,KN,Ke,Kf,Kg,Kh,Ki,Kj,Kk,Kl,Km,Kn,Ko,Kp,Kq,Kr,Ks,Kt,Ku,Kv,Kw,Kx,Ky,Kz,KA,KC,KD,-⟩:=t.ds;refine⟨ea X G nK rfl (c0 0 (by decide)) ?_,ea X G cz rfl (c0 1 (by decide)) ?_,ea X G c1 rfl (c0 2 (by decide)) ?_,ea X G qS rfl (c0 3 (by decide)) ?_,ea X G KG rfl (c0 4 (by decide)) ?_,ea X G KH rfl (c0 5 (by decide)) ?_,ea X G KI rfl (c0 6 (by decide)) ?_,ea X G KJ rfl (c0 7 (by decide)) ?_,ea X G KL rfl (c0 8 (by decide)) ?_,ea X G KN rfl (c0 9 (by decide)) ?_,ea X G Ke rfl (c0 10 (by decide)) ?_,ea X G Kf rfl (c0 11 (by decide)) ?_,ea X G Kg rfl (c0 12 (by decide)) ?_,ea X G Kh rfl (c0 13 (by decide)) ?_,ea X G Ki rfl (c0 14 (by decide)) ?_,ea X G Kj rfl (c0 15 (by decide)) ?_,ea X G Kk rfl (c0 16 (by decide)) ?_,ea X G Kl rfl (c0 17 (by decide)) ?_,ea X G Km rfl (c0 18 (by decide)) ?_,ea X G Kn rfl (c0 19 (by decide)) ?_,ea X G Ko rfl (c0 20 (by decide)) ?_,ea X G Kp rfl (c0 21 (by decide)) ?_,ea X G Kq rfl (c0 22 (by decide)) ?_,ea X G Kr rfl (c0 23 (by decide)) ?_,ea X G Ks rfl (c0 24 (by decide)) ?_,ea X G Kt rfl (c0 25 (by decide)) ?_,ea X G Ku rfl (c0 26 (by decide)) ?_,ea X G Kv rfl (c0 27 (by decide)) ?_,ea X G Kw rfl (c0 28 (by decide)) ?_,ea X G Kx rfl (c0 29 (by decide)) ?_,ea X G Ky rfl (c0 30 (by decide)) ?_,ea X G Kz rfl (c0 31 (by decide)) ?_,ea X G KA rfl (c0 32 (by decide)) ?_,ea X G KC rfl (c0 33 (by decide)) ?_,ea X G KD rfl (c0 34 (by decide)) ?_,trivial⟩<;>intro _ _ _ _ _ _ us aw<;>first|(obtain⟨_,rfl⟩:=L1 aw;rfl)|(obtain⟨_,_,rfl⟩:=L2 aw;rfl)|(obtain⟨_,_,_,rfl⟩:=L3 aw;rfl)
def cW{P:Program}{w:World}(X:K.In h)(G:h.Ns mainGlobals aK)(t:Txt K)(base:Heap)(rM:K.In base)(nb:base.Ns mainGlobals aK):gw P w K aK base iN 20 gx.gt gx.pg (Den.run gx.pg gx.fds 20) :=
 Hr (λ_ _ _ _ z=>z) (λf x e=>by have:=(fns X G t).get e;rwa[aal]at this) (AllB.get X G t.aT) (λj x d ai av=>by cases ai) _
end
end sJ
noncomputable def PySem.W.Fast.tw7260560079545614921:=PySem.Challenge.pw_holeyard_k21_whole_holes
theorem PySem.W.Fast.te7260560079545614921:PySem.Challenge.pw_holeyard_k21_whole_holes=PySem.W.Fast.tw7260560079545614921:=rfl
noncomputable def PySem.W.Fast.tw10231372383153104832:=()
noncomputable def PySem.W.Fast.tw10408277619159234547:=()
noncomputable def PySem.W.Fast.tw10601383485789944077:=()
noncomputable def PySem.W.Fast.tw10638946366600187680:=()
noncomputable def PySem.W.Fast.tw10993039900789254810:=()
noncomputable def PySem.W.Fast.tw11020826502828238298:=()
noncomputable def PySem.W.Fast.tw11098112075721401926:=()
noncomputable def PySem.W.Fast.tw11356254993107498244:=()
noncomputable def PySem.W.Fast.tw11461172421491945452:=()
noncomputable def PySem.W.Fast.tw11463866400802590972:=()
noncomputable def PySem.W.Fast.tw11614576455127902726:=()
noncomputable def PySem.W.Fast.tw11628047554054552154:=()
noncomputable def PySem.W.Fast.tw11869655171740045595:=()
noncomputable def PySem.W.Fast.tw11920201182548296744:=()
noncomputable def PySem.W.Fast.tw12368809382247275606:=()
noncomputable def PySem.W.Fast.tw1241960728756430067:=()
noncomputable def PySem.W.Fast.tw12524788064243901160:=()
noncomputable def PySem.W.Fast.tw127025640980203737:=()
noncomputable def PySem.W.Fast.tw12901539687345063181:=()
noncomputable def PySem.W.Fast.tw12906356642023203631:=()
noncomputable def PySem.W.Fast.tw1387168032757790587:=()
noncomputable def PySem.W.Fast.tw14345257266447263682:=()
noncomputable def PySem.W.Fast.tw14511062058187044647:=()
noncomputable def PySem.W.Fast.tw14787097665572828891:=()
noncomputable def PySem.W.Fast.tw14850656480491212209:=()
noncomputable def PySem.W.Fast.tw15161931166513324801:=()
noncomputable def PySem.W.Fast.tw15433590773619834816:=()
noncomputable def PySem.W.Fast.tw15567936669889898585:=()
noncomputable def PySem.W.Fast.tw16412850238612542416:=()
noncomputable def PySem.W.Fast.tw16738477149632388848:=()
noncomputable def PySem.W.Fast.tw1675885575746552524:=()
noncomputable def PySem.W.Fast.tw16771213472327197357:=()
noncomputable def PySem.W.Fast.tw17142759782142658933:=()
noncomputable def PySem.W.Fast.tw17180191545166672874:=()
noncomputable def PySem.W.Fast.tw17224868710022568193:=()
noncomputable def PySem.W.Fast.tw17263076799154612610:=()
noncomputable def PySem.W.Fast.tw17313453322737038795:=()
noncomputable def PySem.W.Fast.tw17379066111128870230:=()
noncomputable def PySem.W.Fast.tw17440033599331939656:=()
noncomputable def PySem.W.Fast.tw17536623569019838429:=()
noncomputable def PySem.W.Fast.tw1764387244027366176:=()
noncomputable def PySem.W.Fast.tw17672948582848151121:=()
noncomputable def PySem.W.Fast.tw17704541938713856474:=()
noncomputable def PySem.W.Fast.tw17733326039181639906:=()
noncomputable def PySem.W.Fast.tw17962063885216062325:=()
noncomputable def PySem.W.Fast.tw18077626476281046566:=()
noncomputable def PySem.W.Fast.tw1833391387794646517:=()
noncomputable def PySem.W.Fast.tw2010231061835015952:=()
noncomputable def PySem.W.Fast.tw2529437401989264653:=()
noncomputable def PySem.W.Fast.tw256297788272279567:=()
noncomputable def PySem.W.Fast.tw2702899344010217021:=()
noncomputable def PySem.W.Fast.tw2714815335647097320:=()
noncomputable def PySem.W.Fast.tw3124383268390184138:=()
noncomputable def PySem.W.Fast.tw3316389546747373632:=()
noncomputable def PySem.W.Fast.tw3387298894417934055:=()
noncomputable def PySem.W.Fast.tw3545219715774975693:=()
noncomputable def PySem.W.Fast.tw3833563535698019535:=()
noncomputable def PySem.W.Fast.tw4186264663194220893:=()
noncomputable def PySem.W.Fast.tw4643581102644041698:=()
noncomputable def PySem.W.Fast.tw4802464360845753084:=()
noncomputable def PySem.W.Fast.tw4841028932389160220:=()
noncomputable def PySem.W.Fast.tw5358661575583511452:=()
noncomputable def PySem.W.Fast.tw5437906933038185346:=()
noncomputable def PySem.W.Fast.tw5707758088101781940:=()
noncomputable def PySem.W.Fast.tw5780064009936097784:=()
noncomputable def PySem.W.Fast.tw5782570748513509694:=()
noncomputable def PySem.W.Fast.tw59441071219348042:=()
noncomputable def PySem.W.Fast.tw6015527974425669010:=()
noncomputable def PySem.W.Fast.tw6018927458630484111:=()
noncomputable def PySem.W.Fast.tw624600444257977076:=()
noncomputable def PySem.W.Fast.tw6607002518657325162:=()
noncomputable def PySem.W.Fast.tw6625773873302867750:=()
noncomputable def PySem.W.Fast.tw7115417817508485014:=()
noncomputable def PySem.W.Fast.tw7163470970663764902:=()
noncomputable def PySem.W.Fast.tw7265212847497260487:=()
noncomputable def PySem.W.Fast.tw7282868038625691285:=()
noncomputable def PySem.W.Fast.tw7738118013819573292:=()
noncomputable def PySem.W.Fast.tw8336474457436585830:=()
noncomputable def PySem.W.Fast.tw8339751281581095287:=()
noncomputable def PySem.W.Fast.tw8390274585388542502:=()
noncomputable def PySem.W.Fast.tw8431883395230810898:=()
noncomputable def PySem.W.Fast.tw8471749885799555358:=()
noncomputable def PySem.W.Fast.tw8840030051909513855:=()
noncomputable def PySem.W.Fast.tw9370318998137904457:=()
noncomputable def PySem.W.Fast.tw9663041139799345666:=()
noncomputable def PySem.W.Fast.tw9685258511220968963:=()
noncomputable def PySem.W.Fast.tw9694143806470411793:=()
noncomputable def PySem.W.Fast.tw9885582861124412827:=()
open PySem PySem.W PyProof.Rows
set_option maxRecDepth 100000 in
set_option maxHeartbeats 0 in
theorem PySem.Challenge.cw_holeyard_k21_whole_holes_holds : PySem.Challenge.rw_holeyard_k21_whole_holes.Holds := by
 w_on;o_law;k_head;(case hw=>w_witness2)
 k_fill
 refine bR.walk (g:=gx.gt) (l:=PySem.Challenge.rw_holeyard_k21_whole_holes) (pg:=gx.pg) (fds:=gx.fds) (n:=21) (f:=34) (x:="_law_script") rfl rfl (by decide) AI.VT (λw h Y=>PySem.W.kIn_of Y) ?F
 case F =>
  intro w aK bo h i0 G ro;have t:sJ.Txt (bJ.AD i0):=by
   refine⟨⟨?_,?_,?_,?_,?_,?_,?_,?_,?_,?_,?_,?_,?_,?_,?_,?_,?_,?_,?_,?_,?_,?_,?_,?_,?_,?_,?_,?_,?_,?_,?_,?_,?_,?_,?_,trivial⟩,⟨?_,?_,?_,?_,?_,?_,?_,?_,?_,?_,?_,?_,?_,trivial⟩⟩<;>dsimp only[bJ.AD]<;>first|(refine' bR.K0 ?a ?l ?c ?k;(case a=>k_is);(case l=>k_is);(case c=>k_is);(case k=>k_is))|k_is
  exact bR.P9 i0 G ro (t.ds.get (f:=34) rfl) rfl (sJ.c0 34 (by decide)) rfl (λ_ _ _ _ _ _ s u=>.of_eq rfl) (λ_ _ _ _ z=>z) (sJ.cW i0 G t)
end
