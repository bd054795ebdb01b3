import PyProof.Rows.All
import Wide.All
import OpenK.AllK
import Wide.FinOn
import Lean
import PyProof.EqAt
import PyProof.EqKinds
import PyProof.TupleCall
import PySem.Value
import PySem.Sem
import PySem.SetTable
import PyProof.TupleKey
import PyProof.SetKind
import PyProof.DictKinds
import PyProof.IsRules
import PyProof.CompMap
import PyProof.Rows.SetFrom
import PyProof.WalksMore
import PyProof.FactsAll.subtypes_4
import PyProof.FactsAll.set
import PyProof.Seq
import PyProof.Walks
import KE.KDictSum
import PyProof.CollectStr
import PyProof.ListRange
import PyProof.Rows.SortShell
import PyProof.Rows.SortRuns
import KE.KSortAsk
import KE.KSortTup
import PyProof.EnumMake
import PyProof.EnumFor
import PyProof.EnumStmt
import KE.BitLaws
import PyProof.Rows.SumAny
import PyProof.WalkInts
import PySem.Challenge.RW_holeyard_k31_whole_bare
set_option linter.all false
def YW:=@PySem.wpAny_bind
def YX:=@Bool.and_eq_true
def YY:=@PySem.wpAny_pure
def YZ:=@PySem.Heap.get?_push_of_some
def Y0.{u}:=@List.mem_cons.{u}
def Y1:=@Bool.false_eq_true
def Y2:=@Nat.le_refl
def Y3.{u}:=@List.getElem?_eq_getElem.{u}
def Y4.{u}:=@List.size_toArray.{u}
def Y5:=@PySem.Heap.lt_size
def Y6:=@Nat.mod_two_eq_zero_or_one
def Y7:=@PySem.Heap.get?_push_size
def Y8.{u}:=@Array.getElem?_eq_getElem.{u}
def Y9.{u}:=@List.mem_filter.{u}
def Za.{u}:=@List.nodup_iff_pairwise_ne.{u}
def Zb.{u}:=@List.mem_singleton.{u}
def Zc.{u}:=@List.mem_append_right.{u}
def Zd.{u}:=@List.getElem?_append_left.{u}
def Ze.{u,v}:=@List.getElem?_map.{u,v}
def Zf:=@decide_eq_true_eq
def Zg.{u}:=@List.mem_append.{u}
def Zh:=@Nat.ne_of_lt
def Zi.{u}:=@List.nodup_cons.{u}
def Zj:=@Nat.lt_of_lt_of_le
def Zk.{u}:=@if_false.{u}
def Zl.{u}:=@List.Pairwise.sublist.{u}
def Zm.{u}:=@List.getElem?_eq_some_iff.{u}
def Zn.{u}:=@List.pairwise_cons.{u}
def Zo:=@Nat.zero_le
def Zp.{u}:=@List.all_eq_true.{u}
def Zq.{u}:=@List.getElem?_eq_none.{u}
def Zr.{u}:=@List.getElem?_append_right.{u}
def Zs.{u}:=@beq_eq_false_iff_ne.{u}
def Zt.{u}:=@List.length_filter_le.{u}
def Zu.{u,v}:=@List.pairwise_map.{u,v}
def Zv.{u,v}:=@List.lookup_cons.{u,v}
def Zw.{u,v}:=@List.map_congr_left.{u,v}
def Zx.{u}:=@List.Pairwise.imp_of_mem.{u}
def Zy:=@PySem.wpAny_newObj_type
def Zz.{u}:=@Array.getElem?_toList.{u}
def ZA.{u}:=@Option.some.inj.{u}
def ZC:=@PySem.W.kia_one
def ZD.{u}:=@List.idxOf_lt_length_of_mem.{u}
def ZE:=@Nat.pow_le_pow_right
def ZF.{u}:=@Array.getElem?_eq_some_iff.{u}
def ZG:=@PyProof.Rows.wpS_bind
def ZH.{u}:=@if_true.{u}
def ZI:=@PySem.Heap.get?_update_self
def ZJ.{u}:=@List.contains_iff_mem.{u}
def ZK:=@PySem.mem_of_lookup
def ZL.{u}:=@beq_iff_eq.{u}
def ZM:=@Bool.not_eq_true'
def ZN:=@PyProof.Rows.callWith_type1
def ZO:=@PyProof.Rows.slot_tuple_getitem
def ZP.{u}:=@Option.some.injEq.{u}
def ZQ:=@of_decide_eq_true
def ZR:=@PySem.wpAny_mono
def ZS:=@Bool.false_ne_true
def ZT:=@PySem.Heap.get?_update_other
def ZU.{u}:=@Array.getElem?_setIfInBounds.{u}
def ZV:=@Nat.xor_assoc
def ZW:=@PySem.Heap.SameBut.update
def ZX:=@Nat.le_trans
def ZY:=@PySem.wpAny_truthy_bool
def ZZ.{u}:=@Array.getD_eq_getD_getElem?.{u}
def Z0:=@PySem.wpAny_setState_of
def Z1.{u}:=@List.getElem_idxOf.{u}
def Z2:=@Nat.testBit_xor
def Z3:=@PySem.wpAny_call_entry
def Z4:=@Classical.byContradiction
def Z5.{u}:=@List.filter_sublist.{u}
def Z6.{u}:=@Ne.symm.{u}
def Z7.{u}:=@List.Pairwise.imp.{u}
def Z8.{u,v}:=@congrArg.{u,v}
def Z9:=@PySem.wpAny_holding
def aaa.{u}:=@List.append_nil.{u}
def aab:=@PySem.codeAny_builtin
def aac:=@PySem.F.slot_dict_keyiterator_next
def aad.{u}:=@List.countP_eq_length_filter.{u}
def aae.{u}:=@List.mem_of_getElem?.{u}
def aaf:=@PySem.wpAny_callSpecial?_slot
def aag.{u}:=@List.cons_append.{u}
def aah:=@PySem.Around.under_plainId
def aai:=@PyProof.Rows.wpS_pure
def aaj:=@Nat.testBit_lt_two_pow
def aak.{u}:=@List.nodup_append.{u}
def aal:=@PySem.wpAny_Call_Name_kw
def aam:=@PySem.wpAny_typeNameOfWhole_keyiter
def aan.{u}:=@List.pairwise_singleton.{u}
def aao.{u}:=@List.ext_getElem?.{u}
def aap.{u}:=@List.length_set.{u}
def aaq:=@Bool.or_eq_true
def aar:=@PyProof.Rows.F.plain_set_update_loop
def aas.{u}:=@List.length_pos_of_mem.{u}
def aat.{u}:=@List.take_of_length_le.{u}
def aau:=@Nat.lt_irrefl
def aav.{u}:=@List.length_take.{u}
def aaw.{u}:=@List.length_drop.{u}
def aax:=@Nat.lt_succ_self
def aay.{u,v}:=@List.mem_flatMap.{u,v}
def aaz:=@PySem.Calls.spliced_cons
def aaA:=@Nat.xor_lt_two_pow
def aaB:=@Bool.and_false
def aaC.{u}:=@List.pairwise_iff_getElem.{u}
def aaD.{u}:=@List.drop_eq_getElem_cons.{u}
def aaE:=@PySem.wpAny_passesOwn
def aaF:=@Nat.zero_add
def aaG:=@Nat.xor_self
def aaH.{u}:=@List.append_assoc.{u}
def aaI.{u}:=@bne_self_eq_false.{u}
def aaJ.{u}:=@List.Sublist.refl.{u}
def aaK:=@Bool.not_true
def aaL:=@Nat.testBit_two_pow_self
def aaM:=@PySem.wpAny_typeNameOf_keyiter
def aaN:=@PySem.AutoSeq1.wpAny_loadPart'
def aaO:=@List.getElem?_range
def aaP.{u,v}:=@List.flatMap_append.{u,v}
def aaQ.{u}:=@List.nodup_nil.{u}
def aaR:=@PySem.F.plainAttrs_list
def aaS.{u}:=@List.eq_nil_of_length_eq_zero.{u}
def aaT:=@PySem.wpAny_typeOf
def aaU.{u,v}:=@List.map_nil.{u,v}
def aaV:=@Nat.and_mod_two_eq_one
def aaW.{u}:=@Array.getElem?_eq_none.{u}
def aaX:=@List.pairwise_lt_range
def aaY:=@PySem.F.called_set
def aaZ:=@Int.natCast_nonneg
def aa0.{u}:=@List.length_eq_one_iff.{u}
def aa1.{u}:=@List.length_replicate.{u}
def aa2.{u}:=@List.getElem?_toArray.{u}
def aa3:=@PySem.W.kitx_dict
def aa4:=@PySem.Calls.spliced_nil
def aa5.{u}:=@List.countP_congr.{u}
def aa6:=@Nat.pow_lt_pow_right
def aa7:=@Nat.le_of_lt
def aa8:=@Nat.xor_zero
def aa9:=@Nat.zero_testBit
def aba:=@Nat.zero_xor
def abb:=@PySem.wpAny_askSetting
def abc.{u}:=@List.any_eq_true.{u}
def abd.{u}:=@List.nil_sublist.{u}
def abe:=@Nat.testBit_two_pow
def abf:=@PyProof.Rows.F.entry_set_update_loop
def abg:=@PySem.F.args_tuple_add_2
def abh.{u}:=@List.length_erase_of_mem.{u}
def abi.{u,v}:=@List.countP_map.{u,v}
def abj.{u,v}:=@List.mem_filterMap.{u,v}
def abk.{u,v}:=@List.map_singleton.{u,v}
def abl.{u}:=@List.filter_append.{u}
def abm.{u}:=@List.getElem?_replicate.{u}
def abn:=@PySem.F.entry_tuple_add
def abo:=@Bool.false_and
def abp:=@PySem.F.slot_tuple_add
def abq:=@PySem.Calls.callWith_builtin
def abr:=@Bool.not_false
def abt:=@Nat.lt_trichotomy
def abu:=@Nat.xor_mod_two_eq_one
def abv:=@PySem.wpAny_storeSet_of
def abw:=@PySem.wpAny_setField
def abx:=@PySem.F.plain_list_iadd
def aby:=@PyProof.Rows.wpS_forRange
def abz:=@List.range_succ_eq_map
def abA:=@PySem.F.slot_dict_get
def abB.{u}:=@List.take_append_drop.{u}
def abC:=@PySem.builtinLookup_eq_fast
def abD:=@PyProof.Rows.callWith_builtin1
def abE:=@PySem.wpAny_forIn_list
def abF:=@Nat.testBit_zero
def abG:=@Nat.testBit_succ
def abH.{u}:=@List.countP_cons.{u}
def abI:=@PySem.putSet_of
def abJ:=@PySem.F.args_dict_keyiterator_next_1
def abK:=@Nat.max_eq_right
def abL:=@PyProof.Rows.reverseSlice'_eq
def abM:=@PyProof.Rows.wpS_modify
def abN.{u}:=@List.sublist_nil.{u}
def abO:=@PySem.plainId_quiet
def abP:=@PySem.wpAny_attempt
def abQ.{u}:=@List.getElem?_set_ne.{u}
def abR.{u}:=@List.map_id.{u}
def abS:=@Nat.eq_of_testBit_eq
def abT:=@PySem.F.entry_dict_keyiterator_next
def abU:=@Bool.and_eq_true_iff
def abV:=@Nat.and_div_two
def abW:=@PySem.wpAny_updateSeq
def abX.{u}:=@List.countP_eq_zero.{u}
def abY:=@PySem.wpAny_setEntries_of
def abZ:=@PySem.codeAny_mono
def ab0:=@PySem.tupleKind_room_in1
def ab1.{u}:=@Array.size_extract.{u}
def ab2:=@PySem.wpAny_pyIter_tuple
def ab3:=@PySem.wpAny_runValue
def ab4:=@PySem.isSubtype_type
def ab5:=@PySem.wpAny_fieldsOf
def ab6:=@PySem.Value.isInt_shape
def ab7.{u,v}:=@Sum.inl.inj.{u,v}
def ab8.{u}:=@List.any_eq_false.{u}
def ab9:=@PySem.W.kitx_list
def aca.{u}:=@Array.size_append.{u}
def acb:=@decide_true
def acd:=@PySem.Heap.SameBut.refl
def ace:=@PySem.wpAny_pyIter_list
def acf:=@PySem.wpAny_pyIter_slot
def acg:=@PySem.wpAny_dictEntries
def ach:=@Bool.and_self
def aci:=@Bool.and_true
def acj:=@PySem.noFill_tuple_add
def ack:=@Nat.le_of_not_lt
def acm:=@PySem.F.args_dict_get_3
def acn.{u}:=@List.not_mem_nil.{u}
def aco:=@PySem.wpAny_isInstance
def acp:=@decide_eq_false_iff_not
def acq:=@PySem.W.cellsFrom_some
def acr:=@PySem.concat_meets
def acs:=@PySem.F.entry_dict_get
def acu:=@Nat.lt_or_ge
def acv:=@PySem.wpAny_rule
def acw:=@PySem.wpAny_execs_nil
def acx:=@PySem.wpAny_specialOf
def acy:=@Nat.two_pow_pos
def acz:=@Nat.xor_div_two
def acA:=@Nat.testBit_and
def acB:=@PySem.typeLookup_type
def acC:=@PySem.wpAny_dictEpoch
def acD:=@Bool.xor_false
def acE:=@Nat.mod_lt
def acF:=@Nat.xor_comm
def acG:=@Nat.sub_self
def acH:=@Bool.or_true
def acI:=@Int.sub_zero
section
set_option Elab.async false
set_option linter.all false
set_option maxRecDepth 100000
namespace bM
open PySem PySem.Spec PyProof.Rows
noncomputable abbrev Key:=Sum Int Str
noncomputable def pw:Key->Value->Bool
 |.inl k,v=>Value.isInt k v
 |.inr x,v=>Value.isStrOf x v
noncomputable def Qw(w:World):Key->Int
 |.inl k=>hashInt k
 |.inr x=>hashStr w x
def lM:∀{k:Key}{v:Value},pw k v=true->(∃i t,k=Sum.inl i/\v=Value.int i t)\/(∃x t,k=Sum.inr x/\v=Value.str x t)
 |.inl i,v,h=>by
  obtain⟨t,e⟩:=ab6 (k:=i) (v:=v) h;exact .inl ⟨i,t,rfl,e⟩
 |.inr x,v,h=>by
  obtain⟨t,e⟩:=Value.isStrOf_shape (x:=x) (v:=v) h;exact .inr ⟨x,t,rfl,e⟩
def Qy(i:Int)(t:Tok):pw (.inl i) (.int i t)=true:=by simp[pw,Value.isInt]
def Qz(x:Str)(t:Tok):pw (.inr x) (.str x t)=true:=by simp[pw,Value.isStrOf]
def QC(a b:Int):decide ((Sum.inl a:Key)=Sum.inl b)=(a==b):=by
 by_cases e:a=b
 .subst e;simp
 .have h:¬(Sum.inl a:Key)=Sum.inl b:=λq=>e (ab7 q)
  rw[decide_eq_false h];exact(Zs.mpr e).symm
def QF(a b:Str):decide ((Sum.inr a:Key)=Sum.inr b)=decide (a=b):=by
 by_cases e:a=b
 .subst e;simp
 .have h:¬(Sum.inr a:Key)=Sum.inr b:=λq=>e (Sum.inr.inj q)
  rw[decide_eq_false h,decide_eq_false e]
def QD(a:Int)(b:Str):decide ((Sum.inl a:Key)=Sum.inr b)=false:=decide_eq_false (λq=>nomatch q)
def QE(a:Str)(b:Int):decide ((Sum.inr a:Key)=Sum.inl b)=false:=decide_eq_false (λq=>nomatch q)
noncomputable def g7(prog:Program)(w:World):PySem.KeyKind prog w Key where
 is:=pw
 hash:=Qw w
 inj:=λv a b aB ab=>by
  rcases lM aB with⟨i,t,rfl,rfl⟩|⟨x,t,rfl,rfl⟩
  .rcases lM ab with⟨j,u,rfl,e⟩|⟨y,u,rfl,e⟩
   .injection e with aj _;rw[aj]
   .exact nomatch e
  .rcases lM ab with⟨j,u,rfl,e⟩|⟨y,u,rfl,e⟩
   .exact nomatch e
   .injection e with aj _;rw[aj]
 byValue:=λk v h=>by
  rcases lM h with⟨i,t,rfl,rfl⟩|⟨x,t,rfl,rfl⟩<;>rfl
 pyHash:=λaN h=>by
  rcases lM aN with⟨i,t,rfl,rfl⟩|⟨x,t,rfl,rfl⟩
  .exact wpAny_pyHash_int h
  .exact wpAny_pyHash_str h
 eqBool:=λbw aN h=>by
  rcases lM bw with⟨i,t,rfl,rfl⟩|⟨x,t,rfl,rfl⟩
  .rcases lM aN with⟨j,u,rfl,rfl⟩|⟨y,u,rfl,rfl⟩
   .rw[QC]at h;exact wpAny_eqBool_int h
   .rw[QD]at h;exact SeqAt.EqAt.int_str i t y u _ _ _ _ h
  .rcases lM aN with⟨j,u,rfl,rfl⟩|⟨y,u,rfl,rfl⟩
   .rw[QE]at h;exact SeqAt.EqAt.str_int x t j u _ _ _ _ h
   .rw[QF]at h;exact wpAny_eqBool_str h
 «strs»:=λk x t v h=>by
  rcases lM h with⟨i,u,rfl,e⟩|⟨y,u,rfl,e⟩
  .exact nomatch e
  .injection e with aj _;subst aj;cases v<;>rfl
def Rz(prog:Program)(w:World)(i:Int)(t:Tok):(g7 prog w).is (.inl i) (.int i t)=true:=Qy i t
def RA(prog:Program)(w:World)(x:Str)(t:Tok):(g7 prog w).is (.inr x) (.str x t)=true:=Qz x t
end bM
namespace bM
open PySem PySem.Spec PyProof.Rows
inductive V where
 |dp|aO (b:Bool)|int (i:Int)|str (x:Str)|xG (b:Array UInt8)|iO (b:UInt64)|ref (a:Addr)|ty (n:String)
 deriving DecidableEq
noncomputable def RelV:V->Value->Prop
 |.dp,u=>u=Value.none
 |.aO b,u=>u=Value.bool b
 |.int i,u=>∃t,u=Value.int i t
 |.str x,u=>∃t,u=Value.str x t
 |.xG b,u=>∃t,u=Value.bytes b t
 |.iO b,u=>∃t,u=Value.float b t
 |.ref a,u=>u=Value.ref a
 |.ty n,u=>u=Value.type n
noncomputable abbrev Vals:List V->List Value->Prop:=Paired RelV
theorem Vals.length{xs:List V}{us:List Value}(r:Vals xs us):xs.length=us.length:=Paired.length r
theorem Vals.get:∀{xs:List V}{us:List Value}{i:Nat}{x:V},Vals xs us->xs[i]?=some x->∃u,us[i]?=some u/\RelV x u
 |_,_,_,_,.nil,e=>by simp at e
 |_,_,0,_,.cons r _,e=>by simp at e;subst e;exact⟨_,rfl,r⟩
 |_,_,i+1,x,.cons _ t,e=>by
  obtain⟨u,C,J⟩:=Vals.get (i:=i) (x:=x) t (by simpa using e);exact⟨u,by simpa using C,J⟩
theorem Vals.set{x:V}{u:Value}(r:RelV x u):∀{xs:List V}{us:List Value}(i:Nat),Vals xs us->Vals (xs.set i x) (us.set i u)
 |_,_,_,.nil=>.nil
 |_,_,0,.cons _ t=>.cons r t
 |_,_,i+1,.cons q t=>.cons q (Vals.set r i t)
theorem Vals.append:∀{xs ys:List V}{us ws:List Value},Vals xs us->Vals ys ws->Vals (xs++ys) (us++ws)
 |_,_,_,_,.nil,s=>s
 |_,_,_,_,.cons r t,s=>.cons r (Vals.append t s)
theorem Vals.take:∀{xs:List V}{us:List Value}(n:Nat),Vals xs us->Vals (xs.take n) (us.take n)
 |_,_,0,_=>.nil
 |_,_,_+1,.nil=>.nil
 |_,_,n+1,.cons r t=>.cons r (Vals.take n t)
theorem Vals.drop:∀{xs:List V}{us:List Value}(n:Nat),Vals xs us->Vals (xs.drop n) (us.drop n)
 |_,_,0,r=>r
 |_,_,_+1,.nil=>.nil
 |_,_,n+1,.cons _ t=>Vals.drop n t
noncomputable def iJ:Option V->Option Value->Prop
 |some v,some u=>RelV v u
 |none,none=>True
 |_,_=>False
noncomputable def e1{κ:Type}:List (κ×V)->List (κ×Value)->Prop:=Paired λ(p:κ×V)(q:κ×Value)=>p.1=q.1/\RelV p.2 q.2
noncomputable def de:Key->V
 |.inl i=>.int i
 |.inr x=>.str x
inductive dX where
  |lst (xs:List V)
  |tup (xs:List V)
  |d0 (af:List (Key×V))|dg (af:List (List Key×V))
  |set (S:Int->Bool) (n:Nat)
  |ins (bH bf:Addr) (bA:List (Str×V))
  |own (x:Addr)
  |Bl (bA:List (Str×V))
  |met (f x:Addr)
  |fk (lo ai:Int)
  |dv (o:Obj) (u:dX)
  |oE (aS:Array Value)
  |ext (ek:Heap->Prop)
noncomputable abbrev aw:=Addr->Option dX
noncomputable def upd(H:aw)(a:Addr)(o:dX):aw:=λb=>if b=a then some o else H b
def dF{H:aw}{a:Addr}{o:dX}:upd H a o a=some o:=by unfold upd;rw[if_pos rfl]
def cT{H:aw}{a b:Addr}{o:dX}(h:b≠a):upd H a o b=H b:=by unfold upd;rw[if_neg h]
def A5{H:aw}{a:Addr}{o u:dX}:upd (upd H a o) a u=upd H a u:=by
 funext b;unfold upd;split<;>rfl
def RN{H:aw}{a b:Addr}{o u:dX}(h:H a=some o)(h':H b=some u)(d:o≠u):a≠b:=by
 intro e;subst e;rw[h]at h';exact d (ZA h')
def mV{H:aw}{a b:Addr}{o:dX}(h:H a=some o)(h':H b=none):a≠b:=by
 intro e;subst e;rw[h]at h';cases h'
section
variable(P:Program)(w:World)
noncomputable def dR(H:aw)(h:Heap)(a:Addr):dX->Prop
 |.lst xs=>xs.length<=sizeLine/\∃(its:List Value)(n:Nat),Vals xs its/\h.get? a=some { cls:=.type "list",data:=.seq its.toArray n }
 |.tup xs=>xs.length<=sizeLine/\∃its:List Value,Vals xs its/\IsTup h a its.toArray
 |.d0 af=>af.length<=sizeLine/\(a==sysModules)=false/\∃ae,e1 af ae/\h.DictOf (g7 P w) a ae
 |.dg af=>af.length<=sizeLine/\(a==sysModules)=false/\∃xs:List (List Key×Addr×Value),
   Paired (λ(p:List Key×V)(q:List Key×Addr×Value)=>p.1=q.1/\H q.2.1=some (.tup (p.1.map de))/\RelV p.2 q.2.2) af xs /\
   ∃o ah a6,h.get? a=some o/\o.ExactDict/\o.data=.dict ah a6/\ah.toList=xs.map (entryOfKey (tupleKind (g7 P w)))/\(xs.map (·.1)).Nodup
 |.set S n=>h.SetOf (intKind P w) a S n
 |.ins bH bf bA=>H bf=some (.own a)/\bA.length<=1000/\bf≠a/\h.get? a=some (PySem.W.instObj bH bf) /\
   ∃fa,h.Ns1 bf fa/\(∀f,iJ (bA.lookup f) (fa f))/\PySem.Within fa (bA.map (·.1))
 |.own _=>∃o,h.get? a=some o
 |.Bl bA=>∃fa,h.Ns1 a fa/\∀f,iJ (bA.lookup f) (fa f)
 |.fk lo ai=>∃t u v,h.get? a=some { cls:=.type "range",data:=.fields #[.int lo t,.int ai u,.int 1 v] }
 |.dv o u=>h.get? a=some o/\dR H h a u
 |.oE aS=>h.get? a=some { cls:=.none,data:=.fields aS }
 |.met f x=>h.get? a=some (PySem.W.methodObj (.ref f) (.ref x))
 |.ext ek=>ek h/\(∃o,h.get? a=some o)/\∀C J:Heap,ek C->(∀o,C.get? a=some o->J.get? a=some o)->ek J
noncomputable def en(H:aw)(h:Heap):Prop:=∀a o,H a=some o->dR P w H h a o
end
section
variable{P:Program}{w:World}{H aq:aw}{h h':Heap}{a:Addr}{o:dX}
theorem dR.lt(x:dR P w H h a o):a<h.objs.size:=by
 cases o with
 |lst xs=>obtain⟨_,_,_,_,e⟩:=x;exact Y5 e
 |tup xs=>obtain⟨_,_,_,p⟩:=x;exact p.lt
 |d0 af=>obtain⟨_,_,_,_,o,_,_,e,_⟩:=x;exact Y5 e
 |dg af=>obtain⟨_,_,_,_,o,_,_,e,_⟩:=x;exact Y5 e
 |set S n=>obtain⟨o,_,_,_,e,_⟩:=x;exact Y5 e
 |ins bH bf bA=>obtain⟨_,_,_,e,_⟩:=x;exact Y5 e
 |own y=>obtain⟨_,e⟩:=x;exact Y5 e
 |Bl bA=>obtain⟨_,⟨_,_,_,e,_⟩,_⟩:=x;exact Y5 e
 |fk lo ai=>obtain⟨_,_,_,e⟩:=x;exact Y5 e
 |dv b8 u=>obtain⟨e,_⟩:=x;exact Y5 e
 |oE aS=>exact Y5 (show h.get? a=some _ from x)
 |met f y=>exact Y5 (show h.get? a=some _ from x)
 |ext ek=>obtain⟨_,⟨_,e⟩,_⟩:=x;exact Y5 e
theorem Paired.zP{α β:Type}{F G:α->β->Prop}:∀{Fn:List α}{Fo:List β},Paired F Fn Fo->(∀a b,F a b->G a b)->Paired G Fn Fo
 |_,_,.nil,_=>.nil
 |_,_,.cons r t,f=>.cons (f _ _ r) (Paired.zP t f)
def dR.kQ(x:dR P w H h a o)(k:∀b u,(b=a\/H b=some (.own a))->h.get? b=some u->h'.get? b=some u)(av:∀b,H b=some (.own a)->aq b=some (.own a))(ay:∀b xs,H b=some (.tup xs)->aq b=some (.tup xs)):dR P w aq h' a o:=by
 induction o with
 |lst xs=>obtain⟨z,its,n,r,e⟩:=x;exact⟨z,its,n,r,k _ _ (.inl rfl) e⟩
 |tup xs=>obtain⟨z,its,r,b8,e,c⟩:=x;exact⟨z,its,r,b8,k _ _ (.inl rfl) e,c⟩
 |d0 af=>obtain⟨z,y,ae,r,b8,ah,a6,e,c⟩:=x;exact⟨z,y,ae,r,b8,ah,a6,k _ _ (.inl rfl) e,c⟩
 |dg af =>
  obtain⟨z,y,xs,r,b8,ah,a6,e,c⟩:=x;exact⟨z,y,xs,Paired.zP r λp q z=>⟨z.1,ay _ _ z.2.1,z.2.2⟩,b8,ah,a6,k _ _ (.inl rfl) e,c⟩
 |set S n=>obtain⟨b8,ah,a6,t,e,c⟩:=x;exact⟨b8,ah,a6,t,k _ _ (.inl rfl) e,c⟩
 |ins bH bf bA =>
  obtain⟨d,z,ne,e,fa,⟨ba,ah,a6,ak,c⟩,r⟩:=x;exact⟨av _ d,z,ne,k _ _ (.inl rfl) e,fa,⟨ba,ah,a6,k _ _ (.inr d) ak,c⟩,r⟩
 |own y=>obtain⟨b8,e⟩:=x;exact⟨b8,k _ _ (.inl rfl) e⟩
 |Bl bA=>obtain⟨fa,⟨ba,ah,a6,e,c⟩,r⟩:=x;exact⟨fa,⟨ba,ah,a6,k _ _ (.inl rfl) e,c⟩,r⟩
 |fk lo ai=>obtain⟨t,u,v,e⟩:=x;exact⟨t,u,v,k _ _ (.inl rfl) e⟩
 |dv b8 u aE=>obtain⟨e,q⟩:=x;exact⟨k _ _ (.inl rfl) e,aE q⟩
 |oE aS =>
  have e:h.get? a=some { cls:=.none,data:=.fields aS }:=x;show h'.get? a=some { cls:=.none,data:=.fields aS };exact k a _ (.inl rfl) e
 |met f y =>
  have e:h.get? a=some (PySem.W.methodObj (.ref f) (.ref y)):=x;show h'.get? a=some (PySem.W.methodObj (.ref f) (.ref y));exact k a _ (.inl rfl) e
 |ext ek=>obtain⟨p,⟨o,e⟩,st⟩:=x;exact⟨st _ _ p λo q=>k _ _ (.inl rfl) q,⟨o,k _ _ (.inl rfl) e⟩,st⟩
theorem en.lt(x:en P w H h)(e:H a=some o):a<h.objs.size:=(x a o e).lt
def en.fresh(x:en P w H h)(e:h.objs.size<=a):H a=none:=by
 cases q:H a with
 |none=>rfl
 |some u=>exact absurd (Zj (x.lt q) e) (aau _)
def en.kept(x:en P w H h)(k:∀b u,h.get? b=some u->h'.get? b=some u):en P w H h':=λa o e =>
 (x a o e).kQ (λb u _ q=>k b u q) (λ_ q=>q) λ_ _ q=>q
def en.laid(x:en P w H h)(k:∀b u,h.get? b=some u->h'.get? b=some u)(az:h.objs.size<=a)(new:dR P w (upd H a o) h' a o):en P w (upd H a o) h':=λb u e=>by
 have aD:=x.fresh az
 by_cases ab:b=a
 .subst ab;rw[dF]at e;cases e;exact new
 .rw[cT ab]at e;exact(x b u e).kQ (λc v _ q=>k c v q) (λc q=>by rw[cT (mV q aD)];exact q) λc xs q=>by rw[cT (mV q aD)];exact q
end
noncomputable def gW(H:aw)(a:Addr)(u:dX):Prop:=H a=some u\/∃o,H a=some (.dv o u)
def gW.ok{P:Program}{w:World}{H:aw}{h:Heap}{a:Addr}{u:dX}(r:gW H a u)(x:en P w H h):dR P w H h a u:=by
 rcases r with r|⟨o,r⟩
 .exact x a u r
 .obtain⟨_,q⟩:=x a _ r;exact q
noncomputable def qp:Option dX->Prop
 |some (.lst _)=>True
 |some (.d0 _)=>True
 |some (.dg _)=>True
 |some (.set _ _)=>True
 |some (.ins _ _ _)=>True
 |some (.ext _)=>True
 |_=>False
section
variable{P:Program}{w:World}{H:aw}{h h':Heap}{x e:Addr}{bG:dX}
def en.write (ok : en P w H h) (mu : qp (H x)) (he : e = x \/ H e = some (.own x)) (k : ∀ b u, b ≠ e -> h.get? b = some u -> h'.get? b = some u) (pb : ∃ u, h'.get? e = some u)
    (new : dR P w (upd H x bG) h' x bG) : en P w (upd H x bG) h' := fun b u q => by
  have FX : ∀ c y, H c = some (.own y) -> c ≠ x := fun c y r z => by subst z; rw [r] at mu; exact mu
  have RV : ∀ c xs, H c = some (.tup xs) -> c ≠ x := fun c xs r z => by subst z; rw [r] at mu; exact mu
  by_cases ab : b = x
  · subst ab; rw [dF] at q; cases q; exact new
  · rw [cT ab] at q
    by_cases nW : b = e
    · have dq : H b = some (.own x) := by
        rcases he with z | z
        · exact absurd (nW.trans z) ab
        · rw [nW]; exact z
      rw [q] at dq; cases dq
      obtain ⟨v, aN⟩ := pb
      exact ⟨v, by rw [nW]; exact aN⟩
    · refine (ok b u q).kQ (fun c v ag r => k c v ?_ r) (fun c r => by rw [cT (FX c b r)]; exact r) fun c xs r => by rw [cT (RV c xs r)]; exact r
      rcases ag with rfl | ag
      · exact nW
      · rintro rfl
        rcases he with z | z
        · exact FX c b ag z
        · rw [ag] at z; cases z; exact ab rfl
end
structure ff(bA ex:List Addr)(H aq:aw)(h h':Heap):Prop where
 keep:∀b o,h.get? b=some o->H b=none->b∉bA->b∉ex->h'.get? b=some o
 slot:∀b o,h.get? b=some o->H b=none->b∈bA->b∉ex->∃cp,h'.get? b=some { o with slots:=cp }
 free:∀b o,h.get? b=some o->H b=none->b∉ex->aq b=none
 there:∀b o,h.get? b=some o->b∉ex->∃bG,h'.get? b=some bG
 kV:∀b xs,H b=some (.tup xs)->aq b=some (.tup xs)
 jM:∀b o u,H b=some (.dv o u)->aq b=some (.dv o u)
 kU:∀b aS,H b=some (.oE aS)->∃more,aq b=some (.oE (aS++more))
section
variable{bA NZ ex Ye:List Addr}{H H1 aW:aw}{h C J h':Heap}{a x e:Addr}{o:dX}
def ff.any(u:ff bA ex H H1 h C){b:Addr}{b8:Obj}(q:h.get? b=some b8)(n:H b=none)(ao:b∉ex):∃cp,C.get? b=some { b8 with slots:=cp }:=by
 by_cases ab:b∈bA
 .exact u.slot b b8 q n ab ao
 .exact⟨b8.slots,u.keep b b8 q n ab ao⟩
def ff.kept(k:∀b u,h.get? b=some u->h'.get? b=some u):ff bA ex H H h h' :=
 ⟨λb b8 q _ _ _=>k b b8 q,λb b8 q _ _ _=>⟨b8.slots,k b b8 q⟩,λ_ _ _ n _=>n,λb b8 q _=>⟨b8,k b b8 q⟩,λ_ _ q=>q,λ_ _ _ q=>q,λ_ aS q=>⟨#[],by rw[q];simp⟩⟩
def ff.refl:ff bA ex H H h h:=ff.kept λ_ _ q=>q
def ff.laid(k:∀b u,h.get? b=some u->h'.get? b=some u)(az:h.objs.size<=a)(aD:H a=none):ff bA ex H (upd H a o) h h' where
 keep:=λb u q _ _ _=>k b u q
 slot:=λb u q _ _ _=>⟨u.slots,k b u q⟩
 free:=λb u q n _=>by rw[cT (Zh (Zj (Y5 q) az))];exact n
 there:=λb u q _=>⟨u,k b u q⟩
 kV:=λb xs q=>by rw[cT (mV q aD)];exact q
 jM:=λb u xs q=>by rw[cT (mV q aD)];exact q
 kU:=λb aS q=>⟨#[],by rw[cT (mV q aD),q];simp⟩
def ff.write(mu:qp (H x))(he:e=x\/H e=some (.own x))(k:∀b u,b≠e->h.get? b=some u->h'.get? b=some u)(pb:∃u,h'.get? e=some u):ff bA ex H (upd H x o) h h':=by
 have ao:∀b,H b=none->b≠x:=λb n z=>by subst z;rw[n]at mu;exact mu
 have ab:∀b,H b=none->b≠e:=λb n z=>by
  subst z;rcases he with r|r
  .exact ao b n r
  .rw[n]at r;cases r
 have hm:∀b u,H b=some u->¬qp (some u)->b≠x:=λb u q nm z=>by subst z;rw[q]at mu;exact nm mu
 refine⟨λb u q n _ _=>k b u (ab b n) q,λb u q n _ _=>⟨u.slots,k b u (ab b n) q⟩,λb u q n _=>by rw[cT (ao b n)];exact n,λb u q _=>?_,
  λb xs q=>by rw[cT (hm b _ q λz=>z)];exact q,λb u xs q=>by rw[cT (hm b _ q λz=>z)];exact q,λb aS q=>⟨#[],by rw[cT (hm b _ q λz=>z),q];simp⟩⟩
 by_cases nW:b=e
 .subst nW;exact pb
 .exact⟨u,k b u nW q⟩
end
noncomputable def vM(h:Heap)(H:aw):List Addr:=(List.range h.objs.size).filter λa=>(H a).isSome
noncomputable def lC(h:Heap)(H:aw):Heap:=PySem.W.hideAll h (vM h H)
def OU(h:Heap)(H:aw):(lC h H).objs.size=h.objs.size:=PySem.W.hideAll_size _ _
def OT{h:Heap}{H:aw}{b:Addr}{o:Obj}(e:h.get? b=some o)(n:H b=none):(lC h H).get? b=some o :=
 PySem.W.hideAll_get _ e λhm=>by
  have q:(H b).isSome=true:=(Y9.mp hm).2;rw[n]at q;simp at q
def R2{h:Heap}{H:aw}{b:Addr}{o:Obj}(e:(lC h H).get? b=some o):h.get? b=some o/\H b=none:=by
 have bp:h.get? b=some o:=PySem.W.of_hideAll (vM h H) e;refine⟨bp,?_⟩;cases q:H b with
 |none=>rfl
 |some x =>
  have hm:b∈vM h H:=Y9.mpr ⟨List.mem_range.mpr (Y5 bp),by simp[q]⟩;have z:(lC h H).get? b=none:=PySem.W.hideAll_none (vM h H) hm;rw[z]at e;cases e
noncomputable def Jq(g h:Heap)(L:Addr):List (Addr×Obj):=(List.range h.objs.size).filterMap λa=>if a=L\/(g.get? a).isSome=true then none else(h.get? a).map λo=>(a,o)
noncomputable def rest(g h:Heap)(L d:Addr):List (Addr×Obj):=(Jq g h L).filter λp=>decide (p.1≠d)
end bM
namespace bM
open PySem PySem.Spec PyProof.Rows
structure Mod(K:W.Frag)(aX:Str->Option Value)(base:Heap):Prop where
 zC:K.In base
 glob:base.Ns mainGlobals aX
 blt:∃jm,base.Ns builtinsNs jm/\∀x:Str,x≠"__name__"->jm x=bootBuiltins x
 nolimit:base.NoLimit
structure aQ where
 prog:Program
 w:World
 K:W.Frag
 aX:Str->Option Value
 base:Heap
 A:Around
 N:List Str
 fl:Shared
 qo:aw
 env:Env
 outer:List Env
 stack:List Env
 ex:List Addr
 fn:Str->Bool
 calm:Bool
 fV:List (Addr×Obj)
 cA:Value->Shared->Prop
noncomputable def iv(l:List Env):List Addr:=l.filterMap (·.frame)
noncomputable abbrev aQ.bA(X:aQ):List Addr:=iv X.outer
noncomputable def fA(sc:Scope)(x:Str):Prop:=sc.names.lookup x=some .local\/sc.names.lookup x=some .cell\/sc.names.lookup x=some .free
noncomputable def Loc(sc:Scope)(x:Str):Prop:=sc.names.lookup x=some .local\/sc.names.lookup x=some .cell
noncomputable def Look(env:Env)(h:Heap)(m:Str->Option Value)(x:Str)(u:Value):Prop :=
 (env.kindOf x=some .local/\m x=some u)\/((env.kindOf x=some .cell\/env.kindOf x=some .free)/\∃c,env.cells.lookup x=some c/\h.IsCell c (some u))
structure aQ.Ok(X:aQ):Prop where
 mod:Mod X.K X.aX X.base
 kind:X.env.scope.kind=.function
 glob:X.env.globals=mainGlobals
 blt:X.env.builtins=builtinsNs
 above:X.fl.heap.objs.size<=X.env.locals
 inj:∀x y c,X.env.cells.lookup x=some c->X.env.cells.lookup y=some c->x=y
 has:∀x,(X.env.kindOf x=some .cell\/X.env.kindOf x=some .free)->∃c,X.env.cells.lookup x=some c
 xJ:∀x c,X.fn x=true->X.env.cells.lookup x=some c->X.fl.heap.objs.size<=c
 hd:X.calm=true->X.A.handled=none
 frames:X.A.frames=some X.stack
 AN:X.stack=X.outer\/(X.stack=X.env::X.outer/\X.env.frame=some X.env.locals)
 Dg:∀b∈X.ex,b≠X.env.locals/\∀x c,X.env.cells.lookup x=some c->c≠b
 bs:∀b o,X.base.get? b=some o->X.fl.heap.get? b=some o/\X.qo b=none
 qG:X.base.objs.size<=X.fl.heap.objs.size
 uY:∀b o,X.base.get? b=some o->b∉X.ex
 tN:∀b∈X.ex,b∉X.bA
 lx:X.fl.heap.FunFrames X.base X.outer
 tU:∀b∈X.bA,X.qo b=none
structure Inv(X:aQ)(pins:List (Addr×Obj))(σ:List (Option V))(H:aw)(s:Shared):Prop where
 ok:X.Ok
 os:s.os=X.fl.os
 bare:AllBare s.gens
 base:ff X.bA X.ex X.qo H X.fl.heap s.heap
 loc:∃m,s.heap.Ns X.env.locals m/\∀(i:Nat)(x:Str)(v:V),X.N[i]?=some x->σ[i]?=some (some v)->fA X.env.scope x->∃u,RelV v u/\Look X.env s.heap m x u
 cell:∀x c,X.env.cells.lookup x=some c->∃v,s.heap.IsCell c v
 free:H X.env.locals=none
 ki:∀x c,X.env.cells.lookup x=some c->H c=none
 pin:∀p∈X.fV++pins,s.heap.get? p.1=some p.2/\H p.1=none/\p.1≠X.env.locals/\p.1∉X.bA/\∀v,p.2.data≠.cell v
 bK:en X.prog X.w H s.heap
 len:σ.length=X.N.length
section
variable{X:aQ}{pins:List (Addr×Obj)}{σ:List (Option V)}{H aq:aw}{s:Shared}{h':Heap}
def aQ.Ok.RR(ok:X.Ok){b:Addr}{o:Obj}(e:X.base.get? b=some o):b∉X.bA:=λab=>by
 have:=(ok.lx.mem ab).1;rw[e]at this;cases this
theorem Inv.bs(I:Inv X pins σ H s):∀b o,X.base.get? b=some o->s.heap.get? b=some o/\H b=none:=λb o e =>
 ⟨I.base.keep b o (I.ok.bs b o e).1 (I.ok.bs b o e).2 (I.ok.RR e) (I.ok.uY b o e),I.base.free b o (I.ok.bs b o e).1 (I.ok.bs b o e).2 (I.ok.uY b o e)⟩
def Inv.k6(I:Inv X pins σ H s):∀b o,X.base.get? b=some o->s.heap.get? b=some o:=λb o e=>(I.bs b o e).1
theorem Inv.mod(I:Inv X pins σ H s):Mod X.K X.aX X.base:=I.ok.mod
def Inv.fT(I:Inv X pins σ H s):X.K.In s.heap:=I.ok.mod.zC.keeps I.k6
theorem Inv.lt(I:Inv X pins σ H s):X.env.locals<s.heap.objs.size:=let ⟨_,aD,_⟩:=I.loc;aD.lt
def Inv.gQ(I:Inv X pins σ H s):X.fl.heap.objs.size<=s.heap.objs.size:=ZX I.ok.above (aa7 I.lt)
def Inv.RT(I:Inv X pins σ H s){a:Addr}(h:s.heap.objs.size<=a):a∉X.bA:=λab=>by
 obtain⟨_,o,av,_⟩:=I.ok.lx.mem ab;exact absurd (Zj (Y5 av) (ZX I.gQ h)) (aau _)
def Inv.nH(I:Inv X pins σ H s):∀x c,X.env.cells.lookup x=some c->c≠X.env.locals:=λx c e z=>by
 obtain⟨v,o,av,hd⟩:=I.cell x c e;obtain⟨m,⟨bG,ah,a6,dI,f9,_⟩,_⟩:=I.loc;rw[z,dI]at av;cases av;rw[f9]at hd;cases hd
theorem Inv.lx(I:Inv X pins σ H s):s.heap.FunFrames X.base X.outer:=by
 have all:∀(l:List Env),(∀b∈iv l,b∈X.bA)->X.fl.heap.FunFrames X.base l->s.heap.FunFrames X.base l:=by
  intro l
  induction l with
  |nil=>intro _ _;trivial
  |cons env r aE =>
   intro aa aA;obtain⟨ax,⟨L,o,hf,aD,av,hd⟩,a9⟩:=aA;have er:L∈X.bA:=aa L (by unfold iv;rw[List.filterMap_cons,hf];exact List.mem_cons_self);obtain⟨cp,e⟩:=I.base.slot L o av (I.ok.tU L er) er λz=>I.ok.tN L z er
   exact⟨ax,⟨L,_,hf,aD,e,hd⟩,aE (λb ab=>aa b (by unfold iv;rw[List.filterMap_cons,hf];exact List.mem_cons_of_mem _ ab)) a9⟩
 exact all X.outer (λ_ ab=>ab) I.ok.lx
theorem Inv.stack(I:Inv X pins σ H s):s.heap.FunFrames X.base X.stack:=by
 rcases I.ok.AN with e|⟨e,hf⟩
 .rw[e];exact I.lx
 .rw[e];obtain⟨m,aD,_⟩:=I.loc;refine .cons (by rw[I.ok.kind];decide) hf aD ?_ I.lx;exact Heap.get?_none_of_le (ZX I.ok.qG I.ok.above)
def Inv.vE(I:Inv X pins σ H s):∀b∈iv X.stack,b∈X.env.locals::X.bA:=λb ab=>by
 rcases I.ok.AN with e|⟨e,hf⟩
 .rw[e]at ab;exact List.mem_cons_of_mem _ ab
 .rw[e]at ab;unfold iv at ab;rw[List.filterMap_cons,hf]at ab;exact ab
def Inv.HN(I:Inv X pins σ H s):∀b∈iv X.stack,H b=none:=λb ab=>by
 rcases Y0.mp (I.vE b ab) with e|ab
 .rw[e];exact I.free
 .obtain⟨_,o,av,_⟩:=I.ok.lx.mem ab;exact I.base.free b o av (I.ok.tU b ab) λz=>I.ok.tN b z ab
def Inv.step{g':Array GenState}{t':Nat}{d':Drawn}{ch:List Addr}(I:Inv X pins σ H s)(kn:∀b∈ch,(b∈X.ex\/X.fl.heap.objs.size<=b)/\b≠X.env.locals/\(∀x c,X.env.cells.lookup x=some c->c≠b)/\∀p∈X.fV++pins,p.1≠b)(keep:∀b o,b≠X.env.locals->b∉X.bA->b∉ch->s.heap.get? b=some o->H b=none->h'.get? b=some o)(slot:∀b o,b≠X.env.locals->b∈X.bA->b∉ch->s.heap.get? b=some o->H b=none->∃cp,h'.get? b=some { o with slots:=cp })(free:∀b o,b∉ch->s.heap.get? b=some o->H b=none->aq b=none)(there:∀b o,b∉ch->s.heap.get? b=some o->∃bG,h'.get? b=some bG)(kV:∀b xs,H b=some (.tup xs)->aq b=some (.tup xs))(jM:∀b o u,H b=some (.dv o u)->aq b=some (.dv o u))(kU:∀b aS,H b=some (.oE aS)->∃more,aq b=some (.oE (aS++more)))(ns:∀m,s.heap.Ns X.env.locals m->h'.Ns X.env.locals m)(bK:en X.prog X.w aq h')(a4:AllBare g'):
  Inv X pins σ aq { s with heap:=h',gens:=g',drawn:=d',toks:=t' }:=by
 have FH:∀b o,X.fl.heap.get? b=some o->b≠X.env.locals:=λb o e=>Zh (Zj (Y5 e) I.ok.above)
 have mU:∀b o,X.fl.heap.get? b=some o->b∉X.ex->b∉ch:=λb o e ao ab=>by
  rcases(kn b ab).1 with z|z
  .exact ao z
  .exact absurd (Zj (Y5 e) z) (aau _)
 have cellK:∀x c,X.env.cells.lookup x=some c->∀v,s.heap.IsCell c v->h'.IsCell c v:=λx c e v ⟨o,av,hd⟩=>by
  have r8:c∉ch:=λz=>(kn c z).2.2.1 x c e rfl
  by_cases ag:c∈X.bA
  .obtain⟨cp,q⟩:=slot c o (I.nH x c e) ag r8 av (I.ki x c e);exact⟨_,q,hd⟩
  .exact⟨o,keep c o (I.nH x c e) ag r8 av (I.ki x c e),hd⟩
 refine⟨I.ok,I.os,a4,⟨λb o e n ab ao=>?_,λb o e n ab ao=>?_,λb o e n ao=>?_,λb o e ao=>?_,λb xs e=>kV b xs (I.base.kV b xs e),λb o xs e=>jM b o xs (I.base.jM b o xs e),λb aS e=>?_⟩,?_,λx c e=>?_,?_,λx c e=>?_,λp az=>?_,bK,I.len⟩
 .exact keep b o (FH b o e) ab (mU b o e ao) (I.base.keep b o e n ab ao) (I.base.free b o e n ao)
 .obtain⟨cp,aj⟩:=I.base.slot b o e n ab ao;obtain⟨VK,ak⟩:=slot b _ (FH b o e) ab (mU b o e ao) aj (I.base.free b o e n ao);exact⟨VK,ak⟩
 .obtain⟨bG,aj⟩:=I.base.there b o e ao;exact free b bG (mU b o e ao) aj (I.base.free b o e n ao)
 .obtain⟨bG,aj⟩:=I.base.there b o e ao;exact there b bG (mU b o e ao) aj
 .obtain⟨n9,aj⟩:=I.base.kU b aS e;obtain⟨pE,ak⟩:=kU b _ aj;exact⟨n9++pE,by rw[ak,Array.append_assoc]⟩
 .obtain⟨m,aD,aA⟩:=I.loc;refine⟨m,ns m aD,λi x v aj ak bu=>?_⟩;obtain⟨u,r,l⟩:=aA i x v aj ak bu;refine⟨u,r,?_⟩;rcases l with l|⟨k,c,e,z⟩
  .exact .inl l
  .exact .inr ⟨k,c,e,cellK x c e _ z⟩
 .obtain⟨v,z⟩:=I.cell x c e;exact⟨v,cellK x c e v z⟩
 .obtain⟨m,⟨o,_,_,av,_⟩,_⟩:=I.loc;exact free _ o (λz=>(kn _ z).2.1 rfl) av I.free
 .obtain⟨v,o,av,hd⟩:=I.cell x c e;exact free c o (λz=>(kn c z).2.2.1 x c e rfl) av (I.ki x c e)
 .obtain⟨e,n,ne,mW,d⟩:=I.pin p az;have r8:p.1∉ch:=λz=>(kn p.1 z).2.2.2 p az rfl
  exact⟨keep p.1 p.2 ne mW r8 e n,free p.1 p.2 r8 e n,ne,mW,d⟩
def Inv.un{t':Nat}(I:Inv X pins σ H s)(u:ff X.bA [] H aq s.heap h')(bK:en X.prog X.w aq h'):Inv X pins σ aq { s with heap:=h',toks:=t' }:=by
 obtain⟨m,⟨o,ah,a6,av,r⟩,_⟩:=id I.loc;obtain⟨cp,er⟩:=u.any av I.free (by simp);exact I.step (g':=s.gens) (d':=s.drawn) (ch:=[]) (λ_ z=>nomatch z) (λb o _ ab _ e n=>u.keep b o e n ab (by simp)) (λb o _ ab _ e n=>u.slot b o e n ab (by simp)) (λb o _ e n=>u.free b o e n (by simp)) (λb o _ e=>u.there b o e (by simp)) u.kV u.jM u.kU (λib hm=>by
  obtain⟨bG,nR,x9,dI,bX⟩:=hm;rw[av]at dI;cases dI;exact⟨_,nR,x9,er,bX⟩) bK I.bare
def Inv.call{g':Array GenState}{t':Nat}{d':Drawn}{ch:List Addr}(I:Inv X pins σ H s)(u:ff (iv X.stack) ch H aq s.heap h')(bK:en X.prog X.w aq h')(a4:AllBare g')(kn:∀b∈ch,(b∈X.ex\/X.fl.heap.objs.size<=b)/\b≠X.env.locals/\(∀x c,X.env.cells.lookup x=some c->c≠b)/\∀p∈X.fV++pins,p.1≠b):
  Inv X pins σ aq { s with heap:=h',gens:=g',drawn:=d',toks:=t' }:=by
 obtain⟨m,⟨o,ah,a6,av,r⟩,_⟩:=id I.loc;obtain⟨cp,er⟩:=u.any av I.free λz=>(kn _ z).2.1 rfl
 exact I.step (ch:=ch) kn (λb o er ab ag e n=>u.keep b o e n (λz=>(Y0.mp (I.vE b z)).elim er ab) ag) (λb o _ _ ag e n=>u.any e n ag) (λb o ag e n=>u.free b o e n ag) (λb o ag e=>u.there b o e ag) u.kV u.jM u.kU (λib hm=>by
  obtain⟨bG,nR,x9,dI,bX⟩:=hm;rw[av]at dI;cases dI;exact⟨_,nR,x9,er,bX⟩) bK a4
def Inv.turned{t':Nat}{it:Addr}(I:Inv X pins σ H s)(k:∀b o,b≠it->s.heap.get? b=some o->h'.get? b=some o)(aD:H it=none)(er:it≠X.env.locals)(C:it∈X.ex\/X.fl.heap.objs.size<=it)(J:∀x c,X.env.cells.lookup x=some c->c≠it)(aC:∀p∈X.fV++pins,p.1≠it):Inv X pins σ H { s with heap:=h',toks:=t' }:=by
 have FO:∀b u,H b=some u->b≠it:=λb u e z=>by rw[z,aD]at e;cases e
 refine I.step (g':=s.gens) (d':=s.drawn) (ch:=[it]) (λb ab=>?_) (λb o _ _ ag e _=>k b o (λz=>ag (by simp[z])) e) (λb o _ _ ag e _=>⟨o.slots,k b o (λz=>ag (by simp[z])) e⟩) (λ_ _ _ _ n=>n)
  (λb o ag e=>⟨o,k b o (λz=>ag (by simp[z])) e⟩) (λ_ _ e=>e) (λ_ _ _ e=>e) (λb aS e=>⟨#[],by rw[e];simp⟩) (λm hm=>?_) (λb u e=>?_) I.bare
 .have e:b=it:=(by simpa using ab);subst e;exact⟨C,er,J,aC⟩
 .obtain⟨o,ah,a6,av,r⟩:=hm;exact⟨o,ah,a6,k _ o (Z6 er) av,r⟩
 .refine(I.bK b u e).kQ (λc v ag q=>k c v ?_ q) (λ_ q=>q) λ_ _ q=>q
  rcases ag with z|z
  .rw[z];exact FO b u e
  .exact FO c _ z
def Inv.tok(I:Inv X pins σ H s)(t:Nat):Inv X pins σ H { s with toks:=t }:=I.un (h':=s.heap) (t':=t) ff.refl I.bK
theorem Inv.kept{t':Nat}(I:Inv X pins σ H s)(k:∀b u,s.heap.get? b=some u->h'.get? b=some u):Inv X pins σ H { s with heap:=h',toks:=t' }:=I.un (ff.kept k) (I.bK.kept k)
theorem Inv.laid{a:Addr}{o:dX}{t':Nat}(I:Inv X pins σ H s)(k:∀b u,s.heap.get? b=some u->h'.get? b=some u)(az:s.heap.objs.size<=a)(new:dR X.prog X.w (upd H a o) h' a o):
  Inv X pins σ (upd H a o) { s with heap:=h',toks:=t' }:=I.un (ff.laid k az (I.bK.fresh az)) (I.bK.laid k az new)
theorem Inv.write{x e:Addr}{o:dX}{t':Nat}(I:Inv X pins σ H s)(mu:qp (H x))(he:e=x\/H e=some (.own x))(k:∀b u,b≠e->s.heap.get? b=some u->h'.get? b=some u)(pb:∃u,h'.get? e=some u)(new:dR X.prog X.w (upd H x o) h' x o):Inv X pins σ (upd H x o) { s with heap:=h',toks:=t' }:=I.un (ff.write mu he k pb) (I.bK.write mu he k pb new)
def Inv.Ab{Gl:List (Addr×Obj)}(I:Inv X pins σ H s)(h:∀p∈Gl,s.heap.get? p.1=some p.2/\H p.1=none/\p.1≠X.env.locals/\p.1∉X.bA/\∀v,p.2.data≠.cell v):Inv X Gl σ H s :=
 ⟨I.ok,I.os,I.bare,I.base,I.loc,I.cell,I.free,I.ki,λp az=>(Zg.mp az).elim (λz=>I.pin p (List.mem_append_left _ z)) (h p),I.bK,I.len⟩
def FT{N:List Str}(aK:N.Nodup){i j:Nat}{x:Str}(a:N[i]?=some x)(b:N[j]?=some x):i=j:=by
 obtain⟨C,aj⟩:=Zm.mp a;obtain⟨J,ak⟩:=Zm.mp b;exact(List.getElem_inj aK).mp (aj.trans ak.symm)
def Wa{M:Model}{A:Around}{E:Value->Shared->Prop}{i:Nat}{x:Str}{v:V}{u:Value}{Q:Unit->Shared->Prop}(I:Inv X pins σ H s)(aK:X.N.Nodup)(ai:X.N[i]?=some x)(ao:Loc X.env.scope x)(r:RelV v u)(h:∀s',Inv X pins (σ.set i (some v)) H s'->(∃a,Heap.SameBut a s.heap s'.heap/\(a=X.env.locals\/X.env.cells.lookup x=some a))->Q () s')(hf:X.fn x=true\/X.env.scope.names.lookup x=some .local):wpAny M A (storeName X.env x u) Q E s:=by
 obtain⟨m,aD,aA⟩:=id I.loc;have OE:(X.env.scope.kind==.class||(X.env.scope.kind==.module&&X.env.locals != X.env.globals))=false:=by rw[I.ok.kind];rfl
 have Eh:i<σ.length:=by rw[I.len];exact(Zm.mp ai).1
 have nH:=I.nH;have tracked:∀{a:Addr}{h':Heap},(∃o,s.heap.get? a=some o/\H a=none)->Heap.SameBut a s.heap h'->en X.prog X.w H h':=λ{a h'} aB aa b b8 e=>by
  obtain⟨_,_,mH⟩:=aB;refine(I.bK b b8 e).kQ (λc dQ ag q=>(aa.2 c ?_).trans q) (λ_ q=>q) λ_ _ q=>q
  rintro rfl;rcases ag with rfl|ag
  .rw[mH]at e;cases e
  .rw[mH]at ag;cases ag
 rcases ao with ax|ax
 .refine wpAny_storeName_local ax aD (λh' uf aa=>?_) OE;obtain⟨RZ,_,_,uh,_⟩:=id aD;refine h _ ⟨I.ok,I.os,I.bare,⟨λb o e n ab ao=>?_,λb o e n ab ao=>?_,I.base.free,λb o e ao=>?_,I.base.kV,I.base.jM,I.base.kU⟩,⟨_,uf,λj y p9 aj ak bu=>?_⟩,λy c e=>?_,I.free,I.ki,λp az=>?_,tracked ⟨RZ,uh,I.free⟩ aa,by simpa using I.len⟩ ⟨_,aa,.inl rfl⟩
  .exact(aa.2 b (Zh (Zj (Y5 e) I.ok.above))).trans (I.base.keep b o e n ab ao)
  .obtain⟨cp,aj⟩:=I.base.slot b o e n ab ao;exact⟨cp,(aa.2 b (Zh (Zj (Y5 e) I.ok.above))).trans aj⟩
  .obtain⟨bG,aj⟩:=I.base.there b o e ao;exact⟨bG,(aa.2 b (Zh (Zj (Y5 e) I.ok.above))).trans aj⟩
  .by_cases aJ:j=i
   .subst aJ;rw[ai]at aj;cases aj;rw[List.getElem?_set_self Eh]at ak;cases ak;exact⟨u,r,.inl ⟨ax,by simp⟩⟩
   .rw[abQ (Z6 aJ)]at ak;obtain⟨vP,bX,q⟩:=aA j y p9 aj ak bu;refine⟨vP,bX,?_⟩;rcases q with⟨k,e⟩|⟨k,c,e,z⟩
    .refine .inl ⟨k,?_⟩;have:y≠x:=λe=>aJ (FT aK aj (e▸ai))
     simp[this,e]
    .exact .inr ⟨k,c,e,z.sameBut aa (nH y c e)⟩
  .obtain⟨dQ,z⟩:=I.cell y c e;exact⟨dQ,z.sameBut aa (nH y c e)⟩
  .obtain⟨e,n,ne,mW,d⟩:=I.pin p az;exact⟨(aa.2 p.1 ne).trans e,n,ne,mW,d⟩
 .have nY:X.fn x=true:=by
   rcases hf with z|z
   .exact z
   .rw[z]at ax;cases ax
  obtain⟨c,ag⟩:=I.ok.has x (.inl ax);obtain⟨dQ,z⟩:=I.cell x c ag;refine wpAny_storeName_cell I.ok.kind ax ag z (λh' cN aa=>?_);obtain⟨gd,Eo,Pq⟩:=id z;refine h { s with heap:=h' } ⟨I.ok,I.os,I.bare,⟨λb o e n ab ao=>?_,λb o e n ab ao=>?_,I.base.free,λb o e ao=>?_,I.base.kV,I.base.jM,I.base.kU⟩,⟨m,aD.sameBut aa (Z6 (nH x c ag)),λj y p9 aj ak bu=>?_⟩,λy c2 e=>?_,I.free,I.ki,λp az=>?_,tracked ⟨gd,Eo,I.ki x c ag⟩ aa,by simpa using I.len⟩ ⟨c,aa,.inr ag⟩
  .exact(aa.2 b (Zh (Zj (Y5 e) (I.ok.xJ x c nY ag)))).trans (I.base.keep b o e n ab ao)
  .obtain⟨cp,aj⟩:=I.base.slot b o e n ab ao;exact⟨cp,(aa.2 b (Zh (Zj (Y5 e) (I.ok.xJ x c nY ag)))).trans aj⟩
  .obtain⟨bG,aj⟩:=I.base.there b o e ao;exact⟨bG,(aa.2 b (Zh (Zj (Y5 e) (I.ok.xJ x c nY ag)))).trans aj⟩
  .by_cases aJ:j=i
   .subst aJ;rw[ai]at aj;cases aj;rw[List.getElem?_set_self Eh]at ak;cases ak;exact⟨u,r,.inr ⟨.inl ax,c,ag,cN⟩⟩
   .rw[abQ (Z6 aJ)]at ak;obtain⟨vP,bX,q⟩:=aA j y p9 aj ak bu;refine⟨vP,bX,?_⟩;rcases q with q|⟨k,c2,e,ij⟩
    .exact .inl q
    .refine .inr ⟨k,c2,e,ij.sameBut aa ?_⟩;rintro rfl;exact aJ (FT aK aj (I.ok.inj _ _ _ e ag▸ai))
  .by_cases o9:c2=c
   .subst o9;exact⟨_,cN⟩
   .obtain⟨jZ,b0⟩:=I.cell y c2 e;exact⟨jZ,b0.sameBut aa o9⟩
  .obtain⟨e,n,ne,mW,d⟩:=I.pin p az;refine⟨(aa.2 p.1 ?_).trans e,n,ne,mW,d⟩;intro q;rw[q,Eo]at e;have dq:gd=p.2:=ZA e;exact d dQ (by rw[<- dq];exact Pq)
def AO{M:Model}{A:Around}{E:Value->Shared->Prop}{i:Nat}{x:Str}{v:V}{u:Value}{Q:Unit->Shared->Prop}(I:Inv X pins σ H s)(aK:X.N.Nodup)(ai:X.N[i]?=some x)(ao:Loc X.env.scope x)(r:RelV v u)(h:∀s',Inv X pins (σ.set i (some v)) H s'->Q () s')(hf:X.fn x=true\/X.env.scope.names.lookup x=some .local:=by first|exact .inl rfl|exact .inr rfl|assumption):wpAny M A (storeName X.env x u) Q E s :=
 Wa I aK ai ao r (λs' gz _=>h s' gz) hf
def Inv.B6{s':Shared}{ch:List Addr}(I:Inv X pins σ H s)(av:s'.os=s.os)(u:ff (iv X.stack) ch H aq s.heap s'.heap)(bK:en X.prog X.w aq s'.heap)(a4:AllBare s'.gens)(kn:∀b∈ch,(b∈X.ex\/X.fl.heap.objs.size<=b)/\b≠X.env.locals/\(∀x c,X.env.cells.lookup x=some c->c≠b)/\∀p∈X.fV++pins,p.1≠b):Inv X pins σ aq s':=by
 obtain⟨h',g',d',t',bG⟩:=s';have e:bG=s.os:=av;subst e;exact I.call (g':=g') (t':=t') (d':=d') u bK a4 kn
end
noncomputable abbrev i8:=Value->Option Addr->aw->Prop
noncomputable abbrev St:=List (Option V)
noncomputable abbrev c0:=V->aw->Prop
noncomputable abbrev TE:=St->aw->c0->Prop
noncomputable abbrev TT:=St->aw->(Bool->aw->Prop)->Prop
noncomputable abbrev gk:=St->aw->(List V->aw->Prop)->Prop
structure Ends where
 bJ:St->aw->Prop
 dE:c0
 k6:St->aw->Prop:=λ_ _=>False
 ct:St->aw->Prop:=λ_ _=>False
noncomputable abbrev gB:=Ends->St->aw->Prop
noncomputable def eN(X:aQ)(pins:List (Addr×Obj))(σ:St)(Q:c0)(u:Value)(s':Shared):Prop:=∃v aq,Inv X pins σ aq s'/\RelV v u/\Q v aq
noncomputable def tb(X:aQ)(pins:List (Addr×Obj))(σ:St)(Q:Bool->aw->Prop)(b:Bool)(s':Shared):Prop:=∃aq,Inv X pins σ aq s'/\Q b aq
noncomputable def IZ(X:aQ)(pins:List (Addr×Obj))(σ:St)(Q:List V->aw->Prop)(us:List Value)(s':Shared):Prop:=∃ae aq,Inv X pins σ aq s'/\Vals ae us/\Q ae aq
noncomputable def s9(X:aQ)(pins:List (Addr×Obj))(D:Ends)(f:Flow)(s':Shared):Prop :=
 match f with
 |.next=>∃c7 aq,Inv X pins c7 aq s'/\D.bJ c7 aq
 |.brk=>∃c7 aq,Inv X pins c7 aq s'/\D.k6 c7 aq
 |.cont=>∃c7 aq,Inv X pins c7 aq s'/\D.ct c7 aq
 |.ret u=>∃v c7 aq,Inv X pins c7 aq s'/\RelV v u/\D.dE v aq
noncomputable def aM(X:aQ)(e:Expr)(t:TE):Prop :=
 ∀(pins:List (Addr×Obj))(s:Shared)(σ:St)(H:aw)(Q:c0),Inv X pins σ H s->t σ H Q->wpAny (model X.prog X.w) X.A (eval e X.env) (eN X pins σ Q) X.cA s
noncomputable def eh(X:aQ)(e:Expr)(t:TT):Prop :=
 ∀(pins:List (Addr×Obj))(s:Shared)(σ:St)(H:aw)(Q:Bool->aw->Prop),Inv X pins σ H s->t σ H Q->wpAny (model X.prog X.w) X.A (isTrue e X.env (eval e X.env)) (tb X pins σ Q) X.cA s
noncomputable def iH(X:aQ)(e:Expr)(t:TT):Prop :=
 ∀(whole:Sem Value)(pins:List (Addr×Obj))(s:Shared)(σ:St)(H:aw)(Q:Bool->aw->Prop),Inv X pins σ H s->t σ H Q->wpAny (model X.prog X.w) X.A (isTrue e X.env whole) (tb X pins σ Q) X.cA s
def iH.pt{X:aQ}{e:Expr}{t:TT}(h:iH X e t):eh X e t:=h _
noncomputable def fO(X:aQ)(ah:List Expr)(t:gk):Prop :=
 ∀(pos:Pos)(pins:List (Addr×Obj))(s:Shared)(σ:St)(H:aw)(Q:List V->aw->Prop),Inv X pins σ H s->t σ H Q->wpAny (model X.prog X.w) X.A (spliced (backTo pos (starEach ah X.env))) (IZ X pins σ Q) X.cA s
noncomputable def dY(X:aQ)(st:Stmt)(t:gB):Prop :=
 ∀(pins:List (Addr×Obj))(s:Shared)(σ:St)(H:aw)(D:Ends),Inv X pins σ H s->t D σ H->wpAny (model X.prog X.w) X.A (exec st X.env) (s9 X pins D) X.cA s
noncomputable def gV(X:aQ)(st:List Stmt)(t:gB):Prop :=
 ∀(pins:List (Addr×Obj))(s:Shared)(σ:St)(H:aw)(D:Ends),Inv X pins σ H s->t D σ H->wpAny (model X.prog X.w) X.A (execs st X.env) (s9 X pins D) X.cA s
def bF{α:Type}{t:Sem α}{Q iI:α->Shared->Prop}{M:Model}{A:Around}{E:Value->Shared->Prop}{s:Shared}(h:wpAny M A t Q E s)(es:∀a s,Q a s->iI a s):wpAny M A t iI E s:=ZR h es λ_ _ x=>x
end bM
namespace bM
open PySem PySem.Spec PyProof.Rows
section
variable{X:aQ}
def bin{a b:Expr}{cC cS:TE}(aB:aM X a cC)(ab:aM X b cS){pins:List (Addr×Obj)}{s:Shared}{σ:St}{H:aw}{R:V->V->aw->Prop}(I:Inv X pins σ H s)(h:cC σ H λx H1=>cS σ H1 λy aW=>R x y aW){α:Type}{Q:α->Shared->Prop}{f:Value->Value->Sem α}(hf:∀v u s2 x y aW,Inv X pins σ aW s2->RelV x v->RelV y u->R x y aW->wpAny (model X.prog X.w) X.A (f v u) Q X.cA s2):
  wpAny (model X.prog X.w) X.A (eval a X.env) (λv cM=>wpAny (model X.prog X.w) X.A (eval b X.env) (λu gw=>wpAny (model X.prog X.w) X.A (f v u) Q X.cA gw) X.cA cM) X.cA s:=by
 refine bF (aB pins s σ H _ I h) λv s1 ⟨x,H1,a3,aG,aU⟩=>?_
 refine bF (ab pins s1 σ H1 _ a3 aU) λu s2 ⟨y,aW,cx,aZ,bq⟩=>?_
 exact hf v u s2 x y aW cx aG aZ bq
noncomputable def kT(i:Nat):TE:=λσ H Q=>∃v,σ[i]?=some (some v)/\Q v H
noncomputable def p3(v:V):TE:=λ_ H Q=>Q v H
def gO{i:Nat}{x:Str}{pos:Pos}(aK:X.N[i]?=some x)(aN:fA X.env.scope x)(hd:(x==("__debug__":Str))=false:=by decide)(lB:(x==("__classdict__":Str))=false:=by decide):aM X (.Name x pos) (kT i):=by
 intro pins s σ H Q I h;obtain⟨v,e,h⟩:=h;obtain⟨m,aD,aA⟩:=I.loc;obtain⟨u,r,l⟩:=aA i x v aK e aN;have fin:eN X pins σ Q u s:=⟨v,H,I,r,h⟩;rcases l with⟨ax,hm⟩|⟨ax,c,ag,nX⟩
 .exact wpAny_Name (wpAny_loadName_local I.ok.kind ax aD hm fin) hd
 .rcases ax with ax|ax
  .exact wpAny_Name (wpAny_loadName_cell I.ok.kind ax ag nX fin) hd
  .exact wpAny_Name (wpAny_loadName_free I.ok.kind ax ag nX fin lB) hd
def Gd{i j pos}:aM X (.Constant (.int i) j pos) (p3 (.int i)):=λ_ _ _ H _ I h=>wpAny_Constant_int ⟨.int i,H,I.tok _,⟨_,rfl⟩,h⟩
def Ss{b j pos}:aM X (.Constant (.bool b) j pos) (p3 (.aO b)):=λ_ _ _ H _ I h=>Constant_bool ⟨.aO b,H,I,rfl,h⟩
def SI{j pos}:aM X (.Constant .none j pos) (p3 .dp):=λ_ _ _ H _ I h=>Constant_none ⟨.dp,H,I,rfl,h⟩
def SO{x j pos}:aM X (.Constant (.str x) j pos) (p3 (.str x)):=λ_ _ _ H _ I h=>Calls.Constant_str ⟨.str x,H,I.tok _,⟨_,rfl⟩,h⟩
noncomputable def eU(X:aQ)(x:Str):Prop:=X.env.kindOf x=some .globalImplicit
def Q0{E:Value->Shared->Prop}{pins:List (Addr×Obj)}{s:Shared}{σ:St}{H:aw}{x:Str}{u:Value}{pos:Pos}{Q:Value->Shared->Prop}(I:Inv X pins σ H s)(a4:eU X x)(hm:X.aX x=some u)(h:Q u s)(hd:(x==("__debug__":Str))=false:=by decide):wpAny (model X.prog X.w) X.A (eval (.Name x pos) X.env) Q E s :=
 Calls.Name_function_global I.ok.kind a4 (Calls.loadGlobal_global (by rw[I.ok.glob];exact I.mod.glob.keeps I.k6) hm h) hd
def kA{E:Value->Shared->Prop}{pins:List (Addr×Obj)}{s:Shared}{σ:St}{H:aw}{x:Str}{u:Value}{pos:Pos}{Q:Value->Shared->Prop}(I:Inv X pins σ H s)(a4:eU X x)(hm:X.aX x=none)(aN:bootBuiltins x=some u)(h:Q u s)(aD:x≠"__name__":=by decide)(hd:(x==("__debug__":Str))=false:=by decide):wpAny (model X.prog X.w) X.A (eval (.Name x pos) X.env) Q E s:=by
 obtain⟨jm,C,J⟩:=I.mod.blt;exact Calls.Name_function_global I.ok.kind a4 (Calls.loadGlobal_builtin (by rw[I.ok.glob];exact I.mod.glob.keeps I.k6) hm (by rw[I.ok.blt];exact C.keeps I.k6) ((J x aD).trans aN) h) hd
def Su{x:Str}{v:V}{u:Value}{pos:Pos}(a4:eU X x)(hm:X.aX x=none)(aN:bootBuiltins x=some u)(r:RelV v u)(aD:x≠"__name__":=by decide)(hd:(x==("__debug__":Str))=false:=by decide):aM X (.Name x pos) (p3 v) :=
 λ_ _ _ H _ I h=>kA I a4 hm aN ⟨v,H,I,r,h⟩ aD hd
variable{a b:Expr}{cC cS:TE}{pos:Pos}
noncomputable def qq(X:aQ)(op:CmpOp)(a b:Expr)(t:TE):Prop :=
 ∀(pins:List (Addr×Obj))(s:Shared)(σ:St)(H:aw)(Q:c0),Inv X pins σ H s->t σ H Q ->
  wpAny (model X.prog X.w) X.A (eval a X.env) (λv cM=>wpAny (model X.prog X.w) X.A (eval b X.env) (λu gw=>wpAny (model X.prog X.w) X.A (compareOp op v u) (eN X pins σ Q) X.cA gw) X.cA cM) X.cA s
noncomputable def HS(t:TE):TT:=λσ H Q=>t σ H λx H1=>∃c,x=.aO c/\Q c H1
def YM{op:CmpOp}{t:TE}(h:qq X op a b t)(C:behindInMarks op b=false):eh X (.Compare a [op] [b] pos) (HS t):=by
 intro pins s σ H Q I hw;refine wpAny_isTrue_Compare1 (bF (h pins s σ H _ I hw) λv s1 C=>bF C λu s2 J=>bF J λc s3 ⟨x,H1,a3,aG,aU⟩=>?_) C;obtain⟨d,rfl,q⟩:=aU;cases aG;exact ZY ⟨H1,a3,q⟩
def TF{e:Expr}{t:TE}(h:aM X e t)(he:∀whole,isTrue e X.env whole=(do let v <- whole;standAt e.pos;holding [v] (truthy v)):=by intro _;rfl):eh X e (HS t):=by
 intro pins s σ H Q I hw;refine isTrue_plain (bF (h pins s σ H _ I hw) λv s1 ⟨x,H1,a3,aG,aU⟩=>?_) (he _);obtain⟨d,rfl,q⟩:=aU;cases aG;exact ZY ⟨H1,a3,q⟩
variable{jt vF:TT}{rest:List Expr}
noncomputable def Wg(t u:TT):TT:=λσ H Q=>t σ H λc H1=>if c=true then u σ H1 Q else Q false H1
noncomputable def Wx(t u:TT):TT:=λσ H Q=>t σ H λc H1=>if c=true then Q true H1 else u σ H1 Q
noncomputable def Wv(t:TT):TT:=λσ H Q=>t σ H λc H1=>Q (!c) H1
def TH(aB:eh X a jt):iH X (.BoolOp .And [a] pos) jt:=by
 intro l1 pins s σ H Q I h;refine isTrue_and (bF (aB pins s σ H Q I h) λc s1 e=>?_);cases c with
 |true=>exact isTrue_and_nil e
 |false=>exact e
def TK(aB:eh X a jt):iH X (.BoolOp .Or [a] pos) jt:=by
 intro l1 pins s σ H Q I h;refine isTrue_or (bF (aB pins s σ H Q I h) λc s1 e=>?_);cases c with
 |false=>exact isTrue_or_nil e
 |true=>exact e
def TG(aB:eh X a jt)(ab:iH X (.BoolOp .And (b::rest) pos) vF):iH X (.BoolOp .And (a::b::rest) pos) (Wg jt vF):=by
 intro l1 pins s σ H Q I h;refine isTrue_and (bF (aB pins s σ H _ I h) λc s1 ⟨H1,a3,aU⟩=>?_);cases c with
 |true=>exact ab l1 pins s1 σ H1 Q a3 aU
 |false=>exact⟨H1,a3,aU⟩
def TJ(aB:eh X a jt)(ab:iH X (.BoolOp .Or (b::rest) pos) vF):iH X (.BoolOp .Or (a::b::rest) pos) (Wx jt vF):=by
 intro l1 pins s σ H Q I h;refine isTrue_or (bF (aB pins s σ H _ I h) λc s1 ⟨H1,a3,aU⟩=>?_);cases c with
 |true=>exact⟨H1,a3,aU⟩
 |false=>exact ab l1 pins s1 σ H1 Q a3 aU
def TC(aB:eh X a jt):eh X (.UnaryOp .Not a pos) (Wv jt):=by
 intro pins s σ H Q I h;exact isTrue_not (aB pins s σ H (λc H1=>Q (!c) H1) I h)
noncomputable def Wh(cC cS:TE):TE:=λσ H Q=>cC σ H λx H1=>∃c,x=.aO c/\if c=true then cS σ H1 Q else Q (.aO false) H1
noncomputable def Wy(cC cS:TE):TE:=λσ H Q=>cC σ H λx H1=>∃c,x=.aO c/\if c=true then Q (.aO true) H1 else cS σ H1 Q
noncomputable def Ww(cC:TE):TE:=λσ H Q=>cC σ H λx H1=>∃c,x=.aO c/\Q (.aO (!c)) H1
def Gf{op}{t:TE}(h:aM X a t):aM X (.BoolOp op [a] pos) t:=λpins s σ H Q I hw=>BoolOp_one (h pins s σ H Q I hw)
def Sr(aB:aM X a cC)(ab:aM X (.BoolOp .And (b::rest) pos) cS):aM X (.BoolOp .And (a::b::rest) pos) (Wh cC cS):=by
 intro pins s σ H Q I h;refine BoolOp_and (bF (aB pins s σ H _ I h) λv s1 ⟨x,H1,a3,aG,aU⟩=>?_);obtain⟨c,rfl,aU⟩:=aU;cases aG;refine ZY ?_;cases c with
 |true=>exact ab pins s1 σ H1 Q a3 aU
 |false=>exact⟨.aO false,H1,a3,rfl,aU⟩
def SM(aB:aM X a cC)(ab:aM X (.BoolOp .Or (b::rest) pos) cS):aM X (.BoolOp .Or (a::b::rest) pos) (Wy cC cS):=by
 intro pins s σ H Q I h;refine BoolOp_or (bF (aB pins s σ H _ I h) λv s1 ⟨x,H1,a3,aG,aU⟩=>?_);obtain⟨c,rfl,aU⟩:=aU;cases aG;refine ZY ?_;cases c with
 |false=>exact ab pins s1 σ H1 Q a3 aU
 |true=>exact⟨.aO true,H1,a3,rfl,aU⟩
def SJ(aB:aM X a cC):aM X (.UnaryOp .Not a pos) (Ww cC):=by
 intro pins s σ H Q I h;refine UnaryOp_ (bF (aB pins s σ H _ I h) λv s1 ⟨x,H1,a3,aG,aU⟩=>?_);obtain⟨c,rfl,aU⟩:=aU;cases aG;exact not_of (ZY ⟨.aO (!c),H1,a3,rfl,aU⟩)
noncomputable def vJ(t:TT)(cC cS:TE):TE:=λσ H Q=>t σ H λc H1=>if c=true then cC σ H1 Q else cS σ H1 Q
def SF{c:Expr}(ag:eh X c jt)(aB:aM X a cC)(ab:aM X b cS):aM X (.IfExp c a b pos) (vJ jt cC cS):=by
 intro pins s σ H Q I h;refine wpAny_IfExp (bF (ag pins s σ H _ I h) λd s1 ⟨H1,a3,aU⟩=>?_);cases d with
 |true=>exact aB pins s1 σ H1 Q a3 aU
 |false=>exact ab pins s1 σ H1 Q a3 aU
end
end bM
namespace bM
open PySem PySem.Spec PyProof.Rows
noncomputable def eo(K:W.Frag)(H:aw)(a:Addr)(xs:List V):Prop :=
 gW H a (.lst xs) \/
  ∃(o:Obj)(its:Array Value)(n:Nat),K.lookup a=some o/\o.cls=.type "list"/\o.dict=none/\o.data=.seq its n/\its.size<=sizeLine/\Vals xs its.toList
noncomputable def fp(K:W.Frag)(H:aw)(a:Addr)(xs:List V):Prop :=
 gW H a (.tup xs) \/
  ∃(o:Obj)(its:Array Value)(n:Nat),K.lookup a=some o/\o.cls=.type "tuple"/\o.data=.seq its n/\its.size<=sizeLine/\Vals xs its.toList
noncomputable def Jg:Value->Option V
 |.none=>some .dp
 |.bool b=>some (.aO b)
 |.int i _=>some (.int i)
 |.str x _=>some (.str x)
 |.bytes b _=>some (.xG b)
 |.float b _=>some (.iO b)
 |.ref a=>some (.ref a)
 |.type n=>some (.ty n)
 |_=>none
def RelV.abs{x:V}{u:Value}(r:RelV x u):Jg u=some x:=by
 cases x with
 |dp=>cases r;rfl
 |aO _=>cases r;rfl
 |int _=>obtain⟨t,rfl⟩:=r;rfl
 |str _=>obtain⟨t,rfl⟩:=r;rfl
 |xG _=>obtain⟨t,rfl⟩:=r;rfl
 |iO _=>obtain⟨t,rfl⟩:=r;rfl
 |ref _=>cases r;rfl
 |ty _=>cases r;rfl
def RelV.inj{x y:V}{u:Value}(r:RelV x u)(q:RelV y u):x=y:=ZA (r.abs.symm.trans q.abs)
theorem Vals.inj:∀{xs ys:List V}{us:List Value},Vals xs us->Vals ys us->xs=ys
 |_,_,_,.nil,.nil=>rfl
 |_,_,_,.cons r t,.cons bX t'=>by rw[r.inj bX,Vals.inj t t']
section
variable{X:aQ}{pins:List (Addr×Obj)}{σ:St}{H:aw}{s:Shared}{a:Addr}{xs ys:List V}
def eo.of{K:W.Frag}(h:H a=some (.lst xs)):eo K H a xs:=.inl (.inl h)
def Inv.list(I:Inv X pins σ H s)(h:eo X.K H a xs):∃its:List Value,Vals xs its/\PlainL s.heap a its.toArray/\xs.length<=sizeLine:=by
 rcases h with h|⟨o,its,n,ax,ag,hd,aa,hz,r⟩
 .obtain⟨z,its,n,r,e⟩:=h.ok I.bK;exact⟨its,r,⟨_,n,e,rfl,rfl,rfl⟩,z⟩
 .refine⟨its.toList,r,⟨o,n,I.fT a o ax,ag,hd,by simpa using aa⟩,?_⟩;have e:=r.length;simp only[Array.length_toList]at e;omega
def Inv.tuple(I:Inv X pins σ H s)(h:fp X.K H a xs):∃its:List Value,Vals xs its/\IsTup s.heap a its.toArray/\xs.length<=sizeLine:=by
 rcases h with h|⟨o,its,n,ax,ag,aa,hz,r⟩
 .obtain⟨z,its,r,p⟩:=h.ok I.bK;exact⟨its,r,p,z⟩
 .refine⟨its.toList,r,⟨o,I.fT a o ax,ag,n,by simpa using aa⟩,?_⟩;have e:=r.length;simp only[Array.length_toList]at e;omega
def Inv.Rd(I:Inv X pins σ H s)(h:eo X.K H a xs)(h':eo X.K H a ys):xs=ys:=by
 obtain⟨its,r,⟨o,n,e,_,_,d⟩,_⟩:=I.list h;obtain⟨its',bX,⟨bG,cn,bp,_,_,d'⟩,_⟩:=I.list h';rw[e]at bp;cases bp;rw[d]at d';injection d' with b9 _;have:its=its':=by simpa using Z8 Array.toList b9
 subst this;exact r.inj bX
def Inv.Xe(I:Inv X pins σ H s)(h:fp X.K H a xs)(h':fp X.K H a ys):xs=ys:=by
 obtain⟨its,r,⟨o,e,_,n,d⟩,_⟩:=I.tuple h;obtain⟨its',bX,⟨bG,bp,_,cn,d'⟩,_⟩:=I.tuple h';rw[e]at bp;cases bp;rw[d]at d';injection d' with b9 _;have:its=its':=by simpa using Z8 Array.toList b9
 subst this;exact r.inj bX
end
section
variable{X:aQ}{pins:List (Addr×Obj)}{σ:St}{H:aw}{s:Shared}{E:Value->Shared->Prop}
end
section
variable{X:aQ}{st:Stmt}{rest:List Stmt}{t u:gB}{e:Expr}{eM:TE}{pos:Pos}
noncomputable def Wt:gB:=λD σ H=>D.bJ σ H
noncomputable def WA(t u:gB):gB:=λD σ H=>t { D with bJ:=u D } σ H
def Tz:gV X [] Wt:=λ_ _ σ H _ I h=>acw ⟨σ,H,I,h⟩
def Tx(C:dY X st t)(J:gV X rest u):gV X (st::rest) (WA t u):=by
 intro pins s σ H D I h;refine wpAny_execs_cons (bF (C pins s σ H { D with bJ:=u D } I h) λf s1 q=>?_);cases f with
 |next =>
  obtain⟨c7,aq,gz,q⟩:=q;exact J pins s1 c7 aq D gz q
 |ret v=>exact q
 |brk=>exact q
 |cont=>exact q
def Inv.quiet{pins:List (Addr×Obj)}{σ:St}{H:aw}{s:Shared}(I:Inv X pins σ H s):interactive X.env=false:=by simp[interactive,I.ok.kind]
noncomputable def HV(eM:TE):gB:=λD σ H=>eM σ H λ_ H1=>D.bJ σ H1
def Ah(he:aM X e eM)(aa:swapsWith e none pos.line X.env=pure false:=by rfl):dY X (.Expr e pos) (HV eM):=by
 intro pins s σ H D I h;exact wpAny_Expr_any (bF (he pins s σ H _ I h) λv s1 ⟨x,H1,a3,aG,aU⟩=>⟨σ,H1,a3,aU⟩) I.quiet aa
noncomputable def oD(eM:TE):gB:=λD σ H=>eM σ H D.dE
def ve(he:aM X e eM):dY X (.Return (some e) pos) (oD eM):=by
 intro pins s σ H D I h;exact wpAny_Return_some (bF (he pins s σ H _ I h) λv s1 ⟨x,H1,a3,aG,aU⟩=>⟨x,σ,H1,a3,aG,aU⟩)
noncomputable def Wq(c:TT)(t u:gB):gB:=λD σ H=>c σ H λb H1=>if b=true then t D σ H1 else u D σ H1
def Tv{c:Expr}{a b:List Stmt}{i2:TT}(ag:eh X c i2)(aB:gV X a t)(ab:gV X b u):dY X (.If c a b pos) (Wq i2 t u):=by
 intro pins s σ H D I h;refine wpAny_If (bF (ag pins s σ H _ I h) λd s1 ⟨H1,a3,aU⟩=>?_);cases d with
 |true=>exact aB pins s1 σ H1 D a3 aU
 |false=>exact ab pins s1 σ H1 D a3 aU
end
noncomputable abbrev k4:=V->St->aw->(St->aw->Prop)->Prop
noncomputable abbrev mg:=List V->St->aw->(St->aw->Prop)->Prop
noncomputable def mc(X:aQ)(target:Expr)(t:k4):Prop :=
 ∀(pins:List (Addr×Obj))(s:Shared)(σ:St)(H:aw)(v:V)(u:Value)(Q:St->aw->Prop),Inv X pins σ H s->RelV v u->t v σ H Q ->
  wpAny (model X.prog X.w) X.A (assign target X.env u) (λ_ s'=>∃c7 aq,Inv X pins c7 aq s'/\Q c7 aq) X.cA s
noncomputable def qr(X:aQ)(ts:List Expr)(t:mg):Prop :=
 ∀(pins:List (Addr×Obj))(s:Shared)(σ:St)(H:aw)(ae:List V)(us:List Value)(Q:St->aw->Prop),Inv X pins σ H s->Vals ae us->t ae σ H Q ->
  wpAny (model X.prog X.w) X.A (assignInOrder ((assignEach ts X.env).map (·.2)) us) (λ_ s'=>∃c7 aq,Inv X pins c7 aq s'/\Q c7 aq) X.cA s
noncomputable abbrev Jf:=V->V->V->aw->(aw->Prop)->Prop
noncomputable def Je(X:aQ)(t:Jf):Prop :=
 ∀(pins:List (Addr×Obj))(s:Shared)(σ:St)(H:aw)(o i v:V)(m1 kz u:Value)(Q:aw->Prop),Inv X pins σ H s->RelV o m1->RelV i kz->RelV v u->t o i v H Q ->
  wpAny (model X.prog X.w) X.A (setItem m1 kz u) (λ_ s'=>∃aq,Inv X pins σ aq s'/\Q aq) X.cA s
section
variable{X:aQ}{pos:Pos}
noncomputable def yu(i:Nat):k4:=λv σ H Q=>Q (σ.set i (some v)) H
def Gh{i:Nat}{x:Str}(aK:X.N.Nodup)(ai:X.N[i]?=some x)(ao:Loc X.env.scope x)(hf:X.fn x=true\/X.env.scope.names.lookup x=some .local:=by first|exact .inl rfl|exact .inr rfl|assumption):mc X (.Name x pos) (yu i):=by
 intro pins s σ H v u Q I r h;exact wpAny_assign_Name (AO I aK ai ao r (λs' gz=>⟨_,H,gz,h⟩) hf)
noncomputable def DH:mg:=λae σ H Q=>ae=[]/\Q σ H
noncomputable def DF(t:k4)(u:mg):mg:=λae σ H Q=>∃v r,ae=v::r/\t v σ H λc7 aq=>u r c7 aq Q
def S3:qr X [] DH:=by
 intro pins s σ H ae us Q I r h;obtain⟨e,h⟩:=h;subst e;cases r;exact assignInOrder_nil ⟨σ,H,I,h⟩
def S2{e:Expr}{ah:List Expr}{t:k4}{u:mg}(C:mc X e t)(J:qr X ah u)(aa:(assignEach (e::ah) X.env).map (·.2)=assign e X.env::(assignEach ah X.env).map (·.2):=by rfl):qr X (e::ah) (DF t u):=by
 intro pins s σ H ae us Q I r h;obtain⟨v,YR,aj,h⟩:=h;subst aj;cases r with
 |cons r fL =>
  rw[aa];refine assignInOrder_cons (bF (C pins s σ H _ _ _ I r h) λ_ s1 ⟨qf,H1,a3,aU⟩=>?_);exact J pins s1 qf H1 _ _ Q a3 fL aU
noncomputable def N2(K:W.Frag)(n:Nat)(t:mg):k4:=λv σ H Q=>∃a xs,v=.ref a/\fp K H a xs/\xs.length=n/\t xs σ H Q
def S1{ah:List Expr}{k:Nat}{t:mg}{n:Nat}(ag:X.calm=true)(h:qr X ah t)(aD:(assignEach ah X.env).length=n:=by rfl)(cH:(assignEach ah X.env).findIdx? (·.1)=none:=by rfl):mc X (.Tuple ah k pos) (N2 X.K n t):=by
 intro pins s σ H v u Q I r hw;obtain⟨a,xs,aj,aL,aA,hw⟩:=hw;subst aj;cases r;obtain⟨its,bR,ay,hz⟩:=I.tuple aL;refine assign_Tuple_tuple (I.ok.hd ag) ay (by simp[aD,<- aA,bR.length]) cH λh' ao=>?_
 have a3:Inv X pins σ H { s with heap:=h' }:=I.kept (t':=s.toks) λb o e=>ao b o (Zh (Y5 e)) e
 exact h pins _ σ H xs _ Q a3 (by simpa using bR) hw
noncomputable def oC(eM:TE)(g:k4):gB:=λD σ H=>eM σ H λx H1=>g x σ H1 D.bJ
def sj{i:Nat}{x:Str}{e:Expr}{eM:TE}{pos':Pos}(aK:X.N.Nodup)(ai:X.N[i]?=some x)(ao:Loc X.env.scope x)(he:aM X e eM)(aa:swapsWith e (some (.Name x pos')) pos.line X.env=pure false:=by rfl)(hf:X.fn x=true\/X.env.scope.names.lookup x=some .local:=by first|exact .inl rfl|exact .inr rfl|assumption):
  dY X (.Assign [.Name x pos'] e pos) (oC eM (yu i)):=by
 intro pins s σ H D I h;refine wpAny_Assign_Name (bF (he pins s σ H _ I h) λv s1 ⟨y,H1,a3,aG,aU⟩=>?_) aa;exact AO a3 aK ai ao aG (λs2 cx=>⟨_,H1,cx,aU⟩) hf
end
section
variable{X:aQ}{pos:Pos}
noncomputable def WE(c:TT)(cS:gB):gB:=λD σ H=>∃W:Nat->St->aw->Prop,(∃m,W m σ H)/\∀m σ H,W m σ H ->
 c σ H λb H1=>if b=true then ∃N:St->aw->Prop,(∀c7 aq,N c7 aq->∃ib,ib<m/\W ib c7 aq)/\cS { D with bJ:=N,ct:=N,k6:=D.bJ } σ H1 else D.bJ σ H1
def Tw{c:Expr}{body:List Stmt}{i2:TT}{cS:gB}(az:PassesOwn (model X.prog X.w) X.A X.env X.cA)(ag:eh X c i2)(ab:gV X body cS):dY X (.While c body [] pos) (WE i2 cS):=by
 intro pins s σ H D I h;obtain⟨W,⟨m0,Bi⟩,turn⟩:=h;refine wpAny_While (codeAny_whileLoop (λn s'=>∃c7 aq,Inv X pins c7 aq s'/\W n c7 aq) ?_ m0 ⟨σ,H,I,Bi⟩);rintro n s1 ⟨qf,H1,a3,i4⟩;refine aaE az (bF (ag pins s1 qf H1 _ a3 (turn n qf H1 i4)) λb s2 ⟨aW,cx,bq⟩=>?_);cases b with
 |true =>
  obtain⟨N,aK,bq⟩:=bq;rw[if_pos rfl];refine aaE az (bF (ab pins s2 qf aW _ cx bq) λf s3 ck=>?_);cases f with
  |next =>
   obtain⟨jx,bP,eg,zV⟩:=ck;obtain⟨ib,hm,sM⟩:=aK jx bP zV;exact⟨ib,hm,jx,bP,eg,sM⟩
  |cont =>
   obtain⟨jx,bP,eg,zV⟩:=ck;obtain⟨ib,hm,sM⟩:=aK jx bP zV;exact⟨ib,hm,jx,bP,eg,sM⟩
  |brk=>exact ck
  |ret v=>exact ck
 |false =>
  rw[if_neg ZS];exact acw ⟨qf,aW,cx,bq⟩
end
structure jA where
 go:Nat->aw->Prop
 k0:Nat->aw->V->aw->Prop
 stop:Nat->aw->Prop
noncomputable def j5(X:aQ)(pins:List (Addr×Obj))(H:aw)(b:Addr):Prop :=
 H b=none/\b≠X.env.locals/\b∉X.bA/\(b∈X.ex\/X.fl.heap.objs.size<=b)/\(∀x c,X.env.cells.lookup x=some c->c≠b)/\∀p∈X.fV++pins,p.1≠b
def Inv.q6{X:aQ}{pins:List (Addr×Obj)}{σ:St}{H aq:aw}{s:Shared}{b:Addr}(I:Inv X pins σ H s)(ab:s.heap.objs.size<=b)(aD:aq b=none):j5 X pins aq b:=by
 refine⟨aD,Nat.ne_of_gt (Zj I.lt ab),I.RT ab,.inr (ZX I.gQ ab),λx c e z=>?_,λp az z=>?_⟩
 .obtain⟨v,q⟩:=I.cell x c e;exact absurd (Zj q.lt (by rw[z];exact ab)) (aau _)
 .exact absurd (Zj (Y5 (I.pin p az).1) (by rw[z];exact ab)) (aau _)
structure Turn(P:Program)(w:World)(K:W.Frag)(dx:Expr)(dB:jA)(bI:List Addr)(it:Addr)(ha:Nat->Heap->Prop):Prop where
 mem:it∈bI
 obj:∀i h,ha i h->∀b∈bI,∃o,h.get? b=some o/\∀v,o.data≠.cell v
 keep:∀i h h',ha i h->(∀b∈bI,∀o,h.get? b=some o->h'.get? b=some o)->ha i h'
 item:∀(X:aQ),X.prog=P->X.w=w->X.K=K->X.calm=true->∀(i:Nat)(pins:List (Addr×Obj))(s:Shared)(σ:St)(H:aw)(E:Value->Shared->Prop),Inv X pins σ H s->(∀b∈bI,j5 X pins H b)->ha i s.heap->dB.go i H ->
  wpAny (model P w) X.A (pyNext (.ref it)) (λr s1=>∃u,r=some u /\
   wpAny (model P w) X.A (letOwnedTupleGo dx (.ref it) u) (λ_ s2=>∃x aq,Inv X pins σ aq s2/\RelV x u/\dB.k0 i H x aq/\ha (i+1) s2.heap/\∀b∈bI,aq b=none) E s1) E s
 done:∀(X:aQ),X.prog=P->X.w=w->X.K=K->X.calm=true->∀(i:Nat)(pins:List (Addr×Obj))(s:Shared)(σ:St)(H:aw)(E:Value->Shared->Prop),Inv X pins σ H s->(∀b∈bI,j5 X pins H b)->ha i s.heap->dB.stop i H ->
  wpAny (model P w) X.A (pyNext (.ref it)) (λr s1=>r=none/\Inv X pins σ H s1) E s
 self:∀(A:Around)(i:Nat)(s:Shared)(Q:Value->Shared->Prop)(E:Value->Shared->Prop),ha i s.heap->Q (.ref it) s->wpAny (model P w) A (pyIter (.ref it)) Q E s
noncomputable abbrev TI:=St->aw->(jA->aw->Prop)->Prop
noncomputable def wA(X:aQ)(pins:List (Addr×Obj))(σ:St)(dx:Expr)(R:jA->aw->Prop)(zy:Value)(s2:Shared):Prop :=
 ∃(it:Addr)(bI:List Addr)(ha:Nat->Heap->Prop)(dB:jA)(aq:aw),zy=.ref it/\Inv X pins σ aq s2/\Turn X.prog X.w X.K dx dB bI it ha/\ha 0 s2.heap/\(∀b∈bI,j5 X pins aq b)/\R dB aq
noncomputable def hG(X:aQ)(dx iter:Expr)(qb:TI):Prop :=
 ∀(pins:List (Addr×Obj))(s:Shared)(σ:St)(H:aw)(R:jA->aw->Prop),Inv X pins σ H s->qb σ H R ->
  wpAny (model X.prog X.w) X.A (eval iter X.env) (λv s1=>wpAny (model X.prog X.w) X.A (pyIter v) (wA X pins σ dx R) X.cA s1) X.cA s
def tX {M : Model} {A : Around} {E : Value -> Shared -> Prop} {s : Shared} {dx : Expr} {it : Addr} {u : Value} {o : Obj} {n : String} {ae : Array Value} {Q : Unit -> Shared -> Prop} (av : s.heap.get? it = some o) (ag : o.cls = .type n) (hd : o.data = .fields ae)
    (aD : ["enumerate", "zip", "dict_itemiterator", "dict_reverseitemiterator", "odict_iterator", "itertools.zip_longest", "itertools.pairwise"].contains n = false) (es : Q () s) : wpAny M A (letOwnedTupleGo dx (.ref it) u) Q E s := by
  unfold letOwnedTupleGo
  cases dx <;> first
    | exact YY es
    | (cases u <;> first
        | exact YY es
        | (refine YW (wpAny_load av ?_)
           rw [ag, hd]
           show wpAny M A (if (["enumerate", "zip", "dict_itemiterator", "dict_reverseitemiterator", "odict_iterator", "itertools.zip_longest", "itertools.pairwise"].contains n && ae[0]? == some (rawInt _)) = true then _ else _) Q E s
           rw [if_neg (by intro h; rw [aD, abo] at h; cases h)]
           exact YY es))
noncomputable def wm(K:W.Frag)(a:Addr):jA :=
 ⟨λi H=>∃xs x,eo K H a xs/\xs[i]?=some x,λi H x aq=>aq=H/\∀xs,eo K H a xs->xs[i]?=some x,λi H=>∃xs,eo K H a xs/\xs.length<=i⟩
noncomputable def wo(K:W.Frag)(a:Addr):jA :=
 ⟨λi H=>∃xs x,fp K H a xs/\xs[i]?=some x,λi H x aq=>aq=H/\∀xs,fp K H a xs->xs[i]?=some x,λi H=>∃xs,fp K H a xs/\xs.length<=i⟩
noncomputable def oK(lo:Int)(n:Nat):jA:=⟨λi _=>i<n,λi H x aq=>aq=H/\x=.int (lo+i),λi _=>n<=i⟩
def Xj{P:Program}{w:World}{K:W.Frag}{dx:Expr}(a it:Addr):Turn P w K dx (wm K a) [it] it (λi h=>h.IsListIter it a i) where
 mem:=by simp
 obj:=λi h st b ab=>by
  have e:b=it:=(by simpa using ab);subst e;obtain⟨o,e,c,d⟩:=st;exact⟨o,e,λv z=>by rw[d]at z;cases z⟩
 keep:=λi h h' st k=>st.at λo e=>k it (by simp) o e
 item:=by
  intro X ej hw ho ag i pins s σ H E I hf st a4;subst ej hw ho;obtain⟨xs,x,aL,ao⟩:=a4;obtain⟨its,bR,p,hz⟩:=I.list aL;obtain⟨u,bw,cF⟩:=bR.get ao;obtain⟨f0,f1,f2,fg,f4,fh⟩:=hf it (by simp);refine wpAny_pyNext_list_item st p.isList (x:=u) (by simpa using bw) λh' bo dV=>?_
  have a3:Inv X pins σ H { s with heap:=h' }:=I.turned (t':=s.toks) (λb o ab e=>(dV.2 b ab).trans e) f0 f1 fg f4 fh;obtain⟨o,e,c,d⟩:=id bo;exact⟨u,rfl,tX (s:={ s with heap:=h' }) e c d (by decide) ⟨x,H,a3,cF,⟨rfl,λys aV=>by rw[I.Rd aV aL];exact ao⟩,bo,λb ab=>(hf b ab).1⟩⟩
 done:=by
  intro X ej hw ho ag i pins s σ H E I hf st a4;subst ej hw ho;obtain⟨xs,aL,ao⟩:=a4;obtain⟨its,bR,p,hz⟩:=I.list aL;obtain⟨f0,f1,f2,fg,f4,fh⟩:=hf it (by simp);have aA:=bR.length;exact wpAny_pyNext_list_end (I.ok.hd ag) st p.isList (by simp;omega) λh' eV=>⟨rfl,I.turned (t':=s.toks) (λb o ab e=>eV b o ab e) f0 f1 fg f4 fh⟩
 self:=λ_ _ _ _ _ st h=>wpAny_pyIter_listiter st h
def Xl{P:Program}{w:World}{K:W.Frag}{dx:Expr}(a it:Addr):Turn P w K dx (wo K a) [it] it (λi h=>h.IsTupleIter it a i) where
 mem:=by simp
 obj:=λi h st b ab=>by
  have e:b=it:=(by simpa using ab);subst e;obtain⟨o,e,c,d⟩:=st;exact⟨o,e,λv z=>by rw[d]at z;cases z⟩
 keep:=λi h h' st k=>st.at λo e=>k it (by simp) o e
 item:=by
  intro X ej hw ho ag i pins s σ H E I hf st a4;subst ej hw ho;obtain⟨xs,x,aL,ao⟩:=a4;obtain⟨its,bR,p,hz⟩:=I.tuple aL;obtain⟨u,bw,cF⟩:=bR.get ao;obtain⟨f0,f1,f2,fg,f4,fh⟩:=hf it (by simp);refine wpAny_pyNext_tuple_item st (show s.heap.IsTuple a its.toArray from p) (x:=u) (by simpa using bw) λh' bo dV=>?_
  have a3:Inv X pins σ H { s with heap:=h' }:=I.turned (t':=s.toks) (λb o ab e=>(dV.2 b ab).trans e) f0 f1 fg f4 fh;obtain⟨o,e,c,d⟩:=id bo;exact⟨u,rfl,tX (s:={ s with heap:=h' }) e c d (by decide) ⟨x,H,a3,cF,⟨rfl,λys aV=>by rw[I.Xe aV aL];exact ao⟩,bo,λb ab=>(hf b ab).1⟩⟩
 done:=by
  intro X ej hw ho ag i pins s σ H E I hf st a4;subst ej hw ho;obtain⟨xs,aL,ao⟩:=a4;obtain⟨its,bR,p,hz⟩:=I.tuple aL;obtain⟨f0,f1,f2,fg,f4,fh⟩:=hf it (by simp);have aA:=bR.length;exact wpAny_pyNext_tuple_end (I.ok.hd ag) st (show s.heap.IsTuple a its.toArray from p) (by simp;omega) λh' eV=>⟨rfl,I.turned (t':=s.toks) (λb o ab e=>eV b o ab e) f0 f1 fg f4 fh⟩
 self:=λ_ _ _ _ _ st h=>wpAny_pyIter_tupleiter st h
def Xk{P:Program}{w:World}{K:W.Frag}{dx:Expr}(it:Addr)(lo:Int)(n:Nat):Turn P w K dx (oK lo n) [it] it (λi h=>IsRangeIter h it (lo+(i:Nat)*1) ((n:Int)-(i:Nat)) 1) where
 mem:=by simp
 obj:=λi h st b ab=>by
  have e:b=it:=(by simpa using ab);subst e;exact⟨_,st,λv z=>by
   have ij:Data.fields _=Data.cell v:=z;cases ij⟩
 keep:=λi h h' st k=>k it (by simp) _ st
 item:=by
  intro X ej hw ho ag i pins s σ H E I hf st a4;subst ej hw ho;obtain⟨f0,f1,f2,fg,f4,fh⟩:=hf it (by simp);have W:=Walks.range (prog:=X.prog) (w:=X.w) (I.ok.hd ag) it lo 1 n;refine W.item i s _ _ a4 st λv h' tk aN bo dU=>?_
  obtain⟨t,rfl⟩:=aN;have a3:Inv X pins σ H { s with heap:=h',toks:=tk }:=I.turned (λb o ab e=>dU b o (by simpa using ab) e) f0 f1 fg f4 fh;refine⟨_,rfl,tX (s:={ s with heap:=h',toks:=tk }) (n:="range_iterator") bo rfl rfl (by decide) ⟨.int (lo+i),H,a3,⟨t,?_⟩,⟨rfl,rfl⟩,bo,λb ab=>(hf b ab).1⟩⟩;rw[Int.mul_one]
 done:=by
  intro X ej hw ho ag i pins s σ H E I hf st a4;subst ej hw ho;obtain⟨f0,f1,f2,fg,f4,fh⟩:=hf it (by simp);exact wpAny_pyNext_range_end (I.ok.hd ag) st (by have:n<=i:=a4;omega) λh' eV=>⟨rfl,I.turned (t':=s.toks) (λb o ab e=>eV b o ab e) f0 f1 fg f4 fh⟩
 self:=λ_ _ _ _ _ st h=>wpAny_pyIter_rangeiter st h
end bM
namespace bM
open PySem PySem.Spec PyProof.Rows
section
variable{X:aQ}{dx:Expr}
def GA{pins:List (Addr×Obj)}{σ:St}{H:aw}{s:Shared}{R:jA->aw->Prop}{E:Value->Shared->Prop}{lo ai:Int}{t u v:Tok}{tk:Nat}(I:Inv X pins σ H s)(C:-(2 ^ 62)<=lo)(J:lo<2 ^ 62)(aC:-(2 ^ 62)<=ai)(aT:ai<2 ^ 62)(q:R (oK lo (ai-lo).toNat) H):wpAny (model X.prog X.w) X.A (pyIter (.ref s.heap.objs.size)) (wA X pins σ dx R) E { s with heap:=s.heap.push { cls:=.type "range",data:=.fields #[.int lo t,.int ai u,.int 1 v] },toks:=tk }:=by
 refine wpAny_pyIter_range (IsRange.new ..) (small_one C J aC aT) ?_;have a3:Inv X pins σ H { s with heap:=s.heap.push { cls:=.type "range",data:=.fields #[.int lo t,.int ai u,.int 1 v] },toks:=tk }:=I.kept λb o e=>YZ _ e
 refine⟨(s.heap.push { cls:=.type "range",data:=.fields #[.int lo t,.int ai u,.int 1 v] }).objs.size,[(s.heap.push { cls:=.type "range",data:=.fields #[.int lo t,.int ai u,.int 1 v] }).objs.size],_,_,H,rfl,
  a3.kept (t':=tk) λb o e=>YZ _ e,Xk _ lo (ai-lo).toNat,?_,λb ab=>?_,q⟩
 .have aj:lo+((0:Nat):Int)*1=lo:=(by simp);have ak:(((ai-lo).toNat:Nat):Int)-((0:Nat):Int)=Builtin.Range.rangeSize lo ai 1:=(by rw[rangeSize_one];split<;>omega);show IsRangeIter _ _ (lo+((0:Nat):Int)*1) ((((ai-lo).toNat:Nat):Int)-((0:Nat):Int)) 1;rw[aj,ak];exact Y7 _ rfl
 .have e:b=(s.heap.push { cls:=.type "range",data:=.fields #[.int lo t,.int ai u,.int 1 v] }).objs.size:=(by simpa using ab);subst e;exact a3.q6 (Y2 _) (a3.bK.fresh (Y2 _))
noncomputable def P1(cC:gk):TI:=λσ H R=>cC σ H λae H1=>∃j:Int,ae=[.int j]/\-(2 ^ 62)<=j/\j<2 ^ 62/\R (oK 0 j.toNat) H1
noncomputable def P2(cC:gk):TI:=λσ H R=>cC σ H λae H1=>∃i j:Int,ae=[.int i,.int j]/\(-(2 ^ 62)<=i/\i<2 ^ 62/\-(2 ^ 62)<=j/\j<2 ^ 62)/\R (oK i (j-i).toNat) H1
def S4{a:Expr}{cC:gk}{p pos:Pos}(a4:eU X "range")(hm:X.aX "range"=none)(aB:fO X [a] cC)(aa:starEach [a] X.env=[(false,eval a X.env)]:=by rfl):hG X dx (.Call (.Name "range" p) [a] [] pos) (P1 cC):=by
 intro pins s σ H R I h;refine Call_ (kA I a4 hm boot_range (ZN (bF (aB pos pins s σ H _ I h) λus s1 ⟨ae,H1,a3,aG,aU⟩=>?_) aa rfl));obtain⟨j,e,aU,bq,q⟩:=aU;subst e;cases aG with
 |cons r fL =>
  cases fL;obtain⟨t,rfl⟩:=r;exact call_range_1 (GA a3 (by omega) (by omega) aU bq (by simpa using q))
def S5{a b:Expr}{cC:gk}{p pos:Pos}(a4:eU X "range")(hm:X.aX "range"=none)(aB:fO X [a,b] cC)(aa:starEach [a,b] X.env=[(false,eval a X.env),(false,eval b X.env)]:=by rfl)(zj:starEach [b] X.env=[(false,eval b X.env)]:=by rfl):
  hG X dx (.Call (.Name "range" p) [a,b] [] pos) (P2 cC):=by
 intro pins s σ H R I h;refine Call_ (kA I a4 hm boot_range (ZN (bF (aB pos pins s σ H _ I h) λus s1 ⟨ae,H1,a3,aG,aU⟩=>?_) (by rw[aa,zj]) (by rw[zj];rfl)));obtain⟨i,j,e,⟨aU,bq,ck,dz⟩,q⟩:=aU;subst e;cases aG with
 |cons r fL =>
  cases fL with
  |cons bX fL =>
   cases fL;obtain⟨t,rfl⟩:=r;obtain⟨t',rfl⟩:=bX;exact call_range_2 (GA a3 aU bq ck dz q)
noncomputable def vI(qb:TI)(g:k4)(cS:gB):gB:=λD σ H=>qb σ H λdB H1=>∃W:Nat->Nat->St->aw->Prop,(∃m,W 0 m σ H1)/\∀i m σ H,W i m σ H ->
 (dB.stop i H/\D.bJ σ H)\/(dB.go i H/\∃N:St->aw->Prop,(∀c7 aq,N c7 aq->∃ib,ib<m/\W (i+1) ib c7 aq)/\∀x aq,dB.k0 i H x aq->g x σ aq λng aW=>cS { D with bJ:=N,ct:=N,k6:=D.bJ } ng aW)
noncomputable def vc(bI:List Addr)(h:Heap):List (Addr×Obj):=bI.filterMap λb=>(h.get? b).map λo=>(b,o)
def pF{bI:List Addr}{h:Heap}{b:Addr}{o:Obj}(ab:b∈bI)(e:h.get? b=some o):(b,o)∈vc bI h:=abj.mpr ⟨b,ab,by rw[e];rfl⟩
def R3{bI:List Addr}{h:Heap}{p:Addr×Obj}(az:p∈vc bI h):p.1∈bI/\h.get? p.1=some p.2:=by
 obtain⟨b,ab,e⟩:=abj.mp az;cases q:h.get? b with
 |none=>rw[q]at e;cases e
 |some o =>
  rw[q]at e;have bp:(b,o)=p:=ZA e;subst bp;exact⟨ab,q⟩
def Inv.pinned{pins:List (Addr×Obj)}{σ:St}{H:aw}{s:Shared}{bI:List Addr}(I:Inv X pins σ H s)(hf:∀b∈bI,j5 X pins H b)(av:∀b∈bI,∃o,s.heap.get? b=some o/\∀v,o.data≠.cell v):Inv X (pins++vc bI s.heap) σ H s :=
 I.Ab λp az=>(Zg.mp az).elim (λz=>I.pin p (Zc _ z)) λz=>by
  obtain⟨ab,e⟩:=R3 z;obtain⟨f0,f1,f2,_⟩:=hf p.1 ab;obtain⟨o,bp,d⟩:=av p.1 ab;rw[e]at bp;cases bp;exact⟨e,f0,f1,f2,d⟩
def Inv.p8{pins cE:List (Addr×Obj)}{σ:St}{H:aw}{s:Shared}(I:Inv X (pins++cE) σ H s):Inv X pins σ H s:=I.Ab λp az=>I.pin p (Zc _ (List.mem_append_left _ az))
def Tu{iter:Expr}{body:List Stmt}{qb:TI}{g:k4}{cS:gB}{pos:Pos}(az:PassesOwn (model X.prog X.w) X.A X.env X.cA)(ag:X.calm=true)(ai:hG X dx iter qb)(a4:mc X dx g)(ab:gV X body cS)(aa:∀x,foldedSetIterable iter X.env x=pure x:=by intro _;rfl):dY X (.For dx iter body [] pos) (vI qb g cS):=by
 intro pins s σ H D I h;refine wpAny_For (bF (ai pins s σ H _ I h) λv s1 C=>bF C λzy s2 J=>?_) aa;obtain⟨it,bI,ha,dB,aW,e,cx,T,hu,f2,W,⟨m0,Bi⟩,turn⟩:=J;subst e;have AM:∀{aq:aw},(∀b∈bI,aq b=none)->∀b∈bI,j5 X pins aq b:=λaD b ab=>⟨aD b ab,(f2 b ab).2⟩
 refine codeAny_forLoop_any (λn s'=>∃i c7 aq,Inv X pins c7 aq s'/\ha i s'.heap/\(∀b∈bI,aq b=none)/\W i n c7 aq) ?_ m0 ⟨0,σ,aW,cx,hu,λb ab=>(f2 b ab).1,Bi⟩;rintro n s3 ⟨i,jx,bP,eg,hS,DC,sM⟩;rcases turn i n jx bP sM with⟨stop,TN⟩|⟨go,N,aK,step⟩
 .refine aaE az (bF (T.done X rfl rfl rfl ag i pins s3 jx bP X.cA eg (AM DC) hS stop) λr s4 ⟨a9,fo⟩=>?_);subst a9;exact acw ⟨jx,bP,fo,TN⟩
 .refine aaE az (bF (T.item X rfl rfl rfl ag i pins s3 jx bP X.cA eg (AM DC) hS go) λr s4 ⟨u,a9,aT⟩=>?_);subst a9;refine aaE az (bF aT λ_ s5 ⟨x,l9,ma,jr,Bm,lX,yo⟩=>?_);have wi:=ma.pinned (AM yo) (T.obj _ _ lX);refine aaE az (bF (a4 _ s5 jx l9 x u _ wi jr (step x l9 Bm)) λ_ G3 ⟨wb,ni,wj,Aj⟩=>?_);refine aaE az (bF (ab _ G3 wb ni _ wj Aj) λf sv m5=>?_);have again:∀{j1:St}{hD:aw},Inv X (pins++vc bI s5.heap) j1 hD sv->N j1 hD->∃m,m<n/\∃i c7 aq,Inv X pins c7 aq sv/\ha i sv.heap/\(∀b∈bI,aq b=none)/\W i m c7 aq:=λ{j1 hD} hE r7=>by
   obtain⟨ib,hm,XD⟩:=aK j1 hD r7;refine⟨ib,hm,i+1,j1,hD,hE.p8,T.keep _ _ _ lX λb ab o e=>(hE.pin (b,o) (Zc _ (Zc _ (pF ab e)))).1,λb ab=>?_,XD⟩;obtain⟨o,e,d⟩:=T.obj _ _ lX b ab;exact(hE.pin (b,o) (Zc _ (Zc _ (pF ab e)))).2.1
  cases f with
  |next=>obtain⟨j1,hD,hE,r7⟩:=m5;exact again hE r7
  |cont=>obtain⟨j1,hD,hE,r7⟩:=m5;exact again hE r7
  |brk=>obtain⟨j1,hD,hE,m5⟩:=m5;exact⟨j1,hD,hE.p8,m5⟩
  |ret v=>obtain⟨nf,j1,hD,hE,Ak,m5⟩:=m5;exact⟨nf,j1,hD,hE.p8,Ak,m5⟩
end
end bM
namespace bM
open PySem PySem.Spec PyProof.Rows
noncomputable abbrev gi:=V->V->aw->c0->Prop
noncomputable def dk(X:aQ)(f:Value->Value->Sem Value)(r:gi):Prop :=
 ∀(pins:List (Addr×Obj))(s:Shared)(σ:St)(H:aw)(x y:V)(v u:Value)(Q:c0),Inv X pins σ H s->RelV x v->RelV y u->r x y H Q ->
  wpAny (model X.prog X.w) X.A (f v u) (eN X pins σ Q) X.cA s
noncomputable def wC(X:aQ)(f:Value->Sem Value)(r:V->aw->c0->Prop):Prop :=
 ∀(pins:List (Addr×Obj))(s:Shared)(σ:St)(H:aw)(x:V)(v:Value)(Q:c0),Inv X pins σ H s->RelV x v->r x H Q ->
  wpAny (model X.prog X.w) X.A (f v) (eN X pins σ Q) X.cA s
noncomputable def hB(X:aQ)(f:Value)(r:List V->aw->c0->Prop):Prop :=
 ∀(pins:List (Addr×Obj))(s:Shared)(σ:St)(H:aw)(xs:List V)(us:List Value)(Q:c0),Inv X pins σ H s->Vals xs us->r xs H Q ->
  wpAny (model X.prog X.w) X.A (call f us) (eN X pins σ Q) X.cA s
noncomputable def sH(r:gi)(cC cS:TE):TE:=λσ H Q=>cC σ H λx H1=>cS σ H1 λy aW=>r x y aW Q
noncomputable def WD(r:V->aw->c0->Prop)(cC:TE):TE:=λσ H Q=>cC σ H λx H1=>r x H1 Q
noncomputable def vg(bH:Int->Int->Prop)(g:Int->Int->V):gi:=λx y H Q=>∃i j,x=.int i/\y=.int j/\bH i j/\Q (g i j) H
noncomputable def kM(g:Int->Int->V):gi:=λx y H Q=>∃i j,x=.int i/\y=.int j/\Q (g i j) H
noncomputable def Gy(g:Int->V):V->aw->c0->Prop:=λx H Q=>∃i,x=.int i/\Q (g i) H
section
variable{X:aQ}{a b c:Expr}{cC cS i2:TE}{pos:Pos}
def xC(aB:aM X a cC)(ab:aM X b cS){pins:List (Addr×Obj)}{s:Shared}{σ:St}{H:aw}{R:V->V->aw->Prop}(I:Inv X pins σ H s)(h:cC σ H λx H1=>cS σ H1 λy aW=>R x y aW){Q:Value->Shared->Prop}{f:Value->Value->Sem Value}(hf:∀v u s2 x y aW,Inv X pins σ aW s2->RelV x v->RelV y u->R x y aW->wpAny (model X.prog X.w) X.A (f v u) Q X.cA s2):
  wpAny (model X.prog X.w) X.A (eval a X.env) (λv cM=>wpAny (model X.prog X.w) X.A (eval b X.env) (λu gw=>wpAny (model X.prog X.w) X.A (f v u) Q X.cA gw) X.cA cM) X.cA s:=by
 refine bF (aB pins s σ H _ I h) λv s1 ⟨x,H1,a3,aG,aU⟩=>?_
 refine bF (ab pins s1 σ H1 _ a3 aU) λu s2 ⟨y,aW,cx,aZ,bq⟩=>?_
 exact hf v u s2 x y aW cx aG aZ bq
def SK{op:Operator}{r:gi}(av:dk X (binaryOp op) r)(aB:aM X a cC)(ab:aM X b cS):aM X (.BinOp a op b pos) (sH r cC cS):=by
 intro pins s σ H Q I h;exact wpAny_BinOp (xC aB ab I h λv u s2 x y aW cx a7 bO q=>av pins s2 σ aW x y v u Q cx a7 bO q)
def SQ{op:UnaryOp}{r:V->aw->c0->Prop}(av:wC X (unaryOp op) r)(aB:aM X a cC):aM X (.UnaryOp op a pos) (WD r cC):=by
 intro pins s σ H Q I h;exact UnaryOp_ (bF (aB pins s σ H _ I h) λv s1 ⟨x,H1,a3,aG,aU⟩=>av pins s1 σ H1 x v Q a3 aG aU)
def z2{f:Value->Value->Sem Value}{bH:Int->Int->Prop}{g:Int->Int->Int}(rule:∀(i j:Int)(t u:Tok)(s:Shared)(Q:Value->Shared->Prop)(E:Value->Shared->Prop),bH i j->Q (.int (g i j) s.toks) { s with toks:=s.toks+1 }->wpAny (model X.prog X.w) X.A (f (.int i t) (.int j u)) Q E s):
  dk X f (vg bH λi j=>.int (g i j)):=by
 intro pins s σ H x y v u Q I a7 bO h;obtain⟨i,j,rfl,rfl,ag,q⟩:=h;obtain⟨t,rfl⟩:=a7;obtain⟨t',rfl⟩:=bO;exact rule i j t t' s _ _ ag ⟨.int (g i j),H,I.tok _,⟨_,rfl⟩,q⟩
def u5{f:Value->Value->Sem Value}{g:Int->Int->Int}(rule:∀(i j:Int)(t u:Tok)(s:Shared)(Q:Value->Shared->Prop)(E:Value->Shared->Prop),Q (.int (g i j) s.toks) { s with toks:=s.toks+1 }->wpAny (model X.prog X.w) X.A (f (.int i t) (.int j u)) Q E s):
  dk X f (kM λi j=>.int (g i j)):=by
 intro pins s σ H x y v u Q I a7 bO h;obtain⟨i,j,rfl,rfl,q⟩:=h;obtain⟨t,rfl⟩:=a7;obtain⟨t',rfl⟩:=bO;exact rule i j t t' s _ _ ⟨.int (g i j),H,I.tok _,⟨_,rfl⟩,q⟩
def u4{f:Value->Value->Sem Value}{g:Int->Int->Bool}(rule:∀(i j:Int)(t u:Tok)(s:Shared)(Q:Value->Shared->Prop)(E:Value->Shared->Prop),Q (.bool (g i j)) s->wpAny (model X.prog X.w) X.A (f (.int i t) (.int j u)) Q E s):
  dk X f (kM λi j=>.aO (g i j)):=by
 intro pins s σ H x y v u Q I a7 bO h;obtain⟨i,j,rfl,rfl,q⟩:=h;obtain⟨t,rfl⟩:=a7;obtain⟨t',rfl⟩:=bO;exact rule i j t t' s _ _ ⟨.aO (g i j),H,I,rfl,q⟩
noncomputable def I0(i j:Int):Prop:=0<j/\j<1073741824
noncomputable def we(i j:Int):Prop:=(-(2 ^ 64)<i/\i<2 ^ 64)\/(-(2 ^ 64)<j/\j<2 ^ 64)
def we.ok{i j:Int}(h:we i j):IntMulOk i j:=by
 rcases h with⟨C,J⟩|⟨C,J⟩
 .exact .of_left (intBits_le_64 C J)
 .exact .of_right (intBits_le_64 C J)
def R7:dk X (binaryOp .Add) (kM λi j=>.int (i+j)):=u5 λ_ _ _ _ _ _ _ q=>add_int q
def Sh:dk X (binaryOp .Sub) (kM λi j=>.int (i-j)):=u5 λ_ _ _ _ _ _ _ q=>sub_int q
def Sg:dk X (binaryOp .Mult) (vg we λi j=>.int (i*j)):=z2 λ_ _ _ _ _ _ _ ag q=>mul_int q ag.ok
def R8:dk X (binaryOp .FloorDiv) (vg I0 λi j=>.int (i / j)):=z2 λi j _ _ _ _ _ ag q=>by
 have C:(0:Int)<j:=ag.1;have J:j<1073741824:=ag.2;exact floordiv_int (by omega) (by rw[Int.fdiv_eq_ediv_of_nonneg i (by omega)];exact q) (.inl (PyProof.noPylong_small (by omega)))
def Sf:dk X (binaryOp .Mod) (vg (λ_ j=>0<j) λi j=>.int (i%j)):=z2 λi j _ _ _ _ _ ag q=>by
 have C:(0:Int)<j:=ag;exact mod_int' (by omega) (by rw[Int.fmod_eq_emod_of_nonneg i (by omega)];exact q)
def F4:dk X (binaryOp .BitAnd) (kM λi j=>.int (Builtin.bitAnd i j)):=u5 λ_ _ _ _ _ _ _ q=>and_int q
def Si:dk X (binaryOp .BitXor) (kM λi j=>.int (Builtin.bitXor i j)):=u5 λ_ _ _ _ _ _ _ q=>xor_int q
def Io{f:Value->Sem Value}{g:Int->Int}(rule:∀(i:Int)(t:Tok)(s:Shared)(Q:Value->Shared->Prop)(E:Value->Shared->Prop),Q (.int (g i) s.toks) { s with toks:=s.toks+1 }->wpAny (model X.prog X.w) X.A (f (.int i t)) Q E s):
  wC X f (Gy λi=>.int (g i)):=by
 intro pins s σ H x v Q I a7 h;obtain⟨i,rfl,q⟩:=h;obtain⟨t,rfl⟩:=a7;exact rule i t s _ _ ⟨.int (g i),H,I.tok _,⟨_,rfl⟩,q⟩
def Xp:wC X (unaryOp .USub) (Gy λi=>.int (-i)):=Io λ_ _ _ _ _ q=>neg_int q
end
section
variable{X:aQ}{a b c:Expr}{cC cS i2:TE}{pos:Pos}
def Sd:dk X (compareOp .Lt) (kM λi j=>.aO (decide (i<j))):=u4 λ_ _ _ _ _ _ _ q=>lt_int q
def Sb:dk X (compareOp .LtE) (kM λi j=>.aO (decide (i<=j))):=u4 λ_ _ _ _ _ _ _ q=>le_int q
def Sa:dk X (compareOp .Gt) (kM λi j=>.aO (decide (j<i))):=u4 λ_ _ _ _ _ _ _ q=>gt_int q
def R9:dk X (compareOp .GtE) (kM λi j=>.aO (decide (j<=i))):=u4 λ_ _ _ _ _ _ _ q=>ge_int q
def Sz{op:CmpOp}{r:gi}(av:dk X (compareOp op) r)(aB:aM X a cC)(ab:aM X b cS)(hm:behindInMarks op b=false):aM X (.Compare a [op] [b] pos) (sH r cC cS):=by
 intro pins s σ H Q I h;exact wpAny_Compare1 (xC aB ab I h λv u s2 x y aW cx a7 bO q=>av pins s2 σ aW x y v u Q cx a7 bO q) hm
noncomputable def HX(t:TE):TT:=λσ H Q=>t σ H λx aq=>∃k,x=.aO k/\Q k aq
def TB{op:CmpOp}{r:gi}(av:dk X (compareOp op) r)(aB:aM X a cC)(ab:aM X b cS)(hm:behindInMarks op b=false):eh X (.Compare a [op] [b] pos) (HX (sH r cC cS)):=by
 intro pins s σ H Q I h;refine wpAny_isTrue_Compare1 (bF (aB pins s σ H _ I h) λv s1 ⟨x,H1,a3,aG,aU⟩=>bF (ab pins s1 σ H1 _ a3 aU) λu s2 ⟨y,aW,cx,aZ,bq⟩ =>
  bF (av pins s2 σ aW x y v u _ cx aG aZ bq) λc s3 ⟨z,bP,eg,ee,k,e,ck⟩=>?_) hm
 subst e;cases ee;exact ZY ⟨bP,eg,ck⟩
noncomputable def AR(r bX:gi)(cC cS i2:TE):TE:=λσ H Q=>cC σ H λx H1=>cS σ H1 λy aW=>r x y aW λz bP=>∃k,z=.aO k /\
 (if k=true then i2 σ bP λdQ e0=>bX y dQ e0 Q else Q (.aO false) bP)
def Sy{op op':CmpOp}{r bX:gi}(av:dk X (compareOp op) r)(dI:dk X (compareOp op') bX)(aB:aM X a cC)(ab:aM X b cS)(ag:aM X c i2)(hm:lastMarks [op,op'] [b,c]=false:=by with_unfolding_all rfl):aM X (.Compare a [op,op'] [b,c] pos) (AR r bX cC cS i2):=by
 intro pins s σ H Q I h;refine Compare_chain (bF (aB pins s σ H _ I h) λv s1 ⟨x,H1,a3,aG,aU⟩=>chain_link (bF (ab pins s1 σ H1 _ a3 aU) λu s2 ⟨y,aW,cx,aZ,bq⟩ =>
  bF (av pins s2 σ aW x y v u _ cx aG aZ bq) λd s3 ⟨z,bP,eg,ee,k,e,ck⟩=>?_)) hm
 subst e;cases ee;refine ZY ?_;cases k with
 |false=>exact ite_ff ⟨.aO false,bP,eg,rfl,ck⟩
 |true=>exact ite_tt (chain_last (bF (ag pins s3 σ bP _ eg ck) λdQ s4 ⟨ij,e0,fo,gP,dz⟩=>dI pins s4 σ e0 y ij u dQ Q fo aZ gP dz))
def TA{op op':CmpOp}{r bX:gi}(av:dk X (compareOp op) r)(dI:dk X (compareOp op') bX)(aB:aM X a cC)(ab:aM X b cS)(ag:aM X c i2)(hm:lastMarks [op,op'] [b,c]=false:=by with_unfolding_all rfl):eh X (.Compare a [op,op'] [b,c] pos) (HX (AR r bX cC cS i2)):=by
 intro pins s σ H Q I h;refine isTrue_chain (bF (aB pins s σ H _ I h) λv s1 ⟨x,H1,a3,aG,aU⟩=>test_link (bF (ab pins s1 σ H1 _ a3 aU) λu s2 ⟨y,aW,cx,aZ,bq⟩ =>
  bF (av pins s2 σ aW x y v u _ cx aG aZ bq) λd s3 ⟨z,bP,eg,ee,k,e,ck⟩=>?_)) hm
 subst e;cases ee;refine ZY ?_;cases k with
 |false =>
  obtain⟨dd,bp,dq⟩:=ck;cases bp;exact ite_ff ⟨bP,eg,dq⟩
 |true =>
  refine ite_tt (test_last (bF (ag pins s3 σ bP _ eg ck) λdQ s4 ⟨ij,e0,fo,gP,dz⟩=>bF (dI pins s4 σ e0 y ij u dQ _ fo aZ gP dz) λd' s5 ⟨b0,l9,ma,jr,aR,ak,kK⟩=>?_));subst ak;cases jr;exact ZY ⟨l9,ma,kK⟩
def r0:(sizeLine:Nat)<2 ^ 63:=by rw[sizeLine_eq];decide
def vals1{x:V}{us:List Value}(r:Vals [x] us):∃u,us=[u]/\RelV x u:=by
 cases r with
 |cons aG aZ=>cases aZ;exact⟨_,rfl,aG⟩
def vals2{x y:V}{us:List Value}(r:Vals [x,y] us):∃u dQ,us=[u,dQ]/\RelV x u/\RelV y dQ:=by
 cases r with
 |cons aG aZ =>
  cases aZ with
  |cons ee gP=>cases gP;exact⟨_,_,rfl,aG,ee⟩
end
end bM
namespace bM
open PySem PySem.Spec PyProof.Rows
structure wy(h:Heap)(x bf bH:Addr)(fa:Str->Option Value):Prop where
 obj:h.get? x=some (PySem.W.instObj bH bf)
 ns:h.Ns1 bf fa
 ne:bf≠x
def Rg{h:Heap}{bf:Addr}{fa:Str->Option Value}(n:h.Ns1 bf fa):∃ba,h.get? bf=some ba/\∀name,PySem.W.lookIn name ba=some (fa name):=by
 obtain⟨o,ah,a6,av,hd,ax,_,hm⟩:=n;refine⟨o,av,λname=>?_⟩;have e:=hm name;unfold nsFind findBy at e;rw[<- Array.find?_toList]at e;unfold PySem.W.lookIn;rw[hd];dsimp only
 split
 .rename_i y q;rw[q]at e;exact Z8 some e
 .rename_i q;rw[q]at e;have a:ah.toList.any (·.refKey)=false:=by
   rw[ab8];intro y aV;obtain⟨z,t,y5⟩:=ax y (Array.mem_toList_iff.mp aV);simp[DictEntry.refKey,y5]
  have mi:¬ah.toList.any (·.refKey)=true:=(by rw[a];exact ZS);rw[if_neg mi];exact Z8 some e
def wy.look{h:Heap}{x bf bH:Addr}{fa:Str->Option Value}(I:wy h x bf bH fa):∃ba,PySem.W.InstAt h x (PySem.W.instObj bH bf) bH (some ba)/\∀name,PySem.W.lookIn name ba=some (fa name) :=
 let ⟨ba,av,aA⟩:=Rg I.ns
 ⟨ba,⟨I.obj,rfl,rfl,av⟩,aA⟩
section
variable{prog:Program}{w:World}{A:Around}{E:Value->Shared->Prop}{s:Shared}{K:W.Frag}{x bf bH f:Addr}{fa:Str->Option Value}{name:Str}{v:Value}
end
def iJ.some_of{v:V}{o:Option Value}(r:iJ (some v) o):∃u,o=some u/\RelV v u:=by
 cases o with
 |none=>exact(show False from r).elim
 |some u=>exact⟨u,rfl,r⟩
section
variable{P:Program}{w:World}{H aq:aw}{h h':Heap}{a bH bf:Addr}{bA NZ:List (Str×V)}
def uz(bK:en P w H h)(e:H a=some (.ins bH bf bA)):∃fa,wy h a bf bH fa/\(∀f,iJ (bA.lookup f) (fa f))/\PySem.Within fa (bA.map (·.1))/\bA.length<=1000/\H bf=some (.own a):=by
 obtain⟨d,z,ne,b8,fa,n,r,q⟩:=(show dR P w H h a (.ins bH bf bA) from bK a _ e);exact⟨fa,⟨b8,n,ne⟩,r,q,z,d⟩
end
structure hV(K:W.Frag)(bH:Addr):Prop where
 pg:PySem.W.plainGet K bH Str.empty=true
 hd:PySem.W.hasDictIn K bH=true
 po:PySem.W.plainOver K bH=true
 sx:PySem.W.findIn K (.ref bH) "__setattr__"=some (some (.builtin "object.__setattr__"))
def hV.get{K:W.Frag}{bH:Addr}(c:hV K bH)(f:Str):PySem.W.plainGet K bH f=true:=c.pg
structure X0(K:W.Frag)(bH:Addr)(f:Str)(v:V)(u:Value):Prop where
 at_:PySem.W.findIn K (.ref bH) f=some (some u)
 rel:RelV v u
 get:PySem.W.specialIn K u "__get__"=some none
 dZ:PySem.W.copiedNames.contains f=false
structure Meth(K:W.Frag)(bH:Addr)(m:Str)(f:Addr):Prop where
 at_:PySem.W.findIn K (.ref bH) m=some (some (.ref f))
 fn:PySem.W.isFn K (.ref f)=true
 ji:W.keepIn K (.ref f)=true
section
variable{X:aQ}{pins:List (Addr×Obj)}{σ:St}{H:aw}{s:Shared}{a bH bf:Addr}{bA:List (Str×V)}{f:Str}{v:V}{A:Around}{E:Value->Shared->Prop}
end
section
variable{X:aQ}{o e value:Expr}{f:Str}{pos pos' Xd:Pos}{cC kW:TE}
end
section
variable{X:aQ}{pins:List (Addr×Obj)}{σ:St}{H:aw}{s:Shared}{A:Around}{E:Value->Shared->Prop}{Q:Value->Shared->Prop}{c:Value}{b:Bool}
inductive i7(K:W.Frag)(H:aw):V->Value->Prop where
 |dp:i7 K H .dp (.type "NoneType")
 |aO (x:Bool):i7 K H (.aO x) (.type "bool")
 |int (i:Int):i7 K H (.int i) (.type "int")
 |str (x:Str):i7 K H (.str x) (.type "str")
 |iO (x:UInt64):i7 K H (.iO x) (.type "float")
 |lst {a:Addr} {xs:List V} (e:H a=some (.lst xs)):i7 K H (.ref a) (.type "list")
 |dv {a:Addr} {o:Obj} {xs:List V} (e:H a=some (.dv o (.lst xs))):i7 K H (.ref a) (.type "list")
 |tup {a:Addr} {xs:List V} (e:H a=some (.tup xs)):i7 K H (.ref a) (.type "tuple")
 |d0 {a:Addr} {af:List (Key×V)} (e:H a=some (.d0 af)):i7 K H (.ref a) (.type "dict")
 |dg {a:Addr} {af:List (List Key×V)} (e:H a=some (.dg af)):i7 K H (.ref a) (.type "dict")
 |ins {a bH bf:Addr} {bA:List (Str×V)} (e:H a=some (.ins bH bf bA)) (cl:hV K bH) (aB:PySem.W.findIn K (.ref bH) "__class__"=some (some (.builtin "object.__class__")))
   (aD:PySem.W.specialIn K (.builtin "object.__class__") "__get__"=some (some (.builtin "getset_descriptor.__get__"))) (Ew:PySem.W.takesIn K (.builtin "object.__class__")=some true)
   (hm:PySem.W.mroIn K bH (.type "object")=some true):i7 K H (.ref a) (.ref bH)
def uE{x:V}{u t:Value}(I:Inv X pins σ H s)(a7:RelV x u)(ty:i7 X.K H x t)(e:PySem.W.kitOne X.K t c=some b)(h:∀tk,Q (.bool b) { s with toks:=tk }):
  wpAny (model X.prog X.w) A (call (.builtin "isinstance") [u,c]) Q E s:=by
 cases ty with
 |dp=>cases (show u=Value.none from a7);exact ZC PySem.W.kitx_none I.fT True.intro e (λz=>nomatch z) h
 |aO y=>cases (show u=Value.bool y from a7);exact ZC PySem.W.kitx_bool I.fT True.intro e (λz=>nomatch z) h
 |int i=>obtain⟨t,q⟩:=(show ∃t,u=Value.int i t from a7);cases q;exact ZC PySem.W.kitx_int I.fT True.intro e (λz=>nomatch z) h
 |str y=>obtain⟨t,q⟩:=(show ∃t,u=Value.str y t from a7);cases q;exact ZC PySem.W.kitx_str I.fT True.intro e (λz=>nomatch z) h
 |iO y=>obtain⟨t,q⟩:=(show ∃t,u=Value.float y t from a7);cases q;exact ZC PySem.W.kitx_float I.fT True.intro e (λz=>nomatch z) h
 |@lst a xs eL =>
  cases (show u=Value.ref a from a7);obtain⟨_,_,n,_,C⟩:=(show dR X.prog X.w H s.heap a (.lst xs) from I.bK a _ eL);exact ZC ab9 I.fT ⟨_,C,rfl⟩ e (λz=>nomatch z) h
 |@dv a b8 xs eL =>
  cases (show u=Value.ref a from a7);obtain⟨_,_,_,n,_,C⟩:=(show dR X.prog X.w H s.heap a (.dv b8 (.lst xs)) from I.bK a _ eL);exact ZC ab9 I.fT ⟨_,C,rfl⟩ e (λz=>nomatch z) h
 |@tup a xs eL =>
  cases (show u=Value.ref a from a7);obtain⟨_,_,_,p⟩:=(show dR X.prog X.w H s.heap a (.tup xs) from I.bK a _ eL);obtain⟨o,C,J,_⟩:=p;exact ZC PySem.W.kitx_tuple I.fT ⟨o,C,J⟩ e (λz=>nomatch z) h
 |@d0 a af eL =>
  cases (show u=Value.ref a from a7);obtain⟨_,_,ae,_,p⟩:=(show dR X.prog X.w H s.heap a (.d0 af) from I.bK a _ eL);obtain⟨o,ah,a6,C,J,_⟩:=p;exact ZC aa3 I.fT ⟨o,C,J.1⟩ e (λz=>nomatch z) h
 |@dg a af eL =>
  cases (show u=Value.ref a from a7);obtain⟨_,_,xs,_,o,ah,a6,C,J,_⟩:=(show dR X.prog X.w H s.heap a (.dg af) from I.bK a _ eL);exact ZC aa3 I.fT ⟨o,C,J.1⟩ e (λz=>nomatch z) h
 |@ins a bH bf bA eL cl aB aD Ew hm =>
  cases (show u=Value.ref a from a7);obtain⟨fa,O,_⟩:=uz I.bK eL;obtain⟨ba,dB,_⟩:=O.look;exact ZC (PySem.W.kitx_own (cl.get _) cl.hd aB aD Ew hm) I.fT dB e (λz=>nomatch z) h
end
end bM
namespace bM
open PySem PySem.Spec PyProof.Rows
structure gj(k:Nat)(A:Around):Prop where
 hd:A.handled=none
 mx:A.depth+3*k+5<recursionLimit
 un:A.units+16*k+200<cLine
def gj.mono{j k:Nat}{A:Around}(r:gj k A)(h:j<=k):gj j A:=⟨r.hd,by have:=r.mx;omega,by have:=r.un;omega⟩
theorem gj.deeper{k:Nat}{A:Around}(r:gj (k+1) A)(env:Env):gj k (A.deeper env) :=
 ⟨r.hd,by have:=r.mx;show A.depth+1+3*k+5<_;omega,by have:=r.un;show A.units+3+16*k+200<_;omega⟩
theorem gj.depth{k:Nat}{A:Around}(r:gj k A):A.depth<recursionLimit:=by have:=r.mx;omega
theorem gj.units{k:Nat}{A:Around}(r:gj k A):A.units+64<cLine:=by have:=r.un;omega
noncomputable def AU:gk:=λ_ H Q=>Q [] H
noncomputable def vG(cC:TE)(fM:gk):gk:=λσ H Q=>cC σ H λx H1=>fM σ H1 λxs aW=>Q (x::xs) aW
section
variable{X:aQ}{e:Expr}{ah:List Expr}{eM:TE}{t:gk}{pos:Pos}
def z6:fO X [] AU:=λ_ _ _ _ H Q I h=>aa4 ⟨[],H,I,.nil,h⟩
def pN(aB:aM X e eM)(a9:fO X ah t)(aa:starEach (e::ah) X.env=(false,eval e X.env)::starEach ah X.env:=by rfl):fO X (e::ah) (vG eM t):=by
 intro pos pins s σ H Q I h;rw[aa];show wpAny _ _ (spliced ((false,eval e X.env)::backTo pos (starEach ah X.env))) _ _ s;refine aaz (bF (aB pins s σ H _ I h) λu s1 ⟨x,H1,a3,aG,aU⟩=>?_);exact bF (a9 pos pins s1 σ H1 _ a3 aU) λus s2 ⟨xs,aW,cx,aZ,bq⟩=>⟨x::xs,aW,cx,.cons aG aZ,bq⟩
noncomputable def WC(t:gk):TE:=λσ H Q=>t σ H λxs H1=>xs.length<=sizeLine/\∀p,H1 p=none->Q (.ref p) (upd H1 p (.tup xs))
noncomputable def Ws(t:gk):TE:=λσ H Q=>t σ H λxs H1=>xs.length<=sizeLine/\∀p,H1 p=none->Q (.ref p) (upd H1 p (.lst xs))
def SP{aP}(h:fO X ah t):aM X (.Tuple ah aP pos) (WC t):=by
 intro pins s σ H Q I aL;refine wpAny_Tuple_spliced (bF (h pos pins s σ H _ I aL) λus s1 ⟨xs,H1,a3,r,z,q⟩=>⟨by rw[<- r.length];exact z,?_⟩);have hf:H1 s1.heap.objs.size=none:=a3.bK.fresh (Y2 _);refine⟨.ref s1.heap.objs.size,upd H1 s1.heap.objs.size (.tup xs),a3.laid (t':=s1.toks) (λb u e=>YZ _ e) (Y2 _) ?_,rfl,q _ hf⟩;exact⟨z,us,r,⟨_,Y7 _ rfl,rfl,_,rfl⟩⟩
def SH(h:fO X ah t):aM X (.List ah pos) (Ws t):=by
 intro pins s σ H Q I aL;refine wpAny_List_spliced (bF (h pos pins s σ H _ I aL) λus s1 ⟨xs,H1,a3,r,z,q⟩=>⟨by rw[<- r.length];exact z,?_⟩);have hf:H1 s1.heap.objs.size=none:=a3.bK.fresh (Y2 _);refine⟨.ref s1.heap.objs.size,upd H1 s1.heap.objs.size (.lst xs),a3.laid (t':=s1.toks) (λb u e=>YZ _ e) (Y2 _) ?_,rfl,q _ hf⟩;exact⟨z,us,0,r,Y7 _ rfl⟩
end
noncomputable abbrev mf:=List V->aw->c0->i8->Prop
noncomputable abbrev jy:=List Env->aw->Shared->i8->Value->Shared->Prop
structure sX(P:Program)(w:World)(K:W.Frag)(aX:Str->Option Value)(base:Heap)(A:Around)(outer:List Env)(s:Shared)(H:aw):Prop where
 frames:A.frames=some outer
 mod:Mod K aX base
 bs:∀b o,base.get? b=some o->s.heap.get? b=some o/\H b=none
 qG:base.objs.size<=s.heap.objs.size
 lx:s.heap.FunFrames base outer
 tU:∀b∈iv outer,H b=none
 bK:en P w H s.heap
 bare:AllBare s.gens
noncomputable def wd(outer:List Env)(P:Program)(w:World)(H:aw)(s:Shared)(Q:c0)(u:Value)(s':Shared):Prop :=
 ∃v aq,s'.os=s.os/\AllBare s'.gens/\ff (iv outer) [] H aq s.heap s'.heap/\en P w aq s'.heap/\RelV v u/\Q v aq
noncomputable def I2(CX:jy)(outer:List Env)(P:Program)(w:World)(H:aw)(s:Shared)(Q:c0)(E:i8)(r:Result)(s':Shared):Prop :=
 match r with
 |.ok (.ret u)=>wd outer P w H s Q u s'
 |.ok _=>False
 |.error e=>CX outer H s E e s'
structure j4(P:Program)(w:World)(K:W.Frag)(aX:Str->Option Value)(base:Heap)(CX:jy)(k:Nat)(f:Addr)(fd:FuncData)(aS:List Str)(sp:mf):Prop where
 len:∀ae H Q E,sp ae H Q E->ae.length=aS.length
 run:∀(A:Around)(outer:List Env)(s:Shared)(H:aw)(args:Args)(us:List Value)(ae:List V)(Q:c0)(E:i8),gj k A->sX P w K aX base A outer s H->BindsTo s fd args (aS.zip us)->Vals ae us->sp ae H Q E ->
  codeAny (model P w) A (.call (.ref f) args) (I2 CX outer P w H s Q E) s
section
variable{X:aQ}{pins:List (Addr×Obj)}{σ:St}{H:aw}{s s':Shared}
def Inv.Mt(I:Inv X pins σ H s):sX X.prog X.w X.K X.aX X.base X.A X.stack s H :=
 ⟨I.ok.frames,I.ok.mod,I.bs,ZX I.ok.qG I.gQ,I.stack,I.HN,I.bK,I.bare⟩
def Inv.after{Q:c0}{u:Value}(I:Inv X pins σ H s)(h:wd X.stack X.prog X.w H s Q u s'):eN X pins σ Q u s':=by
 obtain⟨v,aq,os,bare,un,bK,r,q⟩:=h;obtain⟨dc,g,d,t,se⟩:=s';obtain rfl:se=s.os:=os;exact⟨v,aq,I.call (h':=dc) (g':=g) (d':=d) (t':=t) (ch:=[]) un bK bare (λb z=>absurd z (by simp)),r,q⟩
end
noncomputable def Wj(sp:mf)(dvs:List V)(E:i8)(t:gk):TE:=λσ H Q=>t σ H λae H1=>sp (ae++dvs) H1 Q E
noncomputable def Binds(K:W.Frag)(fd:FuncData)(aS:List Str)(ds:List Value):Prop :=
 ∀(s:Shared)(us:List Value),K.In s.heap->(us++ds).length=aS.length->BindsTo s fd ⟨us,[]⟩ (aS.zip (us++ds))
def Binds.all{K:W.Frag}{fd:FuncData}{aS:List Str}(h:∀us:List Value,us.length=aS.length->bindArgs fd ⟨us,[]⟩=pure (aS.zip us)):Binds K fd aS []:=λs us _ aA=>by
 rw[aaa]at aA ⊢;exact .of_eq (h us aA)
noncomputable def Passes(CX:jy)(X:aQ)(E:i8):Prop:=∀(pins:List (Addr×Obj))(σ:St)(H:aw)(s:Shared)(e:Value)(s':Shared),Inv X pins σ H s->CX X.stack H s E e s'->X.cA e s'
section
variable{X:aQ}{CX:jy}{k:Nat}{f bH:Addr}{fd:FuncData}{aS:List Str}{sp:mf}{dvs:List V}{ds:List Value}{E:i8}{x m:Str}{p pos apos:Pos}{e o:Expr}{ah:List Expr}{cC:TE}{t:gk}
def Ut{pins:List (Addr×Obj)}{σ:St}{H:aw}{s:Shared}{Q:c0}{us:List Value}{ae:List V}(F:j4 X.prog X.w X.K X.aX X.base CX k f fd aS sp)(a9:gj k X.A)(ab:Binds X.K fd aS ds)(hd:Vals dvs ds)(ao:Passes CX X E)(I:Inv X pins σ H s)(r:Vals ae us)(h:sp (ae++dvs) H Q E):wpAny (model X.prog X.w) X.A (call (.ref f) us) (eN X pins σ Q) X.cA s:=by
 have aZ:Vals (ae++dvs) (us++ds):=r.append hd;have aA:(us++ds).length=aS.length:=by rw[<- aZ.length];exact F.len _ _ _ _ h
 refine wpAny_call (abZ (F.run X.A X.stack s H ⟨us,[]⟩ (us++ds) (ae++dvs) Q E a9 I.Mt (ab s us I.fT aA) aZ h) λr s' aL=>?_);cases r with
 |error e=>exact ao pins σ H s e s' I aL
 |ok eX =>
  cases eX with
  |ret u=>exact I.after aL
  |next=>exact False.elim aL
  |brk=>exact False.elim aL
  |cont=>exact False.elim aL
def Sw(F:j4 X.prog X.w X.K X.aX X.base CX k f fd aS sp)(a9:gj k X.A)(a4:eU X x)(hm:X.aX x=some (.ref f))(ax:W.keepIn X.K (.ref f)=true)(ab:Binds X.K fd aS ds)(hd:Vals dvs ds)(ao:Passes CX X E)(aB:fO X (e::ah) t)(h4:(x==("__debug__":Str))=false:=by decide)(he:starEach (e::ah) X.env=(false,eval e X.env)::starEach ah X.env:=by rfl)(eb:(backTo pos (starEach ah X.env)).any (·.1)=false:=by rfl):
  aM X (.Call (.Name x p) (e::ah) [] pos) (Wj sp dvs E t):=by
 intro pins s σ H Q I h;refine aal (Q0 I a4 hm ?_ h4);refine PySem.W.callWith_K (h₀:=X.base) I.ok.mod.zC ax (bF (aB pos pins s σ H _ I h) λus s1 ⟨ae,H1,a3,r,q⟩=>⟨a3.fT,?_⟩) he eb;exact Ut F a9 ab hd ao a3 r q
structure gU(K:W.Frag)(bH f:Addr):Prop where
 makes:PySem.W.makesIn K bH=true
 init:PySem.W.findIn K (.ref bH) "__init__"=some (some (.ref f))
 fn:PySem.W.isFn K (.ref f)=true
 ji:W.keepIn K (.ref bH)=true
end
section
variable{X:aQ}{CX:jy}{k:Nat}{f bH:Addr}{fd:FuncData}{aS ar:List Str}{sp:mf}{E:i8}{x m:Str}{p pos apos YG:Pos}{e o:Expr}{ah:List Expr}{YI:List Keyword}{eM cC:TE}{t tk:gk}{nm:Option Str}
structure X1(K:W.Frag)(fd:FuncData)(aS ar:List Str)(g:List Value->List Value->List Value)(DI:List V->List V->List V):Prop where
 to:∀(s:Shared)(us ws:List Value),K.In s.heap->(g us ws).length=aS.length->BindsTo s fd ⟨us,ar.zip ws⟩ (aS.zip (g us ws))
 rel:∀{ae:List V}{us:List Value}{zs:List V}{ws:List Value},Vals ae us->Vals zs ws->Vals (DI ae zs) (g us ws)
variable{g:List Value->List Value->List Value}{DI:List V->List V->List V}
end
structure wg(N P:List Str)(sc:Scope):Prop where
 kind:sc.kind=.function
 co:sc.isCoroutine=false
 gen:sc.isGenerator=false
 dP:N.Nodup
 pre:N.take P.length=P
 par:∀x∈P,sc.names.lookup x=some .local\/sc.names.lookup x=some .cell
 RS:∀y∈sc.names,y.2≠.free
theorem B4{kindOf:Str->Option NameKind}{x:Str}:∀{binds:List (Str×Value)}{m:Str->Option Value},(∀v,(x,v)∉binds)->bindL kindOf binds m x=m x
 |[],_,_=>rfl
 |(n,v)::r,m,h=>by
  unfold bindL;rw[B4 λw hw=>h w (List.mem_cons_of_mem _ hw)]
  split
  .have:x≠n:=(by rintro rfl;exact h v List.mem_cons_self);simp[this]
  .rfl
theorem B2{kindOf:Str->Option NameKind}{x:Str}:∀{binds:List (Str×Value)}{m:Str->Option Value},(∀v,(x,v)∉binds)->bindC kindOf binds m x=m x
 |[],_,_=>rfl
 |(n,v)::r,m,h=>by
  unfold bindC;rw[B2 λw hw=>h w (List.mem_cons_of_mem _ hw)]
  split
  .rfl
  .have:x≠n:=(by rintro rfl;exact h v List.mem_cons_self);simp[this]
theorem B3{kindOf:Str->Option NameKind}{x:Str}{v:Value}:∀{P:List Str}{ae:List Value}{i:Nat}{m:Str->Option Value},P.Nodup->P[i]?=some x->ae[i]?=some v->kindOf x=some .local ->
  bindL kindOf (P.zip ae) m x=some v
 |[],_,_,_,_,h,_,_=>by simp at h
 |_::_,[],_,_,_,_,h,_=>by simp at h
 |p::P,w::ae,0,m,dP,C,J,ax=>by
  simp at C J;subst C;subst J;show bindL kindOf ((p,w)::P.zip ae) m p=_;unfold bindL;rw[B4 λv aN=>(Zi.mp dP).1 (List.of_mem_zip aN).1,if_pos ax];simp
 |p::P,w::ae,i+1,m,dP,C,J,ax=>by
  show bindL kindOf ((p,w)::P.zip ae) m x=_;unfold bindL;exact B3 (i:=i) (Zi.mp dP).2 (by simpa using C) (by simpa using J) ax
theorem B1{kindOf:Str->Option NameKind}{x:Str}{v:Value}:∀{P:List Str}{ae:List Value}{i:Nat}{m:Str->Option Value},P.Nodup->P[i]?=some x->ae[i]?=some v->kindOf x≠some .local ->
  bindC kindOf (P.zip ae) m x=some v
 |[],_,_,_,_,h,_,_=>by simp at h
 |_::_,[],_,_,_,_,h,_=>by simp at h
 |p::P,w::ae,0,m,dP,C,J,ax=>by
  simp at C J;subst C;subst J;show bindC kindOf ((p,w)::P.zip ae) m p=_;unfold bindC;rw[B2 λv aN=>(Zi.mp dP).1 (List.of_mem_zip aN).1,if_neg ax];simp
 |p::P,w::ae,i+1,m,dP,C,J,ax=>by
  show bindC kindOf ((p,w)::P.zip ae) m x=_;unfold bindC;exact B1 (i:=i) (Zi.mp dP).2 (by simpa using C) (by simpa using J) ax
noncomputable def start(N:List Str)(ae:List V):St:=ae.map some++List.replicate (N.length-ae.length) none
noncomputable def nI(CX:jy)(P:Program)(w:World)(K:W.Frag)(aX:Str->Option Value)(base:Heap)(N:List Str)(qual:Str)(scope:Scope)(f:Addr)(cd:Value)(A:Around)(outer:List Env)(s:Shared)(H:aw)(E:i8):aQ where
 prog:=P
 w:=w
 K:=K
 aX:=aX
 base:=base
 A:=A.deeper (envOfC qual scope s.heap.objs.size f cd)
 N:=N
 fl:=s
 qo:=H
 env:=envOfC qual scope s.heap.objs.size f cd
 outer:=outer
 stack:=envOfC qual scope s.heap.objs.size f cd::outer
 ex:=[]
 calm:=true
 fn:=λ_=>true
 fV:=[]
 cA:=λe s'=>wpAny (model P w) (A.deeper (envOfC qual scope s.heap.objs.size f cd)) (leaving (envOfC qual scope s.heap.objs.size f cd) e) (λ_ su=>CX outer H s E e su) (λbp su=>CX outer H s E bp su) s'
def Cd{sc:Scope}{n:Nat}{x:Str}(h:sc.names.lookup x=some .cell):∃c,(cellsFrom n sc.names []).lookup x=some c:=by
 have q:=acq sc.names n [] (.inl h);exact Option.isSome_iff_exists.mp q
def Qh{CX:jy}{P:Program}{w:World}{K:W.Frag}{aX:Str->Option Value}{base:Heap}{N aS:List Str}{qual:Str}{scope:Scope}{f:Addr}{cd:Value}{A:Around}{outer:List Env}{s s1:Shared}{H:aw}{E:i8}{us:List Value}{ae:List V}(S:wg N aS scope)(hd:A.handled=none)(dO:sX P w K aX base A outer s H)(aA:ae.length=aS.length)(r:Vals ae us)(x:InCallC s s.heap.objs.size (bindL (envOfC qual scope s.heap.objs.size f cd).kindOf (aS.zip us) λ_=>none) (cellsFrom (s.heap.objs.size+1) scope.names []) (bindC (envOfC qual scope s.heap.objs.size f cd).kindOf (aS.zip us) λ_=>none) s1):
  Inv (nI CX P w K aX base N qual scope f cd A outer s H E) [] (start N ae) H s1:=by
 have eb:aS.length<=N.length:=by have:=Z8 List.length S.pre;rw[aav]at this;omega
 obtain⟨C,tk,rfl,ax⟩:=x.done;have sa:∀b:Addr,b∉(nI CX P w K aX base N qual scope f cd A outer s H E).ex:=λb z=>absurd (show b∈([]:List Addr) from z) (by simp)
 refine⟨⟨dO.mod,S.kind,rfl,rfl,Y2 _,λy z c C J=>?_,λy aV=>?_,λy c _ h=>?_,λ_=>hd,Around.frames_deeper dO.frames,.inr ⟨rfl,rfl⟩,λb z=>absurd z (sa b),dO.bs,dO.qG,λb _ _=>sa b,λb z=>absurd z (sa b),dO.lx,dO.tU⟩,
  rfl,dO.bare,ff.kept ax,⟨_,x.toInCall.ns,λi y v C J aC=>?_⟩,λy c h=>⟨_,x.cell y c h⟩,dO.bK.fresh (Y2 _),λy c h=>?_,λp az=>absurd (show p∈([]:List (Addr×Obj)) from az) (by simp),dO.bK.kept ax,?_⟩
 .exact name_of_addr x.apart (ZK C) (ZK J)
 .have aV:scope.names.lookup y=some .cell\/scope.names.lookup y=some .free:=aV;rcases aV with aV|aV
  .exact Cd aV
  .exact absurd rfl (S.RS _ (ZK aV))
 .exact aa7 (x.above y c (ZK h))
 .have ai:i<ae.length:=by
   unfold start at J
   by_cases ai:i<ae.length
   .exact ai
   .rw[Zr (by simpa using ai)]at J;rw[abm]at J
    split at J<;>cases J
  have aB:ae[i]?=some v:=by
   unfold start at J;rw[Zd (by simpa using ai),Ze]at J;cases e:ae[i]? with
   |none=>rw[e]at J;cases J
   |some a=>rw[e]at J;cases J;rfl
  obtain⟨u,bw,bR⟩:=r.get aB;have az:aS[i]?=some y:=by
   rw[<- S.pre,List.getElem?_take_of_lt (by omega)];exact C
  have FG:aS.Nodup:=(by rw[<- S.pre];exact S.dP.sublist (List.take_sublist _ _));refine⟨u,bR,?_⟩;rcases S.par y (aae az) with k|k
  .exact .inl ⟨k,B3 FG az bw k⟩
  .obtain⟨c,e⟩:=Cd (n:=s.heap.objs.size+1) k;refine .inr ⟨.inl k,c,e,?_⟩;have q:=x.cell y c e;rw[B1 FG az bw (by show scope.names.lookup y≠_;rw[k];decide)]at q;exact q
 .exact dO.bK.fresh (aa7 (x.above y c (ZK h)))
 .unfold start;show _=N.length;rw[List.length_append,List.length_map,aa1];omega
def NS{CX:jy}{P:Program}{w:World}{K:W.Frag}{aX:Str->Option Value}{base:Heap}{k:Nat}{f:Addr}{name qual:Str}{params:Arguments}{body:List Stmt}{scope:Scope}{tv de doc pm d8 ct gd:Value}{an ba:Option Addr}{fJ:Array (Option Value)}{N aS:List Str}{sp:mf}(lk:K.lookup f=some ⟨gd,ba,.func (W.fnOf name qual params body scope tv de doc pm an d8 ct),fJ⟩)(lB:W.codeIn K d8 qual=true)(S:wg N aS scope)(len:∀ae H Q E,sp ae H Q E->ae.length=aS.length)(OA:∀(A:Around)(outer:List Env)(s:Shared)(H:aw)(ae:List V)(Q:c0)(E:i8),gj k (A.deeper (envOfC qual scope s.heap.objs.size f d8))->sp ae H Q E ->
   ∃t,gV (nI CX P w K aX base N qual scope f d8 A outer s H E) body t/\t { bJ:=λ_ aq=>Q .dp aq,dE:=Q } (start N ae) H):
  j4 P w K aX base CX (k+1) f (W.fnOf name qual params body scope tv de doc pm an d8 ct) aS sp:=by
 refine⟨len,λA outer s H args us ae Q E a9 dO ab r pk=>?_⟩;have aA:=len _ _ _ _ pk;have i6:K.In s.heap:=dO.mod.zC.keeps λb o e=>(dO.bs b o e).1
 have lim:s.heap.NoLimit:=dO.mod.nolimit.keeps λb o e=>(dO.bs b o e).1
 have O2:∀y∈aS.zip us,scope.names.lookup y.1=some .local\/(scope.names.lookup y.1=some .cell/\((cellsFrom (s.heap.objs.size+1) scope.names []).lookup y.1).isSome=true):=λ⟨n,v⟩ aV=>by
  rcases S.par n (List.of_mem_zip aV).1 with q|q
  .exact .inl q
  .exact .inr ⟨q,acq _ _ _ (.inl q)⟩
 refine codeAny_call_function a9.depth (i6 _ _ lk) rfl S.co S.gen rfl (PySem.W.codeRec_of i6 lB) (ab _ _ _ _ ?_);refine wpAny_newFunctionEnv_cells S.kind O2 λenv he s1 x=>?_
 subst he;refine⟨lim.keeps x.toInCall.keep,codeAny_func ?_⟩;obtain⟨t,ay,aL⟩:=OA A outer s H ae Q E (a9.deeper _) pk;have I:Inv (nI CX P w K aX base N qual scope f d8 A outer s H E) [] (start N ae) H s1:=Qh S a9.hd dO aA r x;refine ZR (ay [] s1 (start N ae) H _ I aL) (λeX s' aa=>?_) λe s' aa=>aa
 have fin:∀{c7:St}{aq:aw}{v:V}{u:Value},Inv (nI CX P w K aX base N qual scope f d8 A outer s H E) [] c7 aq s'->RelV v u->Q v aq->wd outer P w H s Q u s' :=
  λ{c7 aq v u} dB bR q=>⟨v,aq,dB.os,dB.bare,dB.base,dB.bK,bR,q⟩
 cases eX with
 |ret u =>
  obtain⟨v,c7,aq,dB,bR,q⟩:=aa;exact fin dB bR q
 |next =>
  obtain⟨c7,aq,dB,q⟩:=aa;exact fin (v:=V.dp) (u:=Value.none) dB rfl q
 |brk =>
  obtain⟨_,_,_,q⟩:=aa;exact False.elim q
 |cont =>
  obtain⟨_,_,_,q⟩:=aa;exact False.elim q
end bM
namespace bM
open PySem PySem.Spec PyProof.Rows
section
variable{X:aQ}{x:Str}{p pos:Pos}{e:Expr}{ah:List Expr}{t:gk}{id T:String}{r:List V->aw->c0->Prop}
noncomputable def HU(r:List V->aw->c0->Prop)(t:gk):TE:=λσ H Q=>t σ H λae H1=>r ae H1 Q
def z8(ag:hB X (.builtin id) r)(a4:eU X x)(hm:X.aX x=none)(aN:bootBuiltins x=some (.builtin id))(aB:fO X (e::ah) t)(aD:x≠"__name__":=by decide)(h4:(x==("__debug__":Str))=false:=by decide)(he:starEach (e::ah) X.env=(false,eval e X.env)::starEach ah X.env:=by rfl)(eb:(backTo pos (starEach ah X.env)).any (·.1)=false:=by rfl):aM X (.Call (.Name x p) (e::ah) [] pos) (HU r t):=by
 intro pins s σ H Q I h;refine aal (kA I a4 hm aN ?_ aD h4);exact abD (bF (aB pos pins s σ H _ I h) λus s1 ⟨ae,H1,a3,aG,aU⟩=>ag pins s1 σ H1 ae us Q a3 aG aU) he eb
def Sx(ag:hB X (.type T) r)(a4:eU X x)(hm:X.aX x=none)(aN:bootBuiltins x=some (.type T))(aB:fO X (e::ah) t)(aD:x≠"__name__":=by decide)(h4:(x==("__debug__":Str))=false:=by decide)(he:starEach (e::ah) X.env=(false,eval e X.env)::starEach ah X.env:=by rfl)(eb:(backTo pos (starEach ah X.env)).any (·.1)=false:=by rfl):aM X (.Call (.Name x p) (e::ah) [] pos) (HU r t):=by
 intro pins s σ H Q I h;refine aal (kA I a4 hm aN ?_ aD h4);exact ZN (bF (aB pos pins s σ H _ I h) λus s1 ⟨ae,H1,a3,aG,aU⟩=>ag pins s1 σ H1 ae us Q a3 aG aU) he eb
end
end bM
namespace c8
open PySem PyProof.Rows
noncomputable def lexLt:List Int->List Int->Bool
 |[],[]=>false
 |[],_::_=>true
 |_::_,[]=>false
 |x::xs,y::ys=>if x=y then lexLt xs ys else decide (x<y)
def Q6(x y:Int)(xs ys:List Int):lexLt (x::xs) (y::ys)=if x=y then lexLt xs ys else decide (x<y):=rfl
def Q9:lexLt [] []=false:=rfl
def Q8(y:Int)(ys:List Int):lexLt [] (y::ys)=true:=rfl
def Q7(x:Int)(xs:List Int):lexLt (x::xs) []=false:=rfl
def Mu(A:Around)(s:Shared)(a:Int)(t:Tok)(c:Int)(u:Tok):∃e,SeqAt.EqAt A s (.int a t) (.int c u) e/\(e=true<->a=c) :=
 ⟨(a==c),SeqAt.EqAt.int_int a t c u,by simp⟩
def T1(A:Around)(s:Shared)(a:Int)(t:Tok)(c:Int)(u:Tok)(prog:Program)(w:World)(E:Value->Shared->Prop)(Q:Value->Shared->Prop)(h:Q (.bool (decide (a<c))) s):
  wpAny (model prog w) A (richCompare .Lt (.int a t) (.int c u)) Q E s :=
 (PyProof.Rows.lt_int h:wpAny (model prog w) A (compareOp .Lt (.int a t) (.int c u)) Q E s)
section
open PySem.SeqAt
open PySem.AutoSeq1 (wpAny_loadPart')
open PySem.MeetsSeq PySem.MeetsSeq2 PySem.MeetsSeq3
def Xf(l b:Addr)(items hP:Array Value)(n eH:Nat)(dn ke:Option Addr)(cp jW:Array (Option Value))(ns ms:List Int)(ai:IntsAre items.toList ns)(aJ:IntsAre hP.toList ms):
  Meets (Builtin.«tuple.__lt__» ⟨[.ref l,.ref b],[]⟩)
   (λ_ R s=>s.heap.get? l=some { cls:=.type "tuple",dict:=dn,data:=.seq items n,slots:=cp }/\s.heap.get? b=some { cls:=.type "tuple",dict:=ke,data:=.seq hP eH,slots:=jW } /\
    R (.ok (.ret (.bool (lexLt ns ms)))) s) :=
 .of_wp λprog w A R s h=>by
  obtain⟨az,g,d,tk,os⟩:=s;obtain⟨aA,ab,h⟩:=h;have f2:=AutoSeq1.sub_tuple_tuple;have cc:items.size=ns.length:=(by rw[<- ai.length];simp);have b0:hP.size=ms.length:=by rw[<- aJ.length];simp
  wp_walk using wpAny_loadPart' aA,wpAny_loadPart' ab,abE _ (λrest b s'=>b.1=none/\s'=⟨az,g,d,tk,os⟩/\∃(ae ws:List Value)(pJ pH:List Int),rest=ae.zip ws /\
   IntsAre ae pJ/\IntsAre ws pH/\pJ.length+hP.size=pH.length+items.size/\R (.ok (.ret (.bool (lexLt pJ pH)))) ⟨az,g,d,tk,os⟩) _
  case turn =>
   rintro⟨y,x⟩ rest b s' ⟨gJ,rfl,ae,ws,pJ,pH,hz,zp,uo,hlen,hR⟩;cases zp with
   |nil=>rw[List.zip_nil_left]at hz;cases hz
   |cons a t PQ =>
    cases uo with
    |nil=>rw[List.zip_nil_right]at hz;cases hz
    |cons c u PR =>
     rw[List.zip_cons_cons]at hz;injection hz with rI ks;injection rI with aV ao;subst aV ao;rw[Q6]at hR;simp only[List.length_cons]at hlen;obtain⟨e,he,Ee⟩:=Mu A.in1 ⟨az,g,d,tk,os⟩ a t c u;refine YW (he prog w _ _ ?_);cases e with
     |true =>
      rw[if_pos (Ee.mp rfl)]at hR
      wp_walk
      exact⟨rfl,rfl,_,_,_,_,ks,PQ,PR,by omega,hR⟩
     |false =>
      rw[if_neg (λq=>absurd (Ee.mpr q) ZS)]at hR;have PC:=T1 A.in1 ⟨az,g,d,tk,os⟩ a t c u prog w
      wp_walk using PC
      exact⟨_,rfl,by simpa using hR⟩
  case fin =>
   rintro⟨b1,b2⟩ s' ⟨gJ,rfl,ae,ws,pJ,pH,hz,zp,uo,hlen,hR⟩;simp only at gJ;subst gJ;have aN:lexLt pJ pH=decide (items.size<hP.size):=by
    cases zp with
    |nil =>
     cases uo with
     |nil =>
      simp only[List.length_nil]at hlen;rw[Q9];exact(decide_eq_false (by omega)).symm
     |cons c u hw =>
      simp only[List.length_nil,List.length_cons]at hlen;rw[Q8];exact(decide_eq_true (by omega)).symm
    |cons a t aN =>
     cases uo with
     |nil =>
      simp only[List.length_nil,List.length_cons]at hlen;rw[Q7];exact(decide_eq_false (by omega)).symm
     |cons c u hw =>
      rw[List.zip_cons_cons]at hz;cases hz
   rw[aN]at hR
   wp_walk
   exact⟨_,rfl,by simpa[Builtin.Tuple.tupleCompareSizes] using hR⟩
  case h =>
   exact⟨rfl,rfl,items.toList,hP.toList,ns,ms,rfl,ai,aJ,by omega,h⟩
end
section
variable{prog:Program}{w:World}{A:Around}{E:Value->Shared->Prop}{s:Shared}
def Fj{l b:Addr}{items hP:Array Value}{ns ms:List Int}{Q:Value->Shared->Prop}(aA:IsTup s.heap l items)(ab:IsTup s.heap b hP)(ai:IntsAre items.toList ns)(aJ:IntsAre hP.toList ms)(bw:A.units<cLine)(h:Q (.bool (lexLt ns ms)) s):wpAny (model prog w) A (compareOp .Lt (.ref l) (.ref b)) Q E s:=by
 obtain⟨⟨cls,dn,data,cp⟩,av,ag,n,hd⟩:=id aA;obtain⟨⟨xT,ke,data2,jW⟩,kq,iS,eH,hd2⟩:=id ab;simp only at ag hd iS hd2;subst ag hd iS hd2;exact richCompare_meets_room (op:=.Lt) ⟨_,av,rfl⟩ ⟨_,kq,rfl⟩ PySem.F.slot_tuple_lt PySem.F.entry_tuple_lt (PySem.F.args_tuple_lt_2 _ _) (Xf l b items hP n eH dn ke cp jW ns ms ai aJ)
  ⟨av,kq,show Value.bool (lexLt ns ms)≠Value.notImplemented/\Q (.bool (lexLt ns ms)) s from⟨(λx=>nomatch x),h⟩⟩ bw
def Ku{t b:Addr}{ae ws:List Value}{Q:Value->Shared->Prop}(ay:IsTup s.heap t ae.toArray)(ab:IsTup s.heap b ws.toArray)(aN:ae≠[])(C:ws=[]->Q (.ref t) s)(J:ws≠[]->Q (.ref s.heap.objs.size) { s with heap:=s.heap.push { cls:=.type "tuple",data:=.seq (ae++ws).toArray } })(hsz:ae.length+ws.length<=sizeLine):wpAny (model prog w) A (binaryOp .Add (.ref t) (.ref b)) Q E s:=by
 obtain⟨⟨cls,dn,data,cp⟩,av,ag,n,hd⟩:=id ay;obtain⟨⟨xT,ke,data2,jW⟩,kq,iS,eH,hd2⟩:=id ab;simp only at ag hd iS hd2;subst ag hd iS hd2;have e:ae.toArray++ws.toArray=(ae++ws).toArray:=by simp
 by_cases hw:ws=[]
 .exact acr ⟨_,av,rfl⟩ ⟨_,kq,rfl⟩ acj seq_tuple_add abp abn (abg _ _)
   (tuple_addW1 t b ae.toArray ws.toArray n eH dn ke cp jW (by simpa using aN) (by simp[hw])) ⟨av,kq,C hw⟩
 .refine acr ⟨_,av,rfl⟩ ⟨_,kq,rfl⟩ acj seq_tuple_add abp abn (abg _ _)
   (tuple_addW2 t b ae.toArray ws.toArray n eH dn ke cp jW (by simpa using aN) (by simpa using hw) (by rw[Y4,Y4];exact hsz)) ⟨av,kq,?_⟩
  rw[e];exact J hw
noncomputable def bW(n d:Nat):Option Int->Nat
 |none=>d
 |some v=>if v<0 then(v+(n:Int)).toNat else min v.toNat n
def vq(n d:Nat)(hd:d<=n)(o:Option Int):bW n d o<=n:=by
 cases o with
 |none=>exact hd
 |some v =>
  show(if v<0 then(v+(n:Int)).toNat else min v.toNat n)<=n
  by_cases aN:v<0
  .rw[if_pos aN];omega
  .rw[if_neg aN];exact Nat.min_le_right _ _
def Co(v:Int)(n d:Nat):(if v<0 then max (v+(n:Int)) 0 else min v (n:Int))=((bW n d (some v):Nat):Int):=by
 show(if v<0 then max (v+(n:Int)) 0 else min v (n:Int))=(((if v<0 then(v+(n:Int)).toNat else min v.toNat n):Nat):Int)
 by_cases aN:v<0
 .simp only[if_pos aN];omega
 .simp only[if_neg aN];omega
def Jm(lo ai:Option Int)(n:Nat):Builtin.Slice.sliceAdjust lo ai 1 (n:Int)=(((bW n 0 lo:Nat):Int),((bW n n ai:Nat):Int)):=by
 have C:¬((1:Int)<0):=by omega
 unfold Builtin.Slice.sliceAdjust;simp only[C,Zk];refine Prod.ext ?_ ?_
 .cases lo with
  |none=>rfl
  |some v=>exact Co v n 0
 .cases ai with
  |none=>rfl
  |some v=>exact Co v n n
def S9(i j:Nat):Builtin.Slice.slicePlaces (i:Int) (j:Int) 1=j-i:=by
 unfold Builtin.Slice.slicePlaces;have C:(1:Int)>0:=by omega
 simp only[C,ZH,Int.ediv_one]
 split<;>omega
def Hx{v:Value}{o:Option Int}{Q:Option Int->Shared->Prop}(p:IsPart v o)(h:Q o s):wpAny (model prog w) A (Builtin.Slice.slicePartIndex v) Q E s:=by
 cases p with
 |none=>exact slicePart_none h
 |int i t=>exact slicePart_int h
def Hw{cp:Addr}{fy fz:Value}{lo ai:Option Int}{n:Nat}{Q:Int×Int×Nat->Shared->Prop}(aa:s.heap.IsSliceOf cp fy fz .none)(cE:IsPart fy lo)(pu:IsPart fz ai)(h:Q (((bW n 0 lo:Nat):Int),1,bW n n ai-bW n 0 lo) s):wpAny (model prog w) A (Builtin.Slice.sliceApplied (.ref cp) (pure (n:Int))) Q E s:=by
 obtain⟨os,n2,h3,kp⟩:=id aa;unfold Builtin.Slice.sliceApplied Builtin.Slice.sliceFields;refine YW (YW (wpAny_field n2 kp (x:=fy) rfl (YW (wpAny_field n2 kp (x:=fz) rfl (YW (wpAny_field n2 kp (x:=.none) rfl (YY ?_)))))));refine YW (slicePart_none ?_);show wpAny _ _ (if ((1:Int)==0)=true then _ else _) _ _ s;rw[if_neg (by decide)];refine YW (Hx cE (YW (Hx pu (YW (YY ?_)))));show wpAny _ _ (match Builtin.Slice.sliceAdjust lo ai 1 (n:Int) with|(lo,ai)=>pure (lo,(1:Int),Builtin.Slice.slicePlaces lo ai 1)) _ _ s;rw[Jm lo ai n];show wpAny _ _ (pure (((bW n 0 lo:Nat):Int),(1:Int),Builtin.Slice.slicePlaces ((bW n 0 lo:Nat):Int) ((bW n n ai:Nat):Int) 1)) _ _ s;rw[S9];exact YY h
def S7(xs:Array Value)(i k:Nat):((List.range k).filterMap λ(m:Nat)=>xs[((i:Int)+(m:Int)*1).toNat]?).toArray=((xs.toList.drop i).take k).toArray:=by
 have e:(λ(m:Nat)=>xs[((i:Int)+(m:Int)*1).toNat]?)=λm=>xs[i+m]?:=by
  funext m;have:((i:Int)+(m:Int)*1).toNat=i+m:=(by omega);rw[this]
 rw[e];have:=pick_run xs i k;rw[List.filterMap_map]at this;have ak:((λx=>xs[x]?) ∘ λx=>i+x)=λm=>xs[i+m]?:=rfl
 rw[ak]at this;rw[this]
def Ob{t cp:Addr}{items:Array Value}{fy fz:Value}{lo ai:Option Int}{Q:Value->Shared->Prop}(ay:IsTup s.heap t items)(aa:s.heap.IsSliceOf cp fy fz .none)(cE:IsPart fy lo)(pu:IsPart fz ai)(hw:¬(bW items.size 0 lo=0/\bW items.size items.size ai=items.size))(h:Q (.ref s.heap.objs.size) { s with heap:=s.heap.push { cls:=.type "tuple",data:=.seq ((items.toList.drop (bW items.size 0 lo)).take (bW items.size items.size ai-bW items.size 0 lo)).toArray } })(hsz:items.size<=sizeLine):wpAny (model prog w) A (getItem (.ref t) (.ref cp)) Q E s:=by
 have uk:sizeOk (.seq ((items.toList.drop (bW items.size 0 lo)).take (bW items.size items.size ai-bW items.size 0 lo)).toArray):=by
  show((items.toList.drop (bW items.size 0 lo)).take (bW items.size items.size ai-bW items.size 0 lo)).toArray.size<=sizeLine;rw[Y4,aav,aaw,Array.length_toList];omega
 have aJ:bW items.size items.size ai<=items.size:=vq _ _ (Y2 _) ai;obtain⟨os,n2,h3,kp⟩:=id aa;have yI:s.TypeIs (.ref cp) "slice":=⟨os,n2,h3⟩;unfold getItem
 try with_reducible refine Z9 ?_
 first|refine YW (YY ?_)|skip
 refine YW (wpAny_sequenceKey ay.typeIs (by decide) ?_);refine YW (aaf (name:=Str.ofString "__getitem__") ay.typeIs ZO
  (Z3 ZO ay.typeIs entry_tuple_getitem ?_ (args_tuple_getitem _ _)))
 show wpAny _ _ (Builtin.Tuple.tupleItemsOf (.ref t)>>=_) _ _ s;refine YW (tupleItemsOf_ ay ?_);refine YW (aaT yI ?_);rw[if_pos (by decide)];refine YW (Hw aa cE pu ?_);have mJ:¬((((bW items.size 0 lo:Nat):Int)==0&&(1:Int)==1&&(bW items.size items.size ai-bW items.size 0 lo)==items.size)=true):=by
  intro q;rw[YX,YX]at q;have aU:((bW items.size 0 lo:Nat):Int)=0:=eq_of_beq q.1.1;have bq:bW items.size items.size ai-bW items.size 0 lo=items.size:=eq_of_beq q.2;exact hw ⟨by omega,by omega⟩
 show wpAny _ _ (if (((bW items.size 0 lo:Nat):Int)==0&&(1:Int)==1&&(bW items.size items.size ai-bW items.size 0 lo)==items.size)=true then _ else _) _ _ s;rw[if_neg mJ,S7]
 first
  |exact YW (m:=Builtin.Tuple.tupleExact _) (Zy (YY ⟨_,rfl,YY h⟩) uk)
  |exact YW (m:=Builtin.Tuple.tupleExact _) (Zy (YW (YY (YY ⟨_,rfl,YY h⟩))) uk)
  |exact YW (YW (m:=Builtin.Tuple.tupleExact _) (Zy (YY (YY ⟨_,rfl,YY h⟩)) uk))
  |exact YW (YW (m:=Builtin.Tuple.tupleExact _) (Zy (YY ⟨_,rfl,YY h⟩) uk))
end
end c8
namespace bM
open PySem PySem.Spec PyProof.Rows
noncomputable abbrev nv:=St->aw->(Option Int->aw->Prop)->Prop
noncomputable def j7(X:aQ)(e:Option Expr)(t:nv):Prop :=
 ∀(pins:List (Addr×Obj))(s:Shared)(σ:St)(H:aw)(Q:Option Int->aw->Prop),Inv X pins σ H s->t σ H Q ->
  wpAny (model X.prog X.w) X.A (evalPart e X.env) (λu s'=>∃o aq,Inv X pins σ aq s'/\IsPart u o/\Q o aq) X.cA s
noncomputable def Wu:nv:=λ_ H Q=>Q none H
noncomputable def Wz(t:TE):nv:=λσ H Q=>t σ H λx H1=>∃i,x=.int i/\Q (some i) H1
def intsAre_of{ns:List Int}:∀{us:List Value},Vals (ns.map V.int) us->IntsAre us ns:=by
 induction ns with
 |nil=>intro us r;rw[aaU]at r;cases r;exact .nil
 |cons n ns aE =>
  intro us r;rw[List.map_cons]at r;cases r with
  |cons aG aZ =>
   obtain⟨t,e⟩:=aG;subst e;exact .cons n t (aE aZ)
section
variable{X:aQ}{e:Expr}{eM:TE}{lo ai:Option Expr}{ih vL:nv}{pos bL:Pos}
def Tc:j7 X none Wu:=by
 intro pins s σ H Q I h;rw[evalPart_none];exact YY ⟨none,H,I,.none,h⟩
def Td(h:aM X e eM):j7 X (some e) (Wz eM):=by
 intro pins s σ H Q I hw;rw[evalPart_some];refine bF (h pins s σ H _ I hw) λu s1 ⟨x,H1,a3,aG,aU⟩=>?_
 obtain⟨i,rfl,q⟩:=aU;obtain⟨t,rfl⟩:=aG;exact⟨some i,H1,a3,.int i t,q⟩
noncomputable def qu(X:aQ)(r:V->Option Int->Option Int->aw->c0->Prop):Prop :=
 ∀(pins:List (Addr×Obj))(s:Shared)(σ:St)(H:aw)(x:V)(v fy fz:Value)(lo ai:Option Int)(cp:Addr)(Q:c0),Inv X pins σ H s->RelV x v->s.heap.IsSliceOf cp fy fz .none->IsPart fy lo->IsPart fz ai->r x lo ai H Q ->
  ∃T id,typeLookup (.type T) "__getitem__"=pure (some (.builtin id))/\s.TypeIs v T/\wpAny (model X.prog X.w) X.A (getItem v (.ref cp)) (eN X pins σ Q) X.cA s
noncomputable def WB(r:V->Option Int->Option Int->aw->c0->Prop)(eM:TE)(ih vL:nv):TE:=λσ H Q=>eM σ H λx H1=>ih σ H1 λl aW=>vL σ aW λu bP=>r x l u bP Q
def SN{r:V->Option Int->Option Int->aw->c0->Prop}(a9:qu X r)(he:aM X e eM)(aA:j7 X lo ih)(bw:j7 X ai vL):aM X (.Subscript e (.Slice lo ai none bL) pos) (WB r eM ih vL):=by
 intro pins s σ H Q I h;refine Subscript_ (bF (he pins s σ H _ I h) λv s1 ⟨x,H1,a3,aG,aU⟩=>?_);refine wpAny_Slice (bF (aA pins s1 σ H1 _ a3 aU) λfy s2 ⟨l,aW,cx,cE,bq⟩=>bF (bw pins s2 σ aW _ cx bq) λfz s3 ⟨u,bP,eg,pu,ck⟩=>?_);rw[evalPart_none];refine YY ?_;have fo:Inv X pins σ bP { s3 with heap:=s3.heap.push { cls:=.type "slice",data:=.fields #[fy,fz,.none] } }:=eg.kept (t':=s3.toks) λb b8 q=>YZ _ q
 obtain⟨T,id,c5,ay,a4⟩:=a9 pins { s3 with heap:=s3.heap.push { cls:=.type "slice",data:=.fields #[fy,fz,.none] } } σ bP x v fy fz l u s3.heap.objs.size Q fo aG (Heap.IsSliceOf.new ..) cE pu ck;show wpAny (model X.prog X.w) X.A (subscriptTail e (.Slice lo ai none bL) v (.ref s3.heap.objs.size)) (eN X pins σ Q) X.cA { s3 with heap:=s3.heap.push { cls:=.type "slice",data:=.fields #[fy,fz,.none] } };exact tail_any (ops:=[.ref s3.heap.objs.size,v]) ay c5 a4 (by with_unfolding_all rfl)
noncomputable def k9(xs:List V)(lo ai:Option Int):List V:=(xs.drop (c8.bW xs.length 0 lo)).take (c8.bW xs.length xs.length ai-c8.bW xs.length 0 lo)
def Cw(xs:List V)(lo ai:Option Int):(k9 xs lo ai).length<=xs.length:=by
 unfold k9;rw[aav,aaw];omega
noncomputable def TY(K:W.Frag):V->Option Int->Option Int->aw->c0->Prop:=λx lo ai H Q=>∃a xs,x=.ref a/\fp K H a xs /\
 ¬(c8.bW xs.length 0 lo=0/\c8.bW xs.length xs.length ai=xs.length)/\∀p,H p=none->Q (.ref p) (upd H p (.tup (k9 xs lo ai)))
def VP:qu X (TY X.K):=by
 intro pins s σ H x v fy fz lo ai cp Q I a7 aa cE pu h;obtain⟨a,xs,rfl,ao,hw,q⟩:=h;cases a7;obtain⟨its,r,ay,hz⟩:=I.tuple ao;have hlen:its.toArray.size=xs.length:=by rw[Y4];exact r.length.symm
 refine⟨"tuple",_,ZO.lookup,ay.typeIs,?_⟩;refine c8.Ob ay aa cE pu (by rw[hlen];exact hw) ?_ (by rw[hlen];exact hz);rw[hlen];refine⟨.ref s.heap.objs.size,_,I.laid (t':=s.toks) (o:=.tup (k9 xs lo ai)) (λb b8 q=>YZ _ q) (Y2 _) ?_,rfl,q _ (I.bK.fresh (Y2 _))⟩;exact⟨ZX (Cw xs lo ai) hz,_,(r.drop (c8.bW xs.length 0 lo)).take (c8.bW xs.length xs.length ai-c8.bW xs.length 0 lo),IsTup.new _ _⟩
noncomputable def TS(K:W.Frag):gi:=λx y H Q=>∃a b ns ms,x=.ref a/\y=.ref b/\fp K H a (ns.map V.int)/\fp K H b (ms.map V.int)/\Q (.aO (c8.lexLt ns ms)) H
def Se(bw:X.A.units<cLine):dk X (compareOp .Lt) (TS X.K):=by
 intro pins s σ H x y v u Q I a7 bO h;obtain⟨a,b,ns,ms,rfl,rfl,aB,ab,q⟩:=h;cases a7;cases bO;obtain⟨its,aG,bb,_⟩:=I.tuple aB;obtain⟨hp,aZ,bL,_⟩:=I.tuple ab;have e3:IntsAre its.toArray.toList ns:=intsAre_of aG;have g0:IntsAre hp.toArray.toList ms:=intsAre_of aZ;exact c8.Fj bb bL e3 g0 bw ⟨.aO (c8.lexLt ns ms),H,I,rfl,q⟩
end
end bM
namespace bM
open PySem PySem.Spec PyProof.Rows
noncomputable def hQ(n:Nat)(i:Int):Option Nat:=if 0<=i then(if i<n then some i.toNat else none) else if -(n:Int)<=i then some (i+n).toNat else none
noncomputable def nC{α:Type}(xs:List α)(i:Int):Option α:=(hQ xs.length i).bind λj=>xs[j]?
def EN{n:Nat}{i:Int}{j:Nat}(h:hQ n i=some j):seqIndex? i n=some j/\j<n/\-(n:Int)<=i/\i<n:=by
 unfold hQ at h
 by_cases h0:0<=i
 .rw[if_pos h0]at h
  by_cases C:i<n
  .rw[if_pos C]at h;have e:i.toNat=j:=ZA h;exact⟨by rw[seqIndex_of h0 C,e],by omega,by omega,C⟩
  .rw[if_neg C]at h;cases h
 .rw[if_neg h0]at h
  by_cases C:-(n:Int)<=i
  .rw[if_pos C]at h;have e:(i+n).toNat=j:=ZA h;exact⟨by rw[seqIndex_neg (by omega) C,e],by omega,C,by omega⟩
  .rw[if_neg C]at h;cases h
def wM{α:Type}{xs:List α}{i:Int}{v:α}(h:nC xs i=some v):∃j,seqIndex? i xs.length=some j/\xs[j]?=some v/\j<xs.length/\-(xs.length:Int)<=i/\i<xs.length:=by
 unfold nC at h;cases e:hQ xs.length i with
 |none=>rw[e]at h;cases h
 |some j =>
  rw[e]at h;obtain⟨C,J,aC,aT⟩:=EN e;exact⟨j,C,h,J,aC,aT⟩
noncomputable def wB(b:Expr):Prop:=∀o i,subscripted b false o i=operate [o,i] (getItem o i)
noncomputable def k3(X:aQ)(r:gi):Prop :=
 ∀(value slice:Expr)(pins:List (Addr×Obj))(s:Shared)(σ:St)(H:aw)(x y:V)(v u:Value)(Q:c0),Inv X pins σ H s->RelV x v->RelV y u->r x y H Q ->
  subscripted slice false v u=operate [v,u] (getItem v u)->wpAny (model X.prog X.w) X.A (subscriptTail value slice v u) (eN X pins σ Q) X.cA s
noncomputable def Bv(X:aQ)(id:String)(r:V->List V->aw->c0->Prop):Prop :=
 ∀(pins:List (Addr×Obj))(s:Shared)(σ:St)(H:aw)(x:V)(xs:List V)(v:Value)(us:List Value)(Q:c0),Inv X pins σ H s->RelV x v->Vals xs us->r x xs H Q ->
  wpAny (model X.prog X.w) X.A (call (.builtin id) (v::us)) (eN X pins σ Q) X.cA s
section
variable{X:aQ}{a b:Expr}{cC cS:TE}{pos:Pos}
def k3.or{r bX:gi}(h:k3 X r)(h':k3 X bX):k3 X (λx y H Q=>r x y H Q\/bX x y H Q):=by
 intro value slice pins s σ H x y v u Q I a7 bO q aa;rcases q with q|q
 .exact h value slice pins s σ H x y v u Q I a7 bO q aa
 .exact h' value slice pins s σ H x y v u Q I a7 bO q aa
def SG{r:gi}(a9:k3 X r)(aB:aM X a cC)(ab:aM X b cS)(aa:wB b):aM X (.Subscript a b pos) (sH r cC cS):=by
 intro pins s σ H Q I h;exact Subscript_ (xC aB ab I h λv u s2 x y aW cx a7 bO q=>a9 a b pins s2 σ aW x y v u Q cx a7 bO q (aa _ _))
noncomputable def Gu(K:W.Frag):gi:=λx y H Q=>∃p xs i v,x=.ref p/\y=.int i/\eo K H p xs/\nC xs i=some v/\Q v H
noncomputable def Gw(K:W.Frag):gi:=λx y H Q=>∃p xs i v,x=.ref p/\y=.int i/\fp K H p xs/\nC xs i=some v/\Q v H
noncomputable def Gv:gi:=λx y H Q=>∃z i c,x=.str z/\y=.int i/\z.length<=sizeLine/\nC z.cps.toList i=some c/\Q (.str ⟨#[c]⟩) H
def Qq:k3 X (Gu X.K):=by
 intro value slice pins s σ H x y v u Q I a7 bO h aa;obtain⟨p,xs,i,z,rfl,rfl,aL,he,q⟩:=h;cases a7;obtain⟨t,rfl⟩:=bO;obtain⟨its,r,cE,hz⟩:=I.list aL;obtain⟨j,C,J,aC,aT,b6⟩:=wM he;obtain⟨w,tL,ig⟩:=r.get J;have aA:=r.length;have aD:=r0;have fin:eN X pins σ Q w s:=⟨z,H,I,ig,q⟩
 by_cases h0:0<=i
 .have aJ:i.toNat=j:=by
   rw[seqIndex_of h0 b6]at C;exact ZA C
  exact item_listR cE.isList h0 (by omega) (by rw[aJ];simpa using tL) fin aa
 .have aJ:(i+(its.toArray.size:Int)).toNat=j:=by
   rw[seqIndex_neg (by omega) aT]at C;rw[Y4,<- aA];exact ZA C
  exact subscriptTail_builtinR (x:=w) cE.isList.typeIs slot_list_getitem.lookup
   (wpAny_getItem_list_neg (Q:=λr s'=>r=w/\eN X pins σ Q r s') cE.isList (by omega) (by rw[Y4]<;>omega) (by omega) (by rw[aJ];simpa using tL) ⟨rfl,fin⟩) aa
def Qu:k3 X (Gw X.K):=by
 intro value slice pins s σ H x y v u Q I a7 bO h aa;obtain⟨p,xs,i,z,rfl,rfl,aL,he,q⟩:=h;cases a7;obtain⟨t,rfl⟩:=bO;obtain⟨its,r,cE,hz⟩:=I.tuple aL;obtain⟨j,C,J,aC,aT,b6⟩:=wM he;obtain⟨w,tL,ig⟩:=r.get J;have aA:=r.length;have aD:=r0;have fin:eN X pins σ Q w s:=⟨z,H,I,ig,q⟩;exact subscriptTail_builtinR (x:=w) cE.typeIs slot_tuple_getitem.lookup
  (getItem_tuple (j:=j) (Q:=λr s'=>r=w/\eN X pins σ Q r s') cE (by omega) (by omega) (by rw[Y4,<- aA];exact C) (by simpa using tL) ⟨rfl,fin⟩) aa
def Qt:k3 X Gv:=by
 intro value slice pins s σ H x y v u Q I a7 bO h aa;obtain⟨z,i,c,rfl,rfl,hz,he,q⟩:=h;obtain⟨t,rfl⟩:=a7;obtain⟨t',rfl⟩:=bO;obtain⟨j,C,J,aC,aT,b6⟩:=wM he;have aA:z.cps.toList.length=z.length:=by simp[Str.length]
 rw[aA]at C aT b6;have aD:=r0;exact tail_any (typeIs_str s z t) slot_str_getitem.lookup (getItem_str (c:=c) (by
  have aj:decide (i < -(2 ^ 63:Int))=false:=decide_eq_false (by omega);have ak:decide (i>=2 ^ 63)=false:=decide_eq_false (by omega);rw[aj,ak,Bool.or_false]) (by rw[C];simpa using J) ⟨.str ⟨#[c]⟩,H,I.tok _,⟨_,rfl⟩,q⟩) aa
noncomputable def TR(K:W.Frag):gi:=λx y H Q=>Gu K x y H Q\/Gw K x y H Q\/Gv x y H Q
def Qs:k3 X (TR X.K):=Qq.or (Qu.or Qt)
def Ro(its:List Value)(n j:Nat)(u:Value):Obj.mapSeq (·.setIfInBounds j u) { cls:=.type "list",data:=.seq its.toArray n }={ cls:=.type "list",data:=.seq (its.set j u).toArray n }:=by
 simp[Obj.mapSeq]
theorem Inv.lst{pins:List (Addr×Obj)}{σ:St}{H:aw}{s:Shared}{p:Addr}{xs:List V}(I:Inv X pins σ H s)(h:H p=some (.lst xs)):
  ∃(its:List Value)(n:Nat),Vals xs its/\s.heap.get? p=some { cls:=.type "list",data:=.seq its.toArray n }/\xs.length<=sizeLine:=by
 obtain⟨z,its,n,r,e⟩:=I.bK p _ h;exact⟨its,n,r,e,z⟩
def Inv.Rj{pins:List (Addr×Obj)}{σ:St}{H:aw}{s:Shared}{p:Addr}{xs ys:List V}{its its':List Value}{n cn:Nat}{f:Obj->Obj}(I:Inv X pins σ H s)(h:H p=some (.lst xs))(av:s.heap.get? p=some { cls:=.type "list",data:=.seq its.toArray n })(hf:f { cls:=.type "list",data:=.seq its.toArray n }={ cls:=.type "list",data:=.seq its'.toArray cn })(r:Vals ys its')(hz:ys.length<=sizeLine)(t:Nat):
  Inv X pins σ (upd H p (.lst ys)) { s with heap:=s.heap.update p f,toks:=t }:=by
 have e:(s.heap.update p f).get? p=some { cls:=.type "list",data:=.seq its'.toArray cn }:=by
  rw[ZI f av (by rw[hf]<;>rfl),hf]
 refine I.write (x:=p) (e:=p) (by rw[h];trivial) (.inl rfl) (λb u ab q=>(ZT _ _ (Z6 ab)).trans q) ⟨_,e⟩ ?_;exact⟨hz,its',cn,r,e⟩
noncomputable def TU:V->V->V->aw->(aw->Prop)->Prop:=λo i v H Q=>∃p xs k j,o=.ref p/\i=.int k/\H p=some (.lst xs)/\hQ xs.length k=some j/\Q (upd H p (.lst (xs.set j v)))
def set_list:Je X TU:=by
 intro pins s σ H o i v m1 kz u Q I Uk Uc bR h;obtain⟨p,xs,k,j,rfl,rfl,az,aJ,q⟩:=h;cases Uk;obtain⟨t,rfl⟩:=Uc;obtain⟨its,n,r,av,hz⟩:=I.lst az;obtain⟨C,J,aC,aT⟩:=EN aJ;have aA:=r.length;have aD:=r0;have gz:Inv X pins σ (upd H p (.lst (xs.set j v))) { s with heap:=s.heap.update p (Obj.mapSeq (·.setIfInBounds j u)) } :=
  I.Rj az av (Ro its n j u) (r.set bR j) (by rw[aap];exact hz) s.toks
 by_cases h0:0<=k
 .have ax:k.toNat=j:=by
   rw[seqIndex_of h0 aT]at C;exact ZA C
  exact PySem.W.ki_setAt av h0 (by omega) (by rw[Y4,<- aA];exact aT) (by rw[ax];exact⟨_,gz,q⟩)
 .have ax:(k+(its.toArray.size:Int)).toNat=j:=by
   rw[seqIndex_neg (by omega) aC]at C;rw[Y4,<- aA];exact ZA C
  exact PySem.W.ki_setBack av (by omega) (by rw[Y4,<- aA];exact aC) (by omega) (by rw[ax];exact⟨_,gz,q⟩)
def VR(lo ai:Option Int)(n:Nat):(sliceBounds lo ai none n).1=((c8.bW n 0 lo:Nat):Int)/\(sliceBounds lo ai none n).2.1=((c8.bW n n ai:Nat):Int)/\(sliceBounds lo ai none n).2.2=1:=by
 refine⟨?_,?_,rfl⟩
 .cases lo with
  |none=>simp[sliceBounds,c8.bW]
  |some i =>
   simp only[sliceBounds,c8.bW,Option.getD_none,show(1:Int)>0 by decide,ZH]
   by_cases h:i<0
   .simp only[h,ZH]<;>omega
   .simp only[h,Zk]<;>omega
 .cases ai with
  |none=>simp[sliceBounds,c8.bW]
  |some i =>
   simp only[sliceBounds,c8.bW,Option.getD_none,show(1:Int)>0 by decide,ZH]
   by_cases h:i<0
   .simp only[h,ZH]<;>omega
   .simp only[h,Zk]<;>omega
def VQ(its:List Value)(lo ai:Option Int):slicePick its.toArray lo ai none=((its.drop (c8.bW its.length 0 lo)).take (c8.bW its.length its.length ai-c8.bW its.length 0 lo)).toArray:=by
 obtain⟨C,J,aC⟩:=VR lo ai its.toArray.size;unfold slicePick;rw[C,J,aC];simp only[sliceRange_one,pick_run,Y4]<;>rfl
noncomputable def TX(K:W.Frag):V->Option Int->Option Int->aw->c0->Prop:=λx lo ai H Q=>∃a xs,x=.ref a/\eo K H a xs/\∀p,H p=none->Q (.ref p) (upd H p (.lst (k9 xs lo ai)))
def VN:qu X (TX X.K):=by
 intro pins s σ H x v fy fz lo ai cp Q I a7 aa cE pu h;obtain⟨a,xs,rfl,ao,q⟩:=h;cases a7;obtain⟨its,r,ay,hz⟩:=I.list ao;have hlen:=r.length;refine⟨"list",_,slot_list_getitem.lookup,ay.isList.typeIs,?_⟩;refine wpAny_getItem_list_slice ay.isList aa cE pu .none (by simp) ?_ (by rw[Y4]<;>omega);rw[VQ,<- hlen];refine⟨.ref s.heap.objs.size,_,I.laid (t':=s.toks) (o:=.lst (k9 xs lo ai)) (λb b8 q=>YZ _ q) (Y2 _) ?_,rfl,q _ (I.bK.fresh (Y2 _))⟩;exact⟨ZX (Cw xs lo ai) hz,_,0,(r.drop (c8.bW xs.length 0 lo)).take (c8.bW xs.length xs.length ai-c8.bW xs.length 0 lo),Y7 _ rfl⟩
def B7:hB X (.builtin "len") (λxs H Q=>∃p ys,xs=[.ref p]/\(eo X.K H p ys\/fp X.K H p ys)/\Q (.int ys.length) H):=by
 intro pins s σ H xs us Q I r h;obtain⟨p,ys,rfl,aL,q⟩:=h;obtain⟨u,rfl,a7⟩:=vals1 r;cases a7;have aD:=r0;rcases aL with aL|aL
 .obtain⟨its,bX,cE,hz⟩:=I.list aL;have hlen:=bX.length;exact Calls.call_len_list cE.isList (by simp only[Y4]<;>omega) ⟨.int ys.length,H,I.tok _,⟨s.toks+1,by rw[Y4,hlen]⟩,q⟩
 .obtain⟨its,bX,cE,hz⟩:=I.tuple aL;have hlen:=bX.length;exact len_tuple cE (by simp only[Y4]<;>omega) ⟨.int ys.length,H,I.tok _,⟨s.toks+1,by rw[Y4,hlen]⟩,q⟩
def B8:hB X (.type "list") (λxs H Q=>∃p ys,xs=[.ref p]/\(eo X.K H p ys\/fp X.K H p ys)/\∀l,H l=none->Q (.ref l) (upd H l (.lst ys))):=by
 intro pins s σ H xs us Q I r h;obtain⟨p,ys,rfl,aL,q⟩:=h;obtain⟨u,rfl,a7⟩:=vals1 r;cases a7;have fin:∀(its:List Value),Vals ys its->ys.length<=sizeLine->∀(h':Heap)(c2:Nat),(∀b bG,s.heap.get? b=some bG->h'.get? b=some bG) ->
   h'.get? s.heap.objs.size=some { cls:=.type "list",dict:=none,data:=.seq its.toArray c2,slots:=#[] }->eN X pins σ Q (.ref s.heap.objs.size) { s with heap:=h' }:=λits bX hz h' c2 ji e =>
  ⟨.ref s.heap.objs.size,_,I.laid (t':=s.toks) ji (Y2 _) (show dR X.prog X.w _ h' _ (.lst ys) from⟨hz,its,c2,bX,e⟩),rfl,q _ (I.bK.fresh (Y2 _))⟩
 rcases aL with aL|aL
 .obtain⟨its,bX,cE,hz⟩:=I.list aL;have hlen:=bX.length;obtain⟨o,av,ag,n,hd⟩:=cE.isList;exact call_list_seq p (.inl rfl) av ag hd (λh' c2 ji e=>fin its bX hz h' c2 ji e) (by simp only[Y4]<;>omega)
 .obtain⟨its,bX,cE,hz⟩:=I.tuple aL;have hlen:=bX.length;obtain⟨o,av,ag,n,hd⟩:=cE;exact call_list_seq p (.inr rfl) av ag hd (λh' c2 ji e=>fin its bX hz h' c2 ji e) (by simp only[Y4]<;>omega)
def Ca:hB X (.type "tuple") (λxs H Q=>∃p ys,xs=[.ref p]/\((eo X.K H p ys/\∀l,H l=none->Q (.ref l) (upd H l (.tup ys)))\/(fp X.K H p ys/\Q (.ref p) H))):=by
 intro pins s σ H xs us Q I r h;obtain⟨p,ys,rfl,h⟩:=h;obtain⟨u,rfl,a7⟩:=vals1 r;cases a7;rcases h with⟨aL,q⟩|⟨aL,q⟩
 .obtain⟨its,bX,cE,hz⟩:=I.list aL;have hlen:=bX.length;refine call_tuple_list cE.isList (λh' ji=>?_) (by simp only[Y4]<;>omega);have a3:Inv X pins σ H { s with heap:=h' }:=I.kept (t':=s.toks) ji;have cx:Inv X pins σ (upd H h'.objs.size (.tup ys)) { s with heap:=h'.push { cls:=.type "tuple",data:=.seq its.toArray } } :=
   a3.laid (t':=s.toks) (λb o e=>YZ _ e) (Y2 _) (show dR X.prog X.w _ _ _ (.tup ys) from⟨hz,its,bX,IsTup.new _ _⟩)
  exact⟨.ref h'.objs.size,_,cx,rfl,q _ (a3.bK.fresh (Y2 _))⟩
 .obtain⟨its,bX,cE,hz⟩:=I.tuple aL;exact call_tuple_same cE ⟨.ref p,H,I,rfl,q⟩
noncomputable def A3(K:W.Frag)(T:String)(x:V)(H:aw):Prop:=match x with
 |.str _=>T="str"
 |.int _=>T="int"
 |.ref p=>(T="list"/\∃xs,eo K H p xs)\/(T="tuple"/\∃o,K.lookup p=some o/\o.cls=.type "tuple"/\o.dict=none) \/
   (T="dict"/\((∃af,H p=some (.d0 af))\/∃af,H p=some (.dg af)))\/(T="set"/\∃S n,H p=some (.set S n))
 |_=>False
def Im{pins:List (Addr×Obj)}{σ:St}{H:aw}{s:Shared}{T:String}{x:V}{v:Value}(I:Inv X pins σ H s)(r:RelV x v)(ty:A3 X.K T x H):
  s.TypeIs v T/\∀a,v=.ref a->∃b8,s.heap.get? a=some b8/\b8.dict=none:=by
 cases x with
 |str z =>
  obtain⟨t,rfl⟩:=r;cases (show T="str" from ty);exact⟨typeIs_str s z t,λ_ e=>nomatch e⟩
 |int i =>
  obtain⟨t,rfl⟩:=r;cases (show T="int" from ty);exact⟨typeIs_int s i t,λ_ e=>nomatch e⟩
 |ref p =>
  cases r;rcases ty with⟨rfl,xs,aL⟩|⟨rfl,o,ax,ag,hd⟩|⟨rfl,ax⟩|⟨rfl,S,n,ax⟩
  .obtain⟨its,_,cE,_⟩:=I.list aL;refine⟨cE.isList.typeIs,λa e=>?_⟩;cases e;obtain⟨o,n,e,c,hd,_⟩:=cE;exact⟨o,e,hd⟩
  .refine⟨⟨o,I.fT p o ax,ag⟩,λa e=>?_⟩;cases e;exact⟨o,I.fT _ o ax,hd⟩
  .have z:∃o,s.heap.get? p=some o/\o.ExactDict:=by
    rcases ax with⟨af,ax⟩|⟨af,ax⟩
    .obtain⟨_,_,_,_,o,_,_,e,ex,_⟩:=I.bK p _ ax;exact⟨o,e,ex⟩
    .obtain⟨_,_,_,_,o,_,_,e,ex,_⟩:=I.bK p _ ax;exact⟨o,e,ex⟩
   obtain⟨o,e,ex⟩:=z;refine⟨⟨o,e,ex.1⟩,λa ak=>?_⟩;cases ak;exact⟨o,e,ex.2.1⟩
  .obtain⟨o,_,_,_,e,ex,_⟩:=I.bK p _ ax;refine⟨⟨o,e,ex.1⟩,λa ak=>?_⟩;cases ak;exact⟨o,e,ex.2.1⟩
 |_=>exact False.elim ty
noncomputable def HT(K:W.Frag)(T:String)(r:V->List V->aw->c0->Prop)(to:TE):TE:=λσ H Q=>to σ H λx H1=>A3 K T x H1/\r x [] H1 Q
noncomputable def Wi(K:W.Frag)(T:String)(r:V->List V->aw->c0->Prop)(to:TE)(t:gk):TE:=λσ H Q=>to σ H λx H1=>A3 K T x H1/\t σ H1 λxs aW=>r x xs aW Q
variable{o e:Expr}{ah:List Expr}{to:TE}{t:gk}{name:Str}{apos fR:Pos}{T id:String}{r:V->List V->aw->c0->Prop}
def Sv(va:PlainAttrs T)(slot:Slot T name id)(zo:typeOf (.builtin id)=pure (.type "method_descriptor"))(hm:Bv X id r)(av:aM X o to)(yN:attributeBase o name X.env (eval o X.env)=eval o X.env:=by rfl)(iU:(apos.endLine==fR.line)=true:=by rfl):aM X (.Call (.Attribute o name apos) [] [] fR) (HT X.K T r to):=by
 intro pins s σ H Q I h;refine wpAny_Call_method0_late yN iU (bF (av pins s σ H _ I h) λv s1 ⟨x,H1,a3,aG,ty,aU⟩=>?_);obtain⟨C,J⟩:=Im a3 aG ty;exact⟨T,id,va,slot,zo,C,J,abq rfl (PySem.evalArgs_none (hm pins s1 σ H1 x [] v [] Q a3 aG .nil aU))⟩
def z7(va:PlainAttrs T)(slot:Slot T name id)(zo:typeOf (.builtin id)=pure (.type "method_descriptor"))(hm:Bv X id r)(av:aM X o to)(aB:fO X (e::ah) t)(yN:attributeBase o name X.env (eval o X.env)=eval o X.env:=by rfl)(OJ:((backTo fR (starEach (e::ah) X.env)).all (λx=>!x.1)&&(backToKw fR (keywordEach [] X.env)).all (λx=>x.1.isSome)
   && decide ((e::ah).length+([]:List Keyword).length+(if ([]:List Keyword).isEmpty then 0 else 1)<30))=true:=by rfl)(iU:(apos.endLine==fR.line)=true:=by rfl)(aa:starEach (e::ah) X.env=(false,eval e X.env)::starEach ah X.env:=by rfl)(Py:(backTo fR (starEach ah X.env)).any (·.1)=false:=by rfl):
  aM X (.Call (.Attribute o name apos) (e::ah) [] fR) (Wi X.K T r to t):=by
 intro pins s σ H Q I h;refine wpAny_Call_method_late yN OJ iU rfl (bF (av pins s σ H _ I h) λv s1 ⟨x,H1,a3,aG,ty,aU⟩=>?_);obtain⟨C,J⟩:=Im a3 aG ty;refine⟨T,id,va,slot,zo,C,J,?_⟩;have kk:=aB fR pins s1 σ H1 _ a3 aU;rw[aa]at kk ⊢;refine abq (by show(false||(backTo fR (starEach ah X.env)).any (·.1))=false;rw[Py]<;>rfl) (Calls.evalArgs_plain ?_);exact bF kk λus s2 ⟨ae,aW,cx,aZ,bq⟩=>hm pins s2 σ aW x ae v us Q cx aG aZ bq
end
end bM
namespace bM
open PySem PySem.Spec PyProof.Rows
noncomputable def s7(X:aQ)(id:String)(r:V->List V->aw->c0->Prop):Prop :=
 ∀(pins:List (Addr×Obj))(s:Shared)(σ:St)(H:aw)(x:V)(xs:List V)(v:Value)(us:List Value)(Q:c0),Inv X pins σ H s->RelV x v->Vals xs us->r x xs H Q ->
  wpAny (model X.prog X.w) X.A (call (.builtin id) (v::us)) (eN X pins σ Q) X.cA s
def Vals.one:∀{x:V}{us:List Value},Vals [x] us->∃u,us=[u]/\RelV x u
 |_,_,.cons r .nil=>⟨_,rfl,r⟩
def Vals.zero:∀{us:List Value},Vals [] us->us=[]
 |_,.nil=>rfl
theorem Vals.dropLast{xs:List V}{us:List Value}(h:Vals xs us):Vals xs.dropLast us.dropLast:=by
 induction h with
 |nil=>exact .nil
 |cons r t aE =>
  cases t with
  |nil=>exact .nil
  |cons q t'=>exact .cons r aE
def MC{α:Type}(l:List α):l.eraseIdx (l.length-1)=l.dropLast:=by
 induction l with
 |nil=>rfl
 |cons a r aE =>
  cases r with
  |nil=>rfl
  |cons b r =>
   have e:(a::b::r).length-1=((b::r).length-1)+1:=by
    have C:(a::b::r).length=r.length+2:=rfl;have J:(b::r).length=r.length+1:=rfl;omega
   rw[e,List.eraseIdx_cons_succ,aE]
   all_goals rfl
section
variable{X:aQ}{pins:List (Addr×Obj)}{σ:St}{H:aw}{s:Shared}{l b:Addr}{xs ys zs:List V}
def Inv.zM{its its':List Value}{n:Nat}{f:Array Value->Array Value}{t':Nat}(I:Inv X pins σ H s)(f7:H l=some (.lst xs))(e:s.heap.get? l=some { cls:=.type "list",data:=.seq its.toArray n })(hf:f its.toArray=its'.toArray)(aN:Vals ys its')(hz:ys.length<=sizeLine):
  Inv X pins σ (upd H l (.lst ys)) { s with heap:=s.heap.update l (Obj.mapSeq f),toks:=t' }:=by
 have q:=PySem.IsL.update e f;rw[hf]at q;refine I.write (x:=l) (e:=l) (by rw[f7];exact trivial) (.inl rfl) (λgn u ab bw=>(ZT s.heap (Obj.mapSeq f) (Z6 ab)).trans bw) ⟨_,q⟩ ?_;exact⟨hz,its',_,aN,q⟩
def Inv.Ff{its:List Value}{t':Nat}(I:Inv X pins σ H s)(aN:Vals ys its)(hz:ys.length<=sizeLine):
  Inv X pins σ (upd H s.heap.objs.size (.lst ys)) { s with heap:=s.heap.push { cls:=.type "list",data:=.seq its.toArray },toks:=t' } :=
 I.laid (λ_ _ q=>YZ _ q) (Y2 _) ⟨hz,its,0,aN,Y7 _ rfl⟩
theorem Inv.fresh(I:Inv X pins σ H s):H s.heap.objs.size=none:=I.bK.fresh (Y2 _)
def Inv.zN(I:Inv X pins σ H s)(f7:H l=some (.lst xs)):xs.length<=sizeLine/\∃(its:List Value)(n:Nat),Vals xs its/\xs.length=its.length/\s.heap.get? l=some { cls:=.type "list",data:=.seq its.toArray n }:=by
 obtain⟨z,its,n,r,e⟩:=I.bK l _ f7;exact⟨z,its,n,r,r.length,e⟩
def RU{n:Nat}(h:n<=sizeLine):Builtin.List.listTooLong n=false:=by
 unfold Builtin.List.listTooLong;exact decide_eq_false (by omega)
end
section
variable{X:aQ}
noncomputable def TP:V->List V->aw->c0->Prop:=λx ae H Q=>∃l xs y,x=.ref l/\ae=[y]/\H l=some (.lst xs)/\xs.length<sizeLine/\Q .dp (upd H l (.lst (xs++[y])))
def FC:s7 X "list.append" TP:=by
 intro pins s σ H x ae v us Q I a7 bR h;obtain⟨l,xs,y,rfl,rfl,f7,hz,q⟩:=h;cases a7;obtain⟨u,rfl,cF⟩:=bR.one;obtain⟨z,its,n,r,aA,e⟩:=I.zN f7;refine call_meets F.slot_list_append ⟨_,e,rfl⟩ F.entry_list_append (F.args_list_append_2 _ _) (PySem.list_append l its.toArray n u (by rw[Y4];omega)) ⟨e,?_⟩;refine⟨.dp,_,I.zM (its':=its++[u]) f7 e (by simp) (r.append (.cons cF .nil)) ?_,rfl,q⟩;rw[List.length_append,List.length_singleton];omega
noncomputable def Gx:V->List V->aw->c0->Prop:=λx ae H Q=>∃l xs y,x=.ref l/\ae=[]/\H l=some (.lst xs)/\xs[xs.length-1]?=some y/\Q y (upd H l (.lst xs.dropLast))
def RK:s7 X "list.pop" Gx:=by
 intro pins s σ H x ae v us Q I a7 bR h;obtain⟨l,xs,y,rfl,rfl,f7,aV,q⟩:=h;cases a7;have PO:=bR.zero;subst PO;obtain⟨z,its,n,r,aA,e⟩:=I.zN f7;obtain⟨u,bw,cF⟩:=r.get aV;have PT:its.toArray[its.toArray.size-1]?=some u:=by
  show its.toArray[its.length-1]?=some u;rw[<- Zz,<- aA];exact bw
 refine call_meets F.slot_list_pop ⟨_,e,rfl⟩ F.entry_list_pop (F.args_list_pop_1 _) (MeetsSeq.list_pop_last l its.toArray n u PT (by rw[Y4];omega)) ⟨e,?_⟩;refine⟨y,_,I.zM (its':=its.dropLast) f7 e ?_ r.dropLast ?_,cF,q⟩
 .show its.toArray.eraseIdxIfInBounds (its.toArray.size-1)=its.dropLast.toArray;rw[Y4,List.eraseIdxIfInBounds_toArray,MC]
 .rw[List.length_dropLast];omega
end
section
variable{prog:Program}{w:World}{A:Around}{E:Value->Shared->Prop}{s:Shared}
end
section
variable{X:aQ}
end
end bM
namespace Bo
open PySem PySem.W PySem.Calls PyProof.Rows
def Qg{P:Params}{h:Heap}:∀(ns:List Int)(ae:List Value),WellAll P h ae (ns.map WData.int)->IntsAre ae ns:=by
 intro ns
 induction ns with
 |nil =>
  intro ae w;rw[aaU]at w;cases w;exact .nil
 |cons n ns aE =>
  intro ae w;rw[List.map_cons]at w;cases w with
  |cons a b =>
   cases a;exact .cons _ _ (aE _ b)
def Vr{l:OpenLaw}{n:Nat}(aD:l.most=some n){P:Params}{h:Heap}{args:List WData}{vals:List Value}(ui:l.row.toRowW.claim.pre args=true)(rG:WellAll P h vals args):
  ∃a ae ns,vals=[Value.ref a]/\args=[WData.list (ns.map WData.int)]/\h.get? a=some { cls:=.type "list",data:=.seq ae.toArray }/\IntsAre ae ns/\ns.length<=n:=by
 have ku:WShape.hasAll [] args [.list .int]=true:=(pre_splitW ui).1;have ag:l.pre.holds [] { args:=args }=true:=(pre_splitW ui).2;obtain⟨d,r,rfl,C,J⟩:=hasAllW_cons ku;obtain rfl:=hasAllW_nil J;obtain⟨xs,rfl,aC⟩:=hasW_list C;obtain⟨ns,rfl⟩:=items_int aC;have hlen:ns.length<=n:=by
  unfold OpenLaw.pre at ag;have aT:(WTm.not (.lt (.lit (.int (n:Int))) (.len (.arg 0)))).holds [] { args:=[.list (ns.map .int)] }=true:=by
   have aT:=(holds_andW ag).1;rw[aD]at aT;exact aT
  have b6:=condW_of aT (w_not (w_lt w_lit (w_len_list (w_arg rfl))));rw[List.length_map]at b6;refine ack λq=>?_
  have dq:(n:Int)<((ns.length:Nat):Int):=by omega
  first
   |(rw[decide_eq_true dq]at b6;exact absurd b6 (by decide))
   |(simp at b6;omega)
 cases rG with
 |cons i4 jZ =>
  cases jZ;cases i4 with
  |list av fD=>exact⟨_,_,ns,rfl,rfl,av,Qg ns _ fD,hlen⟩
def Te(l:OpenLaw)(args:List WData):l.row.toRowW.claim.post args (.bool true) args=true :=
 postW_of (r:=l.row.toRowW) (X:=(true==true))
  (show WShape.has [] (.bool true) .bool=true by first|rfl|decide|simp[WShape.has,WShape.arms,WShape.armsAll])
  (show(WTm.eq .res (.lit (.bool true))).value [] { args:=args,res:=some (.bool true),after:=args }=some (.bool (true==true)) from w_eq_bool (w_res rfl) w_lit) rfl
def JY{l:OpenLaw}{n:Nat}{q:Program}{loose:List Str}{cu:(Str->Option Value)->Heap->Prop}{mh:World->Heap->Prop}{d:DefRec}(aD:l.most=some n)(rl:d.params.defaults=[])(call:∀(w:World)(fl cM:Shared)(aX jm:Str->Option Value)(bg:Addr)(o:Obj)(pm cd doc:Value)(a:Addr)(ae:List Value)(ns:List Int),
   Ground q loose [] cu w fl aX jm cM.heap->mh w cM.heap ->
   cM.heap.get? bg=some o->o.data=.func (docDef d.name d.params d.body d.scope pm cd doc)->cM.heap.CodeRec cd d.name->aX d.name=some (.ref bg) ->
   cM.heap.get? a=some { cls:=.type "list",data:=.seq ae.toArray }->IntsAre ae ns->ns.length<=n->cM.gens=#[] ->
   codeAny (model l.prog w) callerA (.call (.ref bg) ⟨[.ref a],[]⟩) (λr s'=>r=.ok (.ret (.bool true))/\OldK cM.heap s'.heap/\s'.os=cM.os/\AllBare s'.gens) cM):
  WalkO q loose cu mh l.row.toRowW d [] (λf ae=>PySem.call f ae):=by
 intro w fl cM aX jm G Y bg o pm cd doc tv de av hd lB o6 rt a4 args vals as ui El Yx rG Yo;obtain rfl:tv=.none:=Dflts.none o6 rl;obtain rfl:de=.none:=Dflts.noKw o6;obtain⟨a,ae,ns,rfl,rfl,zc,hints,hlen⟩:=Vr aD ui rG;refine enter_call (abZ (call w fl cM aX jm bg o pm cd doc a ae ns G Y av (fd_plain hd) lB rt zc hints hlen a4) λr s' aL=>?_);obtain⟨rfl,J,aC,aT⟩:=aL;exact⟨.inl ⟨.bool true,.bool true,[],rfl,λ_=>rfl,.bool true,Te l _,λ_=>⟨List.Pairwise.nil,λ_ hm=>(nomatch hm)⟩⟩,J,aC,aT⟩
section
variable{prog:Program}{w:World}{A:Around}{E:Value->Shared->Prop}{s:Shared}{K:Frag}
end
end Bo
namespace bM
open PySem PySem.Spec PyProof.Rows
theorem II:∀{ae:List Value}{ns:List Int},IntsAre ae ns->Vals (ns.map V.int) ae
 |_,_,.nil=>.nil
 |_,_,.cons n t h=>.cons ⟨t,rfl⟩ (II h)
noncomputable def wz(H:aw):Prop:=∀b,H b=none\/∃o xs,H b=some (.dv o (.lst xs))
def QQ{P:Program}{w:World}{K:W.Frag}{aX jm:Str->Option Value}{CX:jy}{k:Nat}{bg a:Addr}{fd:FuncData}{x:Str}{sp:mf}{cM:Shared}{ae:List Value}{ns:List Int}(i6:K.In cM.heap)(mK:cM.heap.Ns mainGlobals aX)(ab:cM.heap.Ns builtinsNs jm)(ix:∀x:Str,x≠"__name__"->jm x=bootBuiltins x)(O9:cM.heap.NoLimit)(a4:cM.gens=#[])(aB:cM.heap.get? a=some { cls:=.type "list",data:=.seq ae.toArray })(ai:IntsAre ae ns)(aA:ns.length<=sizeLine)(a9:gj k callerA)(F:∀base:Heap,K.In base->base.Ns mainGlobals aX->j4 P w K aX base CX k bg fd [x] sp)(yP:∀(s:Shared)(u:Value),BindsTo s fd ⟨[u],[]⟩ [(x,u)])(pk:∀H:aw,wz H->eo K H a (ns.map V.int)->sp [.ref a] H (λv _=>v=.aO true) λ_ _ _=>False)(yE:∀H e s',CX [] H cM (λ_ _ _=>False) e s'->False):
  codeAny (model P w) callerA (.call (.ref bg) ⟨[.ref a],[]⟩) (λr s'=>r=.ok (.ret (.bool true))/\OldK cM.heap s'.heap/\s'.os=cM.os/\AllBare s'.gens) cM:=by
 have bR:=II ai;have Q1:=ai.length;have core:∀H:aw,wz H->eo K H a (ns.map V.int)->en P w H cM.heap->(∀b,H b≠none->b=a)->(H a≠none->K.lookup a=none) ->
   codeAny (model P w) callerA (.call (.ref bg) ⟨[.ref a],[]⟩) (λr s'=>r=.ok (.ret (.bool true))/\OldK cM.heap s'.heap/\s'.os=cM.os/\AllBare s'.gens) cM:=by
  intro H o7 bh bK kk ho;have BW:∀{b:Addr}{o:Obj},cM.heap.get? b=some o->H b=none->(lC cM.heap H).get? b=some o:=λe n=>OT e n
  have sa:∀{b:Addr}{o:Obj}{ah:Array DictEntry}{a6:Nat},cM.heap.get? b=some o->o.data=.dict ah a6->H b=none:=λ{b o ah a6} e d=>by
   cases q:H b with
   |none=>rfl
   |some u =>
    have bp:b=a:=kk b (by rw[q];simp);subst bp;rw[aB]at e;cases e;have d':Data.seq ae.toArray _=Data.dict ah a6:=d;cases d'
  have uZ:∀{b:Addr}{m:Str->Option Value},cM.heap.Ns b m->(lC cM.heap H).Ns b m:=λ{b m} ⟨o,ah,a6,e,d,r⟩=>⟨o,ah,a6,BW e (sa e d),d,r⟩;have DZ:K.In (lC cM.heap H):=λb o e=>BW (i6 b o e) (by
   cases q:H b with
   |none=>rfl
   |some u =>
    have bp:b=a:=kk b (by rw[q];simp);subst bp;rw[ho (by rw[q];simp)]at e;cases e)
  have ft:Mod K aX (lC cM.heap H):=⟨DZ,uZ mK,⟨jm,uZ ab,ix⟩,let ⟨Rt,C,J⟩:=O9;⟨Rt,uZ C,J⟩⟩;have dO:sX P w K aX (lC cM.heap H) callerA [] cM H:=⟨rfl,ft,λb o e=>R2 e,Nat.le_of_eq (OU _ _),trivial,λb ab=>absurd (show b∈([]:List Addr) from ab) (by simp),bK,.of_eq a4⟩;refine abZ ((F _ DZ (uZ mK)).run callerA [] cM H ⟨[.ref a],[]⟩ [.ref a] [.ref a] _ _ a9 dO (yP cM (.ref a)) (.cons rfl .nil) (pk H o7 bh)) λr s' h=>?_
  cases r with
  |error e=>exact(yE H e s' h).elim
  |ok eX =>
   cases eX with
   |next=>exact False.elim h
   |brk=>exact False.elim h
   |cont=>exact False.elim h
   |ret u =>
    obtain⟨v,aq,os,bare,un,zd,bX,q⟩:=h;have dq:v=.aO true:=q;subst dq;obtain rfl:u=Value.bool true:=bX;refine⟨rfl,OldK.of_keep λb o e=>?_,os,bare⟩;cases q:H b with
    |none=>exact un.keep b o e q (by intro z;exact absurd (show b∈([]:List Addr) from z) (by simp)) (by simp)
    |some u =>
     rcases o7 b with z|⟨b8,xs,z⟩
     .rw[q]at z;cases z
     .have b0:=un.jM b b8 _ z;obtain⟨aj,_⟩:=bK b _ z;obtain⟨ak,_⟩:=zd b _ b0;rw[e]at aj;cases aj;exact ak
 cases ax:K.lookup a with
 |some o =>
  have e:=i6 a o ax;rw[aB]at e;cases e;refine core (λ_=>none) (λ_=>.inl rfl) (.inr ⟨_,ae.toArray,_,ax,rfl,rfl,rfl,by rw[Y4,Q1];exact aA,by simpa using bR⟩) (λb u z=>by have ij:(none:Option dX)=some u:=z;cases ij) (λb z=>absurd rfl z) λz=>absurd rfl z
 |none =>
  refine core (λb=>if b=a then some (.dv { cls:=.type "list",data:=.seq ae.toArray } (.lst (ns.map V.int))) else none) (λb=>?_) (.inl (.inr ⟨{ cls:=.type "list",data:=.seq ae.toArray },if_pos rfl⟩)) (λb u z=>?_) (λb z=>?_) λ_=>ax
  .by_cases ab:b=a
   .exact .inr ⟨_,_,if_pos ab⟩
   .exact .inl (if_neg ab)
  .by_cases ab:b=a
   .have ij:=(if_pos ab).symm.trans z;cases ij;subst ab;exact⟨aB,by rw[List.length_map];exact aA,ae,_,bR,aB⟩
   .have ij:=(if_neg ab).symm.trans z;cases ij
  .by_cases ab:b=a
   .exact ab
   .exact absurd (if_neg ab) z
end bM
namespace bM
open PySem PySem.Spec PyProof.Rows
noncomputable abbrev Bt{K:W.Frag}{h:Heap}(_:K.In h):W.Frag:=K
def XE{l:PySem.W.OpenLaw}{n k:Nat}{q:Program}{loose:List Str}{cu:(Str->Option Value)->Heap->Prop}{mh:World->Heap->Prop}{d:DefRec}{K:Params->W.Frag}{CX:World->jy}{sp:World->mf}{x:Str}(aD:l.most=some n)(Pk:n<=sizeLine)(rl:d.params.defaults=[])(a9:gj k callerA)(gI:∀(w:World)(h:Heap),mh w h->(K w.params).In h)(F:∀(w:World)(aX:Str->Option Value)(bg:Addr)(h:Heap),(K w.params).In h->h.Ns mainGlobals aX->aX d.name=some (.ref bg) ->
   ∃fd:FuncData,(∀(s:Shared)(u:Value),BindsTo s fd ⟨[u],[]⟩ [(x,u)]) /\
    ∀base:Heap,(K w.params).In base->base.Ns mainGlobals aX->j4 l.prog w (K w.params) aX base (CX w) k bg fd [x] (sp w))(pk:∀(w:World)(H:aw)(a:Addr)(ns:List Int),ns.length<=n->wz H->eo (K w.params) H a (ns.map V.int)->sp w [.ref a] H (λv _=>v=.aO true) λ_ _ _=>False)(yE:∀(w:World)(H:aw)(s:Shared)(e:Value)(s':Shared),CX w [] H s (λ_ _ _=>False) e s'->False):
  PySem.W.WalkO q loose cu mh l.row.toRowW d [] (λf ae=>PySem.call f ae):=by
 refine Bo.JY aD rl λw fl cM aX jm bg o pm cd doc a ae ns G Y av hd lB rt zc hints hlen a4=>?_
 have i6:=gI w _ Y;obtain⟨fd,ab,yG⟩:=F w aX bg _ i6 G.T.g rt;exact QQ i6 G.T.g G.T.b G.T.builtins G.T.nolimit a4 zc hints (ZX hlen Pk) a9 yG ab (λH o7 bh=>pk w H a ns hlen o7 bh) λH e s'=>yE w H cM e s'
end bM
namespace bM
open PySem PySem.Spec PyProof.Rows
noncomputable def hL(s:Stmt):Arguments:=match s with
 |.FunctionDef _ a _ _ _ _ _ _ _ _=>a
 |_=>{ posonlyargs:=[],args:=[],vararg:=none,kwonlyargs:=[],kw_defaults:=[],kwarg:=none,defaults:=[] }
noncomputable def lb(s:Stmt):List Stmt:=match s with
 |.FunctionDef _ _ b _ _ _ _ _ _ _=>b
 |_=>[]
noncomputable def hY(s:Stmt):Scope:=match s with
 |.FunctionDef _ _ _ _ _ _ sc _ _ _=>sc
 |_=>{ kind:=.function,names:=[],isGenerator:=false,isCoroutine:=false }
structure qk(K:W.Frag)(x qual:Str)(st:Stmt)(f:Addr)(fd:FuncData):Prop where
 ex:∃(gd:Value)(ba:Option Addr)(de doc pm:Value)(an:Option Addr)(d8 ct:Value)(fJ:Array (Option Value)),
  fd=W.fnOf x qual (hL st) (lb st) (hY st) .none de doc pm an d8 ct/\K.lookup f=some ⟨gd,ba,.func fd,fJ⟩/\W.codeIn K d8 qual=true
 ji:W.keepIn K (.ref f)=true
section
variable{P:Program}{w:World}{K:W.Frag}{aX:Str->Option Value}{base:Heap}
def qk.binds{x qual:Str}{st:Stmt}{f:Addr}{fd:FuncData}{aS:List Str}(F:qk K x qual st f fd)(h:∀(de doc pm:Value)(an:Option Addr)(d8 ct:Value)(us:List Value),us.length=aS.length->bindArgs (W.fnOf x qual (hL st) (lb st) (hY st) .none de doc pm an d8 ct) ⟨us,[]⟩=pure (aS.zip us)):Binds K fd aS []:=by
 obtain⟨gd,ba,de,doc,pm,an,d8,ct,fJ,rfl,lk,lB⟩:=F.ex;exact .all (h de doc pm an d8 ct)
def DE{x qual:Str}{st:Stmt}{f:Addr}{gd:Value}{ba an:Option Addr}{fJ:Array (Option Value)}{de doc pm d8 ct:Value}(l:K.lookup f=some ⟨gd,ba,.func (W.fnOf x qual (hL st) (lb st) (hY st) .none de doc pm an d8 ct),fJ⟩)(c:W.codeIn K d8 qual=true)(k:W.keepIn K (.ref f)=true):qk K x qual st f (W.fnOf x qual (hL st) (lb st) (hY st) .none de doc pm an d8 ct):=⟨⟨gd,ba,de,doc,pm,an,d8,ct,fJ,rfl,l,c⟩,k⟩
end
section
variable{X:aQ}
end
noncomputable def bQ(H aq:aw):Prop:=∀b o,H b=some o->aq b=some o
def bQ.refl(H:aw):bQ H H:=λ_ _ h=>h
def bQ.trans{H H1 aW:aw}(a:bQ H H1)(b:bQ H1 aW):bQ H aW:=λc o h=>b c o (a c o h)
def bQ.free{H aq:aw}(e:bQ H aq){l:Addr}(h:aq l=Option.none):H l=Option.none:=by
 cases q:H l with
 |none=>rfl
 |some o =>
  rw[e l o q]at h;cases h
end bM
end
section
set_option Elab.async false
set_option linter.all false
set_option maxRecDepth 100000
namespace bM
open PySem PySem.Spec PyProof.Rows
section
variable{κ:Type}[DecidableEq κ]
noncomputable def hc(af:List (κ×V))(k:κ):Option V:=(af.find? λcJ=>decide (cJ.1=k)).map (·.2)
noncomputable def putK(af:List (κ×V))(k:κ)(v:V):List (κ×V) :=
 if (af.any λcJ=>decide (cJ.1=k))=true then af.map (λcJ=>if cJ.1=k then(cJ.1,v) else cJ) else af++[(k,v)]
def Bf{p:κ×V}{r:List (κ×V)}{k:κ}(e:p.1=k):hc (p::r) k=some p.2:=by simp[hc,List.find?_cons,e]
def Be{p:κ×V}{r:List (κ×V)}{k:κ}(e:¬p.1=k):hc (p::r) k=hc r k:=by simp[hc,List.find?_cons,e]
theorem IH(k:κ):∀af:List (κ×V),(af.any λcJ=>decide (cJ.1=k))=(hc af k).isSome
 |[]=>rfl
 |p::r=>by
  rw[List.any_cons]
  by_cases e:p.1=k
  .simp only[Bf e,decide_eq_true e,Bool.true_or,Option.isSome_some]
  .rw[Be e,decide_eq_false e,Bool.false_or];exact IH k r
def zG(af:List (κ×V))(k:κ)(v:V):(putK af k v).length<=af.length+1:=by
 unfold putK
 split
 .rw[List.length_map];omega
 .rw[List.length_append,List.length_cons,List.length_nil];omega
def iJ.Qj{o:Option V}{u:Option Value}(r:iJ o u):o.isSome=u.isSome:=by
 cases o with
 |none=>cases u with
  |none=>rfl
  |some _=>exact(show False from r).elim
 |some _=>cases u with
  |none=>exact(show False from r).elim
  |some _=>rfl
theorem iJ.getD{o:Option V}{u:Option Value}{d:V}{d':Value}(r:iJ o u)(dD:RelV d d'):RelV (o.getD d) (u.getD d'):=by
 cases o with
 |none=>cases u with
  |none=>exact dD
  |some _=>exact(show False from r).elim
 |some _=>cases u with
  |none=>exact(show False from r).elim
  |some _=>exact r
def e1.val{af:List (κ×V)}{ae:List (κ×Value)}(r:e1 af ae)(k:κ):iJ (hc af k) (valueAt ae k):=by
 unfold e1 at r
 induction r with
 |nil=>exact True.intro
 |@cons p q aS fW h t aE =>
  obtain⟨C,J⟩:=h
  by_cases e:p.1=k
  .have bp:q.1=k:=C.symm.trans e;have b:valueAt (q::fW) k=some q.2:=(by simp[valueAt,List.find?_cons,bp]);rw[Bf e,b];exact J
  .have bp:¬q.1=k:=λz=>e (C.trans z)
   have b:valueAt (q::fW) k=valueAt fW k:=(by simp[valueAt,List.find?_cons,bp]);rw[Be e,b];exact aE
theorem e1.any{af:List (κ×V)}{ae:List (κ×Value)}(r:e1 af ae)(k:κ):(af.any λcJ=>decide (cJ.1=k))=ae.any λcJ=>decide (cJ.1=k):=by
 unfold e1 at r
 induction r with
 |nil=>rfl
 |cons h t aE=>rw[List.any_cons,List.any_cons,aE,h.1]
def e1.Ar{af:List (κ×V)}{ae:List (κ×Value)}(r:e1 af ae)(k:κ){y:V}{u:Value}(bO:RelV y u):
  e1 (af.map λcJ=>if cJ.1=k then(cJ.1,y) else cJ) (ae.map λcJ=>if cJ.1=k then(cJ.1,u) else cJ):=by
 unfold e1 at r ⊢
 induction r with
 |nil=>exact .nil
 |@cons p q aS fW h t aE =>
  rw[List.map_cons,List.map_cons];refine .cons ?_ aE;obtain⟨C,J⟩:=h
  by_cases e:p.1=k
  .rw[if_pos e,if_pos (C.symm.trans e)];exact⟨C,bO⟩
  .rw[if_neg e,if_neg (λz=>e (C.trans z))];exact⟨C,J⟩
def e1.put{af:List (κ×V)}{ae:List (κ×Value)}(r:e1 af ae)(k:κ){y:V}{u:Value}(bO:RelV y u):e1 (putK af k y) (stored ae k u):=by
 unfold putK stored;rw[r.any k]
 by_cases e:(ae.any λcJ=>decide (cJ.1=k))=true
 .rw[if_pos e,if_pos e];exact r.Ar k bO
 .rw[if_neg e,if_neg e];exact Paired.snoc r ⟨rfl,bO⟩
theorem e1.length{af:List (κ×V)}{ae:List (κ×Value)}(r:e1 af ae):af.length=ae.length:=Paired.length r
end
def rR{P:Program}{w:World}{k:Key}{u:Value}(r:RelV (de k) u):(g7 P w).is k u=true:=by
 cases k with
 |inl i=>obtain⟨t,e⟩:=(show ∃t,u=Value.int i t from r);subst e;exact Rz P w i t
 |inr x=>obtain⟨t,e⟩:=(show ∃t,u=Value.str x t from r);subst e;exact RA P w x t
theorem rP{P:Program}{w:World}:∀{ar:List Key}{us:List Value},Vals (ar.map de) us->ItemsAre (g7 P w) ar us
 |[],_,r=>by rw[aaU]at r;cases r;exact .nil
 |k::ar,_,r=>by
  rw[List.map_cons]at r;cases r with
  |cons h t=>exact .cons (rR h) (rP t)
noncomputable abbrev KT(H:aw):List (List Key×V)->List (List Key×Addr×Value)->Prop:=Paired λp q=>p.1=q.1/\H q.2.1=some (.tup (p.1.map de))/\RelV p.2 q.2.2
def KT.val{H:aw}{af:List (List Key×V)}{xs:List (List Key×Addr×Value)}(r:KT H af xs)(k:List Key):iJ (hc af k) ((atKey xs k).map (·.2)):=by
 induction r with
 |nil=>exact True.intro
 |@cons p q aS fW h t aE =>
  obtain⟨C,_,J⟩:=h
  by_cases e:p.1=k
  .have bp:q.1=k:=C.symm.trans e;have b:atKey (q::fW) k=some q.2:=(by simp[atKey,List.find?_cons,bp]);rw[Bf e,b];exact J
  .have bp:¬q.1=k:=λz=>e (C.trans z)
   have b:atKey (q::fW) k=atKey fW k:=(by simp[atKey,List.find?_cons,bp]);rw[Be e,b];exact aE
def KT.Ar{H:aw}{af:List (List Key×V)}{xs:List (List Key×Addr×Value)}(r:KT H af xs)(k:List Key){y:V}{u:Value}(bO:RelV y u):
  KT H (af.map λcJ=>if cJ.1=k then(cJ.1,y) else cJ) (xs.map (putAt k u)):=by
 induction r with
 |nil=>exact .nil
 |@cons p q aS fW h t aE =>
  rw[List.map_cons,List.map_cons];refine .cons ?_ aE;obtain⟨C,J,aC⟩:=h;unfold putAt
  by_cases e:p.1=k
  .rw[if_pos e,if_pos (C.symm.trans e)];exact⟨C,J,bO⟩
  .rw[if_neg e,if_neg (λz=>e (C.trans z))];exact⟨C,J,aC⟩
def KT.put{H:aw}{af:List (List Key×V)}{xs:List (List Key×Addr×Value)}(r:KT H af xs)(k:List Key){b:Addr}{y:V}{u:Value}(ab:H b=some (.tup (k.map de)))(bO:RelV y u):
  KT H (putK af k y) (storedH xs k b u):=by
 have e:(af.any λcJ=>decide (cJ.1=k))=(atKey xs k).isSome:=by
  rw[IH,(r.val k).Qj,Option.isSome_map]
 unfold putK storedH;rw[e]
 by_cases q:(atKey xs k).isSome=true
 .rw[if_pos q,if_pos q];exact r.Ar k bO
 .rw[if_neg q,if_neg q];exact Paired.snoc r ⟨rfl,ab,bO⟩
def KT.keeps{H aq:aw}{af:List (List Key×V)}{xs:List (List Key×Addr×Value)}(r:KT H af xs)(ay:∀b ys,H b=some (.tup ys)->aq b=some (.tup ys)):KT aq af xs :=
 Paired.zP r λ_ _ z=>⟨z.1,ay _ _ z.2.1,z.2.2⟩
section
variable{P:Program}{w:World}{H:aw}{h:Heap}{a:Addr}
def GC{u:dX}(ok:en P w H h)(e:gW H a u):dR P w H h a u:=e.ok ok
def qQ{af:List (Key×V)}(ok:en P w H h)(e:gW H a (.d0 af)):af.length<=sizeLine/\(a==sysModules)=false/\∃ae,e1 af ae/\h.DictOf (g7 P w) a ae :=
 show dR P w H h a (.d0 af) from GC ok e
def CI{af:List (Key×V)}(ok:en P w H h)(e:H a=some (.d0 af)):af.length<=sizeLine/\(a==sysModules)=false/\∃ae,e1 af ae/\h.DictOf (g7 P w) a ae:=qQ ok (.inl e)
def uI{ar:List Key}(ok:en P w H h)(e:H a=some (.tup (ar.map de))):(tupleKind (g7 P w)).is h ar a:=by
 obtain⟨_,its,r,o,C,J,n,aC⟩:=(show dR P w H h a (.tup (ar.map de)) from ok a _ e);exact⟨o,its.toArray,n,C,J,aC,by simpa using rP r⟩
def qU{af:List (List Key×V)}(ok:en P w H h)(e:gW H a (.dg af)):af.length<=sizeLine/\(a==sysModules)=false /\
  ∃xs,KT H af xs/\h.DictOfH (tupleKind (g7 P w)) a xs:=by
 obtain⟨z,y,xs,r,o,ah,a6,C,J,aC,aT,b6⟩:=(show dR P w H h a (.dg af) from GC ok e);refine⟨z,y,xs,r,o,ah,a6,C,J,aC,aT,λx ao=>?_,b6⟩;have all:∀{l:List (List Key×V)}{m:List (List Key×Addr×Value)},KT H l m->∀x∈m,(tupleKind (g7 P w)).is h x.1 x.2.1:=by
  intro l m q
  induction q with
  |nil=>intro x ao;exact nomatch ao
  |@cons p q aS fW aL t aE =>
   intro x ao;rcases Y0.mp ao with e|ao
   .subst e;exact uI ok (by rw[<- aL.1];exact aL.2.1)
   .exact aE x ao
 exact all r x ao
def Md{af:List (List Key×V)}(ok:en P w H h)(e:H a=some (.dg af)):af.length<=sizeLine/\(a==sysModules)=false /\
  ∃xs,KT H af xs/\h.DictOfH (tupleKind (g7 P w)) a xs:=qU ok (.inl e)
end
noncomputable def l6(H:aw)(a:Addr)(y:V)(r:Option V):Prop :=
 (∃af k,gW H a (.d0 af)/\y=de k/\r=hc af k)\/∃af k b,gW H a (.dg af)/\y=.ref b/\H b=some (.tup (k.map de))/\r=hc af k
noncomputable def iG(H:aw)(a:Addr)(y v:V)(aq:aw):Prop :=
 (∃af k,H a=some (.d0 af)/\y=de k/\af.length<sizeLine/\aq=upd H a (.d0 (putK af k v))) \/
 ∃af k b,H a=some (.dg af)/\y=.ref b/\H b=some (.tup (k.map de))/\af.length<sizeLine/\aq=upd H a (.dg (putK af k v))
def l6.t{H:aw}{a b:Addr}{af:List (List Key×V)}{k:List Key}(e:H a=some (.dg af))(eV:H b=some (.tup (k.map de))):l6 H a (.ref b) (hc af k):=.inr ⟨af,k,b,.inl e,rfl,eV,rfl⟩
theorem iG.k{H:aw}{a:Addr}{af:List (Key×V)}{k:Key}{v:V}(e:H a=some (.d0 af))(aA:af.length<sizeLine):iG H a (de k) v (upd H a (.d0 (putK af k v))):=.inl ⟨af,k,e,rfl,aA,rfl⟩
def iG.t{H:aw}{a b:Addr}{af:List (List Key×V)}{k:List Key}{v:V}(e:H a=some (.dg af))(eV:H b=some (.tup (k.map de)))(aA:af.length<sizeLine):
  iG H a (.ref b) v (upd H a (.dg (putK af k v))):=.inr ⟨af,k,b,e,rfl,eV,aA,rfl⟩
section
variable{X:aQ}{pins:List (Addr×Obj)}{σ:St}{H:aw}{s:Shared}{a:Addr}{y v:V}{u r:Value}{o:Option V}{A:Around}{E:Value->Shared->Prop}
def Inv.big(I:Inv X pins σ H s):sysModules<s.heap.objs.size:=by
 have h:mainGlobals<s.heap.objs.size:=(I.mod.glob.keeps I.k6).lt;exact Nat.lt_trans (by decide) h
def LR{Q:Value->Shared->Prop}(bw:A.units+1<cLine)(I:Inv X pins σ H s)(g:l6 H a y (some v))(bO:RelV y u)(h:∀dQ s',Inv X pins σ H s'->RelV v dQ->Q dQ s'):
  wpAny (model X.prog X.w) A (getItem (.ref a) u) Q E s:=by
 rcases g with⟨af,k,e,gF,l⟩|⟨af,k,b,e,gF,eV,l⟩
 .subst gF;obtain⟨z,hd,ae,rel,dn⟩:=qQ I.bK e;obtain⟨dQ,hw,ig⟩:=iJ.some_of (v:=v) (o:=valueAt ae k) (by rw[l];exact rel.val k);exact wpAny_getItem_of (rR bO) dn.mapOf hw (h dQ _ (I.tok _) ig)
 .subst gF;cases (show u=Value.ref b from bO);obtain⟨z,hd,xs,rel,dn⟩:=qU I.bK e;obtain⟨dQ,hw,ig⟩:=iJ.some_of (v:=v) (o:=(atKey xs k).map (·.2)) (by rw[l];exact rel.val k);obtain⟨p,az,Px⟩:=Option.map_eq_some_iff.mp hw;refine wpAny_getItem_heap (ab0 bw) (uI I.bK eV) dn az ?_;rw[Px];exact h dQ _ (I.tok _) ig
def x3{h':Heap}{t':Nat}{b8:dX}(I:Inv X pins σ H s)(mu:qp (H a))(aa:Heap.SameBut a s.heap h')(he:∃q,h'.get? a=some q)(new:dR X.prog X.w (upd H a b8) h' a b8):
  Inv X pins σ (upd H a b8) { s with heap:=h',toks:=t' } :=
 I.write (x:=a) (e:=a) mu (.inl rfl) (λb q ab z=>(aa.2 b ab).trans z) he new
def CH{P:Program}{w:World}{aq:aw}{h':Heap}{af:List (Key×V)}{ae:List (Key×Value)}(z:af.length<=sizeLine)(hd:(a==sysModules)=false)(rel:e1 af ae)(dn:h'.DictOf (g7 P w) a ae):
  dR P w aq h' a (.d0 af):=⟨z,hd,ae,rel,dn⟩
def LV{aq:aw}{Q:Unit->Shared->Prop}(bw:A.units+1<cLine)(I:Inv X pins σ H s)(g:iG H a y v aq)(bO:RelV y u)(bR:RelV v r)(h:∀s',Inv X pins σ aq s'->Q () s'):
  wpAny (model X.prog X.w) A (setItem (.ref a) u r) Q E s:=by
 rcases g with⟨af,k,e,gF,l,qW⟩|⟨af,k,b,e,gF,eV,l,qW⟩
 .subst gF qW;obtain⟨z,hd,ae,rel,dn⟩:=CI I.bK e;have hz:ae.length<=sizeLine:=(by rw[<- rel.length];exact z);have aA:(putK af k v).length<=sizeLine:=(by have:=zG af k v;omega);refine wpAny_setItem_pairs (hsz:=hz) (rR bO) dn λh' nJ aa=>h _ ?_
  have he:∃q,h'.get? a=some q:=let ⟨q,_,_,aL,_⟩:=nJ;⟨q,aL⟩
  exact x3 I (by rw[e];exact True.intro) aa he (CH aA hd (rel.put k bR) nJ)
 .subst gF qW;cases (show u=Value.ref b from bO);obtain⟨z,hd,xs,rel,dn⟩:=Md I.bK e;have hz:xs.length<=sizeLine:=(by rw[<- Paired.length rel];exact z);have aA:(putK af k v).length<=sizeLine:=(by have:=zG af k v;omega);refine wpAny_setItem_heap (hsz:=hz) (ab0 bw) (uI I.bK eV) dn λh' nJ aa=>h _ ?_
  obtain⟨q,ah,a6,aL,J,aC,aT,_,b6⟩:=nJ;refine x3 I (by rw[e];exact True.intro) aa ⟨q,aL⟩ ⟨aA,hd,_,(rel.put k eV bR).keeps λc ys jJ=>?_,q,ah,a6,aL,J,aC,aT,b6⟩;rw[cT (RN jJ e (λz=>nomatch z))];exact jJ
end
section
variable{X:aQ}{pins:List (Addr×Obj)}{σ:St}{H:aw}{s:Shared}{a:Addr}{af:List (Key×V)}{k:Key}{u:Value}{A:Around}{E:Value->Shared->Prop}
end
noncomputable def Bx(i:Expr):Prop:=∀m1 kz,subscripted i false m1 kz=operate [m1,kz] (getItem m1 kz)
def Wc{prog:Program}{w:World}{A:Around}{E:Value->Shared->Prop}{s:Shared}{env:Env}{value slice:Expr}{pos:Pos}{T id:String}{Q:Value->Shared->Prop}(aA:typeLookup (.type T) "__getitem__"=pure (some (.builtin id)))(aa:Bx slice)(h:wpAny (model prog w) A (eval value env) (λo cM=>wpAny (model prog w) A (eval slice env) (λi gw=>gw.TypeIs o T/\wpAny (model prog w) A (getItem o i) Q E gw) E cM) E s):
  wpAny (model prog w) A (eval (.Subscript value slice pos) env) Q E s:=by
 refine Subscript_ (ZR h (λo cM hO=>ZR hO (λi gw rJ=>?_) λ_ _ x=>x) λ_ _ x=>x);obtain⟨c5,rJ⟩:=rJ;unfold subscriptTail;refine YW ?_;rw[getitemInPython_of_ne c5.not_modules];refine YW (acx c5 aA ?_);have fin:wpAny (model prog w) A (subscripted slice false o i) (λr p1=>wpAny (model prog w) A (letTemporaryGo value o r>>=λ_=>pure r) Q E p1) E gw:=by
  rw[aa o i];exact wpAny_operating (ZR rJ (λr p1 uv=>YW (wpAny_letTemporaryGo (YY uv))) λ_ _ x=>x)
 first
  |exact YY (YW fin)
  |exact YW (YY (YW fin))
  |exact YW fin
def L3{X:aQ}{pins:List (Addr×Obj)}{σ:St}{H:aw}{s:Shared}{a:Addr}{y:V}{o:Option V}(I:Inv X pins σ H s)(g:l6 H a y o):s.TypeIs (.ref a) "dict":=by
 rcases g with⟨af,k,e,_,_⟩|⟨af,k,b,e,_,_,_⟩
 .obtain⟨_,_,ae,_,dn⟩:=qQ I.bK e;exact dn.typeIs
 .obtain⟨_,_,xs,_,dn⟩:=qU I.bK e;exact dn.typeIs
noncomputable def vH(i3 ty:TE):TE:=λσ H Q=>i3 σ H λx H1=>ty σ H1 λy aW=>∃a v,x=.ref a/\l6 aW a y (some v)/\Q v aW
noncomputable def Uz(i3 ty kW:TE):gB:=λD σ H=>kW σ H λv H1=>i3 σ H1 λx aW=>ty σ aW λy bP=>∃a e0,x=.ref a/\iG bP a y v e0/\D.bJ σ e0
section
variable{X:aQ}{o i e value:Expr}{pos pos' Xd:Pos}{i3 ty kW:TE}
def SA(bw:X.A.units+1<cLine)(av:aM X o i3)(ai:aM X i ty)(aa:Bx i):aM X (.Subscript o i pos) (vH i3 ty):=by
 intro pins s σ H Q I h;refine Wc PySem.F.slot_dict_getitem.lookup aa (bF (av pins s σ H _ I h) λu s1 ⟨x,H1,a3,a7,aU⟩=>bF (ai pins s1 σ H1 _ a3 aU) λkz s2 ⟨y,aW,cx,bO,a,v,ex,g,bq⟩=>?_);subst ex;obtain rfl:u=Value.ref a:=a7;exact⟨L3 cx g,LR bw cx g bO λdQ s3 eg ig=>⟨v,aW,eg,ig,bq⟩⟩
def Tt(bw:X.A.units+1<cLine)(av:aM X o i3)(ai:aM X i ty)(aN:aM X value kW)(aa:swapsWith value (some (.Subscript o i pos')) pos.line X.env=pure false):
  dY X (.Assign [.Subscript o i pos'] value pos) (Uz i3 ty kW):=by
 intro pins s σ H D I h;refine wpAny_Assign_Subscript (bF (aN pins s σ H _ I h) λr s1 ⟨v,H1,a3,bR,aU⟩=>bF (av pins s1 σ H1 _ a3 aU) λu s2 ⟨x,aW,cx,a7,bq⟩=>bF (ai pins s2 σ aW _ cx bq) λkz s3 ⟨y,bP,eg,bO,a,e0,ex,g,ck⟩=>?_) aa;subst ex;obtain rfl:u=Value.ref a:=a7;exact LV bw eg g bO bR λs4 fo=>⟨σ,e0,fo,ck⟩
end
def CF{P:Program}{w:World}{H:aw}(h:Heap)(ab:sysModules<h.objs.size):dR P w H (h.push { cls:=.type "dict",data:=.dict #[] }) h.objs.size (.d0 []) :=
 ⟨Zo _,Zs.mpr (Z6 (Zh ab)),[],.nil,Heap.DictOf.new h⟩
def Mc{P:Program}{w:World}{H:aw}(h:Heap)(ab:sysModules<h.objs.size):dR P w H (h.push { cls:=.type "dict",data:=.dict #[] }) h.objs.size (.dg []) :=
 ⟨Zo _,Zs.mpr (Z6 (Zh ab)),[],.nil,_,#[],0,Y7 _ rfl,⟨rfl,rfl,rfl⟩,rfl,rfl,aaQ⟩
noncomputable def Wl:TE:=λ_ H Q=>∀p,H p=none->Q (.ref p) (upd H p (.d0 []))
noncomputable def Wm:TE:=λ_ H Q=>∀p,H p=none->Q (.ref p) (upd H p (.dg []))
section
variable{X:aQ}{pos:Pos}
def Ga:aM X (.Dict [] [] pos) Wl:=λpins s σ H Q I h =>
 wpAny_Dict_empty ⟨.ref s.heap.objs.size,_,I.laid (a:=s.heap.objs.size) (o:=.d0 []) (t':=s.toks) (λ_ _ q=>YZ _ q) (Y2 _) (CF s.heap I.big),rfl,h _ (I.bK.fresh (Y2 _))⟩
def Gb:aM X (.Dict [] [] pos) Wm:=λpins s σ H Q I h =>
 wpAny_Dict_empty ⟨.ref s.heap.objs.size,_,I.laid (a:=s.heap.objs.size) (o:=.dg []) (t':=s.toks) (λ_ _ q=>YZ _ q) (Y2 _) (Mc s.heap I.big),rfl,h _ (I.bK.fresh (Y2 _))⟩
end
noncomputable def AV:List (TE×TE)->St->aw->(List (V×V)->aw->Prop)->Prop
 |[],_,H,Q=>Q [] H
 |(tk,kW)::r,σ,H,Q=>tk σ H λx H1=>kW σ H1 λy aW=>AV r σ aW λaS bP=>Q ((x,y)::aS) bP
noncomputable abbrev BB:List (V×V)->List (Value×Value)->Prop:=Paired λp q=>RelV p.1 q.1/\RelV p.2 q.2
noncomputable def s8(X:aQ)(pos:Pos)(keys:List (Option Expr))(values:List Expr)(lY:List (TE×TE)):Prop :=
 ∀(pins:List (Addr×Obj))(s:Shared)(σ:St)(H:aw)(Q:List (V×V)->aw->Prop),Inv X pins σ H s->AV lY σ H Q ->
  wpAny (model X.prog X.w) X.A (evalPairs (pairTrees keys values X.env pos)) (λae s'=>∃aS aq,Inv X pins σ aq s'/\BB aS ae/\Q aS aq) X.cA s
def Tg{X:aQ}{pos:Pos}:s8 X pos [] [] []:=λpins s σ H Q I h=>pairTrees_nil_walk ⟨[],H,I,.nil,h⟩
def Tf{X:aQ}{pos:Pos}{k v:Expr}{ar:List (Option Expr)}{ae:List Expr}{tk kW:TE}{lY:List (TE×TE)}(ax:aM X k tk)(aN:aM X v kW)(a9:s8 X pos ar ae lY):
  s8 X pos (some k::ar) (v::ae) ((tk,kW)::lY):=λpins s σ H Q I h =>
 pairTrees_cons_walk (bF (ax pins s σ H _ I h) λu s1 ⟨x,H1,a3,a7,aU⟩=>bF (aN pins s1 σ H1 _ a3 aU) λjZ s2 ⟨y,aW,cx,bO,bq⟩ =>
  bF (a9 pins s2 σ aW _ cx bq) λws s3 ⟨aS,bP,eg,rel,ck⟩=>⟨(x,y)::aS,bP,eg,.cons ⟨a7,bO⟩ rel,ck⟩)
noncomputable def pG(af more:List (Key×V)):List (Key×V):=more.foldl (λacc cJ=>putK acc cJ.1 cJ.2) af
def e1.merge:∀{more:List (Key×V)}{rs:List (Key×Value)}{af:List (Key×V)}{ae:List (Key×Value)},e1 more rs->e1 af ae->e1 (pG af more) (merged ae rs):=by
 intro more rs af ae r;unfold e1 at r
 induction r generalizing af ae with
 |nil=>intro q;exact q
 |@cons p q aS fW h t aE =>
  intro fX;have e:e1 (putK af p.1 p.2) (stored ae q.1 q.2):=by
   have:=fX.put p.1 h.2;rw[<- h.1];exact this
  exact aE e
theorem EZ:∀(more af:List (Key×V)),(pG af more).length<=af.length+more.length
 |[],af=>by show af.length<=af.length+0;omega
 |p::r,af=>by
  have C:=EZ r (putK af p.1 p.2);have J:=zG af p.1 p.2;show(pG (putK af p.1 p.2) r).length<=_;rw[List.length_cons];omega
theorem Cb{P:Program}{w:World}:∀{af:List (Key×V)}{ws:List (Value×Value)},BB (af.map λcJ=>(de cJ.1,cJ.2)) ws->∃rs,Carries (g7 P w) ws rs/\e1 af rs
 |[],_,r=>by rw[aaU]at r;cases r;exact⟨[],True.intro,.nil⟩
 |p::af,_,r=>by
  rw[List.map_cons]at r;cases r with
  |@cons a b as bs h t =>
   obtain⟨rs,c,q⟩:=Cb (P:=P) (w:=w) t;obtain⟨b1,b2⟩:=b;exact⟨(p.1,b2)::rs,⟨rR h.1,rfl,c⟩,.cons ⟨rfl,h.2⟩ q⟩
noncomputable def Wn(lY:List (TE×TE)):TE:=λσ H Q=>∀p,H p=none->AV lY σ (upd H p (.d0 [])) λaS aW=>aW p=some (.d0 [])/\∃af:List (Key×V),aS=af.map (λcJ=>(de cJ.1,cJ.2))/\af.length<=15/\Q (.ref p) (upd aW p (.d0 (pG [] af)))
def SE{X:aQ}{pos:Pos}{keys:List (Option Expr)}{values:List Expr}{lY:List (TE×TE)}(h:s8 X pos keys values lY)(fD:keys.all (·.isSome)=true)(aA:keys.length=values.length)(h0:keys≠[])(Oi:keys.length<=15):aM X (.Dict keys values pos) (Wn lY):=by
 intro pins s σ H Q I q;have aD:=I.bK.fresh (Y2 s.heap.objs.size);have a3:=I.laid (a:=s.heap.objs.size) (o:=.d0 []) (h':=s.heap.push { cls:=.type "dict",data:=.dict #[] }) (t':=s.toks) (λ_ _ q=>YZ _ q) (Y2 _) (CF s.heap I.big);refine wpAny_Dict_walk (knd:=g7 X.prog X.w) fD aA h0 Oi (bF (h pins _ σ _ _ a3 (q _ aD)) λws s2 ⟨aS,aW,cx,rel,e,af,a6,lk,bq⟩=>?_);subst a6;obtain⟨rs,c,fK⟩:=Cb (P:=X.prog) (w:=X.w) rel;obtain⟨z,hd,YT,fX,dn⟩:=CI cx.bK e;cases fX;refine⟨rs,c,dn,λh' nJ aa=>⟨.ref s.heap.objs.size,_,?_,rfl,bq⟩⟩;have hz:(pG [] af).length<=sizeLine:=by
  have C:=EZ af [];rw[List.length_nil]at C;rw[sizeLine_eq];omega
 have he:∃q,h'.get? s.heap.objs.size=some q:=let ⟨q,_,_,aL,_⟩:=nJ;⟨q,aL⟩
 exact x3 cx (by rw[e];exact True.intro) aa he (CH hz hd (fK.merge .nil) nJ)
structure X2(X:aQ)(o:Expr)(m:Str)(apos:Pos)(e:Expr)(fR:Pos):Prop where
 base:attributeBase o m X.env (eval o X.env)=eval o X.env
 yj:((backTo fR (starEach [e] X.env)).all (λx=>!x.1)&&(backToKw fR (keywordEach [] X.env)).all (λx=>x.1.isSome)
  && decide (([e]:List Expr).length+([]:List Keyword).length+(if ([]:List Keyword).isEmpty then 0 else 1)<30))=true
 line:(apos.endLine==fR.line)=true
 trees:backTo fR (starEach [e] X.env)=[(false,eval e X.env)]
structure M2(X:aQ)(o:Expr)(m:Str)(apos:Pos)(e f:Expr)(fR:Pos):Prop where
 base:attributeBase o m X.env (eval o X.env)=eval o X.env
 yj:((backTo fR (starEach [e,f] X.env)).all (λx=>!x.1)&&(backToKw fR (keywordEach [] X.env)).all (λx=>x.1.isSome)
  && decide (([e,f]:List Expr).length+([]:List Keyword).length+(if ([]:List Keyword).isEmpty then 0 else 1)<30))=true
 line:(apos.endLine==fR.line)=true
 trees:backTo fR (starEach [e,f] X.env)=[(false,eval e X.env),(false,eval f X.env)]
noncomputable def Br(H:aw)(a:Addr):Prop:=(∃af,gW H a (.d0 af))\/∃af,gW H a (.dg af)
def Qi{X:aQ}{pins:List (Addr×Obj)}{σ:St}{H:aw}{s:Shared}{a:Addr}(I:Inv X pins σ H s)(d:Br H a):
  s.TypeIs (.ref a) "dict"/\(∀b,Value.ref a=.ref b->∃b8,s.heap.get? b=some b8/\b8.dict=none)/\(a==sysModules)=false:=by
 rcases d with⟨af,e⟩|⟨af,e⟩
 .obtain⟨_,hd,ae,_,dn⟩:=qQ I.bK e;refine⟨dn.typeIs,λb q=>?_,hd⟩;cases q;obtain⟨b8,_,_,C,J,_⟩:=dn;exact⟨b8,C,J.2.1⟩
 .obtain⟨_,hd,xs,_,dn⟩:=qU I.bK e;refine⟨dn.typeIs,λb q=>?_,hd⟩;cases q;obtain⟨b8,_,_,C,J,_⟩:=dn;exact⟨b8,C,J.2.1⟩
section
variable{X:aQ}{pins:List (Addr×Obj)}{σ:St}{H:aw}{s:Shared}{a:Addr}{y d:V}{u r:Value}{o:Option V}{A:Around}{E:Value->Shared->Prop}
def LQ{Q:Value->Shared->Prop}(bw:A.units+1<cLine)(I:Inv X pins σ H s)(g:l6 H a y o)(bO:RelV y u)(dD:RelV d r)(h:∀dQ s',Inv X pins σ H s'->RelV (o.getD d) dQ->Q dQ s'):
  wpAny (model X.prog X.w) A (call (.builtin "dict.get") [.ref a,u,r]) Q E s:=by
 rcases g with⟨af,k,e,gF,l⟩|⟨af,k,b,e,gF,eV,l⟩
 .subst gF;obtain⟨z,hd,ae,rel,dn⟩:=qQ I.bK e;refine call_meetsIn abA dn.typeIs acs (acm _ _ _) (meets_dict_get_default (g7 X.prog X.w) a (rR bO) hd r) ⟨_,dn.mapOf,h _ _ (I.tok _) ?_⟩;rw[l];exact(rel.val k).getD dD
 .subst gF;cases (show u=Value.ref b from bO);obtain⟨z,hd,xs,rel,dn⟩:=qU I.bK e;refine call_meetsIn abA dn.typeIs acs (acm _ _ _) (meetsH_dict_get_default (tupleKind (g7 X.prog X.w)) a b hd r) ⟨ab0 bw,k,xs,uI I.bK eV,dn,h _ _ (I.tok _) ?_⟩;rw[l];exact(rel.val k).getD dD
end
noncomputable def Wk(i3 ty vO:TE):TE:=λσ H Q=>i3 σ H λx H1=>∃a,x=.ref a/\Br H1 a/\ty σ H1 λy aW=>vO σ aW λz bP=>∃o,l6 bP a y o/\Q (o.getD z) bP
section
variable{X:aQ}{o e f:Expr}{apos fR:Pos}{i3 ty vO:TE}
def SD(bw:X.A.units+1<cLine)(av:aM X o i3)(he:aM X e ty)(hf:aM X f vO)(m:M2 X o "get" apos e f fR):aM X (.Call (.Attribute o "get" apos) [e,f] [] fR) (Wk i3 ty vO):=by
 intro pins s σ H Q I h;refine wpAny_Call_method m.base m.yj m.line PySem.F.plainAttrs_dict abA PySem.F.type_dict_get (bF (av pins s σ H _ I h) λu s1 ⟨x,H1,a3,a7,a,ex,d,aU⟩=>?_);subst ex;obtain rfl:u=Value.ref a:=a7;obtain⟨t1,e6,_⟩:=Qi a3 d;refine⟨t1,e6,?_⟩;rw[m.trees];refine abq rfl (Calls.evalArgs_plain (aaz (bF (he pins s1 σ H1 _ a3 aU) λkz s2 ⟨y,aW,cx,bO,bq⟩ =>
  aaz (bF (hf pins s2 σ aW _ cx bq) λYf s3 ⟨z,bP,eg,Uw,m1,g,ck⟩=>aa4 ?_))))
 exact LQ bw eg g bO Uw λdQ s4 fo ig=>⟨_,bP,fo,ig,ck⟩
end
section
variable{X:aQ}{pins:List (Addr×Obj)}{σ:St}{H:aw}{s:Shared}{a:Addr}{af:List (Key×V)}{A:Around}{E:Value->Shared->Prop}
end
section
variable{X:aQ}{pins:List (Addr×Obj)}{σ:St}{H:aw}{s:Shared}{a:Addr}{y:V}{u:Value}{A:Around}{E:Value->Shared->Prop}
end
end bM
end
set_option autoImplicit false
set_option linter.all false
set_option maxRecDepth 100000
set_option maxHeartbeats 8000000
local macro_rules | `(tactic| omega) => `(tactic| first | decide | assumption | exact Nat.le_trans (by assumption) (by decide) | exact Nat.lt_succ_of_le (by assumption) | exact Nat.le_of_succ_le_succ (by assumption) | exact Nat.le_succ_of_le (by assumption) | exact Nat.le_of_lt (by assumption) | exact Nat.not_le.mp (by assumption) | exact Nat.not_lt.mp (by assumption) | exact Int.le_trans (by assumption) (by decide) | lia)
section
namespace Den
open PySem
inductive R(α:Type) where
 |ok (a:α)
 |exc (c:Nat)
 |bad
noncomputable def R.bind{α β:Type}:R α->(α->R β)->R β
 |.ok a,f=>f a
 |.exc c,_=>.exc c
 |.bad,_=>.bad
noncomputable instance:Monad R where
 pure:=R.ok
 bind:=R.bind
def a5{α:Type}{a b:α}(h:a=b):a=b:=h
@[simp] theorem R.iB {α β:Type} (a:α) (f:α->R β):(R.ok a>>=f)=f a:=a5 rfl
@[simp] theorem R.Ni {α β:Type} (c:Nat) (f:α->R β):(R.exc c>>=f)=R.exc c:=a5 rfl
@[simp] theorem R.X6 {α β:Type} (f:α->R β):(R.bad>>=f)=R.bad:=a5 rfl
@[simp] theorem R.YN {α:Type} (a:α):(pure a:R α)=R.ok a:=rfl
inductive D where
 |dp
 |aO (b:Bool)
 |int (i:Int)
 |str (x:Str)
 |tup (xs:List D)
 |lst (xs:List D)
 |b7 (af:List (List Int×Int))
 |bE (af:List (Int×Int×Int))
 |cG (af:List (List Int×List (List Int)))
 |fs (c:Nat)
mutual
noncomputable def f5:D->D->Bool
 |.dp,.dp=>true
 |.aO a,.aO b=>a==b
 |.aO a,.int j=>(if a then 1 else 0)==j
 |.int i,.aO b=>i==(if b then 1 else 0)
 |.int i,.int j=>i==j
 |.str x,.str y=>x==y
 |.tup xs,.tup ys=>kg xs ys
 |.lst xs,.lst ys=>kg xs ys
 |_,_=>false
noncomputable def kg:List D->List D->Bool
 |[],[]=>true
 |x::xs,y::ys=>f5 x y&&kg xs ys
 |_,_=>false
end
mutual
noncomputable def iX:D->D->Option Bool
 |.int i,.int j=>some (decide (i<j))
 |.tup xs,.tup ys=>jk xs ys
 |_,_=>none
noncomputable def jk:List D->List D->Option Bool
 |[],[]=>some false
 |[],_::_=>some true
 |_::_,[]=>some false
 |x::xs,y::ys=>if f5 x y then jk xs ys else iX x y
end
noncomputable def fG:Nat->D->Bool
 |0,.int _=>true
 |n+1,.tup xs=>xs.all (fG n)
 |_,_=>false
noncomputable def pq(x:D):List D->List D
 |[]=>[x]
 |y::ys=>if iX y x=some true then y::pq x ys else x::y::ys
noncomputable def hs:List D->List D
 |[]=>[]
 |x::xs=>pq x (hs xs)
noncomputable def la:List D->List D
 |[]=>[]
 |x::xs=>if xs.any (f5 x) then la xs else x::la xs
noncomputable def mN:D->Bool
 |.tup (x::xs)=>fG 0 x&&xs.all (fG 0)
 |_=>false
noncomputable def mM:D->Bool
 |.tup (x::xs)=>mN x&&xs.all mN
 |_=>false
noncomputable def ia(xs:List D):Bool:=xs.all (fG 0)||xs.all mN
noncomputable def SZ:Nat:=16777216
noncomputable def hi:Int:=18446744073709551616
noncomputable def sorted(xs:List D):R D:=if (ia xs||xs.all mM)&&xs.length<=63 then .ok (.lst (hs xs)) else .bad
noncomputable def eZ(xs:List D):R D:=if ia xs&&(la xs).length<=63 then .ok (.lst (hs (la xs))) else .bad
inductive Op where
 |add|sub|mul|fdiv|mod|and|xor
inductive hC where
 |eq|ne|lt|le|gt|ge|mem|jq
noncomputable def ny(i j:Int):R D:=if 0<=i then(if 0<=j then .ok (.int (i.toNat &&& j.toNat:Nat)) else .ok (.int (i-(i.toNat &&& (-j-1).toNat:Nat)))) else .bad
noncomputable def sP(i j:Int):R D:=if 0<=i/\0<=j then .ok (.int (i.toNat ^^^ j.toNat:Nat)) else .bad
noncomputable def ep:Op->D->D->R D
 |.and,.int i,.int j=>ny i j
 |.xor,.int i,.int j=>sP i j
 |.add,.int i,.int j=>.ok (.int (i+j))
 |.add,.tup xs,.tup ys=>if xs.length+ys.length<=SZ then .ok (.tup (xs++ys)) else .bad
 |.add,.lst xs,.lst ys=>if xs.length+ys.length<=SZ then .ok (.lst (xs++ys)) else .bad
 |.sub,.int i,.int j=>.ok (.int (i-j))
 |.mul,.int i,.int j=>if (-hi<i/\i<hi)\/(-hi<j/\j<hi) then .ok (.int (i*j)) else .bad
 |.fdiv,.int i,.int j=>if 0<j/\j<1073741824 then .ok (.int (i / j)) else .bad
 |.mod,.int i,.int j=>if 0<j then .ok (.int (i%j)) else .bad
 |_,_,_=>.bad
noncomputable def ie:R Bool->R Bool
 |.ok b=>.ok (!b)
 |.exc c=>.exc c
 |.bad=>.bad
noncomputable def cY:Nat->D->Bool
 |_,.dp=>true
 |_,.aO _=>true
 |_,.int _=>true
 |_,.str x=>x.cps.all (· < 0x110000)
 |n+1,.tup xs=>xs.all (cY n)
 |n+1,.lst xs=>xs.all (cY n)
 |_,_=>false
noncomputable def fB(x y:D):R Bool:=if cY 60 x&&cY 60 y then .ok (f5 x y) else .bad
noncomputable def memD(x:D)(xs:List D):Bool:=xs.any λy=>f5 y x
noncomputable def hq(x:D)(ys:List D):R Bool:=if cY 60 x&&ys.all (cY 60) then .ok (memD x ys) else .bad
noncomputable def zZ:Option Bool->R Bool
 |some b=>.ok b
 |none=>.bad
noncomputable def uN(x y:D):R Bool:=if (fG 0 x&&fG 0 y)||(fG 1 x&&fG 1 y) then zZ (iX x y) else .bad
noncomputable def dS:hC->D->D->R Bool
 |.eq,x,y=>fB x y
 |.ne,x,y=>ie (fB x y)
 |.lt,x,y=>uN x y
 |.gt,.int i,.int j=>.ok (decide (j<i))
 |.le,.int i,.int j=>.ok (decide (i<=j))
 |.ge,.int i,.int j=>.ok (decide (j<=i))
 |.mem,x,.tup ys=>hq x ys
 |.mem,x,.lst ys=>hq x ys
 |.jq,x,.tup ys=>ie (hq x ys)
 |.jq,x,.lst ys=>ie (hq x ys)
 |_,_,_=>.bad
noncomputable def hQ(n:Nat)(i:Int):Option Nat:=if 0<=i then(if i<n then some i.toNat else none) else(if 0<=i+n then some (i+n).toNat else none)
noncomputable def iP{α:Type}(xs:List α)(i:Int):Option α:=(hQ xs.length i).bind (xs[·]?)
noncomputable def fF:D->D->R D
 |.tup xs,.int i=>match iP xs i with|some d=>.ok d|none=>.bad
 |.lst xs,.int i=>match iP xs i with|some d=>.ok d|none=>.bad
 |_,_=>.bad
noncomputable def bW(n d:Nat):Option Int->Nat
 |none=>d
 |some i=>if i<0 then(if i+n<0 then 0 else(i+n).toNat) else(if (n:Int)<i then n else i.toNat)
noncomputable def cut{α:Type}(xs:List α)(lo ai:Option Int):List α:=(xs.drop (bW xs.length 0 lo)).take (bW xs.length xs.length ai-bW xs.length 0 lo)
noncomputable def kO(d:D)(lo ai:Option Int):R D:=match d with
 |.tup xs=>.ok (.tup (cut xs lo ai))
 |.lst xs=>.ok (.lst (cut xs lo ai))
 |_=>.bad
noncomputable def kB:D->R D
 |.tup xs=>.ok (.int xs.length)
 |.lst xs=>.ok (.int xs.length)
 |_=>.bad
inductive Ty where
 |int|bool|str|tuple|cls (c:Nat)
noncomputable abbrev gX:=Nat->List Nat
noncomputable def lI(up:gX)(d:D):Ty->R Bool
 |.int=>.ok (match d with|.int _=>true|.aO _=>true|_=>false)
 |.bool=>.ok (match d with|.aO _=>true|_=>false)
 |.str=>.ok (match d with|.str _=>true|_=>false)
 |.tuple=>.ok (match d with|.tup _=>true|_=>false)
 |.cls c=>match d with|.fs k=>.ok ((up k).contains c)|_=>.bad
noncomputable def ez:D->R (List D)
 |.tup xs=>.ok xs
 |.lst xs=>.ok xs
 |_=>.bad
noncomputable def e4(lo ai:Int):List D:=(List.range (ai-lo).toNat).map λk=>.int (lo+(k:Nat))
noncomputable def ou(i:Int):Bool:=decide (-4611686018427387904<=i/\i<4611686018427387904)
noncomputable def i0(i j:Int):R (List D):=if ou i&&ou j&&decide ((j-i).toNat<=1000000) then .ok (e4 i j) else .bad
inductive eC where
 |len|inst (t:Ty)|sorted|eZ|sum|max|all|any
mutual
inductive E where
 |var (i:Nat)
 |lit (d:D)
 |tup (a:A)
 |lst (a:A)
 |bin (op:Op) (a b:E)
 |not (a:E)
 |neg (a:E)
 |ite (c a b:E)
 |cmp (op:hC) (a b:E)
 |tp (op op':hC) (a b c:E)
 |and (a b:E)
 |or (a b:E)
 |idx (a b:E)
 |slice (a:E) (lo ai:O)
 |call (f:Nat) (a:A)
 |prim (p:eC) (a:E)
 |tupI (s:I)
 |kE (s:I)
 |comp (elt:E) (k:Nat) (s:I) (c:O)
 |gZ (i j:Nat)
 |kD (i j:Nat)
 |nK (i j:Nat)
 |oW (i j:Nat)
 |oX
inductive A where
 |nil
 |cons (e:E) (a:A)
inductive O where
 |none
 |some (e:E)
inductive I where
 |seq (e:E)
 |fk (a:E)
 |vm (a b:E)
 |lg (i:Nat)
end
noncomputable abbrev aY:=List (Option D)
noncomputable abbrev dW:=Nat->List D->R D
noncomputable def gp:Nat->D->R (List (Option D))
 |0,d=>.ok [some d]
 |k,.tup xs=>if xs.length=k then .ok (xs.map some) else .bad
 |_,_=>.bad
noncomputable def da(f:D->R (Option D)):List D->R (List D)
 |[]=>.ok []
 |d::ds=>f d>>=λo=>da f ds>>=λr=>match o with|some x=>.ok (x::r)|none=>.ok r
noncomputable def iZ{α:Type}:R α->R α
 |.exc _=>.bad
 |r=>r
noncomputable def iq:List D->Option (List Bool)
 |[]=>some []
 |.aO b::xs=>(iq xs).map (b::·)
 |_=>none
noncomputable def ml(xs:List D):R Bool:=match iq xs with
 |some bs=>.ok (bs.all id)
 |none=>.bad
noncomputable def mm(xs:List D):R Bool:=match iq xs with
 |some bs=>.ok (bs.any id)
 |none=>.bad
noncomputable def intsOf:List D->Option (List Int)
 |[]=>some []
 |.int i::xs=>(intsOf xs).map (i::·)
 |_=>none
noncomputable def pC:D->R (List D)
 |.lst xs=>.ok xs
 |_=>.bad
noncomputable def kS(xs:List D):R D:=match intsOf xs with
 |some ns=>.ok (.int ns.sum)
 |none=>.bad
noncomputable def kF(xs:List D):R D:=match intsOf xs with
 |some (n::ns)=>.ok (.int (ns.foldl (λm x=>if x>m then x else m) n))
 |_=>.bad
noncomputable def jV(up:gX):eC->D->R D
 |.len,d=>kB d
 |.inst t,d=>lI up d t>>=λb=>.ok (.aO b)
 |.sorted,d=>ez d>>=λxs=>sorted xs
 |.eZ,d=>ez d>>=λxs=>eZ xs
 |.sum,d=>pC d>>=λxs=>kS xs
 |.max,d=>pC d>>=λxs=>kF xs
 |.all,d=>ez d>>=λxs=>ml xs>>=λb=>.ok (.aO b)
 |.any,d=>ez d>>=λxs=>mm xs>>=λb=>.ok (.aO b)
noncomputable def oH(af:List (List Int×Int))(k:List Int):Option Int:=(af.find? λp=>decide (p.1=k)).map (·.2)
noncomputable def putN(af:List (List Int×Int))(k:List Int)(n:Int):List (List Int×Int):=if (af.any λp=>decide (p.1=k))=true then af.map (λp=>if p.1=k then(p.1,n) else p) else af++[(k,n)]
noncomputable def ow(r:Int×Int):D:=.tup [.int r.1,.int r.2]
noncomputable def m9(af:List (Int×Int×Int))(k:Int):Option (Int×Int):=(af.find? λp=>decide (p.1=k)).map (·.2)
noncomputable def lR(af:List (Int×Int×Int))(k:Int)(r:Int×Int):List (Int×Int×Int):=if (af.any λp=>decide (p.1=k))=true then af.map (λp=>if p.1=k then(p.1,r) else p) else af++[(k,r)]
noncomputable def kd:Option (Option D)->Option (List (List Int×Int))
 |some (some (.b7 af))=>some af
 |_=>none
noncomputable def ja:Option (Option D)->Option (List (Int×Int×Int))
 |some (some (.bE af))=>some af
 |_=>none
noncomputable def rowOf:D->Option (Int×Int)
 |.tup ds=>(match intsOf ds with|some [a,b]=>some (a,b)|_=>none)
 |_=>none
noncomputable def intD:D->Option Int
 |.int i=>some i
 |_=>none
noncomputable def fZ:D->Option (List Int)
 |.tup ds=>intsOf ds
 |_=>none
noncomputable def eQ{α:Type}(f:D->Option α):Option (Option D)->Option α
 |some (some d)=>f d
 |_=>none
noncomputable def fQ(cs:List (List Int)):D:=.tup (cs.map λc=>.tup (c.map .int))
noncomputable def oG:List D->Option (List (List Int))
 |[]=>some []
 |x::xs=>(match fZ x,oG xs with|some k,some ar=>some (k::ar)|_,_=>none)
noncomputable def oT:D->Option (List (List Int))
 |.tup xs=>oG xs
 |_=>none
noncomputable def hA(af:List (List Int×List (List Int)))(k:List Int):Option (List (List Int)):=(af.find? λp=>decide (p.1=k)).map (·.2)
noncomputable def m4(af:List (List Int×List (List Int)))(k:List Int)(r:List (List Int)):List (List Int×List (List Int)):=if (af.any λp=>decide (p.1=k))=true then af.map (λp=>if p.1=k then(p.1,r) else p) else af++[(k,r)]
noncomputable def kc:Option (Option D)->Option (List (List Int×List (List Int)))
 |some (some (.cG af))=>some af
 |_=>none
noncomputable def x4(o p:Option (Option D)):R D:=match kc o,eQ fZ p with
 |some af,some k=>(match hA af k with|some cs=>.ok (fQ cs)|none=>.bad)
 |_,_=>.bad
noncomputable def kf(o p:Option (Option D)):R D:=match kd o,eQ fZ p with
 |some af,some k=>(match oH af k with|some n=>.ok (.int n)|none=>.bad)
 |_,_=>(match ja o,eQ intD p with|some af,some k=>(match m9 af k with|some r=>.ok (ow r)|none=>.bad)|_,_=>x4 o p)
noncomputable def tA(o p:Option (Option D))(d:D):R D:=match kc o,eQ fZ p,oT d with
 |some af,some k,some cs=>if af.length<1000 then .ok (.cG (m4 af k cs)) else .bad
 |_,_,_=>.bad
noncomputable def nP(o p:Option (Option D))(d:D):R D:=match kd o,eQ fZ p,intD d with
 |some af,some k,some n=>if af.length<1000 then .ok (.b7 (putN af k n)) else .bad
 |_,_,_=>(match ja o,eQ intD p,rowOf d with|some af,some k,some r=>if af.length<1000 then .ok (.bE (lR af k r)) else .bad|_,_,_=>tA o p d)
noncomputable def qR(p q:Option (Option D)):R D:=match eQ intD p,eQ rowOf q with
 |some k,some r=>.ok (.bE [(k,r)])
 |_,_=>.bad
noncomputable def x6(o:Option (Option D)):R (List D):=match kc o with
 |some af=>.ok (af.map λp=>.tup (p.1.map .int))
 |none=>.bad
noncomputable def nL(o:Option (Option D)):R (List D):=match kd o with
 |some af=>.ok (af.map λp=>.tup (p.1.map .int))
 |none=>(match ja o with|some af=>.ok (af.map λp=>.int p.1)|none=>x6 o)
noncomputable def oV(o p:Option (Option D)):R D:=match kc o,eQ fZ p with
 |some af,some k=>.ok (fQ ((hA af k).getD []))
 |_,_=>.bad
noncomputable def uA:D->Option (List Int)
 |.lst xs=>intsOf xs
 |_=>none
noncomputable def pA(o p:Option (Option D)):R D:=match eQ uA o,eQ intD p with
 |some ar,some k=>if k∈ar/\ar.length<=1000 then .ok (.int (ar.idxOf k:Nat)) else .bad
 |_,_=>.bad
noncomputable def uM:Option (Option D)->R D
 |some (some (.lst ds))=>.ok (.lst ds)
 |_=>.bad
noncomputable def qP:Option (Option D)->R D
 |some (some (.b7 af))=>.ok (.b7 af)
 |some (some (.bE af))=>.ok (.bE af)
 |_=>.bad
noncomputable def eE:D->R Bool
 |.aO b=>.ok b
 |_=>.bad
noncomputable def gD:D->R Int
 |.int i=>.ok i
 |_=>.bad
noncomputable def yA:Option (Option D)->R D
 |some (some d)=>.ok d
 |_=>.bad
structure dy where
 up:gX
 cs:List D
section
variable(pg:dy)(Φ:dW)
mutual
noncomputable def ev (ρ:aY):E->R D
 |.var i=>yA ρ[i]?
 |.lit d=>.ok d
 |.tup a=>hZ ρ a>>=λds=>.ok (.tup ds)
 |.lst a=>hZ ρ a>>=λds=>.ok (.lst ds)
 |.bin op a b=>ev ρ a>>=λx=>ev ρ b>>=λy=>ep op x y
 |.neg a=>ev ρ a>>=λx=>gD x>>=λi=>.ok (.int (-i))
 |.ite c a b=>ev ρ c>>=λx=>eE x>>=λk=>if k then ev ρ a else ev ρ b
 |.not a=>ev ρ a>>=λx=>eE x>>=λb=>.ok (.aO (!b))
 |.cmp op a b=>ev ρ a>>=λx=>ev ρ b>>=λy=>dS op x y>>=λc=>.ok (.aO c)
 |.tp op op' a b c=>ev ρ a>>=λx=>ev ρ b>>=λy=>dS op x y>>=λk=>if k then ev ρ c>>=λz=>dS op' y z>>=λdd=>.ok (.aO dd) else .ok (.aO false)
 |.and a b=>ev ρ a>>=λx=>eE x>>=λk=>if k then ev ρ b else .ok (.aO false)
 |.or a b=>ev ρ a>>=λx=>eE x>>=λk=>if k then .ok (.aO true) else ev ρ b
 |.idx a b=>ev ρ a>>=λx=>ev ρ b>>=λy=>fF x y
 |.slice a lo ai=>ev ρ a>>=λx=>mC ρ lo>>=λl=>mC ρ ai>>=λh=>kO x l h
 |.call f a=>hZ ρ a>>=λds=>Φ f ds
 |.prim p a=>ev ρ a>>=λx=>jV pg.up p x
 |.tupI s=>hn ρ s>>=λds=>.ok (.tup ds)
 |.kE s=>hn ρ s>>=λds=>.ok (.lst ds)
 |.gZ i j=>kf ρ[i]? ρ[j]?
 |.kD i j=>pA ρ[i]? ρ[j]?
 |.nK i j=>oV ρ[i]? ρ[j]?
 |.oW i j=>qR ρ[i]? ρ[j]?
 |.oX=>.ok (.bE [])
 |.comp e k s c=>hn ρ s>>=λds=>iZ (da (λd=>gp k d>>=λae=>lq (ρ++ae) c>>=λb=>if b then ev (ρ++ae) e>>=λy=>.ok (some y) else .ok none) ds)>>=λys=>.ok (.lst ys)
noncomputable def hZ (ρ:aY):A->R (List D)
 |.nil=>.ok []
 |.cons e a=>ev ρ e>>=λx=>hZ ρ a>>=λxs=>.ok (x::xs)
noncomputable def mC (ρ:aY):O->R (Option Int)
 |.none=>.ok none
 |.some e=>ev ρ e>>=λx=>gD x>>=λi=>.ok (some i)
noncomputable def lq (ρ:aY):O->R Bool
 |.none=>.ok true
 |.some e=>ev ρ e>>=λx=>eE x
noncomputable def hn (ρ:aY):I->R (List D)
 |.seq e=>ev ρ e>>=λx=>ez x
 |.fk a=>ev ρ a>>=λx=>gD x>>=λi=>i0 0 i
 |.vm a b=>ev ρ a>>=λx=>gD x>>=λi=>ev ρ b>>=λy=>gD y>>=λj=>i0 i j
 |.lg i=>nL ρ[i]?
end
end
mutual
inductive S where
 |asg (i:Nat) (e:E)
 |app (i:Nat) (e:E)
 |nM (i:Nat)
 |ot (i:Nat)
 |pR (i:Nat)
 |nO (i:Nat)
 |ir (i j:Nat) (e:E)
 |nN (i:Nat)
 |l2 (c:E) (b:B)
 |oy (i:Nat) (e:E)
 |pop (i:Nat)
 |pS (i:Nat) (e:E)
 |stop
 |ext (i:Nat) (e:E)
 |ret (e:E)
 |iff (c:E) (a b:B)
 |fi (k:Nat) (ts:List Nat) (s:I) (b:B)
inductive B where
 |nil
 |cons (s:S) (b:B)
end
inductive eA where
 |bJ (ρ:aY)
 |dE (d:D)
noncomputable def lT:List Nat->List (Option D)->aY->aY
 |i::is,v::ae,ρ=>lT is ae (ρ.set i v)
 |_,_,ρ=>ρ
noncomputable def forL(f:D->aY->R eA):List D->aY->R eA
 |[],ρ=>.ok (.bJ ρ)
 |d::ds,ρ=>f d ρ>>=λr=>match r with
  |.bJ bC=>forL f ds bC
  |.dE x=>.ok (.dE x)
noncomputable def jv(c:aY->R Bool)(f:aY->R eA):Nat->aY->R eA
 |0,_=>.bad
 |n+1,ρ=>c ρ>>=λk=>if k then(f ρ>>=λr=>match r with
  |.bJ bC=>jv c f n bC
  |.dE x=>.ok (.dE x)) else .ok (.bJ ρ)
noncomputable def tl:Option (Option D)->R Unit
 |some (some (.cG _))=>.ok ()
 |_=>.bad
noncomputable def sz:Option (Option D)->D->R D
 |some (some (.lst (_::xs))),d=>.ok (.lst (d::xs))
 |_,_=>.bad
noncomputable def vd:Option (Option D)->R D
 |some (some (.lst (x::xs)))=>.ok (.lst (x::xs).dropLast)
 |_=>.bad
noncomputable def qA:Option (Option D)->D->R D
 |some (some (.lst xs)),d=>if xs.length<SZ then .ok (.lst (xs++[d])) else .bad
 |_,_=>.bad
noncomputable def o1:Option (Option D)->D->R D
 |some (some (.lst xs)),.lst ys=>if xs.length+ys.length<=SZ then .ok (.lst (xs++ys)) else .bad
 |some (some (.lst xs)),.tup ys=>if xs.length+ys.length<=SZ then .ok (.lst (xs++ys)) else .bad
 |_,_=>.bad
noncomputable def mr:Option (Option D)->R Unit
 |some (some (.lst _))=>.ok ()
 |_=>.bad
section
variable(pg:dy)(Φ:dW)
mutual
noncomputable def ex (ρ:aY):S->R eA
 |.asg i e=>ev pg Φ ρ e>>=λd=>.ok (.bJ (ρ.set i (some d)))
 |.app i e=>mr ρ[i]?>>=λ_=>ev pg Φ ρ e>>=λd=>qA ρ[i]? d>>=λx=>.ok (.bJ (ρ.set i (some x)))
 |.ret e=>ev pg Φ ρ e>>=λd=>.ok (.dE d)
 |.ot i=>uM ρ[i]?>>=λd=>.ok (.dE d)
 |.pR i=>qP ρ[i]?>>=λd=>.ok (.dE d)
 |.nM i=>.ok (.bJ (ρ.set i (some (.b7 []))))
 |.nO i=>.ok (.bJ (ρ.set i (some (.bE []))))
 |.ir i j e=>ev pg Φ ρ e>>=λd=>nP ρ[i]? ρ[j]? d>>=λx=>.ok (.bJ (ρ.set i (some x)))
 |.nN i=>.ok (.bJ (ρ.set i (some (.cG []))))
 |.l2 c b=>jv (λbC=>ev pg Φ bC c>>=λx=>eE x) (λbC=>eF bC b) 200 ρ
 |.oy i e=>ev pg Φ ρ e>>=λd=>sz ρ[i]? d>>=λx=>.ok (.bJ (ρ.set i (some x)))
 |.pop i=>vd ρ[i]?>>=λx=>.ok (.bJ (ρ.set i (some x)))
 |.pS i e=>tl ρ[i]?>>=λ_=>ev pg Φ ρ e>>=λd=>.ok (.dE d)
 |.stop=>.bad
 |.ext i e=>mr ρ[i]?>>=λ_=>ev pg Φ ρ e>>=λd=>o1 ρ[i]? d>>=λx=>.ok (.bJ (ρ.set i (some x)))
 |.iff c a b=>ev pg Φ ρ c>>=λx=>eE x>>=λk=>if k then eF ρ a else eF ρ b
 |.fi k ts s b=>hn pg Φ ρ s>>=λds=>forL (λd bC=>gp k d>>=λae=>eF (lT ts ae bC) b) ds ρ
noncomputable def eF (ρ:aY):B->R eA
 |.nil=>.ok (.bJ ρ)
 |.cons s b=>ex ρ s>>=λr=>match r with
  |.bJ bC=>eF bC b
  |.dE d=>.ok (.dE d)
end
end
structure gy where
 np:Nat
 nl:Nat
 body:B
noncomputable def start(fd:gy)(ds:List D):aY:=ds.map some++List.replicate fd.nl none
noncomputable def mA:R eA->R D
 |.ok (.dE d)=>.ok d
 |.ok (.bJ _)=>.ok .dp
 |.exc c=>.exc c
 |.bad=>.bad
noncomputable def c6(pg:dy)(Φ:dW)(fd:gy)(ds:List D):R D:=if ds.length=fd.np then mA (eF pg Φ (start fd ds) fd.body) else .bad
noncomputable def run(pg:dy)(fds:List gy):Nat->dW
 |0=>λ_ _=>.bad
 |n+1=>λf ds=>match fds[f]? with
  |some fd=>c6 pg (run pg fds n) fd ds
  |none=>.bad
def sq(pg:dy)(fds:List gy)(n f:Nat)(ds:List D):run pg fds (n+1) f ds=(match fds[f]? with|some fd=>c6 pg (run pg fds n) fd ds|none=>.bad):=rfl
structure Gt where
 fns:List Str
 cls:List Str
 ra:List Str
structure b3 where
 N:List Str
 sc:Scope
 mu:List Nat
noncomputable def ju(sc:Scope)(x:Str):Bool:=sc.names.lookup x==some .local||sc.names.lookup x==some .cell||sc.names.lookup x==some .free
noncomputable def jQ(sc:Scope)(x:Str):Bool:=sc.names.lookup x==some .local||sc.names.lookup x==some .cell
noncomputable def o5(sc:Scope)(x:Str):Bool:=sc.names.lookup x==some .globalImplicit
noncomputable def okN(x:Str):Bool:=!(x==("__debug__":Str))&&!(x==("__classdict__":Str))&&!(x==("__name__":Str))
noncomputable def F3:Op->Operator->Bool
 |.add,.Add=>true|.sub,.Sub=>true|.mul,.Mult=>true|.fdiv,.FloorDiv=>true|.mod,.Mod=>true|.and,.BitAnd=>true|.xor,.BitXor=>true
 |_,_=>false
noncomputable def tn:hC->CmpOp->Bool
 |.mem,.In=>true|.jq,.NotIn=>true|.eq,.Eq=>true|.ne,.NotEq=>true|.lt,.Lt=>true|.le,.LtE=>true|.gt,.Gt=>true|.ge,.GtE=>true
 |_,_=>false
noncomputable def litOk:D->Const->Bool
 |.dp,.none=>true
 |.aO a,.bool b=>a==b
 |.int i,.int j=>i==j
 |.str x,.str y=>x==y
 |_,_=>false
noncomputable def tyName:Ty->Str
 |.int=>"int"|.bool=>"bool"|.str=>"str"|.tuple=>"tuple"|.cls _=>""
noncomputable def sh:eC->Str
 |.len=>"len"|.sorted=>"sorted"|.sum=>"sum"|.max=>"max"|.all=>"all"|.any=>"any"|_=>""
noncomputable def si:eC->Bool
 |.len=>true|.sorted=>true|.sum=>true|.max=>true|.all=>true|.any=>true|_=>false
noncomputable def nameOf:Expr->Option Str
 |.Name x _=>some x
 |_=>none
noncomputable def namesOf:List Expr->Option (List Str)
 |[]=>some []
 |e::ah=>match nameOf e,namesOf ah with|some x,some xs=>some (x::xs)|_,_=>none
noncomputable def fm:Nat->Expr->Option (List Str)
 |0,.Name x _=>some [x]
 |k+1,.Tuple ah _ _=>match namesOf ah with|some xs=>if xs.length=k+1 then some xs else none|none=>none
 |_,_=>none
noncomputable def mask(N xs:List Str):List Str:=N.map λn=>if xs.contains n then(((".":Str))++n) else n
noncomputable def m2:I->Bool:=λ_=>false
noncomputable def vx:I->Bool
 |.seq _=>true
 |.fk _=>true
 |_=>false
noncomputable def uW:Expr->Bool
 |.ListComp ..=>false
 |_=>true
noncomputable def e8(g:Gt)(sc:Scope)(x:Str):Bool:=o5 sc x&&!(g.fns.contains x)&&!(g.cls.contains x)&&!(g.ra.contains x)
noncomputable def hy:Expr->Option Str
 |.Name x _=>some x
 |_=>none
noncomputable def A8:Expr->Option Const
 |.Constant c _ _=>some c
 |_=>none
noncomputable def Bb:Expr->Option (List Expr)
 |.Tuple ah _ _=>some ah
 |_=>none
noncomputable def IA:Expr->Option (List Expr)
 |.List ah _=>some ah
 |_=>none
noncomputable def It:Expr->Option (Expr×Operator×Expr)
 |.BinOp x o y _=>some (x,o,y)
 |_=>none
noncomputable def Bc:Expr->Option (UnaryOp×Expr)
 |.UnaryOp o x _=>some (o,x)
 |_=>none
noncomputable def A7:Expr->Option (Expr×List CmpOp×List Expr)
 |.Compare x os ys _=>some (x,os,ys)
 |_=>none
noncomputable def vBool:Expr->Option (BoolOp×List Expr×Pos)
 |.BoolOp o ah p=>some (o,ah,p)
 |_=>none
noncomputable def sL:Expr->Option (Expr×Expr)
 |.Subscript x y _=>some (x,y)
 |_=>none
noncomputable def IC:Expr->Option (Option Expr×Option Expr×Option Expr)
 |.Slice l h t _=>some (l,h,t)
 |_=>none
noncomputable def sJ:Expr->Option (Expr×List Expr×List Keyword)
 |.Call f ah ar _=>some (f,ah,ar)
 |_=>none
noncomputable def lZ(x:Expr):Option (Str×List Expr):=match sJ x with
 |some (f,ah,[])=>(match hy f with|some y=>some (y,ah)|none=>none)
 |_=>none
noncomputable def vT:Expr->Option (Expr×Str×Pos)
 |.Attribute o n p=>some (o,n,p)
 |_=>none
noncomputable def Iv:Expr->Option (Expr×List Comprehension×Scope)
 |.ListComp x kj sc _=>some (x,kj,sc)
 |_=>none
noncomputable def tyB(g:Gt)(ct:b3)(n:Str):Ty->Bool
 |.cls c=>o5 ct.sc n&&okN n&&(if c=1000 then n==("ValueError":Str)&&e8 g ct.sc n else g.cls[c]?==some n)
 |t=>n==tyName t&&e8 g ct.sc n
noncomputable def vY(g:Gt)(ct:b3)(x:Str)(t:Ty)(e y:Expr):Option Expr:=match hy y with
 |some n=>if x==("isinstance":Str)&&e8 g ct.sc x&&tyB g ct n t then some e else none
 |none=>none
noncomputable def vZ(g:Gt)(ct:b3)(x:Str)(e:Expr):Option Expr:=match lZ e with
 |some (y,[a])=>if x==("sorted":Str)&&e8 g ct.sc x&&y==("set":Str)&&e8 g ct.sc y then some a else none
 |_=>none
noncomputable def IK(g:Gt)(ct:b3)(x:Str)(p:eC)(ah:List Expr):Option Expr:=match p with
 |.inst t=>(match ah with|[e,y]=>vY g ct x t e y|_=>none)
 |.eZ=>(match ah with|[e]=>vZ g ct x e|_=>none)
 |p=>(match ah with|[e]=>if si p&&x==sh p&&e8 g ct.sc x then some e else none|_=>none)
noncomputable def qF(ct:b3)(sc:Scope)(xs:List Str):Bool:=decide (sc.kind=.function)&&sc.names.all (λy=>y.2 != .cell)&&sc.names.all (λy=>y.2 != .local||sc.names.lookup y.1==some .local)
 && xs.all (λy=>sc.names.lookup y==some .local&&okN y)&&decide xs.Nodup&&sc.names.all (λy=>y.2 != .local||xs.contains y.1||y.1==(".0":Str))
 && sc.names.all (λy=>y.2 != .free||(ct.sc.names.lookup y.1==some .cell||ct.sc.names.lookup y.1==some .free))&&((mask ct.N xs).zip ct.N).all (λp=>p.1==p.2||sc.names.lookup p.1==none)&&decide (mask ct.N xs++xs).Nodup&&!((mask ct.N xs++xs).contains (".0":Str))
noncomputable def uC:Expr->Bool
 |.Dict [] [] _=>true
 |_=>false
noncomputable def A9:Expr->Option (Str×Str)
 |.Dict [some (.Name n _)] [.Name k _] _=>some (n,k)
 |_=>none
noncomputable def Iz:Expr->Option (Expr×Expr×Expr)
 |.IfExp x y w _=>some (x,y,w)
 |_=>none
noncomputable def qz(ct:b3)(i:Nat)(n:Str):Bool:=ct.N[i]?==some n&&ju ct.sc n&&okN n
noncomputable def mT(ct:b3)(i:Nat)(n:Str):Bool:=ct.N[i]?==some n&&ju ct.sc n&&okN n&&ct.mu.contains i
noncomputable def m3(ct:b3)(i:Nat)(n:Str):Bool:=ct.N[i]?==some n&&ju ct.sc n&&okN n&&!ct.mu.contains i
noncomputable def vW(z:Expr):Option (Str×Str):=match sL z with
 |some (x,y)=>(match hy x,hy y with|some n,some k=>some (n,k)|_,_=>none)
 |none=>none
noncomputable def vS(z:Expr):Option (Str×Str×Pos×Expr):=match sJ z with
 |some (f,[y],[])=>(match vT f with
  |some (o,n,ap)=>(match hy o with|some x=>some (x,n,ap,y)|none=>none)
  |none=>none)
 |_=>none
noncomputable def Ba(z:Expr):Option (Str×Str×Pos):=match sJ z with
 |some (f,[k,o],[])=>(match vT f with
  |some (d,n,ap)=>(match hy d,hy k,Bb o with|some x,some y,some []=>if n==("get":Str) then some (x,y,ap) else none|_,_,_=>none)
  |none=>none)
 |_=>none
section
variable(g:Gt)
mutual
noncomputable def bU (ct:b3) (v:Bool):E->Expr->Bool
 |.var i,z=>(match hy z with|some x=>ct.N[i]?==some x&&ju ct.sc x&&okN x&&(v||!ct.mu.contains i)|none=>false)
 |.lit d,z=>(match A8 z with|some c=>litOk d c|none=>false)
 |.tup a,z=>(match Bb z with|some ah=>mv ct a ah&&decide (ah.length<=1000)|none=>false)
 |.lst a,z=>(match IA z with|some ah=>mv ct a ah&&decide (ah.length<=1000)|none=>false)
 |.bin op a b,z=>(match It z with|some (x,o,y)=>F3 op o&&bU ct true a x&&bU ct true b y|none=>false)
 |.neg a,z=>(match Bc z with|some (.USub,x)=>bU ct true a x|_=>false)
 |.ite c a b,z=>(match Iz z with|some (x,y,w)=>bU ct true c x&&bU ct false a y&&bU ct false b w|none=>false)
 |.not a,z=>(match Bc z with|some (.Not,x)=>bU ct true a x|_=>false)
 |.cmp op a b,z=>(match A7 z with|some (x,[o],[y])=>tn op o&&bU ct true a x&&bU ct true b y|_=>false)
 |.tp op op' a b c,z=>(match A7 z with|some (x,[o,bG],[y,w])=>tn op o&&tn op' bG&&bU ct true a x&&bU ct true b y&&bU ct true c w|_=>false)
 |.and a b,z=>(match vBool z with|some (.And,[x,y],_)=>bU ct true a x&&bU ct v b y|some (.And,x::y::w::r,p)=>bU ct true a x&&bU ct v b (.BoolOp .And (y::w::r) p)|_=>false)
 |.or a b,z=>(match vBool z with|some (.Or,[x,y],_)=>bU ct true a x&&bU ct v b y|some (.Or,x::y::w::r,p)=>bU ct true a x&&bU ct v b (.BoolOp .Or (y::w::r) p)|_=>false)
 |.idx a b,z=>(match sL z with|some (x,y)=>bU ct true a x&&bU ct true b y|none=>false)
 |.slice a lo ai,z=>(match sL z with|some (x,y)=>(match IC y with|some (l,h,none)=>bU ct true a x&&qI ct lo l&&qI ct ai h|_=>false)|none=>false)
 |.call f a,z=>(match lZ z with|some (x,ah)=>g.fns[f]?==some x&&o5 ct.sc x&&okN x&&!ah.isEmpty&&mv ct a ah|none=>false)
 |.prim p a,z=>(match lZ z with|some (x,ah)=>(match IK g ct x p ah with|some e=>bU ct true a e|none=>false)|none=>false)
 |.tupI s,z=>(match lZ z with|some (x,[e])=>x==("tuple":Str)&&e8 g ct.sc x&&vx s&&gY ct true s e|_=>false)
 |.kE s,z=>(match lZ z with|some (x,[e])=>x==("list":Str)&&e8 g ct.sc x&&vx s&&gY ct true s e|_=>false)
 |.comp e k s c,z=>(match Iv z with
   |some (x,[⟨t,it,ifs,0⟩],sc)=>(match fm k t with
    |some xs=>(!m2 s||k==2)&&qF ct sc xs&&gY ct true s it&&bU ⟨mask ct.N xs++xs,sc,ct.mu⟩ false e x&&nG ⟨mask ct.N xs++xs,sc,ct.mu⟩ c ifs
    |none=>false)
   |_=>false)
 |.gZ i j,z=>(match vW z with|some (n,k)=>qz ct i n&&m3 ct j k|none=>false)
 |.nK i j,z=>(match Ba z with|some (x,y,ap)=>mT ct i x&&m3 ct j y&&(ap.endLine==z.pos.line)|none=>false)
 |.kD i j,z=>(match vS z with|some (x,n,ap,y)=>(match hy y with|some k=>n==("index":Str)&&(ap.endLine==z.pos.line)&&qz ct i x&&qz ct j k|none=>false)|none=>false)
 |.oW i j,z=>(match A9 z with|some (n,k)=>m3 ct i n&&m3 ct j k|none=>false)
 |.oX,z=>uC z
noncomputable def mv (ct:b3):A->List Expr->Bool
 |.nil,[]=>true
 |.cons e a,x::xs=>bU ct false e x&&mv ct a xs
 |_,_=>false
noncomputable def qI (ct:b3):O->Option Expr->Bool
 |.none,none=>true
 |.some e,some x=>bU ct true e x
 |_,_=>false
noncomputable def nG (ct:b3):O->List Expr->Bool
 |.none,[]=>true
 |.some e,[x]=>bU ct true e x
 |_,_=>false
noncomputable def gY (ct:b3) (v:Bool):I->Expr->Bool
 |.seq e,z=>bU ct v e z
 |.fk a,z=>(match lZ z with|some (x,[y])=>x==("range":Str)&&e8 g ct.sc x&&bU ct true a y|_=>false)
 |.vm a b,z=>(match lZ z with|some (x,[y,w])=>x==("range":Str)&&e8 g ct.sc x&&bU ct true a y&&bU ct true b w|_=>false)
 |.lg i,z=>(match hy z with|some n=>m3 ct i n|none=>false)
end
noncomputable def jc:E->Bool
 |.lst _=>true
 |.comp ..=>true
 |.bin .add _ _=>true
 |.prim .sorted _=>true
 |.prim .eZ _=>true
 |.kE _=>true
 |_=>false
noncomputable def oU(ct:b3):List Nat->List Str->Bool
 |[],[]=>true
 |i::is,x::xs=>ct.N[i]?==some x&&jQ ct.sc x&&okN x&&!ct.mu.contains i&&oU ct is xs
 |_,_=>false
noncomputable def oC:Stmt->Option (List Expr×Expr)
 |.Assign ts y _=>some (ts,y)
 |_=>none
noncomputable def AS:Stmt->Option Expr
 |.Expr y _=>some y
 |_=>none
noncomputable def oD:Stmt->Option (Option Expr)
 |.Return y _=>some y
 |_=>none
noncomputable def vJ:Stmt->Option (Expr×List Stmt×List Stmt)
 |.If t x y _=>some (t,x,y)
 |_=>none
noncomputable def vI:Stmt->Option (Expr×Expr×List Stmt×List Stmt)
 |.For t it x y _=>some (t,it,x,y)
 |_=>none
noncomputable def xM(ct:b3)(i:Nat)(e:E)(z:Stmt):Bool:=match oC z with
 |some ([t],y)=>(match hy t with|some x=>ct.N[i]?==some x&&jQ ct.sc x&&okN x&&(!ct.mu.contains i||jc e)&&bU g ct false e y|none=>false)
 |_=>false
noncomputable def tm(ct:b3)(i:Nat)(e:E)(nm:Str)(z:Stmt):Bool:=match AS z with
 |some c=>(match vS c with|some (x,n,ap,y)=>(ap.endLine==c.pos.line)&&ct.N[i]?==some x&&ju ct.sc x&&okN x&&ct.mu.contains i&&n==nm&&bU g ct false e y|none=>false)
 |none=>false
noncomputable def k7(ct:b3)(i:Nat)(z:Stmt):Bool:=match oC z with
 |some ([t],y)=>(match hy t with|some x=>ct.N[i]?==some x&&jQ ct.sc x&&okN x&&ct.mu.contains i&&uC y|none=>false)
 |_=>false
noncomputable def xN(ct:b3)(i j:Nat)(e:E)(z:Stmt):Bool:=match oC z with
 |some ([t],v)=>(match vW t with|some (x,y)=>mT ct i x&&m3 ct j y&&uW v&&bU g ct false e v|none=>false)
 |_=>false
noncomputable def HY:Stmt->Option (Expr×List Stmt×List Stmt)
 |.While t x y _=>some (t,x,y)
 |_=>none
noncomputable def xQ(ct:b3)(i:Nat)(e:E)(z:Stmt):Bool:=match oC z with
 |some ([t],v)=>(match sL t with
  |some (x,y)=>(match hy x,A8 y with|some n,some (.int k)=>k==0&&mT ct i n&&uW v&&bU g ct false e v|_,_=>false)
  |none=>false)
 |_=>false
noncomputable def xO(ct:b3)(i:Nat)(z:Stmt):Bool:=match AS z with
 |some c=>(match sJ c with
  |some (f,[],[])=>(match vT f with
   |some (o,n,ap)=>(match hy o with|some x=>n==("pop":Str)&&(ap.endLine==c.pos.line)&&mT ct i x|none=>false)
   |none=>false)
  |_=>false)
 |none=>false
noncomputable def xP(ct:b3)(i:Nat)(e:E)(z:Stmt):Bool:=match oD z with
 |some (some y)=>ct.mu.contains i&&bU g ⟨ct.N,ct.sc,ct.mu.filter λj=>!(j==i)⟩ false e y
 |_=>false
mutual
noncomputable def k8 (ct:b3):S->Stmt->Bool
 |.asg i e,z=>xM g ct i e z
 |.app i e,z=>tm g ct i e "append" z
 |.ret e,z=>(match oD z with|some (some y)=>bU g ct false e y|_=>false)
 |.ot i,z=>(match oD z with|some (some y)=>(match hy y with|some x=>mT ct i x|none=>false)|_=>false)
 |.pR i,z=>(match oD z with|some (some y)=>(match hy y with|some x=>mT ct i x|none=>false)|_=>false)
 |.iff c a b,z=>(match vJ z with|some (t,x,y)=>bU g ct true c t&&jF ct a x&&jF ct b y|none=>false)
 |.fi k ts s b,z=>(match vI z with|some (t,it,x,[])=>(match fm k t with|some xs=>(!m2 s||k==2)&&oU ct ts xs&&decide ts.Nodup&&gY g ct false s it&&jF ct b x|none=>false)|_=>false)
 |.nM i,z=>k7 ct i z
 |.nO i,z=>k7 ct i z
 |.ir i j e,z=>xN g ct i j e z
 |.nN i,z=>k7 ct i z
 |.l2 c b,z=>(match HY z with|some (t,x,[])=>bU g ct true c t&&jF ct b x|_=>false)
 |.oy i e,z=>xQ g ct i e z
 |.pop i,z=>xO ct i z
 |.pS i e,z=>xP g ct i e z
 |.stop,_=>true
 |.ext i e,z=>tm g ct i e "extend" z
noncomputable def jF (ct:b3):B->List Stmt->Bool
 |.nil,[]=>true
 |.cons s b,x::xs=>k8 ct s x&&jF ct b xs
 |_,_=>false
end
mutual
noncomputable def RL:S->List Nat
 |.app j _=>[j]
 |.nM j=>[j]
 |.nO j=>[j]
 |.ir j _ _=>[j]
 |.nN j=>[j]
 |.l2 _ b=>jU b
 |.oy j _=>[j]
 |.pop j=>[j]
 |.ext j _=>[j]
 |.iff _ a b=>jU a++jU b
 |.fi _ _ _ b=>jU b
 |_=>[]
noncomputable def jU:B->List Nat
 |.nil=>[]
 |.cons s b=>RL s++jU b
end
noncomputable def mw(N:List Str)(fd:gy):Stmt->Bool
 |.FunctionDef name args body [] none [] sc none bind _ =>
   decide (sc.kind=.function)&&!sc.isCoroutine&&!sc.isGenerator&&decide N.Nodup&&N.length==fd.np+fd.nl
   && (args.args.map (·.arg))==N.take fd.np&&args.posonlyargs.isEmpty&&args.vararg.isNone&&args.kwonlyargs.isEmpty&&args.kwarg.isNone&&args.defaults.isEmpty&&args.kw_defaults.isEmpty
   && (N.take fd.np).all (λx=>jQ sc x)&&sc.names.all (λy=>y.2 != .free)
   && (jU fd.body).all (λi=>decide (fd.np<=i)&&decide (i<N.length))&&jF g ⟨N,sc,jU fd.body⟩ fd.body body
 |_=>false
end
end Den
end
section
namespace bc
open PySem Den
noncomputable def xq :B:=.cons (.ret (.comp (.bin .add (.slice (.var 0) (.none) (.some (.var 1))) (.slice (.var 0) (.some (.bin .add (.var 1) (.lit (.int 1)))) (.none))) 0 (.fk (.prim .len (.var 0))) (.some (.cmp .gt (.prim .len (.var 0)) (.lit (.int 1)))))) (.nil)
noncomputable def xh :B:=.cons (.ret (.prim .all (.comp (.cmp .mem (.var 2) (.var 1)) 0 (.seq (.var 0)) (.none)))) (.nil)
noncomputable def xi(Ny:Nat):B:=.cons (.ret (.prim .any (.comp (.call Ny (.cons (.var 0) (.cons (.var 2) (.nil)))) 0 (.seq (.var 1)) (.none)))) (.nil)
noncomputable def xt(Nz:Nat):B:=.cons (.asg 1 (.prim .eZ (.var 0))) (.cons (.asg 2 (.lst (.nil))) (.cons (.fi 0 [3] (.seq (.var 1)) (.cons (.asg 4 (.comp (.var 5) 0 (.seq (.var 1)) (.some (.cmp .gt (.prim .len (.var 5)) (.prim .len (.var 3)))))) (.cons (.iff (.not (.call Nz (.cons (.var 3) (.cons (.var 4) (.nil))))) (.cons (.app 2 (.var 3)) (.nil)) (.nil)) (.nil)))) (.cons (.ret (.tupI (.seq (.var 2)))) (.nil))))
noncomputable def wW :B:=.cons (.asg 1 (.lst (.nil))) (.cons (.fi 0 [2] (.seq (.var 0)) (.cons (.asg 1 (.bin .add (.bin .add (.var 1) (.lst (.cons (.tup (.cons (.var 2) (.nil))) (.nil)))) (.comp (.bin .add (.var 3) (.tup (.cons (.var 2) (.nil)))) 0 (.seq (.var 1)) (.none)))) (.nil))) (.cons (.ret (.var 1)) (.nil)))
noncomputable def wY(Nv:Nat):B:=.cons (.asg 1 (.lst (.nil))) (.cons (.fi 0 [2] (.seq (.idx (.var 0) (.lit (.int 1)))) (.cons (.ext 1 (.call Nv (.cons (.var 2) (.nil)))) (.nil))) (.cons (.ret (.prim .eZ (.var 1))) (.nil)))
noncomputable def wV(yh:Nat):B:=.cons (.ret (.tupI (.seq (.comp (.var 2) 0 (.seq (.call yh (.cons (.var 0) (.nil)))) (.some (.cmp .eq (.bin .sub (.prim .len (.var 2)) (.lit (.int 1))) (.var 1))))))) (.nil)
noncomputable def xl(NJ:Nat):B:=.cons (.iff (.cmp .eq (.prim .len (.var 0)) (.lit (.int 0))) (.cons (.stop) (.nil)) (.nil)) (.cons (.asg 1 (.lst (.nil))) (.cons (.fi 0 [2] (.seq (.var 0)) (.cons (.ext 1 (.var 2)) (.nil))) (.cons (.asg 3 (.prim .eZ (.var 1))) (.cons (.ret (.tup (.cons (.prim .len (.var 3)) (.cons (.call NJ (.cons (.comp (.tupI (.seq (.comp (.kD 3 5) 0 (.seq (.var 4)) (.none)))) 0 (.seq (.var 0)) (.none)) (.nil))) (.nil))))) (.nil)))))
noncomputable def wZ(yh:Nat)(q4:Nat):B:=.cons (.nN 1) (.cons (.fi 0 [2] (.seq (.call yh (.cons (.var 0) (.nil)))) (.cons (.fi 0 [3] (.seq (.call q4 (.cons (.var 2) (.nil)))) (.cons (.ir 1 3 (.bin .add (.nK 1 3) (.tup (.cons (.var 2) (.nil))))) (.nil))) (.nil))) (.cons (.pS 1 (.tupI (.seq (.prim .sorted (.comp (.tup (.cons (.var 4) (.cons (.idx (.gZ 1 4) (.lit (.int 0))) (.nil)))) 0 (.lg 1) (.some (.cmp .eq (.prim .len (.gZ 1 4)) (.lit (.int 1))))))))) (.nil)))
noncomputable def xu(NC:Nat)(q4:Nat):B:=.cons (.asg 2 (.comp (.var 3) 0 (.seq (.idx (.var 0) (.lit (.int 1)))) (.some (.cmp .ne (.var 3) (.idx (.var 1) (.lit (.int 1))))))) (.cons (.ret (.call NC (.cons (.bin .add (.var 2) (.comp (.var 3) 0 (.seq (.call q4 (.cons (.idx (.var 1) (.lit (.int 1))) (.nil)))) (.some (.cmp .ne (.var 3) (.idx (.var 1) (.lit (.int 0))))))) (.nil)))) (.nil))
noncomputable def wQ(tP:Nat)(NK:Nat):B:=.cons (.asg 1 (.call tP (.cons (.var 0) (.nil)))) (.cons (.l2 (.cmp .gt (.prim .len (.var 1)) (.lit (.int 0))) (.cons (.asg 0 (.call NK (.cons (.var 0) (.cons (.idx (.var 1) (.lit (.int 0))) (.nil))))) (.cons (.asg 1 (.call tP (.cons (.var 0) (.nil)))) (.nil)))) (.cons (.ret (.var 0)) (.nil)))
noncomputable def xk(Nu:Nat):B:=.cons (.nM 2) (.cons (.asg 3 (.lit (.int 1))) (.cons (.fi 0 [4] (.seq (.call Nu (.cons (.var 0) (.cons (.var 1) (.nil))))) (.cons (.ir 2 4 (.var 3)) (.cons (.asg 3 (.bin .mul (.var 3) (.lit (.int 2)))) (.nil)))) (.cons (.pR 2) (.nil))))
noncomputable def wU :B:=.cons (.ret (.prim .sum (.comp (.gZ 1 2) 0 (.seq (.var 0)) (.none)))) (.nil)
noncomputable def wX :B:=.cons (.ret (.tupI (.seq (.comp (.var 2) 0 (.lg 1) (.some (.cmp .ne (.bin .and (.var 0) (.gZ 1 2)) (.lit (.int 0)))))))) (.nil)
noncomputable def xn(Nt:Nat)(q4:Nat)(tQ:Nat):B:=.cons (.asg 2 (.call tQ (.cons (.var 0) (.cons (.bin .sub (.var 1) (.lit (.int 1))) (.nil))))) (.cons (.asg 3 (.call tQ (.cons (.var 0) (.cons (.var 1) (.nil))))) (.cons (.ret (.comp (.tup (.cons (.call Nt (.cons (.call q4 (.cons (.var 4) (.nil))) (.cons (.var 2) (.nil)))) (.cons (.gZ 3 4) (.nil)))) 0 (.lg 3) (.none))) (.nil)))
noncomputable def xr :B:=.cons (.ret (.tup (.cons (.bin .xor (.idx (.var 0) (.lit (.int 0))) (.idx (.var 1) (.lit (.int 0)))) (.cons (.bin .xor (.idx (.var 0) (.lit (.int 1))) (.idx (.var 1) (.lit (.int 1)))) (.nil))))) (.nil)
noncomputable def xm(NH:Nat):B:=.cons (.fi 0 [2] (.lg 1) (.cons (.iff (.cmp .ne (.bin .and (.idx (.var 0) (.lit (.int 0))) (.var 2)) (.lit (.int 0))) (.cons (.asg 0 (.call NH (.cons (.var 0) (.cons (.gZ 1 2) (.nil))))) (.nil)) (.nil)) (.nil))) (.cons (.ret (.var 0)) (.nil))
noncomputable def xj :B:=.cons (.ret (.bin .and (.var 0) (.neg (.var 0)))) (.nil)
noncomputable def th(o2:Nat)(NA:Nat):B:=.cons (.asg 2 (.call o2 (.cons (.var 1) (.cons (.var 0) (.nil))))) (.cons (.iff (.cmp .eq (.idx (.var 2) (.lit (.int 0))) (.lit (.int 0))) (.cons (.ret (.var 0)) (.nil)) (.nil)) (.cons (.asg 3 (.call NA (.cons (.idx (.var 2) (.lit (.int 0))) (.nil)))) (.cons (.nO 4) (.cons (.fi 0 [5] (.lg 0) (.cons (.ir 4 5 (.call o2 (.cons (.gZ 0 5) (.cons (.oW 3 2) (.nil))))) (.nil))) (.cons (.ir 4 3 (.var 2)) (.cons (.pR 4) (.nil)))))))
noncomputable def wR(q3:Nat):B:=.cons (.asg 1 (.oX)) (.cons (.fi 0 [2] (.seq (.var 0)) (.cons (.asg 1 (.call q3 (.cons (.var 1) (.cons (.var 2) (.nil))))) (.nil))) (.cons (.ret (.var 1)) (.nil)))
noncomputable def w1(q3:Nat)(o2:Nat):B:=.cons (.asg 1 (.oX)) (.cons (.asg 2 (.lst (.nil))) (.cons (.fi 0 [3] (.seq (.var 0)) (.cons (.asg 4 (.call o2 (.cons (.var 3) (.cons (.var 1) (.nil))))) (.cons (.iff (.cmp .eq (.idx (.var 4) (.lit (.int 0))) (.lit (.int 0))) (.cons (.app 2 (.idx (.var 4) (.lit (.int 1)))) (.nil)) (.nil)) (.cons (.asg 1 (.call q3 (.cons (.var 1) (.cons (.var 3) (.nil))))) (.nil))))) (.cons (.ot 2) (.nil))))
noncomputable def xo(Nx:Nat)(Dk:Nat)(o2:Nat)(q3:Nat)(Nw:Nat)(tQ:Nat)(Nr:Nat):B:=.cons (.asg 2 (.call Nr (.cons (.call Dk (.cons (.var 0) (.cons (.bin .add (.var 1) (.lit (.int 1))) (.nil)))) (.nil)))) (.cons (.asg 3 (.call tQ (.cons (.var 0) (.cons (.var 1) (.nil))))) (.cons (.asg 4 (.lst (.nil))) (.cons (.fi 0 [5] (.seq (.call Nx (.cons (.call Dk (.cons (.var 0) (.cons (.var 1) (.nil)))) (.nil)))) (.cons (.asg 6 (.tup (.cons (.var 5) (.cons (.lit (.int 0)) (.nil))))) (.cons (.iff (.cmp .ne (.idx (.call o2 (.cons (.var 6) (.cons (.var 2) (.nil)))) (.lit (.int 0))) (.lit (.int 0))) (.cons (.app 4 (.call Nw (.cons (.var 5) (.cons (.var 3) (.nil))))) (.cons (.asg 2 (.call q3 (.cons (.var 2) (.cons (.var 6) (.nil))))) (.nil))) (.nil)) (.nil)))) (.cons (.ret (.tupI (.seq (.prim .sorted (.var 4))))) (.nil)))))
noncomputable def w0(ND:Nat):B:=.cons (.asg 1 (.prim .max (.comp (.prim .len (.var 2)) 0 (.seq (.idx (.var 0) (.lit (.int 1)))) (.none)))) (.cons (.ret (.tupI (.seq (.comp (.prim .len (.call ND (.cons (.var 0) (.cons (.var 2) (.nil))))) 0 (.fk (.var 1)) (.none))))) (.nil))
noncomputable def w3 :B:=.cons (.iff (.cmp .lt (.var 1) (.prim .len (.var 0))) (.cons (.ret (.idx (.var 0) (.var 1))) (.nil)) (.nil)) (.cons (.ret (.lit (.int 0))) (.nil))
noncomputable def xb(NL:Nat):B:=.cons (.asg 2 (.bin .mod (.bin .mul (.bin .add (.bin .add (.call NL (.cons (.var 0) (.cons (.var 1) (.nil)))) (.bin .mul (.lit (.int 7919)) (.var 1))) (.lit (.int 1))) (.lit (.int 48271))) (.lit (.int 2147483647)))) (.cons (.ret (.bin .mod (.bin .add (.bin .add (.bin .mul (.var 2) (.var 2)) (.bin .mul (.lit (.int 7)) (.var 2))) (.var 1)) (.lit (.int 2147483629)))) (.nil))
noncomputable def w5 :B:=.cons (.asg 2 (.bin .mod (.bin .mul (.bin .add (.bin .add (.var 0) (.bin .mul (.lit (.int 104729)) (.var 1))) (.lit (.int 17))) (.lit (.int 69621))) (.lit (.int 2147483647)))) (.cons (.ret (.bin .mod (.bin .add (.bin .add (.bin .mul (.var 2) (.var 2)) (.bin .mul (.lit (.int 3)) (.var 2))) (.var 1)) (.lit (.int 2147483629)))) (.nil))
noncomputable def xa :B:=.cons (.ret (.cmp .eq (.comp (.var 2) 0 (.seq (.var 0)) (.some (.cmp .jq (.var 2) (.var 1)))) (.lst (.nil)))) (.nil)
noncomputable def xg(yk:Nat):B:=.cons (.asg 1 (.lst (.nil))) (.cons (.fi 0 [2] (.seq (.prim .eZ (.var 0))) (.cons (.iff (.cmp .eq (.comp (.var 3) 0 (.seq (.var 0)) (.some (.and (.cmp .ne (.var 2) (.var 3)) (.call yk (.cons (.var 2) (.cons (.var 3) (.nil))))))) (.lst (.nil))) (.cons (.app 1 (.var 2)) (.nil)) (.nil)) (.nil))) (.cons (.ret (.tupI (.seq (.var 1)))) (.nil)))
noncomputable def oQ(q7:Nat):B:=.cons (.iff (.cmp .eq (.var 1) (.lit (.int 0))) (.cons (.ret (.lst (.cons (.tup (.nil)) (.nil)))) (.nil)) (.nil)) (.cons (.asg 2 (.lst (.nil))) (.cons (.fi 0 [3] (.fk (.prim .len (.var 0))) (.cons (.asg 2 (.bin .add (.var 2) (.comp (.bin .add (.tup (.cons (.idx (.var 0) (.var 3)) (.nil))) (.var 4)) 0 (.seq (.call q7 (.cons (.slice (.var 0) (.some (.bin .add (.var 3) (.lit (.int 1)))) (.none)) (.cons (.bin .sub (.var 1) (.lit (.int 1))) (.nil))))) (.none)))) (.nil))) (.cons (.ret (.var 2)) (.nil))))
noncomputable def xf(Dm:Nat):B:=.cons (.asg 2 (.comp (.tup (.cons (.var 6) (.nil))) 0 (.fk (.var 1)) (.none))) (.cons (.fi 0 [3] (.fk (.bin .mod (.var 0) (.lit (.int 9)))) (.cons (.asg 4 (.call Dm (.cons (.var 0) (.cons (.var 3) (.nil))))) (.cons (.asg 5 (.tupI (.seq (.comp (.var 6) 0 (.fk (.var 1)) (.some (.cmp .lt (.bin .mod (.call Dm (.cons (.var 4) (.cons (.var 6) (.nil)))) (.lit (.int 5))) (.bin .add (.lit (.int 2)) (.bin .mod (.var 4) (.lit (.int 2)))))))))) (.cons (.iff (.cmp .ne (.var 5) (.tup (.nil))) (.cons (.app 2 (.var 5)) (.nil)) (.nil)) (.nil))))) (.cons (.ot 2) (.nil)))
noncomputable def xc(yq:Nat)(q7:Nat)(N0:Nat):B:=.cons (.asg 2 (.bin .add (.lit (.int 1)) (.bin .mod (.var 0) (.var 1)))) (.cons (.asg 3 (.bin .mod (.bin .fdiv (.var 0) (.lit (.int 12))) (.lit (.int 8)))) (.cons (.iff (.cmp .eq (.var 3) (.lit (.int 0))) (.cons (.asg 4 (.call q7 (.cons (.tupI (.fk (.var 2))) (.cons (.bin .add (.lit (.int 1)) (.bin .mod (.bin .fdiv (.var 0) (.lit (.int 96))) (.var 2))) (.nil))))) (.nil)) (.cons (.iff (.and (.cmp .eq (.var 3) (.lit (.int 1))) (.cmp .gt (.var 1) (.lit (.int 5)))) (.cons (.asg 2 (.lit (.int 6))) (.cons (.asg 4 (.comp (.tup (.cons (.lit (.int 0)) (.cons (.bin .add (.lit (.int 1)) (.var 5)) (.cons (.bin .add (.lit (.int 1)) (.bin .mod (.bin .add (.var 5) (.lit (.int 1))) (.lit (.int 5)))) (.nil))))) 0 (.fk (.lit (.int 5))) (.none))) (.cons (.asg 4 (.bin .add (.var 4) (.comp (.tup (.cons (.bin .add (.lit (.int 1)) (.var 5)) (.cons (.bin .add (.lit (.int 1)) (.bin .mod (.bin .add (.var 5) (.lit (.int 1))) (.lit (.int 5)))) (.cons (.bin .add (.lit (.int 1)) (.bin .mod (.bin .add (.var 5) (.lit (.int 3))) (.lit (.int 5)))) (.nil))))) 0 (.fk (.lit (.int 5))) (.none)))) (.nil)))) (.cons (.iff (.and (.cmp .eq (.var 3) (.lit (.int 2))) (.cmp .gt (.var 1) (.lit (.int 6)))) (.cons (.asg 2 (.lit (.int 7))) (.cons (.asg 4 (.comp (.tup (.cons (.var 5) (.cons (.bin .mod (.bin .add (.var 5) (.lit (.int 1))) (.lit (.int 7))) (.cons (.bin .mod (.bin .add (.var 5) (.lit (.int 3))) (.lit (.int 7))) (.nil))))) 0 (.fk (.lit (.int 7))) (.none))) (.cons (.asg 4 (.bin .add (.var 4) (.comp (.tup (.cons (.var 5) (.cons (.bin .mod (.bin .add (.var 5) (.lit (.int 2))) (.lit (.int 7))) (.cons (.bin .mod (.bin .add (.var 5) (.lit (.int 3))) (.lit (.int 7))) (.nil))))) 0 (.fk (.lit (.int 7))) (.none)))) (.nil)))) (.cons (.asg 4 (.call N0 (.cons (.bin .fdiv (.var 0) (.lit (.int 96))) (.cons (.var 2) (.nil))))) (.nil))) (.nil))) (.nil))) (.cons (.ret (.tup (.cons (.var 2) (.cons (.call yq (.cons (.comp (.tupI (.seq (.prim .sorted (.var 5)))) 0 (.seq (.var 4)) (.none)) (.nil))) (.nil))))) (.nil))))
noncomputable def w4(q7:Nat):B:=.cons (.asg 2 (.lst (.nil))) (.cons (.fi 0 [3] (.seq (.idx (.var 0) (.lit (.int 1)))) (.cons (.asg 2 (.bin .add (.var 2) (.call q7 (.cons (.var 3) (.cons (.bin .add (.var 1) (.lit (.int 1))) (.nil)))))) (.nil))) (.cons (.ret (.prim .eZ (.var 2))) (.nil)))
noncomputable def w8 :B:=.cons (.ret (.prim .max (.comp (.prim .len (.var 1)) 0 (.seq (.idx (.var 0) (.lit (.int 1)))) (.none)))) (.nil)
noncomputable def w6(NN:Nat)(NM:Nat):B:=.cons (.asg 1 (.lst (.nil))) (.cons (.fi 0 [2] (.fk (.call NN (.cons (.var 0) (.nil)))) (.cons (.asg 1 (.bin .add (.var 1) (.call NM (.cons (.var 0) (.cons (.var 2) (.nil)))))) (.nil))) (.cons (.ret (.var 1)) (.nil)))
noncomputable def xd(yq:Nat):B:=.cons (.asg 1 (.lst (.nil))) (.cons (.fi 0 [2] (.seq (.var 0)) (.cons (.asg 1 (.bin .add (.var 1) (.kE (.seq (.var 2))))) (.nil))) (.cons (.asg 1 (.prim .eZ (.var 1))) (.cons (.ret (.tup (.cons (.prim .len (.var 1)) (.cons (.call yq (.cons (.comp (.tupI (.seq (.comp (.kD 1 4) 0 (.seq (.var 3)) (.none)))) 0 (.seq (.var 0)) (.none)) (.nil))) (.nil))))) (.nil))))
noncomputable def w7(yk:Nat)(yi:Nat):B:=.cons (.asg 1 (.call yi (.cons (.var 0) (.nil)))) (.cons (.asg 2 (.lst (.nil))) (.cons (.fi 0 [3] (.seq (.var 1)) (.cons (.asg 4 (.comp (.var 5) 0 (.seq (.var 1)) (.some (.and (.cmp .ne (.var 3) (.var 5)) (.call yk (.cons (.var 3) (.cons (.var 5) (.nil)))))))) (.cons (.iff (.cmp .eq (.prim .len (.var 4)) (.lit (.int 1))) (.cons (.app 2 (.tup (.cons (.var 3) (.cons (.idx (.var 4) (.lit (.int 0))) (.nil))))) (.nil)) (.nil)) (.nil)))) (.cons (.ret (.tupI (.seq (.prim .sorted (.var 2))))) (.nil))))
noncomputable def xe(NU:Nat)(yi:Nat):B:=.cons (.ret (.call NU (.cons (.comp (.var 2) 0 (.seq (.call yi (.cons (.var 0) (.nil)))) (.some (.cmp .jq (.var 2) (.var 1)))) (.nil)))) (.nil)
noncomputable def w9 :B:=.cons (.asg 1 (.kE (.seq (.var 0)))) (.cons (.oy 1 (.bin .sub (.idx (.var 1) (.lit (.int 0))) (.lit (.int 1)))) (.cons (.l2 (.and (.cmp .ne (.var 1) (.lst (.nil))) (.cmp .eq (.idx (.var 1) (.neg (.lit (.int 1)))) (.lit (.int 0)))) (.cons (.pop 1) (.nil))) (.cons (.ot 1) (.nil))))
noncomputable def w2(Dv:Nat)(Dj:Nat)(Di:Nat)(tP:Nat)(Dn:Nat)(NV:Nat)(NT:Nat)(NR:Nat):B:=.cons (.asg 1 (.call NT (.cons (.call NR (.cons (.var 0) (.cons (.lit (.int 0)) (.nil)))) (.cons (.lit (.int 5)) (.nil))))) (.cons (.asg 2 (.var 1)) (.cons (.asg 3 (.call Dn (.cons (.var 2) (.nil)))) (.cons (.l2 (.cmp .ne (.var 3) (.tup (.nil))) (.cons (.asg 2 (.call NV (.cons (.var 2) (.cons (.idx (.var 3) (.lit (.int 0))) (.nil))))) (.cons (.asg 3 (.call Dn (.cons (.var 2) (.nil)))) (.nil)))) (.cons (.asg 4 (.call Di (.cons (.var 1) (.nil)))) (.cons (.iff (.or (.cmp .ne (.var 4) (.var 2)) (.or (.cmp .ne (.call tP (.cons (.var 4) (.nil))) (.tup (.nil))) (.cmp .ne (.call Di (.cons (.var 4) (.nil))) (.var 4)))) (.cons (.ret (.lit (.aO false))) (.nil)) (.nil)) (.cons (.ret (.cmp .eq (.call Dv (.cons (.call Dj (.cons (.var 4) (.nil))) (.nil))) (.call Dv (.cons (.call Dj (.cons (.var 1) (.nil))) (.nil))))) (.nil)))))))
end bc
end
section
namespace gC
open PySem Den
noncomputable def fds:List gy:=[
 ⟨1,0,bc.xq⟩,
 ⟨2,0,bc.xh⟩,
 ⟨2,0,bc.xi 1⟩,
 ⟨1,4,bc.xt 2⟩,
 ⟨1,2,bc.wW⟩,
 ⟨1,2,bc.wY 4⟩,
 ⟨2,0,bc.wV 5⟩,
 ⟨1,3,bc.xl 3⟩,
 ⟨1,3,bc.wZ 5 0⟩,
 ⟨2,1,bc.xu 7 0⟩,
 ⟨1,1,bc.wQ 8 9⟩,
 ⟨2,3,bc.xk 6⟩,
 ⟨2,0,bc.wU⟩,
 ⟨2,0,bc.wX⟩,
 ⟨2,2,bc.xn 12 0 11⟩,
 ⟨2,0,bc.xr⟩,
 ⟨2,1,bc.xm 15⟩,
 ⟨1,0,bc.xj⟩,
 ⟨2,4,bc.th 16 17⟩,
 ⟨1,2,bc.wR 18⟩,
 ⟨1,4,bc.w1 18 16⟩,
 ⟨2,5,bc.xo 20 14 16 18 13 11 19⟩,
 ⟨1,1,bc.w0 21⟩,
 ⟨2,0,bc.w3⟩,
 ⟨2,1,bc.xb 23⟩,
 ⟨2,1,bc.w5⟩,
 ⟨2,0,bc.xa⟩,
 ⟨1,2,bc.xg 26⟩,
 ⟨2,2,bc.oQ 28⟩,
 ⟨2,4,bc.xf 25⟩,
 ⟨2,3,bc.xc 27 28 29⟩,
 ⟨2,2,bc.w4 28⟩,
 ⟨1,0,bc.w8⟩,
 ⟨1,2,bc.w6 32 31⟩,
 ⟨1,2,bc.xd 27⟩,
 ⟨1,4,bc.w7 26 33⟩,
 ⟨2,0,bc.xe 34 33⟩,
 ⟨1,1,bc.w9⟩,
 ⟨1,4,bc.w2 37 22 10 8 35 36 30 24⟩]
noncomputable def cs:List D:=[]
noncomputable def up:gX:=λc=>match c with|0=>[0,1000]|1=>[1,0,1000]|_=>[]
noncomputable def pg:dy:=⟨up,cs⟩
noncomputable def FP:List (List Str):=[
 (["cell"]:List Str),
 (["cell","other"]:List Str),
 (["cell","others"]:List Str),
 (["some","distinct","tops","cell","longer"]:List Str),
 (["top","found","corner"]:List Str),
 (["net","found","top"]:List Str),
 (["net","height"]:List Str),
 (["some","met","cell","left"]:List Str),
 (["net","above","cell","side"]:List Str),
 (["net","pair","rest"]:List Str),
 (["net","pairs"]:List Str),
 (["net","height","found","bit","cell"]:List Str),
 (["chain","marked"]:List Str),
 (["bits","marked"]:List Str),
 (["net","height","lower","own"]:List Str),
 (["one","other"]:List Str),
 (["row","basis","pivot"]:List Str),
 (["bits"]:List Str),
 (["basis","row","left","pivot","wider","other"]:List Str),
 (["rows","basis","row"]:List Str),
 (["rows","basis","found","row","left"]:List Str),
 (["net","height","reached","marked","found","bits","row"]:List Str),
 (["net","highest"]:List Str),
 (["_law_script","_law_k"]:List Str),
 (["_law_script","_law_k","_law_drawn_here"]:List Str),
 (["_law_number","_law_k","_law_drawn_here"]:List Str),
 (["_law_cell","_law_other"]:List Str),
 (["_law_some_here","_law_found","_law_cell"]:List Str),
 (["_law_cell","_law_size","_law_found","_law_at"]:List Str),
 (["_law_number","_law_many","_law_found","_law_k","_law_drawn_here","_law_cell"]:List Str),
 (["_law_number","_law_most","_law_many","_law_kind","_law_some_here"]:List Str),
 (["_law_net_here","_law_height","_law_found","_law_top"]:List Str),
 (["_law_net_here"]:List Str),
 (["_law_net_here","_law_found","_law_height"]:List Str),
 (["_law_some_here","_law_corners","_law_cell"]:List Str),
 (["_law_net_here","_law_every_here","_law_found","_law_cell","_law_some_here"]:List Str),
 (["_law_net_here","_law_pair"]:List Str),
 (["_law_some_here","_law_found"]:List Str),
 (["_law_script","_law_net_here","_law_due","_law_some_here","_law_found"]:List Str)]
noncomputable def gt:Gt:=⟨[("sides":Str),("lies_in":Str),("lies_in_one":Str),("uppermost":Str),("cells_within":Str),("every_cell":Str),("cells_of_height":Str),("numbered_anew":Str),("free_cells":Str),("without_pair":Str),("bare":Str),("marks":Str),("bits_of":Str),("chain_of":Str),("rim_rows":Str),("sum_of_rows":Str),("reduced":Str),("lowest_bit":Str),("grown":Str),("basis_of":Str),("idle_parts":Str),("rounds_about":Str),("holes":Str),("_law_cell_at":Str),("_law_mixed":Str),("_law_drawn":Str),("_law_lies":Str),("_law_tops":Str),("_law_parts":Str),("_law_some":Str),("_law_net":Str),("_law_cells":Str),("_law_high":Str),("_law_every":Str),("_law_numbered":Str),("_law_free":Str),("_law_off":Str),("_law_less":Str),("law":Str)],["HoleError","NoNet"],[]⟩
end gC
end
section
namespace Den
section
variable{pg:dy}{Φ:dW}{ρ:aY}
noncomputable def wH(pg:dy)(Φ:dW)(ρ:aY)(r:R D)(b:E):R D:=r>>=λx=>eE x>>=λk=>if k then ev pg Φ ρ b else .ok (.aO false)
noncomputable def z3(pg:dy)(Φ:dW)(ρ:aY)(r:R D)(b:E):R D:=r>>=λx=>eE x>>=λk=>if k then .ok (.aO true) else ev pg Φ ρ b
noncomputable def vr(pg:dy)(Φ:dW)(r:R eA)(b:B):R eA:=r>>=λx=>match x with
 |.bJ bC=>eF pg Φ bC b
 |.dE d=>.ok (.dE d)
noncomputable def zt(pg:dy)(Φ:dW)(ρ:aY)(r:R D)(a b:B):R eA:=r>>=λx=>eE x>>=λk=>if k then eF pg Φ ρ a else eF pg Φ ρ b
noncomputable def turn(pg:dy)(Φ:dW)(k:Nat)(ts:List Nat)(b:B)(d:D)(ρ:aY):R eA:=gp k d>>=λae=>eF pg Φ (lT ts ae ρ) b
noncomputable def elem(pg:dy)(Φ:dW)(ρ:aY)(e:E)(k:Nat)(c:O)(d:D):R (Option D):=gp k d>>=λae=>lq pg Φ (ρ++ae) c>>=λb=>if b then ev pg Φ (ρ++ae) e>>=λy=>.ok (some y) else .ok none
def tI(i:Nat){d:D}(h:ρ[i]?=some (some d)):ev pg Φ ρ (.var i)=.ok d:=Z8 yA h
def tH(i:Nat):ev pg Φ ρ (.var i)=yA ρ[i]?:=a5 rfl
def MW{d:D}{r:aY}:ev pg Φ (some d::r) (.var 0)=.ok d:=a5 rfl
def MX{o:Option D}{r:aY}{i:Nat}:ev pg Φ (o::r) (.var (i+1))=ev pg Φ r (.var i):=a5 rfl
def C7(d:D):ev pg Φ ρ (.lit d)=.ok d:=a5 rfl
def MV(a:A):ev pg Φ ρ (.tup a)=hZ pg Φ ρ a>>=λds=>.ok (.tup ds):=a5 rfl
def MQ(a:A):ev pg Φ ρ (.lst a)=hZ pg Φ ρ a>>=λds=>.ok (.lst ds):=a5 rfl
def MK(op:Op)(a b:E):ev pg Φ ρ (.bin op a b)=ev pg Φ ρ a>>=λx=>ev pg Φ ρ b>>=λy=>ep op x y:=a5 rfl
def Dc(a:E):ev pg Φ ρ (.neg a)=ev pg Φ ρ a>>=λx=>gD x>>=λi=>.ok (.int (-i)):=a5 rfl
def q2(i:Nat):hn pg Φ ρ (.lg i)=nL ρ[i]?:=a5 rfl
def MR(a:E):ev pg Φ ρ (.not a)=ev pg Φ ρ a>>=λx=>eE x>>=λb=>.ok (.aO (!b)):=a5 rfl
def C4(op:hC)(a b:E):ev pg Φ ρ (.cmp op a b)=ev pg Φ ρ a>>=λx=>ev pg Φ ρ b>>=λy=>dS op x y>>=λc=>.ok (.aO c):=a5 rfl
def MM(op op':hC)(a b c:E):ev pg Φ ρ (.tp op op' a b c)=ev pg Φ ρ a>>=λx=>ev pg Φ ρ b>>=λy=>dS op x y>>=λk=>if k then ev pg Φ ρ c>>=λz=>dS op' y z>>=λdd=>.ok (.aO dd) else .ok (.aO false):=a5 rfl
def MJ(a b:E):ev pg Φ ρ (.and a b)=wH pg Φ ρ (ev pg Φ ρ a) b:=a5 rfl
def MS(a b:E):ev pg Φ ρ (.or a b)=z3 pg Φ ρ (ev pg Φ ρ a) b:=a5 rfl
def MP(a b:E):ev pg Φ ρ (.idx a b)=ev pg Φ ρ a>>=λx=>ev pg Φ ρ b>>=λy=>fF x y:=a5 rfl
def MU(a:E)(lo ai:O):ev pg Φ ρ (.slice a lo ai)=ev pg Φ ρ a>>=λx=>mC pg Φ ρ lo>>=λl=>mC pg Φ ρ ai>>=λh=>kO x l h:=a5 rfl
def ML(f:Nat)(a:A):ev pg Φ ρ (.call f a)=hZ pg Φ ρ a>>=λds=>Φ f ds:=a5 rfl
def MT(p:eC)(a:E):ev pg Φ ρ (.prim p a)=ev pg Φ ρ a>>=λx=>jV pg.up p x:=a5 rfl
def ye(s:I):ev pg Φ ρ (.tupI s)=hn pg Φ ρ s>>=λds=>.ok (.tup ds):=a5 rfl
def C9(s:I):ev pg Φ ρ (.kE s)=hn pg Φ ρ s>>=λds=>.ok (.lst ds):=a5 rfl
def C5(e:E)(k:Nat)(s:I)(c:O):ev pg Φ ρ (.comp e k s c)=hn pg Φ ρ s>>=λds=>iZ (da (elem pg Φ ρ e k c) ds)>>=λys=>.ok (.lst ys):=a5 rfl
def uX{α:Type}(a:α):iZ (.ok a)=.ok a:=a5 rfl
def C1:hZ pg Φ ρ .nil=.ok []:=a5 rfl
def C0(e:E)(a:A):hZ pg Φ ρ (.cons e a)=ev pg Φ ρ e>>=λx=>hZ pg Φ ρ a>>=λxs=>.ok (x::xs):=a5 rfl
def MH:mC pg Φ ρ .none=.ok none:=a5 rfl
def MI(e:E):mC pg Φ ρ (.some e)=ev pg Φ ρ e>>=λx=>gD x>>=λi=>.ok (some i):=a5 rfl
def C2:lq pg Φ ρ .none=.ok true:=a5 rfl
def C3(e:E):lq pg Φ ρ (.some e)=ev pg Φ ρ e>>=λx=>eE x:=a5 rfl
def tG(e:E):hn pg Φ ρ (.seq e)=ev pg Φ ρ e>>=λx=>ez x:=a5 rfl
def MF(a:E):hn pg Φ ρ (.fk a)=ev pg Φ ρ a>>=λx=>gD x>>=λi=>i0 0 i:=a5 rfl
def MG(a b:E):hn pg Φ ρ (.vm a b)=ev pg Φ ρ a>>=λx=>gD x>>=λi=>ev pg Φ ρ b>>=λy=>gD y>>=λj=>i0 i j:=a5 rfl
def BO(b:Bool):eE (.aO b)=.ok b:=a5 rfl
def JR(i:Int):gD (.int i)=.ok i:=a5 rfl
def Vx(xs:List D):ez (.tup xs)=.ok xs:=a5 rfl
def Hk(xs:List D):ez (.lst xs)=.ok xs:=a5 rfl
def J7(d:D):gp 0 d=.ok [some d]:=a5 rfl
def J8(x y:D):gp 2 (.tup [x,y])=.ok [some x,some y]:=a5 rfl
def Ju(b:E):wH pg Φ ρ (.ok (.aO true)) b=ev pg Φ ρ b:=a5 rfl
def Jt(b:E):wH pg Φ ρ (.ok (.aO false)) b=.ok (.aO false):=a5 rfl
def Sk(b:E):z3 pg Φ ρ (.ok (.aO true)) b=.ok (.aO true):=a5 rfl
def Sj(b:E):z3 pg Φ ρ (.ok (.aO false)) b=ev pg Φ ρ b:=a5 rfl
def M5:eF pg Φ ρ .nil=.ok (.bJ ρ):=a5 rfl
def M4(s:S)(b:B):eF pg Φ ρ (.cons s b)=vr pg Φ (ex pg Φ ρ s) b:=a5 rfl
def Vu(b:B):vr pg Φ (.ok (.bJ ρ)) b=eF pg Φ ρ b:=a5 rfl
def Vv(d:D)(b:B):vr pg Φ (.ok (.dE d)) b=.ok (.dE d):=a5 rfl
def Vt(c:Nat)(b:B):vr pg Φ (.exc c) b=.exc c:=a5 rfl
def Dd(i:Nat)(e:E):ex pg Φ ρ (.asg i e)=ev pg Φ ρ e>>=λd=>.ok (.bJ (ρ.set i (some d))):=a5 rfl
def M6(i:Nat)(e:E):ex pg Φ ρ (.app i e)=mr ρ[i]?>>=λ_=>ev pg Φ ρ e>>=λd=>qA ρ[i]? d>>=λx=>.ok (.bJ (ρ.set i (some x))):=a5 rfl
def Nf(i:Nat):ex pg Φ ρ (.ot i)=uM ρ[i]?>>=λd=>.ok (.dE d):=a5 rfl
def Ri(ds:List D):uM (some (some (.lst ds)))=.ok (.lst ds):=a5 rfl
def Nd(e:E):ex pg Φ ρ (.ret e)=ev pg Φ ρ e>>=λd=>.ok (.dE d):=a5 rfl
def Nb(c:E)(a b:B):ex pg Φ ρ (.iff c a b)=zt pg Φ ρ (ev pg Φ ρ c) a b:=a5 rfl
def Qa(a b:B):zt pg Φ ρ (.ok (.aO true)) a b=eF pg Φ ρ a:=a5 rfl
def P9(a b:B):zt pg Φ ρ (.ok (.aO false)) a b=eF pg Φ ρ b:=a5 rfl
def Na(k:Nat)(ts:List Nat)(s:I)(b:B):ex pg Φ ρ (.fi k ts s b)=hn pg Φ ρ s>>=λds=>forL (turn pg Φ k ts b) ds ρ:=a5 rfl
def Uq{nl:Nat}{b:B}(x:D):c6 pg Φ ⟨1,nl,b⟩ [x]=mA (eF pg Φ (some x::List.replicate nl none) b):=a5 rfl
def Ur{nl:Nat}{b:B}(x y:D):c6 pg Φ ⟨2,nl,b⟩ [x,y]=mA (eF pg Φ (some x::some y::List.replicate nl none) b):=a5 rfl
def Us{nl:Nat}{b:B}(x y z:D):c6 pg Φ ⟨3,nl,b⟩ [x,y,z]=mA (eF pg Φ (some x::some y::some z::List.replicate nl none) b):=a5 rfl
def Mq(d:D):mA (.ok (.dE d))=.ok d:=a5 rfl
def Mp(ρ:aY):mA (.ok (.bJ ρ))=.ok .dp:=a5 rfl
def Mo(c:Nat):mA (.exc c)=.exc c:=a5 rfl
def Tp(up:gX)(d:D):jV up .len d=kB d:=a5 rfl
def To(up:gX)(t:Ty)(d:D):jV up (.inst t) d=lI up d t>>=λb=>.ok (.aO b):=a5 rfl
def Tq(up:gX)(d:D):jV up .sorted d=ez d>>=λxs=>sorted xs:=a5 rfl
def Tr(up:gX)(d:D):jV up .eZ d=ez d>>=λxs=>eZ xs:=a5 rfl
def Tj(up:gX)(d:D):jV up .all d=ez d>>=λxs=>ml xs>>=λb=>.ok (.aO b):=a5 rfl
def Tn(up:gX)(d:D):jV up .any d=ez d>>=λxs=>mm xs>>=λb=>.ok (.aO b):=a5 rfl
def uL(xs:List D):kB (.tup xs)=.ok (.int xs.length):=a5 rfl
def Q3(xs:List D):kB (.lst xs)=.ok (.int xs.length):=a5 rfl
def Cq(x y:D):dS .eq x y=fB x y:=a5 rfl
def xX(x y:D):dS .ne x y=ie (fB x y):=a5 rfl
def Cr(x y:D):dS .lt x y=uN x y:=a5 rfl
def cmp_gt(i j:Int):dS .gt (.int i) (.int j)=.ok (decide (j<i)):=a5 rfl
def KJ(i j:Int):dS .le (.int i) (.int j)=.ok (decide (i<=j)):=a5 rfl
def KI(i j:Int):dS .ge (.int i) (.int j)=.ok (decide (j<=i)):=a5 rfl
def KN(x:D)(ys:List D):dS .mem x (.tup ys)=hq x ys:=a5 rfl
def KL(x:D)(ys:List D):dS .mem x (.lst ys)=hq x ys:=a5 rfl
def KP(x:D)(ys:List D):dS .jq x (.tup ys)=ie (hq x ys):=a5 rfl
def KO(x:D)(ys:List D):dS .jq x (.lst ys)=ie (hq x ys):=a5 rfl
def Rn(i j:Int):uN (.int i) (.int j)=.ok (decide (i<j)):=a5 rfl
def FV(b:Bool):ie (.ok b)=.ok (!b):=a5 rfl
def Mx(i j:Int):fB (.int i) (.int j)=.ok (i==j):=a5 rfl
def Mw(i j:Bool):fB (.aO i) (.aO j)=.ok (i==j):=a5 rfl
def Mz{x y:D}(h:cY 60 x=true)(h':cY 60 y=true):fB x y=.ok (f5 x y):=by simp only[fB,h,h',ach,ZH]
def add_int(i j:Int):ep .add (.int i) (.int j)=.ok (.int (i+j)):=a5 rfl
def sub_int(i j:Int):ep .sub (.int i) (.int j)=.ok (.int (i-j)):=a5 rfl
def qx(xs ys:List D):ep .add (.tup xs) (.tup ys)=if xs.length+ys.length<=SZ then .ok (.tup (xs++ys)) else .bad:=a5 rfl
def mj(xs ys:List D):ep .add (.lst xs) (.lst ys)=if xs.length+ys.length<=SZ then .ok (.lst (xs++ys)) else .bad:=a5 rfl
def mul_int(i j:Int):ep .mul (.int i) (.int j)=if (-hi<i/\i<hi)\/(-hi<j/\j<hi) then .ok (.int (i*j)) else .bad:=a5 rfl
def Dl(i j:Int):ep .fdiv (.int i) (.int j)=if 0<j/\j<1073741824 then .ok (.int (i / j)) else .bad:=a5 rfl
def mod_int(i j:Int):ep .mod (.int i) (.int j)=if 0<j then .ok (.int (i%j)) else .bad:=a5 rfl
def uy(xs:List D)(i:Int):fF (.tup xs) (.int i)=(match iP xs i with|some d=>.ok d|none=>.bad):=a5 rfl
def ux(xs:List D)(i:Int):fF (.lst xs) (.int i)=(match iP xs i with|some d=>.ok d|none=>.bad):=a5 rfl
def vy(xs:List D)(lo ai:Option Int):kO (.tup xs) lo ai=.ok (.tup (cut xs lo ai)):=a5 rfl
def Hy(xs:List D)(lo ai:Option Int):kO (.lst xs) lo ai=.ok (.lst (cut xs lo ai)):=a5 rfl
def xK(xs:List D):mr (some (some (.lst xs)))=.ok ():=a5 rfl
def td(xs:List D)(d:D):qA (some (some (.lst xs))) d=if xs.length<SZ then .ok (.lst (xs++[d])) else .bad:=a5 rfl
def VA{o v:Option D}{r:aY}:(o::r:aY).set 0 v=v::r:=a5 rfl
def VD{o v:Option D}{r:aY}{i:Nat}:(o::r:aY).set (i+1) v=o::r.set i v:=a5 rfl
def N6{o:Option D}{r:aY}:(o::r:aY)[0]?=some o:=a5 rfl
def Oc{o:Option D}{r:aY}{i:Nat}:(o::r:aY)[i+1]?=r[i]?:=a5 rfl
def T6{α:Type}(x:α):List.replicate 0 x=[]:=a5 rfl
def T7{α:Type}(n:Nat)(x:α):List.replicate (n+1) x=x::List.replicate n x:=a5 rfl
def Xg(i:Nat)(b:B)(d:D):turn pg Φ 0 [i] b d ρ=eF pg Φ (ρ.set i (some d)) b:=a5 rfl
def Xh(i j:Nat)(b:B)(x y:D):turn pg Φ 2 [i,j] b (.tup [x,y]) ρ=eF pg Φ ((ρ.set i (some x)).set j (some y)) b:=a5 rfl
def mz(e:E)(c:O)(d:D):elem pg Φ ρ e 0 c d=lq pg Φ (ρ++[some d]) c>>=λb=>if b then ev pg Φ (ρ++[some d]) e>>=λy=>.ok (some y) else .ok none:=a5 rfl
def Mm(e:E)(c:O)(x y:D):elem pg Φ ρ e 2 c (.tup [x,y])=lq pg Φ (ρ++[some x,some y]) c>>=λb=>if b then ev pg Φ (ρ++[some x,some y]) e>>=λy=>.ok (some y) else .ok none:=a5 rfl
def Qe(up:gX)(xs:List D):lI up (.tup xs) .tuple=.ok true:=a5 rfl
end
end Den
end
section
def Den.a0:=And.intro (And.intro (And.intro (And.intro (And.intro (And.intro (@Den.MW) (And.intro (@Den.MX) (@Den.C7))) (And.intro (@Den.MV) (And.intro (@Den.MQ) (@Den.MK)))) (And.intro (And.intro (@Den.MR) (And.intro (@Den.C4) (@Den.MM))) (And.intro (And.intro (@Den.MJ) (@Den.MS)) (And.intro (@Den.MP) (@Den.MU))))) (And.intro (And.intro (And.intro (@Den.ML) (And.intro (@Den.MT) (@Den.ye))) (And.intro (And.intro (@Den.C9) (@Den.C5)) (And.intro (@Den.uX) (@Den.C1)))) (And.intro (And.intro (@Den.C0) (And.intro (@Den.MH) (@Den.MI))) (And.intro (And.intro (@Den.C2) (@Den.C3)) (And.intro (@Den.tG) (@Den.MF)))))) (And.intro (And.intro (And.intro (And.intro (@Den.MG) (And.intro (@Den.BO) (@Den.JR))) (And.intro (@Den.Vx) (And.intro (@Den.Hk) (@Den.J7)))) (And.intro (And.intro (@Den.J8) (And.intro (@Den.Ju) (@Den.Jt))) (And.intro (And.intro (@Den.Sk) (@Den.Sj)) (And.intro (@Den.M5) (@Den.M4))))) (And.intro (And.intro (And.intro (@Den.Vu) (And.intro (@Den.Vv) (@Den.Vt))) (And.intro (And.intro (@Den.Dd) (@Den.M6)) (And.intro (@Den.xK) (@Den.Nd)))) (And.intro (And.intro (@Den.Nf) (And.intro (@Den.Ri) (@Den.Nb))) (And.intro (And.intro (@Den.Qa) (@Den.P9)) (And.intro (@Den.Na) (@Den.Uq))))))) (And.intro (And.intro (And.intro (And.intro (And.intro (@Den.Ur) (And.intro (@Den.Us) (@Den.Mq))) (And.intro (@Den.Mp) (And.intro (@Den.Mo) (@Den.Tp)))) (And.intro (And.intro (@Den.To) (And.intro (@Den.Tq) (@Den.Tr))) (And.intro (And.intro (@Den.Tj) (@Den.Tn)) (And.intro (@Den.uL) (@Den.Q3))))) (And.intro (And.intro (And.intro (@Den.Cq) (And.intro (@Den.xX) (@Den.Cr))) (And.intro (And.intro (@Den.cmp_gt) (@Den.KJ)) (And.intro (@Den.KI) (@Den.KN)))) (And.intro (And.intro (@Den.KL) (And.intro (@Den.KP) (@Den.KO))) (And.intro (And.intro (@Den.Rn) (@Den.FV)) (And.intro (@Den.Mx) (@Den.Mw)))))) (And.intro (And.intro (And.intro (And.intro (@Den.add_int) (And.intro (@Den.sub_int) (@Den.vy))) (And.intro (@Den.Hy) (And.intro (@Den.VA) (@Den.VD)))) (And.intro (And.intro (@Den.N6) (And.intro (@Den.Oc) (@Den.T6))) (And.intro (And.intro (@Den.T7) (@Den.Xg)) (And.intro (@Den.Xh) (@Den.mz))))) (And.intro (And.intro (And.intro (@Den.Mm) (And.intro (@Den.Qe) (@Den.R.iB))) (And.intro (And.intro (@Den.R.Ni) (@aag.{0})) (And.intro (@List.nil_append.{0}) (@List.length_cons.{0})))) (And.intro (And.intro (@List.length_nil.{0}) (And.intro (@aaF) (@ZH.{1}))) (And.intro (And.intro (@aaK) (@abr)) (And.intro (@Y1) (@Zk.{1})))))))
end
section
namespace bt
open Den
theorem Ct{f:D->R (Option D)}{g:D->Option D}:∀{ds:List D},(∀d∈ds,f d=.ok (g d))->da f ds=.ok (ds.filterMap g)
 |[],_=>rfl
 |d::ds,h=>by
  have C:=h d List.mem_cons_self;have J:=Ct (f:=f) (g:=g) (ds:=ds) λx ao=>h x (List.mem_cons_of_mem _ ao)
  unfold da;rw[C];simp only[R.iB];rw[J];simp only[R.iB,List.filterMap_cons];cases g d<;>rfl
theorem xD{α:Type}(p:α->Bool):∀xs:List α,iq (xs.map λx=>.aO (p x))=some (xs.map p)
 |[]=>rfl
 |x::xs=>by simp only[List.map_cons,iq,xD p xs,Option.map_some]
def Jp{α:Type}(p:α->Bool)(xs:List α):ml (xs.map λx=>.aO (p x))=.ok (xs.all p):=by
 unfold ml;rw[xD];simp only[List.all_map];rfl
def Jw{α:Type}(p:α->Bool)(xs:List α):mm (xs.map λx=>.aO (p x))=.ok (xs.any p):=by
 unfold mm;rw[xD];simp only[List.any_map];rfl
theorem DA{α:Type}{f:α->D}{g:D->aY->R eA}(I:List α->aY->Prop)(all:List α):∀(xs pre:List α)(ρ:aY),all=pre++xs->I pre ρ ->
  (∀pre x post ρ,all=pre++x::post->I pre ρ->∃bC,g (f x) ρ=.ok (.bJ bC)/\I (pre++[x]) bC)->∃bC,forL g (xs.map f) ρ=.ok (.bJ bC)/\I all bC
 |[],pre,ρ,e,h,_=>⟨ρ,rfl,by rw[e];simpa using h⟩
 |x::xs,pre,ρ,e,h,aa=>by
  obtain⟨XZ,aj,e3⟩:=aa pre x xs ρ e h;obtain⟨j0,ak,g0⟩:=DA I all xs (pre++[x]) XZ (by rw[e];simp) e3 aa;refine⟨j0,?_,g0⟩;simp only[List.map_cons,forL,aj,R.iB];exact ak
def gG{α:Type}{f:α->D}{g:D->aY->R eA}(I:List α->aY->Prop)(xs:List α)(ρ:aY)(h:I [] ρ)(aa:∀pre x post ρ,xs=pre++x::post->I pre ρ->∃bC,g (f x) ρ=.ok (.bJ bC)/\I (pre++[x]) bC):∃bC,forL g (xs.map f) ρ=.ok (.bJ bC)/\I xs bC :=
 DA I xs xs [] ρ rfl h aa
noncomputable def au(c:List Int):D:=.tup (c.map .int)
theorem ya:∀a b:List Int,kg (a.map .int) (b.map .int)=decide (a=b)
 |[],[]=>rfl
 |[],_::_=>rfl
 |_::_,[]=>rfl
 |x::a,y::b=>by
  show(x==y&&kg (a.map .int) (b.map .int))=_;rw[ya a b]
  by_cases C:x=y
  .subst C;by_cases J:a=b<;>simp[J]
  .simp[C]
def mB(a b:List Int):f5 (au a) (au b)=decide (a=b):=ya a b
theorem CT:∀a b:List (List Int),kg (a.map au) (b.map au)=decide (a=b)
 |[],[]=>rfl
 |[],_::_=>rfl
 |_::_,[]=>rfl
 |x::a,y::b=>by
  show(f5 (au x) (au y)&&kg (a.map au) (b.map au))=_;rw[mB,CT a b]
  by_cases C:x=y
  .subst C;by_cases J:a=b<;>simp[J]
  .simp[C]
noncomputable def lexLt:List Int->List Int->Bool
 |[],[]=>false
 |[],_::_=>true
 |_::_,[]=>false
 |x::xs,y::ys=>if x=y then lexLt xs ys else decide (x<y)
theorem r1:∀a b:List Int,jk (a.map .int) (b.map .int)=some (lexLt a b)
 |[],[]=>rfl
 |[],_::_=>rfl
 |_::_,[]=>rfl
 |x::a,y::b=>by
  show(if (x==y)=true then jk (a.map .int) (b.map .int) else some (decide (x<y)))=some (if x=y then lexLt a b else decide (x<y));rw[r1 a b]
  by_cases h:x=y<;>simp[h]
def n8(a b:List Int):iX (au a) (au b)=some (lexLt a b):=r1 a b
def Rv(x:Int)(xs:List Int):memD (.int x) (xs.map .int)=decide (x∈xs):=by
 unfold memD
 induction xs with
 |nil=>simp
 |cons y ys aE =>
  rw[List.map_cons,List.any_cons,aE];show(y==x||_)=_
  by_cases h:y=x
  .subst h;simp
  .have:¬x=y:=λe=>h e.symm
   simp[h,this]
def Ru(c:List Int)(cs:List (List Int)):memD (au c) (cs.map au)=decide (c∈cs):=by
 unfold memD
 induction cs with
 |nil=>simp
 |cons y ys aE =>
  simp only[List.map_cons,List.any_cons,aE,mB,Y0]
  by_cases h:y=c
  .subst h;simp
  .have:¬c=y:=λe=>h e.symm
   simp[h,this]
theorem pz:∀a:List Int,lexLt a a=false
 |[]=>rfl
 |x::a=>by simp[lexLt,pz a]
theorem rZ:∀{a b c:List Int},lexLt a b=true->lexLt b c=true->lexLt a c=true
 |[],[],_,h,_=>by simp[lexLt]at h
 |[],_::_,[],_,h=>by simp[lexLt]at h
 |[],_::_,_::_,_,_=>rfl
 |_::_,[],_,h,_=>by simp[lexLt]at h
 |_::_,_::_,[],_,h=>by simp[lexLt]at h
 |x::a,y::b,z::c,C,J=>by
  simp only[lexLt]at *
  split at C<;>split at J
  .rename_i aj ak;subst aj;subst ak;rw[if_pos rfl];exact rZ C J
  .rename_i aj ak;subst aj;rw[if_neg ak];exact J
  .rename_i aj ak;subst ak;rw[if_neg aj];exact C
  .rename_i aj ak;simp only[Zf]at C J;rw[if_neg (by omega)];simp;omega
theorem rY:∀a b:List Int,a≠b->lexLt a b=true\/lexLt b a=true
 |[],[],h=>absurd rfl h
 |[],_::_,_=>.inl rfl
 |_::_,[],_=>.inr rfl
 |x::a,y::b,h=>by
  simp only[lexLt]
  by_cases e:x=y
  .subst e;have h':a≠b:=λe=>h (by rw[e])
   simpa using rY a b h'
  .have bp:¬y=x:=λz=>e z.symm
   rw[if_neg e,if_neg bp];simp only[Zf];omega
section
variable{α:Type}
noncomputable def ins(lt:α->α->Bool)(x:α):List α->List α
 |[]=>[x]
 |y::ys=>if lt y x=true then y::ins lt x ys else x::y::ys
noncomputable def cR(lt:α->α->Bool):List α->List α
 |[]=>[]
 |x::xs=>ins lt x (cR lt xs)
noncomputable def c1[DecidableEq α]:List α->List α
 |[]=>[]
 |x::xs=>if x∈xs then c1 xs else x::c1 xs
variable{lt:α->α->Bool}
theorem EG{f:α->D}(h:∀a b,iX (f a) (f b)=some (lt a b))(x:α):∀ys:List α,pq (f x) (ys.map f)=(ins lt x ys).map f
 |[]=>rfl
 |y::ys=>by
  simp only[List.map_cons,pq,ins,h,ZP]
  split
  .simp[EG h x ys]
  .rfl
theorem kP{f:α->D}(h:∀a b,iX (f a) (f b)=some (lt a b)):∀xs:List α,hs (xs.map f)=(cR lt xs).map f
 |[]=>rfl
 |x::xs=>by simp only[List.map_cons,hs,cR,kP h xs,EG h]
theorem qO[DecidableEq α]{f:α->D}(h:∀a b,f5 (f a) (f b)=decide (a=b)):∀xs:List α,la (xs.map f)=(c1 xs).map f
 |[]=>rfl
 |x::xs=>by
  have e:(xs.map f).any (f5 (f x))=decide (x∈xs):=by
   rw[List.any_map]
   induction xs with
   |nil=>simp
   |cons y ys aE=>simp only[List.any_cons,aE,Function.comp,h,Y0];by_cases q:x=y<;>simp[q]
  simp only[List.map_cons,la,c1,e,qO h xs,Zf]
  split<;>rfl
theorem uR(x z:α):∀ys:List α,z∈ins lt x ys<->z=x\/z∈ys
 |[]=>by simp[ins]
 |y::ys=>by
  unfold ins
  split
  .simp only[Y0,uR x z ys];constructor
   .rintro(h|h|h)
    .exact .inr (.inl h)
    .exact .inl h
    .exact .inr (.inr h)
   .rintro(h|h|h)
    .exact .inr (.inl h)
    .exact .inl h
    .exact .inr (.inr h)
  .simp
theorem iY(z:α):∀xs:List α,z∈cR lt xs<->z∈xs
 |[]=>by simp[cR]
 |x::xs=>by unfold cR;rw[uR,iY z xs];simp
theorem EX(x:α):∀ys:List α,(ins lt x ys).length=ys.length+1
 |[]=>rfl
 |y::ys=>by unfold ins;split<;>simp[EX x ys]
theorem mP:∀xs:List α,(cR lt xs).length=xs.length
 |[]=>rfl
 |x::xs=>by unfold cR;rw[EX,mP xs];simp
theorem jS[DecidableEq α](z:α):∀xs:List α,z∈c1 xs<->z∈xs
 |[]=>by simp[c1]
 |x::xs=>by
  unfold c1
  split
  .rename_i h;rw[jS z xs,Y0];exact⟨.inr,λq=>q.elim (λe=>e▸h) id⟩
  .simp[jS z xs]
theorem mZ[DecidableEq α]:∀xs:List α,(c1 xs).Nodup
 |[]=>aaQ
 |x::xs=>by
  unfold c1
  split
  .exact mZ xs
  .rename_i h;exact Zi.mpr ⟨λq=>h ((jS x xs).mp q),mZ xs⟩
structure gT(lt:α->α->Bool):Prop where
 gc:∀a,lt a a=false
 fM:∀{a b c},lt a b=true->lt b c=true->lt a c=true
 conn:∀a b,a≠b->lt a b=true\/lt b a=true
noncomputable def cZ(lt:α->α->Bool)(xs:List α):Prop:=xs.Pairwise λa b=>lt a b=true
theorem BQ(L:gT lt)(x:α):∀{ys:List α},cZ lt ys->x∉ys->cZ lt (ins lt x ys)
 |[],_,_=>aan _ _
 |y::ys,h,ao=>by
  obtain⟨C,J⟩:=Zn.mp h;have rH:x≠y:=λe=>ao (by simp[e])
  unfold ins
  split
  .rename_i q;refine Zn.mpr ⟨λz hz=>?_,BQ L x J λq=>ao (List.mem_cons_of_mem _ q)⟩;rcases(uR x z ys).mp hz with e|e
   .subst e;exact q
   .exact C z e
  .rename_i q;have dq:lt x y=true:=(L.conn x y rH).resolve_right q;refine Zn.mpr ⟨λz hz=>?_,h⟩;rcases Y0.mp hz with e|e
   .subst e;exact dq
   .exact L.fM dq (C z e)
theorem ka(L:gT lt):∀{xs:List α},xs.Nodup->cZ lt (cR lt xs)
 |[],_=>List.Pairwise.nil
 |x::xs,h=>BQ L x (ka L (Zi.mp h).2) λq=>(Zi.mp h).1 ((iY x xs).mp q)
def cZ.nodup(L:gT lt){xs:List α}(h:cZ lt xs):xs.Nodup:=Z7 (λ{a b} q e=>by subst e;rw[L.gc]at q;cases q) h
theorem j9(L:gT lt):∀{xs ys:List α},cZ lt xs->cZ lt ys->(∀z,z∈xs<->z∈ys)->xs=ys
 |[],[],_,_,_=>rfl
 |[],y::_,_,_,h=>absurd ((h y).mpr List.mem_cons_self) (by simp)
 |x::_,[],_,_,h=>absurd ((h x).mp List.mem_cons_self) (by simp)
 |x::xs,y::ys,ao,aV,h=>by
  obtain⟨aP,b5⟩:=Zn.mp ao;obtain⟨qd,sR⟩:=Zn.mp aV;have e:x=y:=by
   rcases Y0.mp ((h x).mp List.mem_cons_self) with e|e
   .exact e
   .rcases Y0.mp ((h y).mpr List.mem_cons_self) with bp|bp
    .exact bp.symm
    .have a:=qd x e;have b:=aP y bp;have:=L.fM a b;rw[L.gc]at this;cases this
  subst e;have bJ:x∉xs:=λq=>by have:=aP x q;rw[L.gc]at this;cases this
  have RY:x∉ys:=λq=>by have:=qd x q;rw[L.gc]at this;cases this
  rw[j9 L b5 sR λz=>?_];constructor
  .intro hz;rcases Y0.mp ((h z).mp (List.mem_cons_of_mem _ hz)) with e|e
   .subst e;exact absurd hz bJ
   .exact e
  .intro hz;rcases Y0.mp ((h z).mpr (List.mem_cons_of_mem _ hz)) with e|e
   .subst e;exact absurd hz RY
   .exact e
def VZ(L:gT lt){xs:List α}(h:cZ lt xs):cR lt xs=xs:=j9 L (ka L (h.nodup L)) h λz=>iY z xs
theorem tx[DecidableEq α]:∀xs:List α,(c1 xs).length<=xs.length
 |[]=>Y2 _
 |x::xs=>by unfold c1;have:=tx xs;split<;>simp<;>omega
theorem hr[DecidableEq α]:∀{xs ys:List α},xs.Nodup->(∀z∈xs,z∈ys)->xs.length<=ys.length
 |[],_,_,_=>Zo _
 |x::xs,ys,h,aa=>by
  obtain⟨C,J⟩:=Zi.mp h;have ao:=aa x List.mem_cons_self;have:=hr (xs:=xs) (ys:=ys.erase x) J λz hz=>by
   have ea:z≠x:=λe=>C (e▸hz)
   exact(List.mem_erase_of_ne ea).mpr (aa z (List.mem_cons_of_mem _ hz))
  rw[abh ao]at this;have az:0<ys.length:=aas ao;simp only[List.length_cons];omega
end
def kC:gT lexLt:=⟨pz,rZ,rY⟩
noncomputable def ltI(a b:Int):Bool:=decide (a<b)
def iW:gT ltI:=⟨λa=>by simp[ltI],λC J=>by simp[ltI]at *;omega,λa b h=>by simp[ltI];omega⟩
def uO(is:List Int):(is.map D.int).all (fG 0)=true:=by simp[List.all_map,fG]
def tr{cs:List (List Int)}(aD:∀c∈cs,c≠[]):(cs.map au).all mN=true:=by
 rw[List.all_map,Zp];intro c ag;cases c with
 |nil=>exact absurd rfl (aD [] ag)
 |cons x c=>show(fG 0 (.int x)&&(c.map D.int).all (fG 0))=true;rw[uO];rfl
def VV{cs:List Int}(h:cs.length<=63):sorted (cs.map .int)=.ok (.lst ((cR ltI cs).map .int)):=by
 unfold sorted ia;rw[uO];simp[kP (f:=D.int) (lt:=ltI) λa b=>rfl,h]
def vC{cs:List (List Int)}(aD:∀c∈cs,c≠[])(h:(c1 cs).length<=63):eZ (cs.map au)=.ok (.lst ((cR lexLt (c1 cs)).map au)):=by
 unfold eZ ia;rw[tr aD,qO mB,kP (lt:=lexLt) n8];simp[h]
def Mv(a b:Int):f5 (.int a) (.int b)=decide (a=b):=Bool.beq_eq_decide_eq a b
def HJ{cs:List Int}(h:(c1 cs).length<=63):eZ (cs.map .int)=.ok (.lst ((cR ltI (c1 cs)).map .int)):=by
 unfold eZ ia;rw[uO,qO (f:=D.int) Mv,kP (f:=D.int) (lt:=ltI) λa b=>rfl];simp[h]
def CS(a b:Int):f5 (.int a) (.int b)=decide (a=b):=Bool.beq_eq_decide_eq a b
def sC(n:Nat)(i:Int):cY n (.int i)=true:=by cases n<;>rfl
def AE(n:Nat)(c:List Int):(c.map D.int).all (cY n)=true:=by simp[List.all_map,sC]
def vt(n:Nat)(c:List Int):cY (n+1) (au c)=true:=AE n c
def vu(n:Nat)(cs:List (List Int)):(cs.map au).all (cY (n+1))=true:=by simp[List.all_map,vt]
def Fv(x:Int)(c:List Int):hq (.int x) (c.map .int)=.ok (decide (x∈c)):=by
 unfold hq;rw[sC,AE,Rv];rfl
def Rw(c:List Int)(cs:List (List Int)):hq (au c) (cs.map au)=.ok (decide (c∈cs)):=by
 unfold hq;rw[vt,vu,Ru];rfl
def tF(a b:List Int):fB (au a) (au b)=.ok (decide (a=b)):=by unfold fB;rw[vt,vt,mB];rfl
def CU(a b:List Int):fB (.lst (a.map .int)) (.lst (b.map .int))=.ok (decide (a=b)):=by
 have h:∀a:List Int,cY 60 (.lst (a.map .int))=true:=λa=>AE 59 a
 unfold fB;rw[h,h];exact Z8 R.ok (ya a b)
def CV{ys:List D}(h:ys.all (cY 59)=true):fB (.lst ys) (.lst [])=.ok ys.isEmpty:=by
 have C:cY 60 (.lst ys)=true:=h;have J:cY 60 (.lst [])=true:=rfl;unfold fB;rw[C,J];cases ys<;>rfl
def CW{ys:List D}(h:ys.all (cY 59)=true):fB (.tup ys) (.tup [])=.ok ys.isEmpty:=by
 have C:cY 60 (.tup ys)=true:=h;have J:cY 60 (.tup [])=true:=rfl;unfold fB;rw[C,J];cases ys<;>rfl
section
variable{α:Type}{lt:α->α->Bool}
noncomputable def oO(lt:α->α->Bool)(xs:List α):Prop:=xs.Pairwise λa b=>lt b a=false
theorem sf(x:α):∀ys:List α,(ins lt x ys).Perm (x::ys)
 |[]=>List.Perm.refl _
 |y::ys=>by
  unfold ins
  split
  .exact(List.Perm.cons y (sf x ys)).trans (List.Perm.swap x y ys)
  .exact List.Perm.refl _
theorem vb:∀xs:List α,(cR lt xs).Perm xs
 |[]=>List.Perm.refl _
 |x::xs=>(sf x (cR lt xs)).trans (List.Perm.cons x (vb xs))
def Fd(L:gT lt){a b:α}(h:lt a b=true):lt b a=false:=by
 cases q:lt b a with
 |false=>rfl
 |true=>have:=L.fM h q;rw[L.gc]at this;cases this
def Fc(L:gT lt){a b c:α}(C:lt b a=false)(J:lt c b=false):lt c a=false:=by
 cases q:lt c a with
 |false=>rfl
 |true =>
  by_cases e:a=b
  .subst e;rw[J]at q;cases q
  .rcases L.conn a b e with w|w
   .have:=L.fM q w;rw[J]at this;cases this
   .rw[C]at w;cases w
theorem IL(L:gT lt)(x:α):∀{ys:List α},oO lt ys->oO lt (ins lt x ys)
 |[],_=>aan _ _
 |y::ys,h=>by
  obtain⟨C,J⟩:=Zn.mp h;unfold ins
  split
  .rename_i c;refine Zn.mpr ⟨λz hz=>?_,IL L x J⟩;rcases(uR x z ys).mp hz with rfl|hz
   .exact Fd L c
   .exact C z hz
  .rename_i c;refine Zn.mpr ⟨λz hz=>?_,h⟩;have c:lt y x=false:=(by simpa using c);rcases Y0.mp hz with rfl|hz
   .exact c
   .exact Fc L c (C z hz)
theorem IM(L:gT lt):∀xs:List α,oO lt (cR lt xs)
 |[]=>.nil
 |x::xs=>IL L x (IM L xs)
theorem IP(L:gT lt):∀{xs ys:List α},oO lt xs->oO lt ys->xs.Perm ys->xs=ys
 |[],ys,_,_,p=>(List.Perm.nil_eq p)
 |x::xs,[],_,_,p=>by have:=p.length_eq;simp at this
 |x::xs,y::ys,ao,aV,p=>by
  obtain⟨aP,b5⟩:=Zn.mp ao;obtain⟨qd,sR⟩:=Zn.mp aV;have e:x=y:=by
   apply Z4;intro ne;have rH:y∈xs:=by
    rcases Y0.mp (p.mem_iff.mpr List.mem_cons_self) with q|q
    .exact absurd q.symm ne
    .exact q
   have rI:x∈ys:=by
    rcases Y0.mp (p.mem_iff.mp List.mem_cons_self) with q|q
    .exact absurd q ne
    .exact q
   rcases L.conn x y ne with w|w
   .rw[qd x rI]at w;cases w
   .rw[aP y rH]at w;cases w
  subst e;rw[IP L b5 sR (List.Perm.cons_inv p)]
end
end bt
end
section
namespace gS
def xor_swap(x y a:Nat):(x ^^^ a) ^^^ y=(x ^^^ y) ^^^ a:=by rw[ZV,acF a y,<- ZV]
def XU(x y a:Nat):(x ^^^ a) ^^^ (y ^^^ a)=x ^^^ y:=by rw[xor_swap,<- ZV,ZV,aaG,aa8]
def l3(x a:Nat):(x ^^^ a) ^^^ a=x:=by rw[ZV,aaG,aa8]
noncomputable def sp:List Nat->Nat->Prop
 |[],x=>x=0
 |a::L,x=>sp L x\/sp L (x ^^^ a)
theorem sF:∀L,sp L 0
 |[]=>rfl
 |_::L=>.inl (sF L)
theorem i1:∀{L:List Nat}{x y:Nat},sp L x->sp L y->sp L (x ^^^ y)
 |[],x,y,C,J=>by cases C;cases J;rfl
 |a::L,x,y,C,J=>by
  rcases C with C|C<;>rcases J with J|J
  .exact .inl (i1 C J)
  .exact .inr (by rw[ZV];exact i1 C J)
  .exact .inr (by rw[<- xor_swap];exact i1 C J)
  .exact .inl (by rw[<- XU x y a];exact i1 C J)
theorem fY:∀{L:List Nat}{a:Nat},a∈L->sp L a
 |b::L,a,h=>by
  rcases Y0.mp h with rfl|h
  .exact .inr (by rw[aaG];exact sF L)
  .exact .inl (fY h)
theorem ht{M:List Nat}:∀{L:List Nat}{x:Nat},(∀a∈L,sp M a)->sp L x->sp M x
 |[],x,_,h=>by cases h;exact sF M
 |a::L,x,aa,h=>by
  have er:∀b∈L,sp M b:=λb ab=>aa b (List.mem_cons_of_mem _ ab)
  rcases h with h|h
  .exact ht er h
  .have:=i1 (ht er h) (aa a List.mem_cons_self);rwa[l3]at this
theorem sE{k:Nat}:∀{L:List Nat}{x:Nat},(∀a∈L,a.testBit k=false)->sp L x->x.testBit k=false
 |[],x,_,h=>by cases h;exact aa9 k
 |a::L,x,aa,h=>by
  have er:∀b∈L,b.testBit k=false:=λb ab=>aa b (List.mem_cons_of_mem _ ab)
  rcases h with h|h
  .exact sE er h
  .have:=sE er h;rwa[Z2,aa a List.mem_cons_self,acD]at this
theorem AJ{n:Nat}:∀{L:List Nat}{x:Nat},(∀a∈L,a<2 ^ n)->sp L x->x<2 ^ n
 |[],x,_,h=>by cases h;exact acy n
 |a::L,x,aa,h=>by
  have er:∀b∈L,b<2 ^ n:=λb ab=>aa b (List.mem_cons_of_mem _ ab)
  rcases h with h|h
  .exact AJ er h
  .have:=aaA (AJ er h) (aa a List.mem_cons_self);rwa[l3]at this
noncomputable abbrev Row:=Nat×Nat
noncomputable abbrev cI:=List (Nat×Row)
noncomputable def rws(B:cI):List Nat:=B.map λe=>e.2.1
noncomputable def one(r:Row)(e:Nat×Row):Row:=if r.1.testBit e.1=true then(r.1 ^^^ e.2.1,r.2 ^^^ e.2.2) else r
noncomputable def red(B:cI)(r:Row):Row:=B.foldl one r
def sm(e:Nat×Row)(B:cI)(r:Row):red (e::B) r=red B (one r e):=rfl
structure dG(B:cI):Prop where
 ap:B.Pairwise λe f=>e.2.1.testBit f.1=false/\f.2.1.testBit e.1=false
 lo:∀e∈B,e.2.1.testBit e.1=true/\∀j,j<e.1->e.2.1.testBit j=false
structure nh(B:cI):Prop where
 ap:B.Pairwise λe f=>f.2.1.testBit e.1=false
 lo:∀e∈B,e.2.1.testBit e.1=true
def nh.tail{e:Nat×Row}{B:cI}(h:nh (e::B)):nh B:=⟨(Zn.mp h.ap).2,λf hf=>h.lo f (List.mem_cons_of_mem _ hf)⟩
def dG.aj{B:cI}(h:dG B):nh B:=⟨h.ap.imp λq=>q.2,λe he=>(h.lo e he).1⟩
theorem dG.nil:dG []:=⟨.nil,λ_ h=>nomatch h⟩
def dG.tail{e:Nat×Row}{B:cI}(h:dG (e::B)):dG B:=⟨(Zn.mp h.ap).2,λf hf=>h.lo f (List.mem_cons_of_mem _ hf)⟩
theorem GI{k:Nat}:∀{B:cI}{r:Row},(∀f∈B,f.2.1.testBit k=false)->(red B r).1.testBit k=r.1.testBit k
 |[],r,_=>rfl
 |e::B,r,h=>by
  rw[sm,GI λf hf=>h f (List.mem_cons_of_mem _ hf)];unfold one
  split
  .rw[Z2,h e List.mem_cons_self,acD]
  .rfl
theorem Ao:∀{B:cI}{r:Row},nh B->∀e∈B,(red B r).1.testBit e.1=false
 |f::B,r,h,e,he=>by
  obtain⟨C,J⟩:=Zn.mp h.ap;rw[sm];rcases Y0.mp he with rfl|he
  .rw[GI λg a4=>C g a4];unfold one
   split
   .rename_i q;rw[Z2,q,h.lo e List.mem_cons_self];rfl
   .rename_i q;simpa using q
  .exact Ao h.tail e he
theorem Ap:∀{B:cI}{r:Row},sp (rws B) (r.1 ^^^ (red B r).1)
 |[],r=>aaG _
 |e::B,r=>by
  have aE:=Ap (B:=B) (r:=one r e);rw[sm];unfold one at aE ⊢
  split
  .rename_i q;rw[if_pos q]at aE;exact .inr (by rw[<- xor_swap];exact aE)
  .rename_i q;rw[if_neg q]at aE;exact .inl aE
theorem CP:∀{B:cI}{x:Nat},nh B->sp (rws B) x->(∀e∈B,x.testBit e.1=false)->x=0
 |[],x,_,h,_=>h
 |e::B,x,h,aa,ab=>by
  obtain⟨C,J⟩:=Zn.mp h.ap;rcases aa with aa|aa
  .exact CP h.tail aa λf hf=>ab f (List.mem_cons_of_mem _ hf)
  .exfalso;have:=sE (k:=e.1) (λa aB=>by obtain⟨f,hf,rfl⟩:=List.mem_map.mp aB;exact C f hf) aa;rw[Z2,ab e List.mem_cons_self,h.lo e List.mem_cons_self]at this;cases this
def T3{B:cI}{r:Row}(h:nh B):(red B r).1=0<->sp (rws B) r.1:=by
 have C:=Ap (B:=B) (r:=r);constructor
 .intro z;rwa[z,aa8]at C
 .intro z;have J:=i1 C z;rw[xor_swap,aaG,aba]at J;exact CP h J (Ao h)
def vk{B:cI}{r:Row}(h:dG B):(red B r).1=0<->sp (rws B) r.1:=T3 h.aj
theorem zL : ∀ {bH : cI} {x k : Nat}, dG bH -> sp (rws bH) x -> x.testBit k = true -> (∀ j, j < k -> x.testBit j = false) -> ∃ f ∈ bH, f.1 = k
  | [], x, k, _, h, ax, _ => by cases h; rw [aa9] at ax; cases ax
  | f :: bH, x, k, h, aa, ax, aJ => by
    obtain ⟨C, J⟩ := Zn.mp h.ap
    rcases aa with aa | aa
    · obtain ⟨g, a, b⟩ := zL h.tail aa ax aJ
      exact ⟨g, List.mem_cons_of_mem _ a, b⟩
    · have ab := sE (k := f.1) (fun a aB => by obtain ⟨g, a4, rfl⟩ := List.mem_map.mp aB; exact (C g a4).2) aa
      obtain ⟨eu, eG⟩ := h.lo f List.mem_cons_self
      rw [Z2, eu] at ab
      have ao : x.testBit f.1 = true := by cases q : x.testBit f.1 <;> rw [q] at ab <;> first | rfl | cases ab
      by_cases c : f.1 = k
      · exact ⟨f, List.mem_cons_self, c⟩
      · have bV : k < f.1 := by
          rcases abt k f.1 with q | q | q
          · exact q
          · exact absurd q.symm c
          · rw [aJ f.1 q] at ao; cases ao
        obtain ⟨g, a, b⟩ := zL h.tail aa (k := k) (by rw [Z2, ax, eG k bV]; rfl) fun j q => by rw [Z2, aJ j q, eG j (by omega)]; rfl
        exact ⟨g, List.mem_cons_of_mem _ a, b⟩
def qX{B:cI}(h:dG B):(B.map (·.1)).Nodup:=by
 rw[Za,Zu];refine Zx (λ{e f} he hf q z=>?_) h.ap;have:=(h.lo f hf).1;rw[<- z,q.2]at this;cases this
def tC{B bH:cI}(fC:dG B)(Om:dG bH)(h:∀x,sp (rws B) x->sp (rws bH) x):B.length<=bH.length:=by
 have:=bt.hr (qX fC) (ys:=bH.map (·.1)) λz hz=>by
  obtain⟨e,he,rfl⟩:=List.mem_map.mp hz;obtain⟨f,hf,q⟩:=zL Om (h _ (fY (List.mem_map.mpr ⟨e,he,rfl⟩))) (fC.lo e he).1 (fC.lo e he).2;exact List.mem_map.mpr ⟨f,hf,q⟩
 simpa using this
noncomputable def pB:Nat->Nat->Nat
 |0,_=>0
 |f+1,n=>if n%2=1 then 0 else pB f (n / 2)+1
noncomputable def lo(n:Nat):Nat:=pB n n
theorem Fh:∀(f n:Nat),0<n->n<=f->n.testBit (pB f n)=true/\(∀j,j<pB f n->n.testBit j=false)/\n-(n &&& (n-1))=2 ^ pB f n/\(n &&& (n-1))<=n
 |0,n,h,J=>by omega
 |f+1,n,h,J=>by
  rw[pB]
  by_cases c:n%2=1
  .rw[if_pos c];refine⟨by rw[abF];simp[c],λj aJ=>by omega,?_,Nat.and_le_left⟩;have aj:(n &&& (n-1)) / 2=n / 2:=(by rw[abV,show(n-1) / 2=n / 2 by omega,Nat.and_self]);have ak:(n &&& (n-1))%2=0:=by
    have:=@aaV n (n-1);rcases Y6 (n &&& (n-1)) with q|q
    .exact q
    .have:=(this.mp q).2;omega
   show n-(n &&& (n-1))=1;omega
  .rw[if_neg c];obtain⟨e3,g0,ky,rK⟩:=Fh f (n / 2) (by omega) (by omega);refine⟨by rw[abG];exact e3,λj aJ=>?_,?_,Nat.and_le_left⟩
   .cases j with
    |zero=>rw[abF];simp[c]
    |succ j=>rw[abG];exact g0 j (by omega)
   .have aj:(n &&& (n-1)) / 2=n / 2 &&& (n / 2-1):=(by rw[abV,show(n-1) / 2=n / 2-1 by omega]);have ak:(n &&& (n-1))%2=0:=by
     have:=@aaV n (n-1);rcases Y6 (n &&& (n-1)) with q|q
     .exact q
     .have:=(this.mp q).1;omega
    rw[Nat.pow_succ];rw[<- aj]at ky rK;omega
def Fg(n:Nat)(h:0<n):n.testBit (lo n)=true/\(∀j,j<lo n->n.testBit j=false)/\n-(n &&& (n-1))=2 ^ lo n/\(n &&& (n-1))<=n:=Fh n n h (Y2 _)
noncomputable def grow(B:cI)(r:Row):cI:=if (red B r).1=0 then B else B.map (λe=>(e.1,one e.2 (lo (red B r).1,red B r)))++[(lo (red B r).1,red B r)]
def rd {B : cI} (h : dG B) (r : Row) : dG (grow B r) := by
  unfold grow
  split
  · exact h
  · rename_i aA
    have ab := Ao (r := r) h.aj
    generalize red B r = l at aA ab
    obtain ⟨eu, eG, -, -⟩ := Fg l.1 (by omega)
    generalize lo l.1 = k at eu eG
    have on : ∀ (e : Nat × Row) j, (one e.2 (k, l)).1.testBit j = (e.2.1.testBit j ^^ (e.2.1.testBit k && l.1.testBit j)) := fun e j => by
      unfold one
      by_cases q : e.2.1.testBit k = true
      · rw [if_pos q, Z2, q, Bool.true_and]
      · rw [if_neg q]
        have q : e.2.1.testBit k = false := by simpa using q
        rw [q, abo, acD]
    refine ⟨List.pairwise_append.mpr ⟨?_, aan _ _, fun e he f hf => ?_⟩, fun e he => ?_⟩
    · rw [Zu]
      refine Zx (fun {e f} he hf q => ?_) h.ap
      dsimp only
      rw [on, on, q.1, q.2, ab e he, ab f hf, aaB, aaB]
      exact ⟨rfl, rfl⟩
    · obtain ⟨bp, gb, rfl⟩ := List.mem_map.mp he
      obtain rfl := Zb.mp hf
      dsimp only
      rw [on, eu, ab bp gb, aci, Bool.xor_self]
      exact ⟨rfl, rfl⟩
    · rcases Zg.mp he with he | he
      · obtain ⟨bp, gb, rfl⟩ := List.mem_map.mp he
        dsimp only
        obtain ⟨cc, b0⟩ := h.lo bp gb
        refine ⟨by rw [on, cc, ab bp gb, aaB]; rfl, fun j aJ => ?_⟩
        rw [on, b0 j aJ]
        by_cases q : bp.2.1.testBit k = true
        · have : bp.1 < k := by
            rcases abt bp.1 k with w | w | w
            · exact w
            · have := ab bp gb; rw [w, eu] at this; cases this
            · rw [b0 k w] at q; cases q
          rw [eG j (by omega), aaB]; rfl
        · have q : bp.2.1.testBit k = false := by simpa using q
          rw [q]; rfl
      · obtain rfl := Zb.mp he
        exact ⟨eu, eG⟩
def DO{B:cI}(h:dG B)(r:Row)(x:Nat):sp (rws (grow B r)) x<->sp (r.1::rws B) x:=by
 have h0:=Ap (B:=B) (r:=r);unfold grow
 split
 .rename_i z;rw[z,aa8]at h0;exact⟨.inl,ht λa aB=>by rcases Y0.mp aB with rfl|aB;exact h0;exact fY aB⟩
 .generalize red B r=l at h0;generalize lo l.1=k;have aA:∀{M:List Nat},sp M l.1->(∀e∈B,sp M (one e.2 (k,l)).1)->∀a∈rws B,sp M a:=λ{M} C J a aB=>by
   obtain⟨e,he,rfl⟩:=List.mem_map.mp aB;have:=J e he;unfold one at this
   split at this
   .have:=i1 this C;rwa[l3]at this
   .exact this
  constructor
  .refine ht λa aB=>?_
   have r5:sp (r.1::rws B) l.1:=by
    have C:sp (r.1::rws B) (r.1 ^^^ l.1):=.inl h0;have:=i1 C (fY (L:=r.1::rws B) List.mem_cons_self);rwa[xor_swap,aaG,aba]at this
   unfold rws at aB;rw[List.map_append,List.map_map]at aB;rcases Zg.mp aB with aB|aB
   .obtain⟨e,he,rfl⟩:=List.mem_map.mp aB;have Fu:sp (r.1::rws B) e.2.1:=.inl (fY (List.mem_map.mpr ⟨e,he,rfl⟩));show sp _ (one e.2 (k,l)).1;unfold one
    split
    .exact i1 Fu r5
    .exact Fu
   .obtain rfl:a=l.1:=(by simpa using aB);exact r5
  .have r5:sp (rws (B.map (λe=>(e.1,one e.2 (k,l)))++[(k,l)])) l.1:=fY (by unfold rws;simp);have Fp:=aA r5 λe he=>fY (by unfold rws;rw[List.map_append,List.map_map];exact List.mem_append_left _ (List.mem_map.mpr ⟨e,he,rfl⟩))
   refine ht λa aB=>?_
   rcases Y0.mp aB with rfl|aB
   .have:=i1 (ht Fp h0) r5;rwa[l3]at this
   .exact Fp a aB
def rf(B:cI)(r:Row):(grow B r).length=B.length+if (red B r).1=0 then 0 else 1:=by
 unfold grow
 split<;>simp
noncomputable def dT(B:cI)(rs:List Row):cI:=rs.foldl grow B
theorem iQ:∀{rs:List Row}{B:cI},dG B->dG (dT B rs)
 |[],_,h=>h
 |r::rs,_,h=>iQ (rs:=rs) (rd h r)
theorem rb:∀{rs:List Row}{B:cI},dG B->∀x,sp (rws (dT B rs)) x<->sp (rs.map (·.1)++rws B) x
 |[],_,h,x=>Iff.rfl
 |r::rs,B,h,x=>by
  show sp (rws (dT (grow B r) rs)) x<->_;rw[rb (rd h r) x];have g:=DO h r;constructor
  .refine ht λa aB=>?_
   rcases Zg.mp aB with aB|aB
   .exact fY (by rw[List.map_cons];exact List.mem_cons_of_mem _ (List.mem_append_left _ aB))
   .refine ht (λb ab=>?_) ((g a).mp (fY aB));refine fY ?_;rw[List.map_cons];rcases Y0.mp ab with rfl|ab
    .exact List.mem_cons_self
    .exact List.mem_cons_of_mem _ (Zc _ ab)
  .refine ht λa aB=>?_
   have aX:∀b,b∈r.1::rws B->sp (rs.map (·.1)++rws (grow B r)) b:=λb ab=>ht (λc ag=>fY (Zc _ ag)) ((g b).mpr (fY ab))
   rw[List.map_cons,aag]at aB;rcases Y0.mp aB with rfl|aB
   .exact aX _ List.mem_cons_self
   .rcases Zg.mp aB with aB|aB
    .exact fY (List.mem_append_left _ aB)
    .exact aX a (List.mem_cons_of_mem _ aB)
end gS
end
section
namespace gS
noncomputable def bd:List Nat->Nat->Nat
 |[],_=>0
 |a::as,z=>(if z%2=1 then a else 0) ^^^ bd as (z / 2)
def XR(a b c d:Nat):(a ^^^ b) ^^^ (c ^^^ d)=(a ^^^ c) ^^^ (b ^^^ d):=by rw[ZV,<- ZV b c d,acF b c,ZV c b d,<- ZV]
theorem mn:∀(as:List Nat)(x y:Nat),bd as (x ^^^ y)=bd as x ^^^ bd as y
 |[],_,_=>(aaG 0).symm
 |a::as,x,y=>by
  show(if (x ^^^ y)%2=1 then a else 0) ^^^ bd as ((x ^^^ y) / 2)=((if x%2=1 then a else 0) ^^^ bd as (x / 2)) ^^^ ((if y%2=1 then a else 0) ^^^ bd as (y / 2));rw[acz,mn as,XR];congr 1;have:=@abu x y
  by_cases C:x%2=1<;>by_cases J:y%2=1<;>simp[C,J,this]
theorem xy:∀(as:List Nat)(a z:Nat),bd (as++[a]) z=bd as z ^^^ (if z.testBit as.length=true then a else 0)
 |[],a,z=>by
  show(if z%2=1 then a else 0) ^^^ 0=0 ^^^ _;rw[aa8,aba,List.length_nil,abF];simp
 |b::as,a,z=>by
  show(if z%2=1 then b else 0) ^^^ bd (as++[a]) (z / 2)=((if z%2=1 then b else 0) ^^^ bd as (z / 2)) ^^^ _;rw[xy as a,List.length_cons,abG,ZV]
theorem BX:∀(as:List Nat)(z:Nat),(∀j,j<as.length->z.testBit j=false)->bd as z=0
 |[],_,_=>rfl
 |a::as,z,h=>by
  have h0:=h 0 (by simp);rw[abF]at h0;show(if z%2=1 then a else 0) ^^^ bd as (z / 2)=0;rw[if_neg (by simpa using h0),BX as (z / 2) λj aJ=>by rw[<- abG];exact h (j+1) (by simpa using aJ)];rfl
def BZ(as:List Nat)(a:Nat):bd (as++[a]) (2 ^ as.length)=a:=by
 rw[xy,BX as _ λj aJ=>by rw[abe];simp;omega,aaL,if_pos rfl,aba]
def k5(as:List Nat)(a:Nat){z:Nat}(h:z<2 ^ as.length):bd (as++[a]) z=bd as z:=by
 rw[xy,aaj h];simp
def x1{n z:Nat}(h:z<2 ^ (n+1)):(z.testBit n=false/\z<2 ^ n)\/(z.testBit n=true/\∀u,u<2 ^ (n+1)->u.testBit n=true->z ^^^ u<2 ^ n):=by
 have key:∀y,y<2 ^ (n+1)->y.testBit n=false->y<2 ^ n:=λy aV aD=>by
  refine Nat.lt_pow_two_of_testBit y λi ai=>?_
  rcases acu n i with q|q
  .exact aaj (Zj aV (ZE (by decide) q))
  .rw[show i=n by omega];exact aD
 cases q:z.testBit n with
 |false=>exact .inl ⟨rfl,key z h q⟩
 |true=>exact .inr ⟨rfl,λu bw ab=>key _ (aaA h bw) (by rw[Z2,q,ab];rfl)⟩
theorem GH{as:List Nat}:∀{B:cI}{r:Row},(∀e∈B,bd as e.2.2=e.2.1)->bd as r.2=r.1->bd as (red B r).2=(red B r).1
 |[],r,_,h=>h
 |e::B,r,fC,h=>by
  rw[sm];refine GH (λf hf=>fC f (List.mem_cons_of_mem _ hf)) ?_;unfold one
  split
  .show bd as (r.2 ^^^ e.2.2)=r.1 ^^^ e.2.1;rw[mn,h,fC e List.mem_cons_self]
  .exact h
theorem GJ{n:Nat}:∀{B:cI}{r:Row},(∀e∈B,e.2.2<2 ^ n)->∃u,u<2 ^ n/\(red B r).2=r.2 ^^^ u
 |[],r,_=>⟨0,acy n,(aa8 _).symm⟩
 |e::B,r,fC=>by
  obtain⟨u,C,J⟩:=GJ (B:=B) (r:=one r e) λf hf=>fC f (List.mem_cons_of_mem _ hf)
  rw[sm,J];unfold one
  split
  .exact⟨e.2.2 ^^^ u,aaA (fC e List.mem_cons_self) C,by rw[<- ZV]⟩
  .exact⟨u,C,rfl⟩
noncomputable def step(st:cI×List Nat)(r:Row):cI×List Nat:=(grow st.1 r,if (red st.1 r).1=0 then st.2++[(red st.1 r).2] else st.2)
noncomputable def eT(rs:List Row):cI×List Nat:=rs.foldl step ([],[])
noncomputable def ey(as:List Nat):List Row:=as.zipIdx.map λp=>(p.1,2 ^ p.2)
def RD(as:List Nat)(a:Nat):ey (as++[a])=ey as++[(a,2 ^ as.length)]:=by
 unfold ey;rw[List.zipIdx_append,List.map_append];simp
def ED(rs:List Row)(r:Row):eT (rs++[r])=step (eT rs) r:=by unfold eT;rw[List.foldl_append];rfl
noncomputable def bare(b:Nat):Row:=(b,0)
structure St(as:List Nat)(B:cI)(F:List Nat):Prop where
 tB:dG B
 oR:∀e∈B,bd as e.2.2=e.2.1/\e.2.2<2 ^ as.length
 len:B.length+F.length=as.length
 iO:∀b∈F,b<2 ^ as.length
 nul:∀b∈F,bd as b=0
 fin:(dT [] (F.map bare)).length=F.length
 uH:∀z,z<2 ^ as.length->bd as z=0->sp F z
 rM:∀z,z<2 ^ as.length->sp (rws B) (bd as z)
def vA{F:List Nat}{x:Nat}:sp (rws (dT [] (F.map bare))) x<->sp F x:=by
 rw[rb dG.nil,List.map_map];have e:F.map ((λx:Row=>x.1) ∘ bare)=F:=by
  have:((λx:Row=>x.1) ∘ bare)=id:=rfl;rw[this,abR]
 rw[e];show sp (F++[]) x<->_;rw[aaa]
def snoc_ind{P:List Nat->Prop}(h0:P [])(C:∀as a,P as->P (as++[a]))(as:List Nat):P as:=by
 have key:∀n (as:List Nat),as.length=n->P as:=by
  intro n
  induction n with
  |zero=>intro as h;rw[aaS h];exact h0
  |succ n aE =>
   intro as h;rcases List.eq_nil_or_concat as with rfl|⟨l,a,rfl⟩
   .cases h
   .rw[List.concat_eq_append]at h ⊢;exact C l a (aE l (by simpa using h))
 exact key _ as rfl
def HM (as : List Nat) : St as (eT (ey as)).1 (eT (ey as)).2 := by
  refine snoc_ind (P := fun as => St as (eT (ey as)).1 (eT (ey as)).2) ?_ ?_ as
  · show St [] [] []
    refine ⟨dG.nil, (fun _ h => nomatch h), rfl, (fun _ h => nomatch h), (fun _ h => nomatch h), rfl, fun z h _ => ?_, fun _ _ => rfl⟩
    have h : z < 1 := h
    show z = 0
    omega
  · intro as a aE
    rw [RD, ED]
    generalize (eT (ey as)) = st at aE
    obtain ⟨B, F⟩ := st
    dsimp only at aE
    unfold step
    dsimp only
    have ab : ∀ e ∈ B, bd (as ++ [a]) e.2.2 = e.2.1 := fun e he => by rw [k5 as a (aE.oR e he).2]; exact (aE.oR e he).1
    have eu := GH (r := (a, 2 ^ as.length)) ab (BZ as a)
    obtain ⟨u, bw, eG⟩ := GJ (B := B) (r := (a, 2 ^ as.length)) fun e he => (aE.oR e he).2
    have hz := vk (r := (a, 2 ^ as.length)) aE.tB
    have a4 := rf B (a, 2 ^ as.length)
    have fH : (as ++ [a]).length = as.length + 1 := by simp
    have up : ∀ {z}, z < 2 ^ as.length -> z < 2 ^ (as ++ [a]).length := fun {z} h => by rw [fH, Nat.pow_succ]; omega
    have tt : (2 : Nat) ^ as.length < 2 ^ (as ++ [a]).length := by rw [fH]; exact aa6 (by decide) (aax _)
    have n5 : (red B (a, 2 ^ as.length)).2 < 2 ^ (as ++ [a]).length := by rw [eG]; exact aaA tt (up bw)
    have rW : (red B (a, 2 ^ as.length)).2.testBit as.length = true := by
      rw [eG, Z2]
      show ((2 ^ as.length).testBit as.length ^^ u.testBit as.length) = true
      rw [aaL, aaj bw]; rfl
    have top : ∀ {z}, z < 2 ^ (as ++ [a]).length -> z.testBit as.length = true -> bd (as ++ [a]) z = bd as (z ^^^ 2 ^ as.length) ^^^ a /\ z ^^^ 2 ^ as.length < 2 ^ as.length := fun {z} h q => by
      have bV : z ^^^ 2 ^ as.length < 2 ^ as.length := by
        rcases x1 (n := as.length) (by rw [<- fH]; exact h) with ⟨w, _⟩ | ⟨_, w⟩
        · rw [q] at w; cases w
        · exact w _ (by rw [<- fH]; exact tt) (aaL)
      refine ⟨?_, bV⟩
      rw [<- k5 as a bV, mn, BZ, l3]
    have low : ∀ {z}, z < 2 ^ (as ++ [a]).length -> z.testBit as.length = false -> z < 2 ^ as.length := fun {z} h q => by
      rcases x1 (n := as.length) (by rw [<- fH]; exact h) with ⟨_, w⟩ | ⟨w, _⟩
      · exact w
      · rw [q] at w; cases w
    generalize aA : red B (a, 2 ^ as.length) = l at eu eG n5 rW hz a4
    by_cases c : l.1 = 0
    · have yY : grow B (a, 2 ^ as.length) = B := by unfold grow; rw [aA, if_pos c]
      rw [if_pos c, yY]
      refine ⟨aE.tB, fun e he => ⟨ab e he, up (aE.oR e he).2⟩, by rw [List.length_append, fH]; have := aE.len; simp; omega, fun b gJ => ?_, fun b gJ => ?_, ?_, fun z h0 C => ?_, fun z h0 => ?_⟩
      · rcases Zg.mp gJ with h | h
        · exact up (aE.iO b h)
        · rw [Zb.mp h]; exact n5
      · rcases Zg.mp gJ with h | h
        · rw [k5 as a (aE.iO b h)]; exact aE.nul b h
        · rw [Zb.mp h, eu, c]
      · rw [List.map_append]
        show (dT [] (F.map bare ++ [bare l.2])).length = _
        unfold dT
        rw [List.foldl_append]
        show (grow (dT [] (F.map bare)) (bare l.2)).length = _
        rw [rf, aE.fin, List.length_append, if_neg]
        · rfl
        · intro w
          have := AJ aE.iO (vA.mp ((vk (iQ dG.nil)).mp w))
          have this : l.2 < 2 ^ as.length := this
          rw [aaj this] at rW; cases rW
      · cases q : z.testBit as.length with
        | false =>
          have := aE.uH z (low h0 q) (by rw [<- k5 as a (low h0 q)]; exact C)
          exact ht (fun b ab => fY (List.mem_append_left _ ab)) this
        | true =>
          have J : z ^^^ l.2 < 2 ^ as.length := by
            rcases x1 (n := as.length) (by rw [<- fH]; exact h0) with ⟨w, _⟩ | ⟨_, w⟩
            · rw [q] at w; cases w
            · exact w _ (by rw [<- fH]; exact n5) rW
          have aC := aE.uH _ J (by rw [<- k5 as a J, mn, C, eu, c]; rfl)
          have aT : sp (F ++ [l.2]) (z ^^^ l.2) := ht (fun b ab => fY (List.mem_append_left _ ab)) aC
          have := i1 aT (fY (Zc F List.mem_cons_self))
          rwa [l3] at this
      · cases q : z.testBit as.length with
        | false => rw [k5 as a (low h0 q)]; exact aE.rM z (low h0 q)
        | true =>
          obtain ⟨t1, e6⟩ := top h0 q
          rw [t1]
          exact i1 (aE.rM _ e6) (hz.mp c)
    · have yY : ∀ e ∈ grow B (a, 2 ^ as.length), bd (as ++ [a]) e.2.2 = e.2.1 /\ e.2.2 < 2 ^ (as ++ [a]).length := fun e he => by
        unfold grow at he
        rw [aA, if_neg c] at he
        rcases Zg.mp he with he | he
        · obtain ⟨f, hf, rfl⟩ := List.mem_map.mp he
          dsimp only
          unfold one
          split
          · exact ⟨by rw [mn, ab f hf, eu], aaA (up (aE.oR f hf).2) n5⟩
          · exact ⟨ab f hf, up (aE.oR f hf).2⟩
        · rw [Zb.mp he]; exact ⟨eu, n5⟩
      rw [if_neg c]
      rw [if_neg c] at a4
      refine ⟨rd aE.tB _, yY, by rw [a4, fH]; have := aE.len; omega, fun b gJ => up (aE.iO b gJ), fun b gJ => by rw [k5 as a (aE.iO b gJ)]; exact aE.nul b gJ, aE.fin, fun z h0 C => ?_, fun z h0 => ?_⟩
      · cases q : z.testBit as.length with
        | false => exact aE.uH z (low h0 q) (by rw [<- k5 as a (low h0 q)]; exact C)
        | true =>
          exfalso
          obtain ⟨t1, e6⟩ := top h0 q
          rw [C] at t1
          have : bd as (z ^^^ 2 ^ as.length) = a := by
            have w : 0 ^^^ a = (bd as (z ^^^ 2 ^ as.length) ^^^ a) ^^^ a := Z8 (· ^^^ a) t1
            rw [l3, aba] at w
            exact w.symm
          exact c (hz.mpr (by have b6 := aE.rM _ e6; rw [this] at b6; exact b6))
      · rw [DO aE.tB]
        cases q : z.testBit as.length with
        | false => rw [k5 as a (low h0 q)]; exact .inl (aE.rM z (low h0 q))
        | true =>
          obtain ⟨t1, e6⟩ := top h0 q
          rw [t1]
          exact .inr (by rw [l3]; exact aE.rM _ e6)
noncomputable def tell(st:cI×List Nat)(b:Nat):cI×List Nat:=(grow st.1 (bare b),if (red st.1 (bare b)).1=0 then st.2 else st.2++[b])
theorem Ic:∀(F:List Nat)(B:cI)(G:List Nat),(F.foldl tell (B,G)).2.length+B.length=(dT B (F.map bare)).length+G.length
 |[],B,G=>Nat.add_comm _ _
 |b::F,B,G=>by
  show(F.foldl tell (tell (B,G) b)).2.length+B.length=(dT (grow B (bare b)) (F.map bare)).length+G.length;have h:=Ic F (grow B (bare b)) (if (red B (bare b)).1=0 then G else G++[b]);have J:=rf B (bare b);have ME:tell (B,G) b=(grow B (bare b),if (red B (bare b)).1=0 then G else G++[b]):=rfl;rw[ME]
  by_cases c:(red B (bare b)).1=0
  .rw[if_pos c]at h J ⊢;omega
  .rw[if_neg c]at h J ⊢;rw[List.length_append]at h;simp at h;omega
def Ul(as:List Nat)(rs:List Row)(h:∀r∈rs,r.1<2 ^ as.length/\bd as r.1=0):
  ((eT (ey as)).2.foldl tell (dT [] rs,[])).2.length+(dT [] rs).length=(eT (ey as)).2.length:=by
 have st:=HM as;generalize (eT (ey as)).2=F at st;rw[Ic];have aj:=iQ (rs:=rs) dG.nil;have ak:=iQ (rs:=F.map bare) aj;have bu:=iQ (rs:=F.map bare) dG.nil;have s1:∀x,sp (rws (dT (dT [] rs) (F.map bare))) x<->sp F x:=λx=>by
  rw[rb aj,List.map_map,show F.map ((λx:Row=>x.1) ∘ bare)=F from abR F];refine⟨ht λa aB=>?_,ht λa aB=>fY (List.mem_append_left _ aB)⟩;rcases Zg.mp aB with aB|aB
  .exact fY aB
  .have:=(rb (rs:=rs) dG.nil a).mp (fY aB);refine ht (λb ab=>?_) this;rw[show rws []=[] from rfl,aaa]at ab;obtain⟨r,a9,rfl⟩:=List.mem_map.mp ab;exact st.uH _ (h r a9).1 (h r a9).2
 have e3:=tC ak bu λx ao=>vA.mpr ((s1 x).mp ao)
 have g0:=tC bu ak λx ao=>(s1 x).mpr (vA.mp ao)
 have:=st.fin;simp only[List.length_nil];omega
end gS
end
section
namespace gS
def Bk:∀x y:Nat,(x ^^^ y)+2*(x &&& y)=x+y:=by
 intro x
 induction x using Nat.strongRecOn with
 |ind x aE =>
  intro y
  by_cases h:x=0
  .subst h;simp
  .have C:=aE (x / 2) (by omega) (y / 2);have aj:(x ^^^ y) / 2=x / 2 ^^^ y / 2:=acz;have ak:(x &&& y) / 2=x / 2 &&& y / 2:=abV;have bu:(x ^^^ y)%2=(x%2+y%2)%2:=by
    have:=@abu x y;rcases Y6 x with a|a<;>rcases Y6 y with b|b<;>rcases Y6 (x ^^^ y) with c|c<;>simp[a,b,c]at this ⊢
   have eR:(x &&& y)%2=(x%2)*(y%2):=by
    have:=@aaV x y;rcases Y6 x with a|a<;>rcases Y6 y with b|b<;>rcases Y6 (x &&& y) with c|c<;>simp[a,b,c]at this ⊢
   rw[<- aj,<- ak]at C;revert C bu eR;generalize x ^^^ y=p;generalize x &&& y=q;intro C bu eR;rcases Y6 x with a|a<;>rcases Y6 y with b|b<;>rw[a,b]at bu eR<;>omega
noncomputable def e7:List Nat->Nat
 |[]=>0
 |a::as=>a ^^^ e7 as
theorem v8(j:Nat):∀L:List Nat,(e7 L).testBit j=decide ((L.countP λa=>a.testBit j)%2=1)
 |[]=>by simp[e7]
 |a::L=>by
  rw[e7,Z2,v8 j L,abH];cases a.testBit j with
  |false=>simp
  |true =>
   simp only[ZH,Bool.true_xor];rcases Y6 (L.countP λa=>a.testBit j) with h|h
   .rw[h,show(List.countP (λa=>a.testBit j) L+1)%2=1 by omega];rfl
   .rw[h,show(List.countP (λa=>a.testBit j) L+1)%2=0 by omega];rfl
theorem xA:∀as:List Nat,bd as 0=0
 |[]=>rfl
 |a::as=>by show(if 0%2=1 then a else 0) ^^^ bd as (0 / 2)=0;rw[if_neg (by decide),Nat.zero_div,xA as];rfl
theorem BY:∀(as:List Nat)(j:Nat),bd as (2 ^ j)=as.getD j 0
 |[],j=>by simp[bd]
 |a::as,0=>by
  show(if 1%2=1 then a else 0) ^^^ bd as (1 / 2)=a;rw[if_pos (by decide),show 1 / 2=0 by decide,xA,aa8]
 |a::as,j+1=>by
  show(if 2 ^ (j+1)%2=1 then a else 0) ^^^ bd as (2 ^ (j+1) / 2)=(a::as).getD (j+1) 0;have C:2 ^ (j+1)%2=0:=(by rw[Nat.pow_succ];omega);have J:2 ^ (j+1) / 2=2 ^ j:=(by rw[Nat.pow_succ];omega);rw[if_neg (by omega),J,BY as j,aba];rfl
theorem B0(as:List Nat):∀L:List Nat,bd as (e7 L)=e7 (L.map (bd as))
 |[]=>xA as
 |a::L=>by rw[e7,mn,B0 as L,List.map_cons,e7]
section
variable{α:Type}[DecidableEq α]
noncomputable abbrev cP(U:List α)(x:α):Nat:=U.idxOf x
def uF{U:List α}{x:α}(h:x∈U):cP U x<U.length:=ZD h
def EO{U:List α}(d3:U.Nodup){i:Nat}(h:i<U.length):cP U U[i]=i:=d3.idxOf_getElem i h
noncomputable def dh(U xs:List α):Nat:=e7 (xs.map λx=>2 ^ cP U x)
def uU{U:List α}(j:Nat)(aJ:j<U.length){xs:List α}(ao:xs.Nodup)(d3:U.Nodup):(dh U xs).testBit j=decide (U[j]∈xs):=by
 unfold dh;rw[v8,abi];have e:xs.countP ((λa=>a.testBit j) ∘ λx=>2 ^ U.idxOf x)=xs.countP λx=>x==U[j]:=by
  refine aa5 λx ao=>?_
  simp only[Function.comp,abe,Zf,ZL];constructor
  .intro h;have:U[U.idxOf x]'(by omega)=x:=Z1 (by omega);rw[<- this];congr 1
  .intro h;rw[h];exact d3.idxOf_getElem j aJ
 have KQ:∀{xs:List α}(y:α),xs.Nodup->xs.countP (λx=>x==y)=if y∈xs then 1 else 0:=λ{xs} y=>by
  induction xs with
  |nil=>intro _;rfl
  |cons x xs aE =>
   intro aD;obtain⟨fH,eH⟩:=Zi.mp aD;rw[abH,aE eH]
   by_cases q:x=y
   .subst q;simp[fH]
   .simp[q,Z6 q]
 rw[e,KQ _ ao]
 by_cases h:U[j]∈xs
 .rw[if_pos h,decide_eq_true h];rfl
 .rw[if_neg h,decide_eq_false h];rfl
theorem zU{U:List α}:∀{xs:List α},(∀x∈xs,x∈U)->dh U xs<2 ^ U.length
 |[],_=>acy _
 |x::xs,h=>by
  show 2 ^ U.idxOf x ^^^ dh U xs<2 ^ U.length;refine aaA (aa6 (by decide) (ZD (h x List.mem_cons_self))) (zU λy aV=>h y (List.mem_cons_of_mem _ aV))
theorem FA{U:List α}(d3:U.Nodup):∀{xs:List α},xs.Nodup->(∀x∈xs,x∈U)->(xs.map λx=>((2 ^ cP U x:Nat):Int)).sum=(dh U xs:Int)
 |[],_,_=>rfl
 |x::xs,ao,h=>by
  obtain⟨C,J⟩:=Zi.mp ao;have PS:=h x List.mem_cons_self;have bV:=ZD PS;rw[List.map_cons,List.sum_cons,FA d3 J λy aV=>h y (List.mem_cons_of_mem _ aV)];show _=((2 ^ cP U x ^^^ dh U xs:Nat):Int);have ab:(dh U xs).testBit (cP U x)=false:=(by rw[uU _ bV J d3,Z1 bV,decide_eq_false C]);have aB:2 ^ cP U x &&& dh U xs=0:=by
   apply abS;intro i;rw[acA,abe,aa9]
   by_cases q:cP U x=i
   .rw[<- q,ab];simp
   .simp[q]
  have:=Bk (2 ^ cP U x) (dh U xs);rw[aB]at this;omega
def qE{U:List α}{h:α->Nat}{c:List α}(ag:∀x∈c,x∈U):bd (U.map h) (dh U c)=e7 (c.map h):=by
 show bd _ (e7 (c.map λx=>2 ^ cP U x))=_;rw[B0,List.map_map];refine Z8 e7 (Zw λx ao=>?_);have bV:=ZD (ag x ao);show bd _ (2 ^ U.idxOf x)=_;rw[BY,List.getD,Ze,Y3 bV,Z1 bV];rfl
def XP{V:List α}{sd:α->List α}{c:List α}(yJ:V.Nodup)(aa:∀x∈c,(sd x).Nodup){j:Nat}(aJ:j<V.length):(e7 (c.map λx=>dh V (sd x))).testBit j=decide ((c.countP λx=>decide (V[j]∈sd x))%2=1):=by
 rw[v8,abi];have ak:c.countP ((λa=>a.testBit j) ∘ λx=>dh V (sd x))=c.countP λx=>decide (V[j]∈sd x):=by
  refine aa5 λx ao=>?_
  show(dh V (sd x)).testBit j=true<->_;rw[uU j aJ (aa x ao) yJ]
 rw[ak]
def GO{U V:List α}{sd:α->List α}{c:List α}(yJ:V.Nodup)(ag:∀x∈c,x∈U)(aa:∀x∈c,(sd x).Nodup/\∀y∈sd x,y∈V)(J:∀y,(c.countP λx=>decide (y∈sd x))%2=0):
  bd (U.map λx=>dh V (sd x)) (dh U c)=0:=by
 rw[qE ag];apply abS;intro j;rw[aa9]
 by_cases aJ:j<V.length
 .rw[XP yJ (λx ao=>(aa x ao).1) aJ,J];rfl
 .rw[v8,abi];have ak:c.countP ((λa=>a.testBit j) ∘ λx=>dh V (sd x))=0:=by
   rw[abX];intro x ao;show ¬(dh V (sd x)).testBit j=true;rw[aaj (Zj (zU (aa x ao).2) (ZE (by decide) (ack aJ)))];simp
  rw[ak];rfl
def RG{U xs:List α}(d3:U.Nodup)(ao:xs.Nodup){x:α}(h:x∈xs)(bw:x∈U):¬(dh U xs).testBit (cP U x)=false:=λz=>by
 have bV:=ZD bw;have:=uU _ bV ao d3;rw[z,Z1 bV]at this;exact of_decide_eq_false this.symm h
def RH{U xs:List α}(d3:U.Nodup)(ao:xs.Nodup){x:α}(h:x∉xs)(bw:x∈U):(dh U xs).testBit (cP U x)=false:=by
 have bV:=ZD bw;have:=uU _ bV ao d3;rw[this,Z1 bV];exact decide_eq_false h
end
end gS
end
section
namespace gS
noncomputable def gv(as:List Nat):Nat:=(dT [] (as.map bare)).length
def xx(L:List Nat):(L.map bare).map (λx:Row=>x.1)=L:=by rw[List.map_map];exact abR L
def DM{rs fW:List Row}(h:∀x,sp (rs.map (·.1)) x<->sp (fW.map (·.1)) x):(dT [] rs).length=(dT [] fW).length:=by
 have e:∀(rs:List Row) x,sp (rws (dT [] rs)) x<->sp (rs.map (·.1)) x:=λrs x=>by
  rw[rb dG.nil,show rws []=[] from rfl,aaa]
 have e3:=tC (iQ (rs:=rs) dG.nil) (iQ (rs:=fW) dG.nil) λx ao=>(e fW x).mpr ((h x).mp ((e rs x).mp ao))
 have g0:=tC (iQ (rs:=fW) dG.nil) (iQ (rs:=rs) dG.nil) λx ao=>(e rs x).mpr ((h x).mpr ((e fW x).mp ao))
 omega
def Uj(rs:List Row):(dT [] rs).length=gv (rs.map (·.1)):=DM λx=>by rw[xx]
def Uh{as bs:List Nat}(h:∀x,sp as x<->sp bs x):gv as=gv bs:=DM λx=>by rw[xx,xx];exact h x
def GV{as bs:List Nat}(h:∀x,x∈as<->x∈bs):gv as=gv bs:=Uh λ_=>⟨ht λa aB=>fY ((h a).mp aB),ht λa aB=>fY ((h a).mpr aB)⟩
def vn(as:List Nat)(a:Nat):(sp as a->gv (as++[a])=gv as)/\(¬sp as a->gv (as++[a])=gv as+1):=by
 have e:dT [] ((as++[a]).map bare)=grow (dT [] (as.map bare)) (bare a):=by unfold dT;rw[List.map_append,List.foldl_append];rfl
 have z:=vk (B:=dT [] (as.map bare)) (r:=bare a) (iQ dG.nil);have z:(red (dT [] (as.map bare)) (bare a)).1=0<->sp as a:=z.trans vA;unfold gv;rw[e,rf];exact⟨λh=>by rw[if_pos (z.mpr h)];rfl,λh=>by rw[if_neg λq=>h (z.mp q)]⟩
noncomputable def wq(ek:Nat->Nat):Prop:=∀x y,ek (x ^^^ y)=ek x ^^^ ek y
theorem vB{ek:Nat->Nat}(h:wq ek):∀{L:List Nat}{x:Nat},sp L x->sp (L.map ek) (ek x)
 |[],x,e=>by
  cases e;have:=h 0 0;rw[aaG,aaG]at this;exact this
 |a::L,x,e=>e.elim (λe=>.inl (vB h e)) λe=>.inr (by rw[<- h];exact vB h e)
def Ui{ek ψ:Nat->Nat}(C:wq ek)(J:wq ψ):∀as:List Nat,(∀a∈as,ψ (ek a)=a)->gv (as.map ek)=gv as:=by
 intro as;refine snoc_ind (P:=λas=>(∀a∈as,ψ (ek a)=a)->gv (as.map ek)=gv as) (λ_=>rfl) (λas a aE ab=>?_) as;have aE:=aE λb q=>ab b (List.mem_append_left _ q)
 rw[List.map_append,abk];obtain⟨eu,eG⟩:=vn as a;obtain⟨aG,aZ⟩:=vn (as.map ek) (ek a)
 by_cases q:sp as a
 .rw[eu q,aG (vB C q),aE]
 .rw[eG q,aZ λz=>q ?_,aE];have:=vB J z;rw[List.map_map,ab a (by simp),show as.map (ψ ∘ ek)=as from(Zw λb q=>ab b (List.mem_append_left _ q)).trans (abR as)]at this;exact this
def XQ{as bs:List Nat}(h:as.Perm bs):e7 as=e7 bs:=by
 induction h with
 |nil=>rfl
 |cons a _ aE=>rw[e7,e7,aE]
 |swap a b L=>rw[e7,e7,e7,e7,<- ZV,<- ZV,acF b a]
 |trans _ _ C J=>exact C.trans J
theorem IX{M:List Nat}:∀{L:List Nat},(∀a∈L,sp M a)->sp M (e7 L)
 |[],_=>sF M
 |a::L,h=>i1 (h a List.mem_cons_self) (IX λb q=>h b (List.mem_cons_of_mem _ q))
def Ug{α β l5:Type}[DecidableEq α][DecidableEq β]{U:List l5}{V:List α}{V':List β}{sd:l5->List α}(f:α->β)(g:β->α)(h:∀c∈U,∀y∈sd c,y∈V/\f y∈V'/\g (f y)=y):gv (U.map λc=>dh V' ((sd c).map f))=gv (U.map λc=>dh V (sd c)):=by
 have e:(U.map λc=>dh V' ((sd c).map f))=(U.map λc=>dh V (sd c)).map (bd (V.map λy=>2 ^ cP V' (f y))):=by
  rw[List.map_map];refine Zw λc ag=>?_
  show _=bd _ (dh V (sd c));rw[qE λy aV=>(h c ag y aV).1];unfold dh;rw[List.map_map];rfl
 rw[e];refine Ui (ψ:=bd (V'.map λz=>2 ^ cP V (g z))) (mn _) (mn _) _ λa aB=>?_
 obtain⟨c,ag,rfl⟩:=List.mem_map.mp aB;rw[qE λy aV=>(h c ag y aV).1];have ak:e7 ((sd c).map λy=>2 ^ cP V' (f y))=dh V' ((sd c).map f):=by unfold dh;rw[List.map_map];rfl
 rw[ak,qE λz hz=>by obtain⟨y,aV,rfl⟩:=List.mem_map.mp hz;exact(h c ag y aV).2.1,List.map_map];unfold dh;exact Z8 e7 (Zw λy aV=>by show 2 ^ cP V (g (f y))=_;rw[(h c ag y aV).2.2])
end gS
end
section
namespace f3
open PySem PySem.SetTable
noncomputable def md(xs:Array Nat):Prop:=∀(i j a b:Nat),i<j->xs[i]?=some a->xs[j]?=some b->a<b
noncomputable def wt(xs:Array Nat)(j p:Nat):Prop:=∀(q a:Nat),q<p->xs[q]?=some a->a<j
noncomputable def wh(xs:Array Nat)(j p:Nat):Prop:=∀(q a:Nat),p<=q->xs[q]?=some a->j<=a
theorem yB{xs:Array Nat}(a9:md xs)(j:Nat):∀(fuel lo ai:Nat),ai-lo<=fuel->lo<=ai->ai<=xs.size->wt xs j lo->wh xs j ai ->
  below.go xs j fuel lo ai<=xs.size/\wt xs j (below.go xs j fuel lo ai)/\wh xs j (below.go xs j fuel lo ai)
 |0,lo,ai,C,J,aC,aA,dc=>by
  have e:lo=ai:=(by omega);subst e;exact⟨aC,aA,dc⟩
 |fuel+1,lo,ai,C,J,aC,aA,dc=>by
  unfold below.go
  by_cases bV:lo<ai
  .rw[if_pos bV];have hm:(lo+ai) / 2<xs.size:=(by omega);have a4:xs[(lo+ai) / 2]?=some xs[(lo+ai) / 2]:=Y8 hm;have hd:xs.getD ((lo+ai) / 2) j=xs[(lo+ai) / 2]:=(by simp[Array.getD,hm]);simp only[hd]
   by_cases ag:xs[(lo+ai) / 2]<j
   .rw[if_pos ag];refine yB a9 j fuel _ _ (by omega) (by omega) aC ?_ dc;intro q a aL aB
    by_cases e:q=(lo+ai) / 2
    .subst e;rw[a4]at aB;cases aB;exact ag
    .have:=a9 q ((lo+ai) / 2) a _ (by omega) aB a4;omega
   .rw[if_neg ag];refine yB a9 j fuel _ _ (by omega) (by omega) (by omega) aA ?_;intro q a aL aB
    by_cases e:q=(lo+ai) / 2
    .subst e;rw[a4]at aB;cases aB;omega
    .have:=a9 ((lo+ai) / 2) q _ a (by omega) a4 aB;omega
  .rw[if_neg bV];have e:lo=ai:=(by omega);subst e;exact⟨aC,aA,dc⟩
def xB{xs:Array Nat}(a9:md xs)(j:Nat):below xs j<=xs.size/\wt xs j (below xs j)/\wh xs j (below xs j):=by
 unfold below;refine yB a9 j _ _ _ (by omega) (by omega) (by omega) (λq a aL _=>by omega) (λq a aL aB=>?_);have:=(ZF.mp aB).1;omega
def below_at{xs:Array Nat}(a9:md xs){i j:Nat}(h:xs[i]?=some j):below xs j=i:=by
 obtain⟨C,J,aC⟩:=xB a9 j
 by_cases c9:i<below xs j
 .exact absurd (J i j c9 h) (aau _)
 .by_cases cv:below xs j=i
  .exact cv
  .have ai:=(ZF.mp h).1;have a4:xs[below xs j]?=some (xs[below xs j]'(by omega)):=Y8 (by omega);have a:=aC _ _ (Y2 _) a4;have b:=a9 (below xs j) i _ _ (by omega) a4 h;omega
def oz{t:SetTable}(a9:md t.place){i j:Nat}(h:t.place[i]?=some j):t.slot j=.live i:=by
 unfold slot;rw[below_at a9 h];simp[h]
def VS{t:SetTable}(hd:t.dummies=#[]){j:Nat}(h:∀i:Nat,t.place[i]?≠some j):t.slot j=.empty:=by
 unfold slot has;have h0:(t.place[below t.place j]?==some j)=false:=by
  rw[Zs];exact h _
 simp only[h0,hd];simp
noncomputable def il(m:Nat)(p:Probe):Probe :=
 if p.more>0 then { p with j:=p.j+1,more:=p.more-1 } else
 { p with j:=(leap m p.i p.perturb).1,more:=runEnd m (leap m p.i p.perturb).1-(leap m p.i p.perturb).1,i:=(leap m p.i p.perturb).1,perturb:=(leap m p.i p.perturb).2 }
def Jn(t:SetTable)(p:Probe):t.advance p=il t.mask p:=rfl
noncomputable def Qb(m:Nat)(h:Int):Probe:={ j:=bits h%(m+1),more:=runEnd m (bits h%(m+1))-bits h%(m+1),i:=bits h%(m+1),perturb:=bits h,dummy:=none }
noncomputable def pr(m:Nat)(h:Int):Nat->Probe
 |0=>Qb m h
 |n+1=>il m (pr m h n)
noncomputable def cL(m:Nat)(h:Int)(n:Nat):Nat:=(pr m h n).j
theorem Gn(m:Nat)(h:Int):∀n,(pr m h n).dummy=none
 |0=>rfl
 |n+1=>by
  have aE:=Gn m h n;show(il m (pr m h n)).dummy=none;unfold il
  split<;>exact aE
def vo{m i:Nat}(h:i<=m):runEnd m i<=m/\i<=runEnd m i/\runEnd m i<=i+9:=by
 unfold runEnd;split<;>omega
def EV(m i p:Nat):(leap m i p).1<=m:=by
 unfold leap;have:(i*5+1+p / 32)%(m+1)<m+1:=acE _ (by omega);show(i*5+1+p / 32)%(m+1)<=m;omega
theorem Gp(m:Nat)(h:Int):∀n,(pr m h n).j+(pr m h n).more<=m
 |0=>by
  have:bits h%(m+1)<m+1:=acE _ (by omega);have:=vo (m:=m) (i:=bits h%(m+1)) (by omega);show bits h%(m+1)+(runEnd m (bits h%(m+1))-bits h%(m+1))<=m;omega
 |n+1=>by
  have aE:=Gp m h n;show(il m (pr m h n)).j+(il m (pr m h n)).more<=m;unfold il
  split
  .show(pr m h n).j+1+((pr m h n).more-1)<=m;omega
  .have:=EV m (pr m h n).i (pr m h n).perturb;have:=vo this;show(leap m (pr m h n).i (pr m h n).perturb).1+(runEnd m (leap m (pr m h n).i (pr m h n).perturb).1-(leap m (pr m h n).i (pr m h n).perturb).1)<=m;omega
def AK(m:Nat)(h:Int)(n:Nat):cL m h n<=m:=by have:=Gp m h n;unfold cL;omega
noncomputable def run(m:Nat)(h:Int):Nat->Nat×Nat
 |0=>(bits h%(m+1),bits h)
 |r+1=>leap m (run m h r).1 (run m h r).2
def Ax(m:Nat)(h:Int):∀r,(run m h r).1<=m
 |0=>by have:bits h%(m+1)<m+1:=acE _ (by omega);show bits h%(m+1)<=m;omega
 |r+1=>EV _ _ _
noncomputable def st(m:Nat)(h:Int)(r d:Nat):Probe:={ j:=(run m h r).1+d,more:=runEnd m (run m h r).1-(run m h r).1-d,i:=(run m h r).1,perturb:=(run m h r).2,dummy:=none }
noncomputable def len(m:Nat)(h:Int)(r:Nat):Nat:=runEnd m (run m h r).1-(run m h r).1
def Q2(m:Nat)(h:Int)(r:Nat):len m h r<=9:=by have:=vo (Ax m h r);unfold len;omega
def BE{m:Nat}{h:Int}{r d:Nat}(hd:d<len m h r):il m (st m h r d)=st m h r (d+1):=by
 unfold il;have:(st m h r d).more>0:=by show runEnd m (run m h r).1-(run m h r).1-d>0;unfold len at hd;omega
 rw[if_pos this];show Probe.mk _ _ _ _ _=Probe.mk _ _ _ _ _;congr 1
def Jo{m:Nat}{h:Int}{r:Nat}:il m (st m h r (len m h r))=st m h (r+1) 0:=by
 unfold il;have:¬(st m h r (len m h r)).more>0:=by show ¬(runEnd m (run m h r).1-(run m h r).1-len m h r>0);unfold len;omega
 rw[if_neg this];rfl
theorem wO(m:Nat)(h:Int):∀r:Nat,∃n,n<=10*r/\pr m h n=st m h r 0/\∀k,k<n->∃bX d',bX<r/\d'<=len m h bX/\pr m h k=st m h bX d'
 |0=>⟨0,Y2 _,rfl,λk ax=>absurd ax (Nat.not_lt_zero k)⟩
 |r+1=>by
  obtain⟨n,aD,e,ax⟩:=wO m h r;have walk:∀d,d<=len m h r->pr m h (n+d)=st m h r d:=by
   intro d
   induction d with
   |zero=>intro _;exact e
   |succ d aE =>
    intro hd;show il m (pr m h (n+d))=_;rw[aE (by omega)];exact BE (by omega)
  have aA:=Q2 m h r;refine⟨n+len m h r+1,by omega,?_,λk gq=>?_⟩
  .show il m (pr m h (n+len m h r))=_;rw[walk _ (Y2 _)];exact Jo
  .by_cases c:k<n
   .obtain⟨bX,d',a,b,c⟩:=ax k c;exact⟨bX,d',by omega,b,c⟩
   .refine⟨r,k-n,by omega,by omega,?_⟩;have:=walk (k-n) (by omega);rw[show n+(k-n)=k by omega]at this;exact this
def JX(m:Nat)(h:Int)(r d:Nat)(hd:d<=len m h r):∃n,n<=10*r+d/\pr m h n=st m h r d/\∀k,k<n->∃bX d',d'<=len m h bX/\(bX<r\/(bX=r/\d'<d))/\pr m h k=st m h bX d':=by
 obtain⟨n,aD,e,ax⟩:=wO m h r;have walk:∀d,d<=len m h r->pr m h (n+d)=st m h r d:=by
  intro d
  induction d with
  |zero=>intro _;exact e
  |succ d aE =>
   intro hd;show il m (pr m h (n+d))=_;rw[aE (by omega)];exact BE (by omega)
 refine⟨n+d,by omega,walk d hd,λk gq=>?_⟩
 by_cases c:k<n
 .obtain⟨bX,d',a,b,c⟩:=ax k c;exact⟨bX,d',b,.inl a,c⟩
 .refine⟨r,k-n,by omega,.inr ⟨rfl,by omega⟩,?_⟩;have:=walk (k-n) (by omega);rw[show n+(k-n)=k by omega]at this;exact this
def Kb(h:Int):bits h<2 ^ 64:=by
 unfold bits;have C:=Int.emod_nonneg h (show(2 ^ 64:Int)≠0 by decide);have J:=Int.emod_lt_of_pos h (show(0:Int)<2 ^ 64 by decide);have e:((2:Int) ^ 64)=18446744073709551616:=by decide
 rw[e]at C J ⊢;omega
theorem Gg(m:Nat)(h:Int):∀r,(run m h r).2=bits h / 32 ^ r
 |0=>by simp[run]
 |r+1=>by
  show(run m h r).2 / 32=_;rw[Gg m h r,Nat.div_div_eq_div_mul,Nat.pow_succ]
def S0(m:Nat)(h:Int)(r:Nat)(a9:13<=r):(run m h r).2=0:=by
 rw[Gg];refine Nat.div_eq_of_lt (Zj (Kb h) (ZX (show 2 ^ 64<=32 ^ 13 by decide) (ZE (by decide) a9)))
noncomputable def g8(m:Nat):Nat->Nat->Nat
 |0,i=>i
 |n+1,i=>(g8 m n i*5+1)%(m+1)
theorem G2(m:Nat)(h:Int):∀n,(run m h (13+n)).1=g8 m n (run m h 13).1
 |0=>rfl
 |n+1=>by
  show(leap m (run m h (13+n)).1 (run m h (13+n)).2).1=_;rw[G2 m h n,S0 m h (13+n) (by omega)];rfl
noncomputable def u6(m:Nat):Nat->Nat->List Nat
 |0,_=>[]
 |n+1,i=>i::u6 m n ((i*5+1)%(m+1))
theorem F5(m:Nat):∀n i,g8 m n ((i*5+1)%(m+1))=g8 m (n+1) i
 |0,i=>rfl
 |n+1,i=>by
  show(g8 m n ((i*5+1)%(m+1))*5+1)%(m+1)=(g8 m (n+1) i*5+1)%(m+1);rw[F5 m n i]
theorem u7(m:Nat):∀a b i,g8 m (a+b) i=g8 m b (g8 m a i)
 |a,0,i=>rfl
 |a,b+1,i=>by
  show(g8 m (a+b) i*5+1)%(m+1)=_;rw[u7 m a b i];rfl
theorem Fw(m:Nat):∀n i j,j∈u6 m n i->∃k,k<n/\g8 m k i=j
 |0,i,j,h=>by simp[u6]at h
 |n+1,i,j,h=>by
  rcases Y0.mp h with e|h
  .exact⟨0,by omega,e.symm⟩
  .obtain⟨k,ax,e⟩:=Fw m n _ j h;exact⟨k+1,by omega,by rw[<- F5];exact e⟩
noncomputable def gU(m:Nat):Prop:=m=7\/m=31\/m=127\/m=511
noncomputable def qK(m:Nat):Bool:=(List.range (m+1)).all λj=>(u6 m (m+1) 0).contains j
def K3:qK 7=true:=by decide +kernel
def K1:qK 31=true:=by decide +kernel
def K0:qK 127=true:=by decide +kernel
def K2:qK 511=true:=by decide +kernel
def SU:g8 511 512 0=0:=by decide +kernel
def SV:g8 7 8 0=0:=by decide +kernel
def SS:g8 31 32 0=0:=by decide +kernel
def SR:g8 127 128 0=0:=by decide +kernel
def gU.hK{m:Nat}(h:gU m):qK m=true/\g8 m (m+1) 0=0:=by
 rcases h with rfl|rfl|rfl|rfl
 .exact⟨K3,SV⟩
 .exact⟨K1,SS⟩
 .exact⟨K0,SR⟩
 .exact⟨K2,SU⟩
def gU.GD{m:Nat}(h:gU m){j:Nat}(aJ:j<=m):∃k,k<m+1/\g8 m k 0=j:=by
 have:=Zp.mp h.hK.1 j (List.mem_range.mpr (by omega));exact Fw m (m+1) 0 j (by simpa using this)
def gU.reach{m:Nat}(h:gU m){i j:Nat}(ai:i<=m)(aJ:j<=m):∃k,k<m+1/\g8 m k i=j:=by
 obtain⟨a,aB,eL⟩:=h.GD ai;obtain⟨b,ab,eV⟩:=h.GD aJ
 by_cases c:a<=b
 .refine⟨b-a,by omega,?_⟩;rw[<- eL,<- u7,show a+(b-a)=b by omega];exact eV
 .refine⟨m+1-a+b,by omega,?_⟩;rw[<- eL,<- u7,show a+(m+1-a+b)=(m+1)+b by omega,u7,h.hK.2];exact eV
def gU.met{m:Nat}(hm:gU m)(h:Int){j:Nat}(aJ:j<=m):∃r,r<m+14/\(run m h r).1=j:=by
 obtain⟨k,ax,e⟩:=hm.reach (Ax m h 13) aJ;exact⟨13+k,by omega,by rw[G2];exact e⟩
def gU.Ry{m:Nat}(hm:gU m)(h:Int){j:Nat}(aJ:j<=m):∃n,n<10*turns m/\cL m h n=j:=by
 obtain⟨r,a9,e⟩:=hm.met h aJ;obtain⟨n,aD,lp,_⟩:=wO m h r;refine⟨n,by unfold turns;omega,?_⟩;unfold cL;rw[lp];show(run m h r).1+0=j;omega
def least{P:Nat->Prop}(n:Nat)(h:P n):∃k,k<=n/\P k/\∀q,q<k->¬P q:=by
 induction n using Nat.strongRecOn with
 |ind n aE =>
  by_cases c:∃q,q<n/\P q
  .obtain⟨q,aL,az⟩:=c;obtain⟨k,a,b,d⟩:=aE q aL az;exact⟨k,by omega,b,d⟩
  .exact⟨n,Y2 _,h,λq aL az=>c ⟨q,aL,az⟩⟩
def hole{xs:Array Nat}{m:Nat}(a9:md xs)(aa:xs.size<=m):∃j,j<=m/\∀i:Nat,xs[i]?≠some j:=by
 by_cases c:∃j,j<=m/\∀i:Nat,xs[i]?≠some j
 .exact c
 .exfalso;have all:∀j,j<=m->∃i:Nat,xs[i]?=some j:=λj aJ=>by
   by_cases c2:∃i:Nat,xs[i]?=some j
   .exact c2
   .exact absurd ⟨j,aJ,λi e=>c2 ⟨i,e⟩⟩ c
  have ge:∀j,j<=m->∀i:Nat,xs[i]?=some j->j<=i:=by
   intro j
   induction j with
   |zero=>intro _ i _;omega
   |succ j aE =>
    intro aJ i ai;obtain⟨cW,fu⟩:=all j (by omega);have:=aE (by omega) cW fu
    by_cases c9:i<cW
    .have:=a9 i cW _ _ c9 ai fu;omega
    .by_cases cv:i=cW
     .subst cv;rw[ai]at fu;injection fu with e;omega
     .omega
  obtain⟨i,ai⟩:=all m (Y2 _);have C:=ge m (Y2 _) i ai;have J:=(ZF.mp ai).1;omega
def Ds{t:SetTable}(hm:gU t.mask)(a9:md t.place)(hd:t.dummies=#[])(aa:t.place.size<=t.mask)(h:Int):
  ∃N,N<10*turns t.mask/\t.slot (cL t.mask h N)=.empty/\(∀i:Nat,t.place[i]?≠some (cL t.mask h N))/\∀k,k<N->∃i:Nat,t.place[i]?=some (cL t.mask h k):=by
 obtain⟨j,aJ,aD⟩:=hole a9 aa;obtain⟨n,uf,e⟩:=hm.Ry h aJ;obtain⟨N,C,J,aC⟩:=least (P:=λn=>∀i:Nat,t.place[i]?≠some (cL t.mask h n)) n (by rw[e];exact aD);refine⟨N,by omega,VS hd J,J,λk ax=>?_⟩
 by_cases c:∃i:Nat,t.place[i]?=some (cL t.mask h k)
 .exact c
 .exact absurd (λi e=>c ⟨i,e⟩) (aC k ax)
theorem Af{t:SetTable}{h:Int}{hashAt:Nat->Int}(a9:md t.place){N:Nat}(he:t.slot (cL t.mask h N)=.empty)(aA:∀k,k<N->∃i:Nat,t.place[i]?=some (cL t.mask h k)):
  ∀(fuel n:Nat),n<=N->N-n<fuel ->
   (∃k i,n<=k/\k<N/\t.place[i]?=some (cL t.mask h k)/\hashAt i=h/\(∀dd,n<=dd->dd<k->∀cW:Nat,t.place[cW]?=some (cL t.mask h dd)->hashAt cW≠h)/\probe.go t hashAt h fuel (pr t.mask h n)=some (.candidate (cL t.mask h k) i (pr t.mask h (k+1))))
   \/ ((∀dd,n<=dd->dd<N->∀cW:Nat,t.place[cW]?=some (cL t.mask h dd)->hashAt cW≠h)/\probe.go t hashAt h fuel (pr t.mask h n)=some (.empty (cL t.mask h N) none))
 |0,n,C,J=>by omega
 |fuel+1,n,C,J=>by
  unfold probe.go
  by_cases c:n=N
  .subst c;have e:t.slot (pr t.mask h n).j=.empty:=he;rw[e];refine .inr ⟨λdd a b=>by omega,?_⟩;show some (Met.empty _ (pr t.mask h n).dummy)=_;rw[Gn];rfl
  .obtain⟨i,ai⟩:=aA n (by omega);have e:t.slot (pr t.mask h n).j=.live i:=oz a9 ai;rw[e]
   by_cases q:hashAt i=h
   .refine .inl ⟨n,i,Y2 _,by omega,ai,q,λdd a b=>by omega,?_⟩;simp only[q,beq_self_eq_true,ZH];rfl
   .have dq:(hashAt i==h)=false:=(by rw[Zs];exact q);simp only[dq,Y1,Zk];have ne:∀cW:Nat,t.place[cW]?=some (cL t.mask h n)->hashAt cW≠h:=λcW fu=>by
     have bp:=oz a9 fu;rw[oz a9 ai]at bp;injection bp with bp;rw[<- bp];exact q
    rw[Jn];show(∃k i,_/\_/\_/\_/\_/\probe.go t hashAt h fuel (pr t.mask h (n+1))=_)\/(_/\probe.go t hashAt h fuel (pr t.mask h (n+1))=_);rcases Af a9 he aA fuel (n+1) (by omega) (by omega) with⟨k,e3,a,b,d,aj,f,g⟩|⟨f,g⟩
    .refine .inl ⟨k,e3,by omega,b,d,aj,λdd bb bL cW df=>?_,g⟩
     by_cases c2:dd=n
     .subst c2;exact ne cW df
     .exact f dd (by omega) bL cW df
    .refine .inr ⟨λdd bb bL cW df=>?_,g⟩
     by_cases c2:dd=n
     .subst c2;exact ne cW df
     .exact f dd (by omega) bL cW df
def uz{α:Type}(xs:Array α)(p:Nat)(x:α)(az:p<=xs.size)(i:Nat):
  (insertAt xs p x)[i]?=if i<p then xs[i]? else if i=p then some x else xs[i-1]?:=by
 unfold insertAt;rw[Array.getElem?_append,Array.getElem?_push,Array.getElem?_extract,Array.getElem?_extract,Array.size_push,ab1];have e:min p xs.size-0=p:=by omega
 rw[e,aaF]
 by_cases c9:i<p
 .simp only[if_pos (show i<p+1 by omega),if_neg (show ¬i=p by omega),if_pos c9]
 .by_cases cv:i=p
  .simp only[if_pos (show i<p+1 by omega),if_neg c9,if_pos cv]
  .simp only[if_neg (show ¬i<p+1 by omega),if_neg c9,if_neg cv,Nat.min_self];have ak:min p xs.size=p:=by omega
   by_cases fP:i-(p+1)<xs.size-p
   .rw[if_pos fP];congr 1;omega
   .rw[if_neg fP];rw[aaW (by omega)]
def ps{α:Type}(xs:Array α)(p:Nat)(x:α)(az:p<=xs.size):(insertAt xs p x).size=xs.size+1:=by
 unfold insertAt;rw[aca,Array.size_push,ab1,ab1];omega
def EH{α:Type}(xs:Array α)(p:Nat)(x:α)(az:p<=xs.size):(insertAt xs p x).toList.Perm (x::xs.toList):=by
 have e:(insertAt xs p x).toList=xs.toList.take p++x::xs.toList.drop p:=by
  unfold insertAt;simp[List.extract_eq_drop_take];rw[aat (by simp)]
 rw[e];refine(List.perm_middle).trans (List.Perm.cons x ?_);rw[abB]
structure Tab{α:Type}(ah:Array (Int×α))(t:SetTable):Prop where
 iE:md t.place
 le:∀i j:Nat,t.place[i]?=some j->j<=t.mask
 gQ:t.place.size=ah.size
 qS:t.dummies=#[]
 dh:gU t.mask
 full:t.place.size<=t.mask
 path:∀(i j:Nat)(e:Int×α),t.place[i]?=some j->ah[i]?=some e->∃n,cL t.mask e.1 n=j/\∀k,k<n->∃cW:Nat,t.place[cW]?=some (cL t.mask e.1 k)
section
variable{α:Type}{ah:Array (Int×α)}{t:SetTable}
theorem Tab.fill(T:Tab ah t):t.fill=ah.size:=by unfold SetTable.fill;rw[T.qS,T.gQ];simp
def Tab.met(T:Tab ah t){h:Int}{N:Nat}(he:∀i:Nat,t.place[i]?≠some (cL t.mask h N)){i:Nat}{e:Int×α}(ai:ah[i]?=some e)(dc:e.1=h):∃k,k<N/\t.place[i]?=some (cL t.mask h k):=by
 have aa:=(ZF.mp ai).1;rw[<- T.gQ]at aa;have az:t.place[i]?=some t.place[i]:=Y8 aa;obtain⟨n,aD,av⟩:=T.path i _ e az ai;subst dc;refine⟨n,?_,by rw[aD];exact az⟩
 by_cases c:n<N
 .exact c
 .exfalso
  by_cases cv:n=N
  .subst cv;exact he i (by rw[aD];exact az)
  .obtain⟨cW,fu⟩:=av N (by omega);exact he cW fu
theorem Tab.put(T:Tab ah t){h:Int}{x:α}{N:Nat}(he:∀i:Nat,t.place[i]?≠some (cL t.mask h N))(aA:∀k,k<N->∃i:Nat,t.place[i]?=some (cL t.mask h k))(hf:t.place.size+1<=t.mask):
  Tab (insertAt ah (t.put (cL t.mask h N)).2 (h,x)) (t.put (cL t.mask h N)).1/\(t.put (cL t.mask h N)).2<=ah.size/\(t.put (cL t.mask h N)).1.mask=t.mask/\(t.put (cL t.mask h N)).1.plain=t.plain/\(t.put (cL t.mask h N)).1.led=t.led
   /\ (t.put (cL t.mask h N)).1.place.size=ah.size+1:=by
 obtain⟨b1,b2,dt⟩:=xB T.iE (cL t.mask h N);generalize aJ:cL t.mask h N=j at he b1 b2 dt ⊢;have hd:has t.dummies j=false:=by unfold has;rw[T.qS];simp
 have aj:t.put j=({ t with place:=insertAt t.place (below t.place j) j },below t.place j):=by
  unfold SetTable.put;simp only[hd];rfl
 rw[aj];generalize below t.place j=p at b1 b2 dt;have xF:p<=ah.size:=by rw[<- T.gQ];exact b1
 have pg:=uz t.place p j b1;have qZ:=uz ah p (h,x) xF;have JZ:∀(q a:Nat),p<=q->t.place[q]?=some a->j<a:=λq a aL aB=>by
  have:=dt q a aL aB;have:j≠a:=λe=>he q (by rw[e];exact aB)
  omega
 have mem:∀v i:Nat,t.place[i]?=some v->∃cW:Nat,(insertAt t.place p j)[cW]?=some v:=λv i ai=>by
  by_cases c:i<p
  .exact⟨i,by rw[pg,if_pos c];exact ai⟩
  .exact⟨i+1,by rw[pg,if_neg (show ¬i+1<p by omega),if_neg (show ¬i+1=p by omega)];exact ai⟩
 refine⟨⟨?_,?_,?_,T.qS,T.dh,?_,?_⟩,xF,rfl,rfl,rfl,?_⟩
 .intro i cW a b OX aB ab;dsimp only at aB ab;rw[pg]at aB ab
  by_cases c9:i<p
  .rw[if_pos c9]at aB
   by_cases cv:cW<p
   .rw[if_pos cv]at ab;exact T.iE i cW a b OX aB ab
   .rw[if_neg cv]at ab
    by_cases fP:cW=p
    .rw[if_pos fP]at ab;injection ab with ab;subst ab;exact b2 i a c9 aB
    .rw[if_neg fP]at ab;exact T.iE i (cW-1) a b (by omega) aB ab
  .rw[if_neg c9]at aB;rw[if_neg (show ¬cW<p by omega),if_neg (show ¬cW=p by omega)]at ab
   by_cases fP:i=p
   .rw[if_pos fP]at aB;injection aB with aB;subst aB;exact JZ (cW-1) b (by omega) ab
   .rw[if_neg fP]at aB;exact T.iE (i-1) (cW-1) a b (by omega) aB ab
 .intro i v aN;dsimp only at aN ⊢;rw[pg]at aN
  split at aN
  .exact T.le _ _ aN
  .split at aN
   .injection aN with aN;rw[<- aN,<- aJ];exact AK _ _ _
   .exact T.le _ _ aN
 .show(insertAt t.place p j).size=(insertAt ah p (h,x)).size;rw[ps _ _ _ b1,ps _ _ _ xF,T.gQ]
 .show(insertAt t.place p j).size<=t.mask;rw[ps _ _ _ b1];exact hf
 .intro i v e aN gK;dsimp only at aN ⊢;rw[pg]at aN;rw[qZ]at gK;have old:∀uw:Nat,t.place[uw]?=some v->ah[uw]?=some e->∃n,cL t.mask e.1 n=v/\∀k,k<n->∃cW:Nat,(insertAt t.place p j)[cW]?=some (cL t.mask e.1 k):=λuw a b=>by
   obtain⟨n,aD,av⟩:=T.path uw v e a b;exact⟨n,aD,λk ax=>let ⟨cW,fu⟩:=av k ax;mem _ _ fu⟩
  by_cases c9:i<p
  .rw[if_pos c9]at aN gK;exact old i aN gK
  .rw[if_neg c9]at aN gK
   by_cases cv:i=p
   .rw[if_pos cv]at aN gK;injection aN with aN;injection gK with gK;subst gK;exact⟨N,by rw[aJ];exact aN,λk ax=>let ⟨cW,fu⟩:=aA k ax;mem _ _ fu⟩
   .rw[if_neg cv]at aN gK;exact old _ aN gK
 .show(insertAt t.place p j).size=ah.size+1;rw[ps _ _ _ b1,T.gQ]
end
theorem zX:∀(k:Nat)(l:List Nat),l.Nodup->(∀x∈l,x<k)->l.length<=k
 |0,l,_,h=>by
  cases l with
  |nil=>simp
  |cons a r=>exact absurd (h a List.mem_cons_self) (Nat.not_lt_zero a)
 |k+1,l,dP,h=>by
  by_cases c:k∈l
  .have C:=zX k (l.erase k) (dP.erase k) λx ao=>by
    have:=(dP.mem_erase_iff).mp ao;have:=h x this.2;omega
   rw[abh c]at C;omega
  .have:=zX k l dP λx ao=>by
    have:=h x ao;have:x≠k:=λe=>c (e▸ao)
    omega
   omega
noncomputable def mb(cB:Array (Option Nat))(j:Nat):Prop:=∃q,cB[j]?=some (some q)
theorem tT{m:Nat}{h:Int}{cB:Array (Option Nat)}(hz:cB.size=m+1):∀(fuel r:Nat),(∃fX,r<=fX/\fX<r+fuel/\cB[(run m h fX).1]?=some none) ->
  (∀bX d,d<=len m h bX->bX<r->mb cB ((run m h bX).1+d)) ->
  ∃aG b9,b9<=len m h aG/\layClean.free m cB fuel (run m h r).1 (run m h r).2=some ((run m h aG).1+b9)/\cB[(run m h aG).1+b9]?=some none/\∀bX d,d<=len m h bX->(bX<aG\/(bX=aG/\d<b9))->mb cB ((run m h bX).1+d)
 |0,r,⟨fX,a,b,_⟩,_=>by omega
 |fuel+1,r,⟨fX,a,b,c⟩,ab=>by
  unfold layClean.free;have Yy:=vo (Ax m h r);have get:∀d,d<=len m h r->∃o,cB[(run m h r).1+d]?=some o/\cB.getD ((run m h r).1+d) (some 0)=o:=λd hd=>by
   unfold len at hd;have bV:(run m h r).1+d<cB.size:=(by rw[hz];omega);exact⟨cB[(run m h r).1+d],Y8 bV,by simp[Array.getD,bV]⟩
  cases hf:(List.range (runEnd m (run m h r).1+1-(run m h r).1)).find? λk=>(cB.getD ((run m h r).1+k) (some 0)).isNone with
  |some k =>
   obtain⟨C,J,aC⟩:=List.find?_range_eq_some.mp hf;have ax:k<=len m h r:=(by have:=List.mem_range.mp J;unfold len;omega);refine⟨r,k,ax,rfl,?_,λbX d hd bV=>?_⟩
   .obtain⟨o,aj,ak⟩:=get k ax;rw[ak]at C;rw[aj];cases o with
    |none=>rfl
    |some _=>simp at C
   .rcases bV with bV|⟨rfl,bV⟩
    .exact ab bX d hd bV
    .obtain⟨o,aj,ak⟩:=get d hd;have:=aC d bV;rw[ak]at this;cases o with
     |none=>simp at this
     |some q=>exact⟨q,aj⟩
  |none =>
   have aD:=List.find?_range_eq_none.mp hf;have full:∀d,d<=len m h r->mb cB ((run m h r).1+d):=λd hd=>by
    obtain⟨o,aj,ak⟩:=get d hd;have:=aD d (by unfold len at hd;omega);rw[ak]at this;cases o with
    |none=>simp at this
    |some q=>exact⟨q,aj⟩
   have YK:fX≠r:=λe=>by
    subst e;obtain⟨q,aL⟩:=full 0 (Zo _);rw[Nat.add_zero,c]at aL;cases aL
   show ∃aG b9,_/\layClean.free m cB fuel (run m h (r+1)).1 (run m h (r+1)).2=_/\_;refine tT hz fuel (r+1) ⟨fX,by omega,by omega,c⟩ λbX d hd bV=>?_
   by_cases e:bX=r
   .subst e;exact full d hd
   .exact ab bX d hd (by omega)
structure Own(m:Nat)(aa:List Int)(cB:Array (Option Nat)):Prop where
 size:cB.size=m+1
 lt:∀j q:Nat,cB[j]?=some (some q)->q<aa.length
 inj:∀j lL q:Nat,cB[j]?=some (some q)->cB[lL]?=some (some q)->j=lL
 all:∀(q:Nat)(h:Int),aa[q]?=some h->∃n,cB[cL m h n]?=some (some q)/\∀k,k<n->mb cB (cL m h k)
def Own.hole{m:Nat}{aa:List Int}{cB:Array (Option Nat)}(O:Own m aa cB)(aA:aa.length<=m):∃j,j<=m/\cB[j]?=some none:=by
 by_cases c:∃j,j<=m/\cB[j]?=some none
 .exact c
 .exfalso;have gd:∀j,j<=m->mb cB j:=λj aJ=>by
   have a4:cB[j]?=some (cB[j]'(by rw[O.size];omega)):=Y8 (by rw[O.size];omega);cases e:cB[j]'(by rw[O.size];omega) with
   |none=>exact absurd ⟨j,aJ,by rw[a4,e]⟩ c
   |some q=>exact⟨q,by rw[a4,e]⟩
  have C:=zX aa.length ((List.range (m+1)).map λj=>(cB.getD j none).getD 0) ?_ ?_
  .simp at C;omega
  .have key:∀j,j<=m->cB[j]?=some (some ((cB.getD j none).getD 0)):=λj aJ=>by
    obtain⟨q,aL⟩:=gd j aJ;have:cB.getD j none=some q:=(by rw[ZZ,aL];rfl);rw[this];exact aL
   rw[List.Nodup,Zu];refine Zx ?_ (List.nodup_range (n:=m+1));intro a b aB ab mG e;have rS:=key a (by have:=List.mem_range.mp aB;omega);have rU:=key b (by have:=List.mem_range.mp ab;omega);rw[<- e]at rU;exact mG (O.inj a b _ rS rU)
  .intro x ao;obtain⟨j,aJ,e⟩:=List.mem_map.mp ao;obtain⟨q,aL⟩:=gd j (by have:=List.mem_range.mp aJ;omega);have:cB.getD j none=some q:=(by rw[ZZ,aL];rfl);rw[this]at e;have bp:q=x:=e;rw[<- bp];exact O.lt j q aL
def Own.step{m:Nat}(hm:gU m){aa:List Int}{cB:Array (Option Nat)}(O:Own m aa cB)(aA:aa.length<=m)(h:Int):
  ∃j,layClean.free m cB (turns m) (bits h%(m+1)) (bits h)=some j/\Own m (aa++[h]) (cB.setIfInBounds j (some aa.length)):=by
 obtain⟨YE,OZ,dO⟩:=O.hole aA;obtain⟨fX,Yw,MA⟩:=hm.met h OZ;obtain⟨aG,b9,ko,tD,lp,Pp⟩:=tT (h:=h) O.size (turns m) 0 ⟨fX,Zo _,by unfold turns;omega,by rw[MA];exact dO⟩ (λbX d _ bV=>absurd bV (Nat.not_lt_zero _));obtain⟨n,_,aD,ax⟩:=JX m h aG b9 ko;have MD:cL m h n=(run m h aG).1+b9:=by unfold cL;rw[aD];rfl
 rw[<- MD]at tD lp;have R1:∀k,k<n->mb cB (cL m h k):=λk gq=>by
  obtain⟨bX,d',a,b,c⟩:=ax k gq;unfold cL;rw[c];exact Pp bX d' a b
 refine⟨cL m h n,tD,?_,?_,?_,?_⟩
 .rw[Array.size_setIfInBounds];exact O.size
 .intro j q aL;rw[ZU]at aL;rw[List.length_append,List.length_singleton]
  split at aL
  .split at aL
   .injection aL with aL;injection aL with aL;omega
   .cases aL
  .have:=O.lt j q aL;omega
 .intro j lL q a b;rw[ZU]at a b
  split at a
  .rename_i aj
   split at b
   .rename_i ak;rw[<- aj,<- ak]
   .split at a
    .injection a with a;injection a with a;have:=O.lt lL q b;omega
    .cases a
  .split at b
   .split at b
    .injection b with b;injection b with b;have:=O.lt j q a;omega
    .cases b
   .exact O.inj j lL q a b
 .intro q h' aL;have mono:∀j,mb cB j->mb (cB.setIfInBounds (cL m h n) (some aa.length)) j:=λj ⟨dq,lE⟩=>by
   by_cases c:cL m h n=j
   .refine⟨aa.length,?_⟩;rw[ZU,if_pos c,if_pos (by rw[O.size];have:=AK m h n;omega)]
   .exact⟨dq,by rw[ZU,if_neg c];exact lE⟩
  by_cases c:q<aa.length
  .rw[Zd c]at aL;obtain⟨cn,a,b⟩:=O.all q h' aL;refine⟨cn,?_,λk gq=>mono _ (b k gq)⟩;rw[ZU,if_neg]
   .exact a
   .intro e;rw[<- e,lp]at a;cases a
  .have lE:=(Zm.mp aL).1;rw[List.length_append,List.length_singleton]at lE;have e:q=aa.length:=(by omega);subst e;rw[Zr (Y2 _),acG]at aL;simp at aL;subst aL;refine⟨n,?_,λk gq=>mono _ (R1 k gq)⟩;rw[ZU,if_pos rfl,if_pos (by rw[O.size];have:=AK m h n;omega)]
def Sm(m:Nat):Own m [] (Array.replicate (m+1) none):=by
 have no:∀j q:Nat,(Array.replicate (m+1) (none:Option Nat))[j]?≠some (some q):=λj q aL=>by
  rw[Array.getElem?_replicate]at aL
  split at aL<;>cases aL
 exact⟨by simp,λj q aL=>absurd aL (no j q),λj lL q aL=>absurd aL (no j q),λq h aL=>by simp at aL⟩
def QZ {m : Nat} (hm : gU m) (aa : Array Int) (aA : aa.size <= m) : ∃ cB, layClean m aa = some cB /\ Own m aa.toList cB := by
  unfold layClean
  rw [<- Array.foldl_toList]
  have main : ∀ (rest done : List Int) (cB : Array (Option Nat)), Own m done cB -> (done ++ rest).length <= m ->
      ∃ u9, rest.foldl (fun (acc : Option (Array (Option Nat) × Nat)) h => do
        let (owner, k) <- acc
        let j <- layClean.free m owner (turns m) (bits h % (m + 1)) (bits h)
        pure (owner.setIfInBounds j (some k), k + 1)) (some (cB, done.length)) = some (u9, (done ++ rest).length) /\ Own m (done ++ rest) u9 := by
    intro rest
    induction rest with
    | nil => intro done cB O _; exact ⟨cB, by simp, by simpa using O⟩
    | cons h r aE =>
      intro done cB O hlen
      rw [List.length_append, List.length_cons] at hlen
      obtain ⟨j, tD, Jc⟩ := O.step hm (by omega) h
      have := aE (done ++ [h]) _ Jc (by simp; omega)
      rw [aaH] at this
      simp only [List.singleton_append, List.length_append, List.length_cons, List.length_nil, aaF] at this
      obtain ⟨u9, e, Jd⟩ := this
      refine ⟨u9, ?_, Jd⟩
      rw [List.foldl_cons]
      simp only [Option.bind_eq_bind, Option.bind_some, tD, Option.pure_def] at e ⊢
      rw [e]
      simp only [List.length_append, List.length_cons]
  obtain ⟨cB, e, O⟩ := main aa.toList [] (Array.replicate (m + 1) none) (Sm m) (by simpa using aA)
  refine ⟨cB, ?_, by simpa using O⟩
  simp only [List.length_nil] at e
  rw [e]; rfl
theorem yl{α β:Type}(f:α->Option β):∀(l:List α),(∀x∈l,(f x).isSome=true)->∀i:Nat,(l.filterMap f)[i]?=l[i]?.bind f
 |[],_,i=>by simp
 |x::r,h,i=>by
  have ao:=h x List.mem_cons_self;cases e:f x with
  |none=>rw[e]at ao;cases ao
  |some y =>
   rw[List.filterMap_cons,e];cases i with
   |zero=>simp[e]
   |succ i =>
    simp only[List.getElem?_cons_succ];exact yl f r (λz hz=>h z (List.mem_cons_of_mem _ hz)) i
theorem Dy{α β:Type}(f:α->Option β):∀(l:List α),(∀x∈l,(f x).isSome=true)->(l.filterMap f).length=l.length
 |[],_=>rfl
 |x::r,h=>by
  have ao:=h x List.mem_cons_self;cases e:f x with
  |none=>rw[e]at ao;cases ao
  |some y=>rw[List.filterMap_cons,e,List.length_cons,List.length_cons,Dy f r λz hz=>h z (List.mem_cons_of_mem _ hz)]
def EU{α:Type}{m:Nat}(hm:gU m)(ah:Array (Int×α))(aA:ah.size<=m)(f r6:Nat)(led cE:Bool):
  ∃t' order,laid m f r6 led cE (ah.map (·.1))=some (t',order)/\t'.mask=m/\t'.led=led/\t'.plain=cE/\(order.filterMap (ah[·]?)).size=ah.size/\Tab (order.filterMap (ah[·]?)) t'/\(order.filterMap (ah[·]?)).toList.Perm ah.toList/\order.toList.Perm (List.range ah.size):=by
 obtain⟨cB,e,O⟩:=QZ hm (ah.map (·.1)) (by simpa using aA);have hlen:(ah.map (·.1)).toList.length=ah.size:=by simp
 generalize er:(List.range (m+1)).filterMap (λj=>(cB.getD j none).map (j,·))=L;have oc:∀j q,(j,q)∈L<->cB[j]?=some (some q):=λj q=>by
  rw[<- er,abj];constructor
  .rintro⟨lL,y2,bp⟩;cases h0:cB.getD lL none with
   |none=>rw[h0]at bp;cases bp
   |some dq =>
    rw[h0]at bp;injection bp with bp;injection bp with aj ak;subst aj;subst ak;rw[ZZ]at h0;cases C:cB[lL]? with
    |none=>rw[C]at h0;cases h0
    |some o=>rw[C]at h0;exact Z8 some h0
  .intro h;refine⟨j,List.mem_range.mpr ?_,?_⟩
   .have:=(ZF.mp h).1;rw[O.size]at this;exact this
   .rw[ZZ,h];rfl
 have rise:L.Pairwise (λa b=>a.1<b.1):=by
  rw[<- er];refine List.Pairwise.filterMap _ ?_ (aaX (n:=m+1));intro a mi bV b ab gn gJ;cases h0:cB.getD a none with
  |none=>rw[h0]at ab;cases ab
  |some q =>
   cases C:cB.getD mi none with
   |none=>rw[C]at gJ;cases gJ
   |some dq =>
    rw[h0]at ab;rw[C]at gJ;cases ab;cases gJ;exact bV
 have lt:∀p∈L,p.2<ah.size:=λp az=>by
  have:=O.lt p.1 p.2 ((oc p.1 p.2).mp az);rw[hlen]at this;exact this
 have RM:(L.map (·.2)).Nodup:=by
  rw[List.Nodup,Zu];refine Zx ?_ rise;intro a b aB ab mG bp;have:=O.inj a.1 b.1 a.2 ((oc _ _).mp aB) (by rw[bp];exact(oc _ _).mp ab);omega
 have Aa:(L.map (·.2)).Perm (List.range ah.size):=by
  refine(List.perm_ext_iff_of_nodup RM List.nodup_range).mpr λq=>?_
  rw[List.mem_range,List.mem_map];constructor
  .rintro⟨p,az,rfl⟩;exact lt p az
  .intro aL;obtain⟨n,a,_⟩:=O.all q (ah[q].1) (by rw[Zz,Array.getElem?_map,Y8 aL];rfl);exact⟨(_,q),(oc _ _).mpr a,rfl⟩
 have zE:L.length=ah.size:=by have:=Aa.length_eq;simpa using this
 have F1:∀q∈L.map (·.2),(ah[q]?).isSome=true:=λq aL=>by
  obtain⟨p,az,rfl⟩:=List.mem_map.mp aL;rw[Y8 (lt p az)];rfl
 have R6:∀q∈List.range ah.size,(ah[q]?).isSome=true:=λq aL=>by
  rw[Y8 (List.mem_range.mp aL)];rfl
 have yd:((L.map (·.2)).toArray.filterMap (ah[·]?)).toList=(L.map (·.2)).filterMap (ah[·]?):=by simp
 have N9:∀(i:Nat),((L.map (·.2)).toArray.filterMap (ah[·]?))[i]?=(L[i]?).bind λp=>ah[p.2]?:=by
  intro i;rw[<- Zz,yd,yl _ _ F1,Ze];cases L[i]?<;>rfl
 have Hv:((L.map (·.2)).toArray.filterMap (ah[·]?)).size=ah.size:=by
  rw[<- Array.length_toList,yd,Dy _ _ F1,List.length_map,zE]
 have SW:((L.map (·.2)).toArray.filterMap (ah[·]?)).toList.Perm ah.toList:=by
  rw[yd];refine(Aa.filterMap (ah[·]?)).trans (List.Perm.of_eq ?_);refine aao λi=>?_
  rw[yl _ _ R6]
  by_cases c:i<ah.size
  .rw[aaO c];simp
  .rw[Zq (by simpa using c),Zq (by simpa using c)];rfl
 refine⟨{ mask:=m,place:=(L.map (·.1)).toArray,dummies:=#[],finger:=f,led,moves:=r6,plain:=cE },(L.map (·.2)).toArray,?_,rfl,rfl,rfl,Hv,⟨?_,?_,?_,rfl,hm,?_,?_⟩,SW,by simpa using Aa⟩
 .unfold laid;rw[e];simp only[Option.bind_eq_bind,Option.bind_some,Option.pure_def,er]
 .intro i j a b y1 aB ab;simp only[aa2,Ze]at aB ab;cases eL:L[i]? with
  |none=>rw[eL]at aB;cases aB
  |some va =>
   cases eV:L[j]? with
   |none=>rw[eV]at ab;cases ab
   |some YL =>
    rw[eL]at aB;rw[eV]at ab;cases aB;cases ab;obtain⟨C,aj⟩:=Zm.mp eL;obtain⟨J,ak⟩:=Zm.mp eV;have:=aaC.mp rise i j C J y1;rw[aj,ak]at this;exact this
 .intro i j ai;simp only[aa2,Ze]at ai;cases lh:L[i]? with
  |none=>rw[lh]at ai;cases ai
  |some p =>
   rw[lh]at ai;cases ai;have:=(oc p.1 p.2).mp (aae lh);have:=(ZF.mp this).1;rw[O.size]at this;show p.1<=m;omega
 .show(L.map (·.1)).toArray.size=_;rw[Hv];simp[zE]
 .show(L.map (·.1)).toArray.size<=m;simp[zE];exact aA
 .intro i j bp ai he;simp only[aa2,Ze]at ai;rw[N9]at he;cases lh:L[i]? with
  |none=>rw[lh]at ai;cases ai
  |some p =>
   rw[lh]at ai he;cases ai;have az:=(oc p.1 p.2).mp (aae lh);have gb:ah[p.2]?=some bp:=he;obtain⟨n,a,b⟩:=O.all p.2 bp.1 (by rw[Zz,Array.getElem?_map,gb];rfl);refine⟨n,O.inj _ _ _ a az,λk ax=>?_⟩;obtain⟨dq,lE⟩:=b k ax;obtain⟨cW,fu,Ml⟩:=List.mem_iff_getElem.mp ((oc _ _).mpr lE);refine⟨cW,?_⟩;show(L.map (·.1)).toArray[cW]?=_;simp only[aa2,Ze];rw[Y3 fu,Ml];rfl
end f3
end
section
namespace Pv
open PySem f3 PySem.SetTable
section
variable{prog:Program}{w:World}{A:Around}{E:Value->Shared->Prop}{s:Shared}
noncomputable def hH(prog:Program)(w:World)(h:Heap)(ar:List Int)(b:Addr):Prop:=IsTupleKey (intKind prog w) h ar b
noncomputable def fE(prog:Program)(w:World)(ar:List Int):Int:=tupleKeyHash (intKind prog w) ar
noncomputable def k2(prog:Program)(w:World)(h:Heap)(e:Int×Value)(ar:List Int):Prop:=∃b,e.2=.ref b/\e.1=fE prog w ar/\hH prog w h ar b
def hH.kept{h h':Heap}{ar:List Int}{b:Addr}(x:hH prog w h ar b)(k:∀o,h.get? b=some o->h'.get? b=some o):hH prog w h' ar b :=
 let ⟨o,items,n,av,r⟩:=x;⟨o,items,n,k o av,r⟩
def hH.ne{h:Heap}{ar:List Int}{a b:Addr}{o:Obj}{ah a6 t}(x:hH prog w h ar b)(av:h.get? a=some o)(hd:o.data=.set ah a6 t):b≠a:=by
 rintro rfl;obtain⟨bG,items,n,dI,_,f9,_⟩:=x;rw[av]at dI;cases dI;rw[hd]at f9;cases f9
def Cn{M:Model}{ar:List Int}{a:Addr}{Q:Bool->Shared->Prop}(ax:hH prog w s.heap ar a)(h:Q false s):wpAny M A (ofAClassStatement 8 (.ref a)) Q E s:=by
 have c5:s.TypeIs (.ref a) "tuple":=IsTupleKey.typeIs ax;obtain⟨o,items,n,av,_,hd,ai⟩:=ax;unfold ofAClassStatement;refine YW (aaT c5 ?_);dsimp only;rw[if_pos (by rfl)];refine YW (YY ?_);simp only[aaK,Y1,Zk];refine YW (wpAny_seqItems av hd ?_);dsimp only;refine YW ?_;rw[<- Array.forIn_toList];refine abE _ (λrest r s'=>r.1=none/\s'=s/\∀v∈rest,carriedByValue v=true) _ ?_ ?_ _ _ ⟨rfl,rfl,ai.byValue⟩
 .rintro v rest r s' ⟨a9,rfl,fD⟩;have aN:=fD v List.mem_cons_self;have e:ofAClassStatement 7 v=pure false:=by
   cases v with
   |ref b=>simp[carriedByValue]at aN
   |_=>unfold ofAClassStatement;rfl
  rw[e];refine YW (YY ?_);simp only[Y1,Zk];exact YY ⟨rfl,rfl,λu rF=>fD u (List.mem_cons_of_mem _ rF)⟩
 .rintro⟨aG,aZ⟩ s' ⟨a9,rfl,_⟩;simp only at a9;subst a9;exact YY h
def Vs{ar:List Int}{b:Addr}{stored:List Value}{Q:Bool->Shared->Prop}(ax:hH prog w s.heap ar b)(aa:∀v∈stored,∃c cQ,v=.ref c/\hH prog w s.heap cQ c)(h:Q false s):
  wpAny (model prog w) A (searchCouldBeSeen (.ref b) stored) Q E s:=by
 unfold searchCouldBeSeen;refine YW ?_;refine abE _ (λrest r s'=>r.1=none/\s'=s/\∀v∈rest,∃c cQ,v=.ref c/\hH prog w s.heap cQ c) _ ?_ ?_ _ _ ⟨rfl,rfl,aa⟩
 .rintro v rest r s' ⟨a9,rfl,fD⟩;obtain⟨c,cQ,rfl,ag⟩:=fD v List.mem_cons_self;have ks:∀v∈rest,∃c cQ,v=.ref c/\hH prog w s'.heap cQ c:=λu rF=>fD u (List.mem_cons_of_mem _ rF)
  dsimp only
  split
  .exact YY ⟨rfl,rfl,ks⟩
  .refine YW (wpAny_eqIsQuiet_tuple ax ?_);simp only[aaK,Y1,Zk];refine YW (wpAny_eqIsQuiet_tuple ag ?_);simp only[aaK,Y1,Zk];refine YW (Cn ax ?_);simp only[Y1,Zk];refine YW (Cn ag ?_);simp only[Y1,Zk];exact YY ⟨rfl,rfl,ks⟩
 .rintro⟨aG,aZ⟩ s' ⟨a9,rfl,_⟩;simp only at a9;subst a9;exact YY h
def Kk{ar:List Int}{a:Addr}{Q:Bool->Shared->Prop}(ax:hH prog w s.heap ar a)(h:Q true s):wpAny (model prog w) A (hashByValue 8 (.ref a)) Q E s:=by
 have c5:s.TypeIs (.ref a) "tuple":=IsTupleKey.typeIs ax;obtain⟨o,items,n,av,_,hd,ai⟩:=ax;unfold hashByValue;refine YW (acx c5 F.slot_tuple_hash.lookup ?_);dsimp only;refine YW (wpAny_seqItems av hd ?_);refine YW ?_;show wpAny _ _ (forIn items _ _) _ _ s;rw[<- Array.forIn_toList];have fD:∀v∈items.toList,∃i t,v=Value.int i t:=by
  clear hd av;generalize items.toList=l at ai
  induction ai with
  |nil=>intro v aN;simp at aN
  |@cons k p9 cQ ae C _ aE =>
   intro v aN;rcases Y0.mp aN with rfl|aN
   .obtain⟨t,e⟩:=ab6 C;exact⟨_,t,e⟩
   .exact aE v aN
 refine abE _ (λrest r s'=>r.1=none/\s'=s/\∀v∈rest,∃i t,v=Value.int i t) _ ?_ ?_ _ _ ⟨rfl,rfl,fD⟩
 .rintro v rest r s' ⟨a9,rfl,fD⟩;obtain⟨i,t,rfl⟩:=fD v List.mem_cons_self;have e:hashByValue 7 (Value.int i t)=pure true:=(by unfold hashByValue;rfl);rw[e];refine YW (YY ?_);simp only[aaK,Y1,Zk];exact YY ⟨rfl,rfl,λu rF=>fD u (List.mem_cons_of_mem _ rF)⟩
 .rintro⟨aG,aZ⟩ s' ⟨a9,rfl,_⟩;simp only at a9;subst a9;exact YY h
theorem Tab.fits{ah:Array (Int×Value)}{t:SetTable}(T:Tab ah t):t.fits ah.size=true:=by
 unfold SetTable.fits;have C:=T.gQ;have J:=T.fill;have aC:=T.full;simp only[YX,ZL,Zf];exact⟨C,by rw[J,<- C];exact aC⟩
def Tab.N3{ah:Array (Int×Value)}{t:SetTable}(T:Tab ah t):t.gaveWay=false:=by
 unfold SetTable.gaveWay;rcases T.dh with e|e|e|e<;>rw[e]<;>rfl
theorem Hj {a b : Addr} {o : Obj} {ah : Array (Int × Value)} {a6 : Nat} {t : SetTable} {ar : List Int} {cX : List (List Int)} {qy : Bool} {R : SetFound -> Shared -> Prop} {N : Nat} (bw : A.units < cLine)
    (av : s.heap.get? a = some o) (hd : o.data = .set ah a6 t) (T : Tab ah t) (az : Paired (k2 prog w s.heap) ah.toList cX) (ax : hH prog w s.heap ar b)
    (aK : N < 10 * turns t.mask) (he : t.slot (cL t.mask (fE prog w ar) N) = .empty) (iT : ∀ i : Nat, t.place[i]? ≠ some (cL t.mask (fE prog w ar) N)) (aA : ∀ k, k < N -> ∃ i : Nat, t.place[i]? = some (cL t.mask (fE prog w ar) k))
    (hf : ar ∉ cX -> R (.free (cL t.mask (fE prog w ar) N) false) s) (ay : ar ∈ cX -> ∀ r, R (.there r) s) :
    ∀ (fuel n : Nat) (vD : Option Probe), n <= N -> N - n < fuel -> vD.getD (t.probeStart (fE prog w ar)) = pr t.mask (fE prog w ar) n ->
      (∀ k, k < n -> ∀ (i : Nat) (e : Int × Value), t.place[i]? = some (cL t.mask (fE prog w ar) k) -> ah[i]? = some e -> ¬ k2 prog w s.heap e ar) ->
      wpAny (model prog w) A (setSearchFrom a (.ref b) (fE prog w ar) qy fuel vD) R E s
  | 0, n, vD, C, J, _, _ => by omega
  | fuel + 1, n, vD, C, J, cH, mJ => by
    unfold setSearchFrom
    refine YW (Z0 av hd (Tab.fits T) ?_)
    dsimp only
    rw [Tab.N3 T]
    simp only [Y1, Zk]
    rw [cH]
    have t5 : ∀ (i : Nat) (e : Int × Value), ah[i]? = some e -> (fun i => (ah[i]?.map (·.1)).getD 0) i = e.1 := fun i e h => by simp [h]
    generalize aF : t.probe _ (fE prog w ar) (pr t.mask (fE prog w ar) n) = X
    have mem_of : ∀ (i : Nat) (e : Int × Value), ah[i]? = some e -> ∃ cQ, cQ ∈ cX /\ k2 prog w s.heap e cQ := fun i e h => by
      have hm : e ∈ ah.toList := by rw [<- Zz] at h; exact aae h
      clear t5 mJ iT aA he ay hf
      generalize ah.toList = l at az hm
      induction az with
      | nil => simp at hm
      | cons C _ aE =>
        rcases Y0.mp hm with rfl | hm
        · exact ⟨_, List.mem_cons_self, C⟩
        · obtain ⟨cQ, a1, a2⟩ := aE hm
          exact ⟨cQ, List.mem_cons_of_mem _ a1, a2⟩
    rcases Af (h := fE prog w ar) (hashAt := fun i => (ah[i]?.map (·.1)).getD 0) T.iE he aA (10 * turns t.mask) n C (by omega) with ⟨k, i, b1, b2, dt, fq, kb, qD⟩ | ⟨kb, qD⟩
    · have tg : X = _ := aF.symm.trans qD
      rw [tg]
      dsimp only
      have ai : i < ah.size := by rw [<- T.gQ]; exact (ZF.mp dt).1
      have pa : ah[i]? = some ah[i] := Y8 ai
      obtain ⟨cQ, y7, c, jJ, q0, ag⟩ := mem_of i _ pa
      have rest : wpAny (model prog w) A (do
          let some (_, y) := ah[i]? | unsupported "internal:set-entry"
          let equal <- holding [y] (eqBool y (.ref b))
          let (nR, _, t') <- setState a
          if qy && equal then return SetFound.there none
          let some same := t'.sameMemory t.moves t.mask | unsupported "set.changed-during-lookup:is-the-new-block-at-the-old-address"
          let V9 <- match (if same then t'.slot (cL t.mask (fE prog w ar) k) else .empty) with
            | .live cW => match nR[cW]? with
              | some (_, v9) => do pure (if <- isSame v9 y then some cW else none)
              | none => pure none
            | _ => pure none
          match V9 with
          | none => rule "set.search.anew"; setSearchFrom a (.ref b) (fE prog w ar) qy fuel none
          | some cW => if equal then return SetFound.there (some cW) else setSearchFrom a (.ref b) (fE prog w ar) qy fuel (some (pr t.mask (fE prog w ar) (k + 1)))) R E s := by
        rw [pa]
        generalize gK : ah[i] = ev at jJ q0 pa
        obtain ⟨Yc, Yd⟩ := ev
        dsimp only at jJ q0 ⊢
        subst jJ
        refine YW (Z9 (wpAny_eqBool_tuple bw ag ax ?_))
        refine YW (Z0 av hd (Tab.fits T) ?_)
        dsimp only
        have same : t.sameMemory t.moves t.mask = some true := by unfold SetTable.sameMemory; simp
        by_cases q : cQ = ar
        · subst q
          simp only [acb, aci]
          cases qy
          · simp only [Y1, Zk]
            rw [same]
            dsimp only
            rw [if_pos rfl, oz T.iE dt]
            dsimp only
            rw [pa]
            dsimp only
            refine YW (wpAny_isSame_ref_self (YW (YY ?_)))
            rw [if_pos rfl]
            dsimp only
            first | exact YY (ay y7 _) | (rw [if_pos trivial]; exact YY (ay y7 _))
          · simp only [ZH]
            exact YY (ay y7 _)
        · simp only [decide_eq_false q, aaB, Y1, Zk]
          rw [same]
          dsimp only
          rw [if_pos rfl, oz T.iE dt]
          dsimp only
          rw [pa]
          dsimp only
          refine YW (wpAny_isSame_ref_self (YW (YY ?_)))
          rw [if_pos rfl]
          dsimp only
          refine Hj bw av hd T az ax aK he iT aA hf ay fuel (k + 1) _ (by omega) (by omega) rfl fun dd gq cW bp n3 gb ao => ?_
          by_cases c9 : dd < n
          · exact mJ dd c9 cW bp n3 gb ao
          · by_cases cv : dd = k
            · subst cv
              have aj : cW = i := by
                have := oz T.iE n3
                rw [oz T.iE dt] at this
                injection this with this
                exact this.symm
              subst aj
              rw [pa] at gb
              cases gb
              obtain ⟨c2, Mi, _, cN⟩ := ao
              cases Mi
              exact q (IsTupleKey.inj ag cN)
            · obtain ⟨_, _, Mk, _⟩ := ao
              exact kb dd (by omega) (by omega) cW n3 ((t5 cW bp gb).trans Mk)
      cases iz : t.led
      · simp only [abr, ZH]
        refine YW (Vs ax (fun v aN => ?_) ?_)
        · obtain ⟨e, gb, rfl⟩ := List.mem_map.mp aN
          have hm : e ∈ ah.toList := by
            rw [Array.toList_filter] at gb
            exact (Y9.mp gb).1
          obtain ⟨j, aJ⟩ := List.mem_iff_getElem?.mp hm
          obtain ⟨QM, _, cv, ak, _, J⟩ := mem_of j e (by rw [<- Zz]; exact aJ)
          exact ⟨cv, QM, ak, J⟩
        · simp only [Y1, Zk]
          exact rest
      · simp only [aaK, Y1, Zk]
        exact rest
    · have tg : X = _ := aF.symm.trans qD
      rw [tg]
      dsimp only
      refine YY (hf fun et => ?_)
      obtain ⟨e, hm, ao⟩ : ∃ e ∈ ah.toList, k2 prog w s.heap e ar := by
        clear t5 mJ iT aA he ay hf mem_of kb qD tg
        generalize ah.toList = l at az
        induction az with
        | nil => simp at et
        | @cons bp cQ _ _ C _ aE =>
          rcases Y0.mp et with rfl | et
          · exact ⟨bp, List.mem_cons_self, C⟩
          · obtain ⟨e, a1, a2⟩ := aE et
            exact ⟨e, List.mem_cons_of_mem _ a1, a2⟩
      obtain ⟨j, aJ⟩ := List.mem_iff_getElem?.mp hm
      rw [Zz] at aJ
      obtain ⟨_, _, q0, _⟩ := id ao
      obtain ⟨k, mI, y4⟩ := T.met iT aJ q0
      by_cases c : k < n
      · exact mJ k c j e y4 aJ ao
      · exact kb k (by omega) mI j y4 ((t5 j e aJ).trans q0)
noncomputable def oM(M:Value->Prop)(prog:Program)(w:World)(h:Heap)(a:Addr)(cX:List (List Int)):Prop :=
 ∃o ah a6 t,h.get? a=some o/\o.ExactSet/\o.data=.set ah a6 t/\Tab ah t/\ah.size*5<t.mask*3/\t.plain=true/\(t.led=true<->w.params.followText "set-order"=false)/\Paired (λe ar=>k2 prog w h e ar/\M e.2) ah.toList cX/\cX.Nodup
def Paired.perm{α β:Type}{F:α->β->Prop}{eu eG:List α}(p:eu.Perm eG):∀{ar:List β},Paired F eG ar->∃cQ,cQ.Perm ar/\Paired F eu cQ:=by
 induction p with
 |nil=>intro ar h;cases h;exact⟨[],.refl _,.nil⟩
 |cons x _ aE =>
  intro ar h;cases h with
  |cons C t =>
   obtain⟨cQ,fb,h'⟩:=aE t;exact⟨_::cQ,fb.cons _,.cons C h'⟩
 |swap x y l =>
  intro ar h;cases h with
  |cons C t =>
   cases t with
   |cons J t=>exact⟨_::_::_,List.Perm.swap _ _ _,.cons J (.cons C t)⟩
 |trans _ _ zu zv =>
  intro ar h;obtain⟨a8,bb,C⟩:=zv h;obtain⟨aR,bL,J⟩:=zu C;exact⟨aR,bL.trans bb,J⟩
theorem Paired.len{α β:Type}{F:α->β->Prop}:∀{l:List α}{ar:List β},Paired F l ar->l.length=ar.length
 |_,_,.nil=>rfl
 |_,_,.cons _ t=>by simp[Paired.len t]
theorem Paired.mp{α β:Type}{F G:α->β->Prop}(f:∀a b,F a b->G a b):∀{l:List α}{ar:List β},Paired F l ar->Paired G l ar
 |_,_,.nil=>.nil
 |_,_,.cons h t=>.cons (f _ _ h) (Paired.mp f t)
def Jl{M:Value->Prop}{a b:Addr}{ar:List Int}{cX:List (List Int)}{Q:Bool->Shared->Prop}(bw:A.units<cLine)(bh:oM M prog w s.heap a cX)(ax:hH prog w s.heap ar b)(ft:M (.ref b))(rB:cX.length<256)(h:∀h' iA r,Heap.SameBut a s.heap h'->oM M prog w h' a iA->iA.Perm (if ar∈cX then cX else ar::cX)->Q r { s with heap:=h' }):
  wpAny (model prog w) A (setAddHashed a (.ref b) (fE prog w ar)) Q E s:=by
 obtain⟨o,ah,a6,t,av,hex,hd,T,iV,eb,iz,az,lD⟩:=bh;obtain⟨N,aK,he,iT,aA⟩:=Ds T.dh T.iE T.qS T.full (fE prog w ar);have hlen:ah.size=cX.length:=by have:=Paired.len az;simpa using this
 unfold setAddHashed setAddHashedIn;refine Z9 (YW (Z0 av hd (Tab.fits T) ?_));dsimp only;have OB:byScan (.ref b) ah=false:=by unfold byScan;simp[Value.scannable]
 rw[OB];simp only[Y1,Zk];refine YW ?_;unfold setSearch;refine Hj bw av hd T (Paired.mp (λ_ _ x=>x.1) az) ax aK he iT aA (λry=>?_) (λet r=>?_) 100000 0 none (Zo _) ?_ rfl (λk gq=>absurd gq (Nat.not_lt_zero k))
 .-- it is new
  dsimp only;have yV:t.place.size+1<=t.mask:=by
   rw[T.gQ];rcases T.dh with e|e|e|e<;>rw[e]at iV ⊢<;>omega
  obtain⟨ik,b1,b2,dt,fq,kb⟩:=T.put (x:=Value.ref b) iT aA yV;refine YW (Z0 av hd (Tab.fits T) ?_);dsimp only;generalize ej:t.put (cL t.mask (fE prog w ar) N)=P at ik b1 b2 dt fq kb;obtain⟨t1,bb⟩:=P;dsimp only at ik b1 b2 dt fq kb ⊢;rw[dt,eb];simp only[ZH];refine YW (Kk ax ?_);simp only[ZH];have n4:=EH ah bb (fE prog w ar,Value.ref b) b1;have pl:(insertAt ah bb (fE prog w ar,Value.ref b)).size=ah.size+1:=ps _ _ _ b1;have yS:Paired (λe ar=>k2 prog w s.heap e ar/\M e.2) ((fE prog w ar,Value.ref b)::ah.toList) (ar::cX):=.cons ⟨⟨b,rfl,rfl,ax⟩,ft⟩ az;obtain⟨rV,aU,bq⟩:=Paired.perm n4 yS;have rx:rV.Nodup:=(aU.nodup_iff).mpr (Zi.mpr ⟨ry,lD⟩);generalize OH:insertAt ah bb (fE prog w ar,Value.ref b)=cK at ik n4 pl bq;refine YW (abv av hd ?_ (by rw[pl];have:sizeLine=2 ^ 40\/True:=.inr trivial;rw[sizeLine_eq];omega));have h5:(s.heap.update a (Obj.putSet cK t1)).get? a=some { o with data:=.set cK (a6+1) t1 }:=by
   have:=ZI (Obj.putSet cK t1) av (by rw[abI cK t1 hd];rfl);rw[abI cK t1 hd]at this;exact this
  have ph:=ZW s.heap a (Obj.putSet cK t1);have move:∀{h':Heap},Heap.SameBut a s.heap h'->∀(e:Int×Value)(cQ:List Int),(k2 prog w s.heap e cQ/\M e.2)->(k2 prog w h' e cQ/\M e.2):=λ{h'} aa e cQ ⟨⟨c,aj,ak,bu⟩,eR⟩ =>
   ⟨⟨c,aj,ak,bu.kept λbG dI=>(aa.2 c (bu.ne av hd)).trans dI⟩,eR⟩
  have goal:∀h' iA,Heap.SameBut a s.heap h'->oM M prog w h' a iA->iA.Perm (ar::cX)->Q true { s with heap:=h' }:=λh' iA cc b0 d5=>h h' iA true cc b0 (by rw[if_neg ry];exact d5)
  have rm:t1.fill=cK.size:=ik.fill
  by_cases jN:t1.tooFull=true
  .simp only[jN,abr,ach,ZH];have yO:∃m,gU m/\sizeAbove (grown cK.size)-1=m/\cK.size*5<m*3/\sizeAbove (grown cK.size)<=512:=by
    unfold SetTable.tooFull at jN;rw[rm,b2]at jN;have gL:cK.size*5>=t.mask*3:=(by simpa using jN);rcases T.dh with e|e|e|e
    .rw[e]at gL iV;have:cK.size=5:=(by omega);rw[this];exact⟨31,.inr (.inl rfl),by decide,by decide,by decide⟩
    .rw[e]at gL iV;have:cK.size=19:=(by omega);rw[this];exact⟨127,.inr (.inr (.inl rfl)),by decide,by decide,by decide⟩
    .rw[e]at gL iV;have:cK.size=77:=(by omega);rw[this];exact⟨511,.inr (.inr (.inr rfl)),by decide,by decide,by decide⟩
    .rw[e]at gL iV;omega
   obtain⟨m,hm,y9,rr,Pd⟩:=yO;refine YW ?_;unfold setRelay;refine YW (Z0 h5 rfl (Tab.fits ik) ?_);dsimp only;rw[<- pl];have PI:¬sizeAbove (grown cK.size)>sizeLine:=(by rw[sizeLine_eq];omega);rw[if_neg PI];obtain⟨e6,order,c9,cv,fP,xH,oS,ti,xI,_⟩:=EU (α:=Value) hm cK (by
    rcases hm with e|e|e|e<;>rw[e]at rr ⊢<;>omega) t1.finger (t1.movedTo m) t1.led t1.plain
   have zg:t1.relaid (cK.map (·.1)) (grown cK.size)=some (e6,order):=by
    unfold SetTable.relaid;rw[y9];exact c9
   refine YW ?_;rw[zg];show wpAny (model prog w) A (if ((order.filterMap (cK[·]?)).size != cK.size)=true then _ else pure (order.filterMap (cK[·]?),e6)) _ E _;rw[if_neg (by rw[oS];simp)];refine YY ?_;dsimp only;refine abv h5 rfl ?_ (by rw[oS,sizeLine_eq];omega);obtain⟨zD,ck,dz⟩:=Paired.perm xI bq;have ro:((s.heap.update a (Obj.putSet cK t1)).update a (Obj.putSet (order.filterMap (cK[·]?)) e6)).get? a=some { o with data:=.set (order.filterMap (cK[·]?)) (a6+1+1) e6 }:=by
    have:=ZI (Obj.putSet (order.filterMap (cK[·]?)) e6) h5 (by rw[abI _ e6 rfl];rfl);rw[abI _ e6 rfl]at this;exact this
   have uj:=ph.trans (ZW _ a (Obj.putSet (order.filterMap (cK[·]?)) e6));refine YY (goal _ zD uj ⟨_,_,_,e6,ro,hex,rfl,ti,by rw[oS,cv];exact rr,by rw[xH,dt];exact eb,by rw[fP,fq];exact iz,Paired.mp (move uj) dz,(ck.nodup_iff).mpr rx⟩ (ck.trans aU))
  .have gL:t1.tooFull=false:=(by simpa using jN);simp only[gL,aaB,Y1,Zk];refine YY (goal _ rV ph ⟨_,_,_,t1,h5,hex,rfl,ik,?_,by rw[dt];exact eb,by rw[fq];exact iz,Paired.mp (move ph) bq,rx⟩ aU);unfold SetTable.tooFull at gL;rw[rm]at gL;have:¬cK.size*5>=t1.mask*3:=(by simpa using gL);omega
 .dsimp only;exact YY (h s.heap cX false (acd a s.heap) ⟨o,ah,a6,t,av,hex,hd,T,iV,eb,iz,az,lD⟩ (by rw[if_pos et]))
 .have:turns t.mask<=526:=(by unfold turns;rcases T.dh with e|e|e|e<;>rw[e]<;>omega);omega
def VC{M:Value->Prop}{a b:Addr}{ar:List Int}{cX:List (List Int)}{Q:Bool->Shared->Prop}(bw:A.units<cLine)(bh:oM M prog w s.heap a cX)(ax:hH prog w s.heap ar b)(ft:M (.ref b))(rB:cX.length<256)(h:∀h' tk iA r,s.toks<=tk->Heap.SameBut a s.heap h'->oM M prog w h' a iA->iA.Perm (if ar∈cX then cX else ar::cX)->Q r { s with heap:=h',toks:=tk }):
  wpAny (model prog w) A (setAdd a (.ref b)) Q E s:=by
 unfold setAdd;refine Z9 (YW (wpAny_pyHash_tuple bw ax ?_));exact Jl (s:={ s with toks:=_ }) bw bh ax ft rB λh' iA r cc b0 d5=>h h' _ iA r (Nat.le_add_right _ _) cc b0 d5
noncomputable def k1(e:Int×Value)(k:Int):Prop:=e.1=hashInt k/\∃t,e.2=.int k t
noncomputable def oL(w:World)(h:Heap)(a:Addr)(ar:List Int):Prop :=
 ∃o ah a6 t,h.get? a=some o/\o.ExactSet/\o.data=.set ah a6 t/\Tab ah t/\ah.size*5<t.mask*3/\t.plain=true/\(t.led=true<->w.params.followText "set-order"=false)/\Paired k1 ah.toList ar/\ar.Nodup
def rO(prog:Program)(w:World)(i:Int)(t:Tok):(intKind prog w).is i (.int i t)=true:=by show Value.isInt i (.int i t)=true;simp[Value.isInt]
def k1.elems{ah:List (Int×Value)}{ar:List Int}(az:Paired k1 ah ar):ElemsOf (intKind prog w) ah:=by
 intro e he
 induction az with
 |nil=>simp at he
 |@cons bp k _ _ C _ aE =>
  rcases Y0.mp he with rfl|he
  .obtain⟨J,t,ak⟩:=C;refine⟨⟨k,?_,J⟩,?_⟩
   .rw[ak];exact rO _ _ _ _
   .rw[ak];rfl
  .exact aE he
def k1.find{ah:List (Int×Value)}{ar:List Int}(az:Paired k1 ah ar)(k:Int):(ah.findIdx? λe=>(intKind prog w).is k e.2).isSome=true<->k∈ar:=by
 induction az with
 |nil=>simp
 |@cons bp dd _ _ C _ aE =>
  obtain⟨_,t,ak⟩:=C;have hd:(intKind prog w).is k bp.2=decide (k=dd):=by
   rw[ak];exact KeyKind.is_eq_decide (rO prog w dd t) k
  rw[List.findIdx?_cons,hd]
  by_cases c:k=dd
  .subst c;simp
  .simp only[decide_eq_false c];simp only[Y1,Zk,Option.isSome_map];rw[aE];simp[c]
def Jj{a:Addr}{k:Int}{tk:Tok}{ar:List Int}{Q:Bool->Shared->Prop}(bh:oL w s.heap a ar)(rB:ar.length<256)(h:∀h' cQ r,Heap.SameBut a s.heap h'->oL w h' a cQ->cQ.Perm (if k∈ar then ar else k::ar)->Q r { s with heap:=h' }):
  wpAny (model prog w) A (setAddHashed a (.int k tk) (hashInt k)) Q E s:=by
 obtain⟨o,ah,a6,t,av,hex,hd,T,iV,eb,iz,az,lD⟩:=bh;obtain⟨N,aK,he,iT,aA⟩:=Ds T.dh T.iE T.qS T.full (hashInt k);have hlen:ah.size=ar.length:=by have:=Paired.len az;simpa using this
 have Ea:ElemsOf (intKind prog w) ah.toList:=k1.elems az;have PF:ah.size<scanBound:=by unfold scanBound;omega
 unfold setAddHashed setAddHashedIn;refine Z9 (YW (Z0 av hd (Tab.fits T) ?_));dsimp only;rw[byScan_of (knd:=intKind prog w) (x:=.int k tk) rfl PF Ea];simp only[ZH];unfold setAddByScan;refine YW ?_;refine YW (acv ?_);refine YW (wpAny_setScan_of (knd:=intKind prog w) (k:=k) (rO _ _ _ _) av hd (Tab.fits T) Ea ?_);have ua:=k1.find (prog:=prog) (w:=w) az k;cases a9:List.findIdx? (λe=>(intKind prog w).is k e.2) ah.toList with
 |some j =>
  dsimp only;rw[a9]at ua;have et:k∈ar:=ua.mp rfl;refine YY (YY ?_);exact h s.heap ar _ (acd a s.heap) ⟨o,ah,a6,t,av,hex,hd,T,iV,eb,iz,az,lD⟩ (by rw[if_pos et])
 |none =>
  dsimp only;rw[a9]at ua;have ry:k∉ar:=λz=>by have:=ua.mpr z;cases this
  have yV:t.place.size+1<=t.mask:=by
   rw[T.gQ];rcases T.dh with e|e|e|e<;>rw[e]at iV ⊢<;>omega
  obtain⟨ik,b1,b2,dt,fq,kb⟩:=T.put (x:=Value.int k tk) iT aA yV;have mH:t.freeSlot (hashInt k)=some (cL t.mask (hashInt k) N,false):=by
   unfold SetTable.freeSlot;rcases Af (h:=hashInt k) (hashAt:=λ_=>hashInt k+1) T.iE he aA (10*turns t.mask) 0 (Zo _) (by omega) with⟨_,_,_,_,_,z,_⟩|⟨_,z⟩
   .exact absurd z (by omega)
   .have ij:t.probe (λ_=>hashInt k+1) (hashInt k) (t.probeStart (hashInt k))=_:=z;rw[ij];rfl
  have El:layNew t ah (hashInt k) (.int k tk)=(insertAt ah (t.put (cL t.mask (hashInt k) N)).2 (hashInt k,.int k tk),(t.put (cL t.mask (hashInt k) N)).1,false,false):=by
   unfold layNew;rw[mH];dsimp only;have yX:=Tab.fits ik;generalize t.put (cL t.mask (hashInt k) N)=P at ik b1 yX;obtain⟨t1,bb⟩:=P;dsimp only at yX ⊢;unfold SetTable.orStandIn;rw[yX];rfl
  rw[El];dsimp only;generalize ej:t.put (cL t.mask (hashInt k) N)=P at ik b1 b2 dt fq kb;obtain⟨t1,bb⟩:=P;dsimp only at ik b1 b2 dt fq kb ⊢;refine YW (YY ?_);rw[dt,eb];simp only[ZH];rw[show hashByValue 8 (Value.int k tk)=pure true from by unfold hashByValue;rfl];refine YW (YY ?_);simp only[ZH];have n4:=EH ah bb (hashInt k,Value.int k tk) b1;have pl:(insertAt ah bb (hashInt k,Value.int k tk)).size=ah.size+1:=ps _ _ _ b1;have yS:Paired k1 ((hashInt k,Value.int k tk)::ah.toList) (k::ar):=.cons ⟨rfl,_,rfl⟩ az;obtain⟨rV,aU,bq⟩:=Paired.perm n4 yS;have rx:rV.Nodup:=(aU.nodup_iff).mpr (Zi.mpr ⟨ry,lD⟩);generalize OH:insertAt ah bb (hashInt k,Value.int k tk)=cK at ik n4 pl bq;refine YW (abv av hd ?_ (by rw[pl,sizeLine_eq];omega));have h5:(s.heap.update a (Obj.putSet cK t1)).get? a=some { o with data:=.set cK (a6+1) t1 }:=by
   have:=ZI (Obj.putSet cK t1) av (by rw[abI cK t1 hd];rfl);rw[abI cK t1 hd]at this;exact this
  have ph:=ZW s.heap a (Obj.putSet cK t1);have goal:∀h' cQ,Heap.SameBut a s.heap h'->oL w h' a cQ->cQ.Perm (k::ar)->Q true { s with heap:=h' }:=λh' cQ cc b0 d5=>h h' cQ true cc b0 (by rw[if_neg ry];exact d5)
  have rm:t1.fill=cK.size:=ik.fill
  by_cases jN:t1.tooFull=true
  .simp only[jN,abr,ach,ZH];have yO:∃m,gU m/\sizeAbove (grown cK.size)-1=m/\cK.size*5<m*3/\sizeAbove (grown cK.size)<=512:=by
    unfold SetTable.tooFull at jN;rw[rm,b2]at jN;have gL:cK.size*5>=t.mask*3:=(by simpa using jN);rcases T.dh with e|e|e|e
    .rw[e]at gL iV;have:cK.size=5:=(by omega);rw[this];exact⟨31,.inr (.inl rfl),by decide,by decide,by decide⟩
    .rw[e]at gL iV;have:cK.size=19:=(by omega);rw[this];exact⟨127,.inr (.inr (.inl rfl)),by decide,by decide,by decide⟩
    .rw[e]at gL iV;have:cK.size=77:=(by omega);rw[this];exact⟨511,.inr (.inr (.inr rfl)),by decide,by decide,by decide⟩
    .rw[e]at gL iV;omega
   obtain⟨m,hm,y9,rr,Pd⟩:=yO;obtain⟨e6,order,c9,cv,fP,xH,oS,ti,xI,Kl⟩:=EU (α:=Value) hm cK (by
    rcases hm with e|e|e|e<;>rw[e]at rr ⊢<;>omega) t1.finger (t1.movedTo m) t1.led t1.plain
   have zg:t1.relaid (cK.map (·.1)) (grown cK.size)=some (e6,order):=by
    unfold SetTable.relaid;rw[y9];exact c9
   have fD:relayAll t1 cK (grown cK.size)=(order.filterMap (cK[·]?),e6,false):=by
    unfold relayAll;rw[zg];dsimp only;have C:coversAll order cK.size=true:=(by unfold coversAll;exact List.isPerm_iff.mpr Kl);rw[C,Tab.fits ti];rfl
   rw[fD];dsimp only;refine YW (YY ?_);refine YW (abv h5 rfl ?_ (by rw[oS,sizeLine_eq];omega));obtain⟨zD,ck,dz⟩:=Paired.perm xI bq;have ro:((s.heap.update a (Obj.putSet cK t1)).update a (Obj.putSet (order.filterMap (cK[·]?)) e6)).get? a=some { o with data:=.set (order.filterMap (cK[·]?)) (a6+1+1) e6 }:=by
    have:=ZI (Obj.putSet (order.filterMap (cK[·]?)) e6) h5 (by rw[abI _ e6 rfl];rfl);rw[abI _ e6 rfl]at this;exact this
   have uj:=ph.trans (ZW _ a (Obj.putSet (order.filterMap (cK[·]?)) e6));exact YY (YY (goal _ zD uj ⟨_,_,_,e6,ro,hex,rfl,ti,by rw[oS,cv];exact rr,by rw[xH,dt];exact eb,by rw[fP,fq];exact iz,dz,(ck.nodup_iff).mpr rx⟩ (ck.trans aU)))
  .have gL:t1.tooFull=false:=(by simpa using jN);simp only[gL,aaB,Y1,Zk];refine YY (YY (goal _ rV ph ⟨_,_,_,t1,h5,hex,rfl,ik,?_,by rw[dt];exact eb,by rw[fq];exact iz,bq,rx⟩ aU));unfold SetTable.tooFull at gL;rw[rm]at gL;have:¬cK.size*5>=t1.mask*3:=(by simpa using gL);omega
def VB{a:Addr}{k:Int}{tk:Tok}{ar:List Int}{Q:Bool->Shared->Prop}(bh:oL w s.heap a ar)(rB:ar.length<256)(h:∀h' p5 cQ r,s.toks<=p5->Heap.SameBut a s.heap h'->oL w h' a cQ->cQ.Perm (if k∈ar then ar else k::ar)->Q r { s with heap:=h',toks:=p5 }):
  wpAny (model prog w) A (setAdd a (.int k tk)) Q E s:=by
 unfold setAdd;refine Z9 (YW ((intKind prog w).pyHash (k:=k) (rO _ _ _ _) ?_));exact Jj (s:={ s with toks:=s.toks+1 }) bh rB λh' iA r cc b0 d5=>h h' _ iA r (Nat.le_succ _) cc b0 d5
end
end Pv
end
section
namespace Pv
open PySem PySem.Spec PyProof.Rows f3 PySem.SetTable
section
variable{prog:Program}{w:World}
structure ta(prog:Program)(w:World)(κ:Type)[DecidableEq κ] where
 Row:Heap->Value->κ->Prop
 Set:Heap->Addr->List κ->Prop
 fresh:∀(h:Heap)(a:Addr),h.get? a=some { cls:=.type "set",dict:=none,data:=.set #[] 0 (.fresh 0 0 (!w.params.followText "set-order")) }->Set h a []
 moved:∀{h h':Heap}{a:Addr}{ar:List κ},Set h a ar->(∀o,h.get? a=some o->h'.get? a=some o)->(∀b o,h.get? b=some o->o.cls=.type "tuple"->h'.get? b=some o)->Set h' a ar
 Aw:∀{h h':Heap}{v:Value}{k:κ},Row h v k->(∀b o,h.get? b=some o->o.cls=.type "tuple"->h'.get? b=some o)->Row h' v k
 zY:∀{h:Heap}{a:Addr}{ar:List κ},Set h a ar->∀o,h.get? a=some o->o.cls≠.type "tuple"
 add:∀{A:Around}{E:Value->Shared->Prop}{s:Shared}{a:Addr}{v:Value}{k:κ}{ar:List κ}{Q:Bool->Shared->Prop},A.units<cLine->Set s.heap a ar->Row s.heap v k->ar.length<256 ->
  (∀h' tk cQ r,s.toks<=tk->Heap.SameBut a s.heap h'->Set h' a cQ->cQ.Perm (if k∈ar then ar else k::ar)->Q r { s with heap:=h',toks:=tk })->wpAny (model prog w) A (setAdd a v) Q E s
section
variable{κ:Type}[DecidableEq κ]
noncomputable def met(ar:List κ):Nat->List κ
 |0=>[]
 |i+1=>match ar[i]? with
  |some k=>if k∈met ar i then met ar i else k::met ar i
  |none=>met ar i
theorem uS(ar:List κ):∀(i:Nat),i<=ar.length->∀k,k∈met ar i<->k∈ar.take i
 |0,_,k=>by simp[met]
 |i+1,ai,k=>by
  have aE:=uS ar i (by omega) k;have a4:ar[i]?=some ar[i]:=Y3 (by omega);have e:ar.take (i+1)=ar.take i++[ar[i]]:=(by rw[List.take_succ,a4];rfl);unfold met;rw[a4,e,Zg,<- aE,Zb];dsimp only
  split
  .rename_i c;constructor
   .exact .inl
   .rintro(h|h)
    .exact h
    .rw[h];exact c
  .rw[Y0];exact⟨λh=>h.symm,λh=>h.symm⟩
theorem r4(ar:List κ):∀i,(met ar i).Nodup
 |0=>aaQ
 |i+1=>by
  unfold met
  split
  .split
   .exact r4 ar i
   .rename_i c;exact Zi.mpr ⟨c,r4 ar i⟩
  .exact r4 ar i
def SX{k:κ}{l m:List κ}{jj:List κ}(h:l.Perm m)(h':jj.Perm (if k∈l then l else k::l)):jj.Perm (if k∈m then m else k::m):=by
 by_cases c:k∈l
 .rw[if_pos c]at h';rw[if_pos (h.mem_iff.mp c)];exact h'.trans h
 .rw[if_neg c]at h';rw[if_neg (λz=>c (h.mem_iff.mpr z))];exact h'.trans (h.cons k)
def Xq(K:ta prog w κ){A:Around}{R:Result->Shared->Prop}{I:Addr}{bI wr:List Addr}{n:Nat}{P:Nat->Value->Prop}{St:Nat->Shared->Prop}{G:Array GenState->Array GenState->Prop}(W:WalksS prog w A.in1 I bI wr G n P St)(S:Addr)(o8:S∉bI)(bw:A.in1.units<cLine)(cX:List κ)(h0:Heap)(Ey:∀i s,St i s->∀b∈wr,∀o,s.heap.get? b=some o->o.cls≠.type "tuple")(um:∀i v,P i v->∃k,cX[i]?=some k/\K.Row h0 v k)(ab:∀i,i<n->(met cX i).length<256):
  ∀(k i:Nat)(s:Shared),n-i=k->i<=n->St i s->(∀b o,h0.get? b=some o->o.cls=.type "tuple"->s.heap.get? b=some o)->(∃l,K.Set s.heap S l/\l.Perm (met cX i)) ->
   (∀s' l,Moved (S::wr) G s s'->K.Set s'.heap S l->l.Perm (met cX n)->R (.ok (.ret .none)) s') ->
   codeAny (model prog w) A (.builtin "set.update.loop" ⟨[.ref S,.ref I],[]⟩) R s:=by
 have D3:S∉wr:=λh=>o8 (W.sub _ h)
 have gr:∀b∈wr,b∈S::wr:=λb ab=>List.mem_cons_of_mem _ ab
 intro k
 induction k with
 |zero =>
  intro i s ax ai cH Ej ⟨l,bh,aA⟩ hR;have et:i=n:=(by omega);subst et;refine aab abf ?_;rw[aah aar _];show wpAny _ A.in1 (pyNext (.ref I)>>=_) _ _ s;refine YW (W.done s _ _ cH λs' hm=>?_);show wpAny _ A.in1 (ret Value.none) _ _ s';exact YY (hR s' l (hm.mono gr) (K.moved bh (λo e=>hm.heap S o D3 e) λb o e ag=>hm.heap b o (λyQ=>Ey _ s cH b yQ o e ag) e) aA)
 |succ k aE =>
  intro i s ax ai cH Ej ⟨l,bh,aA⟩ hR;have bV:i<n:=(by omega);refine aab abf ?_;rw[aah aar _];show wpAny _ A.in1 (pyNext (.ref I)>>=_) _ _ s;refine YW (W.item i s _ _ bV cH λv s' ej PM hm=>?_);obtain⟨key,y5,t6⟩:=um i v ej;have tk:∀b o,s.heap.get? b=some o->o.cls=.type "tuple"->s'.heap.get? b=some o:=λb o e ag=>hm.heap b o (λyQ=>Ey _ s cH b yQ o e ag) e
  have km:K.Set s'.heap S l:=K.moved bh (λo e=>hm.heap S o D3 e) tk;have Ek:∀b o,h0.get? b=some o->o.cls=.type "tuple"->s'.heap.get? b=some o:=λb o e ag=>tk b o (Ej b o e ag) ag
  have gq:K.Row s'.heap v key:=K.Aw t6 Ek;show wpAny _ A.in1 (holding [v] (setAdd S v)>>=_) _ _ s';refine YW (Z9 (K.add bw km gq (by rw[aA.length_eq];exact ab i bV) λh' p5 jj r qe cc b0 d5=>?_));have zb:∀b o,s'.heap.get? b=some o->o.cls=.type "tuple"->b≠S:=λb o e ag=>by
   rintro rfl;exact K.zY km o e ag
  refine YY ⟨abO aar _,aE (i+1) _ (by omega) bV (W.frame _ s' _ _ PM qe λb ab o e=>?_) (λb o e ag=>?_) ⟨jj,b0,?_⟩ λsu QN Pc Ou O4=>?_⟩
  .rw[cc.2 b (λh:b=S=>o8 (by rw[<- h];exact ab))];exact e
  .have bp:=Ek b o e ag;show h'.get? b=some o;rw[cc.2 b (zb b o bp ag)];exact bp
  .unfold met;rw[y5];exact SX aA d5
  .refine hR su QN (Moved.trans W.gtrans ((hm.mono gr).then_heap qe λb o ab e=>?_) Pc) Ou O4;rw[cc.2 b (λh:b=S=>ab (by rw[h];exact List.mem_cons_self))];exact e
end
def pW{A:Around}{E:Value->Shared->Prop}{s:Shared}(a:Value){Q₁:Value->Shared->Prop}(h:Q₁ (.ref s.heap.objs.size) { s with heap:=s.heap.push { cls:=.type "set",dict:=none,data:=.set #[] 0 (.fresh 0 0 (!w.params.followText "set-order")) } }):
  codeAny (model prog w) A (.call (.builtin "set.__new__") ⟨[.type "set",a],[]⟩) (wants Q₁ E) s:=by
 refine codeAny_of_tree ?_;show wpAny _ A.in1 (do checkBuiltinCall "set.__new__" ⟨[.type "set",a],[]⟩;again (.builtin "set.__new__" ⟨[.type "set",a],[]⟩)) _ _ s;refine YW (wpAny_of_eq (F.newCall_set_1 a) (YY ⟨abO F.plain_set_new _,aab F.entry_set_new ?_⟩));rw[aah F.plain_set_new _];unfold Builtin.«set.__new__» Builtin.Frozenset.newClass;have gr:=sub_set_self;obtain⟨az,g,d,tk,os⟩:=s;dsimp only
 wp_walk
 refine abb (YY ?_);dsimp only;simp only[newObj];refine YW (wpAny_alloc (YY ?_));exact YY h
def Ia(led:Bool):Tab (α:=Value) #[] (SetTable.fresh 0 0 led):=by
 refine⟨λi j a b _ h=>?_,λi j h=>?_,rfl,rfl,.inl rfl,Zo _,λi j e h=>?_⟩
 .simp[SetTable.fresh]at h
 .simp[SetTable.fresh]at h
 .simp[SetTable.fresh]at h
theorem F8{α β:Type}{F:α->β->Prop}:∀{l:List α}{ar:List β},Paired F l ar->∀(i:Nat)(v:α),l[i]?=some v->∃k,ar[i]?=some k/\F v k
 |_,_,.nil,i,v,h=>by simp at h
 |_,_,.cons C t,0,v,h=>by simp at h;subst h;exact⟨_,rfl,C⟩
 |_,_,.cons C t,i+1,v,h=>by
  have:=F8 t i v (by simpa using h);simpa using this
def XF{A:Around}(dc:A.handled=none){T:String}(c5:T="list"\/T="tuple"){h:Heap}{l:Addr}{ba:Option Addr}{fJ:Array (Option Value)}{items:Array Value}{nl:Nat}(kr:h.get? l=some { cls:=.type T,dict:=ba,data:=.seq items nl,slots:=fJ }):
  ∃(u1:Obj)(St:Nat->Heap->Prop),u1.cls≠.type "tuple"/\(∀(wc:Around)(E:Value->Shared->Prop)(s:Shared)(Q:Value->Shared->Prop),s.heap=h->Q (.ref h.objs.size) { s with heap:=h.push u1 }->wpAny (model prog w) wc (pyIter (.ref l)) Q E s) /\
   Walks prog w A h.objs.size [h.objs.size,l] [h.objs.size] items.size (λi v=>items[i]?=some v) St/\St 0 (h.push u1)/\∀i h',St i h'->∀o,h'.get? h.objs.size=some o->o.cls≠.type "tuple":=by
 have bV:l<h.objs.size:=Y5 kr;rcases c5 with rfl|rfl
 .have aA:h.IsList l items:=⟨_,kr,rfl,nl,rfl⟩;refine⟨{ cls:=.type "list_iterator",data:=.fields #[.ref l,.int 0 0] },_,by show Value.type _≠Value.type _;decide,λwc E s Q e q=>?_,Walks.list dc h.objs.size l (Zh bV) items,⟨⟨_,Y7 _ rfl,rfl,rfl⟩,aA.push _⟩,λi h' st o e=>?_⟩
  .subst e;exact ace aA q
  .obtain⟨⟨bG,bp,c,_⟩,_⟩:=st;rw[e]at bp;cases bp;rw[c];decide
 .have aA:h.IsTuple l items:=⟨_,kr,rfl,nl,rfl⟩;refine⟨{ cls:=.type "tuple_iterator",data:=.fields #[.ref l,.int 0 0] },_,by show Value.type _≠Value.type _;decide,λwc E s Q e q=>?_,Walks.tuple dc h.objs.size l (Zh bV) items,⟨⟨_,Y7 _ rfl,rfl,rfl⟩,⟨_,YZ _ kr,rfl,nl,rfl⟩⟩,λi h' st o e=>?_⟩
  .subst e;exact ab2 aA q
  .obtain⟨⟨bG,bp,c,_⟩,_⟩:=st;rw[e]at bp;cases bp;rw[c];decide
def B9 {κ : Type} [DecidableEq κ] (K : ta prog w κ) {A : Around} {E : Value -> Shared -> Prop} {s : Shared} {l : Addr} {T : String} {ba : Option Addr} {fJ : Array (Option Value)} {items : Array Value} {nl : Nat} {cX : List κ} {Q : Value -> Shared -> Prop} (c5 : T = "list" \/ T = "tuple")
    (dc : A.handled = none) (bw : A.units + 64 < cLine) (kr : s.heap.get? l = some { cls := .type T, dict := ba, data := .seq items nl, slots := fJ }) (ai : Paired (K.Row s.heap) items.toList cX) (ab : ∀ i, i < cX.length -> (met cX i).length < 256)
    (h : ∀ (h' : Heap) (tk : Nat) (r : List κ), K.Set h' s.heap.objs.size r -> r.Perm (met cX cX.length) ->
      (∀ b o, b < s.heap.objs.size -> s.heap.get? b = some o -> h'.get? b = some o) -> Q (.ref s.heap.objs.size) { s with heap := h', toks := tk }) :
    wpAny (model prog w) A (call (.type "set") [.ref l]) Q E s := by
  obtain ⟨c, ih, Yt⟩ := aaY.mro
  have Yr := aaY.made
  have gr := aaY.sub
  refine wpAny_call (codeAny_of_tree ?_)
  show wpAny _ _ (callAny (.type "set") _) _ _ _
  refine YY ⟨Code.quiet_builtin _ (by decide +kernel), aab F.entry_type_call ?_⟩
  rw [Around.under_plain (weight_type_call_type "set" [.ref l] []) rfl]
  have C := aaY.notType
  have J := aaY.canCreate
  have Yj := F.typeCall_set_1 (.ref l)
  repeat (any_goals (first | assumption | wp_step))
  refine abZ (pW (.ref l) (E := E) (Q₁ := fun obj cM => ∃ led : Bool, led = (!w.params.followText "set-order") /\ obj = .ref s.heap.objs.size /\ cM = { s with heap := s.heap.push { cls := .type "set", dict := none, data := .set #[] 0 (.fresh 0 0 led) } }) ⟨_, rfl, rfl, rfl⟩) fun r cM a9 => ?_
  cases r with
  | error e => exact a9
  | ok eX =>
    cases eX with
    | ret obj =>
      obtain ⟨led, iz, rfl, rfl⟩ := a9
      have bh : (s.heap.push { cls := .type "set", dict := none, data := .set #[] 0 (.fresh 0 0 led) }).get? s.heap.objs.size = some { cls := .type "set", dict := none, data := .set #[] 0 (.fresh 0 0 led) } := Y7 _ rfl
      have Ow : Shared.TypeIs { s with heap := s.heap.push { cls := .type "set", dict := none, data := .set #[] 0 (.fresh 0 0 led) } } (.ref s.heap.objs.size) "set" := ⟨_, bh, rfl⟩
      have Yn := aaY.init.lookup
      have Yi := aaY.init.bind (.ref s.heap.objs.size)
      repeat (any_goals (first | assumption | wp_step))
      refine abZ (codeAny_call_builtin (R := wants (fun r gw => r = .none /\ ∃ h' tk fL, gw = { s with heap := h', toks := tk } /\ K.Set h' s.heap.objs.size fL /\ fL.Perm (met cX cX.length) /\
          (∀ b o, b < s.heap.objs.size -> s.heap.get? b = some o -> h'.get? b = some o)) E) aaY.init.plain F.entry_set_init (check_set_init_1 Ow ?_)) fun Ux gw zh => ?_
      · have Pr : (s.heap.push { cls := .type "set", dict := none, data := .set #[] 0 (.fresh 0 0 led) }).get? l = some { cls := .type T, dict := ba, data := .seq items nl, slots := fJ } := YZ _ kr
        have YA : isSubtype (.type T) (.type "set") = pure false := by rcases c5 with rfl | rfl; exact F.sub_list_set; exact F.sub_tuple_set
        have Yz : isSubtype (.type T) (.type "frozenset") = pure false := by rcases c5 with rfl | rfl; exact F.sub_list_frozenset; exact F.sub_tuple_frozenset
        have ea : (Value.type T == Value.type "dict") = false := by rcases c5 with rfl | rfl <;> decide
        have OP : A.in1.in1.in1.handled = none := by simp [dc]
        obtain ⟨u1, St, Yv, hit, W, st0, zb⟩ := XF (prog := prog) (w := w) OP c5 Pr
        unfold Builtin.«set.__init__» noKeywords Builtin.Frozenset.updateFrom
        generalize Ot : pyIter = hG
        wp_walk
        subst Ot
        refine hit _ _ _ _ rfl ?_
        refine YW (ab3 ?_)
        have O6 : l < s.heap.objs.size := Y5 kr
        have o8 : s.heap.objs.size ∉ [(s.heap.push { cls := .type "set", dict := none, data := .set #[] 0 (.fresh 0 0 led) }).objs.size, l] := by
          rw [Heap.size_push]; simp only [Y0, Zb, acn, or_false, not_or]
          exact ⟨Zh (aax _), Nat.ne_of_gt O6⟩
        have hlen : items.size = cX.length := by have := Paired.len ai; simpa using this
        refine Xq K (W.toS) s.heap.objs.size o8 ?hu2 cX s.heap (fun i s' st b ab o e => ?nt) (fun i v aN => ?val) (fun i fu => ab i (by omega)) (items.size - 0) 0 _ (by omega) (Zo _)
          st0 (fun b o e _ => YZ _ (YZ _ e)) ⟨[], ?hS0, .refl _⟩ ?hR
        case hu2 => first | (show A.units + 1 + 1 + 1 + 1 < cLine; omega) | (show A.units + 1 + 1 + 1 < cLine; omega) | (simp [Around.in1]; omega)
        case nt =>
          rw [Zb] at ab
          subst ab
          exact zb i _ st o e
        case val => exact F8 ai i v (by rw [Zz]; exact aN)
        case hS0 =>
          refine K.fresh _ _ ?_
          rw [<- iz]
          exact YZ _ bh
        case hR =>
          intro s' fL hm km n4
          obtain ⟨h', g', d', p5, se⟩ := s'
          have qZ : g' = s.gens := hm.gens
          have qY : d' = s.drawn := hm.drawn
          have x8 : se = s.os := hm.os
          subst qZ; subst qY; subst x8
          show wpAny _ _ _ _ _ _
          refine YY ?_
          show wpAny _ _ (ret Value.none) _ _ _
          refine YY ⟨rfl, h', p5, fL, rfl, km, by rw [<- hlen]; exact n4, fun b o ab e => ?_⟩
          have hN : b ≠ s.heap.objs.size := Zh ab
          have yM : b ≠ (s.heap.push { cls := .type "set", dict := none, data := .set #[] 0 (.fresh 0 0 led) }).objs.size := by
            rw [Heap.size_push]; exact Zh (Nat.lt_succ_of_lt ab)
          exact hm.heap b o (by simp only [Y0, Zb, acn, or_false, not_or]; exact ⟨hN, yM⟩) (YZ _ (YZ _ e))
      · cases Ux with
        | error e => exact zh
        | ok NO =>
          cases NO with
          | ret r =>
            obtain ⟨rfl, h', tk, fL, rfl, km, Pz, gq⟩ := zh
            repeat (any_goals (first | assumption | wp_step))
            exact h _ _ fL km Pz gq
          | _ => exact zh.elim
    | _ => exact a9.elim
end
section
variable{prog:Program}{w:World}
noncomputable def EP(M:Value->Prop)(prog:Program)(w:World):ta prog w (List Int) where
 Row:=λh v ar=>∃b,v=.ref b/\hH prog w h ar b/\M v
 Set:=oM M prog w
 fresh:=λh a e=>⟨_,#[],0,_,e,⟨rfl,rfl,rfl⟩,rfl,Ia _,by show 0*5<7*3;decide,rfl,by show(!w.params.followText "set-order")=true<->_;simp,.nil,aaQ⟩
 moved:=λ{h h' a cX} x rS k=>by
  obtain⟨o,ah,a6,t,av,aG,aZ,ee,gP,jr,TO,Ak,sl⟩:=x;refine⟨o,ah,a6,t,rS _ av,aG,aZ,ee,gP,jr,TO,Paired.mp (λe ar ⟨⟨b,aj,ak,bu⟩,eR⟩=>⟨⟨b,aj,ak,?_⟩,eR⟩) Ak,sl⟩;obtain⟨b8,items,n,C,J,aC⟩:=bu;exact⟨b8,items,n,k b b8 C J,J,aC⟩
 Aw:=λx k=>by
  obtain⟨b,e,⟨b8,items,m,cc,b0,d5⟩,hU⟩:=x;exact⟨b,e,⟨b8,items,m,k b b8 cc b0,b0,d5⟩,hU⟩
 zY:=λx o e=>by
  obtain⟨bG,_,_,_,dI,hex,_⟩:=x;rw[e]at dI;cases dI;rw[hex.1];decide
 add:=λ{A E s a v k ar Q} bw bh a9 aA h=>by
  obtain⟨b,rfl,ax,ft⟩:=a9;refine VC bw bh ax ft aA λh' tk cQ r qe cc b0 d5=>h h' tk cQ r qe cc b0 ?_
  by_cases c:k∈ar
  .rw[if_pos c]at d5 ⊢;exact d5
  .rw[if_neg c]at d5 ⊢;exact d5
noncomputable def Qv(prog:Program)(w:World):ta prog w Int where
 Row:=λ_ v k=>∃t,v=.int k t
 Set:=oL w
 fresh:=λh a e=>⟨_,#[],0,_,e,⟨rfl,rfl,rfl⟩,rfl,Ia _,by show 0*5<7*3;decide,rfl,by show(!w.params.followText "set-order")=true<->_;simp,.nil,aaQ⟩
 moved:=λ{h h' a cX} x rS k=>by
  obtain⟨o,ah,a6,t,av,r⟩:=x;exact⟨o,ah,a6,t,rS _ av,r⟩
 Aw:=λx _=>x
 zY:=λx o e=>by
  obtain⟨bG,_,_,_,dI,hex,_⟩:=x;rw[e]at dI;cases dI;rw[hex.1];decide
 add:=λ{A E s a v k ar Q} bw bh a9 aA h=>by
  obtain⟨t,rfl⟩:=a9;refine VB bh aA λh' tk cQ r qe cc b0 d5=>h h' tk cQ r qe cc b0 ?_
  by_cases c:k∈ar
  .rw[if_pos c]at d5 ⊢;exact d5
  .rw[if_neg c]at d5 ⊢;exact d5
end
def pZ:Slot "set_iterator" "__next__" "set_iterator.__next__" :=
 .of (owner:="set_iterator") (n:="__next__") (by rw[acB,abC];kernel_rfl) (by decide +kernel) (by decide +kernel) (by decide +kernel)
  (by first|exact .inl (by decide +kernel)|exact .inr (by decide +kernel)) (by rw[ab4];kernel_rfl)
def CR:entryFor table "set_iterator.__next__"=some Builtin.«set_iterator.__next__»:=entryFor_of_tree (by kernel_rfl)
def F7:Manifest.owners.lookup (String.ofList ['r','o','t','a','r','e','t','i','_','t','e','s'].reverse)=some Manifest.sig_set_iterator:=by kernel_rfl
def BL(a:Value):argsOk "set_iterator.__next__" ⟨[a],[]⟩:=by
 unfold argsOk;rw[signature?_of (id:="set_iterator.__next__") (n:=['_','_','t','x','e','n','_','_']) (o:=['r','o','t','a','r','e','t','i','_','t','e','s']) (by kernel_rfl) F7];kernel_rfl
def HA:Slot "set_iterator" "__iter__" "set_iterator.__iter__" :=
 .of (owner:="set_iterator") (n:="__iter__") (by rw[acB,abC];kernel_rfl) (by decide +kernel) (by decide +kernel) (by decide +kernel)
  (by first|exact .inl (by decide +kernel)|exact .inr (by decide +kernel)) (by rw[ab4];kernel_rfl)
def JA(a:Value):argsOk "set_iterator.__iter__" ⟨[a],[]⟩:=by
 unfold argsOk;rw[signature?_of (id:="set_iterator.__iter__") (n:=['_','_','r','e','t','i','_','_']) (o:=['r','o','t','a','r','e','t','i','_','t','e','s']) (by kernel_rfl) F7];kernel_rfl
def Hz:Slot "set" "__iter__" "set.__iter__" :=
 .of (owner:="set") (n:="__iter__") (by rw[acB,abC];kernel_rfl) (by decide +kernel) (by decide +kernel) (by decide +kernel)
  (by first|exact .inl (by decide +kernel)|exact .inr (by decide +kernel)) (by rw[ab4];kernel_rfl)
def Jz(a:Value):argsOk "set.__iter__" ⟨[a],[]⟩:=by
 unfold argsOk;rw[signature?_of (id:="set.__iter__") (n:=['_','_','r','e','t','i','_','_']) (o:=['t','e','s']) (by kernel_rfl) PySem.F.owner_set];kernel_rfl
def Mr:entryFor table "set.__iter__"=some Builtin.«frozenset.__iter__»:=entryFor_alias (id':="frozenset.__iter__") (by kernel_rfl) rfl (by decide +kernel) (by kernel_rfl)
def Ms:entryFor table "set_iterator.__iter__"=some Builtin.«dict_keyiterator.__iter__»:=entryFor_alias (id':="dict_keyiterator.__iter__") (by kernel_rfl) rfl (by decide +kernel) (by kernel_rfl)
theorem CZ{α:Type}:∀(l:List α)(i:Nat)(h:i<l.length),(l[i]::l.eraseIdx i).Perm l
 |x::r,0,_=>by simp
 |x::r,i+1,h=>by
  simp only[List.getElem_cons_succ,List.eraseIdx_cons_succ];exact(List.Perm.swap _ _ _).trans ((CZ r i (by simpa using h)).cons x)
theorem Gk{α:Type}(next:Nat->Nat):∀(fuel k:Nat)(left:List α)(out:Array α),left.length<=fuel->(pickOrder.go next fuel k left out).toList.Perm (out.toList++left)
 |0,k,left,out,h=>by
  have:left=[]:=List.length_eq_zero_iff.mp (by omega);subst this;simp[pickOrder.go]
 |fuel+1,k,left,out,h=>by
  unfold pickOrder.go;cases left with
  |nil=>simp
  |cons x r =>
   have bV:next k%(x::r).length<(x::r).length:=acE _ (by simp)
   have a4:(x::r)[next k%(x::r).length]?=some (x::r)[next k%(x::r).length]:=Y3 bV;rw[a4];refine(Gk next fuel (k+1) _ _ (by rw[List.length_eraseIdx_of_lt bV];simp only[List.length_cons]at h ⊢;omega)).trans ?_;rw[Array.toList_push,aaH];exact List.Perm.append_left _ (CZ _ _ bV)
def S8{α:Type}(next:Nat->Nat)(xs:Array α):(pickOrder next xs).toList.Perm xs.toList:=by
 unfold pickOrder;have:=Gk next xs.size 0 xs.toList #[] (by simp)
 simpa using this
section
variable{prog:Program}{w:World}
structure nu(w:World)(o:Obj)(ah:Array (Int×Value))(a6:Nat)(t:SetTable):Prop where
 ex:o.ExactSet
 data:o.data=.set ah a6 t
 tab:Tab ah t
 plain:t.plain=true
 led:t.led=true<->w.params.followText "set-order"=false
noncomputable def gu(w:World)(a:Addr)(ah:Array (Int×Value))(a6:Nat):Array (Int×Value):=if w.params.followText "set-order"=true then pickOrder (w.params.setOrder a a6) ah else ah
def pM(w:World)(a:Addr)(ah:Array (Int×Value))(a6:Nat):(gu w a ah a6).toList.Perm ah.toList:=by
 unfold gu;split
 .exact S8 _ _
 .exact .refl _
noncomputable def slotAt(w:World)(t:SetTable)(i:Nat):Nat:=if w.params.followText "set-order"=true then 0 else match i with
 |0=>0
 |j+1=>t.place.getD j 0+1
noncomputable def nk(h:Heap)(it a:Addr)(slot i n a6:Nat):Prop:=∃o,h.get? it=some o/\o.cls=.type "set_iterator"/\o.data=.fields #[.int slot 0,.int i 0,.ref a,.int n 0,.int a6 0]
def nk.typeIs{s:Shared}{it a:Addr}{slot i n a6:Nat}(h:nk s.heap it a slot i n a6):s.TypeIs (.ref it) "set_iterator":=let ⟨o,av,ag,_⟩:=h;⟨o,av,ag⟩
def J4{ah:Array (Int×Value)}{t:SetTable}(T:Tab ah t)(hw:w.params.followText "set-order"=false){i:Nat}(ai:i<=ah.size):below t.place (slotAt w t i)=i:=by
 unfold slotAt;rw[if_neg (by rw[hw];decide)];obtain⟨C,J,aC⟩:=xB T.iE (match i with|0=>0|j+1=>t.place.getD j 0+1);rw[T.gQ]at C;cases i with
 |zero =>
  dsimp only at C J aC
  by_cases c:below t.place 0=0
  .exact c
  .exfalso;have bV:0<t.place.size:=(by rw[T.gQ];omega);have:=J 0 _ (by omega) (Y8 bV);omega
 |succ j =>
  have aJ:j<t.place.size:=(by rw[T.gQ];omega);have a4:t.place[j]?=some t.place[j]:=Y8 aJ;have hd:t.place.getD j 0=t.place[j]:=(by simp[Array.getD,aJ]);dsimp only at C J aC ⊢;rw[hd]at C J aC ⊢
  by_cases c9:below t.place (t.place[j]+1)<=j
  .exfalso;have:=aC j _ c9 a4;omega
  .by_cases cv:j+1<below t.place (t.place[j]+1)
   .exfalso;have O0:j+1<t.place.size:=(by rw[T.gQ];omega);have h5:t.place[j+1]?=some t.place[j+1]:=Y8 O0;have a1:=J (j+1) _ cv h5;have a2:=T.iE j (j+1) _ _ (by omega) a4 h5;omega
   .omega
variable{A:Around}{E:Value->Shared->Prop}{s:Shared}
def Hl{a:Addr}{o:Obj}{ah:Array (Int×Value)}{a6:Nat}{t:SetTable}{i:Nat}{Q:Option (Value×Nat)->Shared->Prop}(av:s.heap.get? a=some o)(O:nu w o ah a6 t)(ai:i<=ah.size)(h:Q ((gu w a ah a6)[i]?.map λe=>(e.2,slotAt w t (i+1))) s):wpAny (model prog w) A (setNext a (slotAt w t i) i a6) Q E s:=by
 unfold setNext;refine YW (Z0 av O.data (Tab.fits O.tab) ?_);dsimp only;unfold setsByText;refine YW (YW (abb (YY ?_)));cases hw:w.params.followText "set-order" with
 |true =>
  have gs:(model prog w).w.params.followText "set-order"=true:=hw;simp only[gs,ZH];simp only[aaI,Y1,Zk];refine YW ?_;unfold setWalk;refine YW (Z0 av O.data (Tab.fits O.tab) ?_);unfold setsByText;refine YW (YW (abb (YY ?_)));simp only[gs,ZH];refine YW (abb (YY ?_));have aj:gu w a ah a6=pickOrder (w.params.setOrder a a6) ah:=(by unfold gu;rw[if_pos hw]);have ak:∀i,slotAt w t i=0:=λi=>by unfold slotAt;rw[if_pos hw]
  rw[aj]at h;refine YY ?_;simp only[ak]at h ⊢;exact h
 |false =>
  have gs:(model prog w).w.params.followText "set-order"=false:=hw;simp only[gs,Y1,Zk];have yU:(!t.plain&&decide (ah.size>1))=false:=(by rw[O.plain];rfl);show wpAny (model prog w) A (if (!t.plain&&decide (ah.size>1))=true then _ else _) Q E s;rw[yU];simp only[Y1,Zk];have O7:t.led=true:=O.led.mpr hw;refine YW ?_;show wpAny (model prog w) A (if (!t.led&&!ah.isEmpty)=true then _ else pure ()) _ E s;rw[O7];simp only[aaK,abo,Y1,Zk];refine YY ?_;rw[J4 O.tab hw ai];have aj:gu w a ah a6=ah:=(by unfold gu;rw[if_neg (by rw[hw];decide)]);rw[aj]at h;refine YY ?_
  by_cases c:i<ah.size
  .have g1:ah[i]?=some ah[i]:=Y8 c;have az:i<t.place.size:=(by rw[O.tab.gQ];exact c);have g2:t.place[i]?=some t.place[i]:=Y8 az;rw[g1]at h ⊢;rw[g2];have bu:slotAt w t (i+1)=t.place[i]+1:=(by unfold slotAt;rw[if_neg (by rw[hw];decide)];simp[Array.getD,az]);rw[bu]at h;exact h
  .have g1:ah[i]?=none:=aaW (by omega);rw[g1]at h ⊢;exact h
def next_item{it a:Addr}{o:Obj}{ah:Array (Int×Value)}{a6:Nat}{t:SetTable}{i:Nat}{x:Int×Value}{Q:Option Value->Shared->Prop}(av:s.heap.get? a=some o)(O:nu w o ah a6 t)(hit:nk s.heap it a (slotAt w t i) i ah.size a6)(ao:(gu w a ah a6)[i]?=some x)(es:∀h',nk h' it a (slotAt w t (i+1)) (i+1) ah.size a6->Heap.SameBut it s.heap h'->Q (some x.2) { s with heap:=h' }):wpAny (model prog w) A (pyNext (.ref it)) Q E s:=by
 obtain⟨oj,mL,yR,iy⟩:=id hit;have hsz:(gu w a ah a6).size=ah.size:=by have:=(pM w a ah a6).length_eq;simpa using this
 have ai:i<=ah.size:=by rw[<- hsz];exact aa7 (ZF.mp ao).1
 have ea:it≠a:=by
  rintro rfl;rw[av]at mL;cases mL;rw[O.data]at iy;cases iy
 unfold pyNext;refine YW (abP (aaf (name:=Str.ofString "__next__") hit.typeIs pZ
  (Z3 pZ hit.typeIs CR ?_ (BL _))))
 unfold Builtin.«set_iterator.__next__»;refine YW (m:=slotArgs _ _ _) (YY ?_);refine YW (ab5 mL iy ?_);dsimp only;refine YW (abY av O.data (Tab.fits O.tab) ?_);simp only[aaI,Y1,Zk];simp only[Int.toNat_natCast];refine YW (Hl av O ai ?_);rw[ao];simp only[Option.map_some];have h5:=ZI (Obj.mapFields (·.setIfInBounds 0 (rawInt (slotAt w t (i+1):Nat)))) mL (by obtain⟨c,d,qT,cp⟩:=oj;simp only at iy;subst iy;rfl);refine YW (abw mL iy (by simp) ?_);have ko:(Obj.mapFields (·.setIfInBounds 0 (rawInt (slotAt w t (i+1):Nat))) oj).data=.fields #[.int (slotAt w t (i+1):Nat) 0,.int i 0,.ref a,.int ah.size 0,.int a6 0]:=by
  obtain⟨c,d,qT,cp⟩:=oj;simp only at iy;subst iy;rfl
 have t7:(Obj.mapFields (·.setIfInBounds 0 (rawInt (slotAt w t (i+1):Nat))) oj).cls=.type "set_iterator":=by
  obtain⟨c,d,qT,cp⟩:=oj;simp only at iy yR;subst iy;exact yR
 generalize Obj.mapFields (·.setIfInBounds 0 (rawInt (slotAt w t (i+1):Nat))) oj=kH at h5 ko t7;refine YW (abw h5 ko (by simp) ?_);have ro:=ZI (Obj.mapFields (·.setIfInBounds 1 (rawInt ((i:Int)+1)))) h5 (by obtain⟨c,d,qT,cp⟩:=kH;simp only at ko;subst ko;rfl);refine YY ?_;refine⟨_,rfl,YY ?_⟩;refine es _ ⟨_,ro,?_,?_⟩ ((ZW ..).trans (ZW ..))
 .obtain⟨c,d,qT,cp⟩:=kH;simp only at ko t7;subst ko;exact t7
 .obtain⟨c,d,qT,cp⟩:=kH;simp only at ko t7;subst ko;rfl
def next_end{it a:Addr}{o:Obj}{ah:Array (Int×Value)}{a6:Nat}{t:SetTable}{Q:Option Value->Shared->Prop}(dc:A.handled=none)(av:s.heap.get? a=some o)(O:nu w o ah a6 t)(hit:nk s.heap it a (slotAt w t ah.size) ah.size ah.size a6)(es:∀h',Heap.ExtBut it s.heap h'->Q none { s with heap:=h' }):wpAny (model prog w) A (pyNext (.ref it)) Q E s:=by
 obtain⟨oj,mL,yR,iy⟩:=id hit;have hsz:(gu w a ah a6).size=ah.size:=by have:=(pM w a ah a6).length_eq;simpa using this
 unfold pyNext;refine YW (abP (aaf (name:=Str.ofString "__next__") hit.typeIs pZ
  (Z3 pZ hit.typeIs CR ?_ (BL _))))
 unfold Builtin.«set_iterator.__next__»;refine YW (m:=slotArgs _ _ _) (YY ?_);refine YW (ab5 mL iy ?_);dsimp only;refine YW (abY av O.data (Tab.fits O.tab) ?_);simp only[aaI,Y1,Zk];simp only[Int.toNat_natCast];refine YW (Hl av O (Y2 _) ?_);rw[aaW (by omega)];simp only[Option.map_none];refine YW (abw mL iy (by simp) ?_);show wpAny _ _ (newExc (.type "StopIteration") []>>=_) _ _ _;refine YW ?_;simp only[newExc,newTuple];refine YW (Zy ?_ (by size_fits));refine YW (m:=firstArgMember _ _) (wpAny_of_eq (a:=Value.none) (by first|rfl|(simp only[firstArgMember];rfl)) ?_);refine Zy ?_ (by size_fits);simp only[raiseNew];refine YW (wpAny_handled ?_);rw[show A.in1.handled=none from dc];refine YW (YY (wpAny_throw ?_));refine YW (aco (T:="StopIteration") (b:=true) ⟨_,Y7 _ rfl,rfl⟩ isSubtype_stop ?_);exact YY (es _ (((ZW ..).extBut.push _).push _))
def Qn{it a:Addr}{slot i n a6:Nat}{Q:Value->Shared->Prop}(hit:nk s.heap it a slot i n a6)(h:Q (.ref it) s):wpAny (model prog w) A (pyIter (.ref it)) Q E s:=by
 refine acf hit.typeIs HA (Z3 HA hit.typeIs Ms ?_ (JA _));show wpAny _ _ (ret (.ref it)) _ _ s;exact YY ⟨_,rfl,"set_iterator",_,hit.typeIs,pZ.lookup,h⟩
def Qo{a:Addr}{o:Obj}{ah:Array (Int×Value)}{a6:Nat}{t:SetTable}{Q:Value->Shared->Prop}(av:s.heap.get? a=some o)(O:nu w o ah a6 t)(es:Q (.ref s.heap.objs.size) { s with heap:=s.heap.push { cls:=.type "set_iterator",data:=.fields #[.int 0 0,.int 0 0,.ref a,.int ah.size 0,.int a6 0] } }):wpAny (model prog w) A (pyIter (.ref a)) Q E s:=by
 have c5:s.TypeIs (.ref a) "set":=⟨o,av,O.ex.1⟩;refine acf c5 Hz (Z3 Hz c5 Mr ?_ (Jz _));unfold Builtin.«frozenset.__iter__» Builtin.Frozenset.slot0 slotArgs;simp only[List.isEmpty_nil,aaK,Y1,↓reduceIte,bind_assoc,List.length_nil,aaI];unfold Builtin.Frozenset.addrOf Builtin.Frozenset.sizeOf;simp only[pure_bind,bind_assoc];refine YW (abY av O.data (Tab.fits O.tab) ?_);unfold setDrawn;simp only[bind_assoc];refine YW (Z0 av O.data (Tab.fits O.tab) ?_);unfold setsByText;simp only[bind_assoc];refine YW (abb ?_);simp only[pure_bind];have yU:∀b:Bool,(!b&&(!t.plain&&decide (ah.size>1)))=false:=λb=>by rw[O.plain];simp
 show wpAny (model prog w) A.in1 (if (!(model prog w).w.params.followText "set-order"&&(!t.plain&&decide (ah.size>1)))=true then _ else _) _ _ s;rw[yU];simp only[Y1,Zk,pure_bind];unfold setEpoch;simp only[bind_assoc,pure_bind];refine YW (Z0 av O.data (Tab.fits O.tab) ?_);dsimp only;refine YW (Zy (YY ⟨_,rfl,"set_iterator",_,⟨_,Y7 _ rfl,rfl⟩,pZ.lookup,?_⟩));exact es
def XG{A:Around}(dc:A.handled=none){I a:Addr}(ea:a≠I){o:Obj}{ah:Array (Int×Value)}{a6:Nat}{t:SetTable}(O:nu w o ah a6 t):
  Walks prog w A I [I,a] [I] ah.size (λi v=>∃x,(gu w a ah a6)[i]?=some x/\v=x.2) (λi h=>nk h I a (slotAt w t i) i ah.size a6/\h.get? a=some o) where
 sub:=λb ab=>by simp at ab;simp[ab]
 frame:=λi h h' st ax=>⟨let ⟨bG,e,r⟩:=st.1;⟨bG,ax I (by simp) bG e,r⟩,ax a (by simp) o st.2⟩
 item:=λi s Q E ai st es=>by
  have hsz:(gu w a ah a6).size=ah.size:=(by have:=(pM w a ah a6).length_eq;simpa using this);have ao:(gu w a ah a6)[i]?=some (gu w a ah a6)[i]:=Y8 (by omega);exact next_item st.2 O st.1 ao λh' bo dV=>es _ h' s.toks ⟨_,ao,rfl⟩ ⟨bo,(dV.2 a ea).trans st.2⟩ λb bG ab e=>dV.extBut b bG (λh=>ab (by simp[h])) e
 done:=λs Q E st es=>next_end dc st.2 O st.1 λh' he=>es h' s.toks λb bG ab e=>he b bG (λh=>ab (by simp[h])) e
 self:=λi s Q E st es=>Qn st.1 es
def OY{r:Addr}{Q:Bool->Shared->Prop}(c5:s.TypeIs (.ref r) "set")(h:Q false s):wpAny (model prog w) A (Builtin.List.listLengthHint (.ref r)) Q E s:=by
 unfold Builtin.List.listLengthHint;refine YW (acx c5 PySem.F.slot_set_len.lookup ?_);generalize Ed:("set.__len__":String)=P4
 wp_delta
 rw[show splitId P4=some ("set","__len__") from by subst Ed;decide +kernel];subst Ed;refine YW (aco (T:="set") (b:=true) c5 (by rw[ab4];kernel_rfl) ?_);refine wpAny_ite_split (λmG=>absurd mG (by decide)) (λ_=>?_);refine wpAny_ite_split (λ_=>?_) (λmG=>absurd (by decide +kernel) mG);refine YW (aaT c5 ?_);exact YY h
end
end Pv
end
section
namespace Pv
open PySem PySem.Spec PyProof.Rows PySem.W
section
variable{prog:Program}{w:World}{A:Around}{E:Value->Shared->Prop}{s:Shared}{it d:Addr}{ba:Obj}{ah:Array DictEntry}{i a6:Nat}
def LL{Q:Value->Shared->Prop}(aa:(d==sysModules)=false)(av:s.heap.get? d=some ba)(ao:ba.ExactDict)(hd:ba.data=.dict ah a6)(es:Q (.ref s.heap.objs.size) { s with heap:=s.heap.push { cls:=.type "dict_keyiterator",data:=.fields #[.ref d,.int 0 0,.int ah.size 0,.int a6 0] } }):wpAny (model prog w) A (pyIter (.ref d)) Q E s:=by
 have c5:s.TypeIs (.ref d) "dict":=⟨ba,av,ao.1⟩;refine acf c5 F.slot_dict_iter (Z3 F.slot_dict_iter c5 F.entry_dict_iter ?_ (F.args_dict_iter_1 _));unfold Builtin.«dict.__iter__»;refine YW ?_;unfold Builtin.Dict.dictSlotNone;refine YW (wpAny_notOrdered_dict c5 ?_);show wpAny _ _ (pure (Value.ref d)) _ _ s;refine YY ?_;show wpAny _ _ (Builtin.Dict.showsAll d>>=_) _ _ s;unfold Builtin.Dict.showsAll;rw[if_neg (by rw[aa];exact ZS)];refine YW (YY ?_);refine YW (acg av hd ?_);refine YW (acC av hd ?_);refine YW (Zy (YY ⟨_,rfl,"dict_keyiterator",_,⟨_,Y7 _ rfl,rfl⟩,aac.lookup,?_⟩));simpa[rawInt] using es
def LM{Q:Option Value->Shared->Prop}(hit:s.heap.IsKeyIter it d i ah.size a6)(rz:s.heap.get? d=some ba)(rk:ba.data=.dict ah a6)(bV:i<ah.size)(es:∀h',h'.IsKeyIter it d (i+1) ah.size a6->Heap.SameBut it s.heap h'->Q (some ah[i].key) { s with heap:=h' }):wpAny (model prog w) A (pyNext (.ref it)) Q E s:=by
 obtain⟨o,av,ag,hd⟩:=id hit;unfold pyNext;refine YW (abP (aaf (name:=Str.ofString "__next__") hit.typeIs aac
  (Z3 aac hit.typeIs abT ?_ (abJ _))))
 refine YW (YY ?_);refine YW ?_;refine YW ?_
 first|refine YW (aam hit.typeIs (YY ?_))|refine YW (aaM hit.typeIs (YY ?_))
 refine YW (ab5 av hd ?_);simp only[show Builtin.Dict_items.ownsTuple "dict_keyiterator"=false by decide,Y1,Zk];show wpAny _ _ (if (Value.ref d==Value.none)=true then _ else _) _ _ s;rw[if_neg (show ¬((Value.ref d==Value.none)=true) from ZS)];refine YW (YY ?_);refine YW (acg rz rk ?_);rw[if_neg (by simp)];refine YW (YY ?_);refine YW (acC rz rk ?_);rw[if_neg (by simp)];refine YY ?_;simp only[show ¬((i:Int)<0) from by omega,Zk,Int.toNat_natCast,Y8 bV];refine YW ?_
 first|refine YW (aam hit.typeIs (YY ?_))|refine YW (aaM hit.typeIs (YY ?_))
 refine YW (wpAny_isOneOf_keyiter hit.typeIs ?_);show wpAny _ _ (setField (.ref it) 1 (rawInt ((i:Int)+1))>>=_) _ _ s;refine YW (abw av hd (by simp) ?_);have Eg:(s.heap.update it (Obj.mapFields (·.setIfInBounds 1 (rawInt ((i:Int)+1))))).IsKeyIter it d (i+1) ah.size a6 :=
  ⟨_,ZI _ av (Obj.isFreed_of_fields (Obj.data_mapFields hd _)),(Obj.cls_mapFields ..).trans ag,by rw[Obj.data_mapFields hd];simp[rawInt]⟩
 refine YW (Z9 ?_);refine YW (wpAny_isOneOf_keyiter (s:={ s with heap:=s.heap.update it (Obj.mapFields (·.setIfInBounds 1 (rawInt ((i:Int)+1)))) }) Eg.typeIs ?_);show wpAny _ _ (pure ah[i].key) _ _ _;exact YY (YY ⟨_,rfl,YY (es _ Eg (ZW ..))⟩)
def LK{Q:Option Value->Shared->Prop}(dc:A.handled=none)(hit:s.heap.IsKeyIter it d ah.size ah.size a6)(rz:s.heap.get? d=some ba)(rk:ba.data=.dict ah a6)(es:∀h',Heap.ExtBut it s.heap h'->Q none { s with heap:=h' }):wpAny (model prog w) A (pyNext (.ref it)) Q E s:=by
 obtain⟨o,av,ag,hd⟩:=id hit;unfold pyNext;refine YW (abP (aaf (name:=Str.ofString "__next__") hit.typeIs aac
  (Z3 aac hit.typeIs abT ?_ (abJ _))))
 refine YW (YY ?_);refine YW ?_;refine YW ?_
 first|refine YW (aam hit.typeIs (YY ?_))|refine YW (aaM hit.typeIs (YY ?_))
 refine YW (ab5 av hd ?_);simp only[show Builtin.Dict_items.ownsTuple "dict_keyiterator"=false by decide,Y1,Zk];show wpAny _ _ (if (Value.ref d==Value.none)=true then _ else _) _ _ s;rw[if_neg (show ¬((Value.ref d==Value.none)=true) from ZS)];refine YW (YY ?_);refine YW (acg rz rk ?_);rw[if_neg (by simp)];refine YW (YY ?_);refine YW (acC rz rk ?_);rw[if_neg (by simp)];refine YY ?_;simp only[show ¬((ah.size:Int)<0) from by omega,Zk,Int.toNat_natCast,aaW (Y2 ah.size)];refine YW ?_
 first|refine YW (aam hit.typeIs (YY ?_))|refine YW (aaM hit.typeIs (YY ?_))
 show wpAny _ _ (setField (.ref it) 0 .none>>=_) _ _ s;refine YW (abw av hd (by simp) ?_);show wpAny _ _ (newExc (.type "StopIteration") []>>=_) _ _ _;refine YW ?_;simp only[newExc,newTuple];refine YW (Zy ?_ (by size_fits));refine YW (m:=firstArgMember _ _) (wpAny_of_eq (a:=Value.none) (by first|rfl|(simp only[firstArgMember];rfl)) ?_);refine Zy ?_ (by size_fits);simp only[raiseNew];refine YW (wpAny_handled ?_);rw[show A.in1.handled=none from dc];refine YW (YY (wpAny_throw ?_));refine YW (aco (T:="StopIteration") (b:=true) ⟨_,Y7 _ rfl,rfl⟩ isSubtype_stop ?_);exact YY (es _ (((ZW ..).extBut.push _).push _))
end
section
variable{prog:Program}{w:World}{A:Around}{d:Addr}{ba:Obj}{ah:Array DictEntry}{a6:Nat}
end
end Pv
end
section
namespace Pv
open PySem PySem.Spec PyProof.Rows f3 PySem.SetTable
section
variable{prog:Program}{w:World}{A:Around}{E:Value->Shared->Prop}{s:Shared}
def KW {l : Addr} {ae : List Value} {Q : List Value -> Shared -> Prop} (aA : s.heap.IsTuple l ae.toArray)
    (h : Q ae { s with heap := (s.heap.push (seqObj "list" #[] 0)).update s.heap.objs.size (Obj.mapSeq (· ++ ae.toArray)) }) (hsz : ae.length <= sizeLine) :
    wpAny (model prog w) A (collect (.ref l)) Q E s := by
  obtain ⟨o, av, ag, n, hd⟩ := id aA
  unfold collect
  refine YW (ab3 (aab entry_proto_collect' ?_))
  show wpAny _ _ (do again (.builtin "list.__iadd__" ⟨[<- newList [], .ref l], []⟩)) _ _ s
  refine YW (wpAny_newList (YY ⟨Code.quiet_builtin _ (by decide +kernel), aab entry_list_iadd' ?_⟩))
  show wpAny _ _ (Builtin.List.listExtendWith (.ref s.heap.objs.size) (.ref l) (.ref s.heap.objs.size)) _ _ { s with heap := s.heap.push (seqObj "list" #[] 0) }
  unfold Builtin.List.listExtendWith
  have dI : (s.heap.push (seqObj "list" #[] 0)).get? l = some o := YZ _ av
  refine YW (aaT (T := "tuple") ⟨o, dI, ag⟩ ?_)
  have ay : (Value.type "tuple" == Value.type "tuple") = true := by rfl
  rw [if_pos (by rw [ay]; simp)]
  refine YW (listItems_at dI hd ?_)
  refine YW (listItems_at (xs := #[]) (n := 0) (Y7 _ rfl) rfl ?_)
  rw [if_neg (by simp)]
  refine YW (listUpdate_at (xs := #[]) (n := 0) (Y7 _ rfl) rfl ?_ (Zo _) (by show (#[] ++ ae.toArray).size <= sizeLine + 1; simp only [aca, Y4, List.length_nil]; omega))
  refine YY ?_
  show wpAny (model prog w) A (do
      let o <- load s.heap.objs.size
      match o.data with
      | .seq xs _ => pure xs.toList
      | _ => unsupported "internal:collect") Q E { s with heap := (s.heap.push (seqObj "list" #[] 0)).update s.heap.objs.size (Obj.mapSeq (· ++ ae.toArray)) }
  refine YW (wpAny_load (get?_update_seq (Y7 _ rfl) _) ?_)
  show wpAny _ _ (pure ((#[] : Array Value) ++ ae.toArray).toList) Q E _
  rw [show ((#[] : Array Value) ++ ae.toArray).toList = ae by simp]
  exact YY h
noncomputable def sY(s s':Shared):Prop:=(∀b o,s.heap.get? b=some o->s'.heap.get? b=some o)/\s'.gens=s.gens/\s'.drawn=s.drawn/\s'.os=s.os
def KU{r:Addr}{a b c:Int}{t u v:Tok}{n:Nat}{Q:List Value->Shared->Prop}(dc:A.handled=none)(a9:IsRange s.heap r a b c t u v)(PJ:Builtin.Range.small a b c=true)(aD:Builtin.Range.rangeSize a b c=n)(hlen:n<=2 ^ 24)(es:∀s' acc,sY s s'->ItemsOf (λi v=>∃t,v=.int (a+i*c) t) acc n->Q acc.toList s'):wpAny (model prog w) A (collect (.ref r)) Q E s:=by
 unfold collect;refine YW (ab3 (aab F.entry_proto_collect ?_));rw[aah F.plain_proto_collect _];show wpAny _ A.in1 (newList []>>=λl=>again (.builtin "list.__iadd__" ⟨[l,.ref r],[]⟩)) _ _ s;refine YW (Zy ?_);refine YY ⟨abO abx _,aab F.entry_list_iadd ?_⟩;rw[aah abx _];show wpAny _ A.in1 (Builtin.List.listExtendWith (.ref s.heap.objs.size) (.ref r) (.ref s.heap.objs.size)) _ _ _;have bh:(s.heap.push { cls:=.type "list",data:=.seq ([]:List Value).toArray }).get? s.heap.objs.size=some { cls:=.type "list",data:=.seq ([]:List Value).toArray }:=Y7 _ rfl;refine wpAny_extend_range (A:=A) (R:=wants _ E) (s:={ s with heap:=s.heap.push { cls:=.type "list",data:=.seq ([]:List Value).toArray } }) dc (YZ _ a9) PJ aD hlen s.heap.objs.size (.ref s.heap.objs.size) 0 bh λh' tk wD c2 ax km iw=>?_
 show wpAny _ A (load s.heap.objs.size>>=_) _ _ _;refine YW (wpAny_load km ?_);exact YY (es _ wD ⟨λb o e=>ax b o (Zh (Y5 e)) (YZ _ e),rfl,rfl,rfl⟩ iw)
def KV{a:Addr}{o:Obj}{ah:Array (Int×Value)}{a6:Nat}{t:SetTable}{Q:List Value->Shared->Prop}(dc:A.handled=none)(av:s.heap.get? a=some o)(O:nu w o ah a6 t)(aD:ah.size<=sizeLine)(es:∀s' acc,sY s s'->ItemsOf (λi v=>∃x,(gu w a ah a6)[i]?=some x/\v=x.2) acc ah.size->Q acc.toList s'):wpAny (model prog w) A (collect (.ref a)) Q E s:=by
 have bV:a<s.heap.objs.size:=Y5 av;unfold collect;refine YW (ab3 (aab F.entry_proto_collect ?_));rw[aah F.plain_proto_collect _];show wpAny _ A.in1 (newList []>>=λl=>again (.builtin "list.__iadd__" ⟨[l,.ref a],[]⟩)) _ _ s;refine YW (Zy ?_);refine YY ⟨abO abx _,aab F.entry_list_iadd ?_⟩;rw[aah abx _];show wpAny _ A.in1 (Builtin.List.listExtendWith (.ref s.heap.objs.size) (.ref a) (.ref s.heap.objs.size)) _ _ _;unfold Builtin.List.listExtendWith;have n1:(s.heap.push { cls:=.type "list",data:=.seq ([]:List Value).toArray }).get? a=some o:=YZ _ av;refine YW (aaT (T:="set") ⟨o,n1,O.ex.1⟩ ?_);have C:Builtin.List.listSameRef (.ref s.heap.objs.size) (.ref a)=false:=by
  have ea:s.heap.objs.size≠a:=Z6 (Zh bV);simp[Builtin.List.listSameRef,ea]
 have J:(Value.type "set"==Value.type "list")=false:=by decide
 have aC:(Value.type "set"==Value.type "tuple")=false:=by decide
 simp only[C,J,aC,Bool.or_false,Y1,Zk];refine YW (Qo (s:={ s with heap:=s.heap.push { cls:=.type "list",data:=.seq ([]:List Value).toArray } }) n1 O ?_);generalize f7:s.heap.push { cls:=.type "list",data:=.seq ([]:List Value).toArray }=H at *;have yH:H.objs.size=s.heap.objs.size+1:=by rw[<- f7,Heap.size_push]
 have Pb:a<H.objs.size:=by rw[yH];exact Nat.lt_succ_of_lt bV
 refine YW (Z9 (OY ⟨o,YZ _ n1,O.ex.1⟩ ?_));rw[if_pos (by decide)];have ea:a≠H.objs.size:=Zh Pb;have D1:s.heap.objs.size≠H.objs.size:=by rw[yH];exact Zh (aax _)
 have D2:s.heap.objs.size≠a:=Z6 (Zh bV);have o8:s.heap.objs.size∉[H.objs.size,a]:=λhm=>by
  rcases Y0.mp hm with e|e
  .exact D1 e
  .exact D2 (Zb.mp e)
 generalize t4:H.push { cls:=.type "set_iterator",data:=.fields #[.int 0 0,.int 0 0,.ref a,.int ah.size 0,.int a6 0] }=dB;have bh:dB.get? s.heap.objs.size=some { cls:=.type "list",data:=.seq ([]:List Value).toArray }:=t4▸YZ _ (f7▸Y7 _ rfl);have Po:dB.get? a=some o:=t4▸YZ _ n1;have OQ:dB.get? H.objs.size=some { cls:=.type "set_iterator",data:=.fields #[.int 0 0,.int 0 0,.ref a,.int ah.size 0,.int a6 0] }:=t4▸Y7 _ rfl;have OO:A.in1.handled=none:=dc;have st0:slotAt w t 0=0:=by unfold slotAt;split<;>rfl
 refine YW (acv ?_);refine YW ?_;show wpAny _ A.in1 (updateSeq s.heap.objs.size (·.push .none)>>=λ_=>updateSeq s.heap.objs.size (·.pop)) _ _ _;refine YW (abW bh rfl ?_);have D4:=ZI (Obj.mapSeq (·.push Value.none)) bh rfl;refine abW D4 rfl ?_;have Ov:=ZI (Obj.mapSeq (·.pop)) D4 rfl;have z5:∀b b8,b≠s.heap.objs.size->dB.get? b=some b8->((dB.update s.heap.objs.size (Obj.mapSeq (·.push Value.none))).update s.heap.objs.size (Obj.mapSeq (·.pop))).get? b=some b8 :=
  λb b8 ab e=>(ZT _ _ (Z6 ab)).trans ((ZT _ _ (Z6 ab)).trans e)
 refine YY ⟨abO F.plain_extend_loop _,codeAny_extend_loopS (XG (prog:=prog) (A:=A.in1) OO ea O).toS aD _ o8 _ ah.size 0 _ _ _ rfl (Zo _) ⟨⟨_,z5 _ _ (Z6 D1) OQ,rfl,by rw[st0];rfl⟩,z5 _ _ (Z6 D2) Po⟩ Ov (ItemsOf.nil _) λs' wD c2 hm km iw=>?_⟩;show wpAny _ A (load s.heap.objs.size>>=_) _ _ s';refine YW (wpAny_load km ?_);refine YY (es s' wD ⟨λb b8 e=>hm.heap b b8 (λab=>?_) (z5 b b8 (Zh (Y5 e)) (t4▸YZ _ (f7▸YZ _ e))),hm.gens,hm.drawn,hm.os⟩ iw);have ud:=Y5 e;rcases Y0.mp ab with h|h
 .rw[h]at ud;exact aau _ ud
 .rw[Zb.mp h,yH]at ud;exact absurd ud (Nat.not_lt.mpr (Nat.le_succ _))
end
end Pv
end
section
namespace Tm
open PySem PyProof.Rows
noncomputable def tV:Bool->Keyed->Array Keyed->Nat->Nat->Nat->StateT SortSt Sem (Option Nat):=sortPriv% PySem.Builtin.gallop
noncomputable def JT(left:Bool)(key x:Keyed):StateT SortSt Sem (Option Bool):=if left then lt' x key else do return (<- lt' key x).map (!·)
noncomputable def J5(left:Bool)(key:Keyed)(arr:Array Keyed)(j:Nat):StateT SortSt Sem (Option Bool):=do
 let x <- elem' arr j
 JT left key x
noncomputable def bs(left:Bool)(key:Keyed)(arr:Array Keyed)(b n lo ai:Nat):StateT SortSt Sem (Option Nat):=do
 let mut lo:=lo
 let mut ai:=ai
 for _ in [0:n] do
  if lo>=ai then break
  let m:=lo+(ai-lo) / 2
  let some q <- J5 left key arr (b+m)|return none
  if q then lo:=m+1 else ai:=m
 return some ai
section
variable{M:Model}{A:Around}{E:Value->Shared->Prop}{s:Shared}{left:Bool}{key:Keyed}{arr:Array Keyed}{b n h:Nat}{p:Nat->Bool}{st:SortSt}{Q:Option Nat->SortSt->Prop}
end
noncomputable abbrev setG(st:SortSt)(g:Nat):SortSt:=SortSt.mk' (kindOf st) (arrOf st) (pendingOf st) g (failedOf st)
structure hF(M:Model)(A:Around)(E:Value->Shared->Prop)(s:Shared)(κ:SortKind)(S:Keyed->Prop)(lt:Keyed->Keyed->Bool):Prop where
 ask:∀(x y:Keyed)(st:SortSt)(Q:Option Bool->SortSt->Prop),S x->S y->kindOf st=κ->Q (some (lt x y)) st->wpS M A E s (lt' x y) Q st
 nB:∀x y,S x->S y->lt x y=true->lt y x=false
 fM:∀x y z,S x->S y->S z->lt y x=false->lt z y=false->lt z x=false
noncomputable abbrev le(lt:Keyed->Keyed->Bool)(x y:Keyed):Prop:=lt y x=false
noncomputable def dm(st bo:SortSt):Prop:=kindOf bo=kindOf st/\arrOf bo=arrOf st/\pendingOf bo=pendingOf st/\failedOf bo=failedOf st
section
variable{M:Model}{A:Around}{E:Value->Shared->Prop}{s:Shared}{κ:SortKind}{S:Keyed->Prop}{lt:Keyed->Keyed->Bool}{a b:Array Keyed}{st bo:SortSt}
def CQ{i:Nat}{Q:Keyed->SortSt->Prop}(h:i<a.size)(q:Q a[i] st):wpS M A E s (elem' a i) Q st:=by
 rw[elem'_eq,Y8 h];exact aai q
noncomputable def oN(lt:Keyed->Keyed->Bool)(a:Array Keyed)(i n:Nat):Prop:=∀x y (ao:x<a.size) (aV:y<a.size),i<=x->x<=y->y<i+n->le lt a[x] a[y]
end
structure Jb(lt:Keyed->Keyed->Bool)(a b r:List Keyed)(i j:Nat):Prop where
 perm:(r++(a.drop i++b.drop j)).Perm (a++b)
 cb:(r++a.drop i).Pairwise (le lt)
 dA:(r++b.drop j).Pairwise (le lt)
noncomputable def Bu(lt:Keyed->Keyed->Bool)(a b r:List Keyed):Prop:=r.Perm (a++b)/\r.Pairwise (le lt)
section
variable{lt:Keyed->Keyed->Bool}{a b r:List Keyed}{i j k:Nat}
end
noncomputable abbrev qj(a b r:Array Keyed)(i j:Nat):Array Keyed:=r++a.extract i a.size++b.extract j b.size
noncomputable abbrev eA(a b r:Array Keyed)(i j:Nat):Array Keyed:=r++b.extract j b.size++a.extract i a.size
noncomputable abbrev TT:Type:=Option (Array Keyed)×Array Keyed×Nat×Nat×Nat×Nat×Nat
noncomputable def df(a b r:Array Keyed)(i j aX ca eJ:Nat):StateT SortSt Sem (ForInStep TT):=do
 let x <- elem' a i
 if i+1+1==a.size then pure (.done (some (eA a b (r.push x) (i+1) j),r.push x,i+1,j,aX,ca,eJ))
 else if ca<7&&eJ<7 then pure (.done (none,r.push x,i+1,j,aX,ca,eJ)) else pure (.yield (none,r.push x,i+1,j,aX,ca,eJ))
noncomputable def bL(a b r:Array Keyed)(i j aX ca eJ:Nat):StateT SortSt Sem (ForInStep TT):=do
 let y <- elem' b j
 if j+1==b.size then pure (.done (some (qj a b (r.push y) i (j+1)),r.push y,i,j+1,aX,ca,eJ))
 else do
  let x <- elem' a i
  let q <- tV true x b (j+1) (b.size-(j+1)) 0
  match q with
  |some k =>
   if k>0 then
    if j+1+k==b.size then pure (.done (some (qj a b (r.push y++b.extract (j+1) (j+1+k)) i (j+1+k)),r.push y++b.extract (j+1) (j+1+k),i,j+1+k,aX,ca,k))
    else df a b (r.push y++b.extract (j+1) (j+1+k)) i (j+1+k) aX ca k
   else df a b (r.push y) i (j+1) aX ca k
  |_=>pure (.done (some (qj a b (r.push y) i (j+1)),r.push y,i,j+1,aX,ca,eJ))
noncomputable def bb(a b r:Array Keyed)(i j aX ca eJ:Nat):StateT SortSt Sem (ForInStep TT):=do
 modify λs=>setG s aX
 let y <- elem' b j
 let q <- tV false y a i (a.size-i) 0
 match q with
 |some k =>
  if k>0 then
   if i+k+1==a.size then pure (.done (some (eA a b (r++a.extract i (i+k)) (i+k) j),r++a.extract i (i+k),i+k,j,aX,k,eJ))
   else if i+k==a.size then pure (.done (some (qj a b (r++a.extract i (i+k)) (i+k) j),r++a.extract i (i+k),i+k,j,aX,k,eJ))
   else bL a b (r++a.extract i (i+k)) (i+k) j aX k eJ
  else bL a b r i j aX k eJ
 |_=>pure (.done (some (qj a b r i j),r,i,j,aX,ca,eJ))
section
variable{M:Model}{A:Around}{E:Value->Shared->Prop}{s:Shared}{κ:SortKind}{S:Keyed->Prop}{lt:Keyed->Keyed->Bool}{a b r:Array Keyed}{st0 st:SortSt}{i j aX ca eJ N:Nat}
structure Pre(S:Keyed->Prop)(lt:Keyed->Keyed->Bool)(a b:Array Keyed):Prop where
 sx:∀x (ao:x<a.size),S a[x]
 dV:∀x (ao:x<b.size),S b[x]
 R0:oN lt a 0 a.size
 b8:oN lt b 0 b.size
 last:∀y∈b.toList,∀x,a.toList[a.toList.length-1]?=some x->le lt y x
noncomputable def I8(lt:Keyed->Keyed->Bool)(a b:Array Keyed)(N:Nat)(r:Array Keyed)(i j:Nat):Prop:=Jb lt a.toList b.toList r.toList i j/\i+1<a.size/\j<b.size/\r.size=i+j/\N<=r.size
noncomputable def eh(lt:Keyed->Keyed->Bool)(a b:Array Keyed)(N:Nat)(t:TT):Prop:=match t.1 with
 |some res=>Bu lt a.toList b.toList res.toList
 |none=>I8 lt a b N t.2.1 t.2.2.1 t.2.2.2.1
end
noncomputable abbrev gk:Type:=Option (Array Keyed)×Array Keyed×Nat×Nat×Nat×Nat
noncomputable abbrev nv:Type:=Option (Array Keyed)×Array Keyed×Nat×Nat×Nat
section
variable{M:Model}{A:Around}{E:Value->Shared->Prop}{s:Shared}{κ:SortKind}{S:Keyed->Prop}{lt:Keyed->Keyed->Bool}{a b r:Array Keyed}{st0 st:SortSt}{i j aX ca eJ N:Nat}
def kZ{α:Type}{c:Prop}[Decidable c]{t e:StateT SortSt Sem α}{Q:α->SortSt->Prop}(C:c->wpS M A E s t Q st)(J:¬c->wpS M A E s e Q st):wpS M A E s (if c then t else e) Q st:=by
 by_cases h:c
 .rw[if_pos h];exact C h
 .rw[if_neg h];exact J h
def V1(h:oN lt a 0 a.size):a.toList.Pairwise (le lt):=by
 rw[aaC];intro x y ao aV rH;rw[Array.length_toList]at ao aV;exact h x y ao aV (Zo _) (aa7 rH) (by omega)
end
structure I9(lt:Keyed->Keyed->Bool)(a b t:List Keyed)(i j:Nat):Prop where
 perm:(a.take i++b.take j++t).Perm (a++b)
 cC:(a.take i++t).Pairwise (le lt)
 cS:(b.take j++t).Pairwise (le lt)
section
variable{lt:Keyed->Keyed->Bool}{a b t:List Keyed}{i j q:Nat}
end
noncomputable abbrev qn(a b r:Array Keyed)(i j:Nat):Array Keyed:=a.extract 0 i++b.extract 0 j++r.reverse
noncomputable abbrev eU(a b r:Array Keyed)(i j:Nat):Array Keyed:=b.extract 0 j++a.extract 0 i++r.reverse
noncomputable abbrev qv:Type:=Option (Array Keyed)×Nat×Nat×Array Keyed×Nat×Nat×Nat
noncomputable def aC(a b r:Array Keyed)(i j aX ca eJ:Nat):StateT SortSt Sem (ForInStep qv):=do
 let x <- elem' a (i-1)
 if i-1==0 then pure (.done (some (qn a b (r.push x) (i-1) j),i-1,j,r.push x,aX,ca,eJ))
 else if ca<7&&eJ<7 then pure (.done (none,i-1,j,r.push x,aX,ca,eJ)) else pure (.yield (none,i-1,j,r.push x,aX,ca,eJ))
noncomputable def J(a b r:Array Keyed)(i j aX ca eJ:Nat):StateT SortSt Sem (ForInStep qv):=do
 let y <- elem' b (j-1)
 if j-1==1 then pure (.done (some (eU a b (r.push y) i (j-1)),i,j-1,r.push y,aX,ca,eJ))
 else do
  let x <- elem' a (i-1)
  let o <- tV true x b 0 (j-1) (j-1-1)
  match o with
  |some q =>
   if j-1-q>0 then
    if q==1 then pure (.done (some (eU a b (r.push y++(b.extract q (j-1)).reverse) i q),i,q,r.push y++(b.extract q (j-1)).reverse,aX,ca,j-1-q))
    else if q==0 then pure (.done (some (qn a b (r.push y++(b.extract q (j-1)).reverse) i q),i,q,r.push y++(b.extract q (j-1)).reverse,aX,ca,j-1-q))
    else aC a b (r.push y++(b.extract q (j-1)).reverse) i q aX ca (j-1-q)
   else aC a b (r.push y) i (j-1) aX ca (j-1-q)
  |_=>pure (.done (some (qn a b (r.push y) i (j-1)),i,j-1,r.push y,aX,ca,eJ))
noncomputable def C(a b r:Array Keyed)(i j aX ca eJ:Nat):StateT SortSt Sem (ForInStep qv):=do
 modify λs=>setG s aX
 let y <- elem' b (j-1)
 let o <- tV false y a 0 i (i-1)
 match o with
 |some q =>
  if i-q>0 then
   if q==0 then pure (.done (some (qn a b (r++(a.extract q i).reverse) q j),q,j,r++(a.extract q i).reverse,aX,i-q,eJ))
   else J a b (r++(a.extract q i).reverse) q j aX (i-q) eJ
  else J a b r i j aX (i-q) eJ
 |_=>pure (.done (some (qn a b r i j),i,j,r,aX,ca,eJ))
section
variable{M:Model}{A:Around}{E:Value->Shared->Prop}{s:Shared}{κ:SortKind}{S:Keyed->Prop}{lt:Keyed->Keyed->Bool}{a b r:Array Keyed}{st0 st:SortSt}{i j aX ca eJ N:Nat}
structure X3(S:Keyed->Prop)(lt:Keyed->Keyed->Bool)(a b:Array Keyed):Prop where
 sx:∀x (ao:x<a.size),S a[x]
 dV:∀x (ao:x<b.size),S b[x]
 R0:oN lt a 0 a.size
 b8:oN lt b 0 b.size
 first:∀x∈b.toList.take 1,∀y∈a.toList,le lt x y
noncomputable abbrev Ja(lt:Keyed->Keyed->Bool)(a b r:Array Keyed)(i j:Nat):Prop:=I9 lt a.toList b.toList r.toList.reverse i j
noncomputable def I7(lt:Keyed->Keyed->Bool)(a b:Array Keyed)(N:Nat)(r:Array Keyed)(i j:Nat):Prop:=Ja lt a b r i j/\0<i/\i<=a.size/\1<j/\j<=b.size/\r.size+i+j=a.size+b.size/\N<=r.size
noncomputable def Bz(lt:Keyed->Keyed->Bool)(a b:Array Keyed)(N:Nat)(t:qv):Prop:=match t.1 with
 |some res=>Bu lt a.toList b.toList res.toList
 |none=>I7 lt a b N t.2.2.2.1 t.2.1 t.2.2.1
noncomputable def mc(lt:Keyed->Keyed->Bool)(a b:Array Keyed)(N:Nat)(st0:SortSt)(f:ForInStep qv)(st:SortSt):Prop:=dm st0 st/\match f with
 |.done t=>Bz lt a b N t
 |.yield t=>t.1=none/\Bz lt a b N t
end
noncomputable abbrev tb:Type:=Option (Array Keyed)×Nat×Nat×Array Keyed×Nat
section
variable{M:Model}{A:Around}{E:Value->Shared->Prop}{s:Shared}{κ:SortKind}{S:Keyed->Prop}{lt:Keyed->Keyed->Bool}{a b r:Array Keyed}{st0 st:SortSt}{i j aX ca eJ N:Nat}
end
section
variable{M:Model}{A:Around}{E:Value->Shared->Prop}{s:Shared}{κ:SortKind}{S:Keyed->Prop}{lt:Keyed->Keyed->Bool}{st:SortSt}
def hF.gc(O:hF M A E s κ S lt){x:Keyed}(h:S x):lt x x=false:=by
 cases e:lt x x with
 |false=>rfl
 |true=>exact(O.nB x x h h e▸e).symm▸rfl
end
noncomputable abbrev at_(c:Array Keyed)(x:Nat):Keyed:=c.getD x (Value.none,Value.none)
def qC{c:Array Keyed}{x:Nat}(h:x<c.size):at_ c x=c[x]:=by
 show c.getD x _=_;unfold Array.getD;rw[dif_pos h];rfl
def oP{c d:Array Keyed}{x y:Nat}(h:c[x]?=d[y]?):at_ c x=at_ d y:=by
 show c.getD x _=d.getD y _;rw[ZZ,ZZ,h]
def jE{c:Array Keyed}{i j:Nat}(aJ:j<=c.size)(k:Nat):at_ (mirror c i j ((j-i) / 2)) k=if i<=k/\k<j then at_ c (i+j-1-k) else at_ c k:=by
 have h:=getElem?_mirror (i:=i) aJ ((j-i) / 2) (by omega) k
 by_cases c9:(i<=k/\k<i+(j-i) / 2)\/(j-(j-i) / 2<=k/\k<j)
 .rw[if_pos c9]at h;rw[if_pos (by omega)];exact oP h
 .rw[if_neg c9]at h
  by_cases cv:i<=k/\k<j
  .rw[if_pos cv];have:i+j-1-k=k:=(by omega);rw[this];exact oP h
  .rw[if_neg cv];exact oP h
def wN{c:Array Keyed}{k d:Nat}(ax:k<c.size)(hd:d<=k)(x:Nat):at_ (bubble c k d) x=if x=k-d then at_ c k else if k-d<x/\x<=k then at_ c (x-1) else at_ c x:=by
 have h:=getElem?_bubble ax d hd x
 by_cases c9:x=k-d
 .rw[if_pos c9]at h ⊢;exact oP h
 .rw[if_neg c9]at h ⊢
  by_cases cv:k-d<x/\x<=k
  .rw[if_pos cv]at h ⊢;exact oP h
  .rw[if_neg cv]at h ⊢;exact oP h
noncomputable def fc(lt:Keyed->Keyed->Bool)(c:Array Keyed)(l n:Nat):Prop:=∀x y,l<=x->x<=y->y<l+n->le lt (at_ c x) (at_ c y)
noncomputable def Dec(lt:Keyed->Keyed->Bool)(c:Array Keyed)(l n:Nat):Prop:=∀x y,l<=x->x<=y->y<l+n->le lt (at_ c y) (at_ c x)
structure ei(c d:Array Keyed)(l h:Nat):Prop where
 size:d.size=c.size
 perm:d.toList.Perm c.toList
 out:∀k,(k<l\/h<=k)->at_ d k=at_ c k
theorem ei.refl(c:Array Keyed)(l h:Nat):ei c c l h:=⟨rfl,.refl _,λ_ _=>rfl⟩
theorem ei.trans{c d e:Array Keyed}{l h:Nat}(x:ei c d l h)(y:ei d e l h):ei c e l h:=⟨y.size.trans x.size,y.perm.trans x.perm,λk q=>(y.out k q).trans (x.out k q)⟩
def ei.mono{c d:Array Keyed}{l h jj h':Nat}(x:ei c d l h)(a:jj<=l)(b:h<=h'):ei c d jj h':=⟨x.size,x.perm,λk q=>x.out k (by omega)⟩
def ei.rev{c:Array Keyed}{i j:Nat}(aJ:j<=c.size):ei c (mirror c i j ((j-i) / 2)) i j :=
 ⟨mirror_size ..,Array.perm_iff_toList_perm.mp (mirror_perm ..),λk q=>by rw[jE aJ,if_neg (by omega)]⟩
def ei.Ki{c:Array Keyed}{k d:Nat}(ax:k<c.size)(hd:d<=k):ei c (bubble c k d) (k-d) (k+1) :=
 ⟨bubble_size ..,Array.perm_iff_toList_perm.mp (bubble_perm ..),λx q=>by rw[wN ax hd,if_neg (by omega),if_neg (by omega)]⟩
section
variable{M:Model}{A:Around}{E:Value->Shared->Prop}{s:Shared}{κ:SortKind}{S:Keyed->Prop}{lt:Keyed->Keyed->Bool}{st bo:SortSt}{c d:Array Keyed}{l h n:Nat}
noncomputable abbrev fN(S:Keyed->Prop)(c:Array Keyed):Prop:=∀x∈c.toList,S x
theorem fN.at_(h:fN S c){x:Nat}(ao:x<c.size):S (at_ c x):=by rw[qC ao];exact h _ (by simp)
def fN.perm(h:fN S c)(p:d.toList.Perm c.toList):fN S d:=λx ao=>h x (p.mem_iff.mp ao)
def qB(O:hF M A E s κ S lt)(ax:kindOf st=κ)(bh:fN S (arrOf st)){i j:Nat}(ai:i<(arrOf st).size)(aJ:j<(arrOf st).size){Q:Option Bool->SortSt->Prop}(q:Q (some (lt (at_ (arrOf st) i) (at_ (arrOf st) j))) st):wpS M A E s (ltAt' i j) Q st:=by
 rw[ltAt'_eq];refine ZG (wpS_get ?_);show wpS _ _ _ _ (do let x <- elem' (arrOf st) i;let y <- elem' (arrOf st) j;lt' x y) Q st;refine ZG (CQ ai (ZG (CQ aJ ?_)));rw[qC ai,qC aJ]at q;exact O.ask _ _ _ _ (bh _ (by simp)) (bh _ (by simp)) ax q
def fc.snoc(O:hF M A E s κ S lt)(bh:fN S c)(aD:l+n<c.size)(h0:0<n)(h:fc lt c l n)(q:le lt (at_ c (l+n-1)) (at_ c (l+n))):fc lt c l (n+1):=by
 intro x y C J aC
 by_cases e:y=l+n
 .subst e
  by_cases ak:x=l+n
  .subst ak;exact O.gc (bh.at_ aD)
  .exact O.fM _ _ _ (bh.at_ (by omega)) (bh.at_ (by omega)) (bh.at_ aD) (h x (l+n-1) C (by omega) (by omega)) q
 .exact h x y C J (by omega)
def Dec.snoc(O:hF M A E s κ S lt)(bh:fN S c)(aD:l+n<c.size)(h0:0<n)(h:Dec lt c l n)(q:le lt (at_ c (l+n)) (at_ c (l+n-1))):Dec lt c l (n+1):=by
 intro x y C J aC
 by_cases e:y=l+n
 .subst e
  by_cases ak:x=l+n
  .subst ak;exact O.gc (bh.at_ aD)
  .exact O.fM _ _ _ (bh.at_ aD) (bh.at_ (by omega)) (bh.at_ (by omega)) q (h x (l+n-1) C (by omega) (by omega))
 .exact h x y C J (by omega)
def fc.one(O:hF M A E s κ S lt)(bh:fN S c)(aD:l<c.size):fc lt c l 1:=λx y C J aC=>by
 obtain rfl:x=l:=by omega
 obtain rfl:y=x:=by omega
 exact O.gc (bh.at_ aD)
def Dec.rev(h:Dec lt c l n)(aD:l+n<=c.size):fc lt (mirror c l (l+n) ((l+n-l) / 2)) l n:=by
 intro x y C J aC;rw[jE aD,jE aD,if_pos (by omega),if_pos (by omega)];exact h _ _ (by omega) (by omega) (by omega)
def fc.cR(h:fc lt c l n):oN lt c l n:=λx y ao aV C J aC=>by
 have:=h x y C J aC;rw[qC ao,qC aV]at this;exact this
end
noncomputable def ih(l z jo:Nat):StateT SortSt Sem (Option Nat):=do
 reverseSlice' l (l+jo)
 let mut n:=jo
 for _ in [n:z] do
  let some q <- ltAt' (l+n) (l+n-1)|return none
  if q then break
  n:=n+1
 return some n
noncomputable def mx(l z jo:Nat):StateT SortSt Sem (Option Nat):=do
 rule "list.sort.descending-run"
 let mut n:=jo+1
 let mut e:=0
 for _ in [n:z] do
  let some q <- ltAt' (l+n) (l+n-1)|return none
  if q then
   if e>0 then reverseSlice' (l+n-(e+1)) (l+n)
   e:=0
  else
   let some g <- ltAt' (l+n-1) (l+n)|return none
   if g then break
   e:=e+1
  n:=n+1
 if e>0 then reverseSlice' (l+n-(e+1)) (l+n)
 ih l z n
def K4(l z:Nat):countRun' l z=(do
 let mut n:=1
 for _ in [1:z] do
  let some q <- ltAt' (l+n) (l+n-1)|return none
  if q then break
  n:=n+1
 if n==z then return some n
 if n>1 then
  let some g <- ltAt' l (l+n-1)|return none
  if g then return some n
  reverseSlice' l (l+n)
 mx l z n):=by
 rw[countRun'_eq];unfold mx ih;rfl
noncomputable def j8(st bo:SortSt):Prop:=kindOf bo=kindOf st/\pendingOf bo=pendingOf st/\failedOf bo=failedOf st
section
variable{M:Model}{A:Around}{E:Value->Shared->Prop}{s:Shared}{κ:SortKind}{S:Keyed->Prop}{lt:Keyed->Keyed->Bool}{st st0:SortSt}{l z n jo:Nat}
noncomputable def qq(lt:Keyed->Keyed->Bool)(l z:Nat)(st0:SortSt)(o:Option Nat)(bo:SortSt):Prop:=∃m,o=some m/\1<=m/\m<=z/\j8 st0 bo/\ei (arrOf st0) (arrOf bo) l (l+z)/\fc lt (arrOf bo) l m
def BS(O:hF M A E s κ S lt)(ax:kindOf st=κ)(bh:fN S (arrOf st))(hz:l+z<=(arrOf st).size)(C:1<=jo)(aD:jo<=z)(h:fc lt (arrOf st) l jo){Q:Option (Option Nat)×Nat->SortSt->Prop}(aL:∀n,jo<=n->n<=z->fc lt (arrOf st) l n->(n=z\/lt (at_ (arrOf st) (l+n)) (at_ (arrOf st) (l+n-1))=true)->Q (none,n) st):wpS M A E s (forIn [jo:z] ((none:Option (Option Nat)),jo) λx __s=>do
   let __x <- ltAt' (l+__s.snd) (l+__s.snd-1)
   match __x with
    |some q=>if q=true then pure (ForInStep.done (none,__s.snd)) else pure (ForInStep.yield (none,__s.snd+1))
    |x=>pure (ForInStep.done (some none,__s.snd))) Q st:=by
 refine aby (I:=λx (c:Option (Option Nat)×Nat) bo=>bo=st/\c.1=none/\c.2=x/\jo<=x/\x<=z/\fc lt (arrOf st) l x) ?step ?fin ⟨rfl,rfl,rfl,Y2 _,aD,h⟩
 case fin =>
  rintro⟨o,n⟩ bo ⟨rfl,rfl,rfl,a8,aR,bz⟩;rw[abK aD]at bz ⊢;exact aL z aD (Y2 _) bz (.inl rfl)
 case step =>
  rintro x ⟨o,n⟩ bo _ ao ⟨rfl,rfl,e,a8,aR,bz⟩;dsimp only at e ⊢;subst e;refine ZG (qB O ax bh (by omega) (by omega) ?_);cases e:lt (at_ (arrOf bo) (l+n)) (at_ (arrOf bo) (l+n-1)) with
  |true=>dsimp only;rw[if_pos rfl];exact aai (aL n a8 aR bz (.inr e))
  |false=>dsimp only;rw[if_neg (by simp)];exact aai ⟨rfl,rfl,rfl,by omega,by omega,bz.snoc O bh (by omega) (by omega) e⟩
def Ig(O:hF M A E s κ S lt)(n0:kindOf st0=κ)(hS0:fN S (arrOf st0))(aa:j8 st0 st)(az:ei (arrOf st0) (arrOf st) l (l+z))(hz:l+z<=(arrOf st0).size)(C:1<=n)(aD:n<=z)(h:Dec lt (arrOf st) l n):wpS M A E s (ih l z n) (qq lt l z st0) st:=by
 unfold ih;rw[abL];refine ZG (abM ?_);have jP:l+z<=(arrOf st).size:=by rw[az.size];exact hz
 generalize aj:setArr st (mirror (arrOf st) l (l+n) ((l+n-l) / 2))=d7;have a1:arrOf d7=mirror (arrOf st) l (l+n) ((l+n-l) / 2):=by rw[<- aj]
 have s1:j8 st0 d7:=by rw[<- aj];exact aa
 have bb:ei (arrOf st0) (arrOf d7) l (l+z):=by rw[a1];exact az.trans ((ei.rev (by omega)).mono (Y2 _) (by omega))
 have e3:fc lt (arrOf d7) l n:=by rw[a1];exact h.rev (by omega)
 refine ZG (BS O (s1.1.trans n0) (hS0.perm bb.perm) (by rw[bb.size];exact hz) C aD e3 λm a8 aR bz _=>?_);exact aai ⟨m,rfl,by omega,aR,s1,bb,bz⟩
def Ke(O:hF M A E s κ S lt){c:Array Keyed}(bh:fN S c){e:Nat}(aD:l+n<=c.size)(he:e+1<=n)(h:Dec lt c l n)(ab:∀x y,l+n-(e+1)<=x->x<l+n->l+n-(e+1)<=y->y<l+n->le lt (at_ c x) (at_ c y)):
  Dec lt (mirror c (l+n-(e+1)) (l+n) ((l+n-(l+n-(e+1))) / 2)) l n:=by
 intro x y C J aC;rw[jE aD,jE aD]
 by_cases x2:l+n-(e+1)<=x
 .rw[if_pos (by omega),if_pos (by omega)];exact ab _ _ (by omega) (by omega) (by omega) (by omega)
 .rw[if_neg (show ¬(l+n-(e+1)<=x/\x<l+n) by omega)]
  by_cases tu:l+n-(e+1)<=y
  .rw[if_pos (by omega)];exact h _ _ C (by omega) (by omega)
  .rw[if_neg (by omega)];exact h _ _ C J aC
structure l7(lt:Keyed->Keyed->Bool)(S:Keyed->Prop)(l z:Nat)(st0 st:SortSt)(n e:Nat):Prop where
 ss:j8 st0 st
 ed:ei (arrOf st0) (arrOf st) l (l+z)
 dec:Dec lt (arrOf st) l n
 len:e+1<=n
 u0:n<=z
 eq:∀x y,l+n-(e+1)<=x->x<l+n->l+n-(e+1)<=y->y<l+n->le lt (at_ (arrOf st) x) (at_ (arrOf st) y)
def l7.turn{e:Nat}(O:hF M A E s κ S lt)(hS0:fN S (arrOf st0))(hz:l+z<=(arrOf st0).size)(h:l7 lt S l z st0 st n e):l7 lt S l z st0 (setArr st (mirror (arrOf st) (l+n-(e+1)) (l+n) ((l+n-(l+n-(e+1))) / 2))) n 0:=by
 have C:=h.len;have J:=h.u0;have jP:l+n<=(arrOf st).size:=by rw[h.ed.size];omega
 refine⟨h.ss,h.ed.trans ((ei.rev jP).mono (by omega) (by omega)),Ke O (hS0.perm h.ed.perm) jP C h.dec h.eq,by omega,h.u0,λx y a8 aR bz cw=>?_⟩;have ex:x=l+n-1:=by omega
 have gF:y=l+n-1:=by omega
 subst ex gF;have ed:ei (arrOf st0) (mirror (arrOf st) (l+n-(e+1)) (l+n) ((l+n-(l+n-(e+1))) / 2)) l (l+z):=h.ed.trans ((ei.rev jP).mono (by omega) (by omega));exact O.gc ((hS0.perm ed.perm).at_ (by rw[ed.size];omega))
def CJ(O:hF M A E s κ S lt)(n0:kindOf st0=κ)(hS0:fN S (arrOf st0))(aa:j8 st0 st)(az:ei (arrOf st0) (arrOf st) l (l+z))(hz:l+z<=(arrOf st0).size)(aD:n<z)(h:Dec lt (arrOf st) l (n+1)):wpS M A E s (mx l z n) (qq lt l z st0) st:=by
 unfold mx;refine ZG (wpS_lift (acv ⟨rfl,?_⟩));have jI:l7 lt S l z st0 st (n+1) 0:=by
  refine⟨aa,az,h,by omega,aD,λx y a8 aR bz cw=>?_⟩;have ex:x=l+n:=(by omega);have gF:y=l+n:=(by omega);subst ex gF;exact O.gc ((hS0.perm az.perm).at_ (by rw[az.size];omega))
 refine ZG (wpS_mono (aby (I:=λx (c:Option (Option Nat)×Nat×Nat) bo=>c.1=none/\c.2.1=x/\l7 lt S l z st0 bo x c.2.2) (Q:=λ(c:Option (Option Nat)×Nat×Nat) bo=>c.1=none/\l7 lt S l z st0 bo c.2.1 c.2.2) ?step ?fin ⟨rfl,rfl,jI⟩) ?post)
 case fin =>
  rintro⟨o,cn,e⟩ bo ⟨rfl,rfl,D⟩;exact⟨rfl,D⟩
 case post =>
  rintro⟨o,cn,e⟩ bo ⟨rfl,D⟩;dsimp only at D ⊢;refine kZ (λ_=>?_) λ_=>?_
  .rw[abL];have jz:=D.turn O hS0 hz;exact ZG (abM (Ig O n0 hS0 jz.ss jz.ed hz (by have:=jz.len;omega) jz.u0 jz.dec))
  .exact Ig O n0 hS0 D.ss D.ed hz (by have:=D.len;omega) D.u0 D.dec
 case step =>
  rintro x ⟨o,cn,e⟩ d7 lG ao ⟨rfl,aj,D⟩;dsimp only at aj D ⊢;subst aj;have C:=D.len;have jP:l+z<=(arrOf d7).size:=(by rw[D.ed.size];exact hz);have eS:=hS0.perm D.ed.perm;have mI:=D.ss.1.trans n0;refine ZG (qB O mI eS (by omega) (by omega) ?_);cases ak:lt (at_ (arrOf d7) (l+cn)) (at_ (arrOf d7) (l+cn-1)) with
  |true =>
   dsimp only;rw[if_pos rfl];have next:∀hu,l7 lt S l z st0 hu cn 0->le lt (at_ (arrOf hu) (l+cn)) (at_ (arrOf hu) (l+cn-1))->l7 lt S l z st0 hu (cn+1) 0:=λhu jz q=>by
    have Ez:l+z<=(arrOf hu).size:=(by rw[jz.ed.size];exact hz);have D0:=hS0.perm jz.ed.perm;refine⟨jz.ss,jz.ed,jz.dec.snoc O D0 (by omega) (by omega) q,by omega,by omega,λx y a8 aR bz cw=>?_⟩;have ex:x=l+cn:=(by omega);have gF:y=l+cn:=(by omega);subst ex gF;exact O.gc (D0.at_ (by omega))
   have vf:=O.nB _ _ (eS.at_ (by omega)) (eS.at_ (by omega)) ak;refine kZ (λc=>?_) λc=>?_
   .rw[abL];refine ZG (abM (aai ⟨rfl,rfl,next _ (D.turn O hS0 hz) ?_⟩));show le lt (at_ (mirror (arrOf d7) (l+cn-(e+1)) (l+cn) ((l+cn-(l+cn-(e+1))) / 2)) (l+cn)) (at_ (mirror (arrOf d7) (l+cn-(e+1)) (l+cn) ((l+cn-(l+cn-(e+1))) / 2)) (l+cn-1));rw[jE (by omega),jE (by omega),if_neg (by omega),if_pos (by omega)];exact O.fM _ _ _ (eS.at_ (by omega)) (eS.at_ (by omega)) (eS.at_ (by omega)) vf (D.eq _ _ (by omega) (by omega) (by omega) (by omega))
   .have dO:e=0:=(by omega);subst dO;exact aai ⟨rfl,rfl,next d7 D vf⟩
  |false =>
   dsimp only;rw[if_neg (by simp)];refine ZG (qB O mI eS (by omega) (by omega) ?_);cases bu:lt (at_ (arrOf d7) (l+cn-1)) (at_ (arrOf d7) (l+cn)) with
   |true=>dsimp only;rw[if_pos rfl];exact aai ⟨rfl,D⟩
   |false =>
    dsimp only;rw[if_neg (by simp)];refine aai ⟨rfl,rfl,D.ss,D.ed,D.dec.snoc O eS (by omega) (by omega) bu,by show e+1+1<=cn+1;omega,by omega,λx y a8 aR bz cw=>?_⟩;have a8:l+(cn+1)-(e+1+1)<=x:=a8;have bz:l+(cn+1)-(e+1+1)<=y:=bz;have tt:∀u,l+cn-(e+1)<=u->u<l+cn->le lt (at_ (arrOf d7) u) (at_ (arrOf d7) (l+cn))/\le lt (at_ (arrOf d7) (l+cn)) (at_ (arrOf d7) u):=λu hx kX =>
     ⟨O.fM _ _ _ (eS.at_ (by omega)) (eS.at_ (by omega)) (eS.at_ (by omega)) (D.eq u (l+cn-1) hx kX (by omega) (by omega)) ak,O.fM _ _ _ (eS.at_ (by omega)) (eS.at_ (by omega)) (eS.at_ (by omega)) bu (D.eq (l+cn-1) u (by omega) (by omega) hx kX)⟩
    by_cases x2:x=l+cn
    .by_cases tu:y=l+cn
     .subst x2 tu;exact O.gc (eS.at_ (by omega))
     .subst x2;exact(tt y (by omega) (by omega)).2
    .by_cases tu:y=l+cn
     .subst tu;exact(tt x (by omega) (by omega)).1
     .exact D.eq x y (by omega) (by omega) (by omega) (by omega)
def K5(O:hF M A E s κ S lt)(ax:kindOf st=κ)(bh:fN S (arrOf st))(hz:l+z<=(arrOf st).size)(C:1<=z):wpS M A E s (countRun' l z) (qq lt l z st) st:=by
 rw[K4];refine ZG (BS O ax bh hz (Y2 1) C (fc.one O bh (by omega)) λn a8 aR bz cw=>?_);dsimp only;refine kZ (λc=>?_) λc=>?_
 .exact aai ⟨n,rfl,a8,aR,⟨rfl,rfl,rfl⟩,.refl ..,bz⟩
 .have c:¬n=z:=(by simpa using c);have q:=O.nB _ _ (bh.at_ (by omega)) (bh.at_ (by omega)) (cw.resolve_left c);refine kZ (λcv=>?_) λcv=>?_
  .refine ZG (qB O ax bh (by omega) (by omega) ?_);cases e:lt (at_ (arrOf st) l) (at_ (arrOf st) (l+n-1)) with
   |true=>dsimp only;rw[if_pos rfl];exact aai ⟨n,rfl,a8,aR,⟨rfl,rfl,rfl⟩,.refl ..,bz⟩
   |false =>
    dsimp only;rw[if_neg (by simp),abL];refine ZG (abM ?_);have jP:l+n<=(arrOf st).size:=(by omega);have ed:ei (arrOf st) (mirror (arrOf st) l (l+n) ((l+n-l) / 2)) l (l+z):=(ei.rev jP).mono (Y2 _) (by omega);have BF:∀x y,l<=x->x<l+n->l<=y->y<l+n->le lt (at_ (arrOf st) x) (at_ (arrOf st) y):=λx y hx kX sI Xn =>
     O.fM _ _ _ (bh.at_ (by omega)) (bh.at_ (by omega)) (bh.at_ (by omega)) (bz x (l+n-1) hx (by omega) (by omega))
      (O.fM _ _ _ (bh.at_ (by omega)) (bh.at_ (by omega)) (bh.at_ (by omega)) e (bz l y (Y2 _) sI Xn))
    refine CJ (st0:=st) O ax bh ⟨rfl,rfl,rfl⟩ ed hz (by omega) ?_;show Dec lt (mirror (arrOf st) l (l+n) ((l+n-l) / 2)) l (n+1);have jI:Dec lt (mirror (arrOf st) l (l+n) ((l+n-l) / 2)) l n:=λx y hx kX sI=>by
     rw[jE jP,jE jP,if_pos (by omega),if_pos (by omega)];exact BF _ _ (by omega) (by omega) (by omega) (by omega)
    refine jI.snoc O (bh.perm ed.perm) (by rw[ed.size];omega) (by omega) ?_;rw[jE jP,jE jP,if_neg (by omega),if_pos (by omega)];exact O.fM _ _ _ (bh.at_ (by omega)) (bh.at_ (by omega)) (bh.at_ (by omega)) q (BF _ _ (by omega) (by omega) (by omega) (by omega))
  .have fH:n=1:=(by omega);subst fH;refine CJ (st0:=st) O ax bh ⟨rfl,rfl,rfl⟩ (.refl ..) hz (by omega) ?_;have jI:Dec lt (arrOf st) l 1:=λx y hx kX sI=>by
    obtain rfl:x=l:=(by omega);obtain rfl:y=x:=(by omega);exact O.gc (bh.at_ (by omega))
   exact jI.snoc O bh (by omega) (by omega) q
end
section
variable{M:Model}{A:Around}{E:Value->Shared->Prop}{s:Shared}{κ:SortKind}{S:Keyed->Prop}{lt:Keyed->Keyed->Bool}{st st0:SortSt}{l z n ok:Nat}
def Kj(O:hF M A E s κ S lt){c:Array Keyed}(bh:fN S c){k p:Nat}(ax:l+k<c.size)(az:p<=k)(h:fc lt c l k)(C:∀x,x<p->le lt (at_ c (l+x)) (at_ c (l+k)))(J:∀x,p<=x->x<k->le lt (at_ c (l+k)) (at_ c (l+x))):fc lt (bubble c (l+k) (k-p)) l (k+1):=by
 intro x y hx kX sI;have e:l+k-(k-p)=l+p:=by omega
 rw[wN ax (by omega),wN ax (by omega),e];have g1:∀u,l<=u->u<l+p->le lt (at_ c u) (at_ c (l+k)):=λu a b=>by have:=C (u-l) (by omega);rwa[show l+(u-l)=u by omega]at this
 have g2:∀u,l+p<=u->u<l+k->le lt (at_ c (l+k)) (at_ c u):=λu a b=>by have:=J (u-l) (by omega) (by omega);rwa[show l+(u-l)=u by omega]at this
 by_cases a:x=l+p
 .rw[if_pos a]
  by_cases b:y=l+p
  .rw[if_pos b];exact O.gc (bh.at_ ax)
  .rw[if_neg b,if_pos (by omega)];exact g2 _ (by omega) (by omega)
 .rw[if_neg a]
  by_cases a2:l+p<x
  .rw[if_pos (by omega),if_neg (by omega),if_pos (by omega)];exact h _ _ (by omega) (by omega) (by omega)
  .rw[if_neg (by omega)]
   by_cases b:y=l+p
   .rw[if_pos b];exact g1 _ hx (by omega)
   .rw[if_neg b]
    by_cases b2:l+p<y
    .rw[if_pos (by omega)];exact h _ _ hx (by omega) (by omega)
    .rw[if_neg (by omega)];exact h _ _ hx kX (by omega)
def Kh(O:hF M A E s κ S lt)(n0:kindOf st=κ)(hS0:fN S (arrOf st))(hz:l+n<=(arrOf st).size)(C:1<=ok)(aD:ok<=n)(h:fc lt (arrOf st) l ok){Q:Bool->SortSt->Prop}(aL:∀bo,j8 st bo->ei (arrOf st) (arrOf bo) l (l+n)->fc lt (arrOf bo) l n->Q true bo):wpS M A E s (binarySort' l n ok) Q st:=by
 rw[binarySort'_eq];rw[Nat.max_eq_left C];refine ZG (wpS_mono (aby (I:=λk (c:Option Bool×Unit) bo=>c=(none,())/\k<=n/\j8 st bo/\ei (arrOf st) (arrOf bo) l (l+n)/\fc lt (arrOf bo) l k)
  (Q:=λ(c:Option Bool×Unit) bo=>c=(none,())/\j8 st bo/\ei (arrOf st) (arrOf bo) l (l+n)/\fc lt (arrOf bo) l n) ?step ?fin ⟨rfl,aD,⟨rfl,rfl,rfl⟩,.refl ..,h⟩) ?post)
 case fin =>
  rintro c bo ⟨rfl,a8,aR,bz,cw⟩;rw[abK aD]at cw;exact⟨rfl,aR,bz,cw⟩
 case post =>
  rintro c bo ⟨rfl,aR,bz,cw⟩;exact aai (aL bo aR bz cw)
 case step =>
  rintro k c d7 mI y4 ⟨rfl,aU,bq,ck,dz⟩;have YB:l+n<=(arrOf d7).size:=(by rw[ck.size];exact hz);have eS:=hS0.perm ck.perm;have dU:=bq.1.trans n0;refine ZG (wpS_mono (aby (I:=λx (c:Option Bool×Nat×Nat) bo=>bo=d7/\c.1=none/\c.2.1<=c.2.2/\c.2.2<=k/\(∀x,x<c.2.1->le lt (at_ (arrOf d7) (l+x)) (at_ (arrOf d7) (l+k)))/\(∀x,c.2.2<=x->x<k->le lt (at_ (arrOf d7) (l+k)) (at_ (arrOf d7) (l+x)))/\c.2.2-c.2.1+x<=k)
   (Q:=λ(c:Option Bool×Nat×Nat) bo=>bo=d7/\c.1=none/\c.2.1<=k/\(∀x,x<c.2.1->le lt (at_ (arrOf d7) (l+x)) (at_ (arrOf d7) (l+k)))/\∀x,c.2.1<=x->x<k->le lt (at_ (arrOf d7) (l+k)) (at_ (arrOf d7) (l+x))) ?step2 ?fin2
   ⟨rfl,rfl,Zo _,Y2 _,λx ao=>absurd ao (Nat.not_lt_zero _),λx hx kX=>absurd kX (by dsimp only at hx;omega),by show k-0+0<=k;omega⟩) ?post2)
  case fin2 =>
   rintro⟨o,a,b⟩ bo ⟨rfl,rfl,aG,aZ,ee,gP,jr⟩;dsimp only at aG aZ ee gP jr;rw[abK (Zo _)]at jr;have e:a=b:=(by omega);subst e;exact⟨rfl,rfl,aZ,ee,gP⟩
  case step2 =>
   rintro x ⟨o,a,b⟩ bo _ ao ⟨rfl,rfl,aG,aZ,ee,gP,jr⟩;dsimp only at aG aZ ee gP jr ⊢;refine kZ (λc=>?_) λc=>?_
   .have e:a=b:=(by omega);subst e;exact aai ⟨rfl,rfl,aZ,ee,gP⟩
   .have hm:(a+b) / 2<b:=(by omega);have y8:a<=(a+b) / 2:=(by omega);refine ZG (qB O dU eS (by omega) (by omega) ?_);cases e:lt (at_ (arrOf bo) (l+k)) (at_ (arrOf bo) (l+(a+b) / 2)) with
    |true =>
     dsimp only;rw[if_pos rfl];refine aai ⟨rfl,rfl,y8,by dsimp only;omega,ee,λy hx kX=>?_,by dsimp only;omega⟩;exact O.fM _ _ _ (eS.at_ (by omega)) (eS.at_ (by omega)) (eS.at_ (by omega)) (O.nB _ _ (eS.at_ (by omega)) (eS.at_ (by omega)) e) (dz _ _ (by omega) (by dsimp only at hx;omega) (by omega))
    |false =>
     dsimp only;rw[if_neg (by simp)];refine aai ⟨rfl,rfl,by dsimp only;omega,aZ,λy hx=>?_,gP,by dsimp only;omega⟩;exact O.fM _ _ _ (eS.at_ (by dsimp only at hx;omega)) (eS.at_ (by omega)) (eS.at_ (by omega)) (dz _ _ (by omega) (by dsimp only at hx;omega) (by omega)) e
  case post2 =>
   rintro⟨o,p,b⟩ bo ⟨rfl,rfl,aZ,ee,gP⟩;dsimp only at aZ ee gP ⊢;rw[moveDown'_eq];refine ZG (abM (aai ⟨rfl,by omega,bq,?_,?_⟩))
   .show ei (arrOf st) (bubble (arrOf bo) (l+k) (l+k-(l+p))) l (l+n);exact ck.trans ((ei.Ki (by omega) (by omega)).mono (by omega) (by omega))
   .show fc lt (bubble (arrOf bo) (l+k) (l+k-(l+p))) l (k+1);rw[show l+k-(l+p)=k-p by omega];exact Kj O eS (by omega) aZ dz ee gP
end
section
variable{M:Model}{A:Around}{E:Value->Shared->Prop}{s:Shared}{κ:SortKind}{S:Keyed->Prop}{lt:Keyed->Keyed->Bool}{st st0:SortSt}
def Uu{Q:Unit->SortSt->Prop}(O:hF M A E s κ S lt)(ax:kindOf st=κ)(hf:failedOf st=none)(az:pendingOf st=#[])(bh:fN S (arrOf st))(J:2<=(arrOf st).size)(yD:(arrOf st).size<64)(aL:∀bo,failedOf bo=none->(arrOf bo).toList.Perm (arrOf st).toList->(arrOf bo).toList.Pairwise (le lt)->Q () bo):wpS M A E s sortRuns' Q st:=by
 rw[sortRuns'_eq];refine ZG (wpS_get ?_);dsimp only;generalize Pg:minRun' (arrOf st).size (arrOf st).size 0=Fz;have Ph:Fz=(arrOf st).size:=by
  rw[<- Pg];obtain⟨f,OI⟩:∃f,(arrOf st).size=f+1:=⟨(arrOf st).size-1,by omega⟩;rw[OI,minRun'_succ,if_pos (by omega)]
 generalize aK:(arrOf st).size=N at J yD Ph ⊢;refine ZG (wpS_mono (aby (I:=λx (c:Option Unit×Nat) bo=>c.1=none/\failedOf bo=none/\ei (arrOf st) (arrOf bo) 0 N/\((x=0/\c.2=0/\kindOf bo=κ/\pendingOf bo=#[])\/(c.2=N/\(pendingOf bo).size<=1/\fc lt (arrOf bo) 0 N)))
  (Q:=λ(c:Option Unit×Nat) bo=>c.1=none/\failedOf bo=none/\ei (arrOf st) (arrOf bo) 0 N/\(pendingOf bo).size<=1/\fc lt (arrOf bo) 0 N) ?step ?fin ⟨rfl,hf,.refl ..,.inl ⟨rfl,rfl,ax,az⟩⟩) ?post)
 case fin =>
  rintro c bo ⟨aU,bq,ck,dz⟩;rw[abK (Zo _)]at dz;rcases dz with⟨z,_⟩|⟨_,kK,Aj⟩
  .omega
  .exact⟨aU,bq,ck,kK,Aj⟩
 case step =>
  rintro x ⟨o,lo⟩ d7 _ ao ⟨rfl,aR,bz,cw⟩;rcases cw with⟨rfl,rfl,dU,g5⟩|⟨cw,fS,g5⟩
  .have eS:=bh.perm bz.perm;have hsz:(arrOf d7).size=N:=bz.size.trans aK;refine kZ (λc=>absurd c (by omega)) λc=>?_
   refine ZG (wpS_mono (K5 (l:=0) (z:=N-0) O dU eS (by rw[hsz];omega) (by omega)) ?_);rintro o hu ⟨m,rfl,n9,pE,s2,bL,g0⟩;have tail:∀hS,j8 d7 hS->ei (arrOf d7) (arrOf hS) 0 (0+(N-0))->fc lt (arrOf hS) 0 N->∀lW,kindOf lW=kindOf hS->failedOf lW=failedOf hS->arrOf lW=arrOf hS->pendingOf lW=#[(0,N,0)]->failedOf lW=none/\ei (arrOf st) (arrOf lW) 0 N/\(pendingOf lW).size<=1/\fc lt (arrOf lW) 0 N:=λhS s3 df ky lW aj ak bu eR=>by
    rw[ak,bu,eR];exact⟨s3.2.2.trans aR,bz.trans (df.mono (Y2 _) (by omega)),Y2 _,ky⟩
   refine kZ (λcv=>?b1) λcv=>?b2
   case b1 =>
    refine ZG (wpS_lift (acv ⟨rfl,?_⟩));refine ZG (Kh O (s2.1.trans dU) (eS.perm bL.perm) (by rw[bL.size,hsz];omega) n9 (by omega) g0 λhS s3 df ky=>?_);refine kZ (λh=>nomatch h) λ_=>?_
    refine ZG (wpS_get ?_);have Ay:j8 d7 hS:=⟨s3.1.trans s2.1,s3.2.1.trans s2.2.1,s3.2.2.trans s2.2.2⟩;have Pf:min (N-0) Fz=N:=(by omega);rw[Pf]at ky df ⊢;rw[Ay.2.1.trans g5];have t:=tail hS Ay (bL.trans (df.mono (Y2 _) (by omega))) ky (setPending hS ((pendingOf hS).push (0,N,0))) rfl rfl rfl (by show(pendingOf hS).push _=_;rw[Ay.2.1.trans g5];rfl);exact ZG (abM (aai ⟨rfl,t.1,t.2.1,.inr ⟨aaF N,t.2.2⟩⟩))
   case b2 =>
    refine ZG (wpS_get ?_);have hm:m=N:=(by omega);subst hm;rw[s2.2.1.trans g5];have t:=tail hu s2 bL g0 (setPending hu ((pendingOf hu).push (0,m,0))) rfl rfl rfl (by show(pendingOf hu).push _=_;rw[s2.2.1.trans g5];rfl);exact ZG (abM (aai ⟨rfl,t.1,t.2.1,.inr ⟨aaF m,t.2.2⟩⟩))
  .refine kZ (λc=>aai ⟨rfl,aR,bz,fS,g5⟩) λc=>absurd (Nat.le_of_eq cw.symm) c
 case post =>
  rintro⟨o,lo⟩ d7 ⟨rfl,aR,bz,fS,g5⟩;refine ZG (wpS_mono (aby (I:=λx (c:Option Unit×Unit) bo=>c=(none,())/\bo=d7) (Q:=λ(c:Option Unit×Unit) bo=>c=(none,())/\bo=d7) ?step2 ?fin2 ⟨rfl,rfl⟩) ?post2)
  case fin2=>exact λc bo h=>h
  case step2 =>
   rintro y c bo _ aV ⟨rfl,rfl⟩;refine ZG (wpS_get ?_);exact kZ (λ_=>aai ⟨rfl,rfl⟩) λh=>absurd fS h
  case post2 =>
   rintro c bo ⟨rfl,rfl⟩;refine aai (aL bo aR bz.perm (V1 ?_));rw[show(arrOf bo).size=N from bz.size.trans aK];exact g5.cR
end
end Tm
end
section
namespace Tm
open PySem PySem.W PyProof.Rows PySem.Calls
def SY{α β:Type}(f:α->β){jj m:List β}(h:jj.Perm m):∀l:List α,m=l.map f->∃p:List α,p.Perm l/\jj=p.map f:=by
 induction h with
 |nil=>intro l e;cases l with
  |nil=>exact⟨[],.refl _,rfl⟩
  |cons=>cases e
 |cons x _ aE =>
  intro l e;cases l with
  |nil=>cases e
  |cons y l =>
   rw[List.map_cons]at e;injection e with aj ak;obtain⟨p,C,J⟩:=aE l ak;exact⟨y::p,C.cons y,by rw[List.map_cons,aj,J]⟩
 |swap x y m =>
  intro l e
  match l,e with
  |u::v::l,e =>
   rw[List.map_cons,List.map_cons]at e;injection e with aj ak;injection ak with ak bu;exact⟨v::u::l,.swap u v l,by rw[List.map_cons,List.map_cons,aj,ak,bu]⟩
 |trans _ _ zu zv =>
  intro l e;obtain⟨p,C,J⟩:=zv l e;obtain⟨q,aC,aT⟩:=zu p J;exact⟨q,aC.trans C,aT⟩
structure Ord(lt:Nat->Nat->Bool):Prop where
 gc:∀x,lt x x=false
 fM:∀x y z,lt y x=false->lt z y=false->lt z x=false
 nB:∀x y,lt x y=true->lt y x=false
section
variable{prog:Program}{w:World}{A:Around}{E:Value->Shared->Prop}{s:Shared}
noncomputable abbrev pr(ae:List Value)(i:Nat):Keyed:=(ae.getD i Value.none,ae.getD i Value.none)
def XX(ae:List Value):(ae.toArray.zip ae.toArray).toList=(List.range ae.length).map (pr ae):=by
 apply aao;intro i;rw[Ze]
 by_cases h:i<ae.length
 .rw[aaO h];simp[List.getElem?_zip_eq_some,List.getD,Y3 h]
 .rw[Zq (by simpa using h),Zq (by simpa using h)];rfl
def Rf{a:Addr}{ae:List Value}{n:Nat}{κ:SortKind}{lt:Nat->Nat->Bool}{P:PySem.Fin->Shared->Prop}(O:Ord lt)(aN:∀i j,i<ae.length->j<ae.length->ae.getD i Value.none=ae.getD j Value.none->∀k,lt i k=lt j k/\lt k i=lt k j)(av:s.heap.get? a=some (seqObj "list" ae.toArray n))(Oh:ae.length<64)(ax:2<=ae.length->∀(h':Heap),(∀b o,b≠a->s.heap.get? b=some o->h'.get? b=some o)->∀Q:SortKind->Shared->Prop,Q κ { s with heap:=h' }->wpAny (model prog w) A (keyKind' ae.toArray) Q E { s with heap:=h' })(ag:2<=ae.length->∀(h':Heap),(∀b o,b≠a->s.heap.get? b=some o->h'.get? b=some o)->∀(i j:Nat)(bH:Bool->Shared->Prop),i<ae.length->j<ae.length->bH (lt i j) { s with heap:=h' }->kas_ask prog w A κ ae i j bH { s with heap:=h' })(h:∀p:List Nat,p.Perm (List.range ae.length)->p.Pairwise (λi j=>lt j i=false)->∀(h':Heap)(c:Nat),(∀b o,b≠a->s.heap.get? b=some o->h'.get? b=some o)->h'.get? a=some (seqObj "list" (p.map λi=>ae.getD i Value.none).toArray c)->P (.done (.ret .none)) { s with heap:=h' }):
  wpAny (model prog w) A (Builtin.«list.sort» ⟨[.ref a],[]⟩) P E s:=by
 rw[list_sort_plain];have aB:a<s.heap.objs.size:=Y5 av;refine YW (listItems_at av rfl ?_);refine YW (listUpdate_at av rfl ?_ (by rw[Y4,sizeLine_eq];omega) (Zo _));obtain⟨aj,n1⟩:∃aj,(s.heap.update a (Obj.mapSeq λ_=>(#[]:Array Value))).get? a=some (seqObj "list" #[] aj):=⟨_,get?_update_seq av λ_=>#[]⟩;refine YW (seqEpoch_at n1 rfl ?_);refine YW (wpAny_newTuple ?_ (by show ae.length<=_;rw[sizeLine_eq];omega));refine YW (wpAny_newList ?_ (Zo _));refine Z9 ?_;have pf:(((s.heap.update a (Obj.mapSeq λ_=>(#[]:Array Value))).push (seqObj "tuple" ae.toArray 0)).push (seqObj "list" #[] 0)).get? a=some (seqObj "list" #[] aj):=YZ _ (YZ _ n1);have keep:∀b o,b≠a->s.heap.get? b=some o->(((s.heap.update a (Obj.mapSeq λ_=>(#[]:Array Value))).push (seqObj "tuple" ae.toArray 0)).push (seqObj "list" #[] 0)).get? b=some o:=λb o ab q =>
  YZ _ (YZ _ ((ZT _ _ (Z6 ab)).trans q))
 show wpAny (model prog w) A _ P E { s with heap:=((s.heap.update a (Obj.mapSeq λ_=>(#[]:Array Value))).push (seqObj "tuple" ae.toArray 0)).push (seqObj "list" #[] 0) };generalize ((s.heap.update a (Obj.mapSeq λ_=>(#[]:Array Value))).push (seqObj "tuple" ae.toArray 0)).push (seqObj "list" #[] 0)=C at pf keep;dsimp only;have fin:∀p:List Nat,p.Perm (List.range ae.length)->p.Pairwise (λi j=>lt j i=false)->P (.done (.ret .none)) { s with heap:=C.update a (Obj.mapSeq λ_=>(p.map λi=>ae.getD i Value.none).toArray) }:=λp az aa=>by
  obtain⟨cv,iS⟩:∃cv,(C.update a (Obj.mapSeq λ_=>(p.map λi=>ae.getD i Value.none).toArray)).get? a=some (seqObj "list" (p.map λi=>ae.getD i Value.none).toArray cv):=⟨_,get?_update_seq pf λ_=>(p.map λi=>ae.getD i Value.none).toArray⟩;exact h p az aa _ cv (λb o ab q=>(ZT _ _ (Z6 ab)).trans (keep b o ab q)) iS
 have hz:=XX ae
 by_cases J:ae.toArray.size<2
 .rw[if_pos J,if_pos J];refine YW (YY ?_);rw[StateT.run_pure];refine YW (YY ?_);dsimp only;refine YW (seqEpoch_at pf rfl ?_);have bu:(arrOf (SortSt.mk' general' (ae.toArray.zip ae.toArray) #[] 7 none)).map (·.2)=((List.range ae.length).map λi=>ae.getD i Value.none).toArray:=by
   show(ae.toArray.zip ae.toArray).map (·.2)=_;apply Array.toList_inj.mp;rw[Array.toList_map,hz,List.map_map];rfl
  rw[bu];refine YW (listUpdate_at pf rfl ?_ (Zo _) (by rw[Y4,List.length_map,List.length_range,sizeLine_eq];omega));simp only[aaI,Y1,Zk];refine YY (fin _ (.refl _) ?_);have h2:ae.length<2:=by simpa using J
  match ae,h2 with
  |[],_=>exact List.Pairwise.nil
  |[_],_=>exact aan _ _
 .rw[if_neg J,if_neg J];have h2:2<=ae.length:=(by simp at J;exact J);refine YW (ax h2 C keep _ ?_);have cP:∀x:Keyed,∃i,(∃i,i<ae.length/\x=pr ae i)->i<ae.length/\x=pr ae i:=λx=>by
   by_cases c:∃i,i<ae.length/\x=pr ae i
   .obtain⟨i,ai⟩:=c;exact⟨i,λ_=>ai⟩
   .exact⟨0,λq=>absurd q c⟩
  obtain⟨idx,ub⟩:∃idx:Keyed->Nat,∀x,(∃i,i<ae.length/\x=pr ae i)->idx x<ae.length/\x=pr ae (idx x):=⟨λx=>(cP x).choose,λx=>(cP x).choose_spec⟩;have Or:hF (model prog w) A E { s with heap:=C } κ (λx=>∃i,i<ae.length/\x=pr ae i) (λx y=>lt (idx x) (idx y)):=by
   refine⟨λx y st Q ao aV y6 q=>?_,λx y _ _ q=>O.nB _ _ q,λx y z _ _ _ aU bq=>O.fM _ _ _ aU bq⟩;obtain⟨e3,ex⟩:=ub x ao;obtain⟨zz,gF⟩:=ub y aV;rw[lt'_eq];refine ZG (wpS_get ?_);refine ZG (wpS_lift (abP ?_));have:=ag h2 C keep (idx x) (idx y) (λb s'=>s'={ s with heap:=C }/\b=lt (idx x) (idx y)) e3 zz ⟨rfl,rfl⟩;unfold kas_ask at this;have aj:ae.getD (idx x) Value.none=x.1:=(Z8 Prod.fst ex).symm;have ak:ae.getD (idx y) Value.none=y.1:=(Z8 Prod.fst gF).symm;rw[aj,ak]at this;rw[y6];refine ZR this (λb s' ⟨aa,ab⟩=>⟨aa,?_⟩) λ_ _ z=>z.elim
   subst ab;exact aai q
  have run:=Uu (st:=SortSt.mk' κ (ae.toArray.zip ae.toArray) #[] 7 none) (Q:=λ_ bo=>failedOf bo=none/\∃p:List Nat,p.Perm (List.range ae.length)/\p.Pairwise (λi j=>lt j i=false)/\(arrOf bo).toList=p.map (pr ae)) Or rfl rfl rfl
   (λx ao=>by
    have ao:x∈(ae.toArray.zip ae.toArray).toList:=ao;rw[hz]at ao;obtain⟨i,ai,rfl⟩:=List.mem_map.mp ao;exact⟨i,List.mem_range.mp ai,rfl⟩) (by show 2<=(ae.toArray.zip ae.toArray).size;rw[<- Array.length_toList,hz];simpa using h2) (by show(ae.toArray.zip ae.toArray).size<64;rw[<- Array.length_toList,hz];simpa using Oh) λbo aG aZ ee=>by
     have aZ:(arrOf bo).toList.Perm (ae.toArray.zip ae.toArray).toList:=aZ;rw[hz]at aZ;obtain⟨p,bb,bL⟩:=SY (pr ae) aZ _ rfl;refine⟨aG,p,bb,?_,bL⟩;rw[bL,Zu]at ee;refine Zx (λ{i j} ai aJ q=>?_) ee;have ai:=List.mem_range.mp (bb.mem_iff.mp ai);have aJ:=List.mem_range.mp (bb.mem_iff.mp aJ);obtain⟨e3,lh⟩:=ub (pr ae i) ⟨i,ai,rfl⟩;obtain⟨zz,lj⟩:=ub (pr ae j) ⟨j,aJ,rfl⟩;have q:lt (idx (pr ae j)) (idx (pr ae i))=false:=q;rw[(aN j (idx (pr ae j)) aJ zz (Z8 Prod.fst lj) i).1,(aN i (idx (pr ae i)) ai e3 (Z8 Prod.fst lh) _).2];exact q
  refine YW (ZR run ?_ λ_ _ e=>e);rintro⟨⟨⟩,bo⟩ s' ⟨rfl,hf,p,bb,bL,df⟩;have Pu:(arrOf bo).map (·.2)=(p.map λi=>ae.getD i Value.none).toArray:=by
   apply Array.toList_inj.mp;rw[Array.toList_map,df,List.map_map];rfl
  rw[Pu];refine YW (seqEpoch_at pf rfl ?_);refine YW (listUpdate_at pf rfl ?_ (Zo _) (by rw[Y4,List.length_map,bb.length_eq,List.length_range,sizeLine_eq];omega));rw[hf];simp only[aaI,Y1,Zk];exact YY (fin p bb bL)
end
end Tm
end
section
namespace fe
open PySem PySem.W PyProof.Rows PySem.Calls
section
variable{prog:Program}{w:World}{A:Around}{E:Value->Shared->Prop}{s:Shared}
noncomputable def ltI{κ:Type}(lt:κ->κ->Bool)(z:κ)(ar:List κ)(i j:Nat):Bool:=lt (ar.getD i z) (ar.getD j z)
def z4{κ:Type}{lt:κ->κ->Bool}(L:bt.gT lt)(z:κ)(ar:List κ):Tm.Ord (ltI lt z ar) where
 gc:=λx=>L.gc _
 fM:=λx y z C J=>bt.Fc L C J
 nB:=λx y h=>bt.Fd L h
def N8{κ:Type}(z:κ)(ar:List κ):(List.range ar.length).map (λi=>ar.getD i z)=ar:=by
 apply aao;intro i;rw[Ze]
 by_cases h:i<ar.length
 .rw[aaO h];simp[List.getD,h]
 .rw[Zq (by simpa using h),Zq (by simpa using h)];rfl
def VW{κ:Type}{lt:κ->κ->Bool}(L:bt.gT lt)(z:κ)(ar:List κ){p:List Nat}(C:p.Perm (List.range ar.length))(J:p.Pairwise (λi j=>ltI lt z ar j i=false)):(p.map λi=>ar.getD i z)=bt.cR lt ar:=by
 refine bt.IP L ?_ (bt.IM L ar) ?_
 .unfold bt.oO;rw[Zu];exact J
 .refine((C.map λi=>ar.getD i z).trans ?_).trans (bt.vb ar).symm;rw[N8]
def z0{κ:Type}{lt:κ->κ->Bool}{z:κ}{ar:List κ}{ae:List Value}(h:∀i j,i<ae.length->j<ae.length->ae.getD i Value.none=ae.getD j Value.none->ar.getD i z=ar.getD j z):
  ∀i j,i<ae.length->j<ae.length->ae.getD i Value.none=ae.getD j Value.none->∀k,ltI lt z ar i k=ltI lt z ar j k/\ltI lt z ar k i=ltI lt z ar k j:=λi j ai aJ e k=>by
 unfold ltI;rw[h i j ai aJ e];exact⟨rfl,rfl⟩
theorem ints_get:∀{ae:List Value}{ns:List Int}(h:IntsAre ae ns)(i:Nat),i<ae.length->∃t,ae.getD i Value.none=.int (ns.getD i 0) t
 |_,_,.nil,i,h=>by simp at h
 |_,_,.cons n t _,0,_=>⟨t,rfl⟩
 |_,_,.cons n t r,i+1,h=>by
  obtain⟨u,e⟩:=ints_get r i (by simpa using h);exact⟨u,by simpa[List.getD] using e⟩
theorem zx:∀{ae:List Value}{ns:List Int}(h:IntsAre ae ns),ns.length=ae.length
 |_,_,.nil=>rfl
 |_,_,.cons n t r=>by simp[zx r]
def QB{ae:List Value}{ns:List Int}(h:IntsAre ae ns):∀i j,i<ae.length->j<ae.length->ae.getD i Value.none=ae.getD j Value.none->ns.getD i 0=ns.getD j 0:=λi j ai aJ e=>by
 obtain⟨t,aj⟩:=ints_get h i ai;obtain⟨u,ak⟩:=ints_get h j aJ;rw[aj,ak]at e;injection e
def JU{ae:List Value}{ns:List Int}(b4:IntsAre ae ns)(i j:Nat)(bH:Bool->Shared->Prop)(ai:i<ae.length)(aJ:j<ae.length)(h:bH (ltI bt.ltI 0 ns i j) s):kas_ask prog w A oneType' ae i j bH s:=by
 obtain⟨t,aj⟩:=ints_get b4 i ai;obtain⟨u,ak⟩:=ints_get b4 j aJ;unfold kas_ask;rw[aj,ak];exact kat_lt_int h
def QI{ae:List Value}{ns:List Int}(b4:IntsAre ae ns)(J:2<=ae.length){Q:SortKind->Shared->Prop}(h:Q oneType' s):wpAny (model prog w) A (keyKind' ae.toArray) Q E s:=by
 obtain⟨v3,v5,rest,rfl⟩:∃v3 v5 rest,ae=v3::v5::rest:=by
  match ae,J with
  |v3::v5::rest,_=>exact⟨v3,v5,rest,rfl⟩
 rw[keyKind_ints b4];exact YY h
noncomputable def gm(h:Heap):List Value->List (List Int)->Prop
 |[],[]=>True
 |v::ae,k::ar=>(∃a o xs n,v=.ref a/\h.get? a=some o/\o.cls=.type "tuple"/\o.data=.seq xs n/\IntsAre xs.toList k/\k≠[])/\gm h ae ar
 |_,_=>False
theorem gm.kept{h h':Heap}(k:∀b o,h.get? b=some o->h'.get? b=some o):∀{ae:List Value}{ar:List (List Int)},gm h ae ar->gm h' ae ar
 |[],[],_=>trivial
 |v::ae,x::ar,⟨⟨a,o,xs,n,e,av,r⟩,t⟩=>⟨⟨a,o,xs,n,e,k a o av,r⟩,t.kept k⟩
theorem gm.len{h:Heap}:∀{ae:List Value}{ar:List (List Int)},gm h ae ar->ar.length=ae.length
 |[],[],_=>rfl
 |v::ae,x::ar,⟨_,t⟩=>by simp[t.len]
theorem gm.get{h:Heap}:∀{ae:List Value}{ar:List (List Int)},gm h ae ar->∀i,i<ae.length->∃a o xs n,ae.getD i Value.none=.ref a/\h.get? a=some o/\o.cls=.type "tuple"/\o.data=.seq xs n/\IntsAre xs.toList (ar.getD i [])/\ar.getD i []≠[]
 |[],[],_,i,ai=>by simp at ai
 |v::ae,x::ar,⟨q,t⟩,0,_=>q
 |v::ae,x::ar,⟨q,t⟩,i+1,ai=>by
  have:=t.get i (by simpa using ai);simpa[List.getD] using this
def EJ{us:List Value}{xs:List Int}(h:IntsAre us xs):∀{ys:List Int},IntsAre us ys->xs=ys:=by
 induction h with
 |nil=>intro ys q;cases q;rfl
 |cons n t _ aE =>
  intro ys q;cases q with
  |cons _ _ q=>rw[aE q]
def QG{h:Heap}{ae:List Value}{ar:List (List Int)}(H:gm h ae ar):∀i j,i<ae.length->j<ae.length->ae.getD i Value.none=ae.getD j Value.none->ar.getD i []=ar.getD j []:=λi j ai aJ e=>by
 obtain⟨a,o,xs,n,aj,aU,_,bq,ck,_⟩:=H.get i ai;obtain⟨mi,bG,sQ,cn,ak,pP,_,om,Ai,_⟩:=H.get j aJ;rw[aj,ak]at e;injection e with e;subst e;rw[aU]at pP;cases pP;rw[bq]at om;cases om;exact EJ ck Ai
theorem gm.rT {h : Heap} : ∀ {ae : List Value} {ar : List (List Int)}, gm h ae ar -> ∃ bA : List Value, KatTups h ae bA /\ bA.length = ae.length /\ ∀ v ∈ bA, ∃ i t, v = Value.int i t
  | [], [], _ => ⟨[], KatTups.nil, rfl, by simp⟩
  | v :: ae, x :: ar, ⟨⟨a, o, xs, n, e, av, ag, hd, b4, ea⟩, t⟩ => by
    subst e
    obtain ⟨bA, C, J, aC⟩ := t.rT
    obtain ⟨i, u, hf⟩ : ∃ i u, xs[0]? = some (Value.int i u) := by
      cases q : xs.toList with
      | nil => rw [q] at b4; cases b4; exact absurd rfl ea
      | cons y ys =>
        rw [q] at b4
        cases b4 with
        | cons n t r => exact ⟨n, t, by have : xs.toList[0]? = some (Value.int n t) := by rw [q]; rfl
                                        simpa using this⟩
    refine ⟨Value.int i u :: bA, KatTups.cons av ag hd hf C, by simp [J], fun z hz => ?_⟩
    rcases Y0.mp hz with rfl | hz
    · exact ⟨i, u, rfl⟩
    · exact aC z hz
noncomputable def n6(fin:Bool):List Int->List Int->Bool
 |x::xs,y::ys=>if x=y then n6 fin xs ys else decide (x<y)
 |_,_=>fin
theorem E5:∀(xs ys:List Int),n6 (decide (xs.length<ys.length)) xs ys=bt.lexLt xs ys
 |[],[]=>rfl
 |[],_::_=>rfl
 |_::_,[]=>rfl
 |x::xs,y::ys=>by
  have e:decide ((x::xs).length<(y::ys).length)=decide (xs.length<ys.length):=(by simp);rw[e];simp only[n6,bt.lexLt,E5 xs ys]
theorem ER{fin:Bool}{Q:Bool->Shared->Prop}:∀{us ae:List Value}{xs ys:List Int}(i:Nat),IntsAre us xs->IntsAre ae ys->Q (n6 fin xs ys) s->KatLex prog w A true fin Q (us.zip ae) i s
 |_,_,_,_,i,.nil,_,h=>by simpa[n6] using kat_nil (prog:=prog) (w:=w) (A:=A) (b:=true) (i:=i) h
 |_,_,_,_,i,.cons x t r,.nil,h=>by simpa[n6] using kat_nil (prog:=prog) (w:=w) (A:=A) (b:=true) (i:=i) h
 |_,_,_,_,i,.cons x t r,.cons y u q,h=>by
  refine kat_cons (wpAny_eqBool_int ?_);simp only[n6]at h
  by_cases e:x=y
  .subst e;rw[if_pos rfl]at h;rw[show(x==x)=true by simp];exact kat_yes (ER (i+1) r q h)
  .rw[if_neg e]at h;rw[show(x==y)=false by simpa using e];refine kat_no ?_;cases ab:(true&&i==0) with
   |true=>exact oneLt_int h
   |false=>exact kat_one _ _ (lt_int (show W.BoolBack Q (Value.bool (decide (x<y))) s from h))
def JV{ae:List Value}{ar:List (List Int)}(c5:gm s.heap ae ar)(i j:Nat)(bH:Bool->Shared->Prop)(ai:i<ae.length)(aJ:j<ae.length)(h:bH (ltI bt.lexLt [] ar i j) s):kas_ask prog w A (tuples' true) ae i j bH s:=by
 obtain⟨a,o,xs,n,aj,av,ag,hd,b4,_⟩:=c5.get i ai;obtain⟨b,bG,ys,cn,ak,dI,cN,f9,kl,_⟩:=c5.get j aJ;unfold kas_ask;rw[aj,ak];refine kat_lt av hd dI f9 (ER 0 b4 kl ?_);have eu:(ar.getD i []).length=xs.size:=by rw[zx b4,Array.length_toList]
 have eG:(ar.getD j []).length=ys.size:=by rw[zx kl,Array.length_toList]
 rw[<- eu,<- eG,E5];exact h
def QJ{ae:List Value}{ar:List (List Int)}(c5:gm s.heap ae ar)(J:2<=ae.length){Q:SortKind->Shared->Prop}(h:Q (tuples' true) s):wpAny (model prog w) A (keyKind' ae.toArray) Q E s:=by
 obtain⟨bA,a8,aR,bz⟩:=c5.rT;refine kat_kind (T:=Value.type "int") a8 (by omega) (λv aN=>?_) (by decide) (by rw[show(Value.type "int" != Value.type "tuple")=true by decide];exact h);obtain⟨i,t,rfl⟩:=bz v aN;exact Looks.of_pure rfl
end
end fe
end
section
namespace bt
noncomputable def fU:List (List Int)->List (List Int)->Bool
 |[],[]=>false
 |[],_::_=>true
 |_::_,[]=>false
 |x::xs,y::ys=>if x=y then fU xs ys else lexLt x y
theorem E2:∀a,fU a a=false
 |[]=>rfl
 |x::a=>by simp[fU,E2 a]
theorem E1:∀a b,a≠b->fU a b=true\/fU b a=true
 |[],[],h=>absurd rfl h
 |[],_::_,_=>.inl rfl
 |_::_,[],_=>.inr rfl
 |x::a,y::b,h=>by
  simp only[fU]
  by_cases e:x=y
  .subst e;simp only[ZH];exact E1 a b λz=>h (by rw[z])
  .rw[if_neg e,if_neg (Z6 e)];exact rY x y e
theorem E3:∀{a b c},fU a b=true->fU b c=true->fU a c=true
 |[],[],_,h,_=>by simp[fU]at h
 |[],_::_,[],_,h=>by simp[fU]at h
 |[],_::_,_::_,_,_=>rfl
 |_::_,[],_,h,_=>by simp[fU]at h
 |_::_,_::_,[],_,h=>by simp[fU]at h
 |x::a,y::b,z::c,C,J=>by
  simp only[fU]at *
  by_cases e:x=y
  .subst e;rw[if_pos rfl]at C
   by_cases ak:x=z
   .subst ak;rw[if_pos rfl]at J ⊢;exact E3 C J
   .rw[if_neg ak]at J ⊢;exact J
  .rw[if_neg e]at C
   by_cases ak:y=z
   .subst ak;rw[if_neg e];exact C
   .rw[if_neg ak]at J;have t:=rZ C J
    by_cases bu:x=z
    .subst bu;rw[pz]at t;cases t
    .rw[if_neg bu];exact t
def Fb:gT fU:=⟨E2,E3,E1⟩
noncomputable def qH(c:List (List Int)):Den.D:=.tup (c.map au)
theorem Fi:∀a b:List (List Int),Den.jk (a.map au) (b.map au)=some (fU a b)
 |[],[]=>rfl
 |[],_::_=>rfl
 |_::_,[]=>rfl
 |x::a,y::b=>by
  rw[show Den.jk ((x::a).map au) ((y::b).map au)=if Den.f5 (au x) (au y)=true then Den.jk (a.map au) (b.map au) else Den.iX (au x) (au y) from rfl,Fi a b,n8,mB];simp only[fU]
  by_cases h:x=y<;>simp[h]
def Rl(a b:List (List Int)):Den.iX (qH a) (qH b)=some (fU a b):=Fi a b
end bt
namespace fe
open PySem PySem.W PyProof.Rows PySem.Calls
noncomputable def iK(h:Heap):List Value->List (List (List Int))->Prop
 |[],[]=>True
 |v::ae,k::ar=>(∃a o xs n,v=.ref a/\h.get? a=some o/\o.cls=.type "tuple"/\o.data=.seq xs n/\gm h xs.toList k/\k≠[])/\iK h ae ar
 |_,_=>False
theorem iK.kept{h h':Heap}(k:∀b o,h.get? b=some o->h'.get? b=some o):∀{ae:List Value}{ar:List (List (List Int))},iK h ae ar->iK h' ae ar
 |[],[],_=>trivial
 |v::ae,x::ar,⟨⟨a,o,xs,n,e,av,ag,hd,b4,ea⟩,t⟩=>⟨⟨a,o,xs,n,e,k _ _ av,ag,hd,b4.kept k,ea⟩,t.kept k⟩
 |[],_::_,h=>h.elim
 |_::_,[],h=>h.elim
theorem iK.get{h:Heap}:∀{ae:List Value}{ar:List (List (List Int))},iK h ae ar->∀i,i<ae.length->∃a o xs n,ae.getD i Value.none=.ref a/\h.get? a=some o/\o.cls=.type "tuple"/\o.data=.seq xs n/\gm h xs.toList (ar.getD i [])/\ar.getD i []≠[]
 |[],[],_,i,ai=>by simp at ai
 |v::ae,x::ar,⟨t,r⟩,0,_=>by simpa[List.getD] using t
 |v::ae,x::ar,⟨t,r⟩,i+1,ai=>by simpa[List.getD] using iK.get r i (by simpa using ai)
 |[],_::_,h,_,_=>h.elim
 |_::_,[],h,_,_=>h.elim
theorem Ik{h:Heap}:∀{ae:List Value}{xs ys:List (List Int)},gm h ae xs->gm h ae ys->xs=ys
 |[],[],[],_,_=>rfl
 |v::ae,x::xs,y::ys,⟨⟨a,o,us,n,e,av,ag,hd,b4,_⟩,t⟩,⟨⟨mi,bG,YQ,cn,bp,dI,cN,f9,kl,_⟩,t'⟩=>by
  subst e;cases bp;rw[av]at dI;cases dI;rw[hd]at f9;cases f9;rw[EJ b4 kl,Ik t t']
 |[],_::_,_,h,_=>h.elim
 |[],[],_::_,_,h=>h.elim
 |_::_,[],_,h,_=>h.elim
 |_::_,_::_,[],_,h=>h.elim
def QH{h:Heap}{ae:List Value}{ar:List (List (List Int))}(H:iK h ae ar):∀i j,i<ae.length->j<ae.length->ae.getD i Value.none=ae.getD j Value.none->ar.getD i []=ar.getD j []:=λi j ai aJ e=>by
 obtain⟨a,o,xs,n,aU,vf,_,bq,ck,_⟩:=H.get i ai;obtain⟨mi,bG,sQ,cn,pP,Gs,_,om,Ai,_⟩:=H.get j aJ;rw[aU,pP]at e;cases e;rw[vf]at Gs;cases Gs;rw[bq]at om;cases om;exact Ik ck Ai
theorem iK.rT {h : Heap} : ∀ {ae : List Value} {ar : List (List (List Int))}, iK h ae ar -> ∃ bA : List Value, KatTups h ae bA /\ bA.length = ae.length /\ ∀ v ∈ bA, ∃ a o, v = Value.ref a /\ h.get? a = some o /\ o.cls = .type "tuple"
  | [], [], _ => ⟨[], KatTups.nil, rfl, by simp⟩
  | v :: ae, x :: ar, ⟨⟨a, o, xs, n, e, av, ag, hd, b4, ea⟩, t⟩ => by
    subst e
    obtain ⟨bA, C, J, aC⟩ := t.rT
    obtain ⟨b, bG, hf, ab, Oz⟩ : ∃ b bG, xs[0]? = some (Value.ref b) /\ h.get? b = some bG /\ bG.cls = .type "tuple" := by
      cases q : xs.toList with
      | nil =>
        rw [q] at b4
        cases x with
        | nil => exact absurd rfl ea
        | cons _ _ => exact b4.elim
      | cons y ys =>
        rw [q] at b4
        cases x with
        | nil => exact b4.elim
        | cons k x =>
          obtain ⟨⟨b, bG, us, cn, aj, ak, bu, _⟩, _⟩ := b4
          exact ⟨b, bG, by have : xs.toList[0]? = some (Value.ref b) := by rw [q, aj]; rfl
                           simpa using this, ak, bu⟩
    refine ⟨Value.ref b :: bA, KatTups.cons av ag hd hf C, by simp [J], fun z hz => ?_⟩
    rcases Y0.mp hz with rfl | hz
    · exact ⟨b, bG, rfl, ab, Oz⟩
    · exact aC z hz
  | [], _ :: _, h => h.elim
  | _ :: _, [], h => h.elim
section
variable{prog:Program}{w:World}{A:Around}{E:Value->Shared->Prop}{s:Shared}
noncomputable def n7(fin:Bool):List (List Int)->List (List Int)->Bool
 |x::xs,y::ys=>if x=y then n7 fin xs ys else bt.lexLt x y
 |_,_=>fin
theorem E4:∀(xs ys:List (List Int)),n7 (decide (xs.length<ys.length)) xs ys=bt.fU xs ys
 |[],[]=>rfl
 |[],_::_=>rfl
 |_::_,[]=>rfl
 |x::xs,y::ys=>by
  have e:decide ((x::xs).length<(y::ys).length)=decide (xs.length<ys.length):=(by simp);rw[e];simp only[n7,bt.fU,E4 xs ys]
theorem E6:∀a b:List Int,c8.lexLt a b=bt.lexLt a b
 |[],[]=>rfl
 |[],_::_=>rfl
 |_::_,[]=>rfl
 |x::a,y::b=>by simp only[c8.lexLt,bt.lexLt,E6 a b]
noncomputable def sk(k:List Int):PyData:=.tuple (k.map .int)
theorem An{h:Heap}:∀{us:List Value}{k:List Int},IntsAre us k->ReadsAll h us (k.map .int) []
 |_,_,.nil=>.nil
 |_,_,.cons n t r=>.cons (as:=[]) (.int n t) (An r)
theorem CY:∀a b:List Int,PyData.eqvAll (a.map .int) (b.map .int)=decide (a=b)
 |[],[]=>rfl
 |[],_::_=>rfl
 |_::_,[]=>rfl
 |x::a,y::b=>by
  rw[List.map_cons,List.map_cons,PyData.eqvAll,CY a b,PyData.eqv]
  by_cases h:x=y<;>simp[h]
theorem uJ:∀a:List Int,PyData.canLayAll0 (a.map .int)=true/\PyData.depthAll (a.map .int)=0
 |[]=>⟨rfl,rfl⟩
 |x::a=>by
  obtain⟨C,J⟩:=uJ a;exact⟨by rw[List.map_cons,PyData.canLayAll0,C];rfl,by rw[List.map_cons];show max (PyData.depth (.int x)) (PyData.depthAll (a.map .int))=0;rw[J];rfl⟩
theorem ES{fin:Bool}{Q:Bool->Shared->Prop}(bw:A.units+2<cLine):∀{us ae:List Value}{xs ys:List (List Int)}(i:Nat),gm s.heap us xs->gm s.heap ae ys->Q (n7 fin xs ys) s->KatLex prog w A false fin Q (us.zip ae) i s
 |[],_,[],_,i,_,_,h=>by simpa[n7] using kat_nil (prog:=prog) (w:=w) (A:=A) (b:=false) (i:=i) h
 |_::_,[],_::_,[],i,_,_,h=>by simpa[n7] using kat_nil (prog:=prog) (w:=w) (A:=A) (b:=false) (i:=i) h
 |u::us,v::ae,x::xs,y::ys,i,⟨⟨a,o,as,n,e,av,ag,hd,b4,_⟩,t⟩,⟨⟨b,bG,bs,cn,bp,dI,cN,f9,kl,_⟩,t'⟩,h=>by
  subst e bp;have aG:Reads s.heap (.ref a) (sk x) []:=.tuple av ag hd (An b4);have aZ:Reads s.heap (.ref b) (sk y) []:=.tuple dI cN f9 (An kl);have dep:∀k:List Int,(sk k).depth=1:=λk=>by show PyData.depthAll (k.map .int)+1=1;rw[(uJ k).2]
  have eq:=SeqAt.eqAt_reads _ _ A s _ _ _ _ aG aZ (show PyData.canLayAll0 (x.map .int)=true from(uJ x).1) (show PyData.canLayAll0 (y.map .int)=true from(uJ y).1) (by rw[dep,dep];show A.units+1<cLine;omega);rw[show PyData.eqv (sk x) (sk y)=decide (x=y) from CY x y]at eq;refine kat_cons (eq prog w _ _ ?_);simp only[n7]at h
  by_cases e:x=y
  .rw[if_pos e]at h;rw[decide_eq_true e];exact kat_yes (ES bw (i+1) t t' h)
  .rw[if_neg e]at h;rw[decide_eq_false e];refine kat_no (kat_one _ _ ?_);have bb:s.heap.IsTuple a as:=⟨o,av,ag,n,hd⟩;have bL:s.heap.IsTuple b bs:=⟨bG,dI,cN,cn,f9⟩;exact c8.Fj bb bL b4 kl (by omega) (by rw[E6];exact h)
 |[],_,_::_,_,_,h,_,_=>h.elim
 |_::_,_,[],_,_,h,_,_=>h.elim
 |_::_,[],_::_,_::_,_,_,h,_=>h.elim
 |_::_,_::_,_::_,[],_,_,h,_=>h.elim
def JW{ae:List Value}{ar:List (List (List Int))}(bw:A.units+2<cLine)(c5:iK s.heap ae ar)(i j:Nat)(bH:Bool->Shared->Prop)(ai:i<ae.length)(aJ:j<ae.length)(h:bH (ltI bt.fU [] ar i j) s):kas_ask prog w A (tuples' false) ae i j bH s:=by
 obtain⟨a,o,xs,n,aj,av,ag,hd,b4,_⟩:=c5.get i ai;obtain⟨b,bG,ys,cn,ak,dI,cN,f9,kl,_⟩:=c5.get j aJ;unfold kas_ask;rw[aj,ak];refine kat_lt av hd dI f9 (ES bw 0 b4 kl ?_);have eu:(ar.getD i []).length=xs.size:=by rw[b4.len,Array.length_toList]
 have eG:(ar.getD j []).length=ys.size:=by rw[kl.len,Array.length_toList]
 rw[<- eu,<- eG,E4];exact h
def QK{ae:List Value}{ar:List (List (List Int))}(c5:iK s.heap ae ar)(J:2<=ae.length){Q:SortKind->Shared->Prop}(h:Q (tuples' false) s):wpAny (model prog w) A (keyKind' ae.toArray) Q E s:=by
 obtain⟨bA,a8,aR,bz⟩:=c5.rT;refine kat_kind (T:=Value.type "tuple") a8 (by omega) (λv aN=>?_) (by decide) (by rw[show(Value.type "tuple" != Value.type "tuple")=false by decide];exact h);obtain⟨a,o,rfl,av,ag⟩:=bz v aN;rw[<- ag];exact(Looks.ld av).andThen .now
end
end fe
end
section
namespace eC
open Den bt
variable{pg:dy}{Φ:dW}
noncomputable def YD:D->Bool
 |.int _=>true
 |_=>false
section
variable{α:Type}{lt:α->α->Bool}
def vq{n d k:Nat}(h:k<=n):bW n d (some (k:Int))=k:=by
 have C:¬((k:Int)<0):=by omega
 have J:¬((n:Int)<(k:Int)):=by omega
 simp only[bW,if_neg C,if_neg J];omega
def G4{n d k:Nat}(h:n<k):bW n d (some (k:Int))=n:=by
 have C:¬((k:Int)<0):=by omega
 have J:((n:Int)<(k:Int)):=by omega
 simp only[bW,if_neg C,if_pos J]
def Cy{β:Type}(xs:List β)(k:Nat):cut xs (some (k:Int)) none=xs.drop k:=by
 unfold cut
 by_cases h:k<=xs.length
 .rw[vq h];show List.take (xs.length-k) (xs.drop k)=_;rw[aat (by simp)]
 .rw[G4 (by omega),List.drop_of_length_le (Y2 _),List.drop_of_length_le (by omega)];simp
def K7{β:Type}(xs:List β)(k:Nat):cut xs none (some (k:Int))=xs.take k:=by
 unfold cut
 by_cases h:k<=xs.length
 .rw[vq h];simp[bW]
 .rw[G4 (by omega)];simp only[bW,List.drop_zero,Nat.sub_zero];rw[aat (Y2 _),aat (by omega)]
end
noncomputable def IsCell(m:Int)(c:List Int):Prop:=c≠[]/\(∀x∈c,0<=x/\x<m)/\cZ ltI c
noncomputable instance (m:Int) (c:List Int):Decidable (IsCell m c):=by unfold IsCell cZ;infer_instance
def N7{α:Type}(x:α)(xs:List α):iP (x::xs) (-1)=(x::xs).getLast?:=by
 have e:hQ (x::xs).length (-1)=some xs.length:=by
  unfold hQ;have C:¬((0:Int)<=-1):=(by decide);have J:(0:Int)<=-1+((x::xs).length:Nat):=(by simp only[List.length_cons];omega);rw[if_neg C,if_pos J];simp only[List.length_cons];congr 1;omega
 unfold iP;rw[e];simp[List.getLast?_eq_getElem?]
def yz{α:Type}(xs:List α)(k:Nat):iP xs (k:Int)=xs[k]?:=by
 unfold iP hQ;rw[if_pos (by omega)]
 by_cases h:k<xs.length
 .rw[if_pos (by omega)];simp
 .rw[if_neg (by omega)];simp;omega
def yy{α:Type}(x:α)(xs:List α):iP (x::xs) 0=some x:=by have:=yz (x::xs) 0;simpa using this
def getLast?_map{α β:Type}(f:α->β)(xs:List α):(xs.map f).getLast?=xs.getLast?.map f:=by simp
noncomputable def lies(c o:List Int):Bool:=c.all λx=>decide (x∈o)
def mQ{c o:List Int}:lies c o=true<->∀x∈c,x∈o:=by simp[lies]
def KX{g:D->R (Option D)}{p:Int->D}{c:List Int}(h:∀x∈c,g (.int x)=.ok (some (p x))):da g (c.map .int)=.ok (c.map p):=by
 rw[Ct (g:=λd=>match d with|.int x=>some (p x)|_=>none)]
 .congr 1
  induction c with
  |nil=>rfl
  |cons x c aE=>simp[aE λy aV=>h y (List.mem_cons_of_mem _ aV)]
 .intro d hd;obtain⟨x,ao,rfl⟩:=List.mem_map.mp hd;exact h x ao
def NQ{α β:Type}(f:α->β)(xs:List α):xs.filterMap (λx=>some (f x))=xs.map f:=by
 induction xs with
 |nil=>rfl
 |cons x xs aE=>simp
def NP{α β:Type}(q:α->Bool)(f:α->β)(xs:List α):xs.filterMap (λx=>if q x then some (f x) else none)=(xs.filter q).map f:=by
 induction xs with
 |nil=>rfl
 |cons x xs aE=>cases h:q x<;>simp[h,aE]
noncomputable def cO(m:Int):List Int:=(List.range m.toNat).map λ(k:Nat)=>(k:Int)
def vi(m:Int):e4 0 m=(cO m).map .int:=by
 unfold e4 cO;rw[List.map_map];have:(m-0).toNat=m.toNat:=by omega
 rw[this];apply Zw;intro k _;simp
def oe{m x:Int}:x∈cO m<->0<=x/\x<m:=by
 unfold cO;rw[List.mem_map];constructor
 .rintro⟨k,ax,rfl⟩;have:=List.mem_range.mp ax;omega
 .rintro⟨C,J⟩;exact⟨x.toNat,List.mem_range.mpr (by omega),by omega⟩
noncomputable def hK(m:Int)(ts:List (List Int)):Bool:=(cO m).all λk=>ts.any (lies [k])
def tq{m:Int}{ts:List (List Int)}:hK m ts=true<->∀x,0<=x->x<m->∃t∈ts,x∈t:=by
 unfold hK;simp only[Zp,abc,mQ,oe,Zb,forall_eq];exact⟨λh x a b=>h x ⟨a,b⟩,λh x BC=>h x BC.1 BC.2⟩
def GR{m:Int}(h:-1000<=m)(h':m<=1000):ou m=true:=by unfold ou;simp;omega
def ov{i j:Int}(C:-1000<=i)(J:i<=1000)(aC:-1000<=j)(aT:j<=1000):i0 i j=.ok (e4 i j):=by
 have b6:(j-i).toNat<=1000000:=by omega
 unfold i0;rw[GR C J,GR aC aT,decide_eq_true b6];rfl
def Dr{α:Type}{p:α->Bool}{c:α}(pre:List α)(h:p c=true):(pre++[c]).filter p=pre.filter p++[c]:=by rw[abl];simp[h]
def Dq{α:Type}{p:α->Bool}{c:α}(pre:List α)(h:p c=false):(pre++[c]).filter p=pre.filter p:=by rw[abl];simp[h]
noncomputable def ef(cs:List (List Int)):List (List Int):=(cR lexLt (c1 cs)).filter λc=>!((cR lexLt (c1 cs)).filter λo=>decide (c.length<o.length)).any (lies c)
def gA:SZ=16777216:=rfl
noncomputable def bk(m:Int)(ts:List (List Int)):D:=.tup [.int m,.tup (ts.map au)]
noncomputable def yj(d:D):Prop:=∀m ts,d=bk m ts->(∀c∈ts,IsCell m c)->(c1 ts).length<=63
end eC
end
section
namespace cU
open Den bt eC
variable{pg:dy}{Φ:dW}
mutual
theorem VG:∀(n:Nat)(d:D),cY n d=true->cY (n+1) d=true
 |n,.dp,_=>rfl
 |n,.aO _,_=>rfl
 |n,.int _,_=>rfl
 |0,.str _,h=>h
 |n+1,.str _,h=>h
 |0,.tup _,h=>by cases h
 |n+1,.tup xs,h=>AG n xs h
 |0,.lst _,h=>by cases h
 |n+1,.lst xs,h=>AG n xs h
 |0,.b7 _,h=>by cases h
 |0,.bE _,h=>by cases h
 |0,.cG _,h=>by cases h
 |n+1,.cG _,h=>by cases h
 |n+1,.b7 _,h=>by cases h
 |n+1,.bE _,h=>by cases h
 |0,.fs _,h=>by cases h
 |n+1,.fs _,h=>by cases h
theorem AG:∀(n:Nat)(xs:List D),xs.all (cY n)=true->xs.all (cY (n+1))=true
 |_,[],_=>rfl
 |n,x::xs,h=>by
  simp only[List.all_cons,YX]at h ⊢;exact⟨VG n x h.1,AG n xs h.2⟩
end
def P6{c:List Int}{k:Nat}{x:Int}(h:c[k]?=some x):fF (.tup (c.map .int)) (.int (k:Int))=.ok (.int x):=by
 rw[uy,yz,Ze,h];rfl
def Cs{α:Type}{g:D->R (Option D)}{p:α->Option D}{f:α->D}{ar:List α}(h:∀k∈ar,g (f k)=.ok (p k)):da g (ar.map f)=.ok (ar.filterMap p):=by
 induction ar with
 |nil=>rfl
 |cons c cs aE =>
  simp only[List.map_cons,da,h c List.mem_cons_self,R.iB,aE λy aV=>h y (List.mem_cons_of_mem _ aV),List.filterMap_cons];cases p c<;>rfl
def jH{α:Type}{g:D->R (Option D)}{q:α->Bool}{h:α->D}{f:α->D}{ar:List α}(e:∀k∈ar,g (f k)=.ok (if q k then some (h k) else none)):da g (ar.map f)=.ok ((ar.filter q).map h):=by
 rw[Cs e,NP]
def i9{α:Type}{g:D->R (Option D)}{h:α->D}{f:α->D}{ar:List α}(e:∀k∈ar,g (f k)=.ok (some (h k))):da g (ar.map f)=.ok (ar.map h):=by
 rw[Cs (p:=λk=>some (h k)) e,NQ]
def ox(c:List Int):ez (au c)=.ok (c.map .int):=rfl
def Dx{α:Type}(q:α->Bool)(xs:List α):(xs.filter q).isEmpty=xs.all λx=>!q x:=by
 induction xs with
 |nil=>rfl
 |cons x xs aE=>cases h:q x<;>simp[h,aE]
def uT{α β:Type}(f:α->β)(xs:List α):(xs.map f).isEmpty=xs.isEmpty:=by cases xs<;>rfl
def QU(c o:List Int):c6 pg Φ ⟨2,0,bc.xa⟩ [au c,au o]=.ok (.aO (lies c o)):=by
 have aj:da (elem pg Φ [some (au c),some (au o)] (.var 2) 0 (.some (.cmp .jq (.var 2) (.var 1)))) (c.map .int)=.ok ((c.filter λx=>!decide (x∈o)).map .int):=jH λx _=>by
  simp only[Den.a0,Nat.reduceAdd];unfold au;simp only[Den.a0,Nat.reduceAdd,Fv];cases decide (x∈o)<;>simp only[Den.a0,Nat.reduceAdd]
 simp only[Den.a0,Nat.reduceAdd,bc.xa,ox,aj,CV (ys:=(c.filter λx=>!decide (x∈o)).map .int) (by simp[List.all_map,sC]),uT,Dx,lies,Bool.not_not]
noncomputable def mS(cs:List (List Int)):List (List Int):=(cR lexLt (c1 cs)).filter λc=>cs.all λo=>!(!decide (c=o)&&lies c o)
def QY{f:Nat}(hf:∀c o:List Int,Φ f [au c,au o]=.ok (.aO (lies c o))){d:D}{cs:List (List Int)}(hd:ez d=.ok (cs.map au))(aD:∀c∈cs,c≠[])(gH:(c1 cs).length<=63):
  c6 pg Φ ⟨1,2,bc.xg f⟩ [d]=.ok (.tup ((mS cs).map au)):=by
 simp only[Den.a0,Nat.reduceAdd,bc.xg,hd,vC aD gH];have hlen:(cR lexLt (c1 cs)).length<=63:=by rw[mP];exact gH
 unfold mS;generalize cR lexLt (c1 cs)=ds at *;obtain⟨bC,e,x,he⟩:=gG (f:=au) (g:=turn pg Φ 0 [2] (.cons (.iff (.cmp .eq (.comp (.var 3) 0 (.seq (.var 0)) (.some (.and (.cmp .ne (.var 2) (.var 3)) (.call f (.cons (.var 2) (.cons (.var 3) (.nil))))))) (.lst (.nil))) (.cons (.app 1 (.var 2)) (.nil)) (.nil)) (.nil)))
  (λaS ρ=>∃(x:Option D),ρ=[some d,some (.lst ((aS.filter λc=>cs.all λo=>!(!decide (c=o)&&lies c o)).map au)),x])
  ds [some d,some (.lst []),none] ⟨none,rfl⟩ (λpre c post ρ az ⟨x,b4⟩=>by
   subst b4;have aj:∀z,da (elem pg Φ [some d,z,some (au c)] (.var 3) 0 (.some (.and (.cmp .ne (.var 2) (.var 3)) (.call f (.cons (.var 2) (.cons (.var 3) (.nil))))))) (cs.map au)=.ok ((cs.filter λo=>!decide (c=o)&&lies c o).map au):=λz=>jH λo _=>by
    simp only[Den.a0,Nat.reduceAdd,tF,hf];cases decide (c=o)<;>simp only[Den.a0,Nat.reduceAdd,hf,abo,Bool.true_and];cases lies c o<;>simp only[Den.a0,Nat.reduceAdd]
   have aA:((pre.filter λc=>cs.all λo=>!(!decide (c=o)&&lies c o)).map au).length<SZ:=by
    have C:=Zt (λc=>cs.all λo=>!(!decide (c=o)&&lies c o)) pre;have J:pre.length<=ds.length:=(by rw[az];simp);rw[List.length_map,gA];omega
   simp only[Den.a0,Nat.reduceAdd,hd,aj,CV (vu 58 _),uT,Dx];cases q:(cs.all λo=>!(!decide (c=o)&&lies c o))
   .refine⟨_,by simp only[Den.a0,Nat.reduceAdd];rfl,some (au c),?_⟩;rw[Dq pre (by rw[q])]
   .refine⟨_,by simp only[Den.a0,Nat.reduceAdd,td,if_pos aA];rfl,some (au c),?_⟩;rw[Dr pre (by rw[q]),List.map_append];rfl)
 rw[e,he];simp only[Den.a0,Nat.reduceAdd]
def te{c o:List Int}(ag:cZ ltI c)(av:cZ ltI o)(h:∀x∈c,x∈o)(ne:c≠o):c.length<o.length:=by
 have C:c.length<=o.length:=hr (ag.nodup iW) h;rcases acu c.length o.length with q|q
 .exact q
 .exfalso;apply ne;refine j9 iW ag av λz=>⟨h z,λhz=>?_⟩
  by_cases EA:z∈c
  .exact EA
  .exfalso;have:(z::c).length<=o.length:=hr (Zi.mpr ⟨EA,ag.nodup iW⟩) λw hw=>by
    rcases Y0.mp hw with rfl|hw
    .exact hz
    .exact h w hw
   simp at this;omega
def Fl{cs:List (List Int)}(h:∀c∈cs,cZ ltI c):mS cs=ef cs:=by
 unfold mS ef;apply List.filter_congr;intro c ag;have hm:∀z,z∈cR lexLt (c1 cs)<->z∈cs:=λz=>by rw[iY,jS]
 have ag:=(hm c).mp ag;rw[Bool.eq_iff_iff];simp only[Zp,ZM,Bool.and_eq_false_iff,Bool.not_eq_false',Zf,ab8,Y9,hm];constructor
 .intro q o ⟨av,aA⟩;rcases q o av with rfl|q
  .omega
  .rw[q];exact ZS
 .intro q o av
  by_cases e:c=o
  .exact .inl e
  .refine .inr ?_;cases z:lies c o with
   |false=>rfl
   |true=>exact absurd z (q o ⟨av,te (h c ag) (h o av) (mQ.mp z) e⟩)
noncomputable def hM(w:Nat):Nat->D->Bool
 |_,.dp=>true
 |_,.aO _=>true
 |_,.int _=>true
 |_,.str x=>x.cps.all (· < 0x110000)
 |n+1,.tup xs=>decide (xs.length<=w)&&xs.all (hM w n)
 |n+1,.lst xs=>decide (xs.length<=w)&&xs.all (hM w n)
 |_,_=>false
def DJ{w n:Nat}{xs:List D}(h:(decide (xs.length<=w)&&xs.all (hM w n))=true):xs.length<=w/\xs.all (hM w n)=true:=let ⟨a,b⟩:=abU.mp h;⟨ZQ a,b⟩
mutual
theorem N4 {w:Nat}:∀(n:Nat)(d:D),hM w n d=true->cY n d=true
 |n,.dp,_=>by cases n<;>rfl
 |n,.aO _,_=>by cases n<;>rfl
 |n,.int _,_=>by cases n<;>rfl
 |0,.str _,h=>h
 |n+1,.str _,h=>h
 |0,.tup _,h=>by cases h
 |n+1,.tup xs,h=>yw n xs (abU.mp (show(decide _&&xs.all (hM w n))=true from h)).2
 |0,.lst _,h=>by cases h
 |n+1,.lst xs,h=>yw n xs (abU.mp (show(decide _&&xs.all (hM w n))=true from h)).2
 |0,.b7 _,h=>by cases h
 |0,.bE _,h=>by cases h
 |0,.cG _,h=>by cases h
 |n+1,.cG _,h=>by cases h
 |n+1,.b7 _,h=>by cases h
 |n+1,.bE _,h=>by cases h
 |0,.fs _,h=>by cases h
 |n+1,.fs _,h=>by cases h
theorem yw {w:Nat}:∀(n:Nat)(xs:List D),xs.all (hM w n)=true->xs.all (cY n)=true
 |_,[],_=>rfl
 |n,x::xs,h=>by
  simp only[List.all_cons,YX]at h ⊢;exact⟨N4 n x h.1,yw n xs h.2⟩
end
mutual
theorem N5 {w dQ:Nat} (hw:w<=dQ):∀(n:Nat)(d:D),hM w n d=true->hM dQ (n+1) d=true
 |n,.dp,_=>rfl
 |n,.aO _,_=>rfl
 |n,.int _,_=>rfl
 |0,.str _,h=>h
 |n+1,.str _,h=>h
 |0,.tup _,h=>by cases h
 |n+1,.tup xs,h=>by
  have h:=DJ (show(decide (xs.length<=w)&&xs.all (hM w n))=true from h);show(decide (xs.length<=dQ)&&xs.all (hM dQ (n+1)))=true;rw[yx hw n xs h.2,aci];exact decide_eq_true (by omega)
 |0,.lst _,h=>by cases h
 |n+1,.lst xs,h=>by
  have h:=DJ (show(decide (xs.length<=w)&&xs.all (hM w n))=true from h);show(decide (xs.length<=dQ)&&xs.all (hM dQ (n+1)))=true;rw[yx hw n xs h.2,aci];exact decide_eq_true (by omega)
 |0,.b7 _,h=>by cases h
 |0,.bE _,h=>by cases h
 |0,.cG _,h=>by cases h
 |n+1,.cG _,h=>by cases h
 |n+1,.b7 _,h=>by cases h
 |n+1,.bE _,h=>by cases h
 |0,.fs _,h=>by cases h
 |n+1,.fs _,h=>by cases h
theorem yx {w dQ:Nat} (hw:w<=dQ):∀(n:Nat)(xs:List D),xs.all (hM w n)=true->xs.all (hM dQ (n+1))=true
 |_,[],_=>rfl
 |n,x::xs,h=>by
  simp only[List.all_cons,YX]at h ⊢;exact⟨N5 hw n x h.1,yx hw n xs h.2⟩
end
def nF{m:Int}{c:List Int}(h:IsCell m c):c.length<=m.toNat:=by
 have:c.length<=(cO m).length:=hr (h.2.2.nodup iW) λz hz=>oe.mpr (h.2.1 z hz)
 simpa[cO] using this
theorem Du{k:Nat}:∀{ts:List (List Int)},(∀c∈ts,c.length<=k)->ts.flatten.length<=ts.length*k
 |[],_=>by simp
 |t::ts,h=>by
  have:=Du (ts:=ts) λc ag=>h c (List.mem_cons_of_mem _ ag)
  have C:=h t List.mem_cons_self;simp only[List.flatten_cons,List.length_append,List.length_cons,Nat.succ_mul];omega
def uB{m:Int}(h:m<=6):(cO m).length<=6:=by unfold cO;simp;omega
noncomputable def di:Nat->List Int->List (List Int)
 |0,_=>[[]]
 |_+1,[]=>[]
 |s+1,x::r=>(di s r).map (x::·)++di (s+1) r
theorem r3:∀(s:Nat)(c z:List Int),z∈di s c<->z.length=s/\z.Sublist c
 |0,c,z=>by
  simp only[di,Zb,List.length_eq_zero_iff];exact⟨λh=>⟨h,by subst h;exact abd _⟩,λh=>h.1⟩
 |s+1,[],z=>by
  simp only[di,acn,abN,false_iff];rintro⟨C,J⟩;subst J;simp at C
 |s+1,x::r,z=>by
  simp only[di,Zg,List.mem_map,r3 s r,r3 (s+1) r,List.sublist_cons_iff];constructor
  .rintro(⟨y,⟨C,J⟩,rfl⟩|⟨C,J⟩)
   .exact⟨by simp[C],.inr ⟨y,rfl,J⟩⟩
   .exact⟨C,.inl J⟩
  .rintro⟨C,J|⟨y,rfl,J⟩⟩
   .exact .inr ⟨C,J⟩
   .exact .inl ⟨y,⟨by simpa using C,J⟩,rfl⟩
theorem rX:∀(s:Nat)(c:List Int),(di s c).length<=2 ^ c.length
 |0,c=>by simp only[di,List.length_singleton];exact Nat.one_le_two_pow
 |s+1,[]=>by simp[di]
 |s+1,x::r=>by
  have C:=rX s r;have J:=rX (s+1) r;simp only[di,List.length_append,List.length_map,List.length_cons,Nat.pow_succ];omega
noncomputable def fV:Nat->Nat->Nat
 |0,_=>1
 |_+1,0=>0
 |s+1,n+1=>fV s n+fV (s+1) n
theorem Ag:∀(s:Nat)(c:List Int),(di s c).length=fV s c.length
 |0,c=>by simp[di,fV]
 |s+1,[]=>by simp[di,fV]
 |s+1,x::r=>by simp only[di,List.length_append,List.length_map,List.length_cons,fV,Ag s r,Ag (s+1) r]
theorem Ac:∀{s n:Nat},n<s->fV s n=0
 |0,_,h=>by omega
 |s+1,0,_=>rfl
 |s+1,n+1,h=>by simp only[fV,Ac (s:=s) (n:=n) (by omega),Ac (s:=s+1) (n:=n) (by omega)]
def Tb{s n:Nat}(h:n<=6):fV s n<=20:=by
 rcases acu n s with q|q
 .rw[Ac q];omega
 .have:∀n:Fin 7,∀s:Fin 7,fV s.val n.val<=20:=(by decide);exact this ⟨n,by omega⟩ ⟨s,by omega⟩
theorem Gr:∀(s:Nat)(c:List Int),di (s+1) c=(List.range c.length).flatMap λk=>(di s (c.drop (k+1))).map (c.getD k 0::·)
 |s,[]=>rfl
 |s,x::r=>by
  rw[List.length_cons,abz,List.flatMap_cons,List.flatMap_map];show _=(di s r).map (x::·)++(List.range r.length).flatMap λk=>(di s (r.drop (k+1))).map (r.getD k 0::·)
  rw[<- Gr s r];rfl
def P7{c:List Int}{k:Nat}(h:k<c.length):fF (.tup (c.map .int)) (.int (k:Int))=.ok (.int (c.getD k 0)):=P6 (by rw[Y3 h];simp[List.getD,Y3 h])
def vh(n:Nat):e4 0 (n:Int)=(List.range n).map λ(k:Nat)=>D.int (k:Int):=by
 unfold e4;have:((n:Int)-0).toNat=n:=by omega
 rw[this];apply Zw;intro k _;congr 1;omega
theorem tR{α β:Type}{f:α->List β}{k:Nat}:∀{xs:List α},(∀x∈xs,(f x).length<=k)->(xs.flatMap f).length<=xs.length*k
 |[],_=>by simp
 |x::xs,h=>by
  have:=tR (f:=f) (xs:=xs) λc ag=>h c (List.mem_cons_of_mem _ ag)
  have C:=h x List.mem_cons_self;simp only[List.flatMap_cons,List.length_append,List.length_cons,Nat.succ_mul];omega
def So{f:Nat}(c:List Int):c6 pg Φ ⟨2,2,bc.oQ f⟩ [au c,.int 0]=.ok (.lst ((di 0 c).map au)):=by
 have e:fB (.int 0) (.int 0)=.ok true:=rfl;simp only[Den.a0,Nat.reduceAdd,bc.oQ,e,di];rfl
def Sp{f:Nat}{c:List Int}{s:Nat}(ag:c.length<=8)(hf:∀c2:List Int,c2.length<=8->Φ f [au c2,.int (s:Int)]=.ok (.lst ((di s c2).map au))):c6 pg Φ ⟨2,2,bc.oQ f⟩ [au c,.int ((s:Int)+1)]=.ok (.lst ((di (s+1) c).map au)):=by
 have h0:((s:Int)+1==0)=false:=by rw[Zs];omega
 have C:kB (au c)=.ok (.int (c.length:Int)):=by unfold au;rw[uL,List.length_map]
 simp only[Den.a0,Nat.reduceAdd,bc.oQ,h0,C,ov (i:=0) (j:=(c.length:Int)) (by omega) (by omega) (by omega) (by omega),vh];have nE:∀ar:List Nat,ar.length<=8->(ar.flatMap λk=>(di s (c.drop (k+1))).map (c.getD k 0::·)).length<=2048:=λar ax=>by
  have:=tR (f:=λk=>(di s (c.drop (k+1))).map (c.getD k 0::·)) (k:=256) (xs:=ar) λk _=>by
   have J:=rX s (c.drop (k+1));have aC:(c.drop (k+1)).length<=8:=(by rw[aaw];omega);have aT:2 ^ (c.drop (k+1)).length<=2 ^ 8:=ZE (by decide) aC;rw[List.length_map];omega
  omega
 obtain⟨bC,e,x,he⟩:=gG (f:=λk:Nat=>D.int (k:Int)) (g:=turn pg Φ 0 [3] (.cons (.asg 2 (.bin .add (.var 2) (.comp (.bin .add (.tup (.cons (.idx (.var 0) (.var 3)) (.nil))) (.var 4)) 0 (.seq (.call f (.cons (.slice (.var 0) (.some (.bin .add (.var 3) (.lit (.int 1)))) (.none)) (.cons (.bin .sub (.var 1) (.lit (.int 1))) (.nil))))) (.none)))) (.nil)))
  (λaS ρ=>∃(x:Option D),ρ=[some (au c),some (.int ((s:Int)+1)),some (.lst ((aS.flatMap λk=>(di s (c.drop (k+1))).map (c.getD k 0::·)).map au)),x])
  (List.range c.length) [some (au c),some (.int ((s:Int)+1)),some (.lst []),none] ⟨none,rfl⟩ (λpre k post ρ az ⟨x,b4⟩=>by
   subst b4;have ax:k<c.length:=by
    have:k∈List.range c.length:=(by rw[az];simp);exact List.mem_range.mp this
   have eb:pre.length+1<=c.length:=by
    have:(List.range c.length).length=(pre++k::post).length:=(by rw[az]);simp at this;omega
   have aa:kO (au c) (some ((k:Int)+1)) none=.ok (au (c.drop (k+1))):=by
    unfold au;rw[vy];have:((k:Int)+1)=((k+1:Nat):Int):=(by omega);rw[this,Cy,List.map_drop]
   have gr:(s:Int)+1-1=(s:Int):=(by omega);have hd:(c.drop (k+1)).length<=8:=(by rw[aaw];omega);have aj:∀a b,da (elem pg Φ [some (au c),a,b,some (D.int (k:Int))] (.bin .add (.tup (.cons (.idx (.var 0) (.var 3)) (.nil))) (.var 4)) 0 .none) ((di s (c.drop (k+1))).map au)=.ok ((di s (c.drop (k+1))).map λz=>au (c.getD k 0::z)):=λa b=>i9 λz hz=>by
    have hz:=(r3 _ _ _).mp hz;have YC:=hz.2.length_le;have e3:=P7 ax;have aA:[D.int (c.getD k 0)].length+(z.map D.int).length<=SZ:=(by rw[List.length_map,gA];simp only[List.length_singleton];omega);simp only[Den.a0,Nat.reduceAdd];unfold au;simp only[Den.a0,Nat.reduceAdd,e3,qx];rw[if_pos (by simpa using aA)];rfl
   have hlen:((pre.flatMap λk=>(di s (c.drop (k+1))).map (c.getD k 0::·)).map au).length+((di s (c.drop (k+1))).map λz=>au (c.getD k 0::z)).length<=SZ:=by
    have C:=nE pre (by omega);have J:=rX s (c.drop (k+1));have aT:2 ^ (c.drop (k+1)).length<=2 ^ 8:=ZE (by decide) hd;rw[List.length_map,List.length_map,gA];omega
   refine⟨_,by simp only[Den.a0,Nat.reduceAdd,aa,gr,hf _ hd,aj,mj,if_pos hlen];rfl,some (.int (k:Int)),?_⟩;simp[aaP])
 rw[e,he,<- Gr];simp only[Den.a0,Nat.reduceAdd]
theorem F9{fds:List gy}{f:Nat}(hf:fds[f]?=some ⟨2,2,bc.oQ f⟩):∀(s n:Nat)(c:List Int),s<n->c.length<=8->run pg fds n f [au c,.int (s:Int)]=.ok (.lst ((di s c).map au))
 |0,0,c,h,_=>by omega
 |s+1,0,c,h,_=>by omega
 |0,n+1,c,_,_=>by rw[sq,hf];exact So c
 |s+1,n+1,c,h,ag=>by
  rw[sq,hf];have:((s+1:Nat):Int)=(s:Int)+1:=(by omega);rw[this];exact Sp ag λc2 cN=>F9 hf s n c2 (by omega) cN
theorem nA:∀{o c:List Int},cZ ltI c->cZ ltI o->(∀x∈c,x∈o)->c.Sublist o
 |[],[],_,_,_=>abd _
 |[],x::c,_,_,h=>by have:=h x List.mem_cons_self;simp at this
 |y::o,[],_,_,_=>abd _
 |y::o,x::c,ag,av,h=>by
  obtain⟨c9,cv⟩:=Zn.mp ag;obtain⟨kH,fj⟩:=Zn.mp av
  by_cases e:x=y
  .subst e;refine List.Sublist.cons_cons x (nA cv fj λz hz=>?_);rcases Y0.mp (h z (List.mem_cons_of_mem _ hz)) with q|q
   .have:=c9 z hz;subst q;simp[ltI]at this
   .exact q
  .have ao:x∈o:=by
    rcases Y0.mp (h x List.mem_cons_self) with q|q
    .exact absurd q e
    .exact q
   have rI:=kH x ao;refine List.Sublist.cons y (nA ag fj λz hz=>?_);rcases Y0.mp (h z hz) with q|q
   .exfalso;subst q;rcases Y0.mp hz with w|w
    .exact e w.symm
    .have:=c9 z w;simp[ltI]at this rI;omega
   .exact q
noncomputable def mq(ts:List (List Int))(h:Nat):List (List Int):=cR lexLt (c1 (ts.flatMap (di (h+1))))
def Rx{ts:List (List Int)}{h:Nat}{z:List Int}:z∈mq ts h<->z.length=h+1/\∃t∈ts,z.Sublist t:=by
 unfold mq;rw[iY,jS,aay];simp only[r3];exact⟨λ⟨t,a,b,c⟩=>⟨b,t,a,c⟩,λ⟨b,t,a,c⟩=>⟨t,a,b,c⟩⟩
def JS(ts:List (List Int))(h:Nat):cZ lexLt (mq ts h):=ka kC (mZ _)
def BR(m:Int):cZ ltI (cO m):=by
 unfold cO cZ;rw[Zu];exact Z7 (λ{a b}(q:a<b)=>by simp[ltI];omega) aaX
def Ce{m:Int}{c:List Int}(h:IsCell m c):c.Sublist (cO m):=nA h.2.2 (BR m) λx ao=>oe.mpr (h.2.1 x ao)
def QR{f h:Nat}{m:Int}{ts:List (List Int)}(hf:∀c:List Int,c.length<=8->Φ f [au c,.int ((h:Int)+1)]=.ok (.lst ((di (h+1) c).map au)))(ay:∀t∈ts,t.length<=8)(aA:ts.length<=63)(gH:(mq ts h).length<=63):
  c6 pg Φ ⟨2,2,bc.w4 f⟩ [bk m ts,.int (h:Int)]=.ok (.lst ((mq ts h).map au)):=by
 have ai:fF (bk m ts) (.int 1)=.ok (.tup (ts.map au)):=rfl;simp only[Den.a0,Nat.reduceAdd,bc.w4,ai];have nE:∀ar:List (List Int),ar.length<=63->(∀t∈ar,t.length<=8)->(ar.flatMap (di (h+1))).length<=65280:=λar ax c4=>by
  have:=tR (f:=di (h+1)) (k:=256) (xs:=ar) λt kv=>by
   have J:=rX (h+1) t;have aT:2 ^ t.length<=2 ^ 8:=ZE (by decide) (c4 t kv);omega
  omega
 obtain⟨bC,e,x,he⟩:=gG (f:=au) (g:=turn pg Φ 0 [3] (.cons (.asg 2 (.bin .add (.var 2) (.call f (.cons (.var 3) (.cons (.bin .add (.var 1) (.lit (.int 1))) (.nil)))))) (.nil)))
  (λaS ρ=>∃(x:Option D),ρ=[some (bk m ts),some (.int (h:Int)),some (.lst ((aS.flatMap (di (h+1))).map au)),x])
  ts [some (bk m ts),some (.int (h:Int)),some (.lst []),none] ⟨none,rfl⟩ (λpre t post ρ az ⟨x,b4⟩=>by
   subst b4;have rE:t∈ts:=(by rw[az];simp);have eb:pre.length+1<=ts.length:=(by rw[az];simp);have C:=nE pre (by omega) λt kv=>ay t (by rw[az];simp[kv])
   have J:=nE [t] (by simp) λz hz=>by simp at hz;subst hz;exact ay z rE
   have hlen:((pre.flatMap (di (h+1))).map au).length+((di (h+1) t).map au).length<=SZ:=by
    simp at J;rw[List.length_map,List.length_map,gA];omega
   refine⟨_,by simp only[Den.a0,Nat.reduceAdd,hf t (ay t rE),mj,if_pos hlen];rfl,some (au t),?_⟩;simp[aaP])
 rw[e,he];have aD:∀c∈ts.flatMap (di (h+1)),c≠[]:=λc ag=>by
  obtain⟨t,_,ag⟩:=aay.mp ag;intro z;subst z;have:=((r3 _ _ _).mp ag).1;simp at this
 have:(c1 (ts.flatMap (di (h+1)))).length<=63:=by unfold mq at gH;rw[mP]at gH;exact gH
 simp only[Den.a0,Nat.reduceAdd,vC aD this,mq]
noncomputable def Io:D->Int
 |.int i=>i
 |_=>0
def lO(i j:Int)(h:(-hi<i/\i<hi)\/(-hi<j/\j<hi)):ep .mul (.int i) (.int j)=.ok (.int (i*j)):=by rw[mul_int,if_pos h]
def kG(i j:Int)(h:0<j):ep .mod (.int i) (.int j)=.ok (.int (i%j)):=by rw[mod_int,if_pos h]
def o3(i j:Int)(h:0<j)(h':j<1073741824):ep .fdiv (.int i) (.int j)=.ok (.int (i / j)):=by rw[Dl,if_pos ⟨h,h'⟩]
def j2:hi=18446744073709551616:=rfl
noncomputable def nr:Int:=2147483629
def Bw:nr=2147483629:=rfl
def ll(a:Int){b:Int}(h:0<b):0<=a%b/\a%b<b:=⟨Int.emod_nonneg a (by omega),Int.emod_lt_of_pos a h⟩
def L8(i k:Int):∃r:Int,0<=r/\r<nr/\c6 pg Φ ⟨2,1,bc.w5⟩ [.int i,.int k]=.ok (.int r):=by
 have b1:=ll ((i+104729*k+17)*69621) (b:=2147483647) (by decide);refine⟨((i+104729*k+17)*69621%2147483647*((i+104729*k+17)*69621%2147483647)+3*((i+104729*k+17)*69621%2147483647)+k)%2147483629,?_,?_,by
  simp only[Den.a0,Nat.reduceAdd,bc.w5,lO 104729 k (.inl (by rw[j2];omega)),lO _ 69621 (.inr (by rw[j2];omega)),kG _ 2147483647 (by decide),kG _ 2147483629 (by decide),
   lO ((i+104729*k+17)*69621%2147483647) ((i+104729*k+17)*69621%2147483647) (.inl (by rw[j2];omega)),lO 3 ((i+104729*k+17)*69621%2147483647) (.inl (by rw[j2];omega))]⟩
 .exact(ll _ (by decide)).1
 .rw[Bw];exact(ll _ (by decide)).2
def Kx(is:List Int)(k:Nat):c6 pg Φ ⟨2,0,bc.w3⟩ [.lst (is.map .int),.int (k:Int)]=.ok (.int (is.getD k 0)):=by
 simp only[Den.a0,Nat.reduceAdd,bc.w3,List.length_map]
 by_cases h:k<is.length
 .have h':(k:Int)<(is.length:Int):=(by omega);have e:fF (.lst (is.map D.int)) (.int (k:Int))=.ok (.int (is.getD k 0)):=by
   rw[ux,yz,Ze,Y3 h];simp[List.getD,Y3 h]
  simp only[Den.a0,Nat.reduceAdd,decide_eq_true h',e]
 .have h':¬(k:Int)<(is.length:Int):=(by omega);have e:is.getD k 0=0:=(by simp[List.getD,Zq (ack h)]);simp only[Den.a0,Nat.reduceAdd,decide_eq_false h',e]
def RB{f:Nat}{is:List Int}(hf:∀k:Nat,Φ f [.lst (is.map .int),.int (k:Int)]=.ok (.int (is.getD k 0)))(k:Nat):∃r:Int,0<=r/\r<nr/\c6 pg Φ ⟨2,1,bc.xb f⟩ [.lst (is.map .int),.int (k:Int)]=.ok (.int r):=by
 have b1:=ll ((is.getD k 0+7919*(k:Int)+1)*48271) (b:=2147483647) (by decide);refine⟨((is.getD k 0+7919*(k:Int)+1)*48271%2147483647*((is.getD k 0+7919*(k:Int)+1)*48271%2147483647)+7*((is.getD k 0+7919*(k:Int)+1)*48271%2147483647)+(k:Int))%2147483629,?_,?_,by
  simp only[Den.a0,Nat.reduceAdd,bc.xb,hf,lO 7919 (k:Int) (.inl (by rw[j2];omega)),lO _ 48271 (.inr (by rw[j2];omega)),kG _ 2147483647 (by decide),kG _ 2147483629 (by decide),
   lO ((is.getD k 0+7919*(k:Int)+1)*48271%2147483647) ((is.getD k 0+7919*(k:Int)+1)*48271%2147483647) (.inl (by rw[j2];omega)),lO 7 ((is.getD k 0+7919*(k:Int)+1)*48271%2147483647) (.inl (by rw[j2];omega))]⟩
 .exact(ll _ (by decide)).1
 .rw[Bw];exact(ll _ (by decide)).2
def VU{f:Nat}(hf:∀i k:Int,∃r:Int,0<=r/\r<nr/\Φ f [.int i,.int k]=.ok (.int r))(i m:Int)(C:1<=m)(c4:m<=6):
  ∃cs:List (List Int),c6 pg Φ ⟨2,4,bc.xf f⟩ [.int i,.int m]=.ok (.lst (cs.map au))/\(∀c∈cs,IsCell m c)/\hK m cs=true/\cs.length<=16:=by
 have a9:=ov (i:=0) (j:=m) (by omega) (by omega) (by omega) (by omega);have J0:=ll i (b:=9) (by decide);have PB:=ov (i:=0) (j:=i%9) (by omega) (by omega) (by omega) (by omega);have oY:e4 0 (i%9)=(cO (i%9)).map .int:=vi _;have dO:da (elem pg Φ [some (.int i),some (.int m),none,none,none,none] (.tup (.cons (.var 6) (.nil))) 0 .none) ((cO m).map .int)=.ok ((cO m).map λk=>au [k]):=i9 λk _=>by
  simp only[Den.a0,Nat.reduceAdd];rfl
 simp only[Den.a0,Nat.reduceAdd,bc.xf,a9,vi,dO,kG i 9 (by decide),PB];have h0:∀k∈cO m,IsCell m [k]:=λk ax=>⟨by simp,by simpa using oe.mp ax,aan _ _⟩
 obtain⟨bC,e,cs,x,y,z,he,ag,aA⟩:=gG (f:=D.int) (g:=turn pg Φ 0 [3] (.cons (.asg 4 (.call f (.cons (.var 0) (.cons (.var 3) (.nil))))) (.cons (.asg 5 (.tupI (.seq (.comp (.var 6) 0 (.fk (.var 1)) (.some (.cmp .lt (.bin .mod (.call f (.cons (.var 4) (.cons (.var 6) (.nil)))) (.lit (.int 5))) (.bin .add (.lit (.int 2)) (.bin .mod (.var 4) (.lit (.int 2)))))))))) (.cons (.iff (.cmp .ne (.var 5) (.tup (.nil))) (.cons (.app 2 (.var 5)) (.nil)) (.nil)) (.nil)))))
  (λaS ρ=>∃(cs:List (List Int))(x y z:Option D),ρ=[some (.int i),some (.int m),some (.lst (((cO m).map λk=>[k]).map au++cs.map au)),x,y,z]/\(∀c∈cs,IsCell m c)/\cs.length<=aS.length)
  (cO (i%9)) [some (.int i),some (.int m),some (.lst ((cO m).map λk=>au [k])),none,none,none] ⟨[],none,none,none,by simp[Function.comp_def],by simp,by simp⟩ (λpre k post ρ az ⟨cs,x,y,z,b4,ag,aA⟩=>by
   subst b4;obtain⟨r,aG,aZ,PA⟩:=hf i k;have ex:∃q:Int->Bool,∀x y z,da (elem pg Φ [some (.int i),some (.int m),x,y,some (.int r),z] (.var 6) 0 (.some (.cmp .lt (.bin .mod (.call f (.cons (.var 4) (.cons (.var 6) (.nil)))) (.lit (.int 5))) (.bin .add (.lit (.int 2)) (.bin .mod (.var 4) (.lit (.int 2))))))) ((cO m).map .int)=.ok (((cO m).filter q).map .int):=by
    obtain⟨g,a4⟩:∃g:Int->Int,∀k,Φ f [.int r,.int k]=.ok (.int (g k)):=⟨λk=>Classical.choose (hf r k),λk=>(Classical.choose_spec (hf r k)).2.2⟩;refine⟨λk=>decide (g k%5<2+r%2),λx y z=>jH λk _=>?_⟩;have aa:=a4 k;simp only[Den.a0,Nat.reduceAdd,aa,kG _ 5 (by decide),kG _ 2 (by decide)]
    split<;>rfl
   obtain⟨q,aL⟩:=ex;have gr:((cO m).filter q).Sublist (cO m):=Z5;simp only[Den.a0,Nat.reduceAdd,PA,a9,vi,aL];have aD:fB (.tup (((cO m).filter q).map .int)) (.tup [])=.ok ((cO m).filter q).isEmpty:=by
    rw[CW (by simp[List.all_map,sC]),uT]
   simp only[Den.a0,Nat.reduceAdd,aD];have eb:pre.length+1<=9:=by
    have C:(cO (i%9)).length=(pre++k::post).length:=(by rw[<- az]);have J:(cO (i%9)).length<=9:=(by unfold cO;simp;omega);simp at C;omega
   cases Er:((cO m).filter q).isEmpty
   .have ea:(cO m).filter q≠[]:=(by intro z;rw[z]at Er;cases Er);have nX:IsCell m ((cO m).filter q):=⟨ea,λx ao=>oe.mp (gr.subset ao),Zl gr (BR m)⟩;have hlen:(((cO m).map λk=>[k]).map au++cs.map au).length<SZ:=by
     have:=uB c4;simp only[List.length_append,List.length_map,gA];omega
    refine⟨_,by simp only[Den.a0,Nat.reduceAdd,td,if_pos hlen];rfl,cs++[(cO m).filter q],_,_,_,by simp only[List.map_append,aaH];rfl,λc cN=>?_,by simp;omega⟩;rcases Zg.mp cN with w|w
    .exact ag c w
    .simp at w;subst w;exact nX
   .exact⟨_,by simp only[Den.a0,Nat.reduceAdd];rfl,cs,_,_,_,rfl,ag,by simp;omega⟩)
 rw[e,he];simp only[Den.a0,Nat.reduceAdd];refine⟨((cO m).map λk=>[k])++cs,by rw[List.map_append],λc cN=>?_,?_,?_⟩
 .rcases Zg.mp cN with w|w
  .obtain⟨k,ax,rfl⟩:=List.mem_map.mp w;exact h0 k ax
  .exact ag c w
 .rw[tq];intro x a b;exact⟨[x],by simp[oe];exact .inl ⟨a,b⟩,by simp⟩
 .have:=uB c4;have J:(cO (i%9)).length<=8:=(by unfold cO;simp;omega);simp only[List.length_append,List.length_map];omega
def jn{cs:List (List Int)}{c:List Int}:c∈ef cs<->c∈cs/\∀o∈cs,c.length<o.length->¬lies c o=true:=by
 unfold ef;simp only[Y9,iY,jS,ZM,ab8,Zf,and_imp]
def tf(cs:List (List Int)):cZ lexLt (ef cs):=Zl Z5 (ka kC (mZ _))
def Xr(cs:List (List Int)):ef (ef cs)=ef cs:=by
 refine j9 kC (tf _) (tf _) λz=>?_
 rw[jn];refine⟨λh=>h.1,λh=>⟨h,λo av aA=>(jn.mp h).2 o (jn.mp av).1 aA⟩⟩
theorem A4{m:Int}{cs:List (List Int)}(h:∀c∈cs,IsCell m c):∀(n:Nat)(c:List Int),c∈cs->m.toNat<=c.length+n->∃t∈ef cs,∀x∈c,x∈t
 |0,c,ag,aD=>⟨c,jn.mpr ⟨ag,λo av aA=>by have:=nF (h o av);omega⟩,λ_ ao=>ao⟩
 |n+1,c,ag,aD=>by
  by_cases q:∀o∈cs,c.length<o.length->¬lies c o=true
  .exact⟨c,jn.mpr ⟨ag,q⟩,λ_ ao=>ao⟩
  .obtain⟨o,av,aA,aa⟩:∃o,o∈cs/\c.length<o.length/\lies c o=true:=by
    apply Z4;intro z;exact q λo av aA aa=>z ⟨o,av,aA,aa⟩
   obtain⟨t,ay,PE⟩:=A4 h n o av (by omega);exact⟨t,ay,λx ao=>PE x (mQ.mp aa x ao)⟩
structure Net(m:Int)(ts:List (List Int)):Prop where
 lo:1<=m
 ai:m<=6
 cell:∀c∈ts,IsCell m c
 top:ts=ef ts
 hK:hK m ts=true
def FK{m:Int}{cs:List (List Int)}(C:1<=m)(c4:m<=6)(ag:∀c∈cs,IsCell m c)(aN:hK m cs=true):Net m (ef cs) where
 lo:=C
 ai:=c4
 cell:=λc h=>ag c (jn.mp h).1
 top:=(Xr cs).symm
 hK:=by
  rw[tq]at aN ⊢;intro x a b;obtain⟨c,h,ao⟩:=aN x a b;obtain⟨t,ay,aa⟩:=A4 ag m.toNat c h (by omega);exact⟨t,ay,aa x ao⟩
def Iq(cs:List (List Int)):(ef cs).length<=cs.length:=by
 unfold ef;have C:=Zt (λc=>!((cR lexLt (c1 cs)).filter λo=>decide (c.length<o.length)).any (lies c)) (cR lexLt (c1 cs));have J:=tx cs;rw[mP]at C;omega
def FL{q8:Nat}{cs:List (List Int)}{m:Int}(hf:∀cs:List (List Int),(∀c∈cs,c≠[])->(c1 cs).length<=63->Φ q8 [.lst (cs.map au)]=.ok (.tup ((mS cs).map au)))(C:1<=m)(c4:m<=6)(aA:cs.length<=20)(Oj:∀c∈cs,c.length<=63)(ag:∀c∈cs,IsCell m (cR ltI c))(aN:hK m (cs.map (cR ltI))=true){a b c:D}:
  ∃ts,mA (eF pg Φ [some a,some b,some (.int m),some c,some (.lst (cs.map au))] (.cons (.ret (.tup (.cons (.var 2) (.cons (.call q8 (.cons (.comp (.tupI (.seq (.prim .sorted (.var 5)))) 0 (.seq (.var 4)) (.none)) (.nil))) (.nil))))) (.nil)))=.ok (bk m ts)/\Net m ts/\ts.length<=20:=by
 have h3:∀c∈cs.map (cR ltI),IsCell m c:=λc cN=>by obtain⟨o,av,rfl⟩:=List.mem_map.mp cN;exact ag o av
 refine⟨ef (cs.map (cR ltI)),?_,FK C c4 h3 aN,by have:=Iq (cs.map (cR ltI));rw[List.length_map]at this;omega⟩;have aj:da (elem pg Φ [some a,some b,some (.int m),some c,some (.lst (cs.map au))] (.tupI (.seq (.prim .sorted (.var 5)))) 0 .none) (cs.map au)=.ok (cs.map λc=>au (cR ltI c)):=i9 λc cN=>by
  simp only[Den.a0,Nat.reduceAdd,ox,VV (Oj c cN)];rfl
 have ak:(cs.map λc=>au (cR ltI c))=(cs.map (cR ltI)).map au:=by rw[List.map_map];rfl
 have gH:(c1 (cs.map (cR ltI))).length<=63:=by have:=tx (cs.map (cR ltI));rw[List.length_map]at this;omega
 simp only[Den.a0,Nat.reduceAdd,aj,ak,hf _ (λc cN=>(h3 c cN).1) gH,Fl (λc cN=>(h3 c cN).2.2)];rfl
def AL{m:Int}{c:List Int}(h:IsCell m c):cR ltI c=c:=VZ iW h.2.2
def HI{m:Int}{cs:List (List Int)}(h:∀c∈cs,IsCell m c):cs.map (cR ltI)=cs:=by
 conv=>rhs;rw[<- abR cs]
 exact Zw λc ag=>AL (h c ag)
noncomputable def Cf:Bool:=(List.range 7).all λm=>(List.range 7).all λs=>(decide (s=0)||decide (m<s))||((di s (cO (m:Int))).all (λc=>decide (IsCell (m:Int) c))&&hK (m:Int) (di s (cO (m:Int))))
def xK:Cf=true:=by decide +kernel
def Js{m:Int}{s:Nat}(C:1<=m)(f6:m<=6)(aa:1<=s)(zj:(s:Int)<=m):(∀c∈di s (cO m),IsCell m c)/\hK m (di s (cO m))=true:=by
 have h:=xK;unfold Cf at h;rw[Zp]at h;have h:=h m.toNat (List.mem_range.mpr (by omega));rw[Zp]at h;have h:=h s (List.mem_range.mpr (by omega));have e:((m.toNat:Nat):Int)=m:=by omega
 rw[e]at h;have fH:¬s=0:=by omega
 have eH:¬m.toNat<s:=by omega
 simp only[decide_eq_false fH,decide_eq_false eH,Bool.or_self,Bool.false_or,YX,Zp,Zf]at h;exact h
end cU
end
section
namespace cU
open Den bt eC
noncomputable def bB(c:List Int):List (List Int):=if 1<c.length then(List.range c.length).map λk=>c.take k++c.drop (k+1) else []
noncomputable def cq(a b:List (List Int)):List (List Int):=cR lexLt (c1 (a.filter (λx=>!decide (x∈b))++b.filter λx=>!decide (x∈a)))
def wL{xs:List (List Int)}(h:cZ lexLt xs):xs.Nodup:=Z7 (λ{a b} h e=>by subst e;rw[kC.gc]at h;cases h) h
def ip{xs:List Int}(h:cZ ltI xs):xs.Nodup:=Z7 (λ{a b} h e=>by subst e;rw[iW.gc]at h;cases h) h
noncomputable def cnt(e:List Int)(cs:List (List Int)):Nat:=cs.countP λc=>decide (e∈bB c)
theorem vb{α:Type}(lt:α->α->Bool):∀xs:List α,(cR lt xs).Perm xs
 |[]=>.nil
 |x::xs=>(sf lt x (cR lt xs)).trans ((vb lt xs).cons x)
 where sf {α:Type} (lt:α->α->Bool) (x:α):∀ys:List α,(ins lt x ys).Perm (x::ys)
  |[]=>.refl _
  |y::ys=>by
   unfold ins
   split
   .exact((sf lt x ys).cons y).trans (List.Perm.swap x y ys)
   .exact .refl _
def sg{α:Type}[DecidableEq α]{xs ys:List α}(ao:xs.Nodup)(aV:ys.Nodup)(h:∀z,z∈xs<->z∈ys):xs.Perm ys:=(List.perm_ext_iff_of_nodup ao aV).mpr h
def gh{c e:List Int}(h:cZ ltI c):e∈bB c<->1<c.length/\e.length+1=c.length/\e.Sublist c:=by
 unfold bB;constructor
 .intro he
  split at he
  .rename_i aA;obtain⟨k,ax,rfl⟩:=List.mem_map.mp he;have ax:=List.mem_range.mp ax;refine⟨aA,by rw[List.length_append,aav,aaw];omega,?_⟩
   conv=>rhs;rw[<- abB k c]
   refine List.Sublist.append (aaJ _) ?_;rw[aaD ax];exact List.sublist_cons_self _ _
  .cases he
 .rintro⟨aA,C,aa⟩;rw[if_pos aA];refine List.mem_map.mpr ?_;have key:∀{e c:List Int},e.Sublist c->e.length+1=c.length->∃k,k<c.length/\c.take k++c.drop (k+1)=e:=by
   intro e c aa
   induction aa with
   |slnil=>intro z;cases z
   |@cons e c x aa aE =>
    intro z;have:e.length=c.length:=(by simpa using z);exact⟨0,by simp,by simpa using (aa.eq_of_length this).symm⟩
   |@cons_cons e c x aa aE =>
    intro z;obtain⟨k,ax,nQ⟩:=aE (by simpa using z);exact⟨k+1,by simpa using ax,by simp[nQ]⟩
  obtain⟨k,ax,nQ⟩:=key aa C;exact⟨k,List.mem_range.mpr ax,nQ⟩
def pY{c e:List Int}(h:cZ ltI c)(he:e∈bB c):cZ ltI e:=Zl ((gh h).mp he).2.2 h
def MB{c e:List Int}(ag:cZ ltI c)(he:cZ ltI e)(aa:e.Sublist c){k:Nat}(ax:k<c.length):e.Sublist (c.take k++c.drop (k+1))<->c[k]∉e:=by
 have aD:=ip ag;have hd:(c.take k++c[k]::c.drop (k+1))=c:=by rw[<- aaD ax,abB]
 rw[<- hd]at aD;have ue:∀x,x∈c<->x=c[k]\/x∈c.take k++c.drop (k+1):=λx=>by
  conv=>lhs;rw[<- hd]
  simp only[Zg,Y0];constructor
  .rintro(h|h|h)
   .exact .inr (.inl h)
   .exact .inl h
   .exact .inr (.inr h)
  .rintro(h|h|h)
   .exact .inr (.inl h)
   .exact .inl h
   .exact .inr (.inr h)
 have mJ:c[k]∉c.take k++c.drop (k+1):=λz=>by
  have:=List.perm_middle.nodup_iff.mp aD;exact(Zi.mp this).1 z
 have gr:(c.take k++c.drop (k+1)).Sublist c:=by
  conv=>rhs;rw[<- hd]
  exact List.Sublist.append (aaJ _) (List.sublist_cons_self _ _)
 constructor
 .exact λz w=>mJ (z.subset w)
 .exact λz=>nA he (Zl gr ag) λx ao=>((ue x).mp (aa.subset ao)).elim (λe=>absurd (e▸ao) z) id
theorem EY{α:Type}(p:α->Bool):∀c:List α,c.length=c.countP p+c.countP (λx=>!p x)
 |[]=>rfl
 |x::c=>by
  rw[List.length_cons,EY p c,abH,abH];cases p x<;>simp<;>omega
def Cv{α:Type}[DecidableEq α]{c e:List α}(ag:c.Nodup)(he:e.Nodup)(aa:∀x∈e,x∈c):c.countP (λx=>!decide (x∈e))+e.length=c.length:=by
 have C:(c.filter λx=>decide (x∈e)).Perm e:=sg (ag.filter _) he λz=>by
  rw[Y9];simp only[Zf];exact⟨λh=>h.2,λh=>⟨aa z h,h⟩⟩
 have J:c.length=(c.filter λx=>decide (x∈e)).length+(c.filter λx=>!decide (x∈e)).length:=by
  rw[<- aad,<- aad];exact EY (λx=>decide (x∈e)) c
 rw[C.length_eq]at J;rw[aad];omega
def xZ{c:List Int}(ag:cZ ltI c)(e:List Int):cnt e (bB c)=0\/cnt e (bB c)=2:=by
 by_cases aA:1<c.length
 .by_cases aa:e.Sublist c/\e.length+2=c.length/\2<c.length
  .obtain⟨aa,J,aC⟩:=aa;have he:cZ ltI e:=Zl aa ag;right;have aj:cnt e (bB c)=c.countP λx=>!decide (x∈e):=by
    unfold cnt;rw[show bB c=(List.range c.length).map (λk=>c.take k++c.drop (k+1)) from if_pos aA,abi];have:c=(List.range c.length).map λk=>c.getD k 0:=by
     apply List.ext_getElem
     .simp
     .intro i C J;simp[List.getD,C]
    conv=>rhs;rw[this]
    rw[abi];refine aa5 λk ax=>?_
    have ax:=List.mem_range.mp ax;have zl:cZ ltI (c.take k++c.drop (k+1)):=pY ag (by unfold bB;rw[if_pos aA];exact List.mem_map.mpr ⟨k,List.mem_range.mpr ax,rfl⟩);have hlen:(c.take k++c.drop (k+1)).length+1=c.length:=(by rw[List.length_append,aav,aaw];omega);simp only[Function.comp,Zf,ZM,acp];rw[gh zl,MB ag he aa ax];have:c.getD k 0=c[k]:=(by simp[List.getD,ax]);rw[this];exact⟨λz=>z.2.2,λz=>⟨by omega,by omega,z⟩⟩
   rw[aj];have:=Cv (ip ag) (ip he) λx ao=>aa.subset ao
   omega
  .left;unfold cnt;rw[abX];intro d hd;simp only[Zf];intro z;obtain⟨_,b2,dt⟩:=(gh ag).mp hd;obtain⟨a1,a2,eI⟩:=(gh (pY ag hd)).mp z;exact aa ⟨eI.trans dt,by omega,by omega⟩
 .left;unfold cnt bB;rw[if_neg aA];rfl
def lU{c:List Int}(ag:cZ ltI c):(bB c).Nodup:=by
 unfold bB
 split
 .rw[Za,Zu];refine Zx (λ{i j} ai aJ (y1:i<j) e=>?_) aaX;have aJ:=List.mem_range.mp aJ;have ai:i<c.length:=List.mem_range.mp ai;have C:(c.take i++c.drop (i+1))[i]?=c[i+1]?:=by
   rw[Zr (by simp;omega),List.getElem?_drop];congr 1;simp;omega
  have J:(c.take j++c.drop (j+1))[i]?=c[i]?:=by
   rw[Zd (by simp;omega),List.getElem?_take_of_lt y1]
  rw[e,J]at C;rw[Y3 ai,Y3 (by omega:i+1<c.length)]at C;have:=aaC.mp ag i (i+1) ai (by omega) (by omega);injection C with C;rw[C,iW.gc]at this;cases this
 .exact aaQ
end cU
end
section
namespace cU
open Den bt eC gS
variable{pg:dy}{Φ:dW}
def nS{ρ:aY}(i j:Nat):ev pg Φ ρ (.gZ i j)=kf ρ[i]? ρ[j]?:=a5 rfl
def MO{ρ:aY}(i j:Nat):ev pg Φ ρ (.oW i j)=qR ρ[i]? ρ[j]?:=a5 rfl
def C6{ρ:aY}:ev pg Φ ρ .oX=.ok (.bE []):=a5 rfl
def M7{ρ:aY}(i:Nat):ex pg Φ ρ (.nM i)=.ok (.bJ (ρ.set i (some (.b7 [])))):=a5 rfl
def M9{ρ:aY}(i:Nat):ex pg Φ ρ (.nO i)=.ok (.bJ (ρ.set i (some (.bE [])))):=a5 rfl
def tM{ρ:aY}(i j:Nat)(e:E):ex pg Φ ρ (.ir i j e)=ev pg Φ ρ e>>=λd=>nP ρ[i]? ρ[j]? d>>=λx=>.ok (.bJ (ρ.set i (some x))):=a5 rfl
def De{ρ:aY}(i:Nat)(e:E):ex pg Φ ρ (.ext i e)=mr ρ[i]?>>=λ_=>ev pg Φ ρ e>>=λd=>o1 ρ[i]? d>>=λx=>.ok (.bJ (ρ.set i (some x))):=a5 rfl
def Df{ρ:aY}(i:Nat):ex pg Φ ρ (.pR i)=qP ρ[i]?>>=λd=>.ok (.dE d):=a5 rfl
def Ts(up:gX)(xs:List D):jV up .sum (.lst xs)=kS xs:=a5 rfl
def Gq(up:gX)(xs:List D):jV up .max (.lst xs)=kF xs:=a5 rfl
def px(c:List Int):kB (au c)=.ok (.int (c.length:Int)):=by unfold au;rw[uL,List.length_map]
def VH{c:List Int}(h:c.length<=1000)(k:Nat):ep .add (.tup (cut (c.map D.int) none (some (k:Int)))) (.tup (cut (c.map D.int) (some ((k:Int)+1)) none))=.ok (au (c.take k++c.drop (k+1))):=by
 have e:((k:Int)+1)=((k+1:Nat):Int):=by omega
 rw[e,K7,Cy,qx,if_pos]
 .unfold au;rw[List.map_append,List.map_take,List.map_drop]
 .rw[aav,aaw,List.length_map,gA];omega
def VI(c:List Int)(h:c.length<=1000):c6 pg Φ ⟨1,0,bc.xq⟩ [au c]=.ok (.lst ((bB c).map au)):=by
 have aj:da (elem pg Φ [some (au c)] (.bin .add (.slice (.var 0) (.none) (.some (.var 1))) (.slice (.var 0) (.some (.bin .add (.var 1) (.lit (.int 1)))) (.none))) 0 (.some (.cmp .gt (.prim .len (.var 0)) (.lit (.int 1))))) ((List.range c.length).map λ(k:Nat)=>D.int (k:Int))=.ok (((List.range c.length).filter λ_=>decide (1<c.length)).map λk=>au (c.take k++c.drop (k+1))):=jH λk _=>by
  have aa:∀lo ai,kO (au c) lo ai=.ok (.tup (cut (c.map D.int) lo ai)):=λlo ai=>rfl
  simp only[Den.a0,Nat.reduceAdd,px,aa,VH h]
  by_cases q:1<c.length
  .have dq:(1:Int)<(c.length:Int):=(by omega);simp only[decide_eq_true q,decide_eq_true dq,ZH]
  .have dq:¬(1:Int)<(c.length:Int):=(by omega);simp only[decide_eq_false q,decide_eq_false dq,Y1,Zk]
 simp only[Den.a0,Nat.reduceAdd,bc.xq,px,ov (i:=0) (j:=(c.length:Int)) (by omega) (by omega) (by omega) (by omega),vh,aj];congr 2;unfold bB
 by_cases q:1<c.length
 .rw[if_pos q,decide_eq_true q,List.filter_eq_self.mpr λ_ _=>rfl,List.map_map];rfl
 .rw[if_neg q,decide_eq_false q,List.filter_eq_nil_iff.mpr λ_ _=>by decide];rfl
noncomputable def eK(t:List Int):List (List Int):=t.foldl (λf x=>f++[[x]]++f.map (·++[x])) []
def cw_snoc(t:List Int)(x:Int):eK (t++[x])=eK t++[[x]]++(eK t).map (·++[x]):=by unfold eK;rw[List.foldl_append];rfl
def HD{P:List Int->Prop}(h0:P [])(C:∀as a,P as->P (as++[a]))(as:List Int):P as:=by
 have key:∀n (as:List Int),as.length=n->P as:=by
  intro n
  induction n with
  |zero=>intro as h;rw[aaS h];exact h0
  |succ n aE =>
   intro as h;rcases List.eq_nil_or_concat as with rfl|⟨l,a,rfl⟩
   .cases h
   .rw[List.concat_eq_append]at h ⊢;exact C l a (aE l (by simpa using h))
 exact key _ as rfl
def sub_snoc{z t:List Int}{x:Int}:z.Sublist (t++[x])<->z.Sublist t\/∃y,z=y++[x]/\y.Sublist t:=by
 rw[List.sublist_append_iff];constructor
 .rintro⟨a,b,rfl,C,J⟩;have ab:b=[]\/b=[x]:=by
   cases J with
   |cons _ h=>exact .inl (abN.mp h)
   |cons_cons _ h=>exact .inr (by rw[abN.mp h])
  rcases ab with rfl|rfl
  .exact .inl (by simpa using C)
  .exact .inr ⟨a,rfl,C⟩
 .rintro(h|⟨y,rfl,h⟩)
  .exact⟨z,[],by simp,h,abd _⟩
  .exact⟨y,[x],rfl,h,aaJ _⟩
def od(t:List Int):∀z,z∈eK t<->z≠[]/\z.Sublist t:=by
 refine HD (P:=λt=>∀z,z∈eK t<->z≠[]/\z.Sublist t) (λz=>?_) (λt x aE z=>?_) t
 .constructor
  .intro h;cases h
  .rintro⟨C,J⟩;exact absurd (abN.mp J) C
 .rw[cw_snoc,Zg,Zg,Zb,List.mem_map,sub_snoc,aE];constructor
  .rintro((⟨C,J⟩|rfl)|⟨y,aV,rfl⟩)
   .exact⟨C,.inl J⟩
   .exact⟨by simp,.inr ⟨[],rfl,abd _⟩⟩
   .exact⟨by simp,.inr ⟨y,rfl,((aE y).mp aV).2⟩⟩
  .rintro⟨C,J|⟨y,rfl,J⟩⟩
   .exact .inl (.inl ⟨C,J⟩)
   .by_cases aV:y=[]
    .subst aV;exact .inl (.inr rfl)
    .exact .inr ⟨y,(aE y).mpr ⟨aV,J⟩,rfl⟩
def uK(t:List Int):(eK t).length+1=2 ^ t.length:=by
 refine HD (P:=λt=>(eK t).length+1=2 ^ t.length) rfl (λt x aE=>?_) t;rw[cw_snoc,List.length_append,List.length_append,List.length_append,List.length_map,List.length_singleton,List.length_singleton,Nat.pow_succ];omega
noncomputable def bN(ts:List (List Int)):List (List Int):=cR lexLt (c1 (ts.flatMap eK))
def ic{ts:List (List Int)}{z:List Int}:z∈bN ts<->z≠[]/\∃t∈ts,z.Sublist t:=by
 unfold bN;rw[iY,jS,aay];constructor
 .rintro⟨t,C,J⟩;exact⟨((od t z).mp J).1,t,C,((od t z).mp J).2⟩
 .rintro⟨h0,t,C,J⟩;exact⟨t,C,(od t z).mpr ⟨h0,J⟩⟩
def wK(ts:List (List Int)):cZ lexLt (bN ts):=ka kC (mZ _)
noncomputable def cl(ts:List (List Int))(n:Nat):List (List Int):=(bN ts).filter λc=>decide (c.length=n)
def fv{ts:List (List Int)}{n:Nat}{z:List Int}:z∈cl ts n<->z.length=n/\z≠[]/\∃t∈ts,z.Sublist t:=by
 unfold cl;rw[Y9,ic];simp only[Zf];exact⟨λh=>⟨h.2,h.1⟩,λh=>⟨h.2,h.1⟩⟩
def BP(ts:List (List Int))(n:Nat):cZ lexLt (cl ts n):=Zl Z5 (wK ts)
def iM(ts:List (List Int))(n:Nat):(cl ts n).Nodup:=wL (BP ts n)
def Cm(ts:List (List Int))(h:Nat):mq ts h=cl ts (h+1):=j9 kC (JS ts h) (BP ts _) λz=>by
 rw[Rx,fv];exact⟨λ⟨C,J⟩=>⟨C,by rintro rfl;simp at C,J⟩,λ⟨C,_,J⟩=>⟨C,J⟩⟩
def oZ{m:Int}{ts:List (List Int)}(c4:m<=6)(ay:∀t∈ts,IsCell m t):(bN ts).length<=63:=by
 have C:(bN ts).length<=(eK (cO m)).length:=hr (wL (wK ts)) λz hz=>by
  obtain⟨h0,t,C,J⟩:=ic.mp hz;exact(od _ z).mpr ⟨h0,J.trans (Ce (ay t C))⟩
 have J:=uK (cO m);have aC:=uB c4;have aT:2 ^ (cO m).length<=2 ^ 6:=ZE (by decide) aC;omega
def qJ{m:Int}{ts:List (List Int)}(c4:m<=6)(ay:∀t∈ts,IsCell m t)(n:Nat):(cl ts n).length<=63:=ZX (Zt _ _) (oZ c4 ay)
def hJ{m:Int}{ts:List (List Int)}{n:Nat}(ay:∀t∈ts,IsCell m t){z:List Int}(hz:z∈cl ts n):cZ ltI z:=by
 obtain⟨_,_,t,C,J⟩:=fv.mp hz;exact Zl J (ay t C).2.2
def jG{m:Int}{ts:List (List Int)}{n:Nat}(ay:∀t∈ts,IsCell m t){z e:List Int}(hz:z∈cl ts n)(he:e∈bB z):e∈cl ts (n-1):=by
 obtain⟨C,J,aC⟩:=(gh (hJ ay hz)).mp he;obtain⟨aT,b6,t,f6,iR⟩:=fv.mp hz;exact fv.mpr ⟨by omega,by rintro rfl;simp at J;omega,t,f6,aC.trans iR⟩
def XH(c:List Int)(c4:c.length<=8):c6 pg Φ ⟨1,2,bc.wW⟩ [au c]=.ok (.lst ((eK c).map au)):=by
 simp only[Den.a0,Nat.reduceAdd,bc.wW,ox];obtain⟨bC,e,x,he⟩:=gG (f:=D.int) (g:=turn pg Φ 0 [2] (.cons (.asg 1 (.bin .add (.bin .add (.var 1) (.lst (.cons (.tup (.cons (.var 2) (.nil))) (.nil)))) (.comp (.bin .add (.var 3) (.tup (.cons (.var 2) (.nil)))) 0 (.seq (.var 1)) (.none)))) (.nil)))
  (λaS ρ=>∃(x:Option D),ρ=[some (au c),some (.lst ((eK aS).map au)),x])
  c [some (au c),some (.lst []),none] ⟨none,rfl⟩ (λpre k post ρ az ⟨x,b4⟩=>by
   subst b4;have eb:pre.length+1<=c.length:=(by rw[az];simp);have C:=uK pre;have J:2 ^ pre.length<=2 ^ 8:=ZE (by decide) (by omega);have aj:da (elem pg Φ [some (au c),some (.lst ((eK pre).map au)),some (.int k)] (.bin .add (.var 3) (.tup (.cons (.var 2) (.nil)))) 0 .none) ((eK pre).map au)=.ok ((eK pre).map λz=>au (z++[k])):=i9 λz hz=>by
    have hz:=((od pre z).mp hz).2.length_le;have:ep .add (au z) (.tup [.int k])=.ok (au (z++[k])):=by
     unfold au;rw[qx,if_pos (by rw[List.length_map,gA];simp;omega),List.map_append];rfl
    simp only[Den.a0,Nat.reduceAdd,this]
   have a1:ep .add (.lst ((eK pre).map au)) (.lst [.tup [.int k]])=.ok (.lst ((eK pre++[[k]]).map au)):=by
    rw[mj,if_pos (by rw[List.length_map,gA];simp;omega),List.map_append];rfl
   have a2:ep .add (.lst ((eK pre++[[k]]).map au)) (.lst ((eK pre).map λz=>au (z++[k])))=.ok (.lst ((eK (pre++[k])).map au)):=by
    rw[mj,if_pos (by rw[List.length_map,List.length_map,List.length_append,gA];simp;omega),cw_snoc];simp only[List.map_append,List.map_map];rfl
   refine⟨_,by simp only[Den.a0,Nat.reduceAdd,a1,aj,a2],some (.int k),rfl⟩)
 rw[e,he];simp only[Den.a0,Nat.reduceAdd]
def Nk(xs ys:List D):o1 (some (some (.lst xs))) (.lst ys)=if xs.length+ys.length<=SZ then .ok (.lst (xs++ys)) else .bad:=a5 rfl
def MY{f:Nat}{m:Int}{ts:List (List Int)}(hf:∀c:List Int,c.length<=8->Φ f [au c]=.ok (.lst ((eK c).map au)))(ay:∀t∈ts,t.length<=8)(aA:ts.length<=63)(yC:(bN ts).length<=63):
  c6 pg Φ ⟨1,2,bc.wY f⟩ [bk m ts]=.ok (.lst ((bN ts).map au)):=by
 have ai:fF (bk m ts) (.int 1)=.ok (.tup (ts.map au)):=rfl;simp only[Den.a0,Nat.reduceAdd,bc.wY,ai];have nE:∀ar:List (List Int),ar.length<=63->(∀t∈ar,t.length<=8)->(ar.flatMap eK).length<=65280:=λar ax c4=>by
  have:=tR (f:=eK) (k:=256) (xs:=ar) λt kv=>by
   have J:=uK t;have aT:2 ^ t.length<=2 ^ 8:=ZE (by decide) (c4 t kv);omega
  omega
 obtain⟨bC,e,x,he⟩:=gG (f:=au) (g:=turn pg Φ 0 [2] (.cons (.ext 1 (.call f (.cons (.var 2) (.nil)))) (.nil)))
  (λaS ρ=>∃(x:Option D),ρ=[some (bk m ts),some (.lst ((aS.flatMap eK).map au)),x])
  ts [some (bk m ts),some (.lst []),none] ⟨none,rfl⟩ (λpre t post ρ az ⟨x,b4⟩=>by
   subst b4;have rE:t∈ts:=(by rw[az];simp);have eb:pre.length+1<=ts.length:=(by rw[az];simp);have C:=nE pre (by omega) λt kv=>ay t (by rw[az];simp[kv])
   have J:=nE [t] (by simp) λz hz=>by simp at hz;subst hz;exact ay z rE
   have hlen:((pre.flatMap eK).map au).length+((eK t).map au).length<=SZ:=by
    simp at J;rw[List.length_map,List.length_map,gA];omega
   refine⟨_,by simp only[Den.a0,Nat.reduceAdd,De,hf t (ay t rE),Nk,if_pos hlen];rfl,some (au t),?_⟩;simp[aaP])
 rw[e,he];have aD:∀c∈ts.flatMap eK,c≠[]:=λc ag=>by
  obtain⟨t,_,ag⟩:=aay.mp ag;exact((od _ _).mp ag).1
 have:(c1 (ts.flatMap eK)).length<=63:=by unfold bN at yC;rw[mP]at yC;exact yC
 simp only[Den.a0,Nat.reduceAdd,vC aD this,bN]
def KR{f:Nat}{m:Int}{ts:List (List Int)}(n:Nat)(hf:Φ f [bk m ts]=.ok (.lst ((bN ts).map au))):c6 pg Φ ⟨2,0,bc.wV f⟩ [bk m ts,.int ((n:Int)-1)]=.ok (.tup ((cl ts n).map au)):=by
 have aj:da (elem pg Φ [some (bk m ts),some (.int ((n:Int)-1))] (.var 2) 0 (.some (.cmp .eq (.bin .sub (.prim .len (.var 2)) (.lit (.int 1))) (.var 1)))) ((bN ts).map au)=.ok (((bN ts).filter λc=>decide (c.length=n)).map au):=jH λc _=>by
  simp only[Den.a0,Nat.reduceAdd,px]
  by_cases q:c.length=n
  .rw[decide_eq_true q,ZL.mpr (show(c.length:Int)-1=(n:Int)-1 by omega)];rfl
  .rw[decide_eq_false q,Zs.mpr (show(c.length:Int)-1≠(n:Int)-1 by omega)];rfl
 simp only[Den.a0,Nat.reduceAdd,bc.wV,hf,aj];rfl
noncomputable def mk(U:List (List Int)):List (List Int×Int):=U.zipIdx.map λp=>(p.1,((2 ^ p.2:Nat):Int))
def RF(U:List (List Int))(c:List Int):mk (U++[c])=mk U++[(c,((2 ^ U.length:Nat):Int))]:=by unfold mk;rw[List.zipIdx_append,List.map_append];simp
def zT(U:List (List Int)):(mk U).map (·.1)=U:=by
 unfold mk;rw[List.map_map];show U.zipIdx.map (λp=>p.1)=U;exact List.zipIdx_map_fst 0 U
def RE(U:List (List Int)):(mk U).length=U.length:=by have:=Z8 List.length (zT U);simpa using this
def idx_map{α β:Type}[DecidableEq α]{U:List α}(d3:U.Nodup)(g:α->Nat->β):U.map (λc=>g c (cP U c))=U.zipIdx.map λp=>g p.1 p.2:=by
 apply aao;intro i;rw[Ze,Ze,List.getElem?_zipIdx]
 by_cases h:i<U.length
 .rw[Y3 h];simp only[Option.map_some,d3.idxOf_getElem i h,aaF]
 .rw[Zq (by omega)];rfl
def Xz{U:List (List Int)}(d3:U.Nodup){c:List Int}(ag:c∈U):oH (mk U) c=some ((2 ^ cP U c:Nat):Int):=by
 unfold mk;rw[<- idx_map d3 λc i=>(c,((2 ^ i:Nat):Int))];unfold oH;rw[List.find?_map];have:U.find? ((λp:List Int×Int=>decide (p.1=c)) ∘ λc=>(c,((2 ^ cP U c:Nat):Int)))=some c:=by
  have key:∀V:List (List Int),c∈V->V.find? ((λp:List Int×Int=>decide (p.1=c)) ∘ λc=>(c,((2 ^ cP U c:Nat):Int)))=some c:=λV=>by
   induction V with
   |nil=>intro h;cases h
   |cons v V aE =>
    intro h;rw[List.find?_cons]
    by_cases q:v=c
    .subst q;simp
    .rw[show((λp:List Int×Int=>decide (p.1=c)) ∘ λc=>(c,((2 ^ cP U c:Nat):Int))) v=false by simp[q]];exact aE ((Y0.mp h).resolve_left (Z6 q))
  exact key U ag
 rw[this];rfl
def oF(c:List Int):fZ (au c)=some c:=by
 show intsOf (c.map .int)=some c
 induction c with
 |nil=>rfl
 |cons x c aE=>rw[List.map_cons,intsOf,aE];rfl
def Ma(af:List (List Int×Int))(c:List Int)(n:Int)(h:af.length<1000)(ag:c∉af.map (·.1)):nP (some (some (.b7 af))) (some (some (au c))) (.int n)=.ok (.b7 (af++[(c,n)])):=by
 have e:putN af c n=af++[(c,n)]:=by
  unfold putN;rw[if_neg];intro z;obtain⟨p,az,q⟩:=abc.mp z;exact ag (List.mem_map.mpr ⟨p,az,by simpa using q⟩)
 show(match some af,fZ (au c),some n with
  |some af,some k,some n=>if af.length<1000 then R.ok (D.b7 (putN af k n)) else .bad
  |_,_,_=>_)=_
 rw[oF];dsimp only;rw[if_pos h,e]
def x5{U:List (List Int)}(d3:U.Nodup){c:List Int}(ag:c∈U):kf (some (some (.b7 (mk U)))) (some (some (au c)))=.ok (.int ((2 ^ cP U c:Nat):Int)):=by
 show(match some (mk U),fZ (au c) with
  |some af,some k=>(match oH af k with|some n=>R.ok (D.int n)|none=>.bad)
  |_,_=>_)=_
 rw[oF];dsimp only;rw[Xz d3 ag]
def CE(U:List (List Int)):nL (some (some (.b7 (mk U))))=.ok (U.map au):=by
 show R.ok ((mk U).map λp=>D.tup (p.1.map .int))=_;have:((mk U).map λp=>D.tup (p.1.map .int))=((mk U).map (·.1)).map au:=by rw[List.map_map];rfl
 rw[this,zT]
def L1(af:List (List Int×Int)):qP (some (some (.b7 af)))=.ok (.b7 af):=a5 rfl
def L2(af:List (Int×Int×Int)):qP (some (some (.bE af)))=.ok (.bE af):=a5 rfl
def Rq{f:Nat}{m:Int}{ts:List (List Int)}(n:Nat)(hf:Φ f [bk m ts,.int ((n:Int)-1)]=.ok (.tup ((cl ts n).map au)))(aA:(cl ts n).length<=63):c6 pg Φ ⟨2,3,bc.xk f⟩ [bk m ts,.int ((n:Int)-1)]=.ok (.b7 (mk (cl ts n))):=by
 simp only[Den.a0,Nat.reduceAdd,bc.xk,M7,hf];have d3:=iM ts n;obtain⟨bC,e,x,he⟩:=gG (f:=au) (g:=turn pg Φ 0 [4] (.cons (.ir 2 4 (.var 3)) (.cons (.asg 3 (.bin .mul (.var 3) (.lit (.int 2)))) (.nil))))
  (λaS ρ=>∃(x:Option D),ρ=[some (bk m ts),some (.int ((n:Int)-1)),some (.b7 (mk aS)),some (.int ((2 ^ aS.length:Nat):Int)),x])
  (cl ts n) [some (bk m ts),some (.int ((n:Int)-1)),some (.b7 []),some (.int 1),none] ⟨none,rfl⟩ (λpre c post ρ az ⟨x,b4⟩=>by
   subst b4;have eb:pre.length+1<=(cl ts n).length:=(by rw[az];simp);have ag:c∉(mk pre).map (·.1):=by
    rw[zT];intro z;rw[az]at d3;exact(aak.mp d3).2.2 c z c List.mem_cons_self rfl
   have aa:=Ma (mk pre) c ((2 ^ pre.length:Nat):Int) (by rw[RE];omega) ag;have hm:ep .mul (.int ((2 ^ pre.length:Nat):Int)) (.int 2)=.ok (.int ((2 ^ (pre++[c]).length:Nat):Int)):=by
    rw[lO _ _ (.inr ⟨by rw[j2];omega,by rw[j2];omega⟩),List.length_append,List.length_singleton,Nat.pow_succ];rfl
   refine⟨_,by simp only[Den.a0,Nat.reduceAdd,tM,aa,hm];rfl,some (au c),?_⟩;rw[RF])
 rw[e,he];simp only[Den.a0,Nat.reduceAdd,Df,L1]
def zw(is:List Int):intsOf (is.map .int)=some is:=oF is
def Wd{U xs:List (List Int)}(d3:U.Nodup)(ao:xs.Nodup)(h:∀x∈xs,x∈U):kS (xs.map λx=>D.int ((2 ^ cP U x:Nat):Int))=.ok (.int (dh U xs:Int)):=by
 have:=zw (xs.map λx=>((2 ^ cP U x:Nat):Int));rw[List.map_map]at this;unfold kS;rw[show(xs.map λx=>D.int ((2 ^ cP U x:Nat):Int))=xs.map (D.int ∘ λx=>((2 ^ cP U x:Nat):Int)) from rfl,this];dsimp only;rw[FA d3 ao h]
def Kc{U xs:List (List Int)}(d3:U.Nodup)(ao:xs.Nodup)(h:∀x∈xs,x∈U):c6 pg Φ ⟨2,0,bc.wU⟩ [.lst (xs.map au),.b7 (mk U)]=.ok (.int (dh U xs:Int)):=by
 have aj:da (elem pg Φ [some (.lst (xs.map au)),some (.b7 (mk U))] (.gZ 1 2) 0 .none) (xs.map au)=.ok (xs.map λx=>D.int ((2 ^ cP U x:Nat):Int)):=i9 λx ao=>by
  simp only[Den.a0,Nat.reduceAdd,nS,x5 d3 (h x ao)]
 simp only[Den.a0,Nat.reduceAdd,bc.wU,aj,Ts,Wd d3 ao h]
def wI(a b:Nat):ep .and (.int (a:Int)) (.int (b:Int))=.ok (.int ((a &&& b:Nat):Int)):=by
 show ny (a:Int) (b:Int)=_;unfold ny;rw[if_pos (aaZ a),if_pos (aaZ b)];rfl
def XS(a b:Nat):ep .xor (.int (a:Int)) (.int (b:Int))=.ok (.int ((a ^^^ b:Nat):Int)):=by
 show sP (a:Int) (b:Int)=_;unfold sP;rw[if_pos ⟨aaZ a,aaZ b⟩];rfl
def BH(a k:Nat):((a &&& 2 ^ k:Nat):Int)=0<->a.testBit k=false:=by
 have key:a &&& 2 ^ k=0<->a.testBit k=false:=by
  constructor
  .intro h;have:=Z8 (λz=>z.testBit k) h;simpa[acA,aaL] using this
  .intro h;apply abS;intro i;rw[acA,abe,aa9]
   by_cases q:k=i
   .rw[<- q,h];rfl
   .simp[q]
 rw[<- key];omega
def FJ(a k:Nat):dS .ne (.int ((a &&& 2 ^ k:Nat):Int)) (.int 0)=.ok (a.testBit k):=by
 show ie (.ok (((a &&& 2 ^ k:Nat):Int)==0))=_;cases q:a.testBit k with
 |false=>rw[ZL.mpr ((BH a k).mpr q)];rfl
 |true=>rw[Zs.mpr λz=>by rw[(BH a k).mp z]at q;cases q];rfl
def KA{U:List (List Int)}(d3:U.Nodup)(b:Nat):c6 pg Φ ⟨2,0,bc.wX⟩ [.int (b:Int),.b7 (mk U)]=.ok (.tup ((U.filter λc=>b.testBit (cP U c)).map au)):=by
 have aj:da (elem pg Φ [some (.int (b:Int)),some (.b7 (mk U))] (.var 2) 0 (.some (.cmp .ne (.bin .and (.var 0) (.gZ 1 2)) (.lit (.int 0))))) (U.map au)=.ok ((U.filter λc=>b.testBit (cP U c)).map au):=jH λc ag=>by
  have:=FJ b (cP U c);simp only[Den.a0,Nat.reduceAdd,nS,x5 d3 ag,wI];have J:ie (.ok (((b &&& 2 ^ cP U c:Nat):Int)==0))=.ok (b.testBit (cP U c)):=this;rw[show ie (.ok (((b &&& 2 ^ cP U c:Nat):Int)==0))=R.ok (!(((b &&& 2 ^ cP U c:Nat):Int)==0)) from rfl]at J;injection J with J;rw[J];cases b.testBit (cP U c)<;>rfl
 simp only[Den.a0,Nat.reduceAdd,bc.wX,q2,CE,aj]
noncomputable def cm(r:Row):D:=.tup [.int (r.1:Int),.int (r.2:Int)]
noncomputable def e5(ts:List (List Int))(n:Nat):List Nat:=(cl ts n).map λc=>dh (cl ts (n-1)) (bB c)
def Ud{cj bA o4:Nat}{m:Int}{ts:List (List Int)}(n:Nat)(ay:∀t∈ts,IsCell m t)(c4:m<=6)(hm:∀n:Nat,Φ o4 [bk m ts,.int ((n:Int)-1)]=.ok (.b7 (mk (cl ts n))))(aa:∀c:List Int,c.length<=1000->Φ bA [au c]=.ok (.lst ((bB c).map au)))(ab:∀U xs:List (List Int),U.Nodup->xs.Nodup->(∀x∈xs,x∈U)->Φ cj [.lst (xs.map au),.b7 (mk U)]=.ok (.int (dh U xs:Int))):
  c6 pg Φ ⟨2,2,bc.xn cj bA o4⟩ [bk m ts,.int (n:Int)]=.ok (.lst ((ey (e5 ts (n+1))).map cm)):=by
 have d3:=iM ts (n+1);have n9:=hm n;have pE:Φ o4 [bk m ts,.int (n:Int)]=.ok (.b7 (mk (cl ts (n+1)))):=by
  have:=hm (n+1);rwa[show(((n+1:Nat):Int)-1)=(n:Int) by omega]at this
 have aj:da (elem pg Φ [some (bk m ts),some (.int (n:Int)),some (.b7 (mk (cl ts n))),some (.b7 (mk (cl ts (n+1))))] (.tup (.cons (.call cj (.cons (.call bA (.cons (.var 4) (.nil))) (.cons (.var 2) (.nil)))) (.cons (.gZ 3 4) (.nil)))) 0 .none) ((cl ts (n+1)).map au)=.ok ((cl ts (n+1)).map λc=>cm (dh (cl ts n) (bB c),2 ^ cP (cl ts (n+1)) c)):=i9 λc ag=>by
  have t8:=hJ ay ag;have hlen:c.length<=1000:=by
   obtain⟨_,_,t,C,J⟩:=fv.mp ag;have:=J.length_le;have:=nF (ay t C);omega
  simp only[Den.a0,Nat.reduceAdd,nS,aa c hlen,ab (cl ts n) (bB c) (iM ts n) (lU t8) (λe he=>jG ay ag he),x5 d3 ag];rfl
 have ak:(ey (e5 ts (n+1))).map cm=(cl ts (n+1)).map λc=>cm (dh (cl ts n) (bB c),2 ^ cP (cl ts (n+1)) c):=by
  rw[idx_map d3 λc i=>cm (dh (cl ts n) (bB c),2 ^ i)];unfold ey e5;rw[List.zipIdx_map,List.map_map,List.map_map];rfl
 simp only[Den.a0,Nat.reduceAdd,bc.xn,n9,pE,q2,CE,aj,ak]
def lK(r:Row):fF (cm r) (.int 0)=.ok (.int (r.1:Int)):=rfl
def EM(r:Row):fF (cm r) (.int 1)=.ok (.int (r.2:Int)):=rfl
def Wf(r q:Row):c6 pg Φ ⟨2,0,bc.xr⟩ [cm r,cm q]=.ok (cm (r.1 ^^^ q.1,r.2 ^^^ q.2)):=by
 simp only[Den.a0,Nat.reduceAdd,bc.xr,lK,EM,XS];rfl
noncomputable def du(B:cI):List (Int×Int×Int):=B.map λe=>(((2 ^ e.1:Nat):Int),(e.2.1:Int),(e.2.2:Int))
def Gm{a b:Nat}(h:a≠b):((2 ^ a:Nat):Int)≠((2 ^ b:Nat):Int):=λz=>by
 have z:2 ^ a=2 ^ b:=Int.ofNat.inj z;rcases abt a b with q|q|q
 .have:=aa6 (show 1<2 by decide) q;omega
 .exact h q
 .have:=aa6 (show 1<2 by decide) q;omega
theorem IG : ∀ {B : cI}, (B.map (·.1)).Nodup -> ∀ e ∈ B, m9 (du B) ((2 ^ e.1 : Nat) : Int) = some ((e.2.1 : Int), (e.2.2 : Int))
  | f :: B, h, e, he => by
    obtain ⟨C, J⟩ := Zi.mp h
    unfold m9 du
    rw [List.map_cons, List.find?_cons]
    dsimp only
    by_cases q : f.1 = e.1
    · have : f = e := by
        rcases Y0.mp he with z | z
        · exact z.symm
        · exact absurd (List.mem_map.mpr ⟨e, z, q.symm⟩) C
      subst this
      rw [decide_eq_true rfl]
      rfl
    · rw [decide_eq_false (Gm q)]
      exact IG J e ((Y0.mp he).resolve_left fun z => q (by rw [z]))
def CD{B:cI}(h:(B.map (·.1)).Nodup){e:Nat×Row}(he:e∈B):kf (some (some (.bE (du B)))) (some (some (.int ((2 ^ e.1:Nat):Int))))=.ok (cm e.2):=by
 show(match some (du B),some ((2 ^ e.1:Nat):Int) with
  |some af,some k=>(match m9 af k with|some r=>R.ok (ow r)|none=>.bad)
  |_,_=>R.bad)=_
 dsimp only;rw[IG h e he];rfl
def CG(B:cI):nL (some (some (.bE (du B))))=.ok (B.map λe=>D.int ((2 ^ e.1:Nat):Int)):=by
 show R.ok ((du B).map λp=>D.int p.1)=_;unfold du;rw[List.map_map];rfl
def T2(B:cI)(e:Nat×Row)(r:Row):red (B++[e]) r=one (red B r) e:=by unfold red;rw[List.foldl_append];rfl
def T4{f:Nat}(hf:∀r q:Row,Φ f [cm r,cm q]=.ok (cm (r.1 ^^^ q.1,r.2 ^^^ q.2))){B:cI}(h:(B.map (·.1)).Nodup)(r:Row):c6 pg Φ ⟨2,1,bc.xm f⟩ [cm r,.bE (du B)]=.ok (cm (red B r)):=by
 simp only[Den.a0,Nat.reduceAdd,bc.xm,q2,CG];obtain⟨bC,e,x,he⟩:=gG (f:=λe:Nat×Row=>D.int ((2 ^ e.1:Nat):Int)) (g:=turn pg Φ 0 [2] (.cons (.iff (.cmp .ne (.bin .and (.idx (.var 0) (.lit (.int 0))) (.var 2)) (.lit (.int 0))) (.cons (.asg 0 (.call f (.cons (.var 0) (.cons (.gZ 1 2) (.nil))))) (.nil)) (.nil)) (.nil)))
  (λaS ρ=>∃(x:Option D),ρ=[some (cm (red aS r)),some (.bE (du B)),x])
  B [some (cm r),some (.bE (du B)),none] ⟨none,rfl⟩ (λpre e post ρ az ⟨x,b4⟩=>by
   subst b4;have iT:e∈B:=(by rw[az];simp);have aD:=FJ (red pre r).1 e.1;have aD:ie (.ok ((((red pre r).1 &&& 2 ^ e.1:Nat):Int)==0))=.ok ((red pre r).1.testBit e.1):=aD;rw[T2];unfold one;cases q:(red pre r).1.testBit e.1 with
   |true =>
    rw[q]at aD;refine⟨_,by simp only[Den.a0,Nat.reduceAdd,lK,wI,aD,nS,CD h iT,hf],some (.int ((2 ^ e.1:Nat):Int)),rfl⟩
   |false =>
    rw[q]at aD;refine⟨_,by simp only[Den.a0,Nat.reduceAdd,lK,wI,aD],some (.int ((2 ^ e.1:Nat):Int)),rfl⟩)
 rw[e,he];simp only[Den.a0,Nat.reduceAdd]
def Rh(n:Nat)(h:0<n):c6 pg Φ ⟨1,0,bc.xj⟩ [.int (n:Int)]=.ok (.int ((2 ^ lo n:Nat):Int)):=by
 have e:ep .and (.int (n:Int)) (.int (-(n:Int)))=.ok (.int ((2 ^ lo n:Nat):Int)):=by
  show ny (n:Int) (-(n:Int))=_;unfold ny;rw[if_pos (aaZ n),if_neg (by omega)];obtain⟨_,_,aC,aT⟩:=Fg n h;have b6:(-(-(n:Int))-1).toNat=n-1:=(by omega);rw[b6,Int.toNat_natCast];congr 2;omega
 simp only[Den.a0,Nat.reduceAdd,bc.xj,Dc,e]
def CK(af:List (Int×Int×Int))(k:Int)(r:Row)(h:af.length<1000)(ag:k∉af.map (·.1)):nP (some (some (.bE af))) (some (some (.int k))) (cm r)=.ok (.bE (af++[(k,(r.1:Int),(r.2:Int))])):=by
 have e:lR af k ((r.1:Int),(r.2:Int))=af++[(k,(r.1:Int),(r.2:Int))]:=by
  unfold lR;rw[if_neg];intro z;obtain⟨p,az,q⟩:=abc.mp z;exact ag (List.mem_map.mpr ⟨p,az,by simpa using q⟩)
 show(if af.length<1000 then R.ok (D.bE (lR af k ((r.1:Int),(r.2:Int)))) else .bad)=_;rw[if_pos h,e]
def L7(k:Nat)(r:Row):qR (some (some (.int ((2 ^ k:Nat):Int)))) (some (some (cm r)))=.ok (.bE (du [(k,r)])):=rfl
def Cz(B:cI){k:Nat}(h:k∉B.map (·.1)):((2 ^ k:Nat):Int)∉(du B).map (·.1):=λz=>by
 unfold du at z;rw[List.map_map]at z;obtain⟨e,he,q⟩:=List.mem_map.mp z;exact Gm (λw=>h (List.mem_map.mpr ⟨e,he,w⟩)) q
def Og{fr eX:Nat}(a9:∀(B:cI)(r:Row),(B.map (·.1)).Nodup->Φ fr [cm r,.bE (du B)]=.ok (cm (red B r)))(aA:∀n:Nat,0<n->Φ eX [.int (n:Int)]=.ok (.int ((2 ^ lo n:Nat):Int))){B:cI}(h:dG B)(fC:B.length<900)(r:Row):
  c6 pg Φ ⟨2,4,bc.th fr eX⟩ [.bE (du B),cm r]=.ok (.bE (du (grow B r))):=by
 have aD:=qX h;have a4:=rd h r
 by_cases c:(red B r).1=0
 .have hz:(((red B r).1:Int)==0)=true:=(by rw[c];rfl);simp only[Den.a0,Nat.reduceAdd,bc.th,a9 B r aD,lK,hz];unfold grow;rw[if_pos c]
 .have hz:(((red B r).1:Int)==0)=false:=Zs.mpr (by omega);have ax:=aA (red B r).1 (by omega);have nQ:grow B r=B.map (λe=>(e.1,one e.2 (lo (red B r).1,red B r)))++[(lo (red B r).1,red B r)]:=(by unfold grow;rw[if_neg c]);rw[nQ]at a4 ⊢;have ug:=qX a4;simp only[Den.a0,Nat.reduceAdd,bc.th,a9 B r aD,lK,hz,ax,M9,q2,CG];generalize red B r=l at ug;generalize lo l.1=k at ug;have DR:((B.map λe=>(e.1,one e.2 (k,l))).map (·.1))=B.map (·.1):=(by rw[List.map_map];rfl);have O1:k∉B.map (·.1):=by
   rw[List.map_append,DR]at ug;exact λz=>(aak.mp ug).2.2 k z k (by simp) rfl
  obtain⟨bC,e,x,he⟩:=gG (f:=λe:Nat×Row=>D.int ((2 ^ e.1:Nat):Int)) (g:=turn pg Φ 0 [5] (.cons (.ir 4 5 (.call fr (.cons (.gZ 0 5) (.cons (.oW 3 2) (.nil))))) (.nil)))
   (λaS ρ=>∃(x:Option D),ρ=[some (.bE (du B)),some (cm r),some (cm l),some (.int ((2 ^ k:Nat):Int)),some (.bE (du (aS.map λe=>(e.1,one e.2 (k,l))))),x])
   B [some (.bE (du B)),some (cm r),some (cm l),some (.int ((2 ^ k:Nat):Int)),some (.bE []),none] ⟨none,rfl⟩ (λpre e post ρ az ⟨x,b4⟩=>by
    subst b4;have iT:e∈B:=(by rw[az];simp);have eb:pre.length+1<=B.length:=(by rw[az];simp);have C:=a9 [(k,l)] e.2 (by simp);have C:Φ fr [cm e.2,.bE (du [(k,l)])]=.ok (cm (one e.2 (k,l))):=C;have ea:e.1∉(pre.map λe=>(e.1,one e.2 (k,l))).map (·.1):=by
     rw[List.map_map];intro z;have z:e.1∈pre.map (·.1):=z;rw[az,List.map_append,List.map_cons]at aD;exact(aak.mp aD).2.2 e.1 z e.1 List.mem_cons_self rfl
    have J:=CK (du (pre.map λe=>(e.1,one e.2 (k,l)))) ((2 ^ e.1:Nat):Int) (one e.2 (k,l)) (by unfold du;simp;omega) (Cz _ ea);refine⟨_,by simp only[Den.a0,Nat.reduceAdd,tM,nS,MO,CD aD iT,L7,C,J];rfl,some (.int ((2 ^ e.1:Nat):Int)),?_⟩;unfold du;simp only[List.map_append,List.map_cons,aaU])
  rw[e,he];have aC:=CK (du (B.map λe=>(e.1,one e.2 (k,l)))) ((2 ^ k:Nat):Int) l (by unfold du;simp;omega) (Cz _ (by rw[DR];exact O1));simp only[Den.a0,Nat.reduceAdd,tM,aC,Df,L2];unfold du;simp only[List.map_append,List.map_cons,aaU]
def Of(B:cI)(rs:List Row)(r:Row):dT B (rs++[r])=grow (dT B rs) r:=by unfold dT;rw[List.foldl_append];rfl
def DN(B:cI)(r:Row):(grow B r).length<=B.length+1:=by rw[rf];split<;>omega
theorem tY:∀(rs:List Row)(B:cI),(dT B rs).length<=B.length+rs.length
 |[],B=>Y2 _
 |r::rs,B=>by
  have C:=tY rs (grow B r);have J:=DN B r;show(dT (grow B r) rs).length<=_;rw[List.length_cons];omega
def zr(rs:List Row):(eT rs).1=dT [] rs:=by
 have key:∀(rs:List Row)(st:cI×List Nat),(rs.foldl step st).1=dT st.1 rs:=λrs=>by
  induction rs with
  |nil=>intro st;rfl
  |cons r rs aE=>intro st;exact aE (step st r)
 exact key rs ([],[])
def EC(rs:List Row):(eT rs).2.length<=rs.length:=by
 have key:∀(rs:List Row)(st:cI×List Nat),(rs.foldl step st).2.length<=st.2.length+rs.length:=λrs=>by
  induction rs with
  |nil=>intro st;exact Y2 _
  |cons r rs aE =>
   intro st;have C:=aE (step st r);have J:(step st r).2.length<=st.2.length+1:=(by unfold step;dsimp only;split<;>simp);show(rs.foldl step (step st r)).2.length<=_;rw[List.length_cons];omega
 have:=key rs ([],[]);simp only[List.length_nil,aaF]at this;exact this
def J3{jL:Nat}(a4:∀(B:cI)(r:Row),dG B->B.length<900->Φ jL [.bE (du B),cm r]=.ok (.bE (du (grow B r)))){rs:List Row}(aA:rs.length<=63):c6 pg Φ ⟨1,2,bc.wR jL⟩ [.lst (rs.map cm)]=.ok (.bE (du (dT [] rs))):=by
 simp only[Den.a0,Nat.reduceAdd,bc.wR,C6];obtain⟨bC,e,x,he⟩:=gG (f:=cm) (g:=turn pg Φ 0 [2] (.cons (.asg 1 (.call jL (.cons (.var 1) (.cons (.var 2) (.nil))))) (.nil)))
  (λaS ρ=>∃(x:Option D),ρ=[some (.lst (rs.map cm)),some (.bE (du (dT [] aS))),x])
  rs [some (.lst (rs.map cm)),some (.bE []),none] ⟨none,rfl⟩ (λpre r post ρ az ⟨x,b4⟩=>by
   subst b4;have eb:pre.length+1<=rs.length:=(by rw[az];simp);have C:=tY pre [];have J:=a4 (dT [] pre) r (iQ dG.nil) (by simp at C;omega);rw[Of];refine⟨_,by simp only[Den.a0,Nat.reduceAdd,J],some (cm r),rfl⟩)
 rw[e,he];simp only[Den.a0,Nat.reduceAdd]
def tc(xs:List D)(d:D)(h:xs.length<SZ):qA (some (some (.lst xs))) d=.ok (.lst (xs++[d])):=by rw[td,if_pos h]
def P5{jL fr:Nat}(a4:∀(B:cI)(r:Row),dG B->B.length<900->Φ jL [.bE (du B),cm r]=.ok (.bE (du (grow B r))))(a9:∀(B:cI)(r:Row),(B.map (·.1)).Nodup->Φ fr [cm r,.bE (du B)]=.ok (cm (red B r))){rs:List Row}(aA:rs.length<=63):
  c6 pg Φ ⟨1,4,bc.w1 jL fr⟩ [.lst (rs.map cm)]=.ok (.lst ((eT rs).2.map λb:Nat=>D.int (b:Int))):=by
 simp only[Den.a0,Nat.reduceAdd,bc.w1,C6];obtain⟨bC,e,x,y,he⟩:=gG (f:=cm) (g:=turn pg Φ 0 [3] (.cons (.asg 4 (.call fr (.cons (.var 3) (.cons (.var 1) (.nil))))) (.cons (.iff (.cmp .eq (.idx (.var 4) (.lit (.int 0))) (.lit (.int 0))) (.cons (.app 2 (.idx (.var 4) (.lit (.int 1)))) (.nil)) (.nil)) (.cons (.asg 1 (.call jL (.cons (.var 1) (.cons (.var 3) (.nil))))) (.nil)))))
  (λaS ρ=>∃(x y:Option D),ρ=[some (.lst (rs.map cm)),some (.bE (du (eT aS).1)),some (.lst ((eT aS).2.map λb:Nat=>D.int (b:Int))),x,y])
  rs [some (.lst (rs.map cm)),some (.bE []),some (.lst []),none,none] ⟨none,none,rfl⟩ (λpre r post ρ az ⟨x,y,b4⟩=>by
   subst b4;have eb:pre.length+1<=rs.length:=(by rw[az];simp);have C:=tY pre [];have aT:=EC pre;have jd:dG (eT pre).1:=(by rw[zr];exact iQ dG.nil);have J:=a4 (eT pre).1 r jd (by rw[zr];simp at C;omega);have aC:=a9 (eT pre).1 r (qX jd);rw[ED];unfold step;dsimp only
   by_cases c:(red (eT pre).1 r).1=0
   .have hz:(((red (eT pre).1 r).1:Int)==0)=true:=(by rw[c];rfl);have b6:=tc ((eT pre).2.map λb:Nat=>D.int (b:Int)) (.int ((red (eT pre).1 r).2:Int)) (by rw[List.length_map,gA];omega);rw[if_pos c];refine⟨_,by simp only[Den.a0,Nat.reduceAdd,aC,lK,EM,hz,b6,J];rfl,some (cm r),some (cm (red (eT pre).1 r)),?_⟩;rw[List.map_append];rfl
   .have hz:(((red (eT pre).1 r).1:Int)==0)=false:=Zs.mpr (by omega);rw[if_neg c];refine⟨_,by simp only[Den.a0,Nat.reduceAdd,aC,lK,hz,J],some (cm r),some (cm (red (eT pre).1 r)),rfl⟩)
 rw[e,he];simp only[Den.a0,Nat.reduceAdd]
noncomputable def hX(U:List (List Int))(b:Nat):D:=.tup ((U.filter λc=>b.testBit (cP U c)).map au)
theorem HE{α:Type}(f:α->D):∀xs:List α,∃ys:List α,ys.Perm xs/\hs (xs.map f)=ys.map f
 |[]=>⟨[],.nil,rfl⟩
 |x::xs=>by
  have ins:∀ys:List α,∃zs:List α,zs.Perm (x::ys)/\pq (f x) (ys.map f)=zs.map f:=λys=>by
   induction ys with
   |nil=>exact⟨[x],.refl _,rfl⟩
   |cons y ys aE =>
    rw[List.map_cons,pq]
    split
    .obtain⟨zs,p,e⟩:=aE;exact⟨y::zs,(p.cons y).trans (List.Perm.swap x y ys),by rw[e];rfl⟩
    .exact⟨x::y::ys,.refl _,rfl⟩
  obtain⟨ys,p,e⟩:=HE f xs;obtain⟨zs,bL,ak⟩:=ins ys;exact⟨zs,bL.trans (p.cons x),by rw[List.map_cons,hs,e,ak]⟩
def Kz{U:List (List Int)}(d3:U.Nodup)(aD:∀c∈U,c≠[]){b:Nat}(h0:b≠0)(ab:b<2 ^ U.length):mM (hX U b)=true:=by
 obtain⟨i,ai⟩:∃i,b.testBit i=true:=Nat.exists_testBit_of_ne_zero h0;have bV:i<U.length:=by
  rcases acu i U.length with q|q
  .exact q
  .rw[aaj (Zj ab (ZE (by decide) q))]at ai;cases ai
 have hm:U[i]∈U.filter λc=>b.testBit (cP U c):=Y9.mpr ⟨List.getElem_mem bV,by rw[EO d3 bV];exact ai⟩
 have ag:∀c∈U.filter λc=>b.testBit (cP U c),c≠[]:=λc h=>aD c (Y9.mp h).1
 unfold hX;generalize (U.filter λc=>b.testBit (cP U c))=cs at hm ag;cases cs with
 |nil=>cases hm
 |cons c cs =>
  have:=tr ag;exact this
def sr(ts:List (List Int))(n:Nat):(e5 ts n).length=(cl ts n).length:=by unfold e5;rw[List.length_map]
def Fy(as:List Nat):(ey as).length=as.length:=by unfold ey;simp
def J2{m:Int}{ts:List (List Int)}(n:Nat)(ay:∀t∈ts,IsCell m t):∀r∈ey (e5 ts (n+2)),r.1<2 ^ (e5 ts (n+1)).length/\bd (e5 ts (n+1)) r.1=0:=by
 intro r a9;obtain⟨p,az,rfl⟩:=List.mem_map.mp a9;have Pw:p.1∈e5 ts (n+2):=List.fst_mem_of_mem_zipIdx az;obtain⟨c,ag,e⟩:=List.mem_map.mp Pw;dsimp only;rw[<- e,sr];have t8:=hJ ay ag;have et:∀x∈bB c,x∈cl ts (n+1):=λx ao=>jG ay ag ao
 refine⟨zU et,GO (iM ts n) et (λx ao=>⟨lU (pY t8 ao),λy aV=>jG ay (et x ao) aV⟩) λy=>?_⟩;have z:=xZ t8 y;refine(Z8 (· % 2) (?e:_=cnt y (bB c))).trans ?_
 case e=>exact aa5 λx _=>by simp only[Zf]
 omega
structure Told(ts:List (List Int))(n:Nat)(G:List Nat):Prop where
 len:G.length+(dT [] (ey (e5 ts (n+2)))).length+(dT [] (ey (e5 ts (n+1)))).length=(cl ts (n+1)).length
def RC(as:List Nat):(ey as).map (·.1)=as:=by
 unfold ey;rw[List.map_map];exact List.zipIdx_map_fst 0 as
def Um{Dp yp fr jL cD o4 cj:Nat}{m:Int}{ts:List (List Int)}(n:Nat)(ay:∀t∈ts,IsCell m t)(c4:m<=6)(ai:∀rs:List Row,rs.length<=63->Φ Dp [.lst (rs.map cm)]=.ok (.lst ((eT rs).2.map λb:Nat=>D.int (b:Int))))(Es:∀n:Nat,Φ yp [bk m ts,.int (n:Int)]=.ok (.lst ((ey (e5 ts (n+1))).map cm)))(a9:∀(B:cI)(r:Row),(B.map (·.1)).Nodup->Φ fr [cm r,.bE (du B)]=.ok (cm (red B r)))(a4:∀(B:cI)(r:Row),dG B->B.length<900->Φ jL [.bE (du B),cm r]=.ok (.bE (du (grow B r))))(ag:∀(U:List (List Int))(b:Nat),U.Nodup->Φ cD [.int (b:Int),.b7 (mk U)]=.ok (hX U b))(hm:Φ o4 [bk m ts,.int (n:Int)]=.ok (.b7 (mk (cl ts (n+1)))))(ab:∀rs:List Row,rs.length<=63->Φ cj [.lst (rs.map cm)]=.ok (.bE (du (dT [] rs)))):
  ∃G:List Nat,c6 pg Φ ⟨2,5,bc.xo Dp yp fr jL cD o4 cj⟩ [bk m ts,.int (n:Int)]=.ok (.tup (G.map (hX (cl ts (n+1)))))/\Told ts n G:=by
 have eu:(ey (e5 ts (n+1))).length<=63:=by rw[Fy,sr];exact qJ c4 ay _
 have eG:(ey (e5 ts (n+2))).length<=63:=by rw[Fy,sr];exact qJ c4 ay _
 have aG:=Es n;have aZ:Φ yp [bk m ts,.int ((n:Int)+1)]=.ok (.lst ((ey (e5 ts (n+2))).map cm)):=Es (n+1);have e3:=ai _ eu;have b1:=ab _ eG;have d3:=iM ts (n+1);have st:=HM (e5 ts (n+1));have so:=Ul (e5 ts (n+1)) _ (J2 n ay);have yG:=EC (ey (e5 ts (n+1)));have cp:=st.len;rw[zr,sr]at cp;have AD:=st.iO;rw[sr]at AD;have t6:=tY (ey (e5 ts (n+2))) [];simp only[List.length_nil,aaF]at t6;have DV:=iQ (rs:=ey (e5 ts (n+2))) dG.nil;simp only[Den.a0,Nat.reduceAdd,bc.xo,aG,aZ,e3,b1,hm];generalize (eT (ey (e5 ts (n+1)))).2=F at so cp AD yG;generalize Ol:dT [] (ey (e5 ts (n+2)))=hh at so t6 DV;obtain⟨bC,e,x,y,C,J,aC,aT,he⟩:=gG (f:=λb:Nat=>D.int (b:Int)) (g:=turn pg Φ 0 [5] (.cons (.asg 6 (.tup (.cons (.var 5) (.cons (.lit (.int 0)) (.nil))))) (.cons (.iff (.cmp .ne (.idx (.call fr (.cons (.var 6) (.cons (.var 2) (.nil)))) (.lit (.int 0))) (.lit (.int 0))) (.cons (.app 4 (.call cD (.cons (.var 5) (.cons (.var 3) (.nil))))) (.cons (.asg 2 (.call jL (.cons (.var 2) (.cons (.var 6) (.nil))))) (.nil))) (.nil)) (.nil))))
  (λaS ρ=>∃(x y:Option D),dG (aS.foldl tell (hh,[])).1/\(aS.foldl tell (hh,[])).1.length<=hh.length+aS.length/\(aS.foldl tell (hh,[])).2.length<=aS.length/\(∀b∈(aS.foldl tell (hh,[])).2,b≠0/\b<2 ^ (cl ts (n+1)).length) /\
   ρ=[some (bk m ts),some (.int (n:Int)),some (.bE (du (aS.foldl tell (hh,[])).1)),some (.b7 (mk (cl ts (n+1)))),some (.lst ((aS.foldl tell (hh,[])).2.map (hX (cl ts (n+1))))),x,y])
  F [some (bk m ts),some (.int (n:Int)),some (.bE (du hh)),some (.b7 (mk (cl ts (n+1)))),some (.lst []),none,none] ⟨none,none,DV,Y2 _,Y2 _,(λ_ h=>nomatch h),rfl⟩ (λpre b post ρ az ⟨x,y,C,J,aC,aT,b4⟩=>by
   subst b4;have Oy:b∈F:=(by rw[az];simp);have eb:pre.length+1<=F.length:=(by rw[az];simp);rw[List.foldl_append];show ∃bC,_/\∃x y,dG (tell (pre.foldl tell (hh,[])) b).1/\(tell (pre.foldl tell (hh,[])) b).1.length<=hh.length+(pre++[b]).length/\(tell (pre.foldl tell (hh,[])) b).2.length<=(pre++[b]).length/\(∀z∈(tell (pre.foldl tell (hh,[])) b).2,z≠0/\z<2 ^ (cl ts (n+1)).length)/\bC=[some (bk m ts),some (.int (n:Int)),some (.bE (du (tell (pre.foldl tell (hh,[])) b).1)),some (.b7 (mk (cl ts (n+1)))),some (.lst ((tell (pre.foldl tell (hh,[])) b).2.map (hX (cl ts (n+1))))),x,y];generalize pre.foldl tell (hh,[])=w at C J aC aT;obtain⟨B,G⟩:=w;dsimp only at C J aC aT;have g1:=rd C (bare b);have g2:=DN B (bare b);have g3:=a9 B (bare b) (qX C);have ly:=a4 B (bare b) C (by omega);have N1:=ag (cl ts (n+1)) b d3;have eV:D.tup [.int (b:Int),.int 0]=cm (bare b):=rfl;have XY:=vk (r:=bare b) C;unfold tell;dsimp only
   by_cases c:(red B (bare b)).1=0
   .have hz:(((red B (bare b)).1:Int)==0)=true:=(by rw[c];rfl);have qZ:grow B (bare b)=B:=(by unfold grow;rw[if_pos c]);rw[if_pos c,qZ];refine⟨_,by simp only[Den.a0,Nat.reduceAdd,eV,g3,lK,hz],some (.int (b:Int)),some (cm (bare b)),C,by rw[List.length_append];omega,by rw[List.length_append];omega,aT,rfl⟩
   .have hz:(((red B (bare b)).1:Int)==0)=false:=Zs.mpr (by omega);have b6:=tc (G.map (hX (cl ts (n+1)))) (hX (cl ts (n+1)) b) (by rw[List.length_map,gA];omega);rw[if_neg c];refine⟨_,by simp only[Den.a0,Nat.reduceAdd,eV,g3,lK,hz,N1,b6,ly];rfl,some (.int (b:Int)),some (cm (bare b)),g1,by rw[List.length_append,List.length_singleton];omega,by rw[List.length_append,List.length_append];simp;omega,λz hz=>?_,?_⟩
    .rcases Zg.mp hz with hz|hz
     .exact aT z hz
     .rw[Zb.mp hz];exact⟨λe=>c (XY.mpr (by rw[e];exact sF _)),AD b Oy⟩
    .rw[List.map_append];rfl)
 rw[e,he];generalize t1:(F.foldl tell (hh,[])).2=N at so aC aT;have o9:(N.map (hX (cl ts (n+1)))).all mM=true:=by
  rw[List.all_map,Zp];exact λb ab=>Kz d3 (λc ag=>(fv.mp ag).2.1) (aT b ab).1 (aT b ab).2
 obtain⟨G,p,Mg⟩:=HE (hX (cl ts (n+1))) N;have aa:Den.sorted (N.map (hX (cl ts (n+1))))=.ok (.lst (G.map (hX (cl ts (n+1))))):=by
  unfold Den.sorted;rw[o9,acH,Bool.true_and,if_pos,Mg];rw[List.length_map,Zf];omega
 refine⟨G,by simp only[Den.a0,Nat.reduceAdd,t1,aa],⟨?_⟩⟩;rw[p.length_eq,Ol];omega
end cU
end
section
namespace cU
open Den bt eC gS
noncomputable def nn(ts:List (List Int))(k:Nat):Nat:=(cl ts (k+1)).length
noncomputable def fK(ts:List (List Int))(k:Nat):Nat:=gv (e5 ts (k+1))
noncomputable def dD(ts:List (List Int))(k:Nat):Nat:=nn ts k-fK ts (k+1)-fK ts k
def GQ(ts:List (List Int))(k:Nat):(dT [] (ey (e5 ts (k+1)))).length=fK ts k:=by
 unfold fK;rw[Uj,RC]
def Told.sum{ts:List (List Int)}{n:Nat}{G:List Nat}(h:Told ts n G):dD ts n=G.length/\dD ts n+fK ts (n+1)+fK ts n=nn ts n:=by
 have:=h.len;rw[GQ,GQ]at this;have this:G.length+fK ts (n+1)+fK ts n=nn ts n:=this;unfold dD;omega
def Ht(ρ:Int->Int)(c:List Int):bB (c.map ρ)=(bB c).map (List.map ρ):=by
 unfold bB;rw[List.length_map]
 split
 .rw[List.map_map];refine Zw λk _=>?_
  simp only[Function.comp,List.map_append,List.map_take,List.map_drop]
 .rfl
structure Move(ts ts':List (List Int))(s t:List Int)(ρ l5:Int->Int):Prop where
 fwd:∀n z,z∈cl ts n->z≠s->z≠t->z.map ρ∈cl ts' n/\(z.map ρ).map l5=z
 bwd:∀n z,z∈cl ts' n->∃y∈cl ts n,y≠s/\y≠t/\z=y.map ρ
structure el(ts:List (List Int))(s t:List Int):Prop where
 gR:t∈cl ts t.length
 bB:s∈bB t
 one:∀d,d∈cl ts (s.length+1)->s∈cU.bB d->d=t
noncomputable def h9(ts:List (List Int))(s t:List Int)(n:Nat):List (List Int):=(cl ts n).filter λc=>!decide (c=s)&&!decide (c=t)
def lN{ts:List (List Int)}{s t z:List Int}{n:Nat}:z∈h9 ts s t n<->z∈cl ts n/\z≠s/\z≠t:=by
 unfold h9;rw[Y9];simp
section
variable{m:Int}{ts ts':List (List Int)}{s t:List Int}{ρ l5:Int->Int}
def el.len(h:el ts s t)(ay:∀t∈ts,IsCell m t):s.length+1=t.length/\1<t.length:=by
 obtain⟨a,b,_⟩:=(gh (hJ ay h.gR)).mp h.bB;exact⟨b,a⟩
def el.sin(h:el ts s t)(ay:∀t∈ts,IsCell m t):s∈cl ts s.length:=by
 have:=jG ay h.gR h.bB;rwa[<- (h.len ay).1]at this
def el.top(h:el ts s t)(ay:∀t∈ts,IsCell m t){n:Nat}{d:List Int}(hd:d∈cl ts n):t∉cU.bB d:=λz=>by
 obtain⟨eu,eG⟩:=h.len ay;have yT:=hJ ay hd;obtain⟨_,cg,_⟩:=(gh yT).mp z;have X9:=(fv.mp hd).1;have cv:cnt s (cU.bB d)=2:=by
  rcases xZ yT s with q|q
  .unfold cnt at q;rw[abX]at q;exact absurd (decide_eq_true h.bB) (q t z)
  .exact q
 have c9:cnt s (cU.bB d)<=1:=by
  unfold cnt;rw[aad];have:((cU.bB d).filter λc=>decide (s∈cU.bB c)).length<=[t].length:=hr ((lU yT).filter _) λe he=>by
   obtain⟨aj,ak⟩:=Y9.mp he;have et:=jG ay hd aj;rw[show n-1=s.length+1 by omega]at et;exact Zb.mpr (h.one e et (ZQ ak))
  exact this
 omega
def el.side(h:el ts s t)(ay:∀t∈ts,IsCell m t){n:Nat}{c y:List Int}(ag:c∈h9 ts s t n)(aV:y∈cU.bB c):y∈h9 ts s t (n-1):=by
 obtain⟨c9,cv,fP⟩:=lN.mp ag;have et:=jG ay c9 aV;refine lN.mpr ⟨et,λe=>?_,λe=>?_⟩
 .subst e;obtain⟨_,b,_⟩:=(gh (hJ ay c9)).mp aV;have:c∈cl ts (y.length+1):=(by rw[b,(fv.mp c9).1];exact c9);exact fP (h.one c this aV)
 .subst e;exact h.top ay c9 aV
def E9(h:Move ts ts' s t ρ l5)(n:Nat):((h9 ts s t n).map (List.map ρ)).Perm (cl ts' n):=by
 refine sg ?_ (iM ts' n) λz=>⟨λq=>?_,λq=>?_⟩
 .rw[Za,Zu];refine Zx (λ{a b} aB ab (q:a≠b) e=>q ?_) (Za.mp ((iM ts n).filter _));obtain⟨a1,a2,eI⟩:=lN.mp aB;obtain⟨b1,b2,dt⟩:=lN.mp ab;rw[<- (h.fwd n a a1 a2 eI).2,e,(h.fwd n b b1 b2 dt).2]
 .obtain⟨y,aV,rfl⟩:=List.mem_map.mp q;obtain⟨a1,a2,eI⟩:=lN.mp aV;exact(h.fwd n y a1 a2 eI).1
 .obtain⟨y,C,J,aC,rfl⟩:=h.bwd n z q;exact List.mem_map.mpr ⟨y,lN.mpr ⟨C,J,aC⟩,rfl⟩
noncomputable def col(ts:List (List Int))(n:Nat)(c:List Int):Nat:=dh (cl ts n) (cU.bB c)
def Ue(h:Move ts ts' s t ρ l5)(f:el ts s t)(ay:∀t∈ts,IsCell m t)(n:Nat):fK ts' n=gv ((h9 ts s t (n+1)).map (col ts n)):=by
 have e:=Ug (U:=h9 ts s t (n+1)) (V:=cl ts n) (V':=cl ts' n) (sd:=cU.bB) (List.map ρ) (List.map l5) λc ag y aV=>by
  obtain⟨a1,a2,eI⟩:=lN.mp (f.side ay ag aV);exact⟨a1,h.fwd n y a1 a2 eI⟩
 unfold col;rw[<- e];unfold fK;refine GV λx=>?_
 unfold e5;rw[show n+1-1=n from rfl,List.mem_map,List.mem_map];have p:=E9 h (n+1);constructor
 .rintro⟨z,hz,rfl⟩;obtain⟨c,ag,rfl⟩:=List.mem_map.mp (p.symm.subset hz);exact⟨c,ag,by rw[Ht]⟩
 .rintro⟨c,ag,rfl⟩;exact⟨c.map ρ,p.subset (List.mem_map.mpr ⟨c,ag,rfl⟩),by rw[Ht]⟩
def split_len(x:List Int)(n:Nat){p:List Int->Bool}(ao:x∈cl ts n)(az:p x=false)(h:∀c∈cl ts n,c≠x->p c=true):(cl ts n).Perm ((cl ts n).filter p++[x]):=by
 refine sg (iM ts n) (aak.mpr ⟨(iM ts n).filter _,by simp,λa aB b ab e=>?_⟩) λz=>?_
 .rw[Zb]at ab;subst e;subst ab;rw[(Y9.mp aB).2]at az;cases az
 .rw[Zg,Y9,Zb];constructor
  .intro hz
   by_cases q:z=x
   .exact .inr q
   .exact .inl ⟨hz,h z hz q⟩
  .rintro(⟨a,_⟩|rfl)
   .exact a
   .exact ao
def GP (f : el ts s t) (ay : ∀ t ∈ ts, IsCell m t) (n : Nat) : fK ts n = gv ((h9 ts s t (n + 1)).map (col ts n)) + (if n + 1 = t.length then 1 else 0) /\ nn ts n = (h9 ts s t (n + 1)).length + (if n + 1 = t.length then 1 else 0) + (if n + 1 = s.length then 1 else 0) := by
  obtain ⟨eu, eG⟩ := f.len ay
  have dO : e5 ts (n + 1) = (cl ts (n + 1)).map (col ts n) := rfl
  have ne : s ≠ t := fun e => by rw [e] at eu; omega
  have go : ∀ {x : List Int}, (x = s \/ x = t) -> n + 1 = x.length -> (cl ts (n + 1)).Perm (h9 ts s t (n + 1) ++ [x]) := fun {x} ao aA => by
    refine split_len x (n + 1) (by rcases ao with rfl | rfl; rw [aA]; exact f.sin ay; rw [aA]; exact f.gR) (by rcases ao with rfl | rfl <;> simp) fun c ag D9 => ?_
    have D8 := (fv.mp ag).1
    have fH : c ≠ s := fun e => by subst e; rcases ao with rfl | rfl; exact D9 rfl; omega
    have eH : c ≠ t := fun e => by subst e; rcases ao with rfl | rfl; omega; exact D9 rfl
    simp [fH, eH]
  have cols : ∀ {x : List Int}, (cl ts (n + 1)).Perm (h9 ts s t (n + 1) ++ [x]) -> fK ts n = gv ((h9 ts s t (n + 1)).map (col ts n) ++ [col ts n x]) := fun {x} p => by
    unfold fK
    rw [dO]
    refine GV fun z => ?_
    have := (p.map (col ts n)).mem_iff (a := z)
    rw [List.map_append] at this
    exact this
  by_cases c9 : n + 1 = t.length
  · have cv : ¬ n + 1 = s.length := by omega
    have p := go (.inr rfl) c9
    rw [if_pos c9, if_neg cv, cols p]
    refine ⟨(vn _ _).2 fun z => ?_, by unfold nn; rw [p.length_eq, List.length_append]; rfl⟩
    have aa : s ∈ cl ts n := by rw [show n = s.length by omega]; exact f.sin ay
    have bV := ZD aa
    have ab := sE (k := cP (cl ts n) s) (fun a aB => ?_) z
    · exact RG (iM ts n) (lU (hJ ay f.gR)) f.bB aa ab
    · obtain ⟨c, ag, rfl⟩ := List.mem_map.mp aB
      obtain ⟨a1, a2, eI⟩ := lN.mp ag
      exact RH (iM ts n) (lU (hJ ay a1)) (fun q => eI (f.one c (by rw [show s.length + 1 = n + 1 by omega]; exact a1) q)) aa
  · by_cases cv : n + 1 = s.length
    · have p := go (.inl rfl) cv
      rw [if_neg c9, if_pos cv, cols p]
      refine ⟨(vn _ _).1 ?_, by unfold nn; rw [p.length_eq, List.length_append]; rfl⟩
      have kx := hJ ay f.gR
      have et : ∀ x ∈ cU.bB t, x ∈ cl ts (n + 1) := fun x ao => by
        have := jG ay f.gR ao
        rwa [show t.length - 1 = n + 1 by omega] at this
      have fL := GO (U := cl ts (n + 1)) (V := cl ts n) (sd := cU.bB) (c := cU.bB t) (iM ts n) et (fun x ao => ⟨lU (pY kx ao), fun y aV => jG ay (et x ao) aV⟩) fun y => by
        have z := xZ kx y
        refine (Z8 (· % 2) (?e : _ = cnt y (cU.bB t))).trans ?_
        case e => exact aa5 fun x _ => by simp only [Zf]
        omega
      rw [qE et, XQ ((List.perm_cons_erase f.bB).map _)] at fL
      have fL : col ts n s ^^^ e7 (((cU.bB t).erase s).map (col ts n)) = 0 := fL
      have aj : col ts n s = e7 (((cU.bB t).erase s).map (col ts n)) := by
        have := Z8 (· ^^^ e7 (((cU.bB t).erase s).map (col ts n))) fL
        rwa [l3, aba] at this
      rw [aj]
      refine IX fun a aB => ?_
      obtain ⟨y, aV, rfl⟩ := List.mem_map.mp aB
      have C := (lU kx).mem_erase_iff.mp aV
      exact fY (List.mem_map.mpr ⟨y, lN.mpr ⟨et y C.2, C.1, fun e => by have := (fv.mp (et y C.2)).1; rw [e] at this; omega⟩, rfl⟩)
    · have e : h9 ts s t (n + 1) = cl ts (n + 1) := by
        unfold h9
        rw [List.filter_eq_self]
        intro c ag
        have := (fv.mp ag).1
        have fH : c ≠ s := fun e => by subst e; omega
        have eH : c ≠ t := fun e => by subst e; omega
        simp [fH, eH]
      rw [if_neg c9, if_neg cv, e]
      exact ⟨rfl, rfl⟩
def KS(h:Move ts ts' s t ρ l5)(f:el ts s t)(ay:∀t∈ts,IsCell m t)(s1:∀n,dD ts n+fK ts (n+1)+fK ts n=nn ts n)(s2:∀n,dD ts' n+fK ts' (n+1)+fK ts' n=nn ts' n)(n:Nat):dD ts' n=dD ts n:=by
 obtain⟨eu,eG⟩:=f.len ay;have a1:=s1 n;have a2:=s2 n;obtain⟨b1,b2⟩:=GP f ay n;obtain⟨dt,_⟩:=GP f ay (n+1);rw[<- Ue h f ay]at b1 dt;have fq:nn ts' n=(h9 ts s t (n+1)).length:=by
  have:=(E9 h (n+1)).length_eq;rw[List.length_map]at this;exact this.symm
 rw[<- fq]at b2
 by_cases c9:n+1=t.length
 .have cv:¬n+1=s.length:=(by omega);have fP:¬n+1+1=t.length:=(by omega);rw[if_pos c9]at b1 b2;rw[if_neg cv]at b2;rw[if_neg fP]at dt;omega
 .rw[if_neg c9]at b1 b2
  by_cases cv:n+1=s.length
  .have fP:n+1+1=t.length:=(by omega);rw[if_pos cv]at b2;rw[if_pos fP]at dt;omega
  .have fP:¬n+1+1=t.length:=(by omega);rw[if_neg cv]at b2;rw[if_neg fP]at dt;omega
end
section
variable{m:Int}{ts:List (List Int)}{s t:List Int}
def z1{s o:List Int}(av:cZ ltI o)(aa:s.Sublist o){x:Int}(ao:x∈o)(lH:x∉s):∃e:List Int,e.Sublist o/\s.Sublist e/\e.length=s.length+1/\∀z,z∈e<->z=x\/z∈s:=by
 have hm:∀z,z∈o.filter (λz=>decide (z=x)||decide (z∈s))<->z=x\/z∈s:=λz=>by
  rw[Y9,aaq,Zf,Zf];refine⟨λh=>h.2,λh=>⟨?_,h⟩⟩;rcases h with rfl|h
  .exact ao
  .exact aa.subset h
 have Eu:cZ ltI s:=Zl aa av;have pd:cZ ltI (o.filter λz=>decide (z=x)||decide (z∈s)):=Zl Z5 av;refine⟨_,Z5,nA Eu pd λz hz=>(hm z).mpr (.inr hz),?_,hm⟩;have p:(o.filter λz=>decide (z=x)||decide (z∈s)).Perm (x::s):=sg (ip pd) (Zi.mpr ⟨lH,ip Eu⟩) λz=>by rw[hm,Y0]
 rw[p.length_eq,List.length_cons]
def Il{s o:List Int}(av:cZ ltI o)(aa:s.Sublist o)(aA:s.length+2<=o.length):∃x y,x≠y/\x∈o/\y∈o/\x∉s/\y∉s:=by
 have C:=Cv (ip av) (ip (Zl aa av)) λx ao=>aa.subset ao
 rw[aad]at C;have aD:=(ip av).filter λx=>!decide (x∈s)
 have hm:∀z∈o.filter (λx=>!decide (x∈s)),z∈o/\z∉s:=λz hz=>by
  have:=Y9.mp hz;exact⟨this.1,by simpa using this.2⟩
 generalize o.filter (λx=>!decide (x∈s))=w at C aD hm
 match w,C,aD,hm with
 |x::y::r,_,aD,hm =>
  have a:=hm x List.mem_cons_self;have b:=hm y (List.mem_cons_of_mem _ List.mem_cons_self);exact⟨x,y,λe=>(Zi.mp aD).1 (by rw[e];exact List.mem_cons_self),a.1,b.1,a.2,b.2⟩
 |[_],C,_,_=>simp at C;omega
 |[],C,_,_=>simp at C;omega
def e9(ay:∀t∈ts,IsCell m t){z:List Int}(hz:z∈bN ts):cZ ltI z/\z≠[]/\z∈cl ts z.length:=by
 obtain⟨C,t,J,aC⟩:=ic.mp hz;exact⟨Zl aC (ay t J).2.2,C,fv.mpr ⟨rfl,C,t,J,aC⟩⟩
def iN{n:Nat}{z:List Int}(hz:z∈cl ts n):z∈bN ts:=by
 obtain⟨_,C,J⟩:=fv.mp hz;exact ic.mpr ⟨C,J⟩
def tK{z y:List Int}(hz:z∈bN ts)(aa:y.Sublist z)(aV:y≠[]):y∈bN ts:=by
 obtain⟨_,t,J,aC⟩:=ic.mp hz;exact ic.mpr ⟨aV,t,J,aa.trans aC⟩
def el.sup(h:el ts s t)(ay:∀t∈ts,IsCell m t){o:List Int}(av:o∈bN ts)(aa:s.Sublist o)(ne:s≠o):o=t:=by
 obtain⟨a,_,c⟩:=e9 ay av;obtain⟨_,rC,_⟩:=fv.mp (h.sin ay);have zi:1<=s.length:=by cases s with|nil=>exact absurd rfl rC|cons _ _=>simp
 have bV:s.length<o.length:=te (Zl aa a) a (λx ao=>aa.subset ao) ne;have key:∀e:List Int,e∈bN ts->s.Sublist e->e.length=s.length+1->e=t:=λe he PG aA=>by
  obtain⟨aj,ak,bu⟩:=e9 ay he;rw[aA]at bu;exact h.one e bu ((gh aj).mpr ⟨by omega,aA.symm,PG⟩)
 by_cases aA:o.length=s.length+1
 .exact key o av aa aA
 .exfalso;obtain⟨x,y,IY,ao,aV,lH,ur⟩:=Il a aa (by omega);obtain⟨aj,bb,bL,df,gN⟩:=z1 a aa ao lH;obtain⟨ak,aU,bq,ck,dz⟩:=z1 a aa aV ur;have a8:=key aj (tK av bb (by rintro rfl;simp at df)) bL df;have aR:=key ak (tK av aU (by rintro rfl;simp at ck)) bq ck;have:x∈ak:=(by rw[aR,<- a8];exact(gN x).mpr (.inl rfl));rcases(dz x).mp this with z|z
  .exact IY z
  .exact lH z
def NX(ay:∀t∈ts,IsCell m t)(aa:s∈bN ts)(C:t∈bN ts)(J:s.Sublist t)(aC:s≠t)(h:∀o∈bN ts,s.Sublist o->s≠o->o=t):el ts s t:=by
 obtain⟨a,b,c⟩:=e9 ay C;obtain⟨_,rC,_⟩:=e9 ay aa;have zi:1<=s.length:=by cases s with|nil=>exact absurd rfl rC|cons _ _=>simp
 have bV:s.length<t.length:=te (Zl J a) a (λx ao=>J.subset ao) aC;have aA:t.length=s.length+1:=by
  apply Z4;intro q;obtain⟨x,y,IY,ao,aV,lH,ur⟩:=Il a J (by omega);obtain⟨aj,bb,bL,df,gN⟩:=z1 a J ao lH;have:=h aj (tK C bb (by rintro rfl;simp at df)) bL λe=>by rw[<- e]at df;omega
  rw[this]at df;omega
 refine⟨c,(gh a).mpr ⟨by omega,aA.symm,J⟩,λd hd zl=>?_⟩;obtain⟨_,_,gr⟩:=(gh (hJ ay hd)).mp zl;exact h d (iN hd) gr λe=>by have:=(fv.mp hd).1;rw[<- e]at this;omega
noncomputable abbrev dH:=List Int×List Int
noncomputable def d2(p:dH):D:=.tup [au p.1,au p.2]
noncomputable def jl(p q:dH):Bool:=if p.1=q.1 then lexLt p.2 q.2 else lexLt p.1 q.1
def zK:gT jl:=by
 refine⟨λa=>by simp[jl,pz],λ{a b c} C J=>?_,λa b h=>?_⟩
 .unfold jl at *
  by_cases aj:a.1=b.1
  .by_cases ak:b.1=c.1
   .rw[if_pos aj]at C;rw[if_pos ak]at J;rw[if_pos (aj.trans ak)];exact rZ C J
   .rw[if_neg ak]at J;rw[aj,if_neg ak];exact J
  .rw[if_neg aj]at C
   by_cases ak:b.1=c.1
   .rw[<- ak,if_neg aj];exact C
   .rw[if_neg ak]at J;have:=rZ C J;rw[if_neg]
    .exact this
    .intro z;rw[z,pz]at this;cases this
 .unfold jl
  by_cases aj:a.1=b.1
  .have:a.2≠b.2:=λe=>h (Prod.ext aj e)
   rw[if_pos aj,if_pos aj.symm];exact rY _ _ this
  .rw[if_neg aj,if_neg (Z6 aj)];exact rY _ _ aj
def Rm(p q:dH):iX (d2 p) (d2 q)=some (jl p q):=by
 show jk [au p.1,au p.2] [au q.1,au q.2]=_;show(if f5 (au p.1) (au q.1)=true then jk [au p.2] [au q.2] else iX (au p.1) (au q.1))=_;rw[mB,n8];unfold jl
 by_cases e:p.1=q.1
 .rw[decide_eq_true e,if_pos rfl,if_pos e];show(if f5 (au p.2) (au q.2)=true then some false else iX (au p.2) (au q.2))=_;rw[mB,n8]
  by_cases ak:p.2=q.2
  .rw[decide_eq_true ak,if_pos rfl,ak,pz]
  .rw[decide_eq_false ak,if_neg (by decide)]
 .rw[decide_eq_false e,if_neg (by decide),if_neg e]
def HF{aS:List dH}(aD:∀p∈aS,p.1≠[]/\p.2≠[])(h:aS.length<=63):Den.sorted (aS.map d2)=.ok (.lst ((cR jl aS).map d2)):=by
 have ag:(aS.map d2).all mM=true:=by
  rw[List.all_map,Zp];intro p az;have:=tr (cs:=[p.1,p.2]) λc ag=>by
   rcases Y0.mp ag with rfl|ag
   .exact(aD p az).1
   .rw[Zb.mp ag];exact(aD p az).2
  have this:(mN (au p.1)&&(mN (au p.2)&&true))=true:=this;exact this
 unfold Den.sorted;rw[ag,acH,Bool.true_and,if_pos,kP (lt:=jl) Rm];rw[List.length_map,Zf];exact h
def V0{aS fW:List dH}(az:aS.Nodup)(aL:fW.Nodup)(h:∀z,z∈aS<->z∈fW):cR jl aS=cR jl fW:=j9 zK (ka zK az) (ka zK aL) λz=>by rw[iY,iY,h]
def F2{α:Type}{xs:List α}(aD:xs.Nodup){t:α}(C:t∈xs)(J:∀o∈xs,o=t):xs=[t]:=by
 match xs,aD,C,J with
 |[x],_,C,_=>rw[Zb.mp C]
 |x::y::r,aD,_,J =>
  have a:=J x List.mem_cons_self;have b:=J y (List.mem_cons_of_mem _ List.mem_cons_self);exact absurd (by rw[a,b];exact List.mem_cons_self) (Zi.mp aD).1
def mD(ts:List (List Int)):(bN ts).Nodup:=wL (wK ts)
noncomputable def nU(E:List (List Int)):List dH:=E.filterMap λc=>match E.filter λo=>!decide (c=o)&&lies c o with|[d]=>some (c,d)|_=>none
noncomputable def ec(ts:List (List Int)):List dH:=cR jl (nU (bN ts))
def BD{E:List (List Int)}(jd:E.Nodup)(hm:∀z,z∈E<->z∈bN ts)(ay:∀t∈ts,IsCell m t)(aa:s∈bN ts):E.filter (λo=>!decide (s=o)&&lies s o)=[t]<->el ts s t:=by
 have hm:∀o,o∈E.filter (λo=>!decide (s=o)&&lies s o)<->o∈bN ts/\s≠o/\s.Sublist o:=λo=>by
  rw[Y9,hm,YX,ZM,acp,mQ];constructor
  .rintro⟨a,b,c⟩;exact⟨a,b,nA (e9 ay aa).1 (e9 ay a).1 c⟩
  .rintro⟨a,b,c⟩;exact⟨a,b,λx ao=>c.subset ao⟩
 constructor
 .intro e;rw[e]at hm;obtain⟨a,b,c⟩:=(hm t).mp (by simp);exact NX ay aa a c b λo C J aC=>by simpa using (hm o).mpr ⟨C,aC,J⟩
 .intro h;obtain⟨a,b,c⟩:=(gh (hJ ay h.gR)).mp h.bB;exact F2 (jd.filter _) ((hm t).mpr ⟨iN h.gR,λe=>by rw[e]at b;omega,c⟩) λo av=>h.sup ay ((hm o).mp av).1 ((hm o).mp av).2.2 ((hm o).mp av).2.1
theorem el.bN(h:el ts s t)(ay:∀t∈ts,IsCell m t):s∈bN ts/\t∈cU.bN ts:=⟨iN (h.sin ay),iN h.gR⟩
def zQ{E:List (List Int)}(jd:E.Nodup)(hm:∀z,z∈E<->z∈bN ts)(ay:∀t∈ts,IsCell m t)(p:dH):p∈nU E<->el ts p.1 p.2:=by
 unfold nU;rw[abj];constructor
 .rintro⟨c,ag,e⟩
  split at e
  .rename_i d q;cases e;exact(BD jd hm ay ((hm c).mp ag)).mp q
  .cases e
 .intro h;refine⟨p.1,(hm _).mpr (h.bN ay).1,?_⟩;rw[(BD jd hm ay (h.bN ay).1).mpr h]
def Dw{E:List (List Int)}(jd:E.Nodup):(nU E).Nodup:=by
 unfold nU;rw[Za,List.pairwise_filterMap];refine Z7 (λ{a b} h p az q aL e=>h ?_) (Za.mp jd);have key:∀{c:List Int}{p:dH},(match E.filter λo=>!decide (c=o)&&lies c o with|[d]=>some (c,d)|_=>none)=some p->c=p.1:=λ{c p} z=>by
  split at z
  .cases z;rfl
  .cases z
 rw[key az,key aL,e]
def uQ(ay:∀t∈ts,IsCell m t)(p:dH):p∈ec ts<->el ts p.1 p.2:=by
 unfold ec;rw[iY,zQ (mD ts) (λ_=>Iff.rfl) ay]
def DD(ay:∀t∈ts,IsCell m t){aS:List dH}(aD:aS.Nodup)(h:∀p,p∈aS<->el ts p.1 p.2):cR jl aS=ec ts:=V0 aD (Dw (mD ts)) λz=>by rw[h,zQ (mD ts) (λ_=>Iff.rfl) ay]
end
noncomputable def lf(cs:List (List Int)):List Int:=cR ltI (c1 cs.flatten)
noncomputable def gf(L:List Int)(x:Int):Int:=(cP L x:Nat)
noncomputable def q9(L:List Int)(i:Int):Int:=L.getD i.toNat 0
noncomputable def nb(cs:List (List Int)):List (List Int):=cs.map (List.map (gf (lf cs)))
def jT{cs:List (List Int)}{x:Int}:x∈lf cs<->∃c∈cs,x∈c:=by unfold lf;rw[iY,jS,List.mem_flatten]
def nz(cs:List (List Int)):cZ ltI (lf cs):=ka iW (mZ _)
def E7{A B:List (List Int)}(C:∀a∈A,a∈B)(J:∀b∈B,∃a∈A,∀x∈b,x∈a):lf A=lf B:=j9 iW (nz A) (nz B) λz=>by
 rw[jT,jT];exact⟨λ⟨c,a,b⟩=>⟨c,C c a,b⟩,λ⟨c,a,b⟩=>let ⟨d,e,f⟩:=J c a;⟨d,e,f z b⟩⟩
def Ip{A B:List (List Int)}(kk:∀a∈A,a∈B)(fC:∀b∈B,∃a∈A,∀x∈b,x∈a)(aB:∀b∈B,cZ ltI b):ef A=ef B:=j9 kC (tf A) (tf B) λz=>by
 rw[jn,jn];constructor
 .rintro⟨C,J⟩;refine⟨kk z C,λo av aA aa=>?_⟩;obtain⟨a,aC,aT⟩:=fC o av;have:o.length<=a.length:=hr (ip (aB o av)) aT;exact J a aC (by omega) (mQ.mpr λx ao=>aT x (mQ.mp aa x ao))
 .rintro⟨C,J⟩;refine⟨?_,λo av=>J o (kk o av)⟩;obtain⟨a,aC,aT⟩:=fC z C
  by_cases e:z=a
  .rw[e];exact aC
  .exact absurd (mQ.mpr aT) (J a (kk a aC) (te (aB z C) (aB a (kk a aC)) aT e))
def Ua{L:List Int}{x:Int}(h:x∈L):q9 L (gf L x)=x:=by
 have bV:=uF h;unfold q9 gf;rw[Int.toNat_natCast,List.getD,Y3 bV];exact Z1 bV
def T9{L:List Int}{x:Int}(h:x∈L):0<=gf L x/\gf L x<(L.length:Int):=by
 have:=uF h;unfold gf;omega
def Ub{L:List Int}(er:cZ ltI L){a b:Int}(aB:a∈L)(ab:b∈L)(h:a<b):gf L a<gf L b:=by
 have C:=uF aB;have J:=uF ab;have aj:L[cP L a]=a:=Z1 C;have ak:L[cP L b]=b:=Z1 J;unfold gf;rcases abt (cP L a) (cP L b) with q|q|q
 .omega
 .exfalso;have:L[cP L a]=L[cP L b]:=(by congr 1);omega
 .exfalso;have:=aaC.mp er _ _ J C q;rw[aj,ak]at this;simp[ltI]at this;omega
def Au{L c:List Int}(er:cZ ltI L)(ag:cZ ltI c)(h:∀x∈c,x∈L):cZ ltI (c.map (gf L)):=by
 unfold cZ;rw[Zu];refine Zx (λ{a b} aB ab q=>?_) ag;have q:a<b:=by simpa[ltI] using q
 have:=Ub er (h a aB) (h b ab) q;simpa[ltI] using this
section
variable{m:Int}{ts:List (List Int)}{s t:List Int}
noncomputable def dj(ts:List (List Int))(s t:List Int):List (List Int):=(bN ts).filter λc=>!decide (c=s)&&!decide (c=t)
def g6{z:List Int}:z∈dj ts s t<->z∈bN ts/\z≠s/\z≠t:=by
 unfold dj;rw[Y9];simp
def Hu(aB:cZ ltI t)(aA:1<t.length){x:Int}(ao:x∈t):∃e∈bB t,∀z,z∈e<->z∈t/\z≠x:=by
 have hm:∀z,z∈t.filter (λz=>!decide (z=x))<->z∈t/\z≠x:=λz=>by rw[Y9];simp
 have pd:cZ ltI (t.filter λz=>!decide (z=x)):=Zl Z5 aB;refine⟨_,(gh aB).mpr ⟨aA,?_,Z5⟩,hm⟩;have p:(x::t.filter λz=>!decide (z=x)).Perm t:=sg (Zi.mpr ⟨λz=>((hm x).mp z).2 rfl,ip pd⟩) (ip aB) λz=>by
  rw[Y0,hm];constructor
  .rintro(rfl|h)
   .exact ao
   .exact h.1
  .intro h
   by_cases e:z=x
   .exact .inl e
   .exact .inr ⟨h,e⟩
 have:=p.length_eq;rw[List.length_cons]at this;exact this
def G1(f:el ts s t)(ay:∀t∈ts,IsCell m t):∃e∈bB t,e≠s/\e∈dj ts s t:=by
 obtain⟨eu,eG⟩:=f.len ay;have aB:=hJ ay f.gR;obtain⟨_,_,gr⟩:=(gh aB).mp f.bB;obtain⟨rC,_⟩:=(fv.mp (f.sin ay)).2;cases aa:s with
 |nil=>exact absurd aa rC
 |cons x r =>
  have ao:x∈t:=gr.subset (by rw[aa];exact List.mem_cons_self);obtain⟨e,C,J⟩:=Hu aB eG ao;have Eb:e≠x::r:=λz=>((J x).mp (by rw[z];exact List.mem_cons_self)).2 rfl
  refine⟨e,C,Eb,g6.mpr ⟨iN (jG ay f.gR C),Eb,λz=>?_⟩⟩;have:=((gh aB).mp C).2.1;rw[z]at this;omega
def pT(ay:∀t∈ts,IsCell m t){z:List Int}(hz:z∈dj ts s t):cZ ltI z:=(e9 ay (g6.mp hz).1).1
def Uo(f:el ts s t)(ay:∀t∈ts,IsCell m t){z y:List Int}(hz:z∈dj ts s t)(aa:y.Sublist z)(aV:y≠[]):y∈dj ts s t:=by
 obtain⟨cc,b0,d5⟩:=g6.mp hz;obtain⟨_,_,cH⟩:=(gh (hJ ay f.gR)).mp f.bB;refine g6.mpr ⟨tK cc aa aV,λe=>?_,λe=>?_⟩
 .rw[e]at aa;exact d5 (f.sup ay cc aa (Z6 b0))
 .rw[e]at aa;exact d5 (f.sup ay cc (cH.trans aa) (Z6 b0))
def uV(ay:∀t∈ts,IsCell m t){cs:List (List Int)}(h:∀c∈cs,cZ ltI c/\c≠[]):∀c∈nb cs,IsCell ((lf cs).length:Int) c:=λc ag=>by
 obtain⟨z,hz,rfl⟩:=List.mem_map.mp ag;have et:∀x∈z,x∈lf cs:=λx ao=>jT.mpr ⟨z,hz,ao⟩
 refine⟨λe=>(h z hz).2 (List.map_eq_nil_iff.mp e),λx ao=>?_,Au (nz cs) (h z hz).1 et⟩;obtain⟨y,aV,rfl⟩:=List.mem_map.mp ao;exact T9 (et y aV)
def F0(f:el ts s t)(ay:∀t∈ts,IsCell m t)(c4:m<=6):Net ((lf (dj ts s t)).length:Int) (ef (nb (dj ts s t))):=by
 have ag:=uV ay (cs:=dj ts s t) λc ag=>⟨pT ay ag,(e9 ay (g6.mp ag).1).2.1⟩
 refine FK ?_ ?_ ag (tq.mpr λx x0 aP=>?_)
 .obtain⟨e,_,_,he⟩:=G1 f ay;cases q:e with
  |nil=>exact absurd q (e9 ay (g6.mp he).1).2.1
  |cons y r =>
   have:=aas (jT.mpr ⟨e,he,by rw[q];exact List.mem_cons_self⟩);omega
 .have:(lf (dj ts s t)).length<=(cO m).length:=hr (ip (nz _)) λz hz=>by
   obtain⟨c,C,J⟩:=jT.mp hz;obtain⟨_,u,aC,aT⟩:=ic.mp (g6.mp C).1;exact oe.mpr ((ay u aC).2.1 z (aT.subset J))
  have:=uB c4;omega
 .have bV:x.toNat<(lf (dj ts s t)).length:=(by omega);obtain⟨c,C,J⟩:=jT.mp (List.getElem_mem bV);refine⟨c.map (gf (lf (dj ts s t))),List.mem_map.mpr ⟨c,C,rfl⟩,List.mem_map.mpr ⟨_,J,?_⟩⟩;unfold gf;rw[EO (ip (nz _)) bV];omega
def FZ(f:el ts s t)(ay:∀t∈ts,IsCell m t):Move ts (ef (nb (dj ts s t))) s t (gf (lf (dj ts s t))) (q9 (lf (dj ts s t))):=by
 have ag:=uV ay (cs:=dj ts s t) λc ag=>⟨pT ay ag,(e9 ay (g6.mp ag).1).2.1⟩
 refine⟨λn z hz C J=>?_,λn z hz=>?_⟩
 .have a9:z∈dj ts s t:=g6.mpr ⟨iN hz,C,J⟩;have aD:z.map (gf (lf (dj ts s t)))∈nb (dj ts s t):=List.mem_map.mpr ⟨z,a9,rfl⟩;obtain⟨u,aC,aT⟩:=A4 ag _ _ aD (Nat.le_add_left _ _);have bw:=ag u (jn.mp aC).1;refine⟨fv.mpr ⟨by rw[List.length_map];exact(fv.mp hz).1,(ag _ aD).1,u,aC,nA (ag _ aD).2.2 bw.2.2 aT⟩,?_⟩;rw[List.map_map];exact(Zw λx ao=>Ua (jT.mpr ⟨z,a9,ao⟩)).trans (abR z)
 .obtain⟨C,J,u,aC,aT⟩:=fv.mp hz;obtain⟨c,b6,rfl⟩:=List.mem_map.mp (jn.mp aC).1;obtain⟨y,f6,rfl⟩:=List.sublist_map_iff.mp aT;rw[List.length_map]at C;have aV:y≠[]:=λe=>J (by rw[e];rfl)
  obtain⟨qd,sR,XW⟩:=g6.mp (Uo f ay b6 f6 aV);have:=(e9 ay qd).2.2;rw[C]at this;exact⟨y,this,sR,XW,rfl⟩
def R4(f:el ts s t)(ay:∀t∈ts,IsCell m t):(bN (ef (nb (dj ts s t)))).length<(bN ts).length:=by
 have r6:=FZ f ay;have ag:=uV ay (cs:=dj ts s t) λc ag=>⟨pT ay ag,(e9 ay (g6.mp ag).1).2.1⟩
 have cN:∀c∈ef (nb (dj ts s t)),IsCell ((lf (dj ts s t)).length:Int) c:=λc h=>ag c (jn.mp h).1
 have aa:=(f.bN ay).1;have key:∀z∈bN (ef (nb (dj ts s t))),∃y∈bN ts,y≠s/\z=y.map (gf (lf (dj ts s t)))/\z.map (q9 (lf (dj ts s t)))=y:=λz hz=>by
  obtain⟨y,C,J,aC,aT⟩:=r6.bwd z.length z (e9 cN hz).2.2;exact⟨y,iN C,J,aT,by rw[aT];exact(r6.fwd _ y C J aC).2⟩
 have:=hr (xs:=(bN (ef (nb (dj ts s t)))).map (List.map (q9 (lf (dj ts s t))))) (ys:=(bN ts).erase s) (by
  rw[Za,Zu];refine Zx (λ{a b} aB ab (q:a≠b) e=>q ?_) (Za.mp (mD _));obtain⟨y,_,_,C,J⟩:=key a aB;obtain⟨w,_,_,aC,aT⟩:=key b ab;rw[C,aC,<- J,<- aT,e]) λz hz=>by
   obtain⟨w,hw,rfl⟩:=List.mem_map.mp hz;obtain⟨y,C,J,_,aT⟩:=key w hw;rw[aT];exact(mD ts).mem_erase_iff.mpr ⟨J,C⟩
 rw[List.length_map,abh aa]at this;have:=aas aa;omega
noncomputable def iC(ts:List (List Int))(s t:List Int):List (List Int):=ts.filter (λc=>!decide (c=t))++(bB t).filter λc=>!decide (c=s)
def Ae(aK:Net m ts)(f:el ts s t):∀a∈iC ts s t,a∈dj ts s t:=λa aB=>by
 have ay:=aK.cell;obtain⟨eu,eG⟩:=f.len ay;rcases Zg.mp aB with h|h
 .obtain⟨C,J⟩:=Y9.mp h;have J:a≠t:=(by simpa using J);have gK:a∈bN ts:=ic.mpr ⟨(ay a C).1,a,C,aaJ a⟩;refine g6.mpr ⟨gK,λe=>?_,J⟩;obtain⟨_,_,u,aC,aT⟩:=fv.mp f.gR;have b6:=aT.length_le;rw[aK.top]at C;obtain⟨_,_,cH⟩:=(gh (hJ ay f.gR)).mp f.bB;refine(jn.mp C).2 u aC (by rw[e];omega) (mQ.mpr λx ao=>?_);rw[e]at ao;exact aT.subset (cH.subset ao)
 .obtain⟨C,J⟩:=Y9.mp h;have J:a≠s:=(by simpa using J);refine g6.mpr ⟨iN (jG ay f.gR C),J,λe=>?_⟩;have:=((gh (hJ ay f.gR)).mp C).2.1;rw[e]at this;omega
def Ad(aK:Net m ts)(f:el ts s t):∀b∈dj ts s t,∃a∈iC ts s t,∀x∈b,x∈a:=λb ab=>by
 have ay:=aK.cell;obtain⟨eu,eG⟩:=f.len ay;have kx:=hJ ay f.gR;obtain⟨b1,b2,dt⟩:=g6.mp ab;obtain⟨_,u,aC,aT⟩:=ic.mp b1
 by_cases e:u=t
 .rw[e]at aT;have go:∀x,x∈t->x∉b->(∀e∈bB t,(∀z,z∈e<->z∈t/\z≠x)->e≠s)->∃a∈iC ts s t,∀x∈b,x∈a:=λx ao uq mK=>by
   obtain⟨d,b9,cg⟩:=Hu kx eG ao;refine⟨d,Zc _ (Y9.mpr ⟨b9,by simp[mK d b9 cg]⟩),λz hz=>(cg z).mpr ⟨aT.subset hz,λq=>uq (q▸hz)⟩⟩
  have miss:∀{c:List Int},cZ ltI c->b≠c->(∀z∈b,z∈c)->∃x∈c,x∉b:=λ{c} ag ea gr=>by
   apply Z4;intro q;exact ea (j9 iW (pT ay ab) ag λz=>⟨gr z,λhz=>Z4 λw=>q ⟨z,hz,w⟩⟩)
  obtain⟨x,ao,uq⟩:=miss kx dt λz hz=>aT.subset hz
  by_cases lH:x∈s
  .exact go x ao uq λe _ he q=>((he x).mp (by rw[q];exact lH)).2 rfl
  .-- s is Ie side without x
   have gr:∀z∈b,z∈s:=λz hz=>by
    apply Z4;intro w;have PW:=aT.subset hz;have PH:=(gh kx).mp f.bB;have:(x::z::s).length<=t.length:=hr (Zi.mpr ⟨λq=>(Y0.mp q).elim (λq=>uq (q▸hz)) lH,Zi.mpr ⟨w,ip (pY kx f.bB)⟩⟩) λy aV=>by
     rcases Y0.mp aV with rfl|aV
     .exact ao
     .rcases Y0.mp aV with rfl|aV
      .exact PW
      .exact PH.2.2.subset aV
    simp at this;omega
   obtain⟨y,aV,PU⟩:=miss (pY kx f.bB) b2 gr;exact go y (((gh kx).mp f.bB).2.2.subset aV) PU λe _ he q=>((he y).mp (by rw[q];exact aV)).2 rfl
 .exact⟨u,List.mem_append_left _ (Y9.mpr ⟨aC,by simp[e]⟩),λx ao=>aT.subset ao⟩
def Th(aK:Net m ts)(f:el ts s t):lf (iC ts s t)=lf (dj ts s t)/\ef (nb (iC ts s t))=ef (nb (dj ts s t)):=by
 have e:=E7 (Ae aK f) (Ad aK f);refine⟨e,?_⟩;unfold nb;rw[e];refine Ip (λa aB=>?_) (λb ab=>?_) λb ab=>?_
 .obtain⟨c,ag,rfl⟩:=List.mem_map.mp aB;exact List.mem_map.mpr ⟨c,Ae aK f c ag,rfl⟩
 .obtain⟨c,ag,rfl⟩:=List.mem_map.mp ab;obtain⟨a,C,J⟩:=Ad aK f c ag;refine⟨a.map _,List.mem_map.mpr ⟨a,C,rfl⟩,λx ao=>?_⟩;obtain⟨y,aV,rfl⟩:=List.mem_map.mp ao;exact List.mem_map.mpr ⟨y,J y aV,rfl⟩
 .obtain⟨c,ag,rfl⟩:=List.mem_map.mp ab;exact Au (nz _) (pT aK.cell ag) λx ao=>jT.mpr ⟨c,ag,ao⟩
end
variable{pg:dy}{Φ:dW}
def C8{ρ:aY}(i j:Nat):ev pg Φ ρ (.kD i j)=pA ρ[i]? ρ[j]?:=a5 rfl
def MN{ρ:aY}(i j:Nat):ev pg Φ ρ (.nK i j)=oV ρ[i]? ρ[j]?:=a5 rfl
def M8{ρ:aY}(i:Nat):ex pg Φ ρ (.nN i)=.ok (.bJ (ρ.set i (some (.cG [])))):=a5 rfl
def Ng{ρ:aY}(i:Nat)(e:E):ex pg Φ ρ (.pS i e)=tl ρ[i]?>>=λ_=>ev pg Φ ρ e>>=λd=>.ok (.dE d):=a5 rfl
def KC(af:List (List Int×List (List Int))):tl (some (some (.cG af)))=.ok ():=a5 rfl
def Nh{ρ:aY}(i:Nat)(e:E):ex pg Φ ρ (.oy i e)=ev pg Φ ρ e>>=λd=>sz ρ[i]? d>>=λx=>.ok (.bJ (ρ.set i (some x))):=a5 rfl
def Nc{ρ:aY}(i:Nat):ex pg Φ ρ (.pop i)=vd ρ[i]?>>=λx=>.ok (.bJ (ρ.set i (some x))):=a5 rfl
def yf{ρ:aY}(c:E)(b:B):ex pg Φ ρ (.l2 c b)=jv (λbC=>ev pg Φ bC c>>=λx=>eE x) (λbC=>eF pg Φ bC b) 200 ρ:=a5 rfl
def Ra(c o:List Int):c6 pg Φ ⟨2,0,bc.xh⟩ [au c,au o]=.ok (.aO (lies c o)):=by
 have aj:da (elem pg Φ [some (au c),some (au o)] (.cmp .mem (.var 2) (.var 1)) 0 .none) (c.map .int)=.ok (c.map λx=>.aO (decide (x∈o))):=KX λx _=>by
  simp only[Den.a0,Nat.reduceAdd];unfold au;simp only[Den.a0,Nat.reduceAdd,Fv]
 simp only[Den.a0,Nat.reduceAdd,bc.xh,ox,aj,Jp,lies]
def Rb{f:Nat}(hf:∀c o:List Int,Φ f [au c,au o]=.ok (.aO (lies c o)))(c:List Int)(os:List (List Int)):c6 pg Φ ⟨2,0,bc.xi f⟩ [au c,.lst (os.map au)]=.ok (.aO (os.any (lies c))):=by
 have aj:da (elem pg Φ [some (au c),some (.lst (os.map au))] (.call f (.cons (.var 0) (.cons (.var 2) .nil))) 0 .none) (os.map au)=.ok (os.map λo=>.aO (lies c o)):=i9 λo _=>by simp only[Den.a0,Nat.reduceAdd,hf]
 simp only[Den.a0,Nat.reduceAdd,bc.xi,aj,Jw]
def Xs{f:Nat}(hf:∀(c:List Int)(os:List (List Int)),Φ f [au c,.lst (os.map au)]=.ok (.aO (os.any (lies c)))){cs:List (List Int)}(aD:∀c∈cs,c≠[])(DQ:(c1 cs).length<=63):
  c6 pg Φ ⟨1,4,bc.xt f⟩ [.lst (cs.map au)]=.ok (.tup ((ef cs).map au)):=by
 simp only[Den.a0,Nat.reduceAdd,bc.xt,vC aD DQ];have hlen:(cR lexLt (c1 cs)).length<=63:=by rw[mP];exact DQ
 unfold ef;generalize cR lexLt (c1 cs)=ds at *;generalize D.lst (cs.map au)=d;obtain⟨bC,e,x,y,he⟩:=gG (f:=au) (g:=turn pg Φ 0 [3] (.cons (.asg 4 (.comp (.var 5) 0 (.seq (.var 1)) (.some (.cmp .gt (.prim .len (.var 5)) (.prim .len (.var 3)))))) (.cons (.iff (.not (.call f (.cons (.var 3) (.cons (.var 4) .nil)))) (.cons (.app 2 (.var 3)) .nil) .nil) .nil)))
  (λaS ρ=>∃(x y:Option D),ρ=[some d,some (.lst (ds.map au)),some (.lst ((aS.filter λc=>!(ds.filter λo=>decide (c.length<o.length)).any (lies c)).map au)),x,y])
  ds [some d,some (.lst (ds.map au)),some (.lst []),none,none] ⟨none,none,rfl⟩ (λpre c post ρ az ⟨x,y,b4⟩=>by
   subst b4;have eb:pre.length+1<=ds.length:=(by rw[az];simp);have aj:∀z,da (elem pg Φ [some d,some (.lst (ds.map au)),z,some (au c),y] (.var 5) 0 (.some (.cmp .gt (.prim .len (.var 5)) (.prim .len (.var 3))))) (ds.map au)=.ok ((ds.filter λo=>decide (c.length<o.length)).map au):=λz=>jH λo _=>by
    simp only[Den.a0,Nat.reduceAdd,px]
    by_cases q:c.length<o.length
    .have dq:(c.length:Int)<(o.length:Int):=(by omega);simp only[decide_eq_true q,decide_eq_true dq,ZH]
    .have dq:¬(c.length:Int)<(o.length:Int):=(by omega);simp only[decide_eq_false q,decide_eq_false dq,Y1,Zk]
   have rn:=Zt (λc:List Int=>!(ds.filter λo=>decide (c.length<o.length)).any (lies c)) pre;cases q:(ds.filter λo=>decide (c.length<o.length)).any (lies c) with
   |true =>
    refine⟨_,by simp only[Den.a0,Nat.reduceAdd,aj,hf,q];rfl,some (au c),_,by rw[Dq pre (by rw[q];rfl)]⟩
   |false =>
    have b6:=tc ((pre.filter λc=>!(ds.filter λo=>decide (c.length<o.length)).any (lies c)).map au) (au c) (by rw[List.length_map,gA];omega);refine⟨_,by simp only[Den.a0,Nat.reduceAdd,aj,hf,q,b6];rfl,some (au c),_,by rw[Dr pre (by rw[q];rfl),List.map_append];rfl⟩)
 rw[e,he];simp only[Den.a0,Nat.reduceAdd]
def Nm(xs ys:List D):o1 (some (some (.lst xs))) (.tup ys)=if xs.length+ys.length<=SZ then .ok (.lst (xs++ys)) else .bad:=a5 rfl
def Fe{L:List Int}(aA:L.length<=1000){x:Int}(h:x∈L):pA (some (some (.lst (L.map .int)))) (some (some (.int x)))=.ok (.int (gf L x)):=by
 show(match intsOf (L.map .int),some x with
  |some ar,some k=>if k∈ar/\ar.length<=1000 then R.ok (D.int (ar.idxOf k:Nat)) else .bad
  |_,_=>.bad)=_
 rw[zw];dsimp only;rw[if_pos ⟨h,aA⟩];rfl
def Dt{cs:List (List Int)}(c4:∀c∈cs,c.length<=8)(aA:cs.length<=1000):cs.flatten.length<=8000:=by
 have:=Du c4;omega
def FY{cs:List (List Int)}{ρ:aY}{e:E}(aA:(lf cs).length<=63)(h:∀c∈cs,∀x∈c,elem pg Φ (ρ++[some (au c)]) e 0 .none (.int x)=.ok (some (.int (gf (lf cs) x)))):da (elem pg Φ ρ (.tupI (.seq (.comp e 0 (.seq (.var ρ.length)) .none))) 0 .none) (cs.map au)=.ok ((nb cs).map au):=by
 have:(nb cs).map au=cs.map λc=>au (c.map (gf (lf cs))):=by unfold nb;rw[List.map_map];rfl
 rw[this];refine i9 λc ag=>?_
 have aj:da (elem pg Φ (ρ++[some (au c)]) e 0 .none) (c.map .int)=.ok (c.map λx=>D.int (gf (lf cs) x)):=i9 (h c ag);have ak:ev pg Φ (ρ++[some (au c)]) (.var ρ.length)=.ok (au c):=tI _ (by rw[Zr (Y2 _),acG];rfl);have bu:D.tup (c.map λx=>D.int (gf (lf cs) x))=au (c.map (gf (lf cs))):=by unfold au;rw[List.map_map];rfl
 rw[mz,C2];simp only[R.iB,ZH,ye,tG,C5,ak,ox,aj,uX,Hk,bu]
def RX{f:Nat}(hf:∀cs:List (List Int),(∀c∈cs,c≠[])->(c1 cs).length<=63->Φ f [.lst (cs.map au)]=.ok (.tup ((ef cs).map au))){cs:List (List Int)}(ea:cs≠[])(ag:∀c∈cs,c≠[])(c4:∀c∈cs,c.length<=8)(aA:cs.length<=63+63)(C:(lf cs).length<=63)(J:(c1 (nb cs)).length<=63):
  c6 pg Φ ⟨1,3,bc.xl f⟩ [.lst (cs.map au)]=.ok (bk (lf cs).length (ef (nb cs))):=by
 have hz:((cs.length:Int)==0)=false:=Zs.mpr (by have:=List.length_pos_iff.mpr ea;omega);have ab:=Dt c4 (by omega);simp only[Den.a0,Nat.reduceAdd,bc.xl,List.length_map,hz];obtain⟨bC,e,x,he⟩:=gG (f:=au) (g:=turn pg Φ 0 [2] (.cons (.ext 1 (.var 2)) (.nil)))
  (λaS ρ=>∃(x:Option D),ρ=[some (.lst (cs.map au)),some (.lst (aS.flatten.map .int)),x,none])
  cs [some (.lst (cs.map au)),some (.lst []),none,none] ⟨none,rfl⟩ (λpre c post ρ az ⟨x,b4⟩=>by
   subst b4;have hlen:(pre.flatten.map D.int).length+(c.map D.int).length<=SZ:=by
    have:pre.flatten.length+c.length<=cs.flatten.length:=(by rw[az];simp);rw[List.length_map,List.length_map,gA];omega
   have he:o1 (some (some (.lst (pre.flatten.map .int)))) (au c)=.ok (.lst ((pre++[c]).flatten.map .int)):=by
    unfold au;rw[Nm,if_pos hlen,<- List.map_append];simp
   refine⟨_,by simp only[Den.a0,Nat.reduceAdd,De,he],some (au c),rfl⟩)
 have hd:(c1 cs.flatten).length<=63:=by unfold lf at C;rw[mP]at C;exact C
 have aa:eZ (cs.flatten.map .int)=.ok (.lst ((lf cs).map .int)):=HJ hd;have aD:∀c∈nb cs,c≠[]:=λc cN=>by
  obtain⟨z,hz,rfl⟩:=List.mem_map.mp cN;exact λq=>ag z hz (List.map_eq_nil_iff.mp q)
 have ak:=FY (pg:=pg) (Φ:=Φ) (cs:=cs) (ρ:=[some (.lst (cs.map au)),some (.lst (cs.flatten.map .int)),x,some (.lst ((lf cs).map .int))]) (e:=.kD 3 5) C λc cN y aV=>by
  rw[aag,aag,aag,aag,List.nil_append,mz];simp only[Den.a0,Nat.reduceAdd,C8,Fe (by omega:(lf cs).length<=1000) (jT.mpr ⟨c,cN,aV⟩)]
 have ak:da (elem pg Φ [some (.lst (cs.map au)),some (.lst (cs.flatten.map .int)),x,some (.lst ((lf cs).map .int))] (.tupI (.seq (.comp (.kD 3 5) 0 (.seq (.var 4)) .none))) 0 .none) (cs.map au)=.ok ((nb cs).map au):=ak;rw[e,he];simp only[Den.a0,Nat.reduceAdd,aa,List.length_map,ak,hf _ aD J];rfl
def P8(p:dH):fF (d2 p) (.int 0)=.ok (au p.1):=rfl
def EE(p:dH):fF (d2 p) (.int 1)=.ok (au p.2):=rfl
def FI{ρ:aY}(cs:List (List Int))(c:List Int){e:E}{i:Nat}(ai:ρ.length=i)(h:∀z,ev pg Φ (ρ++[some z]) e=.ok (au c)):da (elem pg Φ ρ (.var i) 0 (.some (.cmp .ne (.var i) e))) (cs.map au)=.ok ((cs.filter λz=>!decide (z=c)).map au):=jH λz _=>by
 have aj:ev pg Φ (ρ++[some (au z)]) (.var i)=.ok (au z):=tI _ (by rw[Zr (by omega),<- ai,acG];rfl);rw[mz,C3,C4,aj,h];simp only[R.iB,xX,tF,FV,BO];cases decide (z=c)<;>rfl
def XI{fn bA:Nat}{m:Int}{ts:List (List Int)}{p:dH}(aa:Φ bA [au p.2]=.ok (.lst ((bB p.2).map au))){d:D}(aD:Φ fn [.lst ((iC ts p.1 p.2).map au)]=.ok d)(aA:ts.length<=63)(J:p.2.length<=8):c6 pg Φ ⟨2,1,bc.xu fn bA⟩ [bk m ts,d2 p]=.ok d:=by
 have ai:fF (bk m ts) (.int 1)=.ok (.tup (ts.map au)):=rfl;have aj:=FI (pg:=pg) (Φ:=Φ) (ρ:=[some (bk m ts),some (d2 p),none]) ts p.2 (e:=.idx (.var 1) (.lit (.int 1))) (i:=3) rfl λz=>by simp only[Den.a0,Nat.reduceAdd,EE]
 have ak:=FI (pg:=pg) (Φ:=Φ) (ρ:=[some (bk m ts),some (d2 p),some (.lst ((ts.filter λz=>!decide (z=p.2)).map au))]) (bB p.2) p.1 (e:=.idx (.var 1) (.lit (.int 0))) (i:=3) rfl λz=>by simp only[Den.a0,Nat.reduceAdd,P8]
 have aB:ep .add (.lst ((ts.filter λz=>!decide (z=p.2)).map au)) (.lst (((bB p.2).filter λz=>!decide (z=p.1)).map au))=.ok (.lst ((iC ts p.1 p.2).map au)):=by
  have eu:=Zt (λz=>!decide (z=p.2)) ts;have eG:=Zt (λz=>!decide (z=p.1)) (bB p.2);have n5:(bB p.2).length<=p.2.length:=(by unfold bB;split<;>simp);rw[mj,if_pos (by rw[List.length_map,List.length_map,gA];omega),<- List.map_append];rfl
 simp only[Den.a0,Nat.reduceAdd,bc.xu,ai,aj,EE,aa,ak,aB,aD]
noncomputable abbrev jB:=List (List Int×List (List Int))
structure qg(af:jB)(aS:List dH):Prop where
 dP:(af.map (·.1)).Nodup
 ae:∀q∈af,q.2=(aS.filter λp=>decide (p.1=q.1)).map (·.2)
 ms:∀k,k∈af.map (·.1)<->k∈aS.map (·.1)
def IF{af:jB}{k:List Int}(h:k∉af.map (·.1)):hA af k=none:=by
 unfold hA;rw[List.find?_eq_none.mpr]
 .rfl
 .intro p az z;exact h (List.mem_map.mpr ⟨p,az,ZQ z⟩)
def Bd{af:jB}(aD:(af.map (·.1)).Nodup){q:List Int×List (List Int)}(h:q∈af):hA af q.1=some q.2:=by
 induction af with
 |nil=>cases h
 |cons p af aE =>
  obtain⟨fH,eH⟩:=Zi.mp aD;unfold hA;rw[List.find?_cons];rcases Y0.mp h with rfl|h
  .rw[decide_eq_true rfl];rfl
  .rw[decide_eq_false λe=>fH (List.mem_map.mpr ⟨q,h,e.symm⟩)];exact aE eH h
def Ji{af:jB}{aS:List dH}(t:qg af aS)(k c:List Int):qg (m4 af k ((hA af k).getD []++[c])) (aS++[(k,c)]):=by
 have eX:∀z:List Int,((aS++[(k,c)]).filter λp=>decide (p.1=z)).map (·.2)=(aS.filter λp=>decide (p.1=z)).map (·.2)++if k=z then [c] else []:=λz=>by
  rw[abl,List.map_append];congr 1
  by_cases q:k=z
  .simp[q]
  .simp[q]
 unfold m4
 by_cases h:k∈af.map (·.1)
 .obtain⟨p,az,e⟩:=List.mem_map.mp h;have aN:=Bd t.dP az;rw[e]at aN;rw[if_pos (abc.mpr ⟨p,az,decide_eq_true e⟩),aN];have aj:((af.map λfb=>if fb.1=k then(fb.1,(some p.2).getD []++[c]) else fb).map (·.1))=af.map (·.1):=by
   rw[List.map_map];refine Zw λp _=>?_
   simp only[Function.comp]
   split<;>rfl
  refine⟨by rw[aj];exact t.dP,λq aL=>?_,λz=>?_⟩
  .obtain⟨o,av,rfl⟩:=List.mem_map.mp aL
   by_cases w:o.1=k
   .rw[if_pos w,eX,if_pos w.symm];have:=t.ae p az;rw[e]at this;show p.2++[c]=_;rw[this,w]
   .rw[if_neg w,eX,if_neg λz=>w z.symm,aaa];exact t.ae o av
  .rw[aj,t.ms,List.map_append,Zg];refine⟨.inl,λw=>w.elim id λw=>?_⟩;rw[abk,Zb]at w;rw[w];exact(t.ms k).mp h
 .have:¬(af.any λp=>decide (p.1=k))=true:=λz=>by
   obtain⟨p,az,e⟩:=abc.mp z;exact h (List.mem_map.mpr ⟨p,az,ZQ e⟩)
  rw[if_neg this,IF h];have ax:k∉aS.map (·.1):=λz=>h ((t.ms k).mpr z)
  refine⟨?_,λq aL=>?_,λz=>?_⟩
  .rw[List.map_append];refine aak.mpr ⟨t.dP,by simp,λx ao y aV e=>?_⟩;rw[abk,Zb]at aV;subst e;subst aV;exact h ao
  .rw[eX];rcases Zg.mp aL with aL|aL
   .rw[if_neg λe=>h (List.mem_map.mpr ⟨q,aL,e.symm⟩),aaa];exact t.ae q aL
   .rw[Zb.mp aL,if_pos rfl];have:aS.filter (λp=>decide (p.1=k))=[]:=List.filter_eq_nil_iff.mpr λp az w=>ax (List.mem_map.mpr ⟨p,az,ZQ w⟩)
    show []++[c]=_;rw[this];rfl
  .rw[List.map_append,List.map_append,Zg,Zg,t.ms];rfl
def Kw(cs:List (List Int)):oT (fQ cs)=some cs:=by
 show oG (cs.map au)=some cs
 induction cs with
 |nil=>rfl
 |cons c cs aE=>rw[List.map_cons,oG,oF,aE]
def LZ(af:jB)(k:List Int):oV (some (some (.cG af))) (some (some (au k)))=.ok (fQ ((hA af k).getD [])):=by
 show(match some af,fZ (au k) with
  |some af,some k=>R.ok (fQ ((hA af k).getD []))
  |_,_=>.bad)=_
 rw[oF]
def Mb{af:jB}{k:List Int}{cs:List (List Int)}(h:af.length<1000):nP (some (some (.cG af))) (some (some (au k))) (fQ cs)=.ok (.cG (m4 af k cs)):=by
 show(match some af,fZ (au k),oT (fQ cs) with
  |some af,some k,some cs=>if af.length<1000 then R.ok (D.cG (m4 af k cs)) else .bad
  |_,_,_=>.bad)=_
 rw[oF,Kw];exact if_pos h
def L0{af:jB}{k:List Int}{cs:List (List Int)}(h:hA af k=some cs):kf (some (some (.cG af))) (some (some (au k)))=.ok (fQ cs):=by
 show(match some af,fZ (au k) with
  |some af,some k=>(match hA af k with|some cs=>R.ok (fQ cs)|none=>.bad)
  |_,_=>.bad)=_
 rw[oF];dsimp only;rw[h]
def L4(af:jB):nL (some (some (.cG af)))=.ok (af.map λq=>au q.1):=a5 rfl
noncomputable def fw(cs:List (List Int)):List dH:=cs.flatMap λc=>(bB c).map λk=>(k,c)
def Jk(as bs:List (List Int))(h:as.length+bs.length<=1000):ep .add (fQ as) (fQ bs)=.ok (fQ (as++bs)):=by
 unfold fQ;rw[qx,if_pos (by rw[List.length_map,List.length_map,gA];omega),List.map_append]
def tT{eW bA:Nat}{m:Int}{ts:List (List Int)}(ay:∀t∈ts,IsCell m t)(c4:m<=6)(he:Φ eW [bk m ts]=.ok (.lst ((bN ts).map au)))(aa:∀c:List Int,c.length<=1000->Φ bA [au c]=.ok (.lst ((bB c).map au))):
  c6 pg Φ ⟨1,3,bc.wZ eW bA⟩ [bk m ts]=.ok (.tup ((ec ts).map d2)):=by
 have gK:=oZ c4 ay;simp only[Den.a0,Nat.reduceAdd,bc.wZ,M8,he];have short:∀{af:jB}{aS:List dH},qg af aS->(∀p∈aS,p.1∈bN ts)->af.length<=63:=λt h=>by
  have:=hr t.dP (ys:=bN ts) λz hz=>by
   obtain⟨p,az,rfl⟩:=List.mem_map.mp ((t.ms z).mp hz);exact h p az
  rw[List.length_map]at this;omega
 have sin:∀{c k:List Int},c∈bN ts->k∈bB c->k∈bN ts:=λ{c k} ag ax=>iN (jG ay (e9 ay ag).2.2 ax);have pin:∀{cs:List (List Int)},(∀c∈cs,c∈bN ts)->∀p∈fw cs,p.1∈bN ts/\p.2∈cs/\p.1∈bB p.2:=λ{cs} h p az=>by
  obtain⟨c,C,J⟩:=aay.mp az;obtain⟨k,aC,rfl⟩:=List.mem_map.mp J;exact⟨sin (h c C) aC,C,aC⟩
 obtain⟨bC,e,af,x,y,gb,iL⟩:=gG (f:=au) (g:=turn pg Φ 0 [2] (.cons (.fi 0 [3] (.seq (.call bA (.cons (.var 2) (.nil)))) (.cons (.ir 1 3 (.bin .add (.nK 1 3) (.tup (.cons (.var 2) (.nil))))) (.nil))) (.nil)))
  (λaS ρ=>∃(af:jB)(x y:Option D),ρ=[some (bk m ts),some (.cG af),x,y]/\qg af (fw aS))
  (bN ts) [some (bk m ts),some (.cG []),none,none] ⟨[],none,none,rfl,⟨aaQ,λ_ h=>by simp at h,λ_=>by simp[fw]⟩⟩ (λpre c post ρ az ⟨af,x,y,b4,iL⟩=>by
   subst b4;have rj:c∈bN ts:=(by rw[az];simp);have zf:∀z∈pre,z∈bN ts:=λz hz=>by rw[az];simp[hz]
   have O5:c.length<=1000:=by
    obtain⟨_,u,aC,aT⟩:=ic.mp rj;have:=aT.length_le;have:=nF (ay u aC);omega
   have eb:pre.length+1<=(bN ts).length:=(by rw[az];simp);obtain⟨bC,e,YH,v9,gb,Jh⟩:=gG (f:=au) (g:=turn pg Φ 0 [3] (.cons (.ir 1 3 (.bin .add (.nK 1 3) (.tup (.cons (.var 2) (.nil))))) (.nil)))
    (λaS ρ=>∃(af:jB)(y:Option D),ρ=[some (bk m ts),some (.cG af),some (au c),y]/\qg af (fw pre++aS.map λk=>(k,c)))
    (bB c) [some (bk m ts),some (.cG af),some (au c),y] ⟨af,y,rfl,by rw[aaU,aaa];exact iL⟩ (λpr k po ρ aL ⟨af,y,b4,iL⟩=>by
     subst b4;have O3:∀z∈pr,z∈bB c:=λz hz=>by rw[aL];simp[hz]
     have aA:af.length<1000:=by
      have:=short iL λp n3=>by
       rcases Zg.mp n3 with w|w
       .exact(pin zf p w).1
       .obtain⟨z,hz,rfl⟩:=List.mem_map.mp w;exact sin rj (O3 z hz)
      omega
     have aN:((hA af k).getD []).length<=63:=by
      by_cases w:k∈af.map (·.1)
      .obtain⟨q,lE,e⟩:=List.mem_map.mp w;have C:=Bd iL.dP lE;rw[e]at C;rw[C];show q.2.length<=63;have:q.2.Nodup:=by
        rw[iL.ae q lE,Za,Zu];have dP:(fw pre++pr.map λk=>(k,c)).Nodup:=by
         have full:(fw (pre++[c])).Nodup:=by
          have:(fw (bN ts)).Nodup:=by
           unfold fw;rw[Za,List.pairwise_flatMap];refine⟨λa aB=>?_,Z7 (λ{a b} mG p az q aL e=>?_) (Za.mp (mD ts))⟩
           .rw[Zu];exact Z7 (λ{u v} w z=>w (Prod.mk.inj z).1) (Za.mp (lU (e9 ay aB).1))
           .obtain⟨u,_,rfl⟩:=List.mem_map.mp az;obtain⟨v,_,rfl⟩:=List.mem_map.mp aL;exact mG (Prod.mk.inj e).2
          rw[az]at this;have e:fw (pre++c::post)=fw (pre++[c])++fw post:=(by unfold fw;simp);rw[e]at this;exact(aak.mp this).1
         have e:fw (pre++[c])=fw pre++(pr.map λk=>(k,c))++(k::po).map λk=>(k,c):=by
          have dO:fw (pre++[c])=fw pre++(bB c).map λk=>(k,c):=by unfold fw;simp
          rw[dO,aL,List.map_append,aaH]
         rw[e]at full;exact(aak.mp full).1
        refine Zx (λ{a b} aB ab w z=>w (Prod.ext ?_ z)) (Za.mp (dP.filter _));rw[ZQ (Y9.mp aB).2,ZQ (Y9.mp ab).2]
       have:=hr this (ys:=bN ts) λz hz=>by
        rw[iL.ae q lE]at hz;obtain⟨p,n3,rfl⟩:=List.mem_map.mp hz;rcases Zg.mp (Y9.mp n3).1 with w|w
        .exact zf _ (pin zf p w).2.1
        .obtain⟨z,_,rfl⟩:=List.mem_map.mp w;exact rj
       omega
      .rw[IF w];exact Zo _
     have o9:D.tup [au c]=fQ [c]:=rfl;refine⟨_,by simp only[Den.a0,Nat.reduceAdd,tM,MN,LZ,o9,Jk _ _ (show((hA af k).getD []).length+[c].length<=1000 by simp;omega),Mb aA];rfl,_,_,rfl,?_⟩;rw[List.map_append,<- aaH];exact Ji iL k c)
   refine⟨_,by simp only[Den.a0,Nat.reduceAdd,aa c O5,e,gb];rfl,_,_,_,rfl,?_⟩;have:fw (pre++[c])=fw pre++(bB c).map λk=>(k,c):=by unfold fw;simp
   rw[this];exact Jh)
 rw[e,gb];have um:∀q∈af,q.2=(bN ts).filter λc=>decide (q.1∈bB c):=λq aL=>by
  rw[iL.ae q aL];have key:∀cs:List (List Int),(∀c∈cs,c∈bN ts)->((fw cs).filter λp=>decide (p.1=q.1)).map (·.2)=cs.filter λc=>decide (q.1∈bB c):=λcs=>by
   induction cs with
   |nil=>intro _;rfl
   |cons c cs aE =>
    intro h3;have aE:=aE λz hz=>h3 z (List.mem_cons_of_mem _ hz)
    have aj:fw (c::cs)=((bB c).map λk=>(k,c))++fw cs:=(by unfold fw;rw[List.flatMap_cons]);rw[aj,abl,List.map_append,aE,List.filter_cons];have ak:(((bB c).map λk=>(k,c)).filter λp:dH=>decide (p.1=q.1)).map (·.2)=if q.1∈bB c then [c] else []:=by
     have aD:=lU (e9 ay (h3 c List.mem_cons_self)).1;generalize bB c=L at aD
     induction L with
     |nil=>simp
     |cons k L rL =>
      obtain⟨fH,eH⟩:=Zi.mp aD;have rL:=rL eH;rw[List.map_cons,List.filter_cons]
      by_cases w:k=q.1
      .have:q.1∉L:=w▸fH;rw[if_neg this]at rL;simp only[w,acb,ZH,List.map_cons,rL,Y0,true_or]
      .have dQ:¬q.1=k:=λz=>w z.symm
       simp only[w,decide_false,Y1,Zk,rL,Y0,dQ,false_or]
    rw[ak]
    by_cases w:q.1∈bB c
    .rw[if_pos w,decide_eq_true w,if_pos rfl];rfl
    .rw[if_neg w,decide_eq_false w,if_neg (by decide)];rfl
  exact key (bN ts) λ_ h=>h
 have hlen:af.length<=63:=short iL λp az=>(pin (λ_ h=>h) p az).1
 have aj:da (elem pg Φ [some (bk m ts),some (.cG af),x,y] (.tup (.cons (.var 4) (.cons (.idx (.gZ 1 4) (.lit (.int 0))) (.nil)))) 0 (.some (.cmp .eq (.prim .len (.gZ 1 4)) (.lit (.int 1))))) (af.map λq=>au q.1)=.ok ((af.filter λq=>decide (q.2.length=1)).map λq=>d2 (q.1,q.2.headD [])):=jH λq aL=>by
  have a4:=L0 (Bd iL.dP aL);have aA:kB (fQ q.2)=.ok (.int (q.2.length:Int)):=(by unfold fQ;rw[uL,List.length_map]);rw[mz]
  by_cases w:q.2.length=1
  .have dQ:((q.2.length:Int)==1)=true:=(by rw[w];rfl);obtain⟨d,hd⟩:=aa0.mp w;have ai:fF (fQ q.2) (.int 0)=.ok (au (q.2.headD [])):=(by rw[hd];rfl);simp only[Den.a0,Nat.reduceAdd,nS,a4,aA,dQ,ai,decide_eq_true w];rfl
  .have dQ:((q.2.length:Int)==1)=false:=Zs.mpr (by omega);simp only[Den.a0,Nat.reduceAdd,nS,a4,aA,dQ,decide_eq_false w]
 have ak:((af.filter λq=>decide (q.2.length=1)).map λq=>d2 (q.1,q.2.headD []))=((af.filter λq=>decide (q.2.length=1)).map λq=>((q.1,q.2.headD []):dH)).map d2:=by rw[List.map_map];rfl
 have ue:∀p:dH,(p∈(af.filter λq=>decide (q.2.length=1)).map λq=>((q.1,q.2.headD []):dH))<->el ts p.1 p.2:=λp=>by
  rw[List.mem_map];constructor
  .rintro⟨q,aL,rfl⟩;obtain⟨C,J⟩:=Y9.mp aL;obtain⟨d,hd⟩:=aa0.mp (ZQ J);have aN:=um q C;rw[hd]at aN ⊢;have hm:∀o,o∈bN ts/\q.1∈bB o<->o=d:=λo=>by
    have:o∈(bN ts).filter (λc=>decide (q.1∈bB c))<->o=d:=(by rw[<- aN];simp);rw[<- this,Y9,Zf]
   obtain⟨a,b⟩:=(hm d).mpr rfl;exact⟨(e9 ay a).2.2,b,λo av PK=>(hm o).mp ⟨iN av,PK⟩⟩
  .intro f;have ax:p.1∈af.map (·.1):=(iL.ms p.1).mpr (List.mem_map.mpr ⟨(p.1,p.2),aay.mpr ⟨p.2,iN f.gR,List.mem_map.mpr ⟨p.1,f.bB,rfl⟩⟩,rfl⟩);obtain⟨q,aL,e⟩:=List.mem_map.mp ax;have aN:=um q aL;rw[e]at aN;have C:q.2=[p.2]:=by
    rw[aN];refine F2 ((mD ts).filter _) (Y9.mpr ⟨iN f.gR,decide_eq_true f.bB⟩) λo av=>?_
    obtain⟨kH,fj⟩:=Y9.mp av;have fj:=ZQ fj;have:=(e9 ay kH).2.2;rw[<- ((gh (e9 ay kH).1).mp fj).2.1]at this;exact f.one o this fj
   refine⟨q,Y9.mpr ⟨aL,by rw[C];rfl⟩,?_⟩;rw[C,e];rfl
 have lD:((af.filter λq=>decide (q.2.length=1)).map λq=>((q.1,q.2.headD []):dH)).Nodup:=by
  rw[Za,Zu];have:=Za.mp iL.dP;rw[Zu]at this;exact Zl Z5 (Z7 (λw z=>w (Prod.mk.inj z).1) this)
 have ea:∀p∈(af.filter λq=>decide (q.2.length=1)).map λq=>((q.1,q.2.headD []):dH),p.1≠[]/\p.2≠[]:=λp az=>by
  have f:=(ue p).mp az;exact⟨(e9 ay (f.bN ay).1).2.1,(e9 ay (f.bN ay).2).2.1⟩
 have rn:((af.filter λq=>decide (q.2.length=1)).map λq=>((q.1,q.2.headD []):dH)).length<=63:=by
  have:=Zt (λq:List Int×List (List Int)=>decide (q.2.length=1)) af;rw[List.length_map];omega
 simp only[Den.a0,Nat.reduceAdd,Ng,KC,q2,L4,aj,ak,HF ea rn,DD ay lD ue]
def RO{q8 bI bA:Nat}(ay:∀cs:List (List Int),(∀c∈cs,c≠[])->(c1 cs).length<=63->Φ q8 [.lst (cs.map au)]=.ok (.tup ((mS cs).map au)))(az:∀(s:Nat)(c:List Int),s<=8->c.length<=8->Φ bI [au c,.int (s:Int)]=.ok (.lst ((di s c).map au)))(aa:∀i m:Int,1<=m->m<=6->∃cs:List (List Int),Φ bA [.int i,.int m]=.ok (.lst (cs.map au))/\(∀c∈cs,IsCell m c)/\hK m cs=true/\cs.length<=16)(i:Int)(h0:0<=i):
  ∃m ts,c6 pg Φ ⟨2,3,bc.xc q8 bI bA⟩ [.int i,.int 5]=.ok (bk m ts)/\Net m ts/\m<=5/\ts.length<=20:=by
 have qD:=ll i (b:=5) (by decide);have b9:decide ((5:Int)<5)=false:=rfl;have cg:decide ((6:Int)<5)=false:=rfl;simp only[Den.a0,Nat.reduceAdd,bc.xc,kG i 5 (by decide),o3 i 12 (by decide) (by decide),kG _ 8 (by decide)];cases YF:(i / 12%8==0)
 .obtain⟨cs,e,ag,aN,aA⟩:=aa (i / 96) (1+i%5) (by omega) (by omega);obtain⟨ts,ak,aD,uc⟩:=FL (pg:=pg) (Φ:=Φ) (cs:=cs) (m:=1+i%5) (a:=.int i) (b:=.int 5) (c:=.int (i / 12%8)) ay (by omega) (by omega) (by omega) (λc cN=>by have:=nF (ag c cN);omega) (λc cN=>by rw[AL (ag c cN)];exact ag c cN) (by rw[HI ag];exact aN);refine⟨1+i%5,ts,?_,aD,by omega,uc⟩;rw[<- ak];cases a8:(i / 12%8==1)
  .cases aR:(i / 12%8==2)
   .simp only[Den.a0,Nat.reduceAdd,a8,aR,o3 i 96 (by decide) (by decide),e]
   .simp only[Den.a0,Nat.reduceAdd,a8,aR,cg,o3 i 96 (by decide) (by decide),e]
  .cases aR:(i / 12%8==2)
   .simp only[Den.a0,Nat.reduceAdd,a8,aR,b9,o3 i 96 (by decide) (by decide),e]
   .simp only[Den.a0,Nat.reduceAdd,a8,aR,b9,cg,o3 i 96 (by decide) (by decide),e]
 .have J0:=ll (i / 96) (b:=1+i%5) (by omega);obtain⟨s,zi⟩:∃s:Nat,(s:Int)=1+i / 96%(1+i%5):=⟨(1+i / 96%(1+i%5)).toNat,by omega⟩;obtain⟨ag,aN⟩:=Js (m:=1+i%5) (s:=s) (by omega) (by omega) (by omega) (by omega);have Ef:(cO (1+i%5)).length<=6:=(by unfold cO;simp;omega);have Pa:(di s (cO (1+i%5))).length<=20:=(by rw[Ag];exact Tb Ef);obtain⟨ts,ak,aD,uc⟩:=FL (pg:=pg) (Φ:=Φ) (cs:=di s (cO (1+i%5))) (m:=1+i%5) (a:=.int i) (b:=.int 5) (c:=.int (i / 12%8)) ay (by omega) (by omega) Pa (λc cN=>by have:=nF (ag c cN);omega) (λc cN=>by rw[AL (ag c cN)];exact ag c cN) (by rw[HI ag];exact aN);refine⟨1+i%5,ts,?_,aD,by omega,uc⟩;rw[<- ak];have Ep:=az s (cO (1+i%5)) (by omega) (by omega);unfold au at Ep;simp only[Den.a0,Nat.reduceAdd,o3 i 96 (by decide) (by decide),kG (i / 96) (1+i%5) (by omega),<- zi,ov (i:=0) (j:=1+i%5) (by omega) (by omega) (by omega) (by omega),vi,Ep];rfl
noncomputable def og(m:Nat)(ns:List Nat):Nat:=ns.foldl (λm x=>if x>m then x else m) m
theorem FF:∀(ns:List Nat)(m:Nat),m<=og m ns/\∀n∈ns,n<=og m ns
 |[],m=>⟨Y2 _,λ_ h=>nomatch h⟩
 |x::ns,m=>by
  show m<=og (if x>m then x else m) ns/\_;obtain⟨C,J⟩:=FF ns (if x>m then x else m);refine⟨by split at C<;>split<;>omega,λn aD=>?_⟩;rcases Y0.mp aD with rfl|aD
  .show n<=og (if n>m then n else m) ns
   split at C<;>split<;>omega
  .exact J n aD
theorem FD{k:Nat}:∀(ns:List Nat)(m:Nat),m<=k->(∀n∈ns,n<=k)->og m ns<=k
 |[],m,h,_=>h
 |x::ns,m,h,aD=>FD ns _ (by dsimp only;split;exact aD x List.mem_cons_self;exact h) λn h'=>aD n (List.mem_cons_of_mem _ h')
theorem FE:∀(ns:List Nat)(m:Nat),(ns.map λn:Nat=>(n:Int)).foldl (λm x=>if x>m then x else m) (m:Int)=(og m ns:Int)
 |[],m=>rfl
 |x::ns,m=>by
  rw[List.map_cons,List.foldl_cons];have:(if (x:Int)>(m:Int) then(x:Int) else(m:Int))=((if x>m then x else m:Nat):Int):=by
   by_cases q:x>m
   .rw[if_pos q,if_pos (by omega)]
   .rw[if_neg q,if_neg (by omega)]
  rw[this];exact FE ns _
noncomputable def ai:List (List Int)->Nat
 |[]=>0
 |t::ts=>og t.length (ts.map (·.length))
def yZ{ts:List (List Int)}:∀t∈ts,t.length<=ai ts:=by
 cases ts with
 |nil=>intro t h;cases h
 |cons a ts =>
  intro t h;obtain⟨C,J⟩:=FF (ts.map (·.length)) a.length;rcases Y0.mp h with rfl|h
  .exact C
  .exact J _ (List.mem_map.mpr ⟨t,h,rfl⟩)
def OS{ts:List (List Int)}{k:Nat}(h:∀t∈ts,t.length<=k):ai ts<=k:=by
 cases ts with
 |nil=>exact Zo _
 |cons a ts=>exact FD _ _ (h a List.mem_cons_self) λn aD=>by obtain⟨t,ay,rfl⟩:=List.mem_map.mp aD;exact h t (List.mem_cons_of_mem _ ay)
def Fs{ts:List (List Int)}(h:ts≠[]):kF (ts.map λt=>D.int (t.length:Int))=.ok (.int (ai ts:Int)):=by
 cases ts with
 |nil=>exact absurd rfl h
 |cons a ts =>
  have e:((a::ts).map λt=>D.int (t.length:Int))=((a::ts).map λt=>(t.length:Int)).map D.int:=(by rw[List.map_map];rfl);unfold kF;rw[e,zw];show R.ok (D.int ((ts.map λt=>(t.length:Int)).foldl (λm x=>if x>m then x else m) (a.length:Int)))=_;have ak:(ts.map λt=>(t.length:Int))=(ts.map (·.length)).map λn:Nat=>(n:Int):=by rw[List.map_map];rfl
  rw[ak,FE];rfl
def OW{m:Int}{ts:List (List Int)}(h:ts≠[]):c6 pg Φ ⟨1,0,bc.w8⟩ [bk m ts]=.ok (.int (ai ts:Int)):=by
 have fu:fF (bk m ts) (.int 1)=.ok (.tup (ts.map au)):=rfl;have aj:da (elem pg Φ [some (bk m ts)] (.prim .len (.var 1)) 0 .none) (ts.map au)=.ok (ts.map λt=>D.int (t.length:Int)):=i9 λt _=>by simp only[Den.a0,Nat.reduceAdd,px]
 simp only[Den.a0,Nat.reduceAdd,bc.w8,fu,aj,Gq,Fs h]
def Pt{f:Nat}{m:Int}{ts:List (List Int)}(h:ts≠[])(c4:ai ts<=8)(hf:∀n:Nat,∃G:List Nat,Φ f [bk m ts,.int (n:Int)]=.ok (.tup (G.map (hX (cl ts (n+1)))))/\Told ts n G):c6 pg Φ ⟨1,1,bc.w0 f⟩ [bk m ts]=.ok (.tup ((List.range (ai ts)).map λk=>D.int (dD ts k:Int))):=by
 have fu:fF (bk m ts) (.int 1)=.ok (.tup (ts.map au)):=rfl;have aj:da (elem pg Φ [some (bk m ts),none] (.prim .len (.var 2)) 0 .none) (ts.map au)=.ok (ts.map λt=>D.int (t.length:Int)):=i9 λt _=>by simp only[Den.a0,Nat.reduceAdd,px]
 have ak:da (elem pg Φ [some (bk m ts),some (.int (ai ts:Int))] (.prim .len (.call f (.cons (.var 0) (.cons (.var 2) (.nil))))) 0 .none) ((List.range (ai ts)).map λk:Nat=>D.int (k:Int))=.ok ((List.range (ai ts)).map λk=>D.int (dD ts k:Int)):=i9 λk _=>by
  obtain⟨G,a,b⟩:=hf k;simp only[Den.a0,Nat.reduceAdd,a,b.sum.1,List.length_map]
 simp only[Den.a0,Nat.reduceAdd,bc.w0,fu,aj,Gq,Fs h,ov (i:=0) (j:=(ai ts:Int)) (by omega) (by omega) (by omega) (by omega),vh,ak]
def r9{m:Int}{ts:List (List Int)}(h:Net m ts):ts≠[]:=λe=>by
 subst e;obtain⟨t,ay,_⟩:=tq.mp h.hK 0 (Int.le_refl 0) (by have:=h.lo;omega);cases ay
def zW{m:Int}{ts:List (List Int)}(h:Net m ts):ai ts<=8:=OS λt ay=>by
 have:=nF (h.cell t ay);have:=h.ai;omega
def GB{ts:List (List Int)}{k:Nat}(h:ai ts<=k):dD ts k=0:=by
 have:cl ts (k+1)=[]:=by
  rw[List.eq_nil_iff_forall_not_mem];intro z hz;obtain⟨C,_,t,J,aC⟩:=fv.mp hz;have:=yZ t J;have:=aC.length_le;omega
 unfold dD nn;rw[this];simp
noncomputable def ew(ts:List (List Int)):List (List Int):=(List.range (ai ts)).flatMap λh=>cl ts (h+1)
def zR{ts:List (List Int)}(z:List Int):z∈ew ts<->z∈bN ts:=by
 unfold ew;rw[aay];constructor
 .rintro⟨h,_,hz⟩;exact iN hz
 .intro hz;obtain⟨C,t,J,aC⟩:=ic.mp hz;have aT:=yZ t J;have b6:=aC.length_le;have f6:1<=z.length:=by cases z with|nil=>exact absurd rfl C|cons _ _=>simp
  refine⟨z.length-1,List.mem_range.mpr (by omega),fv.mpr ⟨by omega,C,t,J,aC⟩⟩
def zJ(ts:List (List Int)):(ew ts).Nodup:=by
 unfold ew;rw[Za,List.pairwise_flatMap];refine⟨λa _=>Za.mp (iM ts (a+1)),Z7 (λ{a b}(h:a<b) x ao y aV e=>?_) aaX⟩;have C:=(fv.mp ao).1;have J:=(fv.mp aV).1;rw[e]at C;omega
def zI{m:Int}{ts:List (List Int)}(c4:m<=6)(ay:∀t∈ts,IsCell m t):(ew ts).length<=63:=ZX (hr (zJ ts) λz hz=>(zR z).mp hz) (oZ c4 ay)
def QS{lu cD:Nat}{m:Int}{ts:List (List Int)}(ay:∀t∈ts,IsCell m t)(c4:m<=6)(Yl:ai ts<=8)(dc:Φ lu [bk m ts]=.ok (.int (ai ts:Int)))(ag:∀k:Nat,k<=7->Φ cD [bk m ts,.int (k:Int)]=.ok (.lst ((cl ts (k+1)).map au))):
  c6 pg Φ ⟨1,2,bc.w6 lu cD⟩ [bk m ts]=.ok (.lst ((ew ts).map au)):=by
 simp only[Den.a0,Nat.reduceAdd,bc.w6,dc,ov (i:=0) (j:=(ai ts:Int)) (by omega) (by omega) (by omega) (by omega),vh];obtain⟨bC,e,x,he⟩:=gG (f:=λk:Nat=>D.int (k:Int)) (g:=turn pg Φ 0 [2] (.cons (.asg 1 (.bin .add (.var 1) (.call cD (.cons (.var 0) (.cons (.var 2) (.nil)))))) (.nil)))
  (λaS ρ=>∃(x:Option D),ρ=[some (bk m ts),some (.lst ((aS.flatMap λh=>cl ts (h+1)).map au)),x])
  (List.range (ai ts)) [some (bk m ts),some (.lst []),none] ⟨none,rfl⟩ (λpre k post ρ az ⟨x,b4⟩=>by
   subst b4;have ax:k<ai ts:=List.mem_range.mp (by rw[az];simp);have hlen:((pre.flatMap λh=>cl ts (h+1)).map au).length+((cl ts (k+1)).map au).length<=SZ:=by
    have C:=zI c4 ay;unfold ew at C;rw[az,aaP,List.length_append]at C;have J:=qJ c4 ay (k+1);rw[List.length_map,List.length_map,gA];omega
   refine⟨_,by simp only[Den.a0,Nat.reduceAdd,ag k (by omega),mj,if_pos hlen];rfl,some (.int (k:Int)),?_⟩;simp[aaP])
 rw[e,he];simp only[Den.a0,Nat.reduceAdd,ew]
def QV{f:Nat}(hf:∀cs:List (List Int),(∀c∈cs,c≠[])->(c1 cs).length<=63->Φ f [.lst (cs.map au)]=.ok (.tup ((mS cs).map au))){cs:List (List Int)}(ag:∀c∈cs,cZ ltI c/\c≠[])(c4:∀c∈cs,c.length<=8)(aA:cs.length<=63)(C:(lf cs).length<=63):
  c6 pg Φ ⟨1,2,bc.xd f⟩ [.lst (cs.map au)]=.ok (bk (lf cs).length (ef (nb cs))):=by
 have ab:=Dt c4 (by omega);simp only[Den.a0,Nat.reduceAdd,bc.xd];obtain⟨bC,e,x,he⟩:=gG (f:=au) (g:=turn pg Φ 0 [2] (.cons (.asg 1 (.bin .add (.var 1) (.kE (.seq (.var 2))))) (.nil)))
  (λaS ρ=>∃(x:Option D),ρ=[some (.lst (cs.map au)),some (.lst (aS.flatten.map .int)),x])
  cs [some (.lst (cs.map au)),some (.lst []),none] ⟨none,rfl⟩ (λpre c post ρ az ⟨x,b4⟩=>by
   subst b4;have hlen:(pre.flatten.map D.int).length+(c.map D.int).length<=SZ:=by
    have:pre.flatten.length+c.length<=cs.flatten.length:=(by rw[az];simp);rw[List.length_map,List.length_map,gA];omega
   have he:ep .add (.lst (pre.flatten.map .int)) (.lst (c.map .int))=.ok (.lst ((pre++[c]).flatten.map .int)):=by
    rw[mj,if_pos hlen,<- List.map_append];simp
   refine⟨_,by simp only[Den.a0,Nat.reduceAdd,ox,he],some (au c),rfl⟩)
 have hd:(c1 cs.flatten).length<=63:=by unfold lf at C;rw[mP]at C;exact C
 have aa:eZ (cs.flatten.map .int)=.ok (.lst ((lf cs).map .int)):=HJ hd;have nX:=uV (m:=0) (ts:=[]) (λt h=>by cases h) (cs:=cs) ag;have J:(c1 (nb cs)).length<=63:=by have:=tx (nb cs);unfold nb at this ⊢;rw[List.length_map]at this;omega
 have ak:=FY (pg:=pg) (Φ:=Φ) (cs:=cs) (ρ:=[some (.lst (cs.map au)),some (.lst ((lf cs).map .int)),x]) (e:=.kD 1 4) C λc cN y aV=>by
  rw[aag,aag,aag,List.nil_append,mz];simp only[Den.a0,Nat.reduceAdd,C8,Fe (by omega:(lf cs).length<=1000) (jT.mpr ⟨c,cN,aV⟩)]
 have ak:da (elem pg Φ [some (.lst (cs.map au)),some (.lst ((lf cs).map .int)),x] (.tupI (.seq (.comp (.kD 1 4) 0 (.seq (.var 3)) .none))) 0 .none) (cs.map au)=.ok ((nb cs).map au):=ak;rw[e,he];simp only[Den.a0,Nat.reduceAdd,aa,List.length_map,ak,hf _ (λc cN=>(nX c cN).1) J,Fl λc cN=>(nX c cN).2.2];rfl
def QT{eX eW:Nat}{m:Int}{ts:List (List Int)}(ay:∀t∈ts,IsCell m t)(c4:m<=6)(aA:∀c o:List Int,Φ eX [au c,au o]=.ok (.aO (lies c o)))(he:Φ eW [bk m ts]=.ok (.lst ((ew ts).map au))):c6 pg Φ ⟨1,4,bc.w7 eX eW⟩ [bk m ts]=.ok (.tup ((ec ts).map d2)):=by
 have O8:=zI c4 ay;have Fx:=zQ (zJ ts) zR ay;simp only[Den.a0,Nat.reduceAdd,bc.w7,he];obtain⟨bC,e,x,y,gb⟩:=gG (f:=au) (g:=turn pg Φ 0 [3] (.cons (.asg 4 (.comp (.var 5) 0 (.seq (.var 1)) (.some (.and (.cmp .ne (.var 3) (.var 5)) (.call eX (.cons (.var 3) (.cons (.var 5) (.nil)))))))) (.cons (.iff (.cmp .eq (.prim .len (.var 4)) (.lit (.int 1))) (.cons (.app 2 (.tup (.cons (.var 3) (.cons (.idx (.var 4) (.lit (.int 0))) (.nil))))) (.nil)) (.nil)) (.nil))))
  (λaS ρ=>∃(x y:Option D),ρ=[some (bk m ts),some (.lst ((ew ts).map au)),some (.lst ((aS.filterMap λc=>match (ew ts).filter λo=>!decide (c=o)&&lies c o with|[d]=>some ((c,d):dH)|_=>none).map d2)),x,y])
  (ew ts) [some (bk m ts),some (.lst ((ew ts).map au)),some (.lst []),none,none] ⟨none,none,rfl⟩ (λpre c post ρ az ⟨x,y,b4⟩=>by
   subst b4;have eb:pre.length+1<=(ew ts).length:=(by rw[az];simp);have aj:∀z,da (elem pg Φ [some (bk m ts),some (.lst ((ew ts).map au)),z,some (au c),y] (.var 5) 0 (.some (.and (.cmp .ne (.var 3) (.var 5)) (.call eX (.cons (.var 3) (.cons (.var 5) (.nil))))))) ((ew ts).map au)=.ok (((ew ts).filter λo=>!decide (c=o)&&lies c o).map au):=λz=>jH λo _=>by
    rw[mz]
    by_cases q:c=o
    .simp only[Den.a0,Nat.reduceAdd,tF,decide_eq_true q,abo]
    .simp only[Den.a0,Nat.reduceAdd,tF,decide_eq_false q,aA,Bool.true_and];cases lies c o<;>rfl
   have rn:=List.length_filterMap_le (λc=>match (ew ts).filter λo=>!decide (c=o)&&lies c o with|[d]=>some ((c,d):dH)|_=>none) pre;rw[List.filterMap_append,List.map_append];generalize er:(ew ts).filter (λo=>!decide (c=o)&&lies c o)=L at aj
   by_cases w:L.length=1
   .obtain⟨d,rfl⟩:=aa0.mp w;have hz:((([d].map au).length:Int)==1)=true:=rfl;have ai:fF (.lst ([d].map au)) (.int 0)=.ok (au d):=rfl;have b6:=tc ((pre.filterMap λc=>match (ew ts).filter λo=>!decide (c=o)&&lies c o with|[d]=>some ((c,d):dH)|_=>none).map d2) (.tup [au c,au d]) (by rw[List.length_map,gA];omega);refine⟨_,by simp only[Den.a0,Nat.reduceAdd,aj,hz,ai,b6];rfl,some (au c),some (.lst ([d].map au)),?_⟩;rw[List.filterMap_cons,er];rfl
   .have hz:(((L.map au).length:Int)==1)=false:=Zs.mpr (by rw[List.length_map];omega);refine⟨_,by simp only[Den.a0,Nat.reduceAdd,aj,hz];rfl,some (au c),some (.lst (L.map au)),?_⟩;rw[List.filterMap_cons,er]
    match L,w with
    |[],_=>simp
    |_::_::_,_=>simp
    |[_],w=>exact absurd rfl w)
 rw[e,gb];have aD:∀p∈nU (ew ts),p.1≠[]/\p.2≠[]:=λp az=>by
  have f:=(Fx p).mp az;exact⟨(e9 ay (f.bN ay).1).2.1,(e9 ay (f.bN ay).2).2.1⟩
 have rn:(nU (ew ts)).length<=63:=ZX (List.length_filterMap_le _ _) O8;have aa:=HF aD rn;rw[DD ay (Dw (zJ ts)) Fx]at aa;have aa:Den.sorted (((ew ts).filterMap λc=>match (ew ts).filter λo=>!decide (c=o)&&lies c o with|[d]=>some ((c,d):dH)|_=>none).map d2)=_:=aa;simp only[Den.a0,Nat.reduceAdd,aa]
def QX{fn eW:Nat}{m:Int}{ts:List (List Int)}{p:dH}(he:Φ eW [bk m ts]=.ok (.lst ((ew ts).map au))){d:D}(aD:Φ fn [.lst (((ew ts).filter λc=>!decide (c∈[p.1,p.2])).map au)]=.ok d):c6 pg Φ ⟨2,0,bc.xe fn eW⟩ [bk m ts,d2 p]=.ok d:=by
 have aj:da (elem pg Φ [some (bk m ts),some (d2 p)] (.var 2) 0 (.some (.cmp .jq (.var 2) (.var 1)))) ((ew ts).map au)=.ok (((ew ts).filter λc=>!decide (c∈[p.1,p.2])).map au):=jH λc _=>by
  have hm:dS .jq (au c) (d2 p)=.ok (!decide (c∈[p.1,p.2])):=by
   show ie (hq (au c) ([p.1,p.2].map au))=_;rw[Rw];rfl
  rw[mz];simp only[Den.a0,Nat.reduceAdd,hm];cases decide (c∈[p.1,p.2])<;>rfl
 simp only[Den.a0,Nat.reduceAdd,bc.xe,he,aj,aD]
noncomputable abbrev dN:=Int×List (List Int)
noncomputable def off(ts:List (List Int))(p:dH):dN:=(((lf (dj ts p.1 p.2)).length:Int),ef (nb (dj ts p.1 p.2)))
noncomputable def bar:Nat->dN->dN
 |0,N=>N
 |n+1,N=>match ec N.2 with
  |[]=>N
  |p::_=>bar n (off N.2 p)
def xv{n:Nat}{N:dN}(q:ec N.2=[]):bar (n+1) N=N:=by rw[bar,q]
def BU{n:Nat}{N:dN}{p:dH}{r:List dH}(q:ec N.2=p::r):bar (n+1) N=bar n (off N.2 p):=by rw[bar,q]
structure Good(N:dN):Prop where
 dw:Net N.1 N.2
 len:N.2.length<=63
def u3{N:dN}(h:Good N){p:dH}(az:p∈ec N.2):Good (off N.2 p)/\(bN (off N.2 p).2).length<(bN N.2).length:=by
 have ay:=h.dw.cell;have f:=(uQ ay p).mp az;refine⟨⟨F0 f ay h.dw.ai,?_⟩,R4 f ay⟩;have C:=Iq (nb (dj N.2 p.1 p.2));have J:(dj N.2 p.1 p.2).length<=(bN N.2).length:=Zt _ _;have aC:=oZ h.dw.ai ay;have aT:(nb (dj N.2 p.1 p.2)).length=(dj N.2 p.1 p.2).length:=List.length_map _;show(ef (nb (dj N.2 p.1 p.2))).length<=63;omega
theorem BV(rD:∀N:dN,Good N->∀n,dD N.2 n+fK N.2 (n+1)+fK N.2 n=nn N.2 n):∀(k:Nat)(N:dN),Good N->(bN N.2).length<=k->Good (bar k N)/\ec (bar k N).2=[]/\(∀n,dD (bar k N).2 n=dD N.2 n)/\(bN (bar k N).2).length<=k
 |0,N,h,ax=>by
  exfalso;have C:=r9 h.dw
  match aK:N.2,C with
  |t::ts,_ =>
   have ay:t∈N.2:=(by rw[aK];exact List.mem_cons_self);have:=aas (ic.mpr ⟨(h.dw.cell t ay).1,t,ay,aaJ t⟩);omega
 |k+1,N,h,ax=>by
  cases q:ec N.2 with
  |nil=>rw[xv q];exact⟨h,q,λ_=>rfl,ax⟩
  |cons p r =>
   rw[BU q];have az:p∈ec N.2:=(by rw[q];exact List.mem_cons_self);obtain⟨g1,g2⟩:=u3 h az;obtain⟨a,b,c,d⟩:=BV rD k (off N.2 p) g1 (by omega);have ay:=h.dw.cell;have f:=(uQ ay p).mp az;have D8:=KS (ts':=(off N.2 p).2) (FZ f ay) f ay (rD N h) (rD (off N.2 p) g1);exact⟨a,b,λn=>(c n).trans (D8 n),by omega⟩
theorem xw{c:aY->R Bool}{f:aY->R eA}(st:dN->aY)(ag:∀N,Good N->c (st N)=.ok (!(ec N.2).isEmpty))(hf:∀N p r,Good N->ec N.2=p::r->f (st N)=.ok (.bJ (st (off N.2 p)))):∀(k:Nat)(N:dN)(n:Nat),Good N->(bN N.2).length<=k->k<n->jv c f n (st N)=.ok (.bJ (st (bar k N)))
 |0,N,n,h,ax,aD=>by
  exfalso;have C:=r9 h.dw
  match aK:N.2,C with
  |t::ts,_ =>
   have ay:t∈N.2:=(by rw[aK];exact List.mem_cons_self);have:=aas (ic.mpr ⟨(h.dw.cell t ay).1,t,ay,aaJ t⟩);omega
 |k+1,N,0,h,ax,aD=>by omega
 |k+1,N,n+1,h,ax,aD=>by
  rw[jv,ag N h];cases q:ec N.2 with
  |nil=>rw[xv q];rfl
  |cons p r =>
   rw[BU q];have az:p∈ec N.2:=(by rw[q];exact List.mem_cons_self);obtain⟨g1,g2⟩:=u3 h az;simp only[R.iB,List.isEmpty_cons,abr,ZH,hf N p r h q];exact xw st ag hf k (off N.2 p) n g1 (by omega) (by omega)
def J1{nT yr:Nat}(C:∀N:dN,Good N->Φ nT [bk N.1 N.2]=.ok (.tup ((ec N.2).map d2)))(J:∀(N:dN)(p:dH),Good N->p∈ec N.2->Φ yr [bk N.1 N.2,d2 p]=.ok (bk (off N.2 p).1 (off N.2 p).2)){k:Nat}(ax:k<200){N:dN}(h:Good N)(he:(bN N.2).length<=k):
  c6 pg Φ ⟨1,1,bc.wQ nT yr⟩ [bk N.1 N.2]=.ok (bk (bar k N).1 (bar k N).2):=by
 have hw:=xw (c:=λbC=>ev pg Φ bC (.cmp .gt (.prim .len (.var 1)) (.lit (.int 0)))>>=λx=>eE x) (f:=λbC=>eF pg Φ bC (.cons (.asg 0 (.call yr (.cons (.var 0) (.cons (.idx (.var 1) (.lit (.int 0))) (.nil))))) (.cons (.asg 1 (.call nT (.cons (.var 0) (.nil)))) (.nil))))
  (λN=>[some (bk N.1 N.2),some (.tup ((ec N.2).map d2))]) (λN aK=>by
   simp only[Den.a0,Nat.reduceAdd,List.length_map];cases ec N.2 with
   |nil=>rfl
   |cons p r =>
    have:(0:Int)<((p::r).length:Int):=(by rw[List.length_cons];omega);rw[decide_eq_true this];rfl) (λN p r aK q=>by
   have az:p∈ec N.2:=(by rw[q];exact List.mem_cons_self);have ai:fF (.tup ((ec N.2).map d2)) (.int 0)=.ok (d2 p):=(by rw[q,uy,List.map_cons,yy]);simp only[Den.a0,Nat.reduceAdd,ai,J N p aK az,C _ (u3 aK az).1]) k N 200 h he ax
 rw[<- yf]at hw;simp only[Den.a0,Nat.reduceAdd,bc.wQ,C N h,hw]
noncomputable def p0:Nat->List Int->List Int
 |0,xs=>xs
 |n+1,xs=>if xs.getLast?=some 0 then p0 n xs.dropLast else xs
noncomputable def kR(xs:List Int):List Int:=p0 xs.length xs
def Wb(xs:List Int):kR (xs++[0])=kR xs:=by
 unfold kR;rw[List.length_append];show p0 (xs.length+1) (xs++[0])=_;rw[p0,if_pos (by simp),List.dropLast_concat]
theorem AP(f:Nat->Int){n:Nat}:∀k,(∀j,n<=j->f j=0)->kR ((List.range (n+k)).map f)=kR ((List.range n).map f)
 |0,_=>rfl
 |k+1,h=>by
  rw[<- Nat.add_assoc,List.range_succ,List.map_append,abk,h (n+k) (by omega),Wb,AP f k h]
theorem IQ{c:aY->R Bool}{f:aY->R eA}(st:List Int->aY)(ag:∀xs,c (st xs)=.ok (decide (xs.getLast?=some 0)))(hf:∀xs,xs≠[]->f (st xs)=.ok (.bJ (st xs.dropLast))):∀(n k:Nat)(xs:List Int),xs.length=k->k<n->jv c f n (st xs)=.ok (.bJ (st (p0 k xs)))
 |0,_,_,_,h=>by omega
 |n+1,0,xs,e,_=>by
  rw[aaS e,jv,ag];rfl
 |n+1,k+1,xs,e,h=>by
  rw[jv,ag,p0]
  by_cases q:xs.getLast?=some 0
  .rw[if_pos q,decide_eq_true q];simp only[R.iB,ZH,hf xs (λz=>by rw[z]at e;cases e)];exact IQ st ag hf n k xs.dropLast (by rw[List.length_dropLast];omega) (by omega)
  .rw[if_neg q,decide_eq_false q];rfl
def Q5{h:Int}{aa:List Int}(aA:aa.length<100):c6 pg Φ ⟨1,1,bc.w9⟩ [au (h::aa)]=.ok (.lst ((kR ((h-1)::aa)).map .int)):=by
 have hw:=IQ (c:=λbC=>ev pg Φ bC (.and (.cmp .ne (.var 1) (.lst (.nil))) (.cmp .eq (.idx (.var 1) (.neg (.lit (.int 1)))) (.lit (.int 0))))>>=λx=>eE x) (f:=λbC=>eF pg Φ bC (.cons (.pop 1) (.nil)))
  (λxs=>[some (au (h::aa)),some (.lst (xs.map .int))]) (λxs=>by
   have aj:=CU xs [];have aj:fB (.lst (xs.map .int)) (.lst [])=.ok (decide (xs=[])):=aj;cases xs with
   |nil=>simp only[Den.a0,Nat.reduceAdd,aj,acb];rfl
   |cons x xs =>
    have a4:fF (.lst ((x::xs).map .int)) (.int (-1))=.ok (.int ((x::xs).getLastD 0)):=by
     rw[ux,List.map_cons,N7,<- List.map_cons,getLast?_map];rw[List.getLast?_cons,List.getLastD_cons,List.getLastD_eq_getLast?];rfl
    have jI:decide ((x::xs)=[])=false:=(by simp);simp only[Den.a0,Nat.reduceAdd,Dc,aj,jI,a4];rw[List.getLast?_cons,List.getLastD_cons];congr 1;rw[Bool.eq_iff_iff];simp) (λxs ao=>by
   have az:vd (some (some (.lst (xs.map .int))))=.ok (.lst (xs.dropLast.map .int)):=by
    rw[List.map_dropLast];cases xs with
    |nil=>exact absurd rfl ao
    |cons x xs=>rfl
   simp only[Den.a0,Nat.reduceAdd,Nc,az]) 200 ((h-1)::aa).length ((h-1)::aa) rfl (by rw[List.length_cons];omega)
 have a4:fF (.lst ((h::aa).map .int)) (.int 0)=.ok (.int h):=by rw[ux,List.map_cons,yy]
 have lF:sz (some (some (.lst ((h::aa).map .int)))) (.int (h-1))=.ok (.lst (((h-1)::aa).map .int)):=rfl;rw[<- yf]at hw;simp only[Den.a0,Nat.reduceAdd,bc.w9,ox,a4,Nh,lF,hw];rfl
def VF(aS:List dH):(aS.map d2).all (cY 59)=true:=by
 rw[List.all_map,Zp];intro p _;have:=vu 57 [p.1,p.2];exact this
def My(m:Int)(ts:List (List Int)):fB (bk m ts) (bk m ts)=.ok true:=by
 have h:cY 60 (bk m ts)=true:=by
  show(cY 59 (.int m)&&(cY 59 (.tup (ts.map au))&&true))=true;have:cY 59 (.tup (ts.map au))=true:=vu 57 ts;rw[this];rfl
 rw[Mz h h];show R.ok ((m==m)&&(kg (ts.map au) (ts.map au)&&true))=_;rw[CT];simp
def MZ{m:Int}{ts:List (List Int)}(b6:m<=5)(ay:∀t∈ts,IsCell m t):(bN ts).length<=31:=by
 have C:(bN ts).length<=(eK (cO m)).length:=hr (mD ts) λz hz=>by
  obtain⟨h0,t,C,J⟩:=ic.mp hz;exact(od _ z).mpr ⟨h0,J.trans (Ce (ay t C))⟩
 have J:=uK (cO m);have aC:(cO m).length<=5:=by unfold cO;simp;omega
 have aT:2 ^ (cO m).length<=2 ^ 5:=ZE (by decide) aC;omega
noncomputable def jR(ts:List (List Int))(k:Nat):Int:=(dD ts k:Int)-if k=0 then 1 else 0
noncomputable def pD(ts:List (List Int)):List Int:=kR ((List.range (ai ts)).map (jR ts))
def y0{N:dN}(h:Good N):1<=ai N.2:=by
 have C:=r9 h.dw
 match aK:N.2,C with
 |t::ts,_ =>
  have ay:t∈N.2:=(by rw[aK];exact List.mem_cons_self);have J:=yZ t ay;have aC:=(h.dw.cell t ay).1;have aT:1<=t.length:=by cases t with|nil=>exact absurd rfl aC|cons _ _=>simp
  rw[aK]at J;omega
def Rk{ts ts':List (List Int)}(C:1<=ai ts)(J:1<=ai ts')(h:∀k,dD ts' k=dD ts k):pD ts'=pD ts:=by
 have e:jR ts'=jR ts:=by funext k;unfold jR;rw[h]
 unfold pD;rw[e];have a:=AP (jR ts) (n:=ai ts) (ai ts') λj aJ=>by unfold jR;rw[GB aJ,if_neg (by omega)];rfl
 have b:=AP (jR ts) (n:=ai ts') (ai ts) λj aJ=>by unfold jR;rw[<- h,GB aJ,if_neg (by omega)];rfl
 rw[<- a,<- b,Nat.add_comm]
def E0{f:Nat}(hf:∀(h:Int)(aa:List Int),aa.length<100->Φ f [au (h::aa)]=.ok (.lst ((kR ((h-1)::aa)).map .int))){N:dN}(h:Good N):Φ f [.tup ((List.range (ai N.2)).map λk=>D.int (dD N.2 k:Int))]=.ok (.lst ((pD N.2).map .int)):=by
 have C:=y0 h;have c4:=zW h.dw;unfold pD;obtain⟨n,aD⟩:∃n,ai N.2=n+1:=⟨ai N.2-1,by omega⟩;rw[aD,abz];have:=hf (dD N.2 0:Int) ((List.range n).map λk=>(dD N.2 (k+1):Int)) (by rw[List.length_map,List.length_range];omega);have aj:D.tup ((0::(List.range n).map Nat.succ).map λk=>D.int (dD N.2 k:Int))=au ((dD N.2 0:Int)::(List.range n).map λk=>(dD N.2 (k+1):Int)):=by
  unfold au;rw[List.map_cons,List.map_cons,List.map_map,List.map_map];rfl
 have ak:(0::(List.range n).map Nat.succ).map (jR N.2)=((dD N.2 0:Int)-1)::(List.range n).map λk=>(dD N.2 (k+1):Int):=by
  rw[List.map_cons,List.map_map];refine List.cons_eq_cons.mpr ⟨rfl,Zw λk _=>?_⟩;show jR N.2 (k+1)=_;unfold jR;rw[if_neg (by omega),acI]
 rw[aj,ak,this]
def QP{eX lu cj nT q5 tS fn ym:Nat}{is:List Int}(hm:∀k:Nat,∃r:Int,0<=r/\r<nr/\Φ ym [.lst (is.map .int),.int (k:Int)]=.ok (.int r))(aD:∀i:Int,0<=i->∃m ts,Φ fn [.int i,.int 5]=.ok (bk m ts)/\Net m ts/\m<=5/\ts.length<=20)(C:∀N:dN,Good N->Φ q5 [bk N.1 N.2]=.ok (.tup ((ec N.2).map d2)))(J:∀(N:dN)(p:dH),Good N->p∈ec N.2->Φ tS [bk N.1 N.2,d2 p]=.ok (bk (off N.2 p).1 (off N.2 p).2))(aC:∀N:dN,Good N->Φ nT [bk N.1 N.2]=.ok (.tup ((ec N.2).map d2)))(aT:∀(k:Nat)(N:dN),k<200->Good N->(bN N.2).length<=k->Φ cj [bk N.1 N.2]=.ok (bk (bar k N).1 (bar k N).2))(b6:∀N:dN,Good N->Φ lu [bk N.1 N.2]=.ok (.tup ((List.range (ai N.2)).map λk=>D.int (dD N.2 k:Int))))(f6:∀(h:Int)(aa:List Int),aa.length<100->Φ eX [au (h::aa)]=.ok (.lst ((kR ((h-1)::aa)).map .int)))(rD:∀N:dN,Good N->∀n,dD N.2 n+fK N.2 (n+1)+fK N.2 n=nn N.2 n):c6 pg Φ ⟨1,4,bc.w2 eX lu cj nT q5 tS fn ym⟩ [.lst (is.map .int)]=.ok (.aO true):=by
 obtain⟨r,fX,-,dO⟩:=hm 0;have dO:Φ ym [.lst (is.map .int),.int 0]=.ok (.int r):=dO;obtain⟨m,ts,aj,aK,Pe,aA⟩:=aD r fX;have g:Good (m,ts):=⟨aK,by show ts.length<=63;omega⟩;have gK:(bN ts).length<=31:=MZ Pe aK.cell;have ak:Φ q5 [bk m ts]=.ok (.tup ((ec ts).map d2)):=C _ g;have bu:Φ cj [bk m ts]=.ok (bk (bar 31 (m,ts)).1 (bar 31 (m,ts)).2):=aT 31 (m,ts) (by decide) g gK;have eR:Φ lu [bk m ts]=.ok (.tup ((List.range (ai ts)).map λk=>D.int (dD ts k:Int))):=b6 _ g;obtain⟨b1,b2,dt,fq⟩:=BV rD 31 (m,ts) g gK;have hw:=xw (c:=λbC=>ev pg Φ bC (.cmp .ne (.var 3) (.tup (.nil)))>>=λx=>eE x) (f:=λbC=>eF pg Φ bC (.cons (.asg 2 (.call tS (.cons (.var 2) (.cons (.idx (.var 3) (.lit (.int 0))) (.nil))))) (.cons (.asg 3 (.call q5 (.cons (.var 2) (.nil)))) (.nil))))
  (λN=>[some (.lst (is.map .int)),some (bk m ts),some (bk N.1 N.2),some (.tup ((ec N.2).map d2)),none]) (λN aK=>by
   simp only[Den.a0,Nat.reduceAdd,CW (VF _),uT]) (λN p r aK q=>by
   have az:p∈ec N.2:=(by rw[q];exact List.mem_cons_self);have ai:fF (.tup ((ec N.2).map d2)) (.int 0)=.ok (d2 p):=(by rw[q,uy,List.map_cons,yy]);simp only[Den.a0,Nat.reduceAdd,ai,J N p aK az,C _ (u3 aK az).1]) 31 (m,ts) 200 g gK (by decide)
 rw[<- yf]at hw;have qV:ex pg Φ [some (.lst (is.map .int)),some (bk m ts),some (bk m ts),some (.tup ((ec ts).map d2)),none] (.l2 (.cmp .ne (.var 3) (.tup (.nil))) (.cons (.asg 2 (.call tS (.cons (.var 2) (.cons (.idx (.var 3) (.lit (.int 0))) (.nil))))) (.cons (.asg 3 (.call q5 (.cons (.var 2) (.nil)))) (.nil))))=_:=hw;have my:=aC _ b1;rw[b2]at my;have my:Φ nT [bk (bar 31 (m,ts)).1 (bar 31 (m,ts)).2]=.ok (.tup []):=my;have CM:=aT 31 _ (by decide) b1 fq;rw[show bar 31 (bar 31 (m,ts))=bar 31 (m,ts) from xv b2]at CM;have CN:=E0 f6 b1;have oY:=E0 f6 g;have oY:Φ eX [.tup ((List.range (ai ts)).map λk=>D.int (dD ts k:Int))]=.ok (.lst ((pD ts).map .int)):=oY;rw[Rk (y0 g) (y0 b1) dt]at CN;have Me:=b6 _ b1;have Mf:fB (.tup []) (.tup [])=.ok true:=rfl;generalize bar 31 (m,ts)=N at *;simp only[Den.a0,Nat.reduceAdd,bc.w2,dO,aj,ak,qV,bu,My,my,CM,Mf,Me,CN,eR,oY,CU,acb]
end cU
end
section
namespace By
open Den bt eC cU gS gC
def d4{f:Nat}{fd:gy}(h:fds[f]?=some fd)(n:Nat)(ds:List D):run pg fds (n+1) f ds=c6 pg (run pg fds n) fd ds:=by rw[sq,h]
noncomputable abbrev cF(n:Nat):dW:=run pg fds n
def AZ(n:Nat)(c:List Int)(h:c.length<=1000):cF (n+1) 0 [au c]=.ok (.lst ((bB c).map au)):=(d4 (f:=0) rfl n _).trans (VI c h)
def WW(n:Nat)(c o:List Int):cF (n+1) 1 [au c,au o]=.ok (.aO (lies c o)):=(d4 (f:=1) rfl n _).trans (Ra c o)
def W3(n:Nat)(c:List Int)(os:List (List Int)):cF (n+2) 2 [au c,.lst (os.map au)]=.ok (.aO (os.any (lies c))):=(d4 (f:=2) rfl _ _).trans (Rb (WW n) c os)
def W7(n:Nat)(cs:List (List Int))(aD:∀c∈cs,c≠[])(h:(c1 cs).length<=63):cF (n+3) 3 [.lst (cs.map au)]=.ok (.tup ((ef cs).map au)):=(d4 (f:=3) rfl _ _).trans (Xs (W3 n) aD h)
def W8(n:Nat)(c:List Int)(h:c.length<=8):cF (n+1) 4 [au c]=.ok (.lst ((eK c).map au)):=(d4 (f:=4) rfl n _).trans (XH c h)
def A1{N:dN}(aK:Good N):∀t∈N.2,t.length<=8:=λt ay=>by have:=nF (aK.dw.cell t ay);have:=aK.dw.ai;omega
def H2(n:Nat)(N:dN)(aK:Good N):cF (n+2) 5 [bk N.1 N.2]=.ok (.lst ((bN N.2).map au)):=(d4 (f:=5) rfl _ _).trans (MY (W8 n) (A1 aK) aK.len (oZ aK.dw.ai aK.dw.cell))
def WM(n:Nat)(N:dN)(aK:Good N)(k:Nat):cF (n+3) 6 [bk N.1 N.2,.int ((k:Int)-1)]=.ok (.tup ((cl N.2 k).map au)):=(d4 (f:=6) rfl _ _).trans (KR k (H2 n N aK))
def tJ{N:dN}(aK:Good N){z:List Int}(hz:z∈bN N.2):z.length<=8:=by
 obtain⟨_,t,C,J⟩:=ic.mp hz;have:=J.length_le;have:=A1 aK t C;omega
def Ti{N:dN}(aK:Good N){p:dH}(f:el N.2 p.1 p.2):iC N.2 p.1 p.2≠[]:=λe=>by
 obtain⟨a,C,J,aC⟩:=G1 f aK.dw.cell;obtain⟨b,ab,_⟩:=Ad aK.dw f a aC;rw[e]at ab;cases ab
def E8{N:dN}(aK:Good N){p:dH}(f:el N.2 p.1 p.2):(lf (dj N.2 p.1 p.2)).length<=63:=by
 have:=(F0 f aK.dw.cell aK.dw.ai).ai;omega
def W2(n:Nat)(N:dN)(aK:Good N)(p:dH)(f:el N.2 p.1 p.2):cF (n+4) 7 [.lst ((iC N.2 p.1 p.2).map au)]=.ok (bk (off N.2 p).1 (off N.2 p).2):=by
 obtain⟨aj,ak⟩:=Th aK.dw f;have et:=Ae aK.dw f;have ay:=aK.dw.cell;have gK:=oZ aK.dw.ai ay;have a9:(dj N.2 p.1 p.2).length<=(bN N.2).length:=Zt _ _;have c4:∀c∈iC N.2 p.1 p.2,c.length<=8:=λc ag=>tJ aK (g6.mp (et c ag)).1
 have aA:(iC N.2 p.1 p.2).length<=63+63:=by
  unfold iC;have eu:=Zt (λz=>!decide (z=p.2)) N.2;have eG:=Zt (λz=>!decide (z=p.1)) (bB p.2);have n5:(bB p.2).length<=p.2.length:=(by unfold bB;split<;>simp);have rW:=tJ aK (f.bN ay).2;have YJ:=aK.len;rw[List.length_append];omega
 have hd:(c1 (nb (iC N.2 p.1 p.2))).length<=63:=by
  have:=hr (mZ (nb (iC N.2 p.1 p.2))) (ys:=nb (dj N.2 p.1 p.2)) λz hz=>by
   obtain⟨c,ag,e⟩:=List.mem_map.mp ((jS _ _).mp hz);rw[aj]at e;exact List.mem_map.mpr ⟨c,et c ag,e⟩
  have bu:(nb (dj N.2 p.1 p.2)).length=(dj N.2 p.1 p.2).length:=List.length_map _;omega
 have:=RX (pg:=pg) (Φ:=cF (n+3)) (W7 n) (Ti aK f) (λc ag=>(e9 ay (g6.mp (et c ag)).1).2.1) c4 aA (by rw[aj];exact E8 aK f) hd;rw[aj,ak]at this;exact(d4 (f:=7) rfl _ _).trans this
def H3(n:Nat)(N:dN)(aK:Good N):cF (n+3) 8 [bk N.1 N.2]=.ok (.tup ((ec N.2).map d2)):=(d4 (f:=8) rfl _ _).trans (tT aK.dw.cell aK.dw.ai (H2 n N aK) (AZ (n+1)))
def W9(n:Nat)(N:dN)(p:dH)(aK:Good N)(az:p∈ec N.2):cF (n+5) 9 [bk N.1 N.2,d2 p]=.ok (bk (off N.2 p).1 (off N.2 p).2):=by
 have f:=(uQ aK.dw.cell p).mp az;have c4:=tJ aK (f.bN aK.dw.cell).2;exact(d4 (f:=9) rfl _ _).trans (XI (AZ (n+3) p.2 (by omega)) (W2 n N aK p f) aK.len c4)
def WI(n k:Nat)(N:dN)(ax:k<200)(aK:Good N)(he:(bN N.2).length<=k):cF (n+6) 10 [bk N.1 N.2]=.ok (bk (bar k N).1 (bar k N).2):=(d4 (f:=10) rfl _ _).trans (J1 (H3 (n+2)) (W9 n) ax aK he)
def H6(n:Nat)(N:dN)(aK:Good N)(k:Nat):cF (n+4) 11 [bk N.1 N.2,.int ((k:Int)-1)]=.ok (.b7 (mk (cl N.2 k))):=(d4 (f:=11) rfl _ _).trans (Rq k (WM n N aK k) (qJ aK.dw.ai aK.dw.cell k))
def WK(n:Nat)(U xs:List (List Int))(d3:U.Nodup)(ao:xs.Nodup)(h:∀x∈xs,x∈U):cF (n+1) 12 [.lst (xs.map au),.b7 (mk U)]=.ok (.int (dh U xs:Int)):=(d4 (f:=12) rfl _ _).trans (Kc d3 ao h)
def WL(n:Nat)(U:List (List Int))(b:Nat)(d3:U.Nodup):cF (n+1) 13 [.int (b:Int),.b7 (mk U)]=.ok (hX U b):=(d4 (f:=13) rfl _ _).trans (KA d3 b)
def W4(n:Nat)(N:dN)(aK:Good N)(k:Nat):cF (n+5) 14 [bk N.1 N.2,.int (k:Int)]=.ok (.lst ((ey (e5 N.2 (k+1))).map cm)):=(d4 (f:=14) rfl _ _).trans (Ud k aK.dw.cell aK.dw.ai (H6 n N aK) (AZ (n+3)) (WK (n+3)))
def W6(n:Nat)(r q:Row):cF (n+1) 15 [cm r,cm q]=.ok (cm (r.1 ^^^ q.1,r.2 ^^^ q.2)):=(d4 (f:=15) rfl _ _).trans (Wf r q)
def AY(n:Nat)(B:cI)(r:Row)(h:(B.map (·.1)).Nodup):cF (n+2) 16 [cm r,.bE (du B)]=.ok (cm (red B r)):=(d4 (f:=16) rfl _ _).trans (T4 (W6 n) h r)
def WZ(n k:Nat)(h:0<k):cF (n+1) 17 [.int (k:Int)]=.ok (.int ((2 ^ lo k:Nat):Int)):=(d4 (f:=17) rfl _ _).trans (Rh k h)
def AX(n:Nat)(B:cI)(r:Row)(h:dG B)(fC:B.length<900):cF (n+3) 18 [.bE (du B),cm r]=.ok (.bE (du (grow B r))):=(d4 (f:=18) rfl _ _).trans (Og (AY n) (WZ (n+1)) h fC r)
def WJ(n:Nat)(rs:List Row)(h:rs.length<=63):cF (n+4) 19 [.lst (rs.map cm)]=.ok (.bE (du (dT [] rs))):=(d4 (f:=19) rfl _ _).trans (J3 (AX n) h)
def WR(n:Nat)(rs:List Row)(h:rs.length<=63):cF (n+4) 20 [.lst (rs.map cm)]=.ok (.lst ((eT rs).2.map λb:Nat=>D.int (b:Int))):=(d4 (f:=20) rfl _ _).trans (P5 (AX n) (AY (n+1)) h)
def H8(n:Nat)(N:dN)(k:Nat)(aK:Good N):∃G:List Nat,cF (n+6) 21 [bk N.1 N.2,.int (k:Int)]=.ok (.tup (G.map (hX (cl N.2 (k+1)))))/\Told N.2 k G:=by
 have hm:cF (n+5) 11 [bk N.1 N.2,.int (k:Int)]=.ok (.b7 (mk (cl N.2 (k+1)))):=by
  have:=H6 (n+1) N aK (k+1);rwa[show(((k+1:Nat):Int)-1)=(k:Int) by omega]at this
 obtain⟨ds,a,b⟩:=Um (pg:=pg) (Φ:=cF (n+5)) k aK.dw.cell aK.dw.ai (WR (n+1)) (W4 n N aK) (AY (n+3)) (AX (n+2)) (WL (n+4)) hm (WJ (n+1));exact⟨ds,(d4 (f:=21) rfl _ _).trans a,b⟩
def WQ(n:Nat)(N:dN)(aK:Good N):cF (n+7) 22 [bk N.1 N.2]=.ok (.tup ((List.range (ai N.2)).map λk=>D.int (dD N.2 k:Int))):=(d4 (f:=22) rfl _ _).trans (Pt (r9 aK.dw) (zW aK.dw) λk=>H8 n N k aK)
def WH(n:Nat)(is:List Int)(k:Nat):cF (n+1) 23 [.lst (is.map .int),.int (k:Int)]=.ok (.int (is.getD k 0)):=(d4 (f:=23) rfl _ _).trans (Kx is k)
def W0(n:Nat)(is:List Int)(k:Nat):∃r:Int,0<=r/\r<nr/\cF (n+2) 24 [.lst (is.map .int),.int (k:Int)]=.ok (.int r):=by
 obtain⟨r,a,b,e⟩:=RB (pg:=pg) (WH n is) k;exact⟨r,a,b,(d4 (f:=24) rfl _ _).trans e⟩
def WN(n:Nat)(i k:Int):∃r:Int,0<=r/\r<nr/\cF (n+1) 25 [.int i,.int k]=.ok (.int r):=by
 obtain⟨r,a,b,e⟩:=L8 (pg:=pg) (Φ:=cF n) i k;exact⟨r,a,b,(d4 (f:=25) rfl _ _).trans e⟩
def H5(n:Nat)(c o:List Int):cF (n+1) 26 [au c,au o]=.ok (.aO (lies c o)):=(d4 (f:=26) rfl n _).trans (QU c o)
def H9(n:Nat)(ts:List (List Int))(aD:∀c∈ts,c≠[])(h:(c1 ts).length<=63):cF (n+2) 27 [.lst (ts.map au)]=.ok (.tup ((mS ts).map au)):=(d4 (f:=27) rfl _ _).trans (QY (H5 n) rfl aD h)
def H7(n s:Nat)(c:List Int)(aa:s<=8)(ag:c.length<=8):cF (n+9) 28 [au c,.int (s:Int)]=.ok (.lst ((di s c).map au)):=F9 (fds:=fds) (f:=28) rfl s (n+9) c (by omega) ag
def W5(n:Nat)(i m:Int)(C:1<=m)(c4:m<=6):∃cs:List (List Int),cF (n+2) 29 [.int i,.int m]=.ok (.lst (cs.map au))/\(∀c∈cs,IsCell m c)/\hK m cs=true/\cs.length<=16:=by
 obtain⟨cs,e,r⟩:=VU (pg:=pg) (WN n) i m C c4;exact⟨cs,(d4 (f:=29) rfl _ _).trans e,r⟩
def WX(n:Nat)(i:Int)(h0:0<=i):∃m ts,cF (n+10) 30 [.int i,.int 5]=.ok (bk m ts)/\Net m ts/\m<=5/\ts.length<=20:=by
 obtain⟨m,ts,e,r⟩:=RO (pg:=pg) (Φ:=cF (n+9)) (H9 (n+7)) (H7 n) (W5 (n+7)) i h0;exact⟨m,ts,(d4 (f:=30) rfl _ _).trans e,r⟩
def WT(n:Nat)(N:dN)(aK:Good N)(h:Nat)(iR:h<=7):cF (n+10) 31 [bk N.1 N.2,.int (h:Int)]=.ok (.lst ((cl N.2 (h+1)).map au)):=by
 rw[<- Cm];exact(d4 (f:=31) rfl _ _).trans (QR (λc ag=>H7 n (h+1) c (by omega) ag) (A1 aK) aK.len (by rw[Cm];exact qJ aK.dw.ai aK.dw.cell _))
def WO(n:Nat)(N:dN)(aK:Good N):cF (n+1) 32 [bk N.1 N.2]=.ok (.int (ai N.2:Int)):=(d4 (f:=32) rfl _ _).trans (OW (r9 aK.dw))
def H4(n:Nat)(N:dN)(aK:Good N):cF (n+11) 33 [bk N.1 N.2]=.ok (.lst ((ew N.2).map au)):=(d4 (f:=33) rfl _ _).trans (QS aK.dw.cell aK.dw.ai (zW aK.dw) (WO (n+9) N aK) λk ax=>WT n N aK k ax)
def WV(n:Nat)(N:dN)(aK:Good N):cF (n+12) 35 [bk N.1 N.2]=.ok (.tup ((ec N.2).map d2)):=(d4 (f:=35) rfl _ _).trans (QT aK.dw.cell aK.dw.ai (H5 (n+10)) (H4 n N aK))
def WY(n:Nat)(N:dN)(p:dH)(aK:Good N)(az:p∈ec N.2):cF (n+12) 36 [bk N.1 N.2,d2 p]=.ok (bk (off N.2 p).1 (off N.2 p).2):=by
 have ay:=aK.dw.cell;have f:=(uQ ay p).mp az;have hm:∀c,c∈(ew N.2).filter (λc=>!decide (c∈[p.1,p.2]))<->c∈dj N.2 p.1 p.2:=λc=>by
  rw[Y9,zR,g6];simp
 have aA:((ew N.2).filter λc=>!decide (c∈[p.1,p.2])).length<=63:=ZX (Zt _ _) (zI aK.dw.ai ay);refine(d4 (f:=36) rfl _ _).trans (QX (H4 n N aK) ?_);generalize (ew N.2).filter (λc=>!decide (c∈[p.1,p.2]))=cs at hm aA;have aj:lf cs=lf (dj N.2 p.1 p.2):=E7 (λa aB=>(hm a).mp aB) λb ab=>⟨b,(hm b).mpr ab,λ_ h=>h⟩
 have ak:ef (nb cs)=ef (nb (dj N.2 p.1 p.2)):=by
  unfold nb;rw[aj];refine Ip (λa aB=>?_) (λb ab=>?_) λb ab=>?_
  .obtain⟨c,ag,rfl⟩:=List.mem_map.mp aB;exact List.mem_map.mpr ⟨c,(hm c).mp ag,rfl⟩
  .obtain⟨c,ag,rfl⟩:=List.mem_map.mp ab;exact⟨_,List.mem_map.mpr ⟨c,(hm c).mpr ag,rfl⟩,λ_ h=>h⟩
  .obtain⟨c,ag,rfl⟩:=List.mem_map.mp ab;exact Au (nz _) (pT ay ag) λx ao=>jT.mpr ⟨c,ag,ao⟩
 have h3:∀c∈cs,c∈bN N.2:=λc ag=>(g6.mp ((hm c).mp ag)).1
 have:=QV (pg:=pg) (Φ:=cF (n+10)) (H9 (n+8)) (λc ag=>⟨(e9 ay (h3 c ag)).1,(e9 ay (h3 c ag)).2.1⟩) (λc ag=>tJ aK (h3 c ag)) aA (by rw[aj];exact E8 aK f);rw[aj,ak]at this;exact(d4 (f:=34) rfl _ _).trans this
def WU(n:Nat)(h:Int)(aa:List Int)(aA:aa.length<100):cF (n+1) 37 [au (h::aa)]=.ok (.lst ((kR ((h-1)::aa)).map .int)):=(d4 (f:=37) rfl _ _).trans (Q5 aA)
def WS(is:List Int):run pg fds 21 38 [.lst (is.map .int)]=.ok (.aO true) :=
 (d4 (f:=38) rfl _ _).trans (QP (W0 18 is) (WX 10) (WV 8) (WY 8) (H3 17) (WI 14) (WQ 13) (WU 19) λN aK n=>by
  obtain⟨G,_,b⟩:=H8 0 N n aK;exact b.sum.2)
end By
end
section
namespace bT
open PySem PySem.Spec PyProof.Rows bM
noncomputable abbrev D:=Den.D
noncomputable abbrev aY:=Den.aY
noncomputable abbrev bx:=Den.R
noncomputable abbrev dm:=List (Option V)
noncomputable def cz{α:Type}(r:bx α)(Q:α->Prop)(E:Nat->Prop):Prop:=match r with
 |.ok a=>Q a
 |.exc c=>E c
 |.bad=>False
def br{α β:Type}{r:bx α}{f:α->bx β}{Q:β->Prop}{E:Nat->Prop}:cz (r>>=f) Q E<->cz r (λa=>cz (f a) Q E) E:=by
 cases r<;>exact Iff.rfl
def bY{α:Type}{r:bx α}{Q iI:α->Prop}{E sW:Nat->Prop}(h:cz r Q E)(aL:∀a,Q a->iI a)(he:∀c,E c->sW c):cz r iI sW:=by
 cases r with
 |ok a=>exact aL a h
 |exc c=>exact he c h
 |bad=>exact h
noncomputable def hl(af:List (List Int×Int)):List (List Key×V):=af.map λp=>(p.1.map Sum.inl,V.int p.2)
noncomputable def eP(G:aw):List (Int×Int×Int)->List (Key×V)->Prop
 |[],ys=>ys=[]
 |p::aS,ys=>∃b r,ys=(Sum.inl p.1,.ref b)::r/\G b=some (.tup [.int p.2.1,.int p.2.2])/\eP G aS r
theorem eP.mono{G aI:aw}(s:bQ G aI):∀{aS:List (Int×Int×Int)}{ys:List (Key×V)},eP G aS ys->eP aI aS ys
 |[],_,h=>h
 |p::aS,_,⟨b,r,e,C,J⟩=>⟨b,r,e,s _ _ C,J.mono s⟩
noncomputable def hV(G:aw):List (List Int)->List V->Prop
 |[],xs=>xs=[]
 |c::cs,xs=>∃b r,xs=.ref b::r/\G b=some (.tup (c.map V.int))/\hV G cs r
theorem hV.mono{G aI:aw}(s:bQ G aI):∀{cs:List (List Int)}{xs:List V},hV G cs xs->hV aI cs xs
 |[],_,h=>h
 |c::cs,_,⟨b,r,e,C,J⟩=>⟨b,r,e,s _ _ C,J.mono s⟩
noncomputable def eO(G:aw):List (List Int×List (List Int))->List (List Key×V)->Prop
 |[],ys=>ys=[]
 |p::aS,ys=>∃b xs r,ys=(p.1.map Sum.inl,.ref b)::r/\G b=some (.tup xs)/\hV G p.2 xs/\eO G aS r
theorem eO.mono{G aI:aw}(s:bQ G aI):∀{aS:List (List Int×List (List Int))}{ys:List (List Key×V)},eO G aS ys->eO aI aS ys
 |[],_,h=>h
 |p::aS,_,⟨b,xs,r,e,C,J,aC⟩=>⟨b,xs,r,e,s _ _ C,J.mono s,aC.mono s⟩
mutual
noncomputable def Rep (K:W.Frag) (G:aw):D->V->Prop
 |.dp,v=>v=.dp
 |.aO b,v=>v=.aO b
 |.int i,v=>v=.int i
 |.str x,v=>v=.str x
 |.tup ds,v=>∃a xs,v=.ref a/\G a=some (.tup xs)/\bD K G ds xs
 |.lst ds,v=>∃a xs,v=.ref a/\eo K G a xs/\bD K G ds xs
 |.b7 af,v=>∃a ba,v=.ref a/\G a=some (.dv ba (.dg (hl af)))
 |.bE af,v=>∃a ba ys,v=.ref a/\G a=some (.dv ba (.d0 ys))/\eP G af ys
 |.cG af,v=>∃a ba ys,v=.ref a/\G a=some (.dv ba (.dg ys))/\eO G af ys
 |.fs _,_=>False
noncomputable def bD (K:W.Frag) (G:aw):List D->List V->Prop
 |[],xs=>xs=[]
 |d::ds,xs=>∃v r,xs=v::r/\Rep K G d v/\bD K G ds r
end
section
variable{K:W.Frag}{G aI H aq:aw}
def HH(s:bQ G aI){a:Addr}{xs:List V}(h:fp K G a xs):fp K aI a xs:=by
 rcases h with(h|⟨o,h⟩)|h
 .exact .inl (.inl (s _ _ h))
 .exact .inl (.inr ⟨o,s _ _ h⟩)
 .exact .inr h
def iF(s:bQ G aI){a:Addr}{xs:List V}(h:G a=some (.tup xs)):fp K aI a xs:=.inl (.inl (s _ _ h))
def lV(s:bQ G aI){a:Addr}{xs:List V}(h:eo K G a xs):eo K aI a xs:=by
 rcases h with(h|⟨o,h⟩)|h
 .exact .inl (.inl (s _ _ h))
 .exact .inl (.inr ⟨o,s _ _ h⟩)
 .exact .inr h
def Am(s:bQ G aI){a:Addr}{u:dX}(h:gW G a u):gW aI a u:=by
 rcases h with h|⟨o,h⟩
 .exact .inl (s _ _ h)
 .exact .inr ⟨o,s _ _ h⟩
mutual
theorem Rep.mono (s:bQ G aI):∀{d:D}{v:V},Rep K G d v->Rep K aI d v
 |.dp,_,h=>h
 |.aO _,_,h=>h
 |.int _,_,h=>h
 |.str _,_,h=>h
 |.tup ds,_,⟨a,xs,e,h,r⟩=>⟨a,xs,e,s _ _ h,bD.mono s r⟩
 |.lst ds,_,⟨a,xs,e,h,r⟩=>⟨a,xs,e,lV s h,bD.mono s r⟩
 |.b7 _,_,⟨a,ba,e,h⟩=>⟨a,ba,e,s _ _ h⟩
 |.bE _,_,⟨a,ba,ys,e,h,r⟩=>⟨a,ba,ys,e,s _ _ h,r.mono s⟩
 |.cG _,_,⟨a,ba,ys,e,h,r⟩=>⟨a,ba,ys,e,s _ _ h,r.mono s⟩
 |.fs _,_,h=>h
theorem bD.mono (s:bQ G aI):∀{ds:List D}{xs:List V},bD K G ds xs->bD K aI ds xs
 |[],_,h=>h
 |d::ds,_,⟨v,r,e,C,J⟩=>⟨v,r,e,Rep.mono s C,bD.mono s J⟩
end
theorem bD.length:∀{ds:List D}{xs:List V},bD K G ds xs->ds.length=xs.length
 |[],_,h=>by cases h;rfl
 |d::ds,_,⟨v,r,e,C,J⟩=>by subst e;simp[bD.length J]
theorem bD.append:∀{ds ah:List D}{xs ys:List V},bD K G ds xs->bD K G ah ys->bD K G (ds++ah) (xs++ys)
 |[],_,_,_,h,q=>by cases h;exact q
 |d::ds,_,_,_,⟨v,r,e,C,J⟩,q=>by subst e;exact⟨v,r++_,rfl,C,bD.append J q⟩
theorem bD.get:∀{ds:List D}{xs:List V}{i:Nat}{d:D},bD K G ds xs->ds[i]?=some d->∃v,xs[i]?=some v/\Rep K G d v
 |[],_,_,_,h,e=>by simp at e
 |d::ds,_,0,_,⟨v,r,e,C,J⟩,q=>by subst e;simp at q;subst q;exact⟨v,rfl,C⟩
 |d::ds,_,i+1,_,⟨v,r,e,C,J⟩,q=>by subst e;simpa using bD.get J (by simpa using q)
theorem bD.drop:∀{ds:List D}{xs:List V}(n:Nat),bD K G ds xs->bD K G (ds.drop n) (xs.drop n)
 |_,_,0,h=>by simpa using h
 |[],_,n+1,h=>by cases h;simp[bD]
 |d::ds,_,n+1,⟨v,r,e,C,J⟩=>by subst e;simpa using bD.drop n J
theorem bD.take:∀{ds:List D}{xs:List V}(n:Nat),bD K G ds xs->bD K G (ds.take n) (xs.take n)
 |_,_,0,h=>by simp[bD]
 |[],_,n+1,h=>by cases h;simp[bD]
 |d::ds,_,n+1,⟨v,r,e,C,J⟩=>by subst e;exact⟨v,r.take n,by simp,C,bD.take n J⟩
def bD.snoc{ds:List D}{xs:List V}{d:D}{v:V}(h:bD K G ds xs)(q:Rep K G d v):bD K G (ds++[d]) (xs++[v]):=h.append ⟨v,[],rfl,q,rfl⟩
noncomputable def View(K:W.Frag)(G H:aw):D->V->Prop
 |.b7 af,v=>∃a,v=.ref a/\gW H a (.dg (hl af))
 |.bE af,v=>∃a ys,v=.ref a/\gW H a (.d0 ys)/\eP G af ys
 |.cG af,v=>∃a ys,v=.ref a/\gW H a (.dg ys)/\eO G af ys
 |.lst ds,v=>∃a xs,v=.ref a/\eo K H a xs/\bD K G ds xs
 |d,v=>Rep K G d v
def Rep.view(s:bQ G H):∀{d:D}{v:V},Rep K G d v->View K G H d v
 |.lst ds,_,⟨a,xs,e,h,r⟩=>⟨a,xs,e,lV s h,r⟩
 |.dp,_,h=>h
 |.aO _,_,h=>h
 |.int _,_,h=>h
 |.str _,_,h=>h
 |.tup _,_,h=>h
 |.b7 _,_,⟨a,ba,e,h⟩=>⟨a,e,.inr ⟨ba,s _ _ h⟩⟩
 |.bE _,_,⟨a,ba,ys,e,h,r⟩=>⟨a,ys,e,.inr ⟨ba,s _ _ h⟩,r⟩
 |.cG _,_,⟨a,ba,ys,e,h,r⟩=>⟨a,ys,e,.inr ⟨ba,s _ _ h⟩,r⟩
 |.fs _,_,h=>h
structure Ext(G H aI aq:aw):Prop where
 g:bQ G aI
 h:bQ H aq
 sub:bQ aI aq
 new:∀a,G a=none->H a≠none->aI a=none
 dK:∀b xs,aq b=some (.tup xs)->H b=some (.tup xs)\/aI b=some (.tup xs)
theorem Ext.refl(s:bQ G H):Ext G H G H:=⟨bQ.refl G,bQ.refl H,s,λ_ h _=>h,λ_ _ h=>.inl h⟩
theorem Ext.trans{aH H1:aw}(x:Ext G H aH H1)(y:Ext aH H1 aI aq):Ext G H aI aq :=
 ⟨x.g.trans y.g,x.h.trans y.h,y.sub,λa C J=>y.new a (x.new a C J) (λz=>by
  cases q:H a with
  |none=>exact J q
  |some o=>rw[x.h a o q]at z;cases z),λb xs z=>(y.dK b xs z).elim (λz=>(x.dK b xs z).imp id λz=>y.g _ _ z) .inr⟩
def gg{H:aw}{a:Addr}{o:dX}(h:H a=none):bQ H (upd H a o):=λb u e=>by rw[cT (mV e h)];exact e
def View.ext{H1 aH:aw}(x:Ext G H aH H1):∀{d:D}{v:V},View K G H d v->View K aH H1 d v
 |.lst ds,_,⟨a,xs,e,h,r⟩=>⟨a,xs,e,lV x.h h,r.mono x.g⟩
 |.dp,_,h=>h
 |.aO _,_,h=>h
 |.int _,_,h=>h
 |.str _,_,h=>h
 |.tup _,_,h=>Rep.mono (K:=K) x.g h
 |.b7 _,_,⟨a,e,h⟩=>⟨a,e,Am x.h h⟩
 |.bE _,_,⟨a,ys,e,h,r⟩=>⟨a,ys,e,Am x.h h,r.mono x.g⟩
 |.cG _,_,⟨a,ys,e,h,r⟩=>⟨a,ys,e,Am x.h h,r.mono x.g⟩
 |.fs _,_,h=>h
def Ext.own(s:bQ G H){a:Addr}{o:dX}(h:H a=none)(av:∀xs,o≠.tup xs):Ext G H G (upd H a o):=⟨bQ.refl G,gg h,s.trans (gg h),λ_ C _=>C,λb xs e=>by
 by_cases q:b=a
 .subst q;rw[dF]at e;cases e;exact absurd rfl (av xs)
 .rw[cT q]at e;exact .inl e⟩
def Ext.put(s:bQ G H){a:Addr}{o:dX}(h:H a=none):Ext G H (upd G a o) (upd H a o):=by
 have mF:G a=none:=s.free h;refine⟨gg mF,gg h,λb u e=>?_,λb C J=>?_,λb xs e=>?_⟩
 .by_cases q:b=a
  .subst q;rw[dF]at e ⊢;exact e
  .rw[cT q]at e ⊢;exact s b u e
 .rw[cT (λq=>J (by rw[q];exact h))];exact C
 .by_cases q:b=a
  .subst q;rw[dF]at e ⊢;exact .inr e
  .rw[cT q]at e;exact .inl e
end
inductive eB where
 |view|val|fresh
noncomputable def cy(K:W.Frag)(H aI aq:aw):eB->D->V->Prop
 |.view,d,v=>View K aI aq d v
 |.val,d,v=>Rep K aI d v
 |.fresh,.lst ds,v=>∃a xs,v=.ref a/\aq a=some (.lst xs)/\H a=none/\aI a=none/\bD K aI ds xs
 |.fresh,.b7 _,_=>False
 |.fresh,.bE _,_=>False
 |.fresh,.cG _,_=>False
 |.fresh,d,v=>Rep K aI d v
noncomputable def g4:D->Bool
 |.lst _=>true
 |.b7 _=>true
 |.bE _=>true
 |.cG _=>true
 |_=>false
noncomputable def jC(K:W.Frag)(G:aw):D->dX->Prop
 |.lst ds,o=>∃xs,o=.lst xs/\bD K G ds xs
 |.b7 af,o=>o=.dg (hl af)
 |.bE af,o=>∃ys,o=.d0 ys/\eP G af ys
 |.cG af,o=>∃ys,o=.dg ys/\eO G af ys
 |_,_=>False
theorem jC.mono{K:W.Frag}{G aI:aw}(s:bQ G aI):∀{d:D}{o:dX},jC K G d o->jC K aI d o
 |.lst _,_,⟨xs,e,r⟩=>⟨xs,e,r.mono s⟩
 |.b7 _,_,h=>h
 |.bE _,_,⟨ys,e,r⟩=>⟨ys,e,r.mono s⟩
 |.cG _,_,⟨ys,e,r⟩=>⟨ys,e,r.mono s⟩
 |.dp,_,h=>h
 |.aO _,_,h=>h
 |.int _,_,h=>h
 |.str _,_,h=>h
 |.tup _,_,h=>h
 |.fs _,_,h=>h
structure eD(K:W.Frag)(mu:List Nat)(G H:aw)(ρ:aY)(σ:dm):Prop where
 len:ρ.length=σ.length
 sub:bQ G H
 val:∀(i:Nat)(d:D),ρ[i]?=some (some d)->i∉mu->∃v,σ[i]?=some (some v)/\Rep K G d v
 own:∀(i:Nat)(d:D),ρ[i]?=some (some d)->i∈mu->g4 d=false->∃v,σ[i]?=some (some v)/\Rep K G d v
 lst:∀(i:Nat)(d:D),ρ[i]?=some (some d)->i∈mu->g4 d=true->∃a o,σ[i]?=some (some (V.ref a))/\H a=some o/\G a=none/\jC K G d o
 dK:∀b xs,H b=some (.tup xs)->G b=some (.tup xs)
 apart:∀(i j:Nat)(d e:D)(a b:Addr),ρ[i]?=some (some d)->ρ[j]?=some (some e)->g4 d=true->g4 e=true->i∈mu->j∈mu->i≠j->σ[i]?=some (some (V.ref a))->σ[j]?=some (some (V.ref b))->a≠b
def eD.ext{K:W.Frag}{mu:List Nat}{G H aI aq:aw}{ρ:aY}{σ:dm}(h:eD K mu G H ρ σ)(x:Ext G H aI aq):eD K mu aI aq ρ σ where
 len:=h.len
 sub:=x.sub
 val:=λi d e hm=>let ⟨v,a,b⟩:=h.val i d e hm;⟨v,a,b.mono x.g⟩
 own:=λi d e hm aA=>let ⟨v,a,b⟩:=h.own i d e hm aA;⟨v,a,b.mono x.g⟩
 lst:=λi d e hm aA=>let ⟨a,o,C,J,aC,aT⟩:=h.lst i d e hm aA;⟨a,o,C,x.h _ _ J,x.new a aC (by rw[J];exact λz=>nomatch z),aT.mono x.g⟩
 dK:=λb xs z=>(x.dK b xs z).elim (λz=>x.g _ _ (h.dK b xs z)) id
 apart:=h.apart
theorem eD.view{K:W.Frag}{mu:List Nat}{G H:aw}{ρ:aY}{σ:dm}(h:eD K mu G H ρ σ){i:Nat}{d:D}(e:ρ[i]?=some (some d)):∃v,σ[i]?=some (some v)/\View K G H d v:=by
 by_cases hm:i∈mu
 .cases hd:g4 d with
  |false=>obtain⟨v,C,J⟩:=h.own i _ e hm hd;exact⟨v,C,J.view h.sub⟩
  |true =>
   obtain⟨a,o,C,J,aC,aT⟩:=h.lst i d e hm hd;cases d with
   |lst ds=>obtain⟨xs,rfl,r⟩:=aT;exact⟨_,C,a,xs,rfl,.inl (.inl J),r⟩
   |b7 af=>cases aT;exact⟨_,C,a,rfl,.inl J⟩
   |bE af=>obtain⟨ys,rfl,r⟩:=aT;exact⟨_,C,a,ys,rfl,.inl J,r⟩
   |cG af=>obtain⟨ys,rfl,r⟩:=aT;exact⟨_,C,a,ys,rfl,.inl J,r⟩
   |_=>cases hd
 .obtain⟨v,C,J⟩:=h.val i d e hm;exact⟨v,C,J.view h.sub⟩
noncomputable abbrev cu:=Nat->Value->List Addr->Heap->Prop
noncomputable def wx(X:aQ)(pins:List (Addr×Obj))(H:aw)(a:Addr):Prop :=
 H a=none/\(a∈X.ex\/X.fl.heap.get? a=none)/\a≠X.env.locals/\(∀x c,X.env.cells.lookup x=some c->c≠a)/\∀p∈X.fV++pins,p.1≠a
def wx.of{X:aQ}{pins:List (Addr×Obj)}{σ:dm}{H aq:aw}{s:Shared}{a:Addr}(I:Inv X pins σ H s)(h:s.heap.get? a=none)(h':aq a=none):wx X pins aq a:=by
 have no:∀{b:Addr}{o:Obj},s.heap.get? b=some o->b≠a:=λq z=>by rw[z,h]at q;cases q
 refine⟨h',?_,λz=>?_,λx c q=>?_,λp q=>no (I.pin p q).1⟩
 .by_cases ao:a∈X.ex
  .exact .inl ao
  .refine .inr ?_;cases q:X.fl.heap.get? a with
   |none=>rfl
   |some o=>obtain⟨bG,e⟩:=I.base.there a o q ao;rw[h]at e;cases e
 .obtain⟨m,⟨o,_,_,av,_⟩,_⟩:=I.loc;exact no av z.symm
 .obtain⟨v,o,av,_⟩:=I.cell x c q;exact no av
noncomputable def e2(xp:cu)(X:aQ)(c:Nat)(H:aw):Prop:=∀(pins:List (Addr×Obj))(σ:dm)(aq:aw)(s':Shared)(e:Value)(l:List Addr),Inv X pins σ aq s'->bQ H aq->(∀a∈l,wx X pins aq a)->xp c e l s'.heap->X.cA e s'
def e2.mono{xp:cu}{X:aQ}{c:Nat}{H aq:aw}(h:e2 xp X c H)(s:bQ H aq):e2 xp X c aq:=λpins σ aW s' e l I q n x=>h pins σ aW s' e l I (s.trans q) n x
noncomputable def bj(xp:cu)(X:aQ)(mu:List Nat)(m:eB)(f:aY->bx D):TE:=λσ H Q =>
 ∃G ρ,eD X.K mu G H ρ σ/\cz (f ρ) (λd=>∀v aI aq,Ext G H aI aq->cy X.K H aI aq m d v->Q v aq) (λc=>e2 xp X c H)
theorem cy.view{K:W.Frag}{H aI aq:aw}(s:bQ aI aq):∀{m:eB}{d:D}{v:V},cy K H aI aq m d v->View K aI aq d v
 |.view,_,_,h=>h
 |.val,_,_,h=>Rep.view s h
 |.fresh,.lst ds,_,⟨a,xs,e,C,_,_,r⟩=>⟨a,xs,e,.inl (.inl C),r⟩
 |.fresh,.dp,_,h=>h
 |.fresh,.aO _,_,h=>h
 |.fresh,.int _,_,h=>h
 |.fresh,.str _,_,h=>h
 |.fresh,.tup _,_,h=>h
 |.fresh,.b7 _,_,h=>h.elim
 |.fresh,.bE _,_,h=>h.elim
 |.fresh,.cG _,_,h=>h.elim
 |.fresh,.fs _,_,h=>h
theorem aM.val{xp:cu}{X:aQ}{mu:List Nat}{e:Expr}{f:aY->bx D}(h:aM X e (bj xp X mu .fresh f)):aM X e (bj xp X mu .val f):=by
 intro pins s σ H Q I ⟨G,ρ,aa,hw⟩;refine h pins s σ H Q I ⟨G,ρ,aa,bY hw (λd k v aI aq x r=>?_) λ_ q=>q⟩;cases d with
 |lst ds =>
  obtain⟨a,xs,rfl,C,J,aC,aT⟩:=r;refine k _ (upd aI a (.lst xs)) aq ⟨x.g.trans (gg aC),x.h,λb o q=>?_,λb aU bq=>?_,λb xs q=>(x.dK b xs q).imp id λz=>gg aC _ _ z⟩ ⟨a,xs,rfl,.inl (.inl dF),aT.mono (gg aC)⟩
  .by_cases ab:b=a
   .subst ab;rw[dF]at q;rw[C];exact q
   .rw[cT ab]at q;exact x.sub b o q
  .rw[cT (λz=>bq (by rw[z];exact J))];exact x.new b aU bq
 |b7 _=>exact r.elim
 |bE _=>exact r.elim
 |cG _=>exact r.elim
 |_=>exact k v aI aq x r
theorem aM.view{xp:cu}{X:aQ}{mu:List Nat}{m:eB}{e:Expr}{f:aY->bx D}(h:aM X e (bj xp X mu m f)):aM X e (bj xp X mu .view f):=by
 intro pins s σ H Q I ⟨G,ρ,aa,hw⟩;exact h pins s σ H Q I ⟨G,ρ,aa,bY hw (λd k v aI aq x r=>k v aI aq x (r.view x.sub)) λ_ q=>q⟩
section
variable{xp:cu}{X:aQ}{mu:List Nat}{pg:Den.dy}{Φ:Den.dW}
def Hh{i:Nat}{x:Str}{p:Pos}(aK:X.N[i]?=some x)(aN:fA X.env.scope x)(C:(x==("__debug__":Str))=false)(J:(x==("__classdict__":Str))=false):aM X (.Name x p) (bj xp X mu .view λρ=>Den.ev pg Φ ρ (.var i)):=by
 intro pins s σ H Q I ⟨G,ρ,aa,hw⟩;dsimp only at hw;cases e:ρ[i]? with
 |none=>rw[Den.tH,e]at hw;exact hw.elim
 |some o =>
  cases o with
  |none=>rw[Den.tH,e]at hw;exact hw.elim
  |some d =>
   rw[Den.tI i e]at hw;obtain⟨v,a,b⟩:=aa.view e;exact gO aK aN C J pins s σ H Q I ⟨v,a,hw v G H (Ext.refl aa.sub) b⟩
def Vo{i:Nat}{x:Str}{p:Pos}(hm:i∉mu)(aK:X.N[i]?=some x)(aN:fA X.env.scope x)(C:(x==("__debug__":Str))=false)(J:(x==("__classdict__":Str))=false):aM X (.Name x p) (bj xp X mu .val λρ=>Den.ev pg Φ ρ (.var i)):=by
 intro pins s σ H Q I ⟨G,ρ,aa,hw⟩;dsimp only at hw;cases e:ρ[i]? with
 |none=>rw[Den.tH,e]at hw;exact hw.elim
 |some o =>
  cases o with
  |none=>rw[Den.tH,e]at hw;exact hw.elim
  |some d =>
   rw[Den.tI i e]at hw;obtain⟨v,a,b⟩:=aa.val i d e hm;exact gO aK aN C J pins s σ H Q I ⟨v,a,hw v G H (Ext.refl aa.sub) b⟩
def Hb{d:D}{c:Const}{j:Nat}{p:Pos}{m:eB}(h:Den.litOk d c=true):aM X (.Constant c j p) (bj xp X mu m λρ=>Den.ev pg Φ ρ (.lit d)):=by
 intro pins s σ H Q I ⟨G,ρ,aa,hw⟩;dsimp only at hw;rw[Den.C7]at hw;have fin:∀v,cy X.K H G H m d v->Q v H:=λv r=>hw v G H (Ext.refl aa.sub) r
 cases d with
 |dp=>cases c<;>simp[Den.litOk]at h;exact SI pins s σ H Q I (fin _ (by cases m<;>rfl))
 |aO b =>
  cases c<;>simp[Den.litOk]at h;subst h;exact Ss pins s σ H Q I (fin _ (by cases m<;>rfl))
 |int i =>
  cases c<;>simp[Den.litOk]at h;subst h;exact Gd pins s σ H Q I (fin _ (by cases m<;>rfl))
 |str x =>
  cases c<;>simp[Den.litOk]at h;subst h;exact SO pins s σ H Q I (fin _ (by cases m<;>rfl))
 |_=>cases c<;>simp[Den.litOk]at h
noncomputable def lS(K:W.Frag)(g:D->D->bx D):gi:=λx y H Q=>∃G bf cV,bQ G H/\View K G H bf x/\View K G H cV y/\cz (g bf cV) (λd=>∀v aI aq,Ext G H aI aq->cy K H aI aq .fresh d v->Q v aq) (λ_=>False)
def cy.old{K:W.Frag}{H H1 aI aq:aw}(s:bQ H H1):∀{m:eB}{d:D}{v:V},cy K H1 aI aq m d v->cy K H aI aq m d v
 |.view,_,_,h=>h
 |.val,_,_,h=>h
 |.fresh,.lst ds,_,⟨a,xs,e,C,J,aC,r⟩=>⟨a,xs,e,C,s.free J,aC,r⟩
 |.fresh,.dp,_,h=>h
 |.fresh,.aO _,_,h=>h
 |.fresh,.int _,_,h=>h
 |.fresh,.str _,_,h=>h
 |.fresh,.tup _,_,h=>h
 |.fresh,.b7 _,_,h=>h
 |.fresh,.bE _,_,h=>h
 |.fresh,.cG _,_,h=>h
 |.fresh,.fs _,_,h=>h
def UC{bg cj:aY->bx D}{g:D->D->bx D}{a b:Expr}{op:Operator}{pos:Pos}(a4:∀x y c,g x y≠.exc c)(av:dk X (binaryOp op) (lS X.K g))(aB:aM X a (bj xp X mu .view bg))(ab:aM X b (bj xp X mu .view cj)):
  aM X (.BinOp a op b pos) (bj xp X mu .fresh λρ=>bg ρ>>=λx=>cj ρ>>=λy=>g x y):=by
 intro pins s σ H Q I ⟨G,ρ,aa,hw⟩;refine SK av aB ab pins s σ H Q I ?_;refine⟨G,ρ,aa,bY (br.mp hw) (λbf k v aH H1 aP aG=>?_) λ_ q=>q⟩;refine⟨aH,ρ,aa.ext aP,bY (br.mp k) (λcV aR v2 cf aW b5 aZ=>?_) λ_ q=>q.mono aP.h⟩;refine⟨cf,bf,cV,b5.sub,View.ext b5 aG,aZ,?_⟩;cases q:g bf cV with
 |ok d =>
  rw[q]at aR;exact λvQ j6 bP jw ee=>aR vQ j6 bP ((aP.trans b5).trans jw) (ee.old (aP.h.trans b5.h))
 |exc c=>exact absurd q (a4 _ _ _)
 |bad=>rw[q]at aR;exact aR
def mE{K:W.Frag}{G H:aw}{Q:c0}{d:D}{v:V}(aa:bQ G H)(k:∀v aI aq,Ext G H aI aq->cy K H aI aq .fresh d v->Q v aq)(r:cy K H G H .fresh d v):Q v H:=k v G H (Ext.refl aa) r
def LW:dk X (binaryOp .Sub) (lS X.K (Den.ep .sub)):=by
 intro pins s σ H x y v u Q I a7 bO ⟨G,bf,cV,aa,bS,d9,hw⟩;cases bf<;>cases cV<;>first|exact hw.elim|skip
 exact Sh pins s σ H x y v u Q I a7 bO ⟨_,_,bS,d9,mE aa hw rfl⟩
def LS:dk X (binaryOp .Mod) (lS X.K (Den.ep .mod)):=by
 intro pins s σ H x y v u Q I a7 bO ⟨G,bf,cV,aa,bS,d9,hw⟩;cases bf<;>cases cV<;>first|exact hw.elim|skip
 rename_i i j;rw[Den.mod_int]at hw
 by_cases h:0<j
 .rw[if_pos h]at hw;exact Sf pins s σ H x y v u Q I a7 bO ⟨_,_,bS,d9,h,mE aa hw rfl⟩
 .rw[if_neg h]at hw;exact hw.elim
def LP:dk X (binaryOp .FloorDiv) (lS X.K (Den.ep .fdiv)):=by
 intro pins s σ H x y v u Q I a7 bO ⟨G,bf,cV,aa,bS,d9,hw⟩;cases bf<;>cases cV<;>first|exact hw.elim|skip
 rename_i i j;rw[Den.Dl]at hw
 by_cases h:0<j/\j<1073741824
 .rw[if_pos h]at hw;exact R8 pins s σ H x y v u Q I a7 bO ⟨_,_,bS,d9,h,mE aa hw rfl⟩
 .rw[if_neg h]at hw;exact hw.elim
end
mutual
noncomputable def toPy:D->PyData
 |.dp=>.none
 |.aO b=>.bool b
 |.int i=>.int i
 |.str x=>.str x
 |.tup xs=>.tuple (hv xs)
 |.lst xs=>.list (hv xs)
 |.b7 _=>.dict []
 |.bE _=>.dict []
 |.cG _=>.dict []
 |.fs _=>.dict []
noncomputable def hv:List D->List PyData
 |[]=>[]
 |d::ds=>toPy d::hv ds
end
mutual
theorem q1:∀a b:D,PyData.eqv (toPy a) (toPy b)=Den.f5 a b
 |.dp,b=>by cases b<;>rfl
 |.aO _,b=>by cases b<;>rfl
 |.int _,b=>by cases b<;>rfl
 |.str _,b=>by cases b<;>rfl
 |.tup xs,b=>by
  cases b with
  |tup ys=>exact yc xs ys
  |_=>rfl
 |.lst xs,b=>by
  cases b with
  |lst ys=>exact yc xs ys
  |_=>rfl
 |.b7 _,b=>by cases b<;>rfl
 |.bE _,b=>by cases b<;>rfl
 |.cG _,b=>by cases b<;>rfl
 |.fs _,b=>by cases b<;>rfl
theorem yc:∀a b:List D,PyData.eqvAll (hv a) (hv b)=Den.kg a b
 |[],[]=>rfl
 |[],_::_=>rfl
 |_::_,[]=>rfl
 |x::xs,y::ys=>by simp only[hv,PyData.eqvAll,Den.kg,q1 x y,yc xs ys]
end
mutual
theorem pX:∀(n:Nat)(d:D),Den.cY n d=true->(toPy d).canLay0=true/\(toPy d).depth<=n
 |n,.dp,_=>⟨rfl,Zo _⟩
 |n,.aO _,_=>⟨rfl,Zo _⟩
 |n,.int _,_=>⟨rfl,Zo _⟩
 |0,.str x,h=>⟨h,Zo _⟩
 |n+1,.str x,h=>⟨h,Zo _⟩
 |0,.tup _,h=>by cases h
 |n+1,.tup xs,h=>by
  obtain⟨a,b⟩:=AF n xs h;exact⟨a,by show PyData.depthAll (hv xs)+1<=n+1;omega⟩
 |0,.lst _,h=>by cases h
 |n+1,.lst xs,h=>by
  obtain⟨a,b⟩:=AF n xs h;exact⟨a,by show PyData.depthAll (hv xs)+1<=n+1;omega⟩
 |0,.b7 _,h=>by cases h
 |n+1,.b7 _,h=>by cases h
 |0,.bE _,h=>by cases h
 |0,.cG _,h=>by cases h
 |n+1,.cG _,h=>by cases h
 |n+1,.bE _,h=>by cases h
 |0,.fs _,h=>by cases h
 |n+1,.fs _,h=>by cases h
theorem AF:∀(n:Nat)(ds:List D),ds.all (Den.cY n)=true->PyData.canLayAll0 (hv ds)=true/\PyData.depthAll (hv ds)<=n
 |n,[],_=>⟨rfl,Zo _⟩
 |n,d::ds,h=>by
  simp only[List.all_cons,YX]at h;obtain⟨a,b⟩:=pX n d h.1;obtain⟨mi,gn⟩:=AF n ds h.2;refine⟨by simp only[hv,PyData.canLayAll0,a,mi,ach],?_⟩;show max (PyData.depth (toPy d)) (PyData.depthAll (hv ds))<=n;omega
end
def vv{d:D}(h:Den.cY 60 d=true):SeqAt.shaped (toPy d)=true:=by
 obtain⟨a,b⟩:=pX 60 d h;unfold SeqAt.shaped;rw[a,Bool.true_and];exact decide_eq_true (by omega)
section
variable{xp:cu}{X:aQ}{mu:List Nat}{pg:Den.dy}{Φ:Den.dW}{pins:List (Addr×Obj)}{σ:dm}{G H:aw}{s:Shared}
mutual
theorem GG (I:Inv X pins σ H s) (aa:bQ G H):∀(n:Nat){d:D}{v:V}{u:Value},Den.cY n d=true->Rep X.K G d v->RelV v u->∃as,Reads s.heap u (toPy d) as
 |_,.dp,_,_,_,h,r=>by cases h;cases r;exact⟨_,.none⟩
 |_,.aO b,_,_,_,h,r=>by cases h;cases r;exact⟨_,.bool b⟩
 |_,.int i,_,_,_,h,r=>by cases h;obtain⟨t,rfl⟩:=r;exact⟨_,.int i t⟩
 |_,.str x,_,_,_,h,r=>by cases h;obtain⟨t,rfl⟩:=r;exact⟨_,.str x t⟩
 |0,.tup ds,_,_,z,_,_=>by cases z
 |n+1,.tup ds,_,_,z,⟨a,xs,e,h,q⟩,r=>by
  subst e;cases r;obtain⟨its,bR,⟨o,av,ag,cn,hd⟩,_⟩:=I.tuple (iF aa h);obtain⟨as,cb⟩:=oq I aa n z q bR;exact⟨as,.tuple av ag hd (by simpa using cb)⟩
 |0,.lst ds,_,_,z,_,_=>by cases z
 |n+1,.lst ds,_,_,z,⟨a,xs,e,h,q⟩,r=>by
  subst e;cases r;obtain⟨its,bR,⟨o,cn,av,ag,_,hd⟩,_⟩:=I.list (lV aa h);obtain⟨as,cb⟩:=oq I aa n z q bR;exact⟨a::as,.list av ag hd (by simpa using cb)⟩
 |0,.b7 _,_,_,z,_,_=>by cases z
 |n+1,.b7 _,_,_,z,_,_=>by cases z
 |0,.bE _,_,_,z,_,_=>by cases z
 |0,.cG _,_,_,z,_,_=>by cases z
 |n+1,.cG _,_,_,z,_,_=>by cases z
 |n+1,.bE _,_,_,z,_,_=>by cases z
 |_,.fs _,_,_,_,h,_=>h.elim
theorem oq (I:Inv X pins σ H s) (aa:bQ G H):∀(n:Nat){ds:List D}{xs:List V}{us:List Value},ds.all (Den.cY n)=true->bD X.K G ds xs->Vals xs us->∃as,ReadsAll s.heap us (hv ds) as
 |_,[],_,_,_,h,r=>by cases h;cases r;exact⟨_,.nil⟩
 |n,d::ds,_,_,z,⟨v,t,e,C,J⟩,r=>by
  subst e;simp only[List.all_cons,YX]at z;cases r with
  |cons aG aZ =>
   obtain⟨as,cb⟩:=GG I aa n z.1 C aG;obtain⟨bs,dA⟩:=oq I aa n z.2 J aZ;exact⟨as++bs,.cons cb dA⟩
end
def oo(I:Inv X pins σ H s)(aa:bQ G H){d:D}{v:V}{u:Value}(h:View X.K G H d v)(r:RelV v u)(ku:Den.cY 60 d=true):∃as,Reads s.heap u (toPy d) as:=by
 cases d with
 |b7 af=>cases ku
 |bE af=>cases ku
 |cG af=>cases ku
 |lst ds =>
  obtain⟨a,xs,rfl,h,q⟩:=h;cases r;obtain⟨its,bR,⟨o,n,av,ag,_,hd⟩,_⟩:=I.list h;obtain⟨as,cb⟩:=oq I aa 59 ku q bR;exact⟨a::as,.list av ag hd (by simpa using cb)⟩
 |_=>exact GG I aa 60 ku h r
noncomputable def g9(K:W.Frag)(g:D->D->bx Bool):gi:=λx y H Q=>∃G bf cV,bQ G H/\View K G H bf x/\View K G H cV y/\cz (g bf cV) (λb=>Q (.aO b) H) (λ_=>False)
def IV{r:bx Bool}{Q:Bool->Prop}{E:Nat->Prop}:cz (Den.ie r) Q E<->cz r (λb=>Q (!b)) E:=by cases r<;>exact Iff.rfl
def IT{x y:D}{Q:Bool->Prop}{E:Nat->Prop}(h:cz (Den.fB x y) Q E):Den.cY 60 x=true/\Den.cY 60 y=true/\Q (Den.f5 x y):=by
 unfold Den.fB at h;cases q:(Den.cY 60 x&&Den.cY 60 y) with
 |false=>rw[q]at h;exact h.elim
 |true =>
  rw[q]at h;simp only[YX]at q;exact⟨q.1,q.2,h⟩
def Km(bw:X.A.units+64<cLine):dk X (compareOp .Eq) (g9 X.K (Den.dS .eq)):=by
 intro pins s σ H x y v u Q I a7 bO ⟨G,bf,cV,aa,bS,d9,hw⟩;rw[Den.Cq]at hw;obtain⟨C,J,q⟩:=IT hw;obtain⟨as,cb⟩:=oo I aa bS a7 C;obtain⟨bs,dA⟩:=oo I aa d9 bO J;refine eq_dataH cb dA (vv C) (vv J) bw ?_;rw[q1];exact⟨.aO _,H,I,rfl,q⟩
def Ks(bw:X.A.units+64<cLine):dk X (compareOp .NotEq) (g9 X.K (Den.dS .ne)):=by
 intro pins s σ H x y v u Q I a7 bO ⟨G,bf,cV,aa,bS,d9,hw⟩;rw[Den.xX]at hw;obtain⟨C,J,q⟩:=IT (IV.mp hw);obtain⟨as,cb⟩:=oo I aa bS a7 C;obtain⟨bs,dA⟩:=oo I aa d9 bO J;refine ne_dataH cb dA (vv C) (vv J) bw ?_;rw[q1];exact⟨.aO _,H,I,rfl,q⟩
end
section
variable{xp:cu}{X:aQ}{mu:List Nat}{pg:Den.dy}{Φ:Den.dW}{pins:List (Addr×Obj)}{σ:dm}{G H:aw}{s:Shared}
open Classical in
noncomputable def kh (h:Heap) (bf:D) (y:Value):Bool:=decide (∃(d:D)(as:List Addr),Reads h y (toPy d) as/\Den.cY 60 d=true/\Den.f5 d bf=true)
open Classical in
theorem yb {h:Heap} {bf d:D} {y:Value} {as:List Addr} (r:Reads h y (toPy d) as) (hd:Den.cY 60 d=true):kh h bf y=Den.f5 d bf:=by
 unfold kh;cases q:Den.f5 d bf with
 |true=>exact decide_eq_true ⟨d,as,r,hd,q⟩
 |false =>
  refine decide_eq_false ?_;rintro⟨d',X5,bX,f9,dq⟩;have e:=SeqAt.Reads.unique _ _ _ _ _ (pX 60 d hd).1 r bX;rw[<- q1]at q dq;rw[e,dq]at q;cases q
theorem wJ{h:Heap}{bf:D}:∀{ds:List D}{us:List Value}{as:List Addr},ReadsAll h us (hv ds) as->ds.all (Den.cY 60)=true->us.any (kh h bf)=ds.any λd=>Den.f5 d bf
 |[],_,_,r,_=>by cases r;rfl
 |d::ds,_,_,r,hd=>by
  cases r with
  |cons aG aZ =>
   simp only[List.all_cons,YX]at hd;simp only[List.any_cons,yb aG hd.1,wJ aZ hd.2]
theorem tE(bw:X.A.units+64<cLine){bf:D}{v:Value}{bs:List Addr}(a7:Reads s.heap v (toPy bf) bs)(ao:Den.cY 60 bf=true):∀{ds:List D}{us:List Value}{as:List Addr},ReadsAll s.heap us (hv ds) as->ds.all (Den.cY 60)=true->∀y,y∈us->SeqAt.EqAt X.A.in1 s y v (kh s.heap bf y)
 |[],_,_,r,_,y,aV=>by cases r;simp at aV
 |d::ds,_,_,r,hd,y,aV=>by
  cases r with
  |cons aG aZ =>
   simp only[List.all_cons,YX]at hd;rcases Y0.mp aV with rfl|aV
   .rw[yb aG hd.1,<- q1];refine SeqAt.eqAt_reads _ _ _ _ _ _ _ _ aG a7 (pX 60 _ hd.1).1 (pX 60 _ ao).1 ?_;have C:=(pX 60 _ hd.1).2;show X.A.units+1+_<cLine;have:min (toPy d).depth (toPy bf).depth<=60:=ZX (Nat.min_le_left _ _) C;omega
   .exact tE bw a7 ao aZ hd.2 y aV
def IU{x:D}{ys:List D}{Q:Bool->Prop}{E:Nat->Prop}(h:cz (Den.hq x ys) Q E):Den.cY 60 x=true/\ys.all (Den.cY 60)=true/\Q (Den.memD x ys):=by
 unfold Den.hq at h;cases q:(Den.cY 60 x&&ys.all (Den.cY 60)) with
 |false=>rw[q]at h;exact h.elim
 |true =>
  rw[q]at h;simp only[YX]at q;exact⟨q.1,q.2,h⟩
def EF{ys:List D}{y:V}{u:Value}(I:Inv X pins σ H s)(aa:bQ G H)(h:View X.K G H (.tup ys) y\/View X.K G H (.lst ys) y)(r:RelV y u)(ku:ys.all (Den.cY 60)=true):
  ∃(a:Addr)(its:List Value)(as:List Addr),u=.ref a/\ReadsAll s.heap its (hv ys) as/\(s.heap.IsTuple a its.toArray\/s.heap.IsList a its.toArray):=by
 rcases h with⟨a,xs,rfl,h,q⟩|⟨a,xs,rfl,h,q⟩
 .cases r;obtain⟨its,bR,⟨o,av,ag,n,hd⟩,_⟩:=I.tuple (iF aa h);obtain⟨as,cb⟩:=oq I aa 60 ku q bR;exact⟨a,its,as,rfl,cb,.inl ⟨o,av,ag,n,hd⟩⟩
 .cases r;obtain⟨its,bR,⟨o,n,av,ag,_,hd⟩,_⟩:=I.list h;obtain⟨as,cb⟩:=oq I aa 60 ku q bR;exact⟨a,its,as,rfl,cb,.inr ⟨o,av,ag,n,hd⟩⟩
def Kp(bw:X.A.units+64<cLine):dk X (compareOp .In) (g9 X.K (Den.dS .mem)):=by
 intro pins s σ H x y v u Q I a7 bO ⟨G,bf,cV,aa,bS,d9,hw⟩;have key:∀ys,(View X.K G H (.tup ys) y\/View X.K G H (.lst ys) y)->cz (Den.hq bf ys) (λb=>Q (.aO b) H) (λ_=>False)->wpAny (model X.prog X.w) X.A (compareOp .In v u) (eN X pins σ Q) X.cA s:=by
  intro ys aV hw;obtain⟨C,J,q⟩:=IU hw;obtain⟨bs,dA⟩:=oo I aa bS a7 C;obtain⟨a,its,as,rfl,cb,av⟩:=EF I aa aV bO J;have e:its.toArray.any (kh s.heap bf)=Den.memD bf ys:=(by rw[List.any_toArray];exact wJ cb J);have he:∀z,z∈its.toArray->SeqAt.EqAt X.A.in1 s z v (kh s.heap bf z):=λz hz=>tE bw dA C cb J z (by simpa using hz)
  rcases av with av|av
  .exact SeqAt.in_tupleAt _ av he (by rw[e];exact⟨.aO _,H,I,rfl,q⟩)
  .exact SeqAt.in_listAt _ av he (by rw[e];exact⟨.aO _,H,I,rfl,q⟩)
 cases cV with
 |tup ys=>exact key ys (.inl d9) hw
 |lst ys=>exact key ys (.inr d9) hw
 |_=>cases bf<;>exact hw.elim
def Kt(bw:X.A.units+64<cLine):dk X (compareOp .NotIn) (g9 X.K (Den.dS .jq)):=by
 intro pins s σ H x y v u Q I a7 bO ⟨G,bf,cV,aa,bS,d9,hw⟩;have key:∀ys,(View X.K G H (.tup ys) y\/View X.K G H (.lst ys) y)->cz (Den.ie (Den.hq bf ys)) (λb=>Q (.aO b) H) (λ_=>False)->wpAny (model X.prog X.w) X.A (compareOp .NotIn v u) (eN X pins σ Q) X.cA s:=by
  intro ys aV hw;obtain⟨C,J,q⟩:=IU (IV.mp hw);obtain⟨bs,dA⟩:=oo I aa bS a7 C;obtain⟨a,its,as,rfl,cb,av⟩:=EF I aa aV bO J;have e:its.toArray.any (kh s.heap bf)=Den.memD bf ys:=(by rw[List.any_toArray];exact wJ cb J);have he:∀z,z∈its.toArray->SeqAt.EqAt X.A.in1 s z v (kh s.heap bf z):=λz hz=>tE bw dA C cb J z (by simpa using hz)
  rcases av with av|av
  .exact SeqAt.notIn_tupleAt _ av he (by rw[e];exact⟨.aO _,H,I,rfl,q⟩)
  .exact SeqAt.notIn_listAt _ av he (by rw[e];exact⟨.aO _,H,I,rfl,q⟩)
 cases cV with
 |tup ys=>exact key ys (.inl d9) hw
 |lst ys=>exact key ys (.inr d9) hw
 |_=>cases bf<;>exact hw.elim
end
section
variable{xp:cu}{X:aQ}{mu:List Nat}{m:eB}{bg cj cD:aY->bx D}{a b c:Expr}{pos:Pos}
def zO{d:D}(h:Den.fG 0 d=true):∃i,d=.int i:=by
 cases d with
 |int i=>exact⟨i,rfl⟩
 |_=>cases h
theorem uP:∀{ds:List D},ds.all (Den.fG 0)=true->∃ns:List Int,ds=ns.map Den.D.int
 |[],_=>⟨[],rfl⟩
 |d::ds,h=>by
  simp only[List.all_cons,YX]at h;obtain⟨i,rfl⟩:=zO h.1;obtain⟨ns,rfl⟩:=uP h.2;exact⟨i::ns,rfl⟩
def Fm{d:D}(h:Den.fG 1 d=true):∃ns:List Int,d=.tup (ns.map Den.D.int):=by
 cases d with
 |tup ds=>obtain⟨ns,rfl⟩:=uP h;exact⟨ns,rfl⟩
 |_=>cases h
theorem js{K:W.Frag}{G:aw}:∀{ns:List Int}{xs:List V},bD K G (ns.map Den.D.int) xs->xs=ns.map V.int
 |[],_,h=>h
 |n::ns,_,⟨v,r,e,C,J⟩=>by
  subst e;have C:v=.int n:=C;rw[C,js J];rfl
theorem r1:∀a b:List Int,Den.jk (a.map Den.D.int) (b.map Den.D.int)=some (c8.lexLt a b)
 |[],[]=>rfl
 |[],_::_=>rfl
 |_::_,[]=>rfl
 |x::a,y::b=>by
  rw[show Den.jk ((x::a).map Den.D.int) ((y::b).map Den.D.int)=if (x==y)=true then Den.jk (a.map .int) (b.map .int) else some (decide (x<y)) from rfl,r1 a b];simp only[c8.lexLt]
  by_cases h:x=y<;>simp[h]
def Kr(bw:X.A.units+64<cLine):dk X (compareOp .Lt) (g9 X.K (Den.dS .lt)):=by
 intro pins s σ H x y v u Q I a7 bO ⟨G,bf,cV,aa,bS,d9,hw⟩;rw[Den.Cr]at hw;unfold Den.uN at hw;cases q:((Den.fG 0 bf&&Den.fG 0 cV)||(Den.fG 1 bf&&Den.fG 1 cV)) with
 |false=>rw[q]at hw;exact hw.elim
 |true =>
  rw[q]at hw;simp only[ZH]at hw;simp only[aaq,YX]at q;rcases q with⟨C,J⟩|⟨C,J⟩
  .obtain⟨i,rfl⟩:=zO C;obtain⟨j,rfl⟩:=zO J;exact Sd pins s σ H x y v u Q I a7 bO ⟨i,j,bS,d9,hw⟩
  .obtain⟨ns,rfl⟩:=Fm C;obtain⟨ms,rfl⟩:=Fm J;obtain⟨a,xs,aj,a8,aG⟩:=bS;obtain⟨b,ys,ak,aR,aZ⟩:=d9;rw[js aG]at a8;rw[js aZ]at aR;refine Se (by omega) pins s σ H x y v u Q I a7 bO ⟨a,b,ns,ms,aj,ak,iF aa a8,iF aa aR,?_⟩;simp only[Den.iX,r1,Den.zZ]at hw;exact hw
def Ko:dk X (compareOp .Gt) (g9 X.K (Den.dS .gt)):=by
 intro pins s σ H x y v u Q I a7 bO ⟨G,bf,cV,aa,bS,d9,hw⟩;cases bf<;>cases cV<;>first|exact hw.elim|skip
 exact Sa pins s σ H x y v u Q I a7 bO ⟨_,_,bS,d9,hw⟩
def Kq:dk X (compareOp .LtE) (g9 X.K (Den.dS .le)):=by
 intro pins s σ H x y v u Q I a7 bO ⟨G,bf,cV,aa,bS,d9,hw⟩;cases bf<;>cases cV<;>first|exact hw.elim|skip
 exact Sb pins s σ H x y v u Q I a7 bO ⟨_,_,bS,d9,hw⟩
def Kn:dk X (compareOp .GtE) (g9 X.K (Den.dS .ge)):=by
 intro pins s σ H x y v u Q I a7 bO ⟨G,bf,cV,aa,bS,d9,hw⟩;cases bf<;>cases cV<;>first|exact hw.elim|skip
 exact R9 pins s σ H x y v u Q I a7 bO ⟨_,_,bS,d9,hw⟩
theorem cy.aO{K:W.Frag}{H aI aq:aw}{b:Bool}:cy K H aI aq m (.aO b) (.aO b):=by cases m<;>rfl
theorem cy.int{K:W.Frag}{H aI aq:aw}{i:Int}:cy K H aI aq m (.int i) (.int i):=by cases m<;>rfl
def cy.u2{K:W.Frag}{H aI aq:aw}{b:Bool}{v:V}(h:cy K H aI aq m (.aO b) v):v=.aO b:=by cases m<;>exact h
def cy.pK{K:W.Frag}{H aI aq:aw}{i:Int}{v:V}(h:cy K H aI aq m (.int i) v):v=.int i:=by cases m<;>exact h
noncomputable def xY(o:Den.hC)(bg cj:aY->bx D):aY->bx D:=λρ=>bg ρ>>=λx=>cj ρ>>=λy=>Den.dS o x y>>=λk=>.ok (.aO k)
noncomputable def oh{α:Type}:bx α->Bool
 |.exc _=>false
 |_=>true
def FQ{α:Type}{r:bx α}(h:oh r=true)(c:Nat):r≠.exc c:=λe=>by rw[e]at h;cases h
def mX{α:Type}{p:Prop}[Decidable p]{a b:bx α}(aB:oh a=true)(ab:oh b=true):oh (if p then a else b)=true:=by by_cases h:p<;>simp[h,aB,ab]
def FR{r:bx Bool}(h:oh r=true):oh (Den.ie r)=true:=by cases r<;>first|rfl|exact h
def RQ(o:Option Bool):oh (Den.zZ o)=true:=by cases o<;>rfl
def xV(o:Den.hC)(x y:D)(c:Nat):Den.dS o x y≠.exc c:=by
 refine FQ ?_ c;cases o with
 |eq=>exact mX rfl rfl
 |ne=>exact FR (mX rfl rfl)
 |lt=>exact mX (RQ _) rfl
 |mem=>cases y<;>first|rfl|exact mX rfl rfl
 |jq=>cases y<;>first|rfl|exact FR (mX rfl rfl)
 |le=>cases x<;>cases y<;>rfl
 |gt=>cases x<;>cases y<;>rfl
 |ge=>cases x<;>cases y<;>rfl
def nc{α:Type}{r:bx α}{Q:α->Prop}{E sW:Nat->Prop}(h:cz r Q E)(aD:∀c,r≠.exc c):cz r Q sW:=by
 cases r with
 |ok a=>exact h
 |exc c=>exact absurd rfl (aD c)
 |bad=>exact h
def HZ{o:Den.hC}{σ:dm}{H:aw}{Q:c0}(h:bj xp X mu m (xY o bg cj) σ H Q):sH (g9 X.K (Den.dS o)) (bj xp X mu .view bg) (bj xp X mu .view cj) σ H Q:=by
 obtain⟨G,ρ,aa,hw⟩:=h;refine⟨G,ρ,aa,bY (br.mp hw) (λbf k v aH H1 aP aG=>?_) λ_ q=>q⟩;refine⟨aH,ρ,aa.ext aP,bY (br.mp k) (λcV aR v2 cf aW b5 aZ=>?_) λ_ q=>q.mono aP.h⟩;refine⟨cf,bf,cV,b5.sub,View.ext b5 aG,aZ,?_⟩;exact bY (nc (br.mp aR) (λc=>xV o bf cV c)) (λk q=>q (.aO k) cf aW (aP.trans b5) cy.aO) λ_ q=>q
def UG{o:Den.hC}{op:CmpOp}(av:dk X (compareOp op) (g9 X.K (Den.dS o)))(aB:aM X a (bj xp X mu .view bg))(ab:aM X b (bj xp X mu .view cj))(hm:behindInMarks op b=false):
  aM X (.Compare a [op] [b] pos) (bj xp X mu m (xY o bg cj)):=λpins s σ H Q I h=>Sz av aB ab hm pins s σ H Q I (HZ h)
noncomputable def fx(xp:cu)(X:aQ)(mu:List Nat)(f:aY->bx D):TT:=λσ H Q =>
 ∃G ρ,eD X.K mu G H ρ σ/\cz (f ρ>>=Den.eE) (λb=>∀aI aq,Ext G H aI aq->Q b aq) (λc=>e2 xp X c H)
def AW{f:aY->bx D}{σ:dm}{H:aw}{Q:Bool->aw->Prop}(h:fx xp X mu f σ H Q):bj xp X mu .view f σ H (λx aq=>∃k,x=.aO k/\Q k aq):=by
 obtain⟨G,ρ,aa,hw⟩:=h;refine⟨G,ρ,aa,bY (br.mp hw) (λd k v aI aq x r=>?_) λ_ q=>q⟩;cases d with
 |aO b=>exact⟨b,cy.u2 r,k aI aq x⟩
 |_=>exact k.elim
def UJ{o:Den.hC}{op:CmpOp}(av:dk X (compareOp op) (g9 X.K (Den.dS o)))(aB:aM X a (bj xp X mu .view bg))(ab:aM X b (bj xp X mu .view cj))(hm:behindInMarks op b=false):
  eh X (.Compare a [op] [b] pos) (fx xp X mu (xY o bg cj)):=λpins s σ H Q I h=>TB av aB ab hm pins s σ H Q I (HZ (AW h))
def kN{f:aY->bx D}(h:aM X a (bj xp X mu .view f))(he:∀whole,isTrue a X.env whole=(do let v <- whole;standAt a.pos;holding [v] (truthy v))):eh X a (fx xp X mu f):=λpins s σ H Q I hw=>TF h he pins s σ H Q I (AW hw)
noncomputable def xW(o bG:Den.hC)(bg cj cD:aY->bx D):aY->bx D:=λρ=>bg ρ>>=λx=>cj ρ>>=λy=>Den.dS o x y>>=λk=>if k then cD ρ>>=λz=>Den.dS bG y z>>=λdd=>.ok (.aO dd) else .ok (.aO false)
def H0{o bG:Den.hC}{σ:dm}{H:aw}{Q:c0}(h:bj xp X mu m (xW o bG bg cj cD) σ H Q):AR (g9 X.K (Den.dS o)) (g9 X.K (Den.dS bG)) (bj xp X mu .view bg) (bj xp X mu .view cj) (bj xp X mu .view cD) σ H Q:=by
 obtain⟨G,ρ,aa,hw⟩:=h;refine⟨G,ρ,aa,bY (br.mp hw) (λbf k v aH H1 aP aG=>?_) λ_ q=>q⟩;refine⟨aH,ρ,aa.ext aP,bY (br.mp k) (λcV aR v2 cf aW b5 aZ=>?_) λ_ q=>q.mono aP.h⟩;refine⟨cf,bf,cV,b5.sub,View.ext b5 aG,aZ,?_⟩;refine bY (nc (br.mp aR) (λc=>xV o bf cV c)) (λk q=>?_) λ_ q=>q
 refine⟨k,rfl,?_⟩;cases k with
 |false =>
  simp only[Y1,Zk]at q ⊢;exact q (.aO false) cf aW (aP.trans b5) cy.aO
 |true =>
  simp only[ZH]at q ⊢;refine⟨cf,ρ,(aa.ext aP).ext b5,bY (br.mp q) (λCL bz vQ j6 bP jw ee=>?_) λ_ z=>(z.mono aP.h).mono b5.h⟩;refine⟨j6,cV,CL,jw.sub,View.ext jw aZ,ee,?_⟩;exact bY (nc (br.mp bz) (λc=>xV bG cV CL c)) (λk q=>q (.aO k) j6 bP ((aP.trans b5).trans jw) cy.aO) λ_ q=>q
def UH{o bG:Den.hC}{op op':CmpOp}(av:dk X (compareOp op) (g9 X.K (Den.dS o)))(dI:dk X (compareOp op') (g9 X.K (Den.dS bG)))(aB:aM X a (bj xp X mu .view bg))(ab:aM X b (bj xp X mu .view cj))(ag:aM X c (bj xp X mu .view cD))(hm:lastMarks [op,op'] [b,c]=false):
  aM X (.Compare a [op,op'] [b,c] pos) (bj xp X mu m (xW o bG bg cj cD)):=λpins s σ H Q I h=>Sy av dI aB ab ag hm pins s σ H Q I (H0 h)
def UI{o bG:Den.hC}{op op':CmpOp}(av:dk X (compareOp op) (g9 X.K (Den.dS o)))(dI:dk X (compareOp op') (g9 X.K (Den.dS bG)))(aB:aM X a (bj xp X mu .view bg))(ab:aM X b (bj xp X mu .view cj))(ag:aM X c (bj xp X mu .view cD))(hm:lastMarks [op,op'] [b,c]=false):
  eh X (.Compare a [op,op'] [b,c] pos) (fx xp X mu (xW o bG bg cj cD)):=λpins s σ H Q I h=>TA av dI aB ab ag hm pins s σ H Q I (H0 (AW h))
noncomputable def BI(bg cj:aY->bx D):aY->bx D:=λρ=>bg ρ>>=λx=>Den.eE x>>=λk=>if k then cj ρ else .ok (.aO false)
noncomputable def F6(bg cj:aY->bx D):aY->bx D:=λρ=>bg ρ>>=λx=>Den.eE x>>=λk=>if k then .ok (.aO true) else cj ρ
noncomputable def FW(bg:aY->bx D):aY->bx D:=λρ=>bg ρ>>=λx=>Den.eE x>>=λk=>.ok (.aO (!k))
def cy.back{K:W.Frag}{H H1 aI aq:aw}(s:bQ H H1){d:D}{v:V}(h:cy K H1 aI aq m d v):cy K H aI aq m d v:=cy.old s h
def G5{rest:List Expr}(aB:aM X a (bj xp X mu .view bg))(ab:aM X (.BoolOp .And (b::rest) pos) (bj xp X mu m cj)):aM X (.BoolOp .And (a::b::rest) pos) (bj xp X mu m (BI bg cj)):=by
 intro pins s σ H Q I ⟨G,ρ,aa,hw⟩;refine Sr aB ab pins s σ H Q I ?_;refine⟨G,ρ,aa,bY (br.mp hw) (λbf k v aH H1 aP aG=>?_) λ_ q=>q⟩;cases bf with
 |aO b =>
  refine⟨b,cy.u2 aG,?_⟩;cases b with
  |true =>
   simp only[ZH];exact⟨aH,ρ,aa.ext aP,bY k (λd q v2 cf aW b5 aZ=>q v2 cf aW (aP.trans b5) (cy.back aP.h aZ)) λ_ q=>q.mono aP.h⟩
  |false =>
   simp only[Y1,Zk];exact k (.aO false) aH H1 aP cy.aO
 |_=>exact k.elim
def He{rest:List Expr}(aB:aM X a (bj xp X mu .view bg))(ab:aM X (.BoolOp .Or (b::rest) pos) (bj xp X mu m cj)):aM X (.BoolOp .Or (a::b::rest) pos) (bj xp X mu m (F6 bg cj)):=by
 intro pins s σ H Q I ⟨G,ρ,aa,hw⟩;refine SM aB ab pins s σ H Q I ?_;refine⟨G,ρ,aa,bY (br.mp hw) (λbf k v aH H1 aP aG=>?_) λ_ q=>q⟩;cases bf with
 |aO b =>
  refine⟨b,cy.u2 aG,?_⟩;cases b with
  |false =>
   simp only[Y1,Zk];exact⟨aH,ρ,aa.ext aP,bY k (λd q v2 cf aW b5 aZ=>q v2 cf aW (aP.trans b5) (cy.back aP.h aZ)) λ_ q=>q.mono aP.h⟩
  |true =>
   simp only[ZH];exact k (.aO true) aH H1 aP cy.aO
 |_=>exact k.elim
def U7(aB:aM X a (bj xp X mu .view bg)):aM X (.UnaryOp .Not a pos) (bj xp X mu m (FW bg)):=by
 intro pins s σ H Q I ⟨G,ρ,aa,hw⟩;refine SJ aB pins s σ H Q I ?_;refine⟨G,ρ,aa,bY (br.mp hw) (λbf k v aH H1 aP aG=>?_) λ_ q=>q⟩;cases bf with
 |aO b=>exact⟨b,cy.u2 aG,k (.aO (!b)) aH H1 aP cy.aO⟩
 |_=>exact k.elim
def G6{rest:List Expr}(aB:eh X a (fx xp X mu bg))(ab:iH X (.BoolOp .And (b::rest) pos) (fx xp X mu cj)):iH X (.BoolOp .And (a::b::rest) pos) (fx xp X mu (BI bg cj)):=by
 intro l1 pins s σ H Q I ⟨G,ρ,aa,hw⟩;refine TG aB ab l1 pins s σ H Q I ?_;refine⟨G,ρ,aa,?_⟩;refine br.mpr (bY (br.mp (br.mp hw)) (λbf k=>bY (br.mp k) (λb aR aH H1 aP=>?_) λ_ q=>q) λ_ q=>q);cases b with
 |true =>
  simp only[ZH]at aR ⊢;exact⟨aH,ρ,aa.ext aP,bY (br.mpr aR) (λd q cf aW b5=>q cf aW (aP.trans b5)) λ_ q=>q.mono aP.h⟩
 |false =>
  simp only[Y1,Zk]at aR ⊢;exact aR aH H1 aP
def Hf{rest:List Expr}(aB:eh X a (fx xp X mu bg))(ab:iH X (.BoolOp .Or (b::rest) pos) (fx xp X mu cj)):iH X (.BoolOp .Or (a::b::rest) pos) (fx xp X mu (F6 bg cj)):=by
 intro l1 pins s σ H Q I ⟨G,ρ,aa,hw⟩;refine TJ aB ab l1 pins s σ H Q I ?_;refine⟨G,ρ,aa,?_⟩;refine br.mpr (bY (br.mp (br.mp hw)) (λbf k=>bY (br.mp k) (λb aR aH H1 aP=>?_) λ_ q=>q) λ_ q=>q);cases b with
 |false =>
  simp only[Y1,Zk]at aR ⊢;exact⟨aH,ρ,aa.ext aP,bY (br.mpr aR) (λd q cf aW b5=>q cf aW (aP.trans b5)) λ_ q=>q.mono aP.h⟩
 |true =>
  simp only[ZH]at aR ⊢;exact aR aH H1 aP
def U8(aB:eh X a (fx xp X mu bg)):eh X (.UnaryOp .Not a pos) (fx xp X mu (FW bg)):=by
 intro pins s σ H Q I ⟨G,ρ,aa,hw⟩;refine TC aB pins s σ H Q I ?_;refine⟨G,ρ,aa,?_⟩;exact br.mpr (bY (br.mp (br.mp hw)) (λbf k=>bY (br.mp k) (λb aR aH H1 aP=>aR aH H1 aP) λ_ q=>q) λ_ q=>q)
end
section
variable{xp:cu}{X:aQ}{mu:List Nat}{m:eB}{bg cj cD:aY->bx D}{a b c:Expr}{pos:Pos}{pins:List (Addr×Obj)}{σ:dm}{G H:aw}{s:Shared}
def FN(I:Inv X pins σ H s)(aa:bQ G H){ds:List D}{xs:List V}{its:List Value}{Q:c0}(r:Vals xs its)(q:bD X.K G ds xs)(hz:xs.length<=sizeLine)(k:∀v aI aq,Ext G H aI aq->Rep X.K aI (.tup ds) v->Q v aq):eN X pins σ Q (.ref s.heap.objs.size) { s with heap:=s.heap.push { cls:=.type "tuple",data:=.seq its.toArray } }:=by
 refine⟨.ref s.heap.objs.size,_,I.laid (t':=s.toks) (o:=.tup xs) (λb b8 q=>YZ _ q) (Y2 _) ⟨hz,its,r,IsTup.new _ _⟩,rfl,?_⟩;exact k _ (upd G s.heap.objs.size (.tup xs)) _ (Ext.put aa I.fresh) ⟨_,xs,rfl,dF,q.mono (gg (aa.free I.fresh))⟩
def RP(I:Inv X pins σ H s)(aa:bQ G H){ds:List D}{xs:List V}{its:List Value}{Q:c0}(r:Vals xs its)(q:bD X.K G ds xs)(hz:xs.length<=sizeLine)(k:∀v aI aq,Ext G H aI aq->cy X.K H aI aq .fresh (.lst ds) v->Q v aq):eN X pins σ Q (.ref s.heap.objs.size) { s with heap:=s.heap.push { cls:=.type "list",data:=.seq its.toArray } }:=by
 refine⟨.ref s.heap.objs.size,_,I.Ff (t':=s.toks) r hz,rfl,?_⟩;exact k _ G _ (Ext.own aa I.fresh λ_ z=>nomatch z) ⟨_,xs,rfl,dF,I.fresh,aa.free I.fresh,q⟩
def kY{ds:List D}{v:V}(h:View X.K G H (.lst ds) v):∃a xs,v=.ref a/\eo X.K H a xs/\bD X.K G ds xs:=h
def l0(aa:bQ G H){ds:List D}{v:V}(h:View X.K G H (.tup ds) v):∃a xs,v=.ref a/\fp X.K H a xs/\bD X.K G ds xs:=by
 obtain⟨a,xs,e,k,r⟩:=h;exact⟨a,xs,e,iF aa k,r⟩
def qt:Den.SZ=sizeLine:=by rw[sizeLine_eq];rfl
def LN:dk X (binaryOp .Add) (lS X.K (Den.ep .add)):=by
 intro pins s σ H x y v u Q I a7 bO ⟨G,bf,cV,aa,bS,d9,hw⟩;cases bf with
 |int i =>
  cases cV with
  |int j=>exact R7 pins s σ H x y v u Q I a7 bO ⟨_,_,bS,d9,mE aa hw rfl⟩
  |_=>exact hw.elim
 |tup ds =>
  cases cV with
  |tup ah =>
   rw[Den.qx]at hw
   by_cases h:ds.length+ah.length<=Den.SZ
   .rw[if_pos h]at hw;obtain⟨l,xs,rfl,a8,aG⟩:=l0 aa bS;obtain⟨b,ys,rfl,aR,aZ⟩:=l0 aa d9;cases a7;cases bO;obtain⟨its,i4,bb,_⟩:=I.tuple a8;obtain⟨hp,jZ,bL,_⟩:=I.tuple aR;have hz:xs.length+ys.length<=sizeLine:=by rw[<- aG.length,<- aZ.length,<- qt];exact h
    by_cases dO:its=[]
    .-- Ie left one is empty
     subst dO;have:ds=[]:=by
      have C:=aG.length;have J:=i4.length;simp at J;rw[J]at C;simp at C;exact C
     subst this;obtain⟨⟨cls,dn,data,cp⟩,av,ag,n,hd⟩:=id bb;obtain⟨⟨xT,ke,data2,jW⟩,kq,iS,eH,hd2⟩:=id bL;simp only at ag hd iS hd2;subst ag hd iS hd2;refine acr ⟨_,av,rfl⟩ ⟨_,kq,rfl⟩ acj seq_tuple_add abp abn (abg _ _)
      (tuple_addW0 l b _ hp.toArray n eH dn ke cp jW rfl) ⟨av,kq,?_⟩
     exact⟨.ref b,H,I,rfl,hw _ G H (Ext.refl aa) d9⟩
    .refine c8.Ku bb bL dO (λz=>?_) (λz=>?_) (by rw[<- i4.length,<- jZ.length];exact hz)
     .have:ah=[]:=by
       have C:=aZ.length;have J:=jZ.length;rw[z]at J;simp at J;rw[J]at C;simp at C;exact C
      subst this;rw[aaa]at hw;exact⟨.ref l,H,I,rfl,hw _ G H (Ext.refl aa) bS⟩
     .exact FN I aa (i4.append jZ) (aG.append aZ) (by rw[List.length_append];exact hz) hw
   .rw[if_neg h]at hw;exact hw.elim
  |_=>exact hw.elim
 |lst ds =>
  cases cV with
  |lst ah =>
   rw[Den.mj]at hw
   by_cases h:ds.length+ah.length<=Den.SZ
   .rw[if_pos h]at hw;obtain⟨l,xs,rfl,a8,aG⟩:=kY bS;obtain⟨b,ys,rfl,aR,aZ⟩:=kY d9;cases a7;cases bO;obtain⟨its,i4,⟨kH,n,aj,ag,iy,hd⟩,_⟩:=I.list a8;obtain⟨hp,jZ,⟨fj,eH,ak,iS,Yk,hd2⟩,_⟩:=I.list aR;have hz:xs.length+ys.length<=sizeLine:=(by rw[<- aG.length,<- aZ.length,<- qt];exact h);obtain⟨cls,dn,data,cp⟩:=kH;obtain⟨xT,ke,data2,jW⟩:=fj;simp only at ag hd iS hd2;subst ag hd iS hd2;refine acr ⟨_,aj,rfl⟩ ⟨_,ak,rfl⟩ noFill_list_add seq_list_add F.slot_list_add F.entry_list_add (F.args_list_add_2 _ _)
     (list_addW l b its.toArray hp.toArray n eH dn ke cp jW (by rw[Y4,Y4,<- i4.length,<- jZ.length];exact hz)) ⟨aj,ak,?_⟩
    have eL:its.toArray++hp.toArray=(its++hp).toArray:=(by simp);rw[eL];exact RP I aa (i4.append jZ) (aG.append aZ) (by rw[List.length_append];exact hz) hw
   .rw[if_neg h]at hw;exact hw.elim
  |_=>exact hw.elim
 |_=>cases cV<;>exact hw.elim
end
end bT
end
section
namespace bT
open PySem PySem.Spec PyProof.Rows bM PySem.MeetsSeq
section
variable{xp:cu}{X:aQ}{mu:List Nat}{m:eB}{bg cj cD:aY->bx D}{a b c:Expr}{pos:Pos}{pins:List (Addr×Obj)}{σ:dm}{G H:aw}{s:Shared}
def LU:dk X (binaryOp .Mult) (lS X.K (Den.ep .mul)):=by
 intro pins s σ H x y v u Q I a7 bO ⟨G,bf,cV,aa,bS,d9,hw⟩;cases bf with
 |int i =>
  cases cV with
  |int j =>
   rw[Den.mul_int]at hw
   by_cases h:(-Den.hi<i/\i<Den.hi)\/(-Den.hi<j/\j<Den.hi)
   .rw[if_pos h]at hw;exact Sg pins s σ H x y v u Q I a7 bO ⟨_,_,bS,d9,h,mE aa hw rfl⟩
   .rw[if_neg h]at hw;exact hw.elim
  |_=>exact hw.elim
 |_=>cases cV<;>exact hw.elim
end
end bT
end
section
namespace bT
open PySem PySem.Spec PyProof.Rows bM
section
variable{xp:cu}{X:aQ}{mu:List Nat}{m:eB}{f bg cj cD:aY->bx D}{bA:aY->bx (List D)}{a b c e:Expr}{ah:List Expr}{pos:Pos}{pins:List (Addr×Obj)}{σ:dm}{G H:aw}{s:Shared}
def Hc(aB:aM X a (bj xp X mu .view bg)):aM X (.UnaryOp .USub a pos) (bj xp X mu m λρ=>bg ρ>>=λx=>Den.gD x>>=λi=>.ok (.int (-i))):=by
 intro pins s σ H Q I ⟨G,ρ,aa,hw⟩;refine SQ Xp aB pins s σ H Q I ?_;refine⟨G,ρ,aa,bY (br.mp hw) (λbf k v aH H1 aP aG=>?_) λ_ q=>q⟩;cases bf with
 |int i=>exact⟨i,cy.pK aG,k (.int (-i)) aH H1 aP cy.int⟩
 |_=>exact k.elim
noncomputable def m7(xp:cu)(X:aQ)(mu:List Nat)(f:aY->bx (List D)):gk:=λσ H Q =>
 ∃G ρ,eD X.K mu G H ρ σ/\cz (f ρ) (λds=>∀ae aI aq,Ext G H aI aq->bD X.K aI ds ae->Q ae aq) (λc=>e2 xp X c H)
def Hd:fO X [] (m7 xp X mu λ_=>.ok []):=by
 intro p pins s σ H Q I ⟨G,ρ,aa,hw⟩;exact z6 p pins s σ H Q I (hw [] G H (Ext.refl aa.sub) rfl)
def UK(he:aM X e (bj xp X mu .val f))(a9:fO X ah (m7 xp X mu bA))(cH:starEach (e::ah) X.env=(false,eval e X.env)::starEach ah X.env):fO X (e::ah) (m7 xp X mu λρ=>f ρ>>=λx=>bA ρ>>=λxs=>.ok (x::xs)):=by
 intro p pins s σ H Q I ⟨G,ρ,aa,hw⟩;refine pN he a9 cH p pins s σ H Q I ?_;refine⟨G,ρ,aa,bY (br.mp hw) (λbf k v aH H1 aP aG=>?_) λ_ q=>q⟩;refine⟨aH,ρ,aa.ext aP,bY (br.mp k) (λds aR ae cf aW b5 aZ=>?_) λ_ q=>q.mono aP.h⟩;exact aR (v::ae) cf aW (aP.trans b5) ⟨v,ae,rfl,Rep.mono b5.g aG,aZ⟩
def Hg{j:Nat}(h:fO X ah (m7 xp X mu bA))(aA:∀ρ ds,bA ρ=.ok ds->ds.length<=sizeLine):aM X (.Tuple ah j pos) (bj xp X mu .val λρ=>bA ρ>>=λds=>.ok (.tup ds)):=by
 intro pins s σ H Q I ⟨G,ρ,aa,hw⟩;refine SP h pins s σ H Q I ?_;refine⟨G,ρ,aa,?_⟩;have hw:=br.mp hw;cases q:bA ρ with
 |ok ds =>
  rw[q]at hw;intro ae aH H1 aP aG;refine⟨by rw[<- aG.length];exact aA ρ ds q,λp az=>?_⟩;exact hw (.ref p) (upd aH p (.tup ae)) _ (aP.trans (Ext.put aP.sub az)) ⟨p,ae,rfl,dF,aG.mono (gg (aP.sub.free az))⟩
 |exc c=>rw[q]at hw;exact hw
 |bad=>rw[q]at hw;exact hw
def U4(h:fO X ah (m7 xp X mu bA))(aA:∀ρ ds,bA ρ=.ok ds->ds.length<=sizeLine):aM X (.List ah pos) (bj xp X mu .fresh λρ=>bA ρ>>=λds=>.ok (.lst ds)):=by
 intro pins s σ H Q I ⟨G,ρ,aa,hw⟩;refine SH h pins s σ H Q I ?_;refine⟨G,ρ,aa,?_⟩;have hw:=br.mp hw;cases q:bA ρ with
 |ok ds =>
  rw[q]at hw;intro ae aH H1 aP aG;refine⟨by rw[<- aG.length];exact aA ρ ds q,λp az=>?_⟩;exact hw (.ref p) aH _ (aP.trans (Ext.own aP.sub az λ_ z=>nomatch z)) ⟨p,ae,rfl,dF,aP.h.free az,aP.sub.free az,aG⟩
 |exc c=>rw[q]at hw;exact hw
 |bad=>rw[q]at hw;exact hw
def Qp(n:Nat)(i:Int):Den.hQ n i=bM.hQ n i:=by
 unfold Den.hQ bM.hQ
 by_cases h:0<=i
 .rw[if_pos h,if_pos h]
 .rw[if_neg h,if_neg h]
  by_cases q:0<=i+(n:Int)
  .rw[if_pos q,if_pos (by omega)]
  .rw[if_neg q,if_neg (by omega)]
def DK{K:W.Frag}{ds:List D}{xs:List V}{i:Int}{d:D}(r:bD K G ds xs)(h:Den.iP ds i=some d):∃v,nC xs i=some v/\Rep K G d v:=by
 unfold Den.iP at h;rw[Qp,r.length]at h;unfold nC;cases q:bM.hQ xs.length i with
 |none=>rw[q]at h;cases h
 |some j =>
  rw[q]at h;obtain⟨v,e,z⟩:=r.get (i:=j) h;exact⟨v,e,z⟩
def UX(aB:aM X a (bj xp X mu .view bg))(ab:aM X b (bj xp X mu .view cj))(az:wB b):aM X (.Subscript a b pos) (bj xp X mu .val λρ=>bg ρ>>=λx=>cj ρ>>=λy=>Den.fF x y):=by
 intro pins s σ H Q I ⟨G,ρ,aa,hw⟩;refine SG Qs aB ab az pins s σ H Q I ?_;refine⟨G,ρ,aa,bY (br.mp hw) (λbf k v aH H1 aP aG=>?_) λ_ q=>q⟩;refine⟨aH,ρ,aa.ext aP,bY (br.mp k) (λcV aR v2 cf aW b5 aZ=>?_) λ_ q=>q.mono aP.h⟩;have aG:=View.ext b5 aG;cases bf with
 |lst ds =>
  cases cV with
  |int i =>
   simp only[Den.ux]at aR;cases q:Den.iP ds i with
   |none=>rw[q]at aR;exact aR.elim
   |some d =>
    rw[q]at aR;obtain⟨l,xs,rfl,e,r⟩:=kY aG;obtain⟨w,ak,ig⟩:=DK r q;exact .inl ⟨l,xs,i,w,rfl,aZ,e,ak,aR w cf aW (aP.trans b5) ig⟩
  |_=>exact aR.elim
 |tup ds =>
  cases cV with
  |int i =>
   simp only[Den.uy]at aR;cases q:Den.iP ds i with
   |none=>rw[q]at aR;exact aR.elim
   |some d =>
    rw[q]at aR;obtain⟨l,xs,rfl,e,r⟩:=l0 b5.sub aG;obtain⟨w,ak,ig⟩:=DK r q;exact .inr (.inl ⟨l,xs,i,w,rfl,aZ,e,ak,aR w cf aW (aP.trans b5) ig⟩)
  |_=>exact aR.elim
 |_=>cases cV<;>exact aR.elim
noncomputable def kL(K:W.Frag)(m:eB)(g:D->bx D):List V->aw->c0->Prop:=λxs H Q=>∃G x d,xs=[x]/\bQ G H/\View K G H d x/\cz (g d) (λd'=>∀v aI aq,Ext G H aI aq->cy K H aI aq m d' v->Q v aq) (λ_=>False)
def lQ{eM:TE}(he:aM X e eM)(cH:starEach [e] X.env=[(false,eval e X.env)]):fO X [e] (vG eM AU):=pN he z6 cH
def pU{g:D->bx D}{id:String}{x:Str}{p:Pos}(a4:∀d c,g d≠.exc c)(ag:hB X (.builtin id) (kL X.K m g))(nZ:eU X x)(hm:X.aX x=none)(aN:bootBuiltins x=some (.builtin id))(aB:aM X e (bj xp X mu .view f))(aD:x≠"__name__")(h4:(x==("__debug__":Str))=false)(cH:starEach [e] X.env=[(false,eval e X.env)]):aM X (.Call (.Name x p) [e] [] pos) (bj xp X mu m λρ=>f ρ>>=λd=>g d):=by
 intro pins s σ H Q I ⟨G,ρ,aa,hw⟩;refine z8 ag nZ hm aN (lQ aB cH) aD h4 cH rfl pins s σ H Q I ?_;refine⟨G,ρ,aa,bY (br.mp hw) (λbf k v aH H1 aP aG=>?_) λ_ q=>q⟩;refine⟨aH,v,bf,rfl,aP.sub,aG,?_⟩;exact bY (nc k (a4 bf)) (λd q v2 cf aW b5 aZ=>q v2 cf aW (aP.trans b5) (aZ.old aP.h)) λ_ q=>q
def G9{g:D->bx D}{T:String}{x:Str}{p:Pos}(a4:∀d c,g d≠.exc c)(ag:hB X (.type T) (kL X.K m g))(nZ:eU X x)(hm:X.aX x=none)(aN:bootBuiltins x=some (.type T))(aB:aM X e (bj xp X mu .view f))(aD:x≠"__name__")(h4:(x==("__debug__":Str))=false)(cH:starEach [e] X.env=[(false,eval e X.env)]):aM X (.Call (.Name x p) [e] [] pos) (bj xp X mu m λρ=>f ρ>>=λd=>g d):=by
 intro pins s σ H Q I ⟨G,ρ,aa,hw⟩;refine Sx ag nZ hm aN (lQ aB cH) aD h4 cH rfl pins s σ H Q I ?_;refine⟨G,ρ,aa,bY (br.mp hw) (λbf k v aH H1 aP aG=>?_) λ_ q=>q⟩;refine⟨aH,v,bf,rfl,aP.sub,aG,?_⟩;exact bY (nc k (a4 bf)) (λd q v2 cf aW b5 aZ=>q v2 cf aW (aP.trans b5) (aZ.old aP.h)) λ_ q=>q
def f_len:hB X (.builtin "len") (kL X.K m Den.kB):=by
 intro pins s σ H xs us Q I r ⟨G,x,d,ex,aa,bS,hw⟩;subst ex;cases d with
 |tup ds =>
  obtain⟨a,ys,rfl,k,q⟩:=l0 aa bS;refine B7 pins s σ H _ us Q I r ⟨a,ys,rfl,.inr k,?_⟩;rw[<- q.length];exact hw _ G H (Ext.refl aa) cy.int
 |lst ds =>
  obtain⟨a,ys,rfl,k,q⟩:=kY bS;refine B7 pins s σ H _ us Q I r ⟨a,ys,rfl,.inl k,?_⟩;rw[<- q.length];exact hw _ G H (Ext.refl aa) cy.int
 |_=>exact hw.elim
def f_list:hB X (.type "list") (kL X.K .fresh λd=>Den.ez d>>=λds=>.ok (.lst ds)):=by
 intro pins s σ H xs us Q I r ⟨G,x,d,ex,aa,bS,hw⟩;subst ex;cases d with
 |tup ds =>
  obtain⟨a,ys,rfl,k,q⟩:=l0 aa bS;exact B8 pins s σ H _ us Q I r ⟨a,ys,rfl,.inr k,λl aA=>hw _ G _ (Ext.own aa aA λ_ z=>nomatch z) ⟨l,ys,rfl,dF,aA,aa.free aA,q⟩⟩
 |lst ds =>
  obtain⟨a,ys,rfl,k,q⟩:=kY bS;exact B8 pins s σ H _ us Q I r ⟨a,ys,rfl,.inl k,λl aA=>hw _ G _ (Ext.own aa aA λ_ z=>nomatch z) ⟨l,ys,rfl,dF,aA,aa.free aA,q⟩⟩
 |_=>exact hw.elim
def NI:hB X (.type "tuple") (kL X.K .val λd=>Den.ez d>>=λds=>.ok (.tup ds)):=by
 intro pins s σ H xs us Q I r ⟨G,x,d,ex,aa,bS,hw⟩;subst ex;cases d with
 |tup ds =>
  obtain⟨a,ys,rfl,k,q⟩:=l0 aa bS;exact Ca pins s σ H _ us Q I r ⟨a,ys,rfl,.inr ⟨k,hw _ G H (Ext.refl aa) bS⟩⟩
 |lst ds =>
  obtain⟨a,ys,rfl,k,q⟩:=kY bS;exact Ca pins s σ H _ us Q I r ⟨a,ys,rfl,.inl ⟨k,λl aA=>hw _ (upd G l (.tup ys)) _ (Ext.put aa aA) ⟨l,ys,rfl,dF,q.mono (gg (aa.free aA))⟩⟩⟩
 |_=>exact hw.elim
end
def vj{X:aQ}{pins:List (Addr×Obj)}{σ:dm}{H:aw}{s:Shared}{a:Addr}(I:Inv X pins σ H s)(h:(∃ys,gW H a (.d0 ys))\/∃ys,gW H a (.dg ys)):∃o,s.heap.get? a=some o/\o.cls=.type "dict":=by
 rcases h with⟨ys,h|⟨ba,h⟩⟩|⟨ys,h|⟨ba,h⟩⟩
 .obtain⟨_,_,_,_,o,_,_,e,x,_⟩:=(show dR X.prog X.w H s.heap a (.d0 ys) from I.bK a _ h);exact⟨o,e,x.1⟩
 .obtain⟨_,_,_,_,_,o,_,_,e,x,_⟩:=(show dR X.prog X.w H s.heap a (.dv ba (.d0 ys)) from I.bK a _ h);exact⟨o,e,x.1⟩
 .obtain⟨_,_,_,_,o,_,_,e,x,_⟩:=(show dR X.prog X.w H s.heap a (.dg ys) from I.bK a _ h);exact⟨o,e,x.1⟩
 .obtain⟨_,_,_,_,_,o,_,_,e,x,_⟩:=(show dR X.prog X.w H s.heap a (.dv ba (.dg ys)) from I.bK a _ h);exact⟨o,e,x.1⟩
section
variable{xp:cu}{X:aQ}{mu:List Nat}{m:eB}{f bg cj cD:aY->bx D}{bA:aY->bx (List D)}{a b c e:Expr}{ah:List Expr}{pos:Pos}{pins:List (Addr×Obj)}{σ:dm}{G H:aw}{s:Shared}
noncomputable def Xm:D->String
 |.dp=>"NoneType"
 |.aO _=>"bool"
 |.int _=>"int"
 |.str _=>"str"
 |.tup _=>"tuple"
 |.lst _=>"list"
 |.b7 _=>"dict"
 |.bE _=>"dict"
 |.cG _=>"dict"
 |.fs _=>""
noncomputable def p7:Den.Ty->String
 |.int=>"int"|.bool=>"bool"|.str=>"str"|.tuple=>"tuple"|.cls _=>""
def QL(K:W.Frag)(up:Den.gX)(d:D)(t:Den.Ty)(ay:∀c,t≠.cls c)(hd:∀c,d≠.fs c):∃b,Den.lI up d t=.ok b/\PySem.W.kitOne K (.type (Xm d)) (.type (p7 t))=some b:=by
 cases t with
 |cls c=>exact absurd rfl (ay c)
 |int=>cases d<;>first|exact absurd rfl (hd _)|exact⟨_,rfl,by kernel_rfl⟩
 |bool=>cases d<;>first|exact absurd rfl (hd _)|exact⟨_,rfl,by kernel_rfl⟩
 |str=>cases d<;>first|exact absurd rfl (hd _)|exact⟨_,rfl,by kernel_rfl⟩
 |tuple=>cases d<;>first|exact absurd rfl (hd _)|exact⟨_,rfl,by kernel_rfl⟩
def XM(I:Inv X pins σ H s)(aa:bQ G H){d:D}{x:V}{u:Value}{up:Den.gX}{t:Den.Ty}(ay:∀c,t≠.cls c)(bS:View X.K G H d x)(a7:RelV x u){Q:c0}(hw:cz (Den.lI up d t) (λb=>Q (.aO b) H) (λ_=>False)):
  wpAny (model X.prog X.w) X.A (call (.builtin "isinstance") [u,.type (p7 t)]) (eN X pins σ Q) X.cA s:=by
 have hd:∀c,d≠.fs c:=λc e=>by subst e;exact bS.elim
 obtain⟨b,aj,ak⟩:=QL X.K up d t ay hd;rw[aj]at hw;have fin:∀tk,eN X pins σ Q (.bool b) { s with toks:=tk }:=λtk=>⟨.aO b,H,I.tok tk,rfl,hw⟩
 cases d with
 |dp=>cases bS;exact uE I a7 .dp ak fin
 |aO y=>cases bS;exact uE I a7 (.aO y) ak fin
 |int i=>cases bS;exact uE I a7 (.int i) ak fin
 |str y=>cases bS;exact uE I a7 (.str y) ak fin
 |tup ds =>
  obtain⟨a,ys,rfl,k,q⟩:=l0 aa bS;cases a7;obtain⟨its,bX,⟨o,C,J,_⟩,hz⟩:=I.tuple k;exact ZC PySem.W.kitx_tuple I.fT ⟨o,C,J⟩ ak (λz=>nomatch z) fin
 |lst ds =>
  obtain⟨a,ys,rfl,k,q⟩:=kY bS;cases a7;obtain⟨its,bX,⟨o,n,C,J,_⟩,z⟩:=I.list k;exact ZC ab9 I.fT ⟨o,C,J⟩ ak (λz=>nomatch z) fin
 |b7 af =>
  obtain⟨a,rfl,h⟩:=bS;cases a7;obtain⟨o,C,J⟩:=vj I (.inr ⟨_,h⟩);exact ZC aa3 I.fT ⟨o,C,J⟩ ak (λz=>nomatch z) fin
 |bE af =>
  obtain⟨a,ys,rfl,h,_⟩:=bS;cases a7;obtain⟨o,C,J⟩:=vj I (.inl ⟨_,h⟩);exact ZC aa3 I.fT ⟨o,C,J⟩ ak (λz=>nomatch z) fin
 |cG af =>
  obtain⟨a,ys,rfl,h,_⟩:=bS;cases a7;obtain⟨o,C,J⟩:=vj I (.inr ⟨_,h⟩);exact ZC aa3 I.fT ⟨o,C,J⟩ ak (λz=>nomatch z) fin
 |fs c=>exact absurd rfl (hd c)
def Qd{up:Den.gX}{d:D}{t:Den.Ty}{c:Nat}:Den.lI up d t≠.exc c:=by
 intro h;cases t<;>first|(cases h;done)|skip
 cases d<;>cases h
def UZ{up:Den.gX}{t:Den.Ty}{x y:Str}{p fb:Pos}(ay:∀c,t≠.cls c)(nZ:eU X x)(hm:X.aX x=none)(aN:bootBuiltins x=some (.builtin "isinstance"))(ON:eU X y)(y8:X.aX y=none)(jO:bootBuiltins y=some (.type (p7 t)))(aB:aM X e (bj xp X mu .view f))(aD:x≠"__name__")(h4:(x==("__debug__":Str))=false)(uf:y≠"__name__")(OF:(y==("__debug__":Str))=false)(cH:starEach [e,.Name y fb] X.env=(false,eval e X.env)::starEach [.Name y fb] X.env):
  aM X (.Call (.Name x p) [e,.Name y fb] [] pos) (bj xp X mu m λρ=>f ρ>>=λd=>Den.lI up d t>>=λb=>.ok (.aO b)):=by
 intro pins s σ H Q I ⟨G,ρ,aa,hw⟩;have ag:hB X (.builtin "isinstance") (λxs H Q=>∃G x d,xs=[x,.ty (p7 t)]/\bQ G H/\View X.K G H d x/\cz (Den.lI up d t) (λb=>Q (.aO b) H) (λ_=>False)):=by
  intro pins s σ H xs us Q I r ⟨G,x,d,ex,aa,bS,hw⟩;subst ex;obtain⟨u,vP,rfl,cF,Up⟩:=vals2 r;cases Up;exact XM I aa ay bS cF hw
 have rA:fO X [e,.Name y fb] (vG (bj xp X mu .view f) (vG (p3 (.ty (p7 t))) AU)):=pN aB (pN (Su ON y8 jO rfl uf OF) z6 rfl) cH;refine z8 ag nZ hm aN rA aD h4 cH rfl pins s σ H Q I ?_;refine⟨G,ρ,aa,bY (br.mp hw) (λbf k v aH H1 aP aG=>?_) λ_ q=>q⟩;refine⟨aH,v,bf,rfl,aP.sub,aG,?_⟩;exact bY (nc (br.mp k) (λc=>Qd)) (λb q=>q (.aO b) aH H1 aP cy.aO) λ_ q=>q
end
noncomputable def j3(P:Program)(w:World)(xp:cu):jy:=λouter H s E e s' =>
 ∃(c:Nat)(aq:aw)(l:List Addr),s'.os=s.os/\AllBare s'.gens/\ff (iv outer) [] H aq s.heap s'.heap/\en P w aq s'.heap/\bQ H aq/\(∀a∈l,s.heap.get? a=none/\aq a=none)/\xp c e l s'.heap/\E (.int c 0) none aq
noncomputable def oA(K:W.Frag)(ek:List D->bx D)(n:Nat):mf:=λae H Q E =>
 ae.length=n/\∃G ds,bQ G H/\(∀b xs,H b=some (.tup xs)->G b=some (.tup xs))/\bD K G ds ae/\cz (ek ds) (λd=>∀v aI aq,Ext G H aI aq->Rep K aI d v->Q v aq) (λc=>∀aq,bQ H aq->E (.int c 0) none aq)
section
variable{xp:cu}{X:aQ}{mu:List Nat}{m:eB}{f bg cj cD:aY->bx D}{bA:aY->bx (List D)}{a b c e:Expr}{ah:List Expr}{pos:Pos}{pins:List (Addr×Obj)}{σ:dm}{G H:aw}{s:Shared}
noncomputable def CO(xp:cu)(X:aQ):i8:=λu _ aq=>∀c:Nat,u=.int c 0->e2 xp X c aq
def Sq:Passes (j3 X.prog X.w xp) X (CO xp X):=by
 intro pins σ H s e s' I ⟨c,aq,l,os,bare,un,bK,cq,aD,ao,jd⟩;have gz:Inv X pins σ aq s':=I.B6 os un bK bare (λb z=>absurd z (by simp));exact jd c rfl pins σ aq s' e l gz (bQ.refl _) (λa aB=>.of I (aD a aB).1 (aD a aB).2) ao
end
section
variable{prog:Program}{w:World}{A:Around}{R:Result->Shared->Prop}{s:Shared}
def KY{elt target iter:Expr}{ifs:List Expr}{scope:Scope}{pos:Pos}{it acc:Value}{env:Env}(I:Nat->Shared->Prop)(turn:∀n s,I n s->wpAny (model prog w) A (pyNext it) (λr cM=>match r with
   |none=>R (.ok .next) cM
   |some v=>wpAny (model prog w) A (letOwnedTupleGo target it v) (λ_ HP=>wpAny (model prog w) A (assign target env v) (λ_ gw =>
     wpAny (model prog w) A (forIn ifs true λc r=>if r=true then do let ok <- isTrue c env (eval c env);pure (ForInStep.yield ok) else pure (ForInStep.yield r)) (λok p1 =>
      if ok=true then wpAny (model prog w) A (eval elt env) (λx HQ =>
       wpAny (model prog w) A (call (.builtin "list.append") [acc,x]) (λ_ HR=>∃m,m<n/\I m HR) (λ_ _=>False) HQ) (λ_ _=>False) p1
      else ∃m,m<n/\I m p1) (λ_ _=>False) gw) (λ_ _=>False) HP) (λ_ _=>False) cM) (λ_ _=>False) s)(n:Nat)(h:I n s):
  codeAny (model prog w) A (.compLoop (.ListComp elt [⟨target,iter,ifs,0⟩] scope pos) 0 it acc env) R s:=by
 have up:∀{α:Type}{t:Sem α}{Q:α->Shared->Prop}{E:Value->Shared->Prop}{s:Shared},wpAny (model prog w) A t Q (λ_ _=>False) s->wpAny (model prog w) A t Q E s:=λh=>ZR h (λ_ _ q=>q) λ_ _ z=>z.elim
 refine codeAny_loop rfl I (λn s b4=>?_) n h;show wpAny _ A ((compTurn (.ListComp elt [⟨target,iter,ifs,0⟩] scope pos) 0 it acc env).onRaise (λx=>do noteFrame x env;theTreesLotGoes x)) _ _ s;refine wpAny_noted ?_;rw[compTurn_list];refine YW (wpAny_standAt (YW (ZR (turn n s b4) (λr cM hO=>?_) λ_ _ z=>z.elim)));cases r with
 |none=>exact YY hO
 |some v =>
  refine YW (ZR hO (λ_ HP PY=>?_) λ_ _ z=>z.elim);refine YW (ZR PY (λ_ gw rJ=>YW (ZR rJ (λok p1 uv=>?_) λ_ _ z=>z.elim)) λ_ _ z=>z.elim);cases ok with
  |false=>exact YY ⟨rfl,uv⟩
  |true =>
   refine YW (YW (ZR uv (λx HQ PZ=>YW (ZR PZ (λ_ HR P0=>?_) λ_ _ z=>z.elim)) λ_ _ z=>z.elim));exact YY (YY ⟨rfl,P0⟩)
end
noncomputable def gE(env:Env):List (Str×NameKind)->List (Str×Addr)->List (Str×Addr)
 |[],cs=>cs
 |(n,k)::r,cs=>if k==.free then gE env r ((n,(env.cells.lookup n).getD 0)::cs) else gE env r cs
def KH{scope:Scope}{env:Env}(h:∀x∈scope.names,x.2=.free->∃c,env.cells.lookup x.1=some c):closureFor scope env=pure (gE env scope.names []):=by
 have key:∀(l:List (Str×NameKind))(cs:List (Str×Addr)),(∀x∈l,x.2=.free->∃c,env.cells.lookup x.1=some c) ->
   (forIn l cs λ(x:Str×NameKind)(r:List (Str×Addr))=>(match x with
    |(name,kind)=>if (kind==NameKind.free)=true then do let a <- cellOf env name;pure (ForInStep.yield ((name,a)::r)) else pure (ForInStep.yield r):Sem (ForInStep (List (Str×Addr)))))=(pure (gE env l cs):Sem _):=by
  intro l
  induction l with
  |nil=>intro cs _;rfl
  |cons x l aE =>
   intro cs ao;obtain⟨n,k⟩:=x;simp only[List.forIn_cons,gE];cases q:(k==NameKind.free) with
   |false =>
    simp only[Y1,Zk,pure_bind];exact aE cs λy aV=>ao y (List.mem_cons_of_mem _ aV)
   |true =>
    have ax:k=.free:=(by simpa using q);obtain⟨c,e⟩:=ao (n,k) List.mem_cons_self ax;simp only at e;simp only[ZH,cellOf,e,pure_bind,Option.getD_some];exact aE _ λy aV=>ao y (List.mem_cons_of_mem _ aV)
 unfold closureFor;have:=key scope.names [] h;simp only[bind_pure];exact this
theorem xS{env:Env}{x:Str}{c:Addr}:∀(l:List (Str×NameKind))(cs:List (Str×Addr)),(gE env l cs).lookup x=some c->cs.lookup x=some c\/(∃y∈l,y.1=x/\y.2=.free/\c=(env.cells.lookup x).getD 0)
 |[],cs,h=>.inl h
 |(n,k)::r,cs,h=>by
  unfold gE at h;cases q:(k==NameKind.free) with
  |false =>
   rw[q]at h;rcases xS r cs h with C|⟨y,aV,C⟩
   .exact .inl C
   .exact .inr ⟨y,List.mem_cons_of_mem _ aV,C⟩
  |true =>
   rw[q]at h;have ax:k=.free:=(by simpa using q);rcases xS r _ h with C|⟨y,aV,C⟩
   .rw[Zv]at C;cases z:(x==n) with
    |false=>rw[z]at C;exact .inl C
    |true =>
     rw[z]at C;have e:x=n:=(by simpa using z);subst e;exact .inr ⟨(x,k),List.mem_cons_self,rfl,ax,(ZA C).symm⟩
   .exact .inr ⟨y,List.mem_cons_of_mem _ aV,C⟩
theorem xR{env:Env}{x:Str}:∀(l:List (Str×NameKind))(cs:List (Str×Addr)),((∃y∈l,y.1=x/\y.2=.free)\/(cs.lookup x).isSome=true)->((gE env l cs).lookup x).isSome=true
 |[],cs,h=>by
  rcases h with⟨y,aV,_⟩|h
  .simp at aV
  .exact h
 |(n,k)::r,cs,h=>by
  unfold gE;cases q:(k==NameKind.free) with
  |false =>
   refine xR r cs ?_;rcases h with⟨y,aV,C,J⟩|h
   .rcases Y0.mp aV with e|aV
    .subst e;simp only at J;rw[J]at q;cases q
    .exact .inl ⟨y,aV,C,J⟩
   .exact .inr h
  |true =>
   refine xR r _ ?_;rcases h with⟨y,aV,C,J⟩|h
   .rcases Y0.mp aV with e|aV
    .subst e;simp only at C;subst C;exact .inr (by simp)
    .exact .inl ⟨y,aV,C,J⟩
   .refine .inr ?_;rw[Zv];cases z:(x==n)
    .exact h
    .rfl
theorem mR{env:Env}{x:Str}:∀{names:List (Str×NameKind)}{k:NameKind},(names.map λ(n,k)=>if (k==NameKind.free&&env.scope.kind==.function&&env.kindOf n==some .cell) then(n,NameKind.cell) else(n,k)).lookup x=some k ->
  names.lookup x=some k\/(names.lookup x=some .free/\k=.cell)
 |[],_,h=>by simp at h
 |(n,j)::r,k,h=>by
  have h:List.lookup x ((if (j==NameKind.free&&env.scope.kind==.function&&env.kindOf n==some .cell)=true then(n,NameKind.cell) else(n,j))::(r.map λ(n,k)=>if (k==NameKind.free&&env.scope.kind==.function&&env.kindOf n==some .cell) then(n,NameKind.cell) else(n,k)))=some k:=h;rw[Zv];cases ao:x==n with
  |true =>
   by_cases ag:(j==NameKind.free&&env.scope.kind==.function&&env.kindOf n==some .cell)=true
   .rw[if_pos ag,Zv]at h;simp only[ao]at h;have aJ:j=.free:=(by simp only[YX,ZL]at ag;exact ag.1.1);exact .inr ⟨by rw[aJ],(ZA h).symm⟩
   .rw[if_neg ag,Zv]at h;simp only[ao]at h;exact .inl h
  |false =>
   by_cases ag:(j==NameKind.free&&env.scope.kind==.function&&env.kindOf n==some .cell)=true
   .rw[if_pos ag,Zv]at h;simp only[ao]at h;exact mR h
   .rw[if_neg ag,Zv]at h;simp only[ao]at h;exact mR h
theorem vl{env:Env}{x:Str}{k:NameKind}:∀{names:List (Str×NameKind)},names.lookup x=some k->k≠.free->(names.map λ(n,k)=>if (k==NameKind.free&&env.scope.kind==.function&&env.kindOf n==some .cell) then(n,NameKind.cell) else(n,k)).lookup x=some k
 |[],h,_=>by simp at h
 |(n,j)::r,h,ax=>by
  show List.lookup x ((if (j==NameKind.free&&env.scope.kind==.function&&env.kindOf n==some .cell)=true then(n,NameKind.cell) else(n,j))::_)=_;rw[Zv]at h;cases ao:x==n with
  |true =>
   simp only[ao]at h;have aJ:j=k:=ZA h;subst aJ;have ag:¬(j==NameKind.free&&env.scope.kind==.function&&env.kindOf n==some .cell)=true:=by
    intro z;simp only[YX,ZL]at z;exact ax z.1.1
   rw[if_neg ag,Zv];simp only[ao]
  |false =>
   simp only[ao]at h;have aE:=vl (env:=env) h ax
   by_cases ag:(j==NameKind.free&&env.scope.kind==.function&&env.kindOf n==some .cell)=true
   .rw[if_pos ag,Zv];simp only[ao];exact aE
   .rw[if_neg ag,Zv];simp only[ao];exact aE
theorem Aq{env:Env}{x:Str}:∀{names:List (Str×NameKind)},names.lookup x=some .free->(names.map λ(n,k)=>if (k==NameKind.free&&env.scope.kind==.function&&env.kindOf n==some .cell) then(n,NameKind.cell) else(n,k)).lookup x=some .cell\/(names.map λ(n,k)=>if (k==NameKind.free&&env.scope.kind==.function&&env.kindOf n==some .cell) then(n,NameKind.cell) else(n,k)).lookup x=some .free
 |[],h=>by simp at h
 |(n,j)::r,h=>by
  show List.lookup x ((if (j==NameKind.free&&env.scope.kind==.function&&env.kindOf n==some .cell)=true then(n,NameKind.cell) else(n,j))::_)=_\/List.lookup x ((if (j==NameKind.free&&env.scope.kind==.function&&env.kindOf n==some .cell)=true then(n,NameKind.cell) else(n,j))::_)=_;rw[Zv]at h;cases ao:x==n with
  |true =>
   simp only[ao]at h
   by_cases ag:(j==NameKind.free&&env.scope.kind==.function&&env.kindOf n==some .cell)=true
   .rw[if_pos ag,Zv];simp[ao]
   .rw[if_neg ag,Zv];simp only[ao];exact .inr h
  |false =>
   simp only[ao]at h;have aE:=Aq (env:=env) h
   by_cases ag:(j==NameKind.free&&env.scope.kind==.function&&env.kindOf n==some .cell)=true
   .rw[if_pos ag,Zv];simp only[ao];exact aE
   .rw[if_neg ag,Zv];simp only[ao];exact aE
noncomputable def nD(X:aQ)(Ky:Env)(dM:List Str)(s3:Shared)(bP:aw)(bI:List Addr)(pins:List (Addr×Obj)):aQ :=
 { X with N:=dM,fl:=s3,qo:=bP,env:=Ky,outer:=X.stack,ex:=bI,fn:=λ_=>false,fV:=X.fV++pins,cA:=λ_ _=>False }
structure oJ(X:aQ)(scope:Scope)(xs:List Str)(dM:List Str):Prop where
 kind:scope.kind=.function
 mY:∀y∈scope.names,y.2≠.cell
 names:∀y∈scope.names,y.2=.local->scope.names.lookup y.1=some .local
 loc:∀y,scope.names.lookup y=some .local->y∈xs\/y=(".0":Str)
 fm:∀y∈xs,scope.names.lookup y=some .local
 fr:∀y∈scope.names,y.2=.free->X.env.scope.names.lookup y.1=some .cell\/X.env.scope.names.lookup y.1=some .free
 len:dM.length=X.N.length+xs.length
 old:∀(i:Nat) y,i<X.N.length->dM[i]?=some y->(scope.names.lookup y).isSome=true->X.N[i]?=some y/\y∉xs/\y≠(".0":Str)
 new:∀(j:Nat),dM[X.N.length+j]?=xs[j]?
 dP:dM.Nodup
section
variable{X:aQ}{pins:List (Addr×Obj)}{σ:dm}{H:aw}{s:Shared}{bI:List Addr}{scope:Scope}{xs dM:List Str}{hO:Heap}{tk:Nat}
def Kf(I:Inv X pins σ H s)(hf:∀b∈bI,j5 X pins H b)(av:∀b∈bI,∃o,s.heap.get? b=some o)(B:oJ X scope xs dM)(mK:hO.Ns s.heap.objs.size (λ_=>none))(ax:∀b o,s.heap.get? b=some o->hO.get? b=some o):
  Inv (nD X (compEnvC scope (gE X.env scope.names []) s.heap.objs.size X.env) dM s H bI pins) [] (σ++List.replicate xs.length none) H { s with heap:=hO,toks:=tk }:=by
 have look:∀y c,(gE X.env scope.names []).lookup y=some c->X.env.cells.lookup y=some c:=λy c e=>by
  rcases xS _ _ e with h|⟨z,hz,aj,ak,bu⟩
  .simp at h
  .have:=B.fr z hz ak;rw[aj]at this;obtain⟨c2,cN⟩:=I.ok.has y (by rcases this with q|q;exact .inl q;exact .inr q);rw[cN]at bu;simp at bu;rw[cN,bu]
 have has:∀y,scope.names.lookup y=some .free->∃c,(gE X.env scope.names []).lookup y=some c:=λy e =>
  Option.isSome_iff_exists.mp (xR _ _ (.inl ⟨(y,.free),ZK e,rfl,rfl⟩))
 have X8:∀y c,X.env.cells.lookup y=some c->c<s.heap.objs.size:=λy c e=>by
  obtain⟨v,q⟩:=I.cell y c e;exact q.lt
 have FU:∀b,b<s.heap.objs.size->b≠s.heap.objs.size:=λb ab=>Zh ab
 refine⟨⟨I.ok.mod,B.kind,I.ok.glob,I.ok.blt,Y2 _,λy z c aj ak=>I.ok.inj y z c (look y c aj) (look z c ak),λy aV=>?_,λy c q _=>Bool.noConfusion q,I.ok.hd,I.ok.frames,.inl rfl,λb ab=>?_,I.bs,ZX I.ok.qG I.gQ,λb o e ab=>?_,λb ab yM=>?_,I.stack,I.HN⟩,
  rfl,I.bare,ff.kept ax,⟨_,mK,λi y v aj ak bu=>?_⟩,λy c e=>?_,I.fresh,λy c e=>I.ki y c (look y c e),λp az=>?_,I.bK.kept ax,?_⟩
 .-- has
  have aV:(relabel scope X.env).names.lookup y=some .cell\/(relabel scope X.env).names.lookup y=some .free:=aV;have:scope.names.lookup y=some .free:=by
   rcases aV with q|q
   .rcases mR q with z|z
    .exact absurd rfl (B.mY _ (ZK z))
    .exact z.1
   .rcases mR q with z|z
    .exact z
    .exact z.1
  exact has y this
 .-- Dg
  obtain⟨f0,f1,f2,fg,f4,fh⟩:=hf b ab;obtain⟨o,av⟩:=av b ab;exact⟨FU b (Y5 av),λy c e=>f4 y c (look y c e)⟩
 .-- uY
  obtain⟨f0,f1,f2,fg,f4,fh⟩:=hf b ab;rcases fg with q|q
  .exact I.ok.uY b o e q
  .have:=Y5 (I.ok.bs b o e).1;exact absurd (Zj this q) (aau _)
 .-- tN
  obtain⟨f0,f1,f2,fg,f4,fh⟩:=hf b ab;rcases Y0.mp (I.vE b yM) with q|q
  .exact f1 q
  .exact f2 q
 .-- Ie names
  have ai:i<σ.length:=by
   by_cases ai:i<σ.length
   .exact ai
   .rw[Zr (by omega),abm]at ak
    split at ak<;>cases ak
  rw[Zd ai]at ak;have OR:i<X.N.length:=(by rw[<- I.len];exact ai);have bu:fA (relabel scope X.env) y:=bu;have PL:(scope.names.lookup y).isSome=true:=by
   rcases bu with q|q|q
   all_goals
    rcases mR q with z|z
    .rw[z];rfl
    .rw[z.1];rfl
  obtain⟨Mh,ao,h0⟩:=B.old i y OR aj PL;have mH:scope.names.lookup y=some .free:=by
   rcases bu with q|q|q
   .rcases mR q with z|z
    .rcases B.loc y z with w|w
     .exact absurd w ao
     .exact absurd w h0
    .exact z.1
   .rcases mR q with z|z
    .exact absurd rfl (B.mY _ (ZK z))
    .exact z.1
   .rcases mR q with z|z
    .exact z
    .exact z.1
  have aF:=B.fr (y,.free) (ZK mH) rfl;obtain⟨m,aD,aA⟩:=I.loc;obtain⟨u,r,l⟩:=aA i y v Mh ak (by rcases aF with q|q;exact .inr (.inl q);exact .inr (.inr q));refine⟨u,r,.inr ⟨?_,?_⟩⟩
  .exact Aq mH
  .rcases l with⟨k,_⟩|⟨_,c,jJ,z⟩
   .exfalso;have k:X.env.scope.names.lookup y=some .local:=k;simp only at aF;rcases aF with q|q<;>rw[k]at q<;>cases q
   .obtain⟨c2,cN⟩:=has y mH;have e:c2=c:=(by have:=look y c2 cN;rw[jJ]at this;exact(ZA this).symm);subst e;obtain⟨o,C,J⟩:=z;exact⟨c2,cN,o,ax _ _ C,J⟩
 .-- cells
  obtain⟨v,o,C,J⟩:=I.cell y c (look y c e);exact⟨v,o,ax _ _ C,J⟩
 .-- pins
  have az:p∈X.fV++pins:=(by simpa[nD] using az);obtain⟨e,n,ne,mW,d⟩:=I.pin p az;refine⟨ax _ _ e,n,FU _ (Y5 e),λab=>?_,d⟩;rcases Y0.mp (I.vE p.1 ab) with q|q
  .exact ne q
  .exact mW q
 .show _=dM.length;rw[List.length_append,aa1,B.len,I.len]
end
noncomputable def m6:List Nat->List V->dm->dm
 |i::is,v::ae,σ=>m6 is ae (σ.set i (some v))
 |_,_,σ=>σ
noncomputable def yv:List Nat->mg
 |[]=>DH
 |i::is=>DF (yu i) (yv is)
theorem DG:∀(ts:List Nat)(ae:List V)(σ:dm)(H:aw)(Q:dm->aw->Prop),ae.length=ts.length->Q (m6 ts ae σ) H->yv ts ae σ H Q
 |[],[],σ,H,Q,_,q=>⟨rfl,q⟩
 |[],_::_,_,_,_,h,_=>by simp at h
 |_::_,[],_,_,_,h,_=>by simp at h
 |i::is,v::ae,σ,H,Q,h,q=>⟨v,ae,rfl,DG is ae _ H Q (by simpa using h) q⟩
noncomputable def yt(K:W.Frag)(k:Nat)(ts:List Nat):k4:=λv σ H Q=>∃G d,bQ G H/\Rep K G d v/\cz (Den.gp k d) (λos=>∀(ws:List D)(ae:List V),os=ws.map some->bD K G ws ae->Q (m6 ts ae σ) H) (λ_=>False)
section
variable{X:aQ}
theorem Gj(aK:X.N.Nodup):∀(ts:List Nat)(ys:List Str)(ah:List Expr),Den.namesOf ah=some ys->ts.length=ys.length->(∀(j i:Nat) y,ts[j]?=some i->ys[j]?=some y->X.N[i]?=some y/\Loc X.env.scope y/\(X.fn y=true\/X.env.scope.names.lookup y=some .local)) ->
  qr X ah (yv ts)/\(assignEach ah X.env).length=ts.length/\(assignEach ah X.env).findIdx? (·.1)=none
 |ts,ys,[],h,aA,_=>by
  simp only[Den.namesOf,ZP]at h;subst h;have:ts=[]:=(by simpa using aA);subst this;exact⟨S3,rfl,rfl⟩
 |ts,ys,e::ah,h,aA,ao=>by
  simp only[Den.namesOf]at h;cases e with
  |Name x p =>
   cases q:Den.namesOf ah with
   |none=>simp only[Den.nameOf,q]at h;cases h
   |some zs =>
    simp only[Den.nameOf,q,ZP]at h;subst h;cases ts with
    |nil=>simp at aA
    |cons i is =>
     obtain⟨a,b,c⟩:=ao 0 i x rfl rfl;obtain⟨C,J,aC⟩:=Gj aK is zs ah q (by simpa using aA) λj i y aj ak=>ao (j+1) i y (by simpa using aj) (by simpa using ak)
     refine⟨S2 (Gh aK a b c) C rfl,?_,?_⟩
     .show(assignEach ah X.env).length+1=is.length+1;rw[J]
     .show((false,assign (.Name x p) X.env)::assignEach ah X.env).findIdx? (·.1)=none;rw[List.findIdx?_cons];simp only[Y1,Zk];rw[aC];rfl
  |_=>simp only[Den.nameOf]at h;cases h
def Gi(ag:X.calm=true)(aK:X.N.Nodup){k:Nat}{target:Expr}{ys:List Str}{ts:List Nat}(ay:Den.fm k target=some ys)(aA:ts.length=ys.length)(ao:∀(j i:Nat) y,ts[j]?=some i->ys[j]?=some y->X.N[i]?=some y/\Loc X.env.scope y/\(X.fn y=true\/X.env.scope.names.lookup y=some .local)):mc X target (yt X.K k ts):=by
 cases k with
 |zero =>
  cases target with
  |Name x p =>
   simp only[Den.fm,ZP]at ay;subst ay;obtain⟨i,rfl⟩:∃i,ts=[i]:=by
    match ts,aA with
    |[i],_=>exact⟨i,rfl⟩
   obtain⟨a,b,c⟩:=ao 0 i x rfl rfl;intro pins s σ H v u Q I r ⟨G,d,aa,dD,hw⟩;refine Gh aK a b c pins s σ H v u Q I r ?_;exact hw [d] [v] rfl ⟨v,[],rfl,dD,rfl⟩
  |_=>simp only[Den.fm]at ay;cases ay
 |succ k =>
  cases target with
  |Tuple ah j p =>
   simp only[Den.fm]at ay;cases q:Den.namesOf ah with
   |none=>rw[q]at ay;cases ay
   |some zs =>
    rw[q]at ay;simp only at ay
    by_cases hz:zs.length=k+1
    .rw[if_pos hz]at ay;simp only[ZP]at ay;subst ay;obtain⟨C,J,aC⟩:=Gj aK ts zs ah q aA ao;intro pins s σ H v u Q I r ⟨G,d,aa,dD,hw⟩;refine S1 (n:=ts.length) ag C J aC pins s σ H v u Q I r ?_;cases d with
     |tup ds =>
      obtain⟨a,xs,e,h7,G0⟩:=dD;have ab:Den.gp (k+1) (.tup ds)=if ds.length=k+1 then .ok (ds.map some) else .bad:=rfl;rw[ab]at hw
      by_cases hd:ds.length=k+1
      .rw[if_pos hd]at hw;have Em:xs.length=ts.length:=(by rw[<- G0.length,hd,aA,hz]);exact⟨a,xs,e,iF aa h7,Em,DG ts xs σ H Q Em (hw ds xs rfl G0)⟩
      .rw[if_neg hd]at hw;exact hw.elim
     |_=>exact hw.elim
    .rw[if_neg hz]at ay;cases ay
  |_=>simp only[Den.fm]at ay;cases ay
end
structure nq(K:W.Frag)(P:aw->aw->Prop)(dB:jA)(ds:List D):Prop where
 go:∀(i:Nat) aH H1,P aH H1->i<ds.length->dB.go i H1
 k0:∀(i:Nat) aH H1 x aW d,P aH H1->bQ aH H1->ds[i]?=some d->dB.k0 i H1 x aW->∃cf,Ext aH H1 cf aW/\Rep K cf d x
 stop:∀aH H1,P aH H1->dB.stop ds.length H1
noncomputable def qs(m:eB)(G H:aw):aw->aw->Prop:=λaH H1=>bQ G aH/\(match m with|.view=>bQ H H1|_=>bQ aH H1)
noncomputable def jY(xp:cu)(X:aQ)(mu:List Nat)(m:eB)(f:aY->bx (List D)):TI:=λσ H R =>
 ∃G ρ,eD X.K mu G H ρ σ/\cz (f ρ) (λds=>∀dB aI aq,Ext G H aI aq->nq X.K (qs m aI aq) dB ds->ds.length<=16777216->R dB aq) (λc=>e2 xp X c H)
def uX{α:Type}{r:bx α}{Q:α->Prop}{E:Nat->Prop}(h:cz (Den.iZ r) Q E):∃a,r=.ok a/\Q a:=by
 cases r with
 |ok a=>exact⟨a,rfl,h⟩
 |exc c=>exact h.elim
 |bad=>exact h.elim
def eD.more{K:W.Frag}{mu:List Nat}{G H:aw}{ρ:aY}{σ:dm}(h:eD K mu G H ρ σ)(h6:∀i∈mu,i<ρ.length){ws:List D}{ae:List V}(r:bD K G ws ae):eD K mu G H (ρ++ws.map some) (σ++ae.map some) where
 len:=by rw[List.length_append,List.length_append,h.len,List.length_map,List.length_map,r.length]
 sub:=h.sub
 val:=λi d e hm=>by
  by_cases ai:i<ρ.length
  .rw[Zd ai]at e;obtain⟨v,a,b⟩:=h.val i d e hm;exact⟨v,by rw[Zd (by rw[<- h.len];exact ai)];exact a,b⟩
  .rw[Zr (by omega),Ze]at e;cases q:ws[i-ρ.length]? with
   |none=>rw[q]at e;cases e
   |some w =>
    rw[q]at e;simp only[Option.map_some,ZP]at e;subst e;obtain⟨v,a,b⟩:=r.get q;exact⟨v,by rw[Zr (by rw[<- h.len];omega),Ze,<- h.len,a];rfl,b⟩
 own:=λi d e hm aA=>by
  have ai:=h6 i hm;rw[Zd ai]at e;obtain⟨v,a,b⟩:=h.own i d e hm aA;exact⟨v,by rw[Zd (by rw[<- h.len];exact ai)];exact a,b⟩
 lst:=λi d e hm aA=>by
  have ai:=h6 i hm;rw[Zd ai]at e;obtain⟨a,o,C,J⟩:=h.lst i d e hm aA;exact⟨a,o,by rw[Zd (by rw[<- h.len];exact ai)];exact C,J⟩
 dK:=h.dK
 apart:=λi j ds ah a b aj ak b9 cg ai aJ ne C J=>by
  have fu:=h6 i ai;have y2:=h6 j aJ;rw[Zd fu]at aj;rw[Zd y2]at ak;rw[Zd (by rw[<- h.len];exact fu)]at C;rw[Zd (by rw[<- h.len];exact y2)]at J;exact h.apart i j ds ah a b aj ak b9 cg ai aJ ne C J
theorem Hm:∀(ae:List V)(σ:dm)(gx:dm)(n:Nat),n=σ.length->gx.length=ae.length->m6 (List.range' n ae.length) ae (σ++gx)=σ++ae.map some
 |[],σ,gx,n,aD,ay=>by
  have:gx=[]:=(by simpa using ay);subst this;rfl
 |v::ae,σ,gx,n,aD,ay=>by
  cases gx with
  |nil=>simp at ay
  |cons t gx =>
   rw[List.length_cons,List.range'_succ,m6];have e:(σ++t::gx).set n (some v)=(σ++[some v])++gx:=by
    rw[List.set_append_right _ _ (by omega),aD];simp
   rw[e,Hm ae (σ++[some v]) gx (n+1) (by simp[aD]) (by simpa using ay)];simp
section
variable{xp:cu}{X:aQ}{mu:List Nat}{jK:aY->bx (List D)}{eW:aY->bx D}{cD:aY->bx Bool}{elt target iter:Expr}{ifs:List Expr}{scope:Scope}{pos:Pos}{xs dM:List Str}{k:Nat}
noncomputable def jb(k:Nat)(cD:aY->bx Bool)(eW:aY->bx D)(ρ:aY)(d:D):bx (Option D):=Den.gp k d>>=λae=>cD (ρ++ae)>>=λb=>if b then eW (ρ++ae)>>=λy=>.ok (some y) else .ok none
noncomputable def hj(X:aQ)(scope:Scope)(dM:List Str)(s3:Shared)(bP:aw)(bI:List Addr)(pins:List (Addr×Obj)):aQ:=nD X (compEnvC scope (gE X.env scope.names []) s3.heap.objs.size X.env) dM s3 bP bI pins
def J9{k:Nat}{d:D}{os:List (Option D)}(h:Den.gp k d=.ok os):∃ws:List D,os=ws.map some:=by
 cases k with
 |zero=>cases h;exact⟨[d],rfl⟩
 |succ k =>
  cases d with
  |tup ds =>
   have ab:Den.gp (k+1) (.tup ds)=if ds.length=k+1 then .ok (ds.map some) else .bad:=rfl;rw[ab]at h
   by_cases hd:ds.length=k+1
   .rw[if_pos hd]at h;cases h;exact⟨ds,rfl⟩
   .rw[if_neg hd]at h;cases h
  |_=>cases h
end
section
variable{xp:cu}{X:aQ}{mu:List Nat}{jK:aY->bx (List D)}{eW:aY->bx D}{cD:aY->bx Bool}{elt target iter:Expr}{ifs:List Expr}{scope:Scope}{pos:Pos}{xs dM:List Str}{k:Nat}
noncomputable def qw(xp:cu)(X:aQ)(mu:List Nat)(scope:Scope)(dM:List Str)(ifs:List Expr)(cD:aY->bx Bool):Prop :=
 (ifs=[]/\cD=λ_=>.ok true)\/∃(c:Expr)(tO:aY->bx D),ifs=[c]/\(cD=λρ=>tO ρ>>=Den.eE)/\∀s3 bP bI pins,eh (hj X scope dM s3 bP bI pins) c (fx xp (hj X scope dM s3 bP bI pins) mu tO)
def Xb(ay:qw xp X mu scope dM ifs cD){s3:Shared}{bP:aw}{bI:List Addr}{pp pins:List (Addr×Obj)}{s:Shared}{σ:dm}{G H:aw}{ρ:aY}{b:Bool}{Q:Bool->Shared->Prop}(I:Inv (hj X scope dM s3 bP bI pp) pins σ H s)(aa:eD X.K mu G H ρ σ)(ab:cD ρ=.ok b)(aL:∀s' aI aq,Inv (hj X scope dM s3 bP bI pp) pins σ aq s'->Ext G H aI aq->Q b s'):
  wpAny (model X.prog X.w) X.A (forIn ifs true λc r=>if r=true then do let ok <- isTrue c (hj X scope dM s3 bP bI pp).env (eval c (hj X scope dM s3 bP bI pp).env);pure (ForInStep.yield ok) else pure (ForInStep.yield r)) Q (λ_ _=>False) s:=by
 rcases ay with⟨rfl,rfl⟩|⟨c,tO,rfl,rfl,h⟩
 .cases ab;exact wpAny_tests_nil (aL s G H I (Ext.refl aa.sub))
 .refine wpAny_tests_one (ZR (h s3 bP bI pp pins s σ H (λgn aq=>gn=b/\∃aI,Ext G H aI aq) I ⟨G,ρ,aa,?_⟩) (λgn s' ⟨aq,gz,e,aI,x⟩=>?_) λ_ _ z=>z)
  .have ab:(tO ρ>>=Den.eE)=.ok b:=ab;rw[ab];exact λaI aq x=>⟨rfl,aI,x⟩
  .subst e;exact aL s' aI aq gz x
def Ka{d:D}{os:List (Option D)}(ax:Den.fm k target=some xs)(h:Den.gp k d=.ok os):os.length=xs.length:=by
 cases k with
 |zero =>
  cases h;cases target with
  |Name x p=>simp only[Den.fm,ZP]at ax;subst ax;rfl
  |_=>simp only[Den.fm]at ax;cases ax
 |succ k =>
  have ao:xs.length=k+1:=by
   cases target with
   |Tuple ah j p =>
    simp only[Den.fm]at ax;cases q:Den.namesOf ah with
    |none=>rw[q]at ax;cases ax
    |some zs =>
     rw[q]at ax;simp only at ax
     by_cases hz:zs.length=k+1
     .rw[if_pos hz]at ax;cases ax;exact hz
     .rw[if_neg hz]at ax;cases ax
   |_=>simp only[Den.fm]at ax;cases ax
  cases d with
  |tup ds =>
   have ab:Den.gp (k+1) (.tup ds)=if ds.length=k+1 then .ok (ds.map some) else .bad:=rfl;rw[ab]at h
   by_cases hd:ds.length=k+1
   .rw[if_pos hd]at h;cases h;rw[List.length_map,hd,ao]
   .rw[if_neg hd]at h;cases h
  |_=>cases h
def Rp{a b:List D}(h:a.map some=b.map some):a=b:=by
 induction a generalizing b with
 |nil=>cases b with|nil=>rfl|cons _ _=>simp at h
 |cons x a aE=>cases b with
  |nil=>simp at h
  |cons y b=>simp only[List.map_cons,List.cons.injEq,ZP]at h;rw[h.1,aE h.2]
noncomputable def Bp(X:aQ)(pins:List (Addr×Obj))(σ:dm)(G H:aw)(use:Option (Value->Sem Unit))(Qc:Value->Shared->Prop)(ys:List D):Prop :=
 ∀(s4:Shared)(aq aI:aw)(bH dr:Addr)(oa:Str->Option Value),Ext G H aI aq->cy X.K H aI aq .fresh (.lst ys) (.ref dr)->s4.heap.Ns bH oa->j5 X pins aq bH->(∀h',Heap.SameBut bH s4.heap h'->Inv X pins σ aq { s4 with heap:=h' }) ->
  compPost (model X.prog X.w) X.A X.cA use Qc (.ref dr) bH (.ok .next) s4
structure I1(X Y:aQ)(f:D->bx (Option D))(ha:Nat->Heap->Prop)(bI:List Addr)(ds ys:List D)(xs:List Str)(σ:dm)(cf aW:aw)(dr:Addr)(n:Nat)(s':Shared)(i:Nat)(gx:dm)(aq aI:aw)(l4 rest:List D)(hW:List V):Prop where
 C:n=ds.length-i
 J:i<=ds.length
 aC:gx.length=xs.length
 aT:Inv Y [] (σ++gx) aq s'
 b6:ha i s'.heap
 f6:∀b∈bI,aq b=none
 iR:Ext cf aW aI aq
 c4:aq dr=some (.lst hW)
 t2:aI dr=none
 tZ:bD X.K aI l4 hW
 DP:l4.length<=i
 h1:Den.da f (ds.drop i)=.ok rest
 Yg:ys=l4++rest
def Mn{cD:aY->bx Bool}{eW:aY->bx D}{k:Nat}{ρ:aY}{d:D}{r rest:List D}(h:Den.da (jb k cD eW ρ) (d::r)=.ok rest):∃(ws:List D)(b:Bool)(pQ:List D),Den.gp k d=.ok (ws.map some)/\cD (ρ++ws.map some)=.ok b /\
  Den.da (jb k cD eW ρ) r=.ok pQ/\((b=false/\rest=pQ)\/∃y,b=true/\eW (ρ++ws.map some)=.ok y/\rest=y::pQ):=by
 simp only[Den.da]at h;cases aU:jb k cD eW ρ d with
 |exc c=>rw[aU]at h;cases h
 |bad=>rw[aU]at h;cases h
 |ok o =>
 rw[aU]at h;simp only[Den.R.iB]at h;cases bq:Den.da (jb k cD eW ρ) r with
 |exc c=>rw[bq]at h;cases h
 |bad=>rw[bq]at h;cases h
 |ok pQ =>
 rw[bq]at h;simp only[Den.R.iB]at h;unfold jb at aU;cases ck:Den.gp k d with
 |exc c=>rw[ck]at aU;cases aU
 |bad=>rw[ck]at aU;cases aU
 |ok os =>
 rw[ck]at aU;simp only[Den.R.iB]at aU;obtain⟨ws,rfl⟩:=J9 ck;cases dz:cD (ρ++ws.map some) with
 |exc c=>rw[dz]at aU;cases aU
 |bad=>rw[dz]at aU;cases aU
 |ok b =>
 rw[dz]at aU;simp only[Den.R.iB]at aU;cases b with
 |false=>cases aU;cases h;exact⟨ws,false,_,rfl,dz,rfl,.inl ⟨rfl,rfl⟩⟩
 |true =>
  simp only[ZH]at aU;cases kK:eW (ρ++ws.map some) with
  |exc c=>rw[kK]at aU;cases aU
  |bad=>rw[kK]at aU;cases aU
  |ok y =>
  rw[kK]at aU;cases aU;cases h;exact⟨ws,true,_,rfl,dz,rfl,.inr ⟨y,rfl,kK,rfl⟩⟩
def Cu (ag : X.calm = true) (h6 : ∀ i ∈ mu, i < X.N.length) (B : oJ X scope xs dM) (ax : Den.fm k target = some xs) (lF : ∀ x, foldedSetIterable iter X.env x = pure x)
    (ai : hG X target iter (jY xp X mu .view jK)) (he : ∀ s3 bP bI pins, aM (hj X scope dM s3 bP bI pins) elt (bj xp (hj X scope dM s3 bP bI pins) mu .val eW)) (ay : qw xp X mu scope dM ifs cD)
    {use : Option (Value -> Sem Unit)} {Qc : Value -> Shared -> Prop} {pins : List (Addr × Obj)} {s : Shared} {σ : dm} {H G : aw} {ρ : aY} (I : Inv X pins σ H s) (aa : eD X.K mu G H ρ σ)
    (hw : cz (jK ρ >>= fun ds => Den.iZ (Den.da (jb k cD eW ρ) ds)) (Bp X pins σ G H use Qc) (fun c => e2 xp X c H)) {pos' : Pos} :
    wpAny (model X.prog X.w) X.A (comprehension (.ListComp elt [⟨target, iter, ifs, 0⟩] scope pos) scope X.env pos' (newList []) false (eval iter X.env) use) Qc X.cA s := by
  have OD : closureFor scope X.env = pure (gE X.env scope.names []) := KH fun x ao e => by
    have := B.fr x ao e
    exact I.ok.has x.1 (by rcases this with q | q; exact .inl q; exact .inr q)
  refine wpAny_comprehension_free (use := use) rfl lF OD B.kind B.names ?_
  refine bF (ai pins s σ H (fun dB aq => ∃ aI ds ys, Ext G H aI aq /\ nq X.K (qs .view aI aq) dB ds /\ ds.length <= 16777216 /\ Den.da (jb k cD eW ρ) ds = .ok ys /\ Bp X pins σ G H use Qc ys) I
    ⟨G, ρ, aa, bY (br.mp hw) (fun ds h7 dB aI aq x lJ hz => ?_) fun _ q => q⟩) fun v s1 C => bF C fun zy s2 J => ?_
  · obtain ⟨ys, e, q⟩ := uX h7
    exact ⟨aI, ds, ys, x, lJ, hz, e, q⟩
  obtain ⟨it, bI, ha, dB, aW, rfl, cx, T, hu, f2, cf, ds, ys, b5, lJ, hz, ur, fin⟩ := J
  refine Zy (wpAny_newFunctionEnv B.mY (by intro y aV; simp at aV) (fun hO za zk => ?_) B.kind)
  dsimp only at za zk ⊢
  have eg : Inv X pins σ (upd aW s2.heap.objs.size (.lst [])) { s2 with heap := s2.heap.push { cls := .type "list", data := .seq ([] : List Value).toArray } } := cx.Ff (t' := s2.toks) (ys := []) (its := []) .nil (Zo _)
  generalize Et : ({ s2 with heap := s2.heap.push { cls := .type "list", data := .seq ([] : List Value).toArray } } : Shared) = s3 at eg
  have Ec : s3.heap = s2.heap.push { cls := .type "list", data := .seq ([] : List Value).toArray } := by rw [<- Et]
  rw [<- Ec] at za zk ⊢
  generalize DU : s2.heap.objs.size = dr at *
  have rg : aW dr = none := by rw [<- DU]; exact cx.fresh
  have OL : ∀ b ∈ bI, b ≠ dr := fun b ab z => by
    obtain ⟨o, e, _⟩ := T.obj _ _ hu b ab
    have := Y5 e
    rw [z, <- DU] at this
    exact absurd this (aau _)
  have Ei : ∀ b o, s2.heap.get? b = some o -> s3.heap.get? b = some o := fun b o e => by rw [Ec]; exact YZ _ e
  have cH : ({ heap := hO, gens := s2.gens, drawn := s2.drawn, toks := s2.toks + ([] : List (Str × Value)).length, os := s2.os } : Shared) = { s3 with heap := hO, toks := s2.toks } := by rw [<- Et]; rfl
  rw [cH]
  show codeAny (model X.prog X.w) X.A (Code.compStart (elt.ListComp [{ target := target, iter := iter, ifs := ifs, is_async := 0 }] scope pos) 0 (Value.ref it) (Value.ref dr) (compEnvC scope (gE X.env scope.names []) s3.heap.objs.size X.env))
    (compPost (model X.prog X.w) X.A X.cA use Qc (Value.ref dr) s3.heap.objs.size) { s3 with heap := hO, toks := s2.toks }
  have mK : hO.Ns s3.heap.objs.size (fun _ => none) := by simpa using za
  have mI : ∀ b o, s3.heap.get? b = some o -> hO.get? b = some o := fun b o e => zk.extBut b o (Zh (Y5 e)) (YZ _ e)
  have t9 : ∀ b ∈ bI, j5 X pins (upd aW dr (.lst [])) b := fun b ab => ⟨by rw [cT (OL b ab)]; exact (f2 b ab).1, (f2 b ab).2⟩
  have Pn : ∀ b ∈ bI, ∃ o, s3.heap.get? b = some o := fun b ab => by
    obtain ⟨o, e, _⟩ := T.obj _ _ hu b ab
    exact ⟨o, Ei b o e⟩
  have s6 := Kf (tk := s2.toks) eg t9 Pn B mK mI
  generalize gI : nD X (compEnvC scope (gE X.env scope.names []) s3.heap.objs.size X.env) dM s3 (upd aW dr (.lst [])) bI pins = Y at s6
  have Yb : Y = hj X scope dM s3 (upd aW dr (.lst [])) bI pins := gI.symm
  have HK : ha 0 hO := T.keep _ _ _ hu fun b ab o e => mI b o (Ei b o e)
  have vz : eD X.K mu cf aW ρ σ := aa.ext b5
  have Pj : ∀ i ∈ mu, i < ρ.length := fun i ai => by rw [aa.len, I.len]; exact h6 i ai
  have Yu : ∀ (i : Nat) (d : D), i ∈ mu -> g4 d = true -> ρ[i]? = some (some d) -> σ[i]? ≠ some (some (V.ref dr)) := fun i d ai aA e z => by
    obtain ⟨a, ae, C, J, _⟩ := vz.lst i d e ai aA
    rw [C] at z
    injection z with z
    injection z with z
    injection z with z
    rw [z, rg] at J; cases J
  have yn : ∀ {aq : aw}, (∀ b ∈ bI, aq b = none) -> ∀ b ∈ bI, j5 Y [] aq b := fun aD b ab => by
    obtain ⟨f0, f1, Nn, fg, f4, fh⟩ := t9 b ab
    obtain ⟨aj, ak⟩ := s6.ok.Dg b (by rw [<- gI]; exact ab)
    refine ⟨aD b ab, aj, s6.ok.tN b (by rw [<- gI]; exact ab), .inl (by rw [<- gI]; exact ab), ak, fun p az => ?_⟩
    rw [<- gI] at az
    exact fh p (by simpa [nD] using az)
  have loop : codeAny (model X.prog X.w) X.A (.compLoop (.ListComp elt [⟨target, iter, ifs, 0⟩] scope pos) 0 (.ref it) (.ref dr) (compEnvC scope (gE X.env scope.names []) s3.heap.objs.size X.env))
      (compPost (model X.prog X.w) X.A X.cA use Qc (Value.ref dr) s3.heap.objs.size) { s3 with heap := hO, toks := s2.toks } := by
    refine KY (fun n s' => ∃ (i : Nat) (gx : dm) (aq aI : aw) (l4 rest : List D) (hW : List V), I1 X Y (jb k cD eW ρ) ha bI ds ys xs σ cf aW dr n s' i gx aq aI l4 rest hW) ?_ ds.length
      ⟨0, List.replicate xs.length none, _, cf, [], ys, [], by simp, Zo _, by simp, s6, HK, fun b ab => (t9 b ab).1, Ext.own b5.sub rg (fun _ z => nomatch z), dF, b5.sub.free rg, rfl, Y2 _, by simpa using ur, rfl⟩
    rintro n s' ⟨i, gx, aq, aI, l4, rest, hW, rfl, Ef, PX, gz, bo, DB, nd, o6, DW, Al, Yq, ks, uu⟩
    have nV : qs .view cf aW aI aq := ⟨nd.g, nd.h⟩
    have D7 : Y.calm = true := by rw [<- gI]; exact ag
    have yK : Y.prog = X.prog := by rw [<- gI]; rfl
    have yL : Y.w = X.w := by rw [<- gI]; rfl
    have D6 : Y.K = X.K := by rw [<- gI]; rfl
    have D5 : Y.A = X.A := by rw [<- gI]; rfl
    have Yh : Y.cA = fun _ _ => False := by rw [<- gI]; rfl
    by_cases bV : i < ds.length
    · have hd : ds[i]? = some ds[i] := Y3 bV
      generalize ds[i] = d at hd
      have OG : ds.drop i = d :: ds.drop (i + 1) := by
        have := Zm.mp hd
        obtain ⟨C, J⟩ := this
        rw [<- J]; exact aaD C
      rw [OG] at ks
      have item := T.item Y yK yL D6 D7 i [] s' (σ ++ gx) aq (fun _ _ => False) gz (yn DB) bo (lJ.go i aI aq nV bV)
      rw [D5] at item
      refine bF item fun r s4 ⟨u, a9, aT⟩ => ?_
      subst a9
      refine bF aT fun _ s5 ⟨x, l9, ma, jr, Bm, lX, yo⟩ => ?_
      obtain ⟨ql, sO, dD⟩ := lJ.k0 i aI aq x l9 d nV nd.sub hd Bm
      have wi := ma.pinned (yn yo) (T.obj _ _ lX)
      obtain ⟨ws, b, pQ, ck, dz, bq, ab⟩ := Mn ks
      have rG : ws.length = xs.length := by have := Ka ax ck; simpa using this
      subst gI
      have a4 : mc (nD X (compEnvC scope (gE X.env scope.names []) s3.heap.objs.size X.env) dM s3 (upd aW dr (.lst [])) bI pins) target (yt X.K k (List.range' X.N.length xs.length)) := by
        refine Gi (X := nD X (compEnvC scope (gE X.env scope.names []) s3.heap.objs.size X.env) dM s3 (upd aW dr (.lst [])) bI pins) ag B.dP ax (by simp) fun j cW y aj ak => ?_
        rw [List.getElem?_range' (Zm.mp ak).1] at aj
        have aV : y ∈ xs := aae ak
        have pe : (relabel scope X.env).names.lookup y = some .local := vl (B.fm y aV) (by decide)
        cases aj
        refine ⟨?_, .inl pe, .inr pe⟩
        show dM[X.N.length + 1 * j]? = some y
        rw [Nat.one_mul, B.new j]; exact ak
      refine bF (a4 _ s5 (σ ++ gx) l9 x u (fun wb ni => ∃ ae : List V, wb = σ ++ ae.map some /\ ae.length = xs.length /\ ni = l9 /\ bD X.K ql ws ae) wi jr ⟨ql, d, sO.sub, dD, ?_⟩) fun _ G3 ⟨wb, ni, wj, ae, my, Ex, qW, rws⟩ => ?_
      · rw [ck]
        intro YU ae e r
        have e := Rp e
        subst e
        have aA : ae.length = xs.length := by rw [<- r.length, rG]
        refine ⟨ae, ?_, aA, rfl, r⟩
        rw [<- aA]
        exact Hm ae σ gx X.N.length (I.len.symm) (by rw [PX, aA])
      subst my
      subst qW
      have Bj : Ext cf aW ql ni := nd.trans sO
      have HC : eD X.K mu ql ni (ρ ++ ws.map some) (σ ++ ae.map some) := (vz.ext Bj).more Pj rws
      have DT : ni dr = some (.lst hW) := sO.h _ _ o6
      have Oq : ql dr = none := sO.new dr DW (by rw [o6]; exact fun z => nomatch z)
      refine Xb ay wj HC dz fun sv qm hD hE nf => ?_
      have yF : hD dr = some (.lst hW) := nf.h _ _ DT
      have DX : qm dr = none := nf.new dr Oq (by rw [DT]; exact fun z => nomatch z)
      have Gz : bD X.K qm l4 hW := (Al.mono sO.g).mono nf.g
      rcases ab with ⟨rfl, rfl⟩ | ⟨y, rfl, kK, rfl⟩
      · simp only [Y1, Zk]
        refine ⟨ds.length - (i + 1), by omega, i + 1, ae.map some, hD, qm, l4, rest, hW, rfl, by omega, by rw [List.length_map]; exact Ex, hE.p8, T.keep _ _ _ lX fun b ab o e => (hE.pin (b, o) (Zc _ (Zc _ (pF ab e)))).1, fun b ab => ?_, Bj.trans nf, yF, DX, Gz, by omega, bq, uu⟩
        obtain ⟨b8, e, _⟩ := T.obj _ _ lX b ab
        exact (hE.pin (b, b8) (Zc _ (Zc _ (pF ab e)))).2.1
      · simp only [ZH]
        refine bF (he s3 (upd aW dr (.lst [])) bI pins _ sv (σ ++ ae.map some) hD (fun v nj => ∃ l8, Ext qm hD l8 nj /\ Rep X.K l8 y v) hE ⟨qm, ρ ++ ws.map some, HC.ext nf, by rw [kK]; exact fun v l8 nj qc sl => ⟨l8, qc, sl⟩⟩) fun u8 Uy ⟨vR, nj, I5, sl, l8, qc, T5⟩ => ?_
        have Oo : nj dr = some (.lst hW) := qc.h _ _ yF
        have DY : l8 dr = none := qc.new dr DX (by rw [yF]; exact fun z => nomatch z)
        have hlen : hW.length < sizeLine := by rw [<- Al.length, sizeLine_eq]; omega
        refine bF (FC (X := hj X scope dM s3 (upd aW dr (.lst [])) bI pins) _ Uy (σ ++ ae.map some) nj (.ref dr) [vR] (.ref dr) [u8] (fun _ Bq => Bq = upd nj dr (.lst (hW ++ [vR]))) I5 rfl (.cons sl .nil) ⟨dr, hW, vR, rfl, rfl, Oo, hlen, rfl⟩) fun _ YO ⟨_, Bq, wk, _, oY⟩ => ?_
        subst oY
        have sN : Ext cf aW l8 nj := (Bj.trans nf).trans qc
        refine ⟨ds.length - (i + 1), by omega, i + 1, ae.map some, _, l8, l4 ++ [y], pQ, hW ++ [vR], rfl, by omega, by rw [List.length_map]; exact Ex, wk.p8, T.keep _ _ _ lX fun b ab o e => (wk.pin (b, o) (Zc _ (Zc _ (pF ab e)))).1, fun b ab => ?_,
          ⟨sN.g, fun b o e => ?_, fun b o e => ?_, sN.new, fun b xs e => sN.dK b xs (by
            by_cases q : b = dr
            · subst q; rw [dF] at e; cases e
            · rw [cT q] at e; exact e)⟩, dF, DY, (Gz.mono qc.g).snoc T5, by rw [List.length_append, List.length_singleton]; omega, bq, by rw [uu, aaH]; rfl⟩
        · obtain ⟨b8, e, _⟩ := T.obj _ _ lX b ab
          exact (wk.pin (b, b8) (Zc _ (Zc _ (pF ab e)))).2.1
        · rw [cT (mV e rg)]; exact sN.h b o e
        · rw [cT (mV e DY)]; exact sN.sub b o e
    · have OV : i = ds.length := by omega
      subst OV
      have a9 : rest = [] := by
        rw [List.drop_length] at ks
        simp only [Den.da] at ks
        cases ks; rfl
      subst a9
      rw [aaa] at uu
      subst uu
      have done := T.done Y yK yL D6 D7 ds.length [] s' (σ ++ gx) aq (fun _ _ => False) gz (yn DB) bo (lJ.stop aI aq nV)
      rw [D5] at done
      refine bF done fun r s4 ⟨a9, fo⟩ => ?_
      subst a9
      obtain ⟨oa, En, _⟩ := fo.loc
      have x7 : Y.env.locals = s3.heap.objs.size := by rw [<- gI]; rfl
      rw [x7] at En
      refine fin s4 aq aI s3.heap.objs.size dr oa (b5.trans nd) ⟨dr, hW, rfl, o6, b5.h.free rg, DW, Al⟩ En (eg.q6 (Y2 _) (by have := fo.free; rw [x7] at this; exact this)) fun h' dV => ?_
      have DS : aq s3.heap.objs.size = none := by have := fo.free; rw [x7] at this; exact this
      have un : ff (iv X.stack) bI (upd aW dr (.lst [])) aq s3.heap s4.heap := by have := fo.base; rw [<- gI] at this; exact this
      have mU : ∀ b o, s3.heap.get? b = some o -> b ≠ s3.heap.objs.size := fun b o e => Zh (Y5 e)
      have Xo : ff (iv X.stack) bI (upd aW dr (.lst [])) aq s3.heap h' :=
        ⟨fun b o e n ab ao => (dV.2 b (mU b o e)).trans (un.keep b o e n ab ao), fun b o e n ab ao => by obtain ⟨cp, q⟩ := un.slot b o e n ab ao; exact ⟨cp, (dV.2 b (mU b o e)).trans q⟩, un.free,
          fun b o e ao => by obtain ⟨bG, q⟩ := un.there b o e ao; exact ⟨bG, (dV.2 b (mU b o e)).trans q⟩, un.kV, un.jM, un.kU⟩
      have zd : en X.prog X.w aq h' := fun b o e => by
        have q := fo.bK b o e
        rw [yK, yL] at q
        refine q.kQ (fun c v cN q => (dV.2 c ?_).trans q) (fun _ q => q) fun _ _ q => q
        rcases cN with z | z
        · rw [z]; rintro rfl; rw [DS] at e; cases e
        · rintro rfl; rw [DS] at z; cases z
      have Sl : s4.os = s3.os := by have := fo.os; rw [<- gI] at this; exact this
      have I6 : Inv X pins σ aq { s4 with heap := h' } := eg.B6 (s' := { s4 with heap := h' }) Sl Xo zd fo.bare fun b ab => by
        obtain ⟨f0, f1, Nn, fg, f4, fh⟩ := t9 b ab
        exact ⟨fg, f1, f4, fh⟩
      exact I6
  refine codeAny_compStart_list loop (T.self _ _ _ _ _ HK loop)
def Az(ag:X.calm=true)(h6:∀i∈mu,i<X.N.length)(B:oJ X scope xs dM)(ax:Den.fm k target=some xs)(lF:∀x,foldedSetIterable iter X.env x=pure x)(ai:hG X target iter (jY xp X mu .view jK))(he:∀s3 bP bI pins,aM (hj X scope dM s3 bP bI pins) elt (bj xp (hj X scope dM s3 bP bI pins) mu .val eW))(ay:qw xp X mu scope dM ifs cD):
  aM X (.ListComp elt [⟨target,iter,ifs,0⟩] scope pos) (bj xp X mu .fresh λρ=>jK ρ>>=λds=>Den.iZ (Den.da (jb k cD eW ρ) ds)>>=λys=>.ok (.lst ys)):=by
 intro pins s σ H Q I ⟨G,ρ,aa,hw⟩;rw[eval_ListComp];refine Cu ag h6 B ax lF ai he ay I aa (use:=none) (Qc:=eN X pins σ Q) ?_;have hw:=br.mp hw;refine br.mpr (bY hw (λds a8=>?_) λ_ q=>q);refine bY (br.mp a8) (λys aR s4 aq aI bH dr oa x r aD hf inv=>?_) λ_ q=>q
 exact⟨oa,aD,λh' dV=>⟨.ref dr,aq,inv h' dV,rfl,aR _ aI aq x r⟩⟩
end
section
variable{xp:cu}{X:aQ}{mu:List Nat}{m:eB}{f bg cj:aY->bx D}{l a b dx:Expr}{pos p:Pos}
def S6{ih:TE}(aA:aM X l ih):hG X dx l (λσ H R=>ih σ H λx H1=>∃a xs,x=.ref a/\((eo X.K H1 a xs/\(xs.length<=sizeLine->R (wm X.K a) H1))\/(fp X.K H1 a xs/\(xs.length<=sizeLine->R (wo X.K a) H1)))):=by
 intro pins s σ H R I h;refine bF (aA pins s σ H _ I h) λv s1 ⟨x,H1,a3,aG,aU⟩=>?_
 obtain⟨a,xs,e,⟨aL,q⟩|⟨aL,q⟩⟩:=aU
 .subst e;cases aG;obtain⟨its,bR,p,hz⟩:=a3.list aL;refine ace p.isList ?_;refine⟨s1.heap.objs.size,[s1.heap.objs.size],_,_,H1,rfl,a3.kept (t':=s1.toks) λb o e=>YZ _ e,Xj a _,⟨_,Y7 _ rfl,rfl,rfl⟩,λb ab=>?_,q hz⟩;have e:b=s1.heap.objs.size:=(by simpa using ab);subst e;exact a3.q6 (Y2 _) (a3.bK.fresh (Y2 _))
 .subst e;cases aG;obtain⟨its,bR,p,hz⟩:=a3.tuple aL;refine ab2 (show s1.heap.IsTuple a its.toArray from p) ?_;refine⟨s1.heap.objs.size,[s1.heap.objs.size],_,_,H1,rfl,a3.kept (t':=s1.toks) λb o e=>YZ _ e,Xl a _,⟨_,Y7 _ rfl,rfl,rfl⟩,λb ab=>?_,q hz⟩;have e:b=s1.heap.objs.size:=(by simpa using ab);subst e;exact a3.q6 (Y2 _) (a3.bK.fresh (Y2 _))
def EK{K:W.Frag}{P:aw->aw->Prop}{G:aw}{a:Addr}{xs:List V}{ds:List D}(ej:∀aH H1,P aH H1->bQ G aH/\eo K H1 a xs)(r:bD K G ds xs):nq K P (wm K a) ds where
 go:=λi aH H1 h ai=>by
  obtain⟨_,q⟩:=ej aH H1 h;have ao:i<xs.length:=(by rw[<- r.length];exact ai);exact⟨xs,xs[i],q,Y3 ao⟩
 k0:=λi aH H1 x aW d h aa hd ⟨e,y⟩=>by
  obtain⟨g,q⟩:=ej aH H1 h;subst e;obtain⟨v,C,J⟩:=r.get hd;have:=y xs q;rw[C]at this;cases this;exact⟨aH,Ext.refl aa,J.mono g⟩
 stop:=λaH H1 h=>⟨xs,(ej aH H1 h).2,by rw[r.length];exact Y2 _⟩
def Ql{K:W.Frag}{P:aw->aw->Prop}{G:aw}{a:Addr}{xs:List V}{ds:List D}(ej:∀aH H1,P aH H1->bQ G aH/\fp K H1 a xs)(r:bD K G ds xs):nq K P (wo K a) ds where
 go:=λi aH H1 h ai=>by
  obtain⟨_,q⟩:=ej aH H1 h;have ao:i<xs.length:=(by rw[<- r.length];exact ai);exact⟨xs,xs[i],q,Y3 ao⟩
 k0:=λi aH H1 x aW d h aa hd ⟨e,y⟩=>by
  obtain⟨g,q⟩:=ej aH H1 h;subst e;obtain⟨v,C,J⟩:=r.get hd;have:=y xs q;rw[C]at this;cases this;exact⟨aH,Ext.refl aa,J.mono g⟩
 stop:=λaH H1 h=>⟨xs,(ej aH H1 h).2,by rw[r.length];exact Y2 _⟩
def zF{K:W.Frag}{G:aw}{ds:List D}{xs:List V}(r:bD K G ds xs)(h:xs.length<=sizeLine):ds.length<=16777216:=by rw[r.length,<- sizeLine_eq];exact h
def U1(hm:m=.view\/m=.val)(aA:aM X l (bj xp X mu m f)):hG X dx l (jY xp X mu m λρ=>f ρ>>=λd=>Den.ez d):=by
 intro pins s σ H R I ⟨G,ρ,aa,hw⟩;refine S6 aA pins s σ H R I ?_;refine⟨G,ρ,aa,bY (br.mp hw) (λd k v aH H1 aP aG=>?_) λ_ q=>q⟩;cases d with
 |lst ds =>
  rcases hm with rfl|rfl
  .obtain⟨a,xs,rfl,h7,r⟩:=kY (X:=X) aG;exact⟨a,xs,rfl,.inl ⟨h7,λhz=>k _ aH H1 aP (EK (G:=aH) (λcf aW ⟨C,J⟩=>⟨C,lV J h7⟩) r) (zF r hz)⟩⟩
  .obtain⟨a,xs,rfl,h7,r⟩:=aG;exact⟨a,xs,rfl,.inl ⟨lV aP.sub h7,λhz=>k _ aH H1 aP (EK (G:=aH) (λcf aW ⟨C,J⟩=>⟨C,lV J (lV C h7)⟩) r) (zF r hz)⟩⟩
 |tup ds =>
  have aG:Rep X.K aH (.tup ds) v:=(by rcases hm with rfl|rfl<;>exact aG);obtain⟨a,xs,rfl,h7,r⟩:=aG;refine⟨a,xs,rfl,.inr ⟨iF aP.sub h7,λhz=>k _ aH H1 aP (Ql (G:=aH) (λcf aW ⟨C,J⟩=>?_) r) (zF r hz)⟩⟩;rcases hm with rfl|rfl
  .exact⟨C,HH J (iF aP.sub h7)⟩
  .exact⟨C,HH J (iF C h7)⟩
 |_=>exact k.elim
def EL{K:W.Frag}{P:aw->aw->Prop}{lo ai:Int}:nq K P (oK lo (ai-lo).toNat) (Den.e4 lo ai) where
 go:=λi aH H1 _ bV=>by
  show i<(ai-lo).toNat;unfold Den.e4 at bV;simpa using bV
 k0:=λi aH H1 x aW d _ aa hd ⟨e,y⟩=>by
  subst e;unfold Den.e4 at hd;rw[Ze]at hd;cases q:(List.range (ai-lo).toNat)[i]? with
  |none=>rw[q]at hd;cases hd
  |some k =>
   rw[q]at hd;have ax:k=i:=by
    have:=Zm.mp q;obtain⟨_,e⟩:=this;rw[<- e];simp
   subst ax;cases hd;exact⟨aH,Ext.refl aa,y⟩
 stop:=λaH H1 _=>by
  show(ai-lo).toNat<=_;unfold Den.e4;simp
def Av{i j:Int}{Q:List D->Prop}{E:Nat->Prop}(h:cz (Den.i0 i j) Q E):(-(2 ^ 62)<=i/\i<2 ^ 62/\-(2 ^ 62)<=j/\j<2 ^ 62)/\(Den.e4 i j).length<=16777216/\Q (Den.e4 i j):=by
 unfold Den.i0 at h;cases q:(Den.ou i&&Den.ou j&&decide ((j-i).toNat<=1000000)) with
 |false=>rw[q]at h;exact h.elim
 |true =>
  rw[q]at h;simp only[YX,Den.ou,Zf]at q;obtain⟨⟨⟨a1,a2⟩,eI,hI⟩,X4⟩:=q;refine⟨⟨by omega,by omega,by omega,by omega⟩,?_,h⟩;unfold Den.e4;rw[List.length_map,List.length_range];omega
def Vf{x:Str}(ao:x="range")(a4:eU X x)(hm:X.aX x=none)(aB:aM X a (bj xp X mu .view bg))(cH:starEach [a] X.env=[(false,eval a X.env)]):
  hG X dx (.Call (.Name x p) [a] [] pos) (jY xp X mu m λρ=>bg ρ>>=λd=>Den.gD d>>=λi=>Den.i0 0 i):=by
 subst ao;intro pins s σ H R I ⟨G,ρ,aa,hw⟩;refine S4 a4 hm (lQ aB cH) cH pins s σ H R I ?_;refine⟨G,ρ,aa,bY (br.mp hw) (λd k v aH H1 aP aG=>?_) λ_ q=>q⟩;have k:=br.mp k;cases d with
 |int i =>
  obtain⟨⟨_,_,b1,b2⟩,hz,q⟩:=Av k;refine⟨i,by rw[cy.pK aG],b1,b2,?_⟩;have:=q (oK 0 (i-0).toNat) aH H1 aP EL hz;rw[acI]at this;exact this
 |_=>exact k.elim
def Vg{x:Str}(ao:x="range")(a4:eU X x)(hm:X.aX x=none)(aB:aM X a (bj xp X mu .view bg))(ab:aM X b (bj xp X mu .view cj))(cH:starEach [a,b] X.env=[(false,eval a X.env),(false,eval b X.env)])(zm:starEach [b] X.env=[(false,eval b X.env)]):
  hG X dx (.Call (.Name x p) [a,b] [] pos) (jY xp X mu m λρ=>bg ρ>>=λd=>Den.gD d>>=λi=>cj ρ>>=λe=>Den.gD e>>=λj=>Den.i0 i j):=by
 subst ao;intro pins s σ H R I ⟨G,ρ,aa,hw⟩;refine S5 a4 hm (pN aB (lQ ab zm) (by rw[cH,zm])) cH zm pins s σ H R I ?_;refine⟨G,ρ,aa,bY (br.mp hw) (λd k v aH H1 aP aG=>?_) λ_ q=>q⟩;have k:=br.mp k;cases d with
 |int i =>
  refine⟨aH,ρ,aa.ext aP,bY (br.mp k) (λe aR v2 cf aW b5 aZ=>?_) λ_ q=>q.mono aP.h⟩;have aR:=br.mp aR;cases e with
  |int j =>
   obtain⟨b1,hz,q⟩:=Av aR;refine⟨i,j,by rw[cy.pK aG,cy.pK aZ],b1,?_⟩;exact q _ cf aW (aP.trans b5) EL hz
  |_=>exact aR.elim
 |_=>exact k.elim
end
section
variable{xp:cu}{X:aQ}{mu:List Nat}{m:eB}{f bg cj:aY->bx D}{l a b dx:Expr}{pos p:Pos}{pins:List (Addr×Obj)}{σ:dm}{G H:aw}{s:Shared}
theorem xE{K:W.Frag}:∀{ds:List D}{bs:List Bool}{xs:List V},Den.iq ds=some bs->bD K G ds xs->xs=bs.map V.aO
 |[],bs,xs,h,r=>by cases h;exact r
 |d::ds,bs,xs,h,⟨v,t,e,aG,aZ⟩=>by
  subst e;cases d with
  |aO b =>
   simp only[Den.iq]at h;cases q:Den.iq ds with
   |none=>rw[q]at h;cases h
   |some cs =>
    rw[q]at h;simp only[Option.map_some,ZP]at h;subst h;have aG:v=.aO b:=aG;rw[aG,xE q aZ];rfl
  |_=>simp only[Den.iq]at h;cases h
theorem Bg:∀{bs:List Bool}{us:List Value},Vals (bs.map V.aO) us->us=bs.map Value.bool
 |[],_,r=>by cases r;rfl
 |b::bs,_,r=>by
  cases r with
  |cons aG aZ=>rw[Bg aZ,(show _=Value.bool b from aG)];rfl
def B5(ag:X.calm=true)(I:Inv X pins σ H s){a:Addr}{bs:List Bool}(h:eo X.K H a (bs.map V.aO)\/fp X.K H a (bs.map V.aO)){Q:Value->Shared->Prop}{r:List Nat->(Nat->Bool)->Bool}(aL:∀h' tk,Inv X pins σ H { s with heap:=h',toks:=tk }->Q (.bool (r (List.range bs.length) λi=>bs.getD i false)) { s with heap:=h',toks:=tk }):
  wpAny (model X.prog X.w) X.A.in1 (pyIter (.ref a)) (λit gw=>∃I bI wr n P St fM,it=.ref I/\Walks X.prog X.w X.A.in1 I bI wr n P St/\St 0 gw.heap/\TruthOf X.prog X.w X.A.in1 P fM /\
   ∀h' tk,(∀b o,b∉wr->gw.heap.get? b=some o->h'.get? b=some o)->Q (.bool (r (List.range n) fM)) { gw with heap:=h',toks:=tk }) X.cA s:=by
 have dc:X.A.in1.handled=none:=I.ok.hd ag;have Ih:∀its:List Value,its=bs.map Value.bool->TruthOf X.prog X.w X.A.in1 (λi v=>its.toArray[i]?=some v) λi=>bs.getD i false:=by
  intro its e i v s Q E aN es;subst e;have aN:(bs.map Value.bool)[i]?=some v:=(by simpa using aN);rw[Ze]at aN;cases q:bs[i]? with
  |none=>rw[q]at aN;cases aN
  |some b =>
   rw[q]at aN;cases aN;refine ZY ?_;have:bs.getD i false=b:=(by simp[List.getD,q]);have es:Q (bs.getD i false) s:=es;rw[this]at es;exact es
 rcases h with h|h
 .obtain⟨its,bR,cE,hz⟩:=I.list h;have e:=Bg bR;have aA:its.toArray.size=bs.length:=(by rw[Y4,e,List.length_map]);refine ace cE.isList ?_;have ea:a≠s.heap.objs.size:=(by obtain⟨o,n,av,_⟩:=cE;exact Zh (Y5 av));refine⟨s.heap.objs.size,_,_,_,_,_,λi=>bs.getD i false,rfl,Walks.list dc _ a ea its.toArray,⟨⟨_,Y7 _ rfl,rfl,rfl⟩,(let ⟨o,av,r⟩:=cE.isList;⟨o,YZ _ av,r⟩)⟩,Ih its e,λh' tk ax=>?_⟩;rw[aA];refine aL h' tk (I.kept λb o e=>ax b o (by simp;exact Zh (Y5 e)) (YZ _ e))
 .obtain⟨its,bR,cE,hz⟩:=I.tuple h;have e:=Bg bR;have aA:its.toArray.size=bs.length:=(by rw[Y4,e,List.length_map]);refine ab2 (show s.heap.IsTuple a its.toArray from cE) ?_;have ea:a≠s.heap.objs.size:=(by obtain⟨o,av,_⟩:=cE;exact Zh (Y5 av));refine⟨s.heap.objs.size,_,_,_,_,_,λi=>bs.getD i false,rfl,Walks.tuple dc _ a ea its.toArray,⟨⟨_,Y7 _ rfl,rfl,rfl⟩,(let ⟨o,av,r⟩:=cE;⟨o,YZ _ av,r⟩)⟩,Ih its e,λh' tk ax=>?_⟩;rw[aA];refine aL h' tk (I.kept λb o e=>ax b o (by simp;exact Zh (Y5 e)) (YZ _ e))
def range_getD(bs:List Bool):(List.range bs.length).map (λi=>bs.getD i false)=bs:=by
 apply aao;intro i;rw[Ze]
 by_cases h:i<bs.length
 .rw[aaO h];simp[List.getD,h]
 .rw[Zq (by simpa using h),Zq (by simpa using h)];rfl
def all_range(bs:List Bool):(List.range bs.length).all (λi=>bs.getD i false)=bs.all id:=by
 conv=>rhs;rw[<- range_getD bs]
 rw[List.all_map];rfl
def any_range(bs:List Bool):(List.range bs.length).any (λi=>bs.getD i false)=bs.any id:=by
 conv=>rhs;rw[<- range_getD bs]
 rw[List.any_map];rfl
def vs(aa:bQ G H){d:D}{x:V}(bS:View X.K G H d x){Q:List D->Prop}{E:Nat->Prop}(h:cz (Den.ez d) Q E):∃ds a xs,x=.ref a/\(eo X.K H a xs\/fp X.K H a xs)/\bD X.K G ds xs/\Q ds:=by
 cases d with
 |tup ds =>
  obtain⟨a,ys,rfl,k,q⟩:=l0 aa bS;exact⟨ds,a,ys,rfl,.inr k,q,h⟩
 |lst ds =>
  obtain⟨a,ys,rfl,k,q⟩:=kY bS;exact⟨ds,a,ys,rfl,.inl k,q,h⟩
 |_=>exact h.elim
def IS{ds:List D}{Q:Bool->Prop}{E:Nat->Prop}{r:List Bool->Bool}(h:cz (match Den.iq ds with|some bs=>Den.R.ok (r bs)|none=>.bad) Q E):∃bs,Den.iq ds=some bs/\Q (r bs):=by
 cases q:Den.iq ds with
 |none=>rw[q]at h;exact h.elim
 |some bs=>rw[q]at h;exact⟨bs,rfl,h⟩
def Np(ag:X.calm=true):hB X (.builtin "all") (kL X.K m λd=>Den.ez d>>=λxs=>Den.ml xs>>=λb=>.ok (.aO b)):=by
 intro pins s σ H xs us Q I r ⟨G,x,d,ex,aa,bS,hw⟩;subst ex;obtain⟨u,rfl,a7⟩:=vals1 r;obtain⟨ds,a,ys,rfl,aL,rs,hw⟩:=vs aa bS (br.mp hw);obtain⟨bs,e,hw⟩:=IS (r:=λbs=>bs.all id) (br.mp hw);rw[xE e rs]at aL;cases a7;refine call_all_walk (B5 ag I aL (r:=λl t=>l.all t) λh' tk gz=>?_);rw[all_range];exact⟨.aO _,H,gz,rfl,hw _ G H (Ext.refl aa) cy.aO⟩
def Nq(ag:X.calm=true):hB X (.builtin "any") (kL X.K m λd=>Den.ez d>>=λxs=>Den.mm xs>>=λb=>.ok (.aO b)):=by
 intro pins s σ H xs us Q I r ⟨G,x,d,ex,aa,bS,hw⟩;subst ex;obtain⟨u,rfl,a7⟩:=vals1 r;obtain⟨ds,a,ys,rfl,aL,rs,hw⟩:=vs aa bS (br.mp hw);obtain⟨bs,e,hw⟩:=IS (r:=λbs=>bs.any id) (br.mp hw);rw[xE e rs]at aL;cases a7;refine call_any_walk (B5 ag I aL (r:=λl t=>l.any t) λh' tk gz=>?_);rw[any_range];exact⟨.aO _,H,gz,rfl,hw _ G H (Ext.refl aa) cy.aO⟩
end
section
variable{prog:Program}{w:World}{A:Around}{E:Value->Shared->Prop}{s:Shared}
def Oa{t cp:Addr}{items:Array Value}{fy fz:Value}{lo ai:Option Int}{Q:Value->Shared->Prop}(ay:IsTup s.heap t items)(aa:s.heap.IsSliceOf cp fy fz .none)(cE:IsPart fy lo)(pu:IsPart fz ai)(hw:c8.bW items.size 0 lo=0/\c8.bW items.size items.size ai=items.size)(h:Q (.ref t) s):wpAny (model prog w) A (getItem (.ref t) (.ref cp)) Q E s:=by
 obtain⟨os,n2,h3,kp⟩:=id aa;have yI:s.TypeIs (.ref cp) "slice":=⟨os,n2,h3⟩;unfold getItem
 try with_reducible refine Z9 ?_
 first|refine YW (YY ?_)|skip
 refine YW (wpAny_sequenceKey ay.typeIs (by decide) ?_);refine YW (aaf (name:=Str.ofString "__getitem__") ay.typeIs ZO
  (Z3 ZO ay.typeIs entry_tuple_getitem ?_ (args_tuple_getitem _ _)))
 show wpAny _ _ (Builtin.Tuple.tupleItemsOf (.ref t)>>=_) _ _ s;refine YW (PyProof.Rows.tupleItemsOf_ ay ?_);refine YW (aaT yI ?_);rw[if_pos (by decide)];refine YW (c8.Hw aa cE pu ?_);have PV:(((c8.bW items.size 0 lo:Nat):Int)==0&&(1:Int)==1&&(c8.bW items.size items.size ai-c8.bW items.size 0 lo)==items.size)=true:=by
  rw[hw.1,hw.2];simp
 show wpAny _ _ (if (((c8.bW items.size 0 lo:Nat):Int)==0&&(1:Int)==1&&(c8.bW items.size items.size ai-c8.bW items.size 0 lo)==items.size)=true then _ else _) _ _ s;rw[if_pos PV];unfold Builtin.Tuple.tupleIsExact;refine YW (YW (aaT ay.typeIs (YY ?_)));rw[if_pos (by decide)];refine YW (acv (YY ⟨_,rfl,YY h⟩))
end
section
variable{xp:cu}{X:aQ}{mu:List Nat}{m:eB}{f bg cj:aY->bx D}{eX lu:aY->bx (Option Int)}{a b dx:Expr}{lo ai:Option Expr}{pos p bL:Pos}{pins:List (Addr×Obj)}{σ:dm}{G H:aw}{s:Shared}
def vp(n d:Nat)(o:Option Int):Den.bW n d o=c8.bW n d o:=by
 cases o with
 |none=>rfl
 |some i =>
  simp only[Den.bW,c8.bW]
  by_cases h:i<0
  .rw[if_pos h,if_pos h];split<;>omega
  .rw[if_neg h,if_neg h];split<;>omega
def Cx{K:W.Frag}{ds:List D}{xs:List V}(r:bD K G ds xs)(lo ai:Option Int):bD K G (Den.cut ds lo ai) (k9 xs lo ai):=by
 unfold Den.cut k9;rw[vp,vp,r.length];exact(r.drop _).take _
noncomputable def p4(xp:cu)(X:aQ)(mu:List Nat)(f:aY->bx (Option Int)):nv:=λσ H Q =>
 ∃G ρ,eD X.K mu G H ρ σ/\cz (f ρ) (λo=>∀aI aq,Ext G H aI aq->Q o aq) (λc=>e2 xp X c H)
def U6:j7 X none (p4 xp X mu λ_=>.ok none):=by
 intro pins s σ H Q I ⟨G,ρ,aa,hw⟩;exact Tc pins s σ H Q I (hw G H (Ext.refl aa.sub))
def U9(aB:aM X a (bj xp X mu .view bg)):j7 X (some a) (p4 xp X mu λρ=>bg ρ>>=λx=>Den.gD x>>=λi=>.ok (some i)):=by
 intro pins s σ H Q I ⟨G,ρ,aa,hw⟩;refine Td aB pins s σ H Q I ?_;refine⟨G,ρ,aa,bY (br.mp hw) (λd k v aH H1 aP aG=>?_) λ_ q=>q⟩;cases d with
 |int i=>exact⟨i,cy.pK aG,k aH H1 aP⟩
 |_=>exact k.elim
noncomputable def TV(K:W.Frag):V->Option Int->Option Int->aw->c0->Prop:=λx lo ai H Q =>
 ∃G d,bQ G H/\View K G H d x/\cz (Den.kO d lo ai) (λd'=>∀v aI aq,Ext G H aI aq->cy K H aI aq .fresh d' v->Q v aq) (λ_=>False)
def VM:qu X (λx lo ai H Q=>∃a xs,x=.ref a/\fp X.K H a xs/\(c8.bW xs.length 0 lo=0/\c8.bW xs.length xs.length ai=xs.length)/\Q (.ref a) H):=by
 intro pins s σ H x v fy fz lo ai cp Q I a7 aa cE pu h;obtain⟨a,xs,rfl,ao,hw,q⟩:=h;cases a7;obtain⟨its,r,ay,hz⟩:=I.tuple ao;have hlen:its.toArray.size=xs.length:=by rw[Y4];exact r.length.symm
 refine⟨"tuple",_,ZO.lookup,ay.typeIs,?_⟩;exact Oa ay aa cE pu (by rw[hlen];exact hw) ⟨.ref a,H,I,rfl,q⟩
def K6{ds:List D}{lo ai:Option Int}(h:c8.bW ds.length 0 lo=0/\c8.bW ds.length ds.length ai=ds.length):Den.cut ds lo ai=ds:=by
 unfold Den.cut;rw[vp,vp,h.1,h.2];simp
def VL:qu X (TV X.K):=by
 intro pins s σ H x v fy fz lo ai cp Q I a7 aa cE pu ⟨G,d,pj,bS,hw⟩;cases d with
 |tup ds =>
  obtain⟨a,xs,rfl,k,r⟩:=l0 pj bS
  by_cases fD:c8.bW xs.length 0 lo=0/\c8.bW xs.length xs.length ai=xs.length
  .refine VM pins s σ H _ v fy fz lo ai cp Q I a7 aa cE pu ⟨a,xs,rfl,k,fD,?_⟩;rw[Den.vy,K6 (by rw[r.length];exact fD)]at hw;exact hw _ G H (Ext.refl pj) bS
  .refine VP pins s σ H _ v fy fz lo ai cp Q I a7 aa cE pu ⟨a,xs,rfl,k,fD,λp az=>?_⟩;rw[Den.vy]at hw;exact hw _ (upd G p (.tup (k9 xs lo ai))) _ (Ext.put pj az) ⟨p,_,rfl,dF,(Cx r lo ai).mono (gg (pj.free az))⟩
 |lst ds =>
  obtain⟨a,xs,rfl,k,r⟩:=kY bS;refine VN pins s σ H _ v fy fz lo ai cp Q I a7 aa cE pu ⟨a,xs,rfl,k,λp az=>?_⟩;rw[Den.Hy]at hw;exact hw _ G _ (Ext.own pj az λ_ z=>nomatch z) ⟨p,_,rfl,dF,az,pj.free az,Cx r lo ai⟩
 |_=>exact hw.elim
def VO{d:D}{lo ai:Option Int}{c:Nat}:Den.kO d lo ai≠.exc c:=by cases d<;>simp[Den.kO]
def Vj(aB:aM X a (bj xp X mu .view bg))(aA:j7 X lo (p4 xp X mu eX))(dc:j7 X ai (p4 xp X mu lu)):
  aM X (.Subscript a (.Slice lo ai none bL) pos) (bj xp X mu .fresh λρ=>bg ρ>>=λx=>eX ρ>>=λl=>lu ρ>>=λh=>Den.kO x l h):=by
 intro pins s σ H Q I ⟨G,ρ,aa,hw⟩;refine SN VL aB aA dc pins s σ H Q I ?_;refine⟨G,ρ,aa,bY (br.mp hw) (λbf h8 v aH H1 aP aG=>?_) λ_ q=>q⟩;refine⟨aH,ρ,aa.ext aP,bY (br.mp h8) (λl k cf aW b5=>?_) λ_ q=>q.mono aP.h⟩;refine⟨cf,ρ,(aa.ext aP).ext b5,bY (br.mp k) (λh aR j6 bP jw=>?_) λ_ q=>(q.mono aP.h).mono b5.h⟩;refine⟨j6,bf,jw.sub,View.ext jw (View.ext b5 aG),?_⟩;exact bY (nc aR (λc=>VO)) (λd q v4 I3 e0 XO gP=>q v4 I3 e0 (((aP.trans b5).trans jw).trans XO) (((gP.old jw.h).old b5.h).old aP.h)) λ_ q=>q
end
section
variable{prog:Program}{w:World}{A:Around}{E:Value->Shared->Prop}{s:Shared}
noncomputable def BA(prog:Program)(w:World)(A:Around)(ae:List Value)(s1:Shared)(Q:Value->Shared->Prop):Prop :=
 ∃(κ:SortKind)(lt:Nat->Nat->Bool),Tm.Ord lt/\(∀i j,i<ae.length->j<ae.length->ae.getD i Value.none=ae.getD j Value.none->∀k,lt i k=lt j k/\lt k i=lt k j)/\ae.length<64 /\
   (2<=ae.length->∀(h':Heap),(∀b o,s1.heap.get? b=some o->h'.get? b=some o)->∀iI:SortKind->Shared->Prop,iI κ { s1 with heap:=h' }->wpAny (model prog w) A (keyKind' ae.toArray) iI (λ_ _=>False) { s1 with heap:=h' }) /\
   (2<=ae.length->∀(h':Heap),(∀b o,s1.heap.get? b=some o->h'.get? b=some o)->∀(i j:Nat)(bH:Bool->Shared->Prop),i<ae.length->j<ae.length->bH (lt i j) { s1 with heap:=h' }->PySem.W.kas_ask prog w A κ ae i j bH { s1 with heap:=h' }) /\
   ∀p:List Nat,p.Perm (List.range ae.length)->p.Pairwise (λi j=>lt j i=false)->∀(h':Heap)(c:Nat),(∀b o,s1.heap.get? b=some o->h'.get? b=some o)->h'.get? s1.heap.objs.size=some (seqObj "list" (p.map λi=>ae.getD i Value.none).toArray c)->Q (.ref s1.heap.objs.size) { s1 with heap:=h' }
def AI{src:Value}{Q:Value->Shared->Prop}(ag:wpAny (model prog w) A.in1 (collect src) (λae s1=>BA prog w A.in1.in1 ae s1 Q) (λ_ _=>False) s):wpAny (model prog w) A (call (.builtin "sorted") [src]) Q E s:=by
 refine Calls.call_function_entry kind_sorted plain_sorted entry_sorted (args_sorted1 _) ?_;unfold Builtin.«sorted»;refine YW (m:=checkCount "sorted" 1 1 _) (YY ?_);refine YW (ZR ag (λae s1 ao=>?_) λ_ _ z=>z.elim);obtain⟨κ,lt,o7,aN,yD,ax,rj,aL⟩:=ao;refine YW (wpAny_newList ?_ (by rw[sizeLine_eq];omega));have uh:(s1.heap.push (seqObj "list" ae.toArray 0)).get? s1.heap.objs.size=some (seqObj "list" ae.toArray 0):=Y7 _ rfl;have keep:∀{h':Heap},(∀b o,b≠s1.heap.objs.size->(s1.heap.push (seqObj "list" ae.toArray 0)).get? b=some o->h'.get? b=some o)->∀b o,s1.heap.get? b=some o->h'.get? b=some o:=λgq b o q =>
  gq b o (Zh (Y5 q)) (YZ _ q)
 show wpAny _ _ _ _ _ { s1 with heap:=s1.heap.push (seqObj "list" ae.toArray 0) };refine YW (Z9 (Z3 slot_list_sort ⟨_,uh,rfl⟩ entry_list_sort ?body (args_list_sort _)))
 case body =>
  refine Tm.Rf (s:={ s1 with heap:=s1.heap.push (seqObj "list" ae.toArray 0) }) (κ:=κ) (lt:=lt) o7 aN uh yD (λJ h' k iI q=>?_) (λJ h' k=>rj J h' (keep k)) λp bb bL h' c k a4=>?_
  .exact ZR (ax J h' (keep k) iI q) (λ_ _ z=>z) λ_ _ z=>z.elim
  .exact⟨_,rfl,YY ⟨_,rfl,aL p bb bL h' c (keep k) a4⟩⟩
end
noncomputable abbrev jX(c:List Int):D:=bt.au c
def ints_of{ds:List D}(h:ds.all (Den.fG 0)=true):∃ns:List Int,ds=ns.map Den.D.int:=uP h
theorem vN:∀{ds:List D},ds.all Den.mN=true->∃ar:List (List Int),ds=ar.map jX/\∀k∈ar,k≠[]
 |[],_=>⟨[],rfl,by simp⟩
 |d::ds,h=>by
  simp only[List.all_cons,YX]at h;obtain⟨ar,rfl,ax⟩:=vN h.2;cases d with
  |tup xs =>
   cases xs with
   |nil=>cases h.1
   |cons x xs =>
    have C:(Den.fG 0 x&&xs.all (Den.fG 0))=true:=h.1;have C:(x::xs).all (Den.fG 0)=true:=C;obtain⟨ns,e⟩:=uP C;refine⟨ns::ar,by rw[e];rfl,λk gq=>?_⟩;rcases Y0.mp gq with rfl|gq
    .rintro rfl;cases e
    .exact ax k gq
  |_=>cases h.1
section
variable{X:aQ}{pins:List (Addr×Obj)}{σ:dm}{G H:aw}{s:Shared}
theorem A2(I:Inv X pins σ H s)(aa:bQ G H):∀{ar:List (List Int)}{xs:List V}{us:List Value},(∀k∈ar,k≠[])->bD X.K G (ar.map jX) xs->Vals xs us->fe.gm s.heap us ar
 |[],_,_,_,r,v=>by cases r;cases v;exact trivial
 |k::ar,_,_,aD,⟨x,t,e,aG,aZ⟩,v=>by
  subst e;cases v with
  |cons v1 v2 =>
   obtain⟨a,ys,rfl,h,q⟩:=aG;cases v1;obtain⟨its,bR,⟨o,av,ag,n,hd⟩,_⟩:=I.tuple (iF aa h);rw[js q]at bR;exact⟨⟨a,o,its.toArray,n,rfl,av,ag,hd,by simpa using intsAre_of bR,aD k List.mem_cons_self⟩,A2 I aa (λz hz=>aD z (List.mem_cons_of_mem _ hz)) aZ v2⟩
theorem Cc:∀{ds:List D},ds.all Den.mM=true->∃cs:List (List (List Int)),ds=cs.map bt.qH/\(∀c∈cs,c≠[])/\∀c∈cs,∀k∈c,k≠[]
 |[],_=>⟨[],rfl,by simp,by simp⟩
 |d::ds,h=>by
  simp only[List.all_cons,YX]at h;obtain⟨cs,rfl,C,J⟩:=Cc h.2;cases d with
  |tup xs =>
   cases xs with
   |nil=>cases h.1
   |cons x xs =>
    have aC:(x::xs).all Den.mN=true:=h.1;obtain⟨c,e,aT⟩:=vN aC;refine⟨c::cs,by rw[e];rfl,λk ax=>?_,λk ax=>?_⟩
    .rcases Y0.mp ax with rfl|ax
     .rintro rfl;cases e
     .exact C k ax
    .rcases Y0.mp ax with rfl|ax
     .exact aT
     .exact J k ax
  |_=>cases h.1
theorem Ii(I:Inv X pins σ H s)(aa:bQ G H):∀{cs:List (List (List Int))}{xs:List V}{us:List Value},(∀c∈cs,c≠[])->(∀c∈cs,∀k∈c,k≠[])->bD X.K G (cs.map bt.qH) xs->Vals xs us->fe.iK s.heap us cs
 |[],_,_,_,_,r,v=>by cases r;cases v;exact trivial
 |c::cs,_,_,aD,hm,⟨x,t,e,aG,aZ⟩,v=>by
  subst e;cases v with
  |cons v1 v2 =>
   obtain⟨a,ys,rfl,h,q⟩:=aG;cases v1;obtain⟨its,bR,⟨o,av,ag,n,hd⟩,_⟩:=I.tuple (iF aa h);exact⟨⟨a,o,its.toArray,n,rfl,av,ag,hd,by simpa using A2 I aa (hm c List.mem_cons_self) q bR,aD c List.mem_cons_self⟩,Ii I aa (λz hz=>aD z (List.mem_cons_of_mem _ hz)) (λz hz=>hm z (List.mem_cons_of_mem _ hz)) aZ v2⟩
theorem GL{K:W.Frag}{ds:List D}{xs:List V}{us:List Value}(r:bD K G ds xs)(v:Vals xs us):∀{p:List Nat},(∀i∈p,i<ds.length) ->
  ∃ys,bD K G (p.map λi=>ds.getD i .dp) ys/\Vals ys (p.map λi=>us.getD i Value.none)
 |[],_=>⟨[],rfl,.nil⟩
 |i::p,h=>by
  obtain⟨ys,C,J⟩:=GL r v (p:=p) λj aJ=>h j (List.mem_cons_of_mem _ aJ)
  have ai:=h i List.mem_cons_self;have e:ds[i]?=some (ds.getD i .dp):=(by rw[Y3 ai];simp[List.getD,Y3 ai]);obtain⟨y,a8,aR⟩:=r.get e;obtain⟨u,bz,cw⟩:=v.get a8;have ak:us.getD i Value.none=u:=(by simp[List.getD,bz]);exact⟨y::ys,⟨y,ys,rfl,aR,C⟩,by rw[List.map_cons,ak];exact .cons cw J⟩
def As{K:W.Frag}{κ:Type}{f:κ->D}{lt:κ->κ->Bool}(L:bt.gT lt)(hf:∀a b,Den.iX (f a) (f b)=some (lt a b))(z:κ){ar:List κ}{xs:List V}{us:List Value}(r:bD K G (ar.map f) xs)(v:Vals xs us){p:List Nat}(C:p.Perm (List.range us.length))(J:p.Pairwise (λi j=>fe.ltI lt z ar j i=false)):
  ∃ys,bD K G (Den.hs (ar.map f)) ys/\Vals ys (p.map λi=>us.getD i Value.none):=by
 have aA:us.length=ar.length:=by rw[<- v.length,<- r.length,List.length_map]
 rw[aA]at C;rw[bt.kP hf,<- fe.VW L z ar C J,List.map_map];obtain⟨ys,a8,aR⟩:=GL r v (p:=p) λi ai=>by
  have:=C.mem_iff.mp ai;rw[List.length_map];simpa using this
 refine⟨ys,?_,aR⟩;have e:(p.map λi=>(ar.map f).getD i .dp)=p.map (f ∘ λi=>ar.getD i z):=by
  apply Zw;intro i ai;have ai:i<ar.length:=(by simpa using C.mem_iff.mp ai);simp[List.getD,Ze,Y3 ai]
 rw[<- e];exact a8
def AH{Q:c0}{ds:List D}{xs:List V}{us:List Value}(dc:X.A.handled=none)(bw:X.A.units+64<cLine)(I:Inv X pins σ H s)(aa:bQ G H)(r:bD X.K G ds xs)(v:Vals xs us)(je:(Den.ia ds||ds.all Den.mM)=true)(gH:ds.length<=63)(k:∀v aI aq,Ext G H aI aq->cy X.K H aI aq .fresh (.lst (Den.hs ds)) v->Q v aq):BA X.prog X.w X.A.in1.in1 us s (eN X pins σ Q):=by
 have hlen:us.length=ds.length:=by rw[<- v.length,<- r.length]
 have fin:∀{out:List Value}{ys:List V}(h':Heap)(c:Nat),bD X.K G (Den.hs ds) ys->Vals ys out->out.length=us.length->(∀b o,s.heap.get? b=some o->h'.get? b=some o)->h'.get? s.heap.objs.size=some (seqObj "list" out.toArray c)->eN X pins σ Q (.ref s.heap.objs.size) { s with heap:=h' }:=λ{out ys} h' c fL IJ av ax a4=>by
  refine⟨.ref s.heap.objs.size,_,I.laid (t':=s.toks) (o:=.lst ys) ax (Y2 _) ⟨by rw[IJ.length,av,hlen,sizeLine_eq];omega,out,c,IJ,a4⟩,rfl,?_⟩;exact k _ G _ (Ext.own aa I.fresh λ_ z=>nomatch z) ⟨_,ys,rfl,dF,I.fresh,aa.free I.fresh,fL⟩
 have zH:∀{p:List Nat},p.Perm (List.range us.length)->(p.map λi=>us.getD i Value.none).length=us.length:=λh=>by rw[List.length_map,h.length_eq,List.length_range]
 unfold Den.ia at je;rw[aaq,aaq]at je;rcases je with(h|h)|h
 .obtain⟨ns,rfl⟩:=ints_of h;have b4:IntsAre us ns:=(by rw[js r]at v;exact intsAre_of v);refine⟨oneType',fe.ltI bt.ltI 0 ns,fe.z4 bt.iW 0 ns,fe.z0 (fe.QB b4),by omega,λJ h' _ iI q=>fe.QI b4 J q,λJ h' _ i j bH ai aJ q=>fe.JU b4 i j bH ai aJ q,λp bb bL h' c ax a4=>?_⟩;obtain⟨ys,a8,aR⟩:=As bt.iW (f:=Den.D.int) (λ_ _=>rfl) 0 r v bb bL;exact fin h' c a8 aR (zH bb) ax a4
 .obtain⟨ar,rfl,ea⟩:=vN h;have c5:=A2 I aa ea r v;refine⟨tuples' true,fe.ltI bt.lexLt [] ar,fe.z4 bt.kC [] ar,fe.z0 (fe.QG c5),by omega,λJ h' k iI q=>fe.QJ (s:={ s with heap:=h' }) (c5.kept k) J q,λJ h' k i j bH ai aJ q=>fe.JV (s:={ s with heap:=h' }) (c5.kept k) i j bH ai aJ q,λp bb bL h' c ax a4=>?_⟩;obtain⟨ys,a8,aR⟩:=As bt.kC (f:=jX) (λa b=>bt.n8 a b) [] r v bb bL;exact fin h' c a8 aR (zH bb) ax a4
 .obtain⟨ar,rfl,ea,Pm⟩:=Cc h;have c5:=Ii I aa ea Pm r v;refine⟨tuples' false,fe.ltI bt.fU [] ar,fe.z4 bt.Fb [] ar,fe.z0 (fe.QH c5),by omega,λJ h' k iI q=>fe.QK (s:={ s with heap:=h' }) (c5.kept k) J q,λJ h' k i j bH ai aJ q=>fe.JW (s:={ s with heap:=h' }) (by show X.A.units+1+1+2<cLine;omega) (c5.kept k) i j bH ai aJ q,λp bb bL h' c ax a4=>?_⟩;obtain⟨ys,a8,aR⟩:=As bt.Fb (f:=bt.qH) (λa b=>bt.Rl a b) [] r v bb bL;exact fin h' c a8 aR (zH bb) ax a4
end
section
variable{xp:cu}{X:aQ}{mu:List Nat}{m:eB}{f:aY->bx D}{e:Expr}{pos pos' p fb:Pos}
def XJ{ds:List D}{Q:D->Prop}{E:Nat->Prop}(h:cz (Den.sorted ds) Q E):(Den.ia ds||ds.all Den.mM)=true/\ds.length<=63/\Q (.lst (Den.hs ds)):=by
 unfold Den.sorted at h;cases q:((Den.ia ds||ds.all Den.mM)&&decide (ds.length<=63)) with
 |false=>rw[q]at h;exact h.elim
 |true =>
  rw[q]at h;rw[YX,Zf]at q;exact⟨q.1,q.2,h⟩
def NF(ag:X.calm=true)(bw:X.A.units+64<cLine):hB X (.builtin "sorted") (kL X.K .fresh λd=>Den.ez d>>=λxs=>Den.sorted xs):=by
 intro pins s σ H xs us Q I r ⟨G,x,d,ex,aa,bS,hw⟩;subst ex;obtain⟨u,rfl,a7⟩:=vals1 r;obtain⟨ds,a,ys,rfl,aL,rs,hw⟩:=vs aa bS (br.mp hw);obtain⟨je,gH,hw⟩:=XJ hw;have dc:X.A.handled=none:=I.ok.hd ag;cases a7;rcases aL with aL|aL
 .obtain⟨its,bR,cE,hz⟩:=I.list aL;refine AI (collect_list cE.isList ?_ (by rw[<- bR.length];exact hz));have a3:Inv X pins σ H { s with heap:=(s.heap.push (seqObj "list" #[] 0)).update s.heap.objs.size (Obj.mapSeq (·++its.toArray)) }:=I.kept (t':=s.toks) λb o q=>(ZT _ _ (Z6 (Zh (Y5 q)))).trans (YZ _ q)
  exact AH dc bw a3 aa rs bR je gH hw
 .obtain⟨its,bR,cE,hz⟩:=I.tuple aL;refine AI (Pv.KW (show s.heap.IsTuple a its.toArray from cE) ?_ (by rw[<- bR.length];exact hz));have a3:Inv X pins σ H { s with heap:=(s.heap.push (seqObj "list" #[] 0)).update s.heap.objs.size (Obj.mapSeq (·++its.toArray)) }:=I.kept (t':=s.toks) λb o q=>(ZT _ _ (Z6 (Zh (Y5 q)))).trans (YZ _ q)
  exact AH dc bw a3 aa rs bR je gH hw
end
structure d6(K:W.Frag)(mu:List Nat)(bZ bl G H:aw)(ρ:aY)(σ:dm):Prop where
 cq:eD K mu G H ρ σ
 ext:Ext bZ bl G H
 own:∀(i:Nat)(d:D)(a:Addr),ρ[i]?=some (some d)->g4 d=true->i∈mu->σ[i]?=some (some (V.ref a))->bl a=none
noncomputable def iu(K:W.Frag)(mu:List Nat)(bZ bl:aw)(T:Ends):Den.eA->Prop
 |.bJ ρ=>∀σ G H,d6 K mu bZ bl G H ρ σ->T.bJ σ H
 |.dE d=>∀v G H,Ext bZ bl G H->Rep K G d v->T.dE v H
noncomputable def dJ(xp:cu)(X:aQ)(mu:List Nat)(f:aY->bx Den.eA):gB:=λT σ H =>
 ∃bZ bl G ρ,d6 X.K mu bZ bl G H ρ σ/\cz (f ρ) (iu X.K mu bZ bl T) (λc=>e2 xp X c bl)
def eY{α:Type}{l:List α}{i j:Nat}{a:α}(h:i≠j):(l.set i a)[j]?=l[j]?:=abQ h
def get_eq{α:Type}{l:List α}{i:Nat}{a b:α}(h:(l.set i a)[i]?=some b):i<l.length/\b=a:=by
 rw[List.getElem?_set_self']at h;cases q:l[i]? with
 |none=>rw[q]at h;cases h
 |some c=>rw[q]at h;exact⟨(Zm.mp q).1,(ZA h).symm⟩
def AB{α:Type}{l:List α}{i:Nat}{a:α}(h:i<l.length):(l.set i a)[i]?=some a:=by simp[h]
section
variable{K:W.Frag}{mu:List Nat}{bZ bl G H aI aq:aw}{ρ:aY}{σ:dm}{i:Nat}{d:D}{v:V}
def eD.sy(h:eD K mu G H ρ σ)(hm:i∉mu)(r:Rep K G d v):eD K mu G H (ρ.set i (some d)) (σ.set i (some v)) where
 len:=by rw[aap,aap];exact h.len
 sub:=h.sub
 val:=λj e q aJ=>by
  by_cases c:i=j
  .subst c;obtain⟨C,J⟩:=get_eq q;cases J;exact⟨v,AB (by rw[<- h.len];exact C),r⟩
  .rw[eY c]at q ⊢;exact h.val j e q aJ
 own:=λj e q aJ aA=>by
  have c:i≠j:=λz=>hm (z▸aJ)
  rw[eY c]at q ⊢;exact h.own j e q aJ aA
 lst:=λj e q aJ aA=>by
  have c:i≠j:=λz=>hm (z▸aJ)
  rw[eY c]at q;obtain⟨a,o,C,J⟩:=h.lst j e q aJ aA;exact⟨a,o,by rw[eY c];exact C,J⟩
 dK:=h.dK
 apart:=λj k d e a b aU bq b9 cg aJ ax ne aj ak=>by
  have c:i≠j:=λz=>hm (z▸aJ)
  have c2:i≠k:=λz=>hm (z▸ax)
  rw[eY c]at aU aj;rw[eY c2]at bq ak;exact h.apart j k d e a b aU bq b9 cg aJ ax ne aj ak
def eD.set_own(h:eD K mu G H ρ σ)(hm:i∈mu)(aA:g4 d=false)(r:Rep K G d v):eD K mu G H (ρ.set i (some d)) (σ.set i (some v)) where
 len:=by rw[aap,aap];exact h.len
 sub:=h.sub
 val:=λj e q aJ=>by
  have c:i≠j:=λz=>aJ (z▸hm)
  rw[eY c]at q ⊢;exact h.val j e q aJ
 own:=λj e q aJ hle=>by
  by_cases c:i=j
  .subst c;obtain⟨C,J⟩:=get_eq q;cases J;exact⟨v,AB (by rw[<- h.len];exact C),r⟩
  .rw[eY c]at q ⊢;exact h.own j e q aJ hle
 lst:=λj e q aJ hle=>by
  by_cases c:i=j
  .subst c;obtain⟨C,J⟩:=get_eq q;cases J;rw[aA]at hle;cases hle
  .rw[eY c]at q;obtain⟨a,o,C,J⟩:=h.lst j e q aJ hle;exact⟨a,o,by rw[eY c];exact C,J⟩
 dK:=h.dK
 apart:=λj k d e a b aU bq b9 cg aJ ax ne aj ak=>by
  have c:i≠j:=λz=>by subst z;obtain⟨C,J⟩:=get_eq aU;cases J;rw[aA]at b9;cases b9
  have c2:i≠k:=λz=>by subst z;obtain⟨C,J⟩:=get_eq bq;cases J;rw[aA]at cg;cases cg
  rw[eY c]at aU aj;rw[eY c2]at bq ak;exact h.apart j k d e a b aU bq b9 cg aJ ax ne aj ak
def eD.VE{a:Addr}{o:dX}{d:D}(h:eD K mu G H ρ σ)(hm:i∈mu)(ft:g4 d=true)(f7:H a=some o)(mF:G a=none)(r:jC K G d o)(aD:∀(j:Nat)(e:D),j≠i->j∈mu->g4 e=true->ρ[j]?=some (some e)->σ[j]?≠some (some (V.ref a))):eD K mu G H (ρ.set i (some d)) (σ.set i (some (.ref a))) where
 len:=by rw[aap,aap];exact h.len
 sub:=h.sub
 val:=λj e q aJ=>by
  have c:i≠j:=λz=>aJ (z▸hm)
  rw[eY c]at q ⊢;exact h.val j e q aJ
 own:=λj e q aJ hle=>by
  by_cases c:i=j
  .subst c;obtain⟨C,J⟩:=get_eq q;cases J;rw[ft]at hle;cases hle
  .rw[eY c]at q ⊢;exact h.own j e q aJ hle
 lst:=λj e q aJ hle=>by
  by_cases c:i=j
  .subst c;obtain⟨C,J⟩:=get_eq q;cases J;exact⟨a,o,AB (by rw[<- h.len];exact C),f7,mF,r⟩
  .rw[eY c]at q;obtain⟨b,bG,C,J⟩:=h.lst j e q aJ hle;exact⟨b,bG,by rw[eY c];exact C,J⟩
 dK:=h.dK
 apart:=λj k e f b gn aU bq b9 cg aJ ax ne aj ak=>by
  by_cases c:i=j
  .subst c;have c2:i≠k:=ne;obtain⟨C,J⟩:=get_eq aj;cases J;rw[eY c2]at bq ak;intro z;exact aD k f (Z6 c2) ax cg bq (by rw[z];exact ak)
  .by_cases c2:i=k
   .subst c2;obtain⟨C,J⟩:=get_eq ak;cases J;rw[eY c]at aU aj;intro z;exact aD j e (Z6 c) aJ b9 aU (by rw[<- z];exact aj)
   .rw[eY c]at aU aj;rw[eY c2]at bq ak;exact h.apart j k e f b gn aU bq b9 cg aJ ax ne aj ak
def jC.nt{o:dX}:∀{d:D},jC K G d o->∀xs,o≠.tup xs
 |.lst _,⟨_,e,_⟩,_,z=>by rw[e]at z;cases z
 |.b7 _,e,_,z=>by rw[show o=_ from e]at z;cases z
 |.bE _,⟨_,e,_⟩,_,z=>by rw[e]at z;cases z
 |.cG _,⟨_,e,_⟩,_,z=>by rw[e]at z;cases z
def d6.step(h:d6 K mu bZ bl G H ρ σ)(x:Ext G H aI aq):d6 K mu bZ bl aI aq ρ σ:=⟨h.cq.ext x,h.ext.trans x,h.own⟩
theorem d6.sy(h:d6 K mu bZ bl G H ρ σ)(hm:i∉mu)(r:Rep K G d v):d6 K mu bZ bl G H (ρ.set i (some d)) (σ.set i (some v)) :=
 ⟨h.cq.sy hm r,h.ext,λj e a q ft aJ z=>by
  have c:i≠j:=λz=>hm (z▸aJ)
  rw[eY c]at q z;exact h.own j e a q ft aJ z⟩
def d6.pW{a:Addr}{o:dX}(h:d6 K mu bZ bl G H ρ σ)(x:Ext G H aI aq)(hm:i∈mu)(ft:g4 d=true)(C:aq a=some o)(J:H a=none)(aC:aI a=none)(r:jC K aI d o):d6 K mu bZ bl aI aq (ρ.set i (some d)) (σ.set i (some (.ref a))):=by
 have h':=h.step x;refine⟨h'.cq.VE hm ft C aC r λj e aJ y3 he q z=>?_,h'.ext,λj e b q he aJ z=>?_⟩
 .obtain⟨b,bG,a8,aR,bz,cw⟩:=h.cq.lst j e q y3 he;rw[a8]at z;cases z;rw[J]at aR;cases aR
 .by_cases c:i=j
  .subst c;obtain⟨_,w⟩:=get_eq z;cases w;exact h.ext.h.free J
  .rw[eY c]at q z;exact h.own j e b q he aJ z
def d6.Ho(h:d6 K mu bZ bl G H ρ σ)(x:Ext G H aI aq)(hm:i∈mu)(r:cy K H aI aq .fresh d v):d6 K mu bZ bl aI aq (ρ.set i (some d)) (σ.set i (some v)):=by
 have go:g4 d=false->Rep K aI d v->d6 K mu bZ bl aI aq (ρ.set i (some d)) (σ.set i (some v)):=λft r=>by
  refine⟨(h.step x).cq.set_own hm ft r,(h.step x).ext,λj e b q he aJ z=>?_⟩
  by_cases c:i=j
  .subst c;obtain⟨_,w⟩:=get_eq q;cases w;rw[ft]at he;cases he
  .rw[eY c]at q z;exact h.own j e b q he aJ z
 cases d with
 |lst ds =>
  obtain⟨a,xs,rfl,C,J,aC,aT⟩:=r;exact h.pW x hm rfl C J aC ⟨xs,rfl,aT⟩
 |b7 af=>exact r.elim
 |bE af=>exact r.elim
 |cG af=>exact r.elim
 |_=>exact go rfl r
def d6.write {a : Addr} {bG : dX} {d e : D} (h : d6 K mu bZ bl G H ρ σ) (hm : i ∈ mu) (q : ρ[i]? = some (some d)) (hd : g4 d = true) (he : g4 e = true) (z : σ[i]? = some (some (V.ref a))) (mF : G a = none) (r : jC K G e bG) :
    d6 K mu bZ bl G (upd H a bG) (ρ.set i (some e)) σ := by
  have h0 : bl a = none := h.own i d a q hd hm z
  have ai : i < ρ.length := (Zm.mp q).1
  have other : ∀ (j : Nat) (f : D), j ≠ i -> j ∈ mu -> g4 f = true -> ρ[j]? = some (some f) -> σ[j]? ≠ some (some (V.ref a)) := fun j f aJ y3 hf TM lj => h.cq.apart j i f d a a TM q hf hd y3 hm aJ lj z rfl
  have HO : bQ G (upd H a bG) := fun b o z => by
    have : b ≠ a := fun w => by rw [w, mF] at z; cases z
    rw [cT this]; exact h.cq.sub b o z
  have HB : eD K mu G (upd H a bG) (ρ.set i (some e)) σ := by
    refine ⟨by rw [aap]; exact h.cq.len, HO, fun j f dq aJ => ?_, fun j f dq aJ aA => ?_, fun j f dq aJ aA => ?_, fun b xs w => ?_, fun j k f g b gn aU bq b9 cg aJ ax ne aj ak => ?_⟩
    · have c : i ≠ j := fun z => aJ (z ▸ hm)
      rw [eY c] at dq; exact h.cq.val j f dq aJ
    · by_cases c : i = j
      · subst c
        obtain ⟨_, w⟩ := get_eq dq
        cases w
        rw [he] at aA; cases aA
      · rw [eY c] at dq; exact h.cq.own j f dq aJ aA
    · by_cases c : i = j
      · subst c
        obtain ⟨_, w⟩ := get_eq dq
        cases w
        exact ⟨a, bG, z, dF, mF, r⟩
      · rw [eY c] at dq
        obtain ⟨b, b8, a8, aR, bz, cw⟩ := h.cq.lst j f dq aJ aA
        have : b ≠ a := fun w => other j f (Z6 c) aJ aA dq (by rw [a8, w])
        exact ⟨b, b8, a8, by rw [cT this]; exact aR, bz, cw⟩
    · by_cases c : b = a
      · subst c; rw [dF] at w; cases w; exact absurd rfl (r.nt xs)
      · rw [cT c] at w; exact h.cq.dK b xs w
    · have full : ∀ (k : Nat) (g : D), g4 g = true -> (ρ.set i (some e))[k]? = some (some g) -> ∃ g', g4 g' = true /\ ρ[k]? = some (some g') := fun k g a4 z => by
        by_cases c : i = k
        · subst c; exact ⟨d, hd, q⟩
        · rw [eY c] at z; exact ⟨g, a4, z⟩
      obtain ⟨yg, n9, pP⟩ := full j f b9 aU
      obtain ⟨g', pE, om⟩ := full k g cg bq
      exact h.cq.apart j k yg g' b gn pP om n9 pE aJ ax ne aj ak
  refine ⟨HB, ⟨h.ext.g, fun b o z => ?_, HO, h.ext.new, fun b xs w => .inr (HB.dK b xs w)⟩, fun j f b dq hf aJ lj => ?_⟩
  · have : b ≠ a := fun w => by rw [w, h0] at z; cases z
    rw [cT this]; exact h.ext.h b o z
  · by_cases c : i = j
    · subst c; rw [z] at lj; cases lj; exact h0
    · rw [eY c] at dq; exact h.own j f b dq hf aJ lj
end
section
variable{xp:cu}{X:aQ}{mu:List Nat}{m:eB}{f bg cj cD:aY->bx D}{g g1 g2:aY->bx Den.eA}{a b c e dx:Expr}{ah:List Expr}{pos bb bL df gN:Pos}{st:Stmt}{sG sx dV:List Stmt}{i:Nat}{x:Str}
def G7(hm:i∉mu)(aK:X.N.Nodup)(ai:X.N[i]?=some x)(ao:Loc X.env.scope x)(he:aM X e (bj xp X mu .val f))(aa:swapsWith e (some (.Name x bb)) pos.line X.env=pure false)(hf:X.fn x=true\/X.env.scope.names.lookup x=some .local):
  dY X (.Assign [.Name x bb] e pos) (dJ xp X mu λρ=>f ρ>>=λd=>.ok (.bJ (ρ.set i (some d)))):=by
 intro pins s σ H T I ⟨bZ,bl,G,ρ,ab,hw⟩;refine sj aK ai ao he aa hf pins s σ H T I ?_;refine⟨G,ρ,ab.cq,bY (br.mp hw) (λd k v aH H1 aP aG=>?_) λ_ q=>q.mono ab.ext.h⟩;exact k _ aH H1 ((ab.step aP).sy hm aG)
def G8(hm:i∈mu)(aK:X.N.Nodup)(ai:X.N[i]?=some x)(ao:Loc X.env.scope x)(he:aM X e (bj xp X mu .fresh f))(aa:swapsWith e (some (.Name x bb)) pos.line X.env=pure false)(hf:X.fn x=true\/X.env.scope.names.lookup x=some .local):
  dY X (.Assign [.Name x bb] e pos) (dJ xp X mu λρ=>f ρ>>=λd=>.ok (.bJ (ρ.set i (some d)))):=by
 intro pins s σ H T I ⟨bZ,bl,G,ρ,ab,hw⟩;refine sj aK ai ao he aa hf pins s σ H T I ?_;refine⟨G,ρ,ab.cq,bY (br.mp hw) (λd k v aH H1 aP aG=>?_) λ_ q=>q.mono ab.ext.h⟩;exact k _ aH H1 (ab.Ho aP hm aG)
def Vb(he:aM X e (bj xp X mu .val f)):dY X (.Return (some e) pos) (dJ xp X mu λρ=>f ρ>>=λd=>.ok (.dE d)):=by
 intro pins s σ H T I ⟨bZ,bl,G,ρ,ab,hw⟩;refine ve he pins s σ H T I ?_;refine⟨G,ρ,ab.cq,bY (br.mp hw) (λd k v aH H1 aP aG=>?_) λ_ q=>q.mono ab.ext.h⟩;exact k v aH H1 (ab.ext.trans aP) aG
def Vd(hm:i∈mu)(aK:X.N[i]?=some x)(aN:fA X.env.scope x)(C:(x==("__debug__":Str))=false)(J:(x==("__classdict__":Str))=false):
  dY X (.Return (some (.Name x bb)) pos) (dJ xp X mu λρ=>Den.uM ρ[i]?>>=λd=>.ok (.dE d)):=by
 intro pins s σ H T I ⟨bZ,bl,G,ρ,ab,hw⟩;refine ve (gO aK aN C J) pins s σ H T I ?_;dsimp only at hw;have key:∀ds,ρ[i]?=some (some (.lst ds))->iu X.K mu bZ bl T (.dE (.lst ds))->kT i σ H T.dE:=λds q hw=>by
  obtain⟨a,o,a8,aR,bz,xs,rfl,cw⟩:=ab.cq.lst i (.lst ds) q hm rfl;refine⟨_,a8,?_⟩;have h0:bl a=none:=ab.own i (.lst ds) a q rfl hm a8;refine hw _ (upd G a (.lst xs)) H ⟨ab.ext.g.trans (gg bz),ab.ext.h,λb o z=>?_,λb cc b0=>?_,λb xs z=>.inr (gg bz _ _ (ab.cq.dK b xs z))⟩ ⟨a,xs,rfl,.inl (.inl dF),cw.mono (gg bz)⟩
  .by_cases c:b=a
   .subst c;rw[dF]at z;rw[aR];exact z
   .rw[cT c]at z;exact ab.cq.sub b o z
  .have:b≠a:=λw=>b0 (by rw[w];exact h0)
   rw[cT this];exact ab.ext.new b cc b0
 cases q:ρ[i]? with
 |none=>rw[q]at hw;exact hw.elim
 |some o =>
  cases o with
  |none=>rw[q]at hw;exact hw.elim
  |some d =>
   rw[q]at hw;cases d with
   |lst ds=>exact key ds q hw
   |_=>exact hw.elim
noncomputable def Vz(g1 g2:aY->bx Den.eA):aY->bx Den.eA:=λρ=>g1 ρ>>=λr=>match r with
 |.bJ bC=>g2 bC
 |.dE d=>.ok (.dE d)
def Vk:gV X [] (dJ xp X mu λρ=>.ok (.bJ ρ)):=by
 intro pins s σ H T I ⟨bZ,bl,G,ρ,ab,hw⟩;exact Tz pins s σ H T I (hw σ G H ab)
def Vh(C:dY X st (dJ xp X mu g1))(J:gV X sG (dJ xp X mu g2)):gV X (st::sG) (dJ xp X mu (Vz g1 g2)):=by
 intro pins s σ H T I ⟨bZ,bl,G,ρ,ab,hw⟩;refine Tx C J pins s σ H T I ?_;refine⟨bZ,bl,G,ρ,ab,bY (br.mp hw) (λr k=>?_) λ_ q=>q⟩;cases r with
 |bJ bC=>exact λc7 aI aq gJ=>⟨bZ,bl,aI,bC,gJ,k⟩
 |dE d=>exact k
def UY(ag:eh X c (fx xp X mu cD))(aB:gV X sx (dJ xp X mu g1))(ab:gV X dV (dJ xp X mu g2)):dY X (.If c sx dV pos) (dJ xp X mu λρ=>cD ρ>>=λx=>Den.eE x>>=λk=>if k then g1 ρ else g2 ρ):=by
 intro pins s σ H T I ⟨bZ,bl,G,ρ,ix,hw⟩;refine Tv ag aB ab pins s σ H T I ?_;refine⟨G,ρ,ix.cq,?_⟩;refine br.mpr (bY (br.mp hw) (λd k=>bY (br.mp k) (λdd q aH H1 aP=>?_) λ_ q=>q.mono ix.ext.h) λ_ q=>q.mono ix.ext.h);cases dd with
 |true=>simp only[ZH]at q ⊢;exact⟨bZ,bl,aH,ρ,ix.step aP,q⟩
 |false=>simp only[Y1,Zk]at q ⊢;exact⟨bZ,bl,aH,ρ,ix.step aP,q⟩
end
theorem rP{prog:Program}{w:World}:∀{ae:List Value}{k:List Int},IntsAre ae k->ItemsAre (intKind prog w) k ae
 |_,_,.nil=>.nil
 |_,_,.cons n t r=>.cons (Pv.rO prog w n t) (rP r)
theorem BJ{prog:Program}{w:World}:∀{k:List Int}{ae:List Value},ItemsAre (intKind prog w) k ae->IntsAre ae k
 |_,_,.nil=>.nil
 |_,_,.cons h r=>by
  obtain⟨t,rfl⟩:=ab6 h;exact .cons _ t (BJ r)
theorem EI:∀{ae:List Value}{a b:List Int},IntsAre ae a->IntsAre ae b->a=b
 |_,_,_,.nil,.nil=>rfl
 |_,_,_,.cons n t r,.cons _ _ q=>by rw[EI r q]
def zS{κ:Type}[DecidableEq κ](ar:List κ){i:Nat}(h:i<=ar.length):(Pv.met ar i).length<=(bt.c1 ar).length :=
 bt.hr (Pv.r4 ar i) λz hz=>(bt.jS z ar).mpr (List.mem_of_mem_take ((Pv.uS ar i h z).mp hz))
def Hq{κ:Type}[DecidableEq κ]{lt:κ->κ->Bool}(L:bt.gT lt){cQ r cX:List κ}(C:cQ.Perm r)(J:r.Perm (Pv.met cX cX.length)):bt.cR lt cQ=bt.cR lt (bt.c1 cX):=by
 have h:=C.trans J;have dP:cQ.Nodup:=h.nodup_iff.mpr (Pv.r4 cX _);refine bt.j9 L (bt.ka L dP) (bt.ka L (bt.mZ cX)) λz=>?_
 rw[bt.iY,bt.iY,bt.jS,h.mem_iff,Pv.uS cX _ (Y2 _),List.take_length]
def Hp{κ:Type}[DecidableEq κ]{cQ r cX:List κ}(C:cQ.Perm r)(J:r.Perm (Pv.met cX cX.length)):cQ.length<=(bt.c1 cX).length:=by
 rw[(C.trans J).length_eq];exact zS cX (Y2 _)
def Qm{P:Nat->Value->Prop}{acc:Array Value}{l:List Value}(h:ItemsOf P acc l.length)(ej:∀i v,P i v->l[i]?=some v):acc.toList=l:=by
 obtain⟨C,J⟩:=h;apply aao;intro i
 by_cases ai:i<l.length
 .have fu:i<acc.size:=(by omega);have e:acc[i]?=some acc[i]:=Y8 fu;have:=ej i _ (J i _ e);rw[this];simpa using e
 .rw[Zq (by simp;omega),Zq (by omega)]
section
variable{X:aQ}{pins:List (Addr×Obj)}{σ:dm}{G H:aw}{s:Shared}
noncomputable def wu(K:W.Frag)(G:aw)(v:Value):Prop:=∃b k,v=.ref b/\Rep K G (jX k) (V.ref b)
theorem GZ(I:Inv X pins σ H s)(aa:bQ G H):∀{ar:List (List Int)}{xs:List V}{us:List Value},bD X.K G (ar.map jX) xs->Vals xs us->Paired ((Pv.EP (wu X.K G) X.prog X.w).Row s.heap) us ar
 |[],_,_,r,v=>by cases r;cases v;exact .nil
 |k::ar,_,_,⟨x,t,e,aG,aZ⟩,v=>by
  subst e;cases v with
  |cons v1 v2 =>
   obtain⟨a,ys,rfl,h,q⟩:=id aG;cases v1;obtain⟨its,bR,⟨o,av,ag,n,hd⟩,_⟩:=I.tuple (iF aa h);rw[js q]at bR;exact .cons ⟨a,rfl,⟨o,its.toArray,n,av,ag,hd,rP (by simpa using intsAre_of bR)⟩,a,k,rfl,aG⟩ (GZ I aa aZ v2)
theorem GY:∀{ns:List Int}{us:List Value},IntsAre us ns->Paired (λv (k:Int)=>∃t,v=Value.int k t) us ns
 |_,_,.nil=>.nil
 |_,_,.cons n t r=>.cons ⟨t,rfl⟩ (GY r)
theorem Hr(I:Inv X pins σ H s)(aa:bQ G H):∀{ah:List (Int×Value)}{ar:List (List Int)},Paired (λe k=>Pv.k2 X.prog X.w s.heap e k/\wu X.K G e.2) ah ar->∃xs,bD X.K G (ar.map jX) xs/\Vals xs (ah.map (·.2))
 |_,_,.nil=>⟨[],rfl,.nil⟩
 |e::ah,k::ar,.cons ⟨⟨b,aj,_,o,items,n,av,ag,hd,ax⟩,gn,dd,ak,r⟩ t=>by
  obtain⟨xs,aG,aZ⟩:=Hr I aa t;rw[aj]at ak;injection ak with ak;subst ak;have y6:dd=k:=by
   obtain⟨a,ys,eL,h,q⟩:=id r;cases eL;obtain⟨its,bR,⟨bG,dI,_,cn,f9⟩,_⟩:=I.tuple (iF aa h);rw[av]at dI;cases dI;rw[hd]at f9;injection f9 with b9 _;rw[js q]at bR;have C:=intsAre_of bR;have J:=BJ ax;rw[b9]at J;exact EI (by simpa using C) (by simpa using J)
  subst y6;exact⟨V.ref b::xs,⟨_,_,rfl,r,aG⟩,by rw[List.map_cons,aj];exact .cons rfl aZ⟩
theorem Hs{K:W.Frag}:∀{ah:List (Int×Value)}{ar:List Int},Paired Pv.k1 ah ar->∃xs,bD K G (ar.map Den.D.int) xs/\Vals xs (ah.map (·.2))
 |_,_,.nil=>⟨[],rfl,.nil⟩
 |e::ah,k::ar,.cons ⟨_,t,aj⟩ ih=>by
  obtain⟨xs,aG,aZ⟩:=Hs (K:=K) ih;exact⟨V.int k::xs,⟨_,_,rfl,rfl,aG⟩,by rw[List.map_cons,aj];exact .cons ⟨t,rfl⟩ aZ⟩
end
section
variable{xp:cu}{X:aQ}{mu:List Nat}{m:eB}{f:aY->bx D}{e:Expr}{pos pos' p fb:Pos}{x y:Str}{pins:List (Addr×Obj)}{σ:dm}{G H:aw}{s:Shared}
def XK{ds:List D}{Q:D->Prop}{E:Nat->Prop}(h:cz (Den.eZ ds) Q E):Den.ia ds=true/\(Den.la ds).length<=63/\Q (.lst (Den.hs (Den.la ds))):=by
 unfold Den.eZ at h;cases q:(Den.ia ds&&decide ((Den.la ds).length<=63)) with
 |false=>rw[q]at h;exact h.elim
 |true =>
  rw[q]at h;simp only[YX,Zf]at q;exact⟨q.1,q.2,h⟩
def Inv.grown(I:Inv X pins σ H s){s':Shared}(g:Pv.sY s s'):Inv X pins σ H s':=by
 obtain⟨h',g',d',p5,se⟩:=s';obtain⟨k,aj,ak,bu⟩:=g;have aj:g'=s.gens:=aj;have ak:d'=s.drawn:=ak;have bu:se=s.os:=bu;subst aj ak bu;exact I.kept k
def HG{Q:c0}(dc:X.A.handled=none)(bw:X.A.units+64<cLine)(I:Inv X pins σ H s)(aa:bQ G H){a:Addr}{o:Obj}{ah:Array (Int×Value)}{a6:Nat}{t:SetTable}(av:s.heap.get? a=some o)(O:Pv.nu X.w o ah a6 t){ds:List D}{xs:List V}(r:bD X.K G ds xs)(v:Vals xs ((Pv.gu X.w a ah a6).toList.map (·.2)))(je:Den.ia ds=true)(gH:ds.length<=63)(k:∀v aI aq,Ext G H aI aq->cy X.K H aI aq .fresh (.lst (Den.hs ds)) v->Q v aq):wpAny (model X.prog X.w) X.A (call (.builtin "sorted") [.ref a]) (eN X pins σ Q) X.cA s:=by
 have hsz:(Pv.gu X.w a ah a6).size=ah.size:=by have:=(Pv.pM X.w a ah a6).length_eq;simpa using this
 have aA:ah.size<=63:=by
  have C:=v.length;have J:=r.length;simp only[List.length_map,Array.length_toList]at C;omega
 refine AI (Pv.KV (A:=X.A.in1) dc av O (by rw[sizeLine_eq];omega) λs' acc g iw=>?_);have e:acc.toList=(Pv.gu X.w a ah a6).toList.map (·.2):=by
  refine Qm (P:=λi v=>∃x,(Pv.gu X.w a ah a6)[i]?=some x/\v=x.2) (l:=(Pv.gu X.w a ah a6).toList.map (·.2)) (by simpa[hsz] using iw) λi v aN=>?_
  obtain⟨z,C,J⟩:=aN;rw[Ze,Zz,C,J];rfl
 rw[e];exact AH dc bw (Inv.grown I g) aa r v (by rw[je];rfl) gH k
def XN{Q:c0}(ag:X.calm=true)(bw:X.A.units+64<cLine)(I:Inv X pins σ H s)(aa:bQ G H){d:D}{z:V}{u:Value}(bS:View X.K G H d z)(a7:RelV z u)(hw:cz (Den.ez d>>=λxs=>Den.eZ xs) (λd'=>∀v aI aq,Ext G H aI aq->cy X.K H aI aq .fresh d' v->Q v aq) (λ_=>False)):
  wpAny (model X.prog X.w) X.A (call (.type "set") [u]) (λw s1=>wpAny (model X.prog X.w) X.A (call (.builtin "sorted") [w]) (eN X pins σ Q) X.cA s1) X.cA s:=by
 obtain⟨ds,a,ys,rfl,aL,rs,hw⟩:=vs aa bS (br.mp hw);obtain⟨je,gH,hw⟩:=XK hw;have dc:X.A.handled=none:=I.ok.hd ag;cases a7;obtain⟨its,bR,T,ba,fJ,nl,c5,kr⟩:∃(its:List Value),Vals ys its/\∃T ba fJ nl,(T="list"\/T="tuple")/\s.heap.get? a=some { cls:=.type T,dict:=ba,data:=.seq its.toArray nl,slots:=fJ }:=by
  rcases aL with aL|aL
  .obtain⟨its,bR,⟨⟨cls,dn,data,cp⟩,n,av,C,_,aC⟩,_⟩:=I.list aL;simp only at C aC;subst C aC;exact⟨its,bR,"list",dn,cp,n,.inl rfl,av⟩
  .obtain⟨its,bR,⟨⟨cls,dn,data,cp⟩,av,C,n,aC⟩,_⟩:=I.tuple aL;simp only at C aC;subst C aC;exact⟨its,bR,"tuple",dn,cp,n,.inr rfl,av⟩
 have keep:∀{h':Heap}{tk:Nat},(∀b o,b<s.heap.objs.size->s.heap.get? b=some o->h'.get? b=some o)->Inv X pins σ H { s with heap:=h',toks:=tk }:=λax=>I.kept λb o q=>ax b o (Y5 q) q
 unfold Den.ia at je;rw[aaq]at je;rcases je with h|h
 .obtain⟨ns,rfl⟩:=ints_of h;have b4:IntsAre its ns:=(by rw[js rs]at bR;exact intsAre_of bR);rw[bt.qO (f:=Den.D.int) bt.CS]at gH hw;rw[List.length_map]at gH;refine Pv.B9 (Pv.Qv X.prog X.w) c5 dc bw kr (show Paired (λv (k:Int)=>∃t,v=Value.int k t) its.toArray.toList ns from by simpa using GY b4) (λi ai=>by have:=zS ns (aa7 ai);omega) λh' tk r bh az ax=>?_
  obtain⟨o,ah,a6,t,av,hex,hd,f3,_,eb,iz,rA,lD⟩:=bh;obtain⟨cQ,aU,bq⟩:=Pv.Paired.perm (Pv.pM X.w s.heap.objs.size ah a6) rA;obtain⟨xs,aG,aZ⟩:=Hs (K:=X.K) (G:=G) bq;have e:Den.hs (cQ.map Den.D.int)=Den.hs ((bt.c1 ns).map Den.D.int):=by
   rw[bt.kP (f:=Den.D.int) (lt:=bt.ltI) λ_ _=>rfl,bt.kP (f:=Den.D.int) (lt:=bt.ltI) λ_ _=>rfl,Hq bt.iW aU az]
  refine HG (s:={ s with heap:=h',toks:=tk }) dc bw (keep ax) aa av ⟨hex,hd,f3,eb,iz⟩ aG aZ ?_ ?_ (by rw[e];exact hw)
  .unfold Den.ia;rw[bt.uO];rfl
  .rw[List.length_map];have:=Hp aU az;omega
 .obtain⟨ar,rfl,ea⟩:=vN h;rw[bt.qO (f:=jX) bt.mB]at gH hw;rw[List.length_map]at gH;refine Pv.B9 (Pv.EP (wu X.K G) X.prog X.w) c5 dc bw kr (by simpa using GZ I aa rs bR) (λi ai=>by have:=zS ar (aa7 ai);omega) λh' tk r bh az ax=>?_
  obtain⟨o,ah,a6,t,av,hex,hd,f3,_,eb,iz,rA,lD⟩:=bh;obtain⟨cQ,aU,bq⟩:=Pv.Paired.perm (Pv.pM X.w s.heap.objs.size ah a6) rA;have cx:Inv X pins σ H { s with heap:=h',toks:=tk }:=keep ax;obtain⟨xs,aG,aZ⟩:=Hr cx aa bq;have e:Den.hs (cQ.map jX)=Den.hs ((bt.c1 ar).map jX):=by
   rw[bt.kP (f:=jX) (lt:=bt.lexLt) bt.n8,bt.kP (f:=jX) (lt:=bt.lexLt) bt.n8,Hq bt.kC aU az]
  refine HG (s:={ s with heap:=h',toks:=tk }) dc bw cx aa av ⟨hex,hd,f3,eb,iz⟩ aG aZ ?_ ?_ (by rw[e];exact hw)
  .unfold Den.ia;rw[bt.tr λc ag=>ea c ?_,acH];have:=((aU.trans az).mem_iff).mp ag;exact List.mem_of_mem_take ((Pv.uS ar _ (Y2 _) c).mp this)
  .rw[List.length_map];have:=Hp aU az;omega
def Vl(ag:X.calm=true)(bw:X.A.units+64<cLine)(ao:x="sorted")(aV:y="set")(rp:eU X x)(ru:X.aX x=none)(rq:eU X y)(rv:X.aX y=none)(aB:aM X e (bj xp X mu .view f))(cH:starEach [e] X.env=[(false,eval e X.env)]):
  aM X (.Call (.Name x p) [.Call (.Name y fb) [e] [] pos'] [] pos) (bj xp X mu .fresh λρ=>f ρ>>=λd=>Den.ez d>>=λxs=>Den.eZ xs):=by
 subst ao aV;intro pins s σ H Q I ⟨G,ρ,aa,hw⟩;refine aal (kA I rp ru (u:=.builtin "sorted") (by kernel_rfl) ?_);refine abD ?_ rfl rfl;show wpAny _ _ (spliced ((false,eval (.Call (.Name "set" fb) [e] [] pos') X.env)::[])) _ _ s;refine aaz ?_;refine aal (kA I rq rv (u:=.type "set") (by kernel_rfl) ?_);refine ZN (bF (lQ aB cH pos' pins s σ H (λae H1=>∃v d aH,ae=[v]/\Ext G H aH H1/\View X.K aH H1 d v/\cz (Den.ez d>>=λxs=>Den.eZ xs) (λd'=>∀v aI aq,Ext aH H1 aI aq->cy X.K H1 aI aq .fresh d' v->Q v aq) (λ_=>False)) I
  ⟨G,ρ,aa,bY (br.mp hw) (λd k v aH H1 aP aG=>?_) λ_ q=>q⟩) λus s1 ⟨ae,H1,a3,aG,aU⟩=>?_) cH rfl
 .refine⟨v,d,aH,rfl,aP,aG,?_⟩;refine bY (nc k λc=>?_) (λd' q p9 cf aW b5 aZ=>q p9 cf aW (aP.trans b5) (aZ.old aP.h)) λ_ q=>q
  intro z;cases hd:Den.ez d with
  |ok ds=>rw[hd]at z;have z:Den.eZ ds=.exc c:=z;unfold Den.eZ at z;split at z<;>cases z
  |exc c2=>cases d<;>cases hd
  |bad=>rw[hd]at z;cases z
 .obtain⟨v,d,aH,aj,aP,bS,gs⟩:=aU;subst aj;obtain⟨u,rfl,a7⟩:=vals1 aG;refine bF (XN ag bw a3 aP.sub bS a7 gs) λw s2 J=>?_
  exact aa4 J
end
section
variable{xp:cu}{X:aQ}{mu:List Nat}{m:eB}{f bg cj:aY->bx D}{a b e dx:Expr}{pos p bL df gN:Pos}{pins:List (Addr×Obj)}{σ:dm}{G H:aw}{s:Shared}{x:Str}
def XA (lo : Int) : ∀ {n : Nat} {l : List Value}, l.length = n -> (∀ (i : Nat) v, l[i]? = some v -> ∃ t, v = .int (lo + i * 1) t) -> Vals ((List.range n).map fun (k : Nat) => V.int (lo + (k : Nat))) l := by
  intro n l aA h
  subst aA
  induction l generalizing lo with
  | nil => exact .nil
  | cons v l aE =>
    rw [List.length_cons, abz, List.map_cons, List.map_map]
    refine .cons ?_ ?_
    · obtain ⟨t, e⟩ := h 0 v rfl
      exact ⟨t, by rw [e]; simp⟩
    · have := aE (lo + 1) fun i w hw => by
        obtain ⟨t, e⟩ := h (i + 1) w (by simpa using hw)
        exact ⟨t, by rw [e]; congr 1; push_cast; omega⟩
      have ak : ((fun (k : Nat) => V.int (lo + (k : Nat))) ∘ Nat.succ) = fun (k : Nat) => V.int (lo + 1 + (k : Nat)) := by
        funext k; simp only [Function.comp]; congr 1; push_cast; omega
      rw [ak]; exact this
theorem GN{K:W.Frag}(lo:Int):∀(l:List Nat),bD K G (l.map λ(k:Nat)=>Den.D.int (lo+(k:Nat))) (l.map λ(k:Nat)=>V.int (lo+(k:Nat)))
 |[]=>rfl
 |k::l=>⟨_,_,rfl,rfl,GN lo l⟩
def IW{R:Value->Shared->Prop}(a4:eU X "range")(hm:X.aX "range"=none)(aB:aM X a (bj xp X mu .view bg))(cH:starEach [a] X.env=[(false,eval a X.env)])(I:Inv X pins σ H s){ρ:aY}(aa:eD X.K mu G H ρ σ){Q:List D->Prop}(hw:cz (bg ρ>>=λd=>Den.gD d>>=λi=>Den.i0 0 i) Q (λc=>e2 xp X c H))(k:∀(s1:Shared)(aH H1:aw)(n:Int)(r:Addr)(t u v:Tok)(h':Heap)(tk:Nat),Inv X pins σ H1 s1->Ext G H aH H1->Q (Den.e4 0 n)->(-(2 ^ 62)<=n/\n<2 ^ 62/\(Den.e4 0 n).length<=16777216)->Inv X pins σ H1 { s1 with heap:=h',toks:=tk }->IsRange h' r 0 n 1 t u v->R (.ref r) { s1 with heap:=h',toks:=tk }):
  wpAny (model X.prog X.w) X.A (eval (.Call (.Name "range" p) [a] [] pos) X.env) R X.cA s:=by
 refine Call_ (kA I a4 hm boot_range (ZN (bF (lQ aB cH pos pins s σ H (λae H1=>∃n aH,ae=[.int n]/\Ext G H aH H1/\Q (Den.e4 0 n)/\(-(2 ^ 62)<=n/\n<2 ^ 62/\(Den.e4 0 n).length<=16777216)) I
  ⟨G,ρ,aa,bY (br.mp hw) (λd q v aH H1 aP aG=>?_) λ_ q=>q⟩) λus s1 ⟨ae,H1,a3,aG,n,aH,aj,aP,aL,ab⟩=>?_) cH rfl))
 .have q:=br.mp q;cases d with
  |int i =>
   obtain⟨⟨_,_,b1,b2⟩,hz,q⟩:=Av q;exact⟨i,aH,by rw[cy.pK aG],aP,q,b1,b2,hz⟩
  |_=>exact q.elim
 .subst aj;obtain⟨u,rfl,cF⟩:=vals1 aG;obtain⟨t,rfl⟩:=cF;refine call_range_1 ?_;exact k s1 aH H1 n _ _ _ _ _ _ a3 aP aL ab (a3.kept λb o e=>YZ _ e) (IsRange.new ..)
def GS(n:Int):Builtin.Range.rangeSize 0 n 1=((Den.e4 0 n).length:Int):=by
 unfold Den.e4;rw[List.length_map,List.length_range,rangeSize_one]
 split<;>omega
def TZ(n:Int):(Den.e4 0 n).length=n.toNat:=by unfold Den.e4;rw[List.length_map,List.length_range];congr 1;omega
def GU{acc:Array Value}{n:Int}(h:ItemsOf (λi v=>∃t,v=.int (0+i*1) t) acc (Den.e4 0 n).length):∃xs,bD X.K G (Den.e4 0 n) xs/\Vals xs acc.toList:=by
 have aA:acc.toList.length=n.toNat:=by rw[Array.length_toList,h.1,TZ]
 have v:=XA 0 aA λi v aN=>h.2 i v (by simpa using aN)
 have e:Den.e4 0 n=(List.range n.toNat).map λ(k:Nat)=>Den.D.int (0+(k:Nat)):=by
  unfold Den.e4;rw[acI]
 exact⟨_,by rw[e];exact GN 0 _,v⟩
def Vn{y:Str}(ag:X.calm=true)(ao:x="range")(aV:y="tuple")(rp:eU X x)(ru:X.aX x=none)(rq:eU X y)(rv:X.aX y=none)(aB:aM X a (bj xp X mu .view bg))(cH:starEach [a] X.env=[(false,eval a X.env)]):
  aM X (.Call (.Name y bL) [.Call (.Name x p) [a] [] pos] [] df) (bj xp X mu .val λρ=>(bg ρ>>=λd=>Den.gD d>>=λi=>Den.i0 0 i)>>=λds=>.ok (.tup ds)):=by
 subst ao aV;intro pins s σ H Q I ⟨G,ρ,aa,hw⟩;refine aal (kA I rq rv (u:=.type "tuple") (by kernel_rfl) ?_);refine ZN ?_ rfl rfl;show wpAny _ _ (spliced ((false,eval (.Call (.Name "range" p) [a] [] pos) X.env)::[])) _ _ s;refine aaz ?_;refine IW rp ru aB cH I aa (br.mp hw) λs1 aH H1 n r t u v h' tk a3 aP aL ab cx a9=>aa4 ?_
 have dc:X.A.handled=none:=cx.ok.hd ag;have aD:=GS n;have meets:Meets (Builtin.«tuple.__new__» ⟨[.type "tuple",.ref r],[]⟩) (λA R s'=>A.handled=none/\IsRange s'.heap r 0 n 1 t u v /\
   ∀(s2:Shared)(acc:Array Value),Pv.sY s' s2->ItemsOf (λi v=>∃t,v=.int (0+i*1) t) acc (Den.e4 0 n).length->R (.ok (.ret (.ref s2.heap.objs.size))) { s2 with heap:=s2.heap.push { cls:=.type "tuple",data:=.seq acc } }) :=
  .of_wp λprog w A R s' h=>by
   obtain⟨C,J,aC⟩:=h;have gr:=sub_tuple_self;have Ym:=init_tuple_lookup;have Ys:=madeHere_tuple;have c5:s'.TypeIs (.ref r) "range":=⟨_,J,rfl⟩;have aT:A.in1.handled=none:=C
   wp_walk using aaT c5,Pv.KU (A:=A.in1) aT J (small_one (by omega) (by omega) ab.1 ab.2.1) aD ab.2.2
   intro s2 acc g iw;have e:acc.toList.toArray=acc:=(by simp);refine YW (m:=Builtin.Tuple.tupleExact acc.toList.toArray) (Zy (YY ⟨_,rfl,?_⟩) (show acc.toList.toArray.size<=sizeLine by rw[e,iw.1,sizeLine_eq];exact ab.2.2));rw[e];exact aC s2 acc g iw
 refine callType_new F.called_tuple (by decide) (F.typeCall_tuple_1 _) (F.newCall_tuple_1 _) (λobj=>F.args_object_init_2 obj _) F.entry_tuple_new meets ⟨dc,a9,λs2 acc g iw=>⟨⟨_,Y7 _ rfl,rfl⟩,?_⟩⟩;obtain⟨xs,a8,aR⟩:=GU (X:=X) (G:=aH) iw;have eg:=Inv.grown cx g;have e:acc=acc.toList.toArray:=by simp
 rw[e];exact FN eg aP.sub aR a8 (by rw[aR.length,Array.length_toList,iw.1,sizeLine_eq];exact ab.2.2) λv aI aq b5 aZ=>aL v aI aq (aP.trans b5) aZ
def U5{y:Str}(ag:X.calm=true)(ao:x="range")(aV:y="list")(rp:eU X x)(ru:X.aX x=none)(rq:eU X y)(rv:X.aX y=none)(aB:aM X a (bj xp X mu .view bg))(cH:starEach [a] X.env=[(false,eval a X.env)]):
  aM X (.Call (.Name y bL) [.Call (.Name x p) [a] [] pos] [] df) (bj xp X mu .fresh λρ=>(bg ρ>>=λd=>Den.gD d>>=λi=>Den.i0 0 i)>>=λds=>.ok (.lst ds)):=by
 subst ao aV;intro pins s σ H Q I ⟨G,ρ,aa,hw⟩;refine aal (kA I rq rv (u:=.type "list") (by kernel_rfl) ?_);refine ZN ?_ rfl rfl;show wpAny _ _ (spliced ((false,eval (.Call (.Name "range" p) [a] [] pos) X.env)::[])) _ _ s;refine aaz ?_;refine IW rp ru aB cH I aa (br.mp hw) λs1 aH H1 n r t u v h' tk a3 aP aL ab cx a9=>aa4 ?_
 have dc:X.A.handled=none:=cx.ok.hd ag;have aD:=GS n;refine call_list_range dc a9 (small_one (by omega) (by omega) ab.1 ab.2.1) aD ab.2.2 λJ Xc acc c ax a4 iw=>?_
 obtain⟨xs,a8,aR⟩:=GU (X:=X) (G:=aH) iw;have e:acc=acc.toList.toArray:=by simp
 rw[e]at a4;refine⟨.ref h'.objs.size,_,cx.laid (t':=Xc) (o:=.lst xs) ax (Y2 _) ⟨by rw[aR.length,Array.length_toList,iw.1,sizeLine_eq];exact ab.2.2,acc.toList,c,aR,a4⟩,rfl,?_⟩;have fr:H1 h'.objs.size=none:=cx.fresh;exact aL _ aH _ (aP.trans (Ext.own aP.sub fr λ_ z=>nomatch z)) ⟨_,xs,rfl,dF,aP.h.free fr,aP.sub.free fr,a8⟩
end
section
variable{X:aQ}{pins:List (Addr×Obj)}{σ:dm}{G H:aw}{s:Shared}{h':Heap}
end
def Bk:∀x y:Nat,(x ^^^ y)+2*(x &&& y)=x+y:=by
 intro x
 induction x using Nat.strongRecOn with
 |ind x aE =>
  intro y
  by_cases h:x=0
  .subst h;simp
  .have C:=aE (x / 2) (by omega) (y / 2);have aj:(x ^^^ y) / 2=x / 2 ^^^ y / 2:=acz;have ak:(x &&& y) / 2=x / 2 &&& y / 2:=abV;have bu:(x ^^^ y)%2=(x%2+y%2)%2:=by
    have:=@abu x y;rcases Y6 x with a|a<;>rcases Y6 y with b|b<;>rcases Y6 (x ^^^ y) with c|c<;>simp[a,b,c]at this ⊢
   have eR:(x &&& y)%2=(x%2)*(y%2):=by
    have:=@aaV x y;rcases Y6 x with a|a<;>rcases Y6 y with b|b<;>rcases Y6 (x &&& y) with c|c<;>simp[a,b,c]at this ⊢
   rw[<- aj,<- ak]at C;revert C bu eR;generalize x ^^^ y=p;generalize x &&& y=q;intro C bu eR;rcases Y6 x with a|a<;>rcases Y6 y with b|b<;>rw[a,b]at bu eR<;>omega
def BG{i j:Int}(ai:0<=i)(aJ:0<=j):Builtin.bitAnd i j=((i.toNat &&& j.toNat:Nat):Int):=by
 unfold Builtin.bitAnd;rw[decide_eq_true ai,decide_eq_true aJ]
def Jv{i j:Int}(ai:0<=i)(aJ:¬0<=j):Builtin.bitAnd i j=i-((i.toNat &&& (-j-1).toNat:Nat):Int):=by
 unfold Builtin.bitAnd;rw[decide_eq_true ai,decide_eq_false aJ];rfl
def XT{i j:Int}(ai:0<=i)(aJ:0<=j):Builtin.bitXor i j=((i.toNat ^^^ j.toNat:Nat):Int):=by
 rw[bitXor_and,BG ai aJ];have:=Bk i.toNat j.toNat;omega
section
variable{xp:cu}{X:aQ}{mu:List Nat}{m:eB}{f bg cj cD:aY->bx D}{a b c e:Expr}{pos:Pos}{pins:List (Addr×Obj)}{σ:dm}{G H:aw}{s:Shared}
def LO:dk X (binaryOp .BitAnd) (lS X.K (Den.ep .and)):=by
 intro pins s σ H x y v u Q I a7 bO ⟨G,bf,cV,aa,bS,d9,hw⟩;cases bf<;>cases cV<;>first|exact hw.elim|skip
 rename_i i j;have hw:cz (Den.ny i j) _ _:=hw;unfold Den.ny at hw
 by_cases h:0<=i
 .rw[if_pos h]at hw
  by_cases J:0<=j
  .rw[if_pos J]at hw;exact F4 pins s σ H x y v u Q I a7 bO ⟨_,_,bS,d9,by dsimp only;rw[BG h J];exact mE aa hw rfl⟩
  .rw[if_neg J]at hw;exact F4 pins s σ H x y v u Q I a7 bO ⟨_,_,bS,d9,by dsimp only;rw[Jv h J];exact mE aa hw rfl⟩
 .rw[if_neg h]at hw;exact hw.elim
def LX:dk X (binaryOp .BitXor) (lS X.K (Den.ep .xor)):=by
 intro pins s σ H x y v u Q I a7 bO ⟨G,bf,cV,aa,bS,d9,hw⟩;cases bf<;>cases cV<;>first|exact hw.elim|skip
 rename_i i j;have hw:cz (Den.sP i j) _ _:=hw;unfold Den.sP at hw
 by_cases h:0<=i/\0<=j
 .rw[if_pos h]at hw;exact Si pins s σ H x y v u Q I a7 bO ⟨_,_,bS,d9,by dsimp only;rw[XT h.1 h.2];exact mE aa hw rfl⟩
 .rw[if_neg h]at hw;exact hw.elim
def Ha(ag:eh X c (fx xp X mu cD))(aB:aM X a (bj xp X mu m bg))(ab:aM X b (bj xp X mu m cj)):aM X (.IfExp c a b pos) (bj xp X mu m λρ=>cD ρ>>=λx=>Den.eE x>>=λk=>if k then bg ρ else cj ρ):=by
 intro pins s σ H Q I ⟨G,ρ,aa,hw⟩;refine SF ag aB ab pins s σ H Q I ?_;refine⟨G,ρ,aa,br.mpr (bY (br.mp hw) (λd k=>bY (br.mp k) (λdd q aH H1 aP=>?_) λ_ q=>q) λ_ q=>q)⟩;cases dd with
 |true=>simp only[ZH]at q ⊢;exact⟨aH,ρ,aa.ext aP,bY q (λd dU v cf aW b5 aZ=>dU v cf aW (aP.trans b5) (aZ.old aP.h)) λ_ z=>z.mono aP.h⟩
 |false=>simp only[Y1,Zk]at q ⊢;exact⟨aH,ρ,aa.ext aP,bY q (λd dU v cf aW b5 aZ=>dU v cf aW (aP.trans b5) (aZ.old aP.h)) λ_ z=>z.mono aP.h⟩
def U2(ag:eh X c (fx xp X mu cD))(aB:eh X a (fx xp X mu bg))(ab:eh X b (fx xp X mu cj)):eh X (.IfExp c a b pos) (fx xp X mu λρ=>cD ρ>>=λx=>Den.eE x>>=λk=>if k then bg ρ else cj ρ):=by
 intro pins s σ H Q I ⟨G,ρ,aa,hw⟩;refine PyProof.Rows.isTrue_IfExp (bF (ag pins s σ H (λdd H1=>∃aH,Ext G H aH H1/\cz ((if dd then bg ρ else cj ρ)>>=Den.eE) (λb=>∀aI aq,Ext G H aI aq->Q b aq) (λc=>e2 xp X c H)) I ⟨G,ρ,aa,?_⟩) λd s1 ⟨H1,a3,aH,aP,aU⟩=>?_)
 .refine br.mpr (bY (br.mp (br.mp hw)) (λd k=>bY (br.mp k) (λdd q aH H1 aP=>⟨aH,aP,br.mpr q⟩) λ_ q=>q) λ_ q=>q)
 .have go:∀{g:aY->bx D}{e:Expr},eh X e (fx xp X mu g)->cz (g ρ>>=Den.eE) (λb=>∀aI aq,Ext G H aI aq->Q b aq) (λc=>e2 xp X c H)->wpAny (model X.prog X.w) X.A (isTrue e X.env (eval e X.env)) (tb X pins σ Q) X.cA s1:=λ{g e} h q =>
   h pins s1 σ H1 Q a3 ⟨aH,ρ,aa.ext aP,bY q (λb dU cf aW b5=>dU cf aW (aP.trans b5)) λ_ z=>z.mono aP.h⟩
  cases d with
  |true=>exact go aB aU
  |false=>exact go ab aU
theorem pv:∀{ds:List D}{k:List Int},Den.intsOf ds=some k->ds=k.map .int
 |[],_,h=>by cases h;rfl
 |.int i::ds,k,h=>by
  cases q:Den.intsOf ds with
  |none=>simp[Den.intsOf,q]at h
  |some dd =>
   simp only[Den.intsOf,q,Option.map_some,ZP]at h;subst h;rw[pv q];rfl
 |.dp::_,_,h=>by cases h
 |.aO _::_,_,h=>by cases h
 |.str _::_,_,h=>by cases h
 |.tup _::_,_,h=>by cases h
 |.lst _::_,_,h=>by cases h
 |.b7 _::_,_,h=>by cases h
 |.bE _::_,_,h=>by cases h
 |.cG _::_,_,h=>by cases h
 |.fs _::_,_,h=>by cases h
def ints_list(I:Inv X pins σ H s){K:W.Frag}(aa:bQ G H){ns:List Int}{z:V}{u:Value}(bS:View X.K G H (.lst (ns.map .int)) z)(a7:RelV z u):∃(a:Addr)(xs:Array (Int×Tok)),u=.ref a/\s.heap.IsList a (intItems xs)/\xs.toList.map (·.1)=ns:=by
 obtain⟨a,ys,rfl,aL,rs⟩:=bS;cases a7;rw[js rs]at aL;obtain⟨its,bR,cE,hz⟩:=I.list aL;have ai:IntsAre its ns:=intsAre_of bR;obtain⟨xs,ex⟩:=ai.allInts.items;refine⟨a,xs,rfl,by rw[<- ex];exact cE.isList,?_⟩;rw[<- nums_intItems,<- ex];exact ai.numsOf
def NG(ag:X.calm=true):hB X (.builtin "sum") (kL X.K m λd=>Den.pC d>>=λxs=>Den.kS xs):=by
 intro pins s σ H xs us Q I r ⟨G,z,d,ex,aa,bS,hw⟩;subst ex;obtain⟨u,rfl,a7⟩:=vals1 r;cases d with
 |lst ds =>
  have jg:cz (Den.kS ds) _ _:=hw;clear hw;unfold Den.kS at jg;cases q:Den.intsOf ds with
  |none=>rw[q]at jg;exact jg.elim
  |some ns =>
   rw[q]at jg;cases pv q;obtain⟨a,xs,rfl,aA,lp⟩:=ints_list (K:=X.K) I aa bS a7;refine sum_intListG (I.ok.hd ag) aA λh' tk t' ax=>?_
   refine⟨.int ns.sum,H,I.kept ax,⟨t',?_⟩,jg _ G H (Ext.refl aa) cy.int⟩;rw[preSum_eq,aat (by simp),lp]
 |_=>exact hw.elim
theorem BK(g:Nat->Int):∀k,g (argBest (λi j=>decide (g i>g j)) k)=((List.range k).map λi=>g (i+1)).foldl (λm x=>if x>m then x else m) (g 0)
 |0=>rfl
 |k+1=>by
  rw[List.range_succ,List.map_append,List.foldl_append,<- BK g k];show g (if decide (g (k+1)>g (argBest (λi j=>decide (g i>g j)) k))=true then k+1 else argBest (λi j=>decide (g i>g j)) k)=_;simp only[List.map_cons,aaU,List.foldl_cons,List.foldl_nil]
  by_cases h:g (k+1)>g (argBest (λi j=>decide (g i>g j)) k)
  .rw[if_pos (decide_eq_true h),if_pos h]
  .rw[if_neg (by simpa using h),if_neg h]
def RW(xs:Array (Int×Tok))(n:Int)(ns:List Int)(h:xs.toList.map (·.1)=n::ns):numAt xs 0=n/\(List.range (xs.size-1)).map (λi=>numAt xs (i+1))=ns:=by
 have a4:∀i,numAt xs i=((n::ns)[i]?).getD 0:=λi=>by
  unfold numAt;rw[<- h,Ze,Zz]
 have hz:xs.size=ns.length+1:=by
  have:=Z8 List.length h;simpa using this
 refine⟨by rw[a4];rfl,?_⟩;rw[hz,Nat.add_sub_cancel];apply aao;intro i;rw[Ze]
 by_cases ai:i<ns.length
 .rw[aaO ai,Option.map_some,a4,List.getElem?_cons_succ,Y3 ai];rfl
 .rw[Zq (by simpa using ai),Zq (by simpa using ai)];rfl
def NB(ag:X.calm=true):hB X (.builtin "max") (kL X.K m λd=>Den.pC d>>=λxs=>Den.kF xs):=by
 intro pins s σ H xs us Q I r ⟨G,z,d,ex,aa,bS,hw⟩;subst ex;obtain⟨u,rfl,a7⟩:=vals1 r;cases d with
 |lst ds =>
  have jg:cz (Den.kF ds) _ _:=hw;clear hw;unfold Den.kF at jg;cases q:Den.intsOf ds with
  |none=>rw[q]at jg;exact jg.elim
  |some ns =>
   rw[q]at jg;cases ns with
   |nil=>exact jg.elim
   |cons n ns =>
    cases pv q;obtain⟨a,xs,rfl,aA,lp⟩:=ints_list (K:=X.K) I aa bS a7;obtain⟨dO,aj⟩:=RW xs n ns lp;have hz:0<xs.size:=by
     have:=Z8 List.length lp;simp at this;omega
    refine max_intList (I.ok.hd ag) aA hz λv h' tk aN ax=>?_
    obtain⟨t,rfl⟩:=intItems_at aN;refine⟨.int (ns.foldl (λm x=>if x>m then x else m) n),H,I.kept ax,⟨t,?_⟩,jg _ G H (Ext.refl aa) cy.int⟩;rw[BK (numAt xs),dO,aj]
 |_=>exact hw.elim
end
section
variable{xp:cu}{X:aQ}{mu:List Nat}{m:eB}{f:aY->bx D}{e dx iter:Expr}{pos bb gN ap dZ:Pos}{i:Nat}{x n:Str}{sG:List Stmt}
def Cg{o:Option (Option D)}{Q:Unit->Prop}{E:Nat->Prop}(h:cz (Den.mr o) Q E):∃ds,o=some (some (.lst ds))/\Q ():=by
 cases o with
 |none=>exact h.elim
 |some o =>
  cases o with
  |none=>exact h.elim
  |some d =>
   cases d with
   |lst ds=>exact⟨ds,rfl,h⟩
   |_=>exact h.elim
def yW(cH:starEach [e] X.env=[(false,eval e X.env)]):((backTo dZ (starEach [e] X.env)).all (λx=>!x.1)&&(backToKw dZ (keywordEach [] X.env)).all (λx=>x.1.isSome)&&decide ([e].length+([]:List Keyword).length+(if ([]:List Keyword).isEmpty then 0 else 1)<30))=true:=by
 rw[cH];rfl
def UA(hm:i∈mu)(aD:n="append")(aK:X.N[i]?=some x)(aN:fA X.env.scope x)(C:(x==("__debug__":Str))=false)(J:(x==("__classdict__":Str))=false)(iU:(ap.endLine==dZ.line)=true)(he:aM X e (bj xp X mu .val f))(cH:starEach [e] X.env=[(false,eval e X.env)]):
  dY X (.Expr (.Call (.Attribute (.Name x bb) n ap) [e] [] dZ) gN) (dJ xp X mu λρ=>Den.mr ρ[i]?>>=λ_=>f ρ>>=λd=>Den.qA ρ[i]? d>>=λy=>.ok (.bJ (ρ.set i (some y)))):=by
 subst aD;intro pins s σ H T I ⟨bZ,bl,G,ρ,ab,hw⟩;refine Ah (z7 aaR PySem.F.slot_list_append PySem.F.type_list_append FC (gO aK aN C J) (lQ he cH) rfl (yW cH) iU cH rfl) rfl pins s σ H T I ?_;obtain⟨ds,q,hw⟩:=Cg (br.mp hw);obtain⟨a,o,a8,aR,bz,xs,rfl,cw⟩:=ab.cq.lst i (.lst ds) q hm rfl;refine⟨_,a8,.inl ⟨rfl,xs,eo.of aR⟩,?_⟩;refine⟨G,ρ,ab.cq,bY (br.mp hw) (λd k v aH H1 aP aG=>?_) λ_ z=>z.mono ab.ext.h⟩;have hN:=ab.step aP;rw[q,Den.td]at k;have k:=br.mp k
 by_cases hz:ds.length<Den.SZ
 .rw[if_pos hz]at k;have ri:H1 a=some (.lst xs):=aP.h _ _ aR;have rh:aH a=none:=aP.new a bz (by rw[aR];exact λz=>nomatch z);refine⟨a,xs,v,rfl,rfl,ri,by rw[<- cw.length,<- qt];exact hz,?_⟩;exact k σ aH _ (hN.write (d:=.lst ds) (e:=.lst (ds++[d])) hm q rfl rfl a8 rh ⟨_,rfl,(cw.mono aP.g).snoc aG⟩)
 .rw[if_neg hz]at k;exact k.elim
noncomputable def jh(aH bl:aw):aw:=λa=>match aH a with
 |some o=>some o
 |none=>bl a
def rQ{aH bl:aw}{a:Addr}{o:dX}(h:aH a=some o):jh aH bl a=some o:=by unfold jh;rw[h]
def mO{aH bl:aw}{a:Addr}(h:aH a=none):jh aH bl a=bl a:=by unfold jh;rw[h]
variable{K:W.Frag}{bZ bl aH H1 G H:aw}{ρ:aY}{σ:dm}
def Hi(x:Ext bZ bl aH H1):bQ bl (jh aH bl):=λa o h=>by
 cases q:aH a with
 |none=>rw[mO q];exact h
 |some bG =>
  rw[rQ q];have aj:=x.sub a bG q;have ak:=x.h a o h;rw[aj]at ak;exact ak
def Nl(x:Ext bZ bl aH H1)(y:Ext bZ bl G H)(s:bQ aH G):Ext aH (jh aH bl) G H where
 g:=s
 h:=λa o e=>by
  cases q:aH a with
  |some bG=>rw[rQ q]at e;cases e;exact y.sub a o (s a o q)
  |none=>rw[mO q]at e;exact y.h a o e
 sub:=y.sub
 new:=λa aj ak=>by
  rw[mO aj]at ak;refine y.new a ?_ ak;cases q:bZ a with
  |none=>rfl
  |some o=>rw[x.g a o q]at aj;cases aj
 dK:=λb xs z=>(y.dK b xs z).elim (λw=>.inl (by
  cases q:aH b with
  |none=>rw[mO q];exact w
  |some o=>rw[rQ q];rw[y.sub b o (s b o q)]at z;exact z)) .inr
def Dh(x:Ext bZ bl aH H1)(y:Ext aH (jh aH bl) G H):Ext bZ bl G H where
 g:=x.g.trans y.g
 h:=(Hi x).trans y.h
 sub:=y.sub
 new:=λa aj ak=>by
  have q:=x.new a aj ak;exact y.new a q (by rw[mO q];exact ak)
 dK:=λb xs z=>(y.dK b xs z).elim (λw=>by
  cases q:aH b with
  |none=>rw[mO q]at w;exact .inl w
  |some o=>rw[rQ q]at w;exact .inr (y.g _ _ (q.trans w))) .inr
def d6.re(x:Ext bZ bl aH H1)(h:d6 K mu bZ bl G H ρ σ)(s:bQ aH G):d6 K mu aH (jh aH bl) G H ρ σ:=by
 refine⟨h.cq,Nl x h.ext s,λi ds a q ft ai e=>?_⟩;obtain⟨b,xs,a8,aR,bz,cw⟩:=h.cq.lst i ds q ai ft;rw[a8]at e;cases e;have:aH a=none:=by
  cases z:aH a with
  |none=>rfl
  |some o=>rw[s a o z]at bz;cases bz
 rw[mO this];exact h.own i ds a q ft ai a8
def d6.back(x:Ext bZ bl aH H1)(h:d6 K mu aH (jh aH bl) G H ρ σ):d6 K mu bZ bl G H ρ σ:=by
 refine⟨h.cq,Dh x h.ext,λi ds a q ft ai e=>?_⟩;have:=h.own i ds a q ft ai e;cases z:aH a with
 |some o=>rw[rQ z]at this;cases this
 |none=>rw[mO z]at this;exact this
theorem d6.Hn:∀{ts:List Nat}{ws:List D}{ae:List V}{ρ:aY}{σ:dm},(∀t∈ts,t∉mu)->d6 K mu bZ bl G H ρ σ->bD K G ws ae->d6 K mu bZ bl G H (Den.lT ts (ws.map some) ρ) (m6 ts ae σ)
 |[],ws,ae,ρ,σ,_,h,r=>by simpa[Den.lT,m6] using h
 |t::ts,[],ae,ρ,σ,_,h,r=>by cases r;simpa[Den.lT,m6] using h
 |t::ts,w::ws,ae,ρ,σ,ay,h,⟨v,r,e,aG,aZ⟩=>by
  subst e;exact d6.Hn (ts:=ts) (λz hz=>ay z (List.mem_cons_of_mem _ hz)) (h.sy (ay t List.mem_cons_self) aG) aZ
def NW(g:D->aY->bx Den.eA)(d:D)(ds:List D)(ρ:aY):Den.forL g (d::ds) ρ=g d ρ>>=λr=>match r with
  |.bJ bC=>Den.forL g ds bC
  |.dE x=>.ok (.dE x):=rfl
def UU{k:Nat}{ts:List Nat}{jK:aY->bx (List D)}{tW:aY->bx Den.eA}(az:PassesOwn (model X.prog X.w) X.A X.env X.cA)(ag:X.calm=true)(PN:∀t∈ts,t∉mu)(ai:hG X dx iter (jY xp X mu .val jK))(a4:mc X dx (yt X.K k ts))(ab:gV X sG (dJ xp X mu tW))(aa:∀z,foldedSetIterable iter X.env z=pure z):dY X (.For dx iter sG [] pos) (dJ xp X mu λρ=>jK ρ>>=λds=>Den.forL (λd bC=>Den.gp k d>>=λae=>tW (Den.lT ts ae bC)) ds ρ):=by
 intro pins s σ H T I ⟨bZ,bl,G,ρ,ix,hw⟩;refine Tu az ag ai a4 ab aa pins s σ H T I ?_;refine⟨G,ρ,ix.cq,bY (br.mp hw) (λds h7 dB aH H1 aP lJ hz=>?_) λ_ q=>q.mono ix.ext.h⟩;have v7:Ext bZ bl aH H1:=ix.ext.trans aP;have VJ:=Hi v7;refine⟨λj m c7 aq=>j+m=ds.length/\∃aI bC,d6 X.K mu aH (jh aH bl) aI aq bC c7/\cz (Den.forL (λd bC=>Den.gp k d>>=λae=>tW (Den.lT ts ae bC)) (ds.drop j) bC) (iu X.K mu bZ bl T) (λc=>e2 xp X c bl),
  ⟨ds.length,by omega,aH,ρ,d6.re v7 (ix.step aP) (bQ.refl _),by simpa using h7⟩,?_⟩
 rintro j m c7 aq ⟨aJ,aI,bC,dV,gs⟩;have nV:qs .val aH H1 aI aq:=⟨dV.ext.g,dV.cq.sub⟩
 by_cases bV:j<ds.length
 .refine .inr ⟨lJ.go j aI aq nV bV,λng aW=>(j+1)+(m-1)=ds.length/\∃cf j0,d6 X.K mu aH (jh aH bl) cf aW j0 ng/\cz (Den.forL (λd bC=>Den.gp k d>>=λae=>tW (Den.lT ts ae bC)) (ds.drop (j+1)) j0) (iu X.K mu bZ bl T) (λc=>e2 xp X c bl),
   λng aW J=>⟨m-1,by omega,J⟩,λv aW aV=>?_⟩
  have hd:ds[j]?=some ds[j]:=Y3 bV;obtain⟨cf,b5,dD⟩:=lJ.k0 j aI aq v aW ds[j] nV dV.cq.sub hd aV;have AA:=dV.step b5;have Mj:ds.drop j=ds[j]::ds.drop (j+1):=aaD bV;rw[Mj,NW]at gs;have gs:=br.mp (br.mp gs);refine⟨cf,ds[j],b5.sub,dD,?_⟩;cases q:Den.gp k ds[j] with
  |bad=>rw[q]at gs;exact gs
  |exc c =>
   exfalso;cases k with
   |zero=>cases q
   |succ k =>
    cases f9:ds[j] with
    |tup zs =>
     rw[f9]at q;have OC:Den.gp (k+1) (.tup zs)=if zs.length=k+1 then .ok (zs.map some) else .bad:=rfl;rw[OC]at q
     split at q<;>cases q
    |_=>rw[f9]at q;cases q
  |ok os =>
   rw[q]at gs;intro ws ae x8 Uv;subst x8;refine⟨aH,jh aH bl,cf,_,d6.Hn PN AA Uv,bY gs (λr ET=>?_) λc z=>z.mono VJ⟩;cases r with
   |bJ j0=>exact λjx j6 bP Vq=>⟨by omega,j6,j0,Vq,ET⟩
   |dE d=>exact λvQ j6 bP jw ee=>ET vQ j6 bP (Dh v7 jw) ee
 .have lj:j=ds.length:=(by omega);subst lj;refine .inl ⟨lJ.stop aI aq nV,?_⟩;rw[List.drop_length]at gs;exact gs c7 aI aq (d6.back v7 dV)
end
def pn(a k:List Int):decide (a.map (Sum.inl (β:=Str))=k.map Sum.inl)=decide (a=k):=by
 by_cases h:a=k
 .simp[h]
 .have:a.map (Sum.inl (β:=Str))≠k.map Sum.inl:=λz=>h ((List.map_inj_right (λa b=>ab7)).mp z)
  simp[h,this]
def L6(af:List (List Int×Int))(k:List Int):hc (hl af) (k.map Sum.inl)=(Den.oH af k).map V.int:=by
 induction af with
 |nil=>rfl
 |cons p af aE =>
  unfold hc Den.oH hl at aE ⊢;rw[List.map_cons,List.find?_cons,List.find?_cons];dsimp only;rw[pn]
  by_cases h:p.1=k
  .simp[h]
  .simp only[decide_eq_false h];exact aE
def L5(af:List (List Int×Int))(k:List Int)(n:Int):putK (hl af) (k.map Sum.inl) (V.int n)=hl (Den.putN af k n):=by
 have aj:((hl af).any λcJ=>decide (cJ.1=k.map Sum.inl))=af.any λp=>decide (p.1=k):=by
  induction af with
  |nil=>rfl
  |cons p af aE=>unfold hl at aE ⊢;rw[List.map_cons,List.any_cons,List.any_cons,aE,pn]
 have ak:(hl af).map (λcJ=>if cJ.1=k.map Sum.inl then(cJ.1,V.int n) else cJ)=hl (af.map λp=>if p.1=k then(p.1,n) else p):=by
  unfold hl;rw[List.map_map,List.map_map];refine Zw λp _=>?_
  have:=pn p.1 k
  by_cases h:p.1=k
  .simp[h]
  .have h':¬p.1.map (Sum.inl (β:=Str))=k.map Sum.inl:=(by simpa[h] using this);simp[h,h']
 unfold putK Den.putN;rw[aj]
 split
 .exact ak
 .unfold hl;rw[List.map_append];rfl
def zA(k:List Int):(k.map (Sum.inl (β:=Str))).map de=k.map V.int:=by rw[List.map_map];rfl
def qN{o:Option (Option D)}{af:List (List Int×Int)}(h:Den.kd o=some af):o=some (some (.b7 af)):=by
 unfold Den.kd at h
 split at h
 .cases h;rfl
 .cases h
def tw{o:Option (Option D)}{af:List (Int×Int×Int)}(h:Den.ja o=some af):o=some (some (.bE af)):=by
 unfold Den.ja at h
 split at h
 .cases h;rfl
 .cases h
def jD{α:Type}{f:D->Option α}{o:Option (Option D)}{a:α}(h:Den.eQ f o=some a):∃d,o=some (some d)/\f d=some a:=by
 unfold Den.eQ at h
 split at h
 .exact⟨_,rfl,h⟩
 .cases h
def rN{d:D}{i:Int}(h:Den.intD d=some i):d=.int i:=by
 unfold Den.intD at h
 split at h
 .cases h;rfl
 .cases h
def p6{d:D}{k:List Int}(h:Den.fZ d=some k):d=.tup (k.map .int):=by
 unfold Den.fZ at h
 split at h
 .rw[pv h]
 .cases h
def GW{d:D}{r:Int×Int}(h:Den.rowOf d=some r):d=Den.ow r:=by
 unfold Den.rowOf at h
 split at h
 .split at h
  .rename_i e;cases h;rw[pv e];rfl
  .cases h
 .cases h
def qM{o:Option (Option D)}{af:List (List Int×List (List Int))}(h:Den.kc o=some af):o=some (some (.cG af)):=by
 unfold Den.kc at h
 split at h
 .cases h;rfl
 .cases h
theorem Ij:∀{xs:List D}{ar:List (List Int)},Den.oG xs=some ar->xs=ar.map λk=>.tup (k.map .int)
 |[],ar,h=>by cases h;rfl
 |x::xs,ar,h=>by
  unfold Den.oG at h;cases aj:Den.fZ x with
  |none=>rw[aj]at h;cases h
  |some k =>
   cases ak:Den.oG xs with
   |none=>rw[aj,ak]at h;cases h
   |some cQ =>
    rw[aj,ak]at h;cases h;rw[p6 aj,Ij ak];rfl
def Kv{d:D}{cs:List (List Int)}(h:Den.oT d=some cs):d=Den.fQ cs:=by
 unfold Den.oT at h
 split at h
 .rw[Ij h];rfl
 .cases h
theorem ints_rep{K:W.Frag}{G:aw}:∀ns:List Int,bD K G (ns.map Den.D.int) (ns.map V.int)
 |[]=>rfl
 |n::ns=>⟨.int n,ns.map V.int,rfl,rfl,ints_rep ns⟩
theorem Cp{K:W.Frag}{G:aw}:∀{cs:List (List Int)}{xs:List V},bD K G (cs.map λc=>.tup (c.map .int)) xs->hV G cs xs
 |[],_,h=>h
 |c::cs,_,⟨v,r,e,⟨a,ys,ak,C,J⟩,aC⟩=>by subst e ak;rw[js J]at C;exact⟨a,r,rfl,C,Cp aC⟩
theorem xU{K:W.Frag}{G:aw}:∀{cs:List (List Int)}{xs:List V},hV G cs xs->bD K G (cs.map λc=>.tup (c.map .int)) xs
 |[],_,h=>h
 |c::cs,_,⟨b,r,e,C,J⟩=>⟨_,r,e,⟨b,_,rfl,C,ints_rep c⟩,xU J⟩
section
variable{G:aw}
theorem eO.val:∀{af:List (List Int×List (List Int))}{ys:List (List Key×V)},eO G af ys->∀k:List Int,(Den.hA af k=none/\hc ys (k.map Sum.inl)=none)\/∃cs b xs,Den.hA af k=some cs/\hc ys (k.map Sum.inl)=some (.ref b)/\G b=some (.tup xs)/\hV G cs xs
 |[],_,h,k=>by cases h;exact .inl ⟨rfl,rfl⟩
 |p::af,_,⟨b,xs,t,e,C,J,aC⟩,k=>by
  subst e;unfold Den.hA hc;rw[List.find?_cons,List.find?_cons];dsimp only;rw[pn]
  by_cases c:p.1=k
  .rw[decide_eq_true c];exact .inr ⟨p.2,b,xs,rfl,rfl,C,J⟩
  .rw[decide_eq_false c];exact eO.val aC k
theorem eO.any:∀{af:List (List Int×List (List Int))}{ys:List (List Key×V)},eO G af ys->∀k:List Int,(ys.any λcJ=>decide (cJ.1=k.map Sum.inl))=af.any λp=>decide (p.1=k)
 |[],_,h,k=>by cases h;rfl
 |p::af,_,⟨b,xs,t,e,C,J,aC⟩,k=>by
  subst e;rw[List.any_cons,List.any_cons,eO.any aC k,pn]
theorem eO.map{k:List Int}{cs:List (List Int)}{b:Addr}{xs:List V}(ab:G b=some (.tup xs))(ag:hV G cs xs):∀{af:List (List Int×List (List Int))}{ys:List (List Key×V)},eO G af ys->eO G (af.map λp=>if p.1=k then(p.1,cs) else p) (ys.map λcJ=>if cJ.1=k.map Sum.inl then(cJ.1,.ref b) else cJ)
 |[],_,h=>by cases h;rfl
 |p::af,_,⟨gn,sQ,t,e,C,J,aC⟩=>by
  subst e;rw[List.map_cons,List.map_cons];have hd:=pn p.1 k
  by_cases c:p.1=k
  .rw[if_pos c,if_pos (by rw[c])];exact⟨b,xs,_,rfl,ab,ag,eO.map ab ag aC⟩
  .rw[if_neg c,if_neg (by simpa[c] using hd)];exact⟨gn,sQ,_,rfl,C,J,eO.map ab ag aC⟩
theorem eO.snoc{q:List Int×List (List Int)}{b:Addr}{xs:List V}(ab:G b=some (.tup xs))(ag:hV G q.2 xs):∀{af:List (List Int×List (List Int))}{ys:List (List Key×V)},eO G af ys->eO G (af++[q]) (ys++[(q.1.map Sum.inl,.ref b)])
 |[],_,h=>by cases h;exact⟨b,xs,[],rfl,ab,ag,rfl⟩
 |p::af,_,⟨gn,sQ,t,e,C,J,aC⟩=>by subst e;exact⟨gn,sQ,_,rfl,C,J,eO.snoc ab ag aC⟩
def eO.put{af:List (List Int×List (List Int))}{ys:List (List Key×V)}(h:eO G af ys)(k:List Int){cs:List (List Int)}{b:Addr}{xs:List V}(ab:G b=some (.tup xs))(ag:hV G cs xs):eO G (Den.m4 af k cs) (putK ys (k.map Sum.inl) (.ref b)):=by
 unfold Den.m4 putK;rw[h.any k]
 split
 .exact h.map ab ag
 .exact h.snoc (q:=(k,cs)) ab ag
theorem eO.len:∀{af:List (List Int×List (List Int))}{ys:List (List Key×V)},eO G af ys->ys.length=af.length
 |[],_,h=>by cases h;rfl
 |p::af,_,⟨b,xs,t,e,C,J,aC⟩=>by subst e;rw[List.length_cons,List.length_cons,eO.len aC]
end
section
variable{G:aw}
theorem eP.val:∀{af:List (Int×Int×Int)}{ys:List (Key×V)},eP G af ys->∀{k:Int}{r:Int×Int},Den.m9 af k=some r->∃b,hc ys (Sum.inl k)=some (.ref b)/\G b=some (.tup [.int r.1,.int r.2])
 |[],_,_,k,r,e=>by cases e
 |p::af,_,⟨b,t,e,C,J⟩,k,r,q=>by
  subst e;unfold Den.m9 at q;unfold hc;rw[List.find?_cons]at q ⊢
  by_cases c:p.1=k
  .simp only[c,acb,Option.map_some,ZP]at q ⊢;subst q;exact⟨b,rfl,C⟩
  .have c2:¬(Sum.inl p.1:Key)=Sum.inl k:=λz=>c (ab7 z)
   simp only[c,c2,decide_false]at q ⊢;exact eP.val J q
theorem eP.any:∀{af:List (Int×Int×Int)}{ys:List (Key×V)},eP G af ys->∀k:Int,(ys.any λcJ=>decide (cJ.1=Sum.inl k))=af.any λp=>decide (p.1=k)
 |[],_,h,k=>by cases h;rfl
 |p::af,_,⟨b,t,e,C,J⟩,k=>by
  subst e;rw[List.any_cons,List.any_cons,eP.any J k];congr 1
  by_cases c:p.1=k
  .simp[c]
  .have c2:¬(Sum.inl p.1:Key)=Sum.inl k:=λz=>c (ab7 z)
   simp[c,c2]
theorem eP.map{k:Int}{r:Int×Int}{b:Addr}(ab:G b=some (.tup [.int r.1,.int r.2])):∀{af:List (Int×Int×Int)}{ys:List (Key×V)},eP G af ys->eP G (af.map λp=>if p.1=k then(p.1,r) else p) (ys.map λcJ=>if cJ.1=Sum.inl k then(cJ.1,.ref b) else cJ)
 |[],_,h=>by cases h;rfl
 |p::af,_,⟨gn,t,e,C,J⟩=>by
  subst e;rw[List.map_cons,List.map_cons]
  by_cases c:p.1=k
  .rw[if_pos c,if_pos (by rw[c])];exact⟨b,_,rfl,ab,eP.map ab J⟩
  .rw[if_neg c,if_neg λz=>c (ab7 z)];exact⟨gn,_,rfl,C,eP.map ab J⟩
theorem eP.snoc{q:Int×Int×Int}{b:Addr}(ab:G b=some (.tup [.int q.2.1,.int q.2.2])):∀{af:List (Int×Int×Int)}{ys:List (Key×V)},eP G af ys->eP G (af++[q]) (ys++[(Sum.inl q.1,.ref b)])
 |[],_,h=>by cases h;exact⟨b,[],rfl,ab,rfl⟩
 |p::af,_,⟨gn,t,e,C,J⟩=>by subst e;exact⟨gn,_,rfl,C,eP.snoc ab J⟩
def eP.put{af:List (Int×Int×Int)}{ys:List (Key×V)}(h:eP G af ys)(k:Int){r:Int×Int}{b:Addr}(ab:G b=some (.tup [.int r.1,.int r.2])):eP G (Den.lR af k r) (putK ys (Sum.inl k) (.ref b)):=by
 unfold Den.lR putK;rw[h.any k]
 split
 .exact h.map ab
 .exact h.snoc (q:=(k,r)) ab
theorem eP.len:∀{af:List (Int×Int×Int)}{ys:List (Key×V)},eP G af ys->ys.length=af.length
 |[],_,h=>by cases h;rfl
 |p::af,_,⟨b,t,e,C,J⟩=>by subst e;rw[List.length_cons,List.length_cons,eP.len J]
def GX{K:W.Frag}{r:Int×Int}{v:V}(h:Rep K G (Den.ow r) v):∃b,v=.ref b/\G b=some (.tup [.int r.1,.int r.2]):=by
 obtain⟨b,xs,e,C,J⟩:=h;rw[js (ns:=[r.1,r.2]) J]at C;exact⟨b,e,C⟩
def Un{K:W.Frag}{r:Int×Int}{b:Addr}(h:G b=some (.tup [.int r.1,.int r.2])):Rep K G (Den.ow r) (.ref b):=⟨b,_,rfl,h,.int r.1,_,rfl,rfl,.int r.2,_,rfl,rfl,rfl⟩
end
section
variable{X:aQ}{pins:List (Addr×Obj)}{σ:dm}{G H:aw}{s:Shared}
def freeze{a:Addr}{u:dX}(I:Inv X pins σ H s)(eL:H a=some u)(bw:(∃ys,u=.d0 ys)\/∃ys,u=.dg ys):∃ba,Inv X pins σ (upd H a (.dv ba u)) s:=by
 obtain⟨ba,av,_⟩:=vj I (a:=a) (by rcases bw with⟨ys,rfl⟩|⟨ys,rfl⟩;exact .inl ⟨ys,.inl eL⟩;exact .inr ⟨ys,.inl eL⟩);have ne:∀{b:Addr},H b=none->b≠a:=λq z=>by rw[z,eL]at q;cases q
 have nt:∀{b:Addr}{v:dX},H b=some v->(∀ys,v≠.d0 ys)->(∀ys,v≠.dg ys)->b≠a:=λq C J z=>by
  rw[z,eL]at q;cases q;rcases bw with⟨ys,e⟩|⟨ys,e⟩
  .exact C ys e
  .exact J ys e
 have kQ:∀{b:Addr}{v:dX},dR X.prog X.w H s.heap b v->dR X.prog X.w (upd H a (.dv ba u)) s.heap b v:=λq=>q.kQ (λ_ _ _ z=>z)
  (λc z=>by rw[cT (nt z (λ_ w=>nomatch w) λ_ w=>nomatch w)];exact z) λc xs z=>by rw[cT (nt z (λ_ w=>nomatch w) λ_ w=>nomatch w)];exact z
 refine⟨ba,I.ok,I.os,I.bare,⟨I.base.keep,I.base.slot,λb o e n ao=>?_,I.base.there,λb xs e=>?_,λb o v e=>?_,λb aS e=>?_⟩,I.loc,I.cell,?_,λx c e=>?_,λp az=>?_,λb v e=>?_,I.len⟩
 .have q:=I.base.free b o e n ao;rw[cT (ne q)];exact q
 .have q:=I.base.kV b xs e;rw[cT (nt q (λ_ w=>nomatch w) λ_ w=>nomatch w)];exact q
 .have q:=I.base.jM b o v e;rw[cT (nt q (λ_ w=>nomatch w) λ_ w=>nomatch w)];exact q
 .obtain⟨more,q⟩:=I.base.kU b aS e;exact⟨more,by rw[cT (nt q (λ_ w=>nomatch w) λ_ w=>nomatch w)];exact q⟩
 .rw[cT (ne I.free)];exact I.free
 .rw[cT (ne (I.ki x c e))];exact I.ki x c e
 .obtain⟨cc,b0,d5⟩:=I.pin p az;exact⟨cc,by rw[cT (ne b0)];exact b0,d5⟩
 .by_cases c:b=a
  .subst c;rw[dF]at e;cases e;exact⟨av,kQ (I.bK b u eL)⟩
  .rw[cT c]at e;exact kQ (I.bK b v e)
def z9{eM:TE}{e:Expr}(h:aM X e eM):aM X e (λσ H Q=>eM σ H λv H1=>∃a u,v=.ref a/\H1 a=some u/\((∃ys,u=.d0 ys)\/∃ys,u=.dg ys)/\∀ba,Q v (upd H1 a (.dv ba u))):=by
 intro pins s σ H Q I q;refine ZR (h pins s σ H _ I q) (λw s1 ⟨v,H1,a3,bR,a,u,e,eL,bw,k⟩=>?_) λ_ _ z=>z
 obtain⟨ba,cx⟩:=freeze a3 eL bw;exact⟨v,_,cx,bR,k ba⟩
end
section
variable{xp:cu}{X:aQ}{mu:List Nat}{m:eB}{f:aY->bx D}{val:Expr}{pos bb bL df gN kJ:Pos}{i j:Nat}{x y:Str}{pins:List (Addr×Obj)}{σ:dm}{G H:aw}{s:Shared}{ρ:aY}
def Nj(aa:bQ G H){a:Addr}{o bG:dX}(az:H a=none)(av:∀xs,bG≠.tup xs):Ext G H (upd G a bG) (upd (upd H a o) a bG):=by rw[A5];exact Ext.put aa az
def UO(hm:i∈mu)(aK:X.N.Nodup)(ai:X.N[i]?=some x)(ao:Loc X.env.scope x)(hf:X.fn x=true\/X.env.scope.names.lookup x=some .local):dY X (.Assign [.Name x bb] (.Dict [] [] kJ) pos) (dJ xp X mu λρ=>.ok (.bJ (ρ.set i (some (.b7 []))))):=by
 intro pins s σ H T I ⟨bZ,bl,G,ρ,ab,hw⟩;refine sj aK ai ao Gb rfl hf pins s σ H T I ?_;intro p az;exact hw _ G _ (ab.pW (Ext.own ab.cq.sub az λ_ z=>nomatch z) hm rfl dF az (ab.cq.sub.free az) rfl)
def UQ(hm:i∈mu)(aK:X.N.Nodup)(ai:X.N[i]?=some x)(ao:Loc X.env.scope x)(hf:X.fn x=true\/X.env.scope.names.lookup x=some .local):dY X (.Assign [.Name x bb] (.Dict [] [] kJ) pos) (dJ xp X mu λρ=>.ok (.bJ (ρ.set i (some (.bE []))))):=by
 intro pins s σ H T I ⟨bZ,bl,G,ρ,ab,hw⟩;refine sj aK ai ao Ga rfl hf pins s σ H T I ?_;intro p az;exact hw _ G _ (ab.pW (Ext.own ab.cq.sub az λ_ z=>nomatch z) hm rfl dF az (ab.cq.sub.free az) ⟨[],rfl,rfl⟩)
def UP(hm:i∈mu)(aK:X.N.Nodup)(ai:X.N[i]?=some x)(ao:Loc X.env.scope x)(hf:X.fn x=true\/X.env.scope.names.lookup x=some .local):dY X (.Assign [.Name x bb] (.Dict [] [] kJ) pos) (dJ xp X mu λρ=>.ok (.bJ (ρ.set i (some (.cG []))))):=by
 intro pins s σ H T I ⟨bZ,bl,G,ρ,ab,hw⟩;refine sj aK ai ao Gb rfl hf pins s σ H T I ?_;intro p az;exact hw _ G _ (ab.pW (Ext.own ab.cq.sub az λ_ z=>nomatch z) hm rfl dF az (ab.cq.sub.free az) ⟨[],rfl,rfl⟩)
def UR:aM X (.Dict [] [] kJ) (bj xp X mu .val λ_=>.ok (.bE [])):=by
 intro pins s σ H Q I ⟨G,ρ,aa,hw⟩;refine z9 Ga pins s σ H Q I λp az=>⟨p,_,rfl,dF,.inl ⟨_,rfl⟩,λba=>?_⟩
 exact hw (.ref p) _ _ (Nj aa.sub az λ_ z=>nomatch z) ⟨p,ba,[],rfl,dF,rfl⟩
def sD(aa:eD X.K mu G H ρ σ)(hm:j∉mu){k:List Int}(h:ρ[j]?=some (some (.tup (k.map .int)))):∃b,σ[j]?=some (some (V.ref b))/\H b=some (.tup ((k.map (Sum.inl (β:=Str))).map de)):=by
 obtain⟨v,C,b,ys,rfl,J,aC⟩:=aa.val j _ h hm;rw[js aC]at J;exact⟨b,C,by rw[zA];exact aa.sub _ _ J⟩
def UN(ai:i∉mu)(aJ:j∉mu)(aK:X.N[i]?=some x)(aN:fA X.env.scope x)(C:(x==("__debug__":Str))=false)(J:(x==("__classdict__":Str))=false)(lA:X.N[j]?=some y)(jO:fA X.env.scope y)(lz:(y==("__debug__":Str))=false)(h2:(y==("__classdict__":Str))=false):aM X (.Dict [some (.Name x bb)] [.Name y bL] pos) (bj xp X mu .val λρ=>Den.qR ρ[i]? ρ[j]?):=by
 intro pins s σ H Q I ⟨G,ρ,aa,hw⟩;dsimp only at hw;unfold Den.qR at hw;cases aj:Den.eQ Den.intD ρ[i]? with
 |none=>rw[aj]at hw;exact hw.elim
 |some k =>
  cases ak:Den.eQ Den.rowOf ρ[j]? with
  |none=>rw[aj,ak]at hw;exact hw.elim
  |some r =>
   rw[aj,ak]at hw;obtain⟨b9,aU,bq⟩:=jD aj;obtain⟨cg,ck,dz⟩:=jD ak;cases rN bq;cases GW dz;obtain⟨v1,a8,cc⟩:=aa.val i _ aU ai;have cc:v1=.int k:=cc;subst cc;obtain⟨v2,aR,b0⟩:=aa.val j _ ck aJ;obtain⟨b,rfl,ab⟩:=GX b0;refine z9 (SE (Tf (gO aK aN C J) (gO lA jO lz h2) Tg) rfl rfl (λz=>nomatch z) (by simp)) pins s σ H Q I λp az=>?_
   refine⟨_,a8,_,aR,dF,[(Sum.inl k,.ref b)],rfl,by simp,p,_,rfl,dF,.inl ⟨_,rfl⟩,λba=>?_⟩;have mF:=aa.sub.free az;refine hw (.ref p) (upd G p (.dv ba (.d0 (pG [] [(Sum.inl k,.ref b)])))) _ (by rw[A5,A5];exact Ext.put aa.sub az) ⟨p,ba,_,rfl,dF,b,[],rfl,gg mF _ _ ab,rfl⟩
def UL(bw:X.A.units+64<cLine)(aJ:j∉mu)(aK:X.N[i]?=some x)(aN:fA X.env.scope x)(C:(x==("__debug__":Str))=false)(J:(x==("__classdict__":Str))=false)(lA:X.N[j]?=some y)(jO:fA X.env.scope y)(lz:(y==("__debug__":Str))=false)(h2:(y==("__classdict__":Str))=false):aM X (.Subscript (.Name x bb) (.Name y bL) pos) (bj xp X mu m λρ=>Den.kf ρ[i]? ρ[j]?):=by
 intro pins s σ H Q I ⟨G,ρ,aa,hw⟩;refine SA (by omega) (gO aK aN C J) (gO lA jO lz h2) (λ_ _=>rfl) pins s σ H Q I ?_;dsimp only at hw;have QA:∀af k,Den.kd ρ[i]?=some af->Den.eQ Den.fZ ρ[j]?=some k->vH (kT i) (kT j) σ H Q:=λaf k aj ak=>by
  rw[Den.kf,aj,ak]at hw;dsimp only at hw;obtain⟨v,a8,a,rfl,aR⟩:=aa.view (qN aj);obtain⟨cg,ck,dz⟩:=jD ak;cases p6 dz;obtain⟨b,cw,fS⟩:=sD aa aJ ck;cases bu:Den.oH af k with
  |none=>rw[bu]at hw;exact hw.elim
  |some n =>
   rw[bu]at hw;refine⟨_,a8,_,cw,a,.int n,rfl,.inr ⟨_,_,b,aR,rfl,fS,by rw[L6,bu];rfl⟩,hw _ G H (Ext.refl aa.sub) (by cases m<;>rfl)⟩
 have Qx:∀af k,Den.ja ρ[i]?=some af->Den.eQ Den.intD ρ[j]?=some k->cz (match Den.m9 af k with|some r=>.ok (Den.ow r)|none=>.bad) (λd=>∀v aI aq,Ext G H aI aq->cy X.K H aI aq m d v->Q v aq) (λc=>e2 xp X c H)->vH (kT i) (kT j) σ H Q:=λaf k aj ak hw=>by
  obtain⟨v,a8,a,ys,rfl,aR,bz⟩:=aa.view (tw aj);obtain⟨cg,ck,dz⟩:=jD ak;cases rN dz;obtain⟨v2,cw,b0⟩:=aa.val j _ ck aJ;have b0:v2=.int k:=b0;subst b0;cases bu:Den.m9 af k with
  |none=>rw[bu]at hw;exact hw.elim
  |some r =>
   rw[bu]at hw;obtain⟨b,g1,g2⟩:=bz.val bu;refine⟨_,a8,_,cw,a,.ref b,rfl,.inl ⟨ys,Sum.inl k,aR,rfl,g1.symm⟩,hw _ G H (Ext.refl aa.sub) ?_⟩;have:=Un (K:=X.K) g2;cases m<;>exact this
 have zB:cz (Den.x4 ρ[i]? ρ[j]?) (λd=>∀v aI aq,Ext G H aI aq->cy X.K H aI aq m d v->Q v aq) (λc=>e2 xp X c H)->vH (kT i) (kT j) σ H Q:=λhw=>by
  unfold Den.x4 at hw;cases aj:Den.kc ρ[i]? with
  |none=>rw[aj]at hw;exact hw.elim
  |some af =>
   cases ak:Den.eQ Den.fZ ρ[j]? with
   |none=>rw[aj,ak]at hw;exact hw.elim
   |some k =>
    rw[aj,ak]at hw;dsimp only at hw;obtain⟨v,a8,a,ys,rfl,aR,bz⟩:=aa.view (qM aj);obtain⟨cg,ck,dz⟩:=jD ak;cases p6 dz;obtain⟨b,cw,fS⟩:=sD aa aJ ck;rcases bz.val k with⟨z,_⟩|⟨cs,c,xs,cc,b0,d5,hU⟩
    .rw[z]at hw;exact hw.elim
    .rw[cc]at hw;refine⟨_,a8,_,cw,a,.ref c,rfl,.inr ⟨_,_,b,aR,rfl,fS,b0.symm⟩,hw _ G H (Ext.refl aa.sub) ?_⟩;have:Rep X.K G (Den.fQ cs) (.ref c):=⟨c,xs,rfl,d5,xU hU⟩;cases m<;>exact this
 cases aj:Den.kd ρ[i]? with
 |some af =>
  cases ak:Den.eQ Den.fZ ρ[j]? with
  |some k=>exact QA af k aj ak
  |none =>
   rw[Den.kf,aj,ak]at hw;have:Den.ja ρ[i]?=none:=(by rw[qN aj];rfl);rw[this]at hw;exact zB hw
 |none =>
  rw[Den.kf,aj]at hw;dsimp only at hw;cases bu:Den.ja ρ[i]? with
  |none=>rw[bu]at hw;exact zB hw
  |some af =>
   cases eR:Den.eQ Den.intD ρ[j]? with
   |none=>rw[bu,eR]at hw;exact zB hw
   |some k=>rw[bu,eR]at hw;exact Qx af k bu eR hw
def US(bw:X.A.units+64<cLine)(hm:i∈mu)(aJ:j∉mu)(aK:X.N[i]?=some x)(aN:fA X.env.scope x)(C:(x==("__debug__":Str))=false)(J:(x==("__classdict__":Str))=false)(lA:X.N[j]?=some y)(jO:fA X.env.scope y)(lz:(y==("__debug__":Str))=false)(h2:(y==("__classdict__":Str))=false)(he:aM X val (bj xp X mu .val f))(jf:swapsWith val (some (.Subscript (.Name x bb) (.Name y bL) df)) pos.line X.env=pure false):
  dY X (.Assign [.Subscript (.Name x bb) (.Name y bL) df] val pos) (dJ xp X mu λρ=>f ρ>>=λd=>Den.nP ρ[i]? ρ[j]? d>>=λz=>.ok (.bJ (ρ.set i (some z)))):=by
 intro pins s σ H T I ⟨bZ,bl,G,ρ,ab,hw⟩;refine Tt (by omega) (gO aK aN C J) (gO lA jO lz h2) he jf pins s σ H T I ?_;refine⟨G,ρ,ab.cq,bY (br.mp hw) (λd k v aH H1 aP aG=>?_) λ_ z=>z.mono ab.ext.h⟩;have hN:=ab.step aP;have k:=br.mp k;have Oe:∀af dU n,Den.kd ρ[i]?=some af->Den.eQ Den.fZ ρ[j]?=some dU->d=.int n->af.length<1000->iu X.K mu bZ bl T (.bJ (ρ.set i (some (.b7 (Den.putN af dU n)))))->∃w,σ[i]?=some (some w)/\∃u,σ[j]?=some (some u)/\∃a e0,w=.ref a/\iG H1 a u v e0/\T.bJ σ e0:=λaf dU n aj ak qY hz q=>by
  subst qY;have aG:v=.int n:=aG;subst aG;obtain⟨a,o,a8,aR,bz,cw⟩:=hN.cq.lst i _ (qN aj) hm rfl;cases cw;obtain⟨cg,ck,dz⟩:=jD ak;cases p6 dz;obtain⟨b,fS,g5⟩:=sD hN.cq aJ ck;refine⟨_,a8,_,fS,a,_,rfl,iG.t aR g5 (by unfold hl;rw[List.length_map,sizeLine_eq];omega),?_⟩;rw[L5];exact q σ aH _ (hN.write (d:=.b7 af) (e:=.b7 (Den.putN af dU n)) hm (qN aj) rfl rfl a8 bz rfl)
 have Od:∀af dU r,Den.ja ρ[i]?=some af->Den.eQ Den.intD ρ[j]?=some dU->d=Den.ow r->af.length<1000->iu X.K mu bZ bl T (.bJ (ρ.set i (some (.bE (Den.lR af dU r)))))->∃w,σ[i]?=some (some w)/\∃u,σ[j]?=some (some u)/\∃a e0,w=.ref a/\iG H1 a u v e0/\T.bJ σ e0:=λaf dU r aj ak qY hz q=>by
  subst qY;obtain⟨c,rfl,ag⟩:=GX aG;obtain⟨a,o,a8,aR,bz,ys,rfl,cw⟩:=hN.cq.lst i _ (tw aj) hm rfl;obtain⟨cg,ck,dz⟩:=jD ak;cases rN dz;obtain⟨v2,fS,b0⟩:=hN.cq.val j _ ck aJ;have b0:v2=.int dU:=b0;subst b0;refine⟨_,a8,_,fS,a,_,rfl,iG.k (k:=Sum.inl dU) aR (by rw[cw.len,sizeLine_eq];omega),?_⟩;exact q σ aH _ (hN.write (d:=.bE af) (e:=.bE (Den.lR af dU r)) hm (tw aj) rfl rfl a8 bz ⟨_,rfl,cw.put dU ag⟩)
 have A0:cz (Den.tA ρ[i]? ρ[j]? d) (λz=>cz (.ok (Den.eA.bJ (ρ.set i (some z)))) (iu X.K mu bZ bl T) (λc=>e2 xp X c bl)) (λc=>e2 xp X c bl)->∃w,σ[i]?=some (some w)/\∃u,σ[j]?=some (some u)/\∃a e0,w=.ref a/\iG H1 a u v e0/\T.bJ σ e0:=λh8=>by
  unfold Den.tA at h8;cases aj:Den.kc ρ[i]? with
  |none=>rw[aj]at h8;exact h8.elim
  |some af =>
   cases ak:Den.eQ Den.fZ ρ[j]? with
   |none=>rw[aj,ak]at h8;exact h8.elim
   |some dU =>
    cases bu:Den.oT d with
    |none=>rw[aj,ak,bu]at h8;exact h8.elim
    |some cs =>
     rw[aj,ak,bu]at h8;dsimp only at h8
     by_cases hz:af.length<1000
     .rw[if_pos hz]at h8;cases Kv bu;obtain⟨c,xs,rfl,ag,a9⟩:=aG;obtain⟨a,o,a8,aR,bz,ys,rfl,cw⟩:=hN.cq.lst i _ (qM aj) hm rfl;obtain⟨cg,ck,dz⟩:=jD ak;cases p6 dz;obtain⟨b,fS,g5⟩:=sD hN.cq aJ ck;refine⟨_,a8,_,fS,a,_,rfl,iG.t aR g5 (by rw[cw.len,sizeLine_eq];omega),?_⟩;exact h8 σ aH _ (hN.write (d:=.cG af) (e:=.cG (Den.m4 af dU cs)) hm (qM aj) rfl rfl a8 bz ⟨_,rfl,cw.put dU ag (Cp a9)⟩)
     .rw[if_neg hz]at h8;exact h8.elim
 have second:cz (match Den.ja ρ[i]?,Den.eQ Den.intD ρ[j]?,Den.rowOf d with|some af,some k,some r=>if af.length<1000 then .ok (Den.D.bE (Den.lR af k r)) else .bad|_,_,_=>Den.tA ρ[i]? ρ[j]? d) (λz=>cz (.ok (Den.eA.bJ (ρ.set i (some z)))) (iu X.K mu bZ bl T) (λc=>e2 xp X c bl)) (λc=>e2 xp X c bl)->∃w,σ[i]?=some (some w)/\∃u,σ[j]?=some (some u)/\∃a e0,w=.ref a/\iG H1 a u v e0/\T.bJ σ e0:=λk=>by
  cases aj:Den.ja ρ[i]? with
  |none=>rw[aj]at k;exact A0 k
  |some af =>
   cases ak:Den.eQ Den.intD ρ[j]? with
   |none=>rw[aj,ak]at k;exact A0 k
   |some dU =>
    cases bu:Den.rowOf d with
    |none=>rw[aj,ak,bu]at k;exact A0 k
    |some r =>
     rw[aj,ak,bu]at k;dsimp only at k
     by_cases hz:af.length<1000
     .rw[if_pos hz]at k;exact Od af dU r aj ak (GW bu) hz k
     .rw[if_neg hz]at k;exact k.elim
 unfold Den.nP at k;cases aj:Den.kd ρ[i]? with
 |none=>rw[aj]at k;exact second k
 |some af =>
  cases ak:Den.eQ Den.fZ ρ[j]? with
  |none=>rw[aj,ak]at k;exact second k
  |some dU =>
   cases bu:Den.intD d with
   |none=>rw[aj,ak,bu]at k;exact second k
   |some n =>
    rw[aj,ak,bu]at k;dsimp only at k
    by_cases hz:af.length<1000
    .rw[if_pos hz]at k;exact Oe af dU n aj ak (rN bu) hz k
    .rw[if_neg hz]at k;exact k.elim
def Vc(hm:i∈mu)(aK:X.N[i]?=some x)(aN:fA X.env.scope x)(C:(x==("__debug__":Str))=false)(J:(x==("__classdict__":Str))=false):
  dY X (.Return (some (.Name x bb)) pos) (dJ xp X mu λρ=>Den.qP ρ[i]?>>=λd=>.ok (.dE d)):=by
 intro pins s σ H T I ⟨bZ,bl,G,ρ,ab,hw⟩;refine ve (z9 (gO aK aN C J)) pins s σ H T I ?_;dsimp only at hw;have key:∀d,ρ[i]?=some (some d)->g4 d=true->(∀o,jC X.K G d o->(∃ys,o=.d0 ys)\/∃ys,o=.dg ys)->(∀a o ba,jC X.K G d o->G a=none->Rep X.K (upd G a (.dv ba o)) d (.ref a))->iu X.K mu bZ bl T (.dE d)->kT i σ H (λv H1=>∃a u,v=.ref a/\H1 a=some u/\((∃ys,u=.d0 ys)\/∃ys,u=.dg ys)/\∀ba,T.dE v (upd H1 a (.dv ba u))):=λd q ft av a9 hw=>by
  obtain⟨a,o,a8,aR,bz,cw⟩:=ab.cq.lst i d q hm ft;have h0:bl a=none:=ab.own i d a q ft hm a8;have ax:=av o cw;have nt:∀xs,o≠.tup xs:=λxs z=>by rcases ax with⟨_,e⟩|⟨_,e⟩<;>rw[e]at z<;>cases z
  refine⟨_,a8,a,o,rfl,aR,ax,λba=>?_⟩;refine hw _ (upd G a (.dv ba o)) (upd H a (.dv ba o)) ⟨ab.ext.g.trans (gg bz),λb v z=>?_,λb v z=>?_,λb cc b0=>?_,λb xs z=>.inr ?_⟩ (a9 a o ba cw bz)
  .have:b≠a:=λw=>by rw[w,h0]at z;cases z
   rw[cT this];exact ab.ext.h b v z
  .by_cases c:b=a
   .subst c;rw[dF]at z ⊢;exact z
   .rw[cT c]at z ⊢;exact ab.cq.sub b v z
  .have:b≠a:=λw=>b0 (by rw[w];exact h0)
   rw[cT this];exact ab.ext.new b cc b0
  .have c:b≠a:=λw=>by rw[w,dF]at z;cases z
   rw[cT c]at z ⊢;exact ab.cq.dK b xs z
 cases q:ρ[i]? with
 |none=>rw[q]at hw;exact hw.elim
 |some o =>
  cases o with
  |none=>rw[q]at hw;exact hw.elim
  |some d =>
   rw[q]at hw;cases d with
   |b7 af=>exact key _ q rfl (λo e=>.inr ⟨_,e⟩) (λa o ba e g=>by cases e;exact⟨a,ba,rfl,dF⟩) hw
   |bE af=>exact key _ q rfl (λo ⟨ys,e,_⟩=>.inl ⟨ys,e⟩) (λa o ba ⟨ys,e,r⟩ g=>by subst e;exact⟨a,ba,ys,rfl,dF,r.mono (gg g)⟩) hw
   |_=>exact hw.elim
end
noncomputable def Bs(d:Addr)(o:dX)(ar:List V):jA :=
 ⟨λi H=>H d=some o/\i<ar.length,λi H v aq=>aq=H/\ar[i]?=some v,λi H=>H d=some o/\ar.length=i⟩
def Xi{P:Program}{w:World}{K:W.Frag}{dx:Expr}(d it:Addr){ba:Obj}{u:dX}{ar:List V}{ah:Array DictEntry}{a6:Nat}(hd:ba.data=.dict ah a6)(aN:Vals ar (ah.toList.map (·.key))):
  Turn P w K dx (Bs d (.dv ba u) ar) [it] it (λi h=>h.IsKeyIter it d i ah.size a6) where
 mem:=by simp
 obj:=λi h st b ab=>by
  have e:b=it:=(by simpa using ab);subst e;obtain⟨o,e,c,d⟩:=st;exact⟨o,e,λv z=>by rw[d]at z;cases z⟩
 keep:=λi h h' st k=>st.at λo e=>k it (by simp) o e
 item:=by
  intro X ej hw ho ag i pins s σ H E I hf st a4;subst ej hw ho;obtain⟨aL,ai⟩:=a4;have av:s.heap.get? d=some ba:=(show dR X.prog X.w H s.heap d (.dv ba u) from I.bK d _ aL).1;have aA:ar.length=ah.size:=(by rw[aN.length,List.length_map,Array.length_toList]);have ao:ar[i]?=some ar[i]:=Y3 ai;obtain⟨v,a8,aR⟩:=aN.get ao;obtain⟨f0,f1,f2,fg,f4,fh⟩:=hf it (by simp);have bV:i<ah.size:=(by omega);refine Pv.LM st av hd bV λh' bo dV=>?_
  have a3:Inv X pins σ H { s with heap:=h' }:=I.turned (t':=s.toks) (λb o ab e=>(dV.2 b ab).trans e) f0 f1 fg f4 fh;have nQ:ah[i].key=v:=by
   rw[Ze,Zz,Y8 bV]at a8;exact ZA a8
  obtain⟨o,e,c,dn⟩:=id bo;exact⟨_,rfl,tX (s:={ s with heap:=h' }) e c dn (by decide) ⟨ar[i],H,a3,by rw[nQ];exact aR,⟨rfl,ao⟩,bo,λb ab=>(hf b ab).1⟩⟩
 done:=by
  intro X ej hw ho ag i pins s σ H E I hf st a4;subst ej hw ho;obtain⟨aL,ai⟩:=a4;have av:s.heap.get? d=some ba:=(show dR X.prog X.w H s.heap d (.dv ba u) from I.bK d _ aL).1;have aA:ar.length=ah.size:=(by rw[aN.length,List.length_map,Array.length_toList]);obtain⟨f0,f1,f2,fg,f4,fh⟩:=hf it (by simp);subst ai;rw[aA]at st;exact Pv.LK (I.ok.hd ag) st av hd λh' eV=>⟨rfl,I.turned (t':=s.toks) (λb o ab e=>eV b o ab e) f0 f1 fg f4 fh⟩
 self:=λ_ _ _ _ _ st h=>wpAny_pyIter_keyiter st h
def Qk{K:W.Frag}{P:aw->aw->Prop}{G:aw}{d:Addr}{o:dX}{ar:List V}{ds:List D}(ej:∀aH H1,P aH H1->bQ G aH/\H1 d=some o)(r:bD K G ds ar):nq K P (Bs d o ar) ds where
 go:=λi aH H1 h ai=>⟨(ej aH H1 h).2,by rw[<- r.length];exact ai⟩
 k0:=λi aH H1 x aW d h aa hd ⟨e,y⟩=>by
  obtain⟨g,q⟩:=ej aH H1 h;subst e;obtain⟨v,C,J⟩:=r.get hd;rw[C]at y;cases y;exact⟨aH,Ext.refl aa,J.mono g⟩
 stop:=λaH H1 h=>⟨(ej aH H1 h).2,r.length.symm⟩
section
variable{G H:aw}
theorem CC(dK:∀b xs,H b=some (.tup xs)->G b=some (.tup xs)){K:W.Frag}:∀{af:List (List Int×Int)}{xs:List (List Key×Addr×Value)},Paired (λ(p:List Key×V)(q:List Key×Addr×Value)=>p.1=q.1/\H q.2.1=some (.tup (p.1.map de))/\RelV p.2 q.2.2) (hl af) xs ->
  bD K G (af.map λp=>.tup (p.1.map .int)) (xs.map λq=>V.ref q.2.1)
 |[],_,h=>by cases h;rfl
 |p::af,_,h=>by
  cases h with
  |@cons _ q _ xs C J =>
   refine⟨V.ref q.2.1,_,rfl,⟨q.2.1,p.1.map V.int,rfl,dK _ _ ?_,?_⟩,CC dK J⟩
   .have:=C.2.1;dsimp only at this;rw[zA]at this;exact this
   .exact ints_rep p.1
theorem CA(dK:∀b xs,H b=some (.tup xs)->G b=some (.tup xs)){K:W.Frag}:∀{af:List (List Int×List (List Int))}{ys:List (List Key×V)}{xs:List (List Key×Addr×Value)},eO G af ys->Paired (λ(p:List Key×V)(q:List Key×Addr×Value)=>p.1=q.1/\H q.2.1=some (.tup (p.1.map de))/\RelV p.2 q.2.2) ys xs ->
  bD K G (af.map λp=>.tup (p.1.map .int)) (xs.map λq=>V.ref q.2.1)
 |[],_,_,C,h=>by cases C;cases h;rfl
 |p::af,_,_,⟨b,us,t,e,aG,aZ,ee⟩,h=>by
  subst e;cases h with
  |@cons _ q _ xs C J =>
   refine⟨V.ref q.2.1,_,rfl,⟨q.2.1,p.1.map V.int,rfl,dK _ _ ?_,ints_rep p.1⟩,CA dK ee J⟩;have:=C.2.1;dsimp only at this;rw[zA]at this;exact this
theorem Bh:∀xs:List (List Key×Addr×Value),Vals (xs.map λq=>V.ref q.2.1) (xs.map λq=>Value.ref q.2.1)
 |[]=>.nil
 |q::xs=>.cons (show RelV (V.ref q.2.1) (Value.ref q.2.1) from rfl) (Bh xs)
end
theorem CB{K:W.Frag}{G:aw}{P:Program}{w:World}:∀{af:List (Int×Int×Int)}{ys:List (Key×V)}{ae:List (Key×Value)}{ah:List DictEntry},eP G af ys->e1 ys ae->Pairs (g7 P w) ah ae ->
  bD K G (af.map λp=>.int p.1) (af.map λp=>V.int p.1)/\Vals (af.map λp=>V.int p.1) (ah.map (·.key))
 |[],_,_,_,C,J,aC=>by cases C;cases J;cases aC;exact⟨rfl,.nil⟩
 |p::af,_,_,_,⟨b,t,e,aU,bq⟩,J,aC=>by
  subst e;cases J with
  |@cons _ q _ YS cc b0 =>
   cases aC with
   |@cons dO _ nR _ a8 aR bz =>
    obtain⟨aG,aZ⟩:=CB (K:=K) bq b0 bz;have cc:=cc.1;dsimp only at cc;rw[<- cc]at a8;refine⟨⟨.int p.1,_,rfl,rfl,aG⟩,.cons ?_ aZ⟩;have a8:Value.isInt p.1 dO.key=true:=a8;cases ax:dO.key with
    |int i t=>rw[ax]at a8;exact⟨t,by show dO.key=_;rw[ax,(show i=p.1 by simpa[Value.isInt] using a8)]⟩
    |_=>rw[ax]at a8;cases a8
section
variable{xp:cu}{X:aQ}{mu:List Nat}{m:eB}{dx:Expr}{bb:Pos}{i:Nat}{x:Str}
def UW(hm:m=.view\/m=.val)(ai:i∉mu)(aK:X.N[i]?=some x)(aN:fA X.env.scope x)(C:(x==("__debug__":Str))=false)(J:(x==("__classdict__":Str))=false):hG X dx (.Name x bb) (jY xp X mu m λρ=>Den.nL ρ[i]?):=by
 intro pins s σ H R I ⟨G,ρ,aa,hw⟩;dsimp only at hw;have go:∀{d:Addr}{ba:Obj}{u:dX}{ar:List V}{ds:List D}{ah:Array DictEntry}{a6:Nat},σ[i]?=some (some (.ref d))->G d=some (.dv ba u)->(d==sysModules)=false->ba.ExactDict->ba.data=.dict ah a6->bD X.K G ds ar->Vals ar (ah.toList.map (·.key))->ds.length<=16777216 ->
   (∀dB aI aq,Ext G H aI aq->nq X.K (qs m aI aq) dB ds->ds.length<=16777216->R dB aq)->wpAny (model X.prog X.w) X.A (eval (.Name x bb) X.env) (λv s1=>wpAny (model X.prog X.w) X.A (pyIter v) (wA X pins σ dx R) X.cA s1) X.cA s:=λ{d ba u ar ds ah a6} a8 aR bz cw fS g5 uG aA k=>by
  refine bF (gO aK aN C J pins s σ H (λv H1=>v=.ref d/\H1=H) I ⟨_,a8,rfl,rfl⟩) λv s1 ⟨w,H1,a3,aG,aj,ak⟩=>?_
  subst aj ak;cases aG;have f7:=aa.sub _ _ aR;have av:s1.heap.get? d=some ba:=(show dR X.prog X.w H1 s1.heap d (.dv ba u) from a3.bK d _ f7).1;refine Pv.LL bz av cw fS ?_;refine⟨s1.heap.objs.size,[s1.heap.objs.size],_,_,H1,rfl,a3.kept (t':=s1.toks) λb o e=>YZ _ e,Xi (u:=u) d _ fS uG,⟨_,Y7 _ rfl,rfl,rfl⟩,λb ab=>?_,k _ G H1 (Ext.refl aa.sub) (Qk (G:=G) (o:=.dv ba u) (λaH aW ⟨cc,b0⟩=>⟨cc,?_⟩) g5) aA⟩
  .have e:b=s1.heap.objs.size:=(by simpa using ab);subst e;exact a3.q6 (Y2 _) (a3.bK.fresh (Y2 _))
  .rcases hm with rfl|rfl
   .exact b0 _ _ f7
   .exact b0 _ _ (cc _ _ aR)
 unfold Den.nL at hw;cases aj:Den.kd ρ[i]? with
 |some af =>
  rw[aj]at hw;obtain⟨v,a8,a,ba,rfl,aR⟩:=aa.val i _ (qN aj) ai;obtain⟨av,cc,b0,xs,d5,o,ah,a6,hU,sS,sT,wa,Bn⟩:=(show dR X.prog X.w H s.heap a (.dv ba (.dg (hl af))) from I.bK a _ (aa.sub _ _ aR));rw[av]at hU;cases hU;have a9:=CC (K:=X.K) aa.dK d5;refine go a8 aR b0 sS sT a9 (by rw[wa,List.map_map];exact Bh xs) ?_ hw;rw[List.length_map];unfold hl at cc;rw[List.length_map,sizeLine_eq]at cc;exact cc
 |none =>
  rw[aj]at hw;dsimp only at hw;cases ak:Den.ja ρ[i]? with
  |none =>
   rw[ak]at hw;have hw:cz (Den.x6 ρ[i]?) _ _:=hw;unfold Den.x6 at hw;cases bu:Den.kc ρ[i]? with
   |none=>rw[bu]at hw;exact hw.elim
   |some af =>
    rw[bu]at hw;obtain⟨v,a8,a,ba,ys,rfl,aR,bz⟩:=aa.val i _ (qM bu) ai;obtain⟨av,cc,b0,xs,d5,o,ah,a6,hU,sS,sT,wa,Bn⟩:=(show dR X.prog X.w H s.heap a (.dv ba (.dg ys)) from I.bK a _ (aa.sub _ _ aR));rw[av]at hU;cases hU;have a9:=CA (K:=X.K) aa.dK bz d5;refine go a8 aR b0 sS sT a9 (by rw[wa,List.map_map];exact Bh xs) ?_ hw;rw[List.length_map,<- bz.len];rw[sizeLine_eq]at cc;exact cc
  |some af =>
   rw[ak]at hw;obtain⟨v,a8,a,ba,ys,rfl,aR,bz⟩:=aa.val i _ (tw ak) ai;obtain⟨av,cc,b0,ae,d5,o,ah,a6,hU,sS,sT,wa,Bn,YV⟩:=(show dR X.prog X.w H s.heap a (.dv ba (.d0 ys)) from I.bK a _ (aa.sub _ _ aR));rw[av]at hU;cases hU;obtain⟨aG,aZ⟩:=CB (K:=X.K) bz d5 Bn;refine go a8 aR b0 sS sT aG aZ ?_ hw;rw[List.length_map,<- bz.len];rw[sizeLine_eq]at cc;exact cc
end
section
variable{X:aQ}
def Rc{l b:Addr}{items hP:Array Value}{n eH:Nat}{fj:Obj}(ag:fj.cls=.type "list"\/fj.cls=.type "tuple")(hd:fj.data=.seq hP eH)(Yp:¬(!items.isEmpty&&Builtin.List.listTooLong (items.size+hP.size))=true)(hz:items.size<=sizeLine)(Ez:items.size+hP.size<=sizeLine+1):
  Meets (Builtin.«list.extend» ⟨[.ref l,.ref b],[]⟩) λ_ R s=>s.heap.get? l=some { cls:=.type "list",dict:=none,data:=.seq items n,slots:=#[] }/\s.heap.get? b=some fj /\
   R (.ok (.ret Value.none)) { s with heap:=s.heap.update l (Obj.mapSeq λx=>x++hP),toks:=s.toks }:=by
 refine .of_wp λprog w A R s h=>?_
 obtain⟨az,g,d,tk,os⟩:=s;obtain⟨cv,cg,Ya,jW⟩:=fj;cases hd;obtain⟨aj,ak,h⟩:=h;have f1:=AutoSeq1.idx_int;have f2:=AutoSeq1.sub_list_list;have fg:=AutoSeq1.sub_list_tuple;have f4:=AutoSeq1.sub_tuple_tuple;have fh:=AutoSeq1.sub_tuple_list;have EB:(items++hP).size<=sizeLine+1:=by rw[aca];exact Ez
 rcases ag with ag|ag
 .cases ag
  wp_walk using (abW aj rfl (hz:=hz) (_hz':=EB)),aaN aj,aaN ak
  exact⟨_,rfl,h⟩
 .cases ag
  wp_walk using (abW aj rfl (hz:=hz) (_hz':=EB)),aaN aj,aaN ak
  exact⟨_,rfl,h⟩
noncomputable def TQ(K:W.Frag):V->List V->aw->c0->Prop:=λx ae H Q=>∃l b xs zs,x=.ref l/\ae=[.ref b]/\H l=some (.lst xs)/\(eo K H b zs\/fp K H b zs)/\xs.length+zs.length<=sizeLine/\Q .dp (upd H l (.lst (xs++zs)))
def RI:s7 X "list.extend" (TQ X.K):=by
 intro pins s σ H x ae v us Q I a7 bR h;obtain⟨l,b,xs,zs,rfl,rfl,f7,fC,hz,q⟩:=h;cases a7;obtain⟨u,rfl,cF⟩:=bR.one;cases cF;obtain⟨z,its,n,r,aA,e⟩:=I.zN f7;obtain⟨hp,fj,eH,aZ,ak,cv,cg⟩:∃hp fj eH,Vals zs hp/\s.heap.get? b=some fj/\(fj.cls=.type "list"\/fj.cls=.type "tuple")/\fj.data=.seq hp.toArray eH:=by
  rcases fC with fC|fC
  .obtain⟨hp,aZ,⟨fj,eH,ak,cv,_,cg⟩,_⟩:=I.list fC;exact⟨hp,fj,eH,aZ,ak,.inl cv,cg⟩
  .obtain⟨hp,aZ,⟨fj,ak,cv,eH,cg⟩,_⟩:=I.tuple fC;exact⟨hp,fj,eH,aZ,ak,.inr cv,cg⟩
 have uc:=aZ.length;have hsz:its.toArray.size+hp.toArray.size<=sizeLine:=by rw[Y4,Y4];omega
 refine call_meets F.slot_list_extend ⟨_,e,rfl⟩ F.entry_list_extend (F.args_list_extend_2 _ _) (Rc cv cg (by rw[RU hsz,aaB];exact ZS) (by rw[Y4];omega) (by omega)) ⟨e,ak,?_⟩;refine⟨.dp,_,I.zM (its':=its++hp) f7 e (by simp) (r.append aZ) ?_,rfl,q⟩;rw[List.length_append];omega
variable{xp:cu}{mu:List Nat}{f:aY->bx D}{e:Expr}{bb gN ap dZ:Pos}{i:Nat}{x n:Str}
def UT(hm:i∈mu)(aD:n="extend")(aK:X.N[i]?=some x)(aN:fA X.env.scope x)(C:(x==("__debug__":Str))=false)(J:(x==("__classdict__":Str))=false)(iU:(ap.endLine==dZ.line)=true)(he:aM X e (bj xp X mu .val f))(cH:starEach [e] X.env=[(false,eval e X.env)]):
  dY X (.Expr (.Call (.Attribute (.Name x bb) n ap) [e] [] dZ) gN) (dJ xp X mu λρ=>Den.mr ρ[i]?>>=λ_=>f ρ>>=λd=>Den.o1 ρ[i]? d>>=λy=>.ok (.bJ (ρ.set i (some y)))):=by
 subst aD;intro pins s σ H T I ⟨bZ,bl,G,ρ,ab,hw⟩;refine Ah (z7 aaR PySem.F.slot_list_extend PySem.F.type_list_extend RI (gO aK aN C J) (lQ he cH) rfl (yW cH) iU cH rfl) rfl pins s σ H T I ?_;obtain⟨ds,q,hw⟩:=Cg (br.mp hw);obtain⟨a,o,a8,aR,bz,xs,rfl,cw⟩:=ab.cq.lst i (.lst ds) q hm rfl;refine⟨_,a8,.inl ⟨rfl,xs,eo.of aR⟩,?_⟩;refine⟨G,ρ,ab.cq,bY (br.mp hw) (λd k v aH H1 aP aG=>?_) λ_ z=>z.mono ab.ext.h⟩;have hN:=ab.step aP;rw[q]at k;cases d with
 |lst ah =>
  have k:cz ((if ds.length+ah.length<=Den.SZ then Den.R.ok (Den.D.lst (ds++ah)) else .bad)>>=λy=>.ok (Den.eA.bJ (ρ.set i (some y)))) _ _:=k;have k:=br.mp k
  by_cases hz:ds.length+ah.length<=Den.SZ
  .rw[if_pos hz]at k;obtain⟨b,zs,rfl,bh,hR⟩:=aG;have ri:H1 a=some (.lst xs):=aP.h _ _ aR;have rh:aH a=none:=aP.new a bz (by rw[aR];exact λz=>nomatch z);refine⟨a,b,xs,zs,rfl,rfl,ri,(.inl (lV aP.sub bh)),by rw[<- cw.length,<- hR.length,<- qt];exact hz,?_⟩;exact k σ aH _ (hN.write (d:=.lst ds) (e:=.lst (ds++ah)) hm q rfl rfl a8 rh ⟨_,rfl,(cw.mono aP.g).append hR⟩)
  .rw[if_neg hz]at k;exact k.elim
 |tup ah =>
  have k:cz ((if ds.length+ah.length<=Den.SZ then Den.R.ok (Den.D.lst (ds++ah)) else .bad)>>=λy=>.ok (Den.eA.bJ (ρ.set i (some y)))) _ _:=k;have k:=br.mp k
  by_cases hz:ds.length+ah.length<=Den.SZ
  .rw[if_pos hz]at k;obtain⟨b,zs,rfl,bh,hR⟩:=aG;have ri:H1 a=some (.lst xs):=aP.h _ _ aR;have rh:aH a=none:=aP.new a bz (by rw[aR];exact λz=>nomatch z);refine⟨a,b,xs,zs,rfl,rfl,ri,(.inr (iF aP.sub bh)),by rw[<- cw.length,<- hR.length,<- qt];exact hz,?_⟩;exact k σ aH _ (hN.write (d:=.lst ds) (e:=.lst (ds++ah)) hm q rfl rfl a8 rh ⟨_,rfl,(cw.mono aP.g).append hR⟩)
  .rw[if_neg hz]at k;exact k.elim
 |_=>exact k.elim
end
def Qf{d:D}{ar:List Int}(h:Den.uA d=some ar):d=.lst (ar.map .int):=by
 unfold Den.uA at h
 split at h
 .rw[pv h]
 .cases h
theorem GF{h:Heap}:∀{ds:List D}{us:List Value}{as:List Addr},ReadsAll h us (hv ds) as->∀(m:Nat)(hm:m<us.length),∃d bs,ds[m]?=some d/\Reads h us[m] (toPy d) bs
 |[],_,_,r,m,hm=>by cases r;simp at hm
 |d::ds,_,_,r,m,hm=>by
  cases r with
  |cons aG aZ =>
   cases m with
   |zero=>exact⟨d,_,rfl,aG⟩
   |succ m =>
    obtain⟨d',bs,aj,ak⟩:=GF aZ m (by simpa using hm);exact⟨d',bs,by simpa using aj,ak⟩
def vw(k:Int):Den.cY 60 (.int k)=true:=bt.sC 60 k
section
variable{xp:cu}{X:aQ}{mu:List Nat}{m:eB}{pos bb bL ap dZ:Pos}{i j:Nat}{x y n:Str}
def RJ(bw:X.A.units+64<cLine):s7 X "list.index" (λx ae H Q=>∃(G:aw)(l:Addr)(v:V)(xs:List V)(ar:List Int)(k:Int),bQ G H/\x=.ref l/\ae=[v]/\eo X.K H l xs/\bD X.K G (ar.map .int) xs/\View X.K G H (.int k) v/\k∈ar/\ar.length<=1000/\Q (.int (ar.idxOf k:Nat)) H):=by
 intro pins s σ H x ae v us Q I a7 bR h;obtain⟨G,l,w,xs,ar,k,aa,rfl,rfl,aL,a9,aN,ax,hlen,q⟩:=h;cases a7;obtain⟨u,rfl,cF⟩:=bR.one;obtain⟨its,i4,⟨⟨cls,dn,data,cp⟩,c,av,ag,_,hd⟩,_⟩:=I.list aL;simp only at ag hd;subst ag hd;have fD:(ar.map Den.D.int).all (Den.cY 60)=true:=by rw[List.all_map,Zp];exact λk _=>vw k
 obtain⟨as,cb⟩:=oq I aa 60 fD a9 i4;obtain⟨bs,dA⟩:=oo I aa aN cF (vw k);have aA:its.length=ar.length:=by rw[<- i4.length,<- a9.length,List.length_map]
 have key:∀m (hm:m<its.length),kh s.heap (.int k) its[m]=decide (ar[m]'(by omega)=k):=λm hm=>by
  obtain⟨d,X7,aj,ak⟩:=GF cb m hm;rw[Ze,Y3 (by omega)]at aj;cases aj;rw[yb ak (vw _)];exact bt.CS _ _
 have aJ:=ZD ax;refine call_meets F.slot_list_index ⟨_,av,rfl⟩ F.entry_list_index (F.args_list_index_2 _ _) (SeqAt.list_indexAt l its.toArray c dn cp u (kh s.heap (.int k)) (ar.idxOf k) (by rw[Y4];omega) (by omega) ?_ ?_) ⟨av,λz hz=>tE bw dA (vw k) cb fD z (by simpa using hz),?_⟩
 .have:=key (ar.idxOf k) (by omega);simp only[List.getElem_toArray];rw[this,Z1 aJ];simp
 .intro ib hm J;have:=key ib (by simpa using hm);simp only[List.getElem_toArray];rw[this];refine decide_eq_false λe=>?_
  have:=List.not_of_lt_findIdx (p:=(·==k)) (xs:=ar) J;simp[e]at this
 .exact⟨.int _,H,I.kept (t':=_) λb o e=>e,⟨_,rfl⟩,q⟩
def U3(bw:X.A.units+64<cLine)(aD:n="index")(iU:(ap.endLine==dZ.line)=true)(aK:X.N[i]?=some x)(aN:fA X.env.scope x)(C:(x==("__debug__":Str))=false)(J:(x==("__classdict__":Str))=false)(lA:X.N[j]?=some y)(jO:fA X.env.scope y)(lz:(y==("__debug__":Str))=false)(h2:(y==("__classdict__":Str))=false):aM X (.Call (.Attribute (.Name x bb) n ap) [.Name y bL] [] dZ) (bj xp X mu m λρ=>Den.pA ρ[i]? ρ[j]?):=by
 subst aD;intro pins s σ H Q I ⟨G,ρ,aa,hw⟩;dsimp only at hw;unfold Den.pA at hw;cases aj:Den.eQ Den.uA ρ[i]? with
 |none=>rw[aj]at hw;exact hw.elim
 |some ar =>
  cases ak:Den.eQ Den.intD ρ[j]? with
  |none=>rw[aj,ak]at hw;exact hw.elim
  |some k =>
   rw[aj,ak]at hw;dsimp only at hw
   by_cases hz:k∈ar/\ar.length<=1000
   .rw[if_pos hz]at hw;obtain⟨b9,aU,bq⟩:=jD aj;cases Qf bq;obtain⟨cg,ck,dz⟩:=jD ak;cases rN dz;obtain⟨v1,a8,a,xs,rfl,aR,bz⟩:=aa.view aU;obtain⟨v2,cw,fS⟩:=aa.view ck;refine z7 aaR PySem.F.slot_list_index PySem.F.type_list_index (RJ bw) (gO aK aN C J) (lQ (gO lA jO lz h2) rfl) rfl (yW rfl) iU rfl rfl pins s σ H Q I ?_;exact⟨_,a8,.inl ⟨rfl,xs,aR⟩,_,cw,G,a,v2,xs,ar,k,aa.sub,rfl,rfl,aR,bz,fS,hz.1,hz.2,hw _ G H (Ext.refl aa.sub) (by cases m<;>rfl)⟩
   .rw[if_neg hz]at hw;exact hw.elim
end
section
variable{xp:cu}{X:aQ}{mu:List Nat}{m:eB}{f cD:aY->bx D}{e val c:Expr}{body:List Stmt}{pos bb bL df gN ap dZ:Pos}{i j:Nat}{x y n:Str}
def UM(bw:X.A.units+64<cLine)(hm:i∈mu)(aJ:j∉mu)(aK:X.N[i]?=some x)(aN:fA X.env.scope x)(C:(x==("__debug__":Str))=false)(J:(x==("__classdict__":Str))=false)(lA:X.N[j]?=some y)(jO:fA X.env.scope y)(lz:(y==("__debug__":Str))=false)(h2:(y==("__classdict__":Str))=false)(iU:(ap.endLine==dZ.line)=true){k:Nat}:
  aM X (.Call (.Attribute (.Name x bb) "get" ap) [.Name y bL,.Tuple [] k df] [] dZ) (bj xp X mu m λρ=>Den.oV ρ[i]? ρ[j]?):=by
 intro pins s σ H Q I ⟨G,ρ,aa,hw⟩;refine SD (by omega) (gO aK aN C J) (gO lA jO lz h2) (Hg (xp:=xp) (mu:=mu) Hd λ_ _ e=>by cases e;exact Zo _) ⟨rfl,rfl,iU,rfl⟩ pins s σ H Q I ?_;dsimp only at hw;unfold Den.oV at hw;cases aj:Den.kc ρ[i]? with
 |none=>rw[aj]at hw;exact hw.elim
 |some af =>
  cases ak:Den.eQ Den.fZ ρ[j]? with
  |none=>rw[aj,ak]at hw;exact hw.elim
  |some k =>
   rw[aj,ak]at hw;obtain⟨a,o,a8,aR,bz,ys,rfl,cw⟩:=aa.lst i _ (qM aj) hm rfl;obtain⟨cg,ck,dz⟩:=jD ak;cases p6 dz;obtain⟨b,fS,g5⟩:=sD aa aJ ck;refine⟨_,a8,a,rfl,.inr ⟨_,.inl aR⟩,_,fS,G,ρ,aa,?_⟩;show ∀v aI aq,Ext G H aI aq->Rep X.K aI (.tup []) v->_;intro v aI aq x r;refine⟨_,l6.t (x.h _ _ aR) (x.h _ _ g5),?_⟩;have hw:∀v aI aq,Ext G H aI aq->cy X.K H aI aq m (Den.fQ ((Den.hA af k).getD [])) v->Q v aq:=hw;rcases cw.val k with⟨cc,b0⟩|⟨cs,c,xs,cc,b0,d5,hU⟩
   .rw[b0];refine hw _ aI aq x ?_;rw[cc];have r:Rep X.K aI (Den.fQ []) v:=r;cases m<;>exact r
   .rw[b0];refine hw _ aI aq x ?_;rw[cc];have r:Rep X.K aI (Den.fQ cs) (.ref c):=⟨c,xs,rfl,x.g _ _ d5,xU (hU.mono x.g)⟩;cases m<;>exact r
def Ve(hm:i∈mu)(he:aM X e (bj xp X (mu.filter λj=>!(j==i)) .val f)):dY X (.Return (some e) pos) (dJ xp X mu λρ=>Den.tl ρ[i]?>>=λ_=>f ρ>>=λd=>.ok (.dE d)):=by
 intro pins s σ H T I ⟨bZ,bl,G,ρ,ab,hw⟩;have mem:∀{j:Nat},(j∈mu.filter λj=>!(j==i))<->j∈mu/\j≠i:=λ{j}=>by rw[Y9];simp
 have key:∀af,ρ[i]?=some (some (.cG af))->cz (f ρ>>=λd=>.ok (.dE d)) (iu X.K mu bZ bl T) (λc=>e2 xp X c bl)->wpAny (model X.prog X.w) X.A (exec (.Return (some e) pos) X.env) (s9 X pins T) X.cA s:=λaf q hw=>by
  obtain⟨a,o,a8,aR,bz,ys,rfl,cw⟩:=ab.cq.lst i (.cG af) q hm rfl;have h0:bl a=none:=ab.own i (.cG af) a q rfl hm a8;obtain⟨ba,cx⟩:=freeze I aR (.inr ⟨ys,rfl⟩);have sA:bQ G (upd G a (.dv ba (.dg ys))):=gg bz;have sub:bQ (upd G a (.dv ba (.dg ys))) (upd H a (.dv ba (.dg ys))):=λb v z=>by
   by_cases c:b=a
   .subst c;rw[dF]at z ⊢;exact z
   .rw[cT c]at z ⊢;exact ab.cq.sub b v z
  have dK:∀b xs,upd H a (.dv ba (.dg ys)) b=some (.tup xs)->upd G a (.dv ba (.dg ys)) b=some (.tup xs):=λb xs z=>by
   have c:b≠a:=λw=>by rw[w,dF]at z;cases z
   rw[cT c]at z ⊢;exact ab.cq.dK b xs z
  have vz:eD X.K (mu.filter λj=>!(j==i)) (upd G a (.dv ba (.dg ys))) (upd H a (.dv ba (.dg ys))) ρ σ:=by
   refine⟨ab.cq.len,sub,λj d e aJ=>?_,λj d e aJ aA=>?_,λj d e aJ aA=>?_,dK,λj k d e b gn aU bq b9 cg aJ ax=>ab.cq.apart j k d e b gn aU bq b9 cg (mem.mp aJ).1 (mem.mp ax).1⟩
   .by_cases c:j=i
    .subst c;rw[q]at e;cases e;exact⟨_,a8,a,ba,ys,rfl,dF,cw.mono sA⟩
    .obtain⟨v,cc,b0⟩:=ab.cq.val j d e λw=>aJ (mem.mpr ⟨w,c⟩)
     exact⟨v,cc,b0.mono sA⟩
   .obtain⟨v,cc,b0⟩:=ab.cq.own j d e (mem.mp aJ).1 aA;exact⟨v,cc,b0.mono sA⟩
   .obtain⟨b,o,cc,b0,d5,hU⟩:=ab.cq.lst j d e (mem.mp aJ).1 aA;have c:b≠a:=ab.cq.apart j i d (.cG af) b a e q aA rfl (mem.mp aJ).1 hm (mem.mp aJ).2 cc a8;exact⟨b,o,cc,by rw[cT c];exact b0,by rw[cT c];exact d5,hU.mono sA⟩
  have ext:Ext bZ bl (upd G a (.dv ba (.dg ys))) (upd H a (.dv ba (.dg ys))):=by
   refine⟨ab.ext.g.trans sA,λb v z=>?_,sub,λb cc b0=>?_,λb xs z=>.inr (dK b xs z)⟩
   .have:b≠a:=λw=>by rw[w,h0]at z;cases z
    rw[cT this];exact ab.ext.h b v z
   .have:b≠a:=λw=>b0 (by rw[w];exact h0)
    rw[cT this];exact ab.ext.new b cc b0
  refine ve he pins s σ _ T cx ⟨_,ρ,vz,bY (br.mp hw) (λd k v aH H1 aP aG=>?_) λ_ z=>z.mono ext.h⟩;exact k v aH H1 (ext.trans aP) aG
 dsimp only at hw;cases q:ρ[i]? with
 |none=>rw[q]at hw;exact hw.elim
 |some o =>
  cases o with
  |none=>rw[q]at hw;exact hw.elim
  |some d =>
   rw[q]at hw;cases d with
   |cG af=>exact key af q hw
   |_=>exact hw.elim
def Vp{cj:aY->bx Den.eA}(az:PassesOwn (model X.prog X.w) X.A X.env X.cA)(ag:eh X c (fx xp X mu cD))(ab:gV X body (dJ xp X mu cj))(n:Nat):dY X (.While c body [] pos) (dJ xp X mu λρ=>Den.jv (λbC=>cD bC>>=λx=>Den.eE x) cj n ρ):=by
 intro pins s σ H T I ⟨bZ,bl,G,ρ,ix,hw⟩;refine Tw az ag ab pins s σ H T I ?_;refine⟨λm c7 aq=>∃aI bC,d6 X.K mu bZ bl aI aq bC c7/\cz (Den.jv (λbC=>cD bC>>=λx=>Den.eE x) cj m bC) (iu X.K mu bZ bl T) (λc=>e2 xp X c bl),⟨n,G,ρ,ix,hw⟩,?_⟩;rintro m c7 aq ⟨aI,bC,dV,gs⟩;cases m with
 |zero=>exact gs.elim
 |succ m =>
  rw[Den.jv]at gs;refine⟨aI,bC,dV.cq,bY (br.mp gs) (λk q aH H1 aP=>?_) λ_ z=>z.mono dV.ext.h⟩;cases k with
  |false =>
   rw[if_neg (by decide)]at q ⊢;exact q c7 aH H1 (dV.step aP)
  |true =>
   rw[if_pos rfl]at q ⊢;refine⟨λng aW=>∃cf j0,d6 X.K mu bZ bl cf aW j0 ng/\cz (Den.jv (λbC=>cD bC>>=λx=>Den.eE x) cj m j0) (iu X.K mu bZ bl T) (λc=>e2 xp X c bl),λng aW h=>⟨m,aax m,h⟩,bZ,bl,aH,bC,dV.step aP,bY (br.mp q) (λr dU=>?_) λ_ z=>z⟩;cases r with
   |bJ j0=>exact λng cf aW AA=>⟨cf,j0,AA,dU⟩
   |dE d=>exact dU
def Vi(hm:i∈mu)(aK:X.N[i]?=some x)(aN:fA X.env.scope x)(C:(x==("__debug__":Str))=false)(J:(x==("__classdict__":Str))=false){k:Nat}(he:aM X val (bj xp X mu .val f))(jf:swapsWith val (some (.Subscript (.Name x bb) (.Constant (.int 0) k bL) df)) pos.line X.env=pure false):
  dY X (.Assign [.Subscript (.Name x bb) (.Constant (.int 0) k bL) df] val pos) (dJ xp X mu λρ=>f ρ>>=λd=>Den.sz ρ[i]? d>>=λz=>.ok (.bJ (ρ.set i (some z)))):=by
 intro pins s σ H T I ⟨bZ,bl,G,ρ,ab,hw⟩;refine wpAny_Assign_Subscript (bF (he pins s σ H (λv H1=>∃a xs ds d aH,σ[i]?=some (some (.ref a))/\ρ[i]?=some (some (.lst ds))/\H1 a=some (.lst xs)/\aH a=none/\bD X.K aH ds xs/\Rep X.K aH d v/\d6 X.K mu bZ bl aH H1 ρ σ/\cz (Den.sz ρ[i]? d>>=λz=>.ok (Den.eA.bJ (ρ.set i (some z)))) (iu X.K mu bZ bl T) (λc=>e2 xp X c bl)) I ?_) λr s1 ⟨v,H1,a3,bR,a,xs,ds,d,aH,a8,q,aR,bz,cw,fS,dV,dU⟩=>?_) jf
 .refine⟨G,ρ,ab.cq,bY (br.mp hw) (λd k v aH H1 aP aG=>?_) λ_ z=>z.mono ab.ext.h⟩;have dV:=ab.step aP;cases q:ρ[i]? with
  |none=>rw[q]at k;exact k.elim
  |some o =>
   cases o with
   |none=>rw[q]at k;exact k.elim
   |some d' =>
    cases d' with
    |lst ds =>
     obtain⟨a,o,a8,aR,bz,xs,rfl,cw⟩:=dV.cq.lst i (.lst ds) q hm rfl;exact⟨a,xs,ds,d,aH,a8,rfl,aR,bz,cw,aG,dV,by rw[q]at k;exact k⟩
    |_=>rw[q]at k;exact k.elim
 .refine bF (gO aK aN C J pins s1 σ H1 (λw aW=>w=.ref a/\aW=H1) a3 ⟨_,a8,rfl,rfl⟩) λu s2 ⟨w,aW,cx,aZ,aj,ak⟩=>?_
  subst aj ak;refine bF (Gd pins s2 σ aW (λw bP=>w=.int 0/\bP=aW) cx ⟨rfl,rfl⟩) λsI s3 ⟨w,bP,eg,ee,aj,ak⟩=>?_
  subst aj ak;rw[q]at dU;cases ds with
  |nil=>exact dU.elim
  |cons jI ds =>
   obtain⟨v0,fX,e,g5,uG⟩:=cw;subst e;refine ZR (set_list pins s3 σ bP (.ref a) (.int 0) v _ _ _ (λe0=>e0=upd bP a (.lst (v::fX))) eg aZ ee bR ⟨a,_,0,0,rfl,rfl,aR,by unfold hQ;rw[if_pos (Int.le_refl 0),if_pos (by rw[List.length_cons];omega)];rfl,rfl⟩) (λ_ s4 ⟨e0,fo,eR⟩=>?_) λ_ _ z=>z
   subst eR;refine⟨σ,_,fo,?_⟩;exact dU σ aH _ (dV.write (d:=.lst (jI::ds)) (e:=.lst (d::ds)) hm q rfl rfl a8 bz ⟨_,rfl,v,fX,rfl,fS,uG⟩)
theorem bD.dropLast{K:W.Frag}{G:aw}{ds:List D}{xs:List V}(h:bD K G ds xs):bD K G ds.dropLast xs.dropLast:=by
 rw[List.dropLast_eq_take,List.dropLast_eq_take,<- h.length];exact h.take _
def s_pop(hm:i∈mu)(aD:n="pop")(aK:X.N[i]?=some x)(aN:fA X.env.scope x)(C:(x==("__debug__":Str))=false)(J:(x==("__classdict__":Str))=false)(iU:(ap.endLine==dZ.line)=true):
  dY X (.Expr (.Call (.Attribute (.Name x bb) n ap) [] [] dZ) gN) (dJ xp X mu λρ=>Den.vd ρ[i]?>>=λy=>.ok (.bJ (ρ.set i (some y)))):=by
 subst aD;intro pins s σ H T I ⟨bZ,bl,G,ρ,ab,hw⟩;refine Ah (Sv aaR PySem.F.slot_list_pop PySem.F.type_list_pop RK (gO aK aN C J) rfl iU) rfl pins s σ H T I ?_;dsimp only at hw;have key:∀d ds,ρ[i]?=some (some (.lst (d::ds)))->iu X.K mu bZ bl T (.bJ (ρ.set i (some (.lst (d::ds).dropLast))))->HV (HT X.K "list" Gx (kT i)) T σ H:=λd ds q hw=>by
  obtain⟨a,o,a8,aR,bz,xs,rfl,cw⟩:=ab.cq.lst i _ q hm rfl;obtain⟨v0,fX,e,g5,uG⟩:=id cw;subst e;have bV:(v0::fX).length-1<(v0::fX).length:=(by simp);refine⟨_,a8,.inl ⟨rfl,_,eo.of aR⟩,a,v0::fX,_,rfl,rfl,aR,Y3 bV,?_⟩;exact hw σ G _ (ab.write (d:=.lst (d::ds)) (e:=.lst (d::ds).dropLast) hm q rfl rfl a8 bz ⟨_,rfl,bD.dropLast cw⟩)
 cases q:ρ[i]? with
 |none=>rw[q]at hw;exact hw.elim
 |some o =>
  cases o with
  |none=>rw[q]at hw;exact hw.elim
  |some d =>
   rw[q]at hw;cases d with
   |lst ds =>
    cases ds with
    |nil=>exact hw.elim
    |cons d ds=>exact key d ds q hw
   |_=>exact hw.elim
def Vm{st:Stmt}:dY X st (dJ xp X mu λ_=>.bad):=λ_ _ _ _ _ _ ⟨_,_,_,_,_,hw⟩=>hw.elim
end
def NY{K:W.Frag}{G H aI aq:aw}{d:D}{v:V}(x:Ext G H aI aq)(r:cy K H aI aq .fresh d v):∃cf,Ext G H cf aq/\Rep K cf d v:=by
 cases d with
 |lst ds =>
  obtain⟨a,xs,rfl,C,J,aC,aT⟩:=r;refine⟨upd aI a (.lst xs),⟨x.g.trans (gg aC),x.h,λb o q=>?_,λb aU bq=>?_,λb xs q=>(x.dK b xs q).imp id λz=>gg aC _ _ z⟩,a,xs,rfl,.inl (.inl dF),aT.mono (gg aC)⟩
  .by_cases ab:b=a
   .subst ab;rw[dF]at q;rw[C];exact q
   .rw[cT ab]at q;exact x.sub b o q
  .rw[cT (λz=>bq (by rw[z];exact J))];exact x.new b aU bq
 |b7 _=>exact r.elim
 |bE _=>exact r.elim
 |cG _=>exact r.elim
 |_=>exact⟨aI,x,r⟩
section
variable{xp:cu}{X:aQ}{mu:List Nat}{jK:aY->bx (List D)}{eW:aY->bx D}{cD:aY->bx Bool}{elt target iter:Expr}{ifs:List Expr}{scope:Scope}{pos bb gN:Pos}{xs dM:List Str}{k i:Nat}{y:Str}
def UB(ag:X.calm=true)(h6:∀i∈mu,i<X.N.length)(B:oJ X scope xs dM)(ax:Den.fm k target=some xs)(lF:∀x,foldedSetIterable iter X.env x=pure x)(ai:hG X target iter (jY xp X mu .view jK))(he:∀s3 bP bI pins,aM (hj X scope dM s3 bP bI pins) elt (bj xp (hj X scope dM s3 bP bI pins) mu .val eW))(ay:qw xp X mu scope dM ifs cD)(aK:X.N.Nodup)(aV:X.N[i]?=some y)(ao:Loc X.env.scope y)(hf:X.fn y=true\/X.env.scope.names.lookup y=some .local):
  dY X (.Assign [.Name y bb] (.ListComp elt [⟨target,iter,ifs,0⟩] scope pos) gN) (dJ xp X mu λρ=>(jK ρ>>=λds=>Den.iZ (Den.da (jb k cD eW ρ) ds)>>=λys=>.ok (.lst ys))>>=λd=>.ok (.bJ (ρ.set i (some d)))):=by
 have jf:∃b:Bool,swapsWith (.ListComp elt [⟨target,iter,ifs,0⟩] scope pos) (some (.Name y bb)) gN.line X.env=pure b:=⟨_,rfl⟩;obtain⟨b,jf⟩:=jf;cases b with
 |false =>
  by_cases hm:i∈mu
  .exact G8 hm aK aV ao (Az ag h6 B ax lF ai he ay) jf hf
  .exact G7 hm aK aV ao (aM.val (Az ag h6 B ax lF ai he ay)) jf hf
 |true =>
  intro pins s σ H T I ⟨bZ,bl,G,ρ,ab,hw⟩;rw[exec_Assign_Name_used _ _ _ _ jf];refine YW (wpAny_standAt (YW ?_));show wpAny _ X.A (do let _ <- comprehension (.ListComp elt [⟨target,iter,ifs,0⟩] scope pos) scope X.env _ (newList []) false (eval iter X.env) (some (assign (.Name y bb) X.env))) _ _ s;refine YW (ZR (Cu ag h6 B ax lF ai he ay I ab.cq (use:=some (assign (.Name y bb) X.env)) (Qc:=λ_ s'=>s9 X pins T .next s') ?_) (λ_ s' aL=>YY (YY aL)) λ_ _ e=>e);have hw:=br.mp (br.mp hw);refine br.mpr (bY hw (λds a8=>?_) λ_ q=>q.mono ab.ext.h);refine bY (br.mp a8) (λys aR s4 aq aI bH dr oa x r aD OK inv=>?_) λ_ q=>q.mono ab.ext.h
  have fo:Inv X pins σ aq s4:=inv s4.heap (acd _ _);obtain⟨sb,ah,a6,av,a9⟩:=id aD;have Pl:∀v,sb.data≠.cell v:=λv z=>by
   have:=a9.1;rw[z]at this;cases this
  obtain⟨f0,f1,f2,fg,f4,fh⟩:=OK;have I4:Inv X (pins++[(bH,sb)]) σ aq s4:=fo.Ab λp az=>by
   rcases Zg.mp az with z|z
   .exact fo.pin p (Zc _ z)
   .have z:=Zb.mp z;subst z;exact⟨av,f0,f1,f2,Pl⟩
  show wpAny _ X.A (assign (.Name y bb) X.env (.ref dr)) _ _ s4;refine wpAny_assign_Name (AO I4 aK aV ao (v:=.ref dr) rfl (λs5 ma=>?_) hf);have b6:s5.heap.get? bH=some sb:=(ma.pin (bH,sb) (Zc _ (Zc _ (Zb.mpr rfl)))).1;refine⟨oa,⟨sb,ah,a6,b6,a9⟩,λh' dV=>⟨σ.set i (some (.ref dr)),aq,?_,?_⟩⟩
  .exact(ma.p8).turned (t':=s5.toks) (λb o ab e=>(dV.2 b ab).trans e) f0 f1 fg f4 fh
  .by_cases hm:i∈mu
   .exact aR _ aI aq (ab.Ho x hm r)
   .obtain⟨cf,b5,aZ⟩:=NY x r;exact aR _ cf aq ((ab.step b5).sy hm aZ)
end
noncomputable def nice:Expr->Bool
 |.Starred ..=>false
 |.Set ..=>false
 |.SetComp ..=>false
 |.DictComp ..=>false
 |.Slice ..=>false
 |_=>true
def nn{α:Type}{a:α}{p:Prop}(h:none=some a):p:=nomatch h
def hb{x:Expr}{y:Str}(h:Den.hy x=some y):∃p,x=.Name y p:=by
 cases x with
 |Name z p=>cases h;exact⟨p,rfl⟩
 |_=>exact nn h
def Iy{x:Expr}{c:Const}(h:Den.A8 x=some c):∃k p,x=.Constant c k p:=by
 cases x with
 |Constant z k p=>cases h;exact⟨k,p,rfl⟩
 |_=>exact nn h
def ID{x:Expr}{ah:List Expr}(h:Den.Bb x=some ah):∃k p,x=.Tuple ah k p:=by
 cases x with
 |Tuple z k p=>cases h;exact⟨k,p,rfl⟩
 |_=>exact nn h
def Xx{x:Expr}{ah:List Expr}(h:Den.IA x=some ah):∃p,x=.List ah p:=by
 cases x with
 |List z p=>cases h;exact⟨p,rfl⟩
 |_=>exact nn h
def Xt{x a b:Expr}{o:Operator}(h:Den.It x=some (a,o,b)):∃p,x=.BinOp a o b p:=by
 cases x with
 |BinOp l o r p=>cases h;exact⟨p,rfl⟩
 |_=>exact nn h
def IE{x a:Expr}{o:UnaryOp}(h:Den.Bc x=some (o,a)):∃p,x=.UnaryOp o a p:=by
 cases x with
 |UnaryOp o r p=>cases h;exact⟨p,rfl⟩
 |_=>exact nn h
def Iu{x a:Expr}{os:List CmpOp}{ys:List Expr}(h:Den.A7 x=some (a,os,ys)):∃p,x=.Compare a os ys p:=by
 cases x with
 |Compare l o r p=>cases h;exact⟨p,rfl⟩
 |_=>exact nn h
def vU{x:Expr}{o:BoolOp}{ah:List Expr}{p:Pos}(h:Den.vBool x=some (o,ah,p)):x=.BoolOp o ah p:=by
 cases x with
 |BoolOp o ah p=>cases h;rfl
 |_=>exact nn h
def vX{x a b:Expr}(h:Den.sL x=some (a,b)):∃p,x=.Subscript a b p:=by
 cases x with
 |Subscript l r p=>cases h;exact⟨p,rfl⟩
 |_=>exact nn h
def Xy{x:Expr}{a b c:Option Expr}(h:Den.IC x=some (a,b,c)):∃p,x=.Slice a b c p:=by
 cases x with
 |Slice l r t p=>cases h;exact⟨p,rfl⟩
 |_=>exact nn h
def vV{x f:Expr}{ah:List Expr}{ar:List Keyword}(h:Den.sJ x=some (f,ah,ar)):∃p,x=.Call f ah ar p:=by
 cases x with
 |Call l r t p=>cases h;exact⟨p,rfl⟩
 |_=>exact nn h
def m8{x:Expr}{y:Str}{ah:List Expr}(h:Den.lZ x=some (y,ah)):∃p q,x=.Call (.Name y p) ah [] q:=by
 unfold Den.lZ at h
 split at h
 .rename_i f nR aj;obtain⟨q,rfl⟩:=vV aj
  split at h
  .rename_i z ak;obtain⟨p,rfl⟩:=hb ak;cases h;exact⟨p,q,rfl⟩
  .cases h
 .cases h
def Xw{x a b c:Expr}(h:Den.Iz x=some (a,b,c)):∃p,x=.IfExp a b c p:=by
 cases x with
 |IfExp l r t p=>cases h;exact⟨p,rfl⟩
 |_=>exact nn h
def Iw{x a:Expr}{kj:List Comprehension}{sc:Scope}(h:Den.Iv x=some (a,kj,sc)):∃p,x=.ListComp a kj sc p:=by
 cases x with
 |ListComp l r t p=>cases h;exact⟨p,rfl⟩
 |_=>exact nn h
def fI{g:Den.Gt}{ct:Den.b3}{v:Bool}{e:Den.E}{x:Expr}(h:Den.bU g ct v e x=true):nice x=true:=by
 cases aD:nice x with
 |true=>rfl
 |false =>
  exfalso;cases x<;>first|(cases aD;done)|skip
  all_goals (cases e<;>exact ZS h)
def oB{e:Expr}{ah:List Expr}{env:Env}(h:nice e=true):starEach (e::ah) env=(false,eval e env)::starEach ah env:=by
 cases e<;>first|rfl|cases h
def hT{e:Expr}{env:Env}(h:nice e=true):starEach [e] env=[(false,eval e env)]:=oB h
def V3{e bp:Expr}{env:Env}(h:nice e=true)(h':nice bp=true):starEach [e,bp] env=[(false,eval e env),(false,eval bp env)]:=by rw[oB h,hT h']
def Ta{ah:List Expr}{env:Env}{pos:Pos}(h:∀e∈ah,nice e=true):(backTo pos (starEach ah env)).any (·.1)=false:=by
 induction ah with
 |nil=>rfl
 |cons e ah aE =>
  rw[oB (h e List.mem_cons_self)];show(false||(backTo pos (starEach ah env)).any (·.1))=false;rw[aE λz hz=>h z (List.mem_cons_of_mem _ hz)];rfl
def Qr{b:Expr}(h:nice b=true):wB b:=by
 intro o i;cases b<;>first|rfl|cases h
def set_plain{b:Expr}{env:Env}(h:nice b=true):∀x,foldedSetIterable b env x=pure x:=by
 intro x;cases b<;>first|rfl|cases h
def Fq{b:Expr}{op:CmpOp}(h:nice b=true):behindInMarks op b=false:=by
 cases b<;>first|rfl|cases h
def AQ{e:Expr}{t:Option Expr}{n:Nat}{env:Env}(h:nice e=true)(ag:Den.uW e=true):swapsWith e t n env=pure false:=by
 cases e<;>first|rfl|(cases ag;done)|(cases h;done)
noncomputable def qh:List Str:=["len","isinstance","int","bool","str","tuple","list","sorted","set","range","sum","max","all","any"]
structure f3(P:Program)(w:World)(K:W.Frag)(aX:Str->Option Value)(base:Heap)(xp:cu)(k:Nat)(g:Den.Gt)(pg:Den.dy)(Φ:Den.dW):Prop where
 fn:∀(f:Nat)(x:Str),g.fns[f]?=some x->∃bg fd aS,aX x=some (.ref bg)/\W.keepIn K (.ref bg)=true/\Binds K fd aS []/\j4 P w K aX base (j3 P w xp) k bg fd aS (oA K (Φ f) aS.length)/\∀ds,ds.length≠aS.length->Φ f ds=.bad
 blt:∀x:Str,x∈qh->aX x=none
 ra:∀(j:Nat)(x:Str)(d:D),g.ra[j]?=some x->pg.cs[j]?=some d->∃v u,aX x=some u/\RelV v u/\∀G,Rep K G d v
structure dC(xp:cu)(k:Nat)(g:Den.Gt)(pg:Den.dy)(Φ:Den.dW)(X:aQ)(ct:Den.b3):Prop where
 cS:f3 X.prog X.w X.K X.aX X.base xp k g pg Φ
 room:gj k X.A
 units:X.A.units+64<cLine
 calm:X.calm=true
 nm:X.N=ct.N
 dP:ct.N.Nodup
 mu:∀i∈ct.mu,i<ct.N.length
 lc:∀x,ct.sc.names.lookup x=some .local->X.env.scope.names.lookup x=some .local
 tj:∀x,(ct.sc.names.lookup x=some .cell\/ct.sc.names.lookup x=some .free)->(X.env.scope.names.lookup x=some .cell\/X.env.scope.names.lookup x=some .free)
 gl:∀x,ct.sc.names.lookup x=some .globalImplicit->X.env.kindOf x=some .globalImplicit
section
variable{xp:cu}{k:Nat}{g:Den.Gt}{pg:Den.dy}{Φ:Den.dW}{X:aQ}{ct:Den.b3}
def dC.hg(h:dC xp k g pg Φ X ct){x:Str}(q:Den.ju ct.sc x=true):fA X.env.scope x:=by
 unfold Den.ju at q;simp only[aaq,ZL]at q;rcases q with(q|q)|q
 .exact .inl (h.lc x q)
 .exact .inr (h.tj x (.inl q))
 .exact .inr (h.tj x (.inr q))
def dC.DL(h:dC xp k g pg Φ X ct){x:Str}(q:Den.o5 ct.sc x=true):eU X x:=by
 unfold Den.o5 at q;exact h.gl x (by simpa using q)
def gM{x:Str}(h:Den.okN x=true):(x==("__debug__":Str))=false/\(x==("__classdict__":Str))=false/\x≠"__name__":=by
 unfold Den.okN at h;simp only[YX,ZM]at h;exact⟨h.1.1,h.1.2,λz=>by rw[z]at h;exact absurd h.2 (by decide)⟩
theorem dC.blt(h:dC xp k g pg Φ X ct){x:Str}(q:Den.e8 g ct.sc x=true)(aD:x∈qh):eU X x/\X.aX x=none:=by
 unfold Den.e8 at q;simp only[YX,ZM]at q;exact⟨h.DL q.1.1.1,h.cS.blt x aD⟩
end
noncomputable def ob(v:Bool):eB:=if v then .view else .val
structure Res(xp:cu)(X:aQ)(mu:List Nat)(v fr:Bool)(x:Expr)(f:aY->bx D):Prop where
 ed:aM X x (bj xp X mu (ob v) f)
 fresh:fr=true->aM X x (bj xp X mu .fresh f)
 pt:eh X x (fx xp X mu f)
 iD:(∃op ah p,x=.BoolOp op ah p)->iH X x (fx xp X mu f)
section
variable{xp:cu}{X:aQ}{mu:List Nat}{v fr:Bool}{x:Expr}{f:aY->bx D}
theorem Res.view(h:Res xp X mu v fr x f):aM X x (bj xp X mu .view f):=aM.view h.ed
theorem Res.val(h:Res xp X mu false fr x f):aM X x (bj xp X mu .val f):=h.ed
def Ge(h:aM X x (bj xp X mu .val f)):aM X x (bj xp X mu (ob v) f):=by
 cases v with
 |true=>exact aM.view h
 |false=>exact h
def Res.pL(h:aM X x (bj xp X mu .val f))(ay:∀whole,isTrue x X.env whole=(do let v <- whole;standAt x.pos;holding [v] (truthy v)))(ab:∀op ah p,x≠.BoolOp op ah p)(hf:fr=false):Res xp X mu v fr x f :=
 ⟨Ge h,λz=>(by rw[hf]at z;cases z),kN (aM.view h) ay,λ⟨op,ah,p,e⟩=>absurd e (ab op ah p)⟩
def Res.oi(h:aM X x (bj xp X mu .fresh f))(ay:∀whole,isTrue x X.env whole=(do let v <- whole;standAt x.pos;holding [v] (truthy v)))(ab:∀op ah p,x≠.BoolOp op ah p):Res xp X mu v fr x f :=
 ⟨Ge (aM.val h),λ_=>h,kN (aM.view h) ay,λ⟨op,ah,p,e⟩=>absurd e (ab op ah p)⟩
def Res.kI(h:∀m,aM X x (bj xp X mu m f))(ay:eh X x (fx xp X mu f))(ab:∀op ah p,x≠.BoolOp op ah p):Res xp X mu v fr x f :=
 ⟨h _,λ_=>h _,ay,λ⟨op,ah,p,e⟩=>absurd e (ab op ah p)⟩
end
def r2(N xs:List Str):(Den.mask N xs).length=N.length:=by unfold Den.mask;rw[List.length_map]
structure qi(ct:Den.b3)(scope:Scope)(xs:List Str):Prop where
 kind:scope.kind=.function
 mY:∀y∈scope.names,y.2≠.cell
 names:∀y∈scope.names,y.2=.local->scope.names.lookup y.1=some .local
 fm:∀y∈xs,scope.names.lookup y=some .local
 loc:∀y∈scope.names,y.2=.local->y.1∈xs\/y.1=(".0":Str)
 fr:∀y∈scope.names,y.2=.free->ct.sc.names.lookup y.1=some .cell\/ct.sc.names.lookup y.1=some .free
 same:∀p∈(Den.mask ct.N xs).zip ct.N,p.1=p.2\/scope.names.lookup p.1=none
 dP:(Den.mask ct.N xs++xs).Nodup
 dot:(".0":Str)∉Den.mask ct.N xs++xs
section
variable{xp:cu}{k:Nat}{g:Den.Gt}{pg:Den.dy}{Φ:Den.dW}{X:aQ}{ct:Den.b3}{scope:Scope}{xs:List Str}
def qi.block(aF:dC xp k g pg Φ X ct)(b:qi ct scope xs):oJ X scope xs (Den.mask ct.N xs++xs) where
 kind:=b.kind
 mY:=b.mY
 names:=b.names
 loc:=λy h=>b.loc (y,.local) (ZK h) rfl
 fm:=b.fm
 fr:=λy aV e=>aF.tj y.1 (b.fr y aV e)
 len:=by rw[List.length_append,r2,aF.nm]
 old:=λi y ai e aa=>by
  rw[aF.nm]at ai ⊢;rw[Zd (by rw[r2];exact ai)]at e;have hz:((Den.mask ct.N xs).zip ct.N)[i]?=some (y,ct.N[i]):=by
   rw[List.getElem?_zip_eq_some];exact⟨e,Y3 ai⟩
  have hm:=b.same _ (aae hz);have aV:y∈Den.mask ct.N xs:=aae e;rcases hm with hm|hm
  .refine⟨by have hm:y=ct.N[i]:=hm;rw[Y3 ai,<- hm],λao=>?_,λz=>b.dot (List.mem_append_left _ (z▸aV))⟩;exact(aak.mp b.dP).2.2 y aV y ao rfl
  .simp only at hm;rw[hm]at aa;cases aa
 new:=λj=>by
  rw[aF.nm,Zr (by rw[r2];omega),r2];congr 1;omega
 dP:=b.dP
def qi.ok(aF:dC xp k g pg Φ X ct)(b:qi ct scope xs)(s3:Shared)(bP:aw)(bI:List Addr)(pins:List (Addr×Obj)):dC xp k g pg Φ (hj X scope (Den.mask ct.N xs++xs) s3 bP bI pins) ⟨Den.mask ct.N xs++xs,scope,ct.mu⟩ where
 cS:=aF.cS
 room:=aF.room
 units:=aF.units
 calm:=aF.calm
 nm:=rfl
 dP:=b.dP
 mu:=λi ai=>by
  have:=aF.mu i ai;show i<(Den.mask ct.N xs++xs).length;rw[List.length_append,r2];omega
 lc:=λx h=>vl h (by decide)
 tj:=λx h=>by
  rcases h with h|h
  .exact absurd rfl (b.mY _ (ZK h))
  .exact Aq h
 gl:=λx h=>vl h (by decide)
end
def Kd{ct:Den.b3}{sc:Scope}{xs:List Str}(h:Den.qF ct sc xs=true):qi ct sc xs:=by
 unfold Den.qF at h;rw[YX,YX,YX,YX,YX,YX,YX,YX,YX]at h;obtain⟨⟨⟨⟨⟨⟨⟨⟨⟨C,J⟩,aC⟩,aT⟩,_⟩,b6⟩,f6⟩,iR⟩,c4⟩,t2⟩:=h;exact {
  kind:=ZQ C
  mY:=λy aV=>by simpa using Zp.mp J y aV
  names:=λy aV e=>by
   have:=Zp.mp aC y aV;rw[e]at this;simpa using this
  fm:=λy aV=>by
   have:=Zp.mp aT y aV;simp only[YX,ZL]at this;exact this.1
  loc:=λy aV e=>by
   have:=Zp.mp b6 y aV;rw[e]at this;simpa using this
  fr:=λy aV e=>by
   have:=Zp.mp f6 y aV;rw[e]at this;simpa using this
  same:=λp az=>by
   have:=Zp.mp iR p az;simpa using this
  dP:=ZQ c4
  dot:=by simpa using t2 }
section
variable{xp:cu}{k:Nat}{g:Den.Gt}{pg:Den.dy}{Φ:Den.dW}{X:aQ}{ct:Den.b3}{v:Bool}
def Sn{ah:List Expr}:fO X ah (λ_ _ _=>False):=λ_ _ _ _ _ _ _ h=>h.elim
def U0{mu:List Nat}{m:eB}{f:aY->bx D}{up:Den.gX}{c:Nat}{e:Expr}{x t:Str}{p fb pos:Pos}(nZ:eU X x)(hm:X.aX x=none)(aN:bootBuiltins x=some (.builtin "isinstance"))(aB:aM X e (bj xp X mu .view f))(aD:x≠"__name__")(h4:(x==("__debug__":Str))=false)(cH:starEach [e,.Name t fb] X.env=(false,eval e X.env)::starEach [.Name t fb] X.env):
  aM X (.Call (.Name x p) [e,.Name t fb] [] pos) (bj xp X mu m λρ=>f ρ>>=λd=>Den.lI up d (.cls c)>>=λb=>.ok (.aO b)):=by
 intro pins s σ H Q I ⟨G,ρ,aa,hw⟩;refine z8 (r:=λ_ _ _=>False) (λ_ _ _ _ _ _ _ _ _ z=>z.elim) nZ hm aN (pN aB Sn cH) aD h4 cH rfl pins s σ H Q I ?_;refine⟨G,ρ,aa,bY (br.mp hw) (λbf k v aH H1 aP aG=>?_) λ_ q=>q⟩;cases bf<;>first|exact k.elim|exact aG.elim
def UE{mu:List Nat}{bA:aY->bx (List D)}{ek:List D->bx D}{fn:Addr}{fd:FuncData}{aS:List Str}{x:Str}{e:Expr}{ah:List Expr}{p pos:Pos}(F:j4 X.prog X.w X.K X.aX X.base (j3 X.prog X.w xp) k fn fd aS (oA X.K ek aS.length))(a9:gj k X.A)(a4:eU X x)(hm:X.aX x=some (.ref fn))(ax:W.keepIn X.K (.ref fn)=true)(ab:Binds X.K fd aS [])(aB:fO X (e::ah) (m7 xp X mu bA))(aA:∀ds,ds.length≠aS.length->ek ds=.bad)(h4:(x==("__debug__":Str))=false)(he:starEach (e::ah) X.env=(false,eval e X.env)::starEach ah X.env)(eb:(backTo pos (starEach ah X.env)).any (·.1)=false):
  aM X (.Call (.Name x p) (e::ah) [] pos) (bj xp X mu .val λρ=>bA ρ>>=λds=>ek ds):=by
 intro pins s σ H Q I ⟨G,ρ,aa,hw⟩;refine Sw (dvs:=[]) (ds:=[]) (E:=CO xp X) F a9 a4 hm ax ab .nil Sq aB h4 he eb pins s σ H Q I ?_;have hw:=br.mp hw;refine⟨G,ρ,aa,?_⟩;cases q:bA ρ with
 |ok ds =>
  rw[q]at hw;intro ae aH H1 aP aG;rw[aaa]
  by_cases hlen:ds.length=aS.length
  .refine⟨by rw[<- aG.length];exact hlen,aH,ds,aP.sub,(aa.ext aP).dK,aG,?_⟩;refine bY hw (λd k v cf aW b5 aZ=>k v cf aW (aP.trans b5) aZ) λc z aW J c2 jJ=>?_
   injection jJ with jJ _;have:c=c2:=(by omega);subst this;exact(z.mono aP.h).mono J
  .have hw:cz (ek ds) _ _:=hw;rw[aA ds hlen]at hw;exact hw.elim
 |exc c=>rw[q]at hw;exact hw
 |bad=>rw[q]at hw;exact hw
end
section
variable{xp:cu}{k:Nat}{g:Den.Gt}{pg:Den.dy}{Φ:Den.dW}
def J6(o:Den.Op)(x y:D)(c:Nat):Den.ep o x y≠.exc c:=by
 refine FQ ?_ c;cases o<;>cases x<;>first|rfl|(cases y<;>first|rfl|exact mX rfl rfl|exact mX (mX rfl rfl) rfl)
def Q4(d:D)(c:Nat):Den.kB d≠.exc c:=by
 intro h;cases d<;>simp only[Den.kB]at h<;>first|(cases h;done)|(split at h<;>cases h)
def VX(d:D)(c:Nat):(Den.ez d>>=λxs=>Den.sorted xs)≠.exc c:=by
 intro h;have key:∀xs:List D,Den.sorted xs≠.exc c:=λxs h=>by
  unfold Den.sorted at h
  split at h<;>cases h
 cases d with
 |tup xs=>exact key xs h
 |lst xs=>exact key xs h
 |_=>cases h
def Vw(d:D)(c:Nat):(Den.ez d>>=λxs=>Den.R.ok (Den.D.lst xs))≠.exc c:=by
 intro h;cases d<;>cases h
def Vy(d:D)(c:Nat):(Den.ez d>>=λxs=>Den.R.ok (Den.D.tup xs))≠.exc c:=by
 intro h;cases d<;>cases h
def Jr(d:D)(c:Nat):(Den.ez d>>=λxs=>Den.ml xs>>=λb=>Den.R.ok (Den.D.aO b))≠.exc c:=by
 intro h;have key:∀xs:List D,(Den.ml xs>>=λb=>Den.R.ok (Den.D.aO b))≠.exc c:=λxs h=>by
  unfold Den.ml at h;cases q:Den.iq xs<;>rw[q]at h<;>cases h
 cases d with
 |tup xs=>exact key xs h
 |lst xs=>exact key xs h
 |_=>cases h
def Jx(d:D)(c:Nat):(Den.ez d>>=λxs=>Den.mm xs>>=λb=>Den.R.ok (Den.D.aO b))≠.exc c:=by
 intro h;have key:∀xs:List D,(Den.mm xs>>=λb=>Den.R.ok (Den.D.aO b))≠.exc c:=λxs h=>by
  unfold Den.mm at h;cases q:Den.iq xs<;>rw[q]at h<;>cases h
 cases d with
 |tup xs=>exact key xs h
 |lst xs=>exact key xs h
 |_=>cases h
def We(d:D)(c:Nat):(Den.pC d>>=λxs=>Den.kS xs)≠.exc c:=by
 intro h;cases d with
 |lst xs =>
  have h:Den.kS xs=.exc c:=h;unfold Den.kS at h
  split at h<;>cases h
 |_=>cases h
def Rr(d:D)(c:Nat):(Den.pC d>>=λxs=>Den.kF xs)≠.exc c:=by
 intro h;cases d with
 |lst xs =>
  have h:Den.kF xs=.exc c:=h;unfold Den.kF at h
  split at h<;>cases h
 |_=>cases h
def hk{x y:Str}(h:(x==y)=true):x=y:=by simpa using h
def Va{X:aQ}{ct:Den.b3}{mu:List Nat}{m:eB}{p:Den.eC}{f:aY->bx D}{e:Expr}{x:Str}{q pos:Pos}(aF:dC xp k g pg Φ X ct)(az:Den.si p=true)(ao:x=Den.sh p)(ab:Den.e8 g ct.sc x=true)(aB:aM X e (bj xp X mu .view f))(aD:nice e=true):
  aM X (.Call (.Name x q) [e] [] pos) (bj xp X mu .fresh λρ=>f ρ>>=λd=>Den.jV pg.up p d):=by
 cases p with
 |len =>
  subst ao;obtain⟨C,J⟩:=aF.blt ab (by decide);exact pU (m:=.fresh) Q4 f_len C J (by kernel_rfl) aB (by decide) (by decide) (hT aD)
 |sorted =>
  subst ao;obtain⟨C,J⟩:=aF.blt ab (by decide);exact pU (m:=.fresh) VX (NF aF.calm aF.units) C J (by kernel_rfl) aB (by decide) (by decide) (hT aD)
 |sum =>
  subst ao;obtain⟨C,J⟩:=aF.blt ab (by decide);exact pU (m:=.fresh) We (NG aF.calm) C J (by kernel_rfl) aB (by decide) (by decide) (hT aD)
 |max =>
  subst ao;obtain⟨C,J⟩:=aF.blt ab (by decide);exact pU (m:=.fresh) Rr (NB aF.calm) C J (by kernel_rfl) aB (by decide) (by decide) (hT aD)
 |all =>
  subst ao;obtain⟨C,J⟩:=aF.blt ab (by decide);exact pU (m:=.fresh) Jr (Np aF.calm) C J (by kernel_rfl) aB (by decide) (by decide) (hT aD)
 |any =>
  subst ao;obtain⟨C,J⟩:=aF.blt ab (by decide);exact pU (m:=.fresh) Jx (Nq aF.calm) C J (by kernel_rfl) aB (by decide) (by decide) (hT aD)
 |inst t=>cases az
 |eZ=>cases az
def pV{X:aQ}{ct:Den.b3}(aF:dC xp k g pg Φ X ct){o:Den.hC}{op:CmpOp}(h:Den.tn o op=true):dk X (compareOp op) (g9 X.K (Den.dS o)):=by
 cases o<;>cases op<;>first|(cases h;done)|skip
 .exact Km aF.units
 .exact Ks aF.units
 .exact Kr aF.units
 .exact Kq
 .exact Ko
 .exact Kn
 .exact Kp aF.units
 .exact Kt aF.units
def UD{X:aQ}{o:Den.Op}{op:Operator}(h:Den.F3 o op=true):dk X (binaryOp op) (lS X.K (Den.ep o)):=by
 cases o<;>cases op<;>first|(cases h;done)|skip
 .exact LN
 .exact LW
 .exact LU
 .exact LP
 .exact LS
 .exact LO
 .exact LX
def QO{op op':CmpOp}{b c:Expr}(h:nice c=true):lastMarks [op,op'] [b,c]=false:=Fq h
def boot_isinstance:bootBuiltins "isinstance"=some (.builtin "isinstance"):=by kernel_rfl
def Kg(t:Den.Ty)(ay:∀c,t≠.cls c):bootBuiltins (Den.tyName t)=some (.type (p7 t))/\Den.tyName t≠"__name__"/\(Den.tyName t==("__debug__":Str))=false/\Den.tyName t∈qh:=by
 cases t with
 |cls c=>exact absurd rfl (ay c)
 |int=>exact⟨by kernel_rfl,by decide,by decide,by decide⟩
 |bool=>exact⟨by kernel_rfl,by decide,by decide,by decide⟩
 |str=>exact⟨by kernel_rfl,by decide,by decide,by decide⟩
 |tuple=>exact⟨by kernel_rfl,by decide,by decide,by decide⟩
end
section
variable{xp:cu}{k:Nat}{g:Den.Gt}{pg:Den.dy}{Φ:Den.dW}
variable(xp k g pg Φ) in
structure i5 (n:Nat):Prop where
 e:∀(e:Den.E)(x:Expr)(ct:Den.b3)(v:Bool)(X:aQ),sizeOf e<n->dC xp k g pg Φ X ct->Den.bU g ct v e x=true->Res xp X ct.mu v (Den.jc e) x (λρ=>Den.ev pg Φ ρ e)
 a:∀(a:Den.A)(ah:List Expr)(ct:Den.b3)(X:aQ),sizeOf a<n->dC xp k g pg Φ X ct->Den.mv g ct a ah=true->fO X ah (m7 xp X ct.mu λρ=>Den.hZ pg Φ ρ a)/\(∀e∈ah,nice e=true)/\∀ρ ds,Den.hZ pg Φ ρ a=.ok ds->ds.length=ah.length
 o:∀(o:Den.O)(x:Option Expr)(ct:Den.b3)(X:aQ),sizeOf o<n->dC xp k g pg Φ X ct->Den.qI g ct o x=true->j7 X x (p4 xp X ct.mu λρ=>Den.mC pg Φ ρ o)
 i:∀(s:Den.I)(x:Expr)(ct:Den.b3)(v:Bool)(X:aQ)(dx:Expr),sizeOf s<n->dC xp k g pg Φ X ct->Den.gY g ct v s x=true->(Den.m2 s=true->∃elts j p,dx=.Tuple elts j p)->hG X dx x (jY xp X ct.mu (ob v) λρ=>Den.hn pg Φ ρ s)/\nice x=true
def Ft(v:Bool):ob v=.view\/ob v=.val:=by cases v<;>simp[ob]
variable{n:Nat}
def JQ{ct:Den.b3}{v:Bool}{X:aQ}(aF:dC xp k g pg Φ X ct){i:Nat}{x:Str}{p:Pos}(h:(ct.N[i]?==some x&&Den.ju ct.sc x&&Den.okN x&&(v||!ct.mu.contains i))=true):Res xp X ct.mu v (Den.jc (.var i)) (.Name x p) (λρ=>Den.ev pg Φ ρ (.var i)):=by
 simp only[YX,ZL,aaq,ZM]at h;obtain⟨⟨⟨C,J⟩,aC⟩,aT⟩:=h;obtain⟨b9,cg,qL⟩:=gM aC;have aK:X.N[i]?=some x:=by rw[aF.nm];exact C
 have aN:=aF.hg J;refine⟨?_,λz=>(by cases z),kN (Hh aK aN b9 cg) λ_=>rfl,λ⟨_,_,_,z⟩=>(by cases z)⟩;cases v with
 |true=>exact Hh aK aN b9 cg
 |false =>
  rcases aT with aT|aT
  .cases aT
  .exact Vo (λz=>by rw[ZJ.mpr z]at aT;cases aT) aK aN b9 cg
def JD(aE:i5 xp k g pg Φ n){ct:Den.b3}{v:Bool}{X:aQ}(aF:dC xp k g pg Φ X ct){f:Nat}{a:Den.A}(aa:sizeOf a<n){x:Str}{ah:List Expr}{p pos:Pos}(h:(g.fns[f]?==some x&&Den.o5 ct.sc x&&Den.okN x&&!ah.isEmpty&&Den.mv g ct a ah)=true):
  Res xp X ct.mu v (Den.jc (.call f a)) (.Call (.Name x p) ah [] pos) (λρ=>Den.ev pg Φ ρ (.call f a)):=by
 simp only[YX,ZL,ZM]at h;obtain⟨⟨⟨⟨C,J⟩,aC⟩,aT⟩,b6⟩:=h;obtain⟨b9,cg,qL⟩:=gM aC;obtain⟨bb,bL,df⟩:=aE.a a ah ct X aa aF b6;obtain⟨bg,fd,aS,aj,ak,bu,eR,qV⟩:=aF.cS.fn f x C;cases ah with
 |nil=>cases aT
 |cons e ah =>
  exact Res.pL (UE eR aF.room (aF.DL J) aj ak bu bb qV b9 (oB (bL e List.mem_cons_self)) (Ta λz hz=>bL z (List.mem_cons_of_mem _ hz))) (λ_=>rfl) (λ_ _ _ z=>by cases z) rfl
def JI(aE:i5 xp k g pg Φ n){ct:Den.b3}{v:Bool}{X:aQ}(aF:dC xp k g pg Φ X ct){t:Den.Ty}(ay:∀c,t=.cls c->False){a:Den.E}(aa:sizeOf a<n){x y:Str}{e:Expr}{p fb pos:Pos}(h:(x==("isinstance":Str)&&Den.e8 g ct.sc x&&y==Den.tyName t&&Den.e8 g ct.sc y&&Den.bU g ct true a e)=true):
  Res xp X ct.mu v (Den.jc (.prim (.inst t) a)) (.Call (.Name x p) [e,.Name y fb] [] pos) (λρ=>Den.ev pg Φ ρ (.prim (.inst t) a)):=by
 simp only[YX]at h;obtain⟨⟨⟨⟨C,J⟩,aC⟩,aT⟩,b6⟩:=h;have C:=hk C;have aC:=hk aC;subst C aC;have kv:∀c,t≠.cls c:=λc z=>ay c z
 obtain⟨b1,b2,dt,fq⟩:=Kg t kv;obtain⟨g1,g2⟩:=aF.blt J (by decide);obtain⟨g3,ly⟩:=aF.blt aT fq;have r:=aE.e a e ct true X aa aF b6;have ed:∀m,aM X (.Call (.Name "isinstance" p) [e,.Name (Den.tyName t) fb] [] pos) (bj xp X ct.mu m λρ=>Den.ev pg Φ ρ (.prim (.inst t) a)):=λm =>
  UZ (up:=pg.up) kv g1 g2 boot_isinstance g3 ly b1 r.view (by decide) (by decide) b2 dt (oB (fI b6))
 exact Res.kI ed (kN (ed _) λ_=>rfl) λ_ _ _ z=>by cases z
def JJ(aE:i5 xp k g pg Φ n){ct:Den.b3}{v:Bool}{X:aQ}(aF:dC xp k g pg Φ X ct){c:Nat}{a:Den.E}(aa:sizeOf a<n){x t:Str}{e:Expr}{p fb pos:Pos}(C:(x==("isinstance":Str))=true)(J:Den.e8 g ct.sc x=true)(b6:Den.bU g ct true a e=true):
  Res xp X ct.mu v (Den.jc (.prim (.inst (.cls c)) a)) (.Call (.Name x p) [e,.Name t fb] [] pos) (λρ=>Den.ev pg Φ ρ (.prim (.inst (.cls c)) a)):=by
 have C:=hk C;subst C;obtain⟨g1,g2⟩:=aF.blt J (by decide);have r:=aE.e a e ct true X aa aF b6;have ed:∀m,aM X (.Call (.Name "isinstance" p) [e,.Name t fb] [] pos) (bj xp X ct.mu m λρ=>Den.ev pg Φ ρ (.prim (.inst (.cls c)) a)):=λm =>
  U0 (up:=pg.up) (c:=c) g1 g2 boot_isinstance r.view (by decide) (by decide) (oB (fI b6))
 exact Res.kI ed (kN (ed _) λ_=>rfl) λ_ _ _ z=>by cases z
def Ck{ct:Den.b3}{v:Bool}{a:Den.E}{x:Expr}(h:Den.gY g ct v (.fk a) x=true):∃m p y pos,x=.Call (.Name m p) [y] [] pos/\m="range"/\Den.e8 g ct.sc m=true/\Den.bU g ct true a y=true:=by
 rw[Den.gY]at h
 split at h
 .rename_i m y aj;obtain⟨p,pos,rfl⟩:=m8 aj;simp only[YX]at h;exact⟨m,p,y,pos,rfl,hk h.1.1,h.1.2,h.2⟩
 .cases h
def JL(aE:i5 xp k g pg Φ n){ct:Den.b3}{v:Bool}{X:aQ}(aF:dC xp k g pg Φ X ct){s:Den.I}(aa:sizeOf s<=n){x:Str}{e:Expr}{p pos:Pos}(h:(x==("tuple":Str)&&Den.e8 g ct.sc x&&Den.vx s&&Den.gY g ct true s e)=true):
  aM X (.Call (.Name x p) [e] [] pos) (bj xp X ct.mu .val λρ=>Den.ev pg Φ ρ (.tupI s)):=by
 simp only[YX]at h;obtain⟨⟨⟨C,J⟩,aC⟩,aT⟩:=h;have C:=hk C;subst C;obtain⟨g1,g2⟩:=aF.blt J (by decide);cases s with
 |seq a =>
  rw[Den.gY]at aT;have r:=aE.e a e ct true X (by simp at aa;omega) aF aT;have aj:(λρ=>Den.ev pg Φ ρ (.tupI (.seq a)))=λρ=>Den.ev pg Φ ρ a>>=λd=>Den.ez d>>=λds=>.ok (.tup ds):=funext λρ=>by
   rw[Den.ye,Den.tG];cases Den.ev pg Φ ρ a<;>rfl
  rw[aj];exact G9 (m:=.val) Vy NI g1 g2 (by kernel_rfl) r.view (by decide) (by decide) (hT (fI aT))
 |fk a =>
  obtain⟨m,aU,y,bq,rfl,a8,aR,bz⟩:=Ck aT;obtain⟨g3,ly⟩:=aF.blt aR (by rw[a8];decide);have r:=aE.e a y ct true X (by simp at aa;omega) aF bz;exact Vn aF.calm a8 rfl g3 ly g1 g2 r.view (hT (fI bz))
 |_=>cases aC
def JK(aE:i5 xp k g pg Φ n){ct:Den.b3}{v:Bool}{X:aQ}(aF:dC xp k g pg Φ X ct){s:Den.I}(aa:sizeOf s<=n){x:Str}{e:Expr}{p pos:Pos}(h:(x==("list":Str)&&Den.e8 g ct.sc x&&Den.vx s&&Den.gY g ct true s e)=true):
  aM X (.Call (.Name x p) [e] [] pos) (bj xp X ct.mu .fresh λρ=>Den.ev pg Φ ρ (.kE s)):=by
 simp only[YX]at h;obtain⟨⟨⟨C,J⟩,aC⟩,aT⟩:=h;have C:=hk C;subst C;obtain⟨g1,g2⟩:=aF.blt J (by decide);cases s with
 |seq a =>
  rw[Den.gY]at aT;have r:=aE.e a e ct true X (by simp at aa;omega) aF aT;have aj:(λρ=>Den.ev pg Φ ρ (.kE (.seq a)))=λρ=>Den.ev pg Φ ρ a>>=λd=>Den.ez d>>=λds=>.ok (.lst ds):=funext λρ=>by
   rw[Den.C9,Den.tG];cases Den.ev pg Φ ρ a<;>rfl
  rw[aj];exact G9 (m:=.fresh) Vw f_list g1 g2 (by kernel_rfl) r.view (by decide) (by decide) (hT (fI aT))
 |fk a =>
  obtain⟨m,aU,y,bq,rfl,a8,aR,bz⟩:=Ck aT;obtain⟨g3,ly⟩:=aF.blt aR (by rw[a8];decide);have r:=aE.e a y ct true X (by simp at aa;omega) aF bz;exact U5 aF.calm a8 rfl g3 ly g1 g2 r.view (hT (fI bz))
 |_=>cases aC
def BM(aE:i5 xp k g pg Φ n){ct:Den.b3}{X:aQ}(aF:dC xp k g pg Φ X ct){e:Den.E}{j:Nat}{s:Den.I}{c:Den.O}(aa:sizeOf e<n/\sizeOf s<n/\sizeOf c<n){x t it:Expr}{ifs:List Expr}{sc:Scope}{pos:Pos}{xs:List Str}(ax:Den.fm j t=some xs)(h:((!Den.m2 s||j==2)&&Den.qF ct sc xs&&Den.gY g ct true s it&&Den.bU g ⟨Den.mask ct.N xs++xs,sc,ct.mu⟩ false e x&&Den.nG g ⟨Den.mask ct.N xs++xs,sc,ct.mu⟩ c ifs)=true):
  oJ X sc xs (Den.mask ct.N xs++xs)/\(∀z,foldedSetIterable it X.env z=pure z)/\hG X t it (jY xp X ct.mu .view λρ=>Den.hn pg Φ ρ s)/\(∀s3 bP bI pins,aM (hj X sc (Den.mask ct.N xs++xs) s3 bP bI pins) x (bj xp (hj X sc (Den.mask ct.N xs++xs) s3 bP bI pins) ct.mu .val λρ=>Den.ev pg Φ ρ e)) /\
   qw xp X ct.mu sc (Den.mask ct.N xs++xs) ifs (λρ=>Den.lq pg Φ ρ c)/\(λρ=>Den.ev pg Φ ρ (.comp e j s c))=λρ=>Den.hn pg Φ ρ s>>=λds=>Den.iZ (Den.da (jb j (λρ=>Den.lq pg Φ ρ c) (λρ=>Den.ev pg Φ ρ e) ρ) ds)>>=λys=>.ok (.lst ys):=by
 simp only[YX]at h;obtain⟨⟨⟨⟨h0,C⟩,tZ⟩,DP⟩,h1⟩:=h;have B:=Kd C;have ze:Den.m2 s=true->∃elts j p,t=.Tuple elts j p:=λaz=>by
  rw[az]at h0;have aJ:j=2:=(by simpa using h0);subst aJ;cases t with
  |Tuple elts j p=>exact⟨elts,j,p,rfl⟩
  |_=>simp only[Den.fm]at ax;cases ax
 obtain⟨e3,g0⟩:=aE.i s it ct true X t aa.2.1 aF tZ ze;refine⟨B.block aF,set_plain g0,e3,λs3 bP bI pins=>(aE.e e x _ false _ aa.1 (B.ok aF s3 bP bI pins) DP).ed,?_,rfl⟩;cases c with
 |none =>
  cases ifs with
  |nil=>exact .inl ⟨rfl,rfl⟩
  |cons _ _=>unfold Den.nG at h1;cases h1
 |some ak =>
  match ifs,h1 with
  |[],h1=>unfold Den.nG at h1;cases h1
  |[b5],h1 =>
   refine .inr ⟨b5,λρ=>Den.ev pg Φ ρ ak,rfl,rfl,λs3 bP bI pins=>?_⟩;have h1:Den.bU g ⟨Den.mask ct.N xs++xs,sc,ct.mu⟩ true ak b5=true:=(by unfold Den.nG at h1;exact h1);exact(aE.e ak b5 _ true _ (by have:=aa.2.2;simp at this;omega) (B.ok aF s3 bP bI pins) h1).pt
  |_::_::_,h1=>unfold Den.nG at h1;cases h1
end
section
variable{xp:cu}{k:Nat}{g:Den.Gt}{pg:Den.dy}{Φ:Den.dW}{n:Nat}
def EW{ah:List Expr}(h:ah.length<=1000):ah.length<=sizeLine:=by rw[sizeLine_eq];omega
def XB{ct:Den.b3}{x:Str}{t:Den.Ty}{a y e:Expr}(h:Den.vY g ct x t a y=some e):a=e/\∃m p,y=.Name m p/\(x==("isinstance":Str))=true/\Den.e8 g ct.sc x=true/\((∀c,t≠.cls c)->(m==Den.tyName t&&Den.e8 g ct.sc m)=true):=by
 unfold Den.vY at h
 split at h
 .rename_i m ak;obtain⟨p,rfl⟩:=hb ak
  split at h
  .rename_i ag;cases h;rw[YX,YX]at ag;exact⟨rfl,m,p,rfl,ag.1.1,ag.1.2,λay=>by cases t<;>first|exact ag.2|exact(ay _ rfl).elim⟩
  .cases h
 .cases h
def XC{ct:Den.b3}{x:Str}{a e:Expr}(h:Den.vZ g ct x a=some e):∃y p q,a=.Call (.Name y p) [e] [] q/\(x==("sorted":Str))=true/\Den.e8 g ct.sc x=true/\(y==("set":Str))=true/\Den.e8 g ct.sc y=true:=by
 unfold Den.vZ at h
 split at h
 .rename_i y b ak;obtain⟨py,bb,rfl⟩:=m8 ak
  split at h
  .rename_i ag;cases h;simp only[YX]at ag;exact⟨y,py,bb,rfl,ag.1.1.1,ag.1.1.2,ag.1.2,ag.2⟩
  .cases h
 .cases h
def qa{ct:Den.b3}{x:Str}{q:Den.eC}{ah:List Expr}{e:Expr}(h:(match ah with|[e]=>if Den.si q&&x==Den.sh q&&Den.e8 g ct.sc x then some e else none|_=>none)=some e):ah=[e]/\Den.si q=true/\(x==Den.sh q)=true/\Den.e8 g ct.sc x=true:=by
 match ah,h with
 |[a],h =>
  simp only at h
  split at h
  .rename_i ag;cases h;simp only[YX]at ag;exact⟨rfl,ag.1.1,ag.1.2,ag.2⟩
  .cases h
def JN(aE:i5 xp k g pg Φ n){ct:Den.b3}{v:Bool}{X:aQ}(aF:dC xp k g pg Φ X ct){pr:Den.eC}{a:Den.E}(aa:sizeOf a<n){x:Str}{ah:List Expr}{e:Expr}{p pos:Pos}(aN:Den.IK g ct x pr ah=some e)(h:Den.bU g ct true a e=true):
  Res xp X ct.mu v (Den.jc (.prim pr a)) (.Call (.Name x p) ah [] pos) (λρ=>Den.ev pg Φ ρ (.prim pr a)):=by
 have one:∀{q:Den.eC},ah=[e]/\Den.si q=true/\(x==Den.sh q)=true/\Den.e8 g ct.sc x=true->Res xp X ct.mu v (Den.jc (.prim q a)) (.Call (.Name x p) ah [] pos) (λρ=>Den.ev pg Φ ρ (.prim q a)):=λ{q} ⟨h0,C,J,aC⟩=>by
  subst h0;have cb:=aE.e a e ct true X aa aF h;exact Res.oi (Va (m:=.fresh) aF C (hk J) aC cb.view (fI h)) (λ_=>rfl) (λ_ _ _ z=>by cases z)
 cases pr with
 |inst t =>
  match ah,aN with
  |[bp,y],aN =>
   have aN:Den.vY g ct x t bp y=some e:=aN;obtain⟨rfl,m,fb,rfl,C,J,aC⟩:=XB aN
   by_cases ay:∃c,t=.cls c
   .obtain⟨c,rfl⟩:=ay;exact JJ aE aF aa C J h
   .refine JI aE aF (λc ag=>ay ⟨c,ag⟩) aa ?_;have aC:=aC λc ag=>ay ⟨c,ag⟩
    rw[YX]at aC;simp only[YX];exact⟨⟨⟨⟨C,J⟩,aC.1⟩,aC.2⟩,h⟩
 |eZ =>
  match ah,aN with
  |[bp],aN =>
   have aN:Den.vZ g ct x bp=some e:=aN;obtain⟨y,bb,bL,rfl,C,J,aC,aT⟩:=XC aN;obtain⟨g1,g2⟩:=aF.blt J (by rw[hk C];decide);obtain⟨g3,ly⟩:=aF.blt aT (by rw[hk aC];decide);have cb:=aE.e a e ct true X aa aF h;exact Res.oi (Vl aF.calm aF.units (hk C) (hk aC) g1 g2 g3 ly cb.view (hT (fI h))) (λ_=>rfl) (λ_ _ _ z=>by cases z)
 |len=>exact one (qa aN)
 |sorted=>exact one (qa aN)
 |sum=>exact one (qa aN)
 |max=>exact one (qa aN)
 |all=>exact one (qa aN)
 |any=>exact one (qa aN)
def IB{z:Expr}{n k:Str}(h:Den.vW z=some (n,k)):∃bb bL pos,z=.Subscript (.Name n bb) (.Name k bL) pos:=by
 unfold Den.vW at h
 split at h
 .rename_i x y aj;obtain⟨pos,rfl⟩:=vX aj
  split at h
  .rename_i cn dd ak bu;cases h;obtain⟨bb,rfl⟩:=hb ak;obtain⟨bL,rfl⟩:=hb bu;exact⟨bb,bL,pos,rfl⟩
  .cases h
 .cases h
def Xu{z:Expr}{n k:Str}(h:Den.A9 z=some (n,k)):∃bb bL pos,z=.Dict [some (.Name n bb)] [.Name k bL] pos:=by
 unfold Den.A9 at h
 split at h
 .cases h;exact⟨_,_,_,rfl⟩
 .cases h
def uD{z:Expr}(h:Den.uC z=true):∃kJ,z=.Dict [] [] kJ:=by
 unfold Den.uC at h
 split at h
 .exact⟨_,rfl⟩
 .cases h
def pI{ct:Den.b3}{i:Nat}{n:Str}(h:Den.mT ct i n=true):ct.N[i]?=some n/\Den.ju ct.sc n=true/\Den.okN n=true/\i∈ct.mu:=by
 unfold Den.mT at h;simp only[YX,ZL]at h;exact⟨h.1.1.1,h.1.1.2,h.1.2,ZJ.mp h.2⟩
def pO{ct:Den.b3}{i:Nat}{n:Str}(h:Den.m3 ct i n=true):ct.N[i]?=some n/\Den.ju ct.sc n=true/\Den.okN n=true/\i∉ct.mu:=by
 unfold Den.m3 at h;simp only[YX,ZL,ZM]at h;exact⟨h.1.1.1,h.1.1.2,h.1.2,λz=>by rw[ZJ.mpr z]at h;cases h.2⟩
def wG{ct:Den.b3}{i:Nat}{n:Str}(h:Den.qz ct i n=true):ct.N[i]?=some n/\Den.ju ct.sc n=true/\Den.okN n=true:=by
 unfold Den.qz at h;simp only[YX,ZL]at h;exact⟨h.1.1,h.1.2,h.2⟩
def A6{x o:Expr}{n:Str}{p:Pos}(h:Den.vT x=some (o,n,p)):x=.Attribute o n p:=by
 cases x with
 |Attribute o n p=>cases h;rfl
 |_=>exact nn h
def Ir{z y:Expr}{x n:Str}{ap:Pos}(h:Den.vS z=some (x,n,ap,y)):∃p dZ,z=.Call (.Attribute (.Name x p) n ap) [y] [] dZ:=by
 unfold Den.vS at h
 split at h
 .rename_i f v9 aj;obtain⟨dZ,rfl⟩:=vV aj
  split at h
  .rename_i o cn Jy ak;obtain rfl:=A6 ak
   split at h
   .rename_i nd bu;obtain⟨p,rfl⟩:=hb bu;cases h;exact⟨p,dZ,rfl⟩
   .cases h
  .cases h
 .cases h
def Xv{z:Expr}{x y:Str}{ap:Pos}(h:Den.Ba z=some (x,y,ap)):∃bb bL c df dZ,z=.Call (.Attribute (.Name x bb) "get" ap) [.Name y bL,.Tuple [] c df] [] dZ:=by
 unfold Den.Ba at h
 split at h
 .rename_i f k o aj;obtain⟨dZ,rfl⟩:=vV aj
  split at h
  .rename_i d n Jy ak;obtain rfl:=A6 ak
   split at h
   .rename_i nd v9 bu eR qV
    split at h
    .rename_i my;cases h;obtain⟨bb,rfl⟩:=hb bu;obtain⟨bL,rfl⟩:=hb eR;obtain⟨c,df,rfl⟩:=ID qV;obtain rfl:=hk my;exact⟨bb,bL,c,df,dZ,rfl⟩
    .cases h
   .cases h
  .cases h
 .cases h
def V6(aE:i5 xp k g pg Φ n)(e:Den.E)(x:Expr)(ct:Den.b3)(v:Bool)(X:aQ)(aa:sizeOf e<n+1)(aF:dC xp k g pg Φ X ct)(h:Den.bU g ct v e x=true):Res xp X ct.mu v (Den.jc e) x (λρ=>Den.ev pg Φ ρ e):=by
 cases e with
 |var i =>
  rw[Den.bU]at h
  split at h
  .rename_i y aj;obtain⟨p,rfl⟩:=hb aj;exact JQ aF h
  .cases h
 |lit d =>
  rw[Den.bU]at h
  split at h
  .rename_i c aj;obtain⟨dU,p,rfl⟩:=Iy aj;exact Res.kI (λm=>Hb h) (kN (Hb h) λ_=>rfl) λ_ _ _ z=>by cases z
  .cases h
 |tup a =>
  rw[Den.bU]at h
  split at h
  .rename_i ah aj;obtain⟨j,p,rfl⟩:=ID aj;simp only[YX,Zf]at h;obtain⟨bb,bL,df⟩:=aE.a a ah ct X (by simp at aa;omega) aF h.1;exact Res.pL (Hg bb λρ ds q=>by rw[df ρ ds q];exact EW h.2) (λ_=>rfl) (λ_ _ _ z=>by cases z) rfl
  .cases h
 |lst a =>
  rw[Den.bU]at h
  split at h
  .rename_i ah aj;obtain⟨p,rfl⟩:=Xx aj;simp only[YX,Zf]at h;obtain⟨bb,bL,df⟩:=aE.a a ah ct X (by simp at aa;omega) aF h.1;exact Res.oi (U4 bb λρ ds q=>by rw[df ρ ds q];exact EW h.2) (λ_=>rfl) (λ_ _ _ z=>by cases z)
  .cases h
 |bin op a b =>
  rw[Den.bU]at h
  split at h
  .rename_i x o y aj;obtain⟨p,rfl⟩:=Xt aj;simp only[YX]at h;have cb:=aE.e a x ct true X (by simp at aa;omega) aF h.1.2;have dA:=aE.e b y ct true X (by simp at aa;omega) aF h.2;exact Res.oi (UC (J6 op) (UD h.1.1) cb.view dA.view) (λ_=>rfl) (λ_ _ _ z=>by cases z)
  .cases h
 |not a =>
  rw[Den.bU]at h
  split at h
  .rename_i x aj;obtain⟨p,rfl⟩:=IE aj;have cb:=aE.e a x ct true X (by simp at aa;omega) aF h;exact Res.kI (λm=>U7 cb.view) (U8 cb.pt) λ_ _ _ z=>by cases z
  .cases h
 |cmp op a b =>
  rw[Den.bU]at h
  split at h
  .rename_i x o y aj;obtain⟨p,rfl⟩:=Iu aj;simp only[YX]at h;have cb:=aE.e a x ct true X (by simp at aa;omega) aF h.1.2;have dA:=aE.e b y ct true X (by simp at aa;omega) aF h.2;have hm:=Fq (op:=o) (fI h.2);exact Res.kI (λm=>UG (pV aF h.1.1) cb.view dA.view hm) (UJ (pV aF h.1.1) cb.view dA.view hm) λ_ _ _ z=>by cases z
  .cases h
 |tp op op' a b c =>
  rw[Den.bU]at h
  split at h
  .rename_i x o bG y z aj;obtain⟨p,rfl⟩:=Iu aj;simp only[YX]at h;obtain⟨⟨⟨⟨C,J⟩,aC⟩,aT⟩,b6⟩:=h;have cb:=aE.e a x ct true X (by simp at aa;omega) aF aC;have dA:=aE.e b y ct true X (by simp at aa;omega) aF aT;have rc:=aE.e c z ct true X (by simp at aa;omega) aF b6;have hm:=QO (op:=o) (op':=bG) (b:=y) (fI b6);exact Res.kI (λm=>UH (pV aF C) (pV aF J) cb.view dA.view rc.view hm) (UI (pV aF C) (pV aF J) cb.view dA.view rc.view hm) λ_ _ _ z=>by cases z
  .cases h
 |and a b =>
  rw[Den.bU]at h
  split at h
  .rename_i x y p aj;obtain rfl:=vU aj;simp only[YX]at h;have cb:=aE.e a x ct true X (by simp at aa;omega) aF h.1;have dA:=aE.e b y ct v X (by simp at aa;omega) aF h.2;have iD:=G6 (pos:=p) cb.pt (TH dA.pt);exact⟨G5 cb.view (Gf dA.ed),λz=>(by cases z),iD.pt,λ_=>iD⟩
  .rename_i x y z r p aj;obtain rfl:=vU aj;simp only[YX]at h;have cb:=aE.e a x ct true X (by simp at aa;omega) aF h.1;have dA:=aE.e b _ ct v X (by simp at aa;omega) aF h.2;have iD:=G6 (pos:=p) cb.pt (dA.iD ⟨_,_,_,rfl⟩);exact⟨G5 cb.view dA.ed,λz=>(by cases z),iD.pt,λ_=>iD⟩
  .cases h
 |or a b =>
  rw[Den.bU]at h
  split at h
  .rename_i x y p aj;obtain rfl:=vU aj;simp only[YX]at h;have cb:=aE.e a x ct true X (by simp at aa;omega) aF h.1;have dA:=aE.e b y ct v X (by simp at aa;omega) aF h.2;have iD:=Hf (pos:=p) cb.pt (TK dA.pt);exact⟨He cb.view (Gf dA.ed),λz=>(by cases z),iD.pt,λ_=>iD⟩
  .rename_i x y z r p aj;obtain rfl:=vU aj;simp only[YX]at h;have cb:=aE.e a x ct true X (by simp at aa;omega) aF h.1;have dA:=aE.e b _ ct v X (by simp at aa;omega) aF h.2;have iD:=Hf (pos:=p) cb.pt (dA.iD ⟨_,_,_,rfl⟩);exact⟨He cb.view dA.ed,λz=>(by cases z),iD.pt,λ_=>iD⟩
  .cases h
 |idx a b =>
  rw[Den.bU]at h
  split at h
  .rename_i x y aj;obtain⟨p,rfl⟩:=vX aj;simp only[YX]at h;have cb:=aE.e a x ct true X (by simp at aa;omega) aF h.1;have dA:=aE.e b y ct true X (by simp at aa;omega) aF h.2;exact Res.pL (UX cb.view dA.view (Qr (fI h.2))) (λ_=>rfl) (λ_ _ _ z=>by cases z) rfl
  .cases h
 |slice a lo ai =>
  rw[Den.bU]at h
  split at h
  .rename_i x y aj;obtain⟨p,rfl⟩:=vX aj
   split at h
   .rename_i l u ak;obtain⟨fb,rfl⟩:=Xy ak;simp only[YX]at h;have cb:=aE.e a x ct true X (by simp at aa;omega) aF h.1.1;have so:=aE.o lo l ct X (by simp at aa;omega) aF h.1.2;have T8:=aE.o ai u ct X (by simp at aa;omega) aF h.2;exact Res.oi (Vj cb.view so T8) (λ_=>rfl) (λ_ _ _ z=>by cases z)
   .cases h
  .cases h
 |call f a =>
  rw[Den.bU]at h
  split at h
  .rename_i x ah aj;obtain⟨p,q,rfl⟩:=m8 aj;exact JD aE aF (by simp at aa;omega) h
  .cases h
 |prim pr a =>
  rw[Den.bU]at h
  split at h
  .rename_i x ah aj;obtain⟨p,q,rfl⟩:=m8 aj
   split at h
   .rename_i e ak;exact JN aE aF (by simp at aa;omega) ak h
   .cases h
  .cases h
 |gZ i j =>
  rw[Den.bU]at h
  split at h
  .rename_i cn dd aj;obtain⟨bb,bL,pos,rfl⟩:=IB aj;rw[YX]at h;obtain⟨a1,a2,eI⟩:=wG h.1;obtain⟨b1,b2,dt,fq⟩:=pO h.2;obtain⟨b9,cg,_⟩:=gM eI;obtain⟨f1,f2,_⟩:=gM dt;have az:∀m,aM X (.Subscript (.Name cn bb) (.Name dd bL) pos) (bj xp X ct.mu m λρ=>Den.kf ρ[i]? ρ[j]?):=λm=>UL aF.units fq (by rw[aF.nm];exact a1) (aF.hg a2) b9 cg (by rw[aF.nm];exact b1) (aF.hg b2) f1 f2
   exact Res.kI az (kN (az .view) λ_=>rfl) λ_ _ _ z=>by cases z
  .cases h
 |nK i j =>
  rw[Den.bU]at h
  split at h
  .rename_i x y ap aj;obtain⟨bb,bL,c,df,dZ,rfl⟩:=Xv aj;simp only[YX,ZL]at h;obtain⟨⟨C,J⟩,aC⟩:=h;obtain⟨a1,a2,eI,hI⟩:=pI C;obtain⟨b1,b2,dt,fq⟩:=pO J;obtain⟨b9,cg,_⟩:=gM eI;obtain⟨f1,f2,_⟩:=gM dt;have aC:ap.endLine=dZ.line:=aC;have az:∀m,aM X (.Call (.Attribute (.Name x bb) "get" ap) [.Name y bL,.Tuple [] c df] [] dZ) (bj xp X ct.mu m λρ=>Den.oV ρ[i]? ρ[j]?):=λm=>UM aF.units hI fq (by rw[aF.nm];exact a1) (aF.hg a2) b9 cg (by rw[aF.nm];exact b1) (aF.hg b2) f1 f2 (by simpa using aC)
   exact Res.kI az (kN (az .view) λ_=>rfl) λ_ _ _ z=>by cases z
  .cases h
 |kD i j =>
  rw[Den.bU]at h
  split at h
  .rename_i x cn ap y aj;obtain⟨bb,dZ,rfl⟩:=Ir aj
   split at h
   .rename_i dd ak;obtain⟨bL,rfl⟩:=hb ak;simp only[YX]at h;obtain⟨⟨⟨C,J⟩,aC⟩,aT⟩:=h;obtain⟨a1,a2,eI⟩:=wG aC;obtain⟨b1,b2,dt⟩:=wG aT;obtain⟨b9,cg,_⟩:=gM eI;obtain⟨f1,f2,_⟩:=gM dt;have az:∀m,aM X (.Call (.Attribute (.Name x bb) cn ap) [.Name dd bL] [] dZ) (bj xp X ct.mu m λρ=>Den.pA ρ[i]? ρ[j]?):=λm=>U3 aF.units (hk C) J (by rw[aF.nm];exact a1) (aF.hg a2) b9 cg (by rw[aF.nm];exact b1) (aF.hg b2) f1 f2
    exact Res.kI az (kN (az .view) λ_=>rfl) λ_ _ _ z=>by cases z
   .cases h
  .cases h
 |oW i j =>
  rw[Den.bU]at h
  split at h
  .rename_i cn dd aj;obtain⟨bb,bL,pos,rfl⟩:=Xu aj;rw[YX]at h;obtain⟨a1,a2,eI,hI⟩:=pO h.1;obtain⟨b1,b2,dt,fq⟩:=pO h.2;obtain⟨b9,cg,_⟩:=gM eI;obtain⟨f1,f2,_⟩:=gM dt;exact Res.pL (UN hI fq (by rw[aF.nm];exact a1) (aF.hg a2) b9 cg (by rw[aF.nm];exact b1) (aF.hg b2) f1 f2) (λ_=>rfl) (λ_ _ _ z=>by cases z) rfl
  .cases h
 |oX =>
  rw[Den.bU]at h;obtain⟨kJ,rfl⟩:=uD h;exact Res.pL UR (λ_=>rfl) (λ_ _ _ z=>by cases z) rfl
 |neg a =>
  rw[Den.bU]at h
  split at h
  .rename_i x aj;obtain⟨p,rfl⟩:=IE aj;have cb:=aE.e a x ct true X (by simp at aa;omega) aF h;exact Res.kI (λm=>Hc cb.view) (kN (Hc cb.view) λ_=>rfl) λ_ _ _ z=>by cases z
  .cases h
 |ite c a b =>
  rw[Den.bU]at h
  split at h
  .rename_i x y w aj;obtain⟨p,rfl⟩:=Xw aj;simp only[YX]at h;have rc:=aE.e c x ct true X (by simp at aa;omega) aF h.1.1;have cb:=aE.e a y ct false X (by simp at aa;omega) aF h.1.2;have dA:=aE.e b w ct false X (by simp at aa;omega) aF h.2;refine⟨?_,λz=>(by cases z),U2 rc.pt cb.pt dA.pt,λ⟨_,_,_,z⟩=>(by cases z)⟩;cases v with
   |true=>exact Ha rc.pt cb.view dA.view
   |false=>exact Ha rc.pt cb.val dA.val
  .cases h
 |tupI s =>
  rw[Den.bU]at h
  split at h
  .rename_i x e aj;obtain⟨p,q,rfl⟩:=m8 aj;exact Res.pL (JL (v:=v) aE aF (by simp at aa;omega) h) (λ_=>rfl) (λ_ _ _ z=>by cases z) rfl
  .cases h
 |kE s =>
  rw[Den.bU]at h
  split at h
  .rename_i x e aj;obtain⟨p,q,rfl⟩:=m8 aj;exact Res.oi (JK (v:=v) aE aF (by simp at aa;omega) h) (λ_=>rfl) (λ_ _ _ z=>by cases z)
  .cases h
 |comp e j s c =>
  rw[Den.bU]at h
  split at h
  .rename_i x t it ifs sc aj;obtain⟨p,rfl⟩:=Iw aj
   split at h
   .rename_i xs ax;obtain⟨B,e3,g0,ky,rK,zq⟩:=BM (pos:=p) aE aF (by simp at aa;omega) ax h;rw[zq];exact Res.oi (Az aF.calm (by rw[aF.nm];exact aF.mu) B ax e3 g0 ky rK) (λ_=>rfl) (λ_ _ _ z=>by cases z)
   .cases h
  .cases h
def V4(aE:i5 xp k g pg Φ n)(a:Den.A)(ah:List Expr)(ct:Den.b3)(X:aQ)(aa:sizeOf a<n+1)(aF:dC xp k g pg Φ X ct)(h:Den.mv g ct a ah=true):fO X ah (m7 xp X ct.mu λρ=>Den.hZ pg Φ ρ a)/\(∀e∈ah,nice e=true)/\∀ρ ds,Den.hZ pg Φ ρ a=.ok ds->ds.length=ah.length:=by
 unfold Den.mv at h
 split at h
 .exact⟨Hd,by simp,λρ ds q=>by rw[Den.C1]at q;cases q;rfl⟩
 .rename_i e a x xs;simp only[YX]at h;have re:=aE.e e x ct false X (by simp at aa;omega) aF h.1;obtain⟨bb,bL,df⟩:=aE.a a xs ct X (by simp at aa;omega) aF h.2;refine⟨UK re.val bb (oB (fI h.1)),λz hz=>?_,λρ ds q=>?_⟩
  .rcases Y0.mp hz with rfl|hz
   .exact fI h.1
   .exact bL z hz
  .rw[Den.C0]at q;cases aU:Den.ev pg Φ ρ e with
   |ok d =>
    rw[aU]at q;simp only[Den.R.iB]at q;cases bq:Den.hZ pg Φ ρ a with
    |ok L9=>rw[bq]at q;cases q;simp[df ρ L9 bq]
    |exc c=>rw[bq]at q;cases q
    |bad=>rw[bq]at q;cases q
   |exc c=>rw[aU]at q;cases q
   |bad=>rw[aU]at q;cases q
 .cases h
def V7(aE:i5 xp k g pg Φ n)(o:Den.O)(x:Option Expr)(ct:Den.b3)(X:aQ)(aa:sizeOf o<n+1)(aF:dC xp k g pg Φ X ct)(h:Den.qI g ct o x=true):j7 X x (p4 xp X ct.mu λρ=>Den.mC pg Φ ρ o):=by
 unfold Den.qI at h
 split at h
 .exact U6
 .rename_i e x;exact U9 (aE.e e x ct true X (by simp at aa;omega) aF h).view
 .cases h
def stepI(aE:i5 xp k g pg Φ n)(s:Den.I)(x:Expr)(ct:Den.b3)(v:Bool)(X:aQ)(dx:Expr)(aa:sizeOf s<n+1)(aF:dC xp k g pg Φ X ct)(h:Den.gY g ct v s x=true)(az:Den.m2 s=true->∃elts j p,dx=.Tuple elts j p):
  hG X dx x (jY xp X ct.mu (ob v) λρ=>Den.hn pg Φ ρ s)/\nice x=true:=by
 cases s with
 |seq e =>
  rw[Den.gY]at h;exact⟨U1 (Ft v) (aE.e e x ct v X (by simp at aa;omega) aF h).ed,fI h⟩
 |fk a =>
  rw[Den.gY]at h
  split at h
  .rename_i x y aj;obtain⟨TL,p,rfl⟩:=m8 aj;simp only[YX]at h;obtain⟨⟨C,J⟩,aC⟩:=h;obtain⟨g1,g2⟩:=aF.blt J (by rw[hk C];decide);have cb:=aE.e a y ct true X (by simp at aa;omega) aF aC;exact⟨Vf (hk C) g1 g2 cb.view (hT (fI aC)),rfl⟩
  .cases h
 |vm a b =>
  rw[Den.gY]at h
  split at h
  .rename_i x y z aj;obtain⟨TL,p,rfl⟩:=m8 aj;simp only[YX]at h;obtain⟨⟨⟨C,J⟩,aC⟩,aT⟩:=h;obtain⟨g1,g2⟩:=aF.blt J (by rw[hk C];decide);have cb:=aE.e a y ct true X (by simp at aa;omega) aF aC;have dA:=aE.e b z ct true X (by simp at aa;omega) aF aT;exact⟨Vg (hk C) g1 g2 cb.view dA.view (V3 (fI aC) (fI aT)) (hT (fI aT)),rfl⟩
  .cases h
 |lg i =>
  rw[Den.gY]at h
  split at h
  .rename_i cn aj;obtain⟨p,rfl⟩:=hb aj;obtain⟨a1,a2,eI,hI⟩:=pO h;obtain⟨b9,cg,_⟩:=gM eI;exact⟨UW (Ft v) hI (by rw[aF.nm];exact a1) (aF.hg a2) b9 cg,rfl⟩
  .cases h
theorem nx:∀n,i5 xp k g pg Φ n
 |0=>⟨λ_ _ _ _ _ h=>by omega,λ_ _ _ _ h=>by omega,λ_ _ _ _ h=>by omega,λ_ _ _ _ _ _ h=>by omega⟩
 |n+1=>⟨V6 (nx n),V4 (nx n),V7 (nx n),stepI (nx n)⟩
def lP{e:Den.E}{x:Expr}{ct:Den.b3}{v:Bool}{X:aQ}(aF:dC xp k g pg Φ X ct)(h:Den.bU g ct v e x=true):Res xp X ct.mu v (Den.jc e) x (λρ=>Den.ev pg Φ ρ e):=(nx (sizeOf e+1)).e e x ct v X (aax _) aF h
end
def p2{x:Stmt}{ts:List Expr}{y:Expr}(h:Den.oC x=some (ts,y)):∃p,x=.Assign ts y p:=by
 cases x with
 |Assign a b p=>cases h;exact⟨p,rfl⟩
 |_=>exact nn h
def HW{x:Stmt}{y:Expr}(h:Den.AS x=some y):∃p,x=.Expr y p:=by
 cases x with
 |Expr a p=>cases h;exact⟨p,rfl⟩
 |_=>exact nn h
def vK{x:Stmt}{y:Option Expr}(h:Den.oD x=some y):∃p,x=.Return y p:=by
 cases x with
 |Return a p=>cases h;exact⟨p,rfl⟩
 |_=>exact nn h
def Wr{x:Stmt}{t:Expr}{a b:List Stmt}(h:Den.vJ x=some (t,a,b)):∃p,x=.If t a b p:=by
 cases x with
 |If t a b p=>cases h;exact⟨p,rfl⟩
 |_=>exact nn h
def Wo{x:Stmt}{t it:Expr}{a b:List Stmt}(h:Den.vI x=some (t,it,a,b)):∃p,x=.For t it a b p:=by
 cases x with
 |For t it a b p=>cases h;exact⟨p,rfl⟩
 |_=>exact nn h
structure me(xp:cu)(g:Den.Gt)(pg:Den.dy)(X:aQ)(ct:Den.b3):Prop where
 AN:X.stack=X.env::X.outer/\X.env.frame=some X.env.locals
 loc:∀x,Den.jQ ct.sc x=true->Loc X.env.scope x
 fn:∀x,X.fn x=true
 pass:PassesOwn (model X.prog X.w) X.A X.env X.cA
section
variable{xp:cu}{k:Nat}{g:Den.Gt}{pg:Den.dy}{Φ:Den.dW}
def KG{ct:Den.b3}{v:Bool}{e:Den.E}{x:Expr}{kj:List Comprehension}{sc:Scope}{pos:Pos}(h:Den.bU g ct v e (.ListComp x kj sc pos)=true):∃bp j s c t it ifs xs,e=.comp bp j s c/\kj=[⟨t,it,ifs,0⟩]/\Den.fm j t=some xs /\
  ((!Den.m2 s||j==2)&&Den.qF ct sc xs&&Den.gY g ct true s it&&Den.bU g ⟨Den.mask ct.N xs++xs,sc,ct.mu⟩ false bp x&&Den.nG g ⟨Den.mask ct.N xs++xs,sc,ct.mu⟩ c ifs)=true:=by
 cases e with
 |comp bp j s c =>
  rw[Den.bU]at h
  split at h
  .rename_i nd t it ifs YP aj;obtain⟨p,ak⟩:=Iw aj;cases ak
   split at h
   .rename_i xs ax;exact⟨bp,j,s,c,t,it,ifs,xs,rfl,rfl,ax,h⟩
   .cases h
  .cases h
 |_=>exact(ZS h).elim
def KZ(x:Expr):(∃y kj sc pos,x=.ListComp y kj sc pos)\/Den.uW x=true:=by
 cases x<;>first|exact .inr rfl|exact .inl ⟨_,_,_,_,rfl⟩
def JB {ct : Den.b3} {X : aQ} (aF : dC xp k g pg Φ X ct) (pe : ∀ x, Den.jQ ct.sc x = true -> Loc X.env.scope x) (nY : ∀ x, X.fn x = true) {i : Nat} {e : Den.E} {x : Str} {y : Expr} {p pos : Pos} (h : (ct.N[i]? == some x && Den.jQ ct.sc x && Den.okN x && (!ct.mu.contains i || Den.jc e) && Den.bU g ct false e y) = true) :
    dY X (.Assign [.Name x p] y pos) (dJ xp X ct.mu fun ρ => Den.ex pg Φ ρ (.asg i e)) := by
  simp only [YX, ZL, aaq, ZM] at h
  obtain ⟨⟨⟨⟨C, J⟩, aC⟩, aT⟩, b6⟩ := h
  have aK : X.N.Nodup := by rw [aF.nm]; exact aF.dP
  have ai : X.N[i]? = some x := by rw [aF.nm]; exact C
  have ao := pe x J
  have hf : X.fn x = true \/ X.env.scope.names.lookup x = some .local := .inl (nY x)
  rcases KZ y with ⟨z, kj, sc, pos', rfl⟩ | ag
  · obtain ⟨bp, j, s, c, t, it, ifs, xs, rfl, rfl, ax, dc⟩ := KG b6
    obtain ⟨B, e3, g0, ky, rK, zq⟩ := BM (pos := pos') (nx (xp := xp) (k := k) (pg := pg) (Φ := Φ) (sizeOf (Den.E.comp bp j s c))) aF (by simp only [Den.E.comp.sizeOf_spec]; omega) ax dc
    have aj : (fun ρ => Den.ex pg Φ ρ (.asg i (.comp bp j s c))) = fun ρ => (Den.hn pg Φ ρ s >>= fun ds => Den.iZ (Den.da (jb j (fun ρ => Den.lq pg Φ ρ c) (fun ρ => Den.ev pg Φ ρ bp) ρ) ds) >>= fun ys => .ok (.lst ys)) >>= fun d => .ok (.bJ (ρ.set i (some d))) := by
      funext ρ
      have := congrFun zq ρ
      rw [Den.Dd]
      rw [this]
    rw [aj]
    exact UB aF.calm (by rw [aF.nm]; exact aF.mu) B ax e3 g0 ky rK aK ai ao hf
  · have r := lP aF b6
    have jf := AQ (t := some (.Name x p)) (n := pos.line) (env := X.env) (fI b6) ag
    by_cases hm : i ∈ ct.mu
    · have OM : Den.jc e = true := by
        rcases aT with aT | aT
        · rw [ZJ.mpr hm] at aT; cases aT
        · exact aT
      exact G8 hm aK ai ao (r.fresh OM) jf hf
    · exact G7 hm aK ai ao r.val jf hf
def JC{ct:Den.b3}{X:aQ}(aF:dC xp k g pg Φ X ct)(pe:∀x,Den.jQ ct.sc x=true->Loc X.env.scope x)(nY:∀x,X.fn x=true){i:Nat}{e:Den.E}{st:Stmt}(h:Den.xM g ct i e st=true):
  dY X st (dJ xp X ct.mu λρ=>Den.ex pg Φ ρ (.asg i e)):=by
 unfold Den.xM at h
 split at h
 .rename_i t y aj;obtain⟨pos,rfl⟩:=p2 aj
  split at h
  .rename_i x ak;obtain⟨p,rfl⟩:=hb ak;exact JB aF pe nY h
  .cases h
 .cases h
def BN{ct:Den.b3}{i:Nat}{e:Den.E}{nm:Str}{st:Stmt}(h:Den.tm g ct i e nm st=true):∃x n ap y bb dZ gN,st=.Expr (.Call (.Attribute (.Name x bb) n ap) [y] [] dZ) gN/\(ap.endLine==dZ.line)=true/\ct.N[i]?=some x/\Den.ju ct.sc x=true/\Den.okN x=true/\i∈ct.mu/\n=nm/\Den.bU g ct false e y=true:=by
 unfold Den.tm at h
 split at h
 .rename_i c aj;obtain⟨pos,rfl⟩:=HW aj
  split at h
  .rename_i x n ap y ak;obtain⟨bb,dZ,rfl⟩:=Ir ak;simp only[YX,ZL]at h;obtain⟨⟨⟨⟨⟨⟨h0,C⟩,J⟩,aC⟩,aT⟩,b6⟩,f6⟩:=h;have h0:ap.endLine=dZ.line:=h0;exact⟨x,n,ap,y,bb,dZ,pos,rfl,by simpa using h0,C,J,aC,ZJ.mp aT,b6,f6⟩
  .cases h
 .cases h
theorem Cj{ct:Den.b3}:∀{ts:List Nat}{xs:List Str},Den.oU ct ts xs=true->ts.length=xs.length/\(∀t∈ts,t∉ct.mu)/\∀(j i:Nat) y,ts[j]?=some i->xs[j]?=some y->ct.N[i]?=some y/\Den.jQ ct.sc y=true
 |[],[],_=>⟨rfl,by simp,λj i y e=>by simp at e⟩
 |[],_::_,h=>by unfold Den.oU at h;cases h
 |_::_,[],h=>by unfold Den.oU at h;cases h
 |t::ts,x::xs,h=>by
  unfold Den.oU at h;simp only[YX,ZL,ZM]at h;obtain⟨⟨⟨⟨C,J⟩,aC⟩,aT⟩,b6⟩:=h;obtain⟨aG,aZ,ee⟩:=Cj b6;refine⟨by simp[aG],λz hz=>?_,λj i y aj ak=>?_⟩
  .rcases Y0.mp hz with rfl|hz
   .intro w;rw[ZJ.mpr w]at aT;cases aT
   .exact aZ z hz
  .cases j with
   |zero=>simp at aj ak;subst aj ak;exact⟨C,J⟩
   |succ j=>exact ee j i y (by simpa using aj) (by simpa using ak)
variable(xp k g pg Φ) in
structure fN (n:Nat):Prop where
 s:∀(s:Den.S)(st:Stmt)(ct:Den.b3)(X:aQ),sizeOf s<n->dC xp k g pg Φ X ct->me xp g pg X ct->Den.k8 g ct s st=true->dY X st (dJ xp X ct.mu λρ=>Den.ex pg Φ ρ s)
 b:∀(b:Den.B)(st:List Stmt)(ct:Den.b3)(X:aQ),sizeOf b<n->dC xp k g pg Φ X ct->me xp g pg X ct->Den.jF g ct b st=true->gV X st (dJ xp X ct.mu λρ=>Den.eF pg Φ ρ b)
variable{n:Nat}
def JE{ct:Den.b3}{X:aQ}(aF:dC xp k g pg Φ X ct)(bh:me xp g pg X ct){i:Nat}{st:Stmt}(h:Den.k7 ct i st=true):dY X st (dJ xp X ct.mu λρ=>Den.ex pg Φ ρ (.nM i)):=by
 unfold Den.k7 at h
 split at h
 .rename_i t y aj;obtain⟨pos,rfl⟩:=p2 aj
  split at h
  .rename_i x ak;obtain⟨bb,rfl⟩:=hb ak;simp only[YX,ZL]at h;obtain⟨⟨⟨⟨C,J⟩,aC⟩,aT⟩,b6⟩:=h;obtain⟨kJ,rfl⟩:=uD b6;exact UO (ZJ.mp aT) (by rw[aF.nm];exact aF.dP) (by rw[aF.nm];exact C) (bh.loc x J) (.inl (bh.fn x))
  .cases h
 .cases h
def JG{ct:Den.b3}{X:aQ}(aF:dC xp k g pg Φ X ct)(bh:me xp g pg X ct){i:Nat}{st:Stmt}(h:Den.k7 ct i st=true):dY X st (dJ xp X ct.mu λρ=>Den.ex pg Φ ρ (.nO i)):=by
 unfold Den.k7 at h
 split at h
 .rename_i t y aj;obtain⟨pos,rfl⟩:=p2 aj
  split at h
  .rename_i x ak;obtain⟨bb,rfl⟩:=hb ak;simp only[YX,ZL]at h;obtain⟨⟨⟨⟨C,J⟩,aC⟩,aT⟩,b6⟩:=h;obtain⟨kJ,rfl⟩:=uD b6;exact UQ (ZJ.mp aT) (by rw[aF.nm];exact aF.dP) (by rw[aF.nm];exact C) (bh.loc x J) (.inl (bh.fn x))
  .cases h
 .cases h
def JH{ct:Den.b3}{X:aQ}(aF:dC xp k g pg Φ X ct){i j:Nat}{e:Den.E}{st:Stmt}(h:Den.xN g ct i j e st=true):dY X st (dJ xp X ct.mu λρ=>Den.ex pg Φ ρ (.ir i j e)):=by
 unfold Den.xN at h
 split at h
 .rename_i t v aj;obtain⟨pos,rfl⟩:=p2 aj
  split at h
  .rename_i x y ak;obtain⟨bb,bL,df,rfl⟩:=IB ak;simp only[YX]at h;obtain⟨⟨⟨C,J⟩,aC⟩,aT⟩:=h;obtain⟨a1,a2,eI,hI⟩:=pI C;obtain⟨b1,b2,dt,fq⟩:=pO J;obtain⟨b9,cg,_⟩:=gM eI;obtain⟨f1,f2,_⟩:=gM dt;exact US aF.units hI fq (by rw[aF.nm];exact a1) (aF.hg a2) b9 cg (by rw[aF.nm];exact b1) (aF.hg b2) f1 f2 (lP aF aT).val (AQ (fI aT) aC)
  .cases h
 .cases h
def JF{ct:Den.b3}{X:aQ}(aF:dC xp k g pg Φ X ct)(bh:me xp g pg X ct){i:Nat}{st:Stmt}(h:Den.k7 ct i st=true):dY X st (dJ xp X ct.mu λρ=>Den.ex pg Φ ρ (.nN i)):=by
 unfold Den.k7 at h
 split at h
 .rename_i t y aj;obtain⟨pos,rfl⟩:=p2 aj
  split at h
  .rename_i x ak;obtain⟨bb,rfl⟩:=hb ak;simp only[YX,ZL]at h;obtain⟨⟨⟨⟨C,J⟩,aC⟩,aT⟩,b6⟩:=h;obtain⟨kJ,rfl⟩:=uD b6;exact UP (ZJ.mp aT) (by rw[aF.nm];exact aF.dP) (by rw[aF.nm];exact C) (bh.loc x J) (.inl (bh.fn x))
  .cases h
 .cases h
def WG{x:Stmt}{t:Expr}{a b:List Stmt}(h:Den.HY x=some (t,a,b)):∃p,x=.While t a b p:=by
 cases x with
 |While t a b p=>cases h;exact⟨p,rfl⟩
 |_=>exact nn h
def JP{ct:Den.b3}{X:aQ}(aF:dC xp k g pg Φ X ct){i:Nat}{e:Den.E}{st:Stmt}(h:Den.xQ g ct i e st=true):dY X st (dJ xp X ct.mu λρ=>Den.ex pg Φ ρ (.oy i e)):=by
 unfold Den.xQ at h
 split at h
 .rename_i t v aj;obtain⟨pos,rfl⟩:=p2 aj
  split at h
  .rename_i x y ak;obtain⟨df,rfl⟩:=vX ak
   split at h
   .rename_i cn dd bu eR;obtain⟨bb,rfl⟩:=hb bu;obtain⟨c,bL,rfl⟩:=Iy eR;simp only[YX,ZL]at h;obtain⟨⟨⟨h0,C⟩,aC⟩,aT⟩:=h;subst h0;obtain⟨a1,a2,eI,hI⟩:=pI C;obtain⟨b9,cg,_⟩:=gM eI;exact Vi hI (by rw[aF.nm];exact a1) (aF.hg a2) b9 cg (lP aF aT).val (AQ (fI aT) aC)
   .cases h
  .cases h
 .cases h
def JM{ct:Den.b3}{X:aQ}(aF:dC xp k g pg Φ X ct){i:Nat}{st:Stmt}(h:Den.xO ct i st=true):dY X st (dJ xp X ct.mu λρ=>Den.ex pg Φ ρ (.pop i)):=by
 unfold Den.xO at h
 split at h
 .rename_i c aj;obtain⟨gN,rfl⟩:=HW aj
  split at h
  .rename_i yg ak;obtain⟨dZ,rfl⟩:=vV ak
   split at h
   .rename_i o cn ap bu;obtain rfl:=A6 bu
    split at h
    .rename_i x eR;obtain⟨bb,rfl⟩:=hb eR;simp only[YX,ZL]at h;obtain⟨⟨h0,C⟩,J⟩:=h;obtain⟨a1,a2,eI,hI⟩:=pI J;obtain⟨b9,cg,_⟩:=gM eI;have C:ap.endLine=dZ.line:=C;exact s_pop hI h0 (by rw[aF.nm];exact a1) (aF.hg a2) b9 cg (by simpa using C)
    .cases h
   .cases h
  .cases h
 .cases h
def JO{ct:Den.b3}{X:aQ}(aF:dC xp k g pg Φ X ct){i:Nat}{e:Den.E}{st:Stmt}(h:Den.xP g ct i e st=true):dY X st (dJ xp X ct.mu λρ=>Den.ex pg Φ ρ (.pS i e)):=by
 unfold Den.xP at h
 split at h
 .rename_i y aj;obtain⟨pos,rfl⟩:=vK aj;simp only[YX]at h;have Ox:dC xp k g pg Φ X ⟨ct.N,ct.sc,ct.mu.filter λj=>!(j==i)⟩:={ aF with mu:=λj aJ=>aF.mu j (Y9.mp aJ).1 };exact Ve (ZJ.mp h.1) (lP Ox h.2).val
 .cases h
def V8(aE:fN xp k g pg Φ n)(s:Den.S)(st:Stmt)(ct:Den.b3)(X:aQ)(aa:sizeOf s<n+1)(aF:dC xp k g pg Φ X ct)(bh:me xp g pg X ct)(h:Den.k8 g ct s st=true):dY X st (dJ xp X ct.mu λρ=>Den.ex pg Φ ρ s):=by
 cases s with
 |asg i e=>exact JC aF bh.loc bh.fn h
 |app i e =>
  obtain⟨x,n,ap,y,bb,dZ,gN,rfl,C,J,aC,aT,b6,f6,iR⟩:=BN (nm:="append") h;obtain⟨b9,cg,qL⟩:=gM aT;exact UA b6 f6 (by rw[aF.nm];exact J) (aF.hg aC) b9 cg C (lP aF iR).val (hT (fI iR))
 |ret e =>
  rw[Den.k8]at h
  split at h
  .rename_i y aj;obtain⟨pos,rfl⟩:=vK aj;exact Vb (lP aF h).val
  .cases h
 |ot i =>
  rw[Den.k8]at h
  split at h
  .rename_i y aj;obtain⟨pos,rfl⟩:=vK aj
   split at h
   .rename_i x ak;obtain⟨bb,rfl⟩:=hb ak;obtain⟨a1,a2,eI,hI⟩:=pI h;obtain⟨b9,cg,_⟩:=gM eI;exact Vd hI (by rw[aF.nm];exact a1) (aF.hg a2) b9 cg
   .cases h
  .cases h
 |pR i =>
  rw[Den.k8]at h
  split at h
  .rename_i y aj;obtain⟨pos,rfl⟩:=vK aj
   split at h
   .rename_i x ak;obtain⟨bb,rfl⟩:=hb ak;obtain⟨a1,a2,eI,hI⟩:=pI h;obtain⟨b9,cg,_⟩:=gM eI;exact Vc hI (by rw[aF.nm];exact a1) (aF.hg a2) b9 cg
   .cases h
  .cases h
 |nM i=>exact JE aF bh h
 |nO i=>exact JG aF bh h
 |ir i j e=>exact JH aF h
 |nN i=>exact JF aF bh h
 |oy i e=>exact JP aF h
 |pop i=>exact JM aF h
 |pS i e=>exact JO aF h
 |stop=>exact Vm
 |l2 c b =>
  rw[Den.k8]at h
  split at h
  .rename_i t x aj;obtain⟨pos,rfl⟩:=WG aj;simp only[YX]at h;exact Vp bh.pass (lP aF h.1).pt (aE.b b x ct X (by simp at aa;omega) aF bh h.2) 200
  .cases h
 |ext i e =>
  obtain⟨x,n,ap,y,bb,dZ,gN,rfl,C,J,aC,aT,b6,f6,iR⟩:=BN (nm:="extend") h;obtain⟨b9,cg,qL⟩:=gM aT;exact UT b6 f6 (by rw[aF.nm];exact J) (aF.hg aC) b9 cg C (lP aF iR).val (hT (fI iR))
 |iff c a b =>
  rw[Den.k8]at h
  split at h
  .rename_i t x y aj;obtain⟨pos,rfl⟩:=Wr aj;simp only[YX]at h;have cb:=aE.b a x ct X (by simp at aa;omega) aF bh h.1.2;have dA:=aE.b b y ct X (by simp at aa;omega) aF bh h.2;exact UY (lP aF h.1.1).pt cb dA
  .cases h
 |fi j ts s b =>
  rw[Den.k8]at h
  split at h
  .rename_i t it x aj;obtain⟨pos,rfl⟩:=Wo aj
   split at h
   .rename_i xs ax;simp only[YX]at h;obtain⟨⟨⟨⟨h0,C⟩,_⟩,aC⟩,aT⟩:=h;obtain⟨c9,cv,fP⟩:=Cj C;have aK:X.N.Nodup:=(by rw[aF.nm];exact aF.dP);have ze:Den.m2 s=true->∃elts j p,t=.Tuple elts j p:=λaz=>by
     rw[az]at h0;have aJ:j=2:=(by simpa using h0);subst aJ;cases t with
     |Tuple elts j p=>exact⟨elts,j,p,rfl⟩
     |_=>simp only[Den.fm]at ax;cases ax
    have a4:=Gi aF.calm aK ax c9 λj i y aj ak=>by
     obtain⟨cc,b0⟩:=fP j i y aj ak;exact⟨by rw[aF.nm];exact cc,bh.loc y b0,.inl (bh.fn y)⟩
    obtain⟨e3,g0⟩:=(nx (xp:=xp) (k:=k) (g:=g) (pg:=pg) (Φ:=Φ) (sizeOf s+1)).i s it ct false X t (aax _) aF aC ze;have dA:=aE.b b x ct X (by simp at aa;omega) aF bh aT;exact UU bh.pass aF.calm cv e3 a4 dA (set_plain g0)
   .cases h
  .cases h
def V5(aE:fN xp k g pg Φ n)(b:Den.B)(st:List Stmt)(ct:Den.b3)(X:aQ)(aa:sizeOf b<n+1)(aF:dC xp k g pg Φ X ct)(bh:me xp g pg X ct)(h:Den.jF g ct b st=true):gV X st (dJ xp X ct.mu λρ=>Den.eF pg Φ ρ b):=by
 unfold Den.jF at h
 split at h
 .exact Vk
 .rename_i s b x xs;simp only[YX]at h;have aG:=aE.s s x ct X (by simp at aa;omega) aF bh h.1;have aZ:=aE.b b xs ct X (by simp at aa;omega) aF bh h.2;exact Vh aG aZ
 .cases h
theorem wF:∀n,fN xp k g pg Φ n
 |0=>⟨λ_ _ _ _ h=>by omega,λ_ _ _ _ h=>by omega⟩
 |n+1=>⟨V8 (wF n),V5 (wF n)⟩
def R5{b:Den.B}{st:List Stmt}{ct:Den.b3}{X:aQ}(aF:dC xp k g pg Φ X ct)(bh:me xp g pg X ct)(h:Den.jF g ct b st=true):gV X st (dJ xp X ct.mu λρ=>Den.eF pg Φ ρ b):=(wF (sizeOf b+1)).b b st ct X (aax _) aF bh h
end
def HL{fd:Den.gy}{ds:List D}{i:Nat}{d:D}(h:(Den.start fd ds)[i]?=some (some d)):ds[i]?=some d/\i<ds.length:=by
 unfold Den.start at h
 by_cases ai:i<ds.length
 .rw[Zd (by simpa using ai),Ze]at h;refine⟨?_,ai⟩;cases e:ds[i]? with
  |none=>rw[e]at h;cases h
  |some a=>rw[e]at h;cases h;rfl
 .rw[Zr (by simpa using ai),abm]at h
  split at h<;>cases h
def V2{N:List Str}{ae:List V}{i:Nat}{v:V}(h:ae[i]?=some v):(bM.start N ae)[i]?=some (some v):=by
 have ai:=(Zm.mp h).1;unfold bM.start;rw[Zd (by simpa using ai),Ze,h];rfl
def VT{K:W.Frag}{mu:List Nat}{G H:aw}{fd:Den.gy}{N:List Str}{ds:List D}{ae:List V}(aa:bQ G H)(dK:∀b xs,H b=some (.tup xs)->G b=some (.tup xs))(r:bD K G ds ae)(aD:N.length=fd.np+fd.nl)(aA:ds.length=fd.np)(hm:∀i∈mu,fd.np<=i):
  d6 K mu G H G H (Den.start fd ds) (bM.start N ae):=by
 have no:∀{i:Nat}{d:D},(Den.start fd ds)[i]?=some (some d)->i∈mu->False:=λh q=>by
  have:=(HL h).2;have:=hm _ q;omega
 refine⟨⟨?_,aa,λi d h _=>?_,λi d h q=>(no h q).elim,λi d h q=>(no h q).elim,dK,λi j d e a b h _ _ _ q=>(no h q).elim⟩,Ext.refl aa,λi d a h _ q=>(no h q).elim⟩
 .unfold Den.start bM.start;rw[List.length_append,List.length_append,List.length_map,List.length_map,aa1,aa1,<- r.length];omega
 .obtain⟨v,C,J⟩:=r.get (HL h).1;exact⟨v,V2 C,J⟩
noncomputable def sU(K:W.Frag)(aX:Str->Option Value)(g:Den.Gt)(fds:List Den.gy)(f:Nat)(x:Str):Prop :=
 ∃fd N st bg lr,fds[f]?=some fd/\Den.mw g N fd st=true/\aX x=some (.ref bg)/\bM.qk K x x st bg lr/\Binds K lr ((hL st).args.map (·.arg)) []
section
variable{P:Program}{w:World}{K:W.Frag}{aX:Str->Option Value}{base:Heap}{xp:cu}{g:Den.Gt}{pg:Den.dy}{fds:List Den.gy}
def Ci{N:List Str}{fd:Den.gy}{st:Stmt}(h:Den.mw g N fd st=true):((hL st).args.map (·.arg)).length=fd.np/\wg N ((hL st).args.map (·.arg)) (hY st)/\N.length=fd.np+fd.nl/\(∀i∈Den.jU fd.body,fd.np<=i/\i<N.length) /\
  Den.jF g ⟨N,hY st,Den.jU fd.body⟩ fd.body (lb st)=true:=by
 unfold Den.mw at h
 split at h
 .rename_i name args body sc bind pos;simp only[YX,ZL,ZM,Zp,bne_iff_ne,ne_eq,Zf]at h;obtain⟨⟨⟨⟨⟨⟨⟨⟨⟨⟨⟨⟨⟨⟨⟨C,J⟩,aC⟩,aT⟩,b6⟩,f6⟩,_⟩,_⟩,_⟩,_⟩,_⟩,_⟩,iR⟩,c4⟩,t2⟩,tZ⟩:=h;have aA:(args.args.map (·.arg)).length=fd.np:=(by rw[f6,aav];omega);refine⟨aA,⟨C,J,aC,aT,?_,λx ao=>?_,c4⟩,b6,t2,tZ⟩
  .show N.take (args.args.map (·.arg)).length=args.args.map (·.arg);rw[aA,f6]
  .have ao:x∈args.args.map (·.arg):=ao;rw[f6]at ao;have:=iR x ao;unfold Den.jQ at this;have this:sc.names.lookup x=some .local\/sc.names.lookup x=some .cell:=(by simpa using this);exact this
 .cases h
def Dz(lG:∀c e l h,¬xp c e l h){n f:Nat}(T:f3 P w K aX base xp n g pg (Den.run pg fds n)){x:Str}{fd:Den.gy}{N:List Str}{st:Stmt}{bg:Addr}{lr:FuncData}(e:fds[f]?=some fd)(c3:Den.mw g N fd st=true)(F:bM.qk K x x st bg lr):
  j4 P w K aX base (j3 P w xp) (n+1) bg lr ((hL st).args.map (·.arg)) (oA K (Den.run pg fds (n+1) f) ((hL st).args.map (·.arg)).length):=by
 obtain⟨aA,S,aK,h6,fC⟩:=Ci c3;have PD:∀ds,Den.run pg fds (n+1) f ds=Den.c6 pg (Den.run pg fds n) fd ds:=λds=>by rw[Den.sq,e]
 obtain⟨gd,ba,de,doc,pm,an,d8,ct,fJ,rfl,lk,lB⟩:=F.ex;refine NS lk lB S (λae H Q E h=>h.1) λA outer s H ae Q E a9 ⟨aN,G,ds,aa,dK,r,hw⟩=>?_
 have kp:ds.length=fd.np:=by rw[r.length,aN,aA]
 rw[PD]at hw;unfold Den.c6 at hw;rw[if_pos kp]at hw;refine⟨dJ xp (nI (j3 P w xp) P w K aX base N x (hY st) bg d8 A outer s H E) (Den.jU fd.body) λρ=>Den.eF pg (Den.run pg fds n) ρ fd.body,?_,?_⟩
 .refine R5 (ct:=⟨N,hY st,Den.jU fd.body⟩) (k:=n) (g:=g) (Φ:=Den.run pg fds n) ⟨T,a9,a9.units,rfl,rfl,S.dP,λi ai=>(h6 i ai).2,λx h=>h,λx h=>h,λx h=>h⟩ ⟨⟨rfl,rfl⟩,λx h=>?_,λ_=>rfl,PassesOwn.leaving⟩ fC;unfold Den.jQ at h;have h:(hY st).names.lookup x=some .local\/(hY st).names.lookup x=some .cell:=(by simpa using h);exact h
 .refine⟨G,H,G,Den.start fd ds,VT aa dK r aK kp λi ai=>(h6 i ai).1,?_⟩;show cz (Den.eF pg (Den.run pg fds n) (Den.start fd ds) fd.body) _ _;generalize Den.eF pg (Den.run pg fds n) (Den.start fd ds) fd.body=fL at hw ⊢;have hR:∀c:Nat,(∀aq,bQ H aq->E (.int c 0) none aq)->e2 xp (nI (j3 P w xp) P w K aX base N x (hY st) bg d8 A outer s H E) c H:=λc jd pins σ aq s' e l I cq nw ao=>absurd ao (lG _ _ _ _)
  cases fL with
  |bad=>exact hw.elim
  |exc c=>exact hR c hw
  |ok eX =>
   cases eX with
   |bJ ρ=>exact λσ aI aq dV=>hw .dp aI aq dV.ext rfl
   |dE d=>exact λv aI aq ext rep=>hw v aI aq ext rep
def Xa(lG:∀c e l h,¬xp c e l h){n:Nat}(T:f3 P w K aX base xp n g pg (Den.run pg fds n))(hd:∀f x,g.fns[f]?=some x->sU K aX g fds f x):f3 P w K aX base xp (n+1) g pg (Den.run pg fds (n+1)):=by
 refine⟨λf x ao=>?_,T.blt,T.ra⟩;obtain⟨fd,N,st,bg,lr,e,c3,hm,F,ab⟩:=hd f x ao;obtain⟨aA,_⟩:=Ci c3;exact⟨bg,lr,_,hm,F.ji,ab,Dz lG T e c3 F,λds kp=>by rw[Den.sq,e];unfold Den.c6;exact if_neg (by rw[<- aA];exact kp)⟩
theorem Ib(lG:∀c e l h,¬xp c e l h)(hd:∀f x,g.fns[f]?=some x->sU K aX g fds f x)(ab:∀x:Str,x∈qh->aX x=none)(a4:∀(j:Nat)(x:Str)(d:D),g.ra[j]?=some x->pg.cs[j]?=some d->∃v u,aX x=some u/\RelV v u/\∀G,Rep K G d v):
  ∀n,f3 P w K aX base xp n g pg (Den.run pg fds n)
 |0=>⟨λf x ao=>by
   obtain⟨fd,N,st,bg,lr,e,c3,hm,F,ab⟩:=hd f x ao;exact⟨bg,lr,_,hm,F.ji,ab,⟨λae H Q E h=>h.1,λA outer s H args us ae Q E _ _ _ _ ⟨_,_,_,_,_,_,h⟩=>h.elim⟩,λ_ _=>rfl⟩,ab,a4⟩
 |n+1=>Xa lG (Ib lG hd ab a4 n) hd
end
noncomputable def oI(Q:Nat->Str->Prop):Nat->List Str->Prop
 |_,[]=>True
 |n,x::xs=>Q n x/\oI Q (n+1) xs
theorem oI.get{Q:Nat->Str->Prop}:∀{xs:List Str}{n f:Nat}{x:Str},oI Q n xs->xs[f]?=some x->Q (n+f) x
 |[],_,_,_,_,h=>by simp at h
 |y::xs,n,0,x,q,h=>by simp at h;subst h;exact q.1
 |y::xs,n,f+1,x,q,h=>by
  have:=oI.get (n:=n+1) (f:=f) q.2 (by simpa using h);rwa[Nat.add_right_comm,Nat.add_assoc]at this
def M0{us:List Value}(h:us.length=1):∃a,us=[a]:=aa0.mp h
def M1{us:List Value}(h:us.length=2):∃a b,us=[a,b]:=by
 match us,h with
 |[a,b],_=>exact⟨a,b,rfl⟩
def M3{us:List Value}(h:us.length=3):∃a b c,us=[a,b,c]:=by
 match us,h with
 |[a,b,c],_=>exact⟨a,b,c,rfl⟩
noncomputable def AllB(K:W.Frag):List Str->Prop
 |[]=>True
 |x::xs=>W.nsIn K mainGlobals x=some none/\AllB K xs
theorem AllB.get{K:W.Frag}{h:Heap}{aX:Str->Option Value}(X:K.In h)(G:h.Ns mainGlobals aX):∀{xs:List Str},AllB K xs->∀x∈xs,aX x=none
 |[],_,x,ao=>by simp at ao
 |y::ys,q,x,ao=>by
  rcases Y0.mp ao with rfl|ao
  .exact PySem.W.mg_none_of X G q.1
  .exact AllB.get X G q.2 x ao
noncomputable def sV(K:W.Frag)(x:Str)(st:Stmt):Prop :=
 ∃(f:Addr)(gd:Value)(ba:Option Addr)(de doc pm:Value)(an:Option Addr)(d8 ct:Value)(fJ:Array (Option Value)),W.nsIn K mainGlobals x=some (some (.ref f)) /\
  K.lookup f=some ⟨gd,ba,.func (W.fnOf x x (hL st) (lb st) (hY st) .none de doc pm an d8 ct),fJ⟩/\W.codeIn K d8 x=true/\W.keepIn K (.ref f)=true
def LY{K:W.Frag}{x:Str}{st:Stmt}{f:Addr}{gd:Value}{ba:Option Addr}{de doc pm:Value}{an:Option Addr}{d8 ct:Value}{fJ:Array (Option Value)}(a:W.nsIn K mainGlobals x=some (some (.ref f)))(l:K.lookup f=some ⟨gd,ba,.func (W.fnOf x x (hL st) (lb st) (hY st) .none de doc pm an d8 ct),fJ⟩)(c:W.codeIn K d8 x=true)(k:W.keepIn K (.ref f)=true):sV K x st:=⟨f,gd,ba,de,doc,pm,an,d8,ct,fJ,a,l,c,k⟩
def d1{K:W.Frag}{h:Heap}{aX:Str->Option Value}{g:Den.Gt}{fds:List Den.gy}{j:Nat}{x:Str}{st:Stmt}{fd:Den.gy}{N:List Str}(X:K.In h)(G:h.Ns mainGlobals aX)(d:sV K x st)(hf:fds[j]?=some fd)(c3:Den.mw g N fd st=true)(ab:∀(de doc pm:Value)(an:Option Addr)(d8 ct:Value)(us:List Value),us.length=((hL st).args.map (·.arg)).length->bindArgs (W.fnOf x x (hL st) (lb st) (hY st) .none de doc pm an d8 ct) ⟨us,[]⟩=pure (((hL st).args.map (·.arg)).zip us)):sU K aX g fds j x:=by
 obtain⟨f,gd,ba,de,doc,pm,an,d8,ct,fJ,a,l,c,k⟩:=d;have F:=DE l c k;exact⟨fd,N,st,f,_,hf,c3,PySem.W.mg_of X G a,F,F.binds ab⟩
theorem GK{K:W.Frag}{G:aw}:∀ns:List Int,bD K G (ns.map Den.D.int) (ns.map V.int)
 |[]=>rfl
 |n::ns=>⟨.int n,ns.map V.int,rfl,rfl,GK ns⟩
def VY{K:W.Frag}{H:aw}{a:Addr}{ns:List Int}{ek:List D->bx D}(bh:eo K H a (ns.map V.int))(ay:ek [.lst (ns.map .int)]=.ok (.aO true)):oA K ek 1 [.ref a] H (λv _=>v=.aO true) λ_ _ _=>False:=by
 refine⟨rfl,H,[.lst (ns.map .int)],bQ.refl H,λ_ _ z=>z,⟨.ref a,[],rfl,⟨a,_,rfl,bh,GK ns⟩,rfl⟩,?_⟩;rw[ay];exact λv aI aq _ r=>r
def K8{P:Program}{w:World}{xp:cu}{outer:List Env}{H:aw}{s:Shared}{e:Value}{s':Shared}:j3 P w xp outer H s (λ_ _ _=>False) e s'->False:=λ⟨_,_,_,_,_,_,_,_,_,_,h⟩=>h
noncomputable def iZ:cu:=λ_ _ _ _=>False
def QW{l:PySem.W.OpenLaw}{w:World}{K:W.Frag}{h:Heap}{aX:Str->Option Value}{bg:Addr}{g:Den.Gt}{pg:Den.dy}{fds:List Den.gy}{xp:cu}{n f:Nat}{st:Stmt}{fd:Den.gy}{N:List Str}{x:Str}(X:K.In h)(G:h.Ns mainGlobals aX)(pd:aX "law"=some (.ref bg))(dl:sV K "law" st)(hf:fds[f]?=some fd)(c3:Den.mw g N fd st=true)(ao:(hL st).args.map (·.arg)=[x])(yP:∀(de doc pm:Value)(an:Option Addr)(d8 ct:Value)(s:Shared)(u:Value),BindsTo s (W.fnOf "law" "law" (hL st) (lb st) (hY st) .none de doc pm an d8 ct) ⟨[u],[]⟩ [(x,u)])(lG:∀c e l h,¬xp c e l h)(T:∀base:Heap,K.In base->base.Ns mainGlobals aX->f3 l.prog w K aX base xp n g pg (Den.run pg fds n)):
  ∃fd:FuncData,(∀(s:Shared)(u:Value),BindsTo s fd ⟨[u],[]⟩ [(x,u)])/\∀base:Heap,K.In base->base.Ns mainGlobals aX->j4 l.prog w K aX base (j3 l.prog w xp) (n+1) bg fd [x] (oA K (Den.run pg fds (n+1) f) 1):=by
 obtain⟨yg,gd,ba,de,doc,pm,an,d8,ct,fJ,a,jj,c,k⟩:=dl;have e:=pd.symm.trans (PySem.W.mg_of X G a);cases e;refine⟨_,yP de doc pm an d8 ct,λbase rU nb=>?_⟩;have F:=DE jj c k;have:=Dz lG (T base rU nb) (f:=f) hf c3 F;rw[ao]at this;exact this
def walk{g:Den.Gt}{l:PySem.W.OpenLaw}{q:Program}{loose:List Str}{cu:(Str->Option Value)->Heap->Prop}{mh:World->Heap->Prop}{d:DefRec}{K:Params->W.Frag}{pg:Den.dy}{fds:List Den.gy}{n f:Nat}{x:Str}(aD:l.most=some 63)(rl:d.params.defaults=[])(a9:n<=40)(ay:∀ns:List Int,Den.run pg fds n f [.lst (ns.map .int)]=.ok (.aO true))(gI:∀(w:World)(h:Heap),mh w h->(K w.params).In h)(F:∀(w:World)(aX:Str->Option Value)(bg:Addr)(h:Heap),(K w.params).In h->h.Ns mainGlobals aX->aX d.name=some (.ref bg) ->
   ∃fd:FuncData,(∀(s:Shared)(u:Value),BindsTo s fd ⟨[u],[]⟩ [(x,u)])/\∀base:Heap,(K w.params).In base->base.Ns mainGlobals aX->j4 l.prog w (K w.params) aX base (j3 l.prog w iZ) n bg fd [x] (oA (K w.params) (Den.run pg fds n f) 1)):
  PySem.W.WalkO q loose cu mh l.row.toRowW d [] (λf ae=>PySem.call f ae) :=
 bM.XE (n:=63) (k:=n) (x:=x) (CX:=λw=>j3 l.prog w iZ) (sp:=λw=>oA (K w.params) (Den.run pg fds n f) 1) aD (by decide) rl (gj.mono (⟨rfl,by decide,by decide⟩:gj 40 callerA) a9) gI F (λw H a ns _ _ bh=>VY bh (ay ns)) λ_ _ _ _ _ z=>K8 z
end bT
end
section
set_option Elab.async false
namespace sZ
open PySem PySem.Spec PyProof.Rows bM bT
noncomputable def cP:List Nat:=[1,6,7,8,9,10,11,13,14,15,16,18,19,20,21,22,23,24,25,26,27,29,30,32,33,34,35,36,37,38,39,40,41,42,43,44,45,46,47]
noncomputable def st(j:Nat):Stmt:=PySem.Challenge.pw_holeyard_k31_whole_bare.main.body.getD (cP.getD j 0) (.Pass ⟨0,0,0,0⟩)
def KD:((List.range 39).all λj=>Den.mw gC.gt (gC.FP.getD j []) (gC.fds.getD j ⟨0,0,.nil⟩) (st j))=true:=by decide +kernel
def c3(j:Nat)(h:j<39):Den.mw gC.gt (gC.FP.getD j []) (gC.fds.getD j ⟨0,0,.nil⟩) (st j)=true:=Zp.mp KD j (List.mem_range.mpr h)
structure Txt(K:W.Frag):Prop where
 ds:oI (λj x=>sV K x (st j)) 0 gC.gt.fns
 aO:AllB K qh
section
variable{K:W.Frag}{h:Heap}{aX:Str->Option Value}
theorem fns(X:K.In h)(G:h.Ns mainGlobals aX)(t:Txt K):oI (sU K aX gC.gt gC.fds) 0 gC.gt.fns:=by
 obtain⟨jI,b9,cg,qL,LD,LF,LG,LH,LI,LJ,K9,La,Lb,Lc,Ld,Le,Lf,Lg,Lh,Li,Lj,Lk,Ll,Lm,Ln,Lo,Lp,Lq,Lr,Ls,Lu,Lv,Lw,Lx,Ly,Lz,LA,LB,LC,-⟩:=t.ds;refine⟨d1 X G jI rfl (c3 0 (by decide)) ?_,d1 X G b9 rfl (c3 1 (by decide)) ?_,d1 X G cg rfl (c3 2 (by decide)) ?_,d1 X G qL rfl (c3 3 (by decide)) ?_,d1 X G LD rfl (c3 4 (by decide)) ?_,d1 X G LF rfl (c3 5 (by decide)) ?_,d1 X G LG rfl (c3 6 (by decide)) ?_,d1 X G LH rfl (c3 7 (by decide)) ?_,d1 X G LI rfl (c3 8 (by decide)) ?_,d1 X G LJ rfl (c3 9 (by decide)) ?_,d1 X G K9 rfl (c3 10 (by decide)) ?_,d1 X G La rfl (c3 11 (by decide)) ?_,d1 X G Lb rfl (c3 12 (by decide)) ?_,d1 X G Lc rfl (c3 13 (by decide)) ?_,d1 X G Ld rfl (c3 14 (by decide)) ?_,d1 X G Le rfl (c3 15 (by decide)) ?_,d1 X G Lf rfl (c3 16 (by decide)) ?_,d1 X G Lg rfl (c3 17 (by decide)) ?_,d1 X G Lh rfl (c3 18 (by decide)) ?_,d1 X G Li rfl (c3 19 (by decide)) ?_,d1 X G Lj rfl (c3 20 (by decide)) ?_,d1 X G Lk rfl (c3 21 (by decide)) ?_,d1 X G Ll rfl (c3 22 (by decide)) ?_,d1 X G Lm rfl (c3 23 (by decide)) ?_,d1 X G Ln rfl (c3 24 (by decide)) ?_,d1 X G Lo rfl (c3 25 (by decide)) ?_,d1 X G Lp rfl (c3 26 (by decide)) ?_,d1 X G Lq rfl (c3 27 (by decide)) ?_,d1 X G Lr rfl (c3 28 (by decide)) ?_,d1 X G Ls rfl (c3 29 (by decide)) ?_,d1 X G Lu rfl (c3 30 (by decide)) ?_,d1 X G Lv rfl (c3 31 (by decide)) ?_,d1 X G Lw rfl (c3 32 (by decide)) ?_,d1 X G Lx rfl (c3 33 (by decide)) ?_,d1 X G Ly rfl (c3 34 (by decide)) ?_,d1 X G Lz rfl (c3 35 (by decide)) ?_,d1 X G LA rfl (c3 36 (by decide)) ?_,d1 X G LB rfl (c3 37 (by decide)) ?_,d1 X G LC rfl (c3 38 (by decide)) ?_,trivial⟩<;>intro _ _ _ _ _ _ us aA<;>first|(obtain⟨_,rfl⟩:=M0 aA;rfl)|(obtain⟨_,_,rfl⟩:=M1 aA;rfl)|(obtain⟨_,_,_,rfl⟩:=M3 aA;rfl)
def cS{P:Program}{w:World}(X:K.In h)(G:h.Ns mainGlobals aX)(t:Txt K)(base:Heap)(rU:K.In base)(nb:base.Ns mainGlobals aX):f3 P w K aX base iZ 20 gC.gt gC.pg (Den.run gC.pg gC.fds 20) :=
 Ib (λ_ _ _ _ z=>z) (λf x e=>by have:=(fns X G t).get e;rwa[aaF]at this) (AllB.get X G t.aO) (λj x d aj ak=>by cases aj) _
end
end sZ
noncomputable def PySem.W.Fast.tw17660038236409652031:=PySem.Challenge.pw_holeyard_k31_whole_bare
theorem PySem.W.Fast.te17660038236409652031:PySem.Challenge.pw_holeyard_k31_whole_bare=PySem.W.Fast.tw17660038236409652031:=rfl
noncomputable def PySem.W.Fast.tw10024780155801071341:=()
noncomputable def PySem.W.Fast.tw10170160687833892120:=()
noncomputable def PySem.W.Fast.tw10229766059121064372:=()
noncomputable def PySem.W.Fast.tw10232983719475191086:=()
noncomputable def PySem.W.Fast.tw10241498944469682099:=()
noncomputable def PySem.W.Fast.tw10583163967066152648:=()
noncomputable def PySem.W.Fast.tw10693491415395083830:=()
noncomputable def PySem.W.Fast.tw10717490595415129658:=()
noncomputable def PySem.W.Fast.tw10789730902010998148:=()
noncomputable def PySem.W.Fast.tw10988323683381604003:=()
noncomputable def PySem.W.Fast.tw11179892577470408420:=()
noncomputable def PySem.W.Fast.tw11312729470934089934:=()
noncomputable def PySem.W.Fast.tw11406093190745163127:=()
noncomputable def PySem.W.Fast.tw11418406548007625888:=()
noncomputable def PySem.W.Fast.tw11419122810402010846:=()
noncomputable def PySem.W.Fast.tw11483959783095767720:=()
noncomputable def PySem.W.Fast.tw11608262734068574896:=()
noncomputable def PySem.W.Fast.tw11660898099705372717:=()
noncomputable def PySem.W.Fast.tw11693058208849106119:=()
noncomputable def PySem.W.Fast.tw11695960066525026221:=()
noncomputable def PySem.W.Fast.tw11834125999331420266:=()
noncomputable def PySem.W.Fast.tw12026115146546406056:=()
noncomputable def PySem.W.Fast.tw12051724917091108949:=()
noncomputable def PySem.W.Fast.tw12097803903288814963:=()
noncomputable def PySem.W.Fast.tw12368557256252203725:=()
noncomputable def PySem.W.Fast.tw12446527143040589989:=()
noncomputable def PySem.W.Fast.tw12525767610675591584:=()
noncomputable def PySem.W.Fast.tw12778733225242608061:=()
noncomputable def PySem.W.Fast.tw12794656358406743940:=()
noncomputable def PySem.W.Fast.tw13053481162863964936:=()
noncomputable def PySem.W.Fast.tw1326131367602749834:=()
noncomputable def PySem.W.Fast.tw1333896217533717677:=()
noncomputable def PySem.W.Fast.tw13342609472571978999:=()
noncomputable def PySem.W.Fast.tw13368971365427402104:=()
noncomputable def PySem.W.Fast.tw13615761526366891571:=()
noncomputable def PySem.W.Fast.tw13854941918496756176:=()
noncomputable def PySem.W.Fast.tw13930132633110605164:=()
noncomputable def PySem.W.Fast.tw14086759762670422642:=()
noncomputable def PySem.W.Fast.tw14146329691193661288:=()
noncomputable def PySem.W.Fast.tw14485041067342940633:=()
noncomputable def PySem.W.Fast.tw14784417667899613142:=()
noncomputable def PySem.W.Fast.tw15535323759919779785:=()
noncomputable def PySem.W.Fast.tw15719120649830664956:=()
noncomputable def PySem.W.Fast.tw15967372156596672899:=()
noncomputable def PySem.W.Fast.tw16036987384976532336:=()
noncomputable def PySem.W.Fast.tw16166408347517304749:=()
noncomputable def PySem.W.Fast.tw16654823480587198383:=()
noncomputable def PySem.W.Fast.tw16667509106321489882:=()
noncomputable def PySem.W.Fast.tw16700852841232688585:=()
noncomputable def PySem.W.Fast.tw16893676906386497025:=()
noncomputable def PySem.W.Fast.tw17277572956597012524:=()
noncomputable def PySem.W.Fast.tw17320680624763205604:=()
noncomputable def PySem.W.Fast.tw17478097039255599355:=()
noncomputable def PySem.W.Fast.tw17490167366552767756:=()
noncomputable def PySem.W.Fast.tw17513018685994723725:=()
noncomputable def PySem.W.Fast.tw17634865719023266506:=()
noncomputable def PySem.W.Fast.tw17724240767082882132:=()
noncomputable def PySem.W.Fast.tw17771944406477945932:=()
noncomputable def PySem.W.Fast.tw18318521060085631288:=()
noncomputable def PySem.W.Fast.tw1856132293878547891:=()
noncomputable def PySem.W.Fast.tw2350427388423964723:=()
noncomputable def PySem.W.Fast.tw2732547623881195989:=()
noncomputable def PySem.W.Fast.tw2937353157897443972:=()
noncomputable def PySem.W.Fast.tw3125263671436062125:=()
noncomputable def PySem.W.Fast.tw3362947404498899798:=()
noncomputable def PySem.W.Fast.tw3498696972217188406:=()
noncomputable def PySem.W.Fast.tw3874598247085590486:=()
noncomputable def PySem.W.Fast.tw4080196039198277716:=()
noncomputable def PySem.W.Fast.tw4402918805128332993:=()
noncomputable def PySem.W.Fast.tw4629193459806250165:=()
noncomputable def PySem.W.Fast.tw4692200353590196991:=()
noncomputable def PySem.W.Fast.tw4700257713043661012:=()
noncomputable def PySem.W.Fast.tw4927481636734366616:=()
noncomputable def PySem.W.Fast.tw494133604443948939:=()
noncomputable def PySem.W.Fast.tw5449206914197916684:=()
noncomputable def PySem.W.Fast.tw5496341476318028621:=()
noncomputable def PySem.W.Fast.tw5534829461354741472:=()
noncomputable def PySem.W.Fast.tw5824865918252573092:=()
noncomputable def PySem.W.Fast.tw5859152854766988415:=()
noncomputable def PySem.W.Fast.tw597055717026910345:=()
noncomputable def PySem.W.Fast.tw6341870175298118788:=()
noncomputable def PySem.W.Fast.tw6361725749220995468:=()
noncomputable def PySem.W.Fast.tw6379348698983171680:=()
noncomputable def PySem.W.Fast.tw6475028555708294923:=()
noncomputable def PySem.W.Fast.tw648031740912852115:=()
noncomputable def PySem.W.Fast.tw6550381088770598269:=()
noncomputable def PySem.W.Fast.tw684246758325906084:=()
noncomputable def PySem.W.Fast.tw7091375578819093077:=()
noncomputable def PySem.W.Fast.tw7167950054296913563:=()
noncomputable def PySem.W.Fast.tw7180774821669751958:=()
noncomputable def PySem.W.Fast.tw7459650569249587669:=()
noncomputable def PySem.W.Fast.tw7691418213842616137:=()
noncomputable def PySem.W.Fast.tw7851801023845149343:=()
noncomputable def PySem.W.Fast.tw820985008170061333:=()
noncomputable def PySem.W.Fast.tw83751853723888393:=()
noncomputable def PySem.W.Fast.tw8487440563675675969:=()
noncomputable def PySem.W.Fast.tw8520689275321159887:=()
noncomputable def PySem.W.Fast.tw8574375950113398940:=()
noncomputable def PySem.W.Fast.tw8660068480152758157:=()
noncomputable def PySem.W.Fast.tw8673164260884979133:=()
noncomputable def PySem.W.Fast.tw8765581096714831906:=()
noncomputable def PySem.W.Fast.tw8766117808006060101:=()
noncomputable def PySem.W.Fast.tw8878238662782301477:=()
noncomputable def PySem.W.Fast.tw9061279905834991750:=()
noncomputable def PySem.W.Fast.tw9082053365858723191:=()
noncomputable def PySem.W.Fast.tw9185829389888887291:=()
noncomputable def PySem.W.Fast.tw9418671922527131137:=()
noncomputable def PySem.W.Fast.tw9517505050692380764:=()
noncomputable def PySem.W.Fast.tw9552529981241869383:=()
noncomputable def PySem.W.Fast.tw9568267691224573256:=()
noncomputable def PySem.W.Fast.tw9638775304958887916:=()
noncomputable def PySem.W.Fast.tw987215601995773696:=()
open PySem PySem.W PyProof.Rows
set_option maxRecDepth 100000 in
set_option maxHeartbeats 0 in
theorem PySem.Challenge.cw_holeyard_k31_whole_bare_holds : PySem.Challenge.rw_holeyard_k31_whole_bare.Holds := by
 w_on;o_law;k_head;(case hw=>w_witness2)
 k_fill
 refine bT.walk (g:=gC.gt) (l:=PySem.Challenge.rw_holeyard_k31_whole_bare) (pg:=gC.pg) (fds:=gC.fds) (n:=21) (f:=38) (x:="_law_script") rfl rfl (by decide) By.WS (λw h Y=>PySem.W.kIn_of Y) ?F
 case F =>
  intro w aX bg h i6 G rt;have t:sZ.Txt (bM.Bt i6):=by
   refine⟨⟨?_,?_,?_,?_,?_,?_,?_,?_,?_,?_,?_,?_,?_,?_,?_,?_,?_,?_,?_,?_,?_,?_,?_,?_,?_,?_,?_,?_,?_,?_,?_,?_,?_,?_,?_,?_,?_,?_,?_,trivial⟩,⟨?_,?_,?_,?_,?_,?_,?_,?_,?_,?_,?_,?_,?_,?_,trivial⟩⟩<;>dsimp only[bM.Bt]<;>first|(refine' bT.LY ?a ?l ?c ?k;(case a=>k_is);(case l=>k_is);(case c=>k_is);(case k=>k_is))|k_is
  exact bT.QW i6 G rt (t.ds.get (f:=38) rfl) rfl (sZ.c3 38 (by decide)) rfl (λ_ _ _ _ _ _ s u=>.of_eq rfl) (λ_ _ _ _ z=>z) (sZ.cS i6 G t)
end
