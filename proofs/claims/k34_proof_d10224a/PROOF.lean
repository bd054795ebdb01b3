import PyProof.Rows.All
import Wide.All
import OpenK.AllK
import Wide.FinOn
import Lean
import PyProof.EqAt
import PyProof.EqKinds
import PyProof.TupleCall
import PySem.Value
import PySem.Sem
import PySem.SetTable
import PyProof.TupleKey
import PyProof.SetKind
import PyProof.DictKinds
import PyProof.IsRules
import PyProof.CompMap
import PyProof.Rows.SetFrom
import PyProof.WalksMore
import PyProof.FactsAll.subtypes_4
import PyProof.FactsAll.set
import PyProof.Seq
import PyProof.Walks
import KE.KDictSum
import PyProof.CollectStr
import PyProof.ListRange
import PyProof.Rows.SortShell
import PyProof.Rows.SortRuns
import KE.KSortAsk
import KE.KSortTup
import PyProof.StationsW
import PyProof.RulesAs
import PyProof.ExcClass3
import PyProof.IsInstance
import OpenK.KMore
import PyProof.ExcArgsOwn
import OpenK.KDescr
import PyProof.EnumMake
import PyProof.EnumFor
import PyProof.EnumStmt
import KE.BitLaws
import PyProof.Rows.SumAny
import PyProof.WalkInts
import PyProof.ExcBaseAll.ValueError
import PyProof.StrOps2
import PySem.Challenge.RW_holeyard_k34_whole_against
set_option linter.all false
def abr:=@PySem.wpAny_bind
def abt:=@Bool.and_eq_true
def abu:=@PySem.wpAny_pure
def abv:=@PySem.Heap.get?_push_of_some
def abw.{u}:=@List.length_append.{u}
def abx:=@Bool.false_eq_true
def aby.{u}:=@List.getElem?_eq_getElem.{u}
def abz:=@Nat.le_refl
def abA.{u}:=@List.mem_cons.{u}
def abB.{u}:=@List.size_toArray.{u}
def abC:=@PySem.Heap.lt_size
def abD:=@PySem.Heap.get?_push_size
def abE:=@Nat.mod_two_eq_zero_or_one
def abF.{u,v}:=@List.getElem?_map.{u,v}
def abG:=@Nat.lt_of_lt_of_le
def abH.{u}:=@List.getElem?_append_left.{u}
def abI.{u}:=@Array.getElem?_eq_getElem.{u}
def abJ.{u}:=@List.nodup_iff_pairwise_ne.{u}
def abK.{u}:=@List.mem_singleton.{u}
def abL.{u}:=@List.mem_append_right.{u}
def abM.{u}:=@List.getElem?_eq_none.{u}
def abN:=@decide_eq_true_eq
def abO.{u,v}:=@List.map_congr_left.{u,v}
def abP:=@Nat.ne_of_lt
def abQ:=@Nat.pow_le_pow_right
def abR.{u}:=@List.getElem?_eq_some_iff.{u}
def abS.{u}:=@if_false.{u}
def abT.{u}:=@List.pairwise_cons.{u}
def abU.{u}:=@List.mem_append.{u}
def abV:=@PySem.Heap.get?_update_other
def abW.{u}:=@List.getElem?_append_right.{u}
def abX.{u}:=@List.Pairwise.imp_of_mem.{u}
def abY.{u}:=@Array.getElem?_eq_some_iff.{u}
def abZ:=@Nat.zero_le
def ab0:=@Nat.testBit_lt_two_pow
def ab1.{u}:=@List.all_eq_true.{u}
def ab2:=@PySem.Heap.get?_update_self
def ab3.{u}:=@List.Pairwise.sublist.{u}
def ab4.{u,v}:=@List.pairwise_map.{u,v}
def ab5.{u}:=@Option.some.inj.{u}
def ab6.{u}:=@beq_iff_eq.{u}
def ab7:=@PySem.wpAny_newObj_type
def ab8.{u,v}:=@List.lookup_cons.{u,v}
def ab9.{u}:=@List.nodup_cons.{u}
def aca.{u}:=@Array.getElem?_toList.{u}
def acb.{u}:=@beq_eq_false_iff_ne.{u}
def acd:=@PyProof.Rows.wpS_bind
def ace:=@PySem.mem_of_lookup
def acf:=@Bool.not_eq_true'
def acg:=@PySem.wpAny_mono
def ach.{u}:=@List.getElem_idxOf.{u}
def aci:=@PyProof.Rows.callWith_type1
def acj.{u}:=@if_true.{u}
def ack.{u}:=@List.idxOf_lt_length_of_mem.{u}
def acm:=@PyProof.Rows.slot_tuple_getitem
def acn.{u}:=@List.contains_iff_mem.{u}
def aco:=@Nat.testBit_xor
def acp.{u,v}:=@congrArg.{u,v}
def acq.{u}:=@Option.some.injEq.{u}
def acr:=@PySem.wpAny_loadPart_at
def acs:=@Nat.eq_of_testBit_eq
def acu.{u}:=@Array.getElem?_setIfInBounds.{u}
def acv:=@PySem.Heap.SameBut.update
def acw.{u}:=@List.length_filter_le.{u}
def acx:=@Nat.le_trans
def acy.{u}:=@Ne.symm.{u}
def acz.{u}:=@Array.getD_eq_getD_getElem?.{u}
def acA:=@PySem.wpAny_setState_of
def acB:=@Bool.false_ne_true
def acC:=@Nat.xor_assoc
def acD:=@PySem.codeAny_builtin
def acE:=@PySem.wpAny_call_entry
def acF.{u}:=@List.eq_nil_iff_forall_not_mem.{u}
def acG:=@Classical.byContradiction
def acH.{u}:=@List.filter_sublist.{u}
def acI:=@PySem.wpAny_truthy_bool
def acJ:=@PySem.wpAny_holding
def acK:=@PySem.F.slot_dict_keyiterator_next
def acL.{u}:=@List.mem_of_getElem?.{u}
def acM:=@PySem.wpAny_callSpecial?_slot
def acN.{u}:=@List.cons_append.{u}
def acO:=@PySem.Around.under_plainId
def acP:=@PyProof.Rows.wpS_pure
def acQ:=@Nat.lt_irrefl
def acR:=@Bool.not_true
def acS.{u}:=@List.Pairwise.imp.{u}
def acT:=@Nat.xor_self
def acU:=@List.pairwise_lt_range
def acV.{u}:=@List.getD_eq_getElem?_getD.{u}
def acW:=@List.getElem?_range
def acX.{u,v}:=@List.flatMap_append.{u,v}
def acY:=@PySem.wpAny_isSubtype_exc
def acZ:=@PySem.wpAny_Call_Name_kw
def ac0:=@Nat.zero_testBit
def ac1:=@Nat.xor_lt_two_pow
def ac2:=@PySem.Obj.data_mapFields
def ac3:=@Nat.zero_add
def ac4:=@Nat.testBit_two_pow_self
def ac5.{u}:=@List.eq_nil_of_length_eq_zero.{u}
def ac6:=@PySem.wpAny_setField
def ac7:=@PySem.wpAny_typeNameOfWhole_keyiter
def ac8.{u}:=@List.pairwise_singleton.{u}
def ac9.{u}:=@List.ext_getElem?.{u}
def ada.{u}:=@List.nodup_append.{u}
def adb.{u}:=@List.append_nil.{u}
def ade.{u}:=@List.length_set.{u}
def adf.{u}:=@List.countP_eq_length_filter.{u}
def adg:=@Nat.testBit_two_pow
def adh:=@PyProof.Rows.F.plain_set_update_loop
def adi.{u}:=@List.take_of_length_le.{u}
def adj.{u}:=@List.length_take.{u}
def adk.{u}:=@List.length_drop.{u}
def adl:=@Nat.lt_succ_self
def adm.{u}:=@List.getElem_mem.{u}
def adn.{u}:=@List.pairwise_iff_getElem.{u}
def ado.{u}:=@List.drop_eq_getElem_cons.{u}
def adp:=@PySem.wpAny_passesOwn
def adq:=@Bool.or_eq_true
def ads:=@Nat.xor_zero
def adt:=@Nat.lt_trichotomy
def adu:=@Nat.pow_lt_pow_right
def adv.{u}:=@bne_self_eq_false.{u}
def adw:=@PySem.wpAny_typeNameOf_keyiter
def adx:=@PySem.AutoSeq1.wpAny_loadPart'
def ady.{u}:=@List.mk_mem_zipIdx_iff_getElem?.{u}
def adz.{u}:=@List.getElem?_replicate.{u}
def adA.{u}:=@List.nodup_nil.{u}
def adB.{u,v}:=@List.mem_flatMap.{u,v}
def adC:=@PySem.F.plainAttrs_list
def adD:=@PySem.wpAny_field
def adE:=@PySem.wpAny_typeOf
def adF.{u,v}:=@List.map_nil.{u,v}
def adG:=@Nat.zero_xor
def adH:=@Nat.and_mod_two_eq_one
def adI.{u}:=@Array.getElem?_eq_none.{u}
def adJ:=@PySem.F.called_set
def adK:=@Int.natCast_nonneg
def adL.{u}:=@List.contains_cons.{u}
def adM.{u}:=@List.length_replicate.{u}
def adN.{u}:=@List.getElem?_toArray.{u}
def adO:=@PySem.Obj.isFreed_of_fields
def adP:=@Nat.le_of_lt
def adQ:=@Nat.le_of_not_lt
def adR:=@Nat.testBit_zero
def adS:=@Nat.testBit_succ
def adT:=@PySem.wpAny_askSetting
def adU.{u}:=@List.nil_sublist.{u}
def adV.{u}:=@List.sublist_nil.{u}
def adW.{u}:=@List.exists_mem_of_ne_nil.{u}
def adX:=@PyProof.Rows.F.entry_set_update_loop
def adY.{u}:=@List.length_pos_iff.{u}
def adZ:=@PySem.F.args_tuple_add_2
def ad0:=@PySem.wpAny_execs_nil
def ad1.{u,v}:=@List.countP_map.{u,v}
def ad2:=@Nat.testBit_and
def ad3:=@PySem.Calls.spliced_cons
def ad4.{u,v}:=@List.map_singleton.{u,v}
def ad5:=@PySem.F.entry_tuple_add
def ad6.{u}:=@List.length_eq_zero_iff.{u}
def ad7:=@PySem.Calls.spliced_nil
def ad8:=@PySem.F.slot_tuple_add
def ad9:=@Nat.xor_mod_two_eq_one
def aea.{u}:=@List.countP_congr.{u}
def aeb:=@PySem.wpAny_storeSet_of
def aec:=@PySem.F.plain_list_iadd
def aed:=@PyProof.Rows.wpS_forRange
def aee:=@List.range_succ_eq_map
def aef.{u}:=@List.filter_eq_nil_iff.{u}
def aeg:=@Bool.or_true
def aeh.{u}:=@List.length_eq_one_iff.{u}
def aei.{u}:=@List.eq_nil_or_concat.{u}
def aej.{u}:=@List.concat_eq_append.{u}
def aek.{u}:=@List.take_append_drop.{u}
def ael:=@PySem.builtinLookup_eq_fast
def aem:=@PySem.F.typeOf_object_class
def aen:=@PyProof.Rows.callWith_builtin1
def aeo:=@PySem.wpAny_forIn_list
def aep.{u}:=@List.countP_cons.{u}
def aeq:=@decide_eq_decide
def aer:=@PySem.putSet_of
def aes:=@PySem.F.args_dict_keyiterator_next_1
def aet:=@Nat.max_eq_right
def aeu:=@PyProof.Rows.reverseSlice'_eq
def aev:=@PyProof.Rows.wpS_modify
def aew.{u}:=@List.any_eq_true.{u}
def aex:=@PySem.plainId_quiet
def aey:=@PySem.wpAny_attempt
def aez.{u}:=@List.getElem?_set_ne.{u}
def aeA.{u}:=@List.map_id.{u}
def aeB:=@PySem.codeAny_call_builtin
def aeC:=@PySem.F.entry_dict_keyiterator_next
def aeD:=@Nat.and_div_two
def aeE:=@PySem.wpAny_updateSeq
def aeF:=@PySem.wpAny_setEntries_of
def aeG.{u}:=@List.getElem_of_mem.{u}
def aeH:=@PySem.codeAny_mono
def aeI:=@Bool.false_and
def aeJ.{u,v}:=@List.mem_filterMap.{u,v}
def aeK:=@Bool.not_false
def aeL.{u}:=@Array.size_extract.{u}
def aeM:=@PySem.wpAny_rule
def aeN:=@PySem.wpAny_pyIter_tuple
def aeO:=@PySem.Code.quiet_builtin
def aeP:=@PySem.wpAny_runValue
def aeQ:=@PySem.isSubtype_type
def aeR:=@PySem.wpAny_fieldsOf
def aeS:=@Nat.and_xor_distrib_right
def aeT:=@PySem.Value.isInt_shape
def aeU.{u,v}:=@Sum.inl.inj.{u,v}
def aeV.{u}:=@Array.size_append.{u}
def aeW:=@PySem.Heap.SameBut.refl
def aeX:=@PySem.wpAny_pyIter_list
def aeY:=@PySem.wpAny_pyIter_slot
def aeZ:=@PySem.wpAny_dictEntries
def ae0.{u}:=@List.Sublist.refl.{u}
def ae1:=@Bool.and_self
def ae2:=@PySem.noFill_tuple_add
def ae3.{u}:=@List.ext_getElem.{u}
def ae4.{u}:=@List.not_mem_nil.{u}
def ae5:=@PySem.wpAny_isInstance
def ae6:=@PySem.isinstance_outer
def ae7:=@PySem.W.cellsFrom_some
def ae8:=@PySem.concat_meets
def ae9:=@Nat.xor_comm
def afa:=@Nat.lt_or_ge
def afb:=@PySem.wpAny_specialOf
def afc:=@Nat.two_pow_pos
def afd:=@Nat.xor_div_two
def afe:=@PySem.typeLookup_type
def aff:=@PySem.wpAny_dictEpoch
def afg:=@PySem.call_isinstance
def afh:=@Bool.xor_false
def afi:=@Bool.and_true
def afj:=@PySem.W.mg_of
def afk:=@Nat.mod_lt
def afl:=@Nat.ne_of_gt
def afm:=@Nat.le_of_eq
def afn:=@Int.sub_zero
noncomputable section
section
set_option Elab.async false
set_option linter.all false
set_option maxRecDepth 100000
namespace bA
open PySem PySem.Spec PyProof.Rows
noncomputable abbrev Key:=Sum Int Str
noncomputable def qp:Key->Value->Bool
 |.inl k,v=>Value.isInt k v
 |.inr x,v=>Value.isStrOf x v
noncomputable def Su(w:World):Key->Int
 |.inl k=>hashInt k
 |.inr x=>hashStr w x
def lV:∀{k:Key}{v:Value},qp k v=true->(∃i t,k=Sum.inl i/\v=Value.int i t)\/(∃x t,k=Sum.inr x/\v=Value.str x t)
 |.inl i,v,h=>by
  obtain⟨t,e⟩:=aeT (k:=i) (v:=v) h;exact .inl ⟨i,t,rfl,e⟩
 |.inr x,v,h=>by
  obtain⟨t,e⟩:=Value.isStrOf_shape (x:=x) (v:=v) h;exact .inr ⟨x,t,rfl,e⟩
def Sw(i:Int)(t:Tok):qp (.inl i) (.int i t)=true:=by simp[qp,Value.isInt]
def Sx(x:Str)(t:Tok):qp (.inr x) (.str x t)=true:=by simp[qp,Value.isStrOf]
def SA(a b:Int):decide ((Sum.inl a:Key)=Sum.inl b)=(a==b):=by
 by_cases e:a=b
 .subst e;simp
 .have h:¬(Sum.inl a:Key)=Sum.inl b:=λq=>e (aeU q)
  rw[decide_eq_false h];exact(acb.mpr e).symm
def SF(a b:Str):decide ((Sum.inr a:Key)=Sum.inr b)=decide (a=b):=by
 by_cases e:a=b
 .subst e;simp
 .have h:¬(Sum.inr a:Key)=Sum.inr b:=λq=>e (Sum.inr.inj q)
  rw[decide_eq_false h,decide_eq_false e]
def SD(a:Int)(b:Str):decide ((Sum.inl a:Key)=Sum.inr b)=false:=decide_eq_false (λq=>nomatch q)
def SE(a:Str)(b:Int):decide ((Sum.inr a:Key)=Sum.inl b)=false:=decide_eq_false (λq=>nomatch q)
noncomputable def hJ(prog:Program)(w:World):PySem.KeyKind prog w Key where
 is:=qp
 hash:=Su w
 inj:=λv a b aw ae=>by
  rcases lV aw with⟨i,t,rfl,rfl⟩|⟨x,t,rfl,rfl⟩
  .rcases lV ae with⟨j,u,rfl,e⟩|⟨y,u,rfl,e⟩
   .injection e with e1 _;rw[e1]
   .exact nomatch e
  .rcases lV ae with⟨j,u,rfl,e⟩|⟨y,u,rfl,e⟩
   .exact nomatch e
   .injection e with e1 _;rw[e1]
 byValue:=λk v h=>by
  rcases lV h with⟨i,t,rfl,rfl⟩|⟨x,t,rfl,rfl⟩<;>rfl
 pyHash:=λaN h=>by
  rcases lV aN with⟨i,t,rfl,rfl⟩|⟨x,t,rfl,rfl⟩
  .exact wpAny_pyHash_int h
  .exact wpAny_pyHash_str h
 eqBool:=λbr aN h=>by
  rcases lV br with⟨i,t,rfl,rfl⟩|⟨x,t,rfl,rfl⟩
  .rcases lV aN with⟨j,u,rfl,rfl⟩|⟨y,u,rfl,rfl⟩
   .rw[SA]at h;exact wpAny_eqBool_int h
   .rw[SD]at h;exact SeqAt.EqAt.int_str i t y u _ _ _ _ h
  .rcases lV aN with⟨j,u,rfl,rfl⟩|⟨y,u,rfl,rfl⟩
   .rw[SE]at h;exact SeqAt.EqAt.str_int x t j u _ _ _ _ h
   .rw[SF]at h;exact wpAny_eqBool_str h
 «strs»:=λk x t v h=>by
  rcases lV h with⟨i,u,rfl,e⟩|⟨y,u,rfl,e⟩
  .exact nomatch e
  .injection e with e1 _;subst e1;cases v<;>rfl
def TK(prog:Program)(w:World)(i:Int)(t:Tok):(hJ prog w).is (.inl i) (.int i t)=true:=Sw i t
def TL(prog:Program)(w:World)(x:Str)(t:Tok):(hJ prog w).is (.inr x) (.str x t)=true:=Sx x t
end bA
namespace bA
open PySem PySem.Spec PyProof.Rows
inductive V where
 |dK|aU (b:Bool)|int (i:Int)|str (x:Str)|yn (b:Array UInt8)|gP (b:UInt64)|ref (a:Addr)|ty (n:String)
 deriving DecidableEq
noncomputable def RelV:V->Value->Prop
 |.dK,u=>u=Value.none
 |.aU b,u=>u=Value.bool b
 |.int i,u=>∃t,u=Value.int i t
 |.str x,u=>∃t,u=Value.str x t
 |.yn b,u=>∃t,u=Value.bytes b t
 |.gP b,u=>∃t,u=Value.float b t
 |.ref a,u=>u=Value.ref a
 |.ty n,u=>u=Value.type n
noncomputable abbrev Vals:List V->List Value->Prop:=Paired RelV
theorem Vals.length{xs:List V}{us:List Value}(r:Vals xs us):xs.length=us.length:=Paired.length r
theorem Vals.get:∀{xs:List V}{us:List Value}{i:Nat}{x:V},Vals xs us->xs[i]?=some x->∃u,us[i]?=some u/\RelV x u
 |_,_,_,_,.nil,e=>by simp at e
 |_,_,0,_,.cons r _,e=>by simp at e;subst e;exact⟨_,rfl,r⟩
 |_,_,i+1,x,.cons _ t,e=>by
  obtain⟨u,J,aa⟩:=Vals.get (i:=i) (x:=x) t (by simpa using e);exact⟨u,by simpa using J,aa⟩
theorem Vals.set{x:V}{u:Value}(r:RelV x u):∀{xs:List V}{us:List Value}(i:Nat),Vals xs us->Vals (xs.set i x) (us.set i u)
 |_,_,_,.nil=>.nil
 |_,_,0,.cons _ t=>.cons r t
 |_,_,i+1,.cons q t=>.cons q (Vals.set r i t)
theorem Vals.append:∀{xs ys:List V}{us ws:List Value},Vals xs us->Vals ys ws->Vals (xs++ys) (us++ws)
 |_,_,_,_,.nil,s=>s
 |_,_,_,_,.cons r t,s=>.cons r (Vals.append t s)
theorem Vals.take:∀{xs:List V}{us:List Value}(n:Nat),Vals xs us->Vals (xs.take n) (us.take n)
 |_,_,0,_=>.nil
 |_,_,_+1,.nil=>.nil
 |_,_,n+1,.cons r t=>.cons r (Vals.take n t)
theorem Vals.drop:∀{xs:List V}{us:List Value}(n:Nat),Vals xs us->Vals (xs.drop n) (us.drop n)
 |_,_,0,r=>r
 |_,_,_+1,.nil=>.nil
 |_,_,n+1,.cons _ t=>Vals.drop n t
noncomputable def jA:Option V->Option Value->Prop
 |some v,some u=>RelV v u
 |none,none=>True
 |_,_=>False
def eW{κ:Type}:List (κ×V)->List (κ×Value)->Prop:=Paired λ(p:κ×V)(q:κ×Value)=>p.1=q.1/\RelV p.2 q.2
noncomputable def dq:Key->V
 |.inl i=>.int i
 |.inr x=>.str x
inductive e4 where
  |lst (xs:List V)
  |tup (xs:List V)
  |dY (ax:List (Key×V))|ey (ax:List (List Key×V))
  |set (S:Int->Bool) (n:Nat)
  |ins (C bj:Addr) (bC:List (Str×V))
  |own (x:Addr)
  |w6 (bC:List (Str×V))
  |met (f x:Addr)
  |ep (lo aj:Int)
  |eh (o:Obj) (u:e4)
  |nM (a3:Array Value)
  |ext (φ:Heap->Prop)
noncomputable abbrev aD:=Addr->Option e4
noncomputable def upd(H:aD)(a:Addr)(o:e4):aD:=λb=>if b=a then some o else H b
def dJ{H:aD}{a:Addr}{o:e4}:upd H a o a=some o:=by unfold upd;rw[if_pos rfl]
def dc{H:aD}{a b:Addr}{o:e4}(h:b≠a):upd H a o b=H b:=by unfold upd;rw[if_neg h]
def Cb{H:aD}{a:Addr}{o u:e4}:upd (upd H a o) a u=upd H a u:=by
 funext b;unfold upd;split<;>rfl
def T2{H:aD}{a b:Addr}{o u:e4}(h:H a=some o)(h':H b=some u)(d:o≠u):a≠b:=by
 intro e;subst e;rw[h]at h';exact d (ab5 h')
def nx{H:aD}{a b:Addr}{o:e4}(h:H a=some o)(h':H b=none):a≠b:=by
 intro e;subst e;rw[h]at h';cases h'
section
variable(P:Program)(w:World)
noncomputable def d7(H:aD)(h:Heap)(a:Addr):e4->Prop
 |.lst xs=>xs.length<=sizeLine/\∃(its:List Value)(n:Nat),Vals xs its/\h.get? a=some { cls:=.type "list",data:=.seq its.toArray n }
 |.tup xs=>xs.length<=sizeLine/\∃its:List Value,Vals xs its/\IsTup h a its.toArray
 |.dY ax=>ax.length<=sizeLine/\(a==sysModules)=false/\∃ag,eW ax ag/\h.DictOf (hJ P w) a ag
 |.ey ax=>ax.length<=sizeLine/\(a==sysModules)=false/\∃xs:List (List Key×Addr×Value),
   Paired (λ(p:List Key×V)(q:List Key×Addr×Value)=>p.1=q.1/\H q.2.1=some (.tup (p.1.map dq))/\RelV p.2 q.2.2) ax xs /\
   ∃o ak a8,h.get? a=some o/\o.ExactDict/\o.data=.dict ak a8/\ak.toList=xs.map (entryOfKey (tupleKind (hJ P w)))/\(xs.map (·.1)).Nodup
 |.set S n=>h.SetOf (intKind P w) a S n
 |.ins C bj bC=>H bj=some (.own a)/\bC.length<=1000/\bj≠a/\h.get? a=some (PySem.W.instObj C bj) /\
   ∃gC,h.Ns1 bj gC/\(∀f,jA (bC.lookup f) (gC f))/\PySem.Within gC (bC.map (·.1))
 |.own _=>∃o,h.get? a=some o
 |.w6 bC=>∃gC,h.Ns1 a gC/\∀f,jA (bC.lookup f) (gC f)
 |.ep lo aj=>∃t u v,h.get? a=some { cls:=.type "range",data:=.fields #[.int lo t,.int aj u,.int 1 v] }
 |.eh o u=>h.get? a=some o/\d7 H h a u
 |.nM a3=>h.get? a=some { cls:=.none,data:=.fields a3 }
 |.met f x=>h.get? a=some (PySem.W.methodObj (.ref f) (.ref x))
 |.ext φ=>φ h/\(∃o,h.get? a=some o)/\∀J aa:Heap,φ J->(∀o,J.get? a=some o->aa.get? a=some o)->φ aa
def ed(H:aD)(h:Heap):Prop:=∀a o,H a=some o->d7 P w H h a o
end
section
variable{P:Program}{w:World}{H aq:aD}{h h':Heap}{a:Addr}{o:e4}
theorem d7.lt(x:d7 P w H h a o):a<h.objs.size:=by
 cases o with
 |lst xs=>obtain⟨_,_,_,_,e⟩:=x;exact abC e
 |tup xs=>obtain⟨_,_,_,p⟩:=x;exact p.lt
 |dY ax=>obtain⟨_,_,_,_,o,_,_,e,_⟩:=x;exact abC e
 |ey ax=>obtain⟨_,_,_,_,o,_,_,e,_⟩:=x;exact abC e
 |set S n=>obtain⟨o,_,_,_,e,_⟩:=x;exact abC e
 |ins C bj bC=>obtain⟨_,_,_,e,_⟩:=x;exact abC e
 |own y=>obtain⟨_,e⟩:=x;exact abC e
 |w6 bC=>obtain⟨_,⟨_,_,_,e,_⟩,_⟩:=x;exact abC e
 |ep lo aj=>obtain⟨_,_,_,e⟩:=x;exact abC e
 |eh b5 u=>obtain⟨e,_⟩:=x;exact abC e
 |nM a3=>exact abC (show h.get? a=some _ from x)
 |met f y=>exact abC (show h.get? a=some _ from x)
 |ext φ=>obtain⟨_,⟨_,e⟩,_⟩:=x;exact abC e
theorem Paired.AI{α β:Type}{F G:α->β->Prop}:∀{l₁:List α}{GD:List β},Paired F l₁ GD->(∀a b,F a b->G a b)->Paired G l₁ GD
 |_,_,.nil,_=>.nil
 |_,_,.cons r t,f=>.cons (f _ _ r) (Paired.AI t f)
def d7.jn(x:d7 P w H h a o)(k:∀b u,(b=a\/H b=some (.own a))->h.get? b=some u->h'.get? b=some u)(az:∀b,H b=some (.own a)->aq b=some (.own a))(aH:∀b xs,H b=some (.tup xs)->aq b=some (.tup xs)):d7 P w aq h' a o:=by
 induction o with
 |lst xs=>obtain⟨z,its,n,r,e⟩:=x;exact⟨z,its,n,r,k _ _ (.inl rfl) e⟩
 |tup xs=>obtain⟨z,its,r,b5,e,c⟩:=x;exact⟨z,its,r,b5,k _ _ (.inl rfl) e,c⟩
 |dY ax=>obtain⟨z,y,ag,r,b5,ak,a8,e,c⟩:=x;exact⟨z,y,ag,r,b5,ak,a8,k _ _ (.inl rfl) e,c⟩
 |ey ax =>
  obtain⟨z,y,xs,r,b5,ak,a8,e,c⟩:=x;exact⟨z,y,xs,Paired.AI r λp q z=>⟨z.1,aH _ _ z.2.1,z.2.2⟩,b5,ak,a8,k _ _ (.inl rfl) e,c⟩
 |set S n=>obtain⟨b5,ak,a8,t,e,c⟩:=x;exact⟨b5,ak,a8,t,k _ _ (.inl rfl) e,c⟩
 |ins C bj bC =>
  obtain⟨d,z,ne,e,gC,⟨bu,ak,a8,ar,c⟩,r⟩:=x;exact⟨az _ d,z,ne,k _ _ (.inl rfl) e,gC,⟨bu,ak,a8,k _ _ (.inr d) ar,c⟩,r⟩
 |own y=>obtain⟨b5,e⟩:=x;exact⟨b5,k _ _ (.inl rfl) e⟩
 |w6 bC=>obtain⟨gC,⟨bu,ak,a8,e,c⟩,r⟩:=x;exact⟨gC,⟨bu,ak,a8,k _ _ (.inl rfl) e,c⟩,r⟩
 |ep lo aj=>obtain⟨t,u,v,e⟩:=x;exact⟨t,u,v,k _ _ (.inl rfl) e⟩
 |eh b5 u aE=>obtain⟨e,q⟩:=x;exact⟨k _ _ (.inl rfl) e,aE q⟩
 |nM a3 =>
  have e:h.get? a=some { cls:=.none,data:=.fields a3 }:=x;show h'.get? a=some { cls:=.none,data:=.fields a3 };exact k a _ (.inl rfl) e
 |met f y =>
  have e:h.get? a=some (PySem.W.methodObj (.ref f) (.ref y)):=x;show h'.get? a=some (PySem.W.methodObj (.ref f) (.ref y));exact k a _ (.inl rfl) e
 |ext φ=>obtain⟨p,⟨o,e⟩,st⟩:=x;exact⟨st _ _ p λo q=>k _ _ (.inl rfl) q,⟨o,k _ _ (.inl rfl) e⟩,st⟩
theorem ed.lt(x:ed P w H h)(e:H a=some o):a<h.objs.size:=(x a o e).lt
def ed.fresh(x:ed P w H h)(e:h.objs.size<=a):H a=none:=by
 cases q:H a with
 |none=>rfl
 |some u=>exact absurd (abG (x.lt q) e) (acQ _)
def ed.kept(x:ed P w H h)(k:∀b u,h.get? b=some u->h'.get? b=some u):ed P w H h':=λa o e =>
 (x a o e).jn (λb u _ q=>k b u q) (λ_ q=>q) λ_ _ q=>q
def ed.laid(x:ed P w H h)(k:∀b u,h.get? b=some u->h'.get? b=some u)(aB:h.objs.size<=a)(new:d7 P w (upd H a o) h' a o):ed P w (upd H a o) h':=λb u e=>by
 have aC:=x.fresh aB
 by_cases ae:b=a
 .subst ae;rw[dJ]at e;cases e;exact new
 .rw[dc ae]at e;exact(x b u e).jn (λc v _ q=>k c v q) (λc q=>by rw[dc (nx q aC)];exact q) λc xs q=>by rw[dc (nx q aC)];exact q
end
def hP(H:aD)(a:Addr)(u:e4):Prop:=H a=some u\/∃o,H a=some (.eh o u)
def hP.ok{P:Program}{w:World}{H:aD}{h:Heap}{a:Addr}{u:e4}(r:hP H a u)(x:ed P w H h):d7 P w H h a u:=by
 rcases r with r|⟨o,r⟩
 .exact x a u r
 .obtain⟨_,q⟩:=x a _ r;exact q
noncomputable def rk:Option e4->Prop
 |some (.lst _)=>True
 |some (.dY _)=>True
 |some (.ey _)=>True
 |some (.set _ _)=>True
 |some (.ins _ _ _)=>True
 |some (.ext _)=>True
 |_=>False
section
variable{P:Program}{w:World}{H:aD}{h h':Heap}{x e:Addr}{bt:e4}
def ed.write (ok : ed P w H h) (ao : rk (H x)) (he : e = x \/ H e = some (.own x)) (k : ∀ b u, b ≠ e -> h.get? b = some u -> h'.get? b = some u) (qa : ∃ u, h'.get? e = some u)
    (new : d7 P w (upd H x bt) h' x bt) : ed P w (upd H x bt) h' := fun b u q => by
  have Hf : ∀ c y, H c = some (.own y) -> c ≠ x := fun c y r z => by subst z; rw [r] at ao; exact ao
  have Ug : ∀ c xs, H c = some (.tup xs) -> c ≠ x := fun c xs r z => by subst z; rw [r] at ao; exact ao
  by_cases ae : b = x
  · subst ae; rw [dJ] at q; cases q; exact new
  · rw [dc ae] at q
    by_cases oo : b = e
    · have cN : H b = some (.own x) := by
        rcases he with z | z
        · exact absurd (oo.trans z) ae
        · rw [oo]; exact z
      rw [q] at cN; cases cN
      obtain ⟨v, aN⟩ := qa
      exact ⟨v, by rw [oo]; exact aN⟩
    · refine (ok b u q).jn (fun c v ah r => k c v ?_ r) (fun c r => by rw [dc (Hf c b r)]; exact r) fun c xs r => by rw [dc (Ug c xs r)]; exact r
      rcases ah with rfl | ah
      · exact oo
      · rintro rfl
        rcases he with z | z
        · exact Hf c b ah z
        · rw [ah] at z; cases z; exact ae rfl
end
structure fg(bC ex:List Addr)(H aq:aD)(h h':Heap):Prop where
 keep:∀b o,h.get? b=some o->H b=none->b∉bC->b∉ex->h'.get? b=some o
 slot:∀b o,h.get? b=some o->H b=none->b∈bC->b∉ex->∃bM,h'.get? b=some { o with slots:=bM }
 free:∀b o,h.get? b=some o->H b=none->b∉ex->aq b=none
 there:∀b o,h.get? b=some o->b∉ex->∃bt,h'.get? b=some bt
 jq:∀b xs,H b=some (.tup xs)->aq b=some (.tup xs)
 iH:∀b o u,H b=some (.eh o u)->aq b=some (.eh o u)
 jo:∀b a3,H b=some (.nM a3)->∃more,aq b=some (.nM (a3++more))
section
variable{bC PK ex aap:List Addr}{H H1 aX:aD}{h J aa h':Heap}{a x e:Addr}{o:e4}
def fg.any(u:fg bC ex H H1 h J){b:Addr}{b5:Obj}(q:h.get? b=some b5)(n:H b=none)(ai:b∉ex):∃bM,J.get? b=some { b5 with slots:=bM }:=by
 by_cases ae:b∈bC
 .exact u.slot b b5 q n ae ai
 .exact⟨b5.slots,u.keep b b5 q n ae ai⟩
def fg.kept(k:∀b u,h.get? b=some u->h'.get? b=some u):fg bC ex H H h h' :=
 ⟨λb b5 q _ _ _=>k b b5 q,λb b5 q _ _ _=>⟨b5.slots,k b b5 q⟩,λ_ _ _ n _=>n,λb b5 q _=>⟨b5,k b b5 q⟩,λ_ _ q=>q,λ_ _ _ q=>q,λ_ a3 q=>⟨#[],by rw[q];simp⟩⟩
def fg.refl:fg bC ex H H h h:=fg.kept λ_ _ q=>q
def fg.laid(k:∀b u,h.get? b=some u->h'.get? b=some u)(aB:h.objs.size<=a)(aC:H a=none):fg bC ex H (upd H a o) h h' where
 keep:=λb u q _ _ _=>k b u q
 slot:=λb u q _ _ _=>⟨u.slots,k b u q⟩
 free:=λb u q n _=>by rw[dc (abP (abG (abC q) aB))];exact n
 there:=λb u q _=>⟨u,k b u q⟩
 jq:=λb xs q=>by rw[dc (nx q aC)];exact q
 iH:=λb u xs q=>by rw[dc (nx q aC)];exact q
 jo:=λb a3 q=>⟨#[],by rw[dc (nx q aC),q];simp⟩
def fg.write(ao:rk (H x))(he:e=x\/H e=some (.own x))(k:∀b u,b≠e->h.get? b=some u->h'.get? b=some u)(qa:∃u,h'.get? e=some u):fg bC ex H (upd H x o) h h':=by
 have ai:∀b,H b=none->b≠x:=λb n z=>by subst z;rw[n]at ao;exact ao
 have ae:∀b,H b=none->b≠e:=λb n z=>by
  subst z;rcases he with r|r
  .exact ai b n r
  .rw[n]at r;cases r
 have hm:∀b u,H b=some u->¬rk (some u)->b≠x:=λb u q nm z=>by subst z;rw[q]at ao;exact nm ao
 refine⟨λb u q n _ _=>k b u (ae b n) q,λb u q n _ _=>⟨u.slots,k b u (ae b n) q⟩,λb u q n _=>by rw[dc (ai b n)];exact n,λb u q _=>?_,
  λb xs q=>by rw[dc (hm b _ q λz=>z)];exact q,λb u xs q=>by rw[dc (hm b _ q λz=>z)];exact q,λb a3 q=>⟨#[],by rw[dc (hm b _ q λz=>z),q];simp⟩⟩
 by_cases oo:b=e
 .subst oo;exact qa
 .exact⟨u,k b u oo q⟩
end
noncomputable def wN(h:Heap)(H:aD):List Addr:=(List.range h.objs.size).filter λa=>(H a).isSome
noncomputable def lN(h:Heap)(H:aD):Heap:=PySem.W.hideAll h (wN h H)
def QI(h:Heap)(H:aD):(lN h H).objs.size=h.objs.size:=PySem.W.hideAll_size _ _
def QH{h:Heap}{H:aD}{b:Addr}{o:Obj}(e:h.get? b=some o)(n:H b=none):(lN h H).get? b=some o :=
 PySem.W.hideAll_get _ e λhm=>by
  have q:(H b).isSome=true:=(List.mem_filter.mp hm).2;rw[n]at q;simp at q
def Us{h:Heap}{H:aD}{b:Addr}{o:Obj}(e:(lN h H).get? b=some o):h.get? b=some o/\H b=none:=by
 have bk:h.get? b=some o:=PySem.W.of_hideAll (wN h H) e;refine⟨bk,?_⟩;cases q:H b with
 |none=>rfl
 |some x =>
  have hm:b∈wN h H:=List.mem_filter.mpr ⟨List.mem_range.mpr (abC bk),by simp[q]⟩;have z:(lN h H).get? b=none:=PySem.W.hideAll_none (wN h H) hm;rw[z]at e;cases e
noncomputable def KV(g h:Heap)(L:Addr):List (Addr×Obj):=(List.range h.objs.size).filterMap λa=>if a=L\/(g.get? a).isSome=true then none else(h.get? a).map λo=>(a,o)
noncomputable def rest(g h:Heap)(L d:Addr):List (Addr×Obj):=(KV g h L).filter λp=>decide (p.1≠d)
end bA
namespace bA
open PySem PySem.Spec PyProof.Rows
structure Mod(K:W.Frag)(aZ:Str->Option Value)(base:Heap):Prop where
 Aq:K.In base
 glob:base.Ns mainGlobals aZ
 blt:∃jf,base.Ns builtinsNs jf/\∀x:Str,x≠"__name__"->jf x=bootBuiltins x
 nolimit:base.NoLimit
structure a7 where
 prog:Program
 w:World
 K:W.Frag
 aZ:Str->Option Value
 base:Heap
 A:Around
 N:List Str
 eS:Shared
 ri:aD
 env:Env
 outer:List Env
 stack:List Env
 ex:List Addr
 fn:Str->Bool
 calm:Bool
 cA:List (Addr×Obj)
 cq:Value->Shared->Prop
noncomputable def gd(l:List Env):List Addr:=l.filterMap (·.frame)
noncomputable abbrev a7.bC(X:a7):List Addr:=gd X.outer
def ft(sc:Scope)(x:Str):Prop:=sc.names.lookup x=some .local\/sc.names.lookup x=some .cell\/sc.names.lookup x=some .free
def Loc(sc:Scope)(x:Str):Prop:=sc.names.lookup x=some .local\/sc.names.lookup x=some .cell
def Look(env:Env)(h:Heap)(m:Str->Option Value)(x:Str)(u:Value):Prop :=
 (env.kindOf x=some .local/\m x=some u)\/((env.kindOf x=some .cell\/env.kindOf x=some .free)/\∃c,env.cells.lookup x=some c/\h.IsCell c (some u))
structure a7.Ok(X:a7):Prop where
 mod:Mod X.K X.aZ X.base
 kind:X.env.scope.kind=.function
 glob:X.env.globals=mainGlobals
 blt:X.env.builtins=builtinsNs
 above:X.eS.heap.objs.size<=X.env.locals
 inj:∀x y c,X.env.cells.lookup x=some c->X.env.cells.lookup y=some c->x=y
 has:∀x,(X.env.kindOf x=some .cell\/X.env.kindOf x=some .free)->∃c,X.env.cells.lookup x=some c
 rH:∀x c,X.fn x=true->X.env.cells.lookup x=some c->X.eS.heap.objs.size<=c
 hd:X.calm=true->X.A.handled=none
 frames:X.A.frames=some X.stack
 pa:X.stack=X.outer\/(X.stack=X.env::X.outer/\X.env.frame=some X.env.locals)
 u4:∀b∈X.ex,b≠X.env.locals/\∀x c,X.env.cells.lookup x=some c->c≠b
 bs:∀b o,X.base.get? b=some o->X.eS.heap.get? b=some o/\X.ri b=none
 n6:X.base.objs.size<=X.eS.heap.objs.size
 qB:∀b o,X.base.get? b=some o->b∉X.ex
 oe:∀b∈X.ex,b∉X.bC
 i8:X.eS.heap.FunFrames X.base X.outer
 p0:∀b∈X.bC,X.ri b=none
structure Inv(X:a7)(pins:List (Addr×Obj))(σ:List (Option V))(H:aD)(s:Shared):Prop where
 ok:X.Ok
 os:s.os=X.eS.os
 bare:AllBare s.gens
 base:fg X.bC X.ex X.ri H X.eS.heap s.heap
 loc:∃m,s.heap.Ns X.env.locals m/\∀(i:Nat)(x:Str)(v:V),X.N[i]?=some x->σ[i]?=some (some v)->ft X.env.scope x->∃u,RelV v u/\Look X.env s.heap m x u
 cell:∀x c,X.env.cells.lookup x=some c->∃v,s.heap.IsCell c v
 free:H X.env.locals=none
 hE:∀x c,X.env.cells.lookup x=some c->H c=none
 pin:∀p∈X.cA++pins,s.heap.get? p.1=some p.2/\H p.1=none/\p.1≠X.env.locals/\p.1∉X.bC/\∀v,p.2.data≠.cell v
 bL:ed X.prog X.w H s.heap
 len:σ.length=X.N.length
section
variable{X:a7}{pins:List (Addr×Obj)}{σ:List (Option V)}{H aq:aD}{s:Shared}{h':Heap}
def a7.Ok.T9(ok:X.Ok){b:Addr}{o:Obj}(e:X.base.get? b=some o):b∉X.bC:=λae=>by
 have:=(ok.i8.mem ae).1;rw[e]at this;cases this
theorem Inv.bs(I:Inv X pins σ H s):∀b o,X.base.get? b=some o->s.heap.get? b=some o/\H b=none:=λb o e =>
 ⟨I.base.keep b o (I.ok.bs b o e).1 (I.ok.bs b o e).2 (I.ok.T9 e) (I.ok.qB b o e),I.base.free b o (I.ok.bs b o e).1 (I.ok.bs b o e).2 (I.ok.qB b o e)⟩
def Inv.hv(I:Inv X pins σ H s):∀b o,X.base.get? b=some o->s.heap.get? b=some o:=λb o e=>(I.bs b o e).1
theorem Inv.mod(I:Inv X pins σ H s):Mod X.K X.aZ X.base:=I.ok.mod
def Inv.oH(I:Inv X pins σ H s):X.K.In s.heap:=I.ok.mod.Aq.keeps I.hv
theorem Inv.lt(I:Inv X pins σ H s):X.env.locals<s.heap.objs.size:=let ⟨_,aC,_⟩:=I.loc;aC.lt
def Inv.gH(I:Inv X pins σ H s):X.eS.heap.objs.size<=s.heap.objs.size:=acx I.ok.above (adP I.lt)
def Inv.vS(I:Inv X pins σ H s){a:Addr}(h:s.heap.objs.size<=a):a∉X.bC:=λae=>by
 obtain⟨_,o,az,_⟩:=I.ok.i8.mem ae;exact absurd (abG (abC az) (acx I.gH h)) (acQ _)
def Inv.mR(I:Inv X pins σ H s):∀x c,X.env.cells.lookup x=some c->c≠X.env.locals:=λx c e z=>by
 obtain⟨v,o,az,hd⟩:=I.cell x c e;obtain⟨m,⟨bt,ak,a8,dG,fT,_⟩,_⟩:=I.loc;rw[z,dG]at az;cases az;rw[fT]at hd;cases hd
theorem Inv.i8(I:Inv X pins σ H s):s.heap.FunFrames X.base X.outer:=by
 have all:∀(l:List Env),(∀b∈gd l,b∈X.bC)->X.eS.heap.FunFrames X.base l->s.heap.FunFrames X.base l:=by
  intro l
  induction l with
  |nil=>intro _ _;trivial
  |cons env r aE =>
   intro af aA;obtain⟨ay,⟨L,o,hf,aC,az,hd⟩,a4⟩:=aA;have eA:L∈X.bC:=af L (by unfold gd;rw[List.filterMap_cons,hf];exact List.mem_cons_self);obtain⟨bM,e⟩:=I.base.slot L o az (I.ok.p0 L eA) eA λz=>I.ok.oe L z eA
   exact⟨ay,⟨L,_,hf,aC,e,hd⟩,aE (λb ae=>af b (by unfold gd;rw[List.filterMap_cons,hf];exact List.mem_cons_of_mem _ ae)) a4⟩
 exact all X.outer (λ_ ae=>ae) I.ok.i8
theorem Inv.stack(I:Inv X pins σ H s):s.heap.FunFrames X.base X.stack:=by
 rcases I.ok.pa with e|⟨e,hf⟩
 .rw[e];exact I.i8
 .rw[e];obtain⟨m,aC,_⟩:=I.loc;refine .cons (by rw[I.ok.kind];decide) hf aC ?_ I.i8;exact Heap.get?_none_of_le (acx I.ok.n6 I.ok.above)
def Inv.pb(I:Inv X pins σ H s):∀b∈gd X.stack,b∈X.env.locals::X.bC:=λb ae=>by
 rcases I.ok.pa with e|⟨e,hf⟩
 .rw[e]at ae;exact List.mem_cons_of_mem _ ae
 .rw[e]at ae;unfold gd at ae;rw[List.filterMap_cons,hf]at ae;exact ae
def Inv.BS(I:Inv X pins σ H s):∀b∈gd X.stack,H b=none:=λb ae=>by
 rcases abA.mp (I.pb b ae) with e|ae
 .rw[e];exact I.free
 .obtain⟨_,o,az,_⟩:=I.ok.i8.mem ae;exact I.base.free b o az (I.ok.p0 b ae) λz=>I.ok.oe b z ae
def Inv.step{g':Array GenState}{t':Nat}{d':Drawn}{ch:List Addr}(I:Inv X pins σ H s)(kx:∀b∈ch,(b∈X.ex\/X.eS.heap.objs.size<=b)/\b≠X.env.locals/\(∀x c,X.env.cells.lookup x=some c->c≠b)/\∀p∈X.cA++pins,p.1≠b)(keep:∀b o,b≠X.env.locals->b∉X.bC->b∉ch->s.heap.get? b=some o->H b=none->h'.get? b=some o)(slot:∀b o,b≠X.env.locals->b∈X.bC->b∉ch->s.heap.get? b=some o->H b=none->∃bM,h'.get? b=some { o with slots:=bM })(free:∀b o,b∉ch->s.heap.get? b=some o->H b=none->aq b=none)(there:∀b o,b∉ch->s.heap.get? b=some o->∃bt,h'.get? b=some bt)(jq:∀b xs,H b=some (.tup xs)->aq b=some (.tup xs))(iH:∀b o u,H b=some (.eh o u)->aq b=some (.eh o u))(jo:∀b a3,H b=some (.nM a3)->∃more,aq b=some (.nM (a3++more)))(ns:∀m,s.heap.Ns X.env.locals m->h'.Ns X.env.locals m)(bL:ed X.prog X.w aq h')(aY:AllBare g'):
  Inv X pins σ aq { s with heap:=h',gens:=g',drawn:=d',toks:=t' }:=by
 have G3:∀b o,X.eS.heap.get? b=some o->b≠X.env.locals:=λb o e=>abP (abG (abC e) I.ok.above)
 have nv:∀b o,X.eS.heap.get? b=some o->b∉X.ex->b∉ch:=λb o e ai ae=>by
  rcases(kx b ae).1 with z|z
  .exact ai z
  .exact absurd (abG (abC e) z) (acQ _)
 have cellK:∀x c,X.env.cells.lookup x=some c->∀v,s.heap.IsCell c v->h'.IsCell c v:=λx c e v ⟨o,az,hd⟩=>by
  have tj:c∉ch:=λz=>(kx c z).2.2.1 x c e rfl
  by_cases ah:c∈X.bC
  .obtain⟨bM,q⟩:=slot c o (I.mR x c e) ah tj az (I.hE x c e);exact⟨_,q,hd⟩
  .exact⟨o,keep c o (I.mR x c e) ah tj az (I.hE x c e),hd⟩
 refine⟨I.ok,I.os,aY,⟨λb o e n ae ai=>?_,λb o e n ae ai=>?_,λb o e n ai=>?_,λb o e ai=>?_,λb xs e=>jq b xs (I.base.jq b xs e),λb o xs e=>iH b o xs (I.base.iH b o xs e),λb a3 e=>?_⟩,?_,λx c e=>?_,?_,λx c e=>?_,λp aB=>?_,bL,I.len⟩
 .exact keep b o (G3 b o e) ae (nv b o e ai) (I.base.keep b o e n ae ai) (I.base.free b o e n ai)
 .obtain⟨bM,e1⟩:=I.base.slot b o e n ae ai;obtain⟨BJ,ar⟩:=slot b _ (G3 b o e) ae (nv b o e ai) e1 (I.base.free b o e n ai);exact⟨BJ,ar⟩
 .obtain⟨bt,e1⟩:=I.base.there b o e ai;exact free b bt (nv b o e ai) e1 (I.base.free b o e n ai)
 .obtain⟨bt,e1⟩:=I.base.there b o e ai;exact there b bt (nv b o e ai) e1
 .obtain⟨nr,e1⟩:=I.base.jo b a3 e;obtain⟨lZ,ar⟩:=jo b _ e1;exact⟨nr++lZ,by rw[ar,Array.append_assoc]⟩
 .obtain⟨m,aC,aA⟩:=I.loc;refine⟨m,ns m aC,λi x v e1 ar bo=>?_⟩;obtain⟨u,r,l⟩:=aA i x v e1 ar bo;refine⟨u,r,?_⟩;rcases l with l|⟨k,c,e,z⟩
  .exact .inl l
  .exact .inr ⟨k,c,e,cellK x c e _ z⟩
 .obtain⟨v,z⟩:=I.cell x c e;exact⟨v,cellK x c e v z⟩
 .obtain⟨m,⟨o,_,_,az,_⟩,_⟩:=I.loc;exact free _ o (λz=>(kx _ z).2.1 rfl) az I.free
 .obtain⟨v,o,az,hd⟩:=I.cell x c e;exact free c o (λz=>(kx c z).2.2.1 x c e rfl) az (I.hE x c e)
 .obtain⟨e,n,ne,iR,d⟩:=I.pin p aB;have tj:p.1∉ch:=λz=>(kx p.1 z).2.2.2 p aB rfl
  exact⟨keep p.1 p.2 ne iR tj e n,free p.1 p.2 tj e n,ne,iR,d⟩
def Inv.un{t':Nat}(I:Inv X pins σ H s)(u:fg X.bC [] H aq s.heap h')(bL:ed X.prog X.w aq h'):Inv X pins σ aq { s with heap:=h',toks:=t' }:=by
 obtain⟨m,⟨o,ak,a8,az,r⟩,_⟩:=id I.loc;obtain⟨bM,eA⟩:=u.any az I.free (by simp);exact I.step (g':=s.gens) (d':=s.drawn) (ch:=[]) (λ_ z=>nomatch z) (λb o _ ae _ e n=>u.keep b o e n ae (by simp)) (λb o _ ae _ e n=>u.slot b o e n ae (by simp)) (λb o _ e n=>u.free b o e n (by simp)) (λb o _ e=>u.there b o e (by simp)) u.jq u.iH u.jo (λh5 hm=>by
  obtain⟨bt,od,yR,dG,bX⟩:=hm;rw[az]at dG;cases dG;exact⟨_,od,yR,eA,bX⟩) bL I.bare
def Inv.call{g':Array GenState}{t':Nat}{d':Drawn}{ch:List Addr}(I:Inv X pins σ H s)(u:fg (gd X.stack) ch H aq s.heap h')(bL:ed X.prog X.w aq h')(aY:AllBare g')(kx:∀b∈ch,(b∈X.ex\/X.eS.heap.objs.size<=b)/\b≠X.env.locals/\(∀x c,X.env.cells.lookup x=some c->c≠b)/\∀p∈X.cA++pins,p.1≠b):
  Inv X pins σ aq { s with heap:=h',gens:=g',drawn:=d',toks:=t' }:=by
 obtain⟨m,⟨o,ak,a8,az,r⟩,_⟩:=id I.loc;obtain⟨bM,eA⟩:=u.any az I.free λz=>(kx _ z).2.1 rfl
 exact I.step (ch:=ch) kx (λb o eA ae ah e n=>u.keep b o e n (λz=>(abA.mp (I.pb b z)).elim eA ae) ah) (λb o _ _ ah e n=>u.any e n ah) (λb o ah e n=>u.free b o e n ah) (λb o ah e=>u.there b o e ah) u.jq u.iH u.jo (λh5 hm=>by
  obtain⟨bt,od,yR,dG,bX⟩:=hm;rw[az]at dG;cases dG;exact⟨_,od,yR,eA,bX⟩) bL aY
def Inv.turned{t':Nat}{it:Addr}(I:Inv X pins σ H s)(k:∀b o,b≠it->s.heap.get? b=some o->h'.get? b=some o)(aC:H it=none)(eA:it≠X.env.locals)(J:it∈X.ex\/X.eS.heap.objs.size<=it)(aa:∀x c,X.env.cells.lookup x=some c->c≠it)(aJ:∀p∈X.cA++pins,p.1≠it):Inv X pins σ H { s with heap:=h',toks:=t' }:=by
 have G6:∀b u,H b=some u->b≠it:=λb u e z=>by rw[z,aC]at e;cases e
 refine I.step (g':=s.gens) (d':=s.drawn) (ch:=[it]) (λb ae=>?_) (λb o _ _ ah e _=>k b o (λz=>ah (by simp[z])) e) (λb o _ _ ah e _=>⟨o.slots,k b o (λz=>ah (by simp[z])) e⟩) (λ_ _ _ _ n=>n)
  (λb o ah e=>⟨o,k b o (λz=>ah (by simp[z])) e⟩) (λ_ _ e=>e) (λ_ _ _ e=>e) (λb a3 e=>⟨#[],by rw[e];simp⟩) (λm hm=>?_) (λb u e=>?_) I.bare
 .have e:b=it:=(by simpa using ae);subst e;exact⟨J,eA,aa,aJ⟩
 .obtain⟨o,ak,a8,az,r⟩:=hm;exact⟨o,ak,a8,k _ o (acy eA) az,r⟩
 .refine(I.bL b u e).jn (λc v ah q=>k c v ?_ q) (λ_ q=>q) λ_ _ q=>q
  rcases ah with z|z
  .rw[z];exact G6 b u e
  .exact G6 c _ z
def Inv.tok(I:Inv X pins σ H s)(t:Nat):Inv X pins σ H { s with toks:=t }:=I.un (h':=s.heap) (t':=t) fg.refl I.bL
theorem Inv.kept{t':Nat}(I:Inv X pins σ H s)(k:∀b u,s.heap.get? b=some u->h'.get? b=some u):Inv X pins σ H { s with heap:=h',toks:=t' }:=I.un (fg.kept k) (I.bL.kept k)
theorem Inv.laid{a:Addr}{o:e4}{t':Nat}(I:Inv X pins σ H s)(k:∀b u,s.heap.get? b=some u->h'.get? b=some u)(aB:s.heap.objs.size<=a)(new:d7 X.prog X.w (upd H a o) h' a o):
  Inv X pins σ (upd H a o) { s with heap:=h',toks:=t' }:=I.un (fg.laid k aB (I.bL.fresh aB)) (I.bL.laid k aB new)
theorem Inv.write{x e:Addr}{o:e4}{t':Nat}(I:Inv X pins σ H s)(ao:rk (H x))(he:e=x\/H e=some (.own x))(k:∀b u,b≠e->s.heap.get? b=some u->h'.get? b=some u)(qa:∃u,h'.get? e=some u)(new:d7 X.prog X.w (upd H x o) h' x o):Inv X pins σ (upd H x o) { s with heap:=h',toks:=t' }:=I.un (fg.write ao he k qa) (I.bL.write ao he k qa new)
def Inv.Bc{Bb:List (Addr×Obj)}(I:Inv X pins σ H s)(h:∀p∈Bb,s.heap.get? p.1=some p.2/\H p.1=none/\p.1≠X.env.locals/\p.1∉X.bC/\∀v,p.2.data≠.cell v):Inv X Bb σ H s :=
 ⟨I.ok,I.os,I.bare,I.base,I.loc,I.cell,I.free,I.hE,λp aB=>(abU.mp aB).elim (λz=>I.pin p (List.mem_append_left _ z)) (h p),I.bL,I.len⟩
def Hb{N:List Str}(aP:N.Nodup){i j:Nat}{x:Str}(a:N[i]?=some x)(b:N[j]?=some x):i=j:=by
 obtain⟨J,e1⟩:=abR.mp a;obtain⟨aa,ar⟩:=abR.mp b;exact(List.getElem_inj aP).mp (e1.trans ar.symm)
def Yd{M:Model}{A:Around}{E:Value->Shared->Prop}{i:Nat}{x:Str}{v:V}{u:Value}{Q:Unit->Shared->Prop}(I:Inv X pins σ H s)(aP:X.N.Nodup)(aj:X.N[i]?=some x)(ai:Loc X.env.scope x)(r:RelV v u)(h:∀s',Inv X pins (σ.set i (some v)) H s'->(∃a,Heap.SameBut a s.heap s'.heap/\(a=X.env.locals\/X.env.cells.lookup x=some a))->Q () s')(hf:X.fn x=true\/X.env.scope.names.lookup x=some .local):wpAny M A (storeName X.env x u) Q E s:=by
 obtain⟨m,aC,aA⟩:=id I.loc;have zE:(X.env.scope.kind==.class||(X.env.scope.kind==.module&&X.env.locals != X.env.globals))=false:=by rw[I.ok.kind];rfl
 have Fs:i<σ.length:=by rw[I.len];exact(abR.mp aj).1
 have mR:=I.mR;have tracked:∀{a:Addr}{h':Heap},(∃o,s.heap.get? a=some o/\H a=none)->Heap.SameBut a s.heap h'->ed X.prog X.w H h':=λ{a h'} aw af b b5 e=>by
  obtain⟨_,_,m9⟩:=aw;refine(I.bL b b5 e).jn (λc f3 ah q=>(af.2 c ?_).trans q) (λ_ q=>q) λ_ _ q=>q
  rintro rfl;rcases ah with rfl|ah
  .rw[m9]at e;cases e
  .rw[m9]at ah;cases ah
 rcases ai with ay|ay
 .refine wpAny_storeName_local ay aC (λh' Fz af=>?_) zE;obtain⟨Um,_,_,vt,_⟩:=id aC;refine h _ ⟨I.ok,I.os,I.bare,⟨λb o e n ae ai=>?_,λb o e n ae ai=>?_,I.base.free,λb o e ai=>?_,I.base.jq,I.base.iH,I.base.jo⟩,⟨_,Fz,λj y q1 e1 ar bo=>?_⟩,λy c e=>?_,I.free,I.hE,λp aB=>?_,tracked ⟨Um,vt,I.free⟩ af,by simpa using I.len⟩ ⟨_,af,.inl rfl⟩
  .exact(af.2 b (abP (abG (abC e) I.ok.above))).trans (I.base.keep b o e n ae ai)
  .obtain⟨bM,e1⟩:=I.base.slot b o e n ae ai;exact⟨bM,(af.2 b (abP (abG (abC e) I.ok.above))).trans e1⟩
  .obtain⟨bt,e1⟩:=I.base.there b o e ai;exact⟨bt,(af.2 b (abP (abG (abC e) I.ok.above))).trans e1⟩
  .by_cases aI:j=i
   .subst aI;rw[aj]at e1;cases e1;rw[List.getElem?_set_self Fs]at ar;cases ar;exact⟨u,r,.inl ⟨ay,by simp⟩⟩
   .rw[aez (acy aI)]at ar;obtain⟨wR,bX,q⟩:=aA j y q1 e1 ar bo;refine⟨wR,bX,?_⟩;rcases q with⟨k,e⟩|⟨k,c,e,z⟩
    .refine .inl ⟨k,?_⟩;have:y≠x:=λe=>aI (Hb aP e1 (e▸aj))
     simp[this,e]
    .exact .inr ⟨k,c,e,z.sameBut af (mR y c e)⟩
  .obtain⟨f3,z⟩:=I.cell y c e;exact⟨f3,z.sameBut af (mR y c e)⟩
  .obtain⟨e,n,ne,iR,d⟩:=I.pin p aB;exact⟨(af.2 p.1 ne).trans e,n,ne,iR,d⟩
 .have ou:X.fn x=true:=by
   rcases hf with z|z
   .exact z
   .rw[z]at ay;cases ay
  obtain⟨c,ah⟩:=I.ok.has x (.inl ay);obtain⟨f3,z⟩:=I.cell x c ah;refine wpAny_storeName_cell I.ok.kind ay ah z (λh' cY af=>?_);obtain⟨fN,FC,Rj⟩:=id z;refine h { s with heap:=h' } ⟨I.ok,I.os,I.bare,⟨λb o e n ae ai=>?_,λb o e n ae ai=>?_,I.base.free,λb o e ai=>?_,I.base.jq,I.base.iH,I.base.jo⟩,⟨m,aC.sameBut af (acy (mR x c ah)),λj y q1 e1 ar bo=>?_⟩,λy de e=>?_,I.free,I.hE,λp aB=>?_,tracked ⟨fN,FC,I.hE x c ah⟩ af,by simpa using I.len⟩ ⟨c,af,.inr ah⟩
  .exact(af.2 b (abP (abG (abC e) (I.ok.rH x c ou ah)))).trans (I.base.keep b o e n ae ai)
  .obtain⟨bM,e1⟩:=I.base.slot b o e n ae ai;exact⟨bM,(af.2 b (abP (abG (abC e) (I.ok.rH x c ou ah)))).trans e1⟩
  .obtain⟨bt,e1⟩:=I.base.there b o e ai;exact⟨bt,(af.2 b (abP (abG (abC e) (I.ok.rH x c ou ah)))).trans e1⟩
  .by_cases aI:j=i
   .subst aI;rw[aj]at e1;cases e1;rw[List.getElem?_set_self Fs]at ar;cases ar;exact⟨u,r,.inr ⟨.inl ay,c,ah,cY⟩⟩
   .rw[aez (acy aI)]at ar;obtain⟨wR,bX,q⟩:=aA j y q1 e1 ar bo;refine⟨wR,bX,?_⟩;rcases q with q|⟨k,de,e,h8⟩
    .exact .inl q
    .refine .inr ⟨k,de,e,h8.sameBut af ?_⟩;rintro rfl;exact aI (Hb aP e1 (I.ok.inj _ _ _ e ah▸aj))
  .by_cases vm:de=c
   .subst vm;exact⟨_,cY⟩
   .obtain⟨j7,bV⟩:=I.cell y de e;exact⟨j7,bV.sameBut af vm⟩
  .obtain⟨e,n,ne,iR,d⟩:=I.pin p aB;refine⟨(af.2 p.1 ?_).trans e,n,ne,iR,d⟩;intro q;rw[q,FC]at e;have cN:fN=p.2:=ab5 e;exact d f3 (by rw[<- cN];exact Rj)
def wK{M:Model}{A:Around}{E:Value->Shared->Prop}{i:Nat}{x:Str}{v:V}{u:Value}{Q:Unit->Shared->Prop}(I:Inv X pins σ H s)(aP:X.N.Nodup)(aj:X.N[i]?=some x)(ai:Loc X.env.scope x)(r:RelV v u)(h:∀s',Inv X pins (σ.set i (some v)) H s'->Q () s')(hf:X.fn x=true\/X.env.scope.names.lookup x=some .local:=by first|exact .inl rfl|exact .inr rfl|assumption):wpAny M A (storeName X.env x u) Q E s :=
 Yd I aP aj ai r (λs' ee _=>h s' ee) hf
def Inv.Df{s':Shared}{ch:List Addr}(I:Inv X pins σ H s)(az:s'.os=s.os)(u:fg (gd X.stack) ch H aq s.heap s'.heap)(bL:ed X.prog X.w aq s'.heap)(aY:AllBare s'.gens)(kx:∀b∈ch,(b∈X.ex\/X.eS.heap.objs.size<=b)/\b≠X.env.locals/\(∀x c,X.env.cells.lookup x=some c->c≠b)/\∀p∈X.cA++pins,p.1≠b):Inv X pins σ aq s':=by
 obtain⟨h',g',d',t',bt⟩:=s';have e:bt=s.os:=az;subst e;exact I.call (g':=g') (t':=t') (d':=d') u bL aY kx
end
noncomputable abbrev i4:=Value->Option Addr->aD->Prop
noncomputable abbrev St:=List (Option V)
noncomputable abbrev dD:=V->aD->Prop
noncomputable abbrev TE:=St->aD->dD->Prop
noncomputable abbrev TT:=St->aD->(Bool->aD->Prop)->Prop
noncomputable abbrev gr:=St->aD->(List V->aD->Prop)->Prop
structure Ends where
 bJ:St->aD->Prop
 cI:dD
 hv:St->aD->Prop:=λ_ _=>False
 ct:St->aD->Prop:=λ_ _=>False
noncomputable abbrev f7:=Ends->St->aD->Prop
def eU(X:a7)(pins:List (Addr×Obj))(σ:St)(Q:dD)(u:Value)(s':Shared):Prop:=∃v aq,Inv X pins σ aq s'/\RelV v u/\Q v aq
def xt(X:a7)(pins:List (Addr×Obj))(σ:St)(Q:Bool->aD->Prop)(b:Bool)(s':Shared):Prop:=∃aq,Inv X pins σ aq s'/\Q b aq
def Kr(X:a7)(pins:List (Addr×Obj))(σ:St)(Q:List V->aD->Prop)(us:List Value)(s':Shared):Prop:=∃ag aq,Inv X pins σ aq s'/\Vals ag us/\Q ag aq
def nW(X:a7)(pins:List (Addr×Obj))(D:Ends)(f:Flow)(s':Shared):Prop :=
 match f with
 |.next=>∃cE aq,Inv X pins cE aq s'/\D.bJ cE aq
 |.brk=>∃cE aq,Inv X pins cE aq s'/\D.hv cE aq
 |.cont=>∃cE aq,Inv X pins cE aq s'/\D.ct cE aq
 |.ret u=>∃v cE aq,Inv X pins cE aq s'/\RelV v u/\D.cI v aq
def aS(X:a7)(e:Expr)(t:TE):Prop :=
 ∀(pins:List (Addr×Obj))(s:Shared)(σ:St)(H:aD)(Q:dD),Inv X pins σ H s->t σ H Q->wpAny (model X.prog X.w) X.A (eval e X.env) (eU X pins σ Q) X.cq s
def eI(X:a7)(e:Expr)(t:TT):Prop :=
 ∀(pins:List (Addr×Obj))(s:Shared)(σ:St)(H:aD)(Q:Bool->aD->Prop),Inv X pins σ H s->t σ H Q->wpAny (model X.prog X.w) X.A (isTrue e X.env (eval e X.env)) (xt X pins σ Q) X.cq s
def mA(X:a7)(e:Expr)(t:TT):Prop :=
 ∀(whole:Sem Value)(pins:List (Addr×Obj))(s:Shared)(σ:St)(H:aD)(Q:Bool->aD->Prop),Inv X pins σ H s->t σ H Q->wpAny (model X.prog X.w) X.A (isTrue e X.env whole) (xt X pins σ Q) X.cq s
def mA.pt{X:a7}{e:Expr}{t:TT}(h:mA X e t):eI X e t:=h _
def fQ(X:a7)(ak:List Expr)(t:gr):Prop :=
 ∀(pos:Pos)(pins:List (Addr×Obj))(s:Shared)(σ:St)(H:aD)(Q:List V->aD->Prop),Inv X pins σ H s->t σ H Q->wpAny (model X.prog X.w) X.A (spliced (backTo pos (starEach ak X.env))) (Kr X pins σ Q) X.cq s
def dz(X:a7)(st:Stmt)(t:f7):Prop :=
 ∀(pins:List (Addr×Obj))(s:Shared)(σ:St)(H:aD)(D:Ends),Inv X pins σ H s->t D σ H->wpAny (model X.prog X.w) X.A (exec st X.env) (nW X pins D) X.cq s
def fk(X:a7)(st:List Stmt)(t:f7):Prop :=
 ∀(pins:List (Addr×Obj))(s:Shared)(σ:St)(H:aD)(D:Ends),Inv X pins σ H s->t D σ H->wpAny (model X.prog X.w) X.A (execs st X.env) (nW X pins D) X.cq s
def bK{α:Type}{t:Sem α}{Q dP:α->Shared->Prop}{M:Model}{A:Around}{E:Value->Shared->Prop}{s:Shared}(h:wpAny M A t Q E s)(eo:∀a s,Q a s->dP a s):wpAny M A t dP E s:=acg h eo λ_ _ x=>x
end bA
namespace bA
open PySem PySem.Spec PyProof.Rows
section
variable{X:a7}
def bin{a b:Expr}{cR da:TE}(aw:aS X a cR)(ae:aS X b da){pins:List (Addr×Obj)}{s:Shared}{σ:St}{H:aD}{R:V->V->aD->Prop}(I:Inv X pins σ H s)(h:cR σ H λx H1=>da σ H1 λy aX=>R x y aX){α:Type}{Q:α->Shared->Prop}{f:Value->Value->Sem α}(hf:∀v u s2 x y aX,Inv X pins σ aX s2->RelV x v->RelV y u->R x y aX->wpAny (model X.prog X.w) X.A (f v u) Q X.cq s2):
  wpAny (model X.prog X.w) X.A (eval a X.env) (λv cX=>wpAny (model X.prog X.w) X.A (eval b X.env) (λu gm=>wpAny (model X.prog X.w) X.A (f v u) Q X.cq gm) X.cq cX) X.cq s:=by
 refine bK (aw pins s σ H _ I h) λv s1 ⟨x,H1,a6,aG,aO⟩=>?_
 refine bK (ae pins s1 σ H1 _ a6 aO) λu s2 ⟨y,aX,cx,aV,ba⟩=>?_
 exact hf v u s2 x y aX cx aG aV ba
noncomputable def nL(i:Nat):TE:=λσ H Q=>∃v,σ[i]?=some (some v)/\Q v H
noncomputable def pe(v:V):TE:=λ_ H Q=>Q v H
def gU{i:Nat}{x:Str}{pos:Pos}(aP:X.N[i]?=some x)(aN:ft X.env.scope x)(hd:(x==("__debug__":Str))=false:=by decide)(lL:(x==("__classdict__":Str))=false:=by decide):aS X (.Name x pos) (nL i):=by
 intro pins s σ H Q I h;obtain⟨v,e,h⟩:=h;obtain⟨m,aC,aA⟩:=I.loc;obtain⟨u,r,l⟩:=aA i x v aP e aN;have fin:eU X pins σ Q u s:=⟨v,H,I,r,h⟩;rcases l with⟨ay,hm⟩|⟨ay,c,ah,oq⟩
 .exact wpAny_Name (wpAny_loadName_local I.ok.kind ay aC hm fin) hd
 .rcases ay with ay|ay
  .exact wpAny_Name (wpAny_loadName_cell I.ok.kind ay ah oq fin) hd
  .exact wpAny_Name (wpAny_loadName_free I.ok.kind ay ah oq fin lL) hd
def Hu{i j pos}:aS X (.Constant (.int i) j pos) (pe (.int i)):=λ_ _ _ H _ I h=>wpAny_Constant_int ⟨.int i,H,I.tok _,⟨_,rfl⟩,h⟩
def UQ{b j pos}:aS X (.Constant (.bool b) j pos) (pe (.aU b)):=λ_ _ _ H _ I h=>Constant_bool ⟨.aU b,H,I,rfl,h⟩
def U4{j pos}:aS X (.Constant .none j pos) (pe .dK):=λ_ _ _ H _ I h=>Constant_none ⟨.dK,H,I,rfl,h⟩
def A9{x j pos}:aS X (.Constant (.str x) j pos) (pe (.str x)):=λ_ _ _ H _ I h=>Calls.Constant_str ⟨.str x,H,I.tok _,⟨_,rfl⟩,h⟩
def eV(X:a7)(x:Str):Prop:=X.env.kindOf x=some .globalImplicit
def vK{E:Value->Shared->Prop}{pins:List (Addr×Obj)}{s:Shared}{σ:St}{H:aD}{x:Str}{u:Value}{pos:Pos}{Q:Value->Shared->Prop}(I:Inv X pins σ H s)(aY:eV X x)(hm:X.aZ x=some u)(h:Q u s)(hd:(x==("__debug__":Str))=false:=by decide):wpAny (model X.prog X.w) X.A (eval (.Name x pos) X.env) Q E s :=
 Calls.Name_function_global I.ok.kind aY (Calls.loadGlobal_global (by rw[I.ok.glob];exact I.mod.glob.keeps I.hv) hm h) hd
def kF{E:Value->Shared->Prop}{pins:List (Addr×Obj)}{s:Shared}{σ:St}{H:aD}{x:Str}{u:Value}{pos:Pos}{Q:Value->Shared->Prop}(I:Inv X pins σ H s)(aY:eV X x)(hm:X.aZ x=none)(aN:bootBuiltins x=some u)(h:Q u s)(aC:x≠"__name__":=by decide)(hd:(x==("__debug__":Str))=false:=by decide):wpAny (model X.prog X.w) X.A (eval (.Name x pos) X.env) Q E s:=by
 obtain⟨jf,J,aa⟩:=I.mod.blt;exact Calls.Name_function_global I.ok.kind aY (Calls.loadGlobal_builtin (by rw[I.ok.glob];exact I.mod.glob.keeps I.hv) hm (by rw[I.ok.blt];exact J.keeps I.hv) ((aa x aC).trans aN) h) hd
def U0{x:Str}{v:V}{u:Value}{pos:Pos}(aY:eV X x)(hm:X.aZ x=some u)(r:RelV v u)(hd:(x==("__debug__":Str))=false:=by decide):aS X (.Name x pos) (pe v) :=
 λ_ _ _ H _ I h=>vK I aY hm ⟨v,H,I,r,h⟩ hd
def UR{x:Str}{v:V}{u:Value}{pos:Pos}(aY:eV X x)(hm:X.aZ x=none)(aN:bootBuiltins x=some u)(r:RelV v u)(aC:x≠"__name__":=by decide)(hd:(x==("__debug__":Str))=false:=by decide):aS X (.Name x pos) (pe v) :=
 λ_ _ _ H _ I h=>kF I aY hm aN ⟨v,H,I,r,h⟩ aC hd
variable{a b:Expr}{cR da:TE}{pos:Pos}
def rm(X:a7)(op:CmpOp)(a b:Expr)(t:TE):Prop :=
 ∀(pins:List (Addr×Obj))(s:Shared)(σ:St)(H:aD)(Q:dD),Inv X pins σ H s->t σ H Q ->
  wpAny (model X.prog X.w) X.A (eval a X.env) (λv cX=>wpAny (model X.prog X.w) X.A (eval b X.env) (λu gm=>wpAny (model X.prog X.w) X.A (compareOp op v u) (eU X pins σ Q) X.cq gm) X.cq cX) X.cq s
noncomputable def Jn(t:TE):TT:=λσ H Q=>t σ H λx H1=>∃c,x=.aU c/\Q c H1
def abe{op:CmpOp}{t:TE}(h:rm X op a b t)(J:behindInMarks op b=false):eI X (.Compare a [op] [b] pos) (Jn t):=by
 intro pins s σ H Q I hw;refine wpAny_isTrue_Compare1 (bK (h pins s σ H _ I hw) λv s1 J=>bK J λu s2 aa=>bK aa λc s3 ⟨x,H1,a6,aG,aO⟩=>?_) J;obtain⟨d,rfl,q⟩:=aO;cases aG;exact acI ⟨H1,a6,q⟩
def VM{e:Expr}{t:TE}(h:aS X e t)(he:∀whole,isTrue e X.env whole=(do let v <- whole;standAt e.pos;holding [v] (truthy v)):=by intro _;rfl):eI X e (Jn t):=by
 intro pins s σ H Q I hw;refine isTrue_plain (bK (h pins s σ H _ I hw) λv s1 ⟨x,H1,a6,aG,aO⟩=>?_) (he _);obtain⟨d,rfl,q⟩:=aO;cases aG;exact acI ⟨H1,a6,q⟩
variable{nJ Jo:TT}{rest:List Expr}
noncomputable def Yj(t u:TT):TT:=λσ H Q=>t σ H λc H1=>if c=true then u σ H1 Q else Q false H1
noncomputable def Yw(t:TT):TT:=λσ H Q=>t σ H λc H1=>Q (!c) H1
def VO(aw:eI X a nJ):mA X (.BoolOp .And [a] pos) nJ:=by
 intro w4 pins s σ H Q I h;refine isTrue_and (bK (aw pins s σ H Q I h) λc s1 e=>?_);cases c with
 |true=>exact isTrue_and_nil e
 |false=>exact e
def VN(aw:eI X a nJ)(ae:mA X (.BoolOp .And (b::rest) pos) Jo):mA X (.BoolOp .And (a::b::rest) pos) (Yj nJ Jo):=by
 intro w4 pins s σ H Q I h;refine isTrue_and (bK (aw pins s σ H _ I h) λc s1 ⟨H1,a6,aO⟩=>?_);cases c with
 |true=>exact ae w4 pins s1 σ H1 Q a6 aO
 |false=>exact⟨H1,a6,aO⟩
def VL(aw:eI X a nJ):eI X (.UnaryOp .Not a pos) (Yw nJ):=by
 intro pins s σ H Q I h;exact isTrue_not (aw pins s σ H (λc H1=>Q (!c) H1) I h)
noncomputable def Yk(cR da:TE):TE:=λσ H Q=>cR σ H λx H1=>∃c,x=.aU c/\if c=true then da σ H1 Q else Q (.aU false) H1
noncomputable def Yx(cR:TE):TE:=λσ H Q=>cR σ H λx H1=>∃c,x=.aU c/\Q (.aU (!c)) H1
def Hx{op}{t:TE}(h:aS X a t):aS X (.BoolOp op [a] pos) t:=λpins s σ H Q I hw=>BoolOp_one (h pins s σ H Q I hw)
def Hq(aw:aS X a cR)(ae:aS X (.BoolOp .And (b::rest) pos) da):aS X (.BoolOp .And (a::b::rest) pos) (Yk cR da):=by
 intro pins s σ H Q I h;refine BoolOp_and (bK (aw pins s σ H _ I h) λv s1 ⟨x,H1,a6,aG,aO⟩=>?_);obtain⟨c,rfl,aO⟩:=aO;cases aG;refine acI ?_;cases c with
 |true=>exact ae pins s1 σ H1 Q a6 aO
 |false=>exact⟨.aU false,H1,a6,rfl,aO⟩
def U5(aw:aS X a cR):aS X (.UnaryOp .Not a pos) (Yx cR):=by
 intro pins s σ H Q I h;refine UnaryOp_ (bK (aw pins s σ H _ I h) λv s1 ⟨x,H1,a6,aG,aO⟩=>?_);obtain⟨c,rfl,aO⟩:=aO;cases aG;exact not_of (acI ⟨.aU (!c),H1,a6,rfl,aO⟩)
noncomputable def t2(t:TT)(cR da:TE):TE:=λσ H Q=>t σ H λc H1=>if c=true then cR σ H1 Q else da σ H1 Q
def U1{c:Expr}(ah:eI X c nJ)(aw:aS X a cR)(ae:aS X b da):aS X (.IfExp c a b pos) (t2 nJ cR da):=by
 intro pins s σ H Q I h;refine wpAny_IfExp (bK (ah pins s σ H _ I h) λd s1 ⟨H1,a6,aO⟩=>?_);cases d with
 |true=>exact aw pins s1 σ H1 Q a6 aO
 |false=>exact ae pins s1 σ H1 Q a6 aO
end
end bA
namespace bA
open PySem PySem.Spec PyProof.Rows
def ej(K:W.Frag)(H:aD)(a:Addr)(xs:List V):Prop :=
 hP H a (.lst xs) \/
  ∃(o:Obj)(its:Array Value)(n:Nat),K.lookup a=some o/\o.cls=.type "list"/\o.dict=none/\o.data=.seq its n/\its.size<=sizeLine/\Vals xs its.toList
def fl(K:W.Frag)(H:aD)(a:Addr)(xs:List V):Prop :=
 hP H a (.tup xs) \/
  ∃(o:Obj)(its:Array Value)(n:Nat),K.lookup a=some o/\o.cls=.type "tuple"/\o.data=.seq its n/\its.size<=sizeLine/\Vals xs its.toList
noncomputable def KJ:Value->Option V
 |.none=>some .dK
 |.bool b=>some (.aU b)
 |.int i _=>some (.int i)
 |.str x _=>some (.str x)
 |.bytes b _=>some (.yn b)
 |.float b _=>some (.gP b)
 |.ref a=>some (.ref a)
 |.type n=>some (.ty n)
 |_=>none
def RelV.abs{x:V}{u:Value}(r:RelV x u):KJ u=some x:=by
 cases x with
 |dK=>cases r;rfl
 |aU _=>cases r;rfl
 |int _=>obtain⟨t,rfl⟩:=r;rfl
 |str _=>obtain⟨t,rfl⟩:=r;rfl
 |yn _=>obtain⟨t,rfl⟩:=r;rfl
 |gP _=>obtain⟨t,rfl⟩:=r;rfl
 |ref _=>cases r;rfl
 |ty _=>cases r;rfl
def RelV.inj{x y:V}{u:Value}(r:RelV x u)(q:RelV y u):x=y:=ab5 (r.abs.symm.trans q.abs)
theorem Vals.inj:∀{xs ys:List V}{us:List Value},Vals xs us->Vals ys us->xs=ys
 |_,_,_,.nil,.nil=>rfl
 |_,_,_,.cons r t,.cons bX t'=>by rw[r.inj bX,Vals.inj t t']
section
variable{X:a7}{pins:List (Addr×Obj)}{σ:St}{H:aD}{s:Shared}{a:Addr}{xs ys:List V}
def ej.of{K:W.Frag}(h:H a=some (.lst xs)):ej K H a xs:=.inl (.inl h)
def Inv.list(I:Inv X pins σ H s)(h:ej X.K H a xs):∃its:List Value,Vals xs its/\PlainL s.heap a its.toArray/\xs.length<=sizeLine:=by
 rcases h with h|⟨o,its,n,ay,ah,hd,af,hz,r⟩
 .obtain⟨z,its,n,r,e⟩:=h.ok I.bL;exact⟨its,r,⟨_,n,e,rfl,rfl,rfl⟩,z⟩
 .refine⟨its.toList,r,⟨o,n,I.oH a o ay,ah,hd,by simpa using af⟩,?_⟩;have e:=r.length;simp only[Array.length_toList]at e;omega
def Inv.tuple(I:Inv X pins σ H s)(h:fl X.K H a xs):∃its:List Value,Vals xs its/\IsTup s.heap a its.toArray/\xs.length<=sizeLine:=by
 rcases h with h|⟨o,its,n,ay,ah,af,hz,r⟩
 .obtain⟨z,its,r,p⟩:=h.ok I.bL;exact⟨its,r,p,z⟩
 .refine⟨its.toList,r,⟨o,I.oH a o ay,ah,n,by simpa using af⟩,?_⟩;have e:=r.length;simp only[Array.length_toList]at e;omega
def Inv.Tp(I:Inv X pins σ H s)(h:ej X.K H a xs)(h':ej X.K H a ys):xs=ys:=by
 obtain⟨its,r,⟨o,n,e,_,_,d⟩,_⟩:=I.list h;obtain⟨its',bX,⟨bt,cv,bk,_,_,d'⟩,_⟩:=I.list h';rw[e]at bk;cases bk;rw[d]at d';injection d' with bR _;have:its=its':=by simpa using acp Array.toList bR
 subst this;exact r.inj bX
def Inv.Zo(I:Inv X pins σ H s)(h:fl X.K H a xs)(h':fl X.K H a ys):xs=ys:=by
 obtain⟨its,r,⟨o,e,_,n,d⟩,_⟩:=I.tuple h;obtain⟨its',bX,⟨bt,bk,_,cv,d'⟩,_⟩:=I.tuple h';rw[e]at bk;cases bk;rw[d]at d';injection d' with bR _;have:its=its':=by simpa using acp Array.toList bR
 subst this;exact r.inj bX
end
section
variable{X:a7}{pins:List (Addr×Obj)}{σ:St}{H:aD}{s:Shared}{E:Value->Shared->Prop}
end
section
variable{X:a7}{st:Stmt}{rest:List Stmt}{t u:f7}{e:Expr}{eT:TE}{pos:Pos}
noncomputable def Yu:f7:=λD σ H=>D.bJ σ H
noncomputable def YA(t u:f7):f7:=λD σ H=>t { D with bJ:=u D } σ H
def VI:fk X [] Yu:=λ_ _ σ H _ I h=>ad0 ⟨σ,H,I,h⟩
def VG(J:dz X st t)(aa:fk X rest u):fk X (st::rest) (YA t u):=by
 intro pins s σ H D I h;refine wpAny_execs_cons (bK (J pins s σ H { D with bJ:=u D } I h) λf s1 q=>?_);cases f with
 |next =>
  obtain⟨cE,aq,ee,q⟩:=q;exact aa pins s1 cE aq D ee q
 |ret v=>exact q
 |brk=>exact q
 |cont=>exact q
def Bi(J:dz X st t):fk X [st] t:=by
 intro pins s σ H D I h;refine wpAny_execs_cons (bK (J pins s σ H D I h) λf s1 q=>?_);cases f with
 |next=>exact ad0 q
 |ret v=>exact q
 |brk=>exact q
 |cont=>exact q
def Inv.quiet{pins:List (Addr×Obj)}{σ:St}{H:aD}{s:Shared}(I:Inv X pins σ H s):interactive X.env=false:=by simp[interactive,I.ok.kind]
noncomputable def Js(eT:TE):f7:=λD σ H=>eT σ H λ_ H1=>D.bJ σ H1
def Bh(he:aS X e eT)(af:swapsWith e none pos.line X.env=pure false:=by rfl):dz X (.Expr e pos) (Js eT):=by
 intro pins s σ H D I h;exact wpAny_Expr_any (bK (he pins s σ H _ I h) λv s1 ⟨x,H1,a6,aG,aO⟩=>⟨σ,H1,a6,aO⟩) I.quiet af
noncomputable def mi(eT:TE):f7:=λD σ H=>eT σ H D.cI
def tE(he:aS X e eT):dz X (.Return (some e) pos) (mi eT):=by
 intro pins s σ H D I h;exact wpAny_Return_some (bK (he pins s σ H _ I h) λv s1 ⟨x,H1,a6,aG,aO⟩=>⟨x,σ,H1,a6,aG,aO⟩)
noncomputable def Ys(c:TT)(t u:f7):f7:=λD σ H=>c σ H λb H1=>if b=true then t D σ H1 else u D σ H1
def VE{c:Expr}{a b:List Stmt}{iX:TT}(ah:eI X c iX)(aw:fk X a t)(ae:fk X b u):dz X (.If c a b pos) (Ys iX t u):=by
 intro pins s σ H D I h;refine wpAny_If (bK (ah pins s σ H _ I h) λd s1 ⟨H1,a6,aO⟩=>?_);cases d with
 |true=>exact aw pins s1 σ H1 D a6 aO
 |false=>exact ae pins s1 σ H1 D a6 aO
end
noncomputable abbrev ll:=V->St->aD->(St->aD->Prop)->Prop
noncomputable abbrev mE:=List V->St->aD->(St->aD->Prop)->Prop
def nV(X:a7)(target:Expr)(t:ll):Prop :=
 ∀(pins:List (Addr×Obj))(s:Shared)(σ:St)(H:aD)(v:V)(u:Value)(Q:St->aD->Prop),Inv X pins σ H s->RelV v u->t v σ H Q ->
  wpAny (model X.prog X.w) X.A (assign target X.env u) (λ_ s'=>∃cE aq,Inv X pins cE aq s'/\Q cE aq) X.cq s
def rn(X:a7)(ts:List Expr)(t:mE):Prop :=
 ∀(pins:List (Addr×Obj))(s:Shared)(σ:St)(H:aD)(ag:List V)(us:List Value)(Q:St->aD->Prop),Inv X pins σ H s->Vals ag us->t ag σ H Q ->
  wpAny (model X.prog X.w) X.A (assignInOrder ((assignEach ts X.env).map (·.2)) us) (λ_ s'=>∃cE aq,Inv X pins cE aq s'/\Q cE aq) X.cq s
noncomputable abbrev KI:=V->V->V->aD->(aD->Prop)->Prop
def KH(X:a7)(t:KI):Prop :=
 ∀(pins:List (Addr×Obj))(s:Shared)(σ:St)(H:aD)(o i v:V)(oV lS u:Value)(Q:aD->Prop),Inv X pins σ H s->RelV o oV->RelV i lS->RelV v u->t o i v H Q ->
  wpAny (model X.prog X.w) X.A (setItem oV lS u) (λ_ s'=>∃aq,Inv X pins σ aq s'/\Q aq) X.cq s
section
variable{X:a7}{pos:Pos}
noncomputable def zd(i:Nat):ll:=λv σ H Q=>Q (σ.set i (some v)) H
def HA{i:Nat}{x:Str}(aP:X.N.Nodup)(aj:X.N[i]?=some x)(ai:Loc X.env.scope x)(hf:X.fn x=true\/X.env.scope.names.lookup x=some .local:=by first|exact .inl rfl|exact .inr rfl|assumption):nV X (.Name x pos) (zd i):=by
 intro pins s σ H v u Q I r h;exact wpAny_assign_Name (wK I aP aj ai r (λs' ee=>⟨_,H,ee,h⟩) hf)
noncomputable def EM:mE:=λag σ H Q=>ag=[]/\Q σ H
noncomputable def EK(t:ll)(u:mE):mE:=λag σ H Q=>∃v r,ag=v::r/\t v σ H λcE aq=>u r cE aq Q
def Vj:rn X [] EM:=by
 intro pins s σ H ag us Q I r h;obtain⟨e,h⟩:=h;subst e;cases r;exact assignInOrder_nil ⟨σ,H,I,h⟩
def Vi{e:Expr}{ak:List Expr}{t:ll}{u:mE}(J:nV X e t)(aa:rn X ak u)(af:(assignEach (e::ak) X.env).map (·.2)=assign e X.env::(assignEach ak X.env).map (·.2):=by rfl):rn X (e::ak) (EK t u):=by
 intro pins s σ H ag us Q I r h;obtain⟨v,abm,e1,h⟩:=h;subst e1;cases r with
 |cons r gG =>
  rw[af];refine assignInOrder_cons (bK (J pins s σ H _ _ _ I r h) λ_ s1 ⟨q9,H1,a6,aO⟩=>?_);exact aa pins s1 q9 H1 _ _ Q a6 gG aO
noncomputable def PO(K:W.Frag)(n:Nat)(t:mE):ll:=λv σ H Q=>∃a xs,v=.ref a/\fl K H a xs/\xs.length=n/\t xs σ H Q
def Vh{ak:List Expr}{k:Nat}{t:mE}{n:Nat}(ah:X.calm=true)(h:rn X ak t)(aC:(assignEach ak X.env).length=n:=by rfl)(c4:(assignEach ak X.env).findIdx? (·.1)=none:=by rfl):nV X (.Tuple ak k pos) (PO X.K n t):=by
 intro pins s σ H v u Q I r hw;obtain⟨a,xs,e1,aM,aA,hw⟩:=hw;subst e1;cases r;obtain⟨its,bO,aH,hz⟩:=I.tuple aM;refine assign_Tuple_tuple (I.ok.hd ah) aH (by simp[aC,<- aA,bO.length]) c4 λh' ai=>?_
 have a6:Inv X pins σ H { s with heap:=h' }:=I.kept (t':=s.toks) λb o e=>ai b o (abP (abC e)) e
 exact h pins _ σ H xs _ Q a6 (by simpa using bO) hw
noncomputable def pd(eT:TE)(g:ll):f7:=λD σ H=>eT σ H λx H1=>g x σ H1 D.bJ
def v9{i:Nat}{x:Str}{e:Expr}{eT:TE}{pos':Pos}(aP:X.N.Nodup)(aj:X.N[i]?=some x)(ai:Loc X.env.scope x)(he:aS X e eT)(af:swapsWith e (some (.Name x pos')) pos.line X.env=pure false:=by rfl)(hf:X.fn x=true\/X.env.scope.names.lookup x=some .local:=by first|exact .inl rfl|exact .inr rfl|assumption):
  dz X (.Assign [.Name x pos'] e pos) (pd eT (zd i)):=by
 intro pins s σ H D I h;refine wpAny_Assign_Name (bK (he pins s σ H _ I h) λv s1 ⟨y,H1,a6,aG,aO⟩=>?_) af;exact wK a6 aP aj ai aG (λs2 cx=>⟨_,H1,cx,aO⟩) hf
end
section
variable{X:a7}{pos:Pos}
noncomputable def YF(c:TT)(da:f7):f7:=λD σ H=>∃W:Nat->St->aD->Prop,(∃m,W m σ H)/\∀m σ H,W m σ H ->
 c σ H λb H1=>if b=true then ∃N:St->aD->Prop,(∀cE aq,N cE aq->∃h5,h5<m/\W h5 cE aq)/\da { D with bJ:=N,ct:=N,hv:=D.bJ } σ H1 else D.bJ σ H1
def VF{c:Expr}{body:List Stmt}{iX:TT}{da:f7}(aB:PassesOwn (model X.prog X.w) X.A X.env X.cq)(ah:eI X c iX)(ae:fk X body da):dz X (.While c body [] pos) (YF iX da):=by
 intro pins s σ H D I h;obtain⟨W,⟨m0,Co⟩,turn⟩:=h;refine wpAny_While (codeAny_whileLoop (λn s'=>∃cE aq,Inv X pins cE aq s'/\W n cE aq) ?_ m0 ⟨σ,H,I,Co⟩);rintro n s1 ⟨q9,H1,a6,iZ⟩;refine adp aB (bK (ah pins s1 q9 H1 _ a6 (turn n q9 H1 iZ)) λb s2 ⟨aX,cx,ba⟩=>?_);cases b with
 |true =>
  obtain⟨N,aP,ba⟩:=ba;rw[if_pos rfl];refine adp aB (bK (ae pins s2 q9 aX _ cx ba) λf s3 b6=>?_);cases f with
  |next =>
   obtain⟨ju,bq,ef,nu⟩:=b6;obtain⟨h5,hm,t8⟩:=aP ju bq nu;exact⟨h5,hm,ju,bq,ef,t8⟩
  |cont =>
   obtain⟨ju,bq,ef,nu⟩:=b6;obtain⟨h5,hm,t8⟩:=aP ju bq nu;exact⟨h5,hm,ju,bq,ef,t8⟩
  |brk=>exact b6
  |ret v=>exact b6
 |false =>
  rw[if_neg acB];exact ad0 ⟨q9,aX,cx,ba⟩
end
structure jz where
 go:Nat->aD->Prop
 k7:Nat->aD->V->aD->Prop
 stop:Nat->aD->Prop
def kd(X:a7)(pins:List (Addr×Obj))(H:aD)(b:Addr):Prop :=
 H b=none/\b≠X.env.locals/\b∉X.bC/\(b∈X.ex\/X.eS.heap.objs.size<=b)/\(∀x c,X.env.cells.lookup x=some c->c≠b)/\∀p∈X.cA++pins,p.1≠b
def Inv.r8{X:a7}{pins:List (Addr×Obj)}{σ:St}{H aq:aD}{s:Shared}{b:Addr}(I:Inv X pins σ H s)(ae:s.heap.objs.size<=b)(aC:aq b=none):kd X pins aq b:=by
 refine⟨aC,afl (abG I.lt ae),I.vS ae,.inr (acx I.gH ae),λx c e z=>?_,λp aB z=>?_⟩
 .obtain⟨v,q⟩:=I.cell x c e;exact absurd (abG q.lt (by rw[z];exact ae)) (acQ _)
 .exact absurd (abG (abC (I.pin p aB).1) (by rw[z];exact ae)) (acQ _)
structure Turn(P:Program)(w:World)(K:W.Frag)(dH:Expr)(dI:jz)(bB:List Addr)(it:Addr)(gW:Nat->Heap->Prop):Prop where
 mem:it∈bB
 obj:∀i h,gW i h->∀b∈bB,∃o,h.get? b=some o/\∀v,o.data≠.cell v
 keep:∀i h h',gW i h->(∀b∈bB,∀o,h.get? b=some o->h'.get? b=some o)->gW i h'
 item:∀(X:a7),X.prog=P->X.w=w->X.K=K->X.calm=true->∀(i:Nat)(pins:List (Addr×Obj))(s:Shared)(σ:St)(H:aD)(E:Value->Shared->Prop),Inv X pins σ H s->(∀b∈bB,kd X pins H b)->gW i s.heap->dI.go i H ->
  wpAny (model P w) X.A (pyNext (.ref it)) (λr s1=>∃u,r=some u /\
   wpAny (model P w) X.A (letOwnedTupleGo dH (.ref it) u) (λ_ s2=>∃x aq,Inv X pins σ aq s2/\RelV x u/\dI.k7 i H x aq/\gW (i+1) s2.heap/\∀b∈bB,aq b=none) E s1) E s
 done:∀(X:a7),X.prog=P->X.w=w->X.K=K->X.calm=true->∀(i:Nat)(pins:List (Addr×Obj))(s:Shared)(σ:St)(H:aD)(E:Value->Shared->Prop),Inv X pins σ H s->(∀b∈bB,kd X pins H b)->gW i s.heap->dI.stop i H ->
  wpAny (model P w) X.A (pyNext (.ref it)) (λr s1=>r=none/\Inv X pins σ H s1) E s
 self:∀(A:Around)(i:Nat)(s:Shared)(Q:Value->Shared->Prop)(E:Value->Shared->Prop),gW i s.heap->Q (.ref it) s->wpAny (model P w) A (pyIter (.ref it)) Q E s
noncomputable abbrev TI:=St->aD->(jz->aD->Prop)->Prop
def xq(X:a7)(pins:List (Addr×Obj))(σ:St)(dH:Expr)(R:jz->aD->Prop)(Am:Value)(s2:Shared):Prop :=
 ∃(it:Addr)(bB:List Addr)(gW:Nat->Heap->Prop)(dI:jz)(aq:aD),Am=.ref it/\Inv X pins σ aq s2/\Turn X.prog X.w X.K dH dI bB it gW/\gW 0 s2.heap/\(∀b∈bB,kd X pins aq b)/\R dI aq
def ht(X:a7)(dH iter:Expr)(q4:TI):Prop :=
 ∀(pins:List (Addr×Obj))(s:Shared)(σ:St)(H:aD)(R:jz->aD->Prop),Inv X pins σ H s->q4 σ H R ->
  wpAny (model X.prog X.w) X.A (eval iter X.env) (λv s1=>wpAny (model X.prog X.w) X.A (pyIter v) (xq X pins σ dH R) X.cq s1) X.cq s
def ve {M : Model} {A : Around} {E : Value -> Shared -> Prop} {s : Shared} {dH : Expr} {it : Addr} {u : Value} {o : Obj} {n : String} {ag : Array Value} {Q : Unit -> Shared -> Prop} (az : s.heap.get? it = some o) (ah : o.cls = .type n) (hd : o.data = .fields ag)
    (aC : ["enumerate", "zip", "dict_itemiterator", "dict_reverseitemiterator", "odict_iterator", "itertools.zip_longest", "itertools.pairwise"].contains n = false) (eo : Q () s) : wpAny M A (letOwnedTupleGo dH (.ref it) u) Q E s := by
  unfold letOwnedTupleGo
  cases dH <;> first
    | exact abu eo
    | (cases u <;> first
        | exact abu eo
        | (refine abr (wpAny_load az ?_)
           rw [ah, hd]
           show wpAny M A (if (["enumerate", "zip", "dict_itemiterator", "dict_reverseitemiterator", "odict_iterator", "itertools.zip_longest", "itertools.pairwise"].contains n && ag[0]? == some (rawInt _)) = true then _ else _) Q E s
           rw [if_neg (by intro h; rw [aC, aeI] at h; cases h)]
           exact abu eo))
noncomputable def xk(K:W.Frag)(a:Addr):jz :=
 ⟨λi H=>∃xs x,ej K H a xs/\xs[i]?=some x,λi H x aq=>aq=H/\∀xs,ej K H a xs->xs[i]?=some x,λi H=>∃xs,ej K H a xs/\xs.length<=i⟩
noncomputable def xl(K:W.Frag)(a:Addr):jz :=
 ⟨λi H=>∃xs x,fl K H a xs/\xs[i]?=some x,λi H x aq=>aq=H/\∀xs,fl K H a xs->xs[i]?=some x,λi H=>∃xs,fl K H a xs/\xs.length<=i⟩
noncomputable def pv(lo:Int)(n:Nat):jz:=⟨λi _=>i<n,λi H x aq=>aq=H/\x=.int (lo+i),λi _=>n<=i⟩
def Zs{P:Program}{w:World}{K:W.Frag}{dH:Expr}(a it:Addr):Turn P w K dH (xk K a) [it] it (λi h=>h.IsListIter it a i) where
 mem:=by simp
 obj:=λi h st b ae=>by
  have e:b=it:=(by simpa using ae);subst e;obtain⟨o,e,c,d⟩:=st;exact⟨o,e,λv z=>by rw[d]at z;cases z⟩
 keep:=λi h h' st k=>st.at λo e=>k it (by simp) o e
 item:=by
  intro X ei hw g9 ah i pins s σ H E I hf st aY;subst ei hw g9;obtain⟨xs,x,aM,ai⟩:=aY;obtain⟨its,bO,p,hz⟩:=I.list aM;obtain⟨u,br,cC⟩:=bO.get ai;obtain⟨f0,f1,f2,dZ,f4,ez⟩:=hf it (by simp);refine wpAny_pyNext_list_item st p.isList (x:=u) (by simpa using br) λh' bl cQ=>?_
  have a6:Inv X pins σ H { s with heap:=h' }:=I.turned (t':=s.toks) (λb o ae e=>(cQ.2 b ae).trans e) f0 f1 dZ f4 ez;obtain⟨o,e,c,d⟩:=id bl;exact⟨u,rfl,ve (s:={ s with heap:=h' }) e c d (by decide) ⟨x,H,a6,cC,⟨rfl,λys aQ=>by rw[I.Tp aQ aM];exact ai⟩,bl,λb ae=>(hf b ae).1⟩⟩
 done:=by
  intro X ei hw g9 ah i pins s σ H E I hf st aY;subst ei hw g9;obtain⟨xs,aM,ai⟩:=aY;obtain⟨its,bO,p,hz⟩:=I.list aM;obtain⟨f0,f1,f2,dZ,f4,ez⟩:=hf it (by simp);have aA:=bO.length;exact wpAny_pyNext_list_end (I.ok.hd ah) st p.isList (by simp;omega) λh' e6=>⟨rfl,I.turned (t':=s.toks) (λb o ae e=>e6 b o ae e) f0 f1 dZ f4 ez⟩
 self:=λ_ _ _ _ _ st h=>wpAny_pyIter_listiter st h
def Zu{P:Program}{w:World}{K:W.Frag}{dH:Expr}(a it:Addr):Turn P w K dH (xl K a) [it] it (λi h=>h.IsTupleIter it a i) where
 mem:=by simp
 obj:=λi h st b ae=>by
  have e:b=it:=(by simpa using ae);subst e;obtain⟨o,e,c,d⟩:=st;exact⟨o,e,λv z=>by rw[d]at z;cases z⟩
 keep:=λi h h' st k=>st.at λo e=>k it (by simp) o e
 item:=by
  intro X ei hw g9 ah i pins s σ H E I hf st aY;subst ei hw g9;obtain⟨xs,x,aM,ai⟩:=aY;obtain⟨its,bO,p,hz⟩:=I.tuple aM;obtain⟨u,br,cC⟩:=bO.get ai;obtain⟨f0,f1,f2,dZ,f4,ez⟩:=hf it (by simp);refine wpAny_pyNext_tuple_item st (show s.heap.IsTuple a its.toArray from p) (x:=u) (by simpa using br) λh' bl cQ=>?_
  have a6:Inv X pins σ H { s with heap:=h' }:=I.turned (t':=s.toks) (λb o ae e=>(cQ.2 b ae).trans e) f0 f1 dZ f4 ez;obtain⟨o,e,c,d⟩:=id bl;exact⟨u,rfl,ve (s:={ s with heap:=h' }) e c d (by decide) ⟨x,H,a6,cC,⟨rfl,λys aQ=>by rw[I.Zo aQ aM];exact ai⟩,bl,λb ae=>(hf b ae).1⟩⟩
 done:=by
  intro X ei hw g9 ah i pins s σ H E I hf st aY;subst ei hw g9;obtain⟨xs,aM,ai⟩:=aY;obtain⟨its,bO,p,hz⟩:=I.tuple aM;obtain⟨f0,f1,f2,dZ,f4,ez⟩:=hf it (by simp);have aA:=bO.length;exact wpAny_pyNext_tuple_end (I.ok.hd ah) st (show s.heap.IsTuple a its.toArray from p) (by simp;omega) λh' e6=>⟨rfl,I.turned (t':=s.toks) (λb o ae e=>e6 b o ae e) f0 f1 dZ f4 ez⟩
 self:=λ_ _ _ _ _ st h=>wpAny_pyIter_tupleiter st h
def Zt{P:Program}{w:World}{K:W.Frag}{dH:Expr}(it:Addr)(lo:Int)(n:Nat):Turn P w K dH (pv lo n) [it] it (λi h=>IsRangeIter h it (lo+(i:Nat)*1) ((n:Int)-(i:Nat)) 1) where
 mem:=by simp
 obj:=λi h st b ae=>by
  have e:b=it:=(by simpa using ae);subst e;exact⟨_,st,λv z=>by
   have h8:Data.fields _=Data.cell v:=z;cases h8⟩
 keep:=λi h h' st k=>k it (by simp) _ st
 item:=by
  intro X ei hw g9 ah i pins s σ H E I hf st aY;subst ei hw g9;obtain⟨f0,f1,f2,dZ,f4,ez⟩:=hf it (by simp);have W:=Walks.range (prog:=X.prog) (w:=X.w) (I.ok.hd ah) it lo 1 n;refine W.item i s _ _ aY st λv h' tk aN bl d2=>?_
  obtain⟨t,rfl⟩:=aN;have a6:Inv X pins σ H { s with heap:=h',toks:=tk }:=I.turned (λb o ae e=>d2 b o (by simpa using ae) e) f0 f1 dZ f4 ez;refine⟨_,rfl,ve (s:={ s with heap:=h',toks:=tk }) (n:="range_iterator") bl rfl rfl (by decide) ⟨.int (lo+i),H,a6,⟨t,?_⟩,⟨rfl,rfl⟩,bl,λb ae=>(hf b ae).1⟩⟩;rw[Int.mul_one]
 done:=by
  intro X ei hw g9 ah i pins s σ H E I hf st aY;subst ei hw g9;obtain⟨f0,f1,f2,dZ,f4,ez⟩:=hf it (by simp);exact wpAny_pyNext_range_end (I.ok.hd ah) st (by have:n<=i:=aY;omega) λh' e6=>⟨rfl,I.turned (t':=s.toks) (λb o ae e=>e6 b o ae e) f0 f1 dZ f4 ez⟩
 self:=λ_ _ _ _ _ st h=>wpAny_pyIter_rangeiter st h
end bA
namespace bA
open PySem PySem.Spec PyProof.Rows
section
variable{X:a7}{dH:Expr}
def HR{pins:List (Addr×Obj)}{σ:St}{H:aD}{s:Shared}{R:jz->aD->Prop}{E:Value->Shared->Prop}{lo aj:Int}{t u v:Tok}{tk:Nat}(I:Inv X pins σ H s)(J:-(2 ^ 62)<=lo)(aa:lo<2 ^ 62)(aJ:-(2 ^ 62)<=aj)(aW:aj<2 ^ 62)(q:R (pv lo (aj-lo).toNat) H):wpAny (model X.prog X.w) X.A (pyIter (.ref s.heap.objs.size)) (xq X pins σ dH R) E { s with heap:=s.heap.push { cls:=.type "range",data:=.fields #[.int lo t,.int aj u,.int 1 v] },toks:=tk }:=by
 refine wpAny_pyIter_range (IsRange.new ..) (small_one J aa aJ aW) ?_;have a6:Inv X pins σ H { s with heap:=s.heap.push { cls:=.type "range",data:=.fields #[.int lo t,.int aj u,.int 1 v] },toks:=tk }:=I.kept λb o e=>abv _ e
 refine⟨(s.heap.push { cls:=.type "range",data:=.fields #[.int lo t,.int aj u,.int 1 v] }).objs.size,[(s.heap.push { cls:=.type "range",data:=.fields #[.int lo t,.int aj u,.int 1 v] }).objs.size],_,_,H,rfl,
  a6.kept (t':=tk) λb o e=>abv _ e,Zt _ lo (aj-lo).toNat,?_,λb ae=>?_,q⟩
 .have e1:lo+((0:Nat):Int)*1=lo:=(by simp);have ar:(((aj-lo).toNat:Nat):Int)-((0:Nat):Int)=Builtin.Range.rangeSize lo aj 1:=(by rw[rangeSize_one];split<;>omega);show IsRangeIter _ _ (lo+((0:Nat):Int)*1) ((((aj-lo).toNat:Nat):Int)-((0:Nat):Int)) 1;rw[e1,ar];exact abD _ rfl
 .have e:b=(s.heap.push { cls:=.type "range",data:=.fields #[.int lo t,.int aj u,.int 1 v] }).objs.size:=(by simpa using ae);subst e;exact a6.r8 (abz _) (a6.bL.fresh (abz _))
noncomputable def RW(cR:gr):TI:=λσ H R=>cR σ H λag H1=>∃j:Int,ag=[.int j]/\-(2 ^ 62)<=j/\j<2 ^ 62/\R (pv 0 j.toNat) H1
noncomputable def RX(cR:gr):TI:=λσ H R=>cR σ H λag H1=>∃i j:Int,ag=[.int i,.int j]/\(-(2 ^ 62)<=i/\i<2 ^ 62/\-(2 ^ 62)<=j/\j<2 ^ 62)/\R (pv i (j-i).toNat) H1
def Vk{a:Expr}{cR:gr}{p pos:Pos}(aY:eV X "range")(hm:X.aZ "range"=none)(aw:fQ X [a] cR)(af:starEach [a] X.env=[(false,eval a X.env)]:=by rfl):ht X dH (.Call (.Name "range" p) [a] [] pos) (RW cR):=by
 intro pins s σ H R I h;refine Call_ (kF I aY hm boot_range (aci (bK (aw pos pins s σ H _ I h) λus s1 ⟨ag,H1,a6,aG,aO⟩=>?_) af rfl));obtain⟨j,e,aO,ba,q⟩:=aO;subst e;cases aG with
 |cons r gG =>
  cases gG;obtain⟨t,rfl⟩:=r;exact call_range_1 (HR a6 (by omega) (by omega) aO ba (by simpa using q))
def Vl{a b:Expr}{cR:gr}{p pos:Pos}(aY:eV X "range")(hm:X.aZ "range"=none)(aw:fQ X [a,b] cR)(af:starEach [a,b] X.env=[(false,eval a X.env),(false,eval b X.env)]:=by rfl)(z8:starEach [b] X.env=[(false,eval b X.env)]:=by rfl):
  ht X dH (.Call (.Name "range" p) [a,b] [] pos) (RX cR):=by
 intro pins s σ H R I h;refine Call_ (kF I aY hm boot_range (aci (bK (aw pos pins s σ H _ I h) λus s1 ⟨ag,H1,a6,aG,aO⟩=>?_) (by rw[af,z8]) (by rw[z8];rfl)));obtain⟨i,j,e,⟨aO,ba,b6,dx⟩,q⟩:=aO;subst e;cases aG with
 |cons r gG =>
  cases gG with
  |cons bX gG =>
   cases gG;obtain⟨t,rfl⟩:=r;obtain⟨t',rfl⟩:=bX;exact call_range_2 (HR a6 aO ba b6 dx q)
noncomputable def wL(q4:TI)(g:ll)(da:f7):f7:=λD σ H=>q4 σ H λdI H1=>∃W:Nat->Nat->St->aD->Prop,(∃m,W 0 m σ H1)/\∀i m σ H,W i m σ H ->
 (dI.stop i H/\D.bJ σ H)\/(dI.go i H/\∃N:St->aD->Prop,(∀cE aq,N cE aq->∃h5,h5<m/\W (i+1) h5 cE aq)/\∀x aq,dI.k7 i H x aq->g x σ aq λnQ aX=>da { D with bJ:=N,ct:=N,hv:=D.bJ } nQ aX)
noncomputable def v7(bB:List Addr)(h:Heap):List (Addr×Obj):=bB.filterMap λb=>(h.get? b).map λo=>(b,o)
def qv{bB:List Addr}{h:Heap}{b:Addr}{o:Obj}(ae:b∈bB)(e:h.get? b=some o):(b,o)∈v7 bB h:=aeJ.mpr ⟨b,ae,by rw[e];rfl⟩
def Ut{bB:List Addr}{h:Heap}{p:Addr×Obj}(aB:p∈v7 bB h):p.1∈bB/\h.get? p.1=some p.2:=by
 obtain⟨b,ae,e⟩:=aeJ.mp aB;cases q:h.get? b with
 |none=>rw[q]at e;cases e
 |some o =>
  rw[q]at e;have bk:(b,o)=p:=ab5 e;subst bk;exact⟨ae,q⟩
def Inv.pinned{pins:List (Addr×Obj)}{σ:St}{H:aD}{s:Shared}{bB:List Addr}(I:Inv X pins σ H s)(hf:∀b∈bB,kd X pins H b)(az:∀b∈bB,∃o,s.heap.get? b=some o/\∀v,o.data≠.cell v):Inv X (pins++v7 bB s.heap) σ H s :=
 I.Bc λp aB=>(abU.mp aB).elim (λz=>I.pin p (abL _ z)) λz=>by
  obtain⟨ae,e⟩:=Ut z;obtain⟨f0,f1,f2,_⟩:=hf p.1 ae;obtain⟨o,bk,d⟩:=az p.1 ae;rw[e]at bk;cases bk;exact⟨e,f0,f1,f2,d⟩
def Inv.q0{pins cz:List (Addr×Obj)}{σ:St}{H:aD}{s:Shared}(I:Inv X (pins++cz) σ H s):Inv X pins σ H s:=I.Bc λp aB=>I.pin p (abL _ (List.mem_append_left _ aB))
def VD{iter:Expr}{body:List Stmt}{q4:TI}{g:ll}{da:f7}{pos:Pos}(aB:PassesOwn (model X.prog X.w) X.A X.env X.cq)(ah:X.calm=true)(aj:ht X dH iter q4)(aY:nV X dH g)(ae:fk X body da)(af:∀x,foldedSetIterable iter X.env x=pure x:=by intro _;rfl):dz X (.For dH iter body [] pos) (wL q4 g da):=by
 intro pins s σ H D I h;refine wpAny_For (bK (aj pins s σ H _ I h) λv s1 J=>bK J λAm s2 aa=>?_) af;obtain⟨it,bB,gW,dI,aX,e,cx,T,hk,f2,W,⟨m0,Co⟩,turn⟩:=aa;subst e;have BR:∀{aq:aD},(∀b∈bB,aq b=none)->∀b∈bB,kd X pins aq b:=λaC b ae=>⟨aC b ae,(f2 b ae).2⟩
 refine codeAny_forLoop_any (λn s'=>∃i cE aq,Inv X pins cE aq s'/\gW i s'.heap/\(∀b∈bB,aq b=none)/\W i n cE aq) ?_ m0 ⟨0,σ,aX,cx,hk,λb ae=>(f2 b ae).1,Co⟩;rintro n s3 ⟨i,ju,bq,ef,hM,EH,t8⟩;rcases turn i n ju bq t8 with⟨stop,VS⟩|⟨go,N,aP,step⟩
 .refine adp aB (bK (T.done X rfl rfl rfl ah i pins s3 ju bq X.cq ef (BR EH) hM stop) λr s4 ⟨a4,fI⟩=>?_);subst a4;exact ad0 ⟨ju,bq,fI,VS⟩
 .refine adp aB (bK (T.item X rfl rfl rfl ah i pins s3 ju bq X.cq ef (BR EH) hM go) λr s4 ⟨u,a4,aW⟩=>?_);subst a4;refine adp aB (bK aW λ_ s5 ⟨x,lb,kf,hK,Cu,mh,y8⟩=>?_);have xi:=kf.pinned (BR y8) (T.obj _ _ mh);refine adp aB (bK (aY _ s5 ju lb x u _ xi hK (step x lb Cu)) λ_ tN ⟨uc,i2,ps,kT⟩=>?_);refine adp aB (bK (ae _ tN uc i2 _ ps kT) λf tO iw=>?_);have again:∀{j9:St}{hp:aD},Inv X (pins++v7 bB s5.heap) j9 hp tO->N j9 hp->∃m,m<n/\∃i cE aq,Inv X pins cE aq tO/\gW i tO.heap/\(∀b∈bB,aq b=none)/\W i m cE aq:=λ{j9 hp} hq ti=>by
   obtain⟨h5,hm,ZM⟩:=aP j9 hp ti;refine⟨h5,hm,i+1,j9,hp,hq.q0,T.keep _ _ _ mh λb ae o e=>(hq.pin (b,o) (abL _ (abL _ (qv ae e)))).1,λb ae=>?_,ZM⟩;obtain⟨o,e,d⟩:=T.obj _ _ mh b ae;exact(hq.pin (b,o) (abL _ (abL _ (qv ae e)))).2.1
  cases f with
  |next=>obtain⟨j9,hp,hq,ti⟩:=iw;exact again hq ti
  |cont=>obtain⟨j9,hp,hq,ti⟩:=iw;exact again hq ti
  |brk=>obtain⟨j9,hp,hq,iw⟩:=iw;exact⟨j9,hp,hq.q0,iw⟩
  |ret v=>obtain⟨nP,j9,hp,hq,Bk,iw⟩:=iw;exact⟨nP,j9,hp,hq.q0,Bk,iw⟩
end
end bA
namespace bA
open PySem PySem.Spec PyProof.Rows
noncomputable abbrev f5:=V->V->aD->dD->Prop
def dt(X:a7)(f:Value->Value->Sem Value)(r:f5):Prop :=
 ∀(pins:List (Addr×Obj))(s:Shared)(σ:St)(H:aD)(x y:V)(v u:Value)(Q:dD),Inv X pins σ H s->RelV x v->RelV y u->r x y H Q ->
  wpAny (model X.prog X.w) X.A (f v u) (eU X pins σ Q) X.cq s
def xu(X:a7)(f:Value->Sem Value)(r:V->aD->dD->Prop):Prop :=
 ∀(pins:List (Addr×Obj))(s:Shared)(σ:St)(H:aD)(x:V)(v:Value)(Q:dD),Inv X pins σ H s->RelV x v->r x H Q ->
  wpAny (model X.prog X.w) X.A (f v) (eU X pins σ Q) X.cq s
def g0(X:a7)(f:Value)(r:List V->aD->dD->Prop):Prop :=
 ∀(pins:List (Addr×Obj))(s:Shared)(σ:St)(H:aD)(xs:List V)(us:List Value)(Q:dD),Inv X pins σ H s->Vals xs us->r xs H Q ->
  wpAny (model X.prog X.w) X.A (call f us) (eU X pins σ Q) X.cq s
noncomputable def t4(r:f5)(cR da:TE):TE:=λσ H Q=>cR σ H λx H1=>da σ H1 λy aX=>r x y aX Q
noncomputable def YE(r:V->aD->dD->Prop)(cR:TE):TE:=λσ H Q=>cR σ H λx H1=>r x H1 Q
noncomputable def wa(C:Int->Int->Prop)(g:Int->Int->V):f5:=λx y H Q=>∃i j,x=.int i/\y=.int j/\C i j/\Q (g i j) H
noncomputable def ma(g:Int->Int->V):f5:=λx y H Q=>∃i j,x=.int i/\y=.int j/\Q (g i j) H
noncomputable def HP(g:Int->V):V->aD->dD->Prop:=λx H Q=>∃i,x=.int i/\Q (g i) H
section
variable{X:a7}{a b c:Expr}{cR da iX:TE}{pos:Pos}
def yk(aw:aS X a cR)(ae:aS X b da){pins:List (Addr×Obj)}{s:Shared}{σ:St}{H:aD}{R:V->V->aD->Prop}(I:Inv X pins σ H s)(h:cR σ H λx H1=>da σ H1 λy aX=>R x y aX){Q:Value->Shared->Prop}{f:Value->Value->Sem Value}(hf:∀v u s2 x y aX,Inv X pins σ aX s2->RelV x v->RelV y u->R x y aX->wpAny (model X.prog X.w) X.A (f v u) Q X.cq s2):
  wpAny (model X.prog X.w) X.A (eval a X.env) (λv cX=>wpAny (model X.prog X.w) X.A (eval b X.env) (λu gm=>wpAny (model X.prog X.w) X.A (f v u) Q X.cq gm) X.cq cX) X.cq s:=by
 refine bK (aw pins s σ H _ I h) λv s1 ⟨x,H1,a6,aG,aO⟩=>?_
 refine bK (ae pins s1 σ H1 _ a6 aO) λu s2 ⟨y,aX,cx,aV,ba⟩=>?_
 exact hf v u s2 x y aX cx aG aV ba
def Hy{op:Operator}{r:f5}(az:dt X (binaryOp op) r)(aw:aS X a cR)(ae:aS X b da):aS X (.BinOp a op b pos) (t4 r cR da):=by
 intro pins s σ H Q I h;exact wpAny_BinOp (yk aw ae I h λv u s2 x y aX cx bg bT q=>az pins s2 σ aX x y v u Q cx bg bT q)
def U8{op:UnaryOp}{r:V->aD->dD->Prop}(az:xu X (unaryOp op) r)(aw:aS X a cR):aS X (.UnaryOp op a pos) (YE r cR):=by
 intro pins s σ H Q I h;exact UnaryOp_ (bK (aw pins s σ H _ I h) λv s1 ⟨x,H1,a6,aG,aO⟩=>az pins s1 σ H1 x v Q a6 aG aO)
def A4{f:Value->Value->Sem Value}{C:Int->Int->Prop}{g:Int->Int->Int}(rule:∀(i j:Int)(t u:Tok)(s:Shared)(Q:Value->Shared->Prop)(E:Value->Shared->Prop),C i j->Q (.int (g i j) s.toks) { s with toks:=s.toks+1 }->wpAny (model X.prog X.w) X.A (f (.int i t) (.int j u)) Q E s):
  dt X f (wa C λi j=>.int (g i j)):=by
 intro pins s σ H x y v u Q I bg bT h;obtain⟨i,j,rfl,rfl,ah,q⟩:=h;obtain⟨t,rfl⟩:=bg;obtain⟨t',rfl⟩:=bT;exact rule i j t t' s _ _ ah ⟨.int (g i j),H,I.tok _,⟨_,rfl⟩,q⟩
def vX{f:Value->Value->Sem Value}{g:Int->Int->Int}(rule:∀(i j:Int)(t u:Tok)(s:Shared)(Q:Value->Shared->Prop)(E:Value->Shared->Prop),Q (.int (g i j) s.toks) { s with toks:=s.toks+1 }->wpAny (model X.prog X.w) X.A (f (.int i t) (.int j u)) Q E s):
  dt X f (ma λi j=>.int (g i j)):=by
 intro pins s σ H x y v u Q I bg bT h;obtain⟨i,j,rfl,rfl,q⟩:=h;obtain⟨t,rfl⟩:=bg;obtain⟨t',rfl⟩:=bT;exact rule i j t t' s _ _ ⟨.int (g i j),H,I.tok _,⟨_,rfl⟩,q⟩
def A3{f:Value->Value->Sem Value}{g:Int->Int->Bool}(rule:∀(i j:Int)(t u:Tok)(s:Shared)(Q:Value->Shared->Prop)(E:Value->Shared->Prop),Q (.bool (g i j)) s->wpAny (model X.prog X.w) X.A (f (.int i t) (.int j u)) Q E s):
  dt X f (ma λi j=>.aU (g i j)):=by
 intro pins s σ H x y v u Q I bg bT h;obtain⟨i,j,rfl,rfl,q⟩:=h;obtain⟨t,rfl⟩:=bg;obtain⟨t',rfl⟩:=bT;exact rule i j t t' s _ _ ⟨.aU (g i j),H,I,rfl,q⟩
def Ks(i j:Int):Prop:=0<j/\j<1073741824
def xb(i j:Int):Prop:=(-(2 ^ 64)<i/\i<2 ^ 64)\/(-(2 ^ 64)<j/\j<2 ^ 64)
def xb.ok{i j:Int}(h:xb i j):IntMulOk i j:=by
 rcases h with⟨J,aa⟩|⟨J,aa⟩
 .exact .of_left (intBits_le_64 J aa)
 .exact .of_right (intBits_le_64 J aa)
def Ux:dt X (binaryOp .Add) (ma λi j=>.int (i+j)):=vX λ_ _ _ _ _ _ _ q=>add_int q
def UH:dt X (binaryOp .Sub) (ma λi j=>.int (i-j)):=vX λ_ _ _ _ _ _ _ q=>sub_int q
def UE:dt X (binaryOp .Mult) (wa xb λi j=>.int (i*j)):=A4 λ_ _ _ _ _ _ _ ah q=>mul_int q ah.ok
def Uy:dt X (binaryOp .FloorDiv) (wa Ks λi j=>.int (i / j)):=A4 λi j _ _ _ _ _ ah q=>by
 have J:(0:Int)<j:=ah.1;have aa:j<1073741824:=ah.2;exact floordiv_int (by omega) (by rw[Int.fdiv_eq_ediv_of_nonneg i (by omega)];exact q) (.inl (PyProof.noPylong_small (by omega)))
def UD:dt X (binaryOp .Mod) (wa (λ_ j=>0<j) λi j=>.int (i%j)):=A4 λi j _ _ _ _ _ ah q=>by
 have J:(0:Int)<j:=ah;exact mod_int' (by omega) (by rw[Int.fmod_eq_emod_of_nonneg i (by omega)];exact q)
def Hk:dt X (binaryOp .BitAnd) (ma λi j=>.int (Builtin.bitAnd i j)):=vX λ_ _ _ _ _ _ _ q=>and_int q
def UI:dt X (binaryOp .BitXor) (ma λi j=>.int (Builtin.bitXor i j)):=vX λ_ _ _ _ _ _ _ q=>xor_int q
def JT{f:Value->Sem Value}{g:Int->Int}(rule:∀(i:Int)(t:Tok)(s:Shared)(Q:Value->Shared->Prop)(E:Value->Shared->Prop),Q (.int (g i) s.toks) { s with toks:=s.toks+1 }->wpAny (model X.prog X.w) X.A (f (.int i t)) Q E s):
  xu X f (HP λi=>.int (g i)):=by
 intro pins s σ H x v Q I bg h;obtain⟨i,rfl,q⟩:=h;obtain⟨t,rfl⟩:=bg;exact rule i t s _ _ ⟨.int (g i),H,I.tok _,⟨_,rfl⟩,q⟩
def Zx:xu X (unaryOp .USub) (HP λi=>.int (-i)):=JT λ_ _ _ _ _ q=>neg_int q
end
section
variable{X:a7}{a b c:Expr}{cR da iX:TE}{pos:Pos}
def UB:dt X (compareOp .Lt) (ma λi j=>.aU (decide (i<j))):=A3 λ_ _ _ _ _ _ _ q=>lt_int q
def UA:dt X (compareOp .LtE) (ma λi j=>.aU (decide (i<=j))):=A3 λ_ _ _ _ _ _ _ q=>le_int q
def Uz:dt X (compareOp .Gt) (ma λi j=>.aU (decide (j<i))):=A3 λ_ _ _ _ _ _ _ q=>gt_int q
def UW{op:CmpOp}{r:f5}(az:dt X (compareOp op) r)(aw:aS X a cR)(ae:aS X b da)(hm:behindInMarks op b=false):aS X (.Compare a [op] [b] pos) (t4 r cR da):=by
 intro pins s σ H Q I h;exact wpAny_Compare1 (yk aw ae I h λv u s2 x y aX cx bg bT q=>az pins s2 σ aX x y v u Q cx bg bT q) hm
noncomputable def Jx(t:TE):TT:=λσ H Q=>t σ H λx aq=>∃k,x=.aU k/\Q k aq
def VK{op:CmpOp}{r:f5}(az:dt X (compareOp op) r)(aw:aS X a cR)(ae:aS X b da)(hm:behindInMarks op b=false):eI X (.Compare a [op] [b] pos) (Jx (t4 r cR da)):=by
 intro pins s σ H Q I h;refine wpAny_isTrue_Compare1 (bK (aw pins s σ H _ I h) λv s1 ⟨x,H1,a6,aG,aO⟩=>bK (ae pins s1 σ H1 _ a6 aO) λu s2 ⟨y,aX,cx,aV,ba⟩ =>
  bK (az pins s2 σ aX x y v u _ cx aG aV ba) λc s3 ⟨z,bq,ef,c5,k,e,b6⟩=>?_) hm
 subst e;cases c5;exact acI ⟨bq,ef,b6⟩
noncomputable def BW(r bX:f5)(cR da iX:TE):TE:=λσ H Q=>cR σ H λx H1=>da σ H1 λy aX=>r x y aX λz bq=>∃k,z=.aU k /\
 (if k=true then iX σ bq λf3 fi=>bX y f3 fi Q else Q (.aU false) bq)
def UU{op op':CmpOp}{r bX:f5}(az:dt X (compareOp op) r)(dG:dt X (compareOp op') bX)(aw:aS X a cR)(ae:aS X b da)(ah:aS X c iX)(hm:lastMarks [op,op'] [b,c]=false:=by with_unfolding_all rfl):aS X (.Compare a [op,op'] [b,c] pos) (BW r bX cR da iX):=by
 intro pins s σ H Q I h;refine Compare_chain (bK (aw pins s σ H _ I h) λv s1 ⟨x,H1,a6,aG,aO⟩=>chain_link (bK (ae pins s1 σ H1 _ a6 aO) λu s2 ⟨y,aX,cx,aV,ba⟩ =>
  bK (az pins s2 σ aX x y v u _ cx aG aV ba) λd s3 ⟨z,bq,ef,c5,k,e,b6⟩=>?_)) hm
 subst e;cases c5;refine acI ?_;cases k with
 |false=>exact ite_ff ⟨.aU false,bq,ef,rfl,b6⟩
 |true=>exact ite_tt (chain_last (bK (ah pins s3 σ bq _ ef b6) λf3 s4 ⟨h8,fi,fI,gF,dx⟩=>dG pins s4 σ fi y h8 u f3 Q fI aV gF dx))
def VJ{op op':CmpOp}{r bX:f5}(az:dt X (compareOp op) r)(dG:dt X (compareOp op') bX)(aw:aS X a cR)(ae:aS X b da)(ah:aS X c iX)(hm:lastMarks [op,op'] [b,c]=false:=by with_unfolding_all rfl):eI X (.Compare a [op,op'] [b,c] pos) (Jx (BW r bX cR da iX)):=by
 intro pins s σ H Q I h;refine isTrue_chain (bK (aw pins s σ H _ I h) λv s1 ⟨x,H1,a6,aG,aO⟩=>test_link (bK (ae pins s1 σ H1 _ a6 aO) λu s2 ⟨y,aX,cx,aV,ba⟩ =>
  bK (az pins s2 σ aX x y v u _ cx aG aV ba) λd s3 ⟨z,bq,ef,c5,k,e,b6⟩=>?_)) hm
 subst e;cases c5;refine acI ?_;cases k with
 |false =>
  obtain⟨cL,bk,cN⟩:=b6;cases bk;exact ite_ff ⟨bq,ef,cN⟩
 |true =>
  refine ite_tt (test_last (bK (ah pins s3 σ bq _ ef b6) λf3 s4 ⟨h8,fi,fI,gF,dx⟩=>bK (dG pins s4 σ fi y h8 u f3 _ fI aV gF dx) λd' s5 ⟨bV,lb,kf,hK,k2,ar,gV⟩=>?_));subst ar;cases hK;exact acI ⟨lb,kf,gV⟩
def s9:(sizeLine:Nat)<2 ^ 63:=by rw[sizeLine_eq];decide
def vals1{x:V}{us:List Value}(r:Vals [x] us):∃u,us=[u]/\RelV x u:=by
 cases r with
 |cons aG aV=>cases aV;exact⟨_,rfl,aG⟩
def vals2{x y:V}{us:List Value}(r:Vals [x,y] us):∃u f3,us=[u,f3]/\RelV x u/\RelV y f3:=by
 cases r with
 |cons aG aV =>
  cases aV with
  |cons c5 gF=>cases gF;exact⟨_,_,rfl,aG,c5⟩
def L0:g0 X (.type "int") (λxs H Q=>(∃i,xs=[.int i]/\Q (.int i) H)\/∃k,xs=[.aU k]/\Q (.int (if k then 1 else 0)) H):=by
 intro pins s σ H xs us Q I r h;rcases h with⟨i,rfl,q⟩|⟨k,rfl,q⟩
 .obtain⟨u,rfl,t,rfl⟩:=vals1 r;exact call_int_int ⟨.int i,H,I,⟨_,rfl⟩,q⟩
 .obtain⟨u,rfl,aG⟩:=vals1 r;cases aG;exact call_int_bool ⟨.int (if k then 1 else 0),H,I.tok _,⟨_,rfl⟩,q⟩
end
end bA
namespace bA
open PySem PySem.Spec PyProof.Rows
structure KG(h:Heap)(x bj C:Addr)(gC:Str->Option Value):Prop where
 obj:h.get? x=some (PySem.W.instObj C bj)
 ns:h.Ns1 bj gC
 ne:bj≠x
section
variable{prog:Program}{w:World}{A:Around}{E:Value->Shared->Prop}{s:Shared}{K:W.Frag}{x bj C f:Addr}{gC:Str->Option Value}{name:Str}{v:Value}
end
def jA.some_of{v:V}{o:Option Value}(r:jA (some v) o):∃u,o=some u/\RelV v u:=by
 cases o with
 |none=>exact(show False from r).elim
 |some u=>exact⟨u,rfl,r⟩
section
variable{P:Program}{w:World}{H aq:aD}{h h':Heap}{a C bj:Addr}{bC PK:List (Str×V)}
def Ai(bL:ed P w H h)(e:H a=some (.ins C bj bC)):∃gC,KG h a bj C gC/\(∀f,jA (bC.lookup f) (gC f))/\PySem.Within gC (bC.map (·.1))/\bC.length<=1000/\H bj=some (.own a):=by
 obtain⟨d,z,ne,b5,gC,n,r,q⟩:=(show d7 P w H h a (.ins C bj bC) from bL a _ e);exact⟨gC,⟨b5,n,ne⟩,r,q,z,d⟩
end
structure xe(K:W.Frag)(C:Addr):Prop where
 pg:PySem.W.plainGet K C Str.empty=true
 hd:PySem.W.hasDictIn K C=true
 po:PySem.W.plainOver K C=true
 tQ:PySem.W.findIn K (.ref C) "__setattr__"=some (some (.builtin "object.__setattr__"))
structure Z6(K:W.Frag)(C:Addr)(f:Str)(v:V)(u:Value):Prop where
 at_:PySem.W.findIn K (.ref C) f=some (some u)
 rel:RelV v u
 get:PySem.W.specialIn K u "__get__"=some none
 ew:PySem.W.copiedNames.contains f=false
structure Meth(K:W.Frag)(C:Addr)(m:Str)(f:Addr):Prop where
 at_:PySem.W.findIn K (.ref C) m=some (some (.ref f))
 fn:PySem.W.isFn K (.ref f)=true
 gB:W.keepIn K (.ref f)=true
section
variable{X:a7}{pins:List (Addr×Obj)}{σ:St}{H:aD}{s:Shared}{a C bj:Addr}{bC:List (Str×V)}{f:Str}{v:V}{A:Around}{E:Value->Shared->Prop}
end
section
variable{X:a7}{o e value:Expr}{f:Str}{pos pos' Zn:Pos}{cR kZ:TE}
end
section
variable{X:a7}{pins:List (Addr×Obj)}{σ:St}{H:aD}{s:Shared}{A:Around}{E:Value->Shared->Prop}{Q:Value->Shared->Prop}{c:Value}{b:Bool}
inductive jC(K:W.Frag)(H:aD):V->Value->Prop where
 |dK:jC K H .dK (.type "NoneType")
 |aU (x:Bool):jC K H (.aU x) (.type "bool")
 |int (i:Int):jC K H (.int i) (.type "int")
 |str (x:Str):jC K H (.str x) (.type "str")
 |gP (x:UInt64):jC K H (.gP x) (.type "float")
 |lst {a:Addr} {xs:List V} (e:H a=some (.lst xs)):jC K H (.ref a) (.type "list")
 |eh {a:Addr} {o:Obj} {xs:List V} (e:H a=some (.eh o (.lst xs))):jC K H (.ref a) (.type "list")
 |tup {a:Addr} {xs:List V} (e:H a=some (.tup xs)):jC K H (.ref a) (.type "tuple")
 |dY {a:Addr} {ax:List (Key×V)} (e:H a=some (.dY ax)):jC K H (.ref a) (.type "dict")
 |ey {a:Addr} {ax:List (List Key×V)} (e:H a=some (.ey ax)):jC K H (.ref a) (.type "dict")
 |ins {a C bj:Addr} {bC:List (Str×V)} (e:H a=some (.ins C bj bC)) (cl:xe K C) (aw:PySem.W.findIn K (.ref C) "__class__"=some (some (.builtin "object.__class__")))
   (aC:PySem.W.specialIn K (.builtin "object.__class__") "__get__"=some (some (.builtin "getset_descriptor.__get__"))) (aaM:PySem.W.takesIn K (.builtin "object.__class__")=some true)
   (hm:PySem.W.mroIn K C (.type "object")=some true):jC K H (.ref a) (.ref C)
end
end bA
namespace bA
open PySem PySem.Spec PyProof.Rows
structure f6(k:Nat)(A:Around):Prop where
 hd:A.handled=none
 mV:A.depth+3*k+5<recursionLimit
 un:A.units+16*k+200<cLine
def f6.mono{j k:Nat}{A:Around}(r:f6 k A)(h:j<=k):f6 j A:=⟨r.hd,by have:=r.mV;omega,by have:=r.un;omega⟩
theorem f6.deeper{k:Nat}{A:Around}(r:f6 (k+1) A)(env:Env):f6 k (A.deeper env) :=
 ⟨r.hd,by have:=r.mV;show A.depth+1+3*k+5<_;omega,by have:=r.un;show A.units+3+16*k+200<_;omega⟩
theorem f6.depth{k:Nat}{A:Around}(r:f6 k A):A.depth<recursionLimit:=by have:=r.mV;omega
theorem f6.units{k:Nat}{A:Around}(r:f6 k A):A.units+64<cLine:=by have:=r.un;omega
noncomputable def Jw:gr:=λ_ H Q=>Q [] H
noncomputable def Jr(cR:TE)(fD:gr):gr:=λσ H Q=>cR σ H λx H1=>fD σ H1 λxs aX=>Q (x::xs) aX
section
variable{X:a7}{e:Expr}{ak:List Expr}{eT:TE}{t:gr}{pos:Pos}
def tu:fQ X [] Jw:=λ_ _ _ _ H Q I h=>ad7 ⟨[],H,I,.nil,h⟩
def oW(aw:aS X e eT)(a4:fQ X ak t)(af:starEach (e::ak) X.env=(false,eval e X.env)::starEach ak X.env:=by rfl):fQ X (e::ak) (Jr eT t):=by
 intro pos pins s σ H Q I h;rw[af];show wpAny _ _ (spliced ((false,eval e X.env)::backTo pos (starEach ak X.env))) _ _ s;refine ad3 (bK (aw pins s σ H _ I h) λu s1 ⟨x,H1,a6,aG,aO⟩=>?_);exact bK (a4 pos pins s1 σ H1 _ a6 aO) λus s2 ⟨xs,aX,cx,aV,ba⟩=>⟨x::xs,aX,cx,.cons aG aV,ba⟩
noncomputable def YD(t:gr):TE:=λσ H Q=>t σ H λxs H1=>xs.length<=sizeLine/\∀p,H1 p=none->Q (.ref p) (upd H1 p (.tup xs))
noncomputable def Yt(t:gr):TE:=λσ H Q=>t σ H λxs H1=>xs.length<=sizeLine/\∀p,H1 p=none->Q (.ref p) (upd H1 p (.lst xs))
def U7{aT}(h:fQ X ak t):aS X (.Tuple ak aT pos) (YD t):=by
 intro pins s σ H Q I aM;refine wpAny_Tuple_spliced (bK (h pos pins s σ H _ I aM) λus s1 ⟨xs,H1,a6,r,z,q⟩=>⟨by rw[<- r.length];exact z,?_⟩);have hf:H1 s1.heap.objs.size=none:=a6.bL.fresh (abz _);refine⟨.ref s1.heap.objs.size,upd H1 s1.heap.objs.size (.tup xs),a6.laid (t':=s1.toks) (λb u e=>abv _ e) (abz _) ?_,rfl,q _ hf⟩;exact⟨z,us,r,⟨_,abD _ rfl,rfl,_,rfl⟩⟩
def U3(h:fQ X ak t):aS X (.List ak pos) (Yt t):=by
 intro pins s σ H Q I aM;refine wpAny_List_spliced (bK (h pos pins s σ H _ I aM) λus s1 ⟨xs,H1,a6,r,z,q⟩=>⟨by rw[<- r.length];exact z,?_⟩);have hf:H1 s1.heap.objs.size=none:=a6.bL.fresh (abz _);refine⟨.ref s1.heap.objs.size,upd H1 s1.heap.objs.size (.lst xs),a6.laid (t':=s1.toks) (λb u e=>abv _ e) (abz _) ?_,rfl,q _ hf⟩;exact⟨z,us,0,r,abD _ rfl⟩
end
noncomputable abbrev mC:=List V->aD->dD->i4->Prop
noncomputable abbrev jv:=List Env->aD->Shared->i4->Value->Shared->Prop
structure ug(P:Program)(w:World)(K:W.Frag)(aZ:Str->Option Value)(base:Heap)(A:Around)(outer:List Env)(s:Shared)(H:aD):Prop where
 frames:A.frames=some outer
 mod:Mod K aZ base
 bs:∀b o,base.get? b=some o->s.heap.get? b=some o/\H b=none
 n6:base.objs.size<=s.heap.objs.size
 i8:s.heap.FunFrames base outer
 p0:∀b∈gd outer,H b=none
 bL:ed P w H s.heap
 bare:AllBare s.gens
def xa(outer:List Env)(P:Program)(w:World)(H:aD)(s:Shared)(Q:dD)(u:Value)(s':Shared):Prop :=
 ∃v aq,s'.os=s.os/\AllBare s'.gens/\fg (gd outer) [] H aq s.heap s'.heap/\ed P w aq s'.heap/\RelV v u/\Q v aq
def Ku(CX:jv)(outer:List Env)(P:Program)(w:World)(H:aD)(s:Shared)(Q:dD)(E:i4)(r:Result)(s':Shared):Prop :=
 match r with
 |.ok (.ret u)=>xa outer P w H s Q u s'
 |.ok _=>False
 |.error e=>CX outer H s E e s'
structure kc(P:Program)(w:World)(K:W.Frag)(aZ:Str->Option Value)(base:Heap)(CX:jv)(k:Nat)(f:Addr)(fd:FuncData)(a3:List Str)(sp:mC):Prop where
 len:∀ag H Q E,sp ag H Q E->ag.length=a3.length
 run:∀(A:Around)(outer:List Env)(s:Shared)(H:aD)(args:Args)(us:List Value)(ag:List V)(Q:dD)(E:i4),f6 k A->ug P w K aZ base A outer s H->BindsTo s fd args (a3.zip us)->Vals ag us->sp ag H Q E ->
  codeAny (model P w) A (.call (.ref f) args) (Ku CX outer P w H s Q E) s
section
variable{X:a7}{pins:List (Addr×Obj)}{σ:St}{H:aD}{s s':Shared}
def Inv.N4(I:Inv X pins σ H s):ug X.prog X.w X.K X.aZ X.base X.A X.stack s H :=
 ⟨I.ok.frames,I.ok.mod,I.bs,acx I.ok.n6 I.gH,I.stack,I.BS,I.bL,I.bare⟩
def Inv.after{Q:dD}{u:Value}(I:Inv X pins σ H s)(h:xa X.stack X.prog X.w H s Q u s'):eU X pins σ Q u s':=by
 obtain⟨v,aq,os,bare,un,bL,r,q⟩:=h;obtain⟨cD,g,d,t,tq⟩:=s';obtain rfl:tq=s.os:=os;exact⟨v,aq,I.call (h':=cD) (g':=g) (d':=d) (t':=t) (ch:=[]) un bL bare (λb z=>absurd z (by simp)),r,q⟩
end
noncomputable def Ym(sp:mC)(dvs:List V)(E:i4)(t:gr):TE:=λσ H Q=>t σ H λag H1=>sp (ag++dvs) H1 Q E
def Binds(K:W.Frag)(fd:FuncData)(a3:List Str)(ds:List Value):Prop :=
 ∀(s:Shared)(us:List Value),K.In s.heap->(us++ds).length=a3.length->BindsTo s fd ⟨us,[]⟩ (a3.zip (us++ds))
def Binds.all{K:W.Frag}{fd:FuncData}{a3:List Str}(h:∀us:List Value,us.length=a3.length->bindArgs fd ⟨us,[]⟩=pure (a3.zip us)):Binds K fd a3 []:=λs us _ aA=>by
 rw[adb]at aA ⊢;exact .of_eq (h us aA)
def Passes(CX:jv)(X:a7)(E:i4):Prop:=∀(pins:List (Addr×Obj))(σ:St)(H:aD)(s:Shared)(e:Value)(s':Shared),Inv X pins σ H s->CX X.stack H s E e s'->X.cq e s'
section
variable{X:a7}{CX:jv}{k:Nat}{f C:Addr}{fd:FuncData}{a3:List Str}{sp:mC}{dvs:List V}{ds:List Value}{E:i4}{x m:Str}{p pos apos:Pos}{e o:Expr}{ak:List Expr}{cR:TE}{t:gr}
def Wy{pins:List (Addr×Obj)}{σ:St}{H:aD}{s:Shared}{Q:dD}{us:List Value}{ag:List V}(F:kc X.prog X.w X.K X.aZ X.base CX k f fd a3 sp)(a4:f6 k X.A)(ae:Binds X.K fd a3 ds)(hd:Vals dvs ds)(ai:Passes CX X E)(I:Inv X pins σ H s)(r:Vals ag us)(h:sp (ag++dvs) H Q E):wpAny (model X.prog X.w) X.A (call (.ref f) us) (eU X pins σ Q) X.cq s:=by
 have aV:Vals (ag++dvs) (us++ds):=r.append hd;have aA:(us++ds).length=a3.length:=by rw[<- aV.length];exact F.len _ _ _ _ h
 refine wpAny_call (aeH (F.run X.A X.stack s H ⟨us,[]⟩ (us++ds) (ag++dvs) Q E a4 I.N4 (ae s us I.oH aA) aV h) λr s' aM=>?_);cases r with
 |error e=>exact ai pins σ H s e s' I aM
 |ok fK =>
  cases fK with
  |ret u=>exact I.after aM
  |next=>exact False.elim aM
  |brk=>exact False.elim aM
  |cont=>exact False.elim aM
def UT(F:kc X.prog X.w X.K X.aZ X.base CX k f fd a3 sp)(a4:f6 k X.A)(aY:eV X x)(hm:X.aZ x=some (.ref f))(ay:W.keepIn X.K (.ref f)=true)(ae:Binds X.K fd a3 ds)(hd:Vals dvs ds)(ai:Passes CX X E)(aw:fQ X (e::ak) t)(jL:(x==("__debug__":Str))=false:=by decide)(he:starEach (e::ak) X.env=(false,eval e X.env)::starEach ak X.env:=by rfl)(d6:(backTo pos (starEach ak X.env)).any (·.1)=false:=by rfl):
  aS X (.Call (.Name x p) (e::ak) [] pos) (Ym sp dvs E t):=by
 intro pins s σ H Q I h;refine acZ (vK I aY hm ?_ jL);refine PySem.W.callWith_K (h₀:=X.base) I.ok.mod.Aq ay (bK (aw pos pins s σ H _ I h) λus s1 ⟨ag,H1,a6,r,q⟩=>⟨a6.oH,?_⟩) he d6;exact Wy F a4 ae hd ai a6 r q
structure gJ(K:W.Frag)(C f:Addr):Prop where
 makes:PySem.W.makesIn K C=true
 init:PySem.W.findIn K (.ref C) "__init__"=some (some (.ref f))
 fn:PySem.W.isFn K (.ref f)=true
 gB:W.keepIn K (.ref C)=true
end
section
variable{X:a7}{CX:jv}{k:Nat}{f C:Addr}{fd:FuncData}{a3 au:List Str}{sp:mC}{E:i4}{x m:Str}{p pos apos aaZ:Pos}{e o:Expr}{ak:List Expr}{aa0:List Keyword}{eT cR:TE}{t tk:gr}{nm:Option Str}
structure Z8(K:W.Frag)(fd:FuncData)(a3 au:List Str)(g:List Value->List Value->List Value)(EN:List V->List V->List V):Prop where
 to:∀(s:Shared)(us ws:List Value),K.In s.heap->(g us ws).length=a3.length->BindsTo s fd ⟨us,au.zip ws⟩ (a3.zip (g us ws))
 rel:∀{ag:List V}{us:List Value}{zs:List V}{ws:List Value},Vals ag us->Vals zs ws->Vals (EN ag zs) (g us ws)
variable{g:List Value->List Value->List Value}{EN:List V->List V->List V}
end
structure xg(N P:List Str)(sc:Scope):Prop where
 kind:sc.kind=.function
 co:sc.isCoroutine=false
 gen:sc.isGenerator=false
 ea:N.Nodup
 pre:N.take P.length=P
 par:∀x∈P,sc.names.lookup x=some .local\/sc.names.lookup x=some .cell
 Ua:∀y∈sc.names,y.2≠.free
theorem C9{kindOf:Str->Option NameKind}{x:Str}:∀{binds:List (Str×Value)}{m:Str->Option Value},(∀v,(x,v)∉binds)->bindL kindOf binds m x=m x
 |[],_,_=>rfl
 |(n,v)::r,m,h=>by
  unfold bindL;rw[C9 λw hw=>h w (List.mem_cons_of_mem _ hw)]
  split
  .have:x≠n:=(by rintro rfl;exact h v List.mem_cons_self);simp[this]
  .rfl
theorem C7{kindOf:Str->Option NameKind}{x:Str}:∀{binds:List (Str×Value)}{m:Str->Option Value},(∀v,(x,v)∉binds)->bindC kindOf binds m x=m x
 |[],_,_=>rfl
 |(n,v)::r,m,h=>by
  unfold bindC;rw[C7 λw hw=>h w (List.mem_cons_of_mem _ hw)]
  split
  .rfl
  .have:x≠n:=(by rintro rfl;exact h v List.mem_cons_self);simp[this]
theorem C8{kindOf:Str->Option NameKind}{x:Str}{v:Value}:∀{P:List Str}{ag:List Value}{i:Nat}{m:Str->Option Value},P.Nodup->P[i]?=some x->ag[i]?=some v->kindOf x=some .local ->
  bindL kindOf (P.zip ag) m x=some v
 |[],_,_,_,_,h,_,_=>by simp at h
 |_::_,[],_,_,_,_,h,_=>by simp at h
 |p::P,w::ag,0,m,ea,J,aa,ay=>by
  simp at J aa;subst J;subst aa;show bindL kindOf ((p,w)::P.zip ag) m p=_;unfold bindL;rw[C9 λv aN=>(ab9.mp ea).1 (List.of_mem_zip aN).1,if_pos ay];simp
 |p::P,w::ag,i+1,m,ea,J,aa,ay=>by
  show bindL kindOf ((p,w)::P.zip ag) m x=_;unfold bindL;exact C8 (i:=i) (ab9.mp ea).2 (by simpa using J) (by simpa using aa) ay
theorem C6{kindOf:Str->Option NameKind}{x:Str}{v:Value}:∀{P:List Str}{ag:List Value}{i:Nat}{m:Str->Option Value},P.Nodup->P[i]?=some x->ag[i]?=some v->kindOf x≠some .local ->
  bindC kindOf (P.zip ag) m x=some v
 |[],_,_,_,_,h,_,_=>by simp at h
 |_::_,[],_,_,_,_,h,_=>by simp at h
 |p::P,w::ag,0,m,ea,J,aa,ay=>by
  simp at J aa;subst J;subst aa;show bindC kindOf ((p,w)::P.zip ag) m p=_;unfold bindC;rw[C7 λv aN=>(ab9.mp ea).1 (List.of_mem_zip aN).1,if_neg ay];simp
 |p::P,w::ag,i+1,m,ea,J,aa,ay=>by
  show bindC kindOf ((p,w)::P.zip ag) m x=_;unfold bindC;exact C6 (i:=i) (ab9.mp ea).2 (by simpa using J) (by simpa using aa) ay
noncomputable def start(N:List Str)(ag:List V):St:=ag.map some++List.replicate (N.length-ag.length) none
noncomputable def mS(CX:jv)(P:Program)(w:World)(K:W.Frag)(aZ:Str->Option Value)(base:Heap)(N:List Str)(qual:Str)(scope:Scope)(f:Addr)(cd:Value)(A:Around)(outer:List Env)(s:Shared)(H:aD)(E:i4):a7 where
 prog:=P
 w:=w
 K:=K
 aZ:=aZ
 base:=base
 A:=A.deeper (envOfC qual scope s.heap.objs.size f cd)
 N:=N
 eS:=s
 ri:=H
 env:=envOfC qual scope s.heap.objs.size f cd
 outer:=outer
 stack:=envOfC qual scope s.heap.objs.size f cd::outer
 ex:=[]
 calm:=true
 fn:=λ_=>true
 cA:=[]
 cq:=λe s'=>wpAny (model P w) (A.deeper (envOfC qual scope s.heap.objs.size f cd)) (leaving (envOfC qual scope s.heap.objs.size f cd) e) (λ_ tM=>CX outer H s E e tM) (λbk tM=>CX outer H s E bk tM) s'
def Dn{sc:Scope}{n:Nat}{x:Str}(h:sc.names.lookup x=some .cell):∃c,(cellsFrom n sc.names []).lookup x=some c:=by
 have q:=ae7 sc.names n [] (.inl h);exact Option.isSome_iff_exists.mp q
def Sa{CX:jv}{P:Program}{w:World}{K:W.Frag}{aZ:Str->Option Value}{base:Heap}{N a3:List Str}{qual:Str}{scope:Scope}{f:Addr}{cd:Value}{A:Around}{outer:List Env}{s s1:Shared}{H:aD}{E:i4}{us:List Value}{ag:List V}(S:xg N a3 scope)(hd:A.handled=none)(e0:ug P w K aZ base A outer s H)(aA:ag.length=a3.length)(r:Vals ag us)(x:InCallC s s.heap.objs.size (bindL (envOfC qual scope s.heap.objs.size f cd).kindOf (a3.zip us) λ_=>none) (cellsFrom (s.heap.objs.size+1) scope.names []) (bindC (envOfC qual scope s.heap.objs.size f cd).kindOf (a3.zip us) λ_=>none) s1):
  Inv (mS CX P w K aZ base N qual scope f cd A outer s H E) [] (start N ag) H s1:=by
 have d6:a3.length<=N.length:=by have:=acp List.length S.pre;rw[adj]at this;omega
 obtain⟨J,tk,rfl,ay⟩:=x.done;have tl:∀b:Addr,b∉(mS CX P w K aZ base N qual scope f cd A outer s H E).ex:=λb z=>absurd (show b∈([]:List Addr) from z) (by simp)
 refine⟨⟨e0.mod,S.kind,rfl,rfl,abz _,λy z c J aa=>?_,λy aQ=>?_,λy c _ h=>?_,λ_=>hd,Around.frames_deeper e0.frames,.inr ⟨rfl,rfl⟩,λb z=>absurd z (tl b),e0.bs,e0.n6,λb _ _=>tl b,λb z=>absurd z (tl b),e0.i8,e0.p0⟩,
  rfl,e0.bare,fg.kept ay,⟨_,x.toInCall.ns,λi y v J aa aJ=>?_⟩,λy c h=>⟨_,x.cell y c h⟩,e0.bL.fresh (abz _),λy c h=>?_,λp aB=>absurd (show p∈([]:List (Addr×Obj)) from aB) (by simp),e0.bL.kept ay,?_⟩
 .exact name_of_addr x.apart (ace J) (ace aa)
 .have aQ:scope.names.lookup y=some .cell\/scope.names.lookup y=some .free:=aQ;rcases aQ with aQ|aQ
  .exact Dn aQ
  .exact absurd rfl (S.Ua _ (ace aQ))
 .exact adP (x.above y c (ace h))
 .have aj:i<ag.length:=by
   unfold start at aa
   by_cases aj:i<ag.length
   .exact aj
   .rw[abW (by simpa using aj)]at aa;rw[adz]at aa
    split at aa<;>cases aa
  have aw:ag[i]?=some v:=by
   unfold start at aa;rw[abH (by simpa using aj),abF]at aa;cases e:ag[i]? with
   |none=>rw[e]at aa;cases aa
   |some a=>rw[e]at aa;cases aa;rfl
  obtain⟨u,br,bO⟩:=r.get aw;have aB:a3[i]?=some y:=by
   rw[<- S.pre,List.getElem?_take_of_lt (by omega)];exact J
  have G2:a3.Nodup:=(by rw[<- S.pre];exact S.ea.sublist (List.take_sublist _ _));refine⟨u,bO,?_⟩;rcases S.par y (acL aB) with k|k
  .exact .inl ⟨k,C8 G2 aB br k⟩
  .obtain⟨c,e⟩:=Dn (n:=s.heap.objs.size+1) k;refine .inr ⟨.inl k,c,e,?_⟩;have q:=x.cell y c e;rw[C6 G2 aB br (by show scope.names.lookup y≠_;rw[k];decide)]at q;exact q
 .exact e0.bL.fresh (adP (x.above y c (ace h)))
 .unfold start;show _=N.length;rw[abw,List.length_map,adM];omega
def PE{CX:jv}{P:Program}{w:World}{K:W.Frag}{aZ:Str->Option Value}{base:Heap}{k:Nat}{f:Addr}{name qual:Str}{params:Arguments}{body:List Stmt}{scope:Scope}{uP dq doc pm d4 ct fN:Value}{an bu:Option Addr}{fO:Array (Option Value)}{N a3:List Str}{sp:mC}(lk:K.lookup f=some ⟨fN,bu,.func (W.fnOf name qual params body scope uP dq doc pm an d4 ct),fO⟩)(lL:W.codeIn K d4 qual=true)(S:xg N a3 scope)(len:∀ag H Q E,sp ag H Q E->ag.length=a3.length)(zB:∀(A:Around)(outer:List Env)(s:Shared)(H:aD)(ag:List V)(Q:dD)(E:i4),f6 k (A.deeper (envOfC qual scope s.heap.objs.size f d4))->sp ag H Q E ->
   ∃t,fk (mS CX P w K aZ base N qual scope f d4 A outer s H E) body t/\t { bJ:=λ_ aq=>Q .dK aq,cI:=Q } (start N ag) H):
  kc P w K aZ base CX (k+1) f (W.fnOf name qual params body scope uP dq doc pm an d4 ct) a3 sp:=by
 refine⟨len,λA outer s H args us ag Q E a4 e0 ae r qh=>?_⟩;have aA:=len _ _ _ _ qh;have iD:K.In s.heap:=e0.mod.Aq.keeps λb o e=>(e0.bs b o e).1
 have lim:s.heap.NoLimit:=e0.mod.nolimit.keeps λb o e=>(e0.bs b o e).1
 have QS:∀y∈a3.zip us,scope.names.lookup y.1=some .local\/(scope.names.lookup y.1=some .cell/\((cellsFrom (s.heap.objs.size+1) scope.names []).lookup y.1).isSome=true):=λ⟨n,v⟩ aQ=>by
  rcases S.par n (List.of_mem_zip aQ).1 with q|q
  .exact .inl q
  .exact .inr ⟨q,ae7 _ _ _ (.inl q)⟩
 refine codeAny_call_function a4.depth (iD _ _ lk) rfl S.co S.gen rfl (PySem.W.codeRec_of iD lL) (ae _ _ _ _ ?_);refine wpAny_newFunctionEnv_cells S.kind QS λenv he s1 x=>?_
 subst he;refine⟨lim.keeps x.toInCall.keep,codeAny_func ?_⟩;obtain⟨t,aH,aM⟩:=zB A outer s H ag Q E (a4.deeper _) qh;have I:Inv (mS CX P w K aZ base N qual scope f d4 A outer s H E) [] (start N ag) H s1:=Sa S a4.hd e0 aA r x;refine acg (aH [] s1 (start N ag) H _ I aM) (λfK s' af=>?_) λe s' af=>af
 have fin:∀{cE:St}{aq:aD}{v:V}{u:Value},Inv (mS CX P w K aZ base N qual scope f d4 A outer s H E) [] cE aq s'->RelV v u->Q v aq->xa outer P w H s Q u s' :=
  λ{cE aq v u} dI bO q=>⟨v,aq,dI.os,dI.bare,dI.base,dI.bL,bO,q⟩
 cases fK with
 |ret u =>
  obtain⟨v,cE,aq,dI,bO,q⟩:=af;exact fin dI bO q
 |next =>
  obtain⟨cE,aq,dI,q⟩:=af;exact fin (v:=V.dK) (u:=Value.none) dI rfl q
 |brk =>
  obtain⟨_,_,_,q⟩:=af;exact False.elim q
 |cont =>
  obtain⟨_,_,_,q⟩:=af;exact False.elim q
end bA
namespace bA
open PySem PySem.Spec PyProof.Rows
section
variable{X:a7}{x:Str}{p pos:Pos}{e:Expr}{ak:List Expr}{t:gr}{id T:String}{r:List V->aD->dD->Prop}
noncomputable def Jq(r:List V->aD->dD->Prop)(t:gr):TE:=λσ H Q=>t σ H λag H1=>r ag H1 Q
def Hr(ah:g0 X (.builtin id) r)(aY:eV X x)(hm:X.aZ x=none)(aN:bootBuiltins x=some (.builtin id))(aw:fQ X (e::ak) t)(aC:x≠"__name__":=by decide)(jL:(x==("__debug__":Str))=false:=by decide)(he:starEach (e::ak) X.env=(false,eval e X.env)::starEach ak X.env:=by rfl)(d6:(backTo pos (starEach ak X.env)).any (·.1)=false:=by rfl):aS X (.Call (.Name x p) (e::ak) [] pos) (Jq r t):=by
 intro pins s σ H Q I h;refine acZ (kF I aY hm aN ?_ aC jL);exact aen (bK (aw pos pins s σ H _ I h) λus s1 ⟨ag,H1,a6,aG,aO⟩=>ah pins s1 σ H1 ag us Q a6 aG aO) he d6
def Hs(ah:g0 X (.type T) r)(aY:eV X x)(hm:X.aZ x=none)(aN:bootBuiltins x=some (.type T))(aw:fQ X (e::ak) t)(aC:x≠"__name__":=by decide)(jL:(x==("__debug__":Str))=false:=by decide)(he:starEach (e::ak) X.env=(false,eval e X.env)::starEach ak X.env:=by rfl)(d6:(backTo pos (starEach ak X.env)).any (·.1)=false:=by rfl):aS X (.Call (.Name x p) (e::ak) [] pos) (Jq r t):=by
 intro pins s σ H Q I h;refine acZ (kF I aY hm aN ?_ aC jL);exact aci (bK (aw pos pins s σ H _ I h) λus s1 ⟨ag,H1,a6,aG,aO⟩=>ah pins s1 σ H1 ag us Q a6 aG aO) he d6
end
end bA
namespace dn
open PySem PyProof.Rows
noncomputable def lexLt:List Int->List Int->Bool
 |[],[]=>false
 |[],_::_=>true
 |_::_,[]=>false
 |x::xs,y::ys=>if x=y then lexLt xs ys else decide (x<y)
def Td(x y:Int)(xs ys:List Int):lexLt (x::xs) (y::ys)=if x=y then lexLt xs ys else decide (x<y):=rfl
def Tg:lexLt [] []=false:=rfl
def Tf(y:Int)(ys:List Int):lexLt [] (y::ys)=true:=rfl
def Te(x:Int)(xs:List Int):lexLt (x::xs) []=false:=rfl
def N5(A:Around)(s:Shared)(a:Int)(t:Tok)(c:Int)(u:Tok):∃e,SeqAt.EqAt A s (.int a t) (.int c u) e/\(e=true<->a=c) :=
 ⟨(a==c),SeqAt.EqAt.int_int a t c u,by simp⟩
def V6(A:Around)(s:Shared)(a:Int)(t:Tok)(c:Int)(u:Tok)(prog:Program)(w:World)(E:Value->Shared->Prop)(Q:Value->Shared->Prop)(h:Q (.bool (decide (a<c))) s):
  wpAny (model prog w) A (richCompare .Lt (.int a t) (.int c u)) Q E s :=
 (PyProof.Rows.lt_int h:wpAny (model prog w) A (compareOp .Lt (.int a t) (.int c u)) Q E s)
section
open PySem.SeqAt
open PySem.AutoSeq1 (wpAny_loadPart')
open PySem.MeetsSeq PySem.MeetsSeq2 PySem.MeetsSeq3
def Zp(l b:Addr)(items h2:Array Value)(n eZ:Nat)(dd kn:Option Addr)(bM j2:Array (Option Value))(ns ms:List Int)(aj:IntsAre items.toList ns)(aI:IntsAre h2.toList ms):
  Meets (Builtin.«tuple.__lt__» ⟨[.ref l,.ref b],[]⟩)
   (λ_ R s=>s.heap.get? l=some { cls:=.type "tuple",dict:=dd,data:=.seq items n,slots:=bM }/\s.heap.get? b=some { cls:=.type "tuple",dict:=kn,data:=.seq h2 eZ,slots:=j2 } /\
    R (.ok (.ret (.bool (lexLt ns ms)))) s) :=
 .of_wp λprog w A R s h=>by
  obtain⟨aB,g,d,tk,os⟩:=s;obtain⟨aA,ae,h⟩:=h;have f2:=AutoSeq1.sub_tuple_tuple;have bY:items.size=ns.length:=(by rw[<- aj.length];simp);have bV:h2.size=ms.length:=by rw[<- aI.length];simp
  wp_walk using wpAny_loadPart' aA,wpAny_loadPart' ae,aeo _ (λrest b s'=>b.1=none/\s'=⟨aB,g,d,tk,os⟩/\∃(ag ws:List Value)(qC qx:List Int),rest=ag.zip ws /\
   IntsAre ag qC/\IntsAre ws qx/\qC.length+h2.size=qx.length+items.size/\R (.ok (.ret (.bool (lexLt qC qx)))) ⟨aB,g,d,tk,os⟩) _
  case turn =>
   rintro⟨y,x⟩ rest b s' ⟨fS,rfl,ag,ws,qC,qx,hz,Ab,vy,hlen,hR⟩;cases Ab with
   |nil=>rw[List.zip_nil_left]at hz;cases hz
   |cons a t RJ =>
    cases vy with
    |nil=>rw[List.zip_nil_right]at hz;cases hz
    |cons c u RL =>
     rw[List.zip_cons_cons]at hz;injection hz with sM kC;injection sM with aQ ai;subst aQ ai;rw[Td]at hR;simp only[List.length_cons]at hlen;obtain⟨e,he,Fo⟩:=N5 A.in1 ⟨aB,g,d,tk,os⟩ a t c u;refine abr (he prog w _ _ ?_);cases e with
     |true =>
      rw[if_pos (Fo.mp rfl)]at hR
      wp_walk
      exact⟨rfl,rfl,_,_,_,_,kC,RJ,RL,by omega,hR⟩
     |false =>
      rw[if_neg (λq=>absurd (Fo.mpr q) acB)]at hR;have Rw:=V6 A.in1 ⟨aB,g,d,tk,os⟩ a t c u prog w
      wp_walk using Rw
      exact⟨_,rfl,by simpa using hR⟩
  case fin =>
   rintro⟨b1,b2⟩ s' ⟨fS,rfl,ag,ws,qC,qx,hz,Ab,vy,hlen,hR⟩;simp only at fS;subst fS;have aN:lexLt qC qx=decide (items.size<h2.size):=by
    cases Ab with
    |nil =>
     cases vy with
     |nil =>
      simp only[List.length_nil]at hlen;rw[Tg];exact(decide_eq_false (by omega)).symm
     |cons c u hw =>
      simp only[List.length_nil,List.length_cons]at hlen;rw[Tf];exact(decide_eq_true (by omega)).symm
    |cons a t aN =>
     cases vy with
     |nil =>
      simp only[List.length_nil,List.length_cons]at hlen;rw[Te];exact(decide_eq_false (by omega)).symm
     |cons c u hw =>
      rw[List.zip_cons_cons]at hz;cases hz
   rw[aN]at hR
   wp_walk
   exact⟨_,rfl,by simpa[Builtin.Tuple.tupleCompareSizes] using hR⟩
  case h =>
   exact⟨rfl,rfl,items.toList,h2.toList,ns,ms,rfl,aj,aI,by omega,h⟩
end
section
variable{prog:Program}{w:World}{A:Around}{E:Value->Shared->Prop}{s:Shared}
def GA{l b:Addr}{items h2:Array Value}{ns ms:List Int}{Q:Value->Shared->Prop}(aA:IsTup s.heap l items)(ae:IsTup s.heap b h2)(aj:IntsAre items.toList ns)(aI:IntsAre h2.toList ms)(br:A.units<cLine)(h:Q (.bool (lexLt ns ms)) s):wpAny (model prog w) A (compareOp .Lt (.ref l) (.ref b)) Q E s:=by
 obtain⟨⟨cls,dd,data,bM⟩,az,ah,n,hd⟩:=id aA;obtain⟨⟨rN,kn,data2,j2⟩,kA,iK,eZ,hd2⟩:=id ae;simp only at ah hd iK hd2;subst ah hd iK hd2;exact richCompare_meets_room (op:=.Lt) ⟨_,az,rfl⟩ ⟨_,kA,rfl⟩ PySem.F.slot_tuple_lt PySem.F.entry_tuple_lt (PySem.F.args_tuple_lt_2 _ _) (Zp l b items h2 n eZ dd kn bM j2 ns ms aj aI)
  ⟨az,kA,show Value.bool (lexLt ns ms)≠Value.notImplemented/\Q (.bool (lexLt ns ms)) s from⟨(λx=>nomatch x),h⟩⟩ br
def L2{t b:Addr}{ag ws:List Value}{Q:Value->Shared->Prop}(aH:IsTup s.heap t ag.toArray)(ae:IsTup s.heap b ws.toArray)(aN:ag≠[])(J:ws=[]->Q (.ref t) s)(aa:ws≠[]->Q (.ref s.heap.objs.size) { s with heap:=s.heap.push { cls:=.type "tuple",data:=.seq (ag++ws).toArray } })(hsz:ag.length+ws.length<=sizeLine):wpAny (model prog w) A (binaryOp .Add (.ref t) (.ref b)) Q E s:=by
 obtain⟨⟨cls,dd,data,bM⟩,az,ah,n,hd⟩:=id aH;obtain⟨⟨rN,kn,data2,j2⟩,kA,iK,eZ,hd2⟩:=id ae;simp only at ah hd iK hd2;subst ah hd iK hd2;have e:ag.toArray++ws.toArray=(ag++ws).toArray:=by simp
 by_cases hw:ws=[]
 .exact ae8 ⟨_,az,rfl⟩ ⟨_,kA,rfl⟩ ae2 seq_tuple_add ad8 ad5 (adZ _ _)
   (tuple_addW1 t b ag.toArray ws.toArray n eZ dd kn bM j2 (by simpa using aN) (by simp[hw])) ⟨az,kA,J hw⟩
 .refine ae8 ⟨_,az,rfl⟩ ⟨_,kA,rfl⟩ ae2 seq_tuple_add ad8 ad5 (adZ _ _)
   (tuple_addW2 t b ag.toArray ws.toArray n eZ dd kn bM j2 (by simpa using aN) (by simpa using hw) (by rw[abB,abB];exact hsz)) ⟨az,kA,?_⟩
  rw[e];exact aa hw
noncomputable def bQ(n d:Nat):Option Int->Nat
 |none=>d
 |some v=>if v<0 then(v+(n:Int)).toNat else min v.toNat n
def wk(n d:Nat)(hd:d<=n)(o:Option Int):bQ n d o<=n:=by
 cases o with
 |none=>exact hd
 |some v =>
  show(if v<0 then(v+(n:Int)).toNat else min v.toNat n)<=n
  by_cases aN:v<0
  .rw[if_pos aN];omega
  .rw[if_neg aN];exact Nat.min_le_right _ _
def Dy(v:Int)(n d:Nat):(if v<0 then max (v+(n:Int)) 0 else min v (n:Int))=((bQ n d (some v):Nat):Int):=by
 show(if v<0 then max (v+(n:Int)) 0 else min v (n:Int))=(((if v<0 then(v+(n:Int)).toNat else min v.toNat n):Nat):Int)
 by_cases aN:v<0
 .simp only[if_pos aN];omega
 .simp only[if_neg aN];omega
def KO(lo aj:Option Int)(n:Nat):Builtin.Slice.sliceAdjust lo aj 1 (n:Int)=(((bQ n 0 lo:Nat):Int),((bQ n n aj:Nat):Int)):=by
 have J:¬((1:Int)<0):=by omega
 unfold Builtin.Slice.sliceAdjust;simp only[J,abS];refine Prod.ext ?_ ?_
 .cases lo with
  |none=>rfl
  |some v=>exact Dy v n 0
 .cases aj with
  |none=>rfl
  |some v=>exact Dy v n n
def Vp(i j:Nat):Builtin.Slice.slicePlaces (i:Int) (j:Int) 1=j-i:=by
 unfold Builtin.Slice.slicePlaces;have J:(1:Int)>0:=by omega
 simp only[J,acj,Int.ediv_one]
 split<;>omega
def I2{v:Value}{o:Option Int}{Q:Option Int->Shared->Prop}(p:IsPart v o)(h:Q o s):wpAny (model prog w) A (Builtin.Slice.slicePartIndex v) Q E s:=by
 cases p with
 |none=>exact slicePart_none h
 |int i t=>exact slicePart_int h
def I1{bM:Addr}{fE fF:Value}{lo aj:Option Int}{n:Nat}{Q:Int×Int×Nat->Shared->Prop}(af:s.heap.IsSliceOf bM fE fF .none)(cz:IsPart fE lo)(pu:IsPart fF aj)(h:Q (((bQ n 0 lo:Nat):Int),1,bQ n n aj-bQ n 0 lo) s):wpAny (model prog w) A (Builtin.Slice.sliceApplied (.ref bM) (pure (n:Int))) Q E s:=by
 obtain⟨os,oy,m7,kz⟩:=id af;unfold Builtin.Slice.sliceApplied Builtin.Slice.sliceFields;refine abr (abr (adD oy kz (x:=fE) rfl (abr (adD oy kz (x:=fF) rfl (abr (adD oy kz (x:=.none) rfl (abu ?_)))))));refine abr (slicePart_none ?_);show wpAny _ _ (if ((1:Int)==0)=true then _ else _) _ _ s;rw[if_neg (by decide)];refine abr (I2 cz (abr (I2 pu (abr (abu ?_)))));show wpAny _ _ (match Builtin.Slice.sliceAdjust lo aj 1 (n:Int) with|(lo,aj)=>pure (lo,(1:Int),Builtin.Slice.slicePlaces lo aj 1)) _ _ s;rw[KO lo aj n];show wpAny _ _ (pure (((bQ n 0 lo:Nat):Int),(1:Int),Builtin.Slice.slicePlaces ((bQ n 0 lo:Nat):Int) ((bQ n n aj:Nat):Int) 1)) _ _ s;rw[Vp];exact abu h
def Vn(xs:Array Value)(i k:Nat):((List.range k).filterMap λ(m:Nat)=>xs[((i:Int)+(m:Int)*1).toNat]?).toArray=((xs.toList.drop i).take k).toArray:=by
 have e:(λ(m:Nat)=>xs[((i:Int)+(m:Int)*1).toNat]?)=λm=>xs[i+m]?:=by
  funext m;have:((i:Int)+(m:Int)*1).toNat=i+m:=(by omega);rw[this]
 rw[e];have:=pick_run xs i k;rw[List.filterMap_map]at this;have ar:((λx=>xs[x]?) ∘ λx=>i+x)=λm=>xs[i+m]?:=rfl
 rw[ar]at this;rw[this]
def PY{t bM:Addr}{items:Array Value}{fE fF:Value}{lo aj:Option Int}{Q:Value->Shared->Prop}(aH:IsTup s.heap t items)(af:s.heap.IsSliceOf bM fE fF .none)(cz:IsPart fE lo)(pu:IsPart fF aj)(hw:¬(bQ items.size 0 lo=0/\bQ items.size items.size aj=items.size))(h:Q (.ref s.heap.objs.size) { s with heap:=s.heap.push { cls:=.type "tuple",data:=.seq ((items.toList.drop (bQ items.size 0 lo)).take (bQ items.size items.size aj-bQ items.size 0 lo)).toArray } })(hsz:items.size<=sizeLine):wpAny (model prog w) A (getItem (.ref t) (.ref bM)) Q E s:=by
 have vw:sizeOk (.seq ((items.toList.drop (bQ items.size 0 lo)).take (bQ items.size items.size aj-bQ items.size 0 lo)).toArray):=by
  show((items.toList.drop (bQ items.size 0 lo)).take (bQ items.size items.size aj-bQ items.size 0 lo)).toArray.size<=sizeLine;rw[abB,adj,adk,Array.length_toList];omega
 have aI:bQ items.size items.size aj<=items.size:=wk _ _ (abz _) aj;obtain⟨os,oy,m7,kz⟩:=id af;have zv:s.TypeIs (.ref bM) "slice":=⟨os,oy,m7⟩;unfold getItem
 try with_reducible refine acJ ?_
 first|refine abr (abu ?_)|skip
 refine abr (wpAny_sequenceKey aH.typeIs (by decide) ?_);refine abr (acM (name:=Str.ofString "__getitem__") aH.typeIs acm
  (acE acm aH.typeIs entry_tuple_getitem ?_ (args_tuple_getitem _ _)))
 show wpAny _ _ (Builtin.Tuple.tupleItemsOf (.ref t)>>=_) _ _ s;refine abr (tupleItemsOf_ aH ?_);refine abr (adE zv ?_);rw[if_pos (by decide)];refine abr (I1 af cz pu ?_);have iO:¬((((bQ items.size 0 lo:Nat):Int)==0&&(1:Int)==1&&(bQ items.size items.size aj-bQ items.size 0 lo)==items.size)=true):=by
  intro q;rw[abt,abt]at q;have aO:((bQ items.size 0 lo:Nat):Int)=0:=eq_of_beq q.1.1;have ba:bQ items.size items.size aj-bQ items.size 0 lo=items.size:=eq_of_beq q.2;exact hw ⟨by omega,by omega⟩
 show wpAny _ _ (if (((bQ items.size 0 lo:Nat):Int)==0&&(1:Int)==1&&(bQ items.size items.size aj-bQ items.size 0 lo)==items.size)=true then _ else _) _ _ s;rw[if_neg iO,Vn]
 first
  |exact abr (m:=Builtin.Tuple.tupleExact _) (ab7 (abu ⟨_,rfl,abu h⟩) vw)
  |exact abr (m:=Builtin.Tuple.tupleExact _) (ab7 (abr (abu (abu ⟨_,rfl,abu h⟩))) vw)
  |exact abr (abr (m:=Builtin.Tuple.tupleExact _) (ab7 (abu (abu ⟨_,rfl,abu h⟩)) vw))
  |exact abr (abr (m:=Builtin.Tuple.tupleExact _) (ab7 (abu ⟨_,rfl,abu h⟩) vw))
end
end dn
namespace bA
open PySem PySem.Spec PyProof.Rows
noncomputable abbrev pC:=St->aD->(Option Int->aD->Prop)->Prop
def kg(X:a7)(e:Option Expr)(t:pC):Prop :=
 ∀(pins:List (Addr×Obj))(s:Shared)(σ:St)(H:aD)(Q:Option Int->aD->Prop),Inv X pins σ H s->t σ H Q ->
  wpAny (model X.prog X.w) X.A (evalPart e X.env) (λu s'=>∃o aq,Inv X pins σ aq s'/\IsPart u o/\Q o aq) X.cq s
noncomputable def Yv:pC:=λ_ H Q=>Q none H
noncomputable def Yy(t:TE):pC:=λσ H Q=>t σ H λx H1=>∃i,x=.int i/\Q (some i) H1
def intsAre_of{ns:List Int}:∀{us:List Value},Vals (ns.map V.int) us->IntsAre us ns:=by
 induction ns with
 |nil=>intro us r;rw[adF]at r;cases r;exact .nil
 |cons n ns aE =>
  intro us r;rw[List.map_cons]at r;cases r with
  |cons aG aV =>
   obtain⟨t,e⟩:=aG;subst e;exact .cons n t (aE aV)
section
variable{X:a7}{e:Expr}{eT:TE}{lo aj:Option Expr}{iz wM:pC}{pos p2:Pos}
def Vr:kg X none Yv:=by
 intro pins s σ H Q I h;rw[evalPart_none];exact abu ⟨none,H,I,.none,h⟩
def Vs(h:aS X e eT):kg X (some e) (Yy eT):=by
 intro pins s σ H Q I hw;rw[evalPart_some];refine bK (h pins s σ H _ I hw) λu s1 ⟨x,H1,a6,aG,aO⟩=>?_
 obtain⟨i,rfl,q⟩:=aO;obtain⟨t,rfl⟩:=aG;exact⟨some i,H1,a6,.int i t,q⟩
def rq(X:a7)(r:V->Option Int->Option Int->aD->dD->Prop):Prop :=
 ∀(pins:List (Addr×Obj))(s:Shared)(σ:St)(H:aD)(x:V)(v fE fF:Value)(lo aj:Option Int)(bM:Addr)(Q:dD),Inv X pins σ H s->RelV x v->s.heap.IsSliceOf bM fE fF .none->IsPart fE lo->IsPart fF aj->r x lo aj H Q ->
  ∃T id,typeLookup (.type T) "__getitem__"=pure (some (.builtin id))/\s.TypeIs v T/\wpAny (model X.prog X.w) X.A (getItem v (.ref bM)) (eU X pins σ Q) X.cq s
noncomputable def YB(r:V->Option Int->Option Int->aD->dD->Prop)(eT:TE)(iz wM:pC):TE:=λσ H Q=>eT σ H λx H1=>iz σ H1 λl aX=>wM σ aX λu bq=>r x l u bq Q
def U6{r:V->Option Int->Option Int->aD->dD->Prop}(a4:rq X r)(he:aS X e eT)(aA:kg X lo iz)(br:kg X aj wM):aS X (.Subscript e (.Slice lo aj none p2) pos) (YB r eT iz wM):=by
 intro pins s σ H Q I h;refine Subscript_ (bK (he pins s σ H _ I h) λv s1 ⟨x,H1,a6,aG,aO⟩=>?_);refine wpAny_Slice (bK (aA pins s1 σ H1 _ a6 aO) λfE s2 ⟨l,aX,cx,cz,ba⟩=>bK (br pins s2 σ aX _ cx ba) λfF s3 ⟨u,bq,ef,pu,b6⟩=>?_);rw[evalPart_none];refine abu ?_;have fI:Inv X pins σ bq { s3 with heap:=s3.heap.push { cls:=.type "slice",data:=.fields #[fE,fF,.none] } }:=ef.kept (t':=s3.toks) λb b5 q=>abv _ q
 obtain⟨T,id,cK,aH,aY⟩:=a4 pins { s3 with heap:=s3.heap.push { cls:=.type "slice",data:=.fields #[fE,fF,.none] } } σ bq x v fE fF l u s3.heap.objs.size Q fI aG (Heap.IsSliceOf.new ..) cz pu b6;show wpAny (model X.prog X.w) X.A (subscriptTail e (.Slice lo aj none p2) v (.ref s3.heap.objs.size)) (eU X pins σ Q) X.cq { s3 with heap:=s3.heap.push { cls:=.type "slice",data:=.fields #[fE,fF,.none] } };exact tail_any (ops:=[.ref s3.heap.objs.size,v]) aH cK aY (by with_unfolding_all rfl)
noncomputable def lB(xs:List V)(lo aj:Option Int):List V:=(xs.drop (dn.bQ xs.length 0 lo)).take (dn.bQ xs.length xs.length aj-dn.bQ xs.length 0 lo)
def DJ(xs:List V)(lo aj:Option Int):(lB xs lo aj).length<=xs.length:=by
 unfold lB;rw[adj,adk];omega
noncomputable def V0(K:W.Frag):V->Option Int->Option Int->aD->dD->Prop:=λx lo aj H Q=>∃a xs,x=.ref a/\fl K H a xs /\
 ¬(dn.bQ xs.length 0 lo=0/\dn.bQ xs.length xs.length aj=xs.length)/\∀p,H p=none->Q (.ref p) (upd H p (.tup (lB xs lo aj)))
def XM:rq X (V0 X.K):=by
 intro pins s σ H x v fE fF lo aj bM Q I bg af cz pu h;obtain⟨a,xs,rfl,ai,hw,q⟩:=h;cases bg;obtain⟨its,r,aH,hz⟩:=I.tuple ai;have hlen:its.toArray.size=xs.length:=by rw[abB];exact r.length.symm
 refine⟨"tuple",_,acm.lookup,aH.typeIs,?_⟩;refine dn.PY aH af cz pu (by rw[hlen];exact hw) ?_ (by rw[hlen];exact hz);rw[hlen];refine⟨.ref s.heap.objs.size,_,I.laid (t':=s.toks) (o:=.tup (lB xs lo aj)) (λb b5 q=>abv _ q) (abz _) ?_,rfl,q _ (I.bL.fresh (abz _))⟩;exact⟨acx (DJ xs lo aj) hz,_,(r.drop (dn.bQ xs.length 0 lo)).take (dn.bQ xs.length xs.length aj-dn.bQ xs.length 0 lo),IsTup.new _ _⟩
noncomputable def VW(K:W.Frag):f5:=λx y H Q=>∃a b ns ms,x=.ref a/\y=.ref b/\fl K H a (ns.map V.int)/\fl K H b (ms.map V.int)/\Q (.aU (dn.lexLt ns ms)) H
def UC(br:X.A.units<cLine):dt X (compareOp .Lt) (VW X.K):=by
 intro pins s σ H x y v u Q I bg bT h;obtain⟨a,b,ns,ms,rfl,rfl,aw,ae,q⟩:=h;cases bg;cases bT;obtain⟨its,aG,p1,_⟩:=I.tuple aw;obtain⟨hb,aV,p2,_⟩:=I.tuple ae;have d9:IntsAre its.toArray.toList ns:=intsAre_of aG;have fz:IntsAre hb.toArray.toList ms:=intsAre_of aV;exact dn.GA p1 p2 d9 fz br ⟨.aU (dn.lexLt ns ms),H,I,rfl,q⟩
end
end bA
namespace bA
open PySem PySem.Spec PyProof.Rows
noncomputable def hG(n:Nat)(i:Int):Option Nat:=if 0<=i then(if i<n then some i.toNat else none) else if -(n:Int)<=i then some (i+n).toNat else none
def n3{α:Type}(xs:List α)(i:Int):Option α:=(hG xs.length i).bind λj=>xs[j]?
def F4{n:Nat}{i:Int}{j:Nat}(h:hG n i=some j):seqIndex? i n=some j/\j<n/\-(n:Int)<=i/\i<n:=by
 unfold hG at h
 by_cases h0:0<=i
 .rw[if_pos h0]at h
  by_cases J:i<n
  .rw[if_pos J]at h;have e:i.toNat=j:=ab5 h;exact⟨by rw[seqIndex_of h0 J,e],by omega,by omega,J⟩
  .rw[if_neg J]at h;cases h
 .rw[if_neg h0]at h
  by_cases J:-(n:Int)<=i
  .rw[if_pos J]at h;have e:(i+n).toNat=j:=ab5 h;exact⟨by rw[seqIndex_neg (by omega) J,e],by omega,J,by omega⟩
  .rw[if_neg J]at h;cases h
def xE{α:Type}{xs:List α}{i:Int}{v:α}(h:n3 xs i=some v):∃j,seqIndex? i xs.length=some j/\xs[j]?=some v/\j<xs.length/\-(xs.length:Int)<=i/\i<xs.length:=by
 unfold n3 at h;cases e:hG xs.length i with
 |none=>rw[e]at h;cases h
 |some j =>
  rw[e]at h;obtain⟨J,aa,aJ,aW⟩:=F4 e;exact⟨j,J,h,aa,aJ,aW⟩
def xr(b:Expr):Prop:=∀o i,subscripted b false o i=operate [o,i] (getItem o i)
def lg(X:a7)(r:f5):Prop :=
 ∀(value slice:Expr)(pins:List (Addr×Obj))(s:Shared)(σ:St)(H:aD)(x y:V)(v u:Value)(Q:dD),Inv X pins σ H s->RelV x v->RelV y u->r x y H Q ->
  subscripted slice false v u=operate [v,u] (getItem v u)->wpAny (model X.prog X.w) X.A (subscriptTail value slice v u) (eU X pins σ Q) X.cq s
def CE(X:a7)(id:String)(r:V->List V->aD->dD->Prop):Prop :=
 ∀(pins:List (Addr×Obj))(s:Shared)(σ:St)(H:aD)(x:V)(xs:List V)(v:Value)(us:List Value)(Q:dD),Inv X pins σ H s->RelV x v->Vals xs us->r x xs H Q ->
  wpAny (model X.prog X.w) X.A (call (.builtin id) (v::us)) (eU X pins σ Q) X.cq s
section
variable{X:a7}{a b:Expr}{cR da:TE}{pos:Pos}
def lg.or{r bX:f5}(h:lg X r)(h':lg X bX):lg X (λx y H Q=>r x y H Q\/bX x y H Q):=by
 intro value slice pins s σ H x y v u Q I bg bT q af;rcases q with q|q
 .exact h value slice pins s σ H x y v u Q I bg bT q af
 .exact h' value slice pins s σ H x y v u Q I bg bT q af
def U2{r:f5}(a4:lg X r)(aw:aS X a cR)(ae:aS X b da)(af:xr b):aS X (.Subscript a b pos) (t4 r cR da):=by
 intro pins s σ H Q I h;exact Subscript_ (yk aw ae I h λv u s2 x y aX cx bg bT q=>a4 a b pins s2 σ aX x y v u Q cx bg bT q (af _ _))
noncomputable def HL(K:W.Frag):f5:=λx y H Q=>∃p xs i v,x=.ref p/\y=.int i/\ej K H p xs/\n3 xs i=some v/\Q v H
noncomputable def HN(K:W.Frag):f5:=λx y H Q=>∃p xs i v,x=.ref p/\y=.int i/\fl K H p xs/\n3 xs i=some v/\Q v H
noncomputable def HM:f5:=λx y H Q=>∃z i c,x=.str z/\y=.int i/\z.length<=sizeLine/\n3 z.cps.toList i=some c/\Q (.str ⟨#[c]⟩) H
def Sn:lg X (HL X.K):=by
 intro value slice pins s σ H x y v u Q I bg bT h af;obtain⟨p,xs,i,z,rfl,rfl,aM,he,q⟩:=h;cases bg;obtain⟨t,rfl⟩:=bT;obtain⟨its,r,cz,hz⟩:=I.list aM;obtain⟨j,J,aa,aJ,aW,cb⟩:=xE he;obtain⟨w,u3,iV⟩:=r.get aa;have aA:=r.length;have aC:=s9;have fin:eU X pins σ Q w s:=⟨z,H,I,iV,q⟩
 by_cases h0:0<=i
 .have aI:i.toNat=j:=by
   rw[seqIndex_of h0 cb]at J;exact ab5 J
  exact item_listR cz.isList h0 (by omega) (by rw[aI];simpa using u3) fin af
 .have aI:(i+(its.toArray.size:Int)).toNat=j:=by
   rw[seqIndex_neg (by omega) aW]at J;rw[abB,<- aA];exact ab5 J
  exact subscriptTail_builtinR (x:=w) cz.isList.typeIs slot_list_getitem.lookup
   (wpAny_getItem_list_neg (Q:=λr s'=>r=w/\eU X pins σ Q r s') cz.isList (by omega) (by rw[abB]<;>omega) (by omega) (by rw[aI];simpa using u3) ⟨rfl,fin⟩) af
def Sr:lg X (HN X.K):=by
 intro value slice pins s σ H x y v u Q I bg bT h af;obtain⟨p,xs,i,z,rfl,rfl,aM,he,q⟩:=h;cases bg;obtain⟨t,rfl⟩:=bT;obtain⟨its,r,cz,hz⟩:=I.tuple aM;obtain⟨j,J,aa,aJ,aW,cb⟩:=xE he;obtain⟨w,u3,iV⟩:=r.get aa;have aA:=r.length;have aC:=s9;have fin:eU X pins σ Q w s:=⟨z,H,I,iV,q⟩;exact subscriptTail_builtinR (x:=w) cz.typeIs slot_tuple_getitem.lookup
  (getItem_tuple (j:=j) (Q:=λr s'=>r=w/\eU X pins σ Q r s') cz (by omega) (by omega) (by rw[abB,<- aA];exact J) (by simpa using u3) ⟨rfl,fin⟩) af
def Sq:lg X HM:=by
 intro value slice pins s σ H x y v u Q I bg bT h af;obtain⟨z,i,c,rfl,rfl,hz,he,q⟩:=h;obtain⟨t,rfl⟩:=bg;obtain⟨t',rfl⟩:=bT;obtain⟨j,J,aa,aJ,aW,cb⟩:=xE he;have aA:z.cps.toList.length=z.length:=by simp[Str.length]
 rw[aA]at J aW cb;have aC:=s9;exact tail_any (typeIs_str s z t) slot_str_getitem.lookup (getItem_str (c:=c) (by
  have e1:decide (i < -(2 ^ 63:Int))=false:=decide_eq_false (by omega);have ar:decide (i>=2 ^ 63)=false:=decide_eq_false (by omega);rw[e1,ar,Bool.or_false]) (by rw[J];simpa using aa) ⟨.str ⟨#[c]⟩,H,I.tok _,⟨_,rfl⟩,q⟩) af
noncomputable def VV(K:W.Frag):f5:=λx y H Q=>HL K x y H Q\/HN K x y H Q\/HM x y H Q
def Sp:lg X (VV X.K):=Sn.or (Sr.or Sq)
def Tv(its:List Value)(n j:Nat)(u:Value):Obj.mapSeq (·.setIfInBounds j u) { cls:=.type "list",data:=.seq its.toArray n }={ cls:=.type "list",data:=.seq (its.set j u).toArray n }:=by
 simp[Obj.mapSeq]
theorem Inv.lst{pins:List (Addr×Obj)}{σ:St}{H:aD}{s:Shared}{p:Addr}{xs:List V}(I:Inv X pins σ H s)(h:H p=some (.lst xs)):
  ∃(its:List Value)(n:Nat),Vals xs its/\s.heap.get? p=some { cls:=.type "list",data:=.seq its.toArray n }/\xs.length<=sizeLine:=by
 obtain⟨z,its,n,r,e⟩:=I.bL p _ h;exact⟨its,n,r,e,z⟩
def Inv.Tt{pins:List (Addr×Obj)}{σ:St}{H:aD}{s:Shared}{p:Addr}{xs ys:List V}{its its':List Value}{n cv:Nat}{f:Obj->Obj}(I:Inv X pins σ H s)(h:H p=some (.lst xs))(az:s.heap.get? p=some { cls:=.type "list",data:=.seq its.toArray n })(hf:f { cls:=.type "list",data:=.seq its.toArray n }={ cls:=.type "list",data:=.seq its'.toArray cv })(r:Vals ys its')(hz:ys.length<=sizeLine)(t:Nat):
  Inv X pins σ (upd H p (.lst ys)) { s with heap:=s.heap.update p f,toks:=t }:=by
 have e:(s.heap.update p f).get? p=some { cls:=.type "list",data:=.seq its'.toArray cv }:=by
  rw[ab2 f az (by rw[hf]<;>rfl),hf]
 refine I.write (x:=p) (e:=p) (by rw[h];trivial) (.inl rfl) (λb u ae q=>(abV _ _ (acy ae)).trans q) ⟨_,e⟩ ?_;exact⟨hz,its',cv,r,e⟩
noncomputable def VX:V->V->V->aD->(aD->Prop)->Prop:=λo i v H Q=>∃p xs k j,o=.ref p/\i=.int k/\H p=some (.lst xs)/\hG xs.length k=some j/\Q (upd H p (.lst (xs.set j v)))
def set_list:KH X VX:=by
 intro pins s σ H o i v oV lS u Q I Ws Bs bO h;obtain⟨p,xs,k,j,rfl,rfl,aB,aI,q⟩:=h;cases Ws;obtain⟨t,rfl⟩:=Bs;obtain⟨its,n,r,az,hz⟩:=I.lst aB;obtain⟨J,aa,aJ,aW⟩:=F4 aI;have aA:=r.length;have aC:=s9;have ee:Inv X pins σ (upd H p (.lst (xs.set j v))) { s with heap:=s.heap.update p (Obj.mapSeq (·.setIfInBounds j u)) } :=
  I.Tt aB az (Tv its n j u) (r.set bO j) (by rw[ade];exact hz) s.toks
 by_cases h0:0<=k
 .have ay:k.toNat=j:=by
   rw[seqIndex_of h0 aW]at J;exact ab5 J
  exact PySem.W.ki_setAt az h0 (by omega) (by rw[abB,<- aA];exact aW) (by rw[ay];exact⟨_,ee,q⟩)
 .have ay:(k+(its.toArray.size:Int)).toNat=j:=by
   rw[seqIndex_neg (by omega) aJ]at J;rw[abB,<- aA];exact ab5 J
  exact PySem.W.ki_setBack az (by omega) (by rw[abB,<- aA];exact aJ) (by omega) (by rw[ay];exact⟨_,ee,q⟩)
def XO(lo aj:Option Int)(n:Nat):(sliceBounds lo aj none n).1=((dn.bQ n 0 lo:Nat):Int)/\(sliceBounds lo aj none n).2.1=((dn.bQ n n aj:Nat):Int)/\(sliceBounds lo aj none n).2.2=1:=by
 refine⟨?_,?_,rfl⟩
 .cases lo with
  |none=>simp[sliceBounds,dn.bQ]
  |some i =>
   simp only[sliceBounds,dn.bQ,Option.getD_none,show(1:Int)>0 by decide,acj]
   by_cases h:i<0
   .simp only[h,acj]<;>omega
   .simp only[h,abS]<;>omega
 .cases aj with
  |none=>simp[sliceBounds,dn.bQ]
  |some i =>
   simp only[sliceBounds,dn.bQ,Option.getD_none,show(1:Int)>0 by decide,acj]
   by_cases h:i<0
   .simp only[h,acj]<;>omega
   .simp only[h,abS]<;>omega
def XN(its:List Value)(lo aj:Option Int):slicePick its.toArray lo aj none=((its.drop (dn.bQ its.length 0 lo)).take (dn.bQ its.length its.length aj-dn.bQ its.length 0 lo)).toArray:=by
 obtain⟨J,aa,aJ⟩:=XO lo aj its.toArray.size;unfold slicePick;rw[J,aa,aJ];simp only[sliceRange_one,pick_run,abB]<;>rfl
noncomputable def VZ(K:W.Frag):V->Option Int->Option Int->aD->dD->Prop:=λx lo aj H Q=>∃a xs,x=.ref a/\ej K H a xs/\∀p,H p=none->Q (.ref p) (upd H p (.lst (lB xs lo aj)))
def XJ:rq X (VZ X.K):=by
 intro pins s σ H x v fE fF lo aj bM Q I bg af cz pu h;obtain⟨a,xs,rfl,ai,q⟩:=h;cases bg;obtain⟨its,r,aH,hz⟩:=I.list ai;have hlen:=r.length;refine⟨"list",_,slot_list_getitem.lookup,aH.isList.typeIs,?_⟩;refine wpAny_getItem_list_slice aH.isList af cz pu .none (by simp) ?_ (by rw[abB]<;>omega);rw[XN,<- hlen];refine⟨.ref s.heap.objs.size,_,I.laid (t':=s.toks) (o:=.lst (lB xs lo aj)) (λb b5 q=>abv _ q) (abz _) ?_,rfl,q _ (I.bL.fresh (abz _))⟩;exact⟨acx (DJ xs lo aj) hz,_,0,(r.drop (dn.bQ xs.length 0 lo)).take (dn.bQ xs.length xs.length aj-dn.bQ xs.length 0 lo),abD _ rfl⟩
noncomputable def Ob:V->V->Bool
 |.dK,.dK=>true
 |.aU a,.aU b=>a==b
 |.aU a,.int b=>(if a then 1 else 0)==b
 |.int a,.aU b=>a==(if b then 1 else 0)
 |.int a,.int b=>a==b
 |.str a,.str b=>a==b
 |_,_=>false
noncomputable def vD(x:V)(xs:List V):Bool:=xs.any λy=>Ob y x
def Dg:g0 X (.builtin "len") (λxs H Q=>∃p ys,xs=[.ref p]/\(ej X.K H p ys\/fl X.K H p ys)/\Q (.int ys.length) H):=by
 intro pins s σ H xs us Q I r h;obtain⟨p,ys,rfl,aM,q⟩:=h;obtain⟨u,rfl,bg⟩:=vals1 r;cases bg;have aC:=s9;rcases aM with aM|aM
 .obtain⟨its,bX,cz,hz⟩:=I.list aM;have hlen:=bX.length;exact Calls.call_len_list cz.isList (by simp only[abB]<;>omega) ⟨.int ys.length,H,I.tok _,⟨s.toks+1,by rw[abB,hlen]⟩,q⟩
 .obtain⟨its,bX,cz,hz⟩:=I.tuple aM;have hlen:=bX.length;exact len_tuple cz (by simp only[abB]<;>omega) ⟨.int ys.length,H,I.tok _,⟨s.toks+1,by rw[abB,hlen]⟩,q⟩
def Dh:g0 X (.type "list") (λxs H Q=>∃p ys,xs=[.ref p]/\(ej X.K H p ys\/fl X.K H p ys)/\∀l,H l=none->Q (.ref l) (upd H l (.lst ys))):=by
 intro pins s σ H xs us Q I r h;obtain⟨p,ys,rfl,aM,q⟩:=h;obtain⟨u,rfl,bg⟩:=vals1 r;cases bg;have fin:∀(its:List Value),Vals ys its->ys.length<=sizeLine->∀(h':Heap)(de:Nat),(∀b bt,s.heap.get? b=some bt->h'.get? b=some bt) ->
   h'.get? s.heap.objs.size=some { cls:=.type "list",dict:=none,data:=.seq its.toArray de,slots:=#[] }->eU X pins σ Q (.ref s.heap.objs.size) { s with heap:=h' }:=λits bX hz h' de gB e =>
  ⟨.ref s.heap.objs.size,_,I.laid (t':=s.toks) gB (abz _) (show d7 X.prog X.w _ h' _ (.lst ys) from⟨hz,its,de,bX,e⟩),rfl,q _ (I.bL.fresh (abz _))⟩
 rcases aM with aM|aM
 .obtain⟨its,bX,cz,hz⟩:=I.list aM;have hlen:=bX.length;obtain⟨o,az,ah,n,hd⟩:=cz.isList;exact call_list_seq p (.inl rfl) az ah hd (λh' de gB e=>fin its bX hz h' de gB e) (by simp only[abB]<;>omega)
 .obtain⟨its,bX,cz,hz⟩:=I.tuple aM;have hlen:=bX.length;obtain⟨o,az,ah,n,hd⟩:=cz;exact call_list_seq p (.inr rfl) az ah hd (λh' de gB e=>fin its bX hz h' de gB e) (by simp only[abB]<;>omega)
def Dj:g0 X (.type "tuple") (λxs H Q=>∃p ys,xs=[.ref p]/\((ej X.K H p ys/\∀l,H l=none->Q (.ref l) (upd H l (.tup ys)))\/(fl X.K H p ys/\Q (.ref p) H))):=by
 intro pins s σ H xs us Q I r h;obtain⟨p,ys,rfl,h⟩:=h;obtain⟨u,rfl,bg⟩:=vals1 r;cases bg;rcases h with⟨aM,q⟩|⟨aM,q⟩
 .obtain⟨its,bX,cz,hz⟩:=I.list aM;have hlen:=bX.length;refine call_tuple_list cz.isList (λh' gB=>?_) (by simp only[abB]<;>omega);have a6:Inv X pins σ H { s with heap:=h' }:=I.kept (t':=s.toks) gB;have cx:Inv X pins σ (upd H h'.objs.size (.tup ys)) { s with heap:=h'.push { cls:=.type "tuple",data:=.seq its.toArray } } :=
   a6.laid (t':=s.toks) (λb o e=>abv _ e) (abz _) (show d7 X.prog X.w _ _ _ (.tup ys) from⟨hz,its,bX,IsTup.new _ _⟩)
  exact⟨.ref h'.objs.size,_,cx,rfl,q _ (a6.bL.fresh (abz _))⟩
 .obtain⟨its,bX,cz,hz⟩:=I.tuple aM;exact call_tuple_same cz ⟨.ref p,H,I,rfl,q⟩
def B9(K:W.Frag)(T:String)(x:V)(H:aD):Prop:=match x with
 |.str _=>T="str"
 |.int _=>T="int"
 |.ref p=>(T="list"/\∃xs,ej K H p xs)\/(T="tuple"/\∃o,K.lookup p=some o/\o.cls=.type "tuple"/\o.dict=none) \/
   (T="dict"/\((∃ax,H p=some (.dY ax))\/∃ax,H p=some (.ey ax)))\/(T="set"/\∃S n,H p=some (.set S n))
 |_=>False
def JS{pins:List (Addr×Obj)}{σ:St}{H:aD}{s:Shared}{T:String}{x:V}{v:Value}(I:Inv X pins σ H s)(r:RelV x v)(ty:B9 X.K T x H):
  s.TypeIs v T/\∀a,v=.ref a->∃b5,s.heap.get? a=some b5/\b5.dict=none:=by
 cases x with
 |str z =>
  obtain⟨t,rfl⟩:=r;cases (show T="str" from ty);exact⟨typeIs_str s z t,λ_ e=>nomatch e⟩
 |int i =>
  obtain⟨t,rfl⟩:=r;cases (show T="int" from ty);exact⟨typeIs_int s i t,λ_ e=>nomatch e⟩
 |ref p =>
  cases r;rcases ty with⟨rfl,xs,aM⟩|⟨rfl,o,ay,ah,hd⟩|⟨rfl,ay⟩|⟨rfl,S,n,ay⟩
  .obtain⟨its,_,cz,_⟩:=I.list aM;refine⟨cz.isList.typeIs,λa e=>?_⟩;cases e;obtain⟨o,n,e,c,hd,_⟩:=cz;exact⟨o,e,hd⟩
  .refine⟨⟨o,I.oH p o ay,ah⟩,λa e=>?_⟩;cases e;exact⟨o,I.oH _ o ay,hd⟩
  .have z:∃o,s.heap.get? p=some o/\o.ExactDict:=by
    rcases ay with⟨ax,ay⟩|⟨ax,ay⟩
    .obtain⟨_,_,_,_,o,_,_,e,ex,_⟩:=I.bL p _ ay;exact⟨o,e,ex⟩
    .obtain⟨_,_,_,_,o,_,_,e,ex,_⟩:=I.bL p _ ay;exact⟨o,e,ex⟩
   obtain⟨o,e,ex⟩:=z;refine⟨⟨o,e,ex.1⟩,λa ar=>?_⟩;cases ar;exact⟨o,e,ex.2.1⟩
  .obtain⟨o,_,_,_,e,ex,_⟩:=I.bL p _ ay;refine⟨⟨o,e,ex.1⟩,λa ar=>?_⟩;cases ar;exact⟨o,e,ex.2.1⟩
 |_=>exact False.elim ty
noncomputable def Jp(K:W.Frag)(T:String)(r:V->List V->aD->dD->Prop)(to:TE):TE:=λσ H Q=>to σ H λx H1=>B9 K T x H1/\r x [] H1 Q
noncomputable def Yl(K:W.Frag)(T:String)(r:V->List V->aD->dD->Prop)(to:TE)(t:gr):TE:=λσ H Q=>to σ H λx H1=>B9 K T x H1/\t σ H1 λxs aX=>r x xs aX Q
variable{o e:Expr}{ak:List Expr}{to:TE}{t:gr}{name:Str}{apos fm:Pos}{T id:String}{r:V->List V->aD->dD->Prop}
def US(v5:PlainAttrs T)(slot:Slot T name id)(jO:typeOf (.builtin id)=pure (.type "method_descriptor"))(hm:CE X id r)(az:aS X o to)(sk:attributeBase o name X.env (eval o X.env)=eval o X.env:=by rfl)(jM:(apos.endLine==fm.line)=true:=by rfl):aS X (.Call (.Attribute o name apos) [] [] fm) (Jp X.K T r to):=by
 intro pins s σ H Q I h;refine wpAny_Call_method0_late sk jM (bK (az pins s σ H _ I h) λv s1 ⟨x,H1,a6,aG,ty,aO⟩=>?_);obtain⟨J,aa⟩:=JS a6 aG ty;exact⟨T,id,v5,slot,jO,J,aa,Calls.callWith_builtin rfl (PySem.evalArgs_none (hm pins s1 σ H1 x [] v [] Q a6 aG .nil aO))⟩
def A7(v5:PlainAttrs T)(slot:Slot T name id)(jO:typeOf (.builtin id)=pure (.type "method_descriptor"))(hm:CE X id r)(az:aS X o to)(aw:fQ X (e::ak) t)(sk:attributeBase o name X.env (eval o X.env)=eval o X.env:=by rfl)(Qz:((backTo fm (starEach (e::ak) X.env)).all (λx=>!x.1)&&(backToKw fm (keywordEach [] X.env)).all (λx=>x.1.isSome)
   && decide ((e::ak).length+([]:List Keyword).length+(if ([]:List Keyword).isEmpty then 0 else 1)<30))=true:=by rfl)(jM:(apos.endLine==fm.line)=true:=by rfl)(af:starEach (e::ak) X.env=(false,eval e X.env)::starEach ak X.env:=by rfl)(Rq:(backTo fm (starEach ak X.env)).any (·.1)=false:=by rfl):
  aS X (.Call (.Attribute o name apos) (e::ak) [] fm) (Yl X.K T r to t):=by
 intro pins s σ H Q I h;refine wpAny_Call_method_late sk Qz jM rfl (bK (az pins s σ H _ I h) λv s1 ⟨x,H1,a6,aG,ty,aO⟩=>?_);obtain⟨J,aa⟩:=JS a6 aG ty;refine⟨T,id,v5,slot,jO,J,aa,?_⟩;have gR:=aw fm pins s1 σ H1 _ a6 aO;rw[af]at gR ⊢;refine Calls.callWith_builtin (by show(false||(backTo fm (starEach ak X.env)).any (·.1))=false;rw[Rq]<;>rfl) (Calls.evalArgs_plain ?_);exact bK gR λus s2 ⟨ag,aX,cx,aV,ba⟩=>hm pins s2 σ aX x ag v us Q cx aG aV ba
end
end bA
namespace bA
open PySem PySem.Spec PyProof.Rows
def uo(X:a7)(id:String)(r:V->List V->aD->dD->Prop):Prop :=
 ∀(pins:List (Addr×Obj))(s:Shared)(σ:St)(H:aD)(x:V)(xs:List V)(v:Value)(us:List Value)(Q:dD),Inv X pins σ H s->RelV x v->Vals xs us->r x xs H Q ->
  wpAny (model X.prog X.w) X.A (call (.builtin id) (v::us)) (eU X pins σ Q) X.cq s
def Vals.one:∀{x:V}{us:List Value},Vals [x] us->∃u,us=[u]/\RelV x u
 |_,_,.cons r .nil=>⟨_,rfl,r⟩
def Vals.zero:∀{us:List Value},Vals [] us->us=[]
 |_,.nil=>rfl
theorem Vals.dropLast{xs:List V}{us:List Value}(h:Vals xs us):Vals xs.dropLast us.dropLast:=by
 induction h with
 |nil=>exact .nil
 |cons r t aE =>
  cases t with
  |nil=>exact .nil
  |cons q t'=>exact .cons r aE
def Oe{α:Type}(l:List α):l.eraseIdx (l.length-1)=l.dropLast:=by
 induction l with
 |nil=>rfl
 |cons a r aE =>
  cases r with
  |nil=>rfl
  |cons b r =>
   have e:(a::b::r).length-1=((b::r).length-1)+1:=by
    have J:(a::b::r).length=r.length+2:=rfl;have aa:(b::r).length=r.length+1:=rfl;omega
   rw[e,List.eraseIdx_cons_succ,aE]
   all_goals rfl
section
variable{X:a7}{pins:List (Addr×Obj)}{σ:St}{H:aD}{s:Shared}{l b:Addr}{xs ys zs:List V}
def Inv.AE{its its':List Value}{n:Nat}{f:Array Value->Array Value}{t':Nat}(I:Inv X pins σ H s)(eP:H l=some (.lst xs))(e:s.heap.get? l=some { cls:=.type "list",data:=.seq its.toArray n })(hf:f its.toArray=its'.toArray)(aN:Vals ys its')(hz:ys.length<=sizeLine):
  Inv X pins σ (upd H l (.lst ys)) { s with heap:=s.heap.update l (Obj.mapSeq f),toks:=t' }:=by
 have q:=PySem.IsL.update e f;rw[hf]at q;refine I.write (x:=l) (e:=l) (by rw[eP];exact trivial) (.inl rfl) (λg5 u ae br=>(abV s.heap (Obj.mapSeq f) (acy ae)).trans br) ⟨_,q⟩ ?_;exact⟨hz,its',_,aN,q⟩
def Inv.Gv{its:List Value}{t':Nat}(I:Inv X pins σ H s)(aN:Vals ys its)(hz:ys.length<=sizeLine):
  Inv X pins σ (upd H s.heap.objs.size (.lst ys)) { s with heap:=s.heap.push { cls:=.type "list",data:=.seq its.toArray },toks:=t' } :=
 I.laid (λ_ _ q=>abv _ q) (abz _) ⟨hz,its,0,aN,abD _ rfl⟩
theorem Inv.fresh(I:Inv X pins σ H s):H s.heap.objs.size=none:=I.bL.fresh (abz _)
def Inv.AF(I:Inv X pins σ H s)(eP:H l=some (.lst xs)):xs.length<=sizeLine/\∃(its:List Value)(n:Nat),Vals xs its/\xs.length=its.length/\s.heap.get? l=some { cls:=.type "list",data:=.seq its.toArray n }:=by
 obtain⟨z,its,n,r,e⟩:=I.bL l _ eP;exact⟨z,its,n,r,r.length,e⟩
def Uc{n:Nat}(h:n<=sizeLine):Builtin.List.listTooLong n=false:=by
 unfold Builtin.List.listTooLong;exact decide_eq_false (by omega)
end
section
variable{X:a7}
noncomputable def VT:V->List V->aD->dD->Prop:=λx ag H Q=>∃l xs y,x=.ref l/\ag=[y]/\H l=some (.lst xs)/\xs.length<sizeLine/\Q .dK (upd H l (.lst (xs++[y])))
def GV:uo X "list.append" VT:=by
 intro pins s σ H x ag v us Q I bg bO h;obtain⟨l,xs,y,rfl,rfl,eP,hz,q⟩:=h;cases bg;obtain⟨u,rfl,cC⟩:=bO.one;obtain⟨z,its,n,r,aA,e⟩:=I.AF eP;refine call_meets F.slot_list_append ⟨_,e,rfl⟩ F.entry_list_append (F.args_list_append_2 _ _) (PySem.list_append l its.toArray n u (by rw[abB];omega)) ⟨e,?_⟩;refine⟨.dK,_,I.AE (its':=its++[u]) eP e (by simp) (r.append (.cons cC .nil)) ?_,rfl,q⟩;rw[abw,List.length_singleton];omega
noncomputable def HO:V->List V->aD->dD->Prop:=λx ag H Q=>∃l xs y,x=.ref l/\ag=[]/\H l=some (.lst xs)/\xs[xs.length-1]?=some y/\Q y (upd H l (.lst xs.dropLast))
def TX:uo X "list.pop" HO:=by
 intro pins s σ H x ag v us Q I bg bO h;obtain⟨l,xs,y,rfl,rfl,eP,aQ,q⟩:=h;cases bg;have RI:=bO.zero;subst RI;obtain⟨z,its,n,r,aA,e⟩:=I.AF eP;obtain⟨u,br,cC⟩:=r.get aQ;have RO:its.toArray[its.toArray.size-1]?=some u:=by
  show its.toArray[its.length-1]?=some u;rw[<- aca,<- aA];exact br
 refine call_meets F.slot_list_pop ⟨_,e,rfl⟩ F.entry_list_pop (F.args_list_pop_1 _) (MeetsSeq.list_pop_last l its.toArray n u RO (by rw[abB];omega)) ⟨e,?_⟩;refine⟨y,_,I.AE (its':=its.dropLast) eP e ?_ r.dropLast ?_,cC,q⟩
 .show its.toArray.eraseIdxIfInBounds (its.toArray.size-1)=its.dropLast.toArray;rw[abB,List.eraseIdxIfInBounds_toArray,Oe]
 .rw[List.length_dropLast];omega
end
section
variable{prog:Program}{w:World}{A:Around}{E:Value->Shared->Prop}{s:Shared}
end
section
variable{X:a7}
end
end bA
namespace Cx
open PySem PySem.W PySem.Calls PyProof.Rows
def R9{P:Params}{h:Heap}:∀(ns:List Int)(ag:List Value),WellAll P h ag (ns.map WData.int)->IntsAre ag ns:=by
 intro ns
 induction ns with
 |nil =>
  intro ag w;rw[adF]at w;cases w;exact .nil
 |cons n ns aE =>
  intro ag w;rw[List.map_cons]at w;cases w with
  |cons a b =>
   cases a;exact .cons _ _ (aE _ b)
def Xr{l:OpenLaw}{n:Nat}(aC:l.most=some n){P:Params}{h:Heap}{args:List WData}{vals:List Value}(vu:l.row.toRowW.claim.pre args=true)(sJ:WellAll P h vals args):
  ∃a ag ns,vals=[Value.ref a]/\args=[WData.list (ns.map WData.int)]/\h.get? a=some { cls:=.type "list",data:=.seq ag.toArray }/\IntsAre ag ns/\ns.length<=n:=by
 have lQ:WShape.hasAll [] args [.list .int]=true:=(pre_splitW vu).1;have ah:l.pre.holds [] { args:=args }=true:=(pre_splitW vu).2;obtain⟨d,r,rfl,J,aa⟩:=hasAllW_cons lQ;obtain rfl:=hasAllW_nil aa;obtain⟨xs,rfl,aJ⟩:=hasW_list J;obtain⟨ns,rfl⟩:=items_int aJ;have hlen:ns.length<=n:=by
  unfold OpenLaw.pre at ah;have aW:(WTm.not (.lt (.lit (.int (n:Int))) (.len (.arg 0)))).holds [] { args:=[.list (ns.map .int)] }=true:=by
   have aW:=(holds_andW ah).1;rw[aC]at aW;exact aW
  have cb:=condW_of aW (w_not (w_lt w_lit (w_len_list (w_arg rfl))));rw[List.length_map]at cb;refine adQ λq=>?_
  have cN:(n:Int)<((ns.length:Nat):Int):=by omega
  first
   |(rw[decide_eq_true cN]at cb;exact absurd cb (by decide))
   |(simp at cb;omega)
 cases sJ with
 |cons iZ j7 =>
  cases j7;cases iZ with
  |list az fx=>exact⟨_,_,ns,rfl,rfl,az,R9 ns _ fx,hlen⟩
def Vt(l:OpenLaw)(args:List WData):l.row.toRowW.claim.post args (.bool true) args=true :=
 postW_of (r:=l.row.toRowW) (X:=(true==true))
  (show WShape.has [] (.bool true) .bool=true by first|rfl|decide|simp[WShape.has,WShape.arms,WShape.armsAll])
  (show(WTm.eq .res (.lit (.bool true))).value [] { args:=args,res:=some (.bool true),after:=args }=some (.bool (true==true)) from w_eq_bool (w_res rfl) w_lit) rfl
def Lq{l:OpenLaw}{n:Nat}{q:Program}{loose:List Str}{dA:(Str->Option Value)->Heap->Prop}{nY:World->Heap->Prop}{d:DefRec}(aC:l.most=some n)(sq:d.params.defaults=[])(call:∀(w:World)(eS cX:Shared)(aZ jf:Str->Option Value)(bh:Addr)(o:Obj)(pm cd doc:Value)(a:Addr)(ag:List Value)(ns:List Int),
   Ground q loose [] dA w eS aZ jf cX.heap->nY w cX.heap ->
   cX.heap.get? bh=some o->o.data=.func (docDef d.name d.params d.body d.scope pm cd doc)->cX.heap.CodeRec cd d.name->aZ d.name=some (.ref bh) ->
   cX.heap.get? a=some { cls:=.type "list",data:=.seq ag.toArray }->IntsAre ag ns->ns.length<=n->cX.gens=#[] ->
   codeAny (model l.prog w) callerA (.call (.ref bh) ⟨[.ref a],[]⟩) (λr s'=>r=.ok (.ret (.bool true))/\OldK cX.heap s'.heap/\s'.os=cX.os/\AllBare s'.gens) cX):
  WalkO q loose dA nY l.row.toRowW d [] (λf ag=>PySem.call f ag):=by
 intro w eS cX aZ jf G Y bh o pm cd doc uP dq az hd lL eG sy aY args vals as vu Fw aaH sJ Fx;obtain rfl:uP=.none:=Dflts.none eG sq;obtain rfl:dq=.none:=Dflts.noKw eG;obtain⟨a,ag,ns,rfl,rfl,z0,hints,hlen⟩:=Xr aC vu sJ;refine enter_call (aeH (call w eS cX aZ jf bh o pm cd doc a ag ns G Y az (fd_plain hd) lL sy z0 hints hlen aY) λr s' aM=>?_);obtain⟨rfl,aa,aJ,aW⟩:=aM;exact⟨.inl ⟨.bool true,.bool true,[],rfl,λ_=>rfl,.bool true,Vt l _,λ_=>⟨List.Pairwise.nil,λ_ hm=>(nomatch hm)⟩⟩,aa,aJ,aW⟩
section
variable{prog:Program}{w:World}{A:Around}{E:Value->Shared->Prop}{s:Shared}{K:Frag}
end
end Cx
namespace bA
open PySem PySem.Spec PyProof.Rows
theorem J9:∀{ag:List Value}{ns:List Int},IntsAre ag ns->Vals (ns.map V.int) ag
 |_,_,.nil=>.nil
 |_,_,.cons n t h=>.cons ⟨t,rfl⟩ (J9 h)
def xo(H:aD):Prop:=∀b,H b=none\/∃o xs,H b=some (.eh o (.lst xs))
def SX{P:Program}{w:World}{K:W.Frag}{aZ jf:Str->Option Value}{CX:jv}{k:Nat}{bh a:Addr}{fd:FuncData}{x:Str}{sp:mC}{cX:Shared}{ag:List Value}{ns:List Int}(iD:K.In cX.heap)(qc:cX.heap.Ns mainGlobals aZ)(ae:cX.heap.Ns builtinsNs jf)(il:∀x:Str,x≠"__name__"->jf x=bootBuiltins x)(QX:cX.heap.NoLimit)(aY:cX.gens=#[])(aw:cX.heap.get? a=some { cls:=.type "list",data:=.seq ag.toArray })(aj:IntsAre ag ns)(aA:ns.length<=sizeLine)(a4:f6 k callerA)(F:∀base:Heap,K.In base->base.Ns mainGlobals aZ->kc P w K aZ base CX k bh fd [x] sp)(zA:∀(s:Shared)(u:Value),BindsTo s fd ⟨[u],[]⟩ [(x,u)])(qh:∀H:aD,xo H->ej K H a (ns.map V.int)->sp [.ref a] H (λv _=>v=.aU true) λ_ _ _=>False)(zm:∀H e s',CX [] H cX (λ_ _ _=>False) e s'->False):
  codeAny (model P w) callerA (.call (.ref bh) ⟨[.ref a],[]⟩) (λr s'=>r=.ok (.ret (.bool true))/\OldK cX.heap s'.heap/\s'.os=cX.os/\AllBare s'.gens) cX:=by
 have bO:=J9 aj;have S6:=aj.length;have core:∀H:aD,xo H->ej K H a (ns.map V.int)->ed P w H cX.heap->(∀b,H b≠none->b=a)->(H a≠none->K.lookup a=none) ->
   codeAny (model P w) callerA (.call (.ref bh) ⟨[.ref a],[]⟩) (λr s'=>r=.ok (.ret (.bool true))/\OldK cX.heap s'.heap/\s'.os=cX.os/\AllBare s'.gens) cX:=by
  intro H e8 bb bL gR g9;have C3:∀{b:Addr}{o:Obj},cX.heap.get? b=some o->H b=none->(lN cX.heap H).get? b=some o:=λe n=>QH e n
  have tl:∀{b:Addr}{o:Obj}{ak:Array DictEntry}{a8:Nat},cX.heap.get? b=some o->o.data=.dict ak a8->H b=none:=λ{b o ak a8} e d=>by
   cases q:H b with
   |none=>rfl
   |some u =>
    have bk:b=a:=gR b (by rw[q];simp);subst bk;rw[aw]at e;cases e;have d':Data.seq ag.toArray _=Data.dict ak a8:=d;cases d'
  have vT:∀{b:Addr}{m:Str->Option Value},cX.heap.Ns b m->(lN cX.heap H).Ns b m:=λ{b m} ⟨o,ak,a8,e,d,r⟩=>⟨o,ak,a8,C3 e (tl e d),d,r⟩;have E3:K.In (lN cX.heap H):=λb o e=>C3 (iD b o e) (by
   cases q:H b with
   |none=>rfl
   |some u =>
    have bk:b=a:=gR b (by rw[q];simp);subst bk;rw[g9 (by rw[q];simp)]at e;cases e)
  have fo:Mod K aZ (lN cX.heap H):=⟨E3,vT qc,⟨jf,vT ae,il⟩,let ⟨TB,J,aa⟩:=QX;⟨TB,vT J,aa⟩⟩;have e0:ug P w K aZ (lN cX.heap H) callerA [] cX H:=⟨rfl,fo,λb o e=>Us e,afm (QI _ _),trivial,λb ae=>absurd (show b∈([]:List Addr) from ae) (by simp),bL,.of_eq aY⟩;refine aeH ((F _ E3 (vT qc)).run callerA [] cX H ⟨[.ref a],[]⟩ [.ref a] [.ref a] _ _ a4 e0 (zA cX (.ref a)) (.cons rfl .nil) (qh H e8 bb)) λr s' h=>?_
  cases r with
  |error e=>exact(zm H e s' h).elim
  |ok fK =>
   cases fK with
   |next=>exact False.elim h
   |brk=>exact False.elim h
   |cont=>exact False.elim h
   |ret u =>
    obtain⟨v,aq,os,bare,un,z1,bX,q⟩:=h;have cN:v=.aU true:=q;subst cN;obtain rfl:u=Value.bool true:=bX;refine⟨rfl,OldK.of_keep λb o e=>?_,os,bare⟩;cases q:H b with
    |none=>exact un.keep b o e q (by intro z;exact absurd (show b∈([]:List Addr) from z) (by simp)) (by simp)
    |some u =>
     rcases e8 b with z|⟨b5,xs,z⟩
     .rw[q]at z;cases z
     .have bV:=un.iH b b5 _ z;obtain⟨e1,_⟩:=bL b _ z;obtain⟨ar,_⟩:=z1 b _ bV;rw[e]at e1;cases e1;exact ar
 cases ay:K.lookup a with
 |some o =>
  have e:=iD a o ay;rw[aw]at e;cases e;refine core (λ_=>none) (λ_=>.inl rfl) (.inr ⟨_,ag.toArray,_,ay,rfl,rfl,rfl,by rw[abB,S6];exact aA,by simpa using bO⟩) (λb u z=>by have h8:(none:Option e4)=some u:=z;cases h8) (λb z=>absurd rfl z) λz=>absurd rfl z
 |none =>
  refine core (λb=>if b=a then some (.eh { cls:=.type "list",data:=.seq ag.toArray } (.lst (ns.map V.int))) else none) (λb=>?_) (.inl (.inr ⟨{ cls:=.type "list",data:=.seq ag.toArray },if_pos rfl⟩)) (λb u z=>?_) (λb z=>?_) λ_=>ay
  .by_cases ae:b=a
   .exact .inr ⟨_,_,if_pos ae⟩
   .exact .inl (if_neg ae)
  .by_cases ae:b=a
   .have h8:=(if_pos ae).symm.trans z;cases h8;subst ae;exact⟨aw,by rw[List.length_map];exact aA,ag,_,bO,aw⟩
   .have h8:=(if_neg ae).symm.trans z;cases h8
  .by_cases ae:b=a
   .exact ae
   .exact absurd (if_neg ae) z
end bA
namespace bA
open PySem PySem.Spec PyProof.Rows
noncomputable abbrev um{K:W.Frag}{h:Heap}(_:K.In h):W.Frag:=K
def ZN{l:PySem.W.OpenLaw}{n k:Nat}{q:Program}{loose:List Str}{dA:(Str->Option Value)->Heap->Prop}{nY:World->Heap->Prop}{d:DefRec}{K:Params->W.Frag}{CX:World->jv}{sp:World->mC}{x:Str}(aC:l.most=some n)(Q9:n<=sizeLine)(sq:d.params.defaults=[])(a4:f6 k callerA)(gx:∀(w:World)(h:Heap),nY w h->(K w.params).In h)(F:∀(w:World)(aZ:Str->Option Value)(bh:Addr)(h:Heap),(K w.params).In h->h.Ns mainGlobals aZ->aZ d.name=some (.ref bh) ->
   ∃fd:FuncData,(∀(s:Shared)(u:Value),BindsTo s fd ⟨[u],[]⟩ [(x,u)]) /\
    ∀base:Heap,(K w.params).In base->base.Ns mainGlobals aZ->kc l.prog w (K w.params) aZ base (CX w) k bh fd [x] (sp w))(qh:∀(w:World)(H:aD)(a:Addr)(ns:List Int),ns.length<=n->xo H->ej (K w.params) H a (ns.map V.int)->sp w [.ref a] H (λv _=>v=.aU true) λ_ _ _=>False)(zm:∀(w:World)(H:aD)(s:Shared)(e:Value)(s':Shared),CX w [] H s (λ_ _ _=>False) e s'->False):
  PySem.W.WalkO q loose dA nY l.row.toRowW d [] (λf ag=>PySem.call f ag):=by
 refine Cx.Lq aC sq λw eS cX aZ jf bh o pm cd doc a ag ns G Y az hd lL sy z0 hints hlen aY=>?_
 have iD:=gx w _ Y;obtain⟨fd,ae,zr⟩:=F w aZ bh _ iD G.T.g sy;exact SX iD G.T.g G.T.b G.T.builtins G.T.nolimit aY z0 hints (acx hlen Q9) a4 zr ae (λH e8 bb=>qh w H a ns hlen e8 bb) λH e s'=>zm w H cX e s'
end bA
namespace bA
open PySem PySem.Spec PyProof.Rows
noncomputable def hB(s:Stmt):Arguments:=match s with
 |.FunctionDef _ a _ _ _ _ _ _ _ _=>a
 |_=>{ posonlyargs:=[],args:=[],vararg:=none,kwonlyargs:=[],kw_defaults:=[],kwarg:=none,defaults:=[] }
noncomputable def lE(s:Stmt):List Stmt:=match s with
 |.FunctionDef _ _ b _ _ _ _ _ _ _=>b
 |_=>[]
noncomputable def hC(s:Stmt):Scope:=match s with
 |.FunctionDef _ _ _ _ _ _ sc _ _ _=>sc
 |_=>{ kind:=.function,names:=[],isGenerator:=false,isCoroutine:=false }
structure rf(K:W.Frag)(x qual:Str)(st:Stmt)(f:Addr)(fd:FuncData):Prop where
 ex:∃(fN:Value)(bu:Option Addr)(dq doc pm:Value)(an:Option Addr)(d4 ct:Value)(fO:Array (Option Value)),
  fd=W.fnOf x qual (hB st) (lE st) (hC st) .none dq doc pm an d4 ct/\K.lookup f=some ⟨fN,bu,.func fd,fO⟩/\W.codeIn K d4 qual=true
 gB:W.keepIn K (.ref f)=true
section
variable{P:Program}{w:World}{K:W.Frag}{aZ:Str->Option Value}{base:Heap}
def rf.binds{x qual:Str}{st:Stmt}{f:Addr}{fd:FuncData}{a3:List Str}(F:rf K x qual st f fd)(h:∀(dq doc pm:Value)(an:Option Addr)(d4 ct:Value)(us:List Value),us.length=a3.length->bindArgs (W.fnOf x qual (hB st) (lE st) (hC st) .none dq doc pm an d4 ct) ⟨us,[]⟩=pure (a3.zip us)):Binds K fd a3 []:=by
 obtain⟨fN,bu,dq,doc,pm,an,d4,ct,fO,rfl,lk,lL⟩:=F.ex;exact .all (h dq doc pm an d4 ct)
def EJ{x qual:Str}{st:Stmt}{f:Addr}{fN:Value}{bu an:Option Addr}{fO:Array (Option Value)}{dq doc pm d4 ct:Value}(l:K.lookup f=some ⟨fN,bu,.func (W.fnOf x qual (hB st) (lE st) (hC st) .none dq doc pm an d4 ct),fO⟩)(c:W.codeIn K d4 qual=true)(k:W.keepIn K (.ref f)=true):rf K x qual st f (W.fnOf x qual (hB st) (lE st) (hC st) .none dq doc pm an d4 ct):=⟨⟨fN,bu,dq,doc,pm,an,d4,ct,fO,rfl,l,c⟩,k⟩
end
section
variable{X:a7}
end
def bE(H aq:aD):Prop:=∀b o,H b=some o->aq b=some o
def bE.refl(H:aD):bE H H:=λ_ _ h=>h
def bE.trans{H H1 aX:aD}(a:bE H H1)(b:bE H1 aX):bE H aX:=λc o h=>b c o (a c o h)
def bE.free{H aq:aD}(e:bE H aq){l:Addr}(h:aq l=Option.none):H l=Option.none:=by
 cases q:H l with
 |none=>rfl
 |some o =>
  rw[e l o q]at h;cases h
end bA
end
section
set_option Elab.async false
set_option linter.all false
set_option maxRecDepth 100000
namespace bA
open PySem PySem.Spec PyProof.Rows
section
variable{κ:Type}[DecidableEq κ]
noncomputable def iA(ax:List (κ×V))(k:κ):Option V:=(ax.find? λdf=>decide (df.1=k)).map (·.2)
noncomputable def putK(ax:List (κ×V))(k:κ)(v:V):List (κ×V) :=
 if (ax.any λdf=>decide (df.1=k))=true then ax.map (λdf=>if df.1=k then(df.1,v) else df) else ax++[(k,v)]
def Cm{p:κ×V}{r:List (κ×V)}{k:κ}(e:p.1=k):iA (p::r) k=some p.2:=by simp[iA,List.find?_cons,e]
def Ck{p:κ×V}{r:List (κ×V)}{k:κ}(e:¬p.1=k):iA (p::r) k=iA r k:=by simp[iA,List.find?_cons,e]
theorem J8(k:κ):∀ax:List (κ×V),(ax.any λdf=>decide (df.1=k))=(iA ax k).isSome
 |[]=>rfl
 |p::r=>by
  rw[List.any_cons]
  by_cases e:p.1=k
  .simp only[Cm e,decide_eq_true e,Bool.true_or,Option.isSome_some]
  .rw[Ck e,decide_eq_false e,Bool.false_or];exact J8 k r
def Aw(ax:List (κ×V))(k:κ)(v:V):(putK ax k v).length<=ax.length+1:=by
 unfold putK
 split
 .rw[List.length_map];omega
 .rw[abw,List.length_cons,List.length_nil];omega
def jA.Sb{o:Option V}{u:Option Value}(r:jA o u):o.isSome=u.isSome:=by
 cases o with
 |none=>cases u with
  |none=>rfl
  |some _=>exact(show False from r).elim
 |some _=>cases u with
  |none=>exact(show False from r).elim
  |some _=>rfl
def eW.val{ax:List (κ×V)}{ag:List (κ×Value)}(r:eW ax ag)(k:κ):jA (iA ax k) (valueAt ag k):=by
 unfold eW at r
 induction r with
 |nil=>exact True.intro
 |@cons p q a3 fC h t aE =>
  obtain⟨J,aa⟩:=h
  by_cases e:p.1=k
  .have bk:q.1=k:=J.symm.trans e;have b:valueAt (q::fC) k=some q.2:=(by simp[valueAt,List.find?_cons,bk]);rw[Cm e,b];exact aa
  .have bk:¬q.1=k:=λz=>e (J.trans z)
   have b:valueAt (q::fC) k=valueAt fC k:=(by simp[valueAt,List.find?_cons,bk]);rw[Ck e,b];exact aE
theorem eW.any{ax:List (κ×V)}{ag:List (κ×Value)}(r:eW ax ag)(k:κ):(ax.any λdf=>decide (df.1=k))=ag.any λdf=>decide (df.1=k):=by
 unfold eW at r
 induction r with
 |nil=>rfl
 |cons h t aE=>rw[List.any_cons,List.any_cons,aE,h.1]
def eW.Bq{ax:List (κ×V)}{ag:List (κ×Value)}(r:eW ax ag)(k:κ){y:V}{u:Value}(bT:RelV y u):
  eW (ax.map λdf=>if df.1=k then(df.1,y) else df) (ag.map λdf=>if df.1=k then(df.1,u) else df):=by
 unfold eW at r ⊢
 induction r with
 |nil=>exact .nil
 |@cons p q a3 fC h t aE =>
  rw[List.map_cons,List.map_cons];refine .cons ?_ aE;obtain⟨J,aa⟩:=h
  by_cases e:p.1=k
  .rw[if_pos e,if_pos (J.symm.trans e)];exact⟨J,bT⟩
  .rw[if_neg e,if_neg (λz=>e (J.trans z))];exact⟨J,aa⟩
def eW.put{ax:List (κ×V)}{ag:List (κ×Value)}(r:eW ax ag)(k:κ){y:V}{u:Value}(bT:RelV y u):eW (putK ax k y) (stored ag k u):=by
 unfold putK stored;rw[r.any k]
 by_cases e:(ag.any λdf=>decide (df.1=k))=true
 .rw[if_pos e,if_pos e];exact r.Bq k bT
 .rw[if_neg e,if_neg e];exact Paired.snoc r ⟨rfl,bT⟩
theorem eW.length{ax:List (κ×V)}{ag:List (κ×Value)}(r:eW ax ag):ax.length=ag.length:=Paired.length r
end
def vH{P:Program}{w:World}{k:Key}{u:Value}(r:RelV (dq k) u):(hJ P w).is k u=true:=by
 cases k with
 |inl i=>obtain⟨t,e⟩:=(show ∃t,u=Value.int i t from r);subst e;exact TK P w i t
 |inr x=>obtain⟨t,e⟩:=(show ∃t,u=Value.str x t from r);subst e;exact TL P w x t
theorem sV{P:Program}{w:World}:∀{au:List Key}{us:List Value},Vals (au.map dq) us->ItemsAre (hJ P w) au us
 |[],_,r=>by rw[adF]at r;cases r;exact .nil
 |k::au,_,r=>by
  rw[List.map_cons]at r;cases r with
  |cons h t=>exact .cons (vH h) (sV t)
noncomputable abbrev KT(H:aD):List (List Key×V)->List (List Key×Addr×Value)->Prop:=Paired λp q=>p.1=q.1/\H q.2.1=some (.tup (p.1.map dq))/\RelV p.2 q.2.2
def KT.val{H:aD}{ax:List (List Key×V)}{xs:List (List Key×Addr×Value)}(r:KT H ax xs)(k:List Key):jA (iA ax k) ((atKey xs k).map (·.2)):=by
 induction r with
 |nil=>exact True.intro
 |@cons p q a3 fC h t aE =>
  obtain⟨J,_,aa⟩:=h
  by_cases e:p.1=k
  .have bk:q.1=k:=J.symm.trans e;have b:atKey (q::fC) k=some q.2:=(by simp[atKey,List.find?_cons,bk]);rw[Cm e,b];exact aa
  .have bk:¬q.1=k:=λz=>e (J.trans z)
   have b:atKey (q::fC) k=atKey fC k:=(by simp[atKey,List.find?_cons,bk]);rw[Ck e,b];exact aE
def KT.Bq{H:aD}{ax:List (List Key×V)}{xs:List (List Key×Addr×Value)}(r:KT H ax xs)(k:List Key){y:V}{u:Value}(bT:RelV y u):
  KT H (ax.map λdf=>if df.1=k then(df.1,y) else df) (xs.map (putAt k u)):=by
 induction r with
 |nil=>exact .nil
 |@cons p q a3 fC h t aE =>
  rw[List.map_cons,List.map_cons];refine .cons ?_ aE;obtain⟨J,aa,aJ⟩:=h;unfold putAt
  by_cases e:p.1=k
  .rw[if_pos e,if_pos (J.symm.trans e)];exact⟨J,aa,bT⟩
  .rw[if_neg e,if_neg (λz=>e (J.trans z))];exact⟨J,aa,aJ⟩
def KT.put{H:aD}{ax:List (List Key×V)}{xs:List (List Key×Addr×Value)}(r:KT H ax xs)(k:List Key){b:Addr}{y:V}{u:Value}(ae:H b=some (.tup (k.map dq)))(bT:RelV y u):
  KT H (putK ax k y) (storedH xs k b u):=by
 have e:(ax.any λdf=>decide (df.1=k))=(atKey xs k).isSome:=by
  rw[J8,(r.val k).Sb,Option.isSome_map]
 unfold putK storedH;rw[e]
 by_cases q:(atKey xs k).isSome=true
 .rw[if_pos q,if_pos q];exact r.Bq k bT
 .rw[if_neg q,if_neg q];exact Paired.snoc r ⟨rfl,ae,bT⟩
def KT.keeps{H aq:aD}{ax:List (List Key×V)}{xs:List (List Key×Addr×Value)}(r:KT H ax xs)(aH:∀b ys,H b=some (.tup ys)->aq b=some (.tup ys)):KT aq ax xs :=
 Paired.AI r λ_ _ z=>⟨z.1,aH _ _ z.2.1,z.2.2⟩
section
variable{P:Program}{w:World}{H:aD}{h:Heap}{a:Addr}
def HT{u:e4}(ok:ed P w H h)(e:hP H a u):d7 P w H h a u:=e.ok ok
def yN{ax:List (Key×V)}(ok:ed P w H h)(e:hP H a (.dY ax)):ax.length<=sizeLine/\(a==sysModules)=false/\∃ag,eW ax ag/\h.DictOf (hJ P w) a ag :=
 show d7 P w H h a (.dY ax) from HT ok e
def DU{ax:List (Key×V)}(ok:ed P w H h)(e:H a=some (.dY ax)):ax.length<=sizeLine/\(a==sysModules)=false/\∃ag,eW ax ag/\h.DictOf (hJ P w) a ag:=yN ok (.inl e)
def Ap{au:List Key}(ok:ed P w H h)(e:H a=some (.tup (au.map dq))):(tupleKind (hJ P w)).is h au a:=by
 obtain⟨_,its,r,o,J,aa,n,aJ⟩:=(show d7 P w H h a (.tup (au.map dq)) from ok a _ e);exact⟨o,its.toArray,n,J,aa,aJ,by simpa using sV r⟩
def yO{ax:List (List Key×V)}(ok:ed P w H h)(e:hP H a (.ey ax)):ax.length<=sizeLine/\(a==sysModules)=false /\
  ∃xs,KT H ax xs/\h.DictOfH (tupleKind (hJ P w)) a xs:=by
 obtain⟨z,y,xs,r,o,ak,a8,J,aa,aJ,aW,cb⟩:=(show d7 P w H h a (.ey ax) from HT ok e);refine⟨z,y,xs,r,o,ak,a8,J,aa,aJ,aW,λx ai=>?_,cb⟩;have all:∀{l:List (List Key×V)}{m:List (List Key×Addr×Value)},KT H l m->∀x∈m,(tupleKind (hJ P w)).is h x.1 x.2.1:=by
  intro l m q
  induction q with
  |nil=>intro x ai;exact nomatch ai
  |@cons p q a3 fC aM t aE =>
   intro x ai;rcases abA.mp ai with e|ai
   .subst e;exact Ap ok (by rw[<- aM.1];exact aM.2.1)
   .exact aE x ai
 exact all r x ai
def NL{ax:List (List Key×V)}(ok:ed P w H h)(e:H a=some (.ey ax)):ax.length<=sizeLine/\(a==sysModules)=false /\
  ∃xs,KT H ax xs/\h.DictOfH (tupleKind (hJ P w)) a xs:=yO ok (.inl e)
end
def xf(H:aD)(a:Addr)(y:V)(r:Option V):Prop :=
 (∃ax k,hP H a (.dY ax)/\y=dq k/\r=iA ax k)\/∃ax k b,hP H a (.ey ax)/\y=.ref b/\H b=some (.tup (k.map dq))/\r=iA ax k
def jy(H:aD)(a:Addr)(y v:V)(aq:aD):Prop :=
 (∃ax k,H a=some (.dY ax)/\y=dq k/\ax.length<sizeLine/\aq=upd H a (.dY (putK ax k v))) \/
 ∃ax k b,H a=some (.ey ax)/\y=.ref b/\H b=some (.tup (k.map dq))/\ax.length<sizeLine/\aq=upd H a (.ey (putK ax k v))
theorem jy.k{H:aD}{a:Addr}{ax:List (Key×V)}{k:Key}{v:V}(e:H a=some (.dY ax))(aA:ax.length<sizeLine):jy H a (dq k) v (upd H a (.dY (putK ax k v))):=.inl ⟨ax,k,e,rfl,aA,rfl⟩
def jy.t{H:aD}{a b:Addr}{ax:List (List Key×V)}{k:List Key}{v:V}(e:H a=some (.ey ax))(e6:H b=some (.tup (k.map dq)))(aA:ax.length<sizeLine):
  jy H a (.ref b) v (upd H a (.ey (putK ax k v))):=.inr ⟨ax,k,b,e,rfl,e6,aA,rfl⟩
section
variable{X:a7}{pins:List (Addr×Obj)}{σ:St}{H:aD}{s:Shared}{a:Addr}{y v:V}{u r:Value}{o:Option V}{A:Around}{E:Value->Shared->Prop}
def Inv.big(I:Inv X pins σ H s):sysModules<s.heap.objs.size:=by
 have h:mainGlobals<s.heap.objs.size:=(I.mod.glob.keeps I.hv).lt;exact Nat.lt_trans (by decide) h
def Nr{Q:Value->Shared->Prop}(br:A.units+1<cLine)(I:Inv X pins σ H s)(g:xf H a y (some v))(bT:RelV y u)(h:∀f3 s',Inv X pins σ H s'->RelV v f3->Q f3 s'):
  wpAny (model X.prog X.w) A (getItem (.ref a) u) Q E s:=by
 rcases g with⟨ax,k,e,g8,l⟩|⟨ax,k,b,e,g8,e6,l⟩
 .subst g8;obtain⟨z,hd,ag,rel,dd⟩:=yN I.bL e;obtain⟨f3,hw,iV⟩:=jA.some_of (v:=v) (o:=valueAt ag k) (by rw[l];exact rel.val k);exact wpAny_getItem_of (vH bT) dd.mapOf hw (h f3 _ (I.tok _) iV)
 .subst g8;cases (show u=Value.ref b from bT);obtain⟨z,hd,xs,rel,dd⟩:=yO I.bL e;obtain⟨f3,hw,iV⟩:=jA.some_of (v:=v) (o:=(atKey xs k).map (·.2)) (by rw[l];exact rel.val k);obtain⟨p,aB,z2⟩:=Option.map_eq_some_iff.mp hw;refine wpAny_getItem_heap (tupleKind_room_in1 br) (Ap I.bL e6) dd aB ?_;rw[z2];exact h f3 _ (I.tok _) iV
def yL{h':Heap}{t':Nat}{b5:e4}(I:Inv X pins σ H s)(ao:rk (H a))(af:Heap.SameBut a s.heap h')(he:∃q,h'.get? a=some q)(new:d7 X.prog X.w (upd H a b5) h' a b5):
  Inv X pins σ (upd H a b5) { s with heap:=h',toks:=t' } :=
 I.write (x:=a) (e:=a) ao (.inl rfl) (λb q ae z=>(af.2 b ae).trans z) he new
def DT{P:Program}{w:World}{aq:aD}{h':Heap}{ax:List (Key×V)}{ag:List (Key×Value)}(z:ax.length<=sizeLine)(hd:(a==sysModules)=false)(rel:eW ax ag)(dd:h'.DictOf (hJ P w) a ag):
  d7 P w aq h' a (.dY ax):=⟨z,hd,ag,rel,dd⟩
def Nv{aq:aD}{Q:Unit->Shared->Prop}(br:A.units+1<cLine)(I:Inv X pins σ H s)(g:jy H a y v aq)(bT:RelV y u)(bO:RelV v r)(h:∀s',Inv X pins σ aq s'->Q () s'):
  wpAny (model X.prog X.w) A (setItem (.ref a) u r) Q E s:=by
 rcases g with⟨ax,k,e,g8,l,rX⟩|⟨ax,k,b,e,g8,e6,l,rX⟩
 .subst g8 rX;obtain⟨z,hd,ag,rel,dd⟩:=DU I.bL e;have hz:ag.length<=sizeLine:=(by rw[<- rel.length];exact z);have aA:(putK ax k v).length<=sizeLine:=(by have:=Aw ax k v;omega);refine wpAny_setItem_pairs (hsz:=hz) (vH bT) dd λh' mT af=>h _ ?_
  have he:∃q,h'.get? a=some q:=let ⟨q,_,_,aM,_⟩:=mT;⟨q,aM⟩
  exact yL I (by rw[e];exact True.intro) af he (DT aA hd (rel.put k bO) mT)
 .subst g8 rX;cases (show u=Value.ref b from bT);obtain⟨z,hd,xs,rel,dd⟩:=NL I.bL e;have hz:xs.length<=sizeLine:=(by rw[<- Paired.length rel];exact z);have aA:(putK ax k v).length<=sizeLine:=(by have:=Aw ax k v;omega);refine wpAny_setItem_heap (hsz:=hz) (tupleKind_room_in1 br) (Ap I.bL e6) dd λh' mT af=>h _ ?_
  obtain⟨q,ak,a8,aM,aa,aJ,aW,_,cb⟩:=mT;refine yL I (by rw[e];exact True.intro) af ⟨q,aM⟩ ⟨aA,hd,_,(rel.put k e6 bO).keeps λc ys hU=>?_,q,ak,a8,aM,aa,aJ,aW,cb⟩;rw[dc (T2 hU e (λz=>nomatch z))];exact hU
end
section
variable{X:a7}{pins:List (Addr×Obj)}{σ:St}{H:aD}{s:Shared}{a:Addr}{ax:List (Key×V)}{k:Key}{u:Value}{A:Around}{E:Value->Shared->Prop}
end
def CH(i:Expr):Prop:=∀oV lS,subscripted i false oV lS=operate [oV,lS] (getItem oV lS)
def Ye{prog:Program}{w:World}{A:Around}{E:Value->Shared->Prop}{s:Shared}{env:Env}{value slice:Expr}{pos:Pos}{T id:String}{Q:Value->Shared->Prop}(aA:typeLookup (.type T) "__getitem__"=pure (some (.builtin id)))(af:CH slice)(h:wpAny (model prog w) A (eval value env) (λo cX=>wpAny (model prog w) A (eval slice env) (λi gm=>gm.TypeIs o T/\wpAny (model prog w) A (getItem o i) Q E gm) E cX) E s):
  wpAny (model prog w) A (eval (.Subscript value slice pos) env) Q E s:=by
 refine Subscript_ (acg h (λo cX hF=>acg hF (λi gm sN=>?_) λ_ _ x=>x) λ_ _ x=>x);obtain⟨cK,sN⟩:=sN;unfold subscriptTail;refine abr ?_;rw[getitemInPython_of_ne cK.not_modules];refine abr (afb cK aA ?_);have fin:wpAny (model prog w) A (subscripted slice false o i) (λr qW=>wpAny (model prog w) A (letTemporaryGo value o r>>=λ_=>pure r) Q E qW) E gm:=by
  rw[af o i];exact wpAny_operating (acg sN (λr qW vA=>abr (wpAny_letTemporaryGo (abu vA))) λ_ _ x=>x)
 first
  |exact abu (abr fin)
  |exact abr (abu (abr fin))
  |exact abr fin
def NB{X:a7}{pins:List (Addr×Obj)}{σ:St}{H:aD}{s:Shared}{a:Addr}{y:V}{o:Option V}(I:Inv X pins σ H s)(g:xf H a y o):s.TypeIs (.ref a) "dict":=by
 rcases g with⟨ax,k,e,_,_⟩|⟨ax,k,b,e,_,_,_⟩
 .obtain⟨_,_,ag,_,dd⟩:=yN I.bL e;exact dd.typeIs
 .obtain⟨_,_,xs,_,dd⟩:=yO I.bL e;exact dd.typeIs
noncomputable def BX(mj ty:TE):TE:=λσ H Q=>mj σ H λx H1=>ty σ H1 λy aX=>∃a v,x=.ref a/\xf aX a y (some v)/\Q v aX
noncomputable def WD(mj ty kZ:TE):f7:=λD σ H=>kZ σ H λv H1=>mj σ H1 λx aX=>ty σ aX λy bq=>∃a fi,x=.ref a/\jy bq a y v fi/\D.bJ σ fi
section
variable{X:a7}{o i e value:Expr}{pos pos' Zn:Pos}{mj ty kZ:TE}
def UX(br:X.A.units+1<cLine)(az:aS X o mj)(aj:aS X i ty)(af:CH i):aS X (.Subscript o i pos) (BX mj ty):=by
 intro pins s σ H Q I h;refine Ye PySem.F.slot_dict_getitem.lookup af (bK (az pins s σ H _ I h) λu s1 ⟨x,H1,a6,bg,aO⟩=>bK (aj pins s1 σ H1 _ a6 aO) λlS s2 ⟨y,aX,cx,bT,a,v,ex,g,ba⟩=>?_);subst ex;obtain rfl:u=Value.ref a:=bg;exact⟨NB cx g,Nr br cx g bT λf3 s3 ef iV=>⟨v,aX,ef,iV,ba⟩⟩
def VC(br:X.A.units+1<cLine)(az:aS X o mj)(aj:aS X i ty)(aN:aS X value kZ)(af:swapsWith value (some (.Subscript o i pos')) pos.line X.env=pure false):
  dz X (.Assign [.Subscript o i pos'] value pos) (WD mj ty kZ):=by
 intro pins s σ H D I h;refine wpAny_Assign_Subscript (bK (aN pins s σ H _ I h) λr s1 ⟨v,H1,a6,bO,aO⟩=>bK (az pins s1 σ H1 _ a6 aO) λu s2 ⟨x,aX,cx,bg,ba⟩=>bK (aj pins s2 σ aX _ cx ba) λlS s3 ⟨y,bq,ef,bT,a,fi,ex,g,b6⟩=>?_) af;subst ex;obtain rfl:u=Value.ref a:=bg;exact Nv br ef g bT bO λs4 fI=>⟨σ,fi,fI,b6⟩
end
def DR{P:Program}{w:World}{H:aD}(h:Heap)(ae:sysModules<h.objs.size):d7 P w H (h.push { cls:=.type "dict",data:=.dict #[] }) h.objs.size (.dY []) :=
 ⟨abZ _,acb.mpr (acy (abP ae)),[],.nil,Heap.DictOf.new h⟩
def NK{P:Program}{w:World}{H:aD}(h:Heap)(ae:sysModules<h.objs.size):d7 P w H (h.push { cls:=.type "dict",data:=.dict #[] }) h.objs.size (.ey []) :=
 ⟨abZ _,acb.mpr (acy (abP ae)),[],.nil,_,#[],0,abD _ rfl,⟨rfl,rfl,rfl⟩,rfl,rfl,adA⟩
noncomputable def Yn:TE:=λ_ H Q=>∀p,H p=none->Q (.ref p) (upd H p (.dY []))
noncomputable def Yo:TE:=λ_ H Q=>∀p,H p=none->Q (.ref p) (upd H p (.ey []))
section
variable{X:a7}{pos:Pos}
def Ht:aS X (.Dict [] [] pos) Yn:=λpins s σ H Q I h =>
 wpAny_Dict_empty ⟨.ref s.heap.objs.size,_,I.laid (a:=s.heap.objs.size) (o:=.dY []) (t':=s.toks) (λ_ _ q=>abv _ q) (abz _) (DR s.heap I.big),rfl,h _ (I.bL.fresh (abz _))⟩
def UZ:aS X (.Dict [] [] pos) Yo:=λpins s σ H Q I h =>
 wpAny_Dict_empty ⟨.ref s.heap.objs.size,_,I.laid (a:=s.heap.objs.size) (o:=.ey []) (t':=s.toks) (λ_ _ q=>abv _ q) (abz _) (NK s.heap I.big),rfl,h _ (I.bL.fresh (abz _))⟩
end
noncomputable def BZ:List (TE×TE)->St->aD->(List (V×V)->aD->Prop)->Prop
 |[],_,H,Q=>Q [] H
 |(tk,kZ)::r,σ,H,Q=>tk σ H λx H1=>kZ σ H1 λy aX=>BZ r σ aX λa3 bq=>Q ((x,y)::a3) bq
noncomputable abbrev CK:List (V×V)->List (Value×Value)->Prop:=Paired λp q=>RelV p.1 q.1/\RelV p.2 q.2
def ur(X:a7)(pos:Pos)(keys:List (Option Expr))(values:List Expr)(ml:List (TE×TE)):Prop :=
 ∀(pins:List (Addr×Obj))(s:Shared)(σ:St)(H:aD)(Q:List (V×V)->aD->Prop),Inv X pins σ H s->BZ ml σ H Q ->
  wpAny (model X.prog X.w) X.A (evalPairs (pairTrees keys values X.env pos)) (λag s'=>∃a3 aq,Inv X pins σ aq s'/\CK a3 ag/\Q a3 aq) X.cq s
def Vv{X:a7}{pos:Pos}:ur X pos [] [] []:=λpins s σ H Q I h=>pairTrees_nil_walk ⟨[],H,I,.nil,h⟩
def Vu{X:a7}{pos:Pos}{k v:Expr}{au:List (Option Expr)}{ag:List Expr}{tk kZ:TE}{ml:List (TE×TE)}(ay:aS X k tk)(aN:aS X v kZ)(a4:ur X pos au ag ml):
  ur X pos (some k::au) (v::ag) ((tk,kZ)::ml):=λpins s σ H Q I h =>
 pairTrees_cons_walk (bK (ay pins s σ H _ I h) λu s1 ⟨x,H1,a6,bg,aO⟩=>bK (aN pins s1 σ H1 _ a6 aO) λj7 s2 ⟨y,aX,cx,bT,ba⟩ =>
  bK (a4 pins s2 σ aX _ cx ba) λws s3 ⟨a3,bq,ef,rel,b6⟩=>⟨(x,y)::a3,bq,ef,.cons ⟨bg,bT⟩ rel,b6⟩)
noncomputable def qw(ax more:List (Key×V)):List (Key×V):=more.foldl (λacc df=>putK acc df.1 df.2) ax
def eW.merge:∀{more:List (Key×V)}{rs:List (Key×Value)}{ax:List (Key×V)}{ag:List (Key×Value)},eW more rs->eW ax ag->eW (qw ax more) (merged ag rs):=by
 intro more rs ax ag r;unfold eW at r
 induction r generalizing ax ag with
 |nil=>intro q;exact q
 |@cons p q a3 fC h t aE =>
  intro fP;have e:eW (putK ax p.1 p.2) (stored ag q.1 q.2):=by
   have:=fP.put p.1 h.2;rw[<- h.1];exact this
  exact aE e
theorem Gg:∀(more ax:List (Key×V)),(qw ax more).length<=ax.length+more.length
 |[],ax=>by show ax.length<=ax.length+0;omega
 |p::r,ax=>by
  have J:=Gg r (putK ax p.1 p.2);have aa:=Aw ax p.1 p.2;show(qw (putK ax p.1 p.2) r).length<=_;rw[List.length_cons];omega
theorem Dk{P:Program}{w:World}:∀{ax:List (Key×V)}{ws:List (Value×Value)},CK (ax.map λdf=>(dq df.1,df.2)) ws->∃rs,Carries (hJ P w) ws rs/\eW ax rs
 |[],_,r=>by rw[adF]at r;cases r;exact⟨[],True.intro,.nil⟩
 |p::ax,_,r=>by
  rw[List.map_cons]at r;cases r with
  |@cons a b as bs h t =>
   obtain⟨rs,c,q⟩:=Dk (P:=P) (w:=w) t;obtain⟨b1,b2⟩:=b;exact⟨(p.1,b2)::rs,⟨vH h.1,rfl,c⟩,.cons ⟨rfl,h.2⟩ q⟩
noncomputable def Yp(ml:List (TE×TE)):TE:=λσ H Q=>∀p,H p=none->BZ ml σ (upd H p (.dY [])) λa3 aX=>aX p=some (.dY [])/\∃ax:List (Key×V),a3=ax.map (λdf=>(dq df.1,df.2))/\ax.length<=15/\Q (.ref p) (upd aX p (.dY (qw [] ax)))
def UY{X:a7}{pos:Pos}{keys:List (Option Expr)}{values:List Expr}{ml:List (TE×TE)}(h:ur X pos keys values ml)(fx:keys.all (·.isSome)=true)(aA:keys.length=values.length)(h0:keys≠[])(P8:keys.length<=15):aS X (.Dict keys values pos) (Yp ml):=by
 intro pins s σ H Q I q;have aC:=I.bL.fresh (abz s.heap.objs.size);have a6:=I.laid (a:=s.heap.objs.size) (o:=.dY []) (h':=s.heap.push { cls:=.type "dict",data:=.dict #[] }) (t':=s.toks) (λ_ _ q=>abv _ q) (abz _) (DR s.heap I.big);refine wpAny_Dict_walk (knd:=hJ X.prog X.w) fx aA h0 P8 (bK (h pins _ σ _ _ a6 (q _ aC)) λws s2 ⟨a3,aX,cx,rel,e,ax,a8,lk,ba⟩=>?_);subst a8;obtain⟨rs,c,ck⟩:=Dk (P:=X.prog) (w:=X.w) rel;obtain⟨z,hd,abo,fP,dd⟩:=DU cx.bL e;cases fP;refine⟨rs,c,dd,λh' mT af=>⟨.ref s.heap.objs.size,_,?_,rfl,ba⟩⟩;have hz:(qw [] ax).length<=sizeLine:=by
  have J:=Gg ax [];rw[List.length_nil]at J;rw[sizeLine_eq];omega
 have he:∃q,h'.get? s.heap.objs.size=some q:=let ⟨q,_,_,aM,_⟩:=mT;⟨q,aM⟩
 exact yL cx (by rw[e];exact True.intro) af he (DT hz hd (ck.merge .nil) mT)
structure Z9(X:a7)(o:Expr)(m:Str)(apos:Pos)(e:Expr)(fm:Pos):Prop where
 base:attributeBase o m X.env (eval o X.env)=eval o X.env
 Ew:((backTo fm (starEach [e] X.env)).all (λx=>!x.1)&&(backToKw fm (keywordEach [] X.env)).all (λx=>x.1.isSome)
  && decide (([e]:List Expr).length+([]:List Keyword).length+(if ([]:List Keyword).isEmpty then 0 else 1)<30))=true
 line:(apos.endLine==fm.line)=true
 trees:backTo fm (starEach [e] X.env)=[(false,eval e X.env)]
structure M2(X:a7)(o:Expr)(m:Str)(apos:Pos)(e f:Expr)(fm:Pos):Prop where
 base:attributeBase o m X.env (eval o X.env)=eval o X.env
 Ew:((backTo fm (starEach [e,f] X.env)).all (λx=>!x.1)&&(backToKw fm (keywordEach [] X.env)).all (λx=>x.1.isSome)
  && decide (([e,f]:List Expr).length+([]:List Keyword).length+(if ([]:List Keyword).isEmpty then 0 else 1)<30))=true
 line:(apos.endLine==fm.line)=true
 trees:backTo fm (starEach [e,f] X.env)=[(false,eval e X.env),(false,eval f X.env)]
section
variable{X:a7}{pins:List (Addr×Obj)}{σ:St}{H:aD}{s:Shared}{a:Addr}{y d:V}{u r:Value}{o:Option V}{A:Around}{E:Value->Shared->Prop}
end
section
variable{X:a7}{o e f:Expr}{apos fm:Pos}{mj ty abk:TE}
end
section
variable{X:a7}{pins:List (Addr×Obj)}{σ:St}{H:aD}{s:Shared}{a:Addr}{ax:List (Key×V)}{A:Around}{E:Value->Shared->Prop}
end
section
variable{X:a7}{pins:List (Addr×Obj)}{σ:St}{H:aD}{s:Shared}{a:Addr}{y:V}{u:Value}{A:Around}{E:Value->Shared->Prop}
end
end bA
end
set_option autoImplicit true
set_option linter.all false
set_option maxRecDepth 100000
set_option maxHeartbeats 8000000
local macro_rules|`(tactic|lia)=>`(tactic|first | decide | assumption | exact Nat.le_trans (by assumption) (by decide) | exact Nat.lt_succ_of_le (by assumption) | exact Nat.le_of_succ_le_succ (by assumption) | exact Nat.le_succ_of_le (by assumption) | exact Nat.le_of_lt (by assumption) | exact Nat.not_le.mp (by assumption) | exact Nat.not_lt.mp (by assumption) | exact Int.le_trans (by assumption) (by decide)|lia -verbose)
local macro_rules|`(⋯)=>`(by lia)
local macro_rules|`(∅)=>`(by decide)
section
namespace ζ
open PySem
inductive R(α:Type) where
 |ok (a:α)
 |exc (c:Nat)
 |bad
def R.bind{α β:Type}:R α->(α->R β)->R β
 |.ok a,f=>f a
 |.exc c,_=>.exc c
 |.bad,_=>.bad
noncomputable instance:Monad R where
 pure:=R.ok
 bind:=R.bind
def a9{α:Type}{a b:α}(h:a=b):a=b:=h
@[simp] theorem R.jk {α β:Type} (a) (f:α->R β):(R.ok a>>=f)=f a:=a9 rfl
@[simp] theorem R.OV {α β:Type} (c) (f:α->R β):(R.exc c>>=f)=R.exc c:=a9 rfl
@[simp] theorem R.aai {α β:Type} (f:α->R β):(R.bad>>=f)=R.bad:=a9 rfl
@[simp] theorem R.abf {α:Type} (a):(pure a:R α)=R.ok a:=rfl
inductive D where
 |dK
 |aU (b:Bool)
 |int (i:Int)
 |str (x:Str)
 |tup (xs:List D)
 |lst (xs:List D)
 |cf (ax:List (List Int×Int))
 |bN (ax:List (Int×Int×Int))
 |hD (c:Nat)
mutual
noncomputable def gb:D->D->Bool
 |.dK,.dK=>true
 |.aU a,.aU b=>a==b
 |.aU a,.int j=>(if a then 1 else 0)==j
 |.int i,.aU b=>i==(if b then 1 else 0)
 |.int i,.int j=>i==j
 |.str x,.str y=>x==y
 |.tup xs,.tup ys=>ko xs ys
 |.lst xs,.lst ys=>ko xs ys
 |_,_=>false
noncomputable def ko:List D->List D->Bool
 |[],[]=>true
 |x::xs,y::ys=>gb x y&&ko xs ys
 |_,_=>false
end
mutual
noncomputable def kK:D->D->Option Bool
 |.int i,.int j=>some (decide (i<j))
 |.tup xs,.tup ys=>kL xs ys
 |_,_=>none
noncomputable def kL:List D->List D->Option Bool
 |[],[]=>some false
 |[],_::_=>some true
 |_::_,[]=>some false
 |x::xs,y::ys=>if gb x y then kL xs ys else kK x y
end
noncomputable def fA:Nat->D->Bool
 |0,.int _=>true
 |n+1,.tup xs=>xs.all (fA n)
 |_,_=>false
noncomputable def qj(x:D):List D->List D
 |[]=>[x]
 |y::ys=>if kK y x=some true then y::qj x ys else x::y::ys
noncomputable def hj:List D->List D
 |[]=>[]
 |x::xs=>qj x (hj xs)
noncomputable def lD:List D->List D
 |[]=>[]
 |x::xs=>if xs.any (gb x) then lD xs else x::lD xs
noncomputable def qn:D->Bool
 |.tup (x::xs)=>fA 0 x&&xs.all (fA 0)
 |_=>false
noncomputable def oG:D->Bool
 |.tup (x::xs)=>qn x&&xs.all qn
 |_=>false
noncomputable def h4(xs:List D):Bool:=xs.all (fA 0)||xs.all qn
noncomputable def SZ:Nat:=16777216
noncomputable def gY:Int:=18446744073709551616
noncomputable def sorted(xs:List D):R D:=if (h4 xs||xs.all oG)&&xs.length<=63 then .ok (.lst (hj xs)) else .bad
noncomputable def eR(xs:List D):R D:=if h4 xs&&(lD xs).length<=63 then .ok (.lst (hj (lD xs))) else .bad
inductive Op where
 |add|sub|mul|fdiv|mod|and|xor
inductive mw where
 |eq|ne|lt|le|gt|mem|gj
noncomputable def n1(i j:Int):R D:=if 0<=i then(if 0<=j then .ok (.int (i.toNat &&& j.toNat:Nat)) else .ok (.int (i-(i.toNat &&& (-j-1).toNat:Nat)))) else .bad
noncomputable def ub(i j:Int):R D:=if 0<=i/\0<=j then .ok (.int (i.toNat ^^^ j.toNat:Nat)) else .bad
noncomputable def eE:Op->D->D->R D
 |.and,.int i,.int j=>n1 i j
 |.xor,.int i,.int j=>ub i j
 |.add,.int i,.int j=>.ok (.int (i+j))
 |.add,.tup xs,.tup ys=>if xs.length+ys.length<=SZ then .ok (.tup (xs++ys)) else .bad
 |.add,.lst xs,.lst ys=>if xs.length+ys.length<=SZ then .ok (.lst (xs++ys)) else .bad
 |.sub,.int i,.int j=>.ok (.int (i-j))
 |.mul,.int i,.int j=>if (-gY<i/\i<gY)\/(-gY<j/\j<gY) then .ok (.int (i*j)) else .bad
 |.fdiv,.int i,.int j=>if 0<j/\j<1073741824 then .ok (.int (i / j)) else .bad
 |.mod,.int i,.int j=>if 0<j then .ok (.int (i%j)) else .bad
 |_,_,_=>.bad
noncomputable def h7:R Bool->R Bool
 |.ok b=>.ok (!b)
 |.exc c=>.exc c
 |.bad=>.bad
noncomputable def dh:Nat->D->Bool
 |_,.dK=>true
 |_,.aU _=>true
 |_,.int _=>true
 |_,.str x=>x.cps.all (· < 0x110000)
 |n+1,.tup xs=>xs.all (dh n)
 |n+1,.lst xs=>xs.all (dh n)
 |_,_=>false
noncomputable def fw(x y:D):R Bool:=if dh 60 x&&dh 60 y then .ok (gb x y) else .bad
noncomputable def memD(x:D)(xs:List D):Bool:=xs.any λy=>gb y x
noncomputable def hg(x:D)(ys:List D):R Bool:=if dh 60 x&&ys.all (dh 60) then .ok (memD x ys) else .bad
noncomputable def AZ:Option Bool->R Bool
 |some b=>.ok b
 |none=>.bad
noncomputable def tc(x y:D):R Bool:=if (fA 0 x&&fA 0 y)||(fA 1 x&&fA 1 y) then AZ (kK x y) else .bad
noncomputable def dX:mw->D->D->R Bool
 |.eq,x,y=>fw x y
 |.ne,x,y=>h7 (fw x y)
 |.lt,x,y=>tc x y
 |.le,.int i,.int j=>.ok (decide (i<=j))
 |.gt,.int i,.int j=>.ok (decide (j<i))
 |.mem,x,.tup ys=>hg x ys
 |.mem,x,.lst ys=>hg x ys
 |.gj,x,.tup ys=>h7 (hg x ys)
 |.gj,x,.lst ys=>h7 (hg x ys)
 |_,_,_=>.bad
noncomputable def hG(n:Nat)(i:Int):Option Nat:=if 0<=i then(if i<n then some i.toNat else none) else(if 0<=i+n then some (i+n).toNat else none)
def iI{α:Type}(xs:List α)(i:Int):Option α:=(hG xs.length i).bind (xs[·]?)
noncomputable def fU:D->D->R D
 |.tup xs,.int i=>match iI xs i with|some d=>.ok d|none=>.bad
 |.lst xs,.int i=>match iI xs i with|some d=>.ok d|none=>.bad
 |_,_=>.bad
noncomputable def bQ(n d:Nat):Option Int->Nat
 |none=>d
 |some i=>if i<0 then(if i+n<0 then 0 else(i+n).toNat) else(if (n:Int)<i then n else i.toNat)
def cut{α:Type}(xs:List α)(lo aj:Option Int):List α:=(xs.drop (bQ xs.length 0 lo)).take (bQ xs.length xs.length aj-bQ xs.length 0 lo)
noncomputable def kW(d:D)(lo aj:Option Int):R D:=match d with
 |.tup xs=>.ok (.tup (cut xs lo aj))
 |.lst xs=>.ok (.lst (cut xs lo aj))
 |_=>.bad
noncomputable def lW:D->R D
 |.tup xs=>.ok (.int xs.length)
 |.lst xs=>.ok (.int xs.length)
 |_=>.bad
inductive Ty where
 |int|bool|str|tuple|cls (c:Nat)
noncomputable abbrev ki:=Nat->List Nat
noncomputable def aaP(up:ki)(d:D):Ty->R Bool
 |.int=>.ok (match d with|.int _=>true|.aU _=>true|_=>false)
 |.bool=>.ok (match d with|.aU _=>true|_=>false)
 |.str=>.ok (match d with|.str _=>true|_=>false)
 |.tuple=>.ok (match d with|.tup _=>true|_=>false)
 |.cls c=>match d with|.hD k=>.ok ((up k).contains c)|_=>.bad
noncomputable def er:D->R (List D)
 |.tup xs=>.ok xs
 |.lst xs=>.ok xs
 |_=>.bad
noncomputable def eB(lo aj:Int):List D:=(List.range (aj-lo).toNat).map λk=>.int (lo+(k:Nat))
noncomputable def o3(i:Int):Bool:=decide (-4611686018427387904<=i/\i<4611686018427387904)
noncomputable def iU(i j:Int):R (List D):=if o3 i&&o3 j&&decide ((j-i).toNat<=1000000) then .ok (eB i j) else .bad
inductive dW where
 |len|sorted|eR|sum|max|all|any
mutual
inductive E where
 |var (i:Nat)
 |lit (d:D)
 |tup (a:A)
 |lst (a:A)
 |bin (op:Op) (a b:E)
 |not (a:E)
 |neg (a:E)
 |cmp (op:mw) (a b:E)
 |and (a b:E)
 |idx (a b:E)
 |ite (c a b:E)
 |rO (op op':mw) (a b c:E)
 |slice (a:E) (lo aj:O)
 |call (f:Nat) (a:A)
 |prim (p:dW) (a:E)
 |tupI (s:I)
 |kI (s:I)
 |comp (elt:E) (k:Nat) (s:I) (c:O)
 |ig (i j:Nat)
 |kH (i j:Nat)
 |pR (i j:Nat)
 |pS
inductive A where
 |nil
 |cons (e:E) (a:A)
inductive O where
 |none
 |some (e:E)
inductive I where
 |seq (e:E)
 |ep (a:E)
 |qL (a b:E)
 |mU (i:Nat)
end
noncomputable abbrev bx:=List (Option D)
noncomputable abbrev e3:=Nat->List D->R D
noncomputable def gu:Nat->D->R (List (Option D))
 |0,d=>.ok [some d]
 |k,.tup xs=>if xs.length=k then .ok (xs.map some) else .bad
 |_,_=>.bad
noncomputable def dj(f:D->R (Option D)):List D->R (List D)
 |[]=>.ok []
 |d::ds=>f d>>=λo=>dj f ds>>=λr=>match o with|some x=>.ok (x::r)|none=>.ok r
def l5{α:Type}:R α->R α
 |.exc _=>.bad
 |r=>r
noncomputable def ie:List D->Option (List Bool)
 |[]=>some []
 |.aU b::xs=>(ie xs).map (b::·)
 |_=>none
noncomputable def mG(xs:List D):R Bool:=match ie xs with
 |some bs=>.ok (bs.all id)
 |none=>.bad
noncomputable def mH(xs:List D):R Bool:=match ie xs with
 |some bs=>.ok (bs.any id)
 |none=>.bad
noncomputable def intsOf:List D->Option (List Int)
 |[]=>some []
 |.int i::xs=>(intsOf xs).map (i::·)
 |_=>none
noncomputable def qt:D->R (List D)
 |.lst xs=>.ok xs
 |_=>.bad
noncomputable def kY(xs:List D):R D:=match intsOf xs with
 |some ns=>.ok (.int ns.sum)
 |none=>.bad
noncomputable def kN(xs:List D):R D:=match intsOf xs with
 |some (n::ns)=>.ok (.int (ns.foldl (λm x=>if x>m then x else m) n))
 |_=>.bad
noncomputable def kS(up:ki):dW->D->R D
 |.len,d=>lW d
 |.sorted,d=>er d>>=λxs=>sorted xs
 |.eR,d=>er d>>=λxs=>eR xs
 |.sum,d=>qt d>>=λxs=>kY xs
 |.max,d=>qt d>>=λxs=>kN xs
 |.all,d=>er d>>=λxs=>mG xs>>=λb=>.ok (.aU b)
 |.any,d=>er d>>=λxs=>mH xs>>=λb=>.ok (.aU b)
noncomputable def ph(ax:List (List Int×Int))(k:List Int):Option Int:=(ax.find? λp=>decide (p.1=k)).map (·.2)
noncomputable def putN(ax:List (List Int×Int))(k:List Int)(n:Int):List (List Int×Int):=if (ax.any λp=>decide (p.1=k))=true then ax.map (λp=>if p.1=k then(p.1,n) else p) else ax++[(k,n)]
noncomputable def o4(r:Int×Int):D:=.tup [.int r.1,.int r.2]
noncomputable def nN(ax:List (Int×Int×Int))(k:Int):Option (Int×Int):=(ax.find? λp=>decide (p.1=k)).map (·.2)
noncomputable def l8(ax:List (Int×Int×Int))(k:Int)(r:Int×Int):List (Int×Int×Int):=if (ax.any λp=>decide (p.1=k))=true then ax.map (λp=>if p.1=k then(p.1,r) else p) else ax++[(k,r)]
noncomputable def km:Option (Option D)->Option (List (List Int×Int))
 |some (some (.cf ax))=>some ax
 |_=>none
noncomputable def i5:Option (Option D)->Option (List (Int×Int×Int))
 |some (some (.bN ax))=>some ax
 |_=>none
noncomputable def rowOf:D->Option (Int×Int)
 |.tup ds=>(match intsOf ds with|some [a,b]=>some (a,b)|_=>none)
 |_=>none
noncomputable def intD:D->Option Int
 |.int i=>some i
 |_=>none
noncomputable def j5:D->Option (List Int)
 |.tup ds=>intsOf ds
 |_=>none
def fu{α:Type}(f:D->Option α):Option (Option D)->Option α
 |some (some d)=>f d
 |_=>none
noncomputable def lF(o p:Option (Option D)):R D:=match km o,fu j5 p with
 |some ax,some k=>(match ph ax k with|some n=>.ok (.int n)|none=>.bad)
 |_,_=>(match i5 o,fu intD p with|some ax,some k=>(match nN ax k with|some r=>.ok (o4 r)|none=>.bad)|_,_=>.bad)
noncomputable def pT(o p:Option (Option D))(d:D):R D:=match km o,fu j5 p,intD d with
 |some ax,some k,some n=>if ax.length<1000 then .ok (.cf (putN ax k n)) else .bad
 |_,_,_=>(match i5 o,fu intD p,rowOf d with|some ax,some k,some r=>if ax.length<1000 then .ok (.bN (l8 ax k r)) else .bad|_,_,_=>.bad)
noncomputable def rU(p q:Option (Option D)):R D:=match fu intD p,fu rowOf q with
 |some k,some r=>.ok (.bN [(k,r)])
 |_,_=>.bad
noncomputable def pQ(o:Option (Option D)):R (List D):=match km o with
 |some ax=>.ok (ax.map λp=>.tup (p.1.map .int))
 |none=>(match i5 o with|some ax=>.ok (ax.map λp=>.int p.1)|none=>.bad)
noncomputable def vE:D->Option (List Int)
 |.lst xs=>intsOf xs
 |_=>none
noncomputable def qr(o p:Option (Option D)):R D:=match fu vE o,fu intD p with
 |some au,some k=>if k∈au/\au.length<=1000 then .ok (.int (au.idxOf k:Nat)) else .bad
 |_,_=>.bad
noncomputable def vL:Option (Option D)->R D
 |some (some (.lst ds))=>.ok (.lst ds)
 |_=>.bad
noncomputable def rT:Option (Option D)->R D
 |some (some (.cf ax))=>.ok (.cf ax)
 |some (some (.bN ax))=>.ok (.bN ax)
 |_=>.bad
noncomputable def eu:D->R Bool
 |.aU b=>.ok b
 |_=>.bad
noncomputable def gs:D->R Int
 |.int i=>.ok i
 |_=>.bad
noncomputable def zh:Option (Option D)->R D
 |some (some d)=>.ok d
 |_=>.bad
structure eM where
 up:ki
 cs:List D
section
variable(pg:eM)(Φ:e3)
mutual
noncomputable def ev (ρ:bx):E->R D
 |.var i=>zh ρ[i]?
 |.lit d=>.ok d
 |.tup a=>hV ρ a>>=λds=>.ok (.tup ds)
 |.lst a=>hV ρ a>>=λds=>.ok (.lst ds)
 |.bin op a b=>ev ρ a>>=λx=>ev ρ b>>=λy=>eE op x y
 |.neg a=>ev ρ a>>=λx=>gs x>>=λi=>.ok (.int (-i))
 |.not a=>ev ρ a>>=λx=>eu x>>=λb=>.ok (.aU (!b))
 |.cmp op a b=>ev ρ a>>=λx=>ev ρ b>>=λy=>dX op x y>>=λc=>.ok (.aU c)
 |.and a b=>ev ρ a>>=λx=>eu x>>=λk=>if k then ev ρ b else .ok (.aU false)
 |.rO op op' a b c=>ev ρ a>>=λx=>ev ρ b>>=λy=>dX op x y>>=λk=>if k then ev ρ c>>=λz=>dX op' y z>>=λcL=>.ok (.aU cL) else .ok (.aU false)
 |.ite c a b=>ev ρ c>>=λx=>eu x>>=λk=>if k then ev ρ a else ev ρ b
 |.idx a b=>ev ρ a>>=λx=>ev ρ b>>=λy=>fU x y
 |.slice a lo aj=>ev ρ a>>=λx=>mX ρ lo>>=λl=>mX ρ aj>>=λh=>kW x l h
 |.call f a=>hV ρ a>>=λds=>Φ f ds
 |.prim p a=>ev ρ a>>=λx=>kS pg.up p x
 |.tupI s=>g7 ρ s>>=λds=>.ok (.tup ds)
 |.kI s=>g7 ρ s>>=λds=>.ok (.lst ds)
 |.ig i j=>lF ρ[i]? ρ[j]?
 |.kH i j=>qr ρ[i]? ρ[j]?
 |.pR i j=>rU ρ[i]? ρ[j]?
 |.pS=>.ok (.bN [])
 |.comp e k s c=>g7 ρ s>>=λds=>l5 (dj (λd=>gu k d>>=λag=>mW (ρ++ag) c>>=λb=>if b then ev (ρ++ag) e>>=λy=>.ok (some y) else .ok none) ds)>>=λys=>.ok (.lst ys)
noncomputable def hV (ρ:bx):A->R (List D)
 |.nil=>.ok []
 |.cons e a=>ev ρ e>>=λx=>hV ρ a>>=λxs=>.ok (x::xs)
noncomputable def mX (ρ:bx):O->R (Option Int)
 |.none=>.ok none
 |.some e=>ev ρ e>>=λx=>gs x>>=λi=>.ok (some i)
noncomputable def mW (ρ:bx):O->R Bool
 |.none=>.ok true
 |.some e=>ev ρ e>>=λx=>eu x
noncomputable def g7 (ρ:bx):I->R (List D)
 |.seq e=>ev ρ e>>=λx=>er x
 |.ep a=>ev ρ a>>=λx=>gs x>>=λi=>iU 0 i
 |.qL a b=>ev ρ a>>=λx=>gs x>>=λi=>ev ρ b>>=λy=>gs y>>=λj=>iU i j
 |.mU i=>pQ ρ[i]?
end
end
structure aX where
 j:Nat
 k5:Nat
 eY:Nat
noncomputable def vx(up:ki)(k5 eY:Nat):Bool:=(up 1).contains k5&&(up 1).contains eY
noncomputable def h6:Str:="none"
mutual
inductive S where
 |asg (i:Nat) (e:E)
 |app (i:Nat) (e:E)
 |n8 (i:Nat)
 |nF (i:Nat)
 |qJ (i:Nat)
 |n9 (i:Nat)
 |jK (i j:Nat) (e:E)
 |q3 (c:E) (b:B)
 |o6 (i:Nat) (e:E)
 |pop (i:Nat)
 |qK (i:Nat) (e:E)
 |stop
 |raise (c:Nat)
 |pf (cy aG bU aV c5:E) (k:Nat) (h:aX)
 |ext (i:Nat) (e:E)
 |ret (e:E)
 |iff (c:E) (a b:B)
 |e7 (k:Nat) (ts:List Nat) (s:I) (b:B)
inductive B where
 |nil
 |cons (s:S) (b:B)
end
inductive eH where
 |bJ (ρ:bx)
 |cI (d:D)
noncomputable def mc:List Nat->List (Option D)->bx->bx
 |i::is,v::ag,ρ=>mc is ag (ρ.set i v)
 |_,_,ρ=>ρ
noncomputable def forL(f:D->bx->R eH):List D->bx->R eH
 |[],ρ=>.ok (.bJ ρ)
 |d::ds,ρ=>f d ρ>>=λr=>match r with
  |.bJ bP=>forL f ds bP
  |.cI x=>.ok (.cI x)
noncomputable def k4(c:bx->R Bool)(f:bx->R eH):Nat->bx->R eH
 |0,_=>.bad
 |n+1,ρ=>c ρ>>=λk=>if k then(f ρ>>=λr=>match r with
  |.bJ bP=>k4 c f n bP
  |.cI x=>.ok (.cI x)) else .ok (.bJ ρ)
noncomputable def tT:Option (Option D)->D->R D
 |some (some (.lst (_::xs))),d=>.ok (.lst (d::xs))
 |_,_=>.bad
noncomputable def v8:Option (Option D)->R D
 |some (some (.lst (x::xs)))=>.ok (.lst (x::xs).dropLast)
 |_=>.bad
noncomputable def i7(pg:eM)(c k:Nat)(h:aX):R eH:=if c==1&&((pg.up c).contains k&&vx pg.up h.k5 h.eY) then .ok (.cI (.str h6)) else .bad
noncomputable def JN:R eH->(Nat->R eH)->R eH
 |.ok r,_=>.ok r
 |.exc c,f=>f c
 |.bad,_=>.bad
noncomputable def ru:Option (Option D)->D->R D
 |some (some (.lst xs)),d=>if xs.length<SZ then .ok (.lst (xs++[d])) else .bad
 |_,_=>.bad
noncomputable def pV:Option (Option D)->D->R D
 |some (some (.lst xs)),.lst ys=>if xs.length+ys.length<=SZ then .ok (.lst (xs++ys)) else .bad
 |some (some (.lst xs)),.tup ys=>if xs.length+ys.length<=SZ then .ok (.lst (xs++ys)) else .bad
 |_,_=>.bad
noncomputable def jI:Option (Option D)->R Unit
 |some (some (.lst _))=>.ok ()
 |_=>.bad
noncomputable def lK(pg:eM)(Φ:e3)(ρ:bx)(cy aG bU aV c5:E):R eH:=ev pg Φ ρ cy>>=λx=>eu x>>=λk=>if k then ev pg Φ ρ aG>>=λd=>.ok (.cI d) else ev pg Φ ρ bU>>=λx=>eu x>>=λk=>if k then ev pg Φ ρ aV>>=λd=>.ok (.cI d) else ev pg Φ ρ c5>>=λd=>.ok (.cI d)
section
variable(pg:eM)(Φ:e3)
mutual
noncomputable def ex (ρ:bx):S->R eH
 |.asg i e=>ev pg Φ ρ e>>=λd=>.ok (.bJ (ρ.set i (some d)))
 |.app i e=>jI ρ[i]?>>=λ_=>ev pg Φ ρ e>>=λd=>ru ρ[i]? d>>=λx=>.ok (.bJ (ρ.set i (some x)))
 |.ret e=>ev pg Φ ρ e>>=λd=>.ok (.cI d)
 |.nF i=>vL ρ[i]?>>=λd=>.ok (.cI d)
 |.qJ i=>rT ρ[i]?>>=λd=>.ok (.cI d)
 |.n8 i=>.ok (.bJ (ρ.set i (some (.cf []))))
 |.n9 i=>.ok (.bJ (ρ.set i (some (.bN []))))
 |.jK i j e=>ev pg Φ ρ e>>=λd=>pT ρ[i]? ρ[j]? d>>=λx=>.ok (.bJ (ρ.set i (some x)))
 |.q3 c b=>k4 (λbP=>ev pg Φ bP c>>=λx=>eu x) (λbP=>eN bP b) 200 ρ
 |.o6 i e=>ev pg Φ ρ e>>=λd=>tT ρ[i]? d>>=λx=>.ok (.bJ (ρ.set i (some x)))
 |.pop i=>v8 ρ[i]?>>=λx=>.ok (.bJ (ρ.set i (some x)))
 |.qK i e=>jI ρ[i]?>>=λ_=>ev pg Φ ρ e>>=λd=>.ok (.cI d)
 |.stop=>.bad
 |.raise c=>.exc c
 |.pf cy aG bU aV c5 k h=>JN (lK pg Φ ρ cy aG bU aV c5) λc=>i7 pg c k h
 |.ext i e=>jI ρ[i]?>>=λ_=>ev pg Φ ρ e>>=λd=>pV ρ[i]? d>>=λx=>.ok (.bJ (ρ.set i (some x)))
 |.iff c a b=>ev pg Φ ρ c>>=λx=>eu x>>=λk=>if k then eN ρ a else eN ρ b
 |.e7 k ts s b=>g7 pg Φ ρ s>>=λds=>forL (λd bP=>gu k d>>=λag=>eN (mc ts ag bP) b) ds ρ
noncomputable def eN (ρ:bx):B->R eH
 |.nil=>.ok (.bJ ρ)
 |.cons s b=>ex ρ s>>=λr=>match r with
  |.bJ bP=>eN bP b
  |.cI d=>.ok (.cI d)
end
end
structure la where
 np:Nat
 nl:Nat
 body:B
noncomputable def start(fd:la)(ds:List D):bx:=ds.map some++List.replicate fd.nl none
noncomputable def oc:R eH->R D
 |.ok (.cI d)=>.ok d
 |.ok (.bJ _)=>.ok .dK
 |.exc c=>.exc c
 |.bad=>.bad
noncomputable def c6(pg:eM)(Φ:e3)(fd:la)(ds:List D):R D:=if ds.length=fd.np then oc (eN pg Φ (start fd ds) fd.body) else .bad
noncomputable def run(pg:eM)(fds:List la):Nat->e3
 |0=>λ_ _=>.bad
 |n+1=>λf ds=>match fds[f]? with
  |some fd=>c6 pg (run pg fds n) fd ds
  |none=>.bad
def tL(pg:eM)(fds:List la)(n f:Nat)(ds:List D):run pg fds (n+1) f ds=(match fds[f]? with|some fd=>c6 pg (run pg fds n) fd ds|none=>.bad):=rfl
structure Gt where
 fns:List Str
 cls:List Str
 r9:List Str
structure dC where
 N:List Str
 sc:Scope
 ao:List Nat
noncomputable def js(sc:Scope)(x:Str):Bool:=sc.names.lookup x==some .local||sc.names.lookup x==some .cell||sc.names.lookup x==some .free
noncomputable def jS(sc:Scope)(x:Str):Bool:=sc.names.lookup x==some .local||sc.names.lookup x==some .cell
noncomputable def kr(sc:Scope)(x:Str):Bool:=sc.names.lookup x==some .globalImplicit
noncomputable def okN(x:Str):Bool:=!(x==("__debug__":Str))&&!(x==("__classdict__":Str))&&!(x==("__name__":Str))
noncomputable def Hj:Op->Operator->Bool
 |.add,.Add=>true|.sub,.Sub=>true|.mul,.Mult=>true|.fdiv,.FloorDiv=>true|.mod,.Mod=>true|.and,.BitAnd=>true|.xor,.BitXor=>true
 |_,_=>false
noncomputable def uN:mw->CmpOp->Bool
 |.mem,.In=>true|.gj,.NotIn=>true|.eq,.Eq=>true|.ne,.NotEq=>true|.lt,.Lt=>true|.le,.LtE=>true|.gt,.Gt=>true 
 |_,_=>false
noncomputable def litOk:D->Const->Bool
 |.dK,.none=>true
 |.aU a,.bool b=>a==b
 |.int i,.int j=>i==j
 |.str x,.str y=>x==y
 |_,_=>false
noncomputable def tyName:Ty->Str
 |.int=>"int"|.bool=>"bool"|.str=>"str"|.tuple=>"tuple"|.cls _=>""
noncomputable def tB:dW->Str
 |.len=>"len"|.sorted=>"sorted"|.sum=>"sum"|.max=>"max"|.all=>"all"|.any=>"any"|_=>""
noncomputable def tC:dW->Bool
 |.len=>true|.sorted=>true|.sum=>true|.max=>true|.all=>true|.any=>true|_=>false
noncomputable def nameOf:Expr->Option Str
 |.Name x _=>some x
 |_=>none
noncomputable def namesOf:List Expr->Option (List Str)
 |[]=>some []
 |e::ak=>match nameOf e,namesOf ak with|some x,some xs=>some (x::xs)|_,_=>none
noncomputable def fh:Nat->Expr->Option (List Str)
 |0,.Name x _=>some [x]
 |k+1,.Tuple ak _ _=>match namesOf ak with|some xs=>if xs.length=k+1 then some xs else none|none=>none
 |_,_=>none
noncomputable def mask(N xs:List Str):List Str:=N.map λn=>if xs.contains n then(((".":Str))++n) else n
noncomputable def nD:I->Bool:=λ_=>false
noncomputable def wz:I->Bool
 |.seq _=>true
 |.ep _=>true
 |_=>false
noncomputable def vQ:Expr->Bool
 |.ListComp ..=>false
 |_=>true
noncomputable def fv(g:Gt)(sc:Scope)(x:Str):Bool:=kr sc x&&!(g.fns.contains x)&&!(g.cls.contains x)&&!(g.r9.contains x)
noncomputable def hn:Expr->Option Str
 |.Name x _=>some x
 |_=>none
noncomputable def t6:Expr->Option Const
 |.Constant c _ _=>some c
 |_=>none
noncomputable def J5:Expr->Option (List Expr)
 |.Tuple ak _ _=>some ak
 |_=>none
noncomputable def J2:Expr->Option (List Expr)
 |.List ak _=>some ak
 |_=>none
noncomputable def Cd:Expr->Option (Expr×Operator×Expr)
 |.BinOp x o y _=>some (x,o,y)
 |_=>none
noncomputable def Cj:Expr->Option (UnaryOp×Expr)
 |.UnaryOp o x _=>some (o,x)
 |_=>none
noncomputable def Cg:Expr->Option (Expr×List CmpOp×List Expr)
 |.Compare x os ys _=>some (x,os,ys)
 |_=>none
noncomputable def vBool:Expr->Option (BoolOp×List Expr×Pos)
 |.BoolOp o ak p=>some (o,ak,p)
 |_=>none
noncomputable def t7:Expr->Option (Expr×Expr)
 |.Subscript x y _=>some (x,y)
 |_=>none
noncomputable def J4:Expr->Option (Option Expr×Option Expr×Option Expr)
 |.Slice l h t _=>some (l,h,t)
 |_=>none
noncomputable def wX:Expr->Option (Expr×List Expr×List Keyword)
 |.Call f ak au _=>some (f,ak,au)
 |_=>none
noncomputable def jr(x:Expr):Option (Str×List Expr):=match wX x with
 |some (f,ak,[])=>(match hn f with|some y=>some (y,ak)|none=>none)
 |_=>none
noncomputable def Cc:Expr->Option (Expr×Str×Pos)
 |.Attribute o n p=>some (o,n,p)
 |_=>none
noncomputable def JZ:Expr->Option (Expr×List Comprehension×Scope)
 |.ListComp x m3 sc _=>some (x,m3,sc)
 |_=>none
noncomputable def tyB(g:Gt)(ct:dC)(n:Str):Ty->Bool
 |.cls c=>kr ct.sc n&&okN n&&(if c=1000 then n==("ValueError":Str)&&fv g ct.sc n else g.cls[c]?==some n)
 |t=>n==tyName t&&fv g ct.sc n
noncomputable def w1(g:Gt)(ct:dC)(x:Str)(e:Expr):Option Expr:=match jr e with
 |some (y,[a])=>if x==("sorted":Str)&&fv g ct.sc x&&y==("set":Str)&&fv g ct.sc y then some a else none
 |_=>none
noncomputable def Kc(g:Gt)(ct:dC)(x:Str)(p:dW)(ak:List Expr):Option Expr:=match p with
 |.eR=>(match ak with|[e]=>w1 g ct x e|_=>none)
 |p=>(match ak with|[e]=>if tC p&&x==tB p&&fv g ct.sc x then some e else none|_=>none)
noncomputable def rE(ct:dC)(sc:Scope)(xs:List Str):Bool:=decide (sc.kind=.function)&&sc.names.all (λy=>y.2 != .cell)&&sc.names.all (λy=>y.2 != .local||sc.names.lookup y.1==some .local)
 && xs.all (λy=>sc.names.lookup y==some .local&&okN y)&&decide xs.Nodup&&sc.names.all (λy=>y.2 != .local||xs.contains y.1||y.1==(".0":Str))
 && sc.names.all (λy=>y.2 != .free||(ct.sc.names.lookup y.1==some .cell||ct.sc.names.lookup y.1==some .free))&&((mask ct.N xs).zip ct.N).all (λp=>p.1==p.2||sc.names.lookup p.1==none)&&decide (mask ct.N xs++xs).Nodup&&!((mask ct.N xs++xs).contains (".0":Str))
noncomputable def vF:Expr->Bool
 |.Dict [] [] _=>true
 |_=>false
noncomputable def Ci:Expr->Option (Str×Str)
 |.Dict [some (.Name n _)] [.Name k _] _=>some (n,k)
 |_=>none
noncomputable def J1:Expr->Option (Expr×Expr×Expr)
 |.IfExp x y w _=>some (x,y,w)
 |_=>none
noncomputable def rt(ct:dC)(i:Nat)(n:Str):Bool:=ct.N[i]?==some n&&js ct.sc n&&okN n
noncomputable def oP(ct:dC)(i:Nat)(n:Str):Bool:=ct.N[i]?==some n&&js ct.sc n&&okN n&&ct.ao.contains i
noncomputable def oX(ct:dC)(i:Nat)(n:Str):Bool:=ct.N[i]?==some n&&js ct.sc n&&okN n&&!ct.ao.contains i
noncomputable def wZ(z:Expr):Option (Str×Str):=match t7 z with
 |some (x,y)=>(match hn x,hn y with|some n,some k=>some (n,k)|_,_=>none)
 |none=>none
noncomputable def wW(z:Expr):Option (Str×Str×Pos×Expr):=match wX z with
 |some (f,[y],[])=>(match Cc f with
  |some (o,n,ap)=>(match hn o with|some x=>some (x,n,ap,y)|none=>none)
  |none=>none)
 |_=>none
section
variable(g:Gt)
mutual
noncomputable def bZ (ct:dC) (v:Bool):E->Expr->Bool
 |.var i,z=>(match hn z with|some x=>ct.N[i]?==some x&&js ct.sc x&&okN x&&(v||!ct.ao.contains i)|none=>false)
 |.lit d,z=>(match t6 z with|some c=>litOk d c|none=>false)
 |.tup a,z=>(match J5 z with|some ak=>mO ct a ak&&decide (ak.length<=1000)|none=>false)
 |.lst a,z=>(match J2 z with|some ak=>mO ct a ak&&decide (ak.length<=1000)|none=>false)
 |.bin op a b,z=>(match Cd z with|some (x,o,y)=>Hj op o&&bZ ct true a x&&bZ ct true b y|none=>false)
 |.neg a,z=>(match Cj z with|some (.USub,x)=>bZ ct true a x|_=>false)
 |.not a,z=>(match Cj z with|some (.Not,x)=>bZ ct true a x|_=>false)
 |.cmp op a b,z=>(match Cg z with|some (x,[o],[y])=>uN op o&&bZ ct true a x&&bZ ct true b y|_=>false)
 |.and a b,z=>(match vBool z with|some (.And,[x,y],_)=>bZ ct true a x&&bZ ct v b y|some (.And,x::y::w::r,p)=>bZ ct true a x&&bZ ct v b (.BoolOp .And (y::w::r) p)|_=>false)
 |.rO op op' a b c,z=>(match Cg z with|some (x,[o,bt],[y,w])=>uN op o&&uN op' bt&&bZ ct true a x&&bZ ct true b y&&bZ ct true c w|_=>false)
 |.ite c a b,z=>(match J1 z with|some (x,y,w)=>bZ ct true c x&&bZ ct false a y&&bZ ct false b w|none=>false)
 |.idx a b,z=>(match t7 z with|some (x,y)=>bZ ct true a x&&bZ ct true b y|none=>false)
 |.slice a lo aj,z=>(match t7 z with|some (x,y)=>(match J4 y with|some (l,h,none)=>bZ ct true a x&&rK ct lo l&&rK ct aj h|_=>false)|none=>false)
 |.call f a,z=>(match jr z with|some (x,ak)=>g.fns[f]?==some x&&kr ct.sc x&&okN x&&!ak.isEmpty&&mO ct a ak|none=>false)
 |.prim p a,z=>(match jr z with|some (x,ak)=>(match Kc g ct x p ak with|some e=>bZ ct true a e|none=>false)|none=>false)
 |.tupI s,z=>(match jr z with|some (x,[e])=>x==("tuple":Str)&&fv g ct.sc x&&wz s&&gL ct true s e|_=>false)
 |.kI s,z=>(match jr z with|some (x,[e])=>x==("list":Str)&&fv g ct.sc x&&wz s&&gL ct true s e|_=>false)
 |.comp e k s c,z=>(match JZ z with
   |some (x,[⟨t,it,ifs,0⟩],sc)=>(match fh k t with
    |some xs=>(!nD s||k==2)&&rE ct sc xs&&gL ct true s it&&bZ ⟨mask ct.N xs++xs,sc,ct.ao⟩ false e x&&n7 ⟨mask ct.N xs++xs,sc,ct.ao⟩ c ifs
    |none=>false)
   |_=>false)
 |.ig i j,z=>(match wZ z with|some (n,k)=>rt ct i n&&oX ct j k|none=>false)
 |.kH i j,z=>(match wW z with|some (x,n,ap,y)=>(match hn y with|some k=>n==("index":Str)&&(ap.endLine==z.pos.line)&&rt ct i x&&rt ct j k|none=>false)|none=>false)
 |.pR i j,z=>(match Ci z with|some (n,k)=>oX ct i n&&oX ct j k|none=>false)
 |.pS,z=>vF z
noncomputable def mO (ct:dC):A->List Expr->Bool
 |.nil,[]=>true
 |.cons e a,x::xs=>bZ ct false e x&&mO ct a xs
 |_,_=>false
noncomputable def rK (ct:dC):O->Option Expr->Bool
 |.none,none=>true
 |.some e,some x=>bZ ct true e x
 |_,_=>false
noncomputable def n7 (ct:dC):O->List Expr->Bool
 |.none,[]=>true
 |.some e,[x]=>bZ ct true e x
 |_,_=>false
noncomputable def gL (ct:dC) (v:Bool):I->Expr->Bool
 |.seq e,z=>bZ ct v e z
 |.ep a,z=>(match jr z with|some (x,[y])=>x==("range":Str)&&fv g ct.sc x&&bZ ct true a y|_=>false)
 |.qL a b,z=>(match jr z with|some (x,[y,w])=>x==("range":Str)&&fv g ct.sc x&&bZ ct true a y&&bZ ct true b w|_=>false)
 |.mU i,z=>(match hn z with|some n=>oX ct i n|none=>false)
end
noncomputable def kq:E->Bool
 |.lst _=>true
 |.comp ..=>true
 |.bin .add _ _=>true
 |.prim .sorted _=>true
 |.prim .eR _=>true
 |.kI _=>true
 |_=>false
noncomputable def pN(ct:dC):List Nat->List Str->Bool
 |[],[]=>true
 |i::is,x::xs=>ct.N[i]?==some x&&jS ct.sc x&&okN x&&!ct.ao.contains i&&pN ct is xs
 |_,_=>false
noncomputable def pd:Stmt->Option (List Expr×Expr)
 |.Assign ts y _=>some (ts,y)
 |_=>none
noncomputable def BY:Stmt->Option Expr
 |.Expr y _=>some y
 |_=>none
noncomputable def mi:Stmt->Option (Option Expr)
 |.Return y _=>some y
 |_=>none
noncomputable def t2:Stmt->Option (Expr×List Stmt×List Stmt)
 |.If t x y _=>some (t,x,y)
 |_=>none
noncomputable def wL:Stmt->Option (Expr×Expr×List Stmt×List Stmt)
 |.For t it x y _=>some (t,it,x,y)
 |_=>none
noncomputable def B0:Stmt->Option Expr
 |.Raise (some y) none _=>some y
 |_=>none
noncomputable def Jy:Stmt->Option (List Stmt×List ExceptHandler×List Stmt×List Stmt)
 |.Try a h e f _=>some (a,h,e,f)
 |_=>none
noncomputable def ZE:ExceptHandler->Option Expr×Option Str×List Stmt
 |.ExceptHandler t n b _=>(t,n,b)
noncomputable def yr(ct:dC)(i:Nat)(e:E)(z:Stmt):Bool:=match pd z with
 |some ([t],y)=>(match hn t with|some x=>ct.N[i]?==some x&&jS ct.sc x&&okN x&&(!ct.ao.contains i||kq e)&&bZ g ct false e y|none=>false)
 |_=>false
noncomputable def uL(ct:dC)(i:Nat)(e:E)(nm:Str)(z:Stmt):Bool:=match BY z with
 |some c=>(match wW c with|some (x,n,ap,y)=>(ap.endLine==c.pos.line)&&ct.N[i]?==some x&&js ct.sc x&&okN x&&ct.ao.contains i&&n==nm&&bZ g ct false e y|none=>false)
 |none=>false
noncomputable def pM(ct:dC)(i:Nat)(z:Stmt):Bool:=match pd z with
 |some ([t],y)=>(match hn t with|some x=>ct.N[i]?==some x&&jS ct.sc x&&okN x&&ct.ao.contains i&&vF y|none=>false)
 |_=>false
noncomputable def yu(ct:dC)(i j:Nat)(e:E)(z:Stmt):Bool:=match pd z with
 |some ([t],v)=>(match wZ t with|some (x,y)=>oP ct i x&&oX ct j y&&vQ v&&bZ g ct false e v|none=>false)
 |_=>false
noncomputable def Jz:Stmt->Option (Expr×List Stmt×List Stmt)
 |.While t x y _=>some (t,x,y)
 |_=>none
noncomputable def yA(ct:dC)(i:Nat)(e:E)(z:Stmt):Bool:=match pd z with
 |some ([t],v)=>(match t7 t with
  |some (x,y)=>(match hn x,t6 y with|some n,some (.int k)=>k==0&&oP ct i n&&vQ v&&bZ g ct false e v|_,_=>false)
  |none=>false)
 |_=>false
noncomputable def yx(ct:dC)(i:Nat)(z:Stmt):Bool:=match BY z with
 |some c=>(match wX c with
  |some (f,[],[])=>(match Cc f with
   |some (o,n,ap)=>(match hn o with|some x=>n==("pop":Str)&&(ap.endLine==c.pos.line)&&oP ct i x|none=>false)
   |none=>false)
  |_=>false)
 |none=>false
noncomputable def yz(ct:dC)(i:Nat)(e:E)(z:Stmt):Bool:=match mi z with
 |some (some y)=>ct.ao.contains i&&bZ g ⟨ct.N,ct.sc,ct.ao.filter λj=>!(j==i)⟩ false e y
 |_=>false
noncomputable def yy(ct:dC)(c:Nat)(z:Stmt):Bool:=match B0 z with
 |some y=>(match jr y with
  |some (x,[a])=>(match t6 a with|some (.str _)=>c==1&&g.cls[c]?==some x&&kr ct.sc x&&okN x|_=>false)
  |_=>false)
 |none=>false
noncomputable def uK(ct:dC)(n:Str)(k:Nat)(z:Expr):Bool:=match jr z with
 |some (x,[e,d])=>(match hn e,hn d with|some y,some t=>x==("isinstance":Str)&&fv g ct.sc x&&y==n&&tyB g ct t (.cls k)&&(k==1000||decide (k<g.cls.length))|_,_=>false)
 |_=>false
noncomputable def yt(ct:dC)(k:Nat)(t:Expr):Bool:=match hn t with
 |some x=>g.cls[k]?==some x&&kr ct.sc x&&okN x
 |none=>false
noncomputable def FZ(y:Expr):Bool:=match t6 y with
 |some (.str b)=>b==h6
 |_=>false
noncomputable def yv(ct:dC)(n:Str)(k5 eY:Nat)(t:Stmt):Bool:=match mi t with
 |some (some r)=>(match Cd r with
  |some (q,.Mult,v)=>(match jr v with
   |some (pY,[y])=>(match vBool y with
    |some (.And,[gn,iY],_)=>uK g ct n k5 gn&&uK g ct n eY iY&&FZ q&&pY==("int":Str)&&fv g ct.sc pY
    |_=>false)
   |_=>false)
  |_=>false)
 |_=>false
noncomputable def yw(ct:dC)(h:aX)(n:Option Str)(st:List Stmt):Bool:=match n with
 |some n=>ct.N[h.j]?==some n&&ct.sc.names.lookup n==some .local&&okN n&&(match st with|[t]=>yv g ct n h.k5 h.eY t|_=>false)
 |none=>false
noncomputable def Ds(ct:dC)(k:Nat)(h:aX)(q:Option Expr×Option Str×List Stmt):Bool:=match q.1 with
 |some t=>yt g ct k t&&yw g ct h q.2.1 q.2.2
 |none=>false
noncomputable def uM(ct:dC)(e:E)(z:Stmt):Bool:=match mi z with
 |some (some y)=>bZ g ct false e y
 |_=>false
noncomputable def uJ(ct:dC)(c r:E)(z:Stmt):Bool:=match t2 z with
 |some (t,[y],[])=>bZ g ct true c t&&uM g ct r y
 |_=>false
noncomputable def yB(ct:dC)(cy aG bU aV c5:E)(k:Nat)(h:aX)(z:Stmt):Bool:=match Jy z with
 |some ([a1,a2,eX],[hd],[],[])=>uJ g ct cy aG a1&&uJ g ct bU aV a2&&uM g ct c5 eX&&decide (k<2)&&Ds g ct k h (ZE hd)
 |_=>false
mutual
noncomputable def ly (ct:dC):S->Stmt->Bool
 |.asg i e,z=>yr g ct i e z
 |.app i e,z=>uL g ct i e "append" z
 |.ret e,z=>(match mi z with|some (some y)=>bZ g ct false e y|_=>false)
 |.nF i,z=>(match mi z with|some (some y)=>(match hn y with|some x=>oP ct i x|none=>false)|_=>false)
 |.qJ i,z=>(match mi z with|some (some y)=>(match hn y with|some x=>oP ct i x|none=>false)|_=>false)
 |.iff c a b,z=>(match t2 z with|some (t,x,y)=>bZ g ct true c t&&jJ ct a x&&jJ ct b y|none=>false)
 |.e7 k ts s b,z=>(match wL z with|some (t,it,x,[])=>(match fh k t with|some xs=>(!nD s||k==2)&&pN ct ts xs&&decide ts.Nodup&&gL g ct false s it&&jJ ct b x|none=>false)|_=>false)
 |.n8 i,z=>pM ct i z
 |.n9 i,z=>pM ct i z
 |.jK i j e,z=>yu g ct i j e z
 |.q3 c b,z=>(match Jz z with|some (t,x,[])=>bZ g ct true c t&&jJ ct b x|_=>false)
 |.o6 i e,z=>yA g ct i e z
 |.pop i,z=>yx ct i z
 |.qK i e,z=>yz g ct i e z
 |.stop,_=>true
 |.raise c,z=>yy g ct c z
 |.pf cy aG bU aV c5 k h,z=>yB g ct cy aG bU aV c5 k h z
 |.ext i e,z=>uL g ct i e "extend" z
noncomputable def jJ (ct:dC):B->List Stmt->Bool
 |.nil,[]=>true
 |.cons s b,x::xs=>ly ct s x&&jJ ct b xs
 |_,_=>false
end
mutual
noncomputable def TY:S->List Nat
 |.app j _=>[j]
 |.n8 j=>[j]
 |.n9 j=>[j]
 |.jK j _ _=>[j]
 |.q3 _ b=>jX b
 |.o6 j _=>[j]
 |.pop j=>[j]
 |.ext j _=>[j]
 |.iff _ a b=>jX a++jX b
 |.e7 _ _ _ b=>jX b
 |_=>[]
noncomputable def jX:B->List Nat
 |.nil=>[]
 |.cons s b=>TY s++jX b
end
noncomputable def mP(N:List Str)(fd:la):Stmt->Bool
 |.FunctionDef name args body [] none [] sc none bind _ =>
   decide (sc.kind=.function)&&!sc.isCoroutine&&!sc.isGenerator&&decide N.Nodup&&N.length==fd.np+fd.nl
   && (args.args.map (·.arg))==N.take fd.np&&args.posonlyargs.isEmpty&&args.vararg.isNone&&args.kwonlyargs.isEmpty&&args.kwarg.isNone&&args.defaults.isEmpty&&args.kw_defaults.isEmpty
   && (N.take fd.np).all (λx=>jS sc x)&&sc.names.all (λy=>y.2 != .free)
   && (jX fd.body).all (λi=>decide (fd.np<=i)&&decide (i<N.length))&&jJ g ⟨N,sc,jX fd.body⟩ fd.body body
 |_=>false
end
end ζ
end
section
namespace a5
open PySem ζ
noncomputable def yc :B:=.cons (.ret (.comp (.bin .add (.slice (.var 0) (.none) (.some (.var 1))) (.slice (.var 0) (.some (.bin .add (.var 1) (.lit (.int 1)))) (.none))) 0 (.ep (.prim .len (.var 0))) (.some (.cmp .gt (.prim .len (.var 0)) (.lit (.int 1)))))) (.nil)
noncomputable def x6 :B:=.cons (.ret (.prim .all (.comp (.cmp .mem (.var 2) (.var 1)) 0 (.seq (.var 0)) (.none)))) (.nil)
noncomputable def rD(Pd:Nat):B:=.cons (.ret (.prim .any (.comp (.call Pd (.cons (.var 0) (.cons (.var 2) (.nil)))) 0 (.seq (.var 1)) (.none)))) (.nil)
noncomputable def ye(y5:Nat):B:=.cons (.asg 1 (.prim .eR (.var 0))) (.cons (.asg 2 (.lst (.nil))) (.cons (.e7 0 [3] (.seq (.var 1)) (.cons (.asg 4 (.comp (.var 5) 0 (.seq (.var 1)) (.some (.cmp .gt (.prim .len (.var 5)) (.prim .len (.var 3)))))) (.cons (.iff (.not (.call y5 (.cons (.var 3) (.cons (.var 4) (.nil))))) (.cons (.app 2 (.var 3)) (.nil)) (.nil)) (.nil)))) (.cons (.ret (.tupI (.seq (.var 2)))) (.nil))))
noncomputable def xN :B:=.cons (.asg 1 (.lst (.nil))) (.cons (.e7 0 [2] (.seq (.var 0)) (.cons (.asg 1 (.bin .add (.bin .add (.var 1) (.lst (.cons (.tup (.cons (.var 2) (.nil))) (.nil)))) (.comp (.bin .add (.var 3) (.tup (.cons (.var 2) (.nil)))) 0 (.seq (.var 1)) (.none)))) (.nil))) (.cons (.ret (.var 1)) (.nil)))
noncomputable def xP(y4:Nat):B:=.cons (.asg 1 (.lst (.nil))) (.cons (.e7 0 [2] (.seq (.idx (.var 0) (.lit (.int 1)))) (.cons (.ext 1 (.call y4 (.cons (.var 2) (.nil)))) (.nil))) (.cons (.ret (.prim .eR (.var 1))) (.nil)))
noncomputable def xM(Pb:Nat):B:=.cons (.ret (.tupI (.seq (.comp (.var 2) 0 (.seq (.call Pb (.cons (.var 0) (.nil)))) (.some (.cmp .eq (.bin .sub (.prim .len (.var 2)) (.lit (.int 1))) (.var 1))))))) (.nil)
noncomputable def uD(Po:Nat)(yq:Nat):B:=.cons (.iff (.cmp .eq (.prim .len (.var 0)) (.lit (.int 0))) (.cons (.raise yq) (.nil)) (.nil)) (.cons (.asg 1 (.lst (.nil))) (.cons (.e7 0 [2] (.seq (.var 0)) (.cons (.ext 1 (.var 2)) (.nil))) (.cons (.asg 3 (.prim .eR (.var 1))) (.cons (.ret (.tup (.cons (.prim .len (.var 3)) (.cons (.call Po (.cons (.comp (.tupI (.seq (.comp (.kH 3 5) 0 (.seq (.var 4)) (.none)))) 0 (.seq (.var 0)) (.none)) (.nil))) (.nil))))) (.nil)))))
noncomputable def Lv :B:=.cons .stop (.nil)
noncomputable def Lu :B:=.cons .stop (.nil)
noncomputable def Lw :B:=.cons .stop (.nil)
noncomputable def xI(Pg:Nat)(y4:Nat)(y5:Nat):B:=.cons (.asg 1 (.tupI (.ep (.idx (.var 0) (.lit (.int 0)))))) (.cons (.asg 2 (.lst (.nil))) (.cons (.e7 0 [3] (.seq (.call y4 (.cons (.var 1) (.nil)))) (.cons (.asg 4 (.tupI (.seq (.comp (.var 5) 0 (.seq (.var 1)) (.some (.cmp .gj (.var 5) (.var 3))))))) (.cons (.iff (.and (.cmp .gt (.prim .len (.var 4)) (.lit (.int 0))) (.not (.call y5 (.cons (.var 4) (.cons (.idx (.var 0) (.lit (.int 1))) (.nil)))))) (.cons (.app 2 (.var 3)) (.nil)) (.nil)) (.nil)))) (.cons (.qK 2 (.call Pg (.cons (.var 2) (.nil)))) (.nil))))
noncomputable def x8(O9:Nat):B:=.cons (.n8 2) (.cons (.asg 3 (.lit (.int 1))) (.cons (.e7 0 [4] (.seq (.call O9 (.cons (.var 0) (.cons (.var 1) (.nil))))) (.cons (.jK 2 4 (.var 3)) (.cons (.asg 3 (.bin .mul (.var 3) (.lit (.int 2)))) (.nil)))) (.cons (.qJ 2) (.nil))))
noncomputable def xK :B:=.cons (.ret (.prim .sum (.comp (.ig 1 2) 0 (.seq (.var 0)) (.none)))) (.nil)
noncomputable def xO :B:=.cons (.ret (.tupI (.seq (.comp (.var 2) 0 (.mU 1) (.some (.cmp .ne (.bin .and (.var 0) (.ig 1 2)) (.lit (.int 0)))))))) (.nil)
noncomputable def ya(O8:Nat)(Pj:Nat)(u7:Nat):B:=.cons (.asg 2 (.call u7 (.cons (.var 0) (.cons (.bin .sub (.var 1) (.lit (.int 1))) (.nil))))) (.cons (.asg 3 (.call u7 (.cons (.var 0) (.cons (.var 1) (.nil))))) (.cons (.ret (.comp (.tup (.cons (.call O8 (.cons (.call Pj (.cons (.var 4) (.nil))) (.cons (.var 2) (.nil)))) (.cons (.ig 3 4) (.nil)))) 0 (.mU 3) (.none))) (.nil)))
noncomputable def yd :B:=.cons (.ret (.tup (.cons (.bin .xor (.idx (.var 0) (.lit (.int 0))) (.idx (.var 1) (.lit (.int 0)))) (.cons (.bin .xor (.idx (.var 0) (.lit (.int 1))) (.idx (.var 1) (.lit (.int 1)))) (.nil))))) (.nil)
noncomputable def x9(Pm:Nat):B:=.cons (.e7 0 [2] (.mU 1) (.cons (.iff (.cmp .ne (.bin .and (.idx (.var 0) (.lit (.int 0))) (.var 2)) (.lit (.int 0))) (.cons (.asg 0 (.call Pm (.cons (.var 0) (.cons (.ig 1 2) (.nil))))) (.nil)) (.nil)) (.nil))) (.cons (.ret (.var 0)) (.nil))
noncomputable def x7 :B:=.cons (.ret (.bin .and (.var 0) (.neg (.var 0)))) (.nil)
noncomputable def uA(pW:Nat)(Pe:Nat):B:=.cons (.asg 2 (.call pW (.cons (.var 1) (.cons (.var 0) (.nil))))) (.cons (.iff (.cmp .eq (.idx (.var 2) (.lit (.int 0))) (.lit (.int 0))) (.cons (.ret (.var 0)) (.nil)) (.nil)) (.cons (.asg 3 (.call Pe (.cons (.idx (.var 2) (.lit (.int 0))) (.nil)))) (.cons (.n9 4) (.cons (.e7 0 [5] (.mU 0) (.cons (.jK 4 5 (.call pW (.cons (.ig 0 5) (.cons (.pR 3 2) (.nil))))) (.nil))) (.cons (.jK 4 3 (.var 2)) (.cons (.qJ 4) (.nil)))))))
noncomputable def xJ(r6:Nat):B:=.cons (.asg 1 (.pS)) (.cons (.e7 0 [2] (.seq (.var 0)) (.cons (.asg 1 (.call r6 (.cons (.var 1) (.cons (.var 2) (.nil))))) (.nil))) (.cons (.ret (.var 1)) (.nil)))
noncomputable def xR(r6:Nat)(pW:Nat):B:=.cons (.asg 1 (.pS)) (.cons (.asg 2 (.lst (.nil))) (.cons (.e7 0 [3] (.seq (.var 0)) (.cons (.asg 4 (.call pW (.cons (.var 3) (.cons (.var 1) (.nil))))) (.cons (.iff (.cmp .eq (.idx (.var 4) (.lit (.int 0))) (.lit (.int 0))) (.cons (.app 2 (.idx (.var 4) (.lit (.int 1)))) (.nil)) (.nil)) (.cons (.asg 1 (.call r6 (.cons (.var 1) (.cons (.var 3) (.nil))))) (.nil))))) (.cons (.nF 2) (.nil))))
noncomputable def yb(Pc:Nat)(Er:Nat)(pW:Nat)(r6:Nat)(Pa:Nat)(u7:Nat)(O7:Nat):B:=.cons (.asg 2 (.call O7 (.cons (.call Er (.cons (.var 0) (.cons (.bin .add (.var 1) (.lit (.int 1))) (.nil)))) (.nil)))) (.cons (.asg 3 (.call u7 (.cons (.var 0) (.cons (.var 1) (.nil))))) (.cons (.asg 4 (.lst (.nil))) (.cons (.e7 0 [5] (.seq (.call Pc (.cons (.call Er (.cons (.var 0) (.cons (.var 1) (.nil)))) (.nil)))) (.cons (.asg 6 (.tup (.cons (.var 5) (.cons (.lit (.int 0)) (.nil))))) (.cons (.iff (.cmp .ne (.idx (.call pW (.cons (.var 6) (.cons (.var 2) (.nil)))) (.lit (.int 0))) (.lit (.int 0))) (.cons (.app 4 (.call Pa (.cons (.var 5) (.cons (.var 3) (.nil))))) (.cons (.asg 2 (.call r6 (.cons (.var 2) (.cons (.var 6) (.nil))))) (.nil))) (.nil)) (.nil)))) (.cons (.ret (.tupI (.seq (.prim .sorted (.var 4))))) (.nil)))))
noncomputable def xQ(Ph:Nat):B:=.cons (.asg 1 (.prim .max (.comp (.prim .len (.var 2)) 0 (.seq (.idx (.var 0) (.lit (.int 1)))) (.none)))) (.cons (.ret (.tupI (.seq (.comp (.prim .len (.call Ph (.cons (.var 0) (.cons (.var 2) (.nil))))) 0 (.ep (.var 1)) (.none))))) (.nil))
noncomputable def xT :B:=.cons (.iff (.cmp .lt (.var 1) (.prim .len (.var 0))) (.cons (.ret (.idx (.var 0) (.var 1))) (.nil)) (.nil)) (.cons (.ret (.lit (.int 0))) (.nil))
noncomputable def x1(Pr:Nat):B:=.cons (.asg 2 (.bin .mod (.bin .mul (.bin .add (.bin .add (.call Pr (.cons (.var 0) (.cons (.var 1) (.nil)))) (.bin .mul (.lit (.int 7919)) (.var 1))) (.lit (.int 1))) (.lit (.int 48271))) (.lit (.int 2147483647)))) (.cons (.ret (.bin .mod (.bin .add (.bin .add (.bin .mul (.var 2) (.var 2)) (.bin .mul (.lit (.int 7)) (.var 2))) (.var 1)) (.lit (.int 2147483629)))) (.nil))
noncomputable def xV :B:=.cons (.asg 2 (.bin .mod (.bin .mul (.bin .add (.bin .add (.var 0) (.bin .mul (.lit (.int 104729)) (.var 1))) (.lit (.int 17))) (.lit (.int 69621))) (.lit (.int 2147483647)))) (.cons (.ret (.bin .mod (.bin .add (.bin .add (.bin .mul (.var 2) (.var 2)) (.bin .mul (.lit (.int 3)) (.var 2))) (.var 1)) (.lit (.int 2147483629)))) (.nil))
noncomputable def xZ :B:=.cons (.ret (.cmp .eq (.comp (.var 2) 0 (.seq (.var 0)) (.some (.cmp .gj (.var 2) (.var 1)))) (.lst (.nil)))) (.nil)
noncomputable def x5(Py:Nat):B:=.cons (.asg 1 (.lst (.nil))) (.cons (.e7 0 [2] (.seq (.prim .eR (.var 0))) (.cons (.iff (.cmp .eq (.comp (.var 3) 0 (.seq (.var 0)) (.some (.and (.cmp .ne (.var 2) (.var 3)) (.call Py (.cons (.var 2) (.cons (.var 3) (.nil))))))) (.lst (.nil))) (.cons (.app 1 (.var 2)) (.nil)) (.nil)) (.nil))) (.cons (.ret (.tupI (.seq (.var 1)))) (.nil)))
noncomputable def pI(og:Nat):B:=.cons (.iff (.cmp .eq (.var 1) (.lit (.int 0))) (.cons (.ret (.lst (.cons (.tup (.nil)) (.nil)))) (.nil)) (.nil)) (.cons (.asg 2 (.lst (.nil))) (.cons (.e7 0 [3] (.ep (.prim .len (.var 0))) (.cons (.asg 2 (.bin .add (.var 2) (.comp (.bin .add (.tup (.cons (.idx (.var 0) (.var 3)) (.nil))) (.var 4)) 0 (.seq (.call og (.cons (.slice (.var 0) (.some (.bin .add (.var 3) (.lit (.int 1)))) (.none)) (.cons (.bin .sub (.var 1) (.lit (.int 1))) (.nil))))) (.none)))) (.nil))) (.cons (.ret (.var 2)) (.nil))))
noncomputable def x4(Eu:Nat):B:=.cons (.asg 2 (.comp (.tup (.cons (.var 6) (.nil))) 0 (.ep (.var 1)) (.none))) (.cons (.e7 0 [3] (.ep (.bin .mod (.var 0) (.lit (.int 9)))) (.cons (.asg 4 (.call Eu (.cons (.var 0) (.cons (.var 3) (.nil))))) (.cons (.asg 5 (.tupI (.seq (.comp (.var 6) 0 (.ep (.var 1)) (.some (.cmp .lt (.bin .mod (.call Eu (.cons (.var 4) (.cons (.var 6) (.nil)))) (.lit (.int 5))) (.bin .add (.lit (.int 2)) (.bin .mod (.var 4) (.lit (.int 2)))))))))) (.cons (.iff (.cmp .ne (.var 5) (.tup (.nil))) (.cons (.app 2 (.var 5)) (.nil)) (.nil)) (.nil))))) (.cons (.nF 2) (.nil)))
noncomputable def x2(za:Nat)(og:Nat)(PL:Nat):B:=.cons (.asg 2 (.bin .add (.lit (.int 1)) (.bin .mod (.var 0) (.var 1)))) (.cons (.asg 3 (.bin .mod (.bin .fdiv (.var 0) (.lit (.int 12))) (.lit (.int 8)))) (.cons (.iff (.cmp .eq (.var 3) (.lit (.int 0))) (.cons (.asg 4 (.call og (.cons (.tupI (.ep (.var 2))) (.cons (.bin .add (.lit (.int 1)) (.bin .mod (.bin .fdiv (.var 0) (.lit (.int 96))) (.var 2))) (.nil))))) (.nil)) (.cons (.iff (.and (.cmp .eq (.var 3) (.lit (.int 1))) (.cmp .gt (.var 1) (.lit (.int 5)))) (.cons (.asg 2 (.lit (.int 6))) (.cons (.asg 4 (.comp (.tup (.cons (.lit (.int 0)) (.cons (.bin .add (.lit (.int 1)) (.var 5)) (.cons (.bin .add (.lit (.int 1)) (.bin .mod (.bin .add (.var 5) (.lit (.int 1))) (.lit (.int 5)))) (.nil))))) 0 (.ep (.lit (.int 5))) (.none))) (.cons (.asg 4 (.bin .add (.var 4) (.comp (.tup (.cons (.bin .add (.lit (.int 1)) (.var 5)) (.cons (.bin .add (.lit (.int 1)) (.bin .mod (.bin .add (.var 5) (.lit (.int 1))) (.lit (.int 5)))) (.cons (.bin .add (.lit (.int 1)) (.bin .mod (.bin .add (.var 5) (.lit (.int 3))) (.lit (.int 5)))) (.nil))))) 0 (.ep (.lit (.int 5))) (.none)))) (.nil)))) (.cons (.iff (.and (.cmp .eq (.var 3) (.lit (.int 2))) (.cmp .gt (.var 1) (.lit (.int 6)))) (.cons (.asg 2 (.lit (.int 7))) (.cons (.asg 4 (.comp (.tup (.cons (.var 5) (.cons (.bin .mod (.bin .add (.var 5) (.lit (.int 1))) (.lit (.int 7))) (.cons (.bin .mod (.bin .add (.var 5) (.lit (.int 3))) (.lit (.int 7))) (.nil))))) 0 (.ep (.lit (.int 7))) (.none))) (.cons (.asg 4 (.bin .add (.var 4) (.comp (.tup (.cons (.var 5) (.cons (.bin .mod (.bin .add (.var 5) (.lit (.int 2))) (.lit (.int 7))) (.cons (.bin .mod (.bin .add (.var 5) (.lit (.int 3))) (.lit (.int 7))) (.nil))))) 0 (.ep (.lit (.int 7))) (.none)))) (.nil)))) (.cons (.asg 4 (.call PL (.cons (.bin .fdiv (.var 0) (.lit (.int 96))) (.cons (.var 2) (.nil))))) (.nil))) (.nil))) (.nil))) (.cons (.ret (.tup (.cons (.var 2) (.cons (.call za (.cons (.comp (.tupI (.seq (.prim .sorted (.var 5)))) 0 (.seq (.var 4)) (.none)) (.nil))) (.nil))))) (.nil))))
noncomputable def xU(og:Nat):B:=.cons (.asg 2 (.lst (.nil))) (.cons (.e7 0 [3] (.seq (.idx (.var 0) (.lit (.int 1)))) (.cons (.asg 2 (.bin .add (.var 2) (.call og (.cons (.var 3) (.cons (.bin .add (.var 1) (.lit (.int 1))) (.nil)))))) (.nil))) (.cons (.ret (.prim .eR (.var 2))) (.nil)))
noncomputable def xX :B:=.cons (.ret (.prim .max (.comp (.prim .len (.var 1)) 0 (.seq (.idx (.var 0) (.lit (.int 1)))) (.none)))) (.nil)
noncomputable def xW(Px:Nat)(Pt:Nat):B:=.cons (.asg 1 (.lst (.nil))) (.cons (.e7 0 [2] (.ep (.call Px (.cons (.var 0) (.nil)))) (.cons (.asg 1 (.bin .add (.var 1) (.call Pt (.cons (.var 0) (.cons (.var 2) (.nil)))))) (.nil))) (.cons (.ret (.var 1)) (.nil)))
noncomputable def x3(za:Nat):B:=.cons (.asg 1 (.lst (.nil))) (.cons (.e7 0 [2] (.seq (.var 0)) (.cons (.asg 1 (.bin .add (.var 1) (.kI (.seq (.var 2))))) (.nil))) (.cons (.asg 1 (.prim .eR (.var 1))) (.cons (.ret (.tup (.cons (.prim .len (.var 1)) (.cons (.call za (.cons (.comp (.tupI (.seq (.comp (.kH 1 4) 0 (.seq (.var 3)) (.none)))) 0 (.seq (.var 0)) (.none)) (.nil))) (.nil))))) (.nil))))
noncomputable def xY :B:=.cons (.asg 1 (.kI (.seq (.var 0)))) (.cons (.o6 1 (.bin .sub (.idx (.var 1) (.lit (.int 0))) (.lit (.int 1)))) (.cons (.q3 (.and (.cmp .ne (.var 1) (.lst (.nil))) (.cmp .eq (.idx (.var 1) (.neg (.lit (.int 1)))) (.lit (.int 0)))) (.cons (.pop 1) (.nil))) (.cons (.nF 1) (.nil))))
noncomputable def rC(O6:Nat)(Pp:Nat)(O3:Nat)(yq:Nat)(LR:Nat):B:=.cons (.pf (.cmp .eq (.var 0) (.lit (.int 0))) (.call O6 (.cons (.var 1) (.cons (.var 2) (.nil)))) (.cmp .eq (.var 0) (.lit (.int 1))) (.call Pp (.cons (.var 1) (.cons (.var 2) (.nil)))) (.call O3 (.cons (.var 1) (.nil))) yq ⟨3,LR,1000⟩) (.nil)
noncomputable def uC(PG:Nat):B:=.cons (.iff (.cmp .eq (.var 0) (.lst (.nil))) (.cons (.ret (.lit (.str (Str.ofString "none")))) (.nil)) (.nil)) (.cons (.ret (.call PG (.cons (.var 0) (.nil)))) (.nil))
noncomputable def xS(og:Nat)(Pw:Nat):B:=.cons (.asg 1 (.call Pw (.cons (.var 0) (.nil)))) (.cons (.asg 2 (.lst (.nil))) (.cons (.e7 0 [3] (.qL (.lit (.int 1)) (.idx (.var 0) (.lit (.int 0)))) (.cons (.e7 0 [4] (.seq (.call og (.cons (.tupI (.ep (.idx (.var 0) (.lit (.int 0))))) (.cons (.var 3) (.nil))))) (.cons (.iff (.cmp .gj (.tupI (.seq (.comp (.var 5) 0 (.ep (.idx (.var 0) (.lit (.int 0)))) (.some (.cmp .gj (.var 5) (.var 4)))))) (.var 1)) (.cons (.app 2 (.var 4)) (.nil)) (.nil)) (.nil))) (.nil))) (.cons (.nF 2) (.nil))))
noncomputable def rB :B:=.cons (.iff (.rO .le .lt (.lit (.int 0)) (.var 1) (.prim .len (.var 0))) (.cons (.ret (.idx (.var 0) (.var 1))) (.nil)) (.nil)) (.cons (.ret (.lit (.int 0))) (.nil))
noncomputable def uB(pX:Nat)(EA:Nat)(Ep:Nat)(Pu:Nat)(Pq:Nat)(PM:Nat)(PF:Nat)(PD:Nat):B:=.cons (.asg 1 (.call PF (.cons (.call PD (.cons (.var 0) (.cons (.lit (.int 0)) (.nil)))) (.cons (.lit (.int 6)) (.nil))))) (.cons (.asg 2 (.call PM (.cons (.lit (.int 2)) (.cons (.var 1) (.cons (.lit (.int 0)) (.nil)))))) (.cons (.iff (.cmp .ne (.var 2) (.call Pu (.cons (.call Pq (.cons (.var 1) (.nil))) (.nil)))) (.cons (.ret (.lit (.aU false))) (.nil)) (.nil)) (.cons (.iff (.cmp .eq (.var 2) (.lit (.str (Str.ofString "none")))) (.cons (.ret (.lit (.aU true))) (.nil)) (.nil)) (.cons (.asg 3 (.call EA (.cons (.call Ep (.cons (.var 1) (.nil))) (.nil)))) (.cons (.asg 4 (.call EA (.cons (.call Ep (.cons (.var 2) (.nil))) (.nil)))) (.cons (.e7 0 [5] (.qL (.neg (.lit (.int 1))) (.idx (.var 1) (.lit (.int 0)))) (.cons (.iff (.cmp .ne (.call pX (.cons (.var 4) (.cons (.var 5) (.nil)))) (.call pX (.cons (.var 3) (.cons (.bin .sub (.bin .sub (.idx (.var 1) (.lit (.int 0))) (.lit (.int 3))) (.var 5)) (.nil))))) (.cons (.ret (.lit (.aU false))) (.nil)) (.nil)) (.nil))) (.cons (.ret (.lit (.aU true))) (.nil))))))))
end a5
end
section
namespace e5
open PySem ζ
noncomputable def fds:List la:=[
 ⟨1,0,a5.yc⟩,
 ⟨2,0,a5.x6⟩,
 ⟨2,0,a5.rD 1⟩,
 ⟨1,4,a5.ye 2⟩,
 ⟨1,2,a5.xN⟩,
 ⟨1,2,a5.xP 4⟩,
 ⟨2,0,a5.xM 5⟩,
 ⟨1,3,a5.uD 3 1⟩,
 ⟨2,0,a5.Lv⟩,
 ⟨2,0,a5.Lu⟩,
 ⟨2,0,a5.Lw⟩,
 ⟨1,4,a5.xI 7 4 2⟩,
 ⟨2,3,a5.x8 6⟩,
 ⟨2,0,a5.xK⟩,
 ⟨2,0,a5.xO⟩,
 ⟨2,2,a5.ya 13 0 12⟩,
 ⟨2,0,a5.yd⟩,
 ⟨2,1,a5.x9 16⟩,
 ⟨1,0,a5.x7⟩,
 ⟨2,4,a5.uA 17 18⟩,
 ⟨1,2,a5.xJ 19⟩,
 ⟨1,4,a5.xR 19 17⟩,
 ⟨2,5,a5.yb 21 15 17 19 14 12 20⟩,
 ⟨1,1,a5.xQ 22⟩,
 ⟨2,0,a5.xT⟩,
 ⟨2,1,a5.x1 24⟩,
 ⟨2,1,a5.xV⟩,
 ⟨2,0,a5.xZ⟩,
 ⟨1,2,a5.x5 27⟩,
 ⟨2,2,a5.pI 29⟩,
 ⟨2,4,a5.x4 26⟩,
 ⟨2,3,a5.x2 28 29 30⟩,
 ⟨2,2,a5.xU 29⟩,
 ⟨1,0,a5.xX⟩,
 ⟨1,2,a5.xW 33 32⟩,
 ⟨1,2,a5.x3 28⟩,
 ⟨1,1,a5.xY⟩,
 ⟨3,1,a5.rC 9 10 11 1 0⟩,
 ⟨1,0,a5.uC 35⟩,
 ⟨1,4,a5.xS 29 34⟩,
 ⟨2,0,a5.rB⟩,
 ⟨1,5,a5.uB 40 36 23 38 39 37 31 25⟩]
noncomputable def cs:List D:=[]
noncomputable def up:ki:=λc=>match c with|0=>[0,1000]|1=>[1,0,1000]|_=>[]
noncomputable def pg:eM:=⟨up,cs⟩
noncomputable def G7:List (List Str):=[
 (["cell"]:List Str),
 (["cell","other"]:List Str),
 (["cell","others"]:List Str),
 (["some","distinct","tops","cell","longer"]:List Str),
 (["top","found","corner"]:List Str),
 (["net","found","top"]:List Str),
 (["net","height"]:List Str),
 (["some","met","cell","left"]:List Str),
 (["cell","corner"]:List Str),
 (["net","corner"]:List Str),
 (["net","corner"]:List Str),
 (["net","corners","found","cell","rest"]:List Str),
 (["net","height","found","bit","cell"]:List Str),
 (["chain","marked"]:List Str),
 (["bits","marked"]:List Str),
 (["net","height","lower","own"]:List Str),
 (["one","other"]:List Str),
 (["row","basis","pivot"]:List Str),
 (["bits"]:List Str),
 (["basis","row","left","pivot","wider","other"]:List Str),
 (["rows","basis","row"]:List Str),
 (["rows","basis","found","row","left"]:List Str),
 (["net","height","reached","marked","found","bits","row"]:List Str),
 (["net","highest"]:List Str),
 (["_law_script","_law_k"]:List Str),
 (["_law_script","_law_k","_law_drawn_here"]:List Str),
 (["_law_number","_law_k","_law_drawn_here"]:List Str),
 (["_law_cell","_law_other"]:List Str),
 (["_law_some_here","_law_found","_law_cell"]:List Str),
 (["_law_cell","_law_size","_law_found","_law_at_here"]:List Str),
 (["_law_number","_law_many","_law_found","_law_k","_law_drawn_here","_law_cell"]:List Str),
 (["_law_number","_law_most","_law_many","_law_kind","_law_some_here"]:List Str),
 (["_law_net_here","_law_height","_law_found","_law_top"]:List Str),
 (["_law_net_here"]:List Str),
 (["_law_net_here","_law_found","_law_height"]:List Str),
 (["_law_some_here","_law_corners","_law_cell"]:List Str),
 (["_law_some_here","_law_found"]:List Str),
 (["_law_which","_law_net_here","_law_corner","e"]:List Str),
 (["_law_some_here"]:List Str),
 (["_law_net_here","_law_every_here","_law_found","_law_size","_law_cell"]:List Str),
 (["_law_some_here","_law_k"]:List Str),
 (["_law_script","_law_net_here","_law_found","_law_here","_law_there","_law_k"]:List Str)]
noncomputable def gt:Gt:=⟨[("sides":Str),("lies_in":Str),("lies_in_one":Str),("uppermost":Str),("cells_within":Str),("every_cell":Str),("cells_of_height":Str),("numbered_anew":Str),("left_out":Str),("around":Str),("without":Str),("against":Str),("marks":Str),("bits_of":Str),("chain_of":Str),("rim_rows":Str),("sum_of_rows":Str),("reduced":Str),("lowest_bit":Str),("grown":Str),("basis_of":Str),("idle_parts":Str),("rounds_about":Str),("holes":Str),("_law_cell_at":Str),("_law_mixed":Str),("_law_drawn":Str),("_law_lies":Str),("_law_tops":Str),("_law_parts":Str),("_law_some":Str),("_law_net":Str),("_law_cells":Str),("_law_high":Str),("_law_every":Str),("_law_numbered":Str),("_law_less":Str),("_law_told":Str),("_law_due":Str),("_law_against":Str),("_law_at":Str),("law":Str)],["HoleError","NoNet"],[]⟩
end e5
end
section
namespace ζ
section
variable{pg:eM}{Φ:e3}{ρ:bx}
noncomputable def xy(pg:eM)(Φ:e3)(ρ:bx)(r:R D)(b:E):R D:=r>>=λx=>eu x>>=λk=>if k then ev pg Φ ρ b else .ok (.aU false)
noncomputable def BA(pg:eM)(Φ:e3)(r:R eH)(b:B):R eH:=r>>=λx=>match x with
 |.bJ bP=>eN pg Φ bP b
 |.cI d=>.ok (.cI d)
noncomputable def Ae(pg:eM)(Φ:e3)(ρ:bx)(r:R D)(a b:B):R eH:=r>>=λx=>eu x>>=λk=>if k then eN pg Φ ρ a else eN pg Φ ρ b
noncomputable def turn(pg:eM)(Φ:e3)(k:Nat)(ts:List Nat)(b:B)(d:D)(ρ:bx):R eH:=gu k d>>=λag=>eN pg Φ (mc ts ag ρ) b
noncomputable def elem(pg:eM)(Φ:e3)(ρ:bx)(e:E)(k:Nat)(c:O)(d:D):R (Option D):=gu k d>>=λag=>mW pg Φ (ρ++ag) c>>=λb=>if b then ev pg Φ (ρ++ag) e>>=λy=>.ok (some y) else .ok none
def y0(i:Nat){d:D}(h:ρ[i]?=some (some d)):ev pg Φ ρ (.var i)=.ok d:=acp zh h
def u1(i:Nat):ev pg Φ ρ (.var i)=zh ρ[i]?:=a9 rfl
def OB{d:D}{r:bx}:ev pg Φ (some d::r) (.var 0)=.ok d:=a9 rfl
def OC{o:Option D}{r:bx}{i:Nat}:ev pg Φ (o::r) (.var (i+1))=ev pg Φ r (.var i):=a9 rfl
def Ef(d:D):ev pg Φ ρ (.lit d)=.ok d:=a9 rfl
def OA(a:A):ev pg Φ ρ (.tup a)=hV pg Φ ρ a>>=λds=>.ok (.tup ds):=a9 rfl
def Ow(a:A):ev pg Φ ρ (.lst a)=hV pg Φ ρ a>>=λds=>.ok (.lst ds):=a9 rfl
def Oo(op:Op)(a b:E):ev pg Φ ρ (.bin op a b)=ev pg Φ ρ a>>=λx=>ev pg Φ ρ b>>=λy=>eE op x y:=a9 rfl
def Ei(a:E):ev pg Φ ρ (.neg a)=ev pg Φ ρ a>>=λx=>gs x>>=λi=>.ok (.int (-i)):=a9 rfl
def uZ(i:Nat):g7 pg Φ ρ (.mU i)=pQ ρ[i]?:=a9 rfl
def Ox(a:E):ev pg Φ ρ (.not a)=ev pg Φ ρ a>>=λx=>eu x>>=λb=>.ok (.aU (!b)):=a9 rfl
def Ot(op:mw)(a b:E):ev pg Φ ρ (.cmp op a b)=ev pg Φ ρ a>>=λx=>ev pg Φ ρ b>>=λy=>dX op x y>>=λc=>.ok (.aU c):=a9 rfl
def Om(a b:E):ev pg Φ ρ (.and a b)=xy pg Φ ρ (ev pg Φ ρ a) b:=a9 rfl
def Ov(a b:E):ev pg Φ ρ (.idx a b)=ev pg Φ ρ a>>=λx=>ev pg Φ ρ b>>=λy=>fU x y:=a9 rfl
def Oz(a:E)(lo aj:O):ev pg Φ ρ (.slice a lo aj)=ev pg Φ ρ a>>=λx=>mX pg Φ ρ lo>>=λl=>mX pg Φ ρ aj>>=λh=>kW x l h:=a9 rfl
def Oq(f:Nat)(a:A):ev pg Φ ρ (.call f a)=hV pg Φ ρ a>>=λds=>Φ f ds:=a9 rfl
def Oy(p:dW)(a:E):ev pg Φ ρ (.prim p a)=ev pg Φ ρ a>>=λx=>kS pg.up p x:=a9 rfl
def yZ(s:I):ev pg Φ ρ (.tupI s)=g7 pg Φ ρ s>>=λds=>.ok (.tup ds):=a9 rfl
def Eh(s:I):ev pg Φ ρ (.kI s)=g7 pg Φ ρ s>>=λds=>.ok (.lst ds):=a9 rfl
def Ed(e:E)(k:Nat)(s:I)(c:O):ev pg Φ ρ (.comp e k s c)=g7 pg Φ ρ s>>=λds=>l5 (dj (elem pg Φ ρ e k c) ds)>>=λys=>.ok (.lst ys):=a9 rfl
def vR{α:Type}(a:α):l5 (.ok a)=.ok a:=a9 rfl
def Ea:hV pg Φ ρ .nil=.ok []:=a9 rfl
def D9(e:E)(a:A):hV pg Φ ρ (.cons e a)=ev pg Φ ρ e>>=λx=>hV pg Φ ρ a>>=λxs=>.ok (x::xs):=a9 rfl
def Oj:mX pg Φ ρ .none=.ok none:=a9 rfl
def Ol(e:E):mX pg Φ ρ (.some e)=ev pg Φ ρ e>>=λx=>gs x>>=λi=>.ok (some i):=a9 rfl
def Eb:mW pg Φ ρ .none=.ok true:=a9 rfl
def Oh(e:E):mW pg Φ ρ (.some e)=ev pg Φ ρ e>>=λx=>eu x:=a9 rfl
def u0(e:E):g7 pg Φ ρ (.seq e)=ev pg Φ ρ e>>=λx=>er x:=a9 rfl
def Oi(a:E):g7 pg Φ ρ (.ep a)=ev pg Φ ρ a>>=λx=>gs x>>=λi=>iU 0 i:=a9 rfl
def Lj(b:Bool):eu (.aU b)=.ok b:=a9 rfl
def Lk(i:Int):gs (.int i)=.ok i:=a9 rfl
def Xw(xs:List D):er (.tup xs)=.ok xs:=a9 rfl
def IM(xs:List D):er (.lst xs)=.ok xs:=a9 rfl
def LB(d:D):gu 0 d=.ok [some d]:=a9 rfl
def KZ(b:E):xy pg Φ ρ (.ok (.aU true)) b=ev pg Φ ρ b:=a9 rfl
def KY(b:E):xy pg Φ ρ (.ok (.aU false)) b=.ok (.aU false):=a9 rfl
def OI:eN pg Φ ρ .nil=.ok (.bJ ρ):=a9 rfl
def OH(s:S)(b:B):eN pg Φ ρ (.cons s b)=BA pg Φ (ex pg Φ ρ s) b:=a9 rfl
def Xt(b:B):BA pg Φ (.ok (.bJ ρ)) b=eN pg Φ ρ b:=a9 rfl
def Xu(d:D)(b:B):BA pg Φ (.ok (.cI d)) b=.ok (.cI d):=a9 rfl
def El(i:Nat)(e:E):ex pg Φ ρ (.asg i e)=ev pg Φ ρ e>>=λd=>.ok (.bJ (ρ.set i (some d))):=a9 rfl
noncomputable def B6(pg:eM)(r:R eH)(k:Nat)(h:aX):R eH:=JN r λc=>i7 pg c k h
def y2(cy aG bU aV c5:E)(k:Nat)(h:aX):ex pg Φ ρ (.pf cy aG bU aV c5 k h)=B6 pg (lK pg Φ ρ cy aG bU aV c5) k h:=a9 rfl
def yY(op op':mw)(a b c:E):ev pg Φ ρ (.rO op op' a b c)=ev pg Φ ρ a>>=λx=>ev pg Φ ρ b>>=λy=>dX op x y>>=λk=>if k then ev pg Φ ρ c>>=λz=>dX op' y z>>=λcL=>.ok (.aU cL) else .ok (.aU false):=a9 rfl
def Ec(a b:E):g7 pg Φ ρ (.qL a b)=ev pg Φ ρ a>>=λx=>gs x>>=λi=>ev pg Φ ρ b>>=λy=>gs y>>=λj=>iU i j:=a9 rfl
def OR(i:Nat)(e:E):ex pg Φ ρ (.qK i e)=jI ρ[i]?>>=λ_=>ev pg Φ ρ e>>=λd=>.ok (.cI d):=a9 rfl
def JM(x:eH)(k:Nat)(h:aX):B6 pg (.ok x) k h=.ok x:=a9 rfl
def JL(c k:Nat)(h:aX):B6 pg (.exc c) k h=i7 pg c k h:=a9 rfl
def OJ(i:Nat)(e:E):ex pg Φ ρ (.app i e)=jI ρ[i]?>>=λ_=>ev pg Φ ρ e>>=λd=>ru ρ[i]? d>>=λx=>.ok (.bJ (ρ.set i (some x))):=a9 rfl
def OQ(i:Nat):ex pg Φ ρ (.nF i)=vL ρ[i]?>>=λd=>.ok (.cI d):=a9 rfl
def Ts(ds:List D):vL (some (some (.lst ds)))=.ok (.lst ds):=a9 rfl
def OP(e:E):ex pg Φ ρ (.ret e)=ev pg Φ ρ e>>=λd=>.ok (.cI d):=a9 rfl
def ON(c:E)(a b:B):ex pg Φ ρ (.iff c a b)=Ae pg Φ ρ (ev pg Φ ρ c) a b:=a9 rfl
def R5(a b:B):Ae pg Φ ρ (.ok (.aU true)) a b=eN pg Φ ρ a:=a9 rfl
def R4(a b:B):Ae pg Φ ρ (.ok (.aU false)) a b=eN pg Φ ρ b:=a9 rfl
def OM(k:Nat)(ts:List Nat)(s:I)(b:B):ex pg Φ ρ (.e7 k ts s b)=g7 pg Φ ρ s>>=λds=>forL (turn pg Φ k ts b) ds ρ:=a9 rfl
def Ww{nl:Nat}{b:B}(x:D):c6 pg Φ ⟨1,nl,b⟩ [x]=oc (eN pg Φ (some x::List.replicate nl none) b):=a9 rfl
def Wx{nl:Nat}{b:B}(x y:D):c6 pg Φ ⟨2,nl,b⟩ [x,y]=oc (eN pg Φ (some x::some y::List.replicate nl none) b):=a9 rfl
def N1(d:D):oc (.ok (.cI d))=.ok d:=a9 rfl
def Vy(up:ki)(d:D):kS up .len d=lW d:=a9 rfl
def Vz(up:ki)(d:D):kS up .sorted d=er d>>=λxs=>sorted xs:=a9 rfl
def VA(up:ki)(d:D):kS up .eR d=er d>>=λxs=>eR xs:=a9 rfl
def Vw(up:ki)(d:D):kS up .all d=er d>>=λxs=>mG xs>>=λb=>.ok (.aU b):=a9 rfl
def Vx(up:ki)(d:D):kS up .any d=er d>>=λxs=>mH xs>>=λb=>.ok (.aU b):=a9 rfl
def Av(xs:List D):lW (.tup xs)=.ok (.int xs.length):=a9 rfl
def S8(xs:List D):lW (.lst xs)=.ok (.int xs.length):=a9 rfl
def DB(x y:D):dX .eq x y=fw x y:=a9 rfl
def DD(x y:D):dX .ne x y=h7 (fw x y):=a9 rfl
def DC(x y:D):dX .lt x y=tc x y:=a9 rfl
def yG(i j:Int):dX .le (.int i) (.int j)=.ok (decide (i<=j)):=a9 rfl
def cmp_gt(i j:Int):dX .gt (.int i) (.int j)=.ok (decide (j<i)):=a9 rfl
def Ml(x:D)(ys:List D):dX .mem x (.tup ys)=hg x ys:=a9 rfl
def Mn(x:D)(ys:List D):dX .gj x (.tup ys)=h7 (hg x ys):=a9 rfl
def Mm(x:D)(ys:List D):dX .gj x (.lst ys)=h7 (hg x ys):=a9 rfl
def Gz(i j:Int):tc (.int i) (.int j)=.ok (decide (i<j)):=a9 rfl
def Ud(b:Bool):h7 (.ok b)=.ok (!b):=a9 rfl
def N8(i j:Int):fw (.int i) (.int j)=.ok (i==j):=a9 rfl
def yV{x y:D}(h:dh 60 x=true)(h':dh 60 y=true):fw x y=.ok (gb x y):=by simp only[fw,h,h',ae1,acj]
def add_int(i j:Int):eE .add (.int i) (.int j)=.ok (.int (i+j)):=a9 rfl
def sub_int(i j:Int):eE .sub (.int i) (.int j)=.ok (.int (i-j)):=a9 rfl
def uv(xs ys:List D):eE .add (.tup xs) (.tup ys)=if xs.length+ys.length<=SZ then .ok (.tup (xs++ys)) else .bad:=a9 rfl
def mF(xs ys:List D):eE .add (.lst xs) (.lst ys)=if xs.length+ys.length<=SZ then .ok (.lst (xs++ys)) else .bad:=a9 rfl
def mul_int(i j:Int):eE .mul (.int i) (.int j)=if (-gY<i/\i<gY)\/(-gY<j/\j<gY) then .ok (.int (i*j)) else .bad:=a9 rfl
def Et(i j:Int):eE .fdiv (.int i) (.int j)=if 0<j/\j<1073741824 then .ok (.int (i / j)) else .bad:=a9 rfl
def mod_int(i j:Int):eE .mod (.int i) (.int j)=if 0<j then .ok (.int (i%j)) else .bad:=a9 rfl
def FR(xs:List D)(i:Int):fU (.tup xs) (.int i)=(match iI xs i with|some d=>.ok d|none=>.bad):=a9 rfl
def sQ(xs:List D)(i:Int):fU (.lst xs) (.int i)=(match iI xs i with|some d=>.ok d|none=>.bad):=a9 rfl
def wA(xs:List D)(lo aj:Option Int):kW (.tup xs) lo aj=.ok (.tup (cut xs lo aj)):=a9 rfl
def I3(xs:List D)(lo aj:Option Int):kW (.lst xs) lo aj=.ok (.lst (cut xs lo aj)):=a9 rfl
def uI(xs:List D):jI (some (some (.lst xs)))=.ok ():=a9 rfl
def ux(xs:List D)(d:D):ru (some (some (.lst xs))) d=if xs.length<SZ then .ok (.lst (xs++[d])) else .bad:=a9 rfl
def Xy{o v:Option D}{r:bx}:(o::r:bx).set 0 v=v::r:=a9 rfl
def XB{o v:Option D}{r:bx}{i:Nat}:(o::r:bx).set (i+1) v=o::r.set i v:=a9 rfl
def PR{o:Option D}{r:bx}:(o::r:bx)[0]?=some o:=a9 rfl
def PZ{o:Option D}{r:bx}{i:Nat}:(o::r:bx)[i+1]?=r[i]?:=a9 rfl
def We{α:Type}(x:α):List.replicate 0 x=[]:=a9 rfl
def Wf{α:Type}(n:Nat)(x:α):List.replicate (n+1) x=x::List.replicate n x:=a9 rfl
def Zq(i:Nat)(b:B)(d:D):turn pg Φ 0 [i] b d ρ=eN pg Φ (ρ.set i (some d)) b:=a9 rfl
def uX(e:E)(c:O)(d:D):elem pg Φ ρ e 0 c d=mW pg Φ (ρ++[some d]) c>>=λb=>if b then ev pg Φ (ρ++[some d]) e>>=λy=>.ok (some y) else .ok none:=a9 rfl
end
end ζ
end
section
def ζ.DNA:=And.intro (And.intro (And.intro (And.intro (And.intro (And.intro (@ζ.OB) (@ζ.OC)) (And.intro (@ζ.Ef) (And.intro (@ζ.OA) (@ζ.Ow)))) (And.intro (And.intro (@ζ.Oo) (And.intro (@ζ.Ox) (@ζ.Ot))) (And.intro (@ζ.Om) (And.intro (@ζ.Ov) (@ζ.Oz))))) (And.intro (And.intro (And.intro (@ζ.Oq) (@ζ.Oy)) (And.intro (@ζ.yZ) (And.intro (@ζ.Eh) (@ζ.Ed)))) (And.intro (And.intro (@ζ.vR) (And.intro (@ζ.Ea) (@ζ.D9))) (And.intro (@ζ.Oj) (And.intro (@ζ.Ol) (@ζ.Eb)))))) (And.intro (And.intro (And.intro (And.intro (@ζ.Oh) (@ζ.u0)) (And.intro (@ζ.Oi) (And.intro (@ζ.Lj) (@ζ.Lk)))) (And.intro (And.intro (@ζ.Xw) (And.intro (@ζ.IM) (@ζ.LB))) (And.intro (@ζ.KZ) (And.intro (@ζ.KY) (@ζ.OI))))) (And.intro (And.intro (And.intro (@ζ.OH) (And.intro (@ζ.Xt) (@ζ.Xu))) (And.intro (@ζ.El) (And.intro (@ζ.OJ) (@ζ.uI)))) (And.intro (And.intro (@ζ.OP) (And.intro (@ζ.OQ) (@ζ.Ts))) (And.intro (@ζ.ON) (And.intro (@ζ.R5) (@ζ.R4))))))) (And.intro (And.intro (And.intro (And.intro (And.intro (@ζ.OM) (@ζ.Ww)) (And.intro (@ζ.Wx) (And.intro (@ζ.N1) (@ζ.Vy)))) (And.intro (And.intro (@ζ.Vz) (And.intro (@ζ.VA) (@ζ.Vw))) (And.intro (@ζ.Vx) (And.intro (@ζ.Av) (@ζ.S8))))) (And.intro (And.intro (And.intro (@ζ.DB) (@ζ.DD)) (And.intro (@ζ.DC) (And.intro (@ζ.cmp_gt) (@ζ.Ml)))) (And.intro (And.intro (@ζ.Mn) (And.intro (@ζ.Mm) (@ζ.Gz))) (And.intro (@ζ.Ud) (And.intro (@ζ.N8) (@ζ.add_int)))))) (And.intro (And.intro (And.intro (And.intro (@ζ.sub_int) (@ζ.wA)) (And.intro (@ζ.I3) (And.intro (@ζ.Xy) (@ζ.XB)))) (And.intro (And.intro (@ζ.PR) (And.intro (@ζ.PZ) (@ζ.We))) (And.intro (@ζ.Wf) (And.intro (@ζ.Zq) (@ζ.uX))))) (And.intro (And.intro (And.intro (@ζ.R.jk) (And.intro (@ζ.R.OV) (@acN.{0}))) (And.intro (@List.nil_append.{0}) (And.intro (@List.length_cons.{0}) (@List.length_nil.{0})))) (And.intro (And.intro (@ac3) (And.intro (@acj.{1}) (@acR))) (And.intro (@aeK) (And.intro (@abx) (@abS.{1})))))))
end
local macro_rules | `(tactic| simp![$xs,*] $[$l]?) => `(tactic| simp only [ζ.DNA, Nat.reduceAdd, $xs,*] $[$l]?)
local macro_rules | `(tactic| simp! $[$l:location]?) => `(tactic| simp only [ζ.DNA, Nat.reduceAdd] $[$l]?)
section
namespace bf
open ζ
theorem DG:∀{ds:List D},(∀d∈ds,f d=.ok (g d))->dj f ds=.ok (ds.filterMap g)
 |[],_=>rfl
 |d::ds,h=>by
  have J:=h d List.mem_cons_self;have aa:=DG (f:=f) (g:=g) (ds:=ds) λx ai=>h x (List.mem_cons_of_mem _ ai)
  unfold dj;rw[J];simp only[R.jk];rw[aa];simp only[R.jk,List.filterMap_cons];cases g d<;>rfl
theorem yl{α:Type}(p):∀xs:List α,ie (xs.map λx=>.aU (p x))=some (xs.map p)
 |[]=>rfl
 |x::xs=>by simp only[List.map_cons,ie,yl p xs,Option.map_some]
def KU{α:Type}(p)(xs:List α):mG (xs.map λx=>.aU (p x))=.ok (xs.all p):=by
 unfold mG;rw[yl];simp only[List.all_map];rfl
def CQ{α:Type}(p)(xs:List α):mH (xs.map λx=>.aU (p x))=.ok (xs.any p):=by
 unfold mH;rw[yl];simp only[List.any_map];rfl
theorem EF{α:Type}{f:α->D}(I:List α->bx->Prop)(all):∀(xs pre:List α)(ρ:bx),all=pre++xs->I pre ρ ->
  (∀pre x post ρ,all=pre++x::post->I pre ρ->∃bP,g (f x) ρ=.ok (.bJ bP)/\I (pre++[x]) bP)->∃bP,forL g (xs.map f) ρ=.ok (.bJ bP)/\I all bP
 |[],pre,ρ,e,h,_=>⟨ρ,rfl,by rw[e];simpa using h⟩
 |x::xs,pre,ρ,e,h,af=>by
  obtain⟨Z5,e1,d9⟩:=af pre x xs ρ e h;obtain⟨jt,ar,fz⟩:=EF I all xs (pre++[x]) Z5 (by rw[e];simp) d9 af;refine⟨jt,?_,fz⟩;simp only[List.map_cons,forL,e1,R.jk];exact ar
def gc{α:Type}{f:α->D}(I:List α->bx->Prop)(xs)(ρ)(h:I [] ρ)(af:∀pre x post ρ,xs=pre++x::post->I pre ρ->∃bP,g (f x) ρ=.ok (.bJ bP)/\I (pre++[x]) bP):∃bP,forL g (xs.map f) ρ=.ok (.bJ bP)/\I xs bP :=
 EF I xs xs [] ρ rfl h af
noncomputable def av(c:List Int):D:=.tup (c.map .int)
theorem yS:∀a b:List Int,ko (a.map .int) (b.map .int)=decide (a=b)
 |[],[]=>rfl
 |[],_::_=>rfl
 |_::_,[]=>rfl
 |x::a,y::b=>by
  show(x==y&&ko (a.map .int) (b.map .int))=_;rw[yS a b]
  by_cases J:x=y
  .subst J;by_cases aa:a=b<;>simp[aa]
  .simp[J]
def pU(a b):gb (av a) (av b)=decide (a=b):=yS a b
theorem D4:∀a b:List (List Int),ko (a.map av) (b.map av)=decide (a=b)
 |[],[]=>rfl
 |[],_::_=>rfl
 |_::_,[]=>rfl
 |x::a,y::b=>by
  show(gb (av x) (av y)&&ko (a.map av) (b.map av))=_;rw[pU,D4 a b]
  by_cases J:x=y
  .subst J;by_cases aa:a=b<;>simp[aa]
  .simp[J]
noncomputable def lexLt:List Int->List Int->Bool
 |[],[]=>false
 |[],_::_=>true
 |_::_,[]=>false
 |x::xs,y::ys=>if x=y then lexLt xs ys else decide (x<y)
theorem tb:∀a b:List Int,kL (a.map .int) (b.map .int)=some (lexLt a b)
 |[],[]=>rfl
 |[],_::_=>rfl
 |_::_,[]=>rfl
 |x::a,y::b=>by
  show(if (x==y)=true then kL (a.map .int) (b.map .int) else some (decide (x<y)))=some (if x=y then lexLt a b else decide (x<y));rw[tb a b]
  by_cases h:x=y<;>simp[h]
def ta(a b):kK (av a) (av b)=some (lexLt a b):=tb a b
def TF(x)(xs:List Int):memD (.int x) (xs.map .int)=decide (x∈xs):=by
 unfold memD
 induction xs with
 |nil=>simp
 |cons y ys aE =>
  rw[List.map_cons,List.any_cons,aE];show(y==x||_)=_
  by_cases h:y=x
  .subst h;simp
  .have:¬x=y:=λe=>h e.symm
   simp[h,this]
def TC(c)(cs:List (List Int)):memD (av c) (cs.map av)=decide (c∈cs):=by
 unfold memD
 induction cs with
 |nil=>simp
 |cons y ys aE =>
  simp only[List.map_cons,List.any_cons,aE,pU,abA]
  by_cases h:y=c
  .subst h;simp
  .have:¬c=y:=λe=>h e.symm
   simp[h,this]
theorem Az:∀a:List Int,lexLt a a=false
 |[]=>rfl
 |x::a=>by simp[lexLt,Az a]
theorem AA:∀{a b c:List Int},lexLt a b=true->lexLt b c=true->lexLt a c=true
 |[],[],_,h,_=>by simp[lexLt]at h
 |[],_::_,[],_,h=>by simp[lexLt]at h
 |[],_::_,_::_,_,_=>rfl
 |_::_,[],_,h,_=>by simp[lexLt]at h
 |_::_,_::_,[],_,h=>by simp[lexLt]at h
 |x::a,y::b,z::c,J,aa=>by
  simp only[lexLt]at *
  split at J<;>split at aa
  .rename_i e1 ar;subst e1;subst ar;rw[if_pos rfl];exact AA J aa
  .rename_i e1 ar;subst e1;rw[if_neg ar];exact aa
  .rename_i e1 ar;subst ar;rw[if_neg e1];exact J
  .rename_i e1 ar;simp only[abN]at J aa;rw[if_neg ⋯];simp;lia
theorem Ay:∀a b:List Int,a≠b->lexLt a b=true\/lexLt b a=true
 |[],[],h=>absurd rfl h
 |[],_::_,_=>.inl rfl
 |_::_,[],_=>.inr rfl
 |x::a,y::b,h=>by
  simp only[lexLt]
  by_cases e:x=y
  .subst e;have h':a≠b:=λe=>h (by rw[e])
   simpa using Ay a b h'
  .have bk:¬y=x:=λz=>e z.symm
   rw[if_neg e,if_neg bk];simp only[abN];lia
section
variable{α:Type}
noncomputable def ins(lt:α->α->Bool)(x:α):List α->List α
 |[]=>[x]
 |y::ys=>if lt y x=true then y::ins lt x ys else x::y::ys
noncomputable def c7(lt:α->α->Bool):List α->List α
 |[]=>[]
 |x::xs=>ins lt x (c7 lt xs)
noncomputable def c8[DecidableEq α]:List α->List α
 |[]=>[]
 |x::xs=>if x∈xs then c8 xs else x::c8 xs
variable{lt:α->α->Bool}
theorem FU(h:∀a b,kK (f a) (f b)=some (lt a b))(x):∀ys:List α,qj (f x) (ys.map f)=(ins lt x ys).map f
 |[]=>rfl
 |y::ys=>by
  simp only[List.map_cons,qj,ins,h,acq]
  split
  .simp[FU h x ys]
  .rfl
theorem me(h:∀a b,kK (f a) (f b)=some (lt a b)):∀xs:List α,hj (xs.map f)=(c7 lt xs).map f
 |[]=>rfl
 |x::xs=>by simp only[List.map_cons,hj,c7,me h xs,FU h]
theorem rS[DecidableEq α](h:∀a b,gb (f a) (f b)=decide (a=b)):∀xs:List α,lD (xs.map f)=(c8 xs).map f
 |[]=>rfl
 |x::xs=>by
  have e:(xs.map f).any (gb (f x))=decide (x∈xs):=by
   rw[List.any_map]
   induction xs with
   |nil=>simp
   |cons y ys aE=>simp only[List.any_cons,aE,Function.comp,h,abA];by_cases q:x=y<;>simp[q]
  simp only[List.map_cons,lD,c8,e,rS h xs,abN]
  split<;>rfl
theorem l3(x z):∀ys:List α,z∈ins lt x ys<->z=x\/z∈ys
 |[]=>by simp[ins]
 |y::ys=>by
  unfold ins
  split
  .simp only[abA,l3 x z ys];constructor
   .rintro(h|h|h)
    .exact .inr (.inl h)
    .exact .inl h
    .exact .inr (.inr h)
   .rintro(h|h|h)
    .exact .inr (.inl h)
    .exact .inl h
    .exact .inr (.inr h)
  .simp
theorem jV(z):∀xs:List α,z∈c7 lt xs<->z∈xs
 |[]=>by simp[c7]
 |x::xs=>by unfold c7;rw[l3,jV z xs];simp
theorem qq(x):∀ys:List α,(ins lt x ys).length=ys.length+1
 |[]=>rfl
 |y::ys=>by unfold ins;split<;>simp[qq x ys]
theorem ni:∀xs:List α,(c7 lt xs).length=xs.length
 |[]=>rfl
 |x::xs=>by unfold c7;rw[qq,ni xs];simp
theorem jU[DecidableEq α](z):∀xs:List α,z∈c8 xs<->z∈xs
 |[]=>by simp[c8]
 |x::xs=>by
  unfold c8
  split
  .rename_i h;rw[jU z xs,abA];exact⟨.inr,λq=>q.elim (λe=>e▸h) id⟩
  .simp[jU z xs]
theorem nB[DecidableEq α]:∀xs:List α,(c8 xs).Nodup
 |[]=>adA
 |x::xs=>by
  unfold c8
  split
  .exact nB xs
  .rename_i h;exact ab9.mpr ⟨λq=>h ((jU x xs).mp q),nB xs⟩
structure g4(lt:α->α->Bool):Prop where
 fL:∀a,lt a a=false
 fD:∀{a b c},lt a b=true->lt b c=true->lt a c=true
 conn:∀a b,a≠b->lt a b=true\/lt b a=true
def b9(lt:α->α->Bool)(xs:List α):Prop:=xs.Pairwise λa b=>lt a b=true
theorem pF(L:g4 lt)(x):∀{ys:List α},b9 lt ys->x∉ys->b9 lt (ins lt x ys)
 |[],_,_=>ac8 _ _
 |y::ys,h,ai=>by
  obtain⟨J,aa⟩:=abT.mp h;have sL:x≠y:=λe=>ai (by simp[e])
  unfold ins
  split
  .rename_i q;refine abT.mpr ⟨λz hz=>?_,pF L x aa λq=>ai (List.mem_cons_of_mem _ q)⟩;rcases(l3 x z ys).mp hz with e|e
   .subst e;exact q
   .exact J z e
  .rename_i q;have cN:lt x y=true:=(L.conn x y sL).resolve_right q;refine abT.mpr ⟨λz hz=>?_,h⟩;rcases abA.mp hz with e|e
   .subst e;exact cN
   .exact L.fD cN (J z e)
theorem lr(L:g4 lt):∀{xs:List α},xs.Nodup->b9 lt (c7 lt xs)
 |[],_=>List.Pairwise.nil
 |x::xs,h=>pF L x (lr L (ab9.mp h).2) λq=>(ab9.mp h).1 ((jV x xs).mp q)
def b9.nodup(L:g4 lt)(h:b9 lt xs):xs.Nodup:=acS (λ{a b} q e=>by subst e;rw[L.fL]at q;cases q) h
theorem jE(L:g4 lt):∀{xs ys:List α},b9 lt xs->b9 lt ys->(∀z,z∈xs<->z∈ys)->xs=ys
 |[],[],_,_,_=>rfl
 |[],y::_,_,_,h=>absurd ((h y).mpr List.mem_cons_self) (by simp)
 |x::_,[],_,_,h=>absurd ((h x).mp List.mem_cons_self) (by simp)
 |x::xs,y::ys,ai,aQ,h=>by
  obtain⟨aT,b7⟩:=abT.mp ai;obtain⟨q8,mn⟩:=abT.mp aQ;have e:x=y:=by
   rcases abA.mp ((h x).mp List.mem_cons_self) with e|e
   .exact e
   .rcases abA.mp ((h y).mpr List.mem_cons_self) with bk|bk
    .exact bk.symm
    .have a:=q8 x e;have b:=aT y bk;have:=L.fD a b;rw[L.fL]at this;cases this
  subst e;have bJ:x∉xs:=λq=>by have:=aT x q;rw[L.fL]at this;cases this
  have Ul:x∉ys:=λq=>by have:=q8 x q;rw[L.fL]at this;cases this
  rw[jE L b7 mn λz=>?_];constructor
  .intro hz;rcases abA.mp ((h z).mp (List.mem_cons_of_mem _ hz)) with e|e
   .subst e;exact absurd hz bJ
   .exact e
  .intro hz;rcases abA.mp ((h z).mpr (List.mem_cons_of_mem _ hz)) with e|e
   .subst e;exact absurd hz Ul
   .exact e
def X3(L:g4 lt)(h:b9 lt xs):c7 lt xs=xs:=jE L (lr L (h.nodup L)) h λz=>jV z xs
theorem uR[DecidableEq α]:∀xs:List α,(c8 xs).length<=xs.length
 |[]=>abz _
 |x::xs=>by unfold c8;have:=uR xs;split<;>simp<;>lia
theorem iS[DecidableEq α]:∀{xs ys:List α},xs.Nodup->(∀z∈xs,z∈ys)->xs.length<=ys.length
 |[],_,_,_=>abZ _
 |x::xs,ys,h,af=>by
  obtain⟨J,aa⟩:=ab9.mp h;have ai:=af x List.mem_cons_self;have:=iS (xs:=xs) (ys:=ys.erase x) aa λz hz=>by
   have d1:z≠x:=λe=>J (e▸hz)
   exact(List.mem_erase_of_ne d1).mpr (af z (List.mem_cons_of_mem _ hz))
  rw[List.length_erase_of_mem ai]at this;have aB:0<ys.length:=List.length_pos_of_mem ai;simp only[List.length_cons];lia
end
def kG:g4 lexLt:=⟨Az,AA,Ay⟩
noncomputable def ltI(a b:Int):Bool:=decide (a<b)
def hc:g4 ltI:=⟨λa=>by simp[ltI],λJ aa=>by simp[ltI]at *;lia,λa b h=>by simp[ltI];lia⟩
def vM(is:List Int):(is.map D.int).all (fA 0)=true:=by simp[List.all_map,fA]
def yJ{cs:List (List Int)}(aC:∀c∈cs,c≠[]):(cs.map av).all qn=true:=by
 rw[List.all_map,ab1];intro c ah;cases c with
 |nil=>exact absurd rfl (aC [] ah)
 |cons x c=>show(fA 0 (.int x)&&(c.map D.int).all (fA 0))=true;rw[vM];rfl
def XY{cs:List Int}(h:cs.length<=63):sorted (cs.map .int)=.ok (.lst ((c7 ltI cs).map .int)):=by
 unfold sorted h4;rw[vM];simp[me (f:=D.int) (lt:=ltI) λa b=>rfl,h]
def wI{cs:List (List Int)}(aC:∀c∈cs,c≠[])(h:(c8 cs).length<=63):eR (cs.map av)=.ok (.lst ((c7 lexLt (c8 cs)).map av)):=by
 unfold eR h4;rw[yJ aC,rS pU,me (lt:=lexLt) ta];simp[h]
def N6(a b):gb (.int a) (.int b)=decide (a=b):=Bool.beq_eq_decide_eq a b
def Jg{cs:List Int}(h:(c8 cs).length<=63):eR (cs.map .int)=.ok (.lst ((c7 ltI (c8 cs)).map .int)):=by
 unfold eR h4;rw[vM,rS (f:=D.int) N6,me (f:=D.int) (lt:=ltI) λa b=>rfl];simp[h]
def D3(a b):gb (.int a) (.int b)=decide (a=b):=Bool.beq_eq_decide_eq a b
def tU(n)(i):dh n (.int i)=true:=by cases n<;>rfl
def BE(n)(c:List Int):(c.map D.int).all (dh n)=true:=by simp[List.all_map,tU]
def wq(n)(c):dh (n+1) (av c)=true:=BE n c
def wt(n)(cs:List (List Int)):(cs.map av).all (dh (n+1))=true:=by simp[List.all_map,wq]
def AJ(x)(c:List Int):hg (.int x) (c.map .int)=.ok (decide (x∈c)):=by
 unfold hg;rw[tU,BE,TF];rfl
def TG(c)(cs:List (List Int)):hg (av c) (cs.map av)=.ok (decide (c∈cs)):=by
 unfold hg;rw[wq,wt,TC];rfl
def N7(a b):fw (av a) (av b)=.ok (decide (a=b)):=by unfold fw;rw[wq,wq,pU];rfl
def N9(a b:List Int):fw (.lst (a.map .int)) (.lst (b.map .int))=.ok (decide (a=b)):=by
 have h:∀a:List Int,dh 60 (.lst (a.map .int))=true:=λa=>BE 59 a
 unfold fw;rw[h,h];exact acp R.ok (yS a b)
def yU(h:ys.all (dh 59)=true):fw (.lst ys) (.lst [])=.ok ys.isEmpty:=by
 have J:dh 60 (.lst ys)=true:=h;have aa:dh 60 (.lst [])=true:=rfl;unfold fw;rw[J,aa];cases ys<;>rfl
def Oa(h:ys.all (dh 59)=true):fw (.tup ys) (.tup [])=.ok ys.isEmpty:=by
 have J:dh 60 (.tup ys)=true:=h;have aa:dh 60 (.tup [])=true:=rfl;unfold fw;rw[J,aa];cases ys<;>rfl
section
variable{α:Type}{lt:α->α->Bool}
def pD(lt:α->α->Bool)(xs:List α):Prop:=xs.Pairwise λa b=>lt b a=false
theorem tv(x):∀ys:List α,(ins lt x ys).Perm (x::ys)
 |[]=>List.Perm.refl _
 |y::ys=>by
  unfold ins
  split
  .exact(List.Perm.cons y (tv x ys)).trans (List.Perm.swap x y ys)
  .exact List.Perm.refl _
theorem tx:∀xs:List α,(c7 lt xs).Perm xs
 |[]=>List.Perm.refl _
 |x::xs=>(tv x (c7 lt xs)).trans (List.Perm.cons x (tx xs))
def Gs(L:g4 lt){a b:α}(h:lt a b=true):lt b a=false:=by
 cases q:lt b a with
 |false=>rfl
 |true=>have:=L.fD h q;rw[L.fL]at this;cases this
def Gr(L:g4 lt){a b c:α}(J:lt b a=false)(aa:lt c b=false):lt c a=false:=by
 cases q:lt c a with
 |false=>rfl
 |true =>
  by_cases e:a=b
  .subst e;rw[aa]at q;cases q
  .rcases L.conn a b e with w|w
   .have:=L.fD q w;rw[aa]at this;cases this
   .rw[J]at w;cases w
theorem Kd(L:g4 lt)(x):∀{ys:List α},pD lt ys->pD lt (ins lt x ys)
 |[],_=>ac8 _ _
 |y::ys,h=>by
  obtain⟨J,aa⟩:=abT.mp h;unfold ins
  split
  .rename_i c;refine abT.mpr ⟨λz hz=>?_,Kd L x aa⟩;rcases(l3 x z ys).mp hz with rfl|hz
   .exact Gs L c
   .exact J z hz
  .rename_i c;refine abT.mpr ⟨λz hz=>?_,h⟩;have c:lt y x=false:=(by simpa using c);rcases abA.mp hz with rfl|hz
   .exact c
   .exact Gr L c (J z hz)
theorem Ke(L:g4 lt):∀xs:List α,pD lt (c7 lt xs)
 |[]=>.nil
 |x::xs=>Kd L x (Ke L xs)
theorem Kf(L:g4 lt):∀{xs ys:List α},pD lt xs->pD lt ys->xs.Perm ys->xs=ys
 |[],ys,_,_,p=>(List.Perm.nil_eq p)
 |x::xs,[],_,_,p=>by have:=p.length_eq;simp at this
 |x::xs,y::ys,ai,aQ,p=>by
  obtain⟨aT,b7⟩:=abT.mp ai;obtain⟨q8,mn⟩:=abT.mp aQ;have e:x=y:=by
   apply acG;intro ne;have sL:y∈xs:=by
    rcases abA.mp (p.mem_iff.mpr List.mem_cons_self) with q|q
    .exact absurd q.symm ne
    .exact q
   have sM:x∈ys:=by
    rcases abA.mp (p.mem_iff.mp List.mem_cons_self) with q|q
    .exact absurd q ne
    .exact q
   rcases L.conn x y ne with w|w
   .rw[q8 x sM]at w;cases w
   .rw[aT y sL]at w;cases w
  subst e;rw[Kf L b7 mn (List.Perm.cons_inv p)]
end
end bf
end
section
namespace eD
def xor_swap(x y a:Nat):(x ^^^ a) ^^^ y=(x ^^^ y) ^^^ a:=by rw[acC,ae9 a y,<- acC]
def Z0(x y a:Nat):(x ^^^ a) ^^^ (y ^^^ a)=x ^^^ y:=by rw[xor_swap,<- acC,acC,acT,ads]
def iC(x a:Nat):(x ^^^ a) ^^^ a=x:=by rw[acC,acT,ads]
noncomputable def sp:List Nat->Nat->Prop
 |[],x=>x=0
 |a::L,x=>sp L x\/sp L (x ^^^ a)
theorem o9:∀L,sp L 0
 |[]=>rfl
 |_::L=>.inl (o9 L)
theorem iW:∀{L:List Nat}{x y:Nat},sp L x->sp L y->sp L (x ^^^ y)
 |[],x,y,J,aa=>by cases J;cases aa;rfl
 |a::L,x,y,J,aa=>by
  rcases J with J|J<;>rcases aa with aa|aa
  .exact .inl (iW J aa)
  .exact .inr (by rw[acC];exact iW J aa)
  .exact .inr (by rw[<- xor_swap];exact iW J aa)
  .exact .inl (by rw[<- Z0 x y a];exact iW J aa)
theorem es:∀{L:List Nat}{a:Nat},a∈L->sp L a
 |b::L,a,h=>by
  rcases abA.mp h with rfl|h
  .exact .inr (by rw[acT];exact o9 L)
  .exact .inl (es h)
theorem eC:∀{L:List Nat}{x:Nat},(∀a∈L,sp M a)->sp L x->sp M x
 |[],x,_,h=>by cases h;exact o9 M
 |a::L,x,af,h=>by
  have eA:∀b∈L,sp M b:=λb ae=>af b (List.mem_cons_of_mem _ ae)
  rcases h with h|h
  .exact eC eA h
  .have:=iW (eC eA h) (af a List.mem_cons_self);rwa[iC]at this
theorem tV{k:Nat}:∀{L:List Nat}{x:Nat},(∀a∈L,a.testBit k=false)->sp L x->x.testBit k=false
 |[],x,_,h=>by cases h;exact ac0 k
 |a::L,x,af,h=>by
  have eA:∀b∈L,b.testBit k=false:=λb ae=>af b (List.mem_cons_of_mem _ ae)
  rcases h with h|h
  .exact tV eA h
  .have:=tV eA h;rwa[aco,af a List.mem_cons_self,afh]at this
theorem wH:∀{L:List Nat}{x:Nat},(∀a∈L,a<2 ^ n)->sp L x->x<2 ^ n
 |[],x,_,h=>by cases h;exact afc n
 |a::L,x,af,h=>by
  have eA:∀b∈L,b<2 ^ n:=λb ae=>af b (List.mem_cons_of_mem _ ae)
  rcases h with h|h
  .exact wH eA h
  .have:=ac1 (wH eA h) (af a List.mem_cons_self);rwa[iC]at this
noncomputable abbrev Row:=Nat×Nat
noncomputable abbrev di:=List (Nat×Row)
noncomputable def rws(B:di):List Nat:=B.map λe=>e.2.1
noncomputable def one(r:Row)(e:Nat×Row):Row:=if r.1.testBit e.1=true then(r.1 ^^^ e.2.1,r.2 ^^^ e.2.2) else r
noncomputable def red(B:di)(r:Row):Row:=B.foldl one r
def tJ(e)(B:di)(r):red (e::B) r=red B (one r e):=rfl
structure dy(B:di):Prop where
 ap:B.Pairwise λe f=>e.2.1.testBit f.1=false/\f.2.1.testBit e.1=false
 lo:∀e∈B,e.2.1.testBit e.1=true/\∀j,j<e.1->e.2.1.testBit j=false
structure i1(B:di):Prop where
 ap:B.Pairwise λe f=>f.2.1.testBit e.1=false
 lo:∀e∈B,e.2.1.testBit e.1=true
def i1.tail{B:di}(h:i1 (e::B)):i1 B:=⟨(abT.mp h.ap).2,λf hf=>h.lo f (List.mem_cons_of_mem _ hf)⟩
def dy.e1{B:di}(h:dy B):i1 B:=⟨h.ap.imp λq=>q.2,λe he=>(h.lo e he).1⟩
theorem dy.nil:dy []:=⟨.nil,λ_ h=>nomatch h⟩
def dy.tail{B:di}(h:dy (e::B)):dy B:=⟨(abT.mp h.ap).2,λf hf=>h.lo f (List.mem_cons_of_mem _ hf)⟩
theorem HZ{k:Nat}:∀{B:di}{r:Row},(∀f∈B,f.2.1.testBit k=false)->(red B r).1.testBit k=r.1.testBit k
 |[],r,_=>rfl
 |e::B,r,h=>by
  rw[tJ,HZ λf hf=>h f (List.mem_cons_of_mem _ hf)];unfold one
  split
  .rw[aco,h e List.mem_cons_self,afh]
  .rfl
theorem Bn:∀{B:di}{r:Row},i1 B->∀e∈B,(red B r).1.testBit e.1=false
 |f::B,r,h,e,he=>by
  obtain⟨J,aa⟩:=abT.mp h.ap;rw[tJ];rcases abA.mp he with rfl|he
  .rw[HZ λg aY=>J g aY];unfold one
   split
   .rename_i q;rw[aco,q,h.lo e List.mem_cons_self];rfl
   .rename_i q;simpa using q
  .exact Bn h.tail e he
theorem Bo:∀{B:di}{r:Row},sp (rws B) (r.1 ^^^ (red B r).1)
 |[],r=>acT _
 |e::B,r=>by
  have aE:=Bo (B:=B) (r:=one r e);rw[tJ];unfold one at aE ⊢
  split
  .rename_i q;rw[if_pos q]at aE;exact .inr (by rw[<- xor_swap];exact aE)
  .rename_i q;rw[if_neg q]at aE;exact .inl aE
theorem D0:∀{B:di}{x:Nat},i1 B->sp (rws B) x->(∀e∈B,x.testBit e.1=false)->x=0
 |[],x,_,h,_=>h
 |e::B,x,h,af,ae=>by
  obtain⟨J,aa⟩:=abT.mp h.ap;rcases af with af|af
  .exact D0 h.tail af λf hf=>ae f (List.mem_cons_of_mem _ hf)
  .exfalso;have:=tV (k:=e.1) (λa aw=>by obtain⟨f,hf,rfl⟩:=List.mem_map.mp aw;exact J f hf) af;rw[aco,ae e List.mem_cons_self,h.lo e List.mem_cons_self]at this;cases this
def Wb{B:di}(h:i1 B):(red B r).1=0<->sp (rws B) r.1:=by
 have J:=Bo (B:=B) (r:=r);constructor
 .intro z;rwa[z,ads]at J
 .intro z;have aa:=iW J z;rw[xor_swap,acT,adG]at aa;exact D0 h aa (Bn h)
def wc{B:di}(h:dy B):(red B r).1=0<->sp (rws B) r.1:=Wb h.e1
theorem AD : ∀ {C : di} {x k : Nat}, dy C -> sp (rws C) x -> x.testBit k = true -> (∀ j, j < k -> x.testBit j = false) -> ∃ f ∈ C, f.1 = k
  | [], x, k, _, h, ay, _ => by cases h; rw [ac0] at ay; cases ay
  | f :: C, x, k, h, af, ay, aI => by
    obtain ⟨J, aa⟩ := abT.mp h.ap
    rcases af with af | af
    · obtain ⟨g, a, b⟩ := AD h.tail af ay aI
      exact ⟨g, List.mem_cons_of_mem _ a, b⟩
    · have ae := tV (k := f.1) (fun a aw => by obtain ⟨g, aY, rfl⟩ := List.mem_map.mp aw; exact (J g aY).2) af
      obtain ⟨l1, eQ⟩ := h.lo f List.mem_cons_self
      rw [aco, l1] at ae
      have ai : x.testBit f.1 = true := by cases q : x.testBit f.1 <;> rw [q] at ae <;> first | rfl | cases ae
      by_cases c : f.1 = k
      · exact ⟨f, List.mem_cons_self, c⟩
      · have bS : k < f.1 := by
          rcases adt k f.1 with q | q | q
          · exact q
          · exact absurd q.symm c
          · rw [aI f.1 q] at ai; cases ai
        obtain ⟨g, a, b⟩ := AD h.tail af (k := k) (by rw [aco, ay, eQ k bS]; rfl) fun j q => by rw [aco, aI j q, eQ j ⋯]; rfl
        exact ⟨g, List.mem_cons_of_mem _ a, b⟩
def rZ{B:di}(h:dy B):(B.map (·.1)).Nodup:=by
 rw[abJ,ab4];refine abX (λ{e f} he hf q z=>?_) h.ap;have:=(h.lo f hf).1;rw[<- z,q.2]at this;cases this
def rY{B C:di}(d8:dy B)(d0:dy C)(h:∀x,sp (rws B) x->sp (rws C) x):B.length<=C.length:=by
 have:=bf.iS (rZ d8) (ys:=C.map (·.1)) λz hz=>by
  obtain⟨e,he,rfl⟩:=List.mem_map.mp hz;obtain⟨f,hf,q⟩:=AD d0 (h _ (es (List.mem_map.mpr ⟨e,he,rfl⟩))) (d8.lo e he).1 (d8.lo e he).2;exact List.mem_map.mpr ⟨f,hf,q⟩
 simpa using this
noncomputable def qs:Nat->Nat->Nat
 |0,_=>0
 |f+1,n=>if n%2=1 then 0 else qs f (n / 2)+1
noncomputable def lo(n:Nat):Nat:=qs n n
theorem Gx:∀(f n:Nat),0<n->n<=f->n.testBit (qs f n)=true/\(∀j,j<qs f n->n.testBit j=false)/\n-(n &&& (n-1))=2 ^ qs f n/\(n &&& (n-1))<=n
 |0,n,h,aa=>by lia
 |f+1,n,h,aa=>by
  rw[qs]
  by_cases c:n%2=1
  .rw[if_pos c];refine⟨by rw[adR];simp[c],λj aI=>⋯,?_,Nat.and_le_left⟩;have e1:(n &&& (n-1)) / 2=n / 2:=(by rw[aeD,show(n-1) / 2=n / 2 by lia,Nat.and_self]);have ar:(n &&& (n-1))%2=0:=by
    have:=@adH n (n-1);rcases abE (n &&& (n-1)) with q|q
    .exact q
    .have:=(this.mp q).2;lia
   show n-(n &&& (n-1))=1;lia
  .rw[if_neg c];obtain⟨d9,fz,kD,sO⟩:=Gx f (n / 2) ⋯ ⋯;refine⟨by rw[adS];exact d9,λj aI=>?_,?_,Nat.and_le_left⟩
   .cases j with
    |zero=>rw[adR];simp[c]
    |succ j=>rw[adS];exact fz j ⋯
   .have e1:(n &&& (n-1)) / 2=n / 2 &&& (n / 2-1):=(by rw[aeD,show(n-1) / 2=n / 2-1 by lia]);have ar:(n &&& (n-1))%2=0:=by
     have:=@adH n (n-1);rcases abE (n &&& (n-1)) with q|q
     .exact q
     .have:=(this.mp q).1;lia
    rw[Nat.pow_succ];rw[<- e1]at kD sO;lia
def Gw(n)(h:0<n):n.testBit (lo n)=true/\(∀j,j<lo n->n.testBit j=false)/\n-(n &&& (n-1))=2 ^ lo n/\(n &&& (n-1))<=n:=Gx n n h (abz _)
noncomputable def grow(B:di)(r:Row):di:=if (red B r).1=0 then B else B.map (λe=>(e.1,one e.2 (lo (red B r).1,red B r)))++[(lo (red B r).1,red B r)]
def se {B : di} (h : dy B) (r) : dy (grow B r) := by
  unfold grow
  split
  · exact h
  · rename_i aA
    have ae := Bn (r := r) h.e1
    generalize red B r = l at aA ae
    obtain ⟨l1, eQ, -, -⟩ := Gw l.1 ⋯
    generalize lo l.1 = k at l1 eQ
    have on : ∀ (e : Nat × Row) j, (one e.2 (k, l)).1.testBit j = (e.2.1.testBit j ^^ (e.2.1.testBit k && l.1.testBit j)) := fun e j => by
      unfold one
      by_cases q : e.2.1.testBit k = true
      · rw [if_pos q, aco, q, Bool.true_and]
      · rw [if_neg q]
        have q : e.2.1.testBit k = false := by simpa using q
        rw [q, aeI, afh]
    refine ⟨List.pairwise_append.mpr ⟨?_, ac8 _ _, fun e he f hf => ?_⟩, fun e he => ?_⟩
    · rw [ab4]
      refine abX (fun {e f} he hf q => ?_) h.ap
      dsimp only
      rw [on, on, q.1, q.2, ae e he, ae f hf, Bool.and_false, Bool.and_false]
      exact ⟨rfl, rfl⟩
    · obtain ⟨bk, hX, rfl⟩ := List.mem_map.mp he
      obtain rfl := abK.mp hf
      dsimp only
      rw [on, l1, ae bk hX, afi, Bool.xor_self]
      exact ⟨rfl, rfl⟩
    · rcases abU.mp he with he | he
      · obtain ⟨bk, hX, rfl⟩ := List.mem_map.mp he
        dsimp only
        obtain ⟨bY, bV⟩ := h.lo bk hX
        refine ⟨by rw [on, bY, ae bk hX, Bool.and_false]; rfl, fun j aI => ?_⟩
        rw [on, bV j aI]
        by_cases q : bk.2.1.testBit k = true
        · have : bk.1 < k := by
            rcases adt bk.1 k with w | w | w
            · exact w
            · have := ae bk hX; rw [w, l1] at this; cases this
            · rw [bV k w] at q; cases q
          rw [eQ j ⋯, Bool.and_false]; rfl
        · have q : bk.2.1.testBit k = false := by simpa using q
          rw [q]; rfl
      · obtain rfl := abK.mp he
        exact ⟨l1, eQ⟩
def ES{B:di}(h:dy B)(r)(x):sp (rws (grow B r)) x<->sp (r.1::rws B) x:=by
 have h0:=Bo (B:=B) (r:=r);unfold grow
 split
 .rename_i z;rw[z,ads]at h0;exact⟨.inl,eC λa aw=>by rcases abA.mp aw with rfl|aw;exact h0;exact es aw⟩
 .generalize red B r=l at h0;generalize lo l.1=k;have aA:∀{M:List Nat},sp M l.1->(∀e∈B,sp M (one e.2 (k,l)).1)->∀a∈rws B,sp M a:=λ{M} J aa a aw=>by
   obtain⟨e,he,rfl⟩:=List.mem_map.mp aw;have:=aa e he;unfold one at this
   split at this
   .have:=iW this J;rwa[iC]at this
   .exact this
  constructor
  .refine eC λa aw=>?_
   have tg:sp (r.1::rws B) l.1:=by
    have J:sp (r.1::rws B) (r.1 ^^^ l.1):=.inl h0;have:=iW J (es (L:=r.1::rws B) List.mem_cons_self);rwa[xor_swap,acT,adG]at this
   unfold rws at aw;rw[List.map_append,List.map_map]at aw;rcases abU.mp aw with aw|aw
   .obtain⟨e,he,rfl⟩:=List.mem_map.mp aw;have GJ:sp (r.1::rws B) e.2.1:=.inl (es (List.mem_map.mpr ⟨e,he,rfl⟩));show sp _ (one e.2 (k,l)).1;unfold one
    split
    .exact iW GJ tg
    .exact GJ
   .obtain rfl:a=l.1:=(by simpa using aw);exact tg
  .have tg:sp (rws (B.map (λe=>(e.1,one e.2 (k,l)))++[(k,l)])) l.1:=es (by unfold rws;simp);have GF:=aA tg λe he=>es (by unfold rws;rw[List.map_append,List.map_map];exact List.mem_append_left _ (List.mem_map.mpr ⟨e,he,rfl⟩))
   refine eC λa aw=>?_
   rcases abA.mp aw with rfl|aw
   .have:=iW (eC GF h0) tg;rwa[iC]at this
   .exact GF a aw
def sf(B)(r):(grow B r).length=B.length+if (red B r).1=0 then 0 else 1:=by
 unfold grow
 split<;>simp
noncomputable def dF(B:di)(rs:List Row):di:=rs.foldl grow B
theorem hW:∀{rs:List Row}{B:di},dy B->dy (dF B rs)
 |[],_,h=>h
 |r::rs,_,h=>hW (rs:=rs) (se h r)
theorem sb:∀{rs:List Row}{B:di},dy B->∀x,sp (rws (dF B rs)) x<->sp (rs.map (·.1)++rws B) x
 |[],_,h,x=>Iff.rfl
 |r::rs,B,h,x=>by
  show sp (rws (dF (grow B r) rs)) x<->_;rw[sb (se h r) x];have g:=ES h r;constructor
  .refine eC λa aw=>?_
   rcases abU.mp aw with aw|aw
   .exact es (by rw[List.map_cons];exact List.mem_cons_of_mem _ (List.mem_append_left _ aw))
   .refine eC (λb ae=>?_) ((g a).mp (es aw));refine es ?_;rw[List.map_cons];rcases abA.mp ae with rfl|ae
    .exact List.mem_cons_self
    .exact List.mem_cons_of_mem _ (abL _ ae)
  .refine eC λa aw=>?_
   have aZ:∀b,b∈r.1::rws B->sp (rs.map (·.1)++rws (grow B r)) b:=λb ae=>eC (λc ah=>es (abL _ ah)) ((g b).mpr (es ae))
   rw[List.map_cons,acN]at aw;rcases abA.mp aw with rfl|aw
   .exact aZ _ List.mem_cons_self
   .rcases abU.mp aw with aw|aw
    .exact es (List.mem_append_left _ aw)
    .exact aZ a (List.mem_cons_of_mem _ aw)
end eD
end
section
namespace eD
noncomputable def bd:List Nat->Nat->Nat
 |[],_=>0
 |a::as,z=>(if z%2=1 then a else 0) ^^^ bd as (z / 2)
def Kn(a b c d:Nat):(a ^^^ b) ^^^ (c ^^^ d)=(a ^^^ c) ^^^ (b ^^^ d):=by rw[acC,<- acC b c d,ae9 b c,acC c b d,<- acC]
theorem ic:∀(as:List Nat)(x y:Nat),bd as (x ^^^ y)=bd as x ^^^ bd as y
 |[],_,_=>(acT 0).symm
 |a::as,x,y=>by
  show(if (x ^^^ y)%2=1 then a else 0) ^^^ bd as ((x ^^^ y) / 2)=((if x%2=1 then a else 0) ^^^ bd as (x / 2)) ^^^ ((if y%2=1 then a else 0) ^^^ bd as (y / 2));rw[afd,ic as,Kn];congr 1;have:=@ad9 x y
  by_cases J:x%2=1<;>by_cases aa:y%2=1<;>simp[J,aa,this]
theorem yg:∀(as:List Nat)(a z:Nat),bd (as++[a]) z=bd as z ^^^ (if z.testBit as.length=true then a else 0)
 |[],a,z=>by
  show(if z%2=1 then a else 0) ^^^ 0=0 ^^^ _;rw[ads,adG,List.length_nil,adR];simp
 |b::as,a,z=>by
  show(if z%2=1 then b else 0) ^^^ bd (as++[a]) (z / 2)=((if z%2=1 then b else 0) ^^^ bd as (z / 2)) ^^^ _;rw[yg as a,List.length_cons,adS,acC]
theorem C4:∀(as:List Nat)(z:Nat),(∀j,j<as.length->z.testBit j=false)->bd as z=0
 |[],_,_=>rfl
 |a::as,z,h=>by
  have h0:=h 0 (by simp);rw[adR]at h0;show(if z%2=1 then a else 0) ^^^ bd as (z / 2)=0;rw[if_neg (by simpa using h0),C4 as (z / 2) λj aI=>by rw[<- adS];exact h (j+1) (by simpa using aI)];rfl
def yh(as)(a):bd (as++[a]) (2 ^ as.length)=a:=by
 rw[yg,C4 as _ λj aI=>by rw[adg];simp;lia,ac4,if_pos rfl,adG]
def jH(as)(a)(h:z<2 ^ as.length):bd (as++[a]) z=bd as z:=by
 rw[yg,ab0 h];simp
def yI(h:z<2 ^ (n+1)):(z.testBit n=false/\z<2 ^ n)\/(z.testBit n=true/\∀u,u<2 ^ (n+1)->u.testBit n=true->z ^^^ u<2 ^ n):=by
 have key:∀y,y<2 ^ (n+1)->y.testBit n=false->y<2 ^ n:=λy aQ aC=>by
  refine Nat.lt_pow_two_of_testBit y λi aj=>?_
  rcases afa n i with q|q
  .exact ab0 (abG aQ (abQ ∅ q))
  .rw[show i=n by lia];exact aC
 cases q:z.testBit n with
 |false=>exact .inl ⟨rfl,key z h q⟩
 |true=>exact .inr ⟨rfl,λu br ae=>key _ (ac1 h br) (by rw[aco,q,ae];rfl)⟩
theorem HY:∀{B:di}{r:Row},(∀e∈B,bd as e.2.2=e.2.1)->bd as r.2=r.1->bd as (red B r).2=(red B r).1
 |[],r,_,h=>h
 |e::B,r,d8,h=>by
  rw[tJ];refine HY (λf hf=>d8 f (List.mem_cons_of_mem _ hf)) ?_;unfold one
  split
  .show bd as (r.2 ^^^ e.2.2)=r.1 ^^^ e.2.1;rw[ic,h,d8 e List.mem_cons_self]
  .exact h
theorem H0:∀{B:di}{r:Row},(∀e∈B,e.2.2<2 ^ n)->∃u,u<2 ^ n/\(red B r).2=r.2 ^^^ u
 |[],r,_=>⟨0,afc n,(ads _).symm⟩
 |e::B,r,d8=>by
  obtain⟨u,J,aa⟩:=H0 (B:=B) (r:=one r e) λf hf=>d8 f (List.mem_cons_of_mem _ hf)
  rw[tJ,aa];unfold one
  split
  .exact⟨e.2.2 ^^^ u,ac1 (d8 e List.mem_cons_self) J,by rw[<- acC]⟩
  .exact⟨u,J,rfl⟩
noncomputable def step(st:di×List Nat)(r:Row):di×List Nat:=(grow st.1 r,if (red st.1 r).1=0 then st.2++[(red st.1 r).2] else st.2)
noncomputable def dR(rs:List Row):di×List Nat:=rs.foldl step ([],[])
noncomputable def dB(as:List Nat):List Row:=as.zipIdx.map λp=>(p.1,2 ^ p.2)
def TO(as)(a):dB (as++[a])=dB as++[(a,2 ^ as.length)]:=by
 unfold dB;rw[List.zipIdx_append,List.map_append];simp
def FQ(rs)(r):dR (rs++[r])=step (dR rs) r:=by unfold dR;rw[List.foldl_append];rfl
noncomputable def bare(b:Nat):Row:=(b,0)
structure St(as:List Nat)(B:di)(F:List Nat):Prop where
 uV:dy B
 pJ:∀e∈B,bd as e.2.2=e.2.1/\e.2.2<2 ^ as.length
 len:B.length+F.length=as.length
 gP:∀b∈F,b<2 ^ as.length
 nul:∀b∈F,bd as b=0
 fin:(dF [] (F.map bare)).length=F.length
 jQ:∀z,z<2 ^ as.length->bd as z=0->sp F z
 sR:∀z,z<2 ^ as.length->sp (rws B) (bd as z)
def qS:sp (rws (dF [] (F.map bare))) x<->sp F x:=by
 rw[sb dy.nil,List.map_map];have e:F.map ((λx:Row=>x.1) ∘ bare)=F:=by
  have:((λx:Row=>x.1) ∘ bare)=id:=rfl;rw[this,aeA]
 rw[e];show sp (F++[]) x<->_;rw[adb]
def snoc_ind{P:List Nat->Prop}(h0:P [])(J:∀as a,P as->P (as++[a]))(as):P as:=by
 have key:∀n (as:List Nat),as.length=n->P as:=by
  intro n
  induction n with
  |zero=>intro as h;rw[ac5 h];exact h0
  |succ n aE =>
   intro as h;rcases aei as with rfl|⟨l,a,rfl⟩
   .cases h
   .rw[aej]at h ⊢;exact J l a (aE l (by simpa using h))
 exact key _ as rfl
def tW (as) : St as (dR (dB as)).1 (dR (dB as)).2 := by
  refine snoc_ind (P := fun as => St as (dR (dB as)).1 (dR (dB as)).2) ?_ ?_ as
  · show St [] [] []
    refine ⟨dy.nil, (fun _ h => nomatch h), rfl, (fun _ h => nomatch h), (fun _ h => nomatch h), rfl, fun z h _ => ?_, fun _ _ => rfl⟩
    have h : z < 1 := h
    show z = 0
    lia
  · intro as a aE
    rw [TO, FQ]
    generalize (dR (dB as)) = st at aE
    obtain ⟨B, F⟩ := st
    dsimp only at aE
    unfold step
    dsimp only
    have ae : ∀ e ∈ B, bd (as ++ [a]) e.2.2 = e.2.1 := fun e he => by rw [jH as a (aE.pJ e he).2]; exact (aE.pJ e he).1
    have l1 := HY (r := (a, 2 ^ as.length)) ae (yh as a)
    obtain ⟨u, br, eQ⟩ := H0 (B := B) (r := (a, 2 ^ as.length)) fun e he => (aE.pJ e he).2
    have hz := wc (r := (a, 2 ^ as.length)) aE.uV
    have aY := sf B (a, 2 ^ as.length)
    have gD : (as ++ [a]).length = as.length + 1 := by simp
    have up : ∀ {z}, z < 2 ^ as.length -> z < 2 ^ (as ++ [a]).length := fun {z} h => by rw [gD, Nat.pow_succ]; lia
    have tt : (2 : Nat) ^ as.length < 2 ^ (as ++ [a]).length := by rw [gD]; exact adu ∅ (adl _)
    have sZ : (red B (a, 2 ^ as.length)).2 < 2 ^ (as ++ [a]).length := by rw [eQ]; exact ac1 tt (up br)
    have vI : (red B (a, 2 ^ as.length)).2.testBit as.length = true := by
      rw [eQ, aco]
      show ((2 ^ as.length).testBit as.length ^^ u.testBit as.length) = true
      rw [ac4, ab0 br]; rfl
    have top : ∀ {z}, z < 2 ^ (as ++ [a]).length -> z.testBit as.length = true -> bd (as ++ [a]) z = bd as (z ^^^ 2 ^ as.length) ^^^ a /\ z ^^^ 2 ^ as.length < 2 ^ as.length := fun {z} h q => by
      have bS : z ^^^ 2 ^ as.length < 2 ^ as.length := by
        rcases yI (n := as.length) (by rw [<- gD]; exact h) with ⟨w, _⟩ | ⟨_, w⟩
        · rw [q] at w; cases w
        · exact w _ (by rw [<- gD]; exact tt) (ac4)
      refine ⟨?_, bS⟩
      rw [<- jH as a bS, ic, yh, iC]
    have low : ∀ {z}, z < 2 ^ (as ++ [a]).length -> z.testBit as.length = false -> z < 2 ^ as.length := fun {z} h q => by
      rcases yI (n := as.length) (by rw [<- gD]; exact h) with ⟨_, w⟩ | ⟨w, _⟩
      · exact w
      · rw [q] at w; cases w
    generalize aA : red B (a, 2 ^ as.length) = l at l1 eQ sZ vI hz aY
    by_cases c : l.1 = 0
    · have zL : grow B (a, 2 ^ as.length) = B := by unfold grow; rw [aA, if_pos c]
      rw [if_pos c, zL]
      refine ⟨aE.uV, fun e he => ⟨ae e he, up (aE.pJ e he).2⟩, by rw [abw, gD]; have := aE.len; simp; lia, fun b fS => ?_, fun b fS => ?_, ?_, fun z h0 J => ?_, fun z h0 => ?_⟩
      · rcases abU.mp fS with h | h
        · exact up (aE.gP b h)
        · rw [abK.mp h]; exact sZ
      · rcases abU.mp fS with h | h
        · rw [jH as a (aE.gP b h)]; exact aE.nul b h
        · rw [abK.mp h, l1, c]
      · rw [List.map_append]
        show (dF [] (F.map bare ++ [bare l.2])).length = _
        unfold dF
        rw [List.foldl_append]
        show (grow (dF [] (F.map bare)) (bare l.2)).length = _
        rw [sf, aE.fin, abw, if_neg]
        · rfl
        · intro w
          have := wH aE.gP (qS.mp ((wc (hW dy.nil)).mp w))
          have this : l.2 < 2 ^ as.length := this
          rw [ab0 this] at vI; cases vI
      · cases q : z.testBit as.length with
        | false =>
          have := aE.jQ z (low h0 q) (by rw [<- jH as a (low h0 q)]; exact J)
          exact eC (fun b ae => es (List.mem_append_left _ ae)) this
        | true =>
          have aa : z ^^^ l.2 < 2 ^ as.length := by
            rcases yI (n := as.length) (by rw [<- gD]; exact h0) with ⟨w, _⟩ | ⟨_, w⟩
            · rw [q] at w; cases w
            · exact w _ (by rw [<- gD]; exact sZ) vI
          have aJ := aE.jQ _ aa (by rw [<- jH as a aa, ic, J, l1, c]; rfl)
          have aW : sp (F ++ [l.2]) (z ^^^ l.2) := eC (fun b ae => es (List.mem_append_left _ ae)) aJ
          have := iW aW (es (abL F List.mem_cons_self))
          rwa [iC] at this
      · cases q : z.testBit as.length with
        | false => rw [jH as a (low h0 q)]; exact aE.sR z (low h0 q)
        | true =>
          obtain ⟨t1, e2⟩ := top h0 q
          rw [t1]
          exact iW (aE.sR _ e2) (hz.mp c)
    · have zL : ∀ e ∈ grow B (a, 2 ^ as.length), bd (as ++ [a]) e.2.2 = e.2.1 /\ e.2.2 < 2 ^ (as ++ [a]).length := fun e he => by
        unfold grow at he
        rw [aA, if_neg c] at he
        rcases abU.mp he with he | he
        · obtain ⟨f, hf, rfl⟩ := List.mem_map.mp he
          dsimp only
          unfold one
          split
          · exact ⟨by rw [ic, ae f hf, l1], ac1 (up (aE.pJ f hf).2) sZ⟩
          · exact ⟨ae f hf, up (aE.pJ f hf).2⟩
        · rw [abK.mp he]; exact ⟨l1, sZ⟩
      rw [if_neg c]
      rw [if_neg c] at aY
      refine ⟨se aE.uV _, zL, by rw [aY, gD]; have := aE.len; lia, fun b fS => up (aE.gP b fS), fun b fS => by rw [jH as a (aE.gP b fS)]; exact aE.nul b fS, aE.fin, fun z h0 J => ?_, fun z h0 => ?_⟩
      · cases q : z.testBit as.length with
        | false => exact aE.jQ z (low h0 q) (by rw [<- jH as a (low h0 q)]; exact J)
        | true =>
          exfalso
          obtain ⟨t1, e2⟩ := top h0 q
          rw [J] at t1
          have : bd as (z ^^^ 2 ^ as.length) = a := by
            have w : 0 ^^^ a = (bd as (z ^^^ 2 ^ as.length) ^^^ a) ^^^ a := acp (· ^^^ a) t1
            rw [iC, adG] at w
            exact w.symm
          exact c (hz.mpr (by have cb := aE.sR _ e2; rw [this] at cb; exact cb))
      · rw [ES aE.uV]
        cases q : z.testBit as.length with
        | false => rw [jH as a (low h0 q)]; exact .inl (aE.sR z (low h0 q))
        | true =>
          obtain ⟨t1, e2⟩ := top h0 q
          rw [t1]
          exact .inr (by rw [iC]; exact aE.sR _ e2)
noncomputable def tell(st:di×List Nat)(b:Nat):di×List Nat:=(grow st.1 (bare b),if (red st.1 (bare b)).1=0 then st.2 else st.2++[b])
theorem JI:∀(F:List Nat)(B:di)(G:List Nat),(F.foldl tell (B,G)).2.length+B.length=(dF B (F.map bare)).length+G.length
 |[],B,G=>Nat.add_comm _ _
 |b::F,B,G=>by
  show(F.foldl tell (tell (B,G) b)).2.length+B.length=(dF (grow B (bare b)) (F.map bare)).length+G.length;have h:=JI F (grow B (bare b)) (if (red B (bare b)).1=0 then G else G++[b]);have aa:=sf B (bare b);have Og:tell (B,G) b=(grow B (bare b),if (red B (bare b)).1=0 then G else G++[b]):=rfl;rw[Og]
  by_cases c:(red B (bare b)).1=0
  .rw[if_pos c]at h aa ⊢;lia
  .rw[if_neg c]at h aa ⊢;rw[abw]at h;simp at h;lia
def Wt(as)(rs)(h:∀r∈rs,r.1<2 ^ as.length/\bd as r.1=0):
  ((dR (dB as)).2.foldl tell (dF [] rs,[])).2.length+(dF [] rs).length=(dR (dB as)).2.length:=by
 have st:=tW as;generalize (dR (dB as)).2=F at st;rw[JI];have e1:=hW (rs:=rs) dy.nil;have ar:=hW (rs:=F.map bare) e1;have bo:=hW (rs:=F.map bare) dy.nil;have s1:∀x,sp (rws (dF (dF [] rs) (F.map bare))) x<->sp F x:=λx=>by
  rw[sb e1,List.map_map,show F.map ((λx:Row=>x.1) ∘ bare)=F from aeA F];refine⟨eC λa aw=>?_,eC λa aw=>es (List.mem_append_left _ aw)⟩;rcases abU.mp aw with aw|aw
  .exact es aw
  .have:=(sb (rs:=rs) dy.nil a).mp (es aw);refine eC (λb ae=>?_) this;rw[show rws []=[] from rfl,adb]at ae;obtain⟨r,a4,rfl⟩:=List.mem_map.mp ae;exact st.jQ _ (h r a4).1 (h r a4).2
 have d9:=rY ar bo λx ai=>qS.mpr ((s1 x).mp ai)
 have fz:=rY bo ar λx ai=>(s1 x).mpr (qS.mp ai)
 have:=st.fin;simp only[List.length_nil];lia
end eD
end
section
namespace eD
def Cs:∀x y:Nat,(x ^^^ y)+2*(x &&& y)=x+y:=by
 intro x
 induction x using Nat.strongRecOn with
 |ind x aE =>
  intro y
  by_cases h:x=0
  .subst h;simp
  .have J:=aE (x / 2) ⋯ (y / 2);have e1:(x ^^^ y) / 2=x / 2 ^^^ y / 2:=afd;have ar:(x &&& y) / 2=x / 2 &&& y / 2:=aeD;have bo:(x ^^^ y)%2=(x%2+y%2)%2:=by
    have:=@ad9 x y;rcases abE x with a|a<;>rcases abE y with b|b<;>rcases abE (x ^^^ y) with c|c<;>simp[a,b,c]at this ⊢
   have eK:(x &&& y)%2=(x%2)*(y%2):=by
    have:=@adH x y;rcases abE x with a|a<;>rcases abE y with b|b<;>rcases abE (x &&& y) with c|c<;>simp[a,b,c]at this ⊢
   rw[<- e1,<- ar]at J;revert J bo eK;generalize x ^^^ y=p;generalize x &&& y=q;intro J bo eK;rcases abE x with a|a<;>rcases abE y with b|b<;>rw[a,b]at bo eK<;>lia
noncomputable def gI:List Nat->Nat
 |[]=>0
 |a::as=>a ^^^ gI as
theorem w7(j):∀L:List Nat,(gI L).testBit j=decide ((L.countP λa=>a.testBit j)%2=1)
 |[]=>by simp[gI]
 |a::L=>by
  rw[gI,aco,w7 j L,aep];cases a.testBit j with
  |false=>simp
  |true =>
   simp only[acj,Bool.true_xor];rcases abE (L.countP λa=>a.testBit j) with h|h
   .rw[h,show(List.countP (λa=>a.testBit j) L+1)%2=1 by lia];rfl
   .rw[h,show(List.countP (λa=>a.testBit j) L+1)%2=0 by lia];rfl
theorem uF:∀as:List Nat,bd as 0=0
 |[]=>rfl
 |a::as=>by show(if 0%2=1 then a else 0) ^^^ bd as (0 / 2)=0;rw[if_neg ∅,Nat.zero_div,uF as];rfl
theorem C5:∀(as:List Nat)(j:Nat),bd as (2 ^ j)=as.getD j 0
 |[],j=>by simp[bd]
 |a::as,0=>by
  show(if 1%2=1 then a else 0) ^^^ bd as (1 / 2)=a;rw[if_pos ∅,show 1 / 2=0 by decide,uF,ads]
 |a::as,j+1=>by
  show(if 2 ^ (j+1)%2=1 then a else 0) ^^^ bd as (2 ^ (j+1) / 2)=(a::as).getD (j+1) 0;have J:2 ^ (j+1)%2=0:=(by rw[Nat.pow_succ];lia);have aa:2 ^ (j+1) / 2=2 ^ j:=(by rw[Nat.pow_succ];lia);rw[if_neg ⋯,aa,C5 as j,adG];rfl
theorem yi(as):∀L:List Nat,bd as (gI L)=gI (L.map (bd as))
 |[]=>uF as
 |a::L=>by rw[gI,ic,yi as L,List.map_cons,gI]
section
variable{α:Type}[DecidableEq α]
noncomputable abbrev cg(U:List α)(x:α):Nat:=U.idxOf x
def qo{x:α}(h:x∈U):cg U x<U.length:=ack h
def An{U:List α}(cV:U.Nodup)(h:i<U.length):cg U U[i]=i:=cV.idxOf_getElem i h
noncomputable def bD(U xs:List α):Nat:=gI (xs.map λx=>2 ^ cg U x)
def jh{U:List α}(j)(aI:j<U.length)(ai:xs.Nodup)(cV:U.Nodup):(bD U xs).testBit j=decide (U[j]∈xs):=by
 unfold bD;rw[w7,ad1];have e:xs.countP ((λa=>a.testBit j) ∘ λx=>2 ^ U.idxOf x)=xs.countP λx=>x==U[j]:=by
  refine aea λx ai=>?_
  simp only[Function.comp,adg,abN,ab6];constructor
  .intro h;have:U[U.idxOf x]'⋯=x:=ach ⋯;rw[<- this];congr 1
  .intro h;rw[h];exact cV.idxOf_getElem j aI
 have Mo:∀{xs:List α}(y:α),xs.Nodup->xs.countP (λx=>x==y)=if y∈xs then 1 else 0:=λ{xs} y=>by
  induction xs with
  |nil=>intro _;rfl
  |cons x xs aE =>
   intro aC;obtain⟨gD,eZ⟩:=ab9.mp aC;rw[aep,aE eZ]
   by_cases q:x=y
   .subst q;simp[gD]
   .simp[q,acy q]
 rw[e,Mo _ ai]
 by_cases h:U[j]∈xs
 .rw[if_pos h,decide_eq_true h];rfl
 .rw[if_neg h,decide_eq_false h];rfl
theorem jW:∀{xs:List α},(∀x∈xs,x∈U)->bD U xs<2 ^ U.length
 |[],_=>afc _
 |x::xs,h=>by
  show 2 ^ U.idxOf x ^^^ bD U xs<2 ^ U.length;refine ac1 (adu ∅ (ack (h x List.mem_cons_self))) (jW λy aQ=>h y (List.mem_cons_of_mem _ aQ))
theorem GU(cV:U.Nodup):∀{xs:List α},xs.Nodup->(∀x∈xs,x∈U)->(xs.map λx=>((2 ^ cg U x:Nat):Int)).sum=(bD U xs:Int)
 |[],_,_=>rfl
 |x::xs,ai,h=>by
  obtain⟨J,aa⟩:=ab9.mp ai;have RN:=h x List.mem_cons_self;have bS:=ack RN;rw[List.map_cons,List.sum_cons,GU cV aa λy aQ=>h y (List.mem_cons_of_mem _ aQ)];show _=((2 ^ cg U x ^^^ bD U xs:Nat):Int);have ae:(bD U xs).testBit (cg U x)=false:=(by rw[jh _ bS aa cV,ach bS,decide_eq_false J]);have aw:2 ^ cg U x &&& bD U xs=0:=by
   apply acs;intro i;rw[ad2,adg,ac0]
   by_cases q:cg U x=i
   .rw[<- q,ae];simp
   .simp[q]
  have:=Cs (2 ^ cg U x) (bD U xs);rw[aw]at this;lia
def lx{c:List α}(ah:∀x∈c,x∈U):bd (U.map h) (bD U c)=gI (c.map h):=by
 show bd _ (gI (c.map λx=>2 ^ cg U x))=_;rw[yi,List.map_map];refine acp gI (abO λx ai=>?_);have bS:=ack (ah x ai);show bd _ (2 ^ U.idxOf x)=_;rw[C5,List.getD,abF,aby bS,ach bS];rfl
def ZX{V:List α}{sd:α->List α}{c:List α}(m6:V.Nodup)(af:∀x∈c,(sd x).Nodup)(aI:j<V.length):(gI (c.map λx=>bD V (sd x))).testBit j=decide ((c.countP λx=>decide (V[j]∈sd x))%2=1):=by
 rw[w7,ad1];have ar:c.countP ((λa=>a.testBit j) ∘ λx=>bD V (sd x))=c.countP λx=>decide (V[j]∈sd x):=by
  refine aea λx ai=>?_
  show(bD V (sd x)).testBit j=true<->_;rw[jh j aI (af x ai) m6]
 rw[ar]
def Wk{U V:List α}{sd:α->List α}(m6:V.Nodup)(ah:∀x∈c,x∈U)(af:∀x∈c,(sd x).Nodup/\∀y∈sd x,y∈V)(aa:∀y,(c.countP λx=>decide (y∈sd x))%2=0):
  bd (U.map λx=>bD V (sd x)) (bD U c)=0:=by
 rw[lx ah];apply acs;intro j;rw[ac0]
 by_cases aI:j<V.length
 .rw[ZX m6 (λx ai=>(af x ai).1) aI,aa];rfl
 .rw[w7,ad1];have ar:c.countP ((λa=>a.testBit j) ∘ λx=>bD V (sd x))=0:=by
   rw[List.countP_eq_zero];intro x ai;show ¬(bD V (sd x)).testBit j=true;rw[ab0 (abG (jW (af x ai).2) (abQ ∅ (adQ aI)))];simp
  rw[ar];rfl
def TS(cV:U.Nodup)(ai:xs.Nodup){x:α}(h:x∈xs)(br:x∈U):bD U xs≠0:=λz=>by
 have bS:=ack br;have:=jh _ bS ai cV;rw[z,ac0,ach bS]at this;exact of_decide_eq_false this.symm h
def TR(cV:U.Nodup)(ai:xs.Nodup){x:α}(h:x∈xs)(br:x∈U):¬(bD U xs).testBit (cg U x)=false:=λz=>by
 have bS:=ack br;have:=jh _ bS ai cV;rw[z,ach bS]at this;exact of_decide_eq_false this.symm h
def GR{U xs ys:List α}(cV:U.Nodup)(ai:xs.Nodup)(aQ:ys.Nodup)(h:∀x,x∈xs<->x∈ys)(br:∀x∈xs,x∈U):bD U xs=bD U ys:=by
 apply acs;intro j
 by_cases aI:j<U.length
 .rw[jh j aI ai cV,jh j aI aQ cV];exact aeq.mpr (h _)
 .have p:=abQ (n:=2) ∅ (adQ aI);rw[ab0 (abG (jW br) p),ab0 (abG (jW λy aQ=>br y ((h y).mpr aQ)) p)]
def GS{U:List α}(cV:U.Nodup)(ae:b<2 ^ U.length):bD U (U.filter λc=>b.testBit (cg U c))=b:=by
 apply acs;intro j
 by_cases aI:j<U.length
 .rw[jh j aI (cV.filter _) cV];have e:(U[j]∈U.filter λc=>b.testBit (cg U c))<->b.testBit j=true:=(by rw[List.mem_filter,An cV aI];exact⟨λh=>h.2,λh=>⟨adm aI,h⟩⟩);cases q:b.testBit j with
  |true=>exact decide_eq_true (e.mpr q)
  |false=>exact decide_eq_false λz=>by rw[e.mp z]at q;cases q
 .have p:=abQ (n:=2) ∅ (adQ aI);rw[ab0 (abG (jW λx ai=>(List.mem_filter.mp ai).1) p),ab0 (abG ae p)]
end
end eD
end
section
namespace eD
noncomputable def cB(as:List Nat):Nat:=(dF [] (as.map bare)).length
def yf(L:List Nat):(L.map bare).map (λx:Row=>x.1)=L:=by rw[List.map_map];exact aeA L
def EP(h:∀x,sp (rs.map (·.1)) x<->sp (fC.map (·.1)) x):(dF [] rs).length=(dF [] fC).length:=by
 have e:∀(rs:List Row) x,sp (rws (dF [] rs)) x<->sp (rs.map (·.1)) x:=λrs x=>by
  rw[sb dy.nil,show rws []=[] from rfl,adb]
 have d9:=rY (hW (rs:=rs) dy.nil) (hW (rs:=fC) dy.nil) λx ai=>(e fC x).mpr ((h x).mp ((e rs x).mp ai))
 have fz:=rY (hW (rs:=fC) dy.nil) (hW (rs:=rs) dy.nil) λx ai=>(e rs x).mpr ((h x).mpr ((e fC x).mp ai))
 lia
def Ij(rs):(dF [] rs).length=cB (rs.map (·.1)):=EP λx=>by rw[yf]
def wg{as bs:List Nat}(h:∀x,sp as x<->sp bs x):cB as=cB bs:=EP λx=>by rw[yf,yf];exact h x
def Ih{as bs:List Nat}(h:∀x,x∈as<->x∈bs):cB as=cB bs:=wg λ_=>⟨eC λa aw=>es ((h a).mp aw),eC λa aw=>es ((h a).mpr aw)⟩
def j1(as)(a):(sp as a->cB (as++[a])=cB as)/\(¬sp as a->cB (as++[a])=cB as+1):=by
 have e:dF [] ((as++[a]).map bare)=grow (dF [] (as.map bare)) (bare a):=by unfold dF;rw[List.map_append,List.foldl_append];rfl
 have z:=wc (B:=dF [] (as.map bare)) (r:=bare a) (hW dy.nil);have z:(red (dF [] (as.map bare)) (bare a)).1=0<->sp as a:=z.trans qS;unfold cB;rw[e,sf];exact⟨λh=>by rw[if_pos (z.mpr h)];rfl,λh=>by rw[if_neg λq=>h (z.mp q)]⟩
def lh(φ:Nat->Nat):Prop:=∀x y,φ (x ^^^ y)=φ x ^^^ φ y
theorem nI(h:lh φ):∀{L:List Nat}{x:Nat},sp L x->sp (L.map φ) (φ x)
 |[],x,e=>by
  cases e;have:=h 0 0;rw[acT,acT]at this;exact this
 |a::L,x,e=>e.elim (λe=>.inl (nI h e)) λe=>.inr (by rw[<- h];exact nI h e)
def Ie(J:lh φ)(aa:lh ψ):∀as:List Nat,(∀a∈as,ψ (φ a)=a)->cB (as.map φ)=cB as:=by
 intro as;refine snoc_ind (P:=λas=>(∀a∈as,ψ (φ a)=a)->cB (as.map φ)=cB as) (λ_=>rfl) (λas a aE ae=>?_) as;have aE:=aE λb q=>ae b (List.mem_append_left _ q)
 rw[List.map_append,ad4];obtain⟨l1,eQ⟩:=j1 as a;obtain⟨aG,aV⟩:=j1 (as.map φ) (φ a)
 by_cases q:sp as a
 .rw[l1 q,aG (nI J q),aE]
 .rw[eQ q,aV λz=>q ?_,aE];have:=nI aa z;rw[List.map_map,ae a (by simp),show as.map (ψ ∘ φ)=as from(abO λb q=>ae b (List.mem_append_left _ q)).trans (aeA as)]at this;exact this
def H9{α β w8:Type}[DecidableEq α][DecidableEq β]{U:List w8}{V:List α}{V':List β}{sd:w8->List α}(f)(g:β->α)(h:∀c∈U,∀y∈sd c,y∈V/\f y∈V'/\g (f y)=y):cB (U.map λc=>bD V' ((sd c).map f))=cB (U.map λc=>bD V (sd c)):=by
 have e:(U.map λc=>bD V' ((sd c).map f))=(U.map λc=>bD V (sd c)).map (bd (V.map λy=>2 ^ cg V' (f y))):=by
  rw[List.map_map];refine abO λc ah=>?_
  show _=bd _ (bD V (sd c));rw[lx λy aQ=>(h c ah y aQ).1];unfold bD;rw[List.map_map];rfl
 rw[e];refine Ie (ψ:=bd (V'.map λz=>2 ^ cg V (g z))) (ic _) (ic _) _ λa aw=>?_
 obtain⟨c,ah,rfl⟩:=List.mem_map.mp aw;rw[lx λy aQ=>(h c ah y aQ).1];have ar:gI ((sd c).map λy=>2 ^ cg V' (f y))=bD V' ((sd c).map f):=by unfold bD;rw[List.map_map];rfl
 rw[ar,lx λz hz=>by obtain⟨y,aQ,rfl⟩:=List.mem_map.mp hz;exact(h c ah y aQ).2.1,List.map_map];unfold bD;exact acp gI (abO λy aQ=>by show 2 ^ cg V (g (f y))=_;rw[(h c ah y aQ).2.2])
end eD
end
section
namespace eD
def wh(h:∀x,sp as x->sp bs x):cB as<=cB bs :=
 rY (hW dy.nil) (hW dy.nil) λ_ q=>qS.mpr (h _ (qS.mp q))
theorem BO(h:lh φ):∀{B:List Nat}{y:Nat},sp (B.map φ) y->∃x,sp B x/\φ x=y
 |[],y,e=>by
  cases e;refine⟨0,rfl,?_⟩;have:=h 0 0;rwa[acT,acT]at this
 |b::B,y,e=>e.elim (λe=>let ⟨x,a,q⟩:=BO h e;⟨x,.inl a,q⟩) λe=>let ⟨x,a,q⟩:=BO h e;⟨x ^^^ b,.inr (by rw[iC];exact a),by rw[h,q,iC]⟩
def BN(h:sp A x)(q:sp B y):sp (A++B) (x ^^^ y) :=
 iW (eC (λ_ m=>es (List.mem_append_left _ m)) h) (eC (λ_ m=>es (abL _ m)) q)
theorem wG:∀{B:List Nat}{x:Nat},sp (B++A) x->∃y z,sp A y/\sp B z/\x=y ^^^ z
 |[],x,h=>⟨x,0,h,rfl,(ads _).symm⟩
 |b::B,x,h=>h.elim (λh=>let ⟨y,z,p,q,e⟩:=wG h;⟨y,z,p,.inl q,e⟩) λh=>let ⟨y,z,p,q,e⟩:=wG h;⟨y,z ^^^ b,p,.inr (by rw[iC];exact q),by rw[<- acC,<- e,iC]⟩
def Jd{φ:Nat->Nat}(oE:lh φ){A:List Nat}(gR:∀a∈A,φ a=0){x:Nat}(h:sp A x):φ x=0 :=
 eC (M:=[]) (λa aw=>by obtain⟨b,ae,rfl⟩:=List.mem_map.mp aw;exact gR b ae) (nI oE h)
def Wq(oE:lh φ)(gR:∀a∈A,φ a=0)(B):(∀x,sp B x->φ x=0->sp A x)->cB (A++B)=cB A+cB (B.map φ):=by
 have j8:=λx=>Jd (x:=x) oE gR
 refine snoc_ind (P:=λB=>(∀x,sp B x->φ x=0->sp A x)->cB (A++B)=cB A+cB (B.map φ)) (λ_=>by rw[adb];rfl) (λB b aE h=>?_) B;have aE:=aE λx ai=>h x (eC (λ_ m=>es (List.mem_append_left _ m)) ai)
 rw[<- List.append_assoc,List.map_append,ad4];obtain⟨l1,eQ⟩:=j1 (A++B) b;obtain⟨aG,aV⟩:=j1 (B.map φ) (φ b)
 by_cases q:sp (B.map φ) (φ b)
 .rw[aG q,l1 ?_,aE];obtain⟨x,ai,e⟩:=BO oE q;have:=h (x ^^^ b) (BN ai (es List.mem_cons_self)) (by rw[oE,e,acT]);have:=BN this ai;rwa[ae9 x b,iC]at this
 .rw[aV q,eQ λz=>q ?_,aE];rfl;obtain⟨y,x,p,r,e⟩:=wG z;rw[e,oE,j8 x r,ads];exact nI oE p
def OU(h:∀r∈rs,r<2 ^ as.length/\bd as r=0)(aA:as.length<=cB rs+cB as)(hz:z<2 ^ as.length)(ae:bd as z=0):sp rs z:=acG λq=>by
 have st:=tW as;have e:(dR (dB as)).1.length=cB as:=by
  have key:∀(rs:List Row)(st:di×List Nat),(rs.foldl step st).1=dF st.1 rs:=λrs=>by
   induction rs with
   |nil=>intro st;rfl
   |cons r rs aE=>intro st;exact aE (step st r)
  have:(dR (dB as)).1=dF [] (dB as):=key _ _;rw[this,Ij];unfold dB;rw[List.map_map];exact acp cB (by simp[Function.comp_def])
 have l:=st.len;have f:=st.fin;have i:=wh (as:=rs++[z]) (bs:=(dR (dB as)).2) λx ai=>eC (λa aw=>(abU.mp aw).elim (λm=>st.jQ _ (h a m).1 (h a m).2) λm=>by cases abK.mp m;exact st.jQ _ hz ae) ai
 rw[(j1 rs z).2 q]at i;unfold cB at i e aA;lia
def X1(as):∀x,sp as x->∃z,z<2 ^ as.length/\bd as z=x:=by
 refine snoc_ind (P:=λas=>∀x,sp as x->∃z,z<2 ^ as.length/\bd as z=x) (λx h=>⟨0,∅,h.symm⟩) (λas a aE x h=>?_) as;obtain⟨y,u,p,q,e⟩:=wG h;obtain⟨z,hz,ae⟩:=aE u q;have l:2 ^ as.length<2 ^ (as++[a]).length:=adu ∅ (by simp);rcases p with p|p
 .cases p;exact⟨z,⋯,by rw[jH as a hz,ae,e,adG]⟩
 .have p:y ^^^ a=0:=p;have Z2:y=a:=(by have:=iC y a;rw[p,adG]at this;exact this.symm);exact⟨z ^^^ 2 ^ as.length,ac1 ⋯ l,by rw[ic,jH as a hz,yh,ae,e,Z2,ae9]⟩
def Wn(h:∀x∈L,x=a)(aw:a≠0)(eA:L≠[]):cB L=1:=by
 have e:cB L=cB ([]++[a]):=Ih λx=>⟨λq=>by rw[h x q];simp,λq=>by
  cases L with
  |nil=>exact absurd rfl eA
  |cons b L=>rw[abK.mp q,<- h b List.mem_cons_self];exact List.mem_cons_self⟩
 rw[e,(j1 [] a).2 λz=>aw z];rfl
def Ii(h:∀x∈L,x=0):cB L=0:=by
 have:cB L=cB []:=wg λx=>⟨eC λa aw=>by rw[h a aw];exact o9 _,eC λa aw=>nomatch aw⟩
 rw[this];rfl
end eD
end
section
namespace eD
def Ig(h:lh φ)(as):cB (as.map φ)<=cB as:=by
 refine snoc_ind (P:=λas=>cB (as.map φ)<=cB as) (abz _) (λas a aE=>?_) as;rw[List.map_append,ad4];obtain⟨l1,eQ⟩:=j1 as a;obtain⟨aG,aV⟩:=j1 (as.map φ) (φ a)
 by_cases q:sp as a
 .rw[l1 q,aG (nI h q)];exact aE
 .rw[eQ q]
  by_cases p:sp (as.map φ) (φ a)
  .rw[aG p];lia
  .rw[aV p];lia
noncomputable def en:List Nat->Nat->Nat
 |[],_=>0
 |a::R,y=>(if a.testBit y=true then 1 else 0)+2*en R y
theorem pO:∀(R:List Nat)(y i:Nat),(en R y).testBit i=((R[i]?).getD 0).testBit y
 |[],y,i=>by simp[en]
 |a::R,y,0=>by
  rw[en,adR]
  split
  .rename_i q;simp[q]
  .rename_i q;simp[q]
 |a::R,y,i+1=>by
  rw[en,adS,show((if a.testBit y=true then 1 else 0)+2*en R y) / 2=en R y by split<;>lia,pO R];simp
def Dz(R a y):en (R++[a]) y=en R y ^^^ (if a.testBit y=true then 2 ^ R.length else 0):=by
 refine acs λi=>?_
 rw[aco,pO,pO];have e:(if a.testBit y=true then 2 ^ R.length else 0).testBit i=(decide (R.length=i)&&a.testBit y):=by
  split
  .rename_i q;rw[adg,q,afi]
  .rename_i q;rw[ac0,Bool.eq_false_iff.mpr q,Bool.and_false]
 rw[e];rcases adt i R.length with q|q|q
 .rw[abH q,decide_eq_false (by lia:¬R.length=i)];simp
 .subst q;simp
 .rw[abW ⋯,decide_eq_false (by lia:¬R.length=i),abM (by simp;lia),abM ⋯];simp
noncomputable def q5(N:Nat):Nat->List Nat->List Nat
 |_,[]=>[]
 |w,_::R=>(if w%2=1 then N else 0)::q5 N (w / 2) R
theorem Km(N y):∀(R:List Nat)(w:Nat),bd (q5 N w R) (en R y)=if (bd R w).testBit y=true then N else 0
 |[],w=>by simp[q5,bd]
 |a::R,w=>by
  show(if en (a::R) y%2=1 then(if w%2=1 then N else 0) else 0) ^^^ bd (q5 N (w / 2) R) (en (a::R) y / 2)=if ((if w%2=1 then a else 0) ^^^ bd R (w / 2)).testBit y=true then N else 0;have e1:en (a::R) y / 2=en R y:=(by rw[en];split<;>lia);have ar:en (a::R) y%2=if a.testBit y=true then 1 else 0:=(by rw[en];split<;>lia);rw[e1,ar,Km N y R,aco];cases J:a.testBit y<;>cases aa:(bd R (w / 2)).testBit y<;>by_cases aJ:w%2=1<;>simp[J,aa,aJ]
def DE(Y R:List Nat):cB (Y.map (en R))<=cB R:=by
 refine snoc_ind (P:=λR=>cB (Y.map (en R))<=cB R) ?_ (λR a aE=>?_) R
 .rw[Ii λx ai=>by obtain⟨y,_,rfl⟩:=List.mem_map.mp ai;rfl];exact abZ _
 .obtain⟨l1,eQ⟩:=j1 R a
  by_cases q:sp R a
  .obtain⟨w,_,hw⟩:=X1 R a q;have e:Y.map (en (R++[a]))=(Y.map (en R)).map λx=>x ^^^ bd (q5 (2 ^ R.length) w R) x:=by
    rw[List.map_map];refine abO λy _=>?_
    show _=en R y ^^^ bd (q5 (2 ^ R.length) w R) (en R y);rw[Dz,Km,hw]
   rw[l1 q,e];refine acx (Ig (λx y=>?_) _) aE;rw[ic,Kn]
  .rw[eQ q];have d9:=wh (as:=Y.map (en (R++[a]))) (bs:=Y.map (en R)++[2 ^ R.length]) λx ai=>eC (λb ae=>by
    obtain⟨y,aQ,rfl⟩:=List.mem_map.mp ae;rw[Dz];refine BN (es (List.mem_map.mpr ⟨y,aQ,rfl⟩)) ?_
    split
    .exact es List.mem_cons_self
    .exact o9 _) ai
   have fz:=j1 (Y.map (en R)) (2 ^ R.length)
   by_cases p:sp (Y.map (en R)) (2 ^ R.length)
   .rw[fz.1 p]at d9;lia
   .rw[fz.2 p]at d9;lia
def Wm(h:∀a∈R,a<2 ^ q):cB ((List.range q).map (en R))=cB R:=by
 refine Nat.le_antisymm (DE _ R) ?_;have e:(List.range R.length).map (en ((List.range q).map (en R)))=R:=by
  refine ae3 (by simp) λi J aa=>?_
  rw[List.getElem_map,List.getElem_range];refine acs λy=>?_
  rw[pO]
  by_cases aQ:y<q
  .rw[abF,acW aQ];show(en R y).testBit i=_;rw[pO,aby aa];rfl
  .rw[abM (by simp;lia),ab0 (abG (h _ (adm aa)) (abQ ∅ ⋯))];simp
 have:=DE (List.range R.length) ((List.range q).map (en R));rwa[e]at this
def Sm{α:Type}[DecidableEq α]{U:List α}{a b:α}(aw:a∈U)(ae:b∈U)(e:cg U a=cg U b):a=b:=by
 have J:U[cg U a]'(qo aw)=a:=ach _;have aa:U[cg U b]'(qo ae)=b:=ach _;rw[<- J,<- aa];congr 1
def Wr{α β:Type}[DecidableEq α][DecidableEq β]{U:List α}{V:List β}(cV:U.Nodup)(m6:V.Nodup)(r:α->β->Bool):
  cB (V.map λe=>bD U (U.filter λc=>r c e))=cB (U.map λc=>bD V (V.filter (r c))):=by
 rw[<- Wm (R:=U.map λc=>bD V (V.filter (r c))) (q:=V.length) λa aw=>by
  obtain⟨c,_,rfl⟩:=List.mem_map.mp aw;exact jW λx ai=>(List.mem_filter.mp ai).1]
 congr 1;refine ae3 (by simp) λy J aa=>?_
 rw[List.length_map]at J;rw[List.getElem_map,List.getElem_map,List.getElem_range];refine acs λi=>?_
 rw[pO]
 by_cases aj:i<U.length
 .rw[jh i aj (cV.filter _) cV,abF,aby aj];show _=(bD V (V.filter (r U[i]))).testBit y;rw[jh y J (m6.filter _) m6];refine aeq.mpr ?_;rw[List.mem_filter,List.mem_filter];exact⟨λq=>⟨adm J,q.2⟩,λq=>⟨adm aj,q.2⟩⟩
 .rw[ab0 (abG (jW λx ai=>(List.mem_filter.mp ai).1) (abQ ∅ ⋯)),abM (by simp;lia)];simp
end eD
end
section
namespace fR
open PySem PySem.SetTable
def mB(xs:Array Nat):Prop:=∀(i j a b:Nat),i<j->xs[i]?=some a->xs[j]?=some b->a<b
def xm(xs:Array Nat)(j p:Nat):Prop:=∀(q a:Nat),q<p->xs[q]?=some a->a<j
def xh(xs:Array Nat)(j p:Nat):Prop:=∀(q a:Nat),p<=q->xs[q]?=some a->j<=a
theorem zi(a4:mB xs)(j):∀(fuel lo aj:Nat),aj-lo<=fuel->lo<=aj->aj<=xs.size->xm xs j lo->xh xs j aj ->
  below.go xs j fuel lo aj<=xs.size/\xm xs j (below.go xs j fuel lo aj)/\xh xs j (below.go xs j fuel lo aj)
 |0,lo,aj,J,aa,aJ,aA,cD=>by
  have e:lo=aj:=⋯;subst e;exact⟨aJ,aA,cD⟩
 |fuel+1,lo,aj,J,aa,aJ,aA,cD=>by
  unfold below.go
  by_cases bS:lo<aj
  .rw[if_pos bS];have hm:(lo+aj) / 2<xs.size:=⋯;have aY:xs[(lo+aj) / 2]?=some xs[(lo+aj) / 2]:=abI hm;have hd:xs.getD ((lo+aj) / 2) j=xs[(lo+aj) / 2]:=(by simp[Array.getD,hm]);simp only[hd]
   by_cases ah:xs[(lo+aj) / 2]<j
   .rw[if_pos ah];refine zi a4 j fuel _ _ ⋯ ⋯ aJ ?_ cD;intro q a aM aw
    by_cases e:q=(lo+aj) / 2
    .subst e;rw[aY]at aw;cases aw;exact ah
    .have:=a4 q ((lo+aj) / 2) a _ ⋯ aw aY;lia
   .rw[if_neg ah];refine zi a4 j fuel _ _ ⋯ ⋯ ⋯ aA ?_;intro q a aM aw
    by_cases e:q=(lo+aj) / 2
    .subst e;rw[aY]at aw;cases aw;lia
    .have:=a4 ((lo+aj) / 2) q _ a ⋯ aY aw;lia
  .rw[if_neg bS];have e:lo=aj:=⋯;subst e;exact⟨aJ,aA,cD⟩
def yj(a4:mB xs)(j):below xs j<=xs.size/\xm xs j (below xs j)/\xh xs j (below xs j):=by
 unfold below;refine zi a4 j _ _ _ ⋯ ⋯ ⋯ (λq a aM _=>⋯) (λq a aM aw=>?_);have:=(abY.mp aw).1;lia
def below_at(a4:mB xs)(h:xs[i]?=some j):below xs j=i:=by
 obtain⟨J,aa,aJ⟩:=yj a4 j
 by_cases cy:i<below xs j
 .exact absurd (aa i j cy h) (acQ _)
 .by_cases bU:below xs j=i
  .exact bU
  .have aj:=(abY.mp h).1;have aY:xs[below xs j]?=some (xs[below xs j]'⋯):=abI ⋯;have a:=aJ _ _ (abz _) aY;have b:=a4 (below xs j) i _ _ ⋯ aY h;lia
def o7{t:SetTable}(a4:mB t.place)(h:t.place[i]?=some j):t.slot j=.live i:=by
 unfold slot;rw[below_at a4 h];simp[h]
def XP{t:SetTable}(hd:t.dummies=#[])(h:∀i:Nat,t.place[i]?≠some j):t.slot j=.empty:=by
 unfold slot has;have h0:(t.place[below t.place j]?==some j)=false:=by
  rw[acb];exact h _
 simp only[h0,hd];simp
noncomputable def ib(m:Nat)(p:Probe):Probe :=
 if p.more>0 then { p with j:=p.j+1,more:=p.more-1 } else
 { p with j:=(leap m p.i p.perturb).1,more:=runEnd m (leap m p.i p.perturb).1-(leap m p.i p.perturb).1,i:=(leap m p.i p.perturb).1,perturb:=(leap m p.i p.perturb).2 }
def KP(t:SetTable)(p):t.advance p=ib t.mask p:=rfl
noncomputable def R7(m:Nat)(h:Int):Probe:={ j:=bits h%(m+1),more:=runEnd m (bits h%(m+1))-bits h%(m+1),i:=bits h%(m+1),perturb:=bits h,dummy:=none }
noncomputable def pr(m:Nat)(h:Int):Nat->Probe
 |0=>R7 m h
 |n+1=>ib m (pr m h n)
noncomputable def cW(m:Nat)(h:Int)(n:Nat):Nat:=(pr m h n).j
theorem HG(m)(h):∀n,(pr m h n).dummy=none
 |0=>rfl
 |n+1=>by
  have aE:=HG m h n;show(ib m (pr m h n)).dummy=none;unfold ib
  split<;>exact aE
def wi(h:i<=m):runEnd m i<=m/\i<=runEnd m i/\runEnd m i<=i+9:=by
 unfold runEnd;split<;>lia
def Gb(m i p):(leap m i p).1<=m:=by
 unfold leap;have:(i*5+1+p / 32)%(m+1)<m+1:=afk _ ⋯;show(i*5+1+p / 32)%(m+1)<=m;lia
theorem HH(m)(h):∀n,(pr m h n).j+(pr m h n).more<=m
 |0=>by
  have:bits h%(m+1)<m+1:=afk _ ⋯;have:=wi (m:=m) (i:=bits h%(m+1)) ⋯;show bits h%(m+1)+(runEnd m (bits h%(m+1))-bits h%(m+1))<=m;lia
 |n+1=>by
  have aE:=HH m h n;show(ib m (pr m h n)).j+(ib m (pr m h n)).more<=m;unfold ib
  split
  .show(pr m h n).j+1+((pr m h n).more-1)<=m;lia
  .have:=Gb m (pr m h n).i (pr m h n).perturb;have:=wi this;show(leap m (pr m h n).i (pr m h n).perturb).1+(runEnd m (leap m (pr m h n).i (pr m h n).perturb).1-(leap m (pr m h n).i (pr m h n).perturb).1)<=m;lia
def BP(m)(h)(n):cW m h n<=m:=by have:=HH m h n;unfold cW;lia
noncomputable def run(m:Nat)(h:Int):Nat->Nat×Nat
 |0=>(bits h%(m+1),bits h)
 |r+1=>leap m (run m h r).1 (run m h r).2
def Bv(m)(h):∀r,(run m h r).1<=m
 |0=>by have:bits h%(m+1)<m+1:=afk _ ⋯;show bits h%(m+1)<=m;lia
 |r+1=>Gb _ _ _
noncomputable def st(m:Nat)(h:Int)(r d:Nat):Probe:={ j:=(run m h r).1+d,more:=runEnd m (run m h r).1-(run m h r).1-d,i:=(run m h r).1,perturb:=(run m h r).2,dummy:=none }
noncomputable def len(m:Nat)(h:Int)(r:Nat):Nat:=runEnd m (run m h r).1-(run m h r).1
def S7(m)(h)(r):len m h r<=9:=by have:=wi (Bv m h r);unfold len;lia
def CL(hd:d<len m h r):ib m (st m h r d)=st m h r (d+1):=by
 unfold ib;have:(st m h r d).more>0:=by show runEnd m (run m h r).1-(run m h r).1-d>0;unfold len at hd;lia
 rw[if_pos this];show Probe.mk _ _ _ _ _=Probe.mk _ _ _ _ _;congr 1
def KQ:ib m (st m h r (len m h r))=st m h (r+1) 0:=by
 unfold ib;have:¬(st m h r (len m h r)).more>0:=by show ¬(runEnd m (run m h r).1-(run m h r).1-len m h r>0);unfold len;lia
 rw[if_neg this];rfl
theorem xG(m)(h):∀r:Nat,∃n,n<=10*r/\pr m h n=st m h r 0/\∀k,k<n->∃bX d',bX<r/\d'<=len m h bX/\pr m h k=st m h bX d'
 |0=>⟨0,abz _,rfl,λk ay=>absurd ay (Nat.not_lt_zero k)⟩
 |r+1=>by
  obtain⟨n,aC,e,ay⟩:=xG m h r;have walk:∀d,d<=len m h r->pr m h (n+d)=st m h r d:=by
   intro d
   induction d with
   |zero=>intro _;exact e
   |succ d aE =>
    intro hd;show ib m (pr m h (n+d))=_;rw[aE ⋯];exact CL ⋯
  have aA:=S7 m h r;refine⟨n+len m h r+1,⋯,?_,λk fq=>?_⟩
  .show ib m (pr m h (n+len m h r))=_;rw[walk _ (abz _)];exact KQ
  .by_cases c:k<n
   .obtain⟨bX,d',a,b,c⟩:=ay k c;exact⟨bX,d',⋯,b,c⟩
   .refine⟨r,k-n,⋯,⋯,?_⟩;have:=walk (k-n) ⋯;rw[show n+(k-n)=k by lia]at this;exact this
def Lp(m)(h)(r d)(hd:d<=len m h r):∃n,n<=10*r+d/\pr m h n=st m h r d/\∀k,k<n->∃bX d',d'<=len m h bX/\(bX<r\/(bX=r/\d'<d))/\pr m h k=st m h bX d':=by
 obtain⟨n,aC,e,ay⟩:=xG m h r;have walk:∀d,d<=len m h r->pr m h (n+d)=st m h r d:=by
  intro d
  induction d with
  |zero=>intro _;exact e
  |succ d aE =>
   intro hd;show ib m (pr m h (n+d))=_;rw[aE ⋯];exact CL ⋯
 refine⟨n+d,⋯,walk d hd,λk fq=>?_⟩
 by_cases c:k<n
 .obtain⟨bX,d',a,b,c⟩:=ay k c;exact⟨bX,d',b,.inl a,c⟩
 .refine⟨r,k-n,⋯,.inr ⟨rfl,⋯⟩,?_⟩;have:=walk (k-n) ⋯;rw[show n+(k-n)=k by lia]at this;exact this
def LF(h):bits h<2 ^ 64:=by
 unfold bits;have J:=Int.emod_nonneg h (show(2 ^ 64:Int)≠0 by decide);have aa:=Int.emod_lt_of_pos h (show(0:Int)<2 ^ 64 by decide);have e:((2:Int) ^ 64)=18446744073709551616:=by decide
 rw[e]at J aa ⊢;lia
theorem Hz(m)(h):∀r,(run m h r).2=bits h / 32 ^ r
 |0=>by simp[run]
 |r+1=>by
  show(run m h r).2 / 32=_;rw[Hz m h r,Nat.div_div_eq_div_mul,Nat.pow_succ]
def Vg(m)(h)(r)(a4:13<=r):(run m h r).2=0:=by
 rw[Hz];refine Nat.div_eq_of_lt (abG (LF h) (acx (show 2 ^ 64<=32 ^ 13 by decide) (abQ ∅ a4)))
noncomputable def gT(m:Nat):Nat->Nat->Nat
 |0,i=>i
 |n+1,i=>(gT m n i*5+1)%(m+1)
theorem It(m)(h):∀n,(run m h (13+n)).1=gT m n (run m h 13).1
 |0=>rfl
 |n+1=>by
  show(leap m (run m h (13+n)).1 (run m h (13+n)).2).1=_;rw[It m h n,Vg m h (13+n) ⋯];rfl
noncomputable def vY(m:Nat):Nat->Nat->List Nat
 |0,_=>[]
 |n+1,i=>i::vY m n ((i*5+1)%(m+1))
theorem Hl(m):∀n i,gT m n ((i*5+1)%(m+1))=gT m (n+1) i
 |0,i=>rfl
 |n+1,i=>by
  show(gT m n ((i*5+1)%(m+1))*5+1)%(m+1)=(gT m (n+1) i*5+1)%(m+1);rw[Hl m n i]
theorem vZ(m):∀a b i,gT m (a+b) i=gT m b (gT m a i)
 |a,0,i=>rfl
 |a,b+1,i=>by
  show(gT m (a+b) i*5+1)%(m+1)=_;rw[vZ m a b i];rfl
theorem GN(m):∀n i j,j∈vY m n i->∃k,k<n/\gT m k i=j
 |0,i,j,h=>by simp[vY]at h
 |n+1,i,j,h=>by
  rcases abA.mp h with e|h
  .exact⟨0,⋯,e.symm⟩
  .obtain⟨k,ay,e⟩:=GN m n _ j h;exact⟨k+1,⋯,by rw[<- Hl];exact e⟩
def gJ(m:Nat):Prop:=m=7\/m=31\/m=127\/m=511
noncomputable def rP(m:Nat):Bool:=(List.range (m+1)).all λj=>(vY m (m+1) 0).contains j
def MA:rP 7=true:=by decide +kernel
def My:rP 31=true:=by decide +kernel
def Mx:rP 127=true:=by decide +kernel
def Mz:rP 511=true:=by decide +kernel
def Vb:gT 511 512 0=0:=by decide +kernel
def Vc:gT 7 8 0=0:=by decide +kernel
def Va:gT 31 32 0=0:=by decide +kernel
def U9:gT 127 128 0=0:=by decide +kernel
def gJ.gM(h:gJ m):rP m=true/\gT m (m+1) 0=0:=by
 rcases h with rfl|rfl|rfl|rfl
 .exact⟨MA,Vc⟩
 .exact⟨My,Va⟩
 .exact⟨Mx,U9⟩
 .exact⟨Mz,Vb⟩
def gJ.HV(h:gJ m)(aI:j<=m):∃k,k<m+1/\gT m k 0=j:=by
 have:=ab1.mp h.gM.1 j (List.mem_range.mpr ⋯);exact GN m (m+1) 0 j (by simpa using this)
def gJ.reach(h:gJ m)(aj:i<=m)(aI:j<=m):∃k,k<m+1/\gT m k i=j:=by
 obtain⟨a,aw,bI⟩:=h.HV aj;obtain⟨b,ae,e6⟩:=h.HV aI
 by_cases c:a<=b
 .refine⟨b-a,⋯,?_⟩;rw[<- bI,<- vZ,show a+(b-a)=b by lia];exact e6
 .refine⟨m+1-a+b,⋯,?_⟩;rw[<- bI,<- vZ,show a+(m+1-a+b)=(m+1)+b by lia,vZ,h.gM.2];exact e6
def gJ.met(hm:gJ m)(h)(aI:j<=m):∃r,r<m+14/\(run m h r).1=j:=by
 obtain⟨k,ay,e⟩:=hm.reach (Bv m h 13) aI;exact⟨13+k,⋯,by rw[It];exact e⟩
def gJ.TJ(hm:gJ m)(h)(aI:j<=m):∃n,n<10*turns m/\cW m h n=j:=by
 obtain⟨r,a4,e⟩:=hm.met h aI;obtain⟨n,aC,lJ,_⟩:=xG m h r;refine⟨n,by unfold turns;lia,?_⟩;unfold cW;rw[lJ];show(run m h r).1+0=j;lia
def least{P:Nat->Prop}(n)(h:P n):∃k,k<=n/\P k/\∀q,q<k->¬P q:=by
 induction n using Nat.strongRecOn with
 |ind n aE =>
  by_cases c:∃q,q<n/\P q
  .obtain⟨q,aM,aB⟩:=c;obtain⟨k,a,b,d⟩:=aE q aM aB;exact⟨k,⋯,b,d⟩
  .exact⟨n,abz _,h,λq aM aB=>c ⟨q,aM,aB⟩⟩
def hole(a4:mB xs)(af:xs.size<=m):∃j,j<=m/\∀i:Nat,xs[i]?≠some j:=by
 by_cases c:∃j,j<=m/\∀i:Nat,xs[i]?≠some j
 .exact c
 .exfalso;have all:∀j,j<=m->∃i:Nat,xs[i]?=some j:=λj aI=>by
   by_cases de:∃i:Nat,xs[i]?=some j
   .exact de
   .exact absurd ⟨j,aI,λi e=>de ⟨i,e⟩⟩ c
  have ge:∀j,j<=m->∀i:Nat,xs[i]?=some j->j<=i:=by
   intro j
   induction j with
   |zero=>intro _ i _;lia
   |succ j aE =>
    intro aI i aj;obtain⟨cP,fp⟩:=all j ⋯;have:=aE ⋯ cP fp
    by_cases cy:i<cP
    .have:=a4 i cP _ _ cy aj fp;lia
    .by_cases bU:i=cP
     .subst bU;rw[aj]at fp;injection fp with e;lia
     .omega
  obtain⟨i,aj⟩:=all m (abz _);have J:=ge m (abz _) i aj;have aa:=(abY.mp aj).1;lia
def Ex{t:SetTable}(hm:gJ t.mask)(a4:mB t.place)(hd:t.dummies=#[])(af:t.place.size<=t.mask)(h):
  ∃N,N<10*turns t.mask/\t.slot (cW t.mask h N)=.empty/\(∀i:Nat,t.place[i]?≠some (cW t.mask h N))/\∀k,k<N->∃i:Nat,t.place[i]?=some (cW t.mask h k):=by
 obtain⟨j,aI,aC⟩:=hole a4 af;obtain⟨n,Fz,e⟩:=hm.TJ h aI;obtain⟨N,J,aa,aJ⟩:=least (P:=λn=>∀i:Nat,t.place[i]?≠some (cW t.mask h n)) n (by rw[e];exact aC);refine⟨N,⋯,XP hd aa,aa,λk ay=>?_⟩
 by_cases c:∃i:Nat,t.place[i]?=some (cW t.mask h k)
 .exact c
 .exact absurd (λi e=>c ⟨i,e⟩) (aJ k ay)
theorem Bf(a4:mB t.place)(he:t.slot (cW t.mask h N)=.empty)(aA:∀k,k<N->∃i:Nat,t.place[i]?=some (cW t.mask h k)):
  ∀(fuel n:Nat),n<=N->N-n<fuel ->
   (∃k i,n<=k/\k<N/\t.place[i]?=some (cW t.mask h k)/\hashAt i=h/\(∀cL,n<=cL->cL<k->∀cP:Nat,t.place[cP]?=some (cW t.mask h cL)->hashAt cP≠h)/\probe.go t hashAt h fuel (pr t.mask h n)=some (.candidate (cW t.mask h k) i (pr t.mask h (k+1))))
   \/ ((∀cL,n<=cL->cL<N->∀cP:Nat,t.place[cP]?=some (cW t.mask h cL)->hashAt cP≠h)/\probe.go t hashAt h fuel (pr t.mask h n)=some (.empty (cW t.mask h N) none))
 |0,n,J,aa=>by lia
 |fuel+1,n,J,aa=>by
  unfold probe.go
  by_cases c:n=N
  .subst c;have e:t.slot (pr t.mask h n).j=.empty:=he;rw[e];refine .inr ⟨λcL a b=>⋯,?_⟩;show some (Met.empty _ (pr t.mask h n).dummy)=_;rw[HG];rfl
  .obtain⟨i,aj⟩:=aA n ⋯;have e:t.slot (pr t.mask h n).j=.live i:=o7 a4 aj;rw[e]
   by_cases q:hashAt i=h
   .refine .inl ⟨n,i,abz _,⋯,aj,q,λcL a b=>⋯,?_⟩;simp only[q,beq_self_eq_true,acj];rfl
   .have cN:(hashAt i==h)=false:=(by rw[acb];exact q);simp only[cN,abx,abS];have ne:∀cP:Nat,t.place[cP]?=some (cW t.mask h n)->hashAt cP≠h:=λcP fp=>by
     have bk:=o7 a4 fp;rw[o7 a4 aj]at bk;injection bk with bk;rw[<- bk];exact q
    rw[KP];show(∃k i,_/\_/\_/\_/\_/\probe.go t hashAt h fuel (pr t.mask h (n+1))=_)\/(_/\probe.go t hashAt h fuel (pr t.mask h (n+1))=_);rcases Bf a4 he aA fuel (n+1) ⋯ ⋯ with⟨k,d9,a,b,d,e1,f,g⟩|⟨f,g⟩
    .refine .inl ⟨k,d9,⋯,b,d,e1,λcL p1 p2 cP p3=>?_,g⟩
     by_cases de:cL=n
     .subst de;exact ne cP p3
     .exact f cL ⋯ p2 cP p3
    .refine .inr ⟨λcL p1 p2 cP p3=>?_,g⟩
     by_cases de:cL=n
     .subst de;exact ne cP p3
     .exact f cL ⋯ p2 cP p3
def Ai{α:Type}(xs)(p)(x:α)(aB:p<=xs.size)(i):
  (insertAt xs p x)[i]?=if i<p then xs[i]? else if i=p then some x else xs[i-1]?:=by
 unfold insertAt;rw[Array.getElem?_append,Array.getElem?_push,Array.getElem?_extract,Array.getElem?_extract,Array.size_push,aeL];have e:min p xs.size-0=p:=by lia
 rw[e,ac3]
 by_cases cy:i<p
 .simp only[if_pos (show i<p+1 by lia),if_neg (show ¬i=p by lia),if_pos cy]
 .by_cases bU:i=p
  .simp only[if_pos (show i<p+1 by lia),if_neg cy,if_pos bU]
  .simp only[if_neg (show ¬i<p+1 by lia),if_neg cy,if_neg bU,Nat.min_self];have ar:min p xs.size=p:=by lia
   by_cases hx:i-(p+1)<xs.size-p
   .rw[if_pos hx];congr 1;lia
   .rw[if_neg hx];rw[adI ⋯]
def ql{α:Type}(xs)(p)(x:α)(aB:p<=xs.size):(insertAt xs p x).size=xs.size+1:=by
 unfold insertAt;rw[aeV,Array.size_push,aeL,aeL];lia
def FV{α:Type}(xs)(p)(x:α)(aB:p<=xs.size):(insertAt xs p x).toList.Perm (x::xs.toList):=by
 have e:(insertAt xs p x).toList=xs.toList.take p++x::xs.toList.drop p:=by
  unfold insertAt;simp[List.extract_eq_drop_take];rw[adi (by simp)]
 rw[e];refine(List.perm_middle).trans (List.Perm.cons x ?_);rw[aek]
structure Tab{α:Type}(ak:Array (Int×α))(t:SetTable):Prop where
 ix:mB t.place
 le:∀i j:Nat,t.place[i]?=some j->j<=t.mask
 gH:t.place.size=ak.size
 rV:t.dummies=#[]
 bD:gJ t.mask
 full:t.place.size<=t.mask
 path:∀(i j:Nat)(e:Int×α),t.place[i]?=some j->ak[i]?=some e->∃n,cW t.mask e.1 n=j/\∀k,k<n->∃cP:Nat,t.place[cP]?=some (cW t.mask e.1 k)
section
variable{α:Type}{ak:Array (Int×α)}{t:SetTable}
theorem Tab.fill(T:Tab ak t):t.fill=ak.size:=by unfold SetTable.fill;rw[T.rV,T.gH];simp
def Tab.met(T:Tab ak t)(he:∀i:Nat,t.place[i]?≠some (cW t.mask h N)){i:Nat}(aj:ak[i]?=some e)(cD:e.1=h):∃k,k<N/\t.place[i]?=some (cW t.mask h k):=by
 have af:=(abY.mp aj).1;rw[<- T.gH]at af;have aB:t.place[i]?=some t.place[i]:=abI af;obtain⟨n,aC,az⟩:=T.path i _ e aB aj;subst cD;refine⟨n,?_,by rw[aC];exact aB⟩
 by_cases c:n<N
 .exact c
 .exfalso
  by_cases bU:n=N
  .subst bU;exact he i (by rw[aC];exact aB)
  .obtain⟨cP,fp⟩:=az N ⋯;exact he cP fp
theorem Tab.put(T:Tab ak t)(he:∀i:Nat,t.place[i]?≠some (cW t.mask h N))(aA:∀k,k<N->∃i:Nat,t.place[i]?=some (cW t.mask h k))(hf:t.place.size+1<=t.mask):
  Tab (insertAt ak (t.put (cW t.mask h N)).2 (h,x)) (t.put (cW t.mask h N)).1/\(t.put (cW t.mask h N)).2<=ak.size/\(t.put (cW t.mask h N)).1.mask=t.mask/\(t.put (cW t.mask h N)).1.plain=t.plain/\(t.put (cW t.mask h N)).1.led=t.led
   /\ (t.put (cW t.mask h N)).1.place.size=ak.size+1:=by
 obtain⟨b1,b2,el⟩:=yj T.ix (cW t.mask h N);generalize aI:cW t.mask h N=j at he b1 b2 el ⊢;have hd:has t.dummies j=false:=by unfold has;rw[T.rV];simp
 have e1:t.put j=({ t with place:=insertAt t.place (below t.place j) j },below t.place j):=by
  unfold SetTable.put;simp only[hd];rfl
 rw[e1];generalize below t.place j=p at b1 b2 el;have rF:p<=ak.size:=by rw[<- T.gH];exact b1
 have pg:=Ai t.place p j b1;have r1:=Ai ak p (h,x) rF;have Lr:∀(q a:Nat),p<=q->t.place[q]?=some a->j<a:=λq a aM aw=>by
  have:=el q a aM aw;have:j≠a:=λe=>he q (by rw[e];exact aw)
  lia
 have mem:∀v i:Nat,t.place[i]?=some v->∃cP:Nat,(insertAt t.place p j)[cP]?=some v:=λv i aj=>by
  by_cases c:i<p
  .exact⟨i,by rw[pg,if_pos c];exact aj⟩
  .exact⟨i+1,by rw[pg,if_neg (show ¬i+1<p by lia),if_neg (show ¬i+1=p by lia)];exact aj⟩
 refine⟨⟨?_,?_,?_,T.rV,T.bD,?_,?_⟩,rF,rfl,rfl,rfl,?_⟩
 .intro i cP a b QL aw ae;dsimp only at aw ae;rw[pg]at aw ae
  by_cases cy:i<p
  .rw[if_pos cy]at aw
   by_cases bU:cP<p
   .rw[if_pos bU]at ae;exact T.ix i cP a b QL aw ae
   .rw[if_neg bU]at ae
    by_cases hx:cP=p
    .rw[if_pos hx]at ae;injection ae with ae;subst ae;exact b2 i a cy aw
    .rw[if_neg hx]at ae;exact T.ix i (cP-1) a b ⋯ aw ae
  .rw[if_neg cy]at aw;rw[if_neg (show ¬cP<p by lia),if_neg (show ¬cP=p by lia)]at ae
   by_cases hx:i=p
   .rw[if_pos hx]at aw;injection aw with aw;subst aw;exact Lr (cP-1) b ⋯ ae
   .rw[if_neg hx]at aw;exact T.ix (i-1) (cP-1) a b ⋯ aw ae
 .intro i v aN;dsimp only at aN ⊢;rw[pg]at aN
  split at aN
  .exact T.le _ _ aN
  .split at aN
   .injection aN with aN;rw[<- aN,<- aI];exact BP _ _ _
   .exact T.le _ _ aN
 .show(insertAt t.place p j).size=(insertAt ak p (h,x)).size;rw[ql _ _ _ b1,ql _ _ _ rF,T.gH]
 .show(insertAt t.place p j).size<=t.mask;rw[ql _ _ _ b1];exact hf
 .intro i v e aN iM;dsimp only at aN ⊢;rw[pg]at aN;rw[r1]at iM;have old:∀h1:Nat,t.place[h1]?=some v->ak[h1]?=some e->∃n,cW t.mask e.1 n=v/\∀k,k<n->∃cP:Nat,(insertAt t.place p j)[cP]?=some (cW t.mask e.1 k):=λh1 a b=>by
   obtain⟨n,aC,az⟩:=T.path h1 v e a b;exact⟨n,aC,λk ay=>let ⟨cP,fp⟩:=az k ay;mem _ _ fp⟩
  by_cases cy:i<p
  .rw[if_pos cy]at aN iM;exact old i aN iM
  .rw[if_neg cy]at aN iM
   by_cases bU:i=p
   .rw[if_pos bU]at aN iM;injection aN with aN;injection iM with iM;subst iM;exact⟨N,by rw[aI];exact aN,λk ay=>let ⟨cP,fp⟩:=aA k ay;mem _ _ fp⟩
   .rw[if_neg bU]at aN iM;exact old _ aN iM
 .show(insertAt t.place p j).size=ak.size+1;rw[ql _ _ _ b1,T.gH]
end
theorem AW:∀(k:Nat)(l:List Nat),l.Nodup->(∀x∈l,x<k)->l.length<=k
 |0,l,_,h=>by
  cases l with
  |nil=>simp
  |cons a r=>exact absurd (h a List.mem_cons_self) (Nat.not_lt_zero a)
 |k+1,l,ea,h=>by
  by_cases c:k∈l
  .have J:=AW k (l.erase k) (ea.erase k) λx ai=>by
    have:=(ea.mem_erase_iff).mp ai;have:=h x this.2;lia
   rw[List.length_erase_of_mem c]at J;lia
  .have:=AW k l ea λx ai=>by
    have:=h x ai;have:x≠k:=λe=>c (e▸ai)
    lia
   lia
def mz(cM:Array (Option Nat))(j:Nat):Prop:=∃q,cM[j]?=some (some q)
theorem EI(hz:cM.size=m+1):∀(fuel r:Nat),(∃fP,r<=fP/\fP<r+fuel/\cM[(run m h fP).1]?=some none) ->
  (∀bX d,d<=len m h bX->bX<r->mz cM ((run m h bX).1+d)) ->
  ∃aG bR,bR<=len m h aG/\layClean.free m cM fuel (run m h r).1 (run m h r).2=some ((run m h aG).1+bR)/\cM[(run m h aG).1+bR]?=some none/\∀bX d,d<=len m h bX->(bX<aG\/(bX=aG/\d<bR))->mz cM ((run m h bX).1+d)
 |0,r,⟨fP,a,b,_⟩,_=>by lia
 |fuel+1,r,⟨fP,a,b,c⟩,ae=>by
  unfold layClean.free;have aaI:=wi (Bv m h r);have get:∀d,d<=len m h r->∃o,cM[(run m h r).1+d]?=some o/\cM.getD ((run m h r).1+d) (some 0)=o:=λd hd=>by
   unfold len at hd;have bS:(run m h r).1+d<cM.size:=(by rw[hz];lia);exact⟨cM[(run m h r).1+d],abI bS,by simp[Array.getD,bS]⟩
  cases hf:(List.range (runEnd m (run m h r).1+1-(run m h r).1)).find? λk=>(cM.getD ((run m h r).1+k) (some 0)).isNone with
  |some k =>
   obtain⟨J,aa,aJ⟩:=List.find?_range_eq_some.mp hf;have ay:k<=len m h r:=(by have:=List.mem_range.mp aa;unfold len;lia);refine⟨r,k,ay,rfl,?_,λbX d hd bS=>?_⟩
   .obtain⟨o,e1,ar⟩:=get k ay;rw[ar]at J;rw[e1];cases o with
    |none=>rfl
    |some _=>simp at J
   .rcases bS with bS|⟨rfl,bS⟩
    .exact ae bX d hd bS
    .obtain⟨o,e1,ar⟩:=get d hd;have:=aJ d bS;rw[ar]at this;cases o with
     |none=>simp at this
     |some q=>exact⟨q,e1⟩
  |none =>
   have aC:=List.find?_range_eq_none.mp hf;have full:∀d,d<=len m h r->mz cM ((run m h r).1+d):=λd hd=>by
    obtain⟨o,e1,ar⟩:=get d hd;have:=aC d (by unfold len at hd;lia);rw[ar]at this;cases o with
    |none=>simp at this
    |some q=>exact⟨q,e1⟩
   have aa8:fP≠r:=λe=>by
    subst e;obtain⟨q,aM⟩:=full 0 (abZ _);rw[Nat.add_zero,c]at aM;cases aM
   show ∃aG bR,_/\layClean.free m cM fuel (run m h (r+1)).1 (run m h (r+1)).2=_/\_;refine EI hz fuel (r+1) ⟨fP,⋯,⋯,c⟩ λbX d hd bS=>?_
   by_cases e:bX=r
   .subst e;exact full d hd
   .exact ae bX d hd ⋯
structure Own(m:Nat)(af:List Int)(cM:Array (Option Nat)):Prop where
 size:cM.size=m+1
 lt:∀j q:Nat,cM[j]?=some (some q)->q<af.length
 inj:∀j lU q:Nat,cM[j]?=some (some q)->cM[lU]?=some (some q)->j=lU
 all:∀(q:Nat)(h:Int),af[q]?=some h->∃n,cM[cW m h n]?=some (some q)/\∀k,k<n->mz cM (cW m h k)
def Own.hole(O:Own m af cM)(aA:af.length<=m):∃j,j<=m/\cM[j]?=some none:=by
 by_cases c:∃j,j<=m/\cM[j]?=some none
 .exact c
 .exfalso;have fN:∀j,j<=m->mz cM j:=λj aI=>by
   have aY:cM[j]?=some (cM[j]'(by rw[O.size];lia)):=abI (by rw[O.size];lia);cases e:cM[j]'(by rw[O.size];lia) with
   |none=>exact absurd ⟨j,aI,by rw[aY,e]⟩ c
   |some q=>exact⟨q,by rw[aY,e]⟩
  have J:=AW af.length ((List.range (m+1)).map λj=>(cM.getD j none).getD 0) ?_ ?_
  .simp at J;lia
  .have key:∀j,j<=m->cM[j]?=some (some ((cM.getD j none).getD 0)):=λj aI=>by
    obtain⟨q,aM⟩:=fN j aI;have:cM.getD j none=some q:=(by rw[acz,aM];rfl);rw[this];exact aM
   rw[List.Nodup,ab4];refine abX ?_ (List.nodup_range (n:=m+1));intro a b aw ae p8 e;have sW:=key a (by have:=List.mem_range.mp aw;lia);have oI:=key b (by have:=List.mem_range.mp ae;lia);rw[<- e]at oI;exact p8 (O.inj a b _ sW oI)
  .intro x ai;obtain⟨j,aI,e⟩:=List.mem_map.mp ai;obtain⟨q,aM⟩:=fN j (by have:=List.mem_range.mp aI;lia);have:cM.getD j none=some q:=(by rw[acz,aM];rfl);rw[this]at e;have bk:q=x:=e;rw[<- bk];exact O.lt j q aM
def Own.step(hm:gJ m)(O:Own m af cM)(aA:af.length<=m)(h):
  ∃j,layClean.free m cM (turns m) (bits h%(m+1)) (bits h)=some j/\Own m (af++[h]) (cM.setIfInBounds j (some af.length)):=by
 obtain⟨aaR,QN,e0⟩:=O.hole aA;obtain⟨fP,aaG,Oc⟩:=hm.met h QN;obtain⟨aG,bR,ky,uW,lJ,Ri⟩:=EI (h:=h) O.size (turns m) 0 ⟨fP,abZ _,by unfold turns;lia,by rw[Oc];exact e0⟩ (λbX d _ bS=>absurd bS (Nat.not_lt_zero _));obtain⟨n,_,aC,ay⟩:=Lp m h aG bR ky;have Of:cW m h n=(run m h aG).1+bR:=by unfold cW;rw[aC];rfl
 rw[<- Of]at uW lJ;have Up:∀k,k<n->mz cM (cW m h k):=λk fq=>by
  obtain⟨bX,d',a,b,c⟩:=ay k fq;unfold cW;rw[c];exact Ri bX d' a b
 refine⟨cW m h n,uW,?_,?_,?_,?_⟩
 .rw[Array.size_setIfInBounds];exact O.size
 .intro j q aM;rw[acu]at aM;rw[abw,List.length_singleton]
  split at aM
  .split at aM
   .injection aM with aM;injection aM with aM;lia
   .cases aM
  .have:=O.lt j q aM;lia
 .intro j lU q a b;rw[acu]at a b
  split at a
  .rename_i e1
   split at b
   .rename_i ar;rw[<- e1,<- ar]
   .split at a
    .injection a with a;injection a with a;have:=O.lt lU q b;lia
    .cases a
  .split at b
   .split at b
    .injection b with b;injection b with b;have:=O.lt j q a;lia
    .cases b
   .exact O.inj j lU q a b
 .intro q h' aM;have mono:∀j,mz cM j->mz (cM.setIfInBounds (cW m h n) (some af.length)) j:=λj ⟨cN,sE⟩=>by
   by_cases c:cW m h n=j
   .refine⟨af.length,?_⟩;rw[acu,if_pos c,if_pos (by rw[O.size];have:=BP m h n;lia)]
   .exact⟨cN,by rw[acu,if_neg c];exact sE⟩
  by_cases c:q<af.length
  .rw[abH c]at aM;obtain⟨cv,a,b⟩:=O.all q h' aM;refine⟨cv,?_,λk fq=>mono _ (b k fq)⟩;rw[acu,if_neg]
   .exact a
   .intro e;rw[<- e,lJ]at a;cases a
  .have sE:=(abR.mp aM).1;rw[abw,List.length_singleton]at sE;have e:q=af.length:=⋯;subst e;rw[abW (abz _),Nat.sub_self]at aM;simp at aM;subst aM;refine⟨n,?_,λk fq=>mono _ (Up k fq)⟩;rw[acu,if_pos rfl,if_pos (by rw[O.size];have:=BP m h n;lia)]
def UK(m):Own m [] (Array.replicate (m+1) none):=by
 have no:∀j q:Nat,(Array.replicate (m+1) (none:Option Nat))[j]?≠some (some q):=λj q aM=>by
  rw[Array.getElem?_replicate]at aM
  split at aM<;>cases aM
 exact⟨by simp,λj q aM=>absurd aM (no j q),λj lU q aM=>absurd aM (no j q),λq h aM=>by simp at aM⟩
def S5 (hm : gJ m) (af) (aA : af.size <= m) : ∃ cM, layClean m af = some cM /\ Own m af.toList cM := by
  unfold layClean
  rw [<- Array.foldl_toList]
  have main : ∀ (rest done : List Int) (cM : Array (Option Nat)), Own m done cM -> (done ++ rest).length <= m ->
      ∃ v3, rest.foldl (fun (acc : Option (Array (Option Nat) × Nat)) h => do
        let (owner, k) <- acc
        let j <- layClean.free m owner (turns m) (bits h % (m + 1)) (bits h)
        pure (owner.setIfInBounds j (some k), k + 1)) (some (cM, done.length)) = some (v3, (done ++ rest).length) /\ Own m (done ++ rest) v3 := by
    intro rest
    induction rest with
    | nil => intro done cM O _; exact ⟨cM, by simp, by simpa using O⟩
    | cons h r aE =>
      intro done cM O hlen
      rw [abw, List.length_cons] at hlen
      obtain ⟨j, uW, KC⟩ := O.step hm ⋯ h
      have := aE (done ++ [h]) _ KC (by simp; lia)
      rw [List.append_assoc] at this
      simp only [List.singleton_append, abw, List.length_cons, List.length_nil, ac3] at this
      obtain ⟨v3, e, KD⟩ := this
      refine ⟨v3, ?_, KD⟩
      rw [List.foldl_cons]
      simp only [Option.bind_eq_bind, Option.bind_some, uW, Option.pure_def] at e ⊢
      rw [e]
      simp only [abw, List.length_cons]
  obtain ⟨cM, e, O⟩ := main af.toList [] (Array.replicate (m + 1) none) (UK m) (by simpa using aA)
  refine ⟨cM, ?_, by simpa using O⟩
  simp only [List.length_nil] at e
  rw [e]; rfl
theorem y6{α β:Type}(f:α->Option β):∀(l:List α),(∀x∈l,(f x).isSome=true)->∀i:Nat,(l.filterMap f)[i]?=l[i]?.bind f
 |[],_,i=>by simp
 |x::r,h,i=>by
  have ai:=h x List.mem_cons_self;cases e:f x with
  |none=>rw[e]at ai;cases ai
  |some y =>
   rw[List.filterMap_cons,e];cases i with
   |zero=>simp[e]
   |succ i =>
    simp only[List.getElem?_cons_succ];exact y6 f r (λz hz=>h z (List.mem_cons_of_mem _ hz)) i
theorem EC{α β:Type}(f:α->Option β):∀(l:List α),(∀x∈l,(f x).isSome=true)->(l.filterMap f).length=l.length
 |[],_=>rfl
 |x::r,h=>by
  have ai:=h x List.mem_cons_self;cases e:f x with
  |none=>rw[e]at ai;cases ai
  |some y=>rw[List.filterMap_cons,e,List.length_cons,List.length_cons,EC f r λz hz=>h z (List.mem_cons_of_mem _ hz)]
def Ga{α:Type}(hm:gJ m)(ak:Array (Int×α))(aA:ak.size<=m)(f iv)(led cz):
  ∃t' order,laid m f iv led cz (ak.map (·.1))=some (t',order)/\t'.mask=m/\t'.led=led/\t'.plain=cz/\(order.filterMap (ak[·]?)).size=ak.size/\Tab (order.filterMap (ak[·]?)) t'/\(order.filterMap (ak[·]?)).toList.Perm ak.toList/\order.toList.Perm (List.range ak.size):=by
 obtain⟨cM,e,O⟩:=S5 hm (ak.map (·.1)) (by simpa using aA);have hlen:(ak.map (·.1)).toList.length=ak.size:=by simp
 generalize eA:(List.range (m+1)).filterMap (λj=>(cM.getD j none).map (j,·))=L;have oN:∀j q,(j,q)∈L<->cM[j]?=some (some q):=λj q=>by
  rw[<- eA,aeJ];constructor
  .rintro⟨lU,zQ,bk⟩;cases h0:cM.getD lU none with
   |none=>rw[h0]at bk;cases bk
   |some cN =>
    rw[h0]at bk;injection bk with bk;injection bk with e1 ar;subst e1;subst ar;rw[acz]at h0;cases J:cM[lU]? with
    |none=>rw[J]at h0;cases h0
    |some o=>rw[J]at h0;exact acp some h0
  .intro h;refine⟨j,List.mem_range.mpr ?_,?_⟩
   .have:=(abY.mp h).1;rw[O.size]at this;exact this
   .rw[acz,h];rfl
 have rise:L.Pairwise (λa b=>a.1<b.1):=by
  rw[<- eA];refine List.Pairwise.filterMap _ ?_ (acU (n:=m+1));intro a pE bS b ae g5 fS;cases h0:cM.getD a none with
  |none=>rw[h0]at ae;cases ae
  |some q =>
   cases J:cM.getD pE none with
   |none=>rw[J]at fS;cases fS
   |some cN =>
    rw[h0]at ae;rw[J]at fS;cases ae;cases fS;exact bS
 have lt:∀p∈L,p.2<ak.size:=λp aB=>by
  have:=O.lt p.1 p.2 ((oN p.1 p.2).mp aB);rw[hlen]at this;exact this
 have T1:(L.map (·.2)).Nodup:=by
  rw[List.Nodup,ab4];refine abX ?_ rise;intro a b aw ae p8 bk;have:=O.inj a.1 b.1 a.2 ((oN _ _).mp aw) (by rw[bk];exact(oN _ _).mp ae);lia
 have Ba:(L.map (·.2)).Perm (List.range ak.size):=by
  refine(List.perm_ext_iff_of_nodup T1 List.nodup_range).mpr λq=>?_
  rw[List.mem_range,List.mem_map];constructor
  .rintro⟨p,aB,rfl⟩;exact lt p aB
  .intro aM;obtain⟨n,a,_⟩:=O.all q (ak[q].1) (by rw[aca,Array.getElem?_map,abI aM];rfl);exact⟨(_,q),(oN _ _).mpr a,rfl⟩
 have As:L.length=ak.size:=by have:=Ba.length_eq;simpa using this
 have Hi:∀q∈L.map (·.2),(ak[q]?).isSome=true:=λq aM=>by
  obtain⟨p,aB,rfl⟩:=List.mem_map.mp aM;rw[abI (lt p aB)];rfl
 have Uv:∀q∈List.range ak.size,(ak[q]?).isSome=true:=λq aM=>by
  rw[abI (List.mem_range.mp aM)];rfl
 have yX:((L.map (·.2)).toArray.filterMap (ak[·]?)).toList=(L.map (·.2)).filterMap (ak[·]?):=by simp
 have PW:∀(i:Nat),((L.map (·.2)).toArray.filterMap (ak[·]?))[i]?=(L[i]?).bind λp=>ak[p.2]?:=by
  intro i;rw[<- aca,yX,y6 _ _ Hi,abF];cases L[i]?<;>rfl
 have I0:((L.map (·.2)).toArray.filterMap (ak[·]?)).size=ak.size:=by
  rw[<- Array.length_toList,yX,EC _ _ Hi,List.length_map,As]
 have Vd:((L.map (·.2)).toArray.filterMap (ak[·]?)).toList.Perm ak.toList:=by
  rw[yX];refine(Ba.filterMap (ak[·]?)).trans (List.Perm.of_eq ?_);refine ac9 λi=>?_
  rw[y6 _ _ Uv]
  by_cases c:i<ak.size
  .rw[acW c];simp
  .rw[abM (by simpa using c),abM (by simpa using c)];rfl
 refine⟨{ mask:=m,place:=(L.map (·.1)).toArray,dummies:=#[],finger:=f,led,moves:=iv,plain:=cz },(L.map (·.2)).toArray,?_,rfl,rfl,rfl,I0,⟨?_,?_,?_,rfl,hm,?_,?_⟩,Vd,by simpa using Ba⟩
 .unfold laid;rw[e];simp only[Option.bind_eq_bind,Option.bind_some,Option.pure_def,eA]
 .intro i j a b zO aw ae;simp only[adN,abF]at aw ae;cases bI:L[i]? with
  |none=>rw[bI]at aw;cases aw
  |some v5 =>
   cases e6:L[j]? with
   |none=>rw[e6]at ae;cases ae
   |some abc =>
    rw[bI]at aw;rw[e6]at ae;cases aw;cases ae;obtain⟨J,e1⟩:=abR.mp bI;obtain⟨aa,ar⟩:=abR.mp e6;have:=adn.mp rise i j J aa zO;rw[e1,ar]at this;exact this
 .intro i j aj;simp only[adN,abF]at aj;cases lG:L[i]? with
  |none=>rw[lG]at aj;cases aj
  |some p =>
   rw[lG]at aj;cases aj;have:=(oN p.1 p.2).mp (acL lG);have:=(abY.mp this).1;rw[O.size]at this;show p.1<=m;lia
 .show(L.map (·.1)).toArray.size=_;rw[I0];simp[As]
 .show(L.map (·.1)).toArray.size<=m;simp[As];exact aA
 .intro i j bk aj he;simp only[adN,abF]at aj;rw[PW]at he;cases lG:L[i]? with
  |none=>rw[lG]at aj;cases aj
  |some p =>
   rw[lG]at aj he;cases aj;have aB:=(oN p.1 p.2).mp (acL lG);have hX:ak[p.2]?=some bk:=he;obtain⟨n,a,b⟩:=O.all p.2 bk.1 (by rw[aca,Array.getElem?_map,hX];rfl);refine⟨n,O.inj _ _ _ a aB,λk ay=>?_⟩;obtain⟨cN,sE⟩:=b k ay;obtain⟨cP,fp,NZ⟩:=List.mem_iff_getElem.mp ((oN _ _).mpr sE);refine⟨cP,?_⟩;show(L.map (·.1)).toArray[cP]?=_;simp only[adN,abF];rw[aby fp,NZ];rfl
end fR
end
section
namespace Pv
open PySem fR PySem.SetTable
section
variable{prog:Program}{w:World}{A:Around}{E:Value->Shared->Prop}{s:Shared}
def hu(prog:Program)(w:World)(h:Heap)(au:List Int)(b:Addr):Prop:=IsTupleKey (intKind prog w) h au b
noncomputable def fy(prog:Program)(w:World)(au:List Int):Int:=tupleKeyHash (intKind prog w) au
def k9(prog:Program)(w:World)(h:Heap)(e:Int×Value)(au:List Int):Prop:=∃b,e.2=.ref b/\e.1=fy prog w au/\hu prog w h au b
def hu.kept(x:hu prog w h au b)(k:∀o,h.get? b=some o->h'.get? b=some o):hu prog w h' au b :=
 let ⟨o,items,n,az,r⟩:=x;⟨o,items,n,k o az,r⟩
def hu.ne{ak a8 t}(x:hu prog w h au b)(az:h.get? a=some o)(hd:o.data=.set ak a8 t):b≠a:=by
 rintro rfl;obtain⟨bt,items,n,dG,_,fT,_⟩:=x;rw[az]at dG;cases dG;rw[hd]at fT;cases fT
def Dx(ay:hu prog w s.heap au a)(h:Q false s):wpAny M A (ofAClassStatement 8 (.ref a)) Q E s:=by
 have cK:s.TypeIs (.ref a) "tuple":=IsTupleKey.typeIs ay;obtain⟨o,items,n,az,_,hd,aj⟩:=ay;unfold ofAClassStatement;refine abr (adE cK ?_);dsimp only;rw[if_pos (by rfl)];refine abr (abu ?_);simp only[acR,abx,abS];refine abr (wpAny_seqItems az hd ?_);dsimp only;refine abr ?_;rw[<- Array.forIn_toList];refine aeo _ (λrest r s'=>r.1=none/\s'=s/\∀v∈rest,carriedByValue v=true) _ ?_ ?_ _ _ ⟨rfl,rfl,aj.byValue⟩
 .rintro v rest r s' ⟨a4,rfl,fx⟩;have aN:=fx v List.mem_cons_self;have e:ofAClassStatement 7 v=pure false:=by
   cases v with
   |ref b=>simp[carriedByValue]at aN
   |_=>unfold ofAClassStatement;rfl
  rw[e];refine abr (abu ?_);simp only[abx,abS];exact abu ⟨rfl,rfl,λu sH=>fx u (List.mem_cons_of_mem _ sH)⟩
 .rintro⟨aG,aV⟩ s' ⟨a4,rfl,_⟩;simp only at a4;subst a4;exact abu h
def Xs{stored:List Value}(ay:hu prog w s.heap au b)(af:∀v∈stored,∃c c2,v=.ref c/\hu prog w s.heap c2 c)(h:Q false s):
  wpAny (model prog w) A (searchCouldBeSeen (.ref b) stored) Q E s:=by
 unfold searchCouldBeSeen;refine abr ?_;refine aeo _ (λrest r s'=>r.1=none/\s'=s/\∀v∈rest,∃c c2,v=.ref c/\hu prog w s.heap c2 c) _ ?_ ?_ _ _ ⟨rfl,rfl,af⟩
 .rintro v rest r s' ⟨a4,rfl,fx⟩;obtain⟨c,c2,rfl,ah⟩:=fx v List.mem_cons_self;have kC:∀v∈rest,∃c c2,v=.ref c/\hu prog w s'.heap c2 c:=λu sH=>fx u (List.mem_cons_of_mem _ sH)
  dsimp only
  split
  .exact abu ⟨rfl,rfl,kC⟩
  .refine abr (wpAny_eqIsQuiet_tuple ay ?_);simp only[acR,abx,abS];refine abr (wpAny_eqIsQuiet_tuple ah ?_);simp only[acR,abx,abS];refine abr (Dx ay ?_);simp only[abx,abS];refine abr (Dx ah ?_);simp only[abx,abS];exact abu ⟨rfl,rfl,kC⟩
 .rintro⟨aG,aV⟩ s' ⟨a4,rfl,_⟩;simp only at a4;subst a4;exact abu h
def LP(ay:hu prog w s.heap au a)(h:Q true s):wpAny (model prog w) A (hashByValue 8 (.ref a)) Q E s:=by
 have cK:s.TypeIs (.ref a) "tuple":=IsTupleKey.typeIs ay;obtain⟨o,items,n,az,_,hd,aj⟩:=ay;unfold hashByValue;refine abr (afb cK F.slot_tuple_hash.lookup ?_);dsimp only;refine abr (wpAny_seqItems az hd ?_);refine abr ?_;show wpAny _ _ (forIn items _ _) _ _ s;rw[<- Array.forIn_toList];have fx:∀v∈items.toList,∃i t,v=Value.int i t:=by
  clear hd az;generalize items.toList=l at aj
  induction aj with
  |nil=>intro v aN;simp at aN
  |@cons k q1 c2 ag J _ aE =>
   intro v aN;rcases abA.mp aN with rfl|aN
   .obtain⟨t,e⟩:=aeT J;exact⟨_,t,e⟩
   .exact aE v aN
 refine aeo _ (λrest r s'=>r.1=none/\s'=s/\∀v∈rest,∃i t,v=Value.int i t) _ ?_ ?_ _ _ ⟨rfl,rfl,fx⟩
 .rintro v rest r s' ⟨a4,rfl,fx⟩;obtain⟨i,t,rfl⟩:=fx v List.mem_cons_self;have e:hashByValue 7 (Value.int i t)=pure true:=(by unfold hashByValue;rfl);rw[e];refine abr (abu ?_);simp only[acR,abx,abS];exact abu ⟨rfl,rfl,λu sH=>fx u (List.mem_cons_of_mem _ sH)⟩
 .rintro⟨aG,aV⟩ s' ⟨a4,rfl,_⟩;simp only at a4;subst a4;exact abu h
theorem Tab.fits{ak:Array (Int×Value)}(T:Tab ak t):t.fits ak.size=true:=by
 unfold SetTable.fits;have J:=T.gH;have aa:=T.fill;have aJ:=T.full;simp only[abt,ab6,abN];exact⟨J,by rw[aa,<- J];exact aJ⟩
def Tab.PQ{ak:Array (Int×Value)}(T:Tab ak t):t.gaveWay=false:=by
 unfold SetTable.gaveWay;rcases T.bD with e|e|e|e<;>rw[e]<;>rfl
theorem IL (br : A.units < cLine)
    (az : s.heap.get? a = some o) (hd : o.data = .set ak a8 t) (T : Tab ak t) (aB : Paired (k9 prog w s.heap) ak.toList dk) (ay : hu prog w s.heap au b)
    (aP : N < 10 * turns t.mask) (he : t.slot (cW t.mask (fy prog w au) N) = .empty) (iL : ∀ i : Nat, t.place[i]? ≠ some (cW t.mask (fy prog w au) N)) (aA : ∀ k, k < N -> ∃ i : Nat, t.place[i]? = some (cW t.mask (fy prog w au) k))
    (hf : au ∉ dk -> R (.free (cW t.mask (fy prog w au) N) false) s) (aH : au ∈ dk -> ∀ r, R (.there r) s) :
    ∀ (fuel n : Nat) (wJ : Option Probe), n <= N -> N - n < fuel -> wJ.getD (t.probeStart (fy prog w au)) = pr t.mask (fy prog w au) n ->
      (∀ k, k < n -> ∀ (i : Nat) (e : Int × Value), t.place[i]? = some (cW t.mask (fy prog w au) k) -> ak[i]? = some e -> ¬ k9 prog w s.heap e au) ->
      wpAny (model prog w) A (setSearchFrom a (.ref b) (fy prog w au) uw fuel wJ) R E s
  | 0, n, wJ, J, aa, _, _ => by lia
  | fuel + 1, n, wJ, J, aa, c4, iO => by
    unfold setSearchFrom
    refine abr (acA az hd (Tab.fits T) ?_)
    dsimp only
    rw [Tab.PQ T]
    simp only [abx, abS]
    rw [c4]
    have vi : ∀ (i : Nat) (e : Int × Value), ak[i]? = some e -> (fun i => (ak[i]?.map (·.1)).getD 0) i = e.1 := fun i e h => by simp [h]
    generalize aF : t.probe _ (fy prog w au) (pr t.mask (fy prog w au) n) = X
    have mem_of : ∀ (i : Nat) (e : Int × Value), ak[i]? = some e -> ∃ c2, c2 ∈ dk /\ k9 prog w s.heap e c2 := fun i e h => by
      have hm : e ∈ ak.toList := by rw [<- aca] at h; exact acL h
      clear vi iO iL aA he aH hf
      generalize ak.toList = l at aB hm
      induction aB with
      | nil => simp at hm
      | cons J _ aE =>
        rcases abA.mp hm with rfl | hm
        · exact ⟨_, List.mem_cons_self, J⟩
        · obtain ⟨c2, a1, a2⟩ := aE hm
          exact ⟨c2, List.mem_cons_of_mem _ a1, a2⟩
    rcases Bf (h := fy prog w au) (hashAt := fun i => (ak[i]?.map (·.1)).getD 0) T.ix he aA (10 * turns t.mask) n J ⋯ with ⟨k, i, b1, b2, el, gK, kj, rA⟩ | ⟨kj, rA⟩
    · have uz : X = _ := aF.symm.trans rA
      rw [uz]
      dsimp only
      have aj : i < ak.size := by rw [<- T.gH]; exact (abY.mp el).1
      have p9 : ak[i]? = some ak[i] := abI aj
      obtain ⟨c2, zU, c, hU, r2, ah⟩ := mem_of i _ p9
      have rest : wpAny (model prog w) A (do
          let some (_, y) := ak[i]? | unsupported "internal:set-entry"
          let equal <- holding [y] (eqBool y (.ref b))
          let (od, _, t') <- setState a
          if uw && equal then return SetFound.there none
          let some same := t'.sameMemory t.moves t.mask | unsupported "set.changed-during-lookup:is-the-new-block-at-the-old-address"
          let Yc <- match (if same then t'.slot (cW t.mask (fy prog w au) k) else .empty) with
            | .live cP => match od[cP]? with
              | some (_, Ko) => do pure (if <- isSame Ko y then some cP else none)
              | none => pure none
            | _ => pure none
          match Yc with
          | none => rule "set.search.anew"; setSearchFrom a (.ref b) (fy prog w au) uw fuel none
          | some cP => if equal then return SetFound.there (some cP) else setSearchFrom a (.ref b) (fy prog w au) uw fuel (some (pr t.mask (fy prog w au) (k + 1)))) R E s := by
        rw [p9]
        generalize iM : ak[i] = ev at hU r2 p9
        obtain ⟨aan, aao⟩ := ev
        dsimp only at hU r2 ⊢
        subst hU
        refine abr (acJ (wpAny_eqBool_tuple br ah ay ?_))
        refine abr (acA az hd (Tab.fits T) ?_)
        dsimp only
        have same : t.sameMemory t.moves t.mask = some true := by unfold SetTable.sameMemory; simp
        by_cases q : c2 = au
        · subst q
          simp only [decide_true, afi]
          cases uw
          · simp only [abx, abS]
            rw [same]
            dsimp only
            rw [if_pos rfl, o7 T.ix el]
            dsimp only
            rw [p9]
            dsimp only
            refine abr (wpAny_isSame_ref_self (abr (abu ?_)))
            rw [if_pos rfl]
            dsimp only
            first | exact abu (aH zU _) | (rw [if_pos trivial]; exact abu (aH zU _))
          · simp only [acj]
            exact abu (aH zU _)
        · simp only [decide_eq_false q, Bool.and_false, abx, abS]
          rw [same]
          dsimp only
          rw [if_pos rfl, o7 T.ix el]
          dsimp only
          rw [p9]
          dsimp only
          refine abr (wpAny_isSame_ref_self (abr (abu ?_)))
          rw [if_pos rfl]
          dsimp only
          refine IL br az hd T aB ay aP he iL aA hf aH fuel (k + 1) _ ⋯ ⋯ rfl fun cL fq cP bk ng hX ai => ?_
          by_cases cy : cL < n
          · exact iO cL cy cP bk ng hX ai
          · by_cases bU : cL = k
            · subst bU
              have e1 : cP = i := by
                have := o7 T.ix ng
                rw [o7 T.ix el] at this
                injection this with this
                exact this.symm
              subst e1
              rw [p9] at hX
              cases hX
              obtain ⟨de, NW, _, cY⟩ := ai
              cases NW
              exact q (IsTupleKey.inj ah cY)
            · obtain ⟨_, _, NY, _⟩ := ai
              exact kj cL ⋯ ⋯ cP ng ((vi cP bk hX).trans NY)
      cases iq : t.led
      · simp only [aeK, acj]
        refine abr (Xs ay (fun v aN => ?_) ?_)
        · obtain ⟨e, hX, rfl⟩ := List.mem_map.mp aN
          have hm : e ∈ ak.toList := by
            rw [Array.toList_filter] at hX
            exact (List.mem_filter.mp hX).1
          obtain ⟨j, aI⟩ := List.mem_iff_getElem?.mp hm
          obtain ⟨SM, _, bU, ar, _, aa⟩ := mem_of j e (by rw [<- aca]; exact aI)
          exact ⟨bU, SM, ar, aa⟩
        · simp only [abx, abS]
          exact rest
      · simp only [acR, abx, abS]
        exact rest
    · have uz : X = _ := aF.symm.trans rA
      rw [uz]
      dsimp only
      refine abu (hf fun gy => ?_)
      obtain ⟨e, hm, ai⟩ : ∃ e ∈ ak.toList, k9 prog w s.heap e au := by
        clear vi iO iL aA he aH hf mem_of kj rA uz
        generalize ak.toList = l at aB
        induction aB with
        | nil => simp at gy
        | @cons bk c2 _ _ J _ aE =>
          rcases abA.mp gy with rfl | gy
          · exact ⟨bk, List.mem_cons_self, J⟩
          · obtain ⟨e, a1, a2⟩ := aE gy
            exact ⟨e, List.mem_cons_of_mem _ a1, a2⟩
      obtain ⟨j, aI⟩ := List.mem_iff_getElem?.mp hm
      rw [aca] at aI
      obtain ⟨_, _, r2, _⟩ := id ai
      obtain ⟨k, i9, zS⟩ := T.met iL aI r2
      by_cases c : k < n
      · exact iO k c j e zS aI ai
      · exact kj k ⋯ i9 j zS ((vi j e aI).trans r2)
def pA(M:Value->Prop)(prog:Program)(w:World)(h:Heap)(a:Addr)(dk:List (List Int)):Prop :=
 ∃o ak a8 t,h.get? a=some o/\o.ExactSet/\o.data=.set ak a8 t/\Tab ak t/\ak.size*5<t.mask*3/\t.plain=true/\(t.led=true<->w.params.followText "set-order"=false)/\Paired (λe au=>k9 prog w h e au/\M e.2) ak.toList dk/\dk.Nodup
def Paired.perm{α β:Type}{F:α->β->Prop}{l1 eQ:List α}(p:l1.Perm eQ):∀{au:List β},Paired F eQ au->∃c2,c2.Perm au/\Paired F l1 c2:=by
 induction p with
 |nil=>intro au h;cases h;exact⟨[],.refl _,.nil⟩
 |cons x _ aE =>
  intro au h;cases h with
  |cons J t =>
   obtain⟨c2,tr,h'⟩:=aE t;exact⟨_::c2,tr.cons _,.cons J h'⟩
 |swap x y l =>
  intro au h;cases h with
  |cons J t =>
   cases t with
   |cons aa t=>exact⟨_::_::_,List.Perm.swap _ _ _,.cons aa (.cons J t)⟩
 |trans _ _ Af Ag =>
  intro au h;obtain⟨k1,p1,J⟩:=Ag h;obtain⟨k2,p2,aa⟩:=Af J;exact⟨k2,p2.trans p1,aa⟩
theorem Paired.len{α β:Type}{F:α->β->Prop}:∀{l:List α}{au:List β},Paired F l au->l.length=au.length
 |_,_,.nil=>rfl
 |_,_,.cons _ t=>by simp[Paired.len t]
theorem Paired.mp{α β:Type}{F G:α->β->Prop}(f:∀a b,F a b->G a b):∀{l:List α}{au:List β},Paired F l au->Paired G l au
 |_,_,.nil=>.nil
 |_,_,.cons h t=>.cons (f _ _ h) (Paired.mp f t)
def KN(br:A.units<cLine)(bb:pA M prog w s.heap a dk)(ay:hu prog w s.heap au b)(fo:M (.ref b))(sF:dk.length<256)(h:∀h' ir r,Heap.SameBut a s.heap h'->pA M prog w h' a ir->ir.Perm (if au∈dk then dk else au::dk)->Q r { s with heap:=h' }):
  wpAny (model prog w) A (setAddHashed a (.ref b) (fy prog w au)) Q E s:=by
 obtain⟨o,ak,a8,t,az,hex,hd,T,iN,d6,iq,aB,ow⟩:=bb;obtain⟨N,aP,he,iL,aA⟩:=Ex T.bD T.ix T.rV T.full (fy prog w au);have hlen:ak.size=dk.length:=by have:=Paired.len aB;simpa using this
 unfold setAddHashed setAddHashedIn;refine acJ (abr (acA az hd (Tab.fits T) ?_));dsimp only;have Qq:byScan (.ref b) ak=false:=by unfold byScan;simp[Value.scannable]
 rw[Qq];simp only[abx,abS];refine abr ?_;unfold setSearch;refine IL br az hd T (Paired.mp (λ_ _ x=>x.1) aB) ay aP he iL aA (λlO=>?_) (λgy r=>?_) 100000 0 none (abZ _) ?_ rfl (λk fq=>absurd fq (Nat.not_lt_zero k))
 .-- it is new
  dsimp only;have zH:t.place.size+1<=t.mask:=by
   rw[T.gH];rcases T.bD with e|e|e|e<;>rw[e]at iN ⊢<;>lia
  obtain⟨h9,b1,b2,el,gK,kj⟩:=T.put (x:=Value.ref b) iL aA zH;refine abr (acA az hd (Tab.fits T) ?_);dsimp only;generalize ei:t.put (cW t.mask (fy prog w au) N)=P at h9 b1 b2 el gK kj;obtain⟨t1,p1⟩:=P;dsimp only at h9 b1 b2 el gK kj ⊢;rw[el,d6];simp only[acj];refine abr (LP ay ?_);simp only[acj];have oz:=FV ak p1 (fy prog w au,Value.ref b) b1;have qi:(insertAt ak p1 (fy prog w au,Value.ref b)).size=ak.size+1:=ql _ _ _ b1;have zF:Paired (λe au=>k9 prog w s.heap e au/\M e.2) ((fy prog w au,Value.ref b)::ak.toList) (au::dk):=.cons ⟨⟨b,rfl,rfl,ay⟩,fo⟩ aB;obtain⟨sY,aO,ba⟩:=Paired.perm oz zF;have sC:sY.Nodup:=(aO.nodup_iff).mpr (ab9.mpr ⟨lO,ow⟩);generalize Qw:insertAt ak p1 (fy prog w au,Value.ref b)=cU at h9 oz qi ba;refine abr (aeb az hd ?_ (by rw[qi];have:sizeLine=2 ^ 40\/True:=.inr trivial;rw[sizeLine_eq];lia));have hY:(s.heap.update a (Obj.putSet cU t1)).get? a=some { o with data:=.set cU (a8+1) t1 }:=by
   have:=ab2 (Obj.putSet cU t1) az (by rw[aer cU t1 hd];rfl);rw[aer cU t1 hd]at this;exact this
  have qf:=acv s.heap a (Obj.putSet cU t1);have move:∀{h':Heap},Heap.SameBut a s.heap h'->∀(e:Int×Value)(c2:List Int),(k9 prog w s.heap e c2/\M e.2)->(k9 prog w h' e c2/\M e.2):=λ{h'} af e c2 ⟨⟨c,e1,ar,bo⟩,eK⟩ =>
   ⟨⟨c,e1,ar,bo.kept λbt dG=>(af.2 c (bo.ne az hd)).trans dG⟩,eK⟩
  have goal:∀h' ir,Heap.SameBut a s.heap h'->pA M prog w h' a ir->ir.Perm (au::dk)->Q true { s with heap:=h' }:=λh' ir bY bV dV=>h h' ir true bY bV (by rw[if_neg lO];exact dV)
  have sr:t1.fill=cU.size:=h9.fill
  by_cases jN:t1.tooFull=true
  .simp only[jN,aeK,ae1,acj];have zz:∃m,gJ m/\sizeAbove (grown cU.size)-1=m/\cU.size*5<m*3/\sizeAbove (grown cU.size)<=512:=by
    unfold SetTable.tooFull at jN;rw[sr,b2]at jN;have gA:cU.size*5>=t.mask*3:=(by simpa using jN);rcases T.bD with e|e|e|e
    .rw[e]at gA iN;have:cU.size=5:=⋯;rw[this];exact⟨31,.inr (.inl rfl),∅,∅,∅⟩
    .rw[e]at gA iN;have:cU.size=19:=⋯;rw[this];exact⟨127,.inr (.inr (.inl rfl)),∅,∅,∅⟩
    .rw[e]at gA iN;have:cU.size=77:=⋯;rw[this];exact⟨511,.inr (.inr (.inr rfl)),∅,∅,∅⟩
    .rw[e]at gA iN;lia
   obtain⟨m,hm,zW,sx,Q2⟩:=zz;refine abr ?_;unfold setRelay;refine abr (acA hY rfl (Tab.fits h9) ?_);dsimp only;rw[<- qi];have RC:¬sizeAbove (grown cU.size)>sizeLine:=(by rw[sizeLine_eq];lia);rw[if_neg RC];obtain⟨e2,order,cy,bU,hx,yo,mL,pK,yp,_⟩:=Ga (α:=Value) hm cU (by
    rcases hm with e|e|e|e<;>rw[e]at sx ⊢<;>lia) t1.finger (t1.movedTo m) t1.led t1.plain
   have z6:t1.relaid (cU.map (·.1)) (grown cU.size)=some (e2,order):=by
    unfold SetTable.relaid;rw[zW];exact cy
   refine abr ?_;rw[z6];show wpAny (model prog w) A (if ((order.filterMap (cU[·]?)).size != cU.size)=true then _ else pure (order.filterMap (cU[·]?),e2)) _ E _;rw[if_neg (by rw[mL];simp)];refine abu ?_;dsimp only;refine aeb hY rfl ?_ (by rw[mL,sizeLine_eq];lia);obtain⟨Ar,b6,dx⟩:=Paired.perm yp ba;have su:((s.heap.update a (Obj.putSet cU t1)).update a (Obj.putSet (order.filterMap (cU[·]?)) e2)).get? a=some { o with data:=.set (order.filterMap (cU[·]?)) (a8+1+1) e2 }:=by
    have:=ab2 (Obj.putSet (order.filterMap (cU[·]?)) e2) hY (by rw[aer _ e2 rfl];rfl);rw[aer _ e2 rfl]at this;exact this
   have vv:=qf.trans (acv _ a (Obj.putSet (order.filterMap (cU[·]?)) e2));refine abu (goal _ Ar vv ⟨_,_,_,e2,su,hex,rfl,pK,by rw[mL,bU];exact sx,by rw[yo,el];exact d6,by rw[hx,gK];exact iq,Paired.mp (move vv) dx,(b6.nodup_iff).mpr sC⟩ (b6.trans aO))
  .have gA:t1.tooFull=false:=(by simpa using jN);simp only[gA,Bool.and_false,abx,abS];refine abu (goal _ sY qf ⟨_,_,_,t1,hY,hex,rfl,h9,?_,by rw[el];exact d6,by rw[gK];exact iq,Paired.mp (move qf) ba,sC⟩ aO);unfold SetTable.tooFull at gA;rw[sr]at gA;have:¬cU.size*5>=t1.mask*3:=(by simpa using gA);lia
 .dsimp only;exact abu (h s.heap dk false (aeW a s.heap) ⟨o,ak,a8,t,az,hex,hd,T,iN,d6,iq,aB,ow⟩ (by rw[if_pos gy]))
 .have:turns t.mask<=526:=(by unfold turns;rcases T.bD with e|e|e|e<;>rw[e]<;>lia);lia
def XA(br:A.units<cLine)(bb:pA M prog w s.heap a dk)(ay:hu prog w s.heap au b)(fo:M (.ref b))(sF:dk.length<256)(h:∀h' tk ir r,s.toks<=tk->Heap.SameBut a s.heap h'->pA M prog w h' a ir->ir.Perm (if au∈dk then dk else au::dk)->Q r { s with heap:=h',toks:=tk }):
  wpAny (model prog w) A (setAdd a (.ref b)) Q E s:=by
 unfold setAdd;refine acJ (abr (wpAny_pyHash_tuple br ay ?_));exact KN (s:={ s with toks:=_ }) br bb ay fo sF λh' ir r bY bV dV=>h h' _ ir r (Nat.le_add_right _ _) bY bV dV
def k8(e:Int×Value)(k:Int):Prop:=e.1=hashInt k/\∃t,e.2=.int k t
def pz(w:World)(h:Heap)(a:Addr)(au:List Int):Prop :=
 ∃o ak a8 t,h.get? a=some o/\o.ExactSet/\o.data=.set ak a8 t/\Tab ak t/\ak.size*5<t.mask*3/\t.plain=true/\(t.led=true<->w.params.followText "set-order"=false)/\Paired k8 ak.toList au/\au.Nodup
def sT(prog)(w)(i)(t):(intKind prog w).is i (.int i t)=true:=by show Value.isInt i (.int i t)=true;simp[Value.isInt]
def k8.elems(aB:Paired k8 ak au):ElemsOf (intKind prog w) ak:=by
 intro e he
 induction aB with
 |nil=>simp at he
 |@cons bk k _ _ J _ aE =>
  rcases abA.mp he with rfl|he
  .obtain⟨aa,t,ar⟩:=J;refine⟨⟨k,?_,aa⟩,?_⟩
   .rw[ar];exact sT _ _ _ _
   .rw[ar];rfl
  .exact aE he
def k8.find(aB:Paired k8 ak au)(k):(ak.findIdx? λe=>(intKind prog w).is k e.2).isSome=true<->k∈au:=by
 induction aB with
 |nil=>simp
 |@cons bk cL _ _ J _ aE =>
  obtain⟨_,t,ar⟩:=J;have hd:(intKind prog w).is k bk.2=decide (k=cL):=by
   rw[ar];exact KeyKind.is_eq_decide (sT prog w cL t) k
  rw[List.findIdx?_cons,hd]
  by_cases c:k=cL
  .subst c;simp
  .simp only[decide_eq_false c];simp only[abx,abS,Option.isSome_map];rw[aE];simp[c]
def KL(bb:pz w s.heap a au)(sF:au.length<256)(h:∀h' c2 r,Heap.SameBut a s.heap h'->pz w h' a c2->c2.Perm (if k∈au then au else k::au)->Q r { s with heap:=h' }):
  wpAny (model prog w) A (setAddHashed a (.int k tk) (hashInt k)) Q E s:=by
 obtain⟨o,ak,a8,t,az,hex,hd,T,iN,d6,iq,aB,ow⟩:=bb;obtain⟨N,aP,he,iL,aA⟩:=Ex T.bD T.ix T.rV T.full (hashInt k);have hlen:ak.size=au.length:=by have:=Paired.len aB;simpa using this
 have lM:ElemsOf (intKind prog w) ak.toList:=k8.elems aB;have RA:ak.size<scanBound:=by unfold scanBound;lia
 unfold setAddHashed setAddHashedIn;refine acJ (abr (acA az hd (Tab.fits T) ?_));dsimp only;rw[byScan_of (knd:=intKind prog w) (x:=.int k tk) rfl RA lM];simp only[acj];unfold setAddByScan;refine abr ?_;refine abr (aeM ?_);refine abr (wpAny_setScan_of (knd:=intKind prog w) (k:=k) (sT _ _ _ _) az hd (Tab.fits T) lM ?_);have vo:=k8.find (prog:=prog) (w:=w) aB k;cases a4:List.findIdx? (λe=>(intKind prog w).is k e.2) ak.toList with
 |some j =>
  dsimp only;rw[a4]at vo;have gy:k∈au:=vo.mp rfl;refine abu (abu ?_);exact h s.heap au _ (aeW a s.heap) ⟨o,ak,a8,t,az,hex,hd,T,iN,d6,iq,aB,ow⟩ (by rw[if_pos gy])
 |none =>
  dsimp only;rw[a4]at vo;have lO:k∉au:=λz=>by have:=vo.mpr z;cases this
  have zH:t.place.size+1<=t.mask:=by
   rw[T.gH];rcases T.bD with e|e|e|e<;>rw[e]at iN ⊢<;>lia
  obtain⟨h9,b1,b2,el,gK,kj⟩:=T.put (x:=Value.int k tk) iL aA zH;have m9:t.freeSlot (hashInt k)=some (cW t.mask (hashInt k) N,false):=by
   unfold SetTable.freeSlot;rcases Bf (h:=hashInt k) (hashAt:=λ_=>hashInt k+1) T.ix he aA (10*turns t.mask) 0 (abZ _) ⋯ with⟨_,_,_,_,_,z,_⟩|⟨_,z⟩
   .exact absurd z ⋯
   .have h8:t.probe (λ_=>hashInt k+1) (hashInt k) (t.probeStart (hashInt k))=_:=z;rw[h8];rfl
  have Fw:layNew t ak (hashInt k) (.int k tk)=(insertAt ak (t.put (cW t.mask (hashInt k) N)).2 (hashInt k,.int k tk),(t.put (cW t.mask (hashInt k) N)).1,false,false):=by
   unfold layNew;rw[m9];dsimp only;have zJ:=Tab.fits h9;generalize t.put (cW t.mask (hashInt k) N)=P at h9 b1 zJ;obtain⟨t1,p1⟩:=P;dsimp only at zJ ⊢;unfold SetTable.orStandIn;rw[zJ];rfl
  rw[Fw];dsimp only;generalize ei:t.put (cW t.mask (hashInt k) N)=P at h9 b1 b2 el gK kj;obtain⟨t1,p1⟩:=P;dsimp only at h9 b1 b2 el gK kj ⊢;refine abr (abu ?_);rw[el,d6];simp only[acj];rw[show hashByValue 8 (Value.int k tk)=pure true from by unfold hashByValue;rfl];refine abr (abu ?_);simp only[acj];have oz:=FV ak p1 (hashInt k,Value.int k tk) b1;have qi:(insertAt ak p1 (hashInt k,Value.int k tk)).size=ak.size+1:=ql _ _ _ b1;have zF:Paired k8 ((hashInt k,Value.int k tk)::ak.toList) (k::au):=.cons ⟨rfl,_,rfl⟩ aB;obtain⟨sY,aO,ba⟩:=Paired.perm oz zF;have sC:sY.Nodup:=(aO.nodup_iff).mpr (ab9.mpr ⟨lO,ow⟩);generalize Qw:insertAt ak p1 (hashInt k,Value.int k tk)=cU at h9 oz qi ba;refine abr (aeb az hd ?_ (by rw[qi,sizeLine_eq];lia));have hY:(s.heap.update a (Obj.putSet cU t1)).get? a=some { o with data:=.set cU (a8+1) t1 }:=by
   have:=ab2 (Obj.putSet cU t1) az (by rw[aer cU t1 hd];rfl);rw[aer cU t1 hd]at this;exact this
  have qf:=acv s.heap a (Obj.putSet cU t1);have goal:∀h' c2,Heap.SameBut a s.heap h'->pz w h' a c2->c2.Perm (k::au)->Q true { s with heap:=h' }:=λh' c2 bY bV dV=>h h' c2 true bY bV (by rw[if_neg lO];exact dV)
  have sr:t1.fill=cU.size:=h9.fill
  by_cases jN:t1.tooFull=true
  .simp only[jN,aeK,ae1,acj];have zz:∃m,gJ m/\sizeAbove (grown cU.size)-1=m/\cU.size*5<m*3/\sizeAbove (grown cU.size)<=512:=by
    unfold SetTable.tooFull at jN;rw[sr,b2]at jN;have gA:cU.size*5>=t.mask*3:=(by simpa using jN);rcases T.bD with e|e|e|e
    .rw[e]at gA iN;have:cU.size=5:=⋯;rw[this];exact⟨31,.inr (.inl rfl),∅,∅,∅⟩
    .rw[e]at gA iN;have:cU.size=19:=⋯;rw[this];exact⟨127,.inr (.inr (.inl rfl)),∅,∅,∅⟩
    .rw[e]at gA iN;have:cU.size=77:=⋯;rw[this];exact⟨511,.inr (.inr (.inr rfl)),∅,∅,∅⟩
    .rw[e]at gA iN;lia
   obtain⟨m,hm,zW,sx,Q2⟩:=zz;obtain⟨e2,order,cy,bU,hx,yo,mL,pK,yp,LQ⟩:=Ga (α:=Value) hm cU (by
    rcases hm with e|e|e|e<;>rw[e]at sx ⊢<;>lia) t1.finger (t1.movedTo m) t1.led t1.plain
   have z6:t1.relaid (cU.map (·.1)) (grown cU.size)=some (e2,order):=by
    unfold SetTable.relaid;rw[zW];exact cy
   have fx:relayAll t1 cU (grown cU.size)=(order.filterMap (cU[·]?),e2,false):=by
    unfold relayAll;rw[z6];dsimp only;have J:coversAll order cU.size=true:=(by unfold coversAll;exact List.isPerm_iff.mpr LQ);rw[J,Tab.fits pK];rfl
   rw[fx];dsimp only;refine abr (abu ?_);refine abr (aeb hY rfl ?_ (by rw[mL,sizeLine_eq];lia));obtain⟨Ar,b6,dx⟩:=Paired.perm yp ba;have su:((s.heap.update a (Obj.putSet cU t1)).update a (Obj.putSet (order.filterMap (cU[·]?)) e2)).get? a=some { o with data:=.set (order.filterMap (cU[·]?)) (a8+1+1) e2 }:=by
    have:=ab2 (Obj.putSet (order.filterMap (cU[·]?)) e2) hY (by rw[aer _ e2 rfl];rfl);rw[aer _ e2 rfl]at this;exact this
   have vv:=qf.trans (acv _ a (Obj.putSet (order.filterMap (cU[·]?)) e2));exact abu (abu (goal _ Ar vv ⟨_,_,_,e2,su,hex,rfl,pK,by rw[mL,bU];exact sx,by rw[yo,el];exact d6,by rw[hx,gK];exact iq,dx,(b6.nodup_iff).mpr sC⟩ (b6.trans aO)))
  .have gA:t1.tooFull=false:=(by simpa using jN);simp only[gA,Bool.and_false,abx,abS];refine abu (abu (goal _ sY qf ⟨_,_,_,t1,hY,hex,rfl,h9,?_,by rw[el];exact d6,by rw[gK];exact iq,ba,sC⟩ aO));unfold SetTable.tooFull at gA;rw[sr]at gA;have:¬cU.size*5>=t1.mask*3:=(by simpa using gA);lia
def Xz(bb:pz w s.heap a au)(sF:au.length<256)(h:∀h' qZ c2 r,s.toks<=qZ->Heap.SameBut a s.heap h'->pz w h' a c2->c2.Perm (if k∈au then au else k::au)->Q r { s with heap:=h',toks:=qZ }):
  wpAny (model prog w) A (setAdd a (.int k tk)) Q E s:=by
 unfold setAdd;refine acJ (abr ((intKind prog w).pyHash (k:=k) (sT _ _ _ _) ?_));exact KL (s:={ s with toks:=s.toks+1 }) bb sF λh' ir r bY bV dV=>h h' _ ir r (Nat.le_succ _) bY bV dV
end
end Pv
end
section
namespace Pv
open PySem PySem.Spec PyProof.Rows fR PySem.SetTable
section
variable{prog:Program}{w:World}
structure uu(prog:Program)(w:World)(κ:Type)[DecidableEq κ] where
 Row:Heap->Value->κ->Prop
 Set:Heap->Addr->List κ->Prop
 fresh:∀(h:Heap)(a:Addr),h.get? a=some { cls:=.type "set",dict:=none,data:=.set #[] 0 (.fresh 0 0 (!w.params.followText "set-order")) }->Set h a []
 moved:∀{h h':Heap}{a:Addr}{au:List κ},Set h a au->(∀o,h.get? a=some o->h'.get? a=some o)->(∀b o,h.get? b=some o->o.cls=.type "tuple"->h'.get? b=some o)->Set h' a au
 Bu:∀{h h':Heap}{v:Value}{k:κ},Row h v k->(∀b o,h.get? b=some o->o.cls=.type "tuple"->h'.get? b=some o)->Row h' v k
 AX:∀{h:Heap}{a:Addr}{au:List κ},Set h a au->∀o,h.get? a=some o->o.cls≠.type "tuple"
 add:∀{A:Around}{E:Value->Shared->Prop}{s:Shared}{a:Addr}{v:Value}{k:κ}{au:List κ}{Q:Bool->Shared->Prop},A.units<cLine->Set s.heap a au->Row s.heap v k->au.length<256 ->
  (∀h' tk c2 r,s.toks<=tk->Heap.SameBut a s.heap h'->Set h' a c2->c2.Perm (if k∈au then au else k::au)->Q r { s with heap:=h',toks:=tk })->wpAny (model prog w) A (setAdd a v) Q E s
section
variable{κ:Type}[DecidableEq κ]
noncomputable def met(au:List κ):Nat->List κ
 |0=>[]
 |i+1=>match au[i]? with
  |some k=>if k∈met au i then met au i else k::met au i
  |none=>met au i
theorem vP(au:List κ):∀(i:Nat),i<=au.length->∀k,k∈met au i<->k∈au.take i
 |0,_,k=>by simp[met]
 |i+1,aj,k=>by
  have aE:=vP au i ⋯ k;have aY:au[i]?=some au[i]:=aby ⋯;have e:au.take (i+1)=au.take i++[au[i]]:=(by rw[List.take_succ,aY];rfl);unfold met;rw[aY,e,abU,<- aE,abK];dsimp only
  split
  .rename_i c;constructor
   .exact .inl
   .rintro(h|h)
    .exact h
    .rw[h];exact c
  .rw[abA];exact⟨λh=>h.symm,λh=>h.symm⟩
theorem tf(au:List κ):∀i,(met au i).Nodup
 |0=>adA
 |i+1=>by
  unfold met
  split
  .split
   .exact tf au i
   .rename_i c;exact ab9.mpr ⟨c,tf au i⟩
  .exact tf au i
def Ve{gh:List κ}(h:l.Perm m)(h':gh.Perm (if k∈l then l else k::l)):gh.Perm (if k∈m then m else k::m):=by
 by_cases c:k∈l
 .rw[if_pos c]at h';rw[if_pos (h.mem_iff.mp c)];exact h'.trans h
 .rw[if_neg c]at h';rw[if_neg (λz=>c (h.mem_iff.mpr z))];exact h'.trans (h.cons k)
def Zy{St:Nat->Shared->Prop}(K:uu prog w κ)(W:WalksS prog w A.in1 I bB wr G n P St)(S)(p7:S∉bB)(br:A.in1.units<cLine)(dk)(h0)(FI:∀i s,St i s->∀b∈wr,∀o,s.heap.get? b=some o->o.cls≠.type "tuple")(sI:∀i v,P i v->∃k,dk[i]?=some k/\K.Row h0 v k)(ae:∀i,i<n->(met dk i).length<256):
  ∀(k i:Nat)(s:Shared),n-i=k->i<=n->St i s->(∀b o,h0.get? b=some o->o.cls=.type "tuple"->s.heap.get? b=some o)->(∃l,K.Set s.heap S l/\l.Perm (met dk i)) ->
   (∀s' l,Moved (S::wr) G s s'->K.Set s'.heap S l->l.Perm (met dk n)->R (.ok (.ret .none)) s') ->
   codeAny (model prog w) A (.builtin "set.update.loop" ⟨[.ref S,.ref I],[]⟩) R s:=by
 have E7:S∉wr:=λh=>p7 (W.sub _ h)
 have gz:∀b∈wr,b∈S::wr:=λb ae=>List.mem_cons_of_mem _ ae
 intro k
 induction k with
 |zero =>
  intro i s ay aj c4 Fu ⟨l,bb,aA⟩ hR;have gy:i=n:=⋯;subst gy;refine acD adX ?_;rw[acO adh _];show wpAny _ A.in1 (pyNext (.ref I)>>=_) _ _ s;refine abr (W.done s _ _ c4 λs' hm=>?_);show wpAny _ A.in1 (ret Value.none) _ _ s';exact abu (hR s' l (hm.mono gz) (K.moved bb (λo e=>hm.heap S o E7 e) λb o e ah=>hm.heap b o (λzC=>FI _ s c4 b zC o e ah) e) aA)
 |succ k aE =>
  intro i s ay aj c4 Fu ⟨l,bb,aA⟩ hR;have bS:i<n:=⋯;refine acD adX ?_;rw[acO adh _];show wpAny _ A.in1 (pyNext (.ref I)>>=_) _ _ s;refine abr (W.item i s _ _ bS c4 λv s' ei RG hm=>?_);obtain⟨key,QR,vj⟩:=sI i v ei;have tk:∀b o,s.heap.get? b=some o->o.cls=.type "tuple"->s'.heap.get? b=some o:=λb o e ah=>hm.heap b o (λzC=>FI _ s c4 b zC o e ah) e
  have kv:K.Set s'.heap S l:=K.moved bb (λo e=>hm.heap S o E7 e) tk;have Fv:∀b o,h0.get? b=some o->o.cls=.type "tuple"->s'.heap.get? b=some o:=λb o e ah=>tk b o (Fu b o e ah) ah
  have fq:K.Row s'.heap v key:=K.Bu vj Fv;show wpAny _ A.in1 (holding [v] (setAdd S v)>>=_) _ _ s';refine abr (acJ (K.add br kv fq (by rw[aA.length_eq];exact ae i bS) λh' qZ gh r j8 bY bV dV=>?_));have zZ:∀b o,s'.heap.get? b=some o->o.cls=.type "tuple"->b≠S:=λb o e ah=>by
   rintro rfl;exact K.AX kv o e ah
  refine abu ⟨aex adh _,aE (i+1) _ ⋯ bS (W.frame _ s' _ _ RG j8 λb ae o e=>?_) (λb o e ah=>?_) ⟨gh,bV,?_⟩ λtM SO Q1 Qg QU=>?_⟩
  .rw[bY.2 b (λh:b=S=>p7 (by rw[<- h];exact ae))];exact e
  .have bk:=Fv b o e ah;show h'.get? b=some o;rw[bY.2 b (zZ b o bk ah)];exact bk
  .unfold met;rw[QR];exact Ve aA dV
  .refine hR tM SO (Moved.trans W.gtrans ((hm.mono gz).then_heap j8 λb o ae e=>?_) Q1) Qg QU;rw[bY.2 b (λh:b=S=>ae (by rw[h];exact List.mem_cons_self))];exact e
end
def tR(a)(h:Q₁ (.ref s.heap.objs.size) { s with heap:=s.heap.push { cls:=.type "set",dict:=none,data:=.set #[] 0 (.fresh 0 0 (!w.params.followText "set-order")) } }):
  codeAny (model prog w) A (.call (.builtin "set.__new__") ⟨[.type "set",a],[]⟩) (wants Q₁ E) s:=by
 refine codeAny_of_tree ?_;show wpAny _ A.in1 (do checkBuiltinCall "set.__new__" ⟨[.type "set",a],[]⟩;again (.builtin "set.__new__" ⟨[.type "set",a],[]⟩)) _ _ s;refine abr (wpAny_of_eq (F.newCall_set_1 a) (abu ⟨aex F.plain_set_new _,acD F.entry_set_new ?_⟩));rw[acO F.plain_set_new _];unfold Builtin.«set.__new__» Builtin.Frozenset.newClass;have gz:=sub_set_self;obtain⟨aB,g,d,tk,os⟩:=s;dsimp only
 wp_walk
 refine adT (abu ?_);dsimp only;simp only[newObj];refine abr (wpAny_alloc (abu ?_));exact abu h
def JG(led):Tab (α:=Value) #[] (SetTable.fresh 0 0 led):=by
 refine⟨λi j a b _ h=>?_,λi j h=>?_,rfl,rfl,.inl rfl,abZ _,λi j e h=>?_⟩
 .simp[SetTable.fresh]at h
 .simp[SetTable.fresh]at h
 .simp[SetTable.fresh]at h
theorem Ho{α β:Type}{F:α->β->Prop}:∀{l:List α}{au:List β},Paired F l au->∀(i:Nat)(v:α),l[i]?=some v->∃k,au[i]?=some k/\F v k
 |_,_,.nil,i,v,h=>by simp at h
 |_,_,.cons J t,0,v,h=>by simp at h;subst h;exact⟨_,rfl,J⟩
 |_,_,.cons J t,i+1,v,h=>by
  have:=Ho t i v (by simpa using h);simpa using this
def ZO(cD:A.handled=none)(cK:T="list"\/T="tuple")(kB:h.get? l=some { cls:=.type T,dict:=bu,data:=.seq items nl,slots:=fO }):
  ∃(vV:Obj)(St:Nat->Heap->Prop),vV.cls≠.type "tuple"/\(∀(fs:Around)(E:Value->Shared->Prop)(s:Shared)(Q:Value->Shared->Prop),s.heap=h->Q (.ref h.objs.size) { s with heap:=h.push vV }->wpAny (model prog w) fs (pyIter (.ref l)) Q E s) /\
   Walks prog w A h.objs.size [h.objs.size,l] [h.objs.size] items.size (λi v=>items[i]?=some v) St/\St 0 (h.push vV)/\∀i h',St i h'->∀o,h'.get? h.objs.size=some o->o.cls≠.type "tuple":=by
 have bS:l<h.objs.size:=abC kB;rcases cK with rfl|rfl
 .have aA:h.IsList l items:=⟨_,kB,rfl,nl,rfl⟩;refine⟨{ cls:=.type "list_iterator",data:=.fields #[.ref l,.int 0 0] },_,by show Value.type _≠Value.type _;decide,λfs E s Q e q=>?_,Walks.list cD h.objs.size l (abP bS) items,⟨⟨_,abD _ rfl,rfl,rfl⟩,aA.push _⟩,λi h' st o e=>?_⟩
  .subst e;exact aeX aA q
  .obtain⟨⟨bt,bk,c,_⟩,_⟩:=st;rw[e]at bk;cases bk;rw[c];decide
 .have aA:h.IsTuple l items:=⟨_,kB,rfl,nl,rfl⟩;refine⟨{ cls:=.type "tuple_iterator",data:=.fields #[.ref l,.int 0 0] },_,by show Value.type _≠Value.type _;decide,λfs E s Q e q=>?_,Walks.tuple cD h.objs.size l (abP bS) items,⟨⟨_,abD _ rfl,rfl,rfl⟩,⟨_,abv _ kB,rfl,nl,rfl⟩⟩,λi h' st o e=>?_⟩
  .subst e;exact aeN aA q
  .obtain⟨⟨bt,bk,c,_⟩,_⟩:=st;rw[e]at bk;cases bk;rw[c];decide
def Di {κ : Type} [DecidableEq κ] (K : uu prog w κ) {s : Shared} {dk : List κ} (cK : T = "list" \/ T = "tuple")
    (cD : A.handled = none) (br : A.units + 64 < cLine) (kB : s.heap.get? l = some { cls := .type T, dict := bu, data := .seq items nl, slots := fO }) (aj : Paired (K.Row s.heap) items.toList dk) (ae : ∀ i, i < dk.length -> (met dk i).length < 256)
    (h : ∀ (h' : Heap) (tk : Nat) (r : List κ), K.Set h' s.heap.objs.size r -> r.Perm (met dk dk.length) ->
      (∀ b o, b < s.heap.objs.size -> s.heap.get? b = some o -> h'.get? b = some o) -> Q (.ref s.heap.objs.size) { s with heap := h', toks := tk }) :
    wpAny (model prog w) A (call (.type "set") [.ref l]) Q E s := by
  obtain ⟨c, iz, aaD⟩ := adJ.mro
  have aaB := adJ.made
  have gz := adJ.sub
  refine wpAny_call (codeAny_of_tree ?_)
  show wpAny _ _ (callAny (.type "set") _) _ _ _
  refine abu ⟨aeO _ (by decide +kernel), acD F.entry_type_call ?_⟩
  rw [Around.under_plain (weight_type_call_type "set" [.ref l] []) rfl]
  have J := adJ.notType
  have aa := adJ.canCreate
  have aat := F.typeCall_set_1 (.ref l)
  repeat (any_goals (first | assumption | wp_step))
  refine aeH (tR (.ref l) (E := E) (Q₁ := fun obj cX => ∃ led : Bool, led = (!w.params.followText "set-order") /\ obj = .ref s.heap.objs.size /\ cX = { s with heap := s.heap.push { cls := .type "set", dict := none, data := .set #[] 0 (.fresh 0 0 led) } }) ⟨_, rfl, rfl, rfl⟩) fun r cX a4 => ?_
  cases r with
  | error e => exact a4
  | ok fK =>
    cases fK with
    | ret obj =>
      obtain ⟨led, iq, rfl, rfl⟩ := a4
      have bb : (s.heap.push { cls := .type "set", dict := none, data := .set #[] 0 (.fresh 0 0 led) }).get? s.heap.objs.size = some { cls := .type "set", dict := none, data := .set #[] 0 (.fresh 0 0 led) } := abD _ rfl
      have Qi : Shared.TypeIs { s with heap := s.heap.push { cls := .type "set", dict := none, data := .set #[] 0 (.fresh 0 0 led) } } (.ref s.heap.objs.size) "set" := ⟨_, bb, rfl⟩
      have aay := adJ.init.lookup
      have aas := adJ.init.bind (.ref s.heap.objs.size)
      repeat (any_goals (first | assumption | wp_step))
      refine aeH (aeB (R := wants (fun r gm => r = .none /\ ∃ h' tk gG, gm = { s with heap := h', toks := tk } /\ K.Set h' s.heap.objs.size gG /\ gG.Perm (met dk dk.length) /\
          (∀ b o, b < s.heap.objs.size -> s.heap.get? b = some o -> h'.get? b = some o)) E) adJ.init.plain F.entry_set_init (check_set_init_1 Qi ?_)) fun WB gm z7 => ?_
      · have Rk : (s.heap.push { cls := .type "set", dict := none, data := .set #[] 0 (.fresh 0 0 led) }).get? l = some { cls := .type T, dict := bu, data := .seq items nl, slots := fO } := abv _ kB
        have aaL : isSubtype (.type T) (.type "set") = pure false := by rcases cK with rfl | rfl; exact F.sub_list_set; exact F.sub_tuple_set
        have aaK : isSubtype (.type T) (.type "frozenset") = pure false := by rcases cK with rfl | rfl; exact F.sub_list_frozenset; exact F.sub_tuple_frozenset
        have d1 : (Value.type T == Value.type "dict") = false := by rcases cK with rfl | rfl <;> decide
        have QD : A.in1.in1.in1.handled = none := by simp [cD]
        obtain ⟨vV, St, aaF, hit, W, st0, zZ⟩ := ZO (prog := prog) (w := w) QD cK Rk
        unfold Builtin.«set.__init__» noKeywords Builtin.Frozenset.updateFrom
        generalize Qf : pyIter = ht
        wp_walk
        subst Qf
        refine hit _ _ _ _ rfl ?_
        refine abr (aeP ?_)
        have QV : l < s.heap.objs.size := abC kB
        have p7 : s.heap.objs.size ∉ [(s.heap.push { cls := .type "set", dict := none, data := .set #[] 0 (.fresh 0 0 led) }).objs.size, l] := by
          rw [Heap.size_push]; simp only [abA, abK, ae4, or_false, not_or]
          exact ⟨abP (adl _), afl QV⟩
        have hlen : items.size = dk.length := by have := Paired.len aj; simpa using this
        refine Zy K (W.toS) s.heap.objs.size p7 ?hu2 dk s.heap (fun i s' st b ae o e => ?nt) (fun i v aN => ?val) (fun i fp => ae i ⋯) (items.size - 0) 0 _ ⋯ (abZ _)
          st0 (fun b o e _ => abv _ (abv _ e)) ⟨[], ?hS0, .refl _⟩ ?hR
        case hu2 => first | (show A.units + 1 + 1 + 1 + 1 < cLine; lia) | (show A.units + 1 + 1 + 1 < cLine; lia) | (simp [Around.in1]; lia)
        case nt =>
          rw [abK] at ae
          subst ae
          exact zZ i _ st o e
        case val => exact Ho aj i v (by rw [aca]; exact aN)
        case hS0 =>
          refine K.fresh _ _ ?_
          rw [<- iq]
          exact abv _ bb
        case hR =>
          intro s' gG hm kv oz
          obtain ⟨h', g', d', qZ, tq⟩ := s'
          have r1 : g' = s.gens := hm.gens
          have r0 : d' = s.drawn := hm.drawn
          have yQ : tq = s.os := hm.os
          subst r1; subst r0; subst yQ
          show wpAny _ _ _ _ _ _
          refine abu ?_
          show wpAny _ _ (ret Value.none) _ _ _
          refine abu ⟨rfl, h', qZ, gG, rfl, kv, by rw [<- hlen]; exact oz, fun b o ae e => ?_⟩
          have ha : b ≠ s.heap.objs.size := abP ae
          have sj : b ≠ (s.heap.push { cls := .type "set", dict := none, data := .set #[] 0 (.fresh 0 0 led) }).objs.size := by
            rw [Heap.size_push]; exact abP (Nat.lt_succ_of_lt ae)
          exact hm.heap b o (by simp only [abA, abK, ae4, or_false, not_or]; exact ⟨ha, sj⟩) (abv _ (abv _ e))
      · cases WB with
        | error e => exact z7
        | ok PA =>
          cases PA with
          | ret r =>
            obtain ⟨rfl, h', tk, gG, rfl, kv, z5, fq⟩ := z7
            repeat (any_goals (first | assumption | wp_step))
            exact h _ _ gG kv z5 fq
          | _ => exact z7.elim
    | _ => exact a4.elim
end
section
noncomputable def F5(M:Value->Prop)(prog)(w):uu prog w (List Int) where
 Row:=λh v au=>∃b,v=.ref b/\hu prog w h au b/\M v
 Set:=pA M prog w
 fresh:=λh a e=>⟨_,#[],0,_,e,⟨rfl,rfl,rfl⟩,rfl,JG _,by show 0*5<7*3;decide,rfl,by show(!w.params.followText "set-order")=true<->_;simp,.nil,adA⟩
 moved:=λ{h h' a dk} x sW k=>by
  obtain⟨o,ak,a8,t,az,aG,aV,c5,gF,hK,tH,Bk,tI⟩:=x;refine⟨o,ak,a8,t,sW _ az,aG,aV,c5,gF,hK,tH,Paired.mp (λe au ⟨⟨b,e1,ar,bo⟩,eK⟩=>⟨⟨b,e1,ar,?_⟩,eK⟩) Bk,tI⟩;obtain⟨b5,items,n,J,aa,aJ⟩:=bo;exact⟨b5,items,n,k b b5 J aa,aa,aJ⟩
 Bu:=λx k=>by
  obtain⟨b,e,⟨b5,items,m,bY,bV,dV⟩,mr⟩:=x;exact⟨b,e,⟨b5,items,m,k b b5 bY bV,bV,dV⟩,mr⟩
 AX:=λx o e=>by
  obtain⟨bt,_,_,_,dG,hex,_⟩:=x;rw[e]at dG;cases dG;rw[hex.1];decide
 add:=λ{A E s a v k au Q} br bb a4 aA h=>by
  obtain⟨b,rfl,ay,fo⟩:=a4;refine XA br bb ay fo aA λh' tk c2 r j8 bY bV dV=>h h' tk c2 r j8 bY bV ?_
  by_cases c:k∈au
  .rw[if_pos c]at dV ⊢;exact dV
  .rw[if_neg c]at dV ⊢;exact dV
noncomputable def Ss(prog)(w):uu prog w Int where
 Row:=λ_ v k=>∃t,v=.int k t
 Set:=pz w
 fresh:=λh a e=>⟨_,#[],0,_,e,⟨rfl,rfl,rfl⟩,rfl,JG _,by show 0*5<7*3;decide,rfl,by show(!w.params.followText "set-order")=true<->_;simp,.nil,adA⟩
 moved:=λ{h h' a dk} x sW k=>by
  obtain⟨o,ak,a8,t,az,r⟩:=x;exact⟨o,ak,a8,t,sW _ az,r⟩
 Bu:=λx _=>x
 AX:=λx o e=>by
  obtain⟨bt,_,_,_,dG,hex,_⟩:=x;rw[e]at dG;cases dG;rw[hex.1];decide
 add:=λ{A E s a v k au Q} br bb a4 aA h=>by
  obtain⟨t,rfl⟩:=a4;refine Xz bb aA λh' tk c2 r j8 bY bV dV=>h h' tk c2 r j8 bY bV ?_
  by_cases c:k∈au
  .rw[if_pos c]at dV ⊢;exact dV
  .rw[if_neg c]at dV ⊢;exact dV
end
def qQ:Slot "set_iterator" "__next__" "set_iterator.__next__" :=
 .of (owner:="set_iterator") (n:="__next__") (by rw[afe,ael];kernel_rfl) (by decide +kernel) (by decide +kernel) (by decide +kernel)
  (by first|exact .inl (by decide +kernel)|exact .inr (by decide +kernel)) (by rw[aeQ];kernel_rfl)
def D2:entryFor table "set_iterator.__next__"=some Builtin.«set_iterator.__next__»:=entryFor_of_tree (by kernel_rfl)
def Hn:Manifest.owners.lookup (String.ofList ['r','o','t','a','r','e','t','i','_','t','e','s'].reverse)=some Manifest.sig_set_iterator:=by kernel_rfl
def CT(a):argsOk "set_iterator.__next__" ⟨[a],[]⟩:=by
 unfold argsOk;rw[signature?_of (id:="set_iterator.__next__") (n:=['_','_','t','x','e','n','_','_']) (o:=['r','o','t','a','r','e','t','i','_','t','e','s']) (by kernel_rfl) Hn];kernel_rfl
def I5:Slot "set_iterator" "__iter__" "set_iterator.__iter__" :=
 .of (owner:="set_iterator") (n:="__iter__") (by rw[afe,ael];kernel_rfl) (by decide +kernel) (by decide +kernel) (by decide +kernel)
  (by first|exact .inl (by decide +kernel)|exact .inr (by decide +kernel)) (by rw[aeQ];kernel_rfl)
def K3(a):argsOk "set_iterator.__iter__" ⟨[a],[]⟩:=by
 unfold argsOk;rw[signature?_of (id:="set_iterator.__iter__") (n:=['_','_','r','e','t','i','_','_']) (o:=['r','o','t','a','r','e','t','i','_','t','e','s']) (by kernel_rfl) Hn];kernel_rfl
def I4:Slot "set" "__iter__" "set.__iter__" :=
 .of (owner:="set") (n:="__iter__") (by rw[afe,ael];kernel_rfl) (by decide +kernel) (by decide +kernel) (by decide +kernel)
  (by first|exact .inl (by decide +kernel)|exact .inr (by decide +kernel)) (by rw[aeQ];kernel_rfl)
def K2(a):argsOk "set.__iter__" ⟨[a],[]⟩:=by
 unfold argsOk;rw[signature?_of (id:="set.__iter__") (n:=['_','_','r','e','t','i','_','_']) (o:=['t','e','s']) (by kernel_rfl) PySem.F.owner_set];kernel_rfl
def N2:entryFor table "set.__iter__"=some Builtin.«frozenset.__iter__»:=entryFor_alias (id':="frozenset.__iter__") (by kernel_rfl) rfl (by decide +kernel) (by kernel_rfl)
def N3:entryFor table "set_iterator.__iter__"=some Builtin.«dict_keyiterator.__iter__»:=entryFor_alias (id':="dict_keyiterator.__iter__") (by kernel_rfl) rfl (by decide +kernel) (by kernel_rfl)
theorem D8{α:Type}:∀(l:List α)(i:Nat)(h:i<l.length),(l[i]::l.eraseIdx i).Perm l
 |x::r,0,_=>by simp
 |x::r,i+1,h=>by
  simp only[List.getElem_cons_succ,List.eraseIdx_cons_succ];exact(List.Perm.swap _ _ _).trans ((D8 r i (by simpa using h)).cons x)
theorem HD{α:Type}(next):∀(fuel k:Nat)(left:List α)(out:Array α),left.length<=fuel->(pickOrder.go next fuel k left out).toList.Perm (out.toList++left)
 |0,k,left,out,h=>by
  have:left=[]:=ad6.mp ⋯;subst this;simp[pickOrder.go]
 |fuel+1,k,left,out,h=>by
  unfold pickOrder.go;cases left with
  |nil=>simp
  |cons x r =>
   have bS:next k%(x::r).length<(x::r).length:=afk _ (by simp)
   have aY:(x::r)[next k%(x::r).length]?=some (x::r)[next k%(x::r).length]:=aby bS;rw[aY];refine(HD next fuel (k+1) _ _ (by rw[List.length_eraseIdx_of_lt bS];simp only[List.length_cons]at h ⊢;lia)).trans ?_;rw[Array.toList_push,List.append_assoc];exact List.Perm.append_left _ (D8 _ _ bS)
def Vo{α:Type}(next)(xs:Array α):(pickOrder next xs).toList.Perm xs.toList:=by
 unfold pickOrder;have:=HD next xs.size 0 xs.toList #[] (by simp)
 simpa using this
section
variable{prog:Program}{w:World}
structure nX(w:World)(o:Obj)(ak:Array (Int×Value))(a8:Nat)(t:SetTable):Prop where
 ex:o.ExactSet
 data:o.data=.set ak a8 t
 tab:Tab ak t
 plain:t.plain=true
 led:t.led=true<->w.params.followText "set-order"=false
noncomputable def gk(w:World)(a:Addr)(ak:Array (Int×Value))(a8:Nat):Array (Int×Value):=if w.params.followText "set-order"=true then pickOrder (w.params.setOrder a a8) ak else ak
def qF(w)(a)(ak)(a8):(gk w a ak a8).toList.Perm ak.toList:=by
 unfold gk;split
 .exact Vo _ _
 .exact .refl _
noncomputable def slotAt(w:World)(t:SetTable)(i:Nat):Nat:=if w.params.followText "set-order"=true then 0 else match i with
 |0=>0
 |j+1=>t.place.getD j 0+1
def nS(h:Heap)(it a:Addr)(slot i n a8:Nat):Prop:=∃o,h.get? it=some o/\o.cls=.type "set_iterator"/\o.data=.fields #[.int slot 0,.int i 0,.ref a,.int n 0,.int a8 0]
def nS.typeIs{s:Shared}{slot i n a8:Nat}(h:nS s.heap it a slot i n a8):s.TypeIs (.ref it) "set_iterator":=let ⟨o,az,ah,_⟩:=h;⟨o,az,ah⟩
def Lz{ak:Array (Int×Value)}(T:Tab ak t)(hw:w.params.followText "set-order"=false)(aj:i<=ak.size):below t.place (slotAt w t i)=i:=by
 unfold slotAt;rw[if_neg (by rw[hw];decide)];obtain⟨J,aa,aJ⟩:=yj T.ix (match i with|0=>0|j+1=>t.place.getD j 0+1);rw[T.gH]at J;cases i with
 |zero =>
  dsimp only at J aa aJ
  by_cases c:below t.place 0=0
  .exact c
  .exfalso;have bS:0<t.place.size:=(by rw[T.gH];lia);have:=aa 0 _ ⋯ (abI bS);lia
 |succ j =>
  have aI:j<t.place.size:=(by rw[T.gH];lia);have aY:t.place[j]?=some t.place[j]:=abI aI;have hd:t.place.getD j 0=t.place[j]:=(by simp[Array.getD,aI]);dsimp only at J aa aJ ⊢;rw[hd]at J aa aJ ⊢
  by_cases cy:below t.place (t.place[j]+1)<=j
  .exfalso;have:=aJ j _ cy aY;lia
  .by_cases bU:j+1<below t.place (t.place[j]+1)
   .exfalso;have QO:j+1<t.place.size:=(by rw[T.gH];lia);have hY:t.place[j+1]?=some t.place[j+1]:=abI QO;have a1:=aa (j+1) _ bU hY;have a2:=T.ix j (j+1) _ _ ⋯ aY hY;lia
   .omega
def IP(az:s.heap.get? a=some o)(O:nX w o ak a8 t)(aj:i<=ak.size)(h:Q ((gk w a ak a8)[i]?.map λe=>(e.2,slotAt w t (i+1))) s):wpAny (model prog w) A (setNext a (slotAt w t i) i a8) Q E s:=by
 unfold setNext;refine abr (acA az O.data (Tab.fits O.tab) ?_);dsimp only;unfold setsByText;refine abr (abr (adT (abu ?_)));cases hw:w.params.followText "set-order" with
 |true =>
  have gg:(model prog w).w.params.followText "set-order"=true:=hw;simp only[gg,acj];simp only[adv,abx,abS];refine abr ?_;unfold setWalk;refine abr (acA az O.data (Tab.fits O.tab) ?_);unfold setsByText;refine abr (abr (adT (abu ?_)));simp only[gg,acj];refine abr (adT (abu ?_));have e1:gk w a ak a8=pickOrder (w.params.setOrder a a8) ak:=(by unfold gk;rw[if_pos hw]);have ar:∀i,slotAt w t i=0:=λi=>by unfold slotAt;rw[if_pos hw]
  rw[e1]at h;refine abu ?_;simp only[ar]at h ⊢;exact h
 |false =>
  have gg:(model prog w).w.params.followText "set-order"=false:=hw;simp only[gg,abx,abS];have zG:(!t.plain&&decide (ak.size>1))=false:=(by rw[O.plain];rfl);show wpAny (model prog w) A (if (!t.plain&&decide (ak.size>1))=true then _ else _) Q E s;rw[zG];simp only[abx,abS];have QW:t.led=true:=O.led.mpr hw;refine abr ?_;show wpAny (model prog w) A (if (!t.led&&!ak.isEmpty)=true then _ else pure ()) _ E s;rw[QW];simp only[acR,aeI,abx,abS];refine abu ?_;rw[Lz O.tab hw aj];have e1:gk w a ak a8=ak:=(by unfold gk;rw[if_neg (by rw[hw];decide)]);rw[e1]at h;refine abu ?_
  by_cases c:i<ak.size
  .have g1:ak[i]?=some ak[i]:=abI c;have aB:i<t.place.size:=(by rw[O.tab.gH];exact c);have g2:t.place[i]?=some t.place[i]:=abI aB;rw[g1]at h ⊢;rw[g2];have bo:slotAt w t (i+1)=t.place[i]+1:=(by unfold slotAt;rw[if_neg (by rw[hw];decide)];simp[Array.getD,aB]);rw[bo]at h;exact h
  .have g1:ak[i]?=none:=adI ⋯;rw[g1]at h ⊢;exact h
def next_item(az:s.heap.get? a=some o)(O:nX w o ak a8 t)(hit:nS s.heap it a (slotAt w t i) i ak.size a8)(ai:(gk w a ak a8)[i]?=some x)(eo:∀h',nS h' it a (slotAt w t (i+1)) (i+1) ak.size a8->Heap.SameBut it s.heap h'->Q (some x.2) { s with heap:=h' }):wpAny (model prog w) A (pyNext (.ref it)) Q E s:=by
 obtain⟨oU,nf,zD,ip⟩:=id hit;have hsz:(gk w a ak a8).size=ak.size:=by have:=(qF w a ak a8).length_eq;simpa using this
 have aj:i<=ak.size:=by rw[<- hsz];exact adP (abY.mp ai).1
 have d1:it≠a:=by
  rintro rfl;rw[az]at nf;cases nf;rw[O.data]at ip;cases ip
 unfold pyNext;refine abr (aey (acM (name:=Str.ofString "__next__") hit.typeIs qQ
  (acE qQ hit.typeIs D2 ?_ (CT _))))
 unfold Builtin.«set_iterator.__next__»;refine abr (m:=slotArgs _ _ _) (abu ?_);refine abr (aeR nf ip ?_);dsimp only;refine abr (aeF az O.data (Tab.fits O.tab) ?_);simp only[adv,abx,abS];simp only[Int.toNat_natCast];refine abr (IP az O aj ?_);rw[ai];simp only[Option.map_some];have hY:=ab2 (Obj.mapFields (·.setIfInBounds 0 (rawInt (slotAt w t (i+1):Nat)))) nf (by obtain⟨c,d,rW,bM⟩:=oU;simp only at ip;subst ip;rfl);refine abr (ac6 nf ip (by simp) ?_);have ky:(Obj.mapFields (·.setIfInBounds 0 (rawInt (slotAt w t (i+1):Nat))) oU).data=.fields #[.int (slotAt w t (i+1):Nat) 0,.int i 0,.ref a,.int ak.size 0,.int a8 0]:=by
  obtain⟨c,d,rW,bM⟩:=oU;simp only at ip;subst ip;rfl
 have vk:(Obj.mapFields (·.setIfInBounds 0 (rawInt (slotAt w t (i+1):Nat))) oU).cls=.type "set_iterator":=by
  obtain⟨c,d,rW,bM⟩:=oU;simp only at ip zD;subst ip;exact zD
 generalize Obj.mapFields (·.setIfInBounds 0 (rawInt (slotAt w t (i+1):Nat))) oU=iT at hY ky vk;refine abr (ac6 hY ky (by simp) ?_);have su:=ab2 (Obj.mapFields (·.setIfInBounds 1 (rawInt ((i:Int)+1)))) hY (by obtain⟨c,d,rW,bM⟩:=iT;simp only at ky;subst ky;rfl);refine abu ?_;refine⟨_,rfl,abu ?_⟩;refine eo _ ⟨_,su,?_,?_⟩ ((acv ..).trans (acv ..))
 .obtain⟨c,d,rW,bM⟩:=iT;simp only at ky vk;subst ky;exact vk
 .obtain⟨c,d,rW,bM⟩:=iT;simp only at ky vk;subst ky;rfl
def next_end(cD:A.handled=none)(az:s.heap.get? a=some o)(O:nX w o ak a8 t)(hit:nS s.heap it a (slotAt w t ak.size) ak.size ak.size a8)(eo:∀h',Heap.ExtBut it s.heap h'->Q none { s with heap:=h' }):wpAny (model prog w) A (pyNext (.ref it)) Q E s:=by
 obtain⟨oU,nf,zD,ip⟩:=id hit;have hsz:(gk w a ak a8).size=ak.size:=by have:=(qF w a ak a8).length_eq;simpa using this
 unfold pyNext;refine abr (aey (acM (name:=Str.ofString "__next__") hit.typeIs qQ
  (acE qQ hit.typeIs D2 ?_ (CT _))))
 unfold Builtin.«set_iterator.__next__»;refine abr (m:=slotArgs _ _ _) (abu ?_);refine abr (aeR nf ip ?_);dsimp only;refine abr (aeF az O.data (Tab.fits O.tab) ?_);simp only[adv,abx,abS];simp only[Int.toNat_natCast];refine abr (IP az O (abz _) ?_);rw[adI ⋯];simp only[Option.map_none];refine abr (ac6 nf ip (by simp) ?_);show wpAny _ _ (newExc (.type "StopIteration") []>>=_) _ _ _;refine abr ?_;simp only[newExc,newTuple];refine abr (ab7 ?_ (by size_fits));refine abr (m:=firstArgMember _ _) (wpAny_of_eq (a:=Value.none) (by first|rfl|(simp only[firstArgMember];rfl)) ?_);refine ab7 ?_ (by size_fits);simp only[raiseNew];refine abr (wpAny_handled ?_);rw[show A.in1.handled=none from cD];refine abr (abu (wpAny_throw ?_));refine abr (ae5 (T:="StopIteration") (b:=true) ⟨_,abD _ rfl,rfl⟩ isSubtype_stop ?_);exact abu (eo _ (((acv ..).extBut.push _).push _))
def Sj{slot i n a8:Nat}(hit:nS s.heap it a slot i n a8)(h:Q (.ref it) s):wpAny (model prog w) A (pyIter (.ref it)) Q E s:=by
 refine aeY hit.typeIs I5 (acE I5 hit.typeIs N3 ?_ (K3 _));show wpAny _ _ (ret (.ref it)) _ _ s;exact abu ⟨_,rfl,"set_iterator",_,hit.typeIs,qQ.lookup,h⟩
def Sk(az:s.heap.get? a=some o)(O:nX w o ak a8 t)(eo:Q (.ref s.heap.objs.size) { s with heap:=s.heap.push { cls:=.type "set_iterator",data:=.fields #[.int 0 0,.int 0 0,.ref a,.int ak.size 0,.int a8 0] } }):wpAny (model prog w) A (pyIter (.ref a)) Q E s:=by
 have cK:s.TypeIs (.ref a) "set":=⟨o,az,O.ex.1⟩;refine aeY cK I4 (acE I4 cK N2 ?_ (K2 _));unfold Builtin.«frozenset.__iter__» Builtin.Frozenset.slot0 slotArgs;simp only[List.isEmpty_nil,acR,abx,↓reduceIte,bind_assoc,List.length_nil,adv];unfold Builtin.Frozenset.addrOf Builtin.Frozenset.sizeOf;simp only[pure_bind,bind_assoc];refine abr (aeF az O.data (Tab.fits O.tab) ?_);unfold setDrawn;simp only[bind_assoc];refine abr (acA az O.data (Tab.fits O.tab) ?_);unfold setsByText;simp only[bind_assoc];refine abr (adT ?_);simp only[pure_bind];have zG:∀b:Bool,(!b&&(!t.plain&&decide (ak.size>1)))=false:=λb=>by rw[O.plain];simp
 show wpAny (model prog w) A.in1 (if (!(model prog w).w.params.followText "set-order"&&(!t.plain&&decide (ak.size>1)))=true then _ else _) _ _ s;rw[zG];simp only[abx,abS,pure_bind];unfold setEpoch;simp only[bind_assoc,pure_bind];refine abr (acA az O.data (Tab.fits O.tab) ?_);dsimp only;refine abr (ab7 (abu ⟨_,rfl,"set_iterator",_,⟨_,abD _ rfl,rfl⟩,qQ.lookup,?_⟩));exact eo
def ZP(cD:A.handled=none)(d1:a≠I)(O:nX w o ak a8 t):
  Walks prog w A I [I,a] [I] ak.size (λi v=>∃x,(gk w a ak a8)[i]?=some x/\v=x.2) (λi h=>nS h I a (slotAt w t i) i ak.size a8/\h.get? a=some o) where
 sub:=λb ae=>by simp at ae;simp[ae]
 frame:=λi h h' st ay=>⟨let ⟨bt,e,r⟩:=st.1;⟨bt,ay I (by simp) bt e,r⟩,ay a (by simp) o st.2⟩
 item:=λi s Q E aj st eo=>by
  have hsz:(gk w a ak a8).size=ak.size:=(by have:=(qF w a ak a8).length_eq;simpa using this);have ai:(gk w a ak a8)[i]?=some (gk w a ak a8)[i]:=abI ⋯;exact next_item st.2 O st.1 ai λh' bl cQ=>eo _ h' s.toks ⟨_,ai,rfl⟩ ⟨bl,(cQ.2 a d1).trans st.2⟩ λb bt ae e=>cQ.extBut b bt (λh=>ae (by simp[h])) e
 done:=λs Q E st eo=>next_end cD st.2 O st.1 λh' he=>eo h' s.toks λb bt ae e=>he b bt (λh=>ae (by simp[h])) e
 self:=λi s Q E st eo=>Sj st.1 eo
def QM(cK:s.TypeIs (.ref r) "set")(h:Q false s):wpAny (model prog w) A (Builtin.List.listLengthHint (.ref r)) Q E s:=by
 unfold Builtin.List.listLengthHint;refine abr (afb cK PySem.F.slot_set_len.lookup ?_);generalize Fn:("set.__len__":String)=R0
 wp_delta
 rw[show splitId R0=some ("set","__len__") from by subst Fn;decide +kernel];subst Fn;refine abr (ae5 (T:="set") (b:=true) cK (by rw[aeQ];kernel_rfl) ?_);refine wpAny_ite_split (λp8=>absurd p8 ∅) (λ_=>?_);refine wpAny_ite_split (λ_=>?_) (λp8=>absurd (by decide +kernel) p8);refine abr (adE cK ?_);exact abu h
end
end Pv
end
section
namespace Pv
open PySem PySem.Spec PyProof.Rows PySem.W
section
def Nl(af:(d==sysModules)=false)(az:s.heap.get? d=some bu)(ai:bu.ExactDict)(hd:bu.data=.dict ak a8)(eo:Q (.ref s.heap.objs.size) { s with heap:=s.heap.push { cls:=.type "dict_keyiterator",data:=.fields #[.ref d,.int 0 0,.int ak.size 0,.int a8 0] } }):wpAny (model prog w) A (pyIter (.ref d)) Q E s:=by
 have cK:s.TypeIs (.ref d) "dict":=⟨bu,az,ai.1⟩;refine aeY cK F.slot_dict_iter (acE F.slot_dict_iter cK F.entry_dict_iter ?_ (F.args_dict_iter_1 _));unfold Builtin.«dict.__iter__»;refine abr ?_;unfold Builtin.Dict.dictSlotNone;refine abr (wpAny_notOrdered_dict cK ?_);show wpAny _ _ (pure (Value.ref d)) _ _ s;refine abu ?_;show wpAny _ _ (Builtin.Dict.showsAll d>>=_) _ _ s;unfold Builtin.Dict.showsAll;rw[if_neg (by rw[af];exact acB)];refine abr (abu ?_);refine abr (aeZ az hd ?_);refine abr (aff az hd ?_);refine abr (ab7 (abu ⟨_,rfl,"dict_keyiterator",_,⟨_,abD _ rfl,rfl⟩,acK.lookup,?_⟩));simpa[rawInt] using eo
def Nm(hit:s.heap.IsKeyIter it d i ak.size a8)(sD:s.heap.get? d=some bu)(so:bu.data=.dict ak a8)(bS:i<ak.size)(eo:∀h',h'.IsKeyIter it d (i+1) ak.size a8->Heap.SameBut it s.heap h'->Q (some ak[i].key) { s with heap:=h' }):wpAny (model prog w) A (pyNext (.ref it)) Q E s:=by
 obtain⟨o,az,ah,hd⟩:=id hit;unfold pyNext;refine abr (aey (acM (name:=Str.ofString "__next__") hit.typeIs acK
  (acE acK hit.typeIs aeC ?_ (aes _))))
 refine abr (abu ?_);refine abr ?_;refine abr ?_
 first|refine abr (ac7 hit.typeIs (abu ?_))|refine abr (adw hit.typeIs (abu ?_))
 refine abr (aeR az hd ?_);simp only[show Builtin.Dict_items.ownsTuple "dict_keyiterator"=false by decide,abx,abS];show wpAny _ _ (if (Value.ref d==Value.none)=true then _ else _) _ _ s;rw[if_neg (show ¬((Value.ref d==Value.none)=true) from acB)];refine abr (abu ?_);refine abr (aeZ sD so ?_);rw[if_neg (by simp)];refine abr (abu ?_);refine abr (aff sD so ?_);rw[if_neg (by simp)];refine abu ?_;simp only[show ¬((i:Int)<0) from by lia,abS,Int.toNat_natCast,abI bS];refine abr ?_
 first|refine abr (ac7 hit.typeIs (abu ?_))|refine abr (adw hit.typeIs (abu ?_))
 refine abr (wpAny_isOneOf_keyiter hit.typeIs ?_);show wpAny _ _ (setField (.ref it) 1 (rawInt ((i:Int)+1))>>=_) _ _ s;refine abr (ac6 az hd (by simp) ?_);have Fq:(s.heap.update it (Obj.mapFields (·.setIfInBounds 1 (rawInt ((i:Int)+1))))).IsKeyIter it d (i+1) ak.size a8 :=
  ⟨_,ab2 _ az (adO (ac2 hd _)),(Obj.cls_mapFields ..).trans ah,by rw[ac2 hd];simp[rawInt]⟩
 refine abr (acJ ?_);refine abr (wpAny_isOneOf_keyiter (s:={ s with heap:=s.heap.update it (Obj.mapFields (·.setIfInBounds 1 (rawInt ((i:Int)+1)))) }) Fq.typeIs ?_);show wpAny _ _ (pure ak[i].key) _ _ _;exact abu (abu ⟨_,rfl,abu (eo _ Fq (acv ..))⟩)
def Nk(cD:A.handled=none)(hit:s.heap.IsKeyIter it d ak.size ak.size a8)(sD:s.heap.get? d=some bu)(so:bu.data=.dict ak a8)(eo:∀h',Heap.ExtBut it s.heap h'->Q none { s with heap:=h' }):wpAny (model prog w) A (pyNext (.ref it)) Q E s:=by
 obtain⟨o,az,ah,hd⟩:=id hit;unfold pyNext;refine abr (aey (acM (name:=Str.ofString "__next__") hit.typeIs acK
  (acE acK hit.typeIs aeC ?_ (aes _))))
 refine abr (abu ?_);refine abr ?_;refine abr ?_
 first|refine abr (ac7 hit.typeIs (abu ?_))|refine abr (adw hit.typeIs (abu ?_))
 refine abr (aeR az hd ?_);simp only[show Builtin.Dict_items.ownsTuple "dict_keyiterator"=false by decide,abx,abS];show wpAny _ _ (if (Value.ref d==Value.none)=true then _ else _) _ _ s;rw[if_neg (show ¬((Value.ref d==Value.none)=true) from acB)];refine abr (abu ?_);refine abr (aeZ sD so ?_);rw[if_neg (by simp)];refine abr (abu ?_);refine abr (aff sD so ?_);rw[if_neg (by simp)];refine abu ?_;simp only[show ¬((ak.size:Int)<0) from by lia,abS,Int.toNat_natCast,adI (abz ak.size)];refine abr ?_
 first|refine abr (ac7 hit.typeIs (abu ?_))|refine abr (adw hit.typeIs (abu ?_))
 show wpAny _ _ (setField (.ref it) 0 .none>>=_) _ _ s;refine abr (ac6 az hd (by simp) ?_);show wpAny _ _ (newExc (.type "StopIteration") []>>=_) _ _ _;refine abr ?_;simp only[newExc,newTuple];refine abr (ab7 ?_ (by size_fits));refine abr (m:=firstArgMember _ _) (wpAny_of_eq (a:=Value.none) (by first|rfl|(simp only[firstArgMember];rfl)) ?_);refine ab7 ?_ (by size_fits);simp only[raiseNew];refine abr (wpAny_handled ?_);rw[show A.in1.handled=none from cD];refine abr (abu (wpAny_throw ?_));refine abr (ae5 (T:="StopIteration") (b:=true) ⟨_,abD _ rfl,rfl⟩ isSubtype_stop ?_);exact abu (eo _ (((acv ..).extBut.push _).push _))
end
section
end
end Pv
end
section
namespace Pv
open PySem PySem.Spec PyProof.Rows fR PySem.SetTable
section
def Mt (aA : s.heap.IsTuple l ag.toArray)
    (h : Q ag { s with heap := (s.heap.push (seqObj "list" #[] 0)).update s.heap.objs.size (Obj.mapSeq (· ++ ag.toArray)) }) (hsz : ag.length <= sizeLine) :
    wpAny (model prog w) A (collect (.ref l)) Q E s := by
  obtain ⟨o, az, ah, n, hd⟩ := id aA
  unfold collect
  refine abr (aeP (acD entry_proto_collect' ?_))
  show wpAny _ _ (do again (.builtin "list.__iadd__" ⟨[<- newList [], .ref l], []⟩)) _ _ s
  refine abr (wpAny_newList (abu ⟨aeO _ (by decide +kernel), acD entry_list_iadd' ?_⟩))
  show wpAny _ _ (Builtin.List.listExtendWith (.ref s.heap.objs.size) (.ref l) (.ref s.heap.objs.size)) _ _ { s with heap := s.heap.push (seqObj "list" #[] 0) }
  unfold Builtin.List.listExtendWith
  have dG : (s.heap.push (seqObj "list" #[] 0)).get? l = some o := abv _ az
  refine abr (adE (T := "tuple") ⟨o, dG, ah⟩ ?_)
  have aH : (Value.type "tuple" == Value.type "tuple") = true := by rfl
  rw [if_pos (by rw [aH]; simp)]
  refine abr (listItems_at dG hd ?_)
  refine abr (listItems_at (xs := #[]) (n := 0) (abD _ rfl) rfl ?_)
  rw [if_neg (by simp)]
  refine abr (listUpdate_at (xs := #[]) (n := 0) (abD _ rfl) rfl ?_ (abZ _) (by show (#[] ++ ag.toArray).size <= sizeLine + 1; simp only [aeV, abB, List.length_nil]; lia))
  refine abu ?_
  show wpAny (model prog w) A (do
      let o <- load s.heap.objs.size
      match o.data with
      | .seq xs _ => pure xs.toList
      | _ => unsupported "internal:collect") Q E { s with heap := (s.heap.push (seqObj "list" #[] 0)).update s.heap.objs.size (Obj.mapSeq (· ++ ag.toArray)) }
  refine abr (wpAny_load (get?_update_seq (abD _ rfl) _) ?_)
  show wpAny _ _ (pure ((#[] : Array Value) ++ ag.toArray).toList) Q E _
  rw [show ((#[] : Array Value) ++ ag.toArray).toList = ag by simp]
  exact abu h
def uh(s s':Shared):Prop:=(∀b o,s.heap.get? b=some o->s'.heap.get? b=some o)/\s'.gens=s.gens/\s'.drawn=s.drawn/\s'.os=s.os
def Mr{n:Nat}(cD:A.handled=none)(a4:IsRange s.heap r a b c t u v)(RD:Builtin.Range.small a b c=true)(aC:Builtin.Range.rangeSize a b c=n)(hlen:n<=2 ^ 24)(eo:∀s' acc,uh s s'->ItemsOf (λi v=>∃t,v=.int (a+i*c) t) acc n->Q acc.toList s'):wpAny (model prog w) A (collect (.ref r)) Q E s:=by
 unfold collect;refine abr (aeP (acD F.entry_proto_collect ?_));rw[acO F.plain_proto_collect _];show wpAny _ A.in1 (newList []>>=λl=>again (.builtin "list.__iadd__" ⟨[l,.ref r],[]⟩)) _ _ s;refine abr (ab7 ?_);refine abu ⟨aex aec _,acD F.entry_list_iadd ?_⟩;rw[acO aec _];show wpAny _ A.in1 (Builtin.List.listExtendWith (.ref s.heap.objs.size) (.ref r) (.ref s.heap.objs.size)) _ _ _;have bb:(s.heap.push { cls:=.type "list",data:=.seq ([]:List Value).toArray }).get? s.heap.objs.size=some { cls:=.type "list",data:=.seq ([]:List Value).toArray }:=abD _ rfl;refine wpAny_extend_range (A:=A) (R:=wants _ E) (s:={ s with heap:=s.heap.push { cls:=.type "list",data:=.seq ([]:List Value).toArray } }) cD (abv _ a4) RD aC hlen s.heap.objs.size (.ref s.heap.objs.size) 0 bb λh' tk xv de ay kv ik=>?_
 show wpAny _ A (load s.heap.objs.size>>=_) _ _ _;refine abr (wpAny_load kv ?_);exact abu (eo _ xv ⟨λb o e=>ay b o (abP (abC e)) (abv _ e),rfl,rfl,rfl⟩ ik)
def Ms(cD:A.handled=none)(az:s.heap.get? a=some o)(O:nX w o ak a8 t)(aC:ak.size<=sizeLine)(eo:∀s' acc,uh s s'->ItemsOf (λi v=>∃x,(gk w a ak a8)[i]?=some x/\v=x.2) acc ak.size->Q acc.toList s'):wpAny (model prog w) A (collect (.ref a)) Q E s:=by
 have bS:a<s.heap.objs.size:=abC az;unfold collect;refine abr (aeP (acD F.entry_proto_collect ?_));rw[acO F.plain_proto_collect _];show wpAny _ A.in1 (newList []>>=λl=>again (.builtin "list.__iadd__" ⟨[l,.ref a],[]⟩)) _ _ s;refine abr (ab7 ?_);refine abu ⟨aex aec _,acD F.entry_list_iadd ?_⟩;rw[acO aec _];show wpAny _ A.in1 (Builtin.List.listExtendWith (.ref s.heap.objs.size) (.ref a) (.ref s.heap.objs.size)) _ _ _;unfold Builtin.List.listExtendWith;have ox:(s.heap.push { cls:=.type "list",data:=.seq ([]:List Value).toArray }).get? a=some o:=abv _ az;refine abr (adE (T:="set") ⟨o,ox,O.ex.1⟩ ?_);have J:Builtin.List.listSameRef (.ref s.heap.objs.size) (.ref a)=false:=by
  have d1:s.heap.objs.size≠a:=acy (abP bS);simp[Builtin.List.listSameRef,d1]
 have aa:(Value.type "set"==Value.type "list")=false:=by decide
 have aJ:(Value.type "set"==Value.type "tuple")=false:=by decide
 simp only[J,aa,aJ,Bool.or_false,abx,abS];refine abr (Sk (s:={ s with heap:=s.heap.push { cls:=.type "list",data:=.seq ([]:List Value).toArray } }) ox O ?_);generalize eP:s.heap.push { cls:=.type "list",data:=.seq ([]:List Value).toArray }=H at *;have zt:H.objs.size=s.heap.objs.size+1:=by rw[<- eP,Heap.size_push]
 have QZ:a<H.objs.size:=by rw[zt];exact Nat.lt_succ_of_lt bS
 refine abr (acJ (QM ⟨o,abv _ ox,O.ex.1⟩ ?_));rw[if_pos ∅];have d1:a≠H.objs.size:=abP QZ;have E5:s.heap.objs.size≠H.objs.size:=by rw[zt];exact abP (adl _)
 have E6:s.heap.objs.size≠a:=acy (abP bS);have p7:s.heap.objs.size∉[H.objs.size,a]:=λhm=>by
  rcases abA.mp hm with e|e
  .exact E5 e
  .exact E6 (abK.mp e)
 generalize vh:H.push { cls:=.type "set_iterator",data:=.fields #[.int 0 0,.int 0 0,.ref a,.int ak.size 0,.int a8 0] }=dI;have bb:dI.get? s.heap.objs.size=some { cls:=.type "list",data:=.seq ([]:List Value).toArray }:=vh▸abv _ (eP▸abD _ rfl);have Rh:dI.get? a=some o:=vh▸abv _ ox;have QE:dI.get? H.objs.size=some { cls:=.type "set_iterator",data:=.fields #[.int 0 0,.int 0 0,.ref a,.int ak.size 0,.int a8 0] }:=vh▸abD _ rfl;have QC:A.in1.handled=none:=cD;have st0:slotAt w t 0=0:=by unfold slotAt;split<;>rfl
 refine abr (aeM ?_);refine abr ?_;show wpAny _ A.in1 (updateSeq s.heap.objs.size (·.push .none)>>=λ_=>updateSeq s.heap.objs.size (·.pop)) _ _ _;refine abr (aeE bb rfl ?_);have E8:=ab2 (Obj.mapSeq (·.push Value.none)) bb rfl;refine aeE E8 rfl ?_;have Qh:=ab2 (Obj.mapSeq (·.pop)) E8 rfl;have A6:∀b b5,b≠s.heap.objs.size->dI.get? b=some b5->((dI.update s.heap.objs.size (Obj.mapSeq (·.push Value.none))).update s.heap.objs.size (Obj.mapSeq (·.pop))).get? b=some b5 :=
  λb b5 ae e=>(abV _ _ (acy ae)).trans ((abV _ _ (acy ae)).trans e)
 refine abu ⟨aex F.plain_extend_loop _,codeAny_extend_loopS (ZP (prog:=prog) (A:=A.in1) QC d1 O).toS aC _ p7 _ ak.size 0 _ _ _ rfl (abZ _) ⟨⟨_,A6 _ _ (acy E5) QE,rfl,by rw[st0];rfl⟩,A6 _ _ (acy E6) Rh⟩ Qh (ItemsOf.nil _) λs' xv de hm kv ik=>?_⟩;show wpAny _ A (load s.heap.objs.size>>=_) _ _ s';refine abr (wpAny_load kv ?_);refine abu (eo s' xv ⟨λb b5 e=>hm.heap b b5 (λae=>?_) (A6 b b5 (abP (abC e)) (vh▸abv _ (eP▸abv _ e))),hm.gens,hm.drawn,hm.os⟩ ik);have vq:=abC e;rcases abA.mp ae with h|h
 .rw[h]at vq;exact acQ _ vq
 .rw[abK.mp h,zt]at vq;exact absurd vq (Nat.not_lt.mpr (Nat.le_succ _))
end
end Pv
end
section
namespace Tm
open PySem PyProof.Rows
section
variable{M:Model}{A:Around}{E:Value->Shared->Prop}{s:Shared}{left:Bool}{key:Keyed}{arr:Array Keyed}{b n h:Nat}{p:Nat->Bool}{st:SortSt}{Q:Option Nat->SortSt->Prop}
end
structure hs(M:Model)(A:Around)(E:Value->Shared->Prop)(s:Shared)(κ:SortKind)(S:Keyed->Prop)(lt:Keyed->Keyed->Bool):Prop where
 ask:∀(x y:Keyed)(st:SortSt)(Q:Option Bool->SortSt->Prop),S x->S y->kindOf st=κ->Q (some (lt x y)) st->wpS M A E s (lt' x y) Q st
 n2:∀x y,S x->S y->lt x y=true->lt y x=false
 fD:∀x y z,S x->S y->S z->lt y x=false->lt z y=false->lt z x=false
abbrev le(lt:Keyed->Keyed->Bool)(x y:Keyed):Prop:=lt y x=false
section
variable{M:Model}{A:Around}{E:Value->Shared->Prop}{s:Shared}{κ:SortKind}{S:Keyed->Prop}{lt:Keyed->Keyed->Bool}{a b:Array Keyed}{st bl:SortSt}
def D1(h:i<a.size)(q:Q a[i] st):wpS M A E s (elem' a i) Q st:=by
 rw[elem'_eq,abI h];exact acP q
def pB(lt:Keyed->Keyed->Bool)(a:Array Keyed)(i n:Nat):Prop:=∀x y (ai:x<a.size) (aQ:y<a.size),i<=x->x<=y->y<i+n->le lt a[x] a[y]
end
structure aab(lt:Keyed->Keyed->Bool)(a b r:List Keyed)(i j:Nat):Prop where
 perm:(r++(a.drop i++b.drop j)).Perm (a++b)
 cw:(r++a.drop i).Pairwise (le lt)
 dU:(r++b.drop j).Pairwise (le lt)
section
end
section
variable{M:Model}{A:Around}{E:Value->Shared->Prop}{s:Shared}{κ:SortKind}{S:Keyed->Prop}{lt:Keyed->Keyed->Bool}{a b r:Array Keyed}{st0 st:SortSt}{i j aZ ca Dl N:Nat}
structure Pre(S:Keyed->Prop)(lt:Keyed->Keyed->Bool)(a b:Array Keyed):Prop where
 tQ:∀x (ai:x<a.size),S a[x]
 cQ:∀x (ai:x<b.size),S b[x]
 Uo:pB lt a 0 a.size
 b5:pB lt b 0 b.size
 last:∀y∈b.toList,∀x,a.toList[a.toList.length-1]?=some x->le lt y x
end
section
def k6{A:Around}{s:Shared}{st:SortSt}{α:Type}{c:Prop}[Decidable c]{t e:StateT SortSt Sem α}{Q:α->SortSt->Prop}(J:c->wpS M A E s t Q st)(aa:¬c->wpS M A E s e Q st):wpS M A E s (if c then t else e) Q st:=by
 by_cases h:c
 .rw[if_pos h];exact J h
 .rw[if_neg h];exact aa h
def X4(h:pB lt a 0 a.size):a.toList.Pairwise (le lt):=by
 rw[adn];intro x y ai aQ sL;rw[Array.length_toList]at ai aQ;exact h x y ai aQ (abZ _) (adP sL) ⋯
end
structure aaa(lt:Keyed->Keyed->Bool)(a b t:List Keyed)(i j:Nat):Prop where
 perm:(a.take i++b.take j++t).Perm (a++b)
 cR:(a.take i++t).Pairwise (le lt)
 da:(b.take j++t).Pairwise (le lt)
section
end
section
variable{M:Model}{A:Around}{E:Value->Shared->Prop}{s:Shared}{κ:SortKind}{S:Keyed->Prop}{lt:Keyed->Keyed->Bool}{a b r:Array Keyed}{st0 st:SortSt}{i j aZ ca Dl N:Nat}
structure aad(S:Keyed->Prop)(lt:Keyed->Keyed->Bool)(a b:Array Keyed):Prop where
 tQ:∀x (ai:x<a.size),S a[x]
 cQ:∀x (ai:x<b.size),S b[x]
 Uo:pB lt a 0 a.size
 b5:pB lt b 0 b.size
 first:∀x∈b.toList.take 1,∀y∈a.toList,le lt x y
end
section
variable{M:Model}{A:Around}{E:Value->Shared->Prop}{s:Shared}{κ:SortKind}{S:Keyed->Prop}{lt:Keyed->Keyed->Bool}{a b r:Array Keyed}{st0 st:SortSt}{i j aZ ca Dl N:Nat}
end
section
def hs.fL(O:hs M A E s κ S lt)(h:S x):lt x x=false:=by
 cases e:lt x x with
 |false=>rfl
 |true=>exact(O.n2 x x h h e▸e).symm▸rfl
end
noncomputable abbrev at_(c:Array Keyed)(x:Nat):Keyed:=c.getD x (Value.none,Value.none)
def rz(h:x<c.size):at_ c x=c[x]:=by
 show c.getD x _=_;unfold Array.getD;rw[dif_pos h];rfl
def pH(h:c[x]?=d[y]?):at_ c x=at_ d y:=by
 show c.getD x _=d.getD y _;rw[acz,acz,h]
def jG(aI:j<=c.size)(k):at_ (mirror c i j ((j-i) / 2)) k=if i<=k/\k<j then at_ c (i+j-1-k) else at_ c k:=by
 have h:=getElem?_mirror (i:=i) aI ((j-i) / 2) ⋯ k
 by_cases cy:(i<=k/\k<i+(j-i) / 2)\/(j-(j-i) / 2<=k/\k<j)
 .rw[if_pos cy]at h;rw[if_pos ⋯];exact pH h
 .rw[if_neg cy]at h
  by_cases bU:i<=k/\k<j
  .rw[if_pos bU];have:i+j-1-k=k:=⋯;rw[this];exact pH h
  .rw[if_neg bU];exact pH h
def xF(ay:k<c.size)(hd:d<=k)(x):at_ (bubble c k d) x=if x=k-d then at_ c k else if k-d<x/\x<=k then at_ c (x-1) else at_ c x:=by
 have h:=getElem?_bubble ay d hd x
 by_cases cy:x=k-d
 .rw[if_pos cy]at h ⊢;exact pH h
 .rw[if_neg cy]at h ⊢
  by_cases bU:k-d<x/\x<=k
  .rw[if_pos bU]at h ⊢;exact pH h
  .rw[if_neg bU]at h ⊢;exact pH h
def fb(lt:Keyed->Keyed->Bool)(c:Array Keyed)(l n:Nat):Prop:=∀x y,l<=x->x<=y->y<l+n->le lt (at_ c x) (at_ c y)
def Dec(lt:Keyed->Keyed->Bool)(c:Array Keyed)(l n:Nat):Prop:=∀x y,l<=x->x<=y->y<l+n->le lt (at_ c y) (at_ c x)
structure eg(c d:Array Keyed)(l h:Nat):Prop where
 size:d.size=c.size
 perm:d.toList.Perm c.toList
 out:∀k,(k<l\/h<=k)->at_ d k=at_ c k
theorem eg.refl(c)(l h):eg c c l h:=⟨rfl,.refl _,λ_ _=>rfl⟩
theorem eg.trans(x:eg c d l h)(y:eg d e l h):eg c e l h:=⟨y.size.trans x.size,y.perm.trans x.perm,λk q=>(y.out k q).trans (x.out k q)⟩
def eg.mono(x:eg c d l h)(a:gh<=l)(b:h<=h'):eg c d gh h':=⟨x.size,x.perm,λk q=>x.out k ⋯⟩
def eg.rev(aI:j<=c.size):eg c (mirror c i j ((j-i) / 2)) i j :=
 ⟨mirror_size ..,Array.perm_iff_toList_perm.mp (mirror_perm ..),λk q=>by rw[jG aI,if_neg ⋯]⟩
def eg.LN(ay:k<c.size)(hd:d<=k):eg c (bubble c k d) (k-d) (k+1) :=
 ⟨bubble_size ..,Array.perm_iff_toList_perm.mp (bubble_perm ..),λx q=>by rw[xF ay hd,if_neg ⋯,if_neg ⋯]⟩
section
variable{M:Model}{A:Around}{E:Value->Shared->Prop}{s:Shared}{κ:SortKind}{S:Keyed->Prop}{lt:Keyed->Keyed->Bool}{st bl:SortSt}{c d:Array Keyed}{l h n:Nat}
abbrev fG(S:Keyed->Prop)(c:Array Keyed):Prop:=∀x∈c.toList,S x
theorem fG.at_(h:fG S c){x:Nat}(ai:x<c.size):S (at_ c x):=by rw[rz ai];exact h _ (by simp)
def fG.perm(h:fG S c)(p:d.toList.Perm c.toList):fG S d:=λx ai=>h x (p.mem_iff.mp ai)
def ry(O:hs M A E s κ S lt)(ay:kindOf st=κ)(bb:fG S (arrOf st))(aj:i<(arrOf st).size)(aI:j<(arrOf st).size)(q:Q (some (lt (at_ (arrOf st) i) (at_ (arrOf st) j))) st):wpS M A E s (ltAt' i j) Q st:=by
 rw[ltAt'_eq];refine acd (wpS_get ?_);show wpS _ _ _ _ (do let x <- elem' (arrOf st) i;let y <- elem' (arrOf st) j;lt' x y) Q st;refine acd (D1 aj (acd (D1 aI ?_)));rw[rz aj,rz aI]at q;exact O.ask _ _ _ _ (bb _ (by simp)) (bb _ (by simp)) ay q
def fb.snoc(O:hs M A E s κ S lt)(bb:fG S c)(aC:l+n<c.size)(h0:0<n)(h:fb lt c l n)(q:le lt (at_ c (l+n-1)) (at_ c (l+n))):fb lt c l (n+1):=by
 intro x y J aa aJ
 by_cases e:y=l+n
 .subst e
  by_cases ar:x=l+n
  .subst ar;exact O.fL (bb.at_ aC)
  .exact O.fD _ _ _ (bb.at_ ⋯) (bb.at_ ⋯) (bb.at_ aC) (h x (l+n-1) J ⋯ ⋯) q
 .exact h x y J aa ⋯
def Dec.snoc(O:hs M A E s κ S lt)(bb:fG S c)(aC:l+n<c.size)(h0:0<n)(h:Dec lt c l n)(q:le lt (at_ c (l+n)) (at_ c (l+n-1))):Dec lt c l (n+1):=by
 intro x y J aa aJ
 by_cases e:y=l+n
 .subst e
  by_cases ar:x=l+n
  .subst ar;exact O.fL (bb.at_ aC)
  .exact O.fD _ _ _ (bb.at_ aC) (bb.at_ ⋯) (bb.at_ ⋯) q (h x (l+n-1) J ⋯ ⋯)
 .exact h x y J aa ⋯
def fb.one(O:hs M A E s κ S lt)(bb:fG S c)(aC:l<c.size):fb lt c l 1:=λx y J aa aJ=>by
 obtain rfl:x=l:=by lia
 obtain rfl:y=x:=by lia
 exact O.fL (bb.at_ aC)
def Dec.rev(h:Dec lt c l n)(aC:l+n<=c.size):fb lt (mirror c l (l+n) ((l+n-l) / 2)) l n:=by
 intro x y J aa aJ;rw[jG aC,jG aC,if_pos ⋯,if_pos ⋯];exact h _ _ ⋯ ⋯ ⋯
def fb.c7(h:fb lt c l n):pB lt c l n:=λx y ai aQ J aa aJ=>by
 have:=h x y J aa aJ;rw[rz ai,rz aQ]at this;exact this
end
noncomputable def iz(l z ji:Nat):StateT SortSt Sem (Option Nat):=do
 reverseSlice' l (l+ji)
 let mut n:=ji
 for _ in [n:z] do
  let some q <- ltAt' (l+n) (l+n-1)|return none
  if q then break
  n:=n+1
 return some n
noncomputable def mV(l z ji:Nat):StateT SortSt Sem (Option Nat):=do
 rule "list.sort.descending-run"
 let mut n:=ji+1
 let mut e:=0
 for _ in [n:z] do
  let some q <- ltAt' (l+n) (l+n-1)|return none
  if q then
   if e>0 then reverseSlice' (l+n-(e+1)) (l+n)
   e:=0
  else
   let some g <- ltAt' (l+n-1) (l+n)|return none
   if g then break
   e:=e+1
  n:=n+1
 if e>0 then reverseSlice' (l+n-(e+1)) (l+n)
 iz l z n
def MB(l z:Nat):countRun' l z=(do
 let mut n:=1
 for _ in [1:z] do
  let some q <- ltAt' (l+n) (l+n-1)|return none
  if q then break
  n:=n+1
 if n==z then return some n
 if n>1 then
  let some g <- ltAt' l (l+n-1)|return none
  if g then return some n
  reverseSlice' l (l+n)
 mV l z n):=by
 rw[countRun'_eq];unfold mV iz;rfl
def kh(st bl:SortSt):Prop:=kindOf bl=kindOf st/\pendingOf bl=pendingOf st/\failedOf bl=failedOf st
section
variable{M:Model}{A:Around}{E:Value->Shared->Prop}{s:Shared}{κ:SortKind}{S:Keyed->Prop}{lt:Keyed->Keyed->Bool}{st st0:SortSt}{l z n ji:Nat}
def rm(lt:Keyed->Keyed->Bool)(l z:Nat)(st0:SortSt)(o:Option Nat)(bl:SortSt):Prop:=∃m,o=some m/\1<=m/\m<=z/\kh st0 bl/\eg (arrOf st0) (arrOf bl) l (l+z)/\fb lt (arrOf bl) l m
def C1(O:hs M A E s κ S lt)(ay:kindOf st=κ)(bb:fG S (arrOf st))(hz:l+z<=(arrOf st).size)(J:1<=ji)(aC:ji<=z)(h:fb lt (arrOf st) l ji){Q:Option (Option Nat)×Nat->SortSt->Prop}(aM:∀n,ji<=n->n<=z->fb lt (arrOf st) l n->(n=z\/lt (at_ (arrOf st) (l+n)) (at_ (arrOf st) (l+n-1))=true)->Q (none,n) st):wpS M A E s (forIn [ji:z] ((none:Option (Option Nat)),ji) λx __s=>do
   let __x <- ltAt' (l+__s.snd) (l+__s.snd-1)
   match __x with
    |some q=>if q=true then pure (ForInStep.done (none,__s.snd)) else pure (ForInStep.yield (none,__s.snd+1))
    |x=>pure (ForInStep.done (some none,__s.snd))) Q st:=by
 refine aed (I:=λx (c:Option (Option Nat)×Nat) bl=>bl=st/\c.1=none/\c.2=x/\ji<=x/\x<=z/\fb lt (arrOf st) l x) ?step ?fin ⟨rfl,rfl,rfl,abz _,aC,h⟩
 case fin =>
  rintro⟨o,n⟩ bl ⟨rfl,rfl,rfl,k1,k2,k3⟩;rw[aet aC]at k3 ⊢;exact aM z aC (abz _) k3 (.inl rfl)
 case step =>
  rintro x ⟨o,n⟩ bl _ ai ⟨rfl,rfl,e,k1,k2,k3⟩;dsimp only at e ⊢;subst e;refine acd (ry O ay bb ⋯ ⋯ ?_);cases e:lt (at_ (arrOf bl) (l+n)) (at_ (arrOf bl) (l+n-1)) with
  |true=>dsimp only;rw[if_pos rfl];exact acP (aM n k1 k2 k3 (.inr e))
  |false=>dsimp only;rw[if_neg (by simp)];exact acP ⟨rfl,rfl,rfl,⋯,⋯,k3.snoc O bb ⋯ ⋯ e⟩
def JJ(O:hs M A E s κ S lt)(ov:kindOf st0=κ)(hS0:fG S (arrOf st0))(af:kh st0 st)(aB:eg (arrOf st0) (arrOf st) l (l+z))(hz:l+z<=(arrOf st0).size)(J:1<=n)(aC:n<=z)(h:Dec lt (arrOf st) l n):wpS M A E s (iz l z n) (rm lt l z st0) st:=by
 unfold iz;rw[aeu];refine acd (aev ?_);have jP:l+z<=(arrOf st).size:=by rw[aB.size];exact hz
 generalize e1:setArr st (mirror (arrOf st) l (l+n) ((l+n-l) / 2))=d3;have a1:arrOf d3=mirror (arrOf st) l (l+n) ((l+n-l) / 2):=by rw[<- e1]
 have s1:kh st0 d3:=by rw[<- e1];exact af
 have p1:eg (arrOf st0) (arrOf d3) l (l+z):=by rw[a1];exact aB.trans ((eg.rev ⋯).mono (abz _) ⋯)
 have d9:fb lt (arrOf d3) l n:=by rw[a1];exact h.rev ⋯
 refine acd (C1 O (s1.1.trans ov) (hS0.perm p1.perm) (by rw[p1.size];exact hz) J aC d9 λm k1 k2 k3 _=>?_);exact acP ⟨m,rfl,⋯,k2,s1,p1,k3⟩
def LI(O:hs M A E s κ S lt)(bb:fG S c)(aC:l+n<=c.size)(he:e+1<=n)(h:Dec lt c l n)(ae:∀x y,l+n-(e+1)<=x->x<l+n->l+n-(e+1)<=y->y<l+n->le lt (at_ c x) (at_ c y)):
  Dec lt (mirror c (l+n-(e+1)) (l+n) ((l+n-(l+n-(e+1))) / 2)) l n:=by
 intro x y J aa aJ;rw[jG aC,jG aC]
 by_cases yK:l+n-(e+1)<=x
 .rw[if_pos ⋯,if_pos ⋯];exact ae _ _ ⋯ ⋯ ⋯ ⋯
 .rw[if_neg (show ¬(l+n-(e+1)<=x/\x<l+n) by lia)]
  by_cases uO:l+n-(e+1)<=y
  .rw[if_pos ⋯];exact h _ _ J ⋯ ⋯
  .rw[if_neg ⋯];exact h _ _ J aa aJ
structure mx(lt:Keyed->Keyed->Bool)(S:Keyed->Prop)(l z:Nat)(st0 st:SortSt)(n e:Nat):Prop where
 ss:kh st0 st
 e9:eg (arrOf st0) (arrOf st) l (l+z)
 dec:Dec lt (arrOf st) l n
 len:e+1<=n
 vU:n<=z
 eq:∀x y,l+n-(e+1)<=x->x<l+n->l+n-(e+1)<=y->y<l+n->le lt (at_ (arrOf st) x) (at_ (arrOf st) y)
def mx.turn(O:hs M A E s κ S lt)(hS0:fG S (arrOf st0))(hz:l+z<=(arrOf st0).size)(h:mx lt S l z st0 st n e):mx lt S l z st0 (setArr st (mirror (arrOf st) (l+n-(e+1)) (l+n) ((l+n-(l+n-(e+1))) / 2))) n 0:=by
 have J:=h.len;have aa:=h.vU;have jP:l+n<=(arrOf st).size:=by rw[h.e9.size];lia
 refine⟨h.ss,h.e9.trans ((eg.rev jP).mono ⋯ ⋯),LI O (hS0.perm h.e9.perm) jP J h.dec h.eq,⋯,h.vU,λx y k1 k2 k3 cF=>?_⟩;have ex:x=l+n-1:=by lia
 have g8:y=l+n-1:=by lia
 subst ex g8;have e9:eg (arrOf st0) (mirror (arrOf st) (l+n-(e+1)) (l+n) ((l+n-(l+n-(e+1))) / 2)) l (l+z):=h.e9.trans ((eg.rev jP).mono ⋯ ⋯);exact O.fL ((hS0.perm e9.perm).at_ (by rw[e9.size];lia))
def DV(O:hs M A E s κ S lt)(ov:kindOf st0=κ)(hS0:fG S (arrOf st0))(af:kh st0 st)(aB:eg (arrOf st0) (arrOf st) l (l+z))(hz:l+z<=(arrOf st0).size)(aC:n<z)(h:Dec lt (arrOf st) l (n+1)):wpS M A E s (mV l z n) (rm lt l z st0) st:=by
 unfold mV;refine acd (wpS_lift (aeM ⟨rfl,?_⟩));have hA:mx lt S l z st0 st (n+1) 0:=by
  refine⟨af,aB,h,⋯,aC,λx y k1 k2 k3 cF=>?_⟩;have ex:x=l+n:=⋯;have g8:y=l+n:=⋯;subst ex g8;exact O.fL ((hS0.perm aB.perm).at_ (by rw[aB.size];lia))
 refine acd (wpS_mono (aed (I:=λx (c:Option (Option Nat)×Nat×Nat) bl=>c.1=none/\c.2.1=x/\mx lt S l z st0 bl x c.2.2) (Q:=λ(c:Option (Option Nat)×Nat×Nat) bl=>c.1=none/\mx lt S l z st0 bl c.2.1 c.2.2) ?step ?fin ⟨rfl,rfl,hA⟩) ?post)
 case fin =>
  rintro⟨o,cv,e⟩ bl ⟨rfl,rfl,D⟩;exact⟨rfl,D⟩
 case post =>
  rintro⟨o,cv,e⟩ bl ⟨rfl,D⟩;dsimp only at D ⊢;refine k6 (λ_=>?_) λ_=>?_
  .rw[aeu];have jx:=D.turn O hS0 hz;exact acd (aev (JJ O ov hS0 jx.ss jx.e9 hz (by have:=jx.len;lia) jx.vU jx.dec))
  .exact JJ O ov hS0 D.ss D.e9 hz (by have:=D.len;lia) D.vU D.dec
 case step =>
  rintro x ⟨o,cv,e⟩ d3 FJ ai ⟨rfl,e1,D⟩;dsimp only at e1 D ⊢;subst e1;have J:=D.len;have jP:l+z<=(arrOf d3).size:=(by rw[D.e9.size];exact hz);have eL:=hS0.perm D.e9.perm;have i9:=D.ss.1.trans ov;refine acd (ry O i9 eL ⋯ ⋯ ?_);cases ar:lt (at_ (arrOf d3) (l+cv)) (at_ (arrOf d3) (l+cv-1)) with
  |true =>
   dsimp only;rw[if_pos rfl];have next:∀hk,mx lt S l z st0 hk cv 0->le lt (at_ (arrOf hk) (l+cv)) (at_ (arrOf hk) (l+cv-1))->mx lt S l z st0 hk (cv+1) 0:=λhk jx q=>by
    have FL:l+z<=(arrOf hk).size:=(by rw[jx.e9.size];exact hz);have E4:=hS0.perm jx.e9.perm;refine⟨jx.ss,jx.e9,jx.dec.snoc O E4 ⋯ ⋯ q,⋯,⋯,λx y k1 k2 k3 cF=>?_⟩;have ex:x=l+cv:=⋯;have g8:y=l+cv:=⋯;subst ex g8;exact O.fL (E4.at_ ⋯)
   have qG:=O.n2 _ _ (eL.at_ ⋯) (eL.at_ ⋯) ar;refine k6 (λc=>?_) λc=>?_
   .rw[aeu];refine acd (aev (acP ⟨rfl,rfl,next _ (D.turn O hS0 hz) ?_⟩));show le lt (at_ (mirror (arrOf d3) (l+cv-(e+1)) (l+cv) ((l+cv-(l+cv-(e+1))) / 2)) (l+cv)) (at_ (mirror (arrOf d3) (l+cv-(e+1)) (l+cv) ((l+cv-(l+cv-(e+1))) / 2)) (l+cv-1));rw[jG ⋯,jG ⋯,if_neg ⋯,if_pos ⋯];exact O.fD _ _ _ (eL.at_ ⋯) (eL.at_ ⋯) (eL.at_ ⋯) qG (D.eq _ _ ⋯ ⋯ ⋯ ⋯)
   .have e0:e=0:=⋯;subst e0;exact acP ⟨rfl,rfl,next d3 D qG⟩
  |false =>
   dsimp only;rw[if_neg (by simp)];refine acd (ry O i9 eL ⋯ ⋯ ?_);cases bo:lt (at_ (arrOf d3) (l+cv-1)) (at_ (arrOf d3) (l+cv)) with
   |true=>dsimp only;rw[if_pos rfl];exact acP ⟨rfl,D⟩
   |false =>
    dsimp only;rw[if_neg (by simp)];refine acP ⟨rfl,rfl,D.ss,D.e9,D.dec.snoc O eL ⋯ ⋯ bo,by show e+1+1<=cv+1;lia,⋯,λx y k1 k2 k3 cF=>?_⟩;have k1:l+(cv+1)-(e+1+1)<=x:=k1;have k3:l+(cv+1)-(e+1+1)<=y:=k3;have tt:∀u,l+cv-(e+1)<=u->u<l+cv->le lt (at_ (arrOf d3) u) (at_ (arrOf d3) (l+cv))/\le lt (at_ (arrOf d3) (l+cv)) (at_ (arrOf d3) u):=λu gn iY =>
     ⟨O.fD _ _ _ (eL.at_ ⋯) (eL.at_ ⋯) (eL.at_ ⋯) (D.eq u (l+cv-1) gn iY ⋯ ⋯) ar,O.fD _ _ _ (eL.at_ ⋯) (eL.at_ ⋯) (eL.at_ ⋯) bo (D.eq (l+cv-1) u ⋯ ⋯ gn iY)⟩
    by_cases yK:x=l+cv
    .by_cases uO:y=l+cv
     .subst yK uO;exact O.fL (eL.at_ ⋯)
     .subst yK;exact(tt y ⋯ ⋯).2
    .by_cases uO:y=l+cv
     .subst uO;exact(tt x ⋯ ⋯).1
     .exact D.eq x y ⋯ ⋯ ⋯ ⋯
def MC(O:hs M A E s κ S lt)(ay:kindOf st=κ)(bb:fG S (arrOf st))(hz:l+z<=(arrOf st).size)(J:1<=z):wpS M A E s (countRun' l z) (rm lt l z st) st:=by
 rw[MB];refine acd (C1 O ay bb hz (abz 1) J (fb.one O bb ⋯) λn k1 k2 k3 cF=>?_);dsimp only;refine k6 (λc=>?_) λc=>?_
 .exact acP ⟨n,rfl,k1,k2,⟨rfl,rfl,rfl⟩,.refl ..,k3⟩
 .have c:¬n=z:=(by simpa using c);have q:=O.n2 _ _ (bb.at_ ⋯) (bb.at_ ⋯) (cF.resolve_left c);refine k6 (λbU=>?_) λbU=>?_
  .refine acd (ry O ay bb ⋯ ⋯ ?_);cases e:lt (at_ (arrOf st) l) (at_ (arrOf st) (l+n-1)) with
   |true=>dsimp only;rw[if_pos rfl];exact acP ⟨n,rfl,k1,k2,⟨rfl,rfl,rfl⟩,.refl ..,k3⟩
   |false =>
    dsimp only;rw[if_neg (by simp),aeu];refine acd (aev ?_);have jP:l+n<=(arrOf st).size:=⋯;have e9:eg (arrOf st) (mirror (arrOf st) l (l+n) ((l+n-l) / 2)) l (l+z):=(eg.rev jP).mono (abz _) ⋯;have CM:∀x y,l<=x->x<l+n->l<=y->y<l+n->le lt (at_ (arrOf st) x) (at_ (arrOf st) y):=λx y gn iY t5 Zv =>
     O.fD _ _ _ (bb.at_ ⋯) (bb.at_ ⋯) (bb.at_ ⋯) (k3 x (l+n-1) gn ⋯ ⋯)
      (O.fD _ _ _ (bb.at_ ⋯) (bb.at_ ⋯) (bb.at_ ⋯) e (k3 l y (abz _) t5 Zv))
    refine DV (st0:=st) O ay bb ⟨rfl,rfl,rfl⟩ e9 hz ⋯ ?_;show Dec lt (mirror (arrOf st) l (l+n) ((l+n-l) / 2)) l (n+1);have hA:Dec lt (mirror (arrOf st) l (l+n) ((l+n-l) / 2)) l n:=λx y gn iY t5=>by
     rw[jG jP,jG jP,if_pos ⋯,if_pos ⋯];exact CM _ _ ⋯ ⋯ ⋯ ⋯
    refine hA.snoc O (bb.perm e9.perm) (by rw[e9.size];lia) ⋯ ?_;rw[jG jP,jG jP,if_neg ⋯,if_pos ⋯];exact O.fD _ _ _ (bb.at_ ⋯) (bb.at_ ⋯) (bb.at_ ⋯) q (CM _ _ ⋯ ⋯ ⋯ ⋯)
  .have gD:n=1:=⋯;subst gD;refine DV (st0:=st) O ay bb ⟨rfl,rfl,rfl⟩ (.refl ..) hz ⋯ ?_;have hA:Dec lt (arrOf st) l 1:=λx y gn iY t5=>by
    obtain rfl:x=l:=⋯;obtain rfl:y=x:=⋯;exact O.fL (bb.at_ ⋯)
   exact hA.snoc O bb ⋯ ⋯ q
end
section
def LO(O:hs M A E s κ S lt)(bb:fG S c)(ay:l+k<c.size)(aB:p<=k)(h:fb lt c l k)(J:∀x,x<p->le lt (at_ c (l+x)) (at_ c (l+k)))(aa:∀x,p<=x->x<k->le lt (at_ c (l+k)) (at_ c (l+x))):fb lt (bubble c (l+k) (k-p)) l (k+1):=by
 intro x y gn iY t5;have e:l+k-(k-p)=l+p:=by lia
 rw[xF ay ⋯,xF ay ⋯,e];have g1:∀u,l<=u->u<l+p->le lt (at_ c u) (at_ c (l+k)):=λu a b=>by have:=J (u-l) ⋯;rwa[show l+(u-l)=u by lia]at this
 have g2:∀u,l+p<=u->u<l+k->le lt (at_ c (l+k)) (at_ c u):=λu a b=>by have:=aa (u-l) ⋯ ⋯;rwa[show l+(u-l)=u by lia]at this
 by_cases a:x=l+p
 .rw[if_pos a]
  by_cases b:y=l+p
  .rw[if_pos b];exact O.fL (bb.at_ ay)
  .rw[if_neg b,if_pos ⋯];exact g2 _ ⋯ ⋯
 .rw[if_neg a]
  by_cases a2:l+p<x
  .rw[if_pos ⋯,if_neg ⋯,if_pos ⋯];exact h _ _ ⋯ ⋯ ⋯
  .rw[if_neg ⋯]
   by_cases b:y=l+p
   .rw[if_pos b];exact g1 _ gn ⋯
   .rw[if_neg b]
    by_cases b2:l+p<y
    .rw[if_pos ⋯];exact h _ _ gn ⋯ ⋯
    .rw[if_neg ⋯];exact h _ _ gn iY ⋯
def LM{A:Around}{s:Shared}{S:Keyed->Prop}{st:SortSt}(O:hs M A E s κ S lt)(ov:kindOf st=κ)(hS0:fG S (arrOf st))(hz:l+n<=(arrOf st).size)(J:1<=ok)(aC:ok<=n)(h:fb lt (arrOf st) l ok)(aM:∀bl,kh st bl->eg (arrOf st) (arrOf bl) l (l+n)->fb lt (arrOf bl) l n->Q true bl):wpS M A E s (binarySort' l n ok) Q st:=by
 rw[binarySort'_eq];rw[Nat.max_eq_left J];refine acd (wpS_mono (aed (I:=λk (c:Option Bool×Unit) bl=>c=(none,())/\k<=n/\kh st bl/\eg (arrOf st) (arrOf bl) l (l+n)/\fb lt (arrOf bl) l k)
  (Q:=λ(c:Option Bool×Unit) bl=>c=(none,())/\kh st bl/\eg (arrOf st) (arrOf bl) l (l+n)/\fb lt (arrOf bl) l n) ?step ?fin ⟨rfl,aC,⟨rfl,rfl,rfl⟩,.refl ..,h⟩) ?post)
 case fin =>
  rintro c bl ⟨rfl,k1,k2,k3,cF⟩;rw[aet aC]at cF;exact⟨rfl,k2,k3,cF⟩
 case post =>
  rintro c bl ⟨rfl,k2,k3,cF⟩;exact acP (aM bl k2 k3 cF)
 case step =>
  rintro k c d3 i9 zS ⟨rfl,aO,ba,b6,dx⟩;have aaN:l+n<=(arrOf d3).size:=(by rw[b6.size];exact hz);have eL:=hS0.perm b6.perm;have d2:=ba.1.trans ov;refine acd (wpS_mono (aed (I:=λx (c:Option Bool×Nat×Nat) bl=>bl=d3/\c.1=none/\c.2.1<=c.2.2/\c.2.2<=k/\(∀x,x<c.2.1->le lt (at_ (arrOf d3) (l+x)) (at_ (arrOf d3) (l+k)))/\(∀x,c.2.2<=x->x<k->le lt (at_ (arrOf d3) (l+k)) (at_ (arrOf d3) (l+x)))/\c.2.2-c.2.1+x<=k)
   (Q:=λ(c:Option Bool×Nat×Nat) bl=>bl=d3/\c.1=none/\c.2.1<=k/\(∀x,x<c.2.1->le lt (at_ (arrOf d3) (l+x)) (at_ (arrOf d3) (l+k)))/\∀x,c.2.1<=x->x<k->le lt (at_ (arrOf d3) (l+k)) (at_ (arrOf d3) (l+x))) ?step2 ?fin2
   ⟨rfl,rfl,abZ _,abz _,λx ai=>absurd ai (Nat.not_lt_zero _),λx gn iY=>absurd iY (by dsimp only at gn;lia),by show k-0+0<=k;lia⟩) ?post2)
  case fin2 =>
   rintro⟨o,a,b⟩ bl ⟨rfl,rfl,aG,aV,c5,gF,hK⟩;dsimp only at aG aV c5 gF hK;rw[aet (abZ _)]at hK;have e:a=b:=⋯;subst e;exact⟨rfl,rfl,aV,c5,gF⟩
  case step2 =>
   rintro x ⟨o,a,b⟩ bl _ ai ⟨rfl,rfl,aG,aV,c5,gF,hK⟩;dsimp only at aG aV c5 gF hK ⊢;refine k6 (λc=>?_) λc=>?_
   .have e:a=b:=⋯;subst e;exact acP ⟨rfl,rfl,aV,c5,gF⟩
   .have hm:(a+b) / 2<b:=⋯;have Q0:a<=(a+b) / 2:=⋯;refine acd (ry O d2 eL ⋯ ⋯ ?_);cases e:lt (at_ (arrOf bl) (l+k)) (at_ (arrOf bl) (l+(a+b) / 2)) with
    |true =>
     dsimp only;rw[if_pos rfl];refine acP ⟨rfl,rfl,Q0,by dsimp only;lia,c5,λy gn iY=>?_,by dsimp only;lia⟩;exact O.fD _ _ _ (eL.at_ ⋯) (eL.at_ ⋯) (eL.at_ ⋯) (O.n2 _ _ (eL.at_ ⋯) (eL.at_ ⋯) e) (dx _ _ ⋯ (by dsimp only at gn;lia) ⋯)
    |false =>
     dsimp only;rw[if_neg (by simp)];refine acP ⟨rfl,rfl,by dsimp only;lia,aV,λy gn=>?_,gF,by dsimp only;lia⟩;exact O.fD _ _ _ (eL.at_ (by dsimp only at gn;lia)) (eL.at_ ⋯) (eL.at_ ⋯) (dx _ _ ⋯ (by dsimp only at gn;lia) ⋯) e
  case post2 =>
   rintro⟨o,p,b⟩ bl ⟨rfl,rfl,aV,c5,gF⟩;dsimp only at aV c5 gF ⊢;rw[moveDown'_eq];refine acd (aev (acP ⟨rfl,⋯,ba,?_,?_⟩))
   .show eg (arrOf st) (bubble (arrOf bl) (l+k) (l+k-(l+p))) l (l+n);exact b6.trans ((eg.LN ⋯ ⋯).mono ⋯ ⋯)
   .show fb lt (bubble (arrOf bl) (l+k) (l+k-(l+p))) l (k+1);rw[show l+k-(l+p)=k-p by lia];exact LO O eL ⋯ aV dx c5 gF
end
section
def Wz{A:Around}{s:Shared}{S:Keyed->Prop}{st:SortSt}(O:hs M A E s κ S lt)(ay:kindOf st=κ)(hf:failedOf st=none)(aB:pendingOf st=#[])(bb:fG S (arrOf st))(aa:2<=(arrOf st).size)(zk:(arrOf st).size<64)(aM:∀bl,failedOf bl=none->(arrOf bl).toList.Perm (arrOf st).toList->(arrOf bl).toList.Pairwise (le lt)->Q () bl):wpS M A E s sortRuns' Q st:=by
 rw[sortRuns'_eq];refine acd (wpS_get ?_);dsimp only;generalize Q6:minRun' (arrOf st).size (arrOf st).size 0=GQ;have Q7:GQ=(arrOf st).size:=by
  rw[<- Q6];obtain⟨f,Qx⟩:∃f,(arrOf st).size=f+1:=⟨(arrOf st).size-1,⋯⟩;rw[Qx,minRun'_succ,if_pos ⋯]
 generalize aP:(arrOf st).size=N at aa zk Q7 ⊢;refine acd (wpS_mono (aed (I:=λx (c:Option Unit×Nat) bl=>c.1=none/\failedOf bl=none/\eg (arrOf st) (arrOf bl) 0 N/\((x=0/\c.2=0/\kindOf bl=κ/\pendingOf bl=#[])\/(c.2=N/\(pendingOf bl).size<=1/\fb lt (arrOf bl) 0 N)))
  (Q:=λ(c:Option Unit×Nat) bl=>c.1=none/\failedOf bl=none/\eg (arrOf st) (arrOf bl) 0 N/\(pendingOf bl).size<=1/\fb lt (arrOf bl) 0 N) ?step ?fin ⟨rfl,hf,.refl ..,.inl ⟨rfl,rfl,ay,aB⟩⟩) ?post)
 case fin =>
  rintro c bl ⟨aO,ba,b6,dx⟩;rw[aet (abZ _)]at dx;rcases dx with⟨z,_⟩|⟨_,gV,kT⟩
  .omega
  .exact⟨aO,ba,b6,gV,kT⟩
 case step =>
  rintro x ⟨o,lo⟩ d3 _ ai ⟨rfl,k2,k3,cF⟩;rcases cF with⟨rfl,rfl,d2,eY⟩|⟨cF,k5,eY⟩
  .have eL:=bb.perm k3.perm;have hsz:(arrOf d3).size=N:=k3.size.trans aP;refine k6 (λc=>absurd c ⋯) λc=>?_
   refine acd (wpS_mono (MC (l:=0) (z:=N-0) O d2 eL (by rw[hsz];lia) ⋯) ?_);rintro o hk ⟨m,rfl,nr,lZ,s2,p2,fz⟩;have tail:∀hM,kh d3 hM->eg (arrOf d3) (arrOf hM) 0 (0+(N-0))->fb lt (arrOf hM) 0 N->∀mg,kindOf mg=kindOf hM->failedOf mg=failedOf hM->arrOf mg=arrOf hM->pendingOf mg=#[(0,N,0)]->failedOf mg=none/\eg (arrOf st) (arrOf mg) 0 N/\(pendingOf mg).size<=1/\fb lt (arrOf mg) 0 N:=λhM s3 p3 kD mg e1 ar bo eK=>by
    rw[ar,bo,eK];exact⟨s3.2.2.trans k2,k3.trans (p3.mono (abz _) ⋯),abz _,kD⟩
   refine k6 (λbU=>?b1) λbU=>?b2
   case b1 =>
    refine acd (wpS_lift (aeM ⟨rfl,?_⟩));refine acd (LM O (s2.1.trans d2) (eL.perm p2.perm) (by rw[p2.size,hsz];lia) nr ⋯ fz λhM s3 p3 kD=>?_);refine k6 (λh=>nomatch h) λ_=>?_
    refine acd (wpS_get ?_);have Bw:kh d3 hM:=⟨s3.1.trans s2.1,s3.2.1.trans s2.2.1,s3.2.2.trans s2.2.2⟩;have Q5:min (N-0) GQ=N:=⋯;rw[Q5]at kD p3 ⊢;rw[Bw.2.1.trans eY];have t:=tail hM Bw (p2.trans (p3.mono (abz _) ⋯)) kD (setPending hM ((pendingOf hM).push (0,N,0))) rfl rfl rfl (by show(pendingOf hM).push _=_;rw[Bw.2.1.trans eY];rfl);exact acd (aev (acP ⟨rfl,t.1,t.2.1,.inr ⟨ac3 N,t.2.2⟩⟩))
   case b2 =>
    refine acd (wpS_get ?_);have hm:m=N:=⋯;subst hm;rw[s2.2.1.trans eY];have t:=tail hk s2 p2 fz (setPending hk ((pendingOf hk).push (0,m,0))) rfl rfl rfl (by show(pendingOf hk).push _=_;rw[s2.2.1.trans eY];rfl);exact acd (aev (acP ⟨rfl,t.1,t.2.1,.inr ⟨ac3 m,t.2.2⟩⟩))
  .refine k6 (λc=>acP ⟨rfl,k2,k3,k5,eY⟩) λc=>absurd (afm cF.symm) c
 case post =>
  rintro⟨o,lo⟩ d3 ⟨rfl,k2,k3,k5,eY⟩;refine acd (wpS_mono (aed (I:=λx (c:Option Unit×Unit) bl=>c=(none,())/\bl=d3) (Q:=λ(c:Option Unit×Unit) bl=>c=(none,())/\bl=d3) ?step2 ?fin2 ⟨rfl,rfl⟩) ?post2)
  case fin2=>exact λc bl h=>h
  case step2 =>
   rintro y c bl _ aQ ⟨rfl,rfl⟩;refine acd (wpS_get ?_);exact k6 (λ_=>acP ⟨rfl,rfl⟩) λh=>absurd k5 h
  case post2 =>
   rintro c bl ⟨rfl,rfl⟩;refine acP (aM bl k2 k3.perm (X4 ?_));rw[show(arrOf bl).size=N from k3.size.trans aP];exact eY.c7
end
end Tm
end
section
namespace Tm
open PySem PySem.W PyProof.Rows PySem.Calls
def Vf{α β:Type}(f){gh m:List β}(h:gh.Perm m):∀l:List α,m=l.map f->∃p:List α,p.Perm l/\gh=p.map f:=by
 induction h with
 |nil=>intro l e;cases l with
  |nil=>exact⟨[],.refl _,rfl⟩
  |cons=>cases e
 |cons x _ aE =>
  intro l e;cases l with
  |nil=>cases e
  |cons y l =>
   rw[List.map_cons]at e;injection e with e1 ar;obtain⟨p,J,aa⟩:=aE l ar;exact⟨y::p,J.cons y,by rw[List.map_cons,e1,aa]⟩
 |swap x y m =>
  intro l e
  match l,e with
  |u::v::l,e =>
   rw[List.map_cons,List.map_cons]at e;injection e with e1 ar;injection ar with ar bo;exact⟨v::u::l,.swap u v l,by rw[List.map_cons,List.map_cons,e1,ar,bo]⟩
 |trans _ _ Af Ag =>
  intro l e;obtain⟨p,J,aa⟩:=Ag l e;obtain⟨q,aJ,aW⟩:=Af p aa;exact⟨q,aJ.trans J,aW⟩
structure Ord(lt:Nat->Nat->Bool):Prop where
 fL:∀x,lt x x=false
 fD:∀x y z,lt y x=false->lt z y=false->lt z x=false
 n2:∀x y,lt x y=true->lt y x=false
section
noncomputable abbrev pr(ag:List Value)(i:Nat):Keyed:=(ag.getD i Value.none,ag.getD i Value.none)
def Z3(ag):(ag.toArray.zip ag.toArray).toList=(List.range ag.length).map (pr ag):=by
 apply ac9;intro i;rw[abF]
 by_cases h:i<ag.length
 .rw[acW h];simp[List.getElem?_zip_eq_some,List.getD,aby h]
 .rw[abM (by simpa using h),abM (by simpa using h)];rfl
def Tq(O:Ord lt)(aN:∀i j,i<ag.length->j<ag.length->ag.getD i Value.none=ag.getD j Value.none->∀k,lt i k=lt j k/\lt k i=lt k j)(az:s.heap.get? a=some (seqObj "list" ag.toArray n))(P6:ag.length<64)(ay:2<=ag.length->∀(h':Heap),(∀b o,b≠a->s.heap.get? b=some o->h'.get? b=some o)->∀Q:SortKind->Shared->Prop,Q κ { s with heap:=h' }->wpAny (model prog w) A (keyKind' ag.toArray) Q E { s with heap:=h' })(ah:2<=ag.length->∀(h':Heap),(∀b o,b≠a->s.heap.get? b=some o->h'.get? b=some o)->∀(i j:Nat)(C:Bool->Shared->Prop),i<ag.length->j<ag.length->C (lt i j) { s with heap:=h' }->kas_ask prog w A κ ag i j C { s with heap:=h' })(h:∀p:List Nat,p.Perm (List.range ag.length)->p.Pairwise (λi j=>lt j i=false)->∀(h':Heap)(c:Nat),(∀b o,b≠a->s.heap.get? b=some o->h'.get? b=some o)->h'.get? a=some (seqObj "list" (p.map λi=>ag.getD i Value.none).toArray c)->P (.done (.ret .none)) { s with heap:=h' }):
  wpAny (model prog w) A (Builtin.«list.sort» ⟨[.ref a],[]⟩) P E s:=by
 rw[list_sort_plain];have aw:a<s.heap.objs.size:=abC az;refine abr (listItems_at az rfl ?_);refine abr (listUpdate_at az rfl ?_ (by rw[abB,sizeLine_eq];lia) (abZ _));obtain⟨e1,ox⟩:∃e1,(s.heap.update a (Obj.mapSeq λ_=>(#[]:Array Value))).get? a=some (seqObj "list" #[] e1):=⟨_,get?_update_seq az λ_=>#[]⟩;refine abr (seqEpoch_at ox rfl ?_);refine abr (wpAny_newTuple ?_ (by show ag.length<=_;rw[sizeLine_eq];lia));refine abr (wpAny_newList ?_ (abZ _));refine acJ ?_;have qd:(((s.heap.update a (Obj.mapSeq λ_=>(#[]:Array Value))).push (seqObj "tuple" ag.toArray 0)).push (seqObj "list" #[] 0)).get? a=some (seqObj "list" #[] e1):=abv _ (abv _ ox);have keep:∀b o,b≠a->s.heap.get? b=some o->(((s.heap.update a (Obj.mapSeq λ_=>(#[]:Array Value))).push (seqObj "tuple" ag.toArray 0)).push (seqObj "list" #[] 0)).get? b=some o:=λb o ae q =>
  abv _ (abv _ ((abV _ _ (acy ae)).trans q))
 show wpAny (model prog w) A _ P E { s with heap:=((s.heap.update a (Obj.mapSeq λ_=>(#[]:Array Value))).push (seqObj "tuple" ag.toArray 0)).push (seqObj "list" #[] 0) };generalize ((s.heap.update a (Obj.mapSeq λ_=>(#[]:Array Value))).push (seqObj "tuple" ag.toArray 0)).push (seqObj "list" #[] 0)=J at qd keep;dsimp only;have fin:∀p:List Nat,p.Perm (List.range ag.length)->p.Pairwise (λi j=>lt j i=false)->P (.done (.ret .none)) { s with heap:=J.update a (Obj.mapSeq λ_=>(p.map λi=>ag.getD i Value.none).toArray) }:=λp aB af=>by
  obtain⟨bU,iK⟩:∃bU,(J.update a (Obj.mapSeq λ_=>(p.map λi=>ag.getD i Value.none).toArray)).get? a=some (seqObj "list" (p.map λi=>ag.getD i Value.none).toArray bU):=⟨_,get?_update_seq qd λ_=>(p.map λi=>ag.getD i Value.none).toArray⟩;exact h p aB af _ bU (λb o ae q=>(abV _ _ (acy ae)).trans (keep b o ae q)) iK
 have hz:=Z3 ag
 by_cases aa:ag.toArray.size<2
 .rw[if_pos aa,if_pos aa];refine abr (abu ?_);rw[StateT.run_pure];refine abr (abu ?_);dsimp only;refine abr (seqEpoch_at qd rfl ?_);have bo:(arrOf (SortSt.mk' general' (ag.toArray.zip ag.toArray) #[] 7 none)).map (·.2)=((List.range ag.length).map λi=>ag.getD i Value.none).toArray:=by
   show(ag.toArray.zip ag.toArray).map (·.2)=_;apply Array.toList_inj.mp;rw[Array.toList_map,hz,List.map_map];rfl
  rw[bo];refine abr (listUpdate_at qd rfl ?_ (abZ _) (by rw[abB,List.length_map,List.length_range,sizeLine_eq];lia));simp only[adv,abx,abS];refine abu (fin _ (.refl _) ?_);have iJ:ag.length<2:=by simpa using aa
  match ag,iJ with
  |[],_=>exact List.Pairwise.nil
  |[_],_=>exact ac8 _ _
 .rw[if_neg aa,if_neg aa];have iJ:2<=ag.length:=(by simp at aa;exact aa);refine abr (ay iJ J keep _ ?_);have cg:∀x:Keyed,∃i,(∃i,i<ag.length/\x=pr ag i)->i<ag.length/\x=pr ag i:=λx=>by
   by_cases c:∃i,i<ag.length/\x=pr ag i
   .obtain⟨i,aj⟩:=c;exact⟨i,λ_=>aj⟩
   .exact⟨0,λq=>absurd q c⟩
  obtain⟨idx,vp⟩:∃idx:Keyed->Nat,∀x,(∃i,i<ag.length/\x=pr ag i)->idx x<ag.length/\x=pr ag (idx x):=⟨λx=>(cg x).choose,λx=>(cg x).choose_spec⟩;have Or:hs (model prog w) A E { s with heap:=J } κ (λx=>∃i,i<ag.length/\x=pr ag i) (λx y=>lt (idx x) (idx y)):=by
   refine⟨λx y st Q ai aQ zT q=>?_,λx y _ _ q=>O.n2 _ _ q,λx y z _ _ _ aO ba=>O.fD _ _ _ aO ba⟩;obtain⟨d9,ex⟩:=vp x ai;obtain⟨Ao,g8⟩:=vp y aQ;rw[lt'_eq];refine acd (wpS_get ?_);refine acd (wpS_lift (aey ?_));have:=ah iJ J keep (idx x) (idx y) (λb s'=>s'={ s with heap:=J }/\b=lt (idx x) (idx y)) d9 Ao ⟨rfl,rfl⟩;unfold kas_ask at this;have e1:ag.getD (idx x) Value.none=x.1:=(acp Prod.fst ex).symm;have ar:ag.getD (idx y) Value.none=y.1:=(acp Prod.fst g8).symm;rw[e1,ar]at this;rw[zT];refine acg this (λb s' ⟨af,ae⟩=>⟨af,?_⟩) λ_ _ z=>z.elim
   subst ae;exact acP q
  have run:=Wz (st:=SortSt.mk' κ (ag.toArray.zip ag.toArray) #[] 7 none) (Q:=λ_ bl=>failedOf bl=none/\∃p:List Nat,p.Perm (List.range ag.length)/\p.Pairwise (λi j=>lt j i=false)/\(arrOf bl).toList=p.map (pr ag)) Or rfl rfl rfl
   (λx ai=>by
    have ai:x∈(ag.toArray.zip ag.toArray).toList:=ai;rw[hz]at ai;obtain⟨i,aj,rfl⟩:=List.mem_map.mp ai;exact⟨i,List.mem_range.mp aj,rfl⟩) (by show 2<=(ag.toArray.zip ag.toArray).size;rw[<- Array.length_toList,hz];simpa using iJ) (by show(ag.toArray.zip ag.toArray).size<64;rw[<- Array.length_toList,hz];simpa using P6) λbl aG aV c5=>by
     have aV:(arrOf bl).toList.Perm (ag.toArray.zip ag.toArray).toList:=aV;rw[hz]at aV;obtain⟨p,p1,p2⟩:=Vf (pr ag) aV _ rfl;refine⟨aG,p,p1,?_,p2⟩;rw[p2,ab4]at c5;refine abX (λ{i j} aj aI q=>?_) c5;have aj:=List.mem_range.mp (p1.mem_iff.mp aj);have aI:=List.mem_range.mp (p1.mem_iff.mp aI);obtain⟨d9,lG⟩:=vp (pr ag i) ⟨i,aj,rfl⟩;obtain⟨Ao,lH⟩:=vp (pr ag j) ⟨j,aI,rfl⟩;have q:lt (idx (pr ag j)) (idx (pr ag i))=false:=q;rw[(aN j (idx (pr ag j)) aI Ao (acp Prod.fst lH) i).1,(aN i (idx (pr ag i)) aj d9 (acp Prod.fst lG) _).2];exact q
  refine abr (acg run ?_ λ_ _ e=>e);rintro⟨⟨⟩,bl⟩ s' ⟨rfl,hf,p,p1,p2,p3⟩;have Rm:(arrOf bl).map (·.2)=(p.map λi=>ag.getD i Value.none).toArray:=by
   apply Array.toList_inj.mp;rw[Array.toList_map,p3,List.map_map];rfl
  rw[Rm];refine abr (seqEpoch_at qd rfl ?_);refine abr (listUpdate_at qd rfl ?_ (abZ _) (by rw[abB,List.length_map,p1.length_eq,List.length_range,sizeLine_eq];lia));rw[hf];simp only[adv,abx,abS];exact abu (fin p p1 p2)
end
end Tm
end
section
namespace fe
open PySem PySem.W PyProof.Rows PySem.Calls
section
def ltI{κ:Type}(lt:κ->κ->Bool)(z:κ)(au:List κ)(i j:Nat):Bool:=lt (au.getD i z) (au.getD j z)
def A5{κ:Type}{lt:κ->κ->Bool}(L:bf.g4 lt)(z)(au):Tm.Ord (ltI lt z au) where
 fL:=λx=>L.fL _
 fD:=λx y z J aa=>bf.Gr L J aa
 n2:=λx y h=>bf.Gs L h
def PU{κ:Type}(z:κ)(au):(List.range au.length).map (λi=>au.getD i z)=au:=by
 apply ac9;intro i;rw[abF]
 by_cases h:i<au.length
 .rw[acW h];simp[List.getD,h]
 .rw[abM (by simpa using h),abM (by simpa using h)];rfl
def XZ{κ:Type}{lt:κ->κ->Bool}(L:bf.g4 lt)(z)(au){p:List Nat}(J:p.Perm (List.range au.length))(aa:p.Pairwise (λi j=>ltI lt z au j i=false)):(p.map λi=>au.getD i z)=bf.c7 lt au:=by
 refine bf.Kf L ?_ (bf.Ke L au) ?_
 .unfold bf.pD;rw[ab4];exact aa
 .refine((J.map λi=>au.getD i z).trans ?_).trans (bf.tx au).symm;rw[PU]
def A2{κ:Type}{lt:κ->κ->Bool}{z:κ}{au:List κ}{ag:List Value}(h:∀i j,i<ag.length->j<ag.length->ag.getD i Value.none=ag.getD j Value.none->au.getD i z=au.getD j z):
  ∀i j,i<ag.length->j<ag.length->ag.getD i Value.none=ag.getD j Value.none->∀k,ltI lt z au i k=ltI lt z au j k/\ltI lt z au k i=ltI lt z au k j:=λi j aj aI e k=>by
 unfold ltI;rw[h i j aj aI e];exact⟨rfl,rfl⟩
theorem ints_get:∀{ag:List Value}{ns:List Int}(h:IntsAre ag ns)(i:Nat),i<ag.length->∃t,ag.getD i Value.none=.int (ns.getD i 0) t
 |_,_,.nil,i,h=>by simp at h
 |_,_,.cons n t _,0,_=>⟨t,rfl⟩
 |_,_,.cons n t r,i+1,h=>by
  obtain⟨u,e⟩:=ints_get r i (by simpa using h);exact⟨u,by simpa[List.getD] using e⟩
theorem Ak:∀{ag:List Value}{ns:List Int}(h:IntsAre ag ns),ns.length=ag.length
 |_,_,.nil=>rfl
 |_,_,.cons n t r=>by simp[Ak r]
def Sz(h:IntsAre ag ns):∀i j,i<ag.length->j<ag.length->ag.getD i Value.none=ag.getD j Value.none->ns.getD i 0=ns.getD j 0:=λi j aj aI e=>by
 obtain⟨t,e1⟩:=ints_get h i aj;obtain⟨u,ar⟩:=ints_get h j aI;rw[e1,ar]at e;injection e
def Lm(bW:IntsAre ag ns)(i j)(C)(aj:i<ag.length)(aI:j<ag.length)(h:C (ltI bf.ltI 0 ns i j) s):kas_ask prog w A oneType' ag i j C s:=by
 obtain⟨t,e1⟩:=ints_get bW i aj;obtain⟨u,ar⟩:=ints_get bW j aI;unfold kas_ask;rw[e1,ar];exact kat_lt_int h
def SI(bW:IntsAre ag ns)(aa:2<=ag.length)(h:Q oneType' s):wpAny (model prog w) A (keyKind' ag.toArray) Q E s:=by
 obtain⟨w2,w3,rest,rfl⟩:∃w2 w3 rest,ag=w2::w3::rest:=by
  match ag,aa with
  |w2::w3::rest,_=>exact⟨w2,w3,rest,rfl⟩
 rw[keyKind_ints bW];exact abu h
noncomputable def f9(h:Heap):List Value->List (List Int)->Prop
 |[],[]=>True
 |v::ag,k::au=>(∃a o xs n,v=.ref a/\h.get? a=some o/\o.cls=.type "tuple"/\o.data=.seq xs n/\IntsAre xs.toList k/\k≠[])/\f9 h ag au
 |_,_=>False
theorem f9.kept(k:∀b o,h.get? b=some o->h'.get? b=some o):∀{ag:List Value}{au:List (List Int)},f9 h ag au->f9 h' ag au
 |[],[],_=>trivial
 |v::ag,x::au,⟨⟨a,o,xs,n,e,az,r⟩,t⟩=>⟨⟨a,o,xs,n,e,k a o az,r⟩,t.kept k⟩
theorem f9.len:∀{ag:List Value}{au:List (List Int)},f9 h ag au->au.length=ag.length
 |[],[],_=>rfl
 |v::ag,x::au,⟨_,t⟩=>by simp[t.len]
theorem f9.get:∀{ag:List Value}{au:List (List Int)},f9 h ag au->∀i,i<ag.length->∃a o xs n,ag.getD i Value.none=.ref a/\h.get? a=some o/\o.cls=.type "tuple"/\o.data=.seq xs n/\IntsAre xs.toList (au.getD i [])/\au.getD i []≠[]
 |[],[],_,i,aj=>by simp at aj
 |v::ag,x::au,⟨q,t⟩,0,_=>q
 |v::ag,x::au,⟨q,t⟩,i+1,aj=>by
  have:=t.get i (by simpa using aj);simpa[List.getD] using this
def FX(h:IntsAre us xs):∀{ys:List Int},IntsAre us ys->xs=ys:=by
 induction h with
 |nil=>intro ys q;cases q;rfl
 |cons n t _ aE =>
  intro ys q;cases q with
  |cons _ _ q=>rw[aE q]
def SG(H:f9 h ag au):∀i j,i<ag.length->j<ag.length->ag.getD i Value.none=ag.getD j Value.none->au.getD i []=au.getD j []:=λi j aj aI e=>by
 obtain⟨a,o,xs,n,e1,aO,_,ba,b6,_⟩:=H.get i aj;obtain⟨pE,bt,Z1,cv,ar,qH,_,oZ,Bj,_⟩:=H.get j aI;rw[e1,ar]at e;injection e with e;subst e;rw[aO]at qH;cases qH;rw[ba]at oZ;cases oZ;exact FX b6 Bj
theorem f9.sX : ∀ {ag : List Value} {au : List (List Int)}, f9 h ag au -> ∃ bC : List Value, KatTups h ag bC /\ bC.length = ag.length /\ ∀ v ∈ bC, ∃ i t, v = Value.int i t
  | [], [], _ => ⟨[], KatTups.nil, rfl, by simp⟩
  | v :: ag, x :: au, ⟨⟨a, o, xs, n, e, az, ah, hd, bW, d1⟩, t⟩ => by
    subst e
    obtain ⟨bC, J, aa, aJ⟩ := t.sX
    obtain ⟨i, u, hf⟩ : ∃ i u, xs[0]? = some (Value.int i u) := by
      cases q : xs.toList with
      | nil => rw [q] at bW; cases bW; exact absurd rfl d1
      | cons y ys =>
        rw [q] at bW
        cases bW with
        | cons n t r => exact ⟨n, t, by have : xs.toList[0]? = some (Value.int n t) := by rw [q]; rfl
                                        simpa using this⟩
    refine ⟨Value.int i u :: bC, KatTups.cons az ah hd hf J, by simp [aa], fun z hz => ?_⟩
    rcases abA.mp hz with rfl | hz
    · exact ⟨i, u, rfl⟩
    · exact aJ z hz
noncomputable def oJ(fin:Bool):List Int->List Int->Bool
 |x::xs,y::ys=>if x=y then oJ fin xs ys else decide (x<y)
 |_,_=>fin
theorem Gm:∀(xs ys:List Int),oJ (decide (xs.length<ys.length)) xs ys=bf.lexLt xs ys
 |[],[]=>rfl
 |[],_::_=>rfl
 |_::_,[]=>rfl
 |x::xs,y::ys=>by
  have e:decide ((x::xs).length<(y::ys).length)=decide (xs.length<ys.length):=(by simp);rw[e];simp only[oJ,bf.lexLt,Gm xs ys]
theorem F7:∀{us ag:List Value}{xs ys:List Int}(i:Nat),IntsAre us xs->IntsAre ag ys->Q (oJ fin xs ys) s->KatLex prog w A true fin Q (us.zip ag) i s
 |_,_,_,_,i,.nil,_,h=>by simpa[oJ] using kat_nil (prog:=prog) (w:=w) (A:=A) (b:=true) (i:=i) h
 |_,_,_,_,i,.cons x t r,.nil,h=>by simpa[oJ] using kat_nil (prog:=prog) (w:=w) (A:=A) (b:=true) (i:=i) h
 |_,_,_,_,i,.cons x t r,.cons y u q,h=>by
  refine kat_cons (wpAny_eqBool_int ?_);simp only[oJ]at h
  by_cases e:x=y
  .subst e;rw[if_pos rfl]at h;rw[show(x==x)=true by simp];exact kat_yes (F7 (i+1) r q h)
  .rw[if_neg e]at h;rw[show(x==y)=false by simpa using e];refine kat_no ?_;cases ae:(true&&i==0) with
   |true=>exact oneLt_int h
   |false=>exact kat_one _ _ (lt_int (show W.BoolBack Q (Value.bool (decide (x<y))) s from h))
def Ln(cK:f9 s.heap ag au)(i j)(C)(aj:i<ag.length)(aI:j<ag.length)(h:C (ltI bf.lexLt [] au i j) s):kas_ask prog w A (tuples' true) ag i j C s:=by
 obtain⟨a,o,xs,n,e1,az,ah,hd,bW,_⟩:=cK.get i aj;obtain⟨b,bt,ys,cv,ar,dG,cY,fT,ku,_⟩:=cK.get j aI;unfold kas_ask;rw[e1,ar];refine kat_lt az hd dG fT (F7 0 bW ku ?_);have l1:(au.getD i []).length=xs.size:=by rw[Ak bW,Array.length_toList]
 have eQ:(au.getD j []).length=ys.size:=by rw[Ak ku,Array.length_toList]
 rw[<- l1,<- eQ,Gm];exact h
def SJ(cK:f9 s.heap ag au)(aa:2<=ag.length)(h:Q (tuples' true) s):wpAny (model prog w) A (keyKind' ag.toArray) Q E s:=by
 obtain⟨bC,k1,k2,k3⟩:=cK.sX;refine kat_kind (T:=Value.type "int") k1 ⋯ (λv aN=>?_) ∅ (by rw[show(Value.type "int" != Value.type "tuple")=true by decide];exact h);obtain⟨i,t,rfl⟩:=k3 v aN;exact Looks.of_pure rfl
end
end fe
end
section
namespace bf
noncomputable def fM:List (List Int)->List (List Int)->Bool
 |[],[]=>false
 |[],_::_=>true
 |_::_,[]=>false
 |x::xs,y::ys=>if x=y then fM xs ys else lexLt x y
theorem Gj:∀a,fM a a=false
 |[]=>rfl
 |x::a=>by simp[fM,Gj a]
theorem Gi:∀a b,a≠b->fM a b=true\/fM b a=true
 |[],[],h=>absurd rfl h
 |[],_::_,_=>.inl rfl
 |_::_,[],_=>.inr rfl
 |x::a,y::b,h=>by
  simp only[fM]
  by_cases e:x=y
  .subst e;simp only[acj];exact Gi a b λz=>h (by rw[z])
  .rw[if_neg e,if_neg (acy e)];exact Ay x y e
theorem Gk:∀{a b c},fM a b=true->fM b c=true->fM a c=true
 |[],[],_,h,_=>by simp[fM]at h
 |[],_::_,[],_,h=>by simp[fM]at h
 |[],_::_,_::_,_,_=>rfl
 |_::_,[],_,h,_=>by simp[fM]at h
 |_::_,_::_,[],_,h=>by simp[fM]at h
 |x::a,y::b,z::c,J,aa=>by
  simp only[fM]at *
  by_cases e:x=y
  .subst e;rw[if_pos rfl]at J
   by_cases ar:x=z
   .subst ar;rw[if_pos rfl]at aa ⊢;exact Gk J aa
   .rw[if_neg ar]at aa ⊢;exact aa
  .rw[if_neg e]at J
   by_cases ar:y=z
   .subst ar;rw[if_neg e];exact J
   .rw[if_neg ar]at aa;have t:=AA J aa
    by_cases bo:x=z
    .subst bo;rw[Az]at t;cases t
    .rw[if_neg bo];exact t
def Gq:g4 fM:=⟨Gj,Gk,Gi⟩
noncomputable def rI(c:List (List Int)):ζ.D:=.tup (c.map av)
theorem Gy:∀a b:List (List Int),ζ.kL (a.map av) (b.map av)=some (fM a b)
 |[],[]=>rfl
 |[],_::_=>rfl
 |_::_,[]=>rfl
 |x::a,y::b=>by
  rw[show ζ.kL ((x::a).map av) ((y::b).map av)=if ζ.gb (av x) (av y)=true then ζ.kL (a.map av) (b.map av) else ζ.kK (av x) (av y) from rfl,Gy a b,ta,pU];simp only[fM]
  by_cases h:x=y<;>simp[h]
def Tu(a b):ζ.kK (rI a) (rI b)=some (fM a b):=Gy a b
end bf
namespace fe
open PySem PySem.W PyProof.Rows PySem.Calls
noncomputable def iF(h:Heap):List Value->List (List (List Int))->Prop
 |[],[]=>True
 |v::ag,k::au=>(∃a o xs n,v=.ref a/\h.get? a=some o/\o.cls=.type "tuple"/\o.data=.seq xs n/\f9 h xs.toList k/\k≠[])/\iF h ag au
 |_,_=>False
theorem iF.kept(k:∀b o,h.get? b=some o->h'.get? b=some o):∀{ag:List Value}{au:List (List (List Int))},iF h ag au->iF h' ag au
 |[],[],_=>trivial
 |v::ag,x::au,⟨⟨a,o,xs,n,e,az,ah,hd,bW,d1⟩,t⟩=>⟨⟨a,o,xs,n,e,k _ _ az,ah,hd,bW.kept k,d1⟩,t.kept k⟩
 |[],_::_,h=>h.elim
 |_::_,[],h=>h.elim
theorem iF.get:∀{ag:List Value}{au:List (List (List Int))},iF h ag au->∀i,i<ag.length->∃a o xs n,ag.getD i Value.none=.ref a/\h.get? a=some o/\o.cls=.type "tuple"/\o.data=.seq xs n/\f9 h xs.toList (au.getD i [])/\au.getD i []≠[]
 |[],[],_,i,aj=>by simp at aj
 |v::ag,x::au,⟨t,r⟩,0,_=>by simpa[List.getD] using t
 |v::ag,x::au,⟨t,r⟩,i+1,aj=>by simpa[List.getD] using iF.get r i (by simpa using aj)
 |[],_::_,h,_,_=>h.elim
 |_::_,[],h,_,_=>h.elim
theorem JR:∀{ag:List Value}{xs ys:List (List Int)},f9 h ag xs->f9 h ag ys->xs=ys
 |[],[],[],_,_=>rfl
 |v::ag,x::xs,y::ys,⟨⟨a,o,us,n,e,az,ah,hd,bW,_⟩,t⟩,⟨⟨pE,bt,abl,cv,bk,dG,cY,fT,ku,_⟩,t'⟩=>by
  subst e;cases bk;rw[az]at dG;cases dG;rw[hd]at fT;cases fT;rw[FX bW ku,JR t t']
 |[],_::_,_,h,_=>h.elim
 |[],[],_::_,_,h=>h.elim
 |_::_,[],_,h,_=>h.elim
 |_::_,_::_,[],_,h=>h.elim
def SH(H:iF h ag au):∀i j,i<ag.length->j<ag.length->ag.getD i Value.none=ag.getD j Value.none->au.getD i []=au.getD j []:=λi j aj aI e=>by
 obtain⟨a,o,xs,n,aO,qG,_,ba,b6,_⟩:=H.get i aj;obtain⟨pE,bt,Z1,cv,qH,HK,_,oZ,Bj,_⟩:=H.get j aI;rw[aO,qH]at e;cases e;rw[qG]at HK;cases HK;rw[ba]at oZ;cases oZ;exact JR b6 Bj
theorem iF.sX : ∀ {ag : List Value} {au : List (List (List Int))}, iF h ag au -> ∃ bC : List Value, KatTups h ag bC /\ bC.length = ag.length /\ ∀ v ∈ bC, ∃ a o, v = Value.ref a /\ h.get? a = some o /\ o.cls = .type "tuple"
  | [], [], _ => ⟨[], KatTups.nil, rfl, by simp⟩
  | v :: ag, x :: au, ⟨⟨a, o, xs, n, e, az, ah, hd, bW, d1⟩, t⟩ => by
    subst e
    obtain ⟨bC, J, aa, aJ⟩ := t.sX
    obtain ⟨b, bt, hf, ae, Qp⟩ : ∃ b bt, xs[0]? = some (Value.ref b) /\ h.get? b = some bt /\ bt.cls = .type "tuple" := by
      cases q : xs.toList with
      | nil =>
        rw [q] at bW
        cases x with
        | nil => exact absurd rfl d1
        | cons _ _ => exact bW.elim
      | cons y ys =>
        rw [q] at bW
        cases x with
        | nil => exact bW.elim
        | cons k x =>
          obtain ⟨⟨b, bt, us, cv, e1, ar, bo, _⟩, _⟩ := bW
          exact ⟨b, bt, by have : xs.toList[0]? = some (Value.ref b) := by rw [q, e1]; rfl
                           simpa using this, ar, bo⟩
    refine ⟨Value.ref b :: bC, KatTups.cons az ah hd hf J, by simp [aa], fun z hz => ?_⟩
    rcases abA.mp hz with rfl | hz
    · exact ⟨b, bt, rfl, ae, Qp⟩
    · exact aJ z hz
  | [], _ :: _, h => h.elim
  | _ :: _, [], h => h.elim
section
noncomputable def oK(fin:Bool):List (List Int)->List (List Int)->Bool
 |x::xs,y::ys=>if x=y then oK fin xs ys else bf.lexLt x y
 |_,_=>fin
theorem Gl:∀(xs ys:List (List Int)),oK (decide (xs.length<ys.length)) xs ys=bf.fM xs ys
 |[],[]=>rfl
 |[],_::_=>rfl
 |_::_,[]=>rfl
 |x::xs,y::ys=>by
  have e:decide ((x::xs).length<(y::ys).length)=decide (xs.length<ys.length):=(by simp);rw[e];simp only[oK,bf.fM,Gl xs ys]
theorem Gn:∀a b:List Int,dn.lexLt a b=bf.lexLt a b
 |[],[]=>rfl
 |[],_::_=>rfl
 |_::_,[]=>rfl
 |x::a,y::b=>by simp only[dn.lexLt,bf.lexLt,Gn a b]
noncomputable def tF(k:List Int):PyData:=.tuple (k.map .int)
theorem Bm:∀{us:List Value}{k:List Int},IntsAre us k->ReadsAll h us (k.map .int) []
 |_,_,.nil=>.nil
 |_,_,.cons n t r=>.cons (as:=[]) (.int n t) (Bm r)
theorem D7:∀a b:List Int,PyData.eqvAll (a.map .int) (b.map .int)=decide (a=b)
 |[],[]=>rfl
 |[],_::_=>rfl
 |_::_,[]=>rfl
 |x::a,y::b=>by
  rw[List.map_cons,List.map_cons,PyData.eqvAll,D7 a b,PyData.eqv]
  by_cases h:x=y<;>simp[h]
theorem vJ:∀a:List Int,PyData.canLayAll0 (a.map .int)=true/\PyData.depthAll (a.map .int)=0
 |[]=>⟨rfl,rfl⟩
 |x::a=>by
  obtain⟨J,aa⟩:=vJ a;exact⟨by rw[List.map_cons,PyData.canLayAll0,J];rfl,by rw[List.map_cons];show max (PyData.depth (.int x)) (PyData.depthAll (a.map .int))=0;rw[aa];rfl⟩
theorem F8(br:A.units+2<cLine):∀{us ag:List Value}{xs ys:List (List Int)}(i:Nat),f9 s.heap us xs->f9 s.heap ag ys->Q (oK fin xs ys) s->KatLex prog w A false fin Q (us.zip ag) i s
 |[],_,[],_,i,_,_,h=>by simpa[oK] using kat_nil (prog:=prog) (w:=w) (A:=A) (b:=false) (i:=i) h
 |_::_,[],_::_,[],i,_,_,h=>by simpa[oK] using kat_nil (prog:=prog) (w:=w) (A:=A) (b:=false) (i:=i) h
 |u::us,v::ag,x::xs,y::ys,i,⟨⟨a,o,as,n,e,az,ah,hd,bW,_⟩,t⟩,⟨⟨b,bt,bs,cv,bk,dG,cY,fT,ku,_⟩,t'⟩,h=>by
  subst e bk;have aG:Reads s.heap (.ref a) (tF x) []:=.tuple az ah hd (Bm bW);have aV:Reads s.heap (.ref b) (tF y) []:=.tuple dG cY fT (Bm ku);have dep:∀k:List Int,(tF k).depth=1:=λk=>by show PyData.depthAll (k.map .int)+1=1;rw[(vJ k).2]
  have eq:=SeqAt.eqAt_reads _ _ A s _ _ _ _ aG aV (show PyData.canLayAll0 (x.map .int)=true from(vJ x).1) (show PyData.canLayAll0 (y.map .int)=true from(vJ y).1) (by rw[dep,dep];show A.units+1<cLine;lia);rw[show PyData.eqv (tF x) (tF y)=decide (x=y) from D7 x y]at eq;refine kat_cons (eq prog w _ _ ?_);simp only[oK]at h
  by_cases e:x=y
  .rw[if_pos e]at h;rw[decide_eq_true e];exact kat_yes (F8 br (i+1) t t' h)
  .rw[if_neg e]at h;rw[decide_eq_false e];refine kat_no (kat_one _ _ ?_);have p1:s.heap.IsTuple a as:=⟨o,az,ah,n,hd⟩;have p2:s.heap.IsTuple b bs:=⟨bt,dG,cY,cv,fT⟩;exact dn.GA p1 p2 bW ku ⋯ (by rw[Gn];exact h)
 |[],_,_::_,_,_,h,_,_=>h.elim
 |_::_,_,[],_,_,h,_,_=>h.elim
 |_::_,[],_::_,_::_,_,_,h,_=>h.elim
 |_::_,_::_,_::_,[],_,_,h,_=>h.elim
def Lo(br:A.units+2<cLine)(cK:iF s.heap ag au)(i j)(C)(aj:i<ag.length)(aI:j<ag.length)(h:C (ltI bf.fM [] au i j) s):kas_ask prog w A (tuples' false) ag i j C s:=by
 obtain⟨a,o,xs,n,e1,az,ah,hd,bW,_⟩:=cK.get i aj;obtain⟨b,bt,ys,cv,ar,dG,cY,fT,ku,_⟩:=cK.get j aI;unfold kas_ask;rw[e1,ar];refine kat_lt az hd dG fT (F8 br 0 bW ku ?_);have l1:(au.getD i []).length=xs.size:=by rw[bW.len,Array.length_toList]
 have eQ:(au.getD j []).length=ys.size:=by rw[ku.len,Array.length_toList]
 rw[<- l1,<- eQ,Gl];exact h
def SK(cK:iF s.heap ag au)(aa:2<=ag.length)(h:Q (tuples' false) s):wpAny (model prog w) A (keyKind' ag.toArray) Q E s:=by
 obtain⟨bC,k1,k2,k3⟩:=cK.sX;refine kat_kind (T:=Value.type "tuple") k1 ⋯ (λv aN=>?_) ∅ (by rw[show(Value.type "tuple" != Value.type "tuple")=false by decide];exact h);obtain⟨a,o,rfl,az,ah⟩:=k3 v aN;rw[<- ah];exact(Looks.ld az).andThen .now
end
end fe
end
section
namespace dW
open ζ bf
variable{pg:eM}{Φ:e3}
noncomputable def aaQ:D->Bool
 |.int _=>true
 |_=>false
section
variable{α:Type}{lt:α->α->Bool}
def wk{n d k:Nat}(h:k<=n):bQ n d (some (k:Int))=k:=by
 have J:¬((k:Int)<0):=by lia
 have aa:¬((n:Int)<(k:Int)):=by lia
 simp only[bQ,if_neg J,if_neg aa];lia
def Iu{n d k:Nat}(h:n<k):bQ n d (some (k:Int))=n:=by
 have J:¬((k:Int)<0):=by lia
 have aa:((n:Int)<(k:Int)):=by lia
 simp only[bQ,if_neg J,if_pos aa]
def DL{β:Type}(xs:List β)(k:Nat):cut xs (some (k:Int)) none=xs.drop k:=by
 unfold cut
 by_cases h:k<=xs.length
 .rw[wk h];show List.take (xs.length-k) (xs.drop k)=_;rw[adi (by simp)]
 .rw[Iu ⋯,List.drop_of_length_le (abz _),List.drop_of_length_le ⋯];simp
def ME{β:Type}(xs:List β)(k:Nat):cut xs none (some (k:Int))=xs.take k:=by
 unfold cut
 by_cases h:k<=xs.length
 .rw[wk h];simp[bQ]
 .rw[Iu ⋯];simp only[bQ,List.drop_zero,Nat.sub_zero];rw[adi (abz _),adi ⋯]
end
def IsCell(m:Int)(c:List Int):Prop:=c≠[]/\(∀x∈c,0<=x/\x<m)/\b9 ltI c
noncomputable instance (m:Int) (c:List Int):Decidable (IsCell m c):=by unfold IsCell b9;infer_instance
def PT{α:Type}(x:α)(xs):iI (x::xs) (-1)=(x::xs).getLast?:=by
 have e:hG (x::xs).length (-1)=some xs.length:=by
  unfold hG;have J:¬((0:Int)<=-1):=∅;have aa:(0:Int)<=-1+((x::xs).length:Nat):=(by simp only[List.length_cons];lia);rw[if_neg J,if_pos aa];simp only[List.length_cons];congr 1;lia
 unfold iI;rw[e];simp[List.getLast?_eq_getElem?]
def vd{α:Type}(xs:List α)(k:Nat):iI xs (k:Int)=xs[k]?:=by
 unfold iI hG;rw[if_pos ⋯]
 by_cases h:k<xs.length
 .rw[if_pos ⋯];simp
 .rw[if_neg ⋯];simp;lia
def PS{α:Type}(x:α)(xs):iI (x::xs) 0=some x:=by have:=vd (x::xs) 0;simpa using this
def getLast?_map{α β:Type}(f:α->β)(xs:List α):(xs.map f).getLast?=xs.getLast?.map f:=by simp
noncomputable def lies(c o:List Int):Bool:=c.all λx=>decide (x∈o)
def nj:lies c o=true<->∀x∈c,x∈o:=by simp[lies]
def Mu{c:List Int}(h:∀x∈c,g (.int x)=.ok (some (p x))):dj g (c.map .int)=.ok (c.map p):=by
 rw[DG (g:=λd=>match d with|.int x=>some (p x)|_=>none)]
 .congr 1
  induction c with
  |nil=>rfl
  |cons x c aE=>simp[aE λy aQ=>h y (List.mem_cons_of_mem _ aQ)]
 .intro d hd;obtain⟨x,ai,rfl⟩:=List.mem_map.mp hd;exact h x ai
def PC{α β:Type}(f:α->β)(xs:List α):xs.filterMap (λx=>some (f x))=xs.map f:=by
 induction xs with
 |nil=>rfl
 |cons x xs aE=>simp
def PB{α β:Type}(q:α->Bool)(f:α->β)(xs:List α):xs.filterMap (λx=>if q x then some (f x) else none)=(xs.filter q).map f:=by
 induction xs with
 |nil=>rfl
 |cons x xs aE=>cases h:q x<;>simp[h,aE]
noncomputable def aK(m:Int):List Int:=(List.range m.toNat).map λ(k:Nat)=>(k:Int)
def mb(m):eB 0 m=(aK m).map .int:=by
 unfold eB aK;rw[List.map_map];have:(m-0).toNat=m.toNat:=by lia
 rw[this];apply abO;intro k _;simp
def hI:x∈aK m<->0<=x/\x<m:=by
 unfold aK;rw[List.mem_map];constructor
 .rintro⟨k,ay,rfl⟩;have:=List.mem_range.mp ay;lia
 .rintro⟨J,aa⟩;exact⟨x.toNat,List.mem_range.mpr ⋯,⋯⟩
noncomputable def gM(m:Int)(ts:List (List Int)):Bool:=(aK m).all λk=>ts.any (lies [k])
def pP:gM m ts=true<->∀x,0<=x->x<m->∃t∈ts,x∈t:=by
 unfold gM;simp only[ab1,aew,nj,hI,abK,forall_eq];exact⟨λh x a b=>h x ⟨a,b⟩,λh x ab=>h x ab.1 ab.2⟩
def Ia(h:-1000<=m)(h':m<=1000):o3 m=true:=by unfold o3;simp;lia
def jl(J:-1000<=i)(aa:i<=1000)(aJ:-1000<=j)(aW:j<=1000):iU i j=.ok (eB i j):=by
 have cb:(j-i).toNat<=1000000:=by lia
 unfold iU;rw[Ia J aa,Ia aJ aW,decide_eq_true cb];rfl
def va{α:Type}{p:α->Bool}{c:α}(pre)(h:p c=true):(pre++[c]).filter p=pre.filter p++[c]:=by rw[List.filter_append];simp[h]
def r7{α:Type}{p:α->Bool}{c:α}(pre)(h:p c=false):(pre++[c]).filter p=pre.filter p:=by rw[List.filter_append];simp[h]
noncomputable def b4(cs:List (List Int)):List (List Int):=(c7 lexLt (c8 cs)).filter λc=>!((c7 lexLt (c8 cs)).filter λo=>decide (c.length<o.length)).any (lies c)
def gq:SZ=16777216:=rfl
noncomputable def bG(m:Int)(ts:List (List Int)):D:=.tup [.int m,.tup (ts.map av)]
def Ew(d:D):Prop:=∀m ts,d=bG m ts->(∀c∈ts,IsCell m c)->(c8 ts).length<=63
end dW
end
section
namespace cH
open ζ bf dW
variable{pg:eM}{Φ:e3}
mutual
theorem XD:∀(n:Nat)(d:D),dh n d=true->dh (n+1) d=true
 |n,.dK,_=>rfl
 |n,.aU _,_=>rfl
 |n,.int _,_=>rfl
 |0,.str _,h=>h
 |n+1,.str _,h=>h
 |0,.tup _,h=>by cases h
 |n+1,.tup xs,h=>BH n xs h
 |0,.lst _,h=>by cases h
 |n+1,.lst xs,h=>BH n xs h
 |0,.cf _,h=>by cases h
 |0,.bN _,h=>by cases h
 |n+1,.cf _,h=>by cases h
 |n+1,.bN _,h=>by cases h
 |0,.hD _,h=>by cases h
 |n+1,.hD _,h=>by cases h
theorem BH:∀(n:Nat)(xs:List D),xs.all (dh n)=true->xs.all (dh (n+1))=true
 |_,[],_=>rfl
 |n,x::xs,h=>by
  simp only[List.all_cons,abt]at h ⊢;exact⟨XD n x h.1,BH n xs h.2⟩
end
def R2{c:List Int}{k:Nat}(h:c[k]?=some x):fU (.tup (c.map .int)) (.int (k:Int))=.ok (.int x):=by
 rw[FR,vd,abF,h];rfl
end cH
end
section
namespace cH
open ζ bf dW
def DF{α:Type}{p:α->Option D}{f:α->D}{au:List α}(h:∀k∈au,g (f k)=.ok (p k)):dj g (au.map f)=.ok (au.filterMap p):=by
 induction au with
 |nil=>rfl
 |cons c cs aE =>
  simp only[List.map_cons,dj,h c List.mem_cons_self,R.jk,aE λy aQ=>h y (List.mem_cons_of_mem _ aQ),List.filterMap_cons];cases p c<;>rfl
def lA{α:Type}{q:α->Bool}{h:α->D}{f:α->D}{au:List α}(e:∀k∈au,g (f k)=.ok (if q k then some (h k) else none)):dj g (au.map f)=.ok ((au.filter q).map h):=by
 rw[DF e,PB]
def hT{α:Type}{h:α->D}{f:α->D}{au:List α}(e:∀k∈au,g (f k)=.ok (some (h k))):dj g (au.map f)=.ok (au.map h):=by
 rw[DF (p:=λk=>some (h k)) e,PC]
def kV(c):er (av c)=.ok (c.map .int):=rfl
def EB{α:Type}(q)(xs:List α):(xs.filter q).isEmpty=xs.all λx=>!q x:=by
 induction xs with
 |nil=>rfl
 |cons x xs aE=>cases h:q x<;>simp[h,aE]
def AN{α β:Type}(f:α->β)(xs:List α):(xs.map f).isEmpty=xs.isEmpty:=by cases xs<;>rfl
def S1(c o):c6 pg Φ ⟨2,0,a5.xZ⟩ [av c,av o]=.ok (.aU (lies c o)):=by
 have e1:dj (elem pg Φ [some (av c),some (av o)] (.var 2) 0 (.some (.cmp .gj (.var 2) (.var 1)))) (c.map .int)=.ok ((c.filter λx=>!decide (x∈o)).map .int):=lA λx _=>by
  simp!;unfold av;simp![AJ];cases decide (x∈o)<;>simp!
 simp![a5.xZ,kV,e1,yU (ys:=(c.filter λx=>!decide (x∈o)).map .int) (by simp[List.all_map,tU]),AN,EB,lies,Bool.not_not]
noncomputable def nq(cs:List (List Int)):List (List Int):=(c7 lexLt (c8 cs)).filter λc=>cs.all λo=>!(!decide (c=o)&&lies c o)
def S4(hf:∀c o:List Int,Φ f [av c,av o]=.ok (.aU (lies c o))){cs:List (List Int)}(hd:er d=.ok (cs.map av))(aC:∀c∈cs,c≠[])(gw:(c8 cs).length<=63):
  c6 pg Φ ⟨1,2,a5.x5 f⟩ [d]=.ok (.tup ((nq cs).map av)):=by
 simp![a5.x5,hd,wI aC gw];have hlen:(c7 lexLt (c8 cs)).length<=63:=by rw[ni];exact gw
 unfold nq;generalize c7 lexLt (c8 cs)=ds at *;obtain⟨bP,e,x,he⟩:=gc (f:=av) (g:=turn pg Φ 0 [2] (.cons (.iff (.cmp .eq (.comp (.var 3) 0 (.seq (.var 0)) (.some (.and (.cmp .ne (.var 2) (.var 3)) (.call f (.cons (.var 2) (.cons (.var 3) (.nil))))))) (.lst (.nil))) (.cons (.app 1 (.var 2)) (.nil)) (.nil)) (.nil)))
  (λa3 ρ=>∃(x:Option D),ρ=[some d,some (.lst ((a3.filter λc=>cs.all λo=>!(!decide (c=o)&&lies c o)).map av)),x])
  ds [some d,some (.lst []),none] ⟨none,rfl⟩ (λpre c post ρ aB ⟨x,bW⟩=>by
   subst bW;have e1:∀z,dj (elem pg Φ [some d,z,some (av c)] (.var 3) 0 (.some (.and (.cmp .ne (.var 2) (.var 3)) (.call f (.cons (.var 2) (.cons (.var 3) (.nil))))))) (cs.map av)=.ok ((cs.filter λo=>!decide (c=o)&&lies c o).map av):=λz=>lA λo _=>by
    simp![N7,hf];cases decide (c=o)<;>simp![hf,aeI,Bool.true_and];cases lies c o<;>simp!
   have aA:((pre.filter λc=>cs.all λo=>!(!decide (c=o)&&lies c o)).map av).length<SZ:=by
    have J:=acw (λc=>cs.all λo=>!(!decide (c=o)&&lies c o)) pre;have aa:pre.length<=ds.length:=(by rw[aB];simp);rw[List.length_map,gq];lia
   simp![hd,e1,yU (wt 58 _),AN,EB];cases q:(cs.all λo=>!(!decide (c=o)&&lies c o))
   .refine⟨_,by simp!;rfl,some (av c),?_⟩;rw[r7 pre (by rw[q])]
   .refine⟨_,by simp![ux,if_pos aA];rfl,some (av c),?_⟩;rw[va pre (by rw[q]),List.map_append];rfl)
 rw[e,he];simp!
def C2(ah:b9 ltI c)(az:b9 ltI o)(h:∀x∈c,x∈o)(ne:c≠o):c.length<o.length:=by
 have J:c.length<=o.length:=iS (ah.nodup hc) h;rcases afa c.length o.length with q|q
 .exact q
 .exfalso;apply ne;refine jE hc ah az λz=>⟨h z,λhz=>?_⟩
  by_cases FN:z∈c
  .exact FN
  .exfalso;have:(z::c).length<=o.length:=iS (ab9.mpr ⟨FN,ah.nodup hc⟩) λw hw=>by
    rcases abA.mp hw with rfl|hw
    .exact hz
    .exact h w hw
   simp at this;lia
def GB{cs:List (List Int)}(h:∀c∈cs,b9 ltI c):nq cs=b4 cs:=by
 unfold nq b4;apply List.filter_congr;intro c ah;have hm:∀z,z∈c7 lexLt (c8 cs)<->z∈cs:=λz=>by rw[jV,jU]
 have ah:=(hm c).mp ah;rw[Bool.eq_iff_iff];simp only[ab1,acf,Bool.and_eq_false_iff,Bool.not_eq_false',abN,List.any_eq_false,List.mem_filter,hm];constructor
 .intro q o ⟨az,aA⟩;rcases q o az with rfl|q
  .omega
  .rw[q];exact acB
 .intro q o az
  by_cases e:c=o
  .exact .inl e
  .refine .inr ?_;cases z:lies c o with
   |false=>rfl
   |true=>exact absurd z (q o ⟨az,C2 (h c ah) (h o az) (nj.mp z) e⟩)
def pL(h:IsCell m c):c.length<=m.toNat:=by
 have:c.length<=(aK m).length:=iS (h.2.2.nodup hc) λz hz=>hI.mpr (h.2.1 z hz)
 simpa[aK] using this
theorem Ez{k:Nat}:∀{ts:List (List Int)},(∀c∈ts,c.length<=k)->ts.flatten.length<=ts.length*k
 |[],_=>by simp
 |t::ts,h=>by
  have:=Ez (ts:=ts) λc ah=>h c (List.mem_cons_of_mem _ ah)
  have J:=h t List.mem_cons_self;simp only[List.flatten_cons,abw,List.length_cons,Nat.succ_mul];lia
def sU(h:m<=6):(aK m).length<=6:=by unfold aK;simp;lia
noncomputable def cG:Nat->List Int->List (List Int)
 |0,_=>[[]]
 |_+1,[]=>[]
 |s+1,x::r=>(cG s r).map (x::·)++cG (s+1) r
theorem kP:∀(s:Nat)(c z:List Int),z∈cG s c<->z.length=s/\z.Sublist c
 |0,c,z=>by
  simp only[cG,abK,ad6];exact⟨λh=>⟨h,by subst h;exact adU _⟩,λh=>h.1⟩
 |s+1,[],z=>by
  simp only[cG,ae4,adV,false_iff];rintro⟨J,aa⟩;subst aa;simp at J
 |s+1,x::r,z=>by
  simp only[cG,abU,List.mem_map,kP s r,kP (s+1) r,List.sublist_cons_iff];constructor
  .rintro(⟨y,⟨J,aa⟩,rfl⟩|⟨J,aa⟩)
   .exact⟨by simp[J],.inr ⟨y,rfl,aa⟩⟩
   .exact⟨J,.inl aa⟩
  .rintro⟨J,aa|⟨y,rfl,aa⟩⟩
   .exact .inr ⟨J,aa⟩
   .exact .inl ⟨y,⟨by simpa using J,aa⟩,rfl⟩
theorem s8:∀(s:Nat)(c:List Int),(cG s c).length<=2 ^ c.length
 |0,c=>by simp only[cG,List.length_singleton];exact Nat.one_le_two_pow
 |s+1,[]=>by simp[cG]
 |s+1,x::r=>by
  have J:=s8 s r;have aa:=s8 (s+1) r;simp only[cG,abw,List.length_map,List.length_cons,Nat.pow_succ];lia
noncomputable def cA:Nat->Nat->Nat
 |0,_=>1
 |_+1,0=>0
 |s+1,n+1=>cA s n+cA (s+1) n
theorem tD:∀(s:Nat)(c:List Int),(cG s c).length=cA s c.length
 |0,c=>by simp[cG,cA]
 |s+1,[]=>by simp[cG,cA]
 |s+1,x::r=>by simp only[cG,abw,List.length_map,List.length_cons,cA,tD s r,tD (s+1) r]
theorem Bd:∀{s n:Nat},n<s->cA s n=0
 |0,_,h=>by lia
 |s+1,0,_=>rfl
 |s+1,n+1,h=>by simp only[cA,Bd (s:=s) (n:=n) ⋯,Bd (s:=s+1) (n:=n) ⋯]
def Be{s n:Nat}(h:n<=6):cA s n<=20:=by
 rcases afa n s with q|q
 .rw[Bd q];lia
 .have:∀n:Fin 7,∀s:Fin 7,cA s.val n.val<=20:=∅;exact this ⟨n,⋯⟩ ⟨s,⋯⟩
theorem HJ:∀(s:Nat)(c:List Int),cG (s+1) c=(List.range c.length).flatMap λk=>(cG s (c.drop (k+1))).map (c.getD k 0::·)
 |s,[]=>rfl
 |s,x::r=>by
  rw[List.length_cons,aee,List.flatMap_cons,List.flatMap_map];show _=(cG s r).map (x::·)++(List.range r.length).flatMap λk=>(cG s (r.drop (k+1))).map (r.getD k 0::·)
  rw[<- HJ s r];rfl
def R3{c:List Int}{k:Nat}(h:k<c.length):fU (.tup (c.map .int)) (.int (k:Int))=.ok (.int (c.getD k 0)):=R2 (by rw[aby h];simp[List.getD,aby h])
def wb(n:Nat):eB 0 (n:Int)=(List.range n).map λ(k:Nat)=>D.int (k:Int):=by
 unfold eB;have:((n:Int)-0).toNat=n:=by lia
 rw[this];apply abO;intro k _;congr 1;lia
theorem vb{α β:Type}{f:α->List β}{k:Nat}:∀{xs:List α},(∀x∈xs,(f x).length<=k)->(xs.flatMap f).length<=xs.length*k
 |[],_=>by simp
 |x::xs,h=>by
  have:=vb (f:=f) (xs:=xs) λc ah=>h c (List.mem_cons_of_mem _ ah)
  have J:=h x List.mem_cons_self;simp only[List.flatMap_cons,abw,List.length_cons,Nat.succ_mul];lia
def UN(c):c6 pg Φ ⟨2,2,a5.pI f⟩ [av c,.int 0]=.ok (.lst ((cG 0 c).map av)):=by
 have e:fw (.int 0) (.int 0)=.ok true:=rfl;simp![a5.pI,e,cG];rfl
def UO{s:Nat}(ah:c.length<=8)(hf:∀de:List Int,de.length<=8->Φ f [av de,.int (s:Int)]=.ok (.lst ((cG s de).map av))):c6 pg Φ ⟨2,2,a5.pI f⟩ [av c,.int ((s:Int)+1)]=.ok (.lst ((cG (s+1) c).map av)):=by
 have h0:((s:Int)+1==0)=false:=by rw[acb];lia
 have J:lW (av c)=.ok (.int (c.length:Int)):=by unfold av;rw[Av,List.length_map]
 simp![a5.pI,h0,J,jl (i:=0) (j:=(c.length:Int)) ⋯ ⋯ ⋯ ⋯,wb];have n5:∀au:List Nat,au.length<=8->(au.flatMap λk=>(cG s (c.drop (k+1))).map (c.getD k 0::·)).length<=2048:=λau ay=>by
  have:=vb (f:=λk=>(cG s (c.drop (k+1))).map (c.getD k 0::·)) (k:=256) (xs:=au) λk _=>by
   have aa:=s8 s (c.drop (k+1));have aJ:(c.drop (k+1)).length<=8:=(by rw[adk];lia);have aW:2 ^ (c.drop (k+1)).length<=2 ^ 8:=abQ ∅ aJ;rw[List.length_map];lia
  lia
 obtain⟨bP,e,x,he⟩:=gc (f:=λk:Nat=>D.int (k:Int)) (g:=turn pg Φ 0 [3] (.cons (.asg 2 (.bin .add (.var 2) (.comp (.bin .add (.tup (.cons (.idx (.var 0) (.var 3)) (.nil))) (.var 4)) 0 (.seq (.call f (.cons (.slice (.var 0) (.some (.bin .add (.var 3) (.lit (.int 1)))) (.none)) (.cons (.bin .sub (.var 1) (.lit (.int 1))) (.nil))))) (.none)))) (.nil)))
  (λa3 ρ=>∃(x:Option D),ρ=[some (av c),some (.int ((s:Int)+1)),some (.lst ((a3.flatMap λk=>(cG s (c.drop (k+1))).map (c.getD k 0::·)).map av)),x])
  (List.range c.length) [some (av c),some (.int ((s:Int)+1)),some (.lst []),none] ⟨none,rfl⟩ (λpre k post ρ aB ⟨x,bW⟩=>by
   subst bW;have ay:k<c.length:=by
    have:k∈List.range c.length:=(by rw[aB];simp);exact List.mem_range.mp this
   have d6:pre.length+1<=c.length:=by
    have:(List.range c.length).length=(pre++k::post).length:=(by rw[aB]);simp at this;lia
   have af:kW (av c) (some ((k:Int)+1)) none=.ok (av (c.drop (k+1))):=by
    unfold av;rw[wA];have:((k:Int)+1)=((k+1:Nat):Int):=⋯;rw[this,DL,List.map_drop]
   have gz:(s:Int)+1-1=(s:Int):=⋯;have hd:(c.drop (k+1)).length<=8:=(by rw[adk];lia);have e1:∀a b,dj (elem pg Φ [some (av c),a,b,some (D.int (k:Int))] (.bin .add (.tup (.cons (.idx (.var 0) (.var 3)) (.nil))) (.var 4)) 0 .none) ((cG s (c.drop (k+1))).map av)=.ok ((cG s (c.drop (k+1))).map λz=>av (c.getD k 0::z)):=λa b=>hT λz hz=>by
    have hz:=(kP _ _ _).mp hz;have aaO:=hz.2.length_le;have d9:=R3 ay;have aA:[D.int (c.getD k 0)].length+(z.map D.int).length<=SZ:=(by rw[List.length_map,gq];simp only[List.length_singleton];lia);simp!;unfold av;simp![d9,uv];rw[if_pos (by simpa using aA)];rfl
   have hlen:((pre.flatMap λk=>(cG s (c.drop (k+1))).map (c.getD k 0::·)).map av).length+((cG s (c.drop (k+1))).map λz=>av (c.getD k 0::z)).length<=SZ:=by
    have J:=n5 pre ⋯;have aa:=s8 s (c.drop (k+1));have aW:2 ^ (c.drop (k+1)).length<=2 ^ 8:=abQ ∅ hd;rw[List.length_map,List.length_map,gq];lia
   refine⟨_,by simp![af,gz,hf _ hd,e1,mF,if_pos hlen];rfl,some (.int (k:Int)),?_⟩;simp[acX])
 rw[e,he,<- HJ];simp!
theorem Hp{fds:List la}(hf:fds[f]?=some ⟨2,2,a5.pI f⟩):∀(s n:Nat)(c:List Int),s<n->c.length<=8->run pg fds n f [av c,.int (s:Int)]=.ok (.lst ((cG s c).map av))
 |0,0,c,h,_=>by lia
 |s+1,0,c,h,_=>by lia
 |0,n+1,c,_,_=>by rw[tL,hf];exact UN c
 |s+1,n+1,c,h,ah=>by
  rw[tL,hf];have:((s+1:Nat):Int)=(s:Int)+1:=⋯;rw[this];exact UO ah λde cY=>Hp hf s n de ⋯ cY
theorem jF:∀{o c:List Int},b9 ltI c->b9 ltI o->(∀x∈c,x∈o)->c.Sublist o
 |[],[],_,_,_=>adU _
 |[],x::c,_,_,h=>by have:=h x List.mem_cons_self;simp at this
 |y::o,[],_,_,_=>adU _
 |y::o,x::c,ah,az,h=>by
  obtain⟨cy,bU⟩:=abT.mp ah;obtain⟨iT,gE⟩:=abT.mp az
  by_cases e:x=y
  .subst e;refine List.Sublist.cons_cons x (jF bU gE λz hz=>?_);rcases abA.mp (h z (List.mem_cons_of_mem _ hz)) with q|q
   .have:=cy z hz;subst q;simp[ltI]at this
   .exact q
  .have ai:x∈o:=by
    rcases abA.mp (h x List.mem_cons_self) with q|q
    .exact absurd q e
    .exact q
   have sM:=iT x ai;refine List.Sublist.cons y (jF ah gE λz hz=>?_);rcases abA.mp (h z hz) with q|q
   .exfalso;subst q;rcases abA.mp hz with w|w
    .exact e w.symm
    .have:=cy z w;simp[ltI]at this sM;lia
   .exact q
noncomputable def mM(ts:List (List Int))(h:Nat):List (List Int):=c7 lexLt (c8 (ts.flatMap (cG (h+1))))
def TH:z∈mM ts h<->z.length=h+1/\∃t∈ts,z.Sublist t:=by
 unfold mM;rw[jV,jU,adB];simp only[kP];exact⟨λ⟨t,a,b,c⟩=>⟨b,t,a,c⟩,λ⟨b,t,a,c⟩=>⟨t,a,b,c⟩⟩
def Ll(ts)(h):b9 lexLt (mM ts h):=lr kG (nB _)
def C0(m):b9 ltI (aK m):=by
 unfold aK b9;rw[ab4];exact acS (λ{a b}(q:a<b)=>by simp[ltI];lia) acU
def L4(h:IsCell m c):c.Sublist (aK m):=jF h.2.2 (C0 m) λx ai=>hI.mpr (h.2.1 x ai)
def SY{f h:Nat}(hf:∀c:List Int,c.length<=8->Φ f [av c,.int ((h:Int)+1)]=.ok (.lst ((cG (h+1) c).map av)))(aH:∀t∈ts,t.length<=8)(aA:ts.length<=63)(gw:(mM ts h).length<=63):
  c6 pg Φ ⟨2,2,a5.xU f⟩ [bG m ts,.int (h:Int)]=.ok (.lst ((mM ts h).map av)):=by
 have aj:fU (bG m ts) (.int 1)=.ok (.tup (ts.map av)):=rfl;simp![a5.xU,aj];have n5:∀au:List (List Int),au.length<=63->(∀t∈au,t.length<=8)->(au.flatMap (cG (h+1))).length<=65280:=λau ay c3=>by
  have:=vb (f:=cG (h+1)) (k:=256) (xs:=au) λt oA=>by
   have aa:=s8 (h+1) t;have aW:2 ^ t.length<=2 ^ 8:=abQ ∅ (c3 t oA);lia
  lia
 obtain⟨bP,e,x,he⟩:=gc (f:=av) (g:=turn pg Φ 0 [3] (.cons (.asg 2 (.bin .add (.var 2) (.call f (.cons (.var 3) (.cons (.bin .add (.var 1) (.lit (.int 1))) (.nil)))))) (.nil)))
  (λa3 ρ=>∃(x:Option D),ρ=[some (bG m ts),some (.int (h:Int)),some (.lst ((a3.flatMap (cG (h+1))).map av)),x])
  ts [some (bG m ts),some (.int (h:Int)),some (.lst []),none] ⟨none,rfl⟩ (λpre t post ρ aB ⟨x,bW⟩=>by
   subst bW;have sG:t∈ts:=(by rw[aB];simp);have d6:pre.length+1<=ts.length:=(by rw[aB];simp);have J:=n5 pre ⋯ λt oA=>aH t (by rw[aB];simp[oA])
   have aa:=n5 [t] (by simp) λz hz=>by simp at hz;subst hz;exact aH z sG
   have hlen:((pre.flatMap (cG (h+1))).map av).length+((cG (h+1) t).map av).length<=SZ:=by
    simp at aa;rw[List.length_map,List.length_map,gq];lia
   refine⟨_,by simp![hf t (aH t sG),mF,if_pos hlen];rfl,some (av t),?_⟩;simp[acX])
 rw[e,he];have aC:∀c∈ts.flatMap (cG (h+1)),c≠[]:=λc ah=>by
  obtain⟨t,_,ah⟩:=adB.mp ah;intro z;subst z;have:=((kP _ _ _).mp ah).1;simp at this
 have:(c8 (ts.flatMap (cG (h+1)))).length<=63:=by unfold mM at gw;rw[ni]at gw;exact gw
 simp![wI aC this,mM]
noncomputable def JT:D->Int
 |.int i=>i
 |_=>0
def l4(i j)(h:(-gY<i/\i<gY)\/(-gY<j/\j<gY)):eE .mul (.int i) (.int j)=.ok (.int (i*j)):=by rw[mul_int,if_pos h]
def jg(i j)(h:0<j):eE .mod (.int i) (.int j)=.ok (.int (i%j)):=by rw[mod_int,if_pos h]
def u9(i j)(h:0<j)(h':j<1073741824):eE .fdiv (.int i) (.int j)=.ok (.int (i / j)):=by rw[Et,if_pos ⟨h,h'⟩]
def kb:gY=18446744073709551616:=rfl
noncomputable def nU:Int:=2147483629
def CG:nU=2147483629:=rfl
def lI(a){b:Int}(h:0<b):0<=a%b/\a%b<b:=⟨Int.emod_nonneg a ⋯,Int.emod_lt_of_pos a h⟩
def NH(i k):∃r:Int,0<=r/\r<nU/\c6 pg Φ ⟨2,1,a5.xV⟩ [.int i,.int k]=.ok (.int r):=by
 have b1:=lI ((i+104729*k+17)*69621) (b:=2147483647) ∅;refine⟨((i+104729*k+17)*69621%2147483647*((i+104729*k+17)*69621%2147483647)+3*((i+104729*k+17)*69621%2147483647)+k)%2147483629,?_,?_,by
  simp![a5.xV,l4 104729 k (.inl (by rw[kb];lia)),l4 _ 69621 (.inr (by rw[kb];lia)),jg _ 2147483647 ∅,jg _ 2147483629 ∅,
   l4 ((i+104729*k+17)*69621%2147483647) ((i+104729*k+17)*69621%2147483647) (.inl (by rw[kb];lia)),l4 3 ((i+104729*k+17)*69621%2147483647) (.inl (by rw[kb];lia))]⟩
 .exact(lI _ ∅).1
 .rw[CG];exact(lI _ ∅).2
def L3(is:List Int)(k:Nat):c6 pg Φ ⟨2,0,a5.xT⟩ [.lst (is.map .int),.int (k:Int)]=.ok (.int (is.getD k 0)):=by
 simp![a5.xT,List.length_map]
 by_cases h:k<is.length
 .have h':(k:Int)<(is.length:Int):=⋯;have e:fU (.lst (is.map D.int)) (.int (k:Int))=.ok (.int (is.getD k 0)):=by
   rw[sQ,vd,abF,aby h];simp[List.getD,aby h]
  simp![decide_eq_true h',e]
 .have h':¬(k:Int)<(is.length:Int):=⋯;have e:is.getD k 0=0:=(by simp[List.getD,abM (adQ h)]);simp![decide_eq_false h',e]
def TM{is:List Int}(hf:∀k:Nat,Φ f [.lst (is.map .int),.int (k:Int)]=.ok (.int (is.getD k 0)))(k:Nat):∃r:Int,0<=r/\r<nU/\c6 pg Φ ⟨2,1,a5.x1 f⟩ [.lst (is.map .int),.int (k:Int)]=.ok (.int r):=by
 have b1:=lI ((is.getD k 0+7919*(k:Int)+1)*48271) (b:=2147483647) ∅;refine⟨((is.getD k 0+7919*(k:Int)+1)*48271%2147483647*((is.getD k 0+7919*(k:Int)+1)*48271%2147483647)+7*((is.getD k 0+7919*(k:Int)+1)*48271%2147483647)+(k:Int))%2147483629,?_,?_,by
  simp![a5.x1,hf,l4 7919 (k:Int) (.inl (by rw[kb];lia)),l4 _ 48271 (.inr (by rw[kb];lia)),jg _ 2147483647 ∅,jg _ 2147483629 ∅,
   l4 ((is.getD k 0+7919*(k:Int)+1)*48271%2147483647) ((is.getD k 0+7919*(k:Int)+1)*48271%2147483647) (.inl (by rw[kb];lia)),l4 7 ((is.getD k 0+7919*(k:Int)+1)*48271%2147483647) (.inl (by rw[kb];lia))]⟩
 .exact(lI _ ∅).1
 .rw[CG];exact(lI _ ∅).2
def XX(hf:∀i k:Int,∃r:Int,0<=r/\r<nU/\Φ f [.int i,.int k]=.ok (.int r))(i m)(J:1<=m)(c3:m<=6):
  ∃cs:List (List Int),c6 pg Φ ⟨2,4,a5.x4 f⟩ [.int i,.int m]=.ok (.lst (cs.map av))/\(∀c∈cs,IsCell m c)/\gM m cs=true/\cs.length<=16:=by
 have a4:=jl (i:=0) (j:=m) ⋯ ⋯ ⋯ ⋯;have Ls:=lI i (b:=9) ∅;have Rv:=jl (i:=0) (j:=i%9) ⋯ ⋯ ⋯ ⋯;have uU:eB 0 (i%9)=(aK (i%9)).map .int:=mb _;have e0:dj (elem pg Φ [some (.int i),some (.int m),none,none,none,none] (.tup (.cons (.var 6) (.nil))) 0 .none) ((aK m).map .int)=.ok ((aK m).map λk=>av [k]):=hT λk _=>by
  simp!;rfl
 simp![a5.x4,a4,mb,e0,jg i 9 ∅,Rv];have h0:∀k∈aK m,IsCell m [k]:=λk ay=>⟨by simp,by simpa using hI.mp ay,ac8 _ _⟩
 obtain⟨bP,e,cs,x,y,z,he,ah,aA⟩:=gc (f:=D.int) (g:=turn pg Φ 0 [3] (.cons (.asg 4 (.call f (.cons (.var 0) (.cons (.var 3) (.nil))))) (.cons (.asg 5 (.tupI (.seq (.comp (.var 6) 0 (.ep (.var 1)) (.some (.cmp .lt (.bin .mod (.call f (.cons (.var 4) (.cons (.var 6) (.nil)))) (.lit (.int 5))) (.bin .add (.lit (.int 2)) (.bin .mod (.var 4) (.lit (.int 2)))))))))) (.cons (.iff (.cmp .ne (.var 5) (.tup (.nil))) (.cons (.app 2 (.var 5)) (.nil)) (.nil)) (.nil)))))
  (λa3 ρ=>∃(cs:List (List Int))(x y z:Option D),ρ=[some (.int i),some (.int m),some (.lst (((aK m).map λk=>[k]).map av++cs.map av)),x,y,z]/\(∀c∈cs,IsCell m c)/\cs.length<=a3.length)
  (aK (i%9)) [some (.int i),some (.int m),some (.lst ((aK m).map λk=>av [k])),none,none,none] ⟨[],none,none,none,by simp[Function.comp_def],by simp,by simp⟩ (λpre k post ρ aB ⟨cs,x,y,z,bW,ah,aA⟩=>by
   subst bW;obtain⟨r,aG,aV,Rt⟩:=hf i k;have ex:∃q:Int->Bool,∀x y z,dj (elem pg Φ [some (.int i),some (.int m),x,y,some (.int r),z] (.var 6) 0 (.some (.cmp .lt (.bin .mod (.call f (.cons (.var 4) (.cons (.var 6) (.nil)))) (.lit (.int 5))) (.bin .add (.lit (.int 2)) (.bin .mod (.var 4) (.lit (.int 2))))))) ((aK m).map .int)=.ok (((aK m).filter q).map .int):=by
    obtain⟨g,aY⟩:∃g:Int->Int,∀k,Φ f [.int r,.int k]=.ok (.int (g k)):=⟨λk=>Classical.choose (hf r k),λk=>(Classical.choose_spec (hf r k)).2.2⟩;refine⟨λk=>decide (g k%5<2+r%2),λx y z=>lA λk _=>?_⟩;have af:=aY k;simp![af,jg _ 5 ∅,jg _ 2 ∅]
    split<;>rfl
   obtain⟨q,aM⟩:=ex;have gz:((aK m).filter q).Sublist (aK m):=acH;simp![Rt,a4,mb,aM];have aC:fw (.tup (((aK m).filter q).map .int)) (.tup [])=.ok ((aK m).filter q).isEmpty:=by
    rw[Oa (by simp[List.all_map,tU]),AN]
   simp![aC];have d6:pre.length+1<=9:=by
    have J:(aK (i%9)).length=(pre++k::post).length:=(by rw[<- aB]);have aa:(aK (i%9)).length<=9:=(by unfold aK;simp;lia);simp at J;lia
   cases FE:((aK m).filter q).isEmpty
   .have d1:(aK m).filter q≠[]:=(by intro z;rw[z]at FE;cases FE);have oq:IsCell m ((aK m).filter q):=⟨d1,λx ai=>hI.mp (gz.subset ai),ab3 gz (C0 m)⟩;have hlen:(((aK m).map λk=>[k]).map av++cs.map av).length<SZ:=by
     have:=sU c3;simp only[abw,List.length_map,gq];lia
    refine⟨_,by simp![ux,if_pos hlen];rfl,cs++[(aK m).filter q],_,_,_,by simp only[List.map_append,List.append_assoc];rfl,λc cY=>?_,by simp;lia⟩;rcases abU.mp cY with w|w
    .exact ah c w
    .simp at w;subst w;exact oq
   .exact⟨_,by simp!;rfl,cs,_,_,_,rfl,ah,by simp;lia⟩)
 rw[e,he];simp!;refine⟨((aK m).map λk=>[k])++cs,by rw[List.map_append],λc cY=>?_,?_,?_⟩
 .rcases abU.mp cY with w|w
  .obtain⟨k,ay,rfl⟩:=List.mem_map.mp w;exact h0 k ay
  .exact ah c w
 .rw[pP];intro x a b;exact⟨[x],by simp[hI];exact .inl ⟨a,b⟩,by simp⟩
 .have:=sU c3;have aa:(aK (i%9)).length<=8:=(by unfold aK;simp;lia);simp only[abw,List.length_map];lia
def iP{cs:List (List Int)}:c∈b4 cs<->c∈cs/\∀o∈cs,c.length<o.length->¬lies c o=true:=by
 unfold b4;simp only[List.mem_filter,jV,jU,acf,List.any_eq_false,abN,and_imp]
def rx(cs):b9 lexLt (b4 cs):=ab3 acH (lr kG (nB _))
def ZA(cs):b4 (b4 cs)=b4 cs:=by
 refine jE kG (rx _) (rx _) λz=>?_
 rw[iP];refine⟨λh=>h.1,λh=>⟨h,λo az aA=>(iP.mp h).2 o (iP.mp az).1 aA⟩⟩
theorem Ca{cs:List (List Int)}(h:∀c∈cs,IsCell m c):∀(n:Nat)(c:List Int),c∈cs->m.toNat<=c.length+n->∃t∈b4 cs,∀x∈c,x∈t
 |0,c,ah,aC=>⟨c,iP.mpr ⟨ah,λo az aA=>by have:=pL (h o az);lia⟩,λ_ ai=>ai⟩
 |n+1,c,ah,aC=>by
  by_cases q:∀o∈cs,c.length<o.length->¬lies c o=true
  .exact⟨c,iP.mpr ⟨ah,q⟩,λ_ ai=>ai⟩
  .obtain⟨o,az,aA,af⟩:∃o,o∈cs/\c.length<o.length/\lies c o=true:=by
    apply acG;intro z;exact q λo az aA af=>z ⟨o,az,aA,af⟩
   obtain⟨t,aH,Ry⟩:=Ca h n o az ⋯;exact⟨t,aH,λx ai=>Ry x (nj.mp af x ai)⟩
structure Net(m:Int)(ts:List (List Int)):Prop where
 lo:1<=m
 aj:m<=6
 cell:∀c∈ts,IsCell m c
 top:ts=b4 ts
 gM:gM m ts=true
def AU{cs:List (List Int)}(J:1<=m)(c3:m<=6)(ah:∀c∈cs,IsCell m c)(aN:gM m cs=true):Net m (b4 cs) where
 lo:=J
 aj:=c3
 cell:=λc h=>ah c (iP.mp h).1
 top:=(ZA cs).symm
 gM:=by
  rw[pP]at aN ⊢;intro x a b;obtain⟨c,h,ai⟩:=aN x a b;obtain⟨t,aH,af⟩:=Ca ah m.toNat c h ⋯;exact⟨t,aH,af x ai⟩
def JU(cs):(b4 cs).length<=cs.length:=by
 unfold b4;have J:=acw (λc=>!((c7 lexLt (c8 cs)).filter λo=>decide (c.length<o.length)).any (lies c)) (c7 lexLt (c8 cs));have aa:=uR cs;rw[ni]at J;lia
def AV{cs:List (List Int)}(hf:∀cs:List (List Int),(∀c∈cs,c≠[])->(c8 cs).length<=63->Φ oh [.lst (cs.map av)]=.ok (.tup ((nq cs).map av)))(J:1<=m)(c3:m<=6)(aA:cs.length<=20)(P9:∀c∈cs,c.length<=63)(ah:∀c∈cs,IsCell m (c7 ltI c))(aN:gM m (cs.map (c7 ltI))=true):
  ∃ts,oc (eN pg Φ [some a,some b,some (.int m),some c,some (.lst (cs.map av))] (.cons (.ret (.tup (.cons (.var 2) (.cons (.call oh (.cons (.comp (.tupI (.seq (.prim .sorted (.var 5)))) 0 (.seq (.var 4)) (.none)) (.nil))) (.nil))))) (.nil)))=.ok (bG m ts)/\Net m ts/\ts.length<=20:=by
 have m7:∀c∈cs.map (c7 ltI),IsCell m c:=λc cY=>by obtain⟨o,az,rfl⟩:=List.mem_map.mp cY;exact ah o az
 refine⟨b4 (cs.map (c7 ltI)),?_,AU J c3 m7 aN,by have:=JU (cs.map (c7 ltI));rw[List.length_map]at this;lia⟩;have e1:dj (elem pg Φ [some a,some b,some (.int m),some c,some (.lst (cs.map av))] (.tupI (.seq (.prim .sorted (.var 5)))) 0 .none) (cs.map av)=.ok (cs.map λc=>av (c7 ltI c)):=hT λc cY=>by
  simp![kV,XY (P9 c cY)];rfl
 have ar:(cs.map λc=>av (c7 ltI c))=(cs.map (c7 ltI)).map av:=by rw[List.map_map];rfl
 have gw:(c8 (cs.map (c7 ltI))).length<=63:=by have:=uR (cs.map (c7 ltI));rw[List.length_map]at this;lia
 simp![e1,ar,hf _ (λc cY=>(m7 c cY).1) gw,GB (λc cY=>(m7 c cY).2.2)];rfl
def BQ(h:IsCell m c):c7 ltI c=c:=X3 hc h.2.2
def Jf{cs:List (List Int)}(h:∀c∈cs,IsCell m c):cs.map (c7 ltI)=cs:=by
 conv=>rhs;rw[<- aeA cs]
 exact abO λc ah=>BQ (h c ah)
noncomputable def Dp:Bool:=(List.range 7).all λm=>(List.range 7).all λs=>(decide (s=0)||decide (m<s))||((cG s (aK (m:Int))).all (λc=>decide (IsCell (m:Int) c))&&gM (m:Int) (cG s (aK (m:Int))))
def uI:Dp=true:=by decide +kernel
def KX{s:Nat}(J:1<=m)(eF:m<=6)(af:1<=s)(z8:(s:Int)<=m):(∀c∈cG s (aK m),IsCell m c)/\gM m (cG s (aK m))=true:=by
 have h:=uI;unfold Dp at h;rw[ab1]at h;have h:=h m.toNat (List.mem_range.mpr ⋯);rw[ab1]at h;have h:=h s (List.mem_range.mpr ⋯);have e:((m.toNat:Nat):Int)=m:=by lia
 rw[e]at h;have gD:¬s=0:=by lia
 have eZ:¬m.toNat<s:=by lia
 simp only[decide_eq_false gD,decide_eq_false eZ,Bool.or_self,Bool.false_or,abt,ab1,abN]at h;exact h
noncomputable def band:List (List Int):=(aK 5).map (λk=>[0,1+k,1+(k+1)%5])++(aK 5).map λk=>[1+k,1+(k+1)%5,1+(k+3)%5]
def Lx:(band.map (c7 ltI)).all (λc=>decide (IsCell 6 c))&&gM 6 (band.map (c7 ltI))&&decide (band.length<=20)&&band.all (λc=>decide (c.length<=63))=true:=by decide +kernel
def T6{oh bB bC:Nat}(aH:∀cs:List (List Int),(∀c∈cs,c≠[])->(c8 cs).length<=63->Φ oh [.lst (cs.map av)]=.ok (.tup ((nq cs).map av)))(aB:∀(s:Nat)(c:List Int),s<=8->c.length<=8->Φ bB [av c,.int (s:Int)]=.ok (.lst ((cG s c).map av)))(af:∀i m:Int,1<=m->m<=6->∃cs:List (List Int),Φ bC [.int i,.int m]=.ok (.lst (cs.map av))/\(∀c∈cs,IsCell m c)/\gM m cs=true/\cs.length<=16)(i)(h0:0<=i):
  ∃m ts,c6 pg Φ ⟨2,3,a5.x2 oh bB bC⟩ [.int i,.int 6]=.ok (bG m ts)/\Net m ts/\m<=6/\ts.length<=20:=by
 have rA:=lI i (b:=6) ∅;have bR:decide ((5:Int)<6)=true:=rfl;have b3:decide ((6:Int)<6)=false:=rfl;simp![a5.x2,jg i 6 ∅,u9 i 12 ∅ ∅,jg _ 8 ∅];cases k0:(i / 12%8==0)
 .cases k1:(i / 12%8==1)
  .have rest:∀k2:Bool,(if k2=true then decide ((6:Int)<6) else false)=false:=λk2=>by cases k2<;>rfl
   obtain⟨cs,e,ah,aN,aA⟩:=af (i / 96) (1+i%6) ⋯ ⋯;obtain⟨ts,ar,aC,nd⟩:=AV (pg:=pg) (Φ:=Φ) (cs:=cs) (m:=1+i%6) (a:=.int i) (b:=.int 6) (c:=.int (i / 12%8)) aH ⋯ ⋯ ⋯ (λc cY=>by have:=pL (ah c cY);lia) (λc cY=>by rw[BQ (ah c cY)];exact ah c cY) (by rw[Jf ah];exact aN);refine⟨1+i%6,ts,?_,aC,⋯,nd⟩;rw[<- ar];cases k2:(i / 12%8==2)
   .simp![k1,k2,u9 i 96 ∅ ∅,e]
   .simp![k1,k2,b3,u9 i 96 ∅ ∅,e]
  .have ae:=Lx;simp only[abt,ab1,abN]at ae;obtain⟨⟨⟨ha,sj⟩,Qm⟩,Qn⟩:=ae;obtain⟨ts,ar,aC,nd⟩:=AV (pg:=pg) (Φ:=Φ) (cs:=band) (m:=6) (a:=.int i) (b:=.int 6) (c:=.int (i / 12%8)) aH ∅ ∅ Qm Qn (λc cY=>ha _ (List.mem_map_of_mem cY)) sj;refine⟨6,ts,?_,aC,⋯,nd⟩;rw[<- ar];have hK:=jl (i:=0) (j:=5) ⋯ ⋯ ⋯ ⋯;have cy:∀a b c d e,dj (elem pg Φ [a,b,c,d,e] (.tup (.cons (.lit (.int 0)) (.cons (.bin .add (.lit (.int 1)) (.var 5)) (.cons (.bin .add (.lit (.int 1)) (.bin .mod (.bin .add (.var 5) (.lit (.int 1))) (.lit (.int 5)))) (.nil))))) 0 .none) ((aK 5).map .int)=.ok ((aK 5).map λk=>av [0,1+k,1+(k+1)%5]):=λa b c d e=>hT λk _=>by
    simp![jg _ 5 ∅];rfl
   have bU:∀a b c d e,dj (elem pg Φ [a,b,c,d,e] (.tup (.cons (.bin .add (.lit (.int 1)) (.var 5)) (.cons (.bin .add (.lit (.int 1)) (.bin .mod (.bin .add (.var 5) (.lit (.int 1))) (.lit (.int 5)))) (.cons (.bin .add (.lit (.int 1)) (.bin .mod (.bin .add (.var 5) (.lit (.int 3))) (.lit (.int 5)))) (.nil))))) 0 .none) ((aK 5).map .int)=.ok ((aK 5).map λk=>av [1+k,1+(k+1)%5,1+(k+3)%5]):=λa b c d e=>hT λk _=>by
    simp![jg _ 5 ∅];rfl
   have e6:band.map av=(aK 5).map (λk=>av [0,1+k,1+(k+1)%5])++(aK 5).map λk=>av [1+k,1+(k+1)%5,1+(k+3)%5]:=by
    unfold band;rw[List.map_append,List.map_map,List.map_map];rfl
   have hlen:((aK 5).map (λk=>av [0,1+k,1+(k+1)%5])).length+((aK 5).map λk=>av [1+k,1+(k+1)%5,1+(k+3)%5]).length<=SZ:=by
    have:=sU (m:=5) ∅;rw[List.length_map,List.length_map,gq];lia
   simp![k1,bR,hK,mb,cy,bU,mF,if_pos hlen,<- e6]
 .have Ls:=lI (i / 96) (b:=1+i%6) ⋯;obtain⟨s,qe⟩:∃s:Nat,(s:Int)=1+i / 96%(1+i%6):=⟨(1+i / 96%(1+i%6)).toNat,⋯⟩;obtain⟨ah,aN⟩:=KX (m:=1+i%6) (s:=s) ⋯ ⋯ ⋯ ⋯;have Fp:(aK (1+i%6)).length<=6:=(by unfold aK;simp;lia);have QY:(cG s (aK (1+i%6))).length<=20:=(by rw[tD];exact Be Fp);obtain⟨ts,ar,aC,nd⟩:=AV (pg:=pg) (Φ:=Φ) (cs:=cG s (aK (1+i%6))) (m:=1+i%6) (a:=.int i) (b:=.int 6) (c:=.int (i / 12%8)) aH ⋯ ⋯ QY (λc cY=>by have:=pL (ah c cY);lia) (λc cY=>by rw[BQ (ah c cY)];exact ah c cY) (by rw[Jf ah];exact aN);refine⟨1+i%6,ts,?_,aC,⋯,nd⟩;rw[<- ar];have FD:=aB s (aK (1+i%6)) ⋯ ⋯;unfold av at FD;simp![u9 i 96 ∅ ∅,jg (i / 96) (1+i%6) ⋯,<- qe,jl (i:=0) (j:=1+i%6) ⋯ ⋯ ⋯ ⋯,mb,FD];rfl
noncomputable def cJ(c:List Int):List (List Int):=if 1<c.length then(List.range c.length).map λk=>c.take k++c.drop (k+1) else []
noncomputable def b0(a b:List (List Int)):List (List Int):=c7 lexLt (c8 (a.filter (λx=>!decide (x∈b))++b.filter λx=>!decide (x∈a)))
def uy(h:b9 lexLt xs):xs.Nodup:=acS (λ{a b} h e=>by subst e;rw[kG.fL]at h;cases h) h
def lp(h:b9 ltI xs):xs.Nodup:=acS (λ{a b} h e=>by subst e;rw[hc.fL]at h;cases h) h
noncomputable def cnt(e:List Int)(cs:List (List Int)):Nat:=cs.countP λc=>decide (e∈cJ c)
theorem tx{α:Type}(lt):∀xs:List α,(c7 lt xs).Perm xs
 |[]=>.nil
 |x::xs=>(tv lt x (c7 lt xs)).trans ((tx lt xs).cons x)
 where tv {α:Type} (lt:α->α->Bool) (x:α):∀ys:List α,(ins lt x ys).Perm (x::ys)
  |[]=>.refl _
  |y::ys=>by
   unfold ins
   split
   .exact((tv lt x ys).cons y).trans (List.Perm.swap x y ys)
   .exact .refl _
def tw{α:Type}[DecidableEq α]{xs ys:List α}(ai:xs.Nodup)(aQ:ys.Nodup)(h:∀z,z∈xs<->z∈ys):xs.Perm ys:=(List.perm_ext_iff_of_nodup ai aQ).mpr h
def hL(h:b9 ltI c):e∈cJ c<->1<c.length/\e.length+1=c.length/\e.Sublist c:=by
 unfold cJ;constructor
 .intro he
  split at he
  .rename_i aA;obtain⟨k,ay,rfl⟩:=List.mem_map.mp he;have ay:=List.mem_range.mp ay;refine⟨aA,by rw[abw,adj,adk];lia,?_⟩
   conv=>rhs;rw[<- aek k c]
   refine List.Sublist.append (ae0 _) ?_;rw[ado ay];exact List.sublist_cons_self _ _
  .cases he
 .rintro⟨aA,J,af⟩;rw[if_pos aA];refine List.mem_map.mpr ?_;have key:∀{e c:List Int},e.Sublist c->e.length+1=c.length->∃k,k<c.length/\c.take k++c.drop (k+1)=e:=by
   intro e c af
   induction af with
   |slnil=>intro z;cases z
   |@cons e c x af aE =>
    intro z;have:e.length=c.length:=(by simpa using z);exact⟨0,by simp,by simpa using (af.eq_of_length this).symm⟩
   |@cons_cons e c x af aE =>
    intro z;obtain⟨k,ay,ob⟩:=aE (by simpa using z);exact⟨k+1,by simpa using ay,by simp[ob]⟩
  obtain⟨k,ay,ob⟩:=key af J;exact⟨k,List.mem_range.mpr ay,ob⟩
def wy(h:b9 ltI c)(he:e∈cJ c):b9 ltI e:=ab3 ((hL h).mp he).2.2 h
def Od(ah:b9 ltI c)(he:b9 ltI e)(af:e.Sublist c){k:Nat}(ay:k<c.length):e.Sublist (c.take k++c.drop (k+1))<->c[k]∉e:=by
 have aC:=lp ah;have hd:(c.take k++c[k]::c.drop (k+1))=c:=by rw[<- ado ay,aek]
 rw[<- hd]at aC;have Q4:∀x,x∈c<->x=c[k]\/x∈c.take k++c.drop (k+1):=λx=>by
  conv=>lhs;rw[<- hd]
  simp only[abU,abA];constructor
  .rintro(h|h|h)
   .exact .inr (.inl h)
   .exact .inl h
   .exact .inr (.inr h)
  .rintro(h|h|h)
   .exact .inr (.inl h)
   .exact .inl h
   .exact .inr (.inr h)
 have iO:c[k]∉c.take k++c.drop (k+1):=λz=>by
  have:=List.perm_middle.nodup_iff.mp aC;exact(ab9.mp this).1 z
 have gz:(c.take k++c.drop (k+1)).Sublist c:=by
  conv=>rhs;rw[<- hd]
  exact List.Sublist.append (ae0 _) (List.sublist_cons_self _ _)
 constructor
 .exact λz w=>iO (z.subset w)
 .exact λz=>jF he (ab3 gz ah) λx ai=>((Q4 x).mp (af.subset ai)).elim (λe=>absurd (e▸ai) z) id
theorem Gf{α:Type}(p):∀c:List α,c.length=c.countP p+c.countP (λx=>!p x)
 |[]=>rfl
 |x::c=>by
  rw[List.length_cons,Gf p c,aep,aep];cases p x<;>simp<;>lia
def DI{α:Type}[DecidableEq α]{c e:List α}(ah:c.Nodup)(he:e.Nodup)(af:∀x∈e,x∈c):c.countP (λx=>!decide (x∈e))+e.length=c.length:=by
 have J:(c.filter λx=>decide (x∈e)).Perm e:=tw (ah.filter _) he λz=>by
  rw[List.mem_filter];simp only[abN];exact⟨λh=>h.2,λh=>⟨af z h,h⟩⟩
 have aa:c.length=(c.filter λx=>decide (x∈e)).length+(c.filter λx=>!decide (x∈e)).length:=by
  rw[<- adf,<- adf];exact Gf (λx=>decide (x∈e)) c
 rw[J.length_eq]at aa;rw[adf];lia
def Mp(ah:b9 ltI c)(e):cnt e (cJ c)=0\/cnt e (cJ c)=2:=by
 by_cases aA:1<c.length
 .by_cases af:e.Sublist c/\e.length+2=c.length/\2<c.length
  .obtain⟨af,aa,aJ⟩:=af;have he:b9 ltI e:=ab3 af ah;right;have e1:cnt e (cJ c)=c.countP λx=>!decide (x∈e):=by
    unfold cnt;rw[show cJ c=(List.range c.length).map (λk=>c.take k++c.drop (k+1)) from if_pos aA,ad1];have:c=(List.range c.length).map λk=>c.getD k 0:=by
     apply ae3
     .simp
     .intro i J aa;simp[List.getD,J]
    conv=>rhs;rw[this]
    rw[ad1];refine aea λk ay=>?_
    have ay:=List.mem_range.mp ay;have RB:b9 ltI (c.take k++c.drop (k+1)):=wy ah (by unfold cJ;rw[if_pos aA];exact List.mem_map.mpr ⟨k,List.mem_range.mpr ay,rfl⟩);have hlen:(c.take k++c.drop (k+1)).length+1=c.length:=(by rw[abw,adj,adk];lia);simp only[Function.comp,abN,acf,decide_eq_false_iff_not];rw[hL RB,Od ah he af ay];have:c.getD k 0=c[k]:=(by simp[List.getD,ay]);rw[this];exact⟨λz=>z.2.2,λz=>⟨⋯,⋯,z⟩⟩
   rw[e1];have:=DI (lp ah) (lp he) λx ai=>af.subset ai
   lia
  .left;unfold cnt;rw[List.countP_eq_zero];intro d hd;simp only[abN];intro z;obtain⟨_,b2,el⟩:=(hL ah).mp hd;obtain⟨a1,a2,eX⟩:=(hL (wy ah hd)).mp z;exact af ⟨eX.trans el,⋯,⋯⟩
 .left;unfold cnt cJ;rw[if_neg aA];rfl
def nH(ah:b9 ltI c):(cJ c).Nodup:=by
 unfold cJ
 split
 .rw[abJ,ab4];refine abX (λ{i j} aj aI (zO:i<j) e=>?_) acU;have aI:=List.mem_range.mp aI;have aj:i<c.length:=List.mem_range.mp aj;have J:(c.take i++c.drop (i+1))[i]?=c[i+1]?:=by
   rw[abW (by simp;lia),List.getElem?_drop];congr 1;simp;lia
  have aa:(c.take j++c.drop (j+1))[i]?=c[i]?:=by
   rw[abH (by simp;lia),List.getElem?_take_of_lt zO]
  rw[e,aa]at J;rw[aby aj,aby (by lia:i+1<c.length)]at J;have:=adn.mp ah i (i+1) aj ⋯ ⋯;injection J with J;rw[J,hc.fL]at this;cases this
 .exact adA
end cH
end
section
namespace cH
open ζ bf dW eD
def r4(i j):ev pg Φ ρ (.ig i j)=lF ρ[i]? ρ[j]?:=a9 rfl
def Ou(i j):ev pg Φ ρ (.pR i j)=rU ρ[i]? ρ[j]?:=a9 rfl
def Ee:ev pg Φ ρ .pS=.ok (.bN []):=a9 rfl
def OK(i):ex pg Φ ρ (.n8 i)=.ok (.bJ (ρ.set i (some (.cf [])))):=a9 rfl
def OL(i):ex pg Φ ρ (.n9 i)=.ok (.bJ (ρ.set i (some (.bN [])))):=a9 rfl
def y1(i j)(e):ex pg Φ ρ (.jK i j e)=ev pg Φ ρ e>>=λd=>pT ρ[i]? ρ[j]? d>>=λx=>.ok (.bJ (ρ.set i (some x))):=a9 rfl
def Em(i)(e):ex pg Φ ρ (.ext i e)=jI ρ[i]?>>=λ_=>ev pg Φ ρ e>>=λd=>pV ρ[i]? d>>=λx=>.ok (.bJ (ρ.set i (some x))):=a9 rfl
def En(i):ex pg Φ ρ (.qJ i)=rT ρ[i]?>>=λd=>.ok (.cI d):=a9 rfl
def VB(up)(xs):kS up .sum (.lst xs)=kY xs:=a9 rfl
def HI(up)(xs):kS up .max (.lst xs)=kN xs:=a9 rfl
def lX(c):lW (av c)=.ok (.int (c.length:Int)):=by unfold av;rw[Av,List.length_map]
def XE{c:List Int}(h:c.length<=1000)(k:Nat):eE .add (.tup (cut (c.map D.int) none (some (k:Int)))) (.tup (cut (c.map D.int) (some ((k:Int)+1)) none))=.ok (av (c.take k++c.drop (k+1))):=by
 have e:((k:Int)+1)=((k+1:Nat):Int):=by lia
 rw[e,ME,DL,uv,if_pos]
 .unfold av;rw[List.map_append,List.map_take,List.map_drop]
 .rw[adj,adk,List.length_map,gq];lia
def XF(c)(h:c.length<=1000):c6 pg Φ ⟨1,0,a5.yc⟩ [av c]=.ok (.lst ((cJ c).map av)):=by
 have e1:dj (elem pg Φ [some (av c)] (.bin .add (.slice (.var 0) (.none) (.some (.var 1))) (.slice (.var 0) (.some (.bin .add (.var 1) (.lit (.int 1)))) (.none))) 0 (.some (.cmp .gt (.prim .len (.var 0)) (.lit (.int 1))))) ((List.range c.length).map λ(k:Nat)=>D.int (k:Int))=.ok (((List.range c.length).filter λ_=>decide (1<c.length)).map λk=>av (c.take k++c.drop (k+1))):=lA λk _=>by
  have af:∀lo aj,kW (av c) lo aj=.ok (.tup (cut (c.map D.int) lo aj)):=λlo aj=>rfl
  simp![lX,af,XE h]
  by_cases q:1<c.length
  .have cN:(1:Int)<(c.length:Int):=⋯;simp only[decide_eq_true q,decide_eq_true cN,acj]
  .have cN:¬(1:Int)<(c.length:Int):=⋯;simp only[decide_eq_false q,decide_eq_false cN,abx,abS]
 simp![a5.yc,lX,jl (i:=0) (j:=(c.length:Int)) ⋯ ⋯ ⋯ ⋯,wb,e1];congr 2;unfold cJ
 by_cases q:1<c.length
 .rw[if_pos q,decide_eq_true q,List.filter_eq_self.mpr λ_ _=>rfl,List.map_map];rfl
 .rw[if_neg q,decide_eq_false q,aef.mpr λ_ _=>∅];rfl
def BI(h:b9 ltI c)(he:e∈cJ c):e≠[]:=λz=>by
 obtain⟨a,b,_⟩:=(hL h).mp he;subst z;simp at b;lia
noncomputable def d5(t:List Int):List (List Int):=t.foldl (λf x=>f++[[x]]++f.map (·++[x])) []
def cw_snoc(t)(x):d5 (t++[x])=d5 t++[[x]]++(d5 t).map (·++[x]):=by unfold d5;rw[List.foldl_append];rfl
def Ja{P:List Int->Prop}(h0:P [])(J:∀as a,P as->P (as++[a]))(as):P as:=by
 have key:∀n (as:List Int),as.length=n->P as:=by
  intro n
  induction n with
  |zero=>intro as h;rw[ac5 h];exact h0
  |succ n aE =>
   intro as h;rcases aei as with rfl|⟨l,a,rfl⟩
   .cases h
   .rw[aej]at h ⊢;exact J l a (aE l (by simpa using h))
 exact key _ as rfl
def sub_snoc{z t:List Int}:z.Sublist (t++[x])<->z.Sublist t\/∃y,z=y++[x]/\y.Sublist t:=by
 rw[List.sublist_append_iff];constructor
 .rintro⟨a,b,rfl,J,aa⟩;have ae:b=[]\/b=[x]:=by
   cases aa with
   |cons _ h=>exact .inl (adV.mp h)
   |cons_cons _ h=>exact .inr (by rw[adV.mp h])
  rcases ae with rfl|rfl
  .exact .inl (by simpa using J)
  .exact .inr ⟨a,rfl,J⟩
 .rintro(h|⟨y,rfl,h⟩)
  .exact⟨z,[],by simp,h,adU _⟩
  .exact⟨y,[x],rfl,h,ae0 _⟩
def oO(t):∀z,z∈d5 t<->z≠[]/\z.Sublist t:=by
 refine Ja (P:=λt=>∀z,z∈d5 t<->z≠[]/\z.Sublist t) (λz=>?_) (λt x aE z=>?_) t
 .constructor
  .intro h;cases h
  .rintro⟨J,aa⟩;exact absurd (adV.mp aa) J
 .rw[cw_snoc,abU,abU,abK,List.mem_map,sub_snoc,aE];constructor
  .rintro((⟨J,aa⟩|rfl)|⟨y,aQ,rfl⟩)
   .exact⟨J,.inl aa⟩
   .exact⟨by simp,.inr ⟨[],rfl,adU _⟩⟩
   .exact⟨by simp,.inr ⟨y,rfl,((aE y).mp aQ).2⟩⟩
  .rintro⟨J,aa|⟨y,rfl,aa⟩⟩
   .exact .inl (.inl ⟨J,aa⟩)
   .by_cases aQ:y=[]
    .subst aQ;exact .inl (.inr rfl)
    .exact .inr ⟨y,(aE y).mpr ⟨aQ,aa⟩,rfl⟩
def s7(t):(d5 t).length+1=2 ^ t.length:=by
 refine Ja (P:=λt=>(d5 t).length+1=2 ^ t.length) rfl (λt x aE=>?_) t;rw[cw_snoc,abw,abw,abw,List.length_map,List.length_singleton,List.length_singleton,Nat.pow_succ];lia
noncomputable def cO(ts:List (List Int)):List (List Int):=c7 lexLt (c8 (ts.flatMap d5))
def fV:z∈cO ts<->z≠[]/\∃t∈ts,z.Sublist t:=by
 unfold cO;rw[jV,jU,adB];constructor
 .rintro⟨t,J,aa⟩;exact⟨((oO t z).mp aa).1,t,J,((oO t z).mp aa).2⟩
 .rintro⟨h0,t,J,aa⟩;exact⟨t,J,(oO t z).mpr ⟨h0,aa⟩⟩
def xD(ts):b9 lexLt (cO ts):=lr kG (nB _)
noncomputable def cl(ts:List (List Int))(n:Nat):List (List Int):=(cO ts).filter λc=>decide (c.length=n)
def dS:z∈cl ts n<->z.length=n/\z≠[]/\∃t∈ts,z.Sublist t:=by
 unfold cl;rw[List.mem_filter,fV];simp only[abN];exact⟨λh=>⟨h.2,h.1⟩,λh=>⟨h.2,h.1⟩⟩
def CZ(ts)(n):b9 lexLt (cl ts n):=ab3 acH (xD ts)
def hy(ts)(n):(cl ts n).Nodup:=uy (CZ ts n)
def Dv(ts)(h):mM ts h=cl ts (h+1):=jE kG (Ll ts h) (CZ ts _) λz=>by
 rw[TH,dS];exact⟨λ⟨J,aa⟩=>⟨J,by rintro rfl;simp at J,aa⟩,λ⟨J,_,aa⟩=>⟨J,aa⟩⟩
def r5(c3:m<=6)(aH:∀t∈ts,IsCell m t):(cO ts).length<=63:=by
 have J:(cO ts).length<=(d5 (aK m)).length:=iS (uy (xD ts)) λz hz=>by
  obtain⟨h0,t,J,aa⟩:=fV.mp hz;exact(oO _ z).mpr ⟨h0,aa.trans (L4 (aH t J))⟩
 have aa:=s7 (aK m);have aJ:=sU c3;have aW:2 ^ (aK m).length<=2 ^ 6:=abQ ∅ aJ;lia
def rM(c3:m<=6)(aH:∀t∈ts,IsCell m t)(n):(cl ts n).length<=63:=acx (acw _ _) (r5 c3 aH)
def rL(aH:∀t∈ts,IsCell m t)(hz:z∈cl ts n):b9 ltI z:=by
 obtain⟨_,_,t,J,aa⟩:=dS.mp hz;exact ab3 aa (aH t J).2.2
def mQ(aH:∀t∈ts,IsCell m t)(hz:z∈cl ts n)(he:e∈cJ z):e∈cl ts (n-1):=by
 obtain⟨J,aa,aJ⟩:=(hL (rL aH hz)).mp he;obtain⟨aW,cb,t,eF,gQ⟩:=dS.mp hz;exact dS.mpr ⟨⋯,by rintro rfl;simp at aa;lia,t,eF,aJ.trans gQ⟩
def ZQ(c)(c3:c.length<=8):c6 pg Φ ⟨1,2,a5.xN⟩ [av c]=.ok (.lst ((d5 c).map av)):=by
 simp![a5.xN,kV];obtain⟨bP,e,x,he⟩:=gc (f:=D.int) (g:=turn pg Φ 0 [2] (.cons (.asg 1 (.bin .add (.bin .add (.var 1) (.lst (.cons (.tup (.cons (.var 2) (.nil))) (.nil)))) (.comp (.bin .add (.var 3) (.tup (.cons (.var 2) (.nil)))) 0 (.seq (.var 1)) (.none)))) (.nil)))
  (λa3 ρ=>∃(x:Option D),ρ=[some (av c),some (.lst ((d5 a3).map av)),x])
  c [some (av c),some (.lst []),none] ⟨none,rfl⟩ (λpre k post ρ aB ⟨x,bW⟩=>by
   subst bW;have d6:pre.length+1<=c.length:=(by rw[aB];simp);have J:=s7 pre;have aa:2 ^ pre.length<=2 ^ 8:=abQ ∅ ⋯;have e1:dj (elem pg Φ [some (av c),some (.lst ((d5 pre).map av)),some (.int k)] (.bin .add (.var 3) (.tup (.cons (.var 2) (.nil)))) 0 .none) ((d5 pre).map av)=.ok ((d5 pre).map λz=>av (z++[k])):=hT λz hz=>by
    have hz:=((oO pre z).mp hz).2.length_le;have:eE .add (av z) (.tup [.int k])=.ok (av (z++[k])):=by
     unfold av;rw[uv,if_pos (by rw[List.length_map,gq];simp;lia),List.map_append];rfl
    simp![this]
   have a1:eE .add (.lst ((d5 pre).map av)) (.lst [.tup [.int k]])=.ok (.lst ((d5 pre++[[k]]).map av)):=by
    rw[mF,if_pos (by rw[List.length_map,gq];simp;lia),List.map_append];rfl
   have a2:eE .add (.lst ((d5 pre++[[k]]).map av)) (.lst ((d5 pre).map λz=>av (z++[k])))=.ok (.lst ((d5 (pre++[k])).map av)):=by
    rw[mF,if_pos (by rw[List.length_map,List.length_map,abw,gq];simp;lia),cw_snoc];simp only[List.map_append,List.map_map];rfl
   refine⟨_,by simp![a1,e1,a2],some (.int k),rfl⟩)
 rw[e,he];simp!
def OY(xs ys):pV (some (some (.lst xs))) (.lst ys)=if xs.length+ys.length<=SZ then .ok (.lst (xs++ys)) else .bad:=a9 rfl
def OD(hf:∀c:List Int,c.length<=8->Φ f [av c]=.ok (.lst ((d5 c).map av)))(aH:∀t∈ts,t.length<=8)(aA:ts.length<=63)(zj:(cO ts).length<=63):
  c6 pg Φ ⟨1,2,a5.xP f⟩ [bG m ts]=.ok (.lst ((cO ts).map av)):=by
 have aj:fU (bG m ts) (.int 1)=.ok (.tup (ts.map av)):=rfl;simp![a5.xP,aj];have n5:∀au:List (List Int),au.length<=63->(∀t∈au,t.length<=8)->(au.flatMap d5).length<=65280:=λau ay c3=>by
  have:=vb (f:=d5) (k:=256) (xs:=au) λt oA=>by
   have aa:=s7 t;have aW:2 ^ t.length<=2 ^ 8:=abQ ∅ (c3 t oA);lia
  lia
 obtain⟨bP,e,x,he⟩:=gc (f:=av) (g:=turn pg Φ 0 [2] (.cons (.ext 1 (.call f (.cons (.var 2) (.nil)))) (.nil)))
  (λa3 ρ=>∃(x:Option D),ρ=[some (bG m ts),some (.lst ((a3.flatMap d5).map av)),x])
  ts [some (bG m ts),some (.lst []),none] ⟨none,rfl⟩ (λpre t post ρ aB ⟨x,bW⟩=>by
   subst bW;have sG:t∈ts:=(by rw[aB];simp);have d6:pre.length+1<=ts.length:=(by rw[aB];simp);have J:=n5 pre ⋯ λt oA=>aH t (by rw[aB];simp[oA])
   have aa:=n5 [t] (by simp) λz hz=>by simp at hz;subst hz;exact aH z sG
   have hlen:((pre.flatMap d5).map av).length+((d5 t).map av).length<=SZ:=by
    simp at aa;rw[List.length_map,List.length_map,gq];lia
   refine⟨_,by simp![Em,hf t (aH t sG),OY,if_pos hlen];rfl,some (av t),?_⟩;simp[acX])
 rw[e,he];have aC:∀c∈ts.flatMap d5,c≠[]:=λc ah=>by
  obtain⟨t,_,ah⟩:=adB.mp ah;exact((oO _ _).mp ah).1
 have:(c8 (ts.flatMap d5)).length<=63:=by unfold cO at zj;rw[ni]at zj;exact zj
 simp![wI aC this,cO]
def Mq(n:Nat)(hf:Φ f [bG m ts]=.ok (.lst ((cO ts).map av))):c6 pg Φ ⟨2,0,a5.xM f⟩ [bG m ts,.int ((n:Int)-1)]=.ok (.tup ((cl ts n).map av)):=by
 have e1:dj (elem pg Φ [some (bG m ts),some (.int ((n:Int)-1))] (.var 2) 0 (.some (.cmp .eq (.bin .sub (.prim .len (.var 2)) (.lit (.int 1))) (.var 1)))) ((cO ts).map av)=.ok (((cO ts).filter λc=>decide (c.length=n)).map av):=lA λc _=>by
  simp![lX]
  by_cases q:c.length=n
  .rw[decide_eq_true q,ab6.mpr (show(c.length:Int)-1=(n:Int)-1 by lia)];rfl
  .rw[decide_eq_false q,acb.mpr (show(c.length:Int)-1≠(n:Int)-1 by lia)];rfl
 simp![a5.xM,hf,e1];rfl
noncomputable def mk(U:List (List Int)):List (List Int×Int):=U.zipIdx.map λp=>(p.1,((2 ^ p.2:Nat):Int))
def TQ(U)(c):mk (U++[c])=mk U++[(c,((2 ^ U.length:Nat):Int))]:=by unfold mk;rw[List.zipIdx_append,List.map_append];simp
def AM(U):(mk U).map (·.1)=U:=by
 unfold mk;rw[List.map_map];show U.zipIdx.map (λp=>p.1)=U;exact List.zipIdx_map_fst 0 U
def TP(U):(mk U).length=U.length:=by have:=acp List.length (AM U);simpa using this
def idx_map{α β:Type}[DecidableEq α]{U:List α}(cV:U.Nodup)(g:α->Nat->β):U.map (λc=>g c (cg U c))=U.zipIdx.map λp=>g p.1 p.2:=by
 apply ac9;intro i;rw[abF,abF,List.getElem?_zipIdx]
 by_cases h:i<U.length
 .rw[aby h];simp only[Option.map_some,cV.idxOf_getElem i h,ac3]
 .rw[abM ⋯];rfl
def ZJ(cV:U.Nodup)(ah:c∈U):ph (mk U) c=some ((2 ^ cg U c:Nat):Int):=by
 unfold mk;rw[<- idx_map cV λc i=>(c,((2 ^ i:Nat):Int))];unfold ph;rw[List.find?_map];have:U.find? ((λp:List Int×Int=>decide (p.1=c)) ∘ λc=>(c,((2 ^ cg U c:Nat):Int)))=some c:=by
  have key:∀V:List (List Int),c∈V->V.find? ((λp:List Int×Int=>decide (p.1=c)) ∘ λc=>(c,((2 ^ cg U c:Nat):Int)))=some c:=λV=>by
   induction V with
   |nil=>intro h;cases h
   |cons v V aE =>
    intro h;rw[List.find?_cons]
    by_cases q:v=c
    .subst q;simp
    .rw[show((λp:List Int×Int=>decide (p.1=c)) ∘ λc=>(c,((2 ^ cg U c:Nat):Int))) v=false by simp[q]];exact aE ((abA.mp h).resolve_left (acy q))
  exact key U ah
 rw[this];rfl
def B7(c):j5 (av c)=some c:=by
 show intsOf (c.map .int)=some c
 induction c with
 |nil=>rfl
 |cons x c aE=>rw[List.map_cons,intsOf,aE];rfl
def NJ(ax)(c)(n)(h:ax.length<1000)(ah:c∉ax.map (·.1)):pT (some (some (.cf ax))) (some (some (av c))) (.int n)=.ok (.cf (ax++[(c,n)])):=by
 have e:putN ax c n=ax++[(c,n)]:=by
  unfold putN;rw[if_neg];intro z;obtain⟨p,aB,q⟩:=aew.mp z;exact ah (List.mem_map.mpr ⟨p,aB,by simpa using q⟩)
 show(match some ax,j5 (av c),some n with
  |some ax,some k,some n=>if ax.length<1000 then R.ok (D.cf (putN ax k n)) else .bad
  |_,_,_=>_)=_
 rw[B7];dsimp only;rw[if_pos h,e]
def yM(cV:U.Nodup)(ah:c∈U):lF (some (some (.cf (mk U)))) (some (some (av c)))=.ok (.int ((2 ^ cg U c:Nat):Int)):=by
 show(match some (mk U),j5 (av c) with
  |some ax,some k=>(match ph ax k with|some n=>R.ok (D.int n)|none=>.bad)
  |_,_=>_)=_
 rw[B7];dsimp only;rw[ZJ cV ah]
def DQ(U):pQ (some (some (.cf (mk U))))=.ok (U.map av):=by
 show R.ok ((mk U).map λp=>D.tup (p.1.map .int))=_;have:((mk U).map λp=>D.tup (p.1.map .int))=((mk U).map (·.1)).map av:=by rw[List.map_map];rfl
 rw[this,AM]
def Nz(ax):rT (some (some (.cf ax)))=.ok (.cf ax):=a9 rfl
def NA(ax):rT (some (some (.bN ax)))=.ok (.bN ax):=a9 rfl
def Tx(n:Nat)(hf:Φ f [bG m ts,.int ((n:Int)-1)]=.ok (.tup ((cl ts n).map av)))(aA:(cl ts n).length<=63):c6 pg Φ ⟨2,3,a5.x8 f⟩ [bG m ts,.int ((n:Int)-1)]=.ok (.cf (mk (cl ts n))):=by
 simp![a5.x8,OK,hf];have cV:=hy ts n;obtain⟨bP,e,x,he⟩:=gc (f:=av) (g:=turn pg Φ 0 [4] (.cons (.jK 2 4 (.var 3)) (.cons (.asg 3 (.bin .mul (.var 3) (.lit (.int 2)))) (.nil))))
  (λa3 ρ=>∃(x:Option D),ρ=[some (bG m ts),some (.int ((n:Int)-1)),some (.cf (mk a3)),some (.int ((2 ^ a3.length:Nat):Int)),x])
  (cl ts n) [some (bG m ts),some (.int ((n:Int)-1)),some (.cf []),some (.int 1),none] ⟨none,rfl⟩ (λpre c post ρ aB ⟨x,bW⟩=>by
   subst bW;have d6:pre.length+1<=(cl ts n).length:=(by rw[aB];simp);have ah:c∉(mk pre).map (·.1):=by
    rw[AM];intro z;rw[aB]at cV;exact(ada.mp cV).2.2 c z c List.mem_cons_self rfl
   have af:=NJ (mk pre) c ((2 ^ pre.length:Nat):Int) (by rw[TP];lia) ah;have hm:eE .mul (.int ((2 ^ pre.length:Nat):Int)) (.int 2)=.ok (.int ((2 ^ (pre++[c]).length:Nat):Int)):=by
    rw[l4 _ _ (.inr ⟨by rw[kb];lia,by rw[kb];lia⟩),abw,List.length_singleton,Nat.pow_succ];rfl
   refine⟨_,by simp![y1,af,hm];rfl,some (av c),?_⟩;rw[TQ])
 rw[e,he];simp![En,Nz]
def Aj(is):intsOf (is.map .int)=some is:=B7 is
def Yf{U xs:List (List Int)}(cV:U.Nodup)(ai:xs.Nodup)(h:∀x∈xs,x∈U):kY (xs.map λx=>D.int ((2 ^ cg U x:Nat):Int))=.ok (.int (bD U xs:Int)):=by
 have:=Aj (xs.map λx=>((2 ^ cg U x:Nat):Int));rw[List.map_map]at this;unfold kY;rw[show(xs.map λx=>D.int ((2 ^ cg U x:Nat):Int))=xs.map (D.int ∘ λx=>((2 ^ cg U x:Nat):Int)) from rfl,this];dsimp only;rw[GU cV ai h]
def LG(cV:U.Nodup)(ai:xs.Nodup)(h:∀x∈xs,x∈U):c6 pg Φ ⟨2,0,a5.xK⟩ [.lst (xs.map av),.cf (mk U)]=.ok (.int (bD U xs:Int)):=by
 have e1:dj (elem pg Φ [some (.lst (xs.map av)),some (.cf (mk U))] (.ig 1 2) 0 .none) (xs.map av)=.ok (xs.map λx=>D.int ((2 ^ cg U x:Nat):Int)):=hT λx ai=>by
  simp![r4,yM cV (h x ai)]
 simp![a5.xK,e1,VB,Yf cV ai h]
def xA(a b:Nat):eE .and (.int (a:Int)) (.int (b:Int))=.ok (.int ((a &&& b:Nat):Int)):=by
 show n1 (a:Int) (b:Int)=_;unfold n1;rw[if_pos (adK a),if_pos (adK b)];rfl
def ZY(a b:Nat):eE .xor (.int (a:Int)) (.int (b:Int))=.ok (.int ((a ^^^ b:Nat):Int)):=by
 show ub (a:Int) (b:Int)=_;unfold ub;rw[if_pos ⟨adK a,adK b⟩];rfl
def CO(a k):((a &&& 2 ^ k:Nat):Int)=0<->a.testBit k=false:=by
 have key:a &&& 2 ^ k=0<->a.testBit k=false:=by
  constructor
  .intro h;have:=acp (λz=>z.testBit k) h;simpa[ad2,ac4] using this
  .intro h;apply acs;intro i;rw[ad2,adg,ac0]
   by_cases q:k=i
   .rw[<- q,h];rfl
   .simp[q]
 rw[<- key];lia
def G4(a k):dX .ne (.int ((a &&& 2 ^ k:Nat):Int)) (.int 0)=.ok (a.testBit k):=by
 show h7 (.ok (((a &&& 2 ^ k:Nat):Int)==0))=_;cases q:a.testBit k with
 |false=>rw[ab6.mpr ((CO a k).mpr q)];rfl
 |true=>rw[acb.mpr λz=>by rw[(CO a k).mp z]at q;cases q];rfl
def L7(cV:U.Nodup)(b:Nat):c6 pg Φ ⟨2,0,a5.xO⟩ [.int (b:Int),.cf (mk U)]=.ok (.tup ((U.filter λc=>b.testBit (cg U c)).map av)):=by
 have e1:dj (elem pg Φ [some (.int (b:Int)),some (.cf (mk U))] (.var 2) 0 (.some (.cmp .ne (.bin .and (.var 0) (.ig 1 2)) (.lit (.int 0))))) (U.map av)=.ok ((U.filter λc=>b.testBit (cg U c)).map av):=lA λc ah=>by
  have:=G4 b (cg U c);simp![r4,yM cV ah,xA];have aa:h7 (.ok (((b &&& 2 ^ cg U c:Nat):Int)==0))=.ok (b.testBit (cg U c)):=this;rw[show h7 (.ok (((b &&& 2 ^ cg U c:Nat):Int)==0))=R.ok (!(((b &&& 2 ^ cg U c:Nat):Int)==0)) from rfl]at aa;injection aa with aa;rw[aa];cases b.testBit (cg U c)<;>rfl
 simp![a5.xO,uZ,DQ,e1]
noncomputable def cj(r:Row):D:=.tup [.int (r.1:Int),.int (r.2:Int)]
noncomputable def dg(ts:List (List Int))(n:Nat):List Nat:=(cl ts n).map λc=>bD (cl ts (n-1)) (cJ c)
def Wl{c1 bC pZ:Nat}(n:Nat)(aH:∀t∈ts,IsCell m t)(c3:m<=6)(hm:∀n:Nat,Φ pZ [bG m ts,.int ((n:Int)-1)]=.ok (.cf (mk (cl ts n))))(af:∀c:List Int,c.length<=1000->Φ bC [av c]=.ok (.lst ((cJ c).map av)))(ae:∀U xs:List (List Int),U.Nodup->xs.Nodup->(∀x∈xs,x∈U)->Φ c1 [.lst (xs.map av),.cf (mk U)]=.ok (.int (bD U xs:Int))):
  c6 pg Φ ⟨2,2,a5.ya c1 bC pZ⟩ [bG m ts,.int (n:Int)]=.ok (.lst ((dB (dg ts (n+1))).map cj)):=by
 have cV:=hy ts (n+1);have nr:=hm n;have lZ:Φ pZ [bG m ts,.int (n:Int)]=.ok (.cf (mk (cl ts (n+1)))):=by
  have:=hm (n+1);rwa[show(((n+1:Nat):Int)-1)=(n:Int) by lia]at this
 have e1:dj (elem pg Φ [some (bG m ts),some (.int (n:Int)),some (.cf (mk (cl ts n))),some (.cf (mk (cl ts (n+1))))] (.tup (.cons (.call c1 (.cons (.call bC (.cons (.var 4) (.nil))) (.cons (.var 2) (.nil)))) (.cons (.ig 3 4) (.nil)))) 0 .none) ((cl ts (n+1)).map av)=.ok ((cl ts (n+1)).map λc=>cj (bD (cl ts n) (cJ c),2 ^ cg (cl ts (n+1)) c)):=hT λc ah=>by
  have vl:=rL aH ah;have hlen:c.length<=1000:=by
   obtain⟨_,_,t,J,aa⟩:=dS.mp ah;have:=aa.length_le;have:=pL (aH t J);lia
  simp![r4,af c hlen,ae (cl ts n) (cJ c) (hy ts n) (nH vl) (λe he=>mQ aH ah he),yM cV ah];rfl
 have ar:(dB (dg ts (n+1))).map cj=(cl ts (n+1)).map λc=>cj (bD (cl ts n) (cJ c),2 ^ cg (cl ts (n+1)) c):=by
  rw[idx_map cV λc i=>cj (bD (cl ts n) (cJ c),2 ^ i)];unfold dB dg;rw[List.zipIdx_map,List.map_map,List.map_map];rfl
 simp![a5.ya,nr,lZ,uZ,DQ,e1,ar]
def lT(r):fU (cj r) (.int 0)=.ok (.int (r.1:Int)):=rfl
def F3(r):fU (cj r) (.int 1)=.ok (.int (r.2:Int)):=rfl
def Yh(r q):c6 pg Φ ⟨2,0,a5.yd⟩ [cj r,cj q]=.ok (cj (r.1 ^^^ q.1,r.2 ^^^ q.2)):=by
 simp![a5.yd,lT,F3,ZY];rfl
noncomputable def dv(B:di):List (Int×Int×Int):=B.map λe=>(((2 ^ e.1:Nat):Int),(e.2.1:Int),(e.2.2:Int))
def HF(h:a≠b):((2 ^ a:Nat):Int)≠((2 ^ b:Nat):Int):=λz=>by
 have z:2 ^ a=2 ^ b:=Int.ofNat.inj z;rcases adt a b with q|q|q
 .have:=adu (show 1<2 by decide) q;lia
 .exact h q
 .have:=adu (show 1<2 by decide) q;lia
theorem J7 : ∀ {B : di}, (B.map (·.1)).Nodup -> ∀ e ∈ B, nN (dv B) ((2 ^ e.1 : Nat) : Int) = some ((e.2.1 : Int), (e.2.2 : Int))
  | f :: B, h, e, he => by
    obtain ⟨J, aa⟩ := ab9.mp h
    unfold nN dv
    rw [List.map_cons, List.find?_cons]
    dsimp only
    by_cases q : f.1 = e.1
    · have : f = e := by
        rcases abA.mp he with z | z
        · exact z.symm
        · exact absurd (List.mem_map.mpr ⟨e, z, q.symm⟩) J
      subst this
      rw [decide_eq_true rfl]
      rfl
    · rw [decide_eq_false (HF q)]
      exact J7 aa e ((abA.mp he).resolve_left fun z => q (by rw [z]))
def DP{B:di}(h:(B.map (·.1)).Nodup)(he:e∈B):lF (some (some (.bN (dv B)))) (some (some (.int ((2 ^ e.1:Nat):Int))))=.ok (cj e.2):=by
 show(match some (dv B),some ((2 ^ e.1:Nat):Int) with
  |some ax,some k=>(match nN ax k with|some r=>R.ok (o4 r)|none=>.bad)
  |_,_=>R.bad)=_
 dsimp only;rw[J7 h e he];rfl
def DS(B):pQ (some (some (.bN (dv B))))=.ok (B.map λe=>D.int ((2 ^ e.1:Nat):Int)):=by
 show R.ok ((dv B).map λp=>D.int p.1)=_;unfold dv;rw[List.map_map];rfl
def Wa(B)(e)(r):red (B++[e]) r=one (red B r) e:=by unfold red;rw[List.foldl_append];rfl
def Wc(hf:∀r q:Row,Φ f [cj r,cj q]=.ok (cj (r.1 ^^^ q.1,r.2 ^^^ q.2))){B:di}(h:(B.map (·.1)).Nodup)(r):c6 pg Φ ⟨2,1,a5.x9 f⟩ [cj r,.bN (dv B)]=.ok (cj (red B r)):=by
 simp![a5.x9,uZ,DS];obtain⟨bP,e,x,he⟩:=gc (f:=λe:Nat×Row=>D.int ((2 ^ e.1:Nat):Int)) (g:=turn pg Φ 0 [2] (.cons (.iff (.cmp .ne (.bin .and (.idx (.var 0) (.lit (.int 0))) (.var 2)) (.lit (.int 0))) (.cons (.asg 0 (.call f (.cons (.var 0) (.cons (.ig 1 2) (.nil))))) (.nil)) (.nil)) (.nil)))
  (λa3 ρ=>∃(x:Option D),ρ=[some (cj (red a3 r)),some (.bN (dv B)),x])
  B [some (cj r),some (.bN (dv B)),none] ⟨none,rfl⟩ (λpre e post ρ aB ⟨x,bW⟩=>by
   subst bW;have iL:e∈B:=(by rw[aB];simp);have aC:=G4 (red pre r).1 e.1;have aC:h7 (.ok ((((red pre r).1 &&& 2 ^ e.1:Nat):Int)==0))=.ok ((red pre r).1.testBit e.1):=aC;rw[Wa];unfold one;cases q:(red pre r).1.testBit e.1 with
   |true =>
    rw[q]at aC;refine⟨_,by simp![lT,xA,aC,r4,DP h iL,hf],some (.int ((2 ^ e.1:Nat):Int)),rfl⟩
   |false =>
    rw[q]at aC;refine⟨_,by simp![lT,xA,aC],some (.int ((2 ^ e.1:Nat):Int)),rfl⟩)
 rw[e,he];simp!
def Tr(n:Nat)(h:0<n):c6 pg Φ ⟨1,0,a5.x7⟩ [.int (n:Int)]=.ok (.int ((2 ^ lo n:Nat):Int)):=by
 have e:eE .and (.int (n:Int)) (.int (-(n:Int)))=.ok (.int ((2 ^ lo n:Nat):Int)):=by
  show n1 (n:Int) (-(n:Int))=_;unfold n1;rw[if_pos (adK n),if_neg ⋯];obtain⟨_,_,aJ,aW⟩:=Gw n h;have cb:(-(-(n:Int))-1).toNat=n-1:=⋯;rw[cb,Int.toNat_natCast];congr 2;lia
 simp![a5.x7,Ei,e]
def DW(ax)(k)(r)(h:ax.length<1000)(ah:k∉ax.map (·.1)):pT (some (some (.bN ax))) (some (some (.int k))) (cj r)=.ok (.bN (ax++[(k,(r.1:Int),(r.2:Int))])):=by
 have e:l8 ax k ((r.1:Int),(r.2:Int))=ax++[(k,(r.1:Int),(r.2:Int))]:=by
  unfold l8;rw[if_neg];intro z;obtain⟨p,aB,q⟩:=aew.mp z;exact ah (List.mem_map.mpr ⟨p,aB,by simpa using q⟩)
 show(if ax.length<1000 then R.ok (D.bN (l8 ax k ((r.1:Int),(r.2:Int)))) else .bad)=_;rw[if_pos h,e]
def NG(k)(r):rU (some (some (.int ((2 ^ k:Nat):Int)))) (some (some (cj r)))=.ok (.bN (dv [(k,r)])):=rfl
def DM(B){k:Nat}(h:k∉B.map (·.1)):((2 ^ k:Nat):Int)∉(dv B).map (·.1):=λz=>by
 unfold dv at z;rw[List.map_map]at z;obtain⟨e,he,q⟩:=List.mem_map.mp z;exact HF (λw=>h (List.mem_map.mpr ⟨e,he,w⟩)) q
def P5{fr fK:Nat}(a4:∀(B:di)(r:Row),(B.map (·.1)).Nodup->Φ fr [cj r,.bN (dv B)]=.ok (cj (red B r)))(aA:∀n:Nat,0<n->Φ fK [.int (n:Int)]=.ok (.int ((2 ^ lo n:Nat):Int))){B:di}(h:dy B)(d8:B.length<900)(r):
  c6 pg Φ ⟨2,4,a5.uA fr fK⟩ [.bN (dv B),cj r]=.ok (.bN (dv (grow B r))):=by
 have aC:=rZ h;have aY:=se h r
 by_cases c:(red B r).1=0
 .have hz:(((red B r).1:Int)==0)=true:=(by rw[c];rfl);simp![a5.uA,a4 B r aC,lT,hz];unfold grow;rw[if_pos c]
 .have hz:(((red B r).1:Int)==0)=false:=acb.mpr ⋯;have ay:=aA (red B r).1 ⋯;have ob:grow B r=B.map (λe=>(e.1,one e.2 (lo (red B r).1,red B r)))++[(lo (red B r).1,red B r)]:=(by unfold grow;rw[if_neg c]);rw[ob]at aY ⊢;have vr:=rZ aY;simp![a5.uA,a4 B r aC,lT,hz,ay,OL,uZ,DS];generalize red B r=l at vr;generalize lo l.1=k at vr;have EV:((B.map λe=>(e.1,one e.2 (k,l))).map (·.1))=B.map (·.1):=(by rw[List.map_map];rfl);have QQ:k∉B.map (·.1):=by
   rw[List.map_append,EV]at vr;exact λz=>(ada.mp vr).2.2 k z k (by simp) rfl
  obtain⟨bP,e,x,he⟩:=gc (f:=λe:Nat×Row=>D.int ((2 ^ e.1:Nat):Int)) (g:=turn pg Φ 0 [5] (.cons (.jK 4 5 (.call fr (.cons (.ig 0 5) (.cons (.pR 3 2) (.nil))))) (.nil)))
   (λa3 ρ=>∃(x:Option D),ρ=[some (.bN (dv B)),some (cj r),some (cj l),some (.int ((2 ^ k:Nat):Int)),some (.bN (dv (a3.map λe=>(e.1,one e.2 (k,l))))),x])
   B [some (.bN (dv B)),some (cj r),some (cj l),some (.int ((2 ^ k:Nat):Int)),some (.bN []),none] ⟨none,rfl⟩ (λpre e post ρ aB ⟨x,bW⟩=>by
    subst bW;have iL:e∈B:=(by rw[aB];simp);have d6:pre.length+1<=B.length:=(by rw[aB];simp);have J:=a4 [(k,l)] e.2 (by simp);have J:Φ fr [cj e.2,.bN (dv [(k,l)])]=.ok (cj (one e.2 (k,l))):=J;have d1:e.1∉(pre.map λe=>(e.1,one e.2 (k,l))).map (·.1):=by
     rw[List.map_map];intro z;have z:e.1∈pre.map (·.1):=z;rw[aB,List.map_append,List.map_cons]at aC;exact(ada.mp aC).2.2 e.1 z e.1 List.mem_cons_self rfl
    have aa:=DW (dv (pre.map λe=>(e.1,one e.2 (k,l)))) ((2 ^ e.1:Nat):Int) (one e.2 (k,l)) (by unfold dv;simp;lia) (DM _ d1);refine⟨_,by simp![y1,r4,Ou,DP aC iL,NG,J,aa];rfl,some (.int ((2 ^ e.1:Nat):Int)),?_⟩;unfold dv;simp only[List.map_append,List.map_cons,adF])
  rw[e,he];have aJ:=DW (dv (B.map λe=>(e.1,one e.2 (k,l)))) ((2 ^ k:Nat):Int) l (by unfold dv;simp;lia) (DM _ (by rw[EV];exact QQ));simp![y1,aJ,En,NA];unfold dv;simp only[List.map_append,List.map_cons,adF]
def P4(B)(rs)(r):dF B (rs++[r])=grow (dF B rs) r:=by unfold dF;rw[List.foldl_append];rfl
def ER(B)(r):(grow B r).length<=B.length+1:=by rw[sf];split<;>lia
theorem vf:∀(rs:List Row)(B:di),(dF B rs).length<=B.length+rs.length
 |[],B=>abz _
 |r::rs,B=>by
  have J:=vf rs (grow B r);have aa:=ER B r;show(dF (grow B r) rs).length<=_;rw[List.length_cons];lia
def sP(rs):(dR rs).1=dF [] rs:=by
 have key:∀(rs:List Row)(st:di×List Nat),(rs.foldl step st).1=dF st.1 rs:=λrs=>by
  induction rs with
  |nil=>intro st;rfl
  |cons r rs aE=>intro st;exact aE (step st r)
 exact key rs ([],[])
def FP(rs):(dR rs).2.length<=rs.length:=by
 have key:∀(rs:List Row)(st:di×List Nat),(rs.foldl step st).2.length<=st.2.length+rs.length:=λrs=>by
  induction rs with
  |nil=>intro st;exact abz _
  |cons r rs aE =>
   intro st;have J:=aE (step st r);have aa:(step st r).2.length<=st.2.length+1:=(by unfold step;dsimp only;split<;>simp);show(rs.foldl step (step st r)).2.length<=_;rw[List.length_cons];lia
 have:=key rs ([],[]);simp only[List.length_nil,ac3]at this;exact this
def Ly(aY:∀(B:di)(r:Row),dy B->B.length<900->Φ ih [.bN (dv B),cj r]=.ok (.bN (dv (grow B r))))(aA:rs.length<=63):c6 pg Φ ⟨1,2,a5.xJ ih⟩ [.lst (rs.map cj)]=.ok (.bN (dv (dF [] rs))):=by
 simp![a5.xJ,Ee];obtain⟨bP,e,x,he⟩:=gc (f:=cj) (g:=turn pg Φ 0 [2] (.cons (.asg 1 (.call ih (.cons (.var 1) (.cons (.var 2) (.nil))))) (.nil)))
  (λa3 ρ=>∃(x:Option D),ρ=[some (.lst (rs.map cj)),some (.bN (dv (dF [] a3))),x])
  rs [some (.lst (rs.map cj)),some (.bN []),none] ⟨none,rfl⟩ (λpre r post ρ aB ⟨x,bW⟩=>by
   subst bW;have d6:pre.length+1<=rs.length:=(by rw[aB];simp);have J:=vf pre [];have aa:=aY (dF [] pre) r (hW dy.nil) (by simp at J;lia);rw[P4];refine⟨_,by simp![aa],some (cj r),rfl⟩)
 rw[e,he];simp!
def rv(xs)(d)(h:xs.length<SZ):ru (some (some (.lst xs))) d=.ok (.lst (xs++[d])):=by rw[ux,if_pos h]
def R1{ih fr:Nat}(aY:∀(B:di)(r:Row),dy B->B.length<900->Φ ih [.bN (dv B),cj r]=.ok (.bN (dv (grow B r))))(a4:∀(B:di)(r:Row),(B.map (·.1)).Nodup->Φ fr [cj r,.bN (dv B)]=.ok (cj (red B r)))(aA:rs.length<=63):
  c6 pg Φ ⟨1,4,a5.xR ih fr⟩ [.lst (rs.map cj)]=.ok (.lst ((dR rs).2.map λb:Nat=>D.int (b:Int))):=by
 simp![a5.xR,Ee];obtain⟨bP,e,x,y,he⟩:=gc (f:=cj) (g:=turn pg Φ 0 [3] (.cons (.asg 4 (.call fr (.cons (.var 3) (.cons (.var 1) (.nil))))) (.cons (.iff (.cmp .eq (.idx (.var 4) (.lit (.int 0))) (.lit (.int 0))) (.cons (.app 2 (.idx (.var 4) (.lit (.int 1)))) (.nil)) (.nil)) (.cons (.asg 1 (.call ih (.cons (.var 1) (.cons (.var 3) (.nil))))) (.nil)))))
  (λa3 ρ=>∃(x y:Option D),ρ=[some (.lst (rs.map cj)),some (.bN (dv (dR a3).1)),some (.lst ((dR a3).2.map λb:Nat=>D.int (b:Int))),x,y])
  rs [some (.lst (rs.map cj)),some (.bN []),some (.lst []),none,none] ⟨none,none,rfl⟩ (λpre r post ρ aB ⟨x,y,bW⟩=>by
   subst bW;have d6:pre.length+1<=rs.length:=(by rw[aB];simp);have J:=vf pre [];have aW:=FP pre;have m4:dy (dR pre).1:=(by rw[sP];exact hW dy.nil);have aa:=aY (dR pre).1 r m4 (by rw[sP];simp at J;lia);have aJ:=a4 (dR pre).1 r (rZ m4);rw[FQ];unfold step;dsimp only
   by_cases c:(red (dR pre).1 r).1=0
   .have hz:(((red (dR pre).1 r).1:Int)==0)=true:=(by rw[c];rfl);have cb:=rv ((dR pre).2.map λb:Nat=>D.int (b:Int)) (.int ((red (dR pre).1 r).2:Int)) (by rw[List.length_map,gq];lia);rw[if_pos c];refine⟨_,by simp![aJ,lT,F3,hz,cb,aa];rfl,some (cj r),some (cj (red (dR pre).1 r)),?_⟩;rw[List.map_append];rfl
   .have hz:(((red (dR pre).1 r).1:Int)==0)=false:=acb.mpr ⋯;rw[if_neg c];refine⟨_,by simp![aJ,lT,hz,aa],some (cj r),some (cj (red (dR pre).1 r)),rfl⟩)
 rw[e,he];simp!
noncomputable def hS(U:List (List Int))(b:Nat):D:=.tup ((U.filter λc=>b.testBit (cg U c)).map av)
theorem Jb{α:Type}(f):∀xs:List α,∃ys:List α,ys.Perm xs/\hj (xs.map f)=ys.map f
 |[]=>⟨[],.nil,rfl⟩
 |x::xs=>by
  have ins:∀ys:List α,∃zs:List α,zs.Perm (x::ys)/\qj (f x) (ys.map f)=zs.map f:=λys=>by
   induction ys with
   |nil=>exact⟨[x],.refl _,rfl⟩
   |cons y ys aE =>
    rw[List.map_cons,qj]
    split
    .obtain⟨zs,p,e⟩:=aE;exact⟨y::zs,(p.cons y).trans (List.Perm.swap x y ys),by rw[e];rfl⟩
    .exact⟨x::y::ys,.refl _,rfl⟩
  obtain⟨ys,p,e⟩:=Jb f xs;obtain⟨zs,p2,ar⟩:=ins ys;exact⟨zs,p2.trans (p.cons x),by rw[List.map_cons,hj,e,ar]⟩
def L6(cV:U.Nodup)(aC:∀c∈U,c≠[])(h0:b≠0)(ae:b<2 ^ U.length):oG (hS U b)=true:=by
 obtain⟨i,aj⟩:∃i,b.testBit i=true:=Nat.exists_testBit_of_ne_zero h0;have bS:i<U.length:=by
  rcases afa i U.length with q|q
  .exact q
  .rw[ab0 (abG ae (abQ ∅ q))]at aj;cases aj
 have hm:U[i]∈U.filter λc=>b.testBit (cg U c):=List.mem_filter.mpr ⟨adm bS,by rw[An cV bS];exact aj⟩
 have ah:∀c∈U.filter λc=>b.testBit (cg U c),c≠[]:=λc h=>aC c (List.mem_filter.mp h).1
 unfold hS;generalize (U.filter λc=>b.testBit (cg U c))=cs at hm ah;cases cs with
 |nil=>cases hm
 |cons c cs =>
  have:=yJ ah;exact this
def jm(ts)(n):(dg ts n).length=(cl ts n).length:=by unfold dg;rw[List.length_map]
def GP(as):(dB as).length=as.length:=by unfold dB;simp
def uE(n)(aH:∀t∈ts,IsCell m t):∀r∈dB (dg ts (n+2)),r.1<2 ^ (dg ts (n+1)).length/\bd (dg ts (n+1)) r.1=0:=by
 intro r a4;obtain⟨p,aB,rfl⟩:=List.mem_map.mp a4;have Rn:p.1∈dg ts (n+2):=List.fst_mem_of_mem_zipIdx aB;obtain⟨c,ah,e⟩:=List.mem_map.mp Rn;dsimp only;rw[<- e,jm];have vl:=rL aH ah;have gy:∀x∈cJ c,x∈cl ts (n+1):=λx ai=>mQ aH ah ai
 refine⟨jW gy,Wk (hy ts n) gy (λx ai=>⟨nH (wy vl ai),λy aQ=>mQ aH (gy x ai) aQ⟩) λy=>?_⟩;have z:=Mp vl y;refine(acp (· % 2) (?e:_=cnt y (cJ c))).trans ?_
 case e=>exact aea λx _=>by simp only[abN]
 lia
structure Told(ts:List (List Int))(n:Nat)(G:List Nat):Prop where
 len:G.length+(dF [] (dB (dg ts (n+2)))).length+(dF [] (dB (dg ts (n+1)))).length=(cl ts (n+1)).length
def TN(as):(dB as).map (·.1)=as:=by
 unfold dB;rw[List.map_map];exact List.zipIdx_map_fst 0 as
def Wu{pY y9 fr ih fc pZ c1:Nat}(n:Nat)(aH:∀t∈ts,IsCell m t)(c3:m<=6)(aj:∀rs:List Row,rs.length<=63->Φ pY [.lst (rs.map cj)]=.ok (.lst ((dR rs).2.map λb:Nat=>D.int (b:Int))))(FF:∀n:Nat,Φ y9 [bG m ts,.int (n:Int)]=.ok (.lst ((dB (dg ts (n+1))).map cj)))(a4:∀(B:di)(r:Row),(B.map (·.1)).Nodup->Φ fr [cj r,.bN (dv B)]=.ok (cj (red B r)))(aY:∀(B:di)(r:Row),dy B->B.length<900->Φ ih [.bN (dv B),cj r]=.ok (.bN (dv (grow B r))))(ah:∀(U:List (List Int))(b:Nat),U.Nodup->Φ fc [.int (b:Int),.cf (mk U)]=.ok (hS U b))(hm:Φ pZ [bG m ts,.int (n:Int)]=.ok (.cf (mk (cl ts (n+1)))))(ae:∀rs:List Row,rs.length<=63->Φ c1 [.lst (rs.map cj)]=.ok (.bN (dv (dF [] rs)))):
  ∃G:List Nat,c6 pg Φ ⟨2,5,a5.yb pY y9 fr ih fc pZ c1⟩ [bG m ts,.int (n:Int)]=.ok (.tup (G.map (hS (cl ts (n+1)))))/\Told ts n G:=by
 have l1:(dB (dg ts (n+1))).length<=63:=by rw[GP,jm];exact rM c3 aH _
 have eQ:(dB (dg ts (n+2))).length<=63:=by rw[GP,jm];exact rM c3 aH _
 have aG:=FF n;have aV:Φ y9 [bG m ts,.int ((n:Int)+1)]=.ok (.lst ((dB (dg ts (n+2))).map cj)):=FF (n+1);have d9:=aj _ l1;have b1:=ae _ eQ;have cV:=hy ts (n+1);have st:=tW (dg ts (n+1));have tK:=Wt (dg ts (n+1)) _ (uE n aH);have zr:=FP (dB (dg ts (n+1)));have bM:=st.len;rw[sP,jm]at bM;have BC:=st.gP;rw[jm]at BC;have vj:=vf (dB (dg ts (n+2))) [];simp only[List.length_nil,ac3]at vj;have EZ:=hW (rs:=dB (dg ts (n+2))) dy.nil;simp![a5.yb,aG,aV,d9,b1,hm];generalize (dR (dB (dg ts (n+1)))).2=F at tK bM BC zr;generalize Qa:dF [] (dB (dg ts (n+2)))=gX at tK vj EZ;obtain⟨bP,e,x,y,J,aa,aJ,aW,he⟩:=gc (f:=λb:Nat=>D.int (b:Int)) (g:=turn pg Φ 0 [5] (.cons (.asg 6 (.tup (.cons (.var 5) (.cons (.lit (.int 0)) (.nil))))) (.cons (.iff (.cmp .ne (.idx (.call fr (.cons (.var 6) (.cons (.var 2) (.nil)))) (.lit (.int 0))) (.lit (.int 0))) (.cons (.app 4 (.call fc (.cons (.var 5) (.cons (.var 3) (.nil))))) (.cons (.asg 2 (.call ih (.cons (.var 2) (.cons (.var 6) (.nil))))) (.nil))) (.nil)) (.nil))))
  (λa3 ρ=>∃(x y:Option D),dy (a3.foldl tell (gX,[])).1/\(a3.foldl tell (gX,[])).1.length<=gX.length+a3.length/\(a3.foldl tell (gX,[])).2.length<=a3.length/\(∀b∈(a3.foldl tell (gX,[])).2,b≠0/\b<2 ^ (cl ts (n+1)).length) /\
   ρ=[some (bG m ts),some (.int (n:Int)),some (.bN (dv (a3.foldl tell (gX,[])).1)),some (.cf (mk (cl ts (n+1)))),some (.lst ((a3.foldl tell (gX,[])).2.map (hS (cl ts (n+1))))),x,y])
  F [some (bG m ts),some (.int (n:Int)),some (.bN (dv gX)),some (.cf (mk (cl ts (n+1)))),some (.lst []),none,none] ⟨none,none,EZ,abz _,abz _,(λ_ h=>nomatch h),rfl⟩ (λpre b post ρ aB ⟨x,y,J,aa,aJ,aW,bW⟩=>by
   subst bW;have Qo:b∈F:=(by rw[aB];simp);have d6:pre.length+1<=F.length:=(by rw[aB];simp);rw[List.foldl_append];show ∃bP,_/\∃x y,dy (tell (pre.foldl tell (gX,[])) b).1/\(tell (pre.foldl tell (gX,[])) b).1.length<=gX.length+(pre++[b]).length/\(tell (pre.foldl tell (gX,[])) b).2.length<=(pre++[b]).length/\(∀z∈(tell (pre.foldl tell (gX,[])) b).2,z≠0/\z<2 ^ (cl ts (n+1)).length)/\bP=[some (bG m ts),some (.int (n:Int)),some (.bN (dv (tell (pre.foldl tell (gX,[])) b).1)),some (.cf (mk (cl ts (n+1)))),some (.lst ((tell (pre.foldl tell (gX,[])) b).2.map (hS (cl ts (n+1))))),x,y];generalize pre.foldl tell (gX,[])=w at J aa aJ aW;obtain⟨B,G⟩:=w;dsimp only at J aa aJ aW;have g1:=se J (bare b);have g2:=ER B (bare b);have g3:=a4 B (bare b) (rZ J);have oi:=aY B (bare b) J ⋯;have PN:=ah (cl ts (n+1)) b cV;have e6:D.tup [.int (b:Int),.int 0]=cj (bare b):=rfl;have Z4:=wc (r:=bare b) J;unfold tell;dsimp only
   by_cases c:(red B (bare b)).1=0
   .have hz:(((red B (bare b)).1:Int)==0)=true:=(by rw[c];rfl);have r1:grow B (bare b)=B:=(by unfold grow;rw[if_pos c]);rw[if_pos c,r1];refine⟨_,by simp![e6,g3,lT,hz],some (.int (b:Int)),some (cj (bare b)),J,by rw[abw];lia,by rw[abw];lia,aW,rfl⟩
   .have hz:(((red B (bare b)).1:Int)==0)=false:=acb.mpr ⋯;have cb:=rv (G.map (hS (cl ts (n+1)))) (hS (cl ts (n+1)) b) (by rw[List.length_map,gq];lia);rw[if_neg c];refine⟨_,by simp![e6,g3,lT,hz,PN,cb,oi];rfl,some (.int (b:Int)),some (cj (bare b)),g1,by rw[abw,List.length_singleton];lia,by rw[abw,abw];simp;lia,λz hz=>?_,?_⟩
    .rcases abU.mp hz with hz|hz
     .exact aW z hz
     .rw[abK.mp hz];exact⟨λe=>c (Z4.mpr (by rw[e];exact o9 _)),BC b Qo⟩
    .rw[List.map_append];rfl)
 rw[e,he];generalize t1:(F.foldl tell (gX,[])).2=N at tK aJ aW;have vm:(N.map (hS (cl ts (n+1)))).all oG=true:=by
  rw[List.all_map,ab1];exact λb ae=>L6 cV (λc ah=>(dS.mp ah).2.1) (aW b ae).1 (aW b ae).2
 obtain⟨G,p,NU⟩:=Jb (hS (cl ts (n+1))) N;have af:ζ.sorted (N.map (hS (cl ts (n+1))))=.ok (.lst (G.map (hS (cl ts (n+1))))):=by
  unfold ζ.sorted;rw[vm,aeg,Bool.true_and,if_pos,NU];rw[List.length_map,abN];lia
 refine⟨G,by simp![t1,af],⟨?_⟩⟩;rw[p.length_eq,Qa];lia
noncomputable def nn(ts:List (List Int))(k:Nat):Nat:=(cl ts (k+1)).length
noncomputable def ck(ts:List (List Int))(k:Nat):Nat:=cB (dg ts (k+1))
noncomputable def dM(ts:List (List Int))(k:Nat):Nat:=nn ts k-ck ts (k+1)-ck ts k
def we(ts)(k):(dF [] (dB (dg ts (k+1)))).length=ck ts k:=by
 unfold ck;rw[Ij,TN]
def Told.sum(h:Told ts n G):dM ts n=G.length/\dM ts n+ck ts (n+1)+ck ts n=nn ts n:=by
 have:=h.len;rw[we,we]at this;have this:G.length+ck ts (n+1)+ck ts n=nn ts n:=this;unfold dM;lia
def IY(ρ)(c):cJ (c.map ρ)=(cJ c).map (List.map ρ):=by
 unfold cJ;rw[List.length_map]
 split
 .rw[List.map_map];refine abO λk _=>?_
  simp only[Function.comp,List.map_append,List.map_take,List.map_drop]
 .rfl
structure Move(ts wO:List (List Int))(s t:List Int)(ρ w8:Int->Int):Prop where
 fwd:∀n z,z∈cl ts n->z≠s->z≠t->z.map ρ∈cl wO n/\(z.map ρ).map w8=z
 bwd:∀n z,z∈cl wO n->∃y∈cl ts n,y≠s/\y≠t/\z=y.map ρ
structure Z7(ts:List (List Int))(s t:List Int):Prop where
 abj:t∈cl ts t.length
 cJ:s∈cJ t
 one:∀d,d∈cl ts (s.length+1)->s∈cH.cJ d->d=t
section
noncomputable def col(ts:List (List Int))(n:Nat)(c:List Int):Nat:=bD (cl ts n) (cH.cJ c)
end
section
variable{m:Int}{ts:List (List Int)}{s t:List Int}
def kk(aH:∀t∈ts,IsCell m t)(hz:z∈cO ts):b9 ltI z/\z≠[]/\z∈cl ts z.length:=by
 obtain⟨J,t,aa,aJ⟩:=fV.mp hz;exact⟨ab3 aJ (aH t aa).2.2,J,dS.mpr ⟨rfl,J,t,aa,aJ⟩⟩
def gN(hz:z∈cl ts n):z∈cO ts:=by
 obtain⟨_,J,aa⟩:=dS.mp hz;exact fV.mpr ⟨J,aa⟩
def u2(hz:z∈cO ts)(af:y.Sublist z)(aQ:y≠[]):y∈cO ts:=by
 obtain⟨_,t,aa,aJ⟩:=fV.mp hz;exact fV.mpr ⟨aQ,t,aa,af.trans aJ⟩
def vW{α:Type}{xs:List α}(aC:xs.Nodup){t:α}(J:t∈xs)(aa:∀o∈xs,o=t):xs=[t]:=by
 match xs,aC,J,aa with
 |[x],_,J,_=>rw[abK.mp J]
 |x::y::r,aC,_,aa =>
  have a:=aa x List.mem_cons_self;have b:=aa y (List.mem_cons_of_mem _ List.mem_cons_self);exact absurd (by rw[a,b];exact List.mem_cons_self) (ab9.mp aC).1
def Ek(ts):(cO ts).Nodup:=uy (xD ts)
end
noncomputable def lf(cs:List (List Int)):List Int:=c7 ltI (c8 cs.flatten)
noncomputable def fa(L:List Int)(x:Int):Int:=(cg L x:Nat)
noncomputable def vc(L:List Int)(i:Int):Int:=L.getD i.toNat 0
noncomputable def nb(cs:List (List Int)):List (List Int):=cs.map (List.map (fa (lf cs)))
def kO{cs:List (List Int)}:x∈lf cs<->∃c∈cs,x∈c:=by unfold lf;rw[jV,jU,List.mem_flatten]
def pG(cs):b9 ltI (lf cs):=lr hc (nB _)
def Th{A B:List (List Int)}(J:∀a∈A,a∈B)(aa:∀b∈B,∃a∈A,∀x∈b,x∈a):lf A=lf B:=jE hc (pG A) (pG B) λz=>by
 rw[kO,kO];exact⟨λ⟨c,a,b⟩=>⟨c,J c a,b⟩,λ⟨c,a,b⟩=>let ⟨d,e,f⟩:=aa c a;⟨d,e,f z b⟩⟩
def Zz{A B:List (List Int)}(gR:∀a∈A,a∈B)(d8:∀b∈B,∃a∈A,∀x∈b,x∈a)(aw:∀b∈B,b9 ltI b):b4 A=b4 B:=jE kG (rx A) (rx B) λz=>by
 rw[iP,iP];constructor
 .rintro⟨J,aa⟩;refine⟨gR z J,λo az aA af=>?_⟩;obtain⟨a,aJ,aW⟩:=d8 o az;have:o.length<=a.length:=iS (lp (aw o az)) aW;exact aa a aJ ⋯ (nj.mpr λx ai=>aW x (nj.mp af x ai))
 .rintro⟨J,aa⟩;refine⟨?_,λo az=>aa o (gR o az)⟩;obtain⟨a,aJ,aW⟩:=d8 z J
  by_cases e:z=a
  .rw[e];exact aJ
  .exact absurd (nj.mpr aW) (aa a (gR a aJ) (C2 (aw z J) (aw a (gR a aJ)) aW e))
def Wi(h:x∈L):vc L (fa L x)=x:=by
 have bS:=qo h;unfold vc fa;rw[Int.toNat_natCast,List.getD,aby bS];exact ach bS
def Wh(h:x∈L):0<=fa L x/\fa L x<(L.length:Int):=by
 have:=qo h;unfold fa;lia
def Wj(eA:b9 ltI L)(aw:a∈L)(ae:b∈L)(h:a<b):fa L a<fa L b:=by
 have J:=qo aw;have aa:=qo ae;have e1:L[cg L a]=a:=ach J;have ar:L[cg L b]=b:=ach aa;unfold fa;rcases adt (cg L a) (cg L b) with q|q|q
 .omega
 .exfalso;have:L[cg L a]=L[cg L b]:=(by congr 1);lia
 .exfalso;have:=adn.mp eA _ _ aa J q;rw[e1,ar]at this;simp[ltI]at this;lia
def H5(eA:b9 ltI L)(ah:b9 ltI c)(h:∀x∈c,x∈L):b9 ltI (c.map (fa L)):=by
 unfold b9;rw[ab4];refine abX (λ{a b} aw ae q=>?_) ah;have q:a<b:=by simpa[ltI] using q
 have:=Wj eA (h a aw) (h b ae) q;simpa[ltI] using this
section
variable{m:Int}{ts:List (List Int)}{s t:List Int}
def G1(aH:∀t∈ts,IsCell m t){cs:List (List Int)}(h:∀c∈cs,b9 ltI c/\c≠[]):∀c∈nb cs,IsCell ((lf cs).length:Int) c:=λc ah=>by
 obtain⟨z,hz,rfl⟩:=List.mem_map.mp ah;have gy:∀x∈z,x∈lf cs:=λx ai=>kO.mpr ⟨z,hz,ai⟩
 refine⟨λe=>(h z hz).2 (List.map_eq_nil_iff.mp e),λx ai=>?_,H5 (pG cs) (h z hz).1 gy⟩;obtain⟨y,aQ,rfl⟩:=List.mem_map.mp ai;exact Wh (gy y aQ)
end
structure cc(ts cs:List (List Int)):Prop where
 sub:∀c∈cs,c∈cO ts
 uT:∀c∈cs,∀y:List Int,y.Sublist c->y≠[]->y∈cs
 tm:cs.Nodup
def cc.cell(h:cc ts cs)(aH:∀t∈ts,IsCell m t):∀c∈cs,b9 ltI c/\c≠[]:=λc ah=>⟨(kk aH (h.sub c ah)).1,(kk aH (h.sub c ah)).2.1⟩
def cc.AQ(h:cc ts cs)(aH:∀t∈ts,IsCell m t):∀c∈nb cs,IsCell ((lf cs).length:Int) c:=G1 aH (h.cell aH)
def cc.dw(h:cc ts cs)(aH:∀t∈ts,IsCell m t)(c3:m<=6)(d1:cs≠[]):Net ((lf cs).length:Int) (b4 (nb cs)):=by
 refine AU ?_ ?_ (h.AQ aH) (pP.mpr λx x0 aT=>?_)
 .cases cs with
  |nil=>exact absurd rfl d1
  |cons e cs =>
   cases q:e with
   |nil=>exact absurd q (h.cell aH e List.mem_cons_self).2
   |cons y r =>
    have:=List.length_pos_of_mem (kO (cs:=e::cs) |>.mpr ⟨e,List.mem_cons_self,by rw[q];exact List.mem_cons_self⟩);rw[q]at this;lia
 .have:(lf cs).length<=(aK m).length:=iS (lp (pG _)) λz hz=>by
   obtain⟨c,J,aa⟩:=kO.mp hz;obtain⟨_,u,aJ,aW⟩:=fV.mp (h.sub c J);exact hI.mpr ((aH u aJ).2.1 z (aW.subset aa))
  have:=sU c3;lia
 .have bS:x.toNat<(lf cs).length:=⋯;obtain⟨c,J,aa⟩:=kO.mp (adm bS);refine⟨c.map (fa (lf cs)),List.mem_map.mpr ⟨c,J,rfl⟩,List.mem_map.mpr ⟨_,aa,?_⟩⟩;unfold fa;rw[An (lp (pG _)) bS];lia
def cc.fwd(h:cc ts cs)(aH:∀t∈ts,IsCell m t)(hz:z∈cs):z.map (fa (lf cs))∈cl (b4 (nb cs)) z.length/\(z.map (fa (lf cs))).map (vc (lf cs))=z:=by
 have ah:=h.AQ aH;have aC:z.map (fa (lf cs))∈nb cs:=List.mem_map.mpr ⟨z,hz,rfl⟩;obtain⟨u,aJ,aW⟩:=Ca ah _ _ aC (Nat.le_add_left _ _);have br:=ah u (iP.mp aJ).1;refine⟨dS.mpr ⟨by rw[List.length_map],(ah _ aC).1,u,aJ,jF (ah _ aC).2.2 br.2.2 aW⟩,?_⟩;rw[List.map_map];exact(abO λx ai=>Wi (kO.mpr ⟨z,hz,ai⟩)).trans (aeA z)
def cc.bwd(h:cc ts cs)(hz:z∈cl (b4 (nb cs)) n):∃y∈cs,y.length=n/\z=y.map (fa (lf cs)):=by
 obtain⟨J,aa,u,aJ,aW⟩:=dS.mp hz;obtain⟨c,cb,rfl⟩:=List.mem_map.mp (iP.mp aJ).1;obtain⟨y,eF,rfl⟩:=List.sublist_map_iff.mp aW;rw[List.length_map]at J;exact⟨y,h.uT c cb y eF λe=>aa (by rw[e];rfl),J,rfl⟩
noncomputable def lv(cs:List (List Int))(n:Nat):List (List Int):=cs.filter λc=>decide (c.length=n)
def hh:z∈lv cs n<->z∈cs/\z.length=n:=by
 unfold lv;rw[List.mem_filter];simp
def cc.inj(h:cc ts cs)(aH:∀t∈ts,IsCell m t){U:List (List Int)}(cV:U.Nodup)(af:∀c∈U,c∈cs):(U.map (List.map (fa (lf cs)))).Nodup:=by
 rw[abJ,ab4];refine abX (λ{a b} aw ae (q:a≠b) e=>q ?_) (abJ.mp cV);rw[<- (h.fwd aH (af a aw)).2,e,(h.fwd aH (af b ae)).2]
def cc.perm(h:cc ts cs)(aH:∀t∈ts,IsCell m t)(n):((lv cs n).map (List.map (fa (lf cs)))).Perm (cl (b4 (nb cs)) n):=by
 refine tw (h.inj aH (h.tm.filter _) λc ah=>(hh.mp ah).1) (hy _ n) λz=>⟨λq=>?_,λq=>?_⟩
 .obtain⟨y,aQ,rfl⟩:=List.mem_map.mp q;obtain⟨a,b⟩:=hh.mp aQ;rw[<- b];exact(h.fwd aH a).1
 .obtain⟨y,J,aa,rfl⟩:=h.bwd q;exact List.mem_map.mpr ⟨y,hh.mpr ⟨J,aa⟩,rfl⟩
theorem cc.nn(h:cc ts cs)(aH:∀t∈ts,IsCell m t)(n):cH.nn (b4 (nb cs)) n=(lv cs (n+1)).length:=by
 have:=(h.perm aH (n+1)).length_eq;rw[List.length_map]at this;exact this.symm
theorem cc.ck(h:cc ts cs)(aH:∀t∈ts,IsCell m t)(n)(m6:∀c∈lv cs n,c∈V):cH.ck (b4 (nb cs)) n=cB ((lv cs (n+1)).map λc=>bD V (cJ c)):=by
 have side:∀c∈lv cs (n+1),∀y∈cJ c,y∈cs/\y.length=n:=λc ah y aQ=>by
  obtain⟨J,aa⟩:=hh.mp ah;obtain⟨a,b,d⟩:=(hL (h.cell aH c J).1).mp aQ;exact⟨h.uT c J y d (BI (h.cell aH c J).1 aQ),⋯⟩
 have e:=H9 (U:=lv cs (n+1)) (V:=V) (V':=cl (b4 (nb cs)) n) (sd:=cJ) (List.map (fa (lf cs))) (List.map (vc (lf cs))) λc ah y aQ=>by
  obtain⟨a,b⟩:=side c ah y aQ;have:=h.fwd aH a;rw[b]at this;exact⟨m6 y (hh.mpr ⟨a,b⟩),this⟩
 rw[<- e];unfold cH.ck;refine Ih λx=>?_
 unfold dg;rw[show n+1-1=n from rfl,List.mem_map,List.mem_map];have p:=h.perm aH (n+1);constructor
 .rintro⟨z,hz,rfl⟩;obtain⟨c,ah,rfl⟩:=List.mem_map.mp (p.symm.subset hz);exact⟨c,ah,by rw[IY]⟩
 .rintro⟨c,ah,rfl⟩;exact⟨c.map (fa (lf cs)),p.subset (List.mem_map.mpr ⟨c,ah,rfl⟩),by rw[IY]⟩
def cc.eq(h:cc ts cs)(aH:∀t∈ts,IsCell m t){A:List (List Int)}(J:∀a∈A,a∈cs)(aa:∀b∈cs,∃a∈A,∀x∈b,x∈a):lf A=lf cs/\b4 (nb A)=b4 (nb cs):=by
 have e:=Th J aa;refine⟨e,?_⟩;unfold nb;rw[e];refine Zz (λa aw=>?_) (λb ae=>?_) λb ae=>?_
 .obtain⟨c,ah,rfl⟩:=List.mem_map.mp aw;exact List.mem_map.mpr ⟨c,J c ah,rfl⟩
 .obtain⟨c,ah,rfl⟩:=List.mem_map.mp ae;obtain⟨a,aJ,aW⟩:=aa c ah;refine⟨a.map _,List.mem_map.mpr ⟨a,aJ,rfl⟩,λx ai=>?_⟩;obtain⟨y,aQ,rfl⟩:=List.mem_map.mp ai;exact List.mem_map.mpr ⟨y,aW y aQ,rfl⟩
 .obtain⟨c,ah,rfl⟩:=List.mem_map.mp ae;exact H5 (pG _) (h.cell aH c ah).1 λx ai=>kO.mpr ⟨c,ah,ai⟩
noncomputable def ins(v:Int)(c:List Int):List Int:=c7 ltI (c++[v])
noncomputable def dl(v:Int)(c:List Int):List Int:=c.filter λx=>!decide (x=v)
noncomputable def jj(ts:List (List Int))(v:Int):List (List Int):=(cO ts).filter λc=>!decide (v∈c)&&decide (ins v c∈cO ts)
noncomputable def rest(ts:List (List Int))(v:Int):List (List Int):=(cO ts).filter λc=>!decide (v∈c)
noncomputable def wv(ts:List (List Int))(v:Int)(n:Nat):List (List Int):=(cl ts n).filter λc=>decide (v∈c)
def qu:z∈jj ts v<->z∈cO ts/\v∉z/\ins v z∈cO ts:=by unfold jj;rw[List.mem_filter];simp
def iQ:z∈wv ts v n<->z∈cl ts n/\v∈z:=by unfold wv;rw[List.mem_filter];simp
def l3:x∈ins v c<->x∈c\/x=v:=by unfold ins;rw[jV];simp
def mem_dl:x∈dl v c<->x∈c/\x≠v:=by unfold dl;rw[List.mem_filter];simp
def pF(h:b9 ltI c)(aN:v∉c):b9 ltI (ins v c):=lr hc (ada.mpr ⟨lp h,by simp,λa aw b ae e=>aN (by rw[<- abK.mp ae,<- e];exact aw)⟩)
def xC(h:b9 ltI c):b9 ltI (dl v c):=ab3 acH h
def NF(h:b9 ltI c)(aN:v∉c):dl v (ins v c)=c:=jE hc (xC (pF h aN)) h λz=>by
 rw[mem_dl,l3];exact⟨λq=>q.1.elim id λe=>absurd e q.2,λq=>⟨.inl q,λe=>aN (e▸q)⟩⟩
def qk(h:b9 ltI c)(aN:v∈c):ins v (dl v c)=c:=jE hc (pF (xC h) λq=>(mem_dl.mp q).2 rfl) h λz=>by
 rw[l3,mem_dl];constructor
 .rintro(q|rfl)
  .exact q.1
  .exact aN
 .intro q
  by_cases e:z=v
  .exact .inr e
  .exact .inl ⟨q,e⟩
def qq(v)(c):(ins v c).length=c.length+1:=by
 unfold ins;rw[(tx ltI _).length_eq];simp
def Ge(h:b9 ltI c)(aN:v∈c):(dl v c).length+1=c.length:=by rw[<- qq v (dl v c),qk h aN]
noncomputable def Yi(v:Int)(c:List Int):List (List Int):=(cJ c).filter λy=>decide (v∈y)
noncomputable def wF(v:Int)(c:List Int):List (List Int):=(cJ c).filter λy=>!decide (v∈y)
def GO:y∈wF v c<->y∈cJ c/\v∉y:=by unfold wF;rw[List.mem_filter];simp
def Cq(ts v n):(wv ts v n).Nodup:=(hy ts n).filter _
def q6(aH:∀t∈ts,IsCell m t)(h:c∈wv ts v n):b9 ltI c:=rL aH (iQ.mp h).1
noncomputable def bO(ts:List (List Int))(v:Int)(k:Nat):Nat:=cB ((wv ts v (k+1)).map λc=>bD (wv ts v k) (Yi v c))
def Cp(aH:∀t∈ts,IsCell m t)(h:c∈wv ts v (n+2)):dl v c∈lv (jj ts v) (n+1):=by
 have aw:=q6 aH h;obtain⟨J,aa⟩:=iQ.mp h;have aA:=Ge aw aa;have:=(dS.mp J).1;refine hh.mpr ⟨qu.mpr ⟨u2 (gN J) acH λe=>?_,λq=>(mem_dl.mp q).2 rfl,by rw[qk aw aa];exact gN J⟩,⋯⟩;rw[e,List.length_nil]at aA;lia
def T4(aH:∀t∈ts,IsCell m t)(h:c∈lv (jj ts v) n):ins v c∈wv ts v (n+1):=by
 obtain⟨J,aa⟩:=hh.mp h;have:=(kk aH (qu.mp J).2.2).2.2;rw[qq,aa]at this;exact iQ.mpr ⟨this,l3.mpr (.inr rfl)⟩
def T3(aH:∀t∈ts,IsCell m t)(h:c∈lv (jj ts v) n):b9 ltI c/\v∉c:=⟨(kk aH (qu.mp (hh.mp h).1).1).1,(qu.mp (hh.mp h).1).2.1⟩
def ZV(aH:∀t∈ts,IsCell m t)(n):((wv ts v (n+2)).map (dl v)).Perm (lv (jj ts v) (n+1)):=by
 refine tw ?_ (((Ek ts).filter _).filter _) λz=>⟨λq=>?_,λq=>?_⟩
 .rw[abJ,ab4];refine abX (λ{a b} aw ae (q:a≠b) e=>q ?_) (abJ.mp (Cq ts v (n+2)));rw[<- qk (q6 aH aw) (iQ.mp aw).2,e,qk (q6 aH ae) (iQ.mp ae).2]
 .obtain⟨c,ah,rfl⟩:=List.mem_map.mp q;exact Cp aH ah
 .have:=T3 aH q;exact List.mem_map.mpr ⟨ins v z,T4 aH q,NF this.1 this.2⟩
def ZU(ah:[v]∈cO ts):wv ts v 1=[[v]]:=by
 refine vW (Cq ts v 1) (iQ.mpr ⟨dS.mpr ⟨rfl,fV.mp ah⟩,by simp⟩) λo az=>?_
 obtain⟨J,aa⟩:=iQ.mp az;obtain⟨x,rfl⟩:=aeh.mp (dS.mp J).1;rw[abK.mp aa]
def H7(ts):ck ts 0=0:=Ii λx ai=>by
 obtain⟨c,ah,rfl⟩:=List.mem_map.mp ai;have e:cJ c=[]:=by unfold cJ;rw[if_neg (by have:=(dS.mp ah).1;lia)]
 rw[e];rfl
def lq(m):b9 ltI (aK m):=by
 unfold aK b9;rw[ab4];exact acS (λ{a b}(q:a<b)=>by simp[ltI];lia) acU
def je(m):(aK m).length=m.toNat:=by unfold aK;simp
def kX(h:1<=m):∀t∈[aK m],IsCell m t:=λt aH=>by
 rw[abK.mp aH];refine⟨λe=>?_,λx ai=>hI.mp ai,lq m⟩;have:=je m;rw[e,List.length_nil]at this;lia
def vO:z∈cO [aK m]<->z≠[]/\z.Sublist (aK m):=by rw[fV];simp
def wC(aw:b9 ltI z)(aC:z≠[])(h:∀x∈z,0<=x/\x<m):z∈cO [aK m]:=vO.mpr ⟨aC,jF aw (lq m) λx ai=>hI.mpr (h x ai)⟩
def JO(aH:∀t∈ts,IsCell m t)(hz:z∈cO ts):z∈cO [aK m]:=by
 obtain⟨J,t,aa,aJ⟩:=fV.mp hz;exact wC (kk aH hz).1 J λx ai=>(aH t aa).2.1 x (aJ.subset ai)
noncomputable def cmp(m:Int)(c:List Int):List Int:=(aK m).filter λx=>!decide (x∈c)
def jT:x∈cmp m c<->(0<=x/\x<m)/\x∉c:=by unfold cmp;rw[List.mem_filter,hI];simp
def mI(m c):b9 ltI (cmp m c):=ab3 acH (lq m)
def Mk(aw:b9 ltI c)(h:∀x∈c,0<=x/\x<m):cmp m (cmp m c)=c:=jE hc (mI m _) aw λz=>by
 rw[jT,jT];constructor
 .rintro⟨a,b⟩;exact acG λq=>b ⟨a,q⟩
 .exact λq=>⟨h z q,λw=>w.2 q⟩
def s6(aw:b9 ltI c)(h:∀x∈c,0<=x/\x<m):(cmp m c).length+c.length=m.toNat:=by
 have:=DI (lp (lq m)) (lp aw) λx ai=>hI.mpr (h x ai)
 rw[je,adf]at this;exact this
def md(hz:z∈cO [aK m]):b9 ltI z/\z≠[]/\∀x∈z,0<=x/\x<m:=by
 obtain⟨J,aa⟩:=vO.mp hz;exact⟨ab3 aa (lq m),J,λx ai=>hI.mp (aa.subset ai)⟩
noncomputable def cp(m:Int)(ts:List (List Int)):List (List Int):=(cO [aK m]).filter λc=>!decide (cmp m c=[])&&!decide (cmp m c∈cO ts)
def l2:z∈cp m ts<->z∈cO [aK m]/\cmp m z≠[]/\cmp m z∉cO ts:=by unfold cp;rw[List.mem_filter];simp
def qV(m ts):cc [aK m] (cp m ts):=⟨λc h=>(l2.mp h).1,λc h y af aQ=>by
 obtain⟨a,b,d⟩:=l2.mp h;have cQ:(cmp m c).Sublist (cmp m y):=jF (mI m c) (mI m y) λx ai=>jT.mpr ⟨(jT.mp ai).1,λq=>(jT.mp ai).2 (af.subset q)⟩
 exact l2.mpr ⟨u2 a af aQ,λe=>b (adV.mp (e▸cQ)),λe=>d (u2 e cQ b)⟩,(Ek _).filter _⟩
def H8(aH:∀t∈ts,IsCell m t)(n):ck ts (n+1)+ck ts n<=nn ts n:=by
 have st:=tW (dg ts (n+1));have e:(dR (dB (dg ts (n+1)))).1.length=ck ts n:=by rw[sP];exact we ts n
 have l:=st.len;have f:=st.fin;have i:=wh (as:=dg ts (n+2)) (bs:=(dR (dB (dg ts (n+1)))).2) λx ai=>eC (λa aw=>by
  have:=uE n aH;obtain⟨k,ay,e⟩:=aeG aw;have J:=this (a,2 ^ k) (List.mem_map.mpr ⟨(a,k),ady.mpr (by rw[aby ay,e]),rfl⟩);exact st.jQ _ J.1 J.2) ai
 rw[jm]at l;have i:ck ts (n+1)<=_:=i;unfold cB at i;unfold nn;lia
def Wo:∀{L:List Nat},L.Nodup->cB (L.map (2 ^ ·))=L.length:=λ{L}=>by
 refine snoc_ind (P:=λL=>L.Nodup->cB (L.map (2 ^ ·))=L.length) (λ_=>rfl) (λL a aE h=>?_) L;obtain⟨J,_,aa⟩:=ada.mp h;rw[List.map_append,ad4,(j1 _ _).2 λz=>?_,aE J,abw];rfl;have:=tV (k:=a) (λb ae=>by
  obtain⟨k,ay,rfl⟩:=List.mem_map.mp ae;rw[adg];exact decide_eq_false λe=>aa k ay a (by simp) e) z
 rw[ac4]at this;cases this
def XT(hz:z∈cO [aK m])(h0:0<=v/\v<m)(aN:v∉z):ins v z∈cO [aK m]:=by
 obtain⟨a,b,d⟩:=md hz;refine wC (pF a aN) (λe=>?_) λx ai=>?_
 .have:=qq v z;rw[e]at this;cases this
 .rcases l3.mp ai with q|rfl
  .exact d x q
  .exact h0
def wD(J:1<=m)(h0:0<=v/\v<m)(j):(wv [aK m] v (j+2)).length+(wv [aK m] v (j+1)).length=nn [aK m] j:=by
 have aH:=kX J;have p:=(ZV (v:=v) aH j).length_eq;rw[List.length_map]at p;have e:lv (jj [aK m] v) (j+1)=(cl [aK m] (j+1)).filter λc=>!decide (v∈c):=by
  unfold lv jj cl;rw[List.filter_filter,List.filter_filter];refine List.filter_congr λx ai=>?_
  by_cases q:v∈x
  .simp[q]
  .simp[q,XT ai h0 q]
 have q:(wv [aK m] v (j+1)++(cl [aK m] (j+1)).filter λc=>!decide (v∈c)).Perm (cl [aK m] (j+1)):=List.filter_append_perm _ _;have q:=q.length_eq;rw[abw,<- e]at q;unfold nn;lia
def XW(aw:b9 ltI c)(aN:v∈c)(aA:1<c.length):wF v c=[dl v c]:=by
 have hd:=Ge aw aN;refine vW ((nH aw).filter _) (GO.mpr ⟨(hL aw).mpr ⟨aA,hd,acH⟩,λq=>(mem_dl.mp q).2 rfl⟩) λo az=>?_
 obtain⟨J,aa⟩:=GO.mp az;obtain⟨_,aJ,aW⟩:=(hL aw).mp J;have:o.Sublist (dl v c):=jF (wy aw J) (xC aw) λx ai=>mem_dl.mpr ⟨aW.subset ai,λe=>aa (e▸ai)⟩
 exact this.eq_of_length ⋯
def AO(cV:U.Nodup)(ai:xs.Nodup)(h:∀x∈xs,x∈U)(p:List Int->Bool):bD U xs &&& bD U (U.filter p)=bD U (xs.filter p):=by
 refine acs λj=>?_
 rw[ad2]
 by_cases aI:j<U.length
 .rw[jh j aI ai cV,jh j aI (cV.filter _) cV,jh j aI (ai.filter _) cV,<- Bool.decide_and];refine aeq.mpr ?_;rw[List.mem_filter,List.mem_filter];exact⟨λq=>⟨q.1,q.2.2⟩,λq=>⟨q.1,adm aI,q.2⟩⟩
 .have z:∀{ys:List (List Int)},(∀y∈ys,y∈U)->(bD U ys).testBit j=false:=λh=>ab0 (abG (jW h) (abQ ∅ ⋯))
  rw[z h,z λy aQ=>h y (List.mem_filter.mp aQ).1];rfl
def I9(J:1<=m)(j):(wv [aK m] v (j+2)).length<=ck [aK m] (j+1):=by
 have aH:=kX J
 let V:=cl [aK m] (j+1)
 let L:=(wv [aK m] v (j+2)).map (col [aK m] (j+1))
 have d9:cB L<=ck [aK m] (j+1):=wh λx ai=>eC (λa aw=>by
  obtain⟨c,ah,rfl⟩:=List.mem_map.mp aw;exact es (List.mem_map.mpr ⟨c,(iQ.mp ah).1,rfl⟩)) ai
 have ln:lh (· &&& bD V (V.filter λc=>!decide (v∈c))):=λx y=>aeS
 have fz:=Ig ln L;have e:L.map (· &&& bD V (V.filter λc=>!decide (v∈c)))=((wv [aK m] v (j+2)).map λc=>cg V (dl v c)).map (2 ^ ·):=by
  rw[List.map_map,List.map_map];refine abO λc ah=>?_
  have aw:=q6 aH ah;have aA:=(dS.mp (iQ.mp ah).1).1;show bD V (cJ c) &&& _=2 ^ cg V (dl v c);rw[AO (U:=V) (hy _ _) (nH aw) λy aQ=>mQ aH (iQ.mp ah).1 aQ,show(cJ c).filter (λy=>!decide (v∈y))=wF v c from rfl,XW aw (iQ.mp ah).2 ⋯];unfold bD;simp[gI]
 rw[e,Wo,List.length_map]at fz
 .omega
 .rw[abJ,ab4];refine abX (λ{a b} aw ae (q:a≠b) e=>q ?_) (abJ.mp (Cq [aK m] v (j+2)));have RY:dl v a∈V:=by
   have:=hh.mp (Cp aH aw);have h:=(kk aH (qu.mp this.1).1).2.2;rwa[this.2]at h
  have RZ:dl v b∈V:=by
   have:=hh.mp (Cp aH ae);have h:=(kk aH (qu.mp this.1).1).2.2;rwa[this.2]at h
  have:dl v a=dl v b:=Sm RY RZ e;rw[<- qk (q6 aH aw) (iQ.mp aw).2,this,qk (q6 aH ae) (iQ.mp ae).2]
def qR(J:1<=m)(j):ck [aK m] (j+1)=(wv [aK m] 0 (j+2)).length:=by
 have a:=I9 (v:=0) J j;have b:(wv [aK m] 0 (j+3)).length<=ck [aK m] (j+2):=I9 J (j+1);have c:ck [aK m] (j+2)+ck [aK m] (j+1)<=nn [aK m] (j+1):=H8 (kX J) (j+1);have d:(wv [aK m] 0 (j+3)).length+(wv [aK m] 0 (j+2)).length=nn [aK m] (j+1):=wD J ⟨Int.le_refl 0,⋯⟩ (j+1);lia
def XS(J:1<=m)(hz:z<2 ^ (cl [aK m] (j+2)).length)(ae:bd (dg [aK m] (j+2)) z=0):sp (dg [aK m] (j+3)) z:=by
 refine OU (as:=dg [aK m] (j+2)) (λr a4=>?_) ?_ (by rw[jm];exact hz) ae
 .obtain⟨k,ay,e⟩:=aeG a4;exact uE (j+1) (kX J) (r,2 ^ k) (List.mem_map.mpr ⟨(r,k),ady.mpr (by rw[aby ay,e]),rfl⟩)
 .rw[jm];have a:cB (dg [aK m] (j+3))=_:=qR J (j+1);have b:cB (dg [aK m] (j+2))=_:=qR J j;have d:(wv [aK m] 0 (j+3)).length+(wv [aK m] 0 (j+2)).length=(cl [aK m] (j+2)).length:=wD J ⟨Int.le_refl 0,⋯⟩ (j+1);rw[a,b];exact afm d.symm
noncomputable def iv(U V:List (List Int)):Nat->Nat:=bd (U.map λc=>if c∈V then 2 ^ cg V c else 0)
def qy(h:∀x∈xs,x∈U/\x∈V):iv U V (bD U xs)=bD V xs:=by
 unfold iv;rw[lx λx ai=>(h x ai).1];unfold bD;exact acp gI (abO λx ai=>if_pos (h x ai).2)
def GW{xs:List (List Int)}(h:∀c∈xs,∀y∈cJ c,y∈U/\y∈V)(e:gI (xs.map λc=>bD U (cJ c))=0):gI (xs.map λc=>bD V (cJ c))=0:=by
 have:(xs.map λc=>bD V (cJ c))=(xs.map λc=>bD U (cJ c)).map (iv U V):=by
  rw[List.map_map];exact abO λc ah=>(qy (h c ah)).symm
 rw[this];unfold iv;rw[<- yi,e,uF]
noncomputable def ny(ts:List (List Int))(t:List Int):List (List Int):=(cJ t).filter λy=>!decide (y∈cO ts)
noncomputable def iE(m:Int)(ts:List (List Int))(s:Nat):Nat:=cB ((cl [aK m] (s+1)).map λt=>bD (cl [aK m] s) (ny ts t))
def V5(J:1<=m)(aH:∀t∈ts,IsCell m t)(j):ck [aK m] (j+2)+ck ts (j+1)=iE m ts (j+2)+nn ts (j+1):=by
 have af:=kX J;have Fb:∀n,∀c∈cl ts n,c∈cl [aK m] n:=λn c ah=>by
  have:=(kk af (JO aH (gN ah))).2.2;rwa[(dS.mp ah).1]at this
 have IK:∀c∈cl ts (j+2),∀y∈cJ c,y∈cl ts (j+1)/\y∈cl [aK m] (j+1):=λc ah y aQ=>⟨mQ aH ah aQ,Fb _ _ (mQ aH ah aQ)⟩
 let V:=cl [aK m] (j+2)
 let U:=cl ts (j+2)
 let L:=dg [aK m] (j+3)
 have kQ:V.Nodup:=hy _ _;have qz:U.Nodup:=hy _ _
 let p:List Int->Bool:=λy=>!decide (y∈cO ts)
 have ln:lh (· &&& bD V (V.filter p)):=λx y=>aeS
 have st:=tW (dg ts (j+2));have l:(dR (dB (dg ts (j+2)))).1.length+(dR (dB (dg ts (j+2)))).2.length=U.length:=by have:=st.len;rwa[jm]at this
 rw[sP,we ts (j+1)]at l;have fin:=st.fin;have gP:∀b∈(dR (dB (dg ts (j+2)))).2,b<2 ^ U.length:=λb ae=>by have:=st.gP b ae;rwa[jm]at this
 have nul:=st.nul;have jQ:∀z,z<2 ^ U.length->bd (dg ts (j+2)) z=0->sp (dR (dB (dg ts (j+2)))).2 z:=λz hz=>st.jQ z (by rw[jm];exact hz)
 generalize (dR (dB (dg ts (j+2)))).2=F at l fin gP nul jQ;have xH:∀b,b<2 ^ U.length->∃xs,(∀c∈xs,c∈U)/\xs.Nodup/\bD U xs=b:=λb ae=>⟨_,λc ah=>(List.mem_filter.mp ah).1,qz.filter _,GS qz ae⟩
 have both:∀{xs:List (List Int)},(∀c∈xs,c∈U)->∀c∈xs,c∈U/\c∈V:=λh c ah=>⟨h c ah,Fb _ _ (h c ah)⟩
 have V1:cB (F.map (iv U V))=F.length:=by
  rw[Ie (φ:=iv U V) (ψ:=iv V U) (ic _) (ic _) F λb ae=>?_]
  .exact fin
  .obtain⟨xs,aa,aJ,rfl⟩:=xH b (gP b ae);rw[qy (both aa),qy λc ah=>(both aa c ah).symm]
 have H6:∀a∈L,a<2 ^ V.length/\bd (dg [aK m] (j+2)) a=0:=λa aw=>by
  obtain⟨k,ay,e⟩:=aeG aw;have:=uE (j+1) af (a,2 ^ k) (List.mem_map.mpr ⟨(a,k),ady.mpr (by rw[aby ay,e]),rfl⟩);rwa[jm]at this
 have gR:∀a∈F.map (iv U V),a &&& bD V (V.filter p)=0:=λa aw=>by
  obtain⟨b,ae,rfl⟩:=List.mem_map.mp aw;obtain⟨xs,aa,aJ,rfl⟩:=xH b (gP b ae);rw[qy (both aa),AO kQ aJ λc ah=>(both aa c ah).2,aef.mpr λc ah=>?_]
  .rfl
  .simp[p,gN (aa c ah)]
 have gy:∀a∈F.map (iv U V),sp L a:=λa aw=>by
  obtain⟨b,ae,rfl⟩:=List.mem_map.mp aw;have hz:=nul b ae;obtain⟨xs,aa,aJ,rfl⟩:=xH b (gP b ae);rw[qy (both aa)];refine XS J (jW λc ah=>(both aa c ah).2) ?_;rw[show dg ts (j+2)=U.map λc=>bD (cl ts (j+1)) (cJ c) from rfl,lx aa]at hz;rw[show dg [aK m] (j+2)=V.map λc=>bD (cl [aK m] (j+1)) (cJ c) from rfl,lx λc ah=>(both aa c ah).2];exact GW (λc ah=>IK c (aa c ah)) hz
 have key:∀x,sp L x->x &&& bD V (V.filter p)=0->sp (F.map (iv U V)) x:=λx ai h0=>by
  have bS:x<2 ^ V.length:=wH (λa aw=>(H6 a aw).1) ai;have Ff:bd (dg [aK m] (j+2)) x=0:=Jd (φ:=bd (dg [aK m] (j+2))) (ic _) (λa aw=>(H6 a aw).2) ai;have ex:=GS kQ bS;have gz:∀c∈V.filter (λc=>x.testBit (cg V c)),c∈U:=λc ah=>by
   obtain⟨cy,bU⟩:=List.mem_filter.mp ah;have iM:c∈cO ts:=acG λq=>by
    have aJ:=TR kQ (kQ.filter p) (x:=c) (List.mem_filter.mpr ⟨cy,by simp[p,q]⟩) cy;have aW:=acp (λn=>n.testBit (cg V c)) h0;simp only[ad2,ac0]at aW;rw[bU,Bool.true_and]at aW;exact aJ aW
   have:=(kk aH iM).2.2;rwa[(dS.mp cy).1]at this
  have bJ:=kQ.filter λc=>x.testBit (cg V c)
  generalize V.filter (λc=>x.testBit (cg V c))=xs at ex gz bJ;subst ex;rw[show dg [aK m] (j+2)=V.map λc=>bD (cl [aK m] (j+1)) (cJ c) from rfl,lx λc ah=>(both gz c ah).2]at Ff;have:=jQ (bD U xs) (jW gz) (by
   rw[show dg ts (j+2)=U.map λc=>bD (cl ts (j+1)) (cJ c) from rfl,lx gz];exact GW (λc ah y aQ=>(IK c (gz c ah) y aQ).symm) Ff)
  have:=nI (ic (U.map λc=>if c∈V then 2 ^ cg V c else 0)) this;rw[<- qy (both gz)];exact this
 have e1:=Wq ln gR L key;have ar:cB (F.map (iv U V)++L)=cB L:=wg λx=>⟨eC λa aw=>(abU.mp aw).elim (gy a) λh=>es h,eC λa aw=>es (abL _ aw)⟩
 have bo:L.map (· &&& bD V (V.filter p))=(cl [aK m] (j+3)).map λt=>bD V (ny ts t):=by
  show((cl [aK m] (j+3)).map λt=>bD V (cJ t)).map _=_;rw[List.map_map];exact abO λt h=>AO kQ (nH (rL af h)) (λy aQ=>mQ af h aQ) p
 rw[bo,V1,ar]at e1;have e1:ck [aK m] (j+2)=F.length+iE m ts (j+2):=e1;have l:ck ts (j+1)+F.length=nn ts (j+1):=l;lia
def kM:z∈lv (cp m ts) i<->z∈cl [aK m] i/\cmp m z≠[]/\cmp m z∉cO ts:=by
 rw[hh,l2];constructor
 .rintro⟨⟨a,b⟩,c⟩;exact⟨dS.mpr ⟨c,fV.mp a⟩,b⟩
 .rintro⟨a,b⟩;exact⟨⟨gN a,b⟩,(dS.mp a).1⟩
def Md(aw:b9 ltI z)(h:∀x∈z,0<=x/\x<m)(aC:z≠[]):z∈cl [aK m] z.length:=dS.mpr ⟨rfl,fV.mp (wC aw aC h)⟩
def DA(m c):∀x∈cmp m c,0<=x/\x<m:=λx ai=>(jT.mp ai).1
def lz(hz:z∈cl [aK m] i)(af:i+s=m.toNat)(h:0<s):cmp m z∈cl [aK m] s/\cmp m (cmp m z)=z/\cmp m z≠[]:=by
 obtain⟨a,_,b⟩:=md (gN hz);have l:=s6 a b;have:=(dS.mp hz).1;have e:(cmp m z).length=s:=by lia -verbose
 have ne:cmp m z≠[]:=λq=>by rw[q]at e;simp at e;lia -verbose
 have:=Md (mI m z) (DA m z) ne;rw[e]at this;exact⟨this,Mk a b,ne⟩
def DX(aH:∀t∈ts,IsCell m t)(h:i+s=m.toNat)(aj:0<i)(af:0<s):(lv (cp m ts) i).length+(cl ts s).length=(cl [aK m] s).length:=by
 have p:((cl [aK m] s).filter (λc=>decide (c∈cO ts))++(cl [aK m] s).filter λc=>!decide (c∈cO ts)).Perm (cl [aK m] s):=List.filter_append_perm _ _;have p1:((cl [aK m] s).filter λc=>decide (c∈cO ts)).Perm (cl ts s):=tw ((hy _ _).filter _) (hy _ _) λz=>by
  rw[List.mem_filter,abN];constructor
  .rintro⟨a,b⟩;exact dS.mpr ⟨(dS.mp a).1,fV.mp b⟩
  .intro a;exact⟨dS.mpr ⟨(dS.mp a).1,fV.mp (JO aH (gN a))⟩,gN a⟩
 have p2:((lv (cp m ts) i).map (cmp m)).Perm ((cl [aK m] s).filter λc=>!decide (c∈cO ts)):=by
  refine tw ?_ ((hy _ _).filter _) λz=>⟨λq=>?_,λq=>?_⟩
  .rw[abJ,ab4];refine abX (λ{a b} aw ae (q:a≠b) e=>q ?_) (abJ.mp ((qV m ts).tm.filter _));rw[<- (lz (kM.mp aw).1 h af).2.1,e,(lz (kM.mp ae).1 h af).2.1]
  .obtain⟨c,ah,rfl⟩:=List.mem_map.mp q;obtain⟨cy,bU,hx⟩:=kM.mp ah;exact List.mem_filter.mpr ⟨(lz cy h af).1,by simp[hx]⟩
  .obtain⟨a,b⟩:=List.mem_filter.mp q;have b:z∉cO ts:=(by simpa using b);obtain⟨bR,b3,lC⟩:=lz a (by lia -verbose:s+i=m.toNat) aj;exact List.mem_map.mpr ⟨cmp m z,kM.mpr ⟨bR,by rw[b3];exact(fV.mp (gN a)).1,by rw[b3];exact b⟩,b3⟩
 have l:=p.length_eq;rw[abw,p1.length_eq,<- p2.length_eq,List.length_map]at l
 lia -verbose
def NM (J : 1 <= m) (h : i + 2 + s = m.toNat) (af : 0 < s) : ck (b4 (nb (cp m ts))) (i + 1) = iE m ts s := by
  have ah := kX J
  have cQ := qV m ts
  let U := lv (cp m ts) (i + 2)
  let V := lv (cp m ts) (i + 1)
  have qz : U.Nodup := cQ.tm.filter _
  have kQ : V.Nodup := cQ.tm.filter _
  have vC : ∀ c ∈ U, c ∈ cl [aK m] (i + 2) /\ cmp m c ≠ [] /\ cmp m c ∉ cO ts := fun c h => kM.mp h
  have vD : ∀ c ∈ V, c ∈ cl [aK m] (i + 1) /\ cmp m c ≠ [] /\ cmp m c ∉ cO ts := fun c h => kM.mp h
  have IZ : ∀ c ∈ U, ∀ y ∈ cJ c, y ∈ V := fun c sm y aQ => by
    obtain ⟨aa, aJ⟩ := hh.mp sm
    have aw := (cQ.cell ah c aa).1
    obtain ⟨_, b, d⟩ := (hL aw).mp aQ
    exact hh.mpr ⟨cQ.uT c aa y d (BI aw aQ), by lia -verbose⟩
  have De : ∀ c ∈ U, cmp m c ∈ cl [aK m] s /\ cmp m (cmp m c) = c /\ cmp m c ≠ [] := fun c aa => lz (vC c aa).1 h af
  have rG : ∀ e ∈ V, cmp m e ∈ cl [aK m] (s + 1) /\ cmp m (cmp m e) = e /\ cmp m e ≠ [] := fun e aa => lz (vD e aa).1 (by lia -verbose) (by lia -verbose)
  have e1 : ck (b4 (nb (cp m ts))) (i + 1) = cB (U.map fun c => bD V (V.filter fun e => decide (e ∈ cJ c))) := by
    rw [cQ.ck ah (V := V) (i + 1) fun c h => h]
    refine acp cB (abO fun c sm => ?_)
    refine GR kQ (nH (cQ.cell ah c (hh.mp sm).1).1) (kQ.filter _) (fun x => ?_) fun x ai => IZ c sm x ai
    rw [List.mem_filter, abN]
    exact ⟨fun q => ⟨IZ c sm x q, q⟩, fun q => q.2⟩
  have ar := Wr qz kQ fun c e => decide (e ∈ cJ c)
  have te : ∀ e ∈ V, ∀ y, y ∈ ny ts (cmp m e) -> y ∈ cl [aK m] s /\ cmp m y ∈ U /\ cmp m (cmp m y) = y := fun e he y aQ => by
    obtain ⟨q8, mn⟩ := List.mem_filter.mp aQ
    have mn : y ∉ cO ts := by simpa using mn
    have Ac : y ∈ cl [aK m] s := mQ ah (rG e he).1 q8
    obtain ⟨bR, b3, lC⟩ := lz Ac (by lia -verbose : s + (i + 2) = m.toNat) (by lia -verbose)
    exact ⟨Ac, kM.mpr ⟨bR, by rw [b3]; exact (fV.mp (gN Ac)).1, by rw [b3]; exact mn⟩, b3⟩
  have bo := H9 (U := V) (V := cl [aK m] s) (V' := U) (sd := fun e => ny ts (cmp m e)) (cmp m) (cmp m) te
  have eK : (V.map fun e => bD U ((ny ts (cmp m e)).map (cmp m))) = V.map fun e => bD U (U.filter fun c => decide (e ∈ cJ c)) := abO fun e he => by
    have oB := (md (gN (rG e he).1)).1
    have Fi := md (gN (vD e he).1)
    refine GR qz ?_ (qz.filter _) (fun z => ?_) fun z hz => ?_
    · rw [abJ, ab4]
      refine abX (fun {a b} aw ae (q : a ≠ b) w => q ?_) (abJ.mp ((nH oB).filter _))
      rw [<- (te e he a aw).2.2, w, (te e he b ae).2.2]
    · rw [List.mem_map, List.mem_filter, abN]
      constructor
      · rintro ⟨y, aQ, rfl⟩
        obtain ⟨nr, lZ, aa4⟩ := te e he y aQ
        refine ⟨lZ, (hL (mI m y)).mpr ?_⟩
        obtain ⟨_, s2, s3⟩ := (hL oB).mp (List.mem_filter.mp aQ).1
        have l1 := (dS.mp (vC _ lZ).1).1
        have eQ := (dS.mp (vD e he).1).1
        refine ⟨by lia -verbose, by lia -verbose, jF Fi.1 (mI m y) fun x ai => jT.mpr ⟨Fi.2.2 x ai, fun q => ?_⟩⟩
        exact (jT.mp (s3.subset q)).2 ai
      · rintro ⟨bY, bV⟩
        have RR := (md (gN (vC z bY).1))
        obtain ⟨_, s2, s3⟩ := (hL RR.1).mp bV
        refine ⟨cmp m z, List.mem_filter.mpr ⟨(hL oB).mpr ⟨?_, ?_, jF (mI m z) oB fun x ai => jT.mpr ⟨(jT.mp ai).1, fun q => (jT.mp ai).2 (s3.subset q)⟩⟩, by simp [(vC z bY).2.2]⟩, (De z bY).2.1⟩
        · have := (dS.mp (rG e he).1).1; lia -verbose
        · have := (dS.mp (rG e he).1).1
          have := (dS.mp (De z bY).1).1
          lia -verbose
    · obtain ⟨y, aQ, rfl⟩ := List.mem_map.mp hz
      exact (te e he y aQ).2.1
  rw [eK] at bo
  rw [e1, <- ar, bo]
  unfold iE
  refine wg fun x => ⟨eC fun a aw => ?_, eC fun a aw => ?_⟩
  · obtain ⟨e, he, rfl⟩ := List.mem_map.mp aw
    exact es (List.mem_map.mpr ⟨cmp m e, (rG e he).1, rfl⟩)
  · obtain ⟨t, aH, rfl⟩ := List.mem_map.mp aw
    by_cases q : t ∈ cO ts
    · have : ny ts t = [] := by
        unfold ny
        rw [aef]
        intro y aQ w
        have oB := (md (gN aH)).1
        have w : y ∉ cO ts := by simpa using w
        exact w (u2 q ((hL oB).mp aQ).2.2 (BI oB aQ))
      rw [this]
      exact o9 _
    · obtain ⟨bR, b3, lC⟩ := lz aH (by lia -verbose : s + 1 + (i + 1) = m.toNat) (by lia -verbose)
      refine es (List.mem_map.mpr ⟨cmp m t, kM.mpr ⟨bR, by rw [b3]; exact (fV.mp (gN aH)).1, by rw [b3]; exact q⟩, by rw [b3]⟩)
def HU(aH:∀t∈ts,IsCell m t)(n):dM ts n+ck ts (n+1)+ck ts n=nn ts n:=by
 have:=H8 aH n;unfold dM
 lia -verbose
def Dw(J:1<=m):cl [aK m] m.toNat=[aK m]:=by
 refine vW (hy _ _) (dS.mpr ⟨je m,(kX J _ (by simp)).1,aK m,by simp,.refl _⟩) λo az=>?_
 obtain⟨a,_,t,b,d⟩:=dS.mp az;rw[abK.mp b]at d;exact d.eq_of_length (by rw[a,je])
def XU(J:1<=m)(j):nn [aK m] (j+1)=ck [aK m] (j+2)+ck [aK m] (j+1)/\nn [aK m] 0=ck [aK m] 1+1/\∀n,n+2=m.toNat->ck [aK m] (n+1)=1:=by
 have a:ck [aK m] (j+2)=(wv [aK m] 0 (j+3)).length:=qR J (j+1);have b:=qR J j;have c:(wv [aK m] 0 (j+3)).length+(wv [aK m] 0 (j+2)).length=nn [aK m] (j+1):=wD J ⟨Int.le_refl 0,by lia -verbose⟩ (j+1);have d:(wv [aK m] 0 2).length+(wv [aK m] 0 1).length=nn [aK m] 0:=wD J ⟨Int.le_refl 0,by lia -verbose⟩ 0;have e:ck [aK m] 1=(wv [aK m] 0 2).length:=qR J 0;have f:wv [aK m] 0 1=[[0]]:=ZU (wC (by simp[b9]) (by simp) λx ai=>by rw[abK.mp ai];lia -verbose);rw[f,List.length_singleton]at d;refine⟨by lia -verbose,by lia -verbose,λn aC=>?_⟩;rw[qR J n,aC];unfold wv;rw[Dw J,List.filter_cons_of_pos]
 .rfl
 .exact decide_eq_true (hI.mpr ⟨Int.le_refl 0,by lia -verbose⟩)
section
def uS(aP:Net m ts)(h:i+1=m.toNat\/i=m.toNat):lv (cp m ts) i=[]:=by
 rw[acF];intro z hz;obtain⟨a,b,c⟩:=kM.mp hz;obtain⟨bY,_,dV⟩:=md (gN a);have l:=s6 bY dV;have:=(dS.mp a).1;rcases h with h|h
 .obtain⟨x,e⟩:=aeh.mp (show(cmp m z).length=1 by lia -verbose);have ai:0<=x/\x<m:=DA m z x (by rw[e];simp);obtain⟨t,aH,aN⟩:=pP.mp aP.gM x ai.1 ai.2;exact c (by rw[e];exact fV.mpr ⟨by simp,t,aH,List.singleton_sublist.mpr aN⟩)
 .exact b (ac5 (by lia -verbose))
def NN(aP:Net m ts)(d1:cp m ts≠[]):3<=m.toNat/\(∀k x,k+x+3=m.toNat->dM (b4 (nb (cp m ts))) k+(if x=0 then 1 else 0)=dM ts x+(if k=0 then 1 else 0)) /\
  (∀n,n+2=m.toNat->dM ts n=0)/\∀n,m.toNat<=n+2->dM (b4 (nb (cp m ts))) n=0:=by
 have J:=aP.lo;have aH:=aP.cell;have af:=kX J;have cQ:=qV m ts;have eG:∀c∈b4 (nb (cp m ts)),IsCell ((lf (cp m ts)).length:Int) c:=λc q=>cQ.AQ af c (iP.mp q).1
 have b0:=HU aH;have tP:=HU eG;have k0:=H7 ts;have aaY:=H7 (b4 (nb (cp m ts)));obtain⟨z,hz⟩:=adW _ d1;obtain⟨x,ai⟩:∃x,x∈z:=adW z (md (l2.mp hz).1).2.1;have oD:[x]∈cp m ts:=cQ.uT z hz [x] (List.singleton_sublist.mpr ai) (by simp);obtain⟨aT,b7,iB⟩:=l2.mp oD;have Ct:[x]∈lv (cp m ts) 1:=hh.mpr ⟨oD,rfl⟩;have nu:3<=m.toNat:=by
  apply acG;intro q;have:=uS (i:=1) aP (by lia -verbose);rw[this]at Ct;cases Ct
 have f1:∀i s,i+s+2=m.toNat->nn (b4 (nb (cp m ts))) i+nn ts s=nn [aK m] s:=λi s h=>by
  rw[cQ.nn af];exact DX aH (by lia -verbose) (by lia -verbose) (by lia -verbose)
 have f2:∀i s,i+s+3=m.toNat->ck (b4 (nb (cp m ts))) (i+1)=iE m ts (s+1):=λi s h=>NM J (by lia -verbose) (by lia -verbose)
 have dZ:=V5 J aH;have f4:=λj=>XU J j
 have ez:ck (b4 (nb (cp m ts))) (m.toNat-2)=0:=by
  rw[cQ.ck af (V:=lv (cp m ts) (m.toNat-2)) _ λc h=>h,uS (i:=m.toNat-2+1) aP (by lia -verbose)];rfl
 have O2:nn ts 0=nn [aK m] 0:=by
  have:(lv (cp m ts) (m.toNat-1)).length+(cl ts 1).length=(cl [aK m] 1).length:=DX aH (by lia -verbose) (by lia -verbose) (by lia -verbose);rw[uS (i:=m.toNat-1) aP (by lia -verbose)]at this;simpa[nn] using this
 have u5:∀n,n+1=m.toNat->iE m ts n=1:=λn aC=>by
  unfold iE;rw[aC,Dw J];have FK:=lz (hh.mp Ct |>.2▸(kk af aT).2.2) (by rw[show([x]:List Int).length=1 from rfl];lia -verbose:([x]:List Int).length+n=m.toNat) (by lia -verbose);have Fm:=lq m;refine Wn (a:=bD (cl [aK m] n) (ny ts (aK m))) (λy aQ=>by simpa using aQ) (TS (hy _ _) ((nH Fm).filter _) (x:=cmp m [x]) (List.mem_filter.mpr ⟨(hL Fm).mpr ⟨?_,?_,acH⟩,by simp[iB]⟩) FK.1) (by simp)
  .rw[je];lia -verbose
  .rw[je,(dS.mp FK.1).1];exact aC
 refine⟨nu,λk x h=>?_,λn aC=>?_,λn aC=>?_⟩
 .match k,x with
  |0,0 =>
   have a:=f1 0 1 (by lia -verbose);have b:ck (b4 (nb (cp m ts))) 1=0:=(by rw[show m.toNat-2=1 by lia -verbose]at ez;exact ez);have c:=dZ 0;rw[u5 2 (by lia -verbose)]at c;obtain⟨d,e,f⟩:=f4 0;have g:=tP 0;have i:=b0 0;simp only[ac3,if_pos]at *
   lia -verbose
  |k+1,0 =>
   have a:=f1 (k+1) 1 (by lia -verbose);have b:ck (b4 (nb (cp m ts))) (k+2)=0:=(by rw[show m.toNat-2=k+2 by lia -verbose]at ez;exact ez);have b2:ck (b4 (nb (cp m ts))) (k+1)=iE m ts 2:=f2 k 1 (by lia -verbose);have c:=dZ 0;obtain⟨d,e,f⟩:=f4 0;have g:=tP (k+1);have i:=b0 0;have e1:k+1+1=k+2:=rfl;rw[e1]at g;rw[if_pos rfl,if_neg (by lia -verbose)];simp only[ac3]at *
   lia -verbose
  |0,x+1 =>
   have a:=f1 0 (x+2) (by lia -verbose);have b:=f2 0 (x+1) (by lia -verbose);have c:ck [aK m] (x+3)+ck ts (x+2)=iE m ts (x+3)+nn ts (x+2):=dZ (x+1);have bU:=dZ x;rw[u5 (x+3) (by lia -verbose)]at c;obtain⟨d,e,f⟩:=f4 (x+1);have d:nn [aK m] (x+2)=ck [aK m] (x+3)+ck [aK m] (x+2):=d;have g:=tP 0;have i:dM ts (x+1)+ck ts (x+2)+ck ts (x+1)=nn ts (x+1):=b0 (x+1);rw[if_neg (by lia -verbose),if_pos rfl];have b:ck (b4 (nb (cp m ts))) 1=iE m ts (x+2):=b;have g:dM (b4 (nb (cp m ts))) 0+ck (b4 (nb (cp m ts))) 1+ck (b4 (nb (cp m ts))) 0=nn (b4 (nb (cp m ts))) 0:=g
   lia -verbose
  |k+1,x+1 =>
   have a:=f1 (k+1) (x+2) (by lia -verbose);have b:ck (b4 (nb (cp m ts))) (k+1)=iE m ts (x+3):=f2 k (x+2) (by lia -verbose);have b2:ck (b4 (nb (cp m ts))) (k+2)=iE m ts (x+2):=f2 (k+1) (x+1) (by lia -verbose);have c:ck [aK m] (x+3)+ck ts (x+2)=iE m ts (x+3)+nn ts (x+2):=dZ (x+1);have bU:=dZ x;obtain⟨d,e,f⟩:=f4 (x+1);have d:nn [aK m] (x+2)=ck [aK m] (x+3)+ck [aK m] (x+2):=d;have g:dM (b4 (nb (cp m ts))) (k+1)+ck (b4 (nb (cp m ts))) (k+2)+ck (b4 (nb (cp m ts))) (k+1)=nn (b4 (nb (cp m ts))) (k+1):=tP (k+1);have i:dM ts (x+1)+ck ts (x+2)+ck ts (x+1)=nn ts (x+1):=b0 (x+1);rw[if_neg (by lia -verbose),if_neg (by lia -verbose)]
   lia -verbose
 .obtain⟨j,rfl⟩:∃j,n=j+1:=⟨n-1,by lia -verbose⟩;have c:=dZ j;rw[u5 (j+2) (by lia -verbose)]at c;have f:=(f4 0).2.2 (j+1) (by lia -verbose);have f:ck [aK m] (j+2)=1:=f;have i:=b0 (j+1)
  lia -verbose
 .have:nn (b4 (nb (cp m ts))) n=0:=by
   rw[cQ.nn af]
   by_cases q:n+1<=m.toNat
   .rw[uS (i:=n+1) aP (by lia -verbose)];rfl
   .rw[ad6,acF];intro z hz;obtain⟨a,_⟩:=kM.mp hz;obtain⟨bY,_,dV⟩:=md (gN a);have:=s6 bY dV;have:=(dS.mp a).1
    lia -verbose
  have:=tP n
  lia -verbose
end
def Eg(i j):ev pg Φ ρ (.kH i j)=qr ρ[i]? ρ[j]?:=a9 rfl
def OS(i)(e):ex pg Φ ρ (.o6 i e)=ev pg Φ ρ e>>=λd=>tT ρ[i]? d>>=λx=>.ok (.bJ (ρ.set i (some x))):=a9 rfl
def OO(i):ex pg Φ ρ (.pop i)=v8 ρ[i]?>>=λx=>.ok (.bJ (ρ.set i (some x))):=a9 rfl
def OT(c)(b):ex pg Φ ρ (.q3 c b)=k4 (λbP=>ev pg Φ bP c>>=λx=>eu x) (λbP=>eN pg Φ bP b) 200 ρ:=a9 rfl
def Ti(c o):c6 pg Φ ⟨2,0,a5.x6⟩ [av c,av o]=.ok (.aU (lies c o)):=by
 have e1:dj (elem pg Φ [some (av c),some (av o)] (.cmp .mem (.var 2) (.var 1)) 0 .none) (c.map .int)=.ok (c.map λx=>.aU (decide (x∈o))):=Mu λx _=>by
  simp!;unfold av;simp![AJ]
 simp![a5.x6,kV,e1,KU,lies]
def Tj(hf:∀c o:List Int,Φ f [av c,av o]=.ok (.aU (lies c o)))(c)(os:List (List Int)):c6 pg Φ ⟨2,0,a5.rD f⟩ [av c,.lst (os.map av)]=.ok (.aU (os.any (lies c))):=by
 have e1:dj (elem pg Φ [some (av c),some (.lst (os.map av))] (.call f (.cons (.var 0) (.cons (.var 2) .nil))) 0 .none) (os.map av)=.ok (os.map λo=>.aU (lies c o)):=hT λo _=>by simp![hf]
 simp![a5.rD,e1,CQ]
def ZC(hf:∀(c:List Int)(os:List (List Int)),Φ f [av c,.lst (os.map av)]=.ok (.aU (os.any (lies c))))(aC:∀c∈cs,c≠[])(EU:(c8 cs).length<=63):
  c6 pg Φ ⟨1,4,a5.ye f⟩ [.lst (cs.map av)]=.ok (.tup ((b4 cs).map av)):=by
 simp![a5.ye,wI aC EU];have hlen:(c7 lexLt (c8 cs)).length<=63:=by rw[ni];exact EU
 unfold b4;generalize c7 lexLt (c8 cs)=ds at *;generalize D.lst (cs.map av)=d;obtain⟨bP,e,x,y,he⟩:=gc (f:=av) (g:=turn pg Φ 0 [3] (.cons (.asg 4 (.comp (.var 5) 0 (.seq (.var 1)) (.some (.cmp .gt (.prim .len (.var 5)) (.prim .len (.var 3)))))) (.cons (.iff (.not (.call f (.cons (.var 3) (.cons (.var 4) .nil)))) (.cons (.app 2 (.var 3)) .nil) .nil) .nil)))
  (λa3 ρ=>∃(x y:Option D),ρ=[some d,some (.lst (ds.map av)),some (.lst ((a3.filter λc=>!(ds.filter λo=>decide (c.length<o.length)).any (lies c)).map av)),x,y])
  ds [some d,some (.lst (ds.map av)),some (.lst []),none,none] ⟨none,none,rfl⟩ (λpre c post ρ aB ⟨x,y,bW⟩=>by
   subst bW;have d6:pre.length+1<=ds.length:=(by rw[aB];simp);have e1:∀z,dj (elem pg Φ [some d,some (.lst (ds.map av)),z,some (av c),y] (.var 5) 0 (.some (.cmp .gt (.prim .len (.var 5)) (.prim .len (.var 3))))) (ds.map av)=.ok ((ds.filter λo=>decide (c.length<o.length)).map av):=λz=>lA λo _=>by
    simp![lX]
    by_cases q:c.length<o.length
    .have cN:(c.length:Int)<(o.length:Int):=⋯;simp only[decide_eq_true q,decide_eq_true cN,acj]
    .have cN:¬(c.length:Int)<(o.length:Int):=⋯;simp only[decide_eq_false q,decide_eq_false cN,abx,abS]
   have Fj:=acw (λc:List Int=>!(ds.filter λo=>decide (c.length<o.length)).any (lies c)) pre;cases q:(ds.filter λo=>decide (c.length<o.length)).any (lies c) with
   |true =>
    refine⟨_,by simp![e1,hf,q];rfl,some (av c),_,by rw[r7 pre (by rw[q];rfl)]⟩
   |false =>
    have cb:=rv ((pre.filter λc=>!(ds.filter λo=>decide (c.length<o.length)).any (lies c)).map av) (av c) (by rw[List.length_map,gq];lia);refine⟨_,by simp![e1,hf,q,cb];rfl,some (av c),_,by rw[va pre (by rw[q];rfl),List.map_append];rfl⟩)
 rw[e,he];simp!
def O0(xs ys):pV (some (some (.lst xs))) (.tup ys)=if xs.length+ys.length<=SZ then .ok (.lst (xs++ys)) else .bad:=a9 rfl
def Gu(aA:L.length<=1000)(h:x∈L):qr (some (some (.lst (L.map .int)))) (some (some (.int x)))=.ok (.int (fa L x)):=by
 show(match intsOf (L.map .int),some x with
  |some au,some k=>if k∈au/\au.length<=1000 then R.ok (D.int (au.idxOf k:Nat)) else .bad
  |_,_=>.bad)=_
 rw[Aj];dsimp only;rw[if_pos ⟨h,aA⟩];rfl
def Ey{cs:List (List Int)}(c3:∀c∈cs,c.length<=8)(aA:cs.length<=1000):cs.flatten.length<=8000:=by
 have:=Ez c3;lia
def Hg(aA:(lf cs).length<=63)(h:∀c∈cs,∀x∈c,elem pg Φ (ρ++[some (av c)]) e 0 .none (.int x)=.ok (some (.int (fa (lf cs) x)))):dj (elem pg Φ ρ (.tupI (.seq (.comp e 0 (.seq (.var ρ.length)) .none))) 0 .none) (cs.map av)=.ok ((nb cs).map av):=by
 have:(nb cs).map av=cs.map λc=>av (c.map (fa (lf cs))):=by unfold nb;rw[List.map_map];rfl
 rw[this];refine hT λc ah=>?_
 have e1:dj (elem pg Φ (ρ++[some (av c)]) e 0 .none) (c.map .int)=.ok (c.map λx=>D.int (fa (lf cs) x)):=hT (h c ah);have ar:ev pg Φ (ρ++[some (av c)]) (.var ρ.length)=.ok (av c):=y0 _ (by rw[abW (abz _),Nat.sub_self];rfl);have bo:D.tup (c.map λx=>D.int (fa (lf cs) x))=av (c.map (fa (lf cs))):=by unfold av;rw[List.map_map];rfl
 rw[uX,Eb];simp only[R.jk,acj,yZ,u0,Ed,ar,kV,e1,vR,IM,bo]
def Uj(hf:∀cs:List (List Int),(∀c∈cs,c≠[])->(c8 cs).length<=63->Φ f [.lst (cs.map av)]=.ok (.tup ((b4 cs).map av)))(d1:cs≠[])(ah:∀c∈cs,c≠[])(c3:∀c∈cs,c.length<=8)(aA:cs.length<=63+63)(J:(lf cs).length<=63)(aa:(c8 (nb cs)).length<=63):
  c6 pg Φ ⟨1,3,a5.uD f c0⟩ [.lst (cs.map av)]=.ok (bG (lf cs).length (b4 (nb cs))):=by
 have hz:((cs.length:Int)==0)=false:=acb.mpr (by have:=adY.mpr d1;lia);have ae:=Ey c3 ⋯;simp![a5.uD,List.length_map,hz];obtain⟨bP,e,x,he⟩:=gc (f:=av) (g:=turn pg Φ 0 [2] (.cons (.ext 1 (.var 2)) (.nil)))
  (λa3 ρ=>∃(x:Option D),ρ=[some (.lst (cs.map av)),some (.lst (a3.flatten.map .int)),x,none])
  cs [some (.lst (cs.map av)),some (.lst []),none,none] ⟨none,rfl⟩ (λpre c post ρ aB ⟨x,bW⟩=>by
   subst bW;have hlen:(pre.flatten.map D.int).length+(c.map D.int).length<=SZ:=by
    have:pre.flatten.length+c.length<=cs.flatten.length:=(by rw[aB];simp);rw[List.length_map,List.length_map,gq];lia
   have he:pV (some (some (.lst (pre.flatten.map .int)))) (av c)=.ok (.lst ((pre++[c]).flatten.map .int)):=by
    unfold av;rw[O0,if_pos hlen,<- List.map_append];simp
   refine⟨_,by simp![Em,he],some (av c),rfl⟩)
 have hd:(c8 cs.flatten).length<=63:=by unfold lf at J;rw[ni]at J;exact J
 have af:eR (cs.flatten.map .int)=.ok (.lst ((lf cs).map .int)):=Jg hd;have aC:∀c∈nb cs,c≠[]:=λc cY=>by
  obtain⟨z,hz,rfl⟩:=List.mem_map.mp cY;exact λq=>ah z hz (List.map_eq_nil_iff.mp q)
 have ar:=Hg (pg:=pg) (Φ:=Φ) (cs:=cs) (ρ:=[some (.lst (cs.map av)),some (.lst (cs.flatten.map .int)),x,some (.lst ((lf cs).map .int))]) (e:=.kH 3 5) J λc cY y aQ=>by
  rw[acN,acN,acN,acN,List.nil_append,uX];simp![Eg,Gu (by lia:(lf cs).length<=1000) (kO.mpr ⟨c,cY,aQ⟩)]
 have ar:dj (elem pg Φ [some (.lst (cs.map av)),some (.lst (cs.flatten.map .int)),x,some (.lst ((lf cs).map .int))] (.tupI (.seq (.comp (.kH 3 5) 0 (.seq (.var 4)) .none))) 0 .none) (cs.map av)=.ok ((nb cs).map av):=ar;rw[e,he];simp![af,List.length_map,ar,hf _ aC aa];rfl
noncomputable def oQ(m:Nat)(ns:List Nat):Nat:=ns.foldl (λm x=>if x>m then x else m) m
theorem GZ:∀(ns:List Nat)(m:Nat),m<=oQ m ns/\∀n∈ns,n<=oQ m ns
 |[],m=>⟨abz _,λ_ h=>nomatch h⟩
 |x::ns,m=>by
  show m<=oQ (if x>m then x else m) ns/\_;obtain⟨J,aa⟩:=GZ ns (if x>m then x else m);refine⟨by split at J<;>split<;>lia,λn aC=>?_⟩;rcases abA.mp aC with rfl|aC
  .show n<=oQ (if n>m then n else m) ns
   split at J<;>split<;>lia
  .exact aa n aC
theorem GX:∀(ns:List Nat)(m:Nat),m<=k->(∀n∈ns,n<=k)->oQ m ns<=k
 |[],m,h,_=>h
 |x::ns,m,h,aC=>GX ns _ (by dsimp only;split;exact aC x List.mem_cons_self;exact h) λn h'=>aC n (List.mem_cons_of_mem _ h')
theorem GY:∀(ns:List Nat)(m:Nat),(ns.map λn:Nat=>(n:Int)).foldl (λm x=>if x>m then x else m) (m:Int)=(oQ m ns:Int)
 |[],m=>rfl
 |x::ns,m=>by
  rw[List.map_cons,List.foldl_cons];have:(if (x:Int)>(m:Int) then(x:Int) else(m:Int))=((if x>m then x else m:Nat):Int):=by
   by_cases q:x>m
   .rw[if_pos q,if_pos ⋯]
   .rw[if_neg q,if_neg ⋯]
  rw[this];exact GY ns _
noncomputable def aj:List (List Int)->Nat
 |[]=>0
 |t::ts=>oQ t.length (ts.map (·.length))
def zM:∀t∈ts,t.length<=aj ts:=by
 cases ts with
 |nil=>intro t h;cases h
 |cons a ts =>
  intro t h;obtain⟨J,aa⟩:=GZ (ts.map (·.length)) a.length;rcases abA.mp h with rfl|h
  .exact J
  .exact aa _ (List.mem_map.mpr ⟨t,h,rfl⟩)
def QG(h:∀t∈ts,t.length<=k):aj ts<=k:=by
 cases ts with
 |nil=>exact abZ _
 |cons a ts=>exact GX _ _ (h a List.mem_cons_self) λn aC=>by obtain⟨t,aH,rfl⟩:=List.mem_map.mp aC;exact h t (List.mem_cons_of_mem _ aH)
def GH(h:ts≠[]):kN (ts.map λt=>D.int (t.length:Int))=.ok (.int (aj ts:Int)):=by
 cases ts with
 |nil=>exact absurd rfl h
 |cons a ts =>
  have e:((a::ts).map λt=>D.int (t.length:Int))=((a::ts).map λt=>(t.length:Int)).map D.int:=(by rw[List.map_map];rfl);unfold kN;rw[e,Aj];show R.ok (D.int ((ts.map λt=>(t.length:Int)).foldl (λm x=>if x>m then x else m) (a.length:Int)))=_;have ar:(ts.map λt=>(t.length:Int))=(ts.map (·.length)).map λn:Nat=>(n:Int):=by rw[List.map_map];rfl
  rw[ar,GY];rfl
def QK(h:ts≠[]):c6 pg Φ ⟨1,0,a5.xX⟩ [bG m ts]=.ok (.int (aj ts:Int)):=by
 have fp:fU (bG m ts) (.int 1)=.ok (.tup (ts.map av)):=rfl;have e1:dj (elem pg Φ [some (bG m ts)] (.prim .len (.var 1)) 0 .none) (ts.map av)=.ok (ts.map λt=>D.int (t.length:Int)):=hT λt _=>by simp![lX]
 simp![a5.xX,fp,e1,HI,GH h]
def Rl(h:ts≠[])(c3:aj ts<=8)(hf:∀n:Nat,∃G:List Nat,Φ f [bG m ts,.int (n:Int)]=.ok (.tup (G.map (hS (cl ts (n+1)))))/\Told ts n G):c6 pg Φ ⟨1,1,a5.xQ f⟩ [bG m ts]=.ok (.tup ((List.range (aj ts)).map λk=>D.int (dM ts k:Int))):=by
 have fp:fU (bG m ts) (.int 1)=.ok (.tup (ts.map av)):=rfl;have e1:dj (elem pg Φ [some (bG m ts),none] (.prim .len (.var 2)) 0 .none) (ts.map av)=.ok (ts.map λt=>D.int (t.length:Int)):=hT λt _=>by simp![lX]
 have ar:dj (elem pg Φ [some (bG m ts),some (.int (aj ts:Int))] (.prim .len (.call f (.cons (.var 0) (.cons (.var 2) (.nil))))) 0 .none) ((List.range (aj ts)).map λk:Nat=>D.int (k:Int))=.ok ((List.range (aj ts)).map λk=>D.int (dM ts k:Int)):=hT λk _=>by
  obtain⟨G,a,b⟩:=hf k;simp![a,b.sum.1,List.length_map]
 simp![a5.xQ,fp,e1,HI,GH h,jl (i:=0) (j:=(aj ts:Int)) ⋯ ⋯ ⋯ ⋯,wb,ar]
def AS(h:Net m ts):ts≠[]:=λe=>by
 subst e;obtain⟨t,aH,_⟩:=pP.mp h.gM 0 (Int.le_refl 0) (by have:=h.lo;lia);cases aH
def AR(h:Net m ts):aj ts<=8:=QG λt aH=>by
 have:=pL (h.cell t aH);have:=h.aj;lia
def V8(h:aj ts<=k):dM ts k=0:=by
 have:cl ts (k+1)=[]:=by
  rw[acF];intro z hz;obtain⟨J,_,t,aa,aJ⟩:=dS.mp hz;have:=zM t aa;have:=aJ.length_le;lia
 unfold dM nn;rw[this];simp
noncomputable def gi(ts:List (List Int)):List (List Int):=(List.range (aj ts)).flatMap λh=>cl ts (h+1)
def AK(z):z∈gi ts<->z∈cO ts:=by
 unfold gi;rw[adB];constructor
 .rintro⟨h,_,hz⟩;exact gN hz
 .intro hz;obtain⟨J,t,aa,aJ⟩:=fV.mp hz;have aW:=zM t aa;have cb:=aJ.length_le;have eF:1<=z.length:=by cases z with|nil=>exact absurd rfl J|cons _ _=>simp
  refine⟨z.length-1,List.mem_range.mpr ⋯,dS.mpr ⟨⋯,J,t,aa,aJ⟩⟩
def Tc(ts):(gi ts).Nodup:=by
 unfold gi;rw[abJ,List.pairwise_flatMap];refine⟨λa _=>abJ.mp (hy ts (a+1)),acS (λ{a b}(h:a<b) x ai y aQ e=>?_) acU⟩;have J:=(dS.mp ai).1;have aa:=(dS.mp aQ).1;rw[e]at J;lia
def Tb(c3:m<=6)(aH:∀t∈ts,IsCell m t):(gi ts).length<=63:=acx (iS (Tc ts) λz hz=>(AK z).mp hz) (r5 c3 aH)
def S0(aH:∀t∈ts,IsCell m t)(c3:m<=6)(aaw:aj ts<=8)(cD:Φ m1 [bG m ts]=.ok (.int (aj ts:Int)))(ah:∀k:Nat,k<=7->Φ fc [bG m ts,.int (k:Int)]=.ok (.lst ((cl ts (k+1)).map av))):
  c6 pg Φ ⟨1,2,a5.xW m1 fc⟩ [bG m ts]=.ok (.lst ((gi ts).map av)):=by
 simp![a5.xW,cD,jl (i:=0) (j:=(aj ts:Int)) ⋯ ⋯ ⋯ ⋯,wb];obtain⟨bP,e,x,he⟩:=gc (f:=λk:Nat=>D.int (k:Int)) (g:=turn pg Φ 0 [2] (.cons (.asg 1 (.bin .add (.var 1) (.call fc (.cons (.var 0) (.cons (.var 2) (.nil)))))) (.nil)))
  (λa3 ρ=>∃(x:Option D),ρ=[some (bG m ts),some (.lst ((a3.flatMap λh=>cl ts (h+1)).map av)),x])
  (List.range (aj ts)) [some (bG m ts),some (.lst []),none] ⟨none,rfl⟩ (λpre k post ρ aB ⟨x,bW⟩=>by
   subst bW;have ay:k<aj ts:=List.mem_range.mp (by rw[aB];simp);have hlen:((pre.flatMap λh=>cl ts (h+1)).map av).length+((cl ts (k+1)).map av).length<=SZ:=by
    have J:=Tb c3 aH;unfold gi at J;rw[aB,acX,abw]at J;have aa:=rM c3 aH (k+1);rw[List.length_map,List.length_map,gq];lia
   refine⟨_,by simp![ah k ⋯,mF,if_pos hlen];rfl,some (.int (k:Int)),?_⟩;simp[acX])
 rw[e,he];simp![gi]
def S2(hf:∀cs:List (List Int),(∀c∈cs,c≠[])->(c8 cs).length<=63->Φ f [.lst (cs.map av)]=.ok (.tup ((nq cs).map av)))(ah:∀c∈cs,b9 ltI c/\c≠[])(c3:∀c∈cs,c.length<=8)(aA:cs.length<=63)(J:(lf cs).length<=63):
  c6 pg Φ ⟨1,2,a5.x3 f⟩ [.lst (cs.map av)]=.ok (bG (lf cs).length (b4 (nb cs))):=by
 have ae:=Ey c3 ⋯;simp![a5.x3];obtain⟨bP,e,x,he⟩:=gc (f:=av) (g:=turn pg Φ 0 [2] (.cons (.asg 1 (.bin .add (.var 1) (.kI (.seq (.var 2))))) (.nil)))
  (λa3 ρ=>∃(x:Option D),ρ=[some (.lst (cs.map av)),some (.lst (a3.flatten.map .int)),x])
  cs [some (.lst (cs.map av)),some (.lst []),none] ⟨none,rfl⟩ (λpre c post ρ aB ⟨x,bW⟩=>by
   subst bW;have hlen:(pre.flatten.map D.int).length+(c.map D.int).length<=SZ:=by
    have:pre.flatten.length+c.length<=cs.flatten.length:=(by rw[aB];simp);rw[List.length_map,List.length_map,gq];lia
   have he:eE .add (.lst (pre.flatten.map .int)) (.lst (c.map .int))=.ok (.lst ((pre++[c]).flatten.map .int)):=by
    rw[mF,if_pos hlen,<- List.map_append];simp
   refine⟨_,by simp![kV,he],some (av c),rfl⟩)
 have hd:(c8 cs.flatten).length<=63:=by unfold lf at J;rw[ni]at J;exact J
 have af:eR (cs.flatten.map .int)=.ok (.lst ((lf cs).map .int)):=Jg hd;have oq:=G1 (m:=0) (ts:=[]) (λt h=>by cases h) (cs:=cs) ah;have aa:(c8 (nb cs)).length<=63:=by have:=uR (nb cs);unfold nb at this ⊢;rw[List.length_map]at this;lia
 have ar:=Hg (pg:=pg) (Φ:=Φ) (cs:=cs) (ρ:=[some (.lst (cs.map av)),some (.lst ((lf cs).map .int)),x]) (e:=.kH 1 4) J λc cY y aQ=>by
  rw[acN,acN,acN,List.nil_append,uX];simp![Eg,Gu (by lia:(lf cs).length<=1000) (kO.mpr ⟨c,cY,aQ⟩)]
 have ar:dj (elem pg Φ [some (.lst (cs.map av)),some (.lst ((lf cs).map .int)),x] (.tupI (.seq (.comp (.kH 1 4) 0 (.seq (.var 3)) .none))) 0 .none) (cs.map av)=.ok ((nb cs).map av):=ar;rw[e,he];simp![af,List.length_map,ar,hf _ (λc cY=>(oq c cY).1) aa,GB λc cY=>(oq c cY).2.2];rfl
noncomputable abbrev rl:=Int×List (List Int)
structure Good(N:rl):Prop where
 dw:Net N.1 N.2
 len:N.2.length<=63
noncomputable def qT:Nat->List Int->List Int
 |0,xs=>xs
 |n+1,xs=>if xs.getLast?=some 0 then qT n xs.dropLast else xs
noncomputable def qU(xs:List Int):List Int:=qT xs.length xs
theorem Kg(st:List Int->bx)(ah:∀xs,c (st xs)=.ok (decide (xs.getLast?=some 0)))(hf:∀xs,xs≠[]->f (st xs)=.ok (.bJ (st xs.dropLast))):∀(n k:Nat)(xs:List Int),xs.length=k->k<n->k4 c f n (st xs)=.ok (.bJ (st (qT k xs)))
 |0,_,_,_,h=>by lia
 |n+1,0,xs,e,_=>by
  rw[ac5 e,k4,ah];rfl
 |n+1,k+1,xs,e,h=>by
  rw[k4,ah,qT]
  by_cases q:xs.getLast?=some 0
  .rw[if_pos q,decide_eq_true q];simp only[R.jk,acj,hf xs (λz=>by rw[z]at e;cases e)];exact Kg st ah hf n k xs.dropLast (by rw[List.length_dropLast];lia) ⋯
  .rw[if_neg q,decide_eq_false q];rfl
def Ta(aA:af.length<100):c6 pg Φ ⟨1,1,a5.xY⟩ [av (h::af)]=.ok (.lst ((qU ((h-1)::af)).map .int)):=by
 have hw:=Kg (c:=λbP=>ev pg Φ bP (.and (.cmp .ne (.var 1) (.lst (.nil))) (.cmp .eq (.idx (.var 1) (.neg (.lit (.int 1)))) (.lit (.int 0))))>>=λx=>eu x) (f:=λbP=>eN pg Φ bP (.cons (.pop 1) (.nil)))
  (λxs=>[some (av (h::af)),some (.lst (xs.map .int))]) (λxs=>by
   have e1:=N9 xs [];have e1:fw (.lst (xs.map .int)) (.lst [])=.ok (decide (xs=[])):=e1;cases xs with
   |nil=>simp![e1,decide_true];rfl
   |cons x xs =>
    have aY:fU (.lst ((x::xs).map .int)) (.int (-1))=.ok (.int ((x::xs).getLastD 0)):=by
     rw[sQ,List.map_cons,PT,<- List.map_cons,getLast?_map];rw[List.getLast?_cons,List.getLastD_cons,List.getLastD_eq_getLast?];rfl
    have hA:decide ((x::xs)=[])=false:=(by simp);simp![Ei,e1,hA,aY];rw[List.getLast?_cons,List.getLastD_cons];congr 1;rw[Bool.eq_iff_iff];simp) (λxs ai=>by
   have aB:v8 (some (some (.lst (xs.map .int))))=.ok (.lst (xs.dropLast.map .int)):=by
    rw[List.map_dropLast];cases xs with
    |nil=>exact absurd rfl ai
    |cons x xs=>rfl
   simp![OO,aB]) 200 ((h-1)::af).length ((h-1)::af) rfl (by rw[List.length_cons];lia)
 have aY:fU (.lst ((h::af).map .int)) (.int 0)=.ok (.int h):=by rw[sQ,List.map_cons,PS]
 have lP:tT (some (some (.lst ((h::af).map .int)))) (.int (h-1))=.ok (.lst (((h-1)::af).map .int)):=rfl;rw[<- OT]at hw;simp![a5.xY,kV,aY,OS,lP,hw];rfl
def Ui:c6 pg Φ ⟨1,3,a5.uD f c0⟩ [.lst []]=.exc c0:=rfl
noncomputable def fB(cs:List (List Int)):D:=if cs=[] then .str h6 else bG (lf cs).length (b4 (nb cs))
def AB:PySem.Str.ofString "none"=h6:=rfl
def NP(hm:∀z,z∈cs<->z∈rQ)(aC:cs≠[]->Φ fn [.lst (cs.map av)]=.ok (bG (lf rQ).length (b4 (nb rQ)))):c6 pg Φ ⟨1,0,a5.uC fn⟩ [.lst (cs.map av)]=.ok (fB rQ):=by
 have e1:=yU (ys:=cs.map av) (wt 58 cs);unfold fB;cases cs with
 |nil =>
  have:rQ=[]:=acF.mpr λz hz=>by cases (hm z).mpr hz
  have e1:fw (D.lst []) (D.lst [])=.ok true:=e1;rw[if_pos this];simp![a5.uC,e1,adF,AB]
 |cons c cs =>
  have:rQ≠[]:=λe=>by have:=(hm c).mp List.mem_cons_self;rw[e]at this;cases this
  have aC:=aC (by simp);rw[if_neg this];rw[List.map_cons]at aC e1 ⊢;simp![a5.uC,e1,List.isEmpty_cons,aC]
def BF(m ts):dh 60 (bG m ts)=true:=by
 show(dh 59 (.int m)&&(dh 59 (.tup (ts.map av))&&true))=true;have:dh 59 (.tup (ts.map av))=true:=wt 57 ts;rw[this];rfl
def BD:dh 60 (.str h6)=true:=by decide +kernel
def D5(cs):fw (fB cs) (.str h6)=.ok (decide (cs=[])):=by
 unfold fB
 by_cases q:cs=[]
 .rw[if_pos q,yV BD BD,decide_eq_true q];have:gb (.str h6) (.str h6)=true:=(by decide +kernel);rw[this]
 .rw[if_neg q,yV (BF _ _) BD,decide_eq_false q];rfl
def D6(cs):fw (fB cs) (fB cs)=.ok true:=by
 unfold fB
 by_cases q:cs=[]
 .have:=D5 cs;unfold fB at this;rw[if_pos q]at this ⊢;rw[this,decide_eq_true q]
 .rw[if_neg q,yV (BF _ _) (BF _ _)];show R.ok (((_:Int)==_)&&(ko ((b4 (nb cs)).map av) ((b4 (nb cs)).map av)&&true))=_;rw[D4];simp
def cc.good(h:Good N)(s:cc N.2 cs)(aC:cs≠[]):Good (((lf cs).length:Int),b4 (nb cs)):=by
 have aH:=h.dw.cell;refine⟨s.dw aH h.dw.aj aC,?_⟩;have J:=JU (nb cs);have aa:cs.length<=(cH.cO N.2).length:=iS s.tm s.sub;have aJ:=r5 h.dw.aj aH;have aW:(nb cs).length=cs.length:=List.length_map _;show(b4 (nb cs)).length<=63;lia
def G8(h:cs≠[]):fB cs=bG (lf cs).length (b4 (nb cs)):=by unfold fB;rw[if_neg h]
def Ir(k b)(x y z):c6 pg Φ ⟨3,k,b⟩ [x,y,z]=oc (eN pg Φ (some x::some y::some z::List.replicate k none) b):=a9 rfl
def Tn(hf:∀c o:List Int,Φ f [av c,av o]=.ok (.aU (lies c o)))(c)(os:List (List Int)):c6 pg Φ ⟨2,0,a5.rD f⟩ [av c,.tup (os.map av)]=.ok (.aU (os.any (lies c))):=by
 have e1:dj (elem pg Φ [some (av c),some (.tup (os.map av))] (.call f (.cons (.var 0) (.cons (.var 2) .nil))) 0 .none) (os.map av)=.ok (os.map λo=>.aU (lies c o)):=hT λo _=>by simp![hf]
 simp![a5.rD,e1,CQ]
noncomputable def jD(m:Int)(ts:List (List Int))(c:List Int):Bool:=decide (0<(cmp m c).length)&&!ts.any (lies (cmp m c))
noncomputable def nZ(m:Int)(ts:List (List Int)):List (List Int):=(d5 (aK m)).filter (jD m ts)
def He(x)(c):dX .gj (.int x) (av c)=.ok (!decide (x∈c)):=by
 show h7 (hg (.int x) (c.map .int))=_;rw[AJ];rfl
def KS(h0:0<=m)(c3:m<=6)(hw:∀c:List Int,c.length<=8->Φ zb [av c]=.ok (.lst ((d5 c).map av)))(aA:∀(c:List Int)(os:List (List Int)),Φ fK [av c,.tup (os.map av)]=.ok (.aU (os.any (lies c)))):
  c6 pg Φ ⟨1,4,a5.xI fn zb fK⟩ [bG m ts]=oc (Φ fn [.lst ((nZ m ts).map av)]>>=λd=>.ok (.cI d)):=by
 have h1:fU (bG m ts) (.int 0)=.ok (.int m):=rfl;have d9:fU (bG m ts) (.int 1)=.ok (.tup (ts.map av)):=rfl;have a4:=jl (i:=0) (j:=m) ⋯ ⋯ ⋯ ⋯;have dQ:(aK m).length<=8:=by rw[je];lia
 have aa1:=s7 (aK m);have lc:(d5 (aK m)).length<=63:=by
  have:2 ^ (aK m).length<=2 ^ 6:=abQ ∅ (by rw[je];lia);lia
 have hU:D.tup ((aK m).map .int)=av (aK m):=rfl;simp![a5.xI,h1,a4,mb,hU,hw _ dQ];obtain⟨bP,e,x,y,he⟩:=gc (f:=av) (g:=turn pg Φ 0 [3] (.cons (.asg 4 (.tupI (.seq (.comp (.var 5) 0 (.seq (.var 1)) (.some (.cmp .gj (.var 5) (.var 3))))))) (.cons (.iff (.and (.cmp .gt (.prim .len (.var 4)) (.lit (.int 0))) (.not (.call fK (.cons (.var 4) (.cons (.idx (.var 0) (.lit (.int 1))) (.nil)))))) (.cons (.app 2 (.var 3)) (.nil)) (.nil)) (.nil))))
  (λa3 ρ=>∃(x y:Option D),ρ=[some (bG m ts),some (av (aK m)),some (.lst ((a3.filter (jD m ts)).map av)),x,y])
  (d5 (aK m)) [some (bG m ts),some (av (aK m)),some (.lst []),none,none] ⟨none,none,rfl⟩ (λpre c post ρ aB ⟨x,y,bW⟩=>by
   subst bW;have d6:pre.length+1<=(d5 (aK m)).length:=(by rw[aB];simp);have e1:dj (elem pg Φ [some (bG m ts),some (av (aK m)),some (.lst ((pre.filter (jD m ts)).map av)),some (av c),y] (.var 5) 0 (.some (.cmp .gj (.var 5) (.var 3)))) ((aK m).map .int)=.ok ((cmp m c).map .int):=lA λz _=>by
    simp![He];cases decide (z∈c)<;>rfl
   have ar:D.tup ((cmp m c).map .int)=av (cmp m c):=rfl;have aY:decide ((0:Int)<((cmp m c).length:Int))=decide (0<(cmp m c).length):=aeq.mpr ⋯;have Fj:=acw (jD m ts) pre;have cb:=rv ((pre.filter (jD m ts)).map av) (av c) (by rw[List.length_map,gq];lia);cases aO:decide (0<(cmp m c).length) with
   |false =>
    rw[aO]at aY;refine⟨_,by simp![kV,e1,ar,lX,aY];rfl,some (av c),some (av (cmp m c)),by rw[r7 pre (by unfold jD;rw[aO];rfl)]⟩
   |true =>
    rw[aO]at aY;cases ba:ts.any (lies (cmp m c)) with
    |true=>refine⟨_,by simp![kV,e1,ar,lX,aY,d9,aA,ba];rfl,some (av c),some (av (cmp m c)),by rw[r7 pre (by unfold jD;rw[aO,ba];rfl)]⟩
    |false=>refine⟨_,by simp![kV,e1,ar,lX,aY,d9,aA,ba,cb];rfl,some (av c),some (av (cmp m c)),by rw[va pre (by unfold jD;rw[aO,ba];rfl),List.map_append];rfl⟩)
 rw[e,he];simp![OR,uI];unfold nZ;cases Φ fn [.lst (((d5 (aK m)).filter (jD m ts)).map av)]<;>rfl
def R6(aH:∀t∈ts,IsCell m t)(aw:b9 ltI z)(aC:z≠[]):ts.any (lies z)=true<->z∈cO ts:=by
 rw[aew,fV];constructor
 .rintro⟨t,J,aa⟩;exact⟨aC,t,J,jF aw (aH t J).2.2 (nj.mp aa)⟩
 .rintro⟨_,t,J,aa⟩;exact⟨t,J,nj.mpr λx ai=>aa.subset ai⟩
def GK(aH:∀t∈ts,IsCell m t)(z):z∈nZ m ts<->z∈cp m ts:=by
 unfold nZ jD;rw[List.mem_filter,oO,l2,vO]
 by_cases q:cmp m z=[]
 .simp[q]
 .have:=R6 aH (mI m z) q;have aB:0<(cmp m z).length:=adY.mpr q;rw[decide_eq_true aB,Bool.true_and,acf,Bool.eq_false_iff];exact⟨λh=>⟨h.1,q,λw=>h.2 (this.mpr w)⟩,λh=>⟨h.1,λw=>h.2.2 (this.mp w)⟩⟩
noncomputable def iu(m:Int)(ts:List (List Int))(c:List Int):Bool:=!decide (cmp m c∈gi ts)
noncomputable def jR(m:Int)(ts:List (List Int)):List (List Int):=(List.range (m-1).toNat).flatMap λk=>(cG (k+1) (aK m)).filter (iu m ts)
def GL(J:1<=m)(z):z∈jR m ts<->z∈cp m ts:=by
 unfold jR iu;rw[adB,l2,vO];constructor
 .rintro⟨k,ay,hz⟩;obtain⟨a,b⟩:=List.mem_filter.mp hz;obtain⟨a1,a2⟩:=(kP _ _ _).mp a;have ay:=List.mem_range.mp ay;have b:cmp m z∉cO ts:=λw=>by rw[decide_eq_true ((AK _).mpr w)]at b;cases b
  have aw:b9 ltI z:=ab3 a2 (lq m);have l:=s6 aw λx ai=>hI.mp (a2.subset ai)
  refine⟨⟨λe=>(by rw[e]at a1;cases a1),a2⟩,λe=>?_,b⟩;rw[e,List.length_nil]at l;lia
 .rintro⟨⟨a,b⟩,c,d⟩;have aw:b9 ltI z:=ab3 b (lq m);have l:=s6 aw λx ai=>hI.mp (b.subset ai)
  have aa3:=adY.mpr a;have lc:=adY.mpr c;refine⟨z.length-1,List.mem_range.mpr ⋯,List.mem_filter.mpr ⟨(kP _ _ _).mpr ⟨⋯,b⟩,?_⟩⟩;rw[decide_eq_false λw=>d ((AK _).mp w)];rfl
def SQ(c3:m<=6)(n)(aC:n<=6):((List.range n).flatMap λk=>(cG (k+1) (aK m)).filter (iu m ts)).length<=20*n:=by
 induction n with
 |zero=>simp
 |succ n aE =>
  rw[List.range_succ,acX,abw,List.flatMap_singleton];have:=aE ⋯;have a:=acw (iu m ts) (cG (n+1) (aK m));have b:(cG (n+1) (aK m)).length<=20:=(by rw[tD];exact Be (by rw[je];lia));lia
def V4(m):eB 1 m=(List.range (m-1).toNat).map λk:Nat=>D.int ((k+1:Nat):Int):=by
 unfold eB;exact abO λk _=>by rw[show(1:Int)+(k:Nat)=((k+1:Nat):Int) by lia]
def SV(J:1<=m)(c3:m<=6)(he:Φ gO [bG m ts]=.ok (.lst ((gi ts).map av)))(aB:∀(s:Nat)(c:List Int),s<=8->c.length<=8->Φ bB [av c,.int (s:Int)]=.ok (.lst ((cG s c).map av))):
  c6 pg Φ ⟨1,4,a5.xS bB gO⟩ [bG m ts]=.ok (.lst ((jR m ts).map av)):=by
 have h1:fU (bG m ts) (.int 0)=.ok (.int m):=rfl;have a4:=jl (i:=0) (j:=m) ⋯ ⋯ ⋯ ⋯;have Ru:=jl (i:=1) (j:=m) ⋯ ⋯ ⋯ ⋯;have dQ:(aK m).length<=8:=by rw[je];lia
 have hU:D.tup ((aK m).map .int)=av (aK m):=rfl;simp![a5.xS,he,Ec,h1,Ru,V4];obtain⟨bP,e,x,y,aQ⟩:=gc (f:=λk:Nat=>D.int ((k+1:Nat):Int)) (g:=turn pg Φ 0 [3] (.cons (.e7 0 [4] (.seq (.call bB (.cons (.tupI (.ep (.idx (.var 0) (.lit (.int 0))))) (.cons (.var 3) (.nil))))) (.cons (.iff (.cmp .gj (.tupI (.seq (.comp (.var 5) 0 (.ep (.idx (.var 0) (.lit (.int 0)))) (.some (.cmp .gj (.var 5) (.var 4)))))) (.var 1)) (.cons (.app 2 (.var 4)) (.nil)) (.nil)) (.nil))) (.nil)))
  (λa3 ρ=>∃(x y:Option D),ρ=[some (bG m ts),some (.lst ((gi ts).map av)),some (.lst ((a3.flatMap λk=>(cG (k+1) (aK m)).filter (iu m ts)).map av)),x,y])
  (List.range (m-1).toNat) [some (bG m ts),some (.lst ((gi ts).map av)),some (.lst []),none,none] ⟨none,none,rfl⟩ (λpre k post ρ ng ⟨x,y,bW⟩=>by
   subst bW;have z5:pre=List.range pre.length:=by
    have:=acp (List.take pre.length) ng;rw[List.take_append_of_le_length (abz _),List.take_length,List.take_range]at this;have l:=acp List.length ng;simp at l;rw[Nat.min_eq_left ⋯]at this;exact this.symm
   have QT:k+1<=6/\pre.length<=6:=by
    have ay:k∈List.range (m-1).toNat:=(by rw[ng];simp);have:=List.mem_range.mp ay;have l:=acp List.length ng;simp at l;lia
   have ae:(pre.flatMap λk=>(cG (k+1) (aK m)).filter (iu m ts)).length<=120:=by
    rw[z5];have:=SQ (ts:=ts) c3 pre.length QT.2;lia
   have aa2:(cG (k+1) (aK m)).length<=20:=(by rw[tD];exact Be (by rw[je];lia));have Rp:=aB (k+1) (aK m) ⋯ dQ;generalize Rr:(pre.flatMap λk=>(cG (k+1) (aK m)).filter (iu m ts))=fC at ae ⊢;obtain⟨jt,ar,mn,Qv⟩:=gc (f:=av) (g:=turn pg Φ 0 [4] (.cons (.iff (.cmp .gj (.tupI (.seq (.comp (.var 5) 0 (.ep (.idx (.var 0) (.lit (.int 0)))) (.some (.cmp .gj (.var 5) (.var 4)))))) (.var 1)) (.cons (.app 2 (.var 4)) (.nil)) (.nil)) (.nil)))
    (λrs ρ=>∃(y:Option D),ρ=[some (bG m ts),some (.lst ((gi ts).map av)),some (.lst ((fC++rs.filter (iu m ts)).map av)),some (.int ((k+1:Nat):Int)),y])
    (cG (k+1) (aK m)) [some (bG m ts),some (.lst ((gi ts).map av)),some (.lst (fC.map av)),some (.int ((k+1:Nat):Int)),y] ⟨y,by simp⟩ (λrs c post ρ z2 ⟨y,bW⟩=>by
     subst bW;have aaJ:rs.length+1<=20:=by
      have:(cG (k+1) (aK m)).length=rs.length+(post.length+1):=(by rw[z2];simp);lia
     have e1:dj (elem pg Φ [some (bG m ts),some (.lst ((gi ts).map av)),some (.lst ((fC++rs.filter (iu m ts)).map av)),some (.int ((k+1:Nat):Int)),some (av c)] (.var 5) 0 (.some (.cmp .gj (.var 5) (.var 4)))) ((aK m).map .int)=.ok ((cmp m c).map .int):=lA λz _=>by
      simp![He];cases decide (z∈c)<;>rfl
     have aM:hg (.tup ((cmp m c).map .int)) ((gi ts).map av)=.ok (decide (cmp m c∈gi ts)):=TG (cmp m c) (gi ts);have Fj:=acw (iu m ts) rs;have cb:=rv ((fC++rs.filter (iu m ts)).map av) (av c) (by rw[List.length_map,abw,gq];lia);cases q:decide (cmp m c∈gi ts) with
     |false =>
      rw[q]at aM;refine⟨_,by simp![h1,a4,mb,e1,aM,cb];rfl,some (av c),by rw[va rs (by unfold iu;rw[q];rfl),<- List.append_assoc,List.map_append (l₁:=fC++rs.filter (iu m ts))];rfl⟩
     |true =>
      rw[q]at aM;refine⟨_,by simp![h1,a4,mb,e1,aM];rfl,some (av c),by rw[r7 rs (by unfold iu;rw[q];rfl)]⟩)
   subst Qv;refine⟨_,by simp![h1,a4,mb,hU,Rp,ar];rfl,some (.int ((k+1:Nat):Int)),mn,?_⟩;rw[acX,List.flatMap_singleton,Rr])
 rw[e,aQ];simp!;rfl
theorem Bg:∀(s:Nat){c:List Int},b9 ltI c->(cG s c).Nodup
 |0,_,_=>by simp[cG]
 |s+1,[],_=>adA
 |s+1,x::r,h=>by
  obtain⟨J,aa⟩:=abT.mp h;refine ada.mpr ⟨?_,Bg (s+1) aa,λa aw b ae e=>?_⟩
  .rw[abJ,ab4];exact acS (λq z=>q (List.cons.inj z).2) (abJ.mp (Bg s aa))
  .subst e;obtain⟨y,_,rfl⟩:=List.mem_map.mp aw;have:=J x (((kP _ _ _).mp ae).2.subset List.mem_cons_self);rw[hc.fL]at this;cases this
def SR(m ts):(jR m ts).Nodup:=by
 unfold jR;rw[abJ,List.pairwise_flatMap];refine⟨λa _=>abJ.mp ((Bg (a+1) (lq m)).filter _),acS (λ{a b}(h:a<b) x ai y aQ e=>?_) acU⟩;have J:=((kP _ _ _).mp (List.mem_filter.mp ai).1).1;have aa:=((kP _ _ _).mp (List.mem_filter.mp aQ).1).1;rw[e]at J;lia
def SP(J:1<=m)(c3:m<=6):(jR m ts).length<=63:=acx (iS (SR m ts) λz hz=>(l2.mp ((GL J z).mp hz)).1) (r5 c3 (kX J))
def KR(c3:m<=6):(nZ m ts).length<=63:=by
 have a:=acw (jD m ts) (d5 (aK m));have b:=s7 (aK m);have:2 ^ (aK m).length<=2 ^ 6:=abQ ∅ (by rw[je];lia);unfold nZ;lia
noncomputable def lY(ts:List (List Int))(k:Nat):Int:=(dM ts k:Int)-if k=0 then 1 else 0
noncomputable def kJ(ts:List (List Int)):List Int:=qU ((List.range (aj ts)).map (lY ts))
def zN(h:Good N):1<=aj N.2:=by
 have J:=AS h.dw
 match aP:N.2,J with
 |t::ts,_ =>
  have aH:t∈N.2:=(by rw[aP];exact List.mem_cons_self);have aa:=zM t aH;have aJ:=(h.dw.cell t aH).1;have aW:1<=t.length:=by cases t with|nil=>exact absurd rfl aJ|cons _ _=>simp
  rw[aP]at aa
  lia -verbose
def Gh{Φ:e3}(hf:∀(h:Int)(af:List Int),af.length<100->Φ f [av (h::af)]=.ok (.lst ((qU ((h-1)::af)).map .int)))(h:Good N):Φ f [.tup ((List.range (aj N.2)).map λk=>D.int (dM N.2 k:Int))]=.ok (.lst ((kJ N.2).map .int)):=by
 have J:=zN h;have c3:=AR h.dw;unfold kJ;obtain⟨n,aC⟩:∃n,aj N.2=n+1:=⟨aj N.2-1,by lia -verbose⟩;rw[aC,aee];have:=hf (dM N.2 0:Int) ((List.range n).map λk=>(dM N.2 (k+1):Int)) (by rw[List.length_map,List.length_range];lia -verbose);have e1:D.tup ((0::(List.range n).map Nat.succ).map λk=>D.int (dM N.2 k:Int))=av ((dM N.2 0:Int)::(List.range n).map λk=>(dM N.2 (k+1):Int)):=by
  unfold av;rw[List.map_cons,List.map_cons,List.map_map,List.map_map];rfl
 have ar:(0::(List.range n).map Nat.succ).map (lY N.2)=((dM N.2 0:Int)-1)::(List.range n).map λk=>(dM N.2 (k+1):Int):=by
  rw[List.map_cons,List.map_map];refine List.cons_eq_cons.mpr ⟨rfl,abO λk _=>?_⟩;show lY N.2 (k+1)=_;unfold lY;rw[if_neg (by lia -verbose),afn]
 rw[e1,ar,this]
def PV(l:List Int)(k):(l++[0]).getD k 0=l.getD k 0:=by
 rw[acV,acV];rcases adt k l.length with q|q|q
 .rw[abH q]
 .subst q;simp
 .rw[abW (by lia -verbose),abM (by simp;lia -verbose),abM (by lia -verbose)]
theorem Jh(k):∀(n:Nat)(xs:List Int),(qT n xs).getD k 0=xs.getD k 0
 |0,xs=>rfl
 |n+1,xs=>by
  rw[qT]
  split
  .rename_i q;rw[Jh k n];rcases aei xs with rfl|⟨l,a,rfl⟩
   .rfl
   .rw[aej]at q ⊢;rw[List.getLast?_append]at q;simp at q;rw[q,List.dropLast_concat,PV]
  .rfl
def AG(h:1<=aj ts)(k):(kJ ts).getD k 0=lY ts k:=by
 unfold kJ qU;rw[Jh,acV,abF]
 by_cases q:k<aj ts
 .rw[acW q];rfl
 .rw[abM (by simp;lia -verbose)];unfold lY;rw[V8 (by lia -verbose),if_neg (by lia -verbose)];rfl
noncomputable def lu(xs:List Int)(k:Int):Int:=if 0<=k then xs.getD k.toNat 0 else 0
def SW(xs)(k):c6 pg Φ ⟨2,0,a5.rB⟩ [.lst (xs.map .int),.int k]=.ok (.int (lu xs k)):=by
 unfold lu
 by_cases h0:0<=k
 .have hA:decide ((0:Int)<=k)=true:=decide_eq_true h0;have aA:tc (.int k) (.int (xs.length:Int))=.ok (decide (k<(xs.length:Int))):=Gz _ _
  by_cases J:k<(xs.length:Int)
  .have bR:decide (k<(xs.length:Int))=true:=decide_eq_true J;obtain⟨n,rfl⟩:∃n:Nat,k=(n:Int):=⟨k.toNat,by lia -verbose⟩;have aC:n<xs.length:=(by lia -verbose);have ai:fU (.lst (xs.map .int)) (.int (n:Int))=.ok (.int (xs.getD n 0)):=by
    rw[sQ,vd,abF,acV,aby aC];rfl
   simp![a5.rB,yY,yG,hA,List.length_map,aA,bR,ai,if_pos h0,Int.toNat_natCast]
  .have bR:decide (k<(xs.length:Int))=false:=decide_eq_false J;simp![a5.rB,yY,yG,hA,List.length_map,aA,bR,if_pos h0];rw[acV,abM (by lia -verbose)];rfl
 .have hA:decide ((0:Int)<=k)=false:=decide_eq_false h0;simp![a5.rB,yY,yG,hA,if_neg h0]
def Zl(h:Φ ih [a]=.ok d):c6 pg Φ ⟨3,1,a5.rC bh zb ih k5 eY⟩ [.int 2,a,b]=.ok d:=by
 have q:((2:Int)==0)=false:=rfl;have cN:((2:Int)==1)=false:=rfl;simp![Ir,a5.rC,y2,lK,q,cN,h,JM]
def Zm(h:Φ ih [a]=.exc 1)(he:i7 pg 1 k5 ⟨3,eY,1000⟩=.ok (.cI (.str h6))):c6 pg Φ ⟨3,1,a5.rC bh zb ih k5 eY⟩ [.int 2,a,b]=.ok (.str h6):=by
 have q:((2:Int)==0)=false:=rfl;have cN:((2:Int)==1)=false:=rfl;simp![Ir,a5.rC,y2,lK,q,cN,h,JL,he]
def BK(J:1<=m)(c3:m<=6):Good (m,[aK m]):=by
 have ah:=kX J;have:=AU J c3 ah (pP.mpr λx a b=>⟨aK m,by simp,hI.mpr ⟨a,b⟩⟩);have e:b4 [aK m]=[aK m]:=by
  refine vW (uy (rx _)) (iP.mpr ⟨by simp,λo az aA=>?_⟩) λo az=>abK.mp (iP.mp az).1
  rw[abK.mp az]at aA
  lia -verbose
 rw[e]at this;exact⟨this,by show(1:Nat)<=63;decide⟩
def NO(aP:Net m ts)(d1:cp m ts≠[])(J:1<=aj ts)(aa:1<=aj (b4 (nb (cp m ts))))(k)(aw:-1<=k)(ae:k<m):lu (kJ (b4 (nb (cp m ts)))) k=lu (kJ ts) (m-3-k):=by
 obtain⟨nu,a,b,c⟩:=NN aP d1;unfold lu
 by_cases q:0<=k
 .rw[if_pos q,AG aa]
  by_cases w:0<=m-3-k
  .rw[if_pos w,AG J];have:=a k.toNat (m-3-k).toNat (by lia -verbose);unfold lY
   by_cases u:k.toNat=0
   .rw[if_pos u]at this ⊢
    by_cases v:(m-3-k).toNat=0
    .rw[if_pos v]at this ⊢;lia -verbose
    .rw[if_neg v]at this ⊢;lia -verbose
   .rw[if_neg u]at this ⊢
    by_cases v:(m-3-k).toNat=0
    .rw[if_pos v]at this ⊢;lia -verbose
    .rw[if_neg v]at this ⊢;lia -verbose
  .rw[if_neg w];have:=c k.toNat (by lia -verbose);unfold lY;rw[this,if_neg (by lia -verbose)];rfl
 .rw[if_neg q,if_pos (by lia -verbose),AG J];have:=b (m-3-k).toNat (by lia -verbose);unfold lY;rw[this,if_neg (by lia -verbose)];rfl
def V3(m):eB (-1) m=((List.range (m+1).toNat).map λk:Nat=>(k:Int)-1).map .int:=by
 unfold eB;rw[List.map_map,show m - -1=m+1 by lia -verbose];exact abO λk _=>by show D.int (-1+(k:Nat))=D.int ((k:Int)-1);exact acp D.int (by lia -verbose)
def SU{is:List Int}(hm:∀k:Nat,∃r:Int,0<=r/\r<nU/\Φ ED [.lst (is.map .int),.int (k:Int)]=.ok (.int r))(aC:∀i:Int,0<=i->∃m ts,Φ fn [.int i,.int 6]=.ok (bG m ts)/\Net m ts/\m<=6/\ts.length<=20)(J:∀N:rl,Good N->Φ oh [.int 2,bG N.1 N.2,.int 0]=.ok (fB (cp N.1 N.2)))(aa:∀N:rl,Good N->Φ Es [bG N.1 N.2]=.ok (.lst ((jR N.1 N.2).map av)))(aJ:∀N:rl,Good N->Φ fd [.lst ((jR N.1 N.2).map av)]=.ok (fB (cp N.1 N.2)))(aW:∀N:rl,Good N->Φ m1 [bG N.1 N.2]=.ok (.tup ((List.range (aj N.2)).map λk=>D.int (dM N.2 k:Int))))(cb:∀(h:Int)(af:List Int),af.length<100->Φ fK [av (h::af)]=.ok (.lst ((qU ((h-1)::af)).map .int)))(eF:∀(xs:List Int)(k:Int),Φ pX [.lst (xs.map .int),.int k]=.ok (.int (lu xs k))):c6 pg Φ ⟨1,5,a5.uB pX fK m1 fd Es oh fn ED⟩ [.lst (is.map .int)]=.ok (.aU true):=by
 obtain⟨r,fP,-,e0⟩:=hm 0;have e0:Φ ED [.lst (is.map .int),.int 0]=.ok (.int r):=e0;obtain⟨m,ts,e1,aP,Q3,aA⟩:=aC r fP;have g:Good (m,ts):=⟨aP,by show ts.length<=63;lia -verbose⟩;have Fx:=aP.lo;have f1:Φ oh [.int 2,bG m ts,.int 0]=.ok (fB (cp m ts)):=J (m,ts) g;have f2:Φ Es [bG m ts]=.ok (.lst ((jR m ts).map av)):=aa (m,ts) g;have dZ:Φ fd [.lst ((jR m ts).map av)]=.ok (fB (cp m ts)):=aJ (m,ts) g;have b6:=D5 (cp m ts)
 by_cases hz:cp m ts=[]
 .rw[decide_eq_true hz]at b6;simp![a5.uB,e0,e1,f1,f2,dZ,D6,b6,AB]
 .rw[decide_eq_false hz]at b6;have zg:=(qV m ts).good (BK Fx Q3) hz;have k1:Φ m1 [bG m ts]=.ok (.tup ((List.range (aj ts)).map λk=>D.int (dM ts k:Int))):=aW (m,ts) g;have k2:Φ fK [.tup ((List.range (aj ts)).map λk=>D.int (dM ts k:Int))]=.ok (.lst ((kJ ts).map .int)):=Gh cb g;have k3:=aW _ zg;have k3:Φ m1 [fB (cp m ts)]=.ok (.tup ((List.range (aj (b4 (nb (cp m ts))))).map λk=>D.int (dM (b4 (nb (cp m ts))) k:Int))):=(by rw[G8 hz];exact k3);have cF:=Gh cb zg;have cF:Φ fK [.tup ((List.range (aj (b4 (nb (cp m ts))))).map λk=>D.int (dM (b4 (nb (cp m ts))) k:Int))]=.ok (.lst ((kJ (b4 (nb (cp m ts)))).map .int)):=cF;have a4:=jl (i:=-1) (j:=m) (by lia -verbose) (by lia -verbose) (by lia -verbose) (by lia -verbose);have h1:fU (bG m ts) (.int 0)=.ok (.int m):=rfl;have Rd:∀ρ,ev pg Φ ρ (.neg (.lit (.int 1)))=.ok (.int (-1)):=λ_=>rfl
  have dl:=NO aP hz (zN g) (zN zg);generalize kJ (b4 (nb (cp m ts)))=A at *;generalize kJ ts=B at *;simp![a5.uB,e0,e1,f1,f2,dZ,D6,b6,AB,k1,k2,k3,cF,Ec,Rd,h1,a4,V3];obtain⟨bP,e,x,he⟩:=gc (f:=D.int) (g:=turn pg Φ 0 [5] (.cons (.iff (.cmp .ne (.call pX (.cons (.var 4) (.cons (.var 5) (.nil)))) (.call pX (.cons (.var 3) (.cons (.bin .sub (.bin .sub (.idx (.var 1) (.lit (.int 0))) (.lit (.int 3))) (.var 5)) (.nil))))) (.cons (.ret (.lit (.aU false))) (.nil)) (.nil)) (.nil)))
   (λa3 ρ=>∃(x:Option D),ρ=[some (.lst (is.map .int)),some (bG m ts),some (fB (cp m ts)),some (.lst (B.map .int)),some (.lst (A.map .int)),x])
   ((List.range (m+1).toNat).map λk:Nat=>(k:Int)-1) [some (.lst (is.map .int)),some (bG m ts),some (fB (cp m ts)),some (.lst (B.map .int)),some (.lst (A.map .int)),none] ⟨none,rfl⟩ (λpre k post ρ aB ⟨x,bW⟩=>by
    subst bW;have ay:k∈(List.range (m+1).toNat).map λk:Nat=>(k:Int)-1:=by rw[aB];simp
    obtain⟨j,aI,rfl⟩:=List.mem_map.mp ay;have aI:=List.mem_range.mp aI;have hd:=dl ((j:Int)-1) (by lia -verbose) (by lia -verbose);have aM:(lu A ((j:Int)-1)==lu B (m-3-((j:Int)-1)))=true:=ab6.mpr hd;refine⟨_,by simp![h1,eF,aM],some (.int ((j:Int)-1)),rfl⟩)
  rw[e,he];simp!
end cH
end
section
namespace ek
open PySem
noncomputable def fr(l:List Env):List Addr:=l.filterMap (·.frame)
def fJ(cls:Nat->Option Addr)(c:Nat)(e:Value)(l:List Addr)(h:Heap):Prop :=
 ∃bI C eb ag,e=.ref bI/\cls c=some C/\h.get? bI=some eb/\eb.cls=.ref C/\eb.data=.fields ag/\ag[2]?=some .none /\
  ((l=[bI]/\ag[1]?=some .none)\/∃T jY ts,l=[bI,T]/\ag[1]?=some (.ref T)/\T≠bI/\h.get? T=some jY/\jY.data=.fields ts/\ts[3]?=some .none)
def Zg{s:Shared}(aA:s.heap.FunFrames base l)(he:s.heap.get? a=some o)(hd:o.data=.fields ag):a∉fr l:=λhm=>by
 obtain⟨_,bt,q,aC⟩:=aA.mem hm;rw[he]at q;cases q;exact aC ag hd
def entry(m8:A.frames=some (env::outer))(aA:s.heap.FunFrames base (env::outer))(hf:env.frame=some L)(he:s.heap.get? bI=some eb)(hd:eb.data=.fields ag)(hz:1<ag.size)(k:∀h' T jY ts,h'.get? bI=some (eb.mapFields (·.setIfInBounds 1 (.ref T)))->T≠bI->s.heap.get? T=none->h'.get? T=some jY->jY.data=.fields ts->3<ts.size ->
   (∀b o,s.heap.get? b=some o->b≠bI->b∉fr (env::outer)->h'.get? b=some o)->(∀b o,s.heap.get? b=some o->b≠bI->∃bM,h'.get? b=some { o with slots:=bM })->Q () { s with heap:=h' }):
  wpAny M A (do let a <- frameOf env;let cz <- entryPlaceOf L bJ;let b <- EntryCells.newEntry head a .none (rawInt L) .none cz;setField (.ref bI) 1 b) Q E s:=by
 refine abr (wpAny_frameOf_fun m8 aA hf λg1 ⟨bY,bV,dV⟩=>abr (wpAny_entryPlaceOf λcz d6=>?_));unfold EntryCells.newEntry newFields;have e1:g1.get? bI=some eb:=(bV bI (Zg aA he hd)).trans he;have ne:g1.objs.size≠bI:=afl (abC e1);refine abr (ab7 (ac6 (abv _ e1) hd hz (k _ g1.objs.size _ _ (ab2 _ (abv _ e1) (adO (ac2 hd _))) ne ?_ ((abV _ _ ne.symm).trans (abD g1 rfl)) rfl ?_ (λb o q ae aC=>?_) λb o q ae=>?_)) (d6.sizeOk5 _ _ _ _ _))
 .cases q:s.heap.get? g1.objs.size with
  |none=>rfl
  |some o=>exact absurd (abC q) (by rw[bY];exact acQ _)
 .simp
 .rw[abV _ _ (acy ae)];exact abv _ ((bV b aC).trans q)
 .obtain⟨bM,cN⟩:=dV b o q;exact⟨bM,by rw[abV _ _ (acy ae)];exact abv _ cN⟩
def note(m8:A.frames=some (env::outer))(aA:s.heap.FunFrames base (env::outer))(hf:env.frame=some L)(ai:fJ cls c e l s.heap)(k:∀h' gh,fJ cls c e gh h'->(∀a∈gh,a∈l\/s.heap.get? a=none)->(∀b o,s.heap.get? b=some o->b∉l->b∉fr (env::outer)->h'.get? b=some o) ->
   (∀b o,s.heap.get? b=some o->b∈fr (env::outer)->∃bM,h'.get? b=some { o with slots:=bM })->Q () { s with heap:=h' }):
  wpAny M A (noteFrame e env) (λ_ s2=>wpAny M A (setFlight e none) Q E s2) E s:=by
 obtain⟨bI,C,eb,ag,rfl,ah,he,dQ,hd,aa,a4⟩:=ai;have hz:1<ag.size:=Nat.lt_trans ∅ (abY.mp aa).1;have fin:∀{h0 J:Heap}{T:Addr}{jY:Obj}{ts:Array Value},(∀b o,s.heap.get? b=some o->b∉l->h0.get? b=some o)->bI∈l->J.get? bI=some (eb.mapFields (·.setIfInBounds 1 (.ref T)))->T≠bI->s.heap.get? T=none->J.get? T=some jY->jY.data=.fields ts->3<ts.size ->
   (∀b o,h0.get? b=some o->b≠bI->b∉fr (env::outer)->J.get? b=some o)->(∀b o,h0.get? b=some o->b≠bI->∃bM,J.get? b=some { o with slots:=bM })->(∀b,b∈l->∀o,s.heap.get? b=some o->∃ws,o.data=.fields ws)->wpAny M A (setFlight (.ref bI) none) Q E { s with heap:=J }:=by
  intro h0 J T jY ts k0 lM aO ba b6 dx gV kT iw tG VQ;have bR:=ac2 hd (·.setIfInBounds 1 (Value.ref T));have v1:(ag.setIfInBounds 1 (Value.ref T))[1]?=some (Value.ref T):=(by simp[hz]);have v2:(ag.setIfInBounds 1 (Value.ref T))[2]?=some Value.none:=(by rw[Array.getElem?_setIfInBounds_ne ∅];exact aa);have nl:∀b o,s.heap.get? b=some o->b∈fr (env::outer)->b∉l:=λb o q ae hm=>by
   obtain⟨_,bt,cN,aC⟩:=aA.mem ae;rw[q]at cN;cases cN;obtain⟨ws,hw⟩:=VQ b hm o q;exact aC ws hw
  have G0:∀b o,s.heap.get? b=some o->b≠T:=λb o q z=>by rw[z,b6]at q;cases q
  have nC:∀b,b≠T->(J.update T (Obj.mapFields (·.setIfInBounds 3 ((none:Option Addr).elim Value.none λf=>rawInt f)))).get? b=J.get? b:=λb ae=>abV _ _ (acy ae)
  unfold setFlight;refine abr (adD aO bR v1 ?_);rw[if_pos (show(Value.ref T != Value.none)=true from by simp)];refine ac6 dx gV kT (k _ [bI,T] ⟨bI,C,_,_,rfl,ah,(nC bI (acy ba)).trans aO,(Obj.cls_mapFields _ _).trans dQ,bR,v2,.inr ⟨T,_,_,rfl,v1,ba,ab2 _ dx (adO (ac2 gV _)),ac2 gV _,by simp[kT]⟩⟩ (λa aw=>?_) (λb o q ae aC=>?_) λb o q ae=>?_)
  .rcases abA.mp aw with rfl|aw
   .exact .inl lM
   .obtain rfl:a=T:=(by simpa using aw);exact .inr b6
  .exact(nC b (G0 b o q)).trans (iw b o (k0 b o q ae) (λz=>ae (by rw[z];exact lM)) aC)
  .have hm:=nl b o q ae;obtain⟨bM,z⟩:=tG b o (k0 b o q hm) λz=>hm (by rw[z];exact lM)
   exact⟨bM,(nC b (G0 b o q)).trans z⟩
 unfold noteFrame;simp only[hf];rcases a4 with⟨rfl,J⟩|⟨T,jY,ts,rfl,J,zu,cK,ot,aJ⟩
 .refine abr (adD he hd J ?_);rw[if_neg ∅];refine entry m8 aA hf he hd hz λh' mD Un wO aO ba b6 dx gV kT iw tG=>fin (h0:=s.heap) (λb o q _=>q) (by simp) aO ba b6 dx gV kT iw tG λb ae o q=>?_
  obtain rfl:b=bI:=(by simpa using ae);rw[he]at q;cases q;exact⟨ag,hd⟩
 .refine abr (adD he hd J ?_);rw[if_pos (show(Value.ref T != Value.none)=true from by simp)];refine abr (adD cK ot aJ ?_);rw[if_neg (show ¬((Value.none==rawInt L)=true) from by simp[rawInt])];refine abr (ac6 cK ot (abY.mp aJ).1 ?_);have nC:∀b,b≠T->(s.heap.update T (Obj.mapFields (·.setIfInBounds 3 Value.none))).get? b=s.heap.get? b:=λb ae=>abV _ _ (acy ae)
  have V9:∀b,b∈[bI,T]->∀o,s.heap.get? b=some o->∃ws,o.data=.fields ws:=λb ae o q=>by
   rcases abA.mp ae with rfl|ae
   .rw[he]at q;cases q;exact⟨ag,hd⟩
   .obtain rfl:b=T:=(by simpa using ae);rw[cK]at q;cases q;exact⟨ts,ot⟩
  have nd:(s.heap.update T (Obj.mapFields (·.setIfInBounds 3 Value.none))).FunFrames base (env::outer):=aA.of_keeps λb o q aC=>⟨o,(nC b λz=>by rw[z,cK]at q;cases q;exact aC ts ot).trans q,rfl⟩
  have Qj:∀mD,(s.heap.update T (Obj.mapFields (·.setIfInBounds 3 Value.none))).get? mD=none->s.heap.get? mD=none:=λmD q=>by
   by_cases z:mD=T
   .subst z;rw[ab2 _ cK (adO (ac2 ot _))]at q;cases q
   .rw[nC mD z]at q;exact q
  exact entry (s:={ s with heap:=s.heap.update T (Obj.mapFields (·.setIfInBounds 3 Value.none)) }) m8 nd hf ((nC bI (acy zu)).trans he) hd hz λh' mD Un wO aO ba b6 dx gV kT iw tG =>
   fin (h0:=s.heap.update T (Obj.mapFields (·.setIfInBounds 3 Value.none))) (λb o q ae=>(nC b λz=>ae (by simp[z])).trans q) (by simp) aO ba (Qj mD b6) dx gV kT iw tG V9
def leave(m8:A.frames=some (env::outer))(aA:s.heap.FunFrames base (env::outer))(hf:env.frame=some L)(ai:fJ cls c e l s.heap)(k:∀h' gh,fJ cls c e gh h'->(∀a∈gh,a∈l\/s.heap.get? a=none)->(∀b o,s.heap.get? b=some o->b∉l->b∉fr (env::outer)->h'.get? b=some o) ->
   (∀b o,s.heap.get? b=some o->b∈fr (env::outer)->∃bM,h'.get? b=some { o with slots:=bM })->Q () { s with heap:=h' }):
  wpAny M A (leaving env e) Q E s:=by
 unfold leaving;exact abr (note m8 aA hf ai k)
def Pz(ai:fJ cls c e l s.heap)(k:∀(h':Heap)(gh:List Addr),(∀a∈gh,a∈l/\e≠.ref a)->(∀b o,s.heap.get? b=some o->b∉gh->h'.get? b=some o)->Q () { s with heap:=h' }):wpAny M A (setFlight e none) Q E s:=by
 obtain⟨bI,C,eb,ag,rfl,ah,he,dQ,hd,h0,a4⟩:=ai;rcases a4 with⟨rfl,J⟩|⟨T,jY,ts,rfl,J,zu,cK,ot,aJ⟩
 .unfold setFlight;refine abr (adD he hd J ?_);rw[if_neg ∅];exact abu (k s.heap [] (λ_ z=>nomatch z) λb o q _=>q)
 .unfold setFlight;refine abr (adD he hd J ?_);rw[if_pos (show(Value.ref T != Value.none)=true from by simp)];refine ac6 cK ot (abY.mp aJ).1 (k _ [T] (λa aw=>?_) λb o q ae=>?_)
  .obtain rfl:a=T:=(by simpa using aw);exact⟨by simp,λz=>zu (Value.ref.inj z).symm⟩
  .rw[abV _ _ (λz=>ae (by simp[z]))];exact q
def made(ah:cls c=some C)(hm:Heap.MadeExcOf h h' e (.ref C) args):fJ cls c (.ref e) [e] h':=by
 obtain⟨t,he,_,_⟩:=hm.there;exact⟨e,C,_,_,rfl,ah,he,rfl,rfl,rfl,.inl ⟨rfl,rfl⟩⟩
section
def F0(ai:s.heap.get? x=some kR)(dQ:kR.cls=.ref C)(d0:s.heap.get? C=some (excClassObj nm q C N bs bm hdct sn sub ab col dd k0 k1 k2 k3 k5 newId))(jO:∀{fs:Around}{dP:Value->Shared->Prop}{fH},dP (.type "type") s->wpAny (model prog w) fs (typeOf c) dP fH s)(zP:∀{fs:Around}{dP:Bool->Shared->Prop}{fH},dP true s->wpAny (model prog w) fs (isType c) dP fH s)(hm:(Value.ref C::bm).contains c=true)(h:Q (.done (.ret (.bool true))) s):wpAny (model prog w) A (Builtin.«isinstance.nested» ⟨[.ref x,c,.int dep tk],[]⟩) Q E s:=by
 obtain⟨h0,g,d,tt,os⟩:=s;have rj:∀{fs:Around}{dP:Value->Shared->Prop}{fH},dP (.ref C) ⟨h0,g,d,tt,os⟩->wpAny (model prog w) fs (typeOf (.ref x)) dP fH ⟨h0,g,d,tt,os⟩:=λ{fs dP fH} z=>by
  unfold typeOf
  repeat (first|(with_reducible refine acr ai ?_;rw[dQ])|wp_step)
  exact z
 unfold Builtin.«isinstance.nested»;refine abr (rj ?_)
 by_cases he:(Value.ref C==c)=true
 .rw[if_pos he];show wpAny (model prog w) A (pure _) Q E _;exact abu h
 .rw[if_neg he];refine abr (jO ?_);rw[if_pos ∅]
  k_delta "plainIsInstance"
  refine abr (abr (zP ?_));simp only[acR,abx,abS];refine abr ?_;unfold isInstance;refine abr (rj ?_);refine acY d0 ?_;rw[hm];simp only[acj]
  first
   |exact abu h
   |exact abu (abu h)
   |exact abr (abu (abu h))
def Se(ai:s.heap.get? x=some kR)(dQ:kR.cls=.ref C)(d0:s.heap.get? C=some (excClassObj nm q C N bs bm hdct sn sub ab col dd k0 k1 k2 k3 k5 newId))(eG:s.heap.get? D=some l6)(zp:l6.cls=.type "type")(zq:∃cd,l6.data=.cls cd)(hm:(Value.ref C::bm).contains (.ref D)=true)(h:Q (.bool true) s):wpAny (model prog w) A (call (.builtin "isinstance") [.ref x,.ref D]) Q E s:=by
 refine afg (S:=λ_ R s=>(s.heap.get? x=some kR/\s.heap.get? C=some (excClassObj nm q C N bs bm hdct sn sub ab col dd k0 k1 k2 k3 k5 newId)/\s.heap.get? D=some l6)/\R (.ok (.ret (.bool true))) s)
  (λ_ _ _ _ _ af=>ae6 (F0 af.1.1 dQ af.1.2.1 (λ{fs dP fH} z=>?_) (λ{fs dP fH} z=>?_) hm af.2) (by intro q;cases q)) ⟨⟨ai,d0,eG⟩,h⟩
 .have eG:=af.1.2.2;rename_i s';obtain⟨h0,g,d,tt,os⟩:=s';unfold typeOf
  repeat (first|(with_reducible refine acr eG ?_;rw[zp])|wp_step)
  exact z
 .have eG:=af.1.2.2;obtain⟨fN,bu,Uq,fO⟩:=l6;obtain⟨cd,rfl⟩:=zq;unfold isType loadHead;exact abr (wpAny_loadPart eG (abu z))
def Sf(ai:s.heap.get? x=some kR)(dQ:kR.cls=.ref C)(d0:s.heap.get? C=some (excClassObj nm q C N bs bm hdct sn sub ab col dd k0 k1 k2 k3 k5 newId))(jO:typeOf (.type T)=pure (.type "type"))(hm:bm.contains (.type T)=true)(h:Q (.bool true) s):wpAny (model prog w) A (call (.builtin "isinstance") [.ref x,.type T]) Q E s:=by
 refine afg (S:=λ_ R s=>(s.heap.get? x=some kR/\s.heap.get? C=some (excClassObj nm q C N bs bm hdct sn sub ab col dd k0 k1 k2 k3 k5 newId))/\R (.ok (.ret (.bool true))) s)
  (λ_ _ _ _ _ af=>ae6 (F0 af.1.1 dQ af.1.2 (λ{fs dP fH} z=>?_) (λ{fs dP fH} z=>?_) (by rw[adL,hm,aeg]) af.2) (by intro q;cases q)) ⟨⟨ai,d0⟩,h⟩
 .rw[jO];exact abu z
 .exact abu z
end
end ek
end
section
namespace ek
open PySem PySem.W
section
variable{prog:Program}{w:World}{A:Around}{E:Value->Shared->Prop}{h:Heap}{g:Array GenState}{d:Drawn}{t:Nat}{os:OsState}{a:Addr}{o:Obj}{K:Frag}{nm q:Str}{C N:Addr}{bs bm:List Value}{hdct:Bool}{sn:List Str}{sub:List Value}{ab:Bool}{col:Option Bool}{dd:Option Addr}{k0 k1 k2 k3 k5:Option Value}{newId:String}
def Tz(d0:h.get? C=some (excClassObj nm q C N bs bm hdct sn sub ab col dd k0 k1 k2 k3 k5 newId))(eG:h.get? D=some (excClassObj aba cN D dO LL Dc aau abi BU aaf aak mT aaT aaU aaV aaW aaX aa9))(he:h.get? e=some eb)(zE:eb.cls=.ref C)(sk:Dc.contains (.type "BaseException")=true)(hm:(Value.ref C::bm).contains (.ref D)=true)(aM:Q true ⟨h,g,d,t,os⟩):wpAny M A (excMatches (.ref e) (.ref D)) Q E ⟨h,g,d,t,os⟩:=by
 have sl:(Value.ref D::Dc).contains (.type "BaseException")=true:=by rw[adL,sk,aeg]
 have f:=tc_notTuple;unfold excMatches
 repeat (first|(with_reducible refine acr he ?_;rw[zE])|with_reducible refine acr eG ?_|(with_reducible refine acY eG ?_;rw[sl])|(with_reducible refine acY d0 ?_;rw[hm])|wp_step)
 exact aM
def Mj(d0:h.get? C=some (excClassObj nm q C N bs bm hdct sn sub ab col dd k0 k1 k2 k3 k5 newId))(e8:bm.contains (.type "object")=true)(ai:h.get? a=some o)(ah:o.cls=.ref C)(aM:R (.ok (.ret (.ref C))) ⟨h,g,d,t,os⟩):
  codeAny (model prog w) A (.call (.builtin "getset_descriptor.__get__") ⟨[.builtin "object.__class__",.ref a,.ref C],[]⟩) R ⟨h,g,d,t,os⟩:=by
 have E9:(⟨h,g,d,t,os⟩:Shared).TypeIs (.builtin "object.__class__") "getset_descriptor":=aem;have sl:(Value.ref C::bm).contains (.type (".".intercalate ("object.__class__".cutAt '.').dropLast))=true:=by
  rw[F.owner_object_class,adL,e8,aeg]
 refine aeB F.slot_gs_get.plain F.entry_gs_get (F.slot_gs_get.check _ _ _ _ _ _ _ _ E9 (F.args_gs_get _ _ _) ?_)
 repeat (any_goals (first|assumption|(with_reducible refine acr ai ?_;rw[ah])|(with_reducible refine acY d0 ?_;rw[sl])|wp_step))
 refine⟨aeO _ (by decide +kernel),acD F.entry_object_class ?_⟩
 repeat (any_goals (first|assumption|(with_reducible refine acr ai ?_;rw[ah])|wp_step))
def Mh(d0:h.get? C=some (excClassObj nm q C N bs bm hdct sn sub ab col dd k0 k1 k2 k3 k5 newId))(d8:bm.contains (.type "BaseException")=true)(ai:h.get? a=some o)(ah:o.cls=.ref C)(aM:Q () ⟨h,g,d,t,os⟩):wpAny M A (checkBuiltinCall "BaseException.__getattribute__" ⟨[.ref a,TZ],[]⟩) Q E ⟨h,g,d,t,os⟩:=by
 have ay:builtinKind "BaseException.__getattribute__"=some .slot:=by decide +kernel
 have RF:splitId "BaseException.__getattribute__"=some ("BaseException","__getattribute__"):=by decide +kernel
 have sl:(Value.ref C::bm).contains (.type "BaseException")=true:=by rw[adL,d8,aeg]
 have aw:=F.args_bexc_ga (.ref a) TZ;simp only[checkBuiltinCall,ay,RF];refine abr ?_
 .unfold isInstance
  repeat (first|(with_reducible refine acr ai ?_;rw[ah])|(with_reducible refine acY d0 ?_;rw[sl])|wp_step)
  exact aM
def Mi(X:K.In h)(J:findIn K (.ref C) "__class__"=some (some (.builtin "object.__class__")))(d0:h.get? C=some (excClassObj nm q C N bs bm hdct sn sub ab col dd k0 k1 k2 k3 k5 newId))(e8:bm.contains (.type "object")=true)(ai:h.get? a=some o)(ah:o.cls=.ref C)(aM:Q (.done (.ret (.ref C))) ⟨h,g,d,t,os⟩):
  wpAny (model prog w) A (Builtin.«object.__getattribute__» ⟨[.ref a,.str "__class__" tk],[]⟩) Q E ⟨h,g,d,t,os⟩:=by
 have E9:(⟨h,g,d,t,os⟩:Shared).TypeIs (.builtin "object.__class__") "getset_descriptor":=aem;have ez:=aem;have u5:=F.slot_gs_get.lookup;have O2:=F.slot_gs_set.lookup;have Kz:=looks_findIn (M:=model prog w) X J
 repeat (any_goals (first|assumption|(with_reducible refine acr ai ?_;rw[ah])|with_reducible refine Looks.at Kz ?_|wp_step))
 refine Mj d0 e8 ai ah ?_
 repeat (any_goals (first|assumption|wp_step))
def Mg(X:K.In h)(J:findIn K (.ref C) "__class__"=some (some (.builtin "object.__class__")))(aa:findIn K (.ref C) "__getattribute__"=some (some (.builtin "BaseException.__getattribute__")))(aJ:findIn K (.ref C) "__getattr__"=some none)(d0:h.get? C=some (excClassObj nm q C N bs bm hdct sn sub ab col dd k0 k1 k2 k3 k5 newId))(e8:bm.contains (.type "object")=true)(d8:bm.contains (.type "BaseException")=true)(ai:h.get? a=some o)(ah:o.cls=.ref C)(aM:Q (.ref C) ⟨h,g,d,t,os⟩):wpAny (model prog w) A (getAttrBy (.ref a) (.str "__class__" tk) false) Q E ⟨h,g,d,t,os⟩:=by
 have dZ:=F.excAttr_ValueError.ga.bind (.ref a);have RM:(Value.builtin "BaseException.__getattribute__"==Value.builtin "object.__getattribute__")=false:=by decide +kernel
 have oD:(onTheHeap (Value.ref C)&&Value.builtin "BaseException.__getattribute__"==Value.builtin "object.__getattribute__")=false:=by rw[RM];rfl
 have bA:=looks_findIn (M:=model prog w) X aa;have KA:=looks_findIn (M:=model prog w) X aJ
 repeat (any_goals (first|assumption|(with_reducible refine acr ai ?_;rw[ah])|with_reducible refine Looks.at bA ?_|with_reducible refine Looks.at KA ?_|wp_step))
 refine aeB F.excAttr_ValueError.ga.plain F.entry_bexc_ga (Mh d0 d8 ai ah (Mi X J d0 e8 ai ah ?_))
 repeat (any_goals (first|assumption|wp_step))
def Mf(X:K.In h)(J:findIn K (.ref C) "__class__"=some (some (.builtin "object.__class__")))(aa:findIn K (.ref C) "__getattribute__"=some (some (.builtin "BaseException.__getattribute__")))(aJ:findIn K (.ref C) "__getattr__"=some none)(d0:h.get? C=some (excClassObj nm q C N bs bm hdct sn sub ab col dd k0 k1 k2 k3 k5 newId))(e8:bm.contains (.type "object")=true)(d8:bm.contains (.type "BaseException")=true)(ai:h.get? a=some o)(ah:o.cls=.ref C)(aM:Q (some (.ref C)) ⟨h,g,d,t+1,os⟩):wpAny (model prog w) A (getAttr? (.ref a) "__class__") Q E ⟨h,g,d,t,os⟩:=by
 unfold getAttr? getAttrBy?
 repeat (any_goals (first|assumption|with_reducible apply Mg X J aa aJ d0 e8 d8 ai ah|wp_step))
structure Plain(K:Frag)(C:Addr)(bm:List Value):Prop where
 a1:findIn K (.ref C) "__class__"=some (some (.builtin "object.__class__"))
 a2:findIn K (.ref C) "__getattribute__"=some (some (.builtin "BaseException.__getattribute__"))
 eX:findIn K (.ref C) "__getattr__"=some none
 e8:bm.contains (.type "object")=true
 d8:bm.contains (.type "BaseException")=true
def T5(X:K.In h)(P:Plain K C bm)(d0:h.get? C=some (excClassObj nm q C N bs bm hdct sn sub ab col dd k0 k1 k2 k3 k5 newId))(ai:h.get? a=some o)(ah:o.cls=.ref C)(jO:∀{fs:Around}{dP:Value->Shared->Prop}{fH},dP (.type "type") ⟨h,g,d,t,os⟩->wpAny (model prog w) fs (typeOf c) dP fH ⟨h,g,d,t,os⟩)(zP:∀{fs:Around}{dP:Bool->Shared->Prop}{fH},dP true ⟨h,g,d,t,os⟩->wpAny (model prog w) fs (isType c) dP fH ⟨h,g,d,t,os⟩)(hm:(Value.ref C::bm).contains c=false)(aM:Q (.done (.ret (.bool false))) ⟨h,g,d,t+1,os⟩):wpAny (model prog w) A (Builtin.«isinstance.nested» ⟨[.ref a,c,.int dep tk],[]⟩) Q E ⟨h,g,d,t,os⟩:=by
 have rj:∀{fs:Around}{dP:Value->Shared->Prop}{fH},dP (.ref C) ⟨h,g,d,t,os⟩->wpAny (model prog w) fs (typeOf (.ref a)) dP fH ⟨h,g,d,t,os⟩:=λ{fs dP fH} z=>by
  unfold typeOf
  repeat (first|(with_reducible refine acr ai ?_;rw[ah])|wp_step)
  exact z
 have he:¬(Value.ref C==c)=true:=λz=>by
  rw[adL]at hm;have:=ab6.mp z;subst this;simp at hm
 unfold Builtin.«isinstance.nested»;refine abr (rj ?_);rw[if_neg he];refine abr (jO ?_);rw[if_pos ∅]
 k_delta "plainIsInstance"
 refine abr (abr (zP ?_));simp only[acR,abx,abS];refine abr ?_;unfold isInstance;refine abr (rj ?_);refine acY d0 ?_;rw[hm];simp only[abx,abS];refine abr (Mf X P.a1 P.a2 P.eX d0 P.e8 P.d8 ai ah ?_);refine abr ?_;unfold isType loadHead;refine abr (wpAny_loadPart d0 (abu ?_));simp only[excClassObj,acR,abx,abS];refine abr (aeM ?_);refine acY d0 ?_;rw[hm]
 first
  |exact abu aM
  |exact abu (abu aM)
  |exact abr (abu (abu aM))
def Sd(X:K.In s.heap)(P:Plain K C bm)(ai:s.heap.get? x=some kR)(dQ:kR.cls=.ref C)(d0:s.heap.get? C=some (excClassObj nm q C N bs bm hdct sn sub ab col dd k0 k1 k2 k3 k5 newId))(eG:s.heap.get? D=some l6)(zp:l6.cls=.type "type")(zq:∃cd,l6.data=.cls cd)(hm:(Value.ref C::bm).contains (.ref D)=false)(h:Q (.bool false) { s with toks:=s.toks+1 }):wpAny (model prog w) A (call (.builtin "isinstance") [.ref x,.ref D]) Q E s:=by
 refine afg (S:=λ_ R s=>(K.In s.heap/\s.heap.get? x=some kR/\s.heap.get? C=some (excClassObj nm q C N bs bm hdct sn sub ab col dd k0 k1 k2 k3 k5 newId)/\s.heap.get? D=some l6)/\R (.ok (.ret (.bool false))) { s with toks:=s.toks+1 })
  (λ_ _ _ _ s' af=>ae6 ?_ (by intro q;cases q)) ⟨⟨X,ai,d0,eG⟩,h⟩
 obtain⟨h0,g,d,tt,os⟩:=s';refine T5 af.1.1 P af.1.2.2.1 af.1.2.1 dQ (λ{fs dP fH} z=>?_) (λ{fs dP fH} z=>?_) hm af.2
 .have eG:=af.1.2.2.2;unfold typeOf
  repeat (first|(with_reducible refine acr eG ?_;rw[zp])|wp_step)
  exact z
 .have eG:=af.1.2.2.2;obtain⟨fN,bu,Uq,fO⟩:=l6;obtain⟨cd,rfl⟩:=zq;unfold isType loadHead;exact abr (wpAny_loadPart eG (abu z))
end
end ek
end
section
namespace ek
open PySem
section
end
end ek
end
section
namespace bF
open PySem PySem.Spec PyProof.Rows bA
noncomputable abbrev D:=ζ.D
noncomputable abbrev bx:=ζ.bx
noncomputable abbrev cu:=ζ.R
noncomputable abbrev dp:=List (Option V)
def cS{α:Type}(r:cu α)(Q:α->Prop)(E:Nat->Prop):Prop:=match r with
 |.ok a=>Q a
 |.exc c=>E c
 |.bad=>False
def bz{α β:Type}{r:cu α}{f:α->cu β}{Q:β->Prop}:cS (r>>=f) Q E<->cS r (λa=>cS (f a) Q E) E:=by
 cases r<;>exact Iff.rfl
def b8{α:Type}{r:cu α}{Q dP:α->Prop}(h:cS r Q E)(aM:∀a,Q a->dP a)(he:∀c,E c->fH c):cS r dP fH:=by
 cases r with
 |ok a=>exact aM a h
 |exc c=>exact he c h
 |bad=>exact h
noncomputable def g6(ax:List (List Int×Int)):List (List Key×V):=ax.map λp=>(p.1.map Sum.inl,V.int p.2)
noncomputable def eJ(G:aD):List (Int×Int×Int)->List (Key×V)->Prop
 |[],ys=>ys=[]
 |p::a3,ys=>∃b r,ys=(Sum.inl p.1,.ref b)::r/\G b=some (.tup [.int p.2.1,.int p.2.2])/\eJ G a3 r
theorem eJ.mono(s:bE G aR):∀{a3:List (Int×Int×Int)}{ys:List (Key×V)},eJ G a3 ys->eJ aR a3 ys
 |[],_,h=>h
 |p::a3,_,⟨b,r,e,J,aa⟩=>⟨b,r,e,s _ _ J,aa.mono s⟩
noncomputable def xe(G:aD):List (List Int)->List V->Prop
 |[],xs=>xs=[]
 |c::cs,xs=>∃b r,xs=.ref b::r/\G b=some (.tup (c.map V.int))/\xe G cs r
mutual
noncomputable def Rep (K:W.Frag) (G:aD):D->V->Prop
 |.dK,v=>v=.dK
 |.aU b,v=>v=.aU b
 |.int i,v=>v=.int i
 |.str x,v=>v=.str x
 |.tup ds,v=>∃a xs,v=.ref a/\G a=some (.tup xs)/\bH K G ds xs
 |.lst ds,v=>∃a xs,v=.ref a/\ej K G a xs/\bH K G ds xs
 |.cf ax,v=>∃a bu,v=.ref a/\G a=some (.eh bu (.ey (g6 ax)))
 |.bN ax,v=>∃a bu ys,v=.ref a/\G a=some (.eh bu (.dY ys))/\eJ G ax ys
 |.hD _,_=>False
noncomputable def bH (K:W.Frag) (G:aD):List D->List V->Prop
 |[],xs=>xs=[]
 |d::ds,xs=>∃v r,xs=v::r/\Rep K G d v/\bH K G ds r
end
section
variable{K:W.Frag}{G aR H aq:aD}
def Je(s:bE G aR)(h:fl K G a xs):fl K aR a xs:=by
 rcases h with(h|⟨o,h⟩)|h
 .exact .inl (.inl (s _ _ h))
 .exact .inl (.inr ⟨o,s _ _ h⟩)
 .exact .inr h
def iy(s:bE G aR)(h:G a=some (.tup xs)):fl K aR a xs:=.inl (.inl (s _ _ h))
def mf(s:bE G aR)(h:ej K G a xs):ej K aR a xs:=by
 rcases h with(h|⟨o,h⟩)|h
 .exact .inl (.inl (s _ _ h))
 .exact .inl (.inr ⟨o,s _ _ h⟩)
 .exact .inr h
def HS(s:bE G aR)(h:hP G a u):hP aR a u:=by
 rcases h with h|⟨o,h⟩
 .exact .inl (s _ _ h)
 .exact .inr ⟨o,s _ _ h⟩
mutual
theorem Rep.mono (s:bE G aR):∀{d:D}{v:V},Rep K G d v->Rep K aR d v
 |.dK,_,h=>h
 |.aU _,_,h=>h
 |.int _,_,h=>h
 |.str _,_,h=>h
 |.tup ds,_,⟨a,xs,e,h,r⟩=>⟨a,xs,e,s _ _ h,bH.mono s r⟩
 |.lst ds,_,⟨a,xs,e,h,r⟩=>⟨a,xs,e,mf s h,bH.mono s r⟩
 |.cf _,_,⟨a,bu,e,h⟩=>⟨a,bu,e,s _ _ h⟩
 |.bN _,_,⟨a,bu,ys,e,h,r⟩=>⟨a,bu,ys,e,s _ _ h,r.mono s⟩
 |.hD _,_,h=>h
theorem bH.mono (s:bE G aR):∀{ds:List D}{xs:List V},bH K G ds xs->bH K aR ds xs
 |[],_,h=>h
 |d::ds,_,⟨v,r,e,J,aa⟩=>⟨v,r,e,Rep.mono s J,bH.mono s aa⟩
end
theorem bH.length:∀{ds:List D}{xs:List V},bH K G ds xs->ds.length=xs.length
 |[],_,h=>by cases h;rfl
 |d::ds,_,⟨v,r,e,J,aa⟩=>by subst e;simp[bH.length aa]
theorem bH.append:∀{ds ak:List D}{xs ys:List V},bH K G ds xs->bH K G ak ys->bH K G (ds++ak) (xs++ys)
 |[],_,_,_,h,q=>by cases h;exact q
 |d::ds,_,_,_,⟨v,r,e,J,aa⟩,q=>by subst e;exact⟨v,r++_,rfl,J,bH.append aa q⟩
theorem bH.get:∀{ds:List D}{xs:List V}{i:Nat}{d:D},bH K G ds xs->ds[i]?=some d->∃v,xs[i]?=some v/\Rep K G d v
 |[],_,_,_,h,e=>by simp at e
 |d::ds,_,0,_,⟨v,r,e,J,aa⟩,q=>by subst e;simp at q;subst q;exact⟨v,rfl,J⟩
 |d::ds,_,i+1,_,⟨v,r,e,J,aa⟩,q=>by subst e;simpa using bH.get aa (by simpa using q)
theorem bH.drop:∀{ds:List D}{xs:List V}(n:Nat),bH K G ds xs->bH K G (ds.drop n) (xs.drop n)
 |_,_,0,h=>by simpa using h
 |[],_,n+1,h=>by cases h;simp[bH]
 |d::ds,_,n+1,⟨v,r,e,J,aa⟩=>by subst e;simpa using bH.drop n aa
theorem bH.take:∀{ds:List D}{xs:List V}(n:Nat),bH K G ds xs->bH K G (ds.take n) (xs.take n)
 |_,_,0,h=>by simp[bH]
 |[],_,n+1,h=>by cases h;simp[bH]
 |d::ds,_,n+1,⟨v,r,e,J,aa⟩=>by subst e;exact⟨v,r.take n,by simp,J,bH.take n aa⟩
def bH.snoc(h:bH K G ds xs)(q:Rep K G d v):bH K G (ds++[d]) (xs++[v]):=h.append ⟨v,[],rfl,q,rfl⟩
noncomputable def View(K:W.Frag)(G H:aD):D->V->Prop
 |.cf ax,v=>∃a,v=.ref a/\hP H a (.ey (g6 ax))
 |.bN ax,v=>∃a ys,v=.ref a/\hP H a (.dY ys)/\eJ G ax ys
 |.lst ds,v=>∃a xs,v=.ref a/\ej K H a xs/\bH K G ds xs
 |d,v=>Rep K G d v
def Rep.view(s:bE G H):∀{d:D}{v:V},Rep K G d v->View K G H d v
 |.lst ds,_,⟨a,xs,e,h,r⟩=>⟨a,xs,e,mf s h,r⟩
 |.dK,_,h=>h
 |.aU _,_,h=>h
 |.int _,_,h=>h
 |.str _,_,h=>h
 |.tup _,_,h=>h
 |.cf _,_,⟨a,bu,e,h⟩=>⟨a,e,.inr ⟨bu,s _ _ h⟩⟩
 |.bN _,_,⟨a,bu,ys,e,h,r⟩=>⟨a,ys,e,.inr ⟨bu,s _ _ h⟩,r⟩
 |.hD _,_,h=>h
structure Ext(G H aR aq:aD):Prop where
 g:bE G aR
 h:bE H aq
 sub:bE aR aq
 new:∀a,G a=none->H a≠none->aR a=none
 dT:∀b xs,aq b=some (.tup xs)->H b=some (.tup xs)\/aR b=some (.tup xs)
theorem Ext.refl(s:bE G H):Ext G H G H:=⟨bE.refl G,bE.refl H,s,λ_ h _=>h,λ_ _ h=>.inl h⟩
theorem Ext.trans(x:Ext G H aL H1)(y:Ext aL H1 aR aq):Ext G H aR aq :=
 ⟨x.g.trans y.g,x.h.trans y.h,y.sub,λa J aa=>y.new a (x.new a J aa) (λz=>by
  cases q:H a with
  |none=>exact aa q
  |some o=>rw[x.h a o q]at z;cases z),λb xs z=>(y.dT b xs z).elim (λz=>(x.dT b xs z).imp id λz=>y.g _ _ z) .inr⟩
def fY(h:H a=none):bE H (upd H a o):=λb u e=>by rw[dc (nx e h)];exact e
def View.ext(x:Ext G H aL H1):∀{d:D}{v:V},View K G H d v->View K aL H1 d v
 |.lst ds,_,⟨a,xs,e,h,r⟩=>⟨a,xs,e,mf x.h h,r.mono x.g⟩
 |.dK,_,h=>h
 |.aU _,_,h=>h
 |.int _,_,h=>h
 |.str _,_,h=>h
 |.tup _,_,h=>Rep.mono (K:=K) x.g h
 |.cf _,_,⟨a,e,h⟩=>⟨a,e,HS x.h h⟩
 |.bN _,_,⟨a,ys,e,h,r⟩=>⟨a,ys,e,HS x.h h,r.mono x.g⟩
 |.hD _,_,h=>h
def Ext.own(s:bE G H)(h:H a=none)(az:∀xs,o≠.tup xs):Ext G H G (upd H a o):=⟨bE.refl G,fY h,s.trans (fY h),λ_ J _=>J,λb xs e=>by
 by_cases q:b=a
 .subst q;rw[dJ]at e;cases e;exact absurd rfl (az xs)
 .rw[dc q]at e;exact .inl e⟩
def Ext.put(s:bE G H)(h:H a=none):Ext G H (upd G a o) (upd H a o):=by
 have ks:G a=none:=s.free h;refine⟨fY ks,fY h,λb u e=>?_,λb J aa=>?_,λb xs e=>?_⟩
 .by_cases q:b=a
  .subst q;rw[dJ]at e ⊢;exact e
  .rw[dc q]at e ⊢;exact s b u e
 .rw[dc (λq=>aa (by rw[q];exact h))];exact J
 .by_cases q:b=a
  .subst q;rw[dJ]at e ⊢;exact .inr e
  .rw[dc q]at e;exact .inl e
end
inductive fj where
 |view|val|fresh
noncomputable def cT(K:W.Frag)(H aR aq:aD):fj->D->V->Prop
 |.view,d,v=>View K aR aq d v
 |.val,d,v=>Rep K aR d v
 |.fresh,.lst ds,v=>∃a xs,v=.ref a/\aq a=some (.lst xs)/\H a=none/\aR a=none/\bH K aR ds xs
 |.fresh,.cf _,_=>False
 |.fresh,.bN _,_=>False
 |.fresh,d,v=>Rep K aR d v
noncomputable def gS:D->Bool
 |.lst _=>true
 |.cf _=>true
 |.bN _=>true
 |_=>false
noncomputable def jB(K:W.Frag)(G:aD):D->e4->Prop
 |.lst ds,o=>∃xs,o=.lst xs/\bH K G ds xs
 |.cf ax,o=>o=.ey (g6 ax)
 |.bN ax,o=>∃ys,o=.dY ys/\eJ G ax ys
 |_,_=>False
theorem jB.mono{K:W.Frag}(s:bE G aR):∀{d:D}{o:e4},jB K G d o->jB K aR d o
 |.lst _,_,⟨xs,e,r⟩=>⟨xs,e,r.mono s⟩
 |.cf _,_,h=>h
 |.bN _,_,⟨ys,e,r⟩=>⟨ys,e,r.mono s⟩
 |.dK,_,h=>h
 |.aU _,_,h=>h
 |.int _,_,h=>h
 |.str _,_,h=>h
 |.tup _,_,h=>h
 |.hD _,_,h=>h
structure et(K:W.Frag)(ao:List Nat)(G H:aD)(ρ:bx)(σ:dp):Prop where
 len:ρ.length=σ.length
 sub:bE G H
 val:∀(i:Nat)(d:D),ρ[i]?=some (some d)->i∉ao->∃v,σ[i]?=some (some v)/\Rep K G d v
 own:∀(i:Nat)(d:D),ρ[i]?=some (some d)->i∈ao->gS d=false->∃v,σ[i]?=some (some v)/\Rep K G d v
 lst:∀(i:Nat)(d:D),ρ[i]?=some (some d)->i∈ao->gS d=true->∃a o,σ[i]?=some (some (V.ref a))/\H a=some o/\G a=none/\jB K G d o
 dT:∀b xs,H b=some (.tup xs)->G b=some (.tup xs)
 apart:∀(i j:Nat)(d e:D)(a b:Addr),ρ[i]?=some (some d)->ρ[j]?=some (some e)->gS d=true->gS e=true->i∈ao->j∈ao->i≠j->σ[i]?=some (some (V.ref a))->σ[j]?=some (some (V.ref b))->a≠b
def et.ext{K:W.Frag}(h:et K ao G H ρ σ)(x:Ext G H aR aq):et K ao aR aq ρ σ where
 len:=h.len
 sub:=x.sub
 val:=λi d e hm=>let ⟨v,a,b⟩:=h.val i d e hm;⟨v,a,b.mono x.g⟩
 own:=λi d e hm aA=>let ⟨v,a,b⟩:=h.own i d e hm aA;⟨v,a,b.mono x.g⟩
 lst:=λi d e hm aA=>let ⟨a,o,J,aa,aJ,aW⟩:=h.lst i d e hm aA;⟨a,o,J,x.h _ _ aa,x.new a aJ (by rw[aa];exact λz=>nomatch z),aW.mono x.g⟩
 dT:=λb xs z=>(x.dT b xs z).elim (λz=>x.g _ _ (h.dT b xs z)) id
 apart:=h.apart
theorem et.view{K:W.Frag}(h:et K ao G H ρ σ){i:Nat}{d:D}(e:ρ[i]?=some (some d)):∃v,σ[i]?=some (some v)/\View K G H d v:=by
 by_cases hm:i∈ao
 .cases hd:gS d with
  |false=>obtain⟨v,J,aa⟩:=h.own i _ e hm hd;exact⟨v,J,aa.view h.sub⟩
  |true =>
   obtain⟨a,o,J,aa,aJ,aW⟩:=h.lst i d e hm hd;cases d with
   |lst ds=>obtain⟨xs,rfl,r⟩:=aW;exact⟨_,J,a,xs,rfl,.inl (.inl aa),r⟩
   |cf ax=>cases aW;exact⟨_,J,a,rfl,.inl aa⟩
   |bN ax=>obtain⟨ys,rfl,r⟩:=aW;exact⟨_,J,a,ys,rfl,.inl aa,r⟩
   |_=>cases hd
 .obtain⟨v,J,aa⟩:=h.val i d e hm;exact⟨v,J,aa.view h.sub⟩
noncomputable abbrev dA:=Nat->Value->List Addr->Heap->Prop
def hr(X:a7)(pins:List (Addr×Obj))(H:aD)(a:Addr):Prop :=
 H a=none/\(a∈X.ex\/X.eS.heap.get? a=none)/\a≠X.env.locals/\(∀x c,X.env.cells.lookup x=some c->c≠a)/\∀p∈X.cA++pins,p.1≠a
def hr.of{σ:dp}(I:Inv X pins σ H s)(h:s.heap.get? a=none)(h':aq a=none):hr X pins aq a:=by
 have no:∀{b:Addr}{o:Obj},s.heap.get? b=some o->b≠a:=λq z=>by rw[z,h]at q;cases q
 refine⟨h',?_,λz=>?_,λx c q=>?_,λp q=>no (I.pin p q).1⟩
 .by_cases ai:a∈X.ex
  .exact .inl ai
  .refine .inr ?_;cases q:X.eS.heap.get? a with
   |none=>rfl
   |some o=>obtain⟨bt,e⟩:=I.base.there a o q ai;rw[h]at e;cases e
 .obtain⟨m,⟨o,_,_,az,_⟩,_⟩:=I.loc;exact no az z.symm
 .obtain⟨v,o,az,_⟩:=I.cell x c q;exact no az
def ff(xp:dA)(X:a7)(c:Nat)(H:aD):Prop:=∀(pins:List (Addr×Obj))(σ:dp)(aq:aD)(s':Shared)(e:Value)(l:List Addr),Inv X pins σ aq s'->bE H aq->(∀a∈l,hr X pins aq a)->xp c e l s'.heap->X.cq e s'
def ff.mono(h:ff xp X c H)(s:bE H aq):ff xp X c aq:=λpins σ aX s' e l I q n x=>h pins σ aX s' e l I (s.trans q) n x
noncomputable def bp(xp:dA)(X:a7)(ao:List Nat)(m:fj)(f:bx->cu D):TE:=λσ H Q =>
 ∃G ρ,et X.K ao G H ρ σ/\cS (f ρ) (λd=>∀v aR aq,Ext G H aR aq->cT X.K H aR aq m d v->Q v aq) (λc=>ff xp X c H)
theorem cT.view{K:W.Frag}(s:bE aR aq):∀{m:fj}{d:D}{v:V},cT K H aR aq m d v->View K aR aq d v
 |.view,_,_,h=>h
 |.val,_,_,h=>Rep.view s h
 |.fresh,.lst ds,_,⟨a,xs,e,J,_,_,r⟩=>⟨a,xs,e,.inl (.inl J),r⟩
 |.fresh,.dK,_,h=>h
 |.fresh,.aU _,_,h=>h
 |.fresh,.int _,_,h=>h
 |.fresh,.str _,_,h=>h
 |.fresh,.tup _,_,h=>h
 |.fresh,.cf _,_,h=>h.elim
 |.fresh,.bN _,_,h=>h.elim
 |.fresh,.hD _,_,h=>h
theorem aS.val(h:aS X e (bp xp X ao .fresh f)):aS X e (bp xp X ao .val f):=by
 intro pins s σ H Q I ⟨G,ρ,af,hw⟩;refine h pins s σ H Q I ⟨G,ρ,af,b8 hw (λd k v aR aq x r=>?_) λ_ q=>q⟩;cases d with
 |lst ds =>
  obtain⟨a,xs,rfl,J,aa,aJ,aW⟩:=r;refine k _ (upd aR a (.lst xs)) aq ⟨x.g.trans (fY aJ),x.h,λb o q=>?_,λb aO ba=>?_,λb xs q=>(x.dT b xs q).imp id λz=>fY aJ _ _ z⟩ ⟨a,xs,rfl,.inl (.inl dJ),aW.mono (fY aJ)⟩
  .by_cases ae:b=a
   .subst ae;rw[dJ]at q;rw[J];exact q
   .rw[dc ae]at q;exact x.sub b o q
  .rw[dc (λz=>ba (by rw[z];exact aa))];exact x.new b aO ba
 |cf _=>exact r.elim
 |bN _=>exact r.elim
 |_=>exact k v aR aq x r
theorem aS.view(h:aS X e (bp xp X ao m f)):aS X e (bp xp X ao .view f):=by
 intro pins s σ H Q I ⟨G,ρ,af,hw⟩;exact h pins s σ H Q I ⟨G,ρ,af,b8 hw (λd k v aR aq x r=>k v aR aq x (r.view x.sub)) λ_ q=>q⟩
section
def II(aP:X.N[i]?=some x)(aN:ft X.env.scope x)(J:(x==("__debug__":Str))=false)(aa:(x==("__classdict__":Str))=false):aS X (.Name x p) (bp xp X ao .view λρ=>ζ.ev pg Φ ρ (.var i)):=by
 intro pins s σ H Q I ⟨G,ρ,af,hw⟩;dsimp only at hw;cases e:ρ[i]? with
 |none=>rw[ζ.u1,e]at hw;exact hw.elim
 |some o =>
  cases o with
  |none=>rw[ζ.u1,e]at hw;exact hw.elim
  |some d =>
   rw[ζ.y0 i e]at hw;obtain⟨v,a,b⟩:=af.view e;exact gU aP aN J aa pins s σ H Q I ⟨v,a,hw v G H (Ext.refl af.sub) b⟩
def Xo(hm:i∉ao)(aP:X.N[i]?=some x)(aN:ft X.env.scope x)(J:(x==("__debug__":Str))=false)(aa:(x==("__classdict__":Str))=false):aS X (.Name x p) (bp xp X ao .val λρ=>ζ.ev pg Φ ρ (.var i)):=by
 intro pins s σ H Q I ⟨G,ρ,af,hw⟩;dsimp only at hw;cases e:ρ[i]? with
 |none=>rw[ζ.u1,e]at hw;exact hw.elim
 |some o =>
  cases o with
  |none=>rw[ζ.u1,e]at hw;exact hw.elim
  |some d =>
   rw[ζ.y0 i e]at hw;obtain⟨v,a,b⟩:=af.val i d e hm;exact gU aP aN J aa pins s σ H Q I ⟨v,a,hw v G H (Ext.refl af.sub) b⟩
def ID{d:D}(h:ζ.litOk d c=true):aS X (.Constant c j p) (bp xp X ao m λρ=>ζ.ev pg Φ ρ (.lit d)):=by
 intro pins s σ H Q I ⟨G,ρ,af,hw⟩;dsimp only at hw;rw[ζ.Ef]at hw;have fin:∀v,cT X.K H G H m d v->Q v H:=λv r=>hw v G H (Ext.refl af.sub) r
 cases d with
 |dK=>cases c<;>simp[ζ.litOk]at h;exact U4 pins s σ H Q I (fin _ (by cases m<;>rfl))
 |aU b =>
  cases c<;>simp[ζ.litOk]at h;subst h;exact UQ pins s σ H Q I (fin _ (by cases m<;>rfl))
 |int i =>
  cases c<;>simp[ζ.litOk]at h;subst h;exact Hu pins s σ H Q I (fin _ (by cases m<;>rfl))
 |str x =>
  cases c<;>simp[ζ.litOk]at h;subst h;exact A9 pins s σ H Q I (fin _ (by cases m<;>rfl))
 |_=>cases c<;>simp[ζ.litOk]at h
noncomputable def l9(K:W.Frag)(g:D->D->cu D):f5:=λx y H Q=>∃G bj c9,bE G H/\View K G H bj x/\View K G H c9 y/\cS (g bj c9) (λd=>∀v aR aq,Ext G H aR aq->cT K H aR aq .fresh d v->Q v aq) (λ_=>False)
def cT.old{K:W.Frag}(s:bE H H1):∀{m:fj}{d:D}{v:V},cT K H1 aR aq m d v->cT K H aR aq m d v
 |.view,_,_,h=>h
 |.val,_,_,h=>h
 |.fresh,.lst ds,_,⟨a,xs,e,J,aa,aJ,r⟩=>⟨a,xs,e,J,s.free aa,aJ,r⟩
 |.fresh,.dK,_,h=>h
 |.fresh,.aU _,_,h=>h
 |.fresh,.int _,_,h=>h
 |.fresh,.str _,_,h=>h
 |.fresh,.tup _,_,h=>h
 |.fresh,.cf _,_,h=>h
 |.fresh,.bN _,_,h=>h
 |.fresh,.hD _,_,h=>h
def WH(aY:∀x y c,g x y≠.exc c)(az:dt X (binaryOp op) (l9 X.K g))(aw:aS X a (bp xp X ao .view bh))(ae:aS X b (bp xp X ao .view c1)):
  aS X (.BinOp a op b pos) (bp xp X ao .fresh λρ=>bh ρ>>=λx=>c1 ρ>>=λy=>g x y):=by
 intro pins s σ H Q I ⟨G,ρ,af,hw⟩;refine Hy az aw ae pins s σ H Q I ?_;refine⟨G,ρ,af,b8 (bz.mp hw) (λbj k v aL H1 aT aG=>?_) λ_ q=>q⟩;refine⟨aL,ρ,af.ext aT,b8 (bz.mp k) (λc9 k2 v2 cn aX b7 aV=>?_) λ_ q=>q.mono aT.h⟩;refine⟨cn,bj,c9,b7.sub,View.ext b7 aG,aV,?_⟩;cases q:g bj c9 with
 |ok d =>
  rw[q]at k2;exact λwU ke bq iB c5=>k2 wU ke bq ((aT.trans b7).trans iB) (c5.old (aT.h.trans b7.h))
 |exc c=>exact absurd q (aY _ _ _)
 |bad=>rw[q]at k2;exact k2
def m2{K:W.Frag}{Q:dD}(af:bE G H)(k:∀v aR aq,Ext G H aR aq->cT K H aR aq .fresh d v->Q v aq)(r:cT K H G H .fresh d v):Q v H:=k v G H (Ext.refl af) r
def Nw:dt X (binaryOp .Sub) (l9 X.K (ζ.eE .sub)):=by
 intro pins s σ H x y v u Q I bg bT ⟨G,bj,c9,af,cm,ec,hw⟩;cases bj<;>cases c9<;>first|exact hw.elim|skip
 exact UH pins s σ H x y v u Q I bg bT ⟨_,_,cm,ec,m2 af hw rfl⟩
def Nt:dt X (binaryOp .Mod) (l9 X.K (ζ.eE .mod)):=by
 intro pins s σ H x y v u Q I bg bT ⟨G,bj,c9,af,cm,ec,hw⟩;cases bj<;>cases c9<;>first|exact hw.elim|skip
 rename_i i j;rw[ζ.mod_int]at hw
 by_cases h:0<j
 .rw[if_pos h]at hw;exact UD pins s σ H x y v u Q I bg bT ⟨_,_,cm,ec,h,m2 af hw rfl⟩
 .rw[if_neg h]at hw;exact hw.elim
def Nq:dt X (binaryOp .FloorDiv) (l9 X.K (ζ.eE .fdiv)):=by
 intro pins s σ H x y v u Q I bg bT ⟨G,bj,c9,af,cm,ec,hw⟩;cases bj<;>cases c9<;>first|exact hw.elim|skip
 rename_i i j;rw[ζ.Et]at hw
 by_cases h:0<j/\j<1073741824
 .rw[if_pos h]at hw;exact Uy pins s σ H x y v u Q I bg bT ⟨_,_,cm,ec,h,m2 af hw rfl⟩
 .rw[if_neg h]at hw;exact hw.elim
end
mutual
noncomputable def toPy:D->PyData
 |.dK=>.none
 |.aU b=>.bool b
 |.int i=>.int i
 |.str x=>.str x
 |.tup xs=>.tuple (hl xs)
 |.lst xs=>.list (hl xs)
 |.cf _=>.dict []
 |.bN _=>.dict []
 |.hD _=>.dict []
noncomputable def hl:List D->List PyData
 |[]=>[]
 |d::ds=>toPy d::hl ds
end
mutual
theorem r3:∀a b:D,PyData.eqv (toPy a) (toPy b)=ζ.gb a b
 |.dK,b=>by cases b<;>rfl
 |.aU _,b=>by cases b<;>rfl
 |.int _,b=>by cases b<;>rfl
 |.str _,b=>by cases b<;>rfl
 |.tup xs,b=>by
  cases b with
  |tup ys=>exact yW xs ys
  |_=>rfl
 |.lst xs,b=>by
  cases b with
  |lst ys=>exact yW xs ys
  |_=>rfl
 |.cf _,b=>by cases b<;>rfl
 |.bN _,b=>by cases b<;>rfl
 |.hD _,b=>by cases b<;>rfl
theorem yW:∀a b:List D,PyData.eqvAll (hl a) (hl b)=ζ.ko a b
 |[],[]=>rfl
 |[],_::_=>rfl
 |_::_,[]=>rfl
 |x::xs,y::ys=>by simp only[hl,PyData.eqvAll,ζ.ko,r3 x y,yW xs ys]
end
mutual
theorem qP:∀(n:Nat)(d:D),ζ.dh n d=true->(toPy d).canLay0=true/\(toPy d).depth<=n
 |n,.dK,_=>⟨rfl,abZ _⟩
 |n,.aU _,_=>⟨rfl,abZ _⟩
 |n,.int _,_=>⟨rfl,abZ _⟩
 |0,.str x,h=>⟨h,abZ _⟩
 |n+1,.str x,h=>⟨h,abZ _⟩
 |0,.tup _,h=>by cases h
 |n+1,.tup xs,h=>by
  obtain⟨a,b⟩:=BG n xs h;exact⟨a,by show PyData.depthAll (hl xs)+1<=n+1;lia⟩
 |0,.lst _,h=>by cases h
 |n+1,.lst xs,h=>by
  obtain⟨a,b⟩:=BG n xs h;exact⟨a,by show PyData.depthAll (hl xs)+1<=n+1;lia⟩
 |0,.cf _,h=>by cases h
 |n+1,.cf _,h=>by cases h
 |0,.bN _,h=>by cases h
 |n+1,.bN _,h=>by cases h
 |0,.hD _,h=>by cases h
 |n+1,.hD _,h=>by cases h
theorem BG:∀(n:Nat)(ds:List D),ds.all (ζ.dh n)=true->PyData.canLayAll0 (hl ds)=true/\PyData.depthAll (hl ds)<=n
 |n,[],_=>⟨rfl,abZ _⟩
 |n,d::ds,h=>by
  simp only[List.all_cons,abt]at h;obtain⟨a,b⟩:=qP n d h.1;obtain⟨pE,g5⟩:=BG n ds h.2;refine⟨by simp only[hl,PyData.canLayAll0,a,pE,ae1],?_⟩;show max (PyData.depth (toPy d)) (PyData.depthAll (hl ds))<=n;lia
end
def wu{d:D}(h:ζ.dh 60 d=true):SeqAt.shaped (toPy d)=true:=by
 obtain⟨a,b⟩:=qP 60 d h;unfold SeqAt.shaped;rw[a,Bool.true_and];exact decide_eq_true ⋯
section
variable{xp:dA}{X:a7}{ao:List Nat}{pg:ζ.eM}{Φ:ζ.e3}{pins:List (Addr×Obj)}{σ:dp}{G H:aD}{s:Shared}
mutual
theorem HX (I:Inv X pins σ H s) (af:bE G H):∀(n:Nat){d:D}{v:V}{u:Value},ζ.dh n d=true->Rep X.K G d v->RelV v u->∃as,Reads s.heap u (toPy d) as
 |_,.dK,_,_,_,h,r=>by cases h;cases r;exact⟨_,.none⟩
 |_,.aU b,_,_,_,h,r=>by cases h;cases r;exact⟨_,.bool b⟩
 |_,.int i,_,_,_,h,r=>by cases h;obtain⟨t,rfl⟩:=r;exact⟨_,.int i t⟩
 |_,.str x,_,_,_,h,r=>by cases h;obtain⟨t,rfl⟩:=r;exact⟨_,.str x t⟩
 |0,.tup ds,_,_,z,_,_=>by cases z
 |n+1,.tup ds,_,_,z,⟨a,xs,e,h,q⟩,r=>by
  subst e;cases r;obtain⟨its,bO,⟨o,az,ah,cv,hd⟩,_⟩:=I.tuple (iy af h);obtain⟨as,cw⟩:=o2 I af n z q bO;exact⟨as,.tuple az ah hd (by simpa using cw)⟩
 |0,.lst ds,_,_,z,_,_=>by cases z
 |n+1,.lst ds,_,_,z,⟨a,xs,e,h,q⟩,r=>by
  subst e;cases r;obtain⟨its,bO,⟨o,cv,az,ah,_,hd⟩,_⟩:=I.list (mf af h);obtain⟨as,cw⟩:=o2 I af n z q bO;exact⟨a::as,.list az ah hd (by simpa using cw)⟩
 |0,.cf _,_,_,z,_,_=>by cases z
 |n+1,.cf _,_,_,z,_,_=>by cases z
 |0,.bN _,_,_,z,_,_=>by cases z
 |n+1,.bN _,_,_,z,_,_=>by cases z
 |_,.hD _,_,_,_,h,_=>h.elim
theorem o2 (I:Inv X pins σ H s) (af:bE G H):∀(n:Nat){ds:List D}{xs:List V}{us:List Value},ds.all (ζ.dh n)=true->bH X.K G ds xs->Vals xs us->∃as,ReadsAll s.heap us (hl ds) as
 |_,[],_,_,_,h,r=>by cases h;cases r;exact⟨_,.nil⟩
 |n,d::ds,_,_,z,⟨v,t,e,J,aa⟩,r=>by
  subst e;simp only[List.all_cons,abt]at z;cases r with
  |cons aG aV =>
   obtain⟨as,cw⟩:=HX I af n z.1 J aG;obtain⟨bs,dU⟩:=o2 I af n z.2 aa aV;exact⟨as++bs,.cons cw dU⟩
end
def o1(I:Inv X pins σ H s)(af:bE G H)(h:View X.K G H d v)(r:RelV v u)(lQ:ζ.dh 60 d=true):∃as,Reads s.heap u (toPy d) as:=by
 cases d with
 |cf ax=>cases lQ
 |bN ax=>cases lQ
 |lst ds =>
  obtain⟨a,xs,rfl,h,q⟩:=h;cases r;obtain⟨its,bO,⟨o,n,az,ah,_,hd⟩,_⟩:=I.list h;obtain⟨as,cw⟩:=o2 I af 59 lQ q bO;exact⟨a::as,.list az ah hd (by simpa using cw)⟩
 |_=>exact HX I af 60 lQ h r
noncomputable def hi(K:W.Frag)(g:D->D->cu Bool):f5:=λx y H Q=>∃G bj c9,bE G H/\View K G H bj x/\View K G H c9 y/\cS (g bj c9) (λb=>Q (.aU b) H) (λ_=>False)
def Kk{r:cu Bool}:cS (ζ.h7 r) Q E<->cS r (λb=>Q (!b)) E:=by cases r<;>exact Iff.rfl
def Ki{x y:D}(h:cS (ζ.fw x y) Q E):ζ.dh 60 x=true/\ζ.dh 60 y=true/\Q (ζ.gb x y):=by
 unfold ζ.fw at h;cases q:(ζ.dh 60 x&&ζ.dh 60 y) with
 |false=>rw[q]at h;exact h.elim
 |true =>
  rw[q]at h;simp only[abt]at q;exact⟨q.1,q.2,h⟩
def LS(br:X.A.units+64<cLine):dt X (compareOp .Eq) (hi X.K (ζ.dX .eq)):=by
 intro pins s σ H x y v u Q I bg bT ⟨G,bj,c9,af,cm,ec,hw⟩;rw[ζ.DB]at hw;obtain⟨J,aa,q⟩:=Ki hw;obtain⟨as,cw⟩:=o1 I af cm bg J;obtain⟨bs,dU⟩:=o1 I af ec bT aa;refine eq_dataH cw dU (wu J) (wu aa) br ?_;rw[r3];exact⟨.aU _,H,I,rfl,q⟩
def LY(br:X.A.units+64<cLine):dt X (compareOp .NotEq) (hi X.K (ζ.dX .ne)):=by
 intro pins s σ H x y v u Q I bg bT ⟨G,bj,c9,af,cm,ec,hw⟩;rw[ζ.DD]at hw;obtain⟨J,aa,q⟩:=Ki (Kk.mp hw);obtain⟨as,cw⟩:=o1 I af cm bg J;obtain⟨bs,dU⟩:=o1 I af ec bT aa;refine ne_dataH cw dU (wu J) (wu aa) br ?_;rw[r3];exact⟨.aU _,H,I,rfl,q⟩
end
section
open Classical in
def kp (h:Heap) (bj:D) (y:Value):Bool:=decide (∃(d:D)(as:List Addr),Reads h y (toPy d) as/\ζ.dh 60 d=true/\ζ.gb d bj=true)
open Classical in
theorem yT (r:Reads h y (toPy d) as) (hd:ζ.dh 60 d=true):kp h bj y=ζ.gb d bj:=by
 unfold kp;cases q:ζ.gb d bj with
 |true=>exact decide_eq_true ⟨d,as,r,hd,q⟩
 |false =>
  refine decide_eq_false ?_;rintro⟨d',aah,bX,fT,cN⟩;have e:=SeqAt.Reads.unique _ _ _ _ _ (qP 60 d hd).1 r bX;rw[<- r3]at q cN;rw[e,cN]at q;cases q
theorem xB:∀{ds:List D}{us:List Value}{as:List Addr},ReadsAll h us (hl ds) as->ds.all (ζ.dh 60)=true->us.any (kp h bj)=ds.any λd=>ζ.gb d bj
 |[],_,_,r,_=>by cases r;rfl
 |d::ds,_,_,r,hd=>by
  cases r with
  |cons aG aV =>
   simp only[List.all_cons,abt]at hd;simp only[List.any_cons,yT aG hd.1,xB aV hd.2]
theorem uY{X:a7}(br:X.A.units+64<cLine)(bg:Reads s.heap v (toPy bj) bs)(ai:ζ.dh 60 bj=true):∀{ds:List D}{us:List Value}{as:List Addr},ReadsAll s.heap us (hl ds) as->ds.all (ζ.dh 60)=true->∀y,y∈us->SeqAt.EqAt X.A.in1 s y v (kp s.heap bj y)
 |[],_,_,r,_,y,aQ=>by cases r;simp at aQ
 |d::ds,_,_,r,hd,y,aQ=>by
  cases r with
  |cons aG aV =>
   simp only[List.all_cons,abt]at hd;rcases abA.mp aQ with rfl|aQ
   .rw[yT aG hd.1,<- r3];refine SeqAt.eqAt_reads _ _ _ _ _ _ _ _ aG bg (qP 60 _ hd.1).1 (qP 60 _ ai).1 ?_;have J:=(qP 60 _ hd.1).2;show X.A.units+1+_<cLine;have:min (toPy d).depth (toPy bj).depth<=60:=acx (Nat.min_le_left _ _) J;lia
   .exact uY br bg ai aV hd.2 y aQ
def Kj{x:D}{ys:List D}(h:cS (ζ.hg x ys) Q E):ζ.dh 60 x=true/\ys.all (ζ.dh 60)=true/\Q (ζ.memD x ys):=by
 unfold ζ.hg at h;cases q:(ζ.dh 60 x&&ys.all (ζ.dh 60)) with
 |false=>rw[q]at h;exact h.elim
 |true =>
  rw[q]at h;simp only[abt]at q;exact⟨q.1,q.2,h⟩
def FT{pins:List (Addr×Obj)}{σ:dp}{s:Shared}{ys:List D}(I:Inv X pins σ H s)(af:bE G H)(h:View X.K G H (.tup ys) y\/View X.K G H (.lst ys) y)(r:RelV y u)(lQ:ys.all (ζ.dh 60)=true):
  ∃(a:Addr)(its:List Value)(as:List Addr),u=.ref a/\ReadsAll s.heap its (hl ys) as/\(s.heap.IsTuple a its.toArray\/s.heap.IsList a its.toArray):=by
 rcases h with⟨a,xs,rfl,h,q⟩|⟨a,xs,rfl,h,q⟩
 .cases r;obtain⟨its,bO,⟨o,az,ah,n,hd⟩,_⟩:=I.tuple (iy af h);obtain⟨as,cw⟩:=o2 I af 60 lQ q bO;exact⟨a,its,as,rfl,cw,.inl ⟨o,az,ah,n,hd⟩⟩
 .cases r;obtain⟨its,bO,⟨o,n,az,ah,_,hd⟩,_⟩:=I.list h;obtain⟨as,cw⟩:=o2 I af 60 lQ q bO;exact⟨a,its,as,rfl,cw,.inr ⟨o,az,ah,n,hd⟩⟩
def LV(br:X.A.units+64<cLine):dt X (compareOp .In) (hi X.K (ζ.dX .mem)):=by
 intro pins s σ H x y v u Q I bg bT ⟨G,bj,c9,af,cm,ec,hw⟩;have key:∀ys,(View X.K G H (.tup ys) y\/View X.K G H (.lst ys) y)->cS (ζ.hg bj ys) (λb=>Q (.aU b) H) (λ_=>False)->wpAny (model X.prog X.w) X.A (compareOp .In v u) (eU X pins σ Q) X.cq s:=by
  intro ys aQ hw;obtain⟨J,aa,q⟩:=Kj hw;obtain⟨bs,dU⟩:=o1 I af cm bg J;obtain⟨a,its,as,rfl,cw,az⟩:=FT I af aQ bT aa;have e:its.toArray.any (kp s.heap bj)=ζ.memD bj ys:=(by rw[List.any_toArray];exact xB cw aa);have he:∀z,z∈its.toArray->SeqAt.EqAt X.A.in1 s z v (kp s.heap bj z):=λz hz=>uY br dU J cw aa z (by simpa using hz)
  rcases az with az|az
  .exact SeqAt.in_tupleAt _ az he (by rw[e];exact⟨.aU _,H,I,rfl,q⟩)
  .exact SeqAt.in_listAt _ az he (by rw[e];exact⟨.aU _,H,I,rfl,q⟩)
 cases c9 with
 |tup ys=>exact key ys (.inl ec) hw
 |lst ys=>exact key ys (.inr ec) hw
 |_=>cases bj<;>exact hw.elim
def LZ(br:X.A.units+64<cLine):dt X (compareOp .NotIn) (hi X.K (ζ.dX .gj)):=by
 intro pins s σ H x y v u Q I bg bT ⟨G,bj,c9,af,cm,ec,hw⟩;have key:∀ys,(View X.K G H (.tup ys) y\/View X.K G H (.lst ys) y)->cS (ζ.h7 (ζ.hg bj ys)) (λb=>Q (.aU b) H) (λ_=>False)->wpAny (model X.prog X.w) X.A (compareOp .NotIn v u) (eU X pins σ Q) X.cq s:=by
  intro ys aQ hw;obtain⟨J,aa,q⟩:=Kj (Kk.mp hw);obtain⟨bs,dU⟩:=o1 I af cm bg J;obtain⟨a,its,as,rfl,cw,az⟩:=FT I af aQ bT aa;have e:its.toArray.any (kp s.heap bj)=ζ.memD bj ys:=(by rw[List.any_toArray];exact xB cw aa);have he:∀z,z∈its.toArray->SeqAt.EqAt X.A.in1 s z v (kp s.heap bj z):=λz hz=>uY br dU J cw aa z (by simpa using hz)
  rcases az with az|az
  .exact SeqAt.notIn_tupleAt _ az he (by rw[e];exact⟨.aU _,H,I,rfl,q⟩)
  .exact SeqAt.notIn_listAt _ az he (by rw[e];exact⟨.aU _,H,I,rfl,q⟩)
 cases c9 with
 |tup ys=>exact key ys (.inl ec) hw
 |lst ys=>exact key ys (.inr ec) hw
 |_=>cases bj<;>exact hw.elim
end
section
variable{xp:dA}{X:a7}{ao:List Nat}{m:fj}{bh c1 fc:bx->cu D}{a b c:Expr}{pos:Pos}
def AH{d:D}(h:ζ.fA 0 d=true):∃i,d=.int i:=by
 cases d with
 |int i=>exact⟨i,rfl⟩
 |_=>cases h
theorem vN:∀{ds:List D},ds.all (ζ.fA 0)=true->∃ns:List Int,ds=ns.map ζ.D.int
 |[],_=>⟨[],rfl⟩
 |d::ds,h=>by
  simp only[List.all_cons,abt]at h;obtain⟨i,rfl⟩:=AH h.1;obtain⟨ns,rfl⟩:=vN h.2;exact⟨i::ns,rfl⟩
def GC{d:D}(h:ζ.fA 1 d=true):∃ns:List Int,d=.tup (ns.map ζ.D.int):=by
 cases d with
 |tup ds=>obtain⟨ns,rfl⟩:=vN h;exact⟨ns,rfl⟩
 |_=>cases h
theorem j0{K:W.Frag}:∀{ns:List Int}{xs:List V},bH K G (ns.map ζ.D.int) xs->xs=ns.map V.int
 |[],_,h=>h
 |n::ns,_,⟨v,r,e,J,aa⟩=>by
  subst e;have J:v=.int n:=J;rw[J,j0 aa];rfl
theorem tb:∀a b:List Int,ζ.kL (a.map ζ.D.int) (b.map ζ.D.int)=some (dn.lexLt a b)
 |[],[]=>rfl
 |[],_::_=>rfl
 |_::_,[]=>rfl
 |x::a,y::b=>by
  rw[show ζ.kL ((x::a).map ζ.D.int) ((y::b).map ζ.D.int)=if (x==y)=true then ζ.kL (a.map .int) (b.map .int) else some (decide (x<y)) from rfl,tb a b];simp only[dn.lexLt]
  by_cases h:x=y<;>simp[h]
def LX(br:X.A.units+64<cLine):dt X (compareOp .Lt) (hi X.K (ζ.dX .lt)):=by
 intro pins s σ H x y v u Q I bg bT ⟨G,bj,c9,af,cm,ec,hw⟩;rw[ζ.DC]at hw;unfold ζ.tc at hw;cases q:((ζ.fA 0 bj&&ζ.fA 0 c9)||(ζ.fA 1 bj&&ζ.fA 1 c9)) with
 |false=>rw[q]at hw;exact hw.elim
 |true =>
  rw[q]at hw;simp only[acj]at hw;simp only[adq,abt]at q;rcases q with⟨J,aa⟩|⟨J,aa⟩
  .obtain⟨i,rfl⟩:=AH J;obtain⟨j,rfl⟩:=AH aa;exact UB pins s σ H x y v u Q I bg bT ⟨i,j,cm,ec,hw⟩
  .obtain⟨ns,rfl⟩:=GC J;obtain⟨ms,rfl⟩:=GC aa;obtain⟨a,xs,e1,k1,aG⟩:=cm;obtain⟨b,ys,ar,k2,aV⟩:=ec;rw[j0 aG]at k1;rw[j0 aV]at k2;refine UC ⋯ pins s σ H x y v u Q I bg bT ⟨a,b,ns,ms,e1,ar,iy af k1,iy af k2,?_⟩;simp only[ζ.kK,tb,ζ.AZ]at hw;exact hw
def LU:dt X (compareOp .Gt) (hi X.K (ζ.dX .gt)):=by
 intro pins s σ H x y v u Q I bg bT ⟨G,bj,c9,af,cm,ec,hw⟩;cases bj<;>cases c9<;>first|exact hw.elim|skip
 exact Uz pins s σ H x y v u Q I bg bT ⟨_,_,cm,ec,hw⟩
def LW:dt X (compareOp .LtE) (hi X.K (ζ.dX .le)):=by
 intro pins s σ H x y v u Q I bg bT ⟨G,bj,c9,af,cm,ec,hw⟩;cases bj<;>cases c9<;>first|exact hw.elim|skip
 exact UA pins s σ H x y v u Q I bg bT ⟨_,_,cm,ec,hw⟩
theorem cT.aU{K:W.Frag}{b:Bool}:cT K H aR aq m (.aU b) (.aU b):=by cases m<;>rfl
theorem cT.int{K:W.Frag}:cT K H aR aq m (.int i) (.int i):=by cases m<;>rfl
def cT.A0{K:W.Frag}{b:Bool}(h:cT K H aR aq m (.aU b) v):v=.aU b:=by cases m<;>exact h
def cT.qD{K:W.Frag}(h:cT K H aR aq m (.int i) v):v=.int i:=by cases m<;>exact h
noncomputable def yH(o:ζ.mw)(bh c1:bx->cu D):bx->cu D:=λρ=>bh ρ>>=λx=>c1 ρ>>=λy=>ζ.dX o x y>>=λk=>.ok (.aU k)
def oR{α:Type}:cu α->Bool
 |.exc _=>false
 |_=>true
def G9{α:Type}{r:cu α}(h:oR r=true)(c):r≠.exc c:=λe=>by rw[e]at h;cases h
def nz{α:Type}{p:Prop}[Decidable p]{a b:cu α}(aw:oR a=true)(ae:oR b=true):oR (if p then a else b)=true:=by by_cases h:p<;>simp[h,aw,ae]
def Ha(h:oR r=true):oR (ζ.h7 r)=true:=by cases r<;>first|rfl|exact h
def T8(o):oR (ζ.AZ o)=true:=by cases o<;>rfl
def yE(o)(x y:D)(c):ζ.dX o x y≠.exc c:=by
 refine G9 ?_ c;cases o with
 |eq=>exact nz rfl rfl
 |ne=>exact Ha (nz rfl rfl)
 |lt=>exact nz (T8 _) rfl
 |mem=>cases y<;>first|rfl|exact nz rfl rfl
 |gj=>cases y<;>first|rfl|exact Ha (nz rfl rfl)
 |le=>cases x<;>cases y<;>rfl
 |gt=>cases x<;>cases y<;>rfl
def pk{α:Type}{r:cu α}{Q:α->Prop}(h:cS r Q E)(aC:∀c,r≠.exc c):cS r Q fH:=by
 cases r with
 |ok a=>exact h
 |exc c=>exact absurd rfl (aC c)
 |bad=>exact h
def JA{σ:dp}(h:bp xp X ao m (yH o bh c1) σ H Q):t4 (hi X.K (ζ.dX o)) (bp xp X ao .view bh) (bp xp X ao .view c1) σ H Q:=by
 obtain⟨G,ρ,af,hw⟩:=h;refine⟨G,ρ,af,b8 (bz.mp hw) (λbj k v aL H1 aT aG=>?_) λ_ q=>q⟩;refine⟨aL,ρ,af.ext aT,b8 (bz.mp k) (λc9 k2 v2 cn aX b7 aV=>?_) λ_ q=>q.mono aT.h⟩;refine⟨cn,bj,c9,b7.sub,View.ext b7 aG,aV,?_⟩;exact b8 (pk (bz.mp k2) (λc=>yE o bj c9 c)) (λk q=>q (.aU k) cn aX (aT.trans b7) cT.aU) λ_ q=>q
def WK(az:dt X (compareOp op) (hi X.K (ζ.dX o)))(aw:aS X a (bp xp X ao .view bh))(ae:aS X b (bp xp X ao .view c1))(hm:behindInMarks op b=false):
  aS X (.Compare a [op] [b] pos) (bp xp X ao m (yH o bh c1)):=λpins s σ H Q I h=>UW az aw ae hm pins s σ H Q I (JA h)
noncomputable def fZ(xp:dA)(X:a7)(ao:List Nat)(f:bx->cu D):TT:=λσ H Q =>
 ∃G ρ,et X.K ao G H ρ σ/\cS (f ρ>>=ζ.eu) (λb=>∀aR aq,Ext G H aR aq->Q b aq) (λc=>ff xp X c H)
def B1{σ:dp}(h:fZ xp X ao f σ H Q):bp xp X ao .view f σ H (λx aq=>∃k,x=.aU k/\Q k aq):=by
 obtain⟨G,ρ,af,hw⟩:=h;refine⟨G,ρ,af,b8 (bz.mp hw) (λd k v aR aq x r=>?_) λ_ q=>q⟩;cases d with
 |aU b=>exact⟨b,cT.A0 r,k aR aq x⟩
 |_=>exact k.elim
def WN(az:dt X (compareOp op) (hi X.K (ζ.dX o)))(aw:aS X a (bp xp X ao .view bh))(ae:aS X b (bp xp X ao .view c1))(hm:behindInMarks op b=false):
  eI X (.Compare a [op] [b] pos) (fZ xp X ao (yH o bh c1)):=λpins s σ H Q I h=>VK az aw ae hm pins s σ H Q I (JA (B1 h))
def o5(h:aS X a (bp xp X ao .view f))(he:∀whole,isTrue a X.env whole=(do let v <- whole;standAt a.pos;holding [v] (truthy v))):eI X a (fZ xp X ao f):=λpins s σ H Q I hw=>VM h he pins s σ H Q I (B1 hw)
noncomputable def yF(o bt:ζ.mw)(bh c1 fc:bx->cu D):bx->cu D:=λρ=>bh ρ>>=λx=>c1 ρ>>=λy=>ζ.dX o x y>>=λk=>if k then fc ρ>>=λz=>ζ.dX bt y z>>=λcL=>.ok (.aU cL) else .ok (.aU false)
def JB{σ:dp}(h:bp xp X ao m (yF o bt bh c1 fc) σ H Q):BW (hi X.K (ζ.dX o)) (hi X.K (ζ.dX bt)) (bp xp X ao .view bh) (bp xp X ao .view c1) (bp xp X ao .view fc) σ H Q:=by
 obtain⟨G,ρ,af,hw⟩:=h;refine⟨G,ρ,af,b8 (bz.mp hw) (λbj k v aL H1 aT aG=>?_) λ_ q=>q⟩;refine⟨aL,ρ,af.ext aT,b8 (bz.mp k) (λc9 k2 v2 cn aX b7 aV=>?_) λ_ q=>q.mono aT.h⟩;refine⟨cn,bj,c9,b7.sub,View.ext b7 aG,aV,?_⟩;refine b8 (pk (bz.mp k2) (λc=>yE o bj c9 c)) (λk q=>?_) λ_ q=>q
 refine⟨k,rfl,?_⟩;cases k with
 |false =>
  simp only[abx,abS]at q ⊢;exact q (.aU false) cn aX (aT.trans b7) cT.aU
 |true =>
  simp only[acj]at q ⊢;refine⟨cn,ρ,(af.ext aT).ext b7,b8 (bz.mp q) (λDY k3 wU ke bq iB c5=>?_) λ_ z=>(z.mono aT.h).mono b7.h⟩;refine⟨ke,c9,DY,iB.sub,View.ext iB aV,c5,?_⟩;exact b8 (pk (bz.mp k3) (λc=>yE bt c9 DY c)) (λk q=>q (.aU k) ke bq ((aT.trans b7).trans iB) cT.aU) λ_ q=>q
def WL(az:dt X (compareOp op) (hi X.K (ζ.dX o)))(dG:dt X (compareOp op') (hi X.K (ζ.dX bt)))(aw:aS X a (bp xp X ao .view bh))(ae:aS X b (bp xp X ao .view c1))(ah:aS X c (bp xp X ao .view fc))(hm:lastMarks [op,op'] [b,c]=false):
  aS X (.Compare a [op,op'] [b,c] pos) (bp xp X ao m (yF o bt bh c1 fc)):=λpins s σ H Q I h=>UU az dG aw ae ah hm pins s σ H Q I (JB h)
def WM(az:dt X (compareOp op) (hi X.K (ζ.dX o)))(dG:dt X (compareOp op') (hi X.K (ζ.dX bt)))(aw:aS X a (bp xp X ao .view bh))(ae:aS X b (bp xp X ao .view c1))(ah:aS X c (bp xp X ao .view fc))(hm:lastMarks [op,op'] [b,c]=false):
  eI X (.Compare a [op,op'] [b,c] pos) (fZ xp X ao (yF o bt bh c1 fc)):=λpins s σ H Q I h=>VJ az dG aw ae ah hm pins s σ H Q I (JB (B1 h))
noncomputable def CP(bh c1:bx->cu D):bx->cu D:=λρ=>bh ρ>>=λx=>ζ.eu x>>=λk=>if k then c1 ρ else .ok (.aU false)
noncomputable def Hd(bh:bx->cu D):bx->cu D:=λρ=>bh ρ>>=λx=>ζ.eu x>>=λk=>.ok (.aU (!k))
def cT.back{K:W.Frag}(s:bE H H1)(h:cT K H1 aR aq m d v):cT K H aR aq m d v:=cT.old s h
def Iv{rest:List Expr}(aw:aS X a (bp xp X ao .view bh))(ae:aS X (.BoolOp .And (b::rest) pos) (bp xp X ao m c1)):aS X (.BoolOp .And (a::b::rest) pos) (bp xp X ao m (CP bh c1)):=by
 intro pins s σ H Q I ⟨G,ρ,af,hw⟩;refine Hq aw ae pins s σ H Q I ?_;refine⟨G,ρ,af,b8 (bz.mp hw) (λbj k v aL H1 aT aG=>?_) λ_ q=>q⟩;cases bj with
 |aU b =>
  refine⟨b,cT.A0 aG,?_⟩;cases b with
  |true =>
   simp only[acj];exact⟨aL,ρ,af.ext aT,b8 k (λd q v2 cn aX b7 aV=>q v2 cn aX (aT.trans b7) (cT.back aT.h aV)) λ_ q=>q.mono aT.h⟩
  |false =>
   simp only[abx,abS];exact k (.aU false) aL H1 aT cT.aU
 |_=>exact k.elim
def W8(aw:aS X a (bp xp X ao .view bh)):aS X (.UnaryOp .Not a pos) (bp xp X ao m (Hd bh)):=by
 intro pins s σ H Q I ⟨G,ρ,af,hw⟩;refine U5 aw pins s σ H Q I ?_;refine⟨G,ρ,af,b8 (bz.mp hw) (λbj k v aL H1 aT aG=>?_) λ_ q=>q⟩;cases bj with
 |aU b=>exact⟨b,cT.A0 aG,k (.aU (!b)) aL H1 aT cT.aU⟩
 |_=>exact k.elim
def Iw{rest:List Expr}(aw:eI X a (fZ xp X ao bh))(ae:mA X (.BoolOp .And (b::rest) pos) (fZ xp X ao c1)):mA X (.BoolOp .And (a::b::rest) pos) (fZ xp X ao (CP bh c1)):=by
 intro w4 pins s σ H Q I ⟨G,ρ,af,hw⟩;refine VN aw ae w4 pins s σ H Q I ?_;refine⟨G,ρ,af,?_⟩;refine bz.mpr (b8 (bz.mp (bz.mp hw)) (λbj k=>b8 (bz.mp k) (λb k2 aL H1 aT=>?_) λ_ q=>q) λ_ q=>q);cases b with
 |true =>
  simp only[acj]at k2 ⊢;exact⟨aL,ρ,af.ext aT,b8 (bz.mpr k2) (λd q cn aX b7=>q cn aX (aT.trans b7)) λ_ q=>q.mono aT.h⟩
 |false =>
  simp only[abx,abS]at k2 ⊢;exact k2 aL H1 aT
def W9(aw:eI X a (fZ xp X ao bh)):eI X (.UnaryOp .Not a pos) (fZ xp X ao (Hd bh)):=by
 intro pins s σ H Q I ⟨G,ρ,af,hw⟩;refine VL aw pins s σ H Q I ?_;refine⟨G,ρ,af,?_⟩;exact bz.mpr (b8 (bz.mp (bz.mp hw)) (λbj k=>b8 (bz.mp k) (λb k2 aL H1 aT=>k2 aL H1 aT) λ_ q=>q) λ_ q=>q)
end
section
variable{xp:dA}{X:a7}{ao:List Nat}{m:fj}{bh c1 fc:bx->cu D}{a b c:Expr}{pos:Pos}{pins:List (Addr×Obj)}{σ:dp}{G H:aD}{s:Shared}
def G5(I:Inv X pins σ H s)(af:bE G H)(r:Vals xs its)(q:bH X.K G ds xs)(hz:xs.length<=sizeLine)(k:∀v aR aq,Ext G H aR aq->Rep X.K aR (.tup ds) v->Q v aq):eU X pins σ Q (.ref s.heap.objs.size) { s with heap:=s.heap.push { cls:=.type "tuple",data:=.seq its.toArray } }:=by
 refine⟨.ref s.heap.objs.size,_,I.laid (t':=s.toks) (o:=.tup xs) (λb b5 q=>abv _ q) (abz _) ⟨hz,its,r,IsTup.new _ _⟩,rfl,?_⟩;exact k _ (upd G s.heap.objs.size (.tup xs)) _ (Ext.put af I.fresh) ⟨_,xs,rfl,dJ,q.mono (fY (af.free I.fresh))⟩
def T7(I:Inv X pins σ H s)(af:bE G H)(r:Vals xs its)(q:bH X.K G ds xs)(hz:xs.length<=sizeLine)(k:∀v aR aq,Ext G H aR aq->cT X.K H aR aq .fresh (.lst ds) v->Q v aq):eU X pins σ Q (.ref s.heap.objs.size) { s with heap:=s.heap.push { cls:=.type "list",data:=.seq its.toArray } }:=by
 refine⟨.ref s.heap.objs.size,_,I.Gv (t':=s.toks) r hz,rfl,?_⟩;exact k _ G _ (Ext.own af I.fresh λ_ z=>nomatch z) ⟨_,xs,rfl,dJ,I.fresh,af.free I.fresh,q⟩
def mm{ds:List D}(h:View X.K G H (.lst ds) v):∃a xs,v=.ref a/\ej X.K H a xs/\bH X.K G ds xs:=h
def nO(af:bE G H){ds:List D}(h:View X.K G H (.tup ds) v):∃a xs,v=.ref a/\fl X.K H a xs/\bH X.K G ds xs:=by
 obtain⟨a,xs,e,k,r⟩:=h;exact⟨a,xs,e,iy af k,r⟩
def rp:ζ.SZ=sizeLine:=by rw[sizeLine_eq];rfl
def Nn:dt X (binaryOp .Add) (l9 X.K (ζ.eE .add)):=by
 intro pins s σ H x y v u Q I bg bT ⟨G,bj,c9,af,cm,ec,hw⟩;cases bj with
 |int i =>
  cases c9 with
  |int j=>exact Ux pins s σ H x y v u Q I bg bT ⟨_,_,cm,ec,m2 af hw rfl⟩
  |_=>exact hw.elim
 |tup ds =>
  cases c9 with
  |tup ak =>
   rw[ζ.uv]at hw
   by_cases h:ds.length+ak.length<=ζ.SZ
   .rw[if_pos h]at hw;obtain⟨l,xs,rfl,k1,aG⟩:=nO af cm;obtain⟨b,ys,rfl,k2,aV⟩:=nO af ec;cases bg;cases bT;obtain⟨its,iZ,p1,_⟩:=I.tuple k1;obtain⟨hb,j7,p2,_⟩:=I.tuple k2;have hz:xs.length+ys.length<=sizeLine:=by rw[<- aG.length,<- aV.length,<- rp];exact h
    by_cases e0:its=[]
    .-- Zh left one is empty
     subst e0;have:ds=[]:=by
      have J:=aG.length;have aa:=iZ.length;simp at aa;rw[aa]at J;simp at J;exact J
     subst this;obtain⟨⟨cls,dd,data,bM⟩,az,ah,n,hd⟩:=id p1;obtain⟨⟨rN,kn,data2,j2⟩,kA,iK,eZ,hd2⟩:=id p2;simp only at ah hd iK hd2;subst ah hd iK hd2;refine ae8 ⟨_,az,rfl⟩ ⟨_,kA,rfl⟩ ae2 seq_tuple_add ad8 ad5 (adZ _ _)
      (tuple_addW0 l b _ hb.toArray n eZ dd kn bM j2 rfl) ⟨az,kA,?_⟩
     exact⟨.ref b,H,I,rfl,hw _ G H (Ext.refl af) ec⟩
    .refine dn.L2 p1 p2 e0 (λz=>?_) (λz=>?_) (by rw[<- iZ.length,<- j7.length];exact hz)
     .have:ak=[]:=by
       have J:=aV.length;have aa:=j7.length;rw[z]at aa;simp at aa;rw[aa]at J;simp at J;exact J
      subst this;rw[adb]at hw;exact⟨.ref l,H,I,rfl,hw _ G H (Ext.refl af) cm⟩
     .exact G5 I af (iZ.append j7) (aG.append aV) (by rw[abw];exact hz) hw
   .rw[if_neg h]at hw;exact hw.elim
  |_=>exact hw.elim
 |lst ds =>
  cases c9 with
  |lst ak =>
   rw[ζ.mF]at hw
   by_cases h:ds.length+ak.length<=ζ.SZ
   .rw[if_pos h]at hw;obtain⟨l,xs,rfl,k1,aG⟩:=mm cm;obtain⟨b,ys,rfl,k2,aV⟩:=mm ec;cases bg;cases bT;obtain⟨its,iZ,⟨iT,n,e1,ah,ip,hd⟩,_⟩:=I.list k1;obtain⟨hb,j7,⟨gE,eZ,ar,iK,aav,hd2⟩,_⟩:=I.list k2;have hz:xs.length+ys.length<=sizeLine:=(by rw[<- aG.length,<- aV.length,<- rp];exact h);obtain⟨cls,dd,data,bM⟩:=iT;obtain⟨rN,kn,data2,j2⟩:=gE;simp only at ah hd iK hd2;subst ah hd iK hd2;refine ae8 ⟨_,e1,rfl⟩ ⟨_,ar,rfl⟩ noFill_list_add seq_list_add F.slot_list_add F.entry_list_add (F.args_list_add_2 _ _)
     (list_addW l b its.toArray hb.toArray n eZ dd kn bM j2 (by rw[abB,abB,<- iZ.length,<- j7.length];exact hz)) ⟨e1,ar,?_⟩
    have bI:its.toArray++hb.toArray=(its++hb).toArray:=(by simp);rw[bI];exact T7 I af (iZ.append j7) (aG.append aV) (by rw[abw];exact hz) hw
   .rw[if_neg h]at hw;exact hw.elim
  |_=>exact hw.elim
 |_=>cases c9<;>exact hw.elim
end
end bF
end
section
namespace bF
open PySem PySem.Spec PyProof.Rows bA PySem.MeetsSeq
section
def Nu:dt X (binaryOp .Mult) (l9 X.K (ζ.eE .mul)):=by
 intro pins s σ H x y v u Q I bg bT ⟨G,bj,c9,af,cm,ec,hw⟩;cases bj with
 |int i =>
  cases c9 with
  |int j =>
   rw[ζ.mul_int]at hw
   by_cases h:(-ζ.gY<i/\i<ζ.gY)\/(-ζ.gY<j/\j<ζ.gY)
   .rw[if_pos h]at hw;exact UE pins s σ H x y v u Q I bg bT ⟨_,_,cm,ec,h,m2 af hw rfl⟩
   .rw[if_neg h]at hw;exact hw.elim
  |_=>exact hw.elim
 |_=>cases c9<;>exact hw.elim
end
end bF
end
section
namespace bF
open PySem PySem.Spec PyProof.Rows bA
section
variable{xp:dA}{X:a7}{ao:List Nat}{m:fj}{f bh c1 fc:bx->cu D}{bC:bx->cu (List D)}{a b c e:Expr}{ak:List Expr}{pos:Pos}{pins:List (Addr×Obj)}{σ:dp}{G H:aD}{s:Shared}
def IE(aw:aS X a (bp xp X ao .view bh)):aS X (.UnaryOp .USub a pos) (bp xp X ao m λρ=>bh ρ>>=λx=>ζ.gs x>>=λi=>.ok (.int (-i))):=by
 intro pins s σ H Q I ⟨G,ρ,af,hw⟩;refine U8 Zx aw pins s σ H Q I ?_;refine⟨G,ρ,af,b8 (bz.mp hw) (λbj k v aL H1 aT aG=>?_) λ_ q=>q⟩;cases bj with
 |int i=>exact⟨i,cT.qD aG,k (.int (-i)) aL H1 aT cT.int⟩
 |_=>exact k.elim
noncomputable def nK(xp:dA)(X:a7)(ao:List Nat)(f:bx->cu (List D)):gr:=λσ H Q =>
 ∃G ρ,et X.K ao G H ρ σ/\cS (f ρ) (λds=>∀ag aR aq,Ext G H aR aq->bH X.K aR ds ag->Q ag aq) (λc=>ff xp X c H)
def W6:fQ X [] (nK xp X ao λ_=>.ok []):=by
 intro p pins s σ H Q I ⟨G,ρ,af,hw⟩;exact tu p pins s σ H Q I (hw [] G H (Ext.refl af.sub) rfl)
def WO(he:aS X e (bp xp X ao .val f))(a4:fQ X ak (nK xp X ao bC))(c4:starEach (e::ak) X.env=(false,eval e X.env)::starEach ak X.env):fQ X (e::ak) (nK xp X ao λρ=>f ρ>>=λx=>bC ρ>>=λxs=>.ok (x::xs)):=by
 intro p pins s σ H Q I ⟨G,ρ,af,hw⟩;refine oW he a4 c4 p pins s σ H Q I ?_;refine⟨G,ρ,af,b8 (bz.mp hw) (λbj k v aL H1 aT aG=>?_) λ_ q=>q⟩;refine⟨aL,ρ,af.ext aT,b8 (bz.mp k) (λds k2 ag cn aX b7 aV=>?_) λ_ q=>q.mono aT.h⟩;exact k2 (v::ag) cn aX (aT.trans b7) ⟨v,ag,rfl,Rep.mono b7.g aG,aV⟩
def Xm(h:fQ X ak (nK xp X ao bC))(aA:∀ρ ds,bC ρ=.ok ds->ds.length<=sizeLine):aS X (.Tuple ak j pos) (bp xp X ao .val λρ=>bC ρ>>=λds=>.ok (.tup ds)):=by
 intro pins s σ H Q I ⟨G,ρ,af,hw⟩;refine U7 h pins s σ H Q I ?_;refine⟨G,ρ,af,?_⟩;have hw:=bz.mp hw;cases q:bC ρ with
 |ok ds =>
  rw[q]at hw;intro ag aL H1 aT aG;refine⟨by rw[<- aG.length];exact aA ρ ds q,λp aB=>?_⟩;exact hw (.ref p) (upd aL p (.tup ag)) _ (aT.trans (Ext.put aT.sub aB)) ⟨p,ag,rfl,dJ,aG.mono (fY (aT.sub.free aB))⟩
 |exc c=>rw[q]at hw;exact hw
 |bad=>rw[q]at hw;exact hw
def W4(h:fQ X ak (nK xp X ao bC))(aA:∀ρ ds,bC ρ=.ok ds->ds.length<=sizeLine):aS X (.List ak pos) (bp xp X ao .fresh λρ=>bC ρ>>=λds=>.ok (.lst ds)):=by
 intro pins s σ H Q I ⟨G,ρ,af,hw⟩;refine U3 h pins s σ H Q I ?_;refine⟨G,ρ,af,?_⟩;have hw:=bz.mp hw;cases q:bC ρ with
 |ok ds =>
  rw[q]at hw;intro ag aL H1 aT aG;refine⟨by rw[<- aG.length];exact aA ρ ds q,λp aB=>?_⟩;exact hw (.ref p) aL _ (aT.trans (Ext.own aT.sub aB λ_ z=>nomatch z)) ⟨p,ag,rfl,dJ,aT.h.free aB,aT.sub.free aB,aG⟩
 |exc c=>rw[q]at hw;exact hw
 |bad=>rw[q]at hw;exact hw
def Sl(n)(i):ζ.hG n i=bA.hG n i:=by
 unfold ζ.hG bA.hG
 by_cases h:0<=i
 .rw[if_pos h,if_pos h]
 .rw[if_neg h,if_neg h]
  by_cases q:0<=i+(n:Int)
  .rw[if_pos q,if_pos ⋯]
  .rw[if_neg q,if_neg ⋯]
def EO{K:W.Frag}(r:bH K G ds xs)(h:ζ.iI ds i=some d):∃v,n3 xs i=some v/\Rep K G d v:=by
 unfold ζ.iI at h;rw[Sl,r.length]at h;unfold n3;cases q:bA.hG xs.length i with
 |none=>rw[q]at h;cases h
 |some j =>
  rw[q]at h;obtain⟨v,e,z⟩:=r.get (i:=j) h;exact⟨v,e,z⟩
def WZ(aw:aS X a (bp xp X ao .view bh))(ae:aS X b (bp xp X ao .view c1))(aB:xr b):aS X (.Subscript a b pos) (bp xp X ao .val λρ=>bh ρ>>=λx=>c1 ρ>>=λy=>ζ.fU x y):=by
 intro pins s σ H Q I ⟨G,ρ,af,hw⟩;refine U2 Sp aw ae aB pins s σ H Q I ?_;refine⟨G,ρ,af,b8 (bz.mp hw) (λbj k v aL H1 aT aG=>?_) λ_ q=>q⟩;refine⟨aL,ρ,af.ext aT,b8 (bz.mp k) (λc9 k2 v2 cn aX b7 aV=>?_) λ_ q=>q.mono aT.h⟩;have aG:=View.ext b7 aG;cases bj with
 |lst ds =>
  cases c9 with
  |int i =>
   simp only[ζ.sQ]at k2;cases q:ζ.iI ds i with
   |none=>rw[q]at k2;exact k2.elim
   |some d =>
    rw[q]at k2;obtain⟨l,xs,rfl,e,r⟩:=mm aG;obtain⟨w,ar,iV⟩:=EO r q;exact .inl ⟨l,xs,i,w,rfl,aV,e,ar,k2 w cn aX (aT.trans b7) iV⟩
  |_=>exact k2.elim
 |tup ds =>
  cases c9 with
  |int i =>
   simp only[ζ.FR]at k2;cases q:ζ.iI ds i with
   |none=>rw[q]at k2;exact k2.elim
   |some d =>
    rw[q]at k2;obtain⟨l,xs,rfl,e,r⟩:=nO b7.sub aG;obtain⟨w,ar,iV⟩:=EO r q;exact .inr (.inl ⟨l,xs,i,w,rfl,aV,e,ar,k2 w cn aX (aT.trans b7) iV⟩)
  |_=>exact k2.elim
 |_=>cases c9<;>exact k2.elim
noncomputable def kU(K:W.Frag)(m:fj)(g:D->cu D):List V->aD->dD->Prop:=λxs H Q=>∃G x d,xs=[x]/\bE G H/\View K G H d x/\cS (g d) (λd'=>∀v aR aq,Ext G H aR aq->cT K H aR aq m d' v->Q v aq) (λ_=>False)
def l7(he:aS X e eT)(c4:starEach [e] X.env=[(false,eval e X.env)]):fQ X [e] (Jr eT Jw):=oW he tu c4
def qM{id:String}(aY:∀d c,g d≠.exc c)(ah:g0 X (.builtin id) (kU X.K m g))(zK:eV X x)(hm:X.aZ x=none)(aN:bootBuiltins x=some (.builtin id))(aw:aS X e (bp xp X ao .view f))(aC:x≠"__name__")(jL:(x==("__debug__":Str))=false)(c4:starEach [e] X.env=[(false,eval e X.env)]):aS X (.Call (.Name x p) [e] [] pos) (bp xp X ao m λρ=>f ρ>>=λd=>g d):=by
 intro pins s σ H Q I ⟨G,ρ,af,hw⟩;refine Hr ah zK hm aN (l7 aw c4) aC jL c4 rfl pins s σ H Q I ?_;refine⟨G,ρ,af,b8 (bz.mp hw) (λbj k v aL H1 aT aG=>?_) λ_ q=>q⟩;refine⟨aL,v,bj,rfl,aT.sub,aG,?_⟩;exact b8 (pk k (aY bj)) (λd q v2 cn aX b7 aV=>q v2 cn aX (aT.trans b7) (aV.old aT.h)) λ_ q=>q
def IA(aY:∀d c,g d≠.exc c)(ah:g0 X (.type T) (kU X.K m g))(zK:eV X x)(hm:X.aZ x=none)(aN:bootBuiltins x=some (.type T))(aw:aS X e (bp xp X ao .view f))(aC:x≠"__name__")(jL:(x==("__debug__":Str))=false)(c4:starEach [e] X.env=[(false,eval e X.env)]):aS X (.Call (.Name x p) [e] [] pos) (bp xp X ao m λρ=>f ρ>>=λd=>g d):=by
 intro pins s σ H Q I ⟨G,ρ,af,hw⟩;refine Hs ah zK hm aN (l7 aw c4) aC jL c4 rfl pins s σ H Q I ?_;refine⟨G,ρ,af,b8 (bz.mp hw) (λbj k v aL H1 aT aG=>?_) λ_ q=>q⟩;refine⟨aL,v,bj,rfl,aT.sub,aG,?_⟩;exact b8 (pk k (aY bj)) (λd q v2 cn aX b7 aV=>q v2 cn aX (aT.trans b7) (aV.old aT.h)) λ_ q=>q
def f_len:g0 X (.builtin "len") (kU X.K m ζ.lW):=by
 intro pins s σ H xs us Q I r ⟨G,x,d,ex,af,cm,hw⟩;subst ex;cases d with
 |tup ds =>
  obtain⟨a,ys,rfl,k,q⟩:=nO af cm;refine Dg pins s σ H _ us Q I r ⟨a,ys,rfl,.inr k,?_⟩;rw[<- q.length];exact hw _ G H (Ext.refl af) cT.int
 |lst ds =>
  obtain⟨a,ys,rfl,k,q⟩:=mm cm;refine Dg pins s σ H _ us Q I r ⟨a,ys,rfl,.inl k,?_⟩;rw[<- q.length];exact hw _ G H (Ext.refl af) cT.int
 |_=>exact hw.elim
def f_list:g0 X (.type "list") (kU X.K .fresh λd=>ζ.er d>>=λds=>.ok (.lst ds)):=by
 intro pins s σ H xs us Q I r ⟨G,x,d,ex,af,cm,hw⟩;subst ex;cases d with
 |tup ds =>
  obtain⟨a,ys,rfl,k,q⟩:=nO af cm;exact Dh pins s σ H _ us Q I r ⟨a,ys,rfl,.inr k,λl aA=>hw _ G _ (Ext.own af aA λ_ z=>nomatch z) ⟨l,ys,rfl,dJ,aA,af.free aA,q⟩⟩
 |lst ds =>
  obtain⟨a,ys,rfl,k,q⟩:=mm cm;exact Dh pins s σ H _ us Q I r ⟨a,ys,rfl,.inl k,λl aA=>hw _ G _ (Ext.own af aA λ_ z=>nomatch z) ⟨l,ys,rfl,dJ,aA,af.free aA,q⟩⟩
 |_=>exact hw.elim
def Pn:g0 X (.type "tuple") (kU X.K .val λd=>ζ.er d>>=λds=>.ok (.tup ds)):=by
 intro pins s σ H xs us Q I r ⟨G,x,d,ex,af,cm,hw⟩;subst ex;cases d with
 |tup ds =>
  obtain⟨a,ys,rfl,k,q⟩:=nO af cm;exact Dj pins s σ H _ us Q I r ⟨a,ys,rfl,.inr ⟨k,hw _ G H (Ext.refl af) cm⟩⟩
 |lst ds =>
  obtain⟨a,ys,rfl,k,q⟩:=mm cm;exact Dj pins s σ H _ us Q I r ⟨a,ys,rfl,.inl ⟨k,λl aA=>hw _ (upd G l (.tup ys)) _ (Ext.put af aA) ⟨l,ys,rfl,dJ,q.mono (fY (af.free aA))⟩⟩⟩
 |_=>exact hw.elim
end
def V7{σ:dp}(I:Inv X pins σ H s)(h:(∃ys,hP H a (.dY ys))\/∃ys,hP H a (.ey ys)):∃o,s.heap.get? a=some o/\o.cls=.type "dict":=by
 rcases h with⟨ys,h|⟨bu,h⟩⟩|⟨ys,h|⟨bu,h⟩⟩
 .obtain⟨_,_,_,_,o,_,_,e,x,_⟩:=(show d7 X.prog X.w H s.heap a (.dY ys) from I.bL a _ h);exact⟨o,e,x.1⟩
 .obtain⟨_,_,_,_,_,o,_,_,e,x,_⟩:=(show d7 X.prog X.w H s.heap a (.eh bu (.dY ys)) from I.bL a _ h);exact⟨o,e,x.1⟩
 .obtain⟨_,_,_,_,o,_,_,e,x,_⟩:=(show d7 X.prog X.w H s.heap a (.ey ys) from I.bL a _ h);exact⟨o,e,x.1⟩
 .obtain⟨_,_,_,_,_,o,_,_,e,x,_⟩:=(show d7 X.prog X.w H s.heap a (.eh bu (.ey ys)) from I.bL a _ h);exact⟨o,e,x.1⟩
section
variable{xp:dA}{X:a7}{ao:List Nat}{m:fj}{f bh c1 fc:bx->cu D}{bC:bx->cu (List D)}{a b c e:Expr}{ak:List Expr}{pos:Pos}{pins:List (Addr×Obj)}{σ:dp}{G H:aD}{s:Shared}
end
noncomputable def jw(P:Program)(w:World)(xp:dA):jv:=λouter H s E e s' =>
 ∃(c:Nat)(aq:aD)(l:List Addr),s'.os=s.os/\AllBare s'.gens/\fg (gd outer) [] H aq s.heap s'.heap/\ed P w aq s'.heap/\bE H aq/\(∀a∈l,s.heap.get? a=none/\aq a=none)/\xp c e l s'.heap/\E (.int c 0) none aq
noncomputable def o8(K:W.Frag)(φ:List D->cu D)(n:Nat):mC:=λag H Q E =>
 ag.length=n/\∃G ds,bE G H/\(∀b xs,H b=some (.tup xs)->G b=some (.tup xs))/\bH K G ds ag/\cS (φ ds) (λd=>∀v aR aq,Ext G H aR aq->Rep K aR d v->Q v aq) (λc=>∀aq,bE H aq->E (.int c 0) none aq)
section
variable{xp:dA}{X:a7}{ao:List Nat}{m:fj}{f bh c1 fc:bx->cu D}{bC:bx->cu (List D)}{a b c e:Expr}{ak:List Expr}{pos:Pos}{pins:List (Addr×Obj)}{σ:dp}{G H:aD}{s:Shared}
noncomputable def DZ(xp:dA)(X:a7):i4:=λu _ aq=>∀c:Nat,u=.int c 0->ff xp X c aq
def UP:Passes (jw X.prog X.w xp) X (DZ xp X):=by
 intro pins σ H s e s' I ⟨c,aq,l,os,bare,un,bL,b0,aC,ai,m4⟩;have ee:Inv X pins σ aq s':=I.Df os un bL bare (λb z=>absurd z (by simp));exact m4 c rfl pins σ aq s' e l ee (bE.refl _) (λa aw=>.of I (aC a aw).1 (aC a aw).2) ai
end
section
variable{prog:Program}{w:World}{A:Around}{R:Result->Shared->Prop}{s:Shared}
def Mv{elt target iter:Expr}{ifs:List Expr}{scope:Scope}{pos:Pos}{it acc:Value}{env:Env}(I:Nat->Shared->Prop)(turn:∀n s,I n s->wpAny (model prog w) A (pyNext it) (λr cX=>match r with
   |none=>R (.ok .next) cX
   |some v=>wpAny (model prog w) A (letOwnedTupleGo target it v) (λ_ Jk=>wpAny (model prog w) A (assign target env v) (λ_ gm =>
     wpAny (model prog w) A (forIn ifs true λc r=>if r=true then do let ok <- isTrue c env (eval c env);pure (ForInStep.yield ok) else pure (ForInStep.yield r)) (λok qW =>
      if ok=true then wpAny (model prog w) A (eval elt env) (λx Jl =>
       wpAny (model prog w) A (call (.builtin "list.append") [acc,x]) (λ_ Jm=>∃m,m<n/\I m Jm) (λ_ _=>False) Jl) (λ_ _=>False) qW
      else ∃m,m<n/\I m qW) (λ_ _=>False) gm) (λ_ _=>False) Jk) (λ_ _=>False) cX) (λ_ _=>False) s)(n:Nat)(h:I n s):
  codeAny (model prog w) A (.compLoop (.ListComp elt [⟨target,iter,ifs,0⟩] scope pos) 0 it acc env) R s:=by
 have up:∀{α:Type}{t:Sem α}{Q:α->Shared->Prop}{E:Value->Shared->Prop}{s:Shared},wpAny (model prog w) A t Q (λ_ _=>False) s->wpAny (model prog w) A t Q E s:=λh=>acg h (λ_ _ q=>q) λ_ _ z=>z.elim
 refine codeAny_loop rfl I (λn s bW=>?_) n h;show wpAny _ A ((compTurn (.ListComp elt [⟨target,iter,ifs,0⟩] scope pos) 0 it acc env).onRaise (λx=>do noteFrame x env;theTreesLotGoes x)) _ _ s;refine wpAny_noted ?_;rw[compTurn_list];refine abr (wpAny_standAt (abr (acg (turn n s bW) (λr cX hF=>?_) λ_ _ z=>z.elim)));cases r with
 |none=>exact abu hF
 |some v =>
  refine abr (acg hF (λ_ Jk RT=>?_) λ_ _ z=>z.elim);refine abr (acg RT (λ_ gm sN=>abr (acg sN (λok qW vA=>?_) λ_ _ z=>z.elim)) λ_ _ z=>z.elim);cases ok with
  |false=>exact abu ⟨rfl,vA⟩
  |true =>
   refine abr (abr (acg vA (λx Jl RU=>abr (acg RU (λ_ Jm RV=>?_) λ_ _ z=>z.elim)) λ_ _ z=>z.elim));exact abu (abu ⟨rfl,RV⟩)
end
noncomputable def gv(env:Env):List (Str×NameKind)->List (Str×Addr)->List (Str×Addr)
 |[],cs=>cs
 |(n,k)::r,cs=>if k==.free then gv env r ((n,(env.cells.lookup n).getD 0)::cs) else gv env r cs
def Me(h:∀x∈scope.names,x.2=.free->∃c,env.cells.lookup x.1=some c):closureFor scope env=pure (gv env scope.names []):=by
 have key:∀(l:List (Str×NameKind))(cs:List (Str×Addr)),(∀x∈l,x.2=.free->∃c,env.cells.lookup x.1=some c) ->
   (forIn l cs λ(x:Str×NameKind)(r:List (Str×Addr))=>(match x with
    |(name,kind)=>if (kind==NameKind.free)=true then do let a <- cellOf env name;pure (ForInStep.yield ((name,a)::r)) else pure (ForInStep.yield r):Sem (ForInStep (List (Str×Addr)))))=(pure (gv env l cs):Sem _):=by
  intro l
  induction l with
  |nil=>intro cs _;rfl
  |cons x l aE =>
   intro cs ai;obtain⟨n,k⟩:=x;simp only[List.forIn_cons,gv];cases q:(k==NameKind.free) with
   |false =>
    simp only[abx,abS,pure_bind];exact aE cs λy aQ=>ai y (List.mem_cons_of_mem _ aQ)
   |true =>
    have ay:k=.free:=(by simpa using q);obtain⟨c,e⟩:=ai (n,k) List.mem_cons_self ay;simp only at e;simp only[acj,cellOf,e,pure_bind,Option.getD_some];exact aE _ λy aQ=>ai y (List.mem_cons_of_mem _ aQ)
 unfold closureFor;have:=key scope.names [] h;simp only[bind_pure];exact this
theorem yD:∀(l:List (Str×NameKind))(cs:List (Str×Addr)),(gv env l cs).lookup x=some c->cs.lookup x=some c\/(∃y∈l,y.1=x/\y.2=.free/\c=(env.cells.lookup x).getD 0)
 |[],cs,h=>.inl h
 |(n,k)::r,cs,h=>by
  unfold gv at h;cases q:(k==NameKind.free) with
  |false =>
   rw[q]at h;rcases yD r cs h with J|⟨y,aQ,J⟩
   .exact .inl J
   .exact .inr ⟨y,List.mem_cons_of_mem _ aQ,J⟩
  |true =>
   rw[q]at h;have ay:k=.free:=(by simpa using q);rcases yD r _ h with J|⟨y,aQ,J⟩
   .rw[ab8]at J;cases z:(x==n) with
    |false=>rw[z]at J;exact .inl J
    |true =>
     rw[z]at J;have e:x=n:=(by simpa using z);subst e;exact .inr ⟨(x,k),List.mem_cons_self,rfl,ay,(ab5 J).symm⟩
   .exact .inr ⟨y,List.mem_cons_of_mem _ aQ,J⟩
theorem yC:∀(l:List (Str×NameKind))(cs:List (Str×Addr)),((∃y∈l,y.1=x/\y.2=.free)\/(cs.lookup x).isSome=true)->((gv env l cs).lookup x).isSome=true
 |[],cs,h=>by
  rcases h with⟨y,aQ,_⟩|h
  .simp at aQ
  .exact h
 |(n,k)::r,cs,h=>by
  unfold gv;cases q:(k==NameKind.free) with
  |false =>
   refine yC r cs ?_;rcases h with⟨y,aQ,J,aa⟩|h
   .rcases abA.mp aQ with e|aQ
    .subst e;simp only at aa;rw[aa]at q;cases q
    .exact .inl ⟨y,aQ,J,aa⟩
   .exact .inr h
  |true =>
   refine yC r _ ?_;rcases h with⟨y,aQ,J,aa⟩|h
   .rcases abA.mp aQ with e|aQ
    .subst e;simp only at J;subst J;exact .inr (by simp)
    .exact .inl ⟨y,aQ,J,aa⟩
   .refine .inr ?_;rw[ab8];cases z:(x==n)
    .exact h
    .rfl
theorem nk{env:Env}{x:Str}:∀{names:List (Str×NameKind)}{k:NameKind},(names.map λ(n,k)=>if (k==NameKind.free&&env.scope.kind==.function&&env.kindOf n==some .cell) then(n,NameKind.cell) else(n,k)).lookup x=some k ->
  names.lookup x=some k\/(names.lookup x=some .free/\k=.cell)
 |[],_,h=>by simp at h
 |(n,j)::r,k,h=>by
  have h:List.lookup x ((if (j==NameKind.free&&env.scope.kind==.function&&env.kindOf n==some .cell)=true then(n,NameKind.cell) else(n,j))::(r.map λ(n,k)=>if (k==NameKind.free&&env.scope.kind==.function&&env.kindOf n==some .cell) then(n,NameKind.cell) else(n,k)))=some k:=h;rw[ab8];cases ai:x==n with
  |true =>
   by_cases ah:(j==NameKind.free&&env.scope.kind==.function&&env.kindOf n==some .cell)=true
   .rw[if_pos ah,ab8]at h;simp only[ai]at h;have aI:j=.free:=(by simp only[abt,ab6]at ah;exact ah.1.1);exact .inr ⟨by rw[aI],(ab5 h).symm⟩
   .rw[if_neg ah,ab8]at h;simp only[ai]at h;exact .inl h
  |false =>
   by_cases ah:(j==NameKind.free&&env.scope.kind==.function&&env.kindOf n==some .cell)=true
   .rw[if_pos ah,ab8]at h;simp only[ai]at h;exact nk h
   .rw[if_neg ah,ab8]at h;simp only[ai]at h;exact nk h
theorem wd{env:Env}{x:Str}{k:NameKind}:∀{names:List (Str×NameKind)},names.lookup x=some k->k≠.free->(names.map λ(n,k)=>if (k==NameKind.free&&env.scope.kind==.function&&env.kindOf n==some .cell) then(n,NameKind.cell) else(n,k)).lookup x=some k
 |[],h,_=>by simp at h
 |(n,j)::r,h,ay=>by
  show List.lookup x ((if (j==NameKind.free&&env.scope.kind==.function&&env.kindOf n==some .cell)=true then(n,NameKind.cell) else(n,j))::_)=_;rw[ab8]at h;cases ai:x==n with
  |true =>
   simp only[ai]at h;have aI:j=k:=ab5 h;subst aI;have ah:¬(j==NameKind.free&&env.scope.kind==.function&&env.kindOf n==some .cell)=true:=by
    intro z;simp only[abt,ab6]at z;exact ay z.1.1
   rw[if_neg ah,ab8];simp only[ai]
  |false =>
   simp only[ai]at h;have aE:=wd (env:=env) h ay
   by_cases ah:(j==NameKind.free&&env.scope.kind==.function&&env.kindOf n==some .cell)=true
   .rw[if_pos ah,ab8];simp only[ai];exact aE
   .rw[if_neg ah,ab8];simp only[ai];exact aE
theorem Bp{env:Env}{x:Str}:∀{names:List (Str×NameKind)},names.lookup x=some .free->(names.map λ(n,k)=>if (k==NameKind.free&&env.scope.kind==.function&&env.kindOf n==some .cell) then(n,NameKind.cell) else(n,k)).lookup x=some .cell\/(names.map λ(n,k)=>if (k==NameKind.free&&env.scope.kind==.function&&env.kindOf n==some .cell) then(n,NameKind.cell) else(n,k)).lookup x=some .free
 |[],h=>by simp at h
 |(n,j)::r,h=>by
  show List.lookup x ((if (j==NameKind.free&&env.scope.kind==.function&&env.kindOf n==some .cell)=true then(n,NameKind.cell) else(n,j))::_)=_\/List.lookup x ((if (j==NameKind.free&&env.scope.kind==.function&&env.kindOf n==some .cell)=true then(n,NameKind.cell) else(n,j))::_)=_;rw[ab8]at h;cases ai:x==n with
  |true =>
   simp only[ai]at h
   by_cases ah:(j==NameKind.free&&env.scope.kind==.function&&env.kindOf n==some .cell)=true
   .rw[if_pos ah,ab8];simp[ai]
   .rw[if_neg ah,ab8];simp only[ai];exact .inr h
  |false =>
   simp only[ai]at h;have aE:=Bp (env:=env) h
   by_cases ah:(j==NameKind.free&&env.scope.kind==.function&&env.kindOf n==some .cell)=true
   .rw[if_pos ah,ab8];simp only[ai];exact aE
   .rw[if_neg ah,ab8];simp only[ai];exact aE
noncomputable def n4(X:a7)(L5:Env)(dO:List Str)(s3:Shared)(bq:aD)(bB:List Addr)(pins:List (Addr×Obj)):a7 :=
 { X with N:=dO,eS:=s3,ri:=bq,env:=L5,outer:=X.stack,ex:=bB,fn:=λ_=>false,cA:=X.cA++pins,cq:=λ_ _=>False }
structure pq(X:a7)(scope:Scope)(xs:List Str)(dO:List Str):Prop where
 kind:scope.kind=.function
 nA:∀y∈scope.names,y.2≠.cell
 names:∀y∈scope.names,y.2=.local->scope.names.lookup y.1=some .local
 loc:∀y,scope.names.lookup y=some .local->y∈xs\/y=(".0":Str)
 fh:∀y∈xs,scope.names.lookup y=some .local
 fr:∀y∈scope.names,y.2=.free->X.env.scope.names.lookup y.1=some .cell\/X.env.scope.names.lookup y.1=some .free
 len:dO.length=X.N.length+xs.length
 old:∀(i:Nat) y,i<X.N.length->dO[i]?=some y->(scope.names.lookup y).isSome=true->X.N[i]?=some y/\y∉xs/\y≠(".0":Str)
 new:∀(j:Nat),dO[X.N.length+j]?=xs[j]?
 ea:dO.Nodup
section
def LJ{pins:List (Addr×Obj)}{σ:dp}{s:Shared}{scope:Scope}{hF:Heap}(I:Inv X pins σ H s)(hf:∀b∈bB,kd X pins H b)(az:∀b∈bB,∃o,s.heap.get? b=some o)(B:pq X scope xs dO)(qc:hF.Ns s.heap.objs.size (λ_=>none))(ay:∀b o,s.heap.get? b=some o->hF.get? b=some o):
  Inv (n4 X (compEnvC scope (gv X.env scope.names []) s.heap.objs.size X.env) dO s H bB pins) [] (σ++List.replicate xs.length none) H { s with heap:=hF,toks:=tk }:=by
 have look:∀y c,(gv X.env scope.names []).lookup y=some c->X.env.cells.lookup y=some c:=λy c e=>by
  rcases yD _ _ e with h|⟨z,hz,e1,ar,bo⟩
  .simp at h
  .have:=B.fr z hz ar;rw[e1]at this;obtain⟨de,cY⟩:=I.ok.has y (by rcases this with q|q;exact .inl q;exact .inr q);rw[cY]at bo;simp at bo;rw[cY,bo]
 have has:∀y,scope.names.lookup y=some .free->∃c,(gv X.env scope.names []).lookup y=some c:=λy e =>
  Option.isSome_iff_exists.mp (yC _ _ (.inl ⟨(y,.free),ace e,rfl,rfl⟩))
 have aaj:∀y c,X.env.cells.lookup y=some c->c<s.heap.objs.size:=λy c e=>by
  obtain⟨v,q⟩:=I.cell y c e;exact q.lt
 have Hc:∀b,b<s.heap.objs.size->b≠s.heap.objs.size:=λb ae=>abP ae
 refine⟨⟨I.ok.mod,B.kind,I.ok.glob,I.ok.blt,abz _,λy z c e1 ar=>I.ok.inj y z c (look y c e1) (look z c ar),λy aQ=>?_,λy c q _=>Bool.noConfusion q,I.ok.hd,I.ok.frames,.inl rfl,λb ae=>?_,I.bs,acx I.ok.n6 I.gH,λb o e ae=>?_,λb ae sj=>?_,I.stack,I.BS⟩,
  rfl,I.bare,fg.kept ay,⟨_,qc,λi y v e1 ar bo=>?_⟩,λy c e=>?_,I.fresh,λy c e=>I.hE y c (look y c e),λp aB=>?_,I.bL.kept ay,?_⟩
 .-- has
  have aQ:(relabel scope X.env).names.lookup y=some .cell\/(relabel scope X.env).names.lookup y=some .free:=aQ;have:scope.names.lookup y=some .free:=by
   rcases aQ with q|q
   .rcases nk q with z|z
    .exact absurd rfl (B.nA _ (ace z))
    .exact z.1
   .rcases nk q with z|z
    .exact z
    .exact z.1
  exact has y this
 .-- u4
  obtain⟨f0,f1,f2,dZ,f4,ez⟩:=hf b ae;obtain⟨o,az⟩:=az b ae;exact⟨Hc b (abC az),λy c e=>f4 y c (look y c e)⟩
 .-- qB
  obtain⟨f0,f1,f2,dZ,f4,ez⟩:=hf b ae;rcases dZ with q|q
  .exact I.ok.qB b o e q
  .have:=abC (I.ok.bs b o e).1;exact absurd (abG this q) (acQ _)
 .-- oe
  obtain⟨f0,f1,f2,dZ,f4,ez⟩:=hf b ae;rcases abA.mp (I.pb b sj) with q|q
  .exact f1 q
  .exact f2 q
 .-- Zh names
  have aj:i<σ.length:=by
   by_cases aj:i<σ.length
   .exact aj
   .rw[abW ⋯,adz]at ar
    split at ar<;>cases ar
  rw[abH aj]at ar;have QF:i<X.N.length:=(by rw[<- I.len];exact aj);have bo:ft (relabel scope X.env) y:=bo;have RE:(scope.names.lookup y).isSome=true:=by
   rcases bo with q|q|q
   all_goals
    rcases nk q with z|z
    .rw[z];rfl
    .rw[z.1];rfl
  obtain⟨NV,ai,h0⟩:=B.old i y QF e1 RE;have m9:scope.names.lookup y=some .free:=by
   rcases bo with q|q|q
   .rcases nk q with z|z
    .rcases B.loc y z with w|w
     .exact absurd w ai
     .exact absurd w h0
    .exact z.1
   .rcases nk q with z|z
    .exact absurd rfl (B.nA _ (ace z))
    .exact z.1
   .rcases nk q with z|z
    .exact z
    .exact z.1
  have aF:=B.fr (y,.free) (ace m9) rfl;obtain⟨m,aC,aA⟩:=I.loc;obtain⟨u,r,l⟩:=aA i y v NV ar (by rcases aF with q|q;exact .inr (.inl q);exact .inr (.inr q));refine⟨u,r,.inr ⟨?_,?_⟩⟩
  .exact Bp m9
  .rcases l with⟨k,_⟩|⟨_,c,hU,z⟩
   .exfalso;have k:X.env.scope.names.lookup y=some .local:=k;simp only at aF;rcases aF with q|q<;>rw[k]at q<;>cases q
   .obtain⟨de,cY⟩:=has y m9;have e:de=c:=(by have:=look y de cY;rw[hU]at this;exact(ab5 this).symm);subst e;obtain⟨o,J,aa⟩:=z;exact⟨de,cY,o,ay _ _ J,aa⟩
 .-- cells
  obtain⟨v,o,J,aa⟩:=I.cell y c (look y c e);exact⟨v,o,ay _ _ J,aa⟩
 .-- pins
  have aB:p∈X.cA++pins:=(by simpa[n4] using aB);obtain⟨e,n,ne,iR,d⟩:=I.pin p aB;refine⟨ay _ _ e,n,Hc _ (abC e),λae=>?_,d⟩;rcases abA.mp (I.pb p.1 ae) with q|q
  .exact ne q
  .exact iR q
 .show _=dO.length;rw[abw,adM,B.len,I.len]
end
noncomputable def nG:List Nat->List V->dp->dp
 |i::is,v::ag,σ=>nG is ag (σ.set i (some v))
 |_,_,σ=>σ
noncomputable def ze:List Nat->mE
 |[]=>EM
 |i::is=>EK (zd i) (ze is)
theorem EL:∀(ts:List Nat)(ag:List V)(σ:dp)(H:aD)(Q:dp->aD->Prop),ag.length=ts.length->Q (nG ts ag σ) H->ze ts ag σ H Q
 |[],[],σ,H,Q,_,q=>⟨rfl,q⟩
 |[],_::_,_,_,_,h,_=>by simp at h
 |_::_,[],_,_,_,h,_=>by simp at h
 |i::is,v::ag,σ,H,Q,h,q=>⟨v,ag,rfl,EL is ag _ H Q (by simpa using h) q⟩
noncomputable def zc(K:W.Frag)(k:Nat)(ts:List Nat):ll:=λv σ H Q=>∃G d,bE G H/\Rep K G d v/\cS (ζ.gu k d) (λos=>∀(ws:List D)(ag:List V),os=ws.map some->bH K G ws ag->Q (nG ts ag σ) H) (λ_=>False)
section
theorem HC(aP:X.N.Nodup):∀(ts:List Nat)(ys:List Str)(ak:List Expr),ζ.namesOf ak=some ys->ts.length=ys.length->(∀(j i:Nat) y,ts[j]?=some i->ys[j]?=some y->X.N[i]?=some y/\Loc X.env.scope y/\(X.fn y=true\/X.env.scope.names.lookup y=some .local)) ->
  rn X ak (ze ts)/\(assignEach ak X.env).length=ts.length/\(assignEach ak X.env).findIdx? (·.1)=none
 |ts,ys,[],h,aA,_=>by
  simp only[ζ.namesOf,acq]at h;subst h;have:ts=[]:=(by simpa using aA);subst this;exact⟨Vj,rfl,rfl⟩
 |ts,ys,e::ak,h,aA,ai=>by
  simp only[ζ.namesOf]at h;cases e with
  |Name x p =>
   cases q:ζ.namesOf ak with
   |none=>simp only[ζ.nameOf,q]at h;cases h
   |some zs =>
    simp only[ζ.nameOf,q,acq]at h;subst h;cases ts with
    |nil=>simp at aA
    |cons i is =>
     obtain⟨a,b,c⟩:=ai 0 i x rfl rfl;obtain⟨J,aa,aJ⟩:=HC aP is zs ak q (by simpa using aA) λj i y e1 ar=>ai (j+1) i y (by simpa using e1) (by simpa using ar)
     refine⟨Vi (HA aP a b c) J rfl,?_,?_⟩
     .show(assignEach ak X.env).length+1=is.length+1;rw[aa]
     .show((false,assign (.Name x p) X.env)::assignEach ak X.env).findIdx? (·.1)=none;rw[List.findIdx?_cons];simp only[abx,abS];rw[aJ];rfl
  |_=>simp only[ζ.nameOf]at h;cases h
def HB(ah:X.calm=true)(aP:X.N.Nodup)(aH:ζ.fh k target=some ys)(aA:ts.length=ys.length)(ai:∀(j i:Nat) y,ts[j]?=some i->ys[j]?=some y->X.N[i]?=some y/\Loc X.env.scope y/\(X.fn y=true\/X.env.scope.names.lookup y=some .local)):nV X target (zc X.K k ts):=by
 cases k with
 |zero =>
  cases target with
  |Name x p =>
   simp only[ζ.fh,acq]at aH;subst aH;obtain⟨i,rfl⟩:∃i,ts=[i]:=by
    match ts,aA with
    |[i],_=>exact⟨i,rfl⟩
   obtain⟨a,b,c⟩:=ai 0 i x rfl rfl;intro pins s σ H v u Q I r ⟨G,d,af,dM,hw⟩;refine HA aP a b c pins s σ H v u Q I r ?_;exact hw [d] [v] rfl ⟨v,[],rfl,dM,rfl⟩
  |_=>simp only[ζ.fh]at aH;cases aH
 |succ k =>
  cases target with
  |Tuple ak j p =>
   simp only[ζ.fh]at aH;cases q:ζ.namesOf ak with
   |none=>rw[q]at aH;cases aH
   |some zs =>
    rw[q]at aH;simp only at aH
    by_cases hz:zs.length=k+1
    .rw[if_pos hz]at aH;simp only[acq]at aH;subst aH;obtain⟨J,aa,aJ⟩:=HC aP ts zs ak q aA ai;intro pins s σ H v u Q I r ⟨G,d,af,dM,hw⟩;refine Vh (n:=ts.length) ah J aa aJ pins s σ H v u Q I r ?_;cases d with
     |tup ds =>
      obtain⟨a,xs,e,h3,Ip⟩:=dM;have ae:ζ.gu (k+1) (.tup ds)=if ds.length=k+1 then .ok (ds.map some) else .bad:=rfl;rw[ae]at hw
      by_cases hd:ds.length=k+1
      .rw[if_pos hd]at hw;have Fy:xs.length=ts.length:=(by rw[<- Ip.length,hd,aA,hz]);exact⟨a,xs,e,iy af h3,Fy,EL ts xs σ H Q Fy (hw ds xs rfl Ip)⟩
      .rw[if_neg hd]at hw;exact hw.elim
     |_=>exact hw.elim
    .rw[if_neg hz]at aH;cases aH
  |_=>simp only[ζ.fh]at aH;cases aH
end
structure nT(K:W.Frag)(P:aD->aD->Prop)(dI:jz)(ds:List D):Prop where
 go:∀(i:Nat) aL H1,P aL H1->i<ds.length->dI.go i H1
 k7:∀(i:Nat) aL H1 x aX d,P aL H1->bE aL H1->ds[i]?=some d->dI.k7 i H1 x aX->∃cn,Ext aL H1 cn aX/\Rep K cn d x
 stop:∀aL H1,P aL H1->dI.stop ds.length H1
noncomputable def ro(m:fj)(G H:aD):aD->aD->Prop:=λaL H1=>bE G aL/\(match m with|.view=>bE H H1|_=>bE aL H1)
noncomputable def j4(xp:dA)(X:a7)(ao:List Nat)(m:fj)(f:bx->cu (List D)):TI:=λσ H R =>
 ∃G ρ,et X.K ao G H ρ σ/\cS (f ρ) (λds=>∀dI aR aq,Ext G H aR aq->nT X.K (ro m aR aq) dI ds->ds.length<=16777216->R dI aq) (λc=>ff xp X c H)
def vR{α:Type}{r:cu α}{Q:α->Prop}(h:cS (ζ.l5 r) Q E):∃a,r=.ok a/\Q a:=by
 cases r with
 |ok a=>exact⟨a,rfl,h⟩
 |exc c=>exact h.elim
 |bad=>exact h.elim
def et.more{K:W.Frag}(h:et K ao G H ρ σ)(hZ:∀i∈ao,i<ρ.length)(r:bH K G ws ag):et K ao G H (ρ++ws.map some) (σ++ag.map some) where
 len:=by rw[abw,abw,h.len,List.length_map,List.length_map,r.length]
 sub:=h.sub
 val:=λi d e hm=>by
  by_cases aj:i<ρ.length
  .rw[abH aj]at e;obtain⟨v,a,b⟩:=h.val i d e hm;exact⟨v,by rw[abH (by rw[<- h.len];exact aj)];exact a,b⟩
  .rw[abW ⋯,abF]at e;cases q:ws[i-ρ.length]? with
   |none=>rw[q]at e;cases e
   |some w =>
    rw[q]at e;simp only[Option.map_some,acq]at e;subst e;obtain⟨v,a,b⟩:=r.get q;exact⟨v,by rw[abW (by rw[<- h.len];lia),abF,<- h.len,a];rfl,b⟩
 own:=λi d e hm aA=>by
  have aj:=hZ i hm;rw[abH aj]at e;obtain⟨v,a,b⟩:=h.own i d e hm aA;exact⟨v,by rw[abH (by rw[<- h.len];exact aj)];exact a,b⟩
 lst:=λi d e hm aA=>by
  have aj:=hZ i hm;rw[abH aj]at e;obtain⟨a,o,J,aa⟩:=h.lst i d e hm aA;exact⟨a,o,by rw[abH (by rw[<- h.len];exact aj)];exact J,aa⟩
 dT:=h.dT
 apart:=λi j ds ak a b e1 ar bR b3 aj aI ne J aa=>by
  have fp:=hZ i aj;have zQ:=hZ j aI;rw[abH fp]at e1;rw[abH zQ]at ar;rw[abH (by rw[<- h.len];exact fp)]at J;rw[abH (by rw[<- h.len];exact zQ)]at aa;exact h.apart i j ds ak a b e1 ar bR b3 aj aI ne J aa
theorem IQ:∀(ag:List V)(σ:dp)(gp:dp)(n:Nat),n=σ.length->gp.length=ag.length->nG (List.range' n ag.length) ag (σ++gp)=σ++ag.map some
 |[],σ,gp,n,aC,aH=>by
  have:gp=[]:=(by simpa using aH);subst this;rfl
 |v::ag,σ,gp,n,aC,aH=>by
  cases gp with
  |nil=>simp at aH
  |cons t gp =>
   rw[List.length_cons,List.range'_succ,nG];have e:(σ++t::gp).set n (some v)=(σ++[some v])++gp:=by
    rw[List.set_append_right _ _ ⋯,aC];simp
   rw[e,IQ ag (σ++[some v]) gp (n+1) (by simp[aC]) (by simpa using aH)];simp
section
noncomputable def i6(k:Nat)(fc:bx->cu Bool)(gO:bx->cu D)(ρ:bx)(d:D):cu (Option D):=ζ.gu k d>>=λag=>fc (ρ++ag)>>=λb=>if b then gO (ρ++ag)>>=λy=>.ok (some y) else .ok none
noncomputable def gZ(X:a7)(scope:Scope)(dO:List Str)(s3:Shared)(bq:aD)(bB:List Addr)(pins:List (Addr×Obj)):a7:=n4 X (compEnvC scope (gv X.env scope.names []) s3.heap.objs.size X.env) dO s3 bq bB pins
def LC{d:D}{os:List (Option D)}(h:ζ.gu k d=.ok os):∃ws:List D,os=ws.map some:=by
 cases k with
 |zero=>cases h;exact⟨[d],rfl⟩
 |succ k =>
  cases d with
  |tup ds =>
   have ae:ζ.gu (k+1) (.tup ds)=if ds.length=k+1 then .ok (ds.map some) else .bad:=rfl;rw[ae]at h
   by_cases hd:ds.length=k+1
   .rw[if_pos hd]at h;cases h;exact⟨ds,rfl⟩
   .rw[if_neg hd]at h;cases h
  |_=>cases h
end
section
variable{xp:dA}{X:a7}{ao:List Nat}{mY:bx->cu (List D)}{gO:bx->cu D}{fc:bx->cu Bool}{elt target iter:Expr}{ifs:List Expr}{scope:Scope}{pos:Pos}{xs dO:List Str}{k:Nat}
def rr(xp:dA)(X:a7)(ao:List Nat)(scope:Scope)(dO:List Str)(ifs:List Expr)(fc:bx->cu Bool):Prop :=
 (ifs=[]/\fc=λ_=>.ok true)\/∃(c:Expr)(u6:bx->cu D),ifs=[c]/\(fc=λρ=>u6 ρ>>=ζ.eu)/\∀s3 bq bB pins,eI (gZ X scope dO s3 bq bB pins) c (fZ xp (gZ X scope dO s3 bq bB pins) ao u6)
def Zf(aH:rr xp X ao scope dO ifs fc){σ:dp}(I:Inv (gZ X scope dO s3 bq bB pp) pins σ H s)(af:et X.K ao G H ρ σ)(ae:fc ρ=.ok b)(aM:∀s' aR aq,Inv (gZ X scope dO s3 bq bB pp) pins σ aq s'->Ext G H aR aq->Q b s'):
  wpAny (model X.prog X.w) X.A (forIn ifs true λc r=>if r=true then do let ok <- isTrue c (gZ X scope dO s3 bq bB pp).env (eval c (gZ X scope dO s3 bq bB pp).env);pure (ForInStep.yield ok) else pure (ForInStep.yield r)) Q (λ_ _=>False) s:=by
 rcases aH with⟨rfl,rfl⟩|⟨c,u6,rfl,rfl,h⟩
 .cases ae;exact wpAny_tests_nil (aM s G H I (Ext.refl af.sub))
 .refine wpAny_tests_one (acg (h s3 bq bB pp pins s σ H (λg5 aq=>g5=b/\∃aR,Ext G H aR aq) I ⟨G,ρ,af,?_⟩) (λg5 s' ⟨aq,ee,e,aR,x⟩=>?_) λ_ _ z=>z)
  .have ae:(u6 ρ>>=ζ.eu)=.ok b:=ae;rw[ae];exact λaR aq x=>⟨rfl,aR,x⟩
  .subst e;exact aM s' aR aq ee x
def LD{d:D}{os:List (Option D)}(ay:ζ.fh k target=some xs)(h:ζ.gu k d=.ok os):os.length=xs.length:=by
 cases k with
 |zero =>
  cases h;cases target with
  |Name x p=>simp only[ζ.fh,acq]at ay;subst ay;rfl
  |_=>simp only[ζ.fh]at ay;cases ay
 |succ k =>
  have ai:xs.length=k+1:=by
   cases target with
   |Tuple ak j p =>
    simp only[ζ.fh]at ay;cases q:ζ.namesOf ak with
    |none=>rw[q]at ay;cases ay
    |some zs =>
     rw[q]at ay;simp only at ay
     by_cases hz:zs.length=k+1
     .rw[if_pos hz]at ay;cases ay;exact hz
     .rw[if_neg hz]at ay;cases ay
   |_=>simp only[ζ.fh]at ay;cases ay
  cases d with
  |tup ds =>
   have ae:ζ.gu (k+1) (.tup ds)=if ds.length=k+1 then .ok (ds.map some) else .bad:=rfl;rw[ae]at h
   by_cases hd:ds.length=k+1
   .rw[if_pos hd]at h;cases h;rw[List.length_map,hd,ai]
   .rw[if_neg hd]at h;cases h
  |_=>cases h
def Tw{a b:List D}(h:a.map some=b.map some):a=b:=by
 induction a generalizing b with
 |nil=>cases b with|nil=>rfl|cons _ _=>simp at h
 |cons x a aE=>cases b with
  |nil=>simp at h
  |cons y b=>simp only[List.map_cons,List.cons.injEq,acq]at h;rw[h.1,aE h.2]
def Cy(X:a7)(pins:List (Addr×Obj))(σ:dp)(G H:aD)(use:Option (Value->Sem Unit))(Qc:Value->Shared->Prop)(ys:List D):Prop :=
 ∀(s4:Shared)(aq aR:aD)(C dr:Addr)(oL:Str->Option Value),Ext G H aR aq->cT X.K H aR aq .fresh (.lst ys) (.ref dr)->s4.heap.Ns C oL->kd X pins aq C->(∀h',Heap.SameBut C s4.heap h'->Inv X pins σ aq { s4 with heap:=h' }) ->
  compPost (model X.prog X.w) X.A X.cq use Qc (.ref dr) C (.ok .next) s4
structure Kt(X Y:a7)(f:D->cu (Option D))(gW:Nat->Heap->Prop)(bB:List Addr)(ds ys:List D)(xs:List Str)(σ:dp)(cn aX:aD)(dr:Addr)(n:Nat)(s':Shared)(i:Nat)(gp:dp)(aq aR:aD)(mq rest:List D)(hQ:List V):Prop where
 J:n=ds.length-i
 aa:i<=ds.length
 aJ:gp.length=xs.length
 aW:Inv Y [] (σ++gp) aq s'
 cb:gW i s'.heap
 eF:∀b∈bB,aq b=none
 gQ:Ext cn aX aR aq
 c3:aq dr=some (.lst hQ)
 p6:aR dr=none
 vg:bH X.K aR mq hQ
 ET:mq.length<=i
 gf:ζ.dj f (ds.drop i)=.ok rest
 aaq:ys=mq++rest
def N0{d:D}{r rest:List D}(h:ζ.dj (i6 k fc gO ρ) (d::r)=.ok rest):∃(ws:List D)(b:Bool)(qI:List D),ζ.gu k d=.ok (ws.map some)/\fc (ρ++ws.map some)=.ok b /\
  ζ.dj (i6 k fc gO ρ) r=.ok qI/\((b=false/\rest=qI)\/∃y,b=true/\gO (ρ++ws.map some)=.ok y/\rest=y::qI):=by
 simp only[ζ.dj]at h;cases aO:i6 k fc gO ρ d with
 |exc c=>rw[aO]at h;cases h
 |bad=>rw[aO]at h;cases h
 |ok o =>
 rw[aO]at h;simp only[ζ.R.jk]at h;cases ba:ζ.dj (i6 k fc gO ρ) r with
 |exc c=>rw[ba]at h;cases h
 |bad=>rw[ba]at h;cases h
 |ok qI =>
 rw[ba]at h;simp only[ζ.R.jk]at h;unfold i6 at aO;cases b6:ζ.gu k d with
 |exc c=>rw[b6]at aO;cases aO
 |bad=>rw[b6]at aO;cases aO
 |ok os =>
 rw[b6]at aO;simp only[ζ.R.jk]at aO;obtain⟨ws,rfl⟩:=LC b6;cases dx:fc (ρ++ws.map some) with
 |exc c=>rw[dx]at aO;cases aO
 |bad=>rw[dx]at aO;cases aO
 |ok b =>
 rw[dx]at aO;simp only[ζ.R.jk]at aO;cases b with
 |false=>cases aO;cases h;exact⟨ws,false,_,rfl,dx,rfl,.inl ⟨rfl,rfl⟩⟩
 |true =>
  simp only[acj]at aO;cases gV:gO (ρ++ws.map some) with
  |exc c=>rw[gV]at aO;cases aO
  |bad=>rw[gV]at aO;cases aO
  |ok y =>
  rw[gV]at aO;cases aO;cases h;exact⟨ws,true,_,rfl,dx,rfl,.inr ⟨y,rfl,gV,rfl⟩⟩
def DH (ah : X.calm = true) (hZ : ∀ i ∈ ao, i < X.N.length) (B : pq X scope xs dO) (ay : ζ.fh k target = some xs) (lP : ∀ x, foldedSetIterable iter X.env x = pure x)
    (aj : ht X target iter (j4 xp X ao .view mY)) (he : ∀ s3 bq bB pins, aS (gZ X scope dO s3 bq bB pins) elt (bp xp (gZ X scope dO s3 bq bB pins) ao .val gO)) (aH : rr xp X ao scope dO ifs fc)
    {σ : dp} (I : Inv X pins σ H s) (af : et X.K ao G H ρ σ)
    (hw : cS (mY ρ >>= fun ds => ζ.l5 (ζ.dj (i6 k fc gO ρ) ds)) (Cy X pins σ G H use Qc) (fun c => ff xp X c H)) :
    wpAny (model X.prog X.w) X.A (comprehension (.ListComp elt [⟨target, iter, ifs, 0⟩] scope pos) scope X.env pos' (newList []) false (eval iter X.env) use) Qc X.cq s := by
  have Qs : closureFor scope X.env = pure (gv X.env scope.names []) := Me fun x ai e => by
    have := B.fr x ai e
    exact I.ok.has x.1 (by rcases this with q | q; exact .inl q; exact .inr q)
  refine wpAny_comprehension_free (use := use) rfl lP Qs B.kind B.names ?_
  refine bK (aj pins s σ H (fun dI aq => ∃ aR ds ys, Ext G H aR aq /\ nT X.K (ro .view aR aq) dI ds /\ ds.length <= 16777216 /\ ζ.dj (i6 k fc gO ρ) ds = .ok ys /\ Cy X pins σ G H use Qc ys) I
    ⟨G, ρ, af, b8 (bz.mp hw) (fun ds h3 dI aR aq x lR hz => ?_) fun _ q => q⟩) fun v s1 J => bK J fun Am s2 aa => ?_
  · obtain ⟨ys, e, q⟩ := vR h3
    exact ⟨aR, ds, ys, x, lR, hz, e, q⟩
  obtain ⟨it, bB, gW, dI, aX, rfl, cx, T, hk, f2, cn, ds, ys, b7, lR, hz, RQ, fin⟩ := aa
  refine ab7 (wpAny_newFunctionEnv B.nA (by intro y aQ; simp at aQ) (fun hF zY z9 => ?_) B.kind)
  dsimp only at zY z9 ⊢
  have ef : Inv X pins σ (upd aX s2.heap.objs.size (.lst [])) { s2 with heap := s2.heap.push { cls := .type "list", data := .seq ([] : List Value).toArray } } := cx.Gv (t' := s2.toks) (ys := []) (its := []) .nil (abZ _)
  generalize FG : ({ s2 with heap := s2.heap.push { cls := .type "list", data := .seq ([] : List Value).toArray } } : Shared) = s3 at ef
  have Fl : s3.heap = s2.heap.push { cls := .type "list", data := .seq ([] : List Value).toArray } := by rw [<- FG]
  rw [<- Fl] at zY z9 ⊢
  generalize EY : s2.heap.objs.size = dr at *
  have sg : aX dr = none := by rw [<- EY]; exact cx.fresh
  have QB : ∀ b ∈ bB, b ≠ dr := fun b ae z => by
    obtain ⟨o, e, _⟩ := T.obj _ _ hk b ae
    have := abC e
    rw [z, <- EY] at this
    exact absurd this (acQ _)
  have Ft : ∀ b o, s2.heap.get? b = some o -> s3.heap.get? b = some o := fun b o e => by rw [Fl]; exact abv _ e
  have c4 : ({ heap := hF, gens := s2.gens, drawn := s2.drawn, toks := s2.toks + ([] : List (Str × Value)).length, os := s2.os } : Shared) = { s3 with heap := hF, toks := s2.toks } := by rw [<- FG]; rfl
  rw [c4]
  show codeAny (model X.prog X.w) X.A (Code.compStart (elt.ListComp [{ target := target, iter := iter, ifs := ifs, is_async := 0 }] scope pos) 0 (Value.ref it) (Value.ref dr) (compEnvC scope (gv X.env scope.names []) s3.heap.objs.size X.env))
    (compPost (model X.prog X.w) X.A X.cq use Qc (Value.ref dr) s3.heap.objs.size) { s3 with heap := hF, toks := s2.toks }
  have qc : hF.Ns s3.heap.objs.size (fun _ => none) := by simpa using zY
  have i9 : ∀ b o, s3.heap.get? b = some o -> hF.get? b = some o := fun b o e => z9.extBut b o (abP (abC e)) (abv _ e)
  have vn : ∀ b ∈ bB, kd X pins (upd aX dr (.lst [])) b := fun b ae => ⟨by rw [dc (QB b ae)]; exact (f2 b ae).1, (f2 b ae).2⟩
  have Rg : ∀ b ∈ bB, ∃ o, s3.heap.get? b = some o := fun b ae => by
    obtain ⟨o, e, _⟩ := T.obj _ _ hk b ae
    exact ⟨o, Ft b o e⟩
  have uj := LJ (tk := s2.toks) ef vn Rg B qc i9
  generalize gx : n4 X (compEnvC scope (gv X.env scope.names []) s3.heap.objs.size X.env) dO s3 (upd aX dr (.lst [])) bB pins = Y at uj
  have aam : Y = gZ X scope dO s3 (upd aX dr (.lst [])) bB pins := gx.symm
  have Ji : gW 0 hF := T.keep _ _ _ hk fun b ae o e => i9 b o (Ft b o e)
  have wB : et X.K ao cn aX ρ σ := af.ext b7
  have Q8 : ∀ i ∈ ao, i < ρ.length := fun i aj => by rw [af.len, I.len]; exact hZ i aj
  have aaE : ∀ (i : Nat) (d : D), i ∈ ao -> gS d = true -> ρ[i]? = some (some d) -> σ[i]? ≠ some (some (V.ref dr)) := fun i d aj aA e z => by
    obtain ⟨a, ag, J, aa, _⟩ := wB.lst i d e aj aA
    rw [J] at z
    injection z with z
    injection z with z
    injection z with z
    rw [z, sg] at aa; cases aa
  have y7 : ∀ {aq : aD}, (∀ b ∈ bB, aq b = none) -> ∀ b ∈ bB, kd Y [] aq b := fun aC b ae => by
    obtain ⟨f0, f1, O1, dZ, f4, ez⟩ := vn b ae
    obtain ⟨e1, ar⟩ := uj.ok.u4 b (by rw [<- gx]; exact ae)
    refine ⟨aC b ae, e1, uj.ok.oe b (by rw [<- gx]; exact ae), .inl (by rw [<- gx]; exact ae), ar, fun p aB => ?_⟩
    rw [<- gx] at aB
    exact ez p (by simpa [n4] using aB)
  have loop : codeAny (model X.prog X.w) X.A (.compLoop (.ListComp elt [⟨target, iter, ifs, 0⟩] scope pos) 0 (.ref it) (.ref dr) (compEnvC scope (gv X.env scope.names []) s3.heap.objs.size X.env))
      (compPost (model X.prog X.w) X.A X.cq use Qc (Value.ref dr) s3.heap.objs.size) { s3 with heap := hF, toks := s2.toks } := by
    refine Mv (fun n s' => ∃ (i : Nat) (gp : dp) (aq aR : aD) (mq rest : List D) (hQ : List V), Kt X Y (i6 k fc gO ρ) gW bB ds ys xs σ cn aX dr n s' i gp aq aR mq rest hQ) ?_ ds.length
      ⟨0, List.replicate xs.length none, _, cn, [], ys, [], by simp, abZ _, by simp, uj, Ji, fun b ae => (vn b ae).1, Ext.own b7.sub sg (fun _ z => nomatch z), dJ, b7.sub.free sg, rfl, abz _, by simpa using RQ, rfl⟩
    rintro n s' ⟨i, gp, aq, aR, mq, rest, hQ, rfl, Fp, RS, ee, bl, EG, pl, eG, E0, Bl, aaA, kC, vz⟩
    have om : ro .view cn aX aR aq := ⟨pl.g, pl.h⟩
    have Fe : Y.calm = true := by rw [<- gx]; exact ah
    have zx : Y.prog = X.prog := by rw [<- gx]; rfl
    have zy : Y.w = X.w := by rw [<- gx]; rfl
    have Fd : Y.K = X.K := by rw [<- gx]; rfl
    have Fc : Y.A = X.A := by rw [<- gx]; rfl
    have aar : Y.cq = fun _ _ => False := by rw [<- gx]; rfl
    by_cases bS : i < ds.length
    · have hd : ds[i]? = some ds[i] := aby bS
      generalize ds[i] = d at hd
      have Qu : ds.drop i = d :: ds.drop (i + 1) := by
        have := abR.mp hd
        obtain ⟨J, aa⟩ := this
        rw [<- aa]; exact ado J
      rw [Qu] at kC
      have item := T.item Y zx zy Fd Fe i [] s' (σ ++ gp) aq (fun _ _ => False) ee (y7 EG) bl (lR.go i aR aq om bS)
      rw [Fc] at item
      refine bK item fun r s4 ⟨u, a4, aW⟩ => ?_
      subst a4
      refine bK aW fun _ s5 ⟨x, lb, kf, hK, Cu, mh, y8⟩ => ?_
      obtain ⟨rg, ua, dM⟩ := lR.k7 i aR aq x lb d om pl.sub hd Cu
      have xi := kf.pinned (y7 y8) (T.obj _ _ mh)
      obtain ⟨ws, b, qI, b6, dx, ba, ae⟩ := N0 kC
      have sJ : ws.length = xs.length := by have := LD ay b6; simpa using this
      subst gx
      have aY : nV (n4 X (compEnvC scope (gv X.env scope.names []) s3.heap.objs.size X.env) dO s3 (upd aX dr (.lst [])) bB pins) target (zc X.K k (List.range' X.N.length xs.length)) := by
        refine HB (X := n4 X (compEnvC scope (gv X.env scope.names []) s3.heap.objs.size X.env) dO s3 (upd aX dr (.lst [])) bB pins) ah B.ea ay (by simp) fun j cP y e1 ar => ?_
        rw [List.getElem?_range' (abR.mp ar).1] at e1
        have aQ : y ∈ xs := acL ar
        have qb : (relabel scope X.env).names.lookup y = some .local := wd (B.fh y aQ) ∅
        cases e1
        refine ⟨?_, .inl qb, .inr qb⟩
        show dO[X.N.length + 1 * j]? = some y
        rw [Nat.one_mul, B.new j]; exact ar
      refine bK (aY _ s5 (σ ++ gp) lb x u (fun uc i2 => ∃ ag : List V, uc = σ ++ ag.map some /\ ag.length = xs.length /\ i2 = lb /\ bH X.K rg ws ag) xi hK ⟨rg, d, ua.sub, dM, ?_⟩) fun _ tN ⟨uc, i2, ps, ag, NS, FH, rX, rws⟩ => ?_
      · rw [b6]
        intro abp ag e r
        have e := Tw e
        subst e
        have aA : ag.length = xs.length := by rw [<- r.length, sJ]
        refine ⟨ag, ?_, aA, rfl, r⟩
        rw [<- aA]
        exact IQ ag σ gp X.N.length (I.len.symm) (by rw [RS, aA])
      subst NS
      subst rX
      have Cr : Ext cn aX rg i2 := pl.trans ua
      have I7 : et X.K ao rg i2 (ρ ++ ws.map some) (σ ++ ag.map some) := (wB.ext Cr).more Q8 rws
      have EX : i2 dr = some (.lst hQ) := ua.h _ _ eG
      have Qd : rg dr = none := ua.new dr E0 (by rw [eG]; exact fun z => nomatch z)
      refine Zf aH ps I7 dx fun tO rh hp hq nP => ?_
      have zo : hp dr = some (.lst hQ) := nP.h _ _ EX
      have E1 : rh dr = none := nP.new dr Qd (by rw [EX]; exact fun z => nomatch z)
      have HQ : bH X.K rh mq hQ := (Bl.mono ua.g).mono nP.g
      rcases ae with ⟨rfl, rfl⟩ | ⟨y, rfl, gV, rfl⟩
      · simp only [abx, abS]
        refine ⟨ds.length - (i + 1), by lia, i + 1, ag.map some, hp, rh, mq, rest, hQ, rfl, by lia, by rw [List.length_map]; exact FH, hq.q0, T.keep _ _ _ mh fun b ae o e => (hq.pin (b, o) (abL _ (abL _ (qv ae e)))).1, fun b ae => ?_, Cr.trans nP, zo, E1, HQ, by lia, ba, vz⟩
        obtain ⟨b5, e, _⟩ := T.obj _ _ mh b ae
        exact (hq.pin (b, b5) (abL _ (abL _ (qv ae e)))).2.1
      · simp only [acj]
        refine bK (he s3 (upd aX dr (.lst [])) bB pins _ tO (σ ++ ag.map some) hp (fun v nR => ∃ my, Ext rh hp my nR /\ Rep X.K my y v) hq ⟨rh, ρ ++ ws.map some, I7.ext nP, by rw [gV]; exact fun v my nR q7 tI => ⟨my, q7, tI⟩⟩) fun u8 WC ⟨wV, nR, Kx, tI, my, q7, Wd⟩ => ?_
        have Qb : nR dr = some (.lst hQ) := q7.h _ _ zo
        have E2 : my dr = none := q7.new dr E1 (by rw [zo]; exact fun z => nomatch z)
        have hlen : hQ.length < sizeLine := by rw [<- Bl.length, sizeLine_eq]; lia
        refine bK (GV (X := gZ X scope dO s3 (upd aX dr (.lst [])) bB pins) _ WC (σ ++ ag.map some) nR (.ref dr) [wV] (.ref dr) [u8] (fun _ Cz => Cz = upd nR dr (.lst (hQ ++ [wV]))) Kx rfl (.cons tI .nil) ⟨dr, hQ, wV, rfl, rfl, Qb, hlen, rfl⟩) fun _ abg ⟨_, Cz, xj, _, uU⟩ => ?_
        subst uU
        have t9 : Ext cn aX my nR := (Cr.trans nP).trans q7
        refine ⟨ds.length - (i + 1), by lia, i + 1, ag.map some, _, my, mq ++ [y], qI, hQ ++ [wV], rfl, by lia, by rw [List.length_map]; exact FH, xj.q0, T.keep _ _ _ mh fun b ae o e => (xj.pin (b, o) (abL _ (abL _ (qv ae e)))).1, fun b ae => ?_,
          ⟨t9.g, fun b o e => ?_, fun b o e => ?_, t9.new, fun b xs e => t9.dT b xs (by
            by_cases q : b = dr
            · subst q; rw [dJ] at e; cases e
            · rw [dc q] at e; exact e)⟩, dJ, E2, (HQ.mono q7.g).snoc Wd, by rw [abw, List.length_singleton]; lia, ba, by rw [vz, List.append_assoc]; rfl⟩
        · obtain ⟨b5, e, _⟩ := T.obj _ _ mh b ae
          exact (xj.pin (b, b5) (abL _ (abL _ (qv ae e)))).2.1
        · rw [dc (nx e sg)]; exact t9.h b o e
        · rw [dc (nx e E2)]; exact t9.sub b o e
    · have QJ : i = ds.length := by lia
      subst QJ
      have a4 : rest = [] := by
        rw [List.drop_length] at kC
        simp only [ζ.dj] at kC
        cases kC; rfl
      subst a4
      rw [adb] at vz
      subst vz
      have done := T.done Y zx zy Fd Fe ds.length [] s' (σ ++ gp) aq (fun _ _ => False) ee (y7 EG) bl (lR.stop aR aq om)
      rw [Fc] at done
      refine bK done fun r s4 ⟨a4, fI⟩ => ?_
      subst a4
      obtain ⟨oL, FA, _⟩ := fI.loc
      have yP : Y.env.locals = s3.heap.objs.size := by rw [<- gx]; rfl
      rw [yP] at FA
      refine fin s4 aq aR s3.heap.objs.size dr oL (b7.trans pl) ⟨dr, hQ, rfl, eG, b7.h.free sg, E0, Bl⟩ FA (ef.r8 (abz _) (by have := fI.free; rw [yP] at this; exact this)) fun h' cQ => ?_
      have EW : aq s3.heap.objs.size = none := by have := fI.free; rw [yP] at this; exact this
      have un : fg (gd X.stack) bB (upd aX dr (.lst [])) aq s3.heap s4.heap := by have := fI.base; rw [<- gx] at this; exact this
      have nv : ∀ b o, s3.heap.get? b = some o -> b ≠ s3.heap.objs.size := fun b o e => abP (abC e)
      have Zw : fg (gd X.stack) bB (upd aX dr (.lst [])) aq s3.heap h' :=
        ⟨fun b o e n ae ai => (cQ.2 b (nv b o e)).trans (un.keep b o e n ae ai), fun b o e n ae ai => by obtain ⟨bM, q⟩ := un.slot b o e n ae ai; exact ⟨bM, (cQ.2 b (nv b o e)).trans q⟩, un.free,
          fun b o e ai => by obtain ⟨bt, q⟩ := un.there b o e ai; exact ⟨bt, (cQ.2 b (nv b o e)).trans q⟩, un.jq, un.iH, un.jo⟩
      have z1 : ed X.prog X.w aq h' := fun b o e => by
        have q := fI.bL b o e
        rw [zx, zy] at q
        refine q.jn (fun c v cY q => (cQ.2 c ?_).trans q) (fun _ q => q) fun _ _ q => q
        rcases cY with z | z
        · rw [z]; rintro rfl; rw [EW] at e; cases e
        · rintro rfl; rw [EW] at z; cases z
      have UJ : s4.os = s3.os := by have := fI.os; rw [<- gx] at this; exact this
      have Ky : Inv X pins σ aq { s4 with heap := h' } := ef.Df (s' := { s4 with heap := h' }) UJ Zw z1 fI.bare fun b ae => by
        obtain ⟨f0, f1, O1, dZ, f4, ez⟩ := vn b ae
        exact ⟨dZ, f1, f4, ez⟩
      exact Ky
  refine codeAny_compStart_list loop (T.self _ _ _ _ _ Ji loop)
def Bx(ah:X.calm=true)(hZ:∀i∈ao,i<X.N.length)(B:pq X scope xs dO)(ay:ζ.fh k target=some xs)(lP:∀x,foldedSetIterable iter X.env x=pure x)(aj:ht X target iter (j4 xp X ao .view mY))(he:∀s3 bq bB pins,aS (gZ X scope dO s3 bq bB pins) elt (bp xp (gZ X scope dO s3 bq bB pins) ao .val gO))(aH:rr xp X ao scope dO ifs fc):
  aS X (.ListComp elt [⟨target,iter,ifs,0⟩] scope pos) (bp xp X ao .fresh λρ=>mY ρ>>=λds=>ζ.l5 (ζ.dj (i6 k fc gO ρ) ds)>>=λys=>.ok (.lst ys)):=by
 intro pins s σ H Q I ⟨G,ρ,af,hw⟩;rw[eval_ListComp];refine DH ah hZ B ay lP aj he aH I af (use:=none) (Qc:=eU X pins σ Q) ?_;have hw:=bz.mp hw;refine bz.mpr (b8 hw (λds k1=>?_) λ_ q=>q);refine b8 (bz.mp k1) (λys k2 s4 aq aR C dr oL x r aC hf inv=>?_) λ_ q=>q
 exact⟨oL,aC,λh' cQ=>⟨.ref dr,aq,inv h' cQ,rfl,k2 _ aR aq x r⟩⟩
end
section
def Vm(aA:aS X l iz):ht X dH l (λσ H R=>iz σ H λx H1=>∃a xs,x=.ref a/\((ej X.K H1 a xs/\(xs.length<=sizeLine->R (xk X.K a) H1))\/(fl X.K H1 a xs/\(xs.length<=sizeLine->R (xl X.K a) H1)))):=by
 intro pins s σ H R I h;refine bK (aA pins s σ H _ I h) λv s1 ⟨x,H1,a6,aG,aO⟩=>?_
 obtain⟨a,xs,e,⟨aM,q⟩|⟨aM,q⟩⟩:=aO
 .subst e;cases aG;obtain⟨its,bO,p,hz⟩:=a6.list aM;refine aeX p.isList ?_;refine⟨s1.heap.objs.size,[s1.heap.objs.size],_,_,H1,rfl,a6.kept (t':=s1.toks) λb o e=>abv _ e,Zs a _,⟨_,abD _ rfl,rfl,rfl⟩,λb ae=>?_,q hz⟩;have e:b=s1.heap.objs.size:=(by simpa using ae);subst e;exact a6.r8 (abz _) (a6.bL.fresh (abz _))
 .subst e;cases aG;obtain⟨its,bO,p,hz⟩:=a6.tuple aM;refine aeN (show s1.heap.IsTuple a its.toArray from p) ?_;refine⟨s1.heap.objs.size,[s1.heap.objs.size],_,_,H1,rfl,a6.kept (t':=s1.toks) λb o e=>abv _ e,Zu a _,⟨_,abD _ rfl,rfl,rfl⟩,λb ae=>?_,q hz⟩;have e:b=s1.heap.objs.size:=(by simpa using ae);subst e;exact a6.r8 (abz _) (a6.bL.fresh (abz _))
def F1{K:W.Frag}{a:Addr}(ei:∀aL H1,P aL H1->bE G aL/\ej K H1 a xs)(r:bH K G ds xs):nT K P (xk K a) ds where
 go:=λi aL H1 h aj=>by
  obtain⟨_,q⟩:=ei aL H1 h;have ai:i<xs.length:=(by rw[<- r.length];exact aj);exact⟨xs,xs[i],q,aby ai⟩
 k7:=λi aL H1 x aX d h af hd ⟨e,y⟩=>by
  obtain⟨g,q⟩:=ei aL H1 h;subst e;obtain⟨v,J,aa⟩:=r.get hd;have:=y xs q;rw[J]at this;cases this;exact⟨aL,Ext.refl af,aa.mono g⟩
 stop:=λaL H1 h=>⟨xs,(ei aL H1 h).2,by rw[r.length];exact abz _⟩
def Sh{K:W.Frag}{a:Addr}(ei:∀aL H1,P aL H1->bE G aL/\fl K H1 a xs)(r:bH K G ds xs):nT K P (xl K a) ds where
 go:=λi aL H1 h aj=>by
  obtain⟨_,q⟩:=ei aL H1 h;have ai:i<xs.length:=(by rw[<- r.length];exact aj);exact⟨xs,xs[i],q,aby ai⟩
 k7:=λi aL H1 x aX d h af hd ⟨e,y⟩=>by
  obtain⟨g,q⟩:=ei aL H1 h;subst e;obtain⟨v,J,aa⟩:=r.get hd;have:=y xs q;rw[J]at this;cases this;exact⟨aL,Ext.refl af,aa.mono g⟩
 stop:=λaL H1 h=>⟨xs,(ei aL H1 h).2,by rw[r.length];exact abz _⟩
def Au{K:W.Frag}(r:bH K G ds xs)(h:xs.length<=sizeLine):ds.length<=16777216:=by rw[r.length,<- sizeLine_eq];exact h
def W0(hm:m=.view\/m=.val)(aA:aS X l (bp xp X ao m f)):ht X dH l (j4 xp X ao m λρ=>f ρ>>=λd=>ζ.er d):=by
 intro pins s σ H R I ⟨G,ρ,af,hw⟩;refine Vm aA pins s σ H R I ?_;refine⟨G,ρ,af,b8 (bz.mp hw) (λd k v aL H1 aT aG=>?_) λ_ q=>q⟩;cases d with
 |lst ds =>
  rcases hm with rfl|rfl
  .obtain⟨a,xs,rfl,h3,r⟩:=mm (X:=X) aG;exact⟨a,xs,rfl,.inl ⟨h3,λhz=>k _ aL H1 aT (F1 (G:=aL) (λcn aX ⟨J,aa⟩=>⟨J,mf aa h3⟩) r) (Au r hz)⟩⟩
  .obtain⟨a,xs,rfl,h3,r⟩:=aG;exact⟨a,xs,rfl,.inl ⟨mf aT.sub h3,λhz=>k _ aL H1 aT (F1 (G:=aL) (λcn aX ⟨J,aa⟩=>⟨J,mf aa (mf J h3)⟩) r) (Au r hz)⟩⟩
 |tup ds =>
  have aG:Rep X.K aL (.tup ds) v:=(by rcases hm with rfl|rfl<;>exact aG);obtain⟨a,xs,rfl,h3,r⟩:=aG;refine⟨a,xs,rfl,.inr ⟨iy aT.sub h3,λhz=>k _ aL H1 aT (Sh (G:=aL) (λcn aX ⟨J,aa⟩=>?_) r) (Au r hz)⟩⟩;rcases hm with rfl|rfl
  .exact⟨J,Je aa (iy aT.sub h3)⟩
  .exact⟨J,Je aa (iy J h3)⟩
 |_=>exact k.elim
def F2{K:W.Frag}{lo aj:Int}:nT K P (pv lo (aj-lo).toNat) (ζ.eB lo aj) where
 go:=λi aL H1 _ bS=>by
  show i<(aj-lo).toNat;unfold ζ.eB at bS;simpa using bS
 k7:=λi aL H1 x aX d _ af hd ⟨e,y⟩=>by
  subst e;unfold ζ.eB at hd;rw[abF]at hd;cases q:(List.range (aj-lo).toNat)[i]? with
  |none=>rw[q]at hd;cases hd
  |some k =>
   rw[q]at hd;have ay:k=i:=by
    have:=abR.mp q;obtain⟨_,e⟩:=this;rw[<- e];simp
   subst ay;cases hd;exact⟨aL,Ext.refl af,y⟩
 stop:=λaL H1 _=>by
  show(aj-lo).toNat<=_;unfold ζ.eB;simp
def Bt{Q:List D->Prop}(h:cS (ζ.iU i j) Q E):(-(2 ^ 62)<=i/\i<2 ^ 62/\-(2 ^ 62)<=j/\j<2 ^ 62)/\(ζ.eB i j).length<=16777216/\Q (ζ.eB i j):=by
 unfold ζ.iU at h;cases q:(ζ.o3 i&&ζ.o3 j&&decide ((j-i).toNat<=1000000)) with
 |false=>rw[q]at h;exact h.elim
 |true =>
  rw[q]at h;simp only[abt,ζ.o3,abN]at q;obtain⟨⟨⟨a1,a2⟩,eX,ia⟩,aae⟩:=q;refine⟨⟨⋯,⋯,⋯,⋯⟩,?_,h⟩;unfold ζ.eB;rw[List.length_map,List.length_range];lia
def Xg{x:Str}(ai:x="range")(aY:eV X x)(hm:X.aZ x=none)(aw:aS X a (bp xp X ao .view bh))(c4:starEach [a] X.env=[(false,eval a X.env)]):
  ht X dH (.Call (.Name x p) [a] [] pos) (j4 xp X ao m λρ=>bh ρ>>=λd=>ζ.gs d>>=λi=>ζ.iU 0 i):=by
 subst ai;intro pins s σ H R I ⟨G,ρ,af,hw⟩;refine Vk aY hm (l7 aw c4) c4 pins s σ H R I ?_;refine⟨G,ρ,af,b8 (bz.mp hw) (λd k v aL H1 aT aG=>?_) λ_ q=>q⟩;have k:=bz.mp k;cases d with
 |int i =>
  obtain⟨⟨_,_,b1,b2⟩,hz,q⟩:=Bt k;refine⟨i,by rw[cT.qD aG],b1,b2,?_⟩;have:=q (pv 0 (i-0).toNat) aL H1 aT F2 hz;rw[afn]at this;exact this
 |_=>exact k.elim
def Xh{x:Str}(ai:x="range")(aY:eV X x)(hm:X.aZ x=none)(aw:aS X a (bp xp X ao .view bh))(ae:aS X b (bp xp X ao .view c1))(c4:starEach [a,b] X.env=[(false,eval a X.env),(false,eval b X.env)])(Aa:starEach [b] X.env=[(false,eval b X.env)]):
  ht X dH (.Call (.Name x p) [a,b] [] pos) (j4 xp X ao m λρ=>bh ρ>>=λd=>ζ.gs d>>=λi=>c1 ρ>>=λe=>ζ.gs e>>=λj=>ζ.iU i j):=by
 subst ai;intro pins s σ H R I ⟨G,ρ,af,hw⟩;refine Vl aY hm (oW aw (l7 ae Aa) (by rw[c4,Aa])) c4 Aa pins s σ H R I ?_;refine⟨G,ρ,af,b8 (bz.mp hw) (λd k v aL H1 aT aG=>?_) λ_ q=>q⟩;have k:=bz.mp k;cases d with
 |int i =>
  refine⟨aL,ρ,af.ext aT,b8 (bz.mp k) (λe k2 v2 cn aX b7 aV=>?_) λ_ q=>q.mono aT.h⟩;have k2:=bz.mp k2;cases e with
  |int j =>
   obtain⟨b1,hz,q⟩:=Bt k2;refine⟨i,j,by rw[cT.qD aG,cT.qD aV],b1,?_⟩;exact q _ cn aX (aT.trans b7) F2 hz
  |_=>exact k2.elim
 |_=>exact k.elim
end
section
variable{xp:dA}{X:a7}{ao:List Nat}{m:fj}{f bh c1:bx->cu D}{l a b dH:Expr}{pos p:Pos}{pins:List (Addr×Obj)}{σ:dp}{G H:aD}{s:Shared}
theorem ym{K:W.Frag}:∀{ds:List D}{bs:List Bool}{xs:List V},ζ.ie ds=some bs->bH K G ds xs->xs=bs.map V.aU
 |[],bs,xs,h,r=>by cases h;exact r
 |d::ds,bs,xs,h,⟨v,t,e,aG,aV⟩=>by
  subst e;cases d with
  |aU b =>
   simp only[ζ.ie]at h;cases q:ζ.ie ds with
   |none=>rw[q]at h;cases h
   |some cs =>
    rw[q]at h;simp only[Option.map_some,acq]at h;subst h;have aG:v=.aU b:=aG;rw[aG,ym q aV];rfl
  |_=>simp only[ζ.ie]at h;cases h
theorem Cn:∀{bs:List Bool}{us:List Value},Vals (bs.map V.aU) us->us=bs.map Value.bool
 |[],_,r=>by cases r;rfl
 |b::bs,_,r=>by
  cases r with
  |cons aG aV=>rw[Cn aV,(show _=Value.bool b from aG)];rfl
def Dd(ah:X.calm=true)(I:Inv X pins σ H s){a:Addr}{bs:List Bool}(h:ej X.K H a (bs.map V.aU)\/fl X.K H a (bs.map V.aU)){Q:Value->Shared->Prop}{r:List Nat->(Nat->Bool)->Bool}(aM:∀h' tk,Inv X pins σ H { s with heap:=h',toks:=tk }->Q (.bool (r (List.range bs.length) λi=>bs.getD i false)) { s with heap:=h',toks:=tk }):
  wpAny (model X.prog X.w) X.A.in1 (pyIter (.ref a)) (λit gm=>∃I bB wr n P St fD,it=.ref I/\Walks X.prog X.w X.A.in1 I bB wr n P St/\St 0 gm.heap/\TruthOf X.prog X.w X.A.in1 P fD /\
   ∀h' tk,(∀b o,b∉wr->gm.heap.get? b=some o->h'.get? b=some o)->Q (.bool (r (List.range n) fD)) { gm with heap:=h',toks:=tk }) X.cq s:=by
 have cD:X.A.in1.handled=none:=I.ok.hd ah;have JK:∀its:List Value,its=bs.map Value.bool->TruthOf X.prog X.w X.A.in1 (λi v=>its.toArray[i]?=some v) λi=>bs.getD i false:=by
  intro its e i v s Q E aN eo;subst e;have aN:(bs.map Value.bool)[i]?=some v:=(by simpa using aN);rw[abF]at aN;cases q:bs[i]? with
  |none=>rw[q]at aN;cases aN
  |some b =>
   rw[q]at aN;cases aN;refine acI ?_;have:bs.getD i false=b:=(by simp[List.getD,q]);have eo:Q (bs.getD i false) s:=eo;rw[this]at eo;exact eo
 rcases h with h|h
 .obtain⟨its,bO,cz,hz⟩:=I.list h;have e:=Cn bO;have aA:its.toArray.size=bs.length:=(by rw[abB,e,List.length_map]);refine aeX cz.isList ?_;have d1:a≠s.heap.objs.size:=(by obtain⟨o,n,az,_⟩:=cz;exact abP (abC az));refine⟨s.heap.objs.size,_,_,_,_,_,λi=>bs.getD i false,rfl,Walks.list cD _ a d1 its.toArray,⟨⟨_,abD _ rfl,rfl,rfl⟩,(let ⟨o,az,r⟩:=cz.isList;⟨o,abv _ az,r⟩)⟩,JK its e,λh' tk ay=>?_⟩;rw[aA];refine aM h' tk (I.kept λb o e=>ay b o (by simp;exact abP (abC e)) (abv _ e))
 .obtain⟨its,bO,cz,hz⟩:=I.tuple h;have e:=Cn bO;have aA:its.toArray.size=bs.length:=(by rw[abB,e,List.length_map]);refine aeN (show s.heap.IsTuple a its.toArray from cz) ?_;have d1:a≠s.heap.objs.size:=(by obtain⟨o,az,_⟩:=cz;exact abP (abC az));refine⟨s.heap.objs.size,_,_,_,_,_,λi=>bs.getD i false,rfl,Walks.tuple cD _ a d1 its.toArray,⟨⟨_,abD _ rfl,rfl,rfl⟩,(let ⟨o,az,r⟩:=cz;⟨o,abv _ az,r⟩)⟩,JK its e,λh' tk ay=>?_⟩;rw[aA];refine aM h' tk (I.kept λb o e=>ay b o (by simp;exact abP (abC e)) (abv _ e))
def range_getD(bs):(List.range bs.length).map (λi=>bs.getD i false)=bs:=by
 apply ac9;intro i;rw[abF]
 by_cases h:i<bs.length
 .rw[acW h];simp[List.getD,h]
 .rw[abM (by simpa using h),abM (by simpa using h)];rfl
def all_range(bs:List Bool):(List.range bs.length).all (λi=>bs.getD i false)=bs.all id:=by
 conv=>rhs;rw[<- range_getD bs]
 rw[List.all_map];rfl
def any_range(bs:List Bool):(List.range bs.length).any (λi=>bs.getD i false)=bs.any id:=by
 conv=>rhs;rw[<- range_getD bs]
 rw[List.any_map];rfl
def wm(af:bE G H)(cm:View X.K G H d x){Q:List D->Prop}(h:cS (ζ.er d) Q E):∃ds a xs,x=.ref a/\(ej X.K H a xs\/fl X.K H a xs)/\bH X.K G ds xs/\Q ds:=by
 cases d with
 |tup ds =>
  obtain⟨a,ys,rfl,k,q⟩:=nO af cm;exact⟨ds,a,ys,rfl,.inr k,q,h⟩
 |lst ds =>
  obtain⟨a,ys,rfl,k,q⟩:=mm cm;exact⟨ds,a,ys,rfl,.inl k,q,h⟩
 |_=>exact h.elim
def Kh{ds:List D}{Q:Bool->Prop}{E:Nat->Prop}{r:List Bool->Bool}(h:cS (match ζ.ie ds with|some bs=>ζ.R.ok (r bs)|none=>.bad) Q E):∃bs,ζ.ie ds=some bs/\Q (r bs):=by
 cases q:ζ.ie ds with
 |none=>rw[q]at h;exact h.elim
 |some bs=>rw[q]at h;exact⟨bs,rfl,h⟩
def O4(ah:X.calm=true):g0 X (.builtin "all") (kU X.K m λd=>ζ.er d>>=λxs=>ζ.mG xs>>=λb=>.ok (.aU b)):=by
 intro pins s σ H xs us Q I r ⟨G,x,d,ex,af,cm,hw⟩;subst ex;obtain⟨u,rfl,bg⟩:=vals1 r;obtain⟨ds,a,ys,rfl,aM,rs,hw⟩:=wm af cm (bz.mp hw);obtain⟨bs,e,hw⟩:=Kh (r:=λbs=>bs.all id) (bz.mp hw);rw[ym e rs]at aM;cases bg;refine call_all_walk (Dd ah I aM (r:=λl t=>l.all t) λh' tk ee=>?_);rw[all_range];exact⟨.aU _,H,ee,rfl,hw _ G H (Ext.refl af) cT.aU⟩
def O5(ah:X.calm=true):g0 X (.builtin "any") (kU X.K m λd=>ζ.er d>>=λxs=>ζ.mH xs>>=λb=>.ok (.aU b)):=by
 intro pins s σ H xs us Q I r ⟨G,x,d,ex,af,cm,hw⟩;subst ex;obtain⟨u,rfl,bg⟩:=vals1 r;obtain⟨ds,a,ys,rfl,aM,rs,hw⟩:=wm af cm (bz.mp hw);obtain⟨bs,e,hw⟩:=Kh (r:=λbs=>bs.any id) (bz.mp hw);rw[ym e rs]at aM;cases bg;refine call_any_walk (Dd ah I aM (r:=λl t=>l.any t) λh' tk ee=>?_);rw[any_range];exact⟨.aU _,H,ee,rfl,hw _ G H (Ext.refl af) cT.aU⟩
end
section
def PX{lo aj:Option Int}(aH:IsTup s.heap t items)(af:s.heap.IsSliceOf bM fE fF .none)(cz:IsPart fE lo)(pu:IsPart fF aj)(hw:dn.bQ items.size 0 lo=0/\dn.bQ items.size items.size aj=items.size)(h:Q (.ref t) s):wpAny (model prog w) A (getItem (.ref t) (.ref bM)) Q E s:=by
 obtain⟨os,oy,m7,kz⟩:=id af;have zv:s.TypeIs (.ref bM) "slice":=⟨os,oy,m7⟩;unfold getItem
 try with_reducible refine acJ ?_
 first|refine abr (abu ?_)|skip
 refine abr (wpAny_sequenceKey aH.typeIs ∅ ?_);refine abr (acM (name:=Str.ofString "__getitem__") aH.typeIs acm
  (acE acm aH.typeIs entry_tuple_getitem ?_ (args_tuple_getitem _ _)))
 show wpAny _ _ (Builtin.Tuple.tupleItemsOf (.ref t)>>=_) _ _ s;refine abr (PyProof.Rows.tupleItemsOf_ aH ?_);refine abr (adE zv ?_);rw[if_pos ∅];refine abr (dn.I1 af cz pu ?_);have RP:(((dn.bQ items.size 0 lo:Nat):Int)==0&&(1:Int)==1&&(dn.bQ items.size items.size aj-dn.bQ items.size 0 lo)==items.size)=true:=by
  rw[hw.1,hw.2];simp
 show wpAny _ _ (if (((dn.bQ items.size 0 lo:Nat):Int)==0&&(1:Int)==1&&(dn.bQ items.size items.size aj-dn.bQ items.size 0 lo)==items.size)=true then _ else _) _ _ s;rw[if_pos RP];unfold Builtin.Tuple.tupleIsExact;refine abr (abr (adE aH.typeIs (abu ?_)));rw[if_pos ∅];refine abr (aeM (abu ⟨_,rfl,abu h⟩))
end
section
variable{xp:dA}{X:a7}{ao:List Nat}{m:fj}{f bh c1:bx->cu D}{fK m1:bx->cu (Option Int)}{a b dH:Expr}{lo aj:Option Expr}{pos p p2:Pos}{pins:List (Addr×Obj)}{σ:dp}{G H:aD}{s:Shared}
def wj(n d)(o):ζ.bQ n d o=dn.bQ n d o:=by
 cases o with
 |none=>rfl
 |some i =>
  simp only[ζ.bQ,dn.bQ]
  by_cases h:i<0
  .rw[if_pos h,if_pos h];split<;>lia
  .rw[if_neg h,if_neg h];split<;>lia
def DK{K:W.Frag}(r:bH K G ds xs)(lo aj):bH K G (ζ.cut ds lo aj) (lB xs lo aj):=by
 unfold ζ.cut lB;rw[wj,wj,r.length];exact(r.drop _).take _
noncomputable def qX(xp:dA)(X:a7)(ao:List Nat)(f:bx->cu (Option Int)):pC:=λσ H Q =>
 ∃G ρ,et X.K ao G H ρ σ/\cS (f ρ) (λo=>∀aR aq,Ext G H aR aq->Q o aq) (λc=>ff xp X c H)
def W7:kg X none (qX xp X ao λ_=>.ok none):=by
 intro pins s σ H Q I ⟨G,ρ,af,hw⟩;exact Vr pins s σ H Q I (hw G H (Ext.refl af.sub))
def Xa(aw:aS X a (bp xp X ao .view bh)):kg X (some a) (qX xp X ao λρ=>bh ρ>>=λx=>ζ.gs x>>=λi=>.ok (some i)):=by
 intro pins s σ H Q I ⟨G,ρ,af,hw⟩;refine Vs aw pins s σ H Q I ?_;refine⟨G,ρ,af,b8 (bz.mp hw) (λd k v aL H1 aT aG=>?_) λ_ q=>q⟩;cases d with
 |int i=>exact⟨i,cT.qD aG,k aL H1 aT⟩
 |_=>exact k.elim
noncomputable def VY(K:W.Frag):V->Option Int->Option Int->aD->dD->Prop:=λx lo aj H Q =>
 ∃G d,bE G H/\View K G H d x/\cS (ζ.kW d lo aj) (λd'=>∀v aR aq,Ext G H aR aq->cT K H aR aq .fresh d' v->Q v aq) (λ_=>False)
def XI:rq X (λx lo aj H Q=>∃a xs,x=.ref a/\fl X.K H a xs/\(dn.bQ xs.length 0 lo=0/\dn.bQ xs.length xs.length aj=xs.length)/\Q (.ref a) H):=by
 intro pins s σ H x v fE fF lo aj bM Q I bg af cz pu h;obtain⟨a,xs,rfl,ai,hw,q⟩:=h;cases bg;obtain⟨its,r,aH,hz⟩:=I.tuple ai;have hlen:its.toArray.size=xs.length:=by rw[abB];exact r.length.symm
 refine⟨"tuple",_,acm.lookup,aH.typeIs,?_⟩;exact PX aH af cz pu (by rw[hlen];exact hw) ⟨.ref a,H,I,rfl,q⟩
def MD{ds:List D}{lo aj:Option Int}(h:dn.bQ ds.length 0 lo=0/\dn.bQ ds.length ds.length aj=ds.length):ζ.cut ds lo aj=ds:=by
 unfold ζ.cut;rw[wj,wj,h.1,h.2];simp
def XH:rq X (VY X.K):=by
 intro pins s σ H x v fE fF lo aj bM Q I bg af cz pu ⟨G,d,qg,cm,hw⟩;cases d with
 |tup ds =>
  obtain⟨a,xs,rfl,k,r⟩:=nO qg cm
  by_cases fx:dn.bQ xs.length 0 lo=0/\dn.bQ xs.length xs.length aj=xs.length
  .refine XI pins s σ H _ v fE fF lo aj bM Q I bg af cz pu ⟨a,xs,rfl,k,fx,?_⟩;rw[ζ.wA,MD (by rw[r.length];exact fx)]at hw;exact hw _ G H (Ext.refl qg) cm
  .refine XM pins s σ H _ v fE fF lo aj bM Q I bg af cz pu ⟨a,xs,rfl,k,fx,λp aB=>?_⟩;rw[ζ.wA]at hw;exact hw _ (upd G p (.tup (lB xs lo aj))) _ (Ext.put qg aB) ⟨p,_,rfl,dJ,(DK r lo aj).mono (fY (qg.free aB))⟩
 |lst ds =>
  obtain⟨a,xs,rfl,k,r⟩:=mm cm;refine XJ pins s σ H _ v fE fF lo aj bM Q I bg af cz pu ⟨a,xs,rfl,k,λp aB=>?_⟩;rw[ζ.I3]at hw;exact hw _ G _ (Ext.own qg aB λ_ z=>nomatch z) ⟨p,_,rfl,dJ,aB,qg.free aB,DK r lo aj⟩
 |_=>exact hw.elim
def XK{d:D}{lo aj:Option Int}:ζ.kW d lo aj≠.exc c:=by cases d<;>simp[ζ.kW]
def Xj(aw:aS X a (bp xp X ao .view bh))(aA:kg X lo (qX xp X ao fK))(cD:kg X aj (qX xp X ao m1)):
  aS X (.Subscript a (.Slice lo aj none p2) pos) (bp xp X ao .fresh λρ=>bh ρ>>=λx=>fK ρ>>=λl=>m1 ρ>>=λh=>ζ.kW x l h):=by
 intro pins s σ H Q I ⟨G,ρ,af,hw⟩;refine U6 XH aw aA cD pins s σ H Q I ?_;refine⟨G,ρ,af,b8 (bz.mp hw) (λbj SN v aL H1 aT aG=>?_) λ_ q=>q⟩;refine⟨aL,ρ,af.ext aT,b8 (bz.mp SN) (λl k cn aX b7=>?_) λ_ q=>q.mono aT.h⟩;refine⟨cn,ρ,(af.ext aT).ext b7,b8 (bz.mp k) (λh k2 ke bq iB=>?_) λ_ q=>(q.mono aT.h).mono b7.h⟩;refine⟨ke,bj,iB.sub,View.ext iB (View.ext b7 aG),?_⟩;exact b8 (pk k2 (λc=>XK)) (λd q v4 Kv fi ZW gF=>q v4 Kv fi (((aT.trans b7).trans iB).trans ZW) (((gF.old iB.h).old b7.h).old aT.h)) λ_ q=>q
end
section
def CJ(prog:Program)(w:World)(A:Around)(ag:List Value)(s1:Shared)(Q:Value->Shared->Prop):Prop :=
 ∃(κ:SortKind)(lt:Nat->Nat->Bool),Tm.Ord lt/\(∀i j,i<ag.length->j<ag.length->ag.getD i Value.none=ag.getD j Value.none->∀k,lt i k=lt j k/\lt k i=lt k j)/\ag.length<64 /\
   (2<=ag.length->∀(h':Heap),(∀b o,s1.heap.get? b=some o->h'.get? b=some o)->∀dP:SortKind->Shared->Prop,dP κ { s1 with heap:=h' }->wpAny (model prog w) A (keyKind' ag.toArray) dP (λ_ _=>False) { s1 with heap:=h' }) /\
   (2<=ag.length->∀(h':Heap),(∀b o,s1.heap.get? b=some o->h'.get? b=some o)->∀(i j:Nat)(C:Bool->Shared->Prop),i<ag.length->j<ag.length->C (lt i j) { s1 with heap:=h' }->PySem.W.kas_ask prog w A κ ag i j C { s1 with heap:=h' }) /\
   ∀p:List Nat,p.Perm (List.range ag.length)->p.Pairwise (λi j=>lt j i=false)->∀(h':Heap)(c:Nat),(∀b o,s1.heap.get? b=some o->h'.get? b=some o)->h'.get? s1.heap.objs.size=some (seqObj "list" (p.map λi=>ag.getD i Value.none).toArray c)->Q (.ref s1.heap.objs.size) { s1 with heap:=h' }
def BM(ah:wpAny (model prog w) A.in1 (collect src) (λag s1=>CJ prog w A.in1.in1 ag s1 Q) (λ_ _=>False) s):wpAny (model prog w) A (call (.builtin "sorted") [src]) Q E s:=by
 refine Calls.call_function_entry kind_sorted plain_sorted entry_sorted (args_sorted1 _) ?_;unfold Builtin.«sorted»;refine abr (m:=checkCount "sorted" 1 1 _) (abu ?_);refine abr (acg ah (λag s1 ai=>?_) λ_ _ z=>z.elim);obtain⟨κ,lt,e8,aN,zk,ay,Qt,aM⟩:=ai;refine abr (wpAny_newList ?_ (by rw[sizeLine_eq];lia));have vt:(s1.heap.push (seqObj "list" ag.toArray 0)).get? s1.heap.objs.size=some (seqObj "list" ag.toArray 0):=abD _ rfl;have keep:∀{h':Heap},(∀b o,b≠s1.heap.objs.size->(s1.heap.push (seqObj "list" ag.toArray 0)).get? b=some o->h'.get? b=some o)->∀b o,s1.heap.get? b=some o->h'.get? b=some o:=λfq b o q =>
  fq b o (abP (abC q)) (abv _ q)
 show wpAny _ _ _ _ _ { s1 with heap:=s1.heap.push (seqObj "list" ag.toArray 0) };refine abr (acJ (acE slot_list_sort ⟨_,vt,rfl⟩ entry_list_sort ?body (args_list_sort _)))
 case body =>
  refine Tm.Tq (s:={ s1 with heap:=s1.heap.push (seqObj "list" ag.toArray 0) }) (κ:=κ) (lt:=lt) e8 aN vt zk (λaa h' k dP q=>?_) (λaa h' k=>Qt aa h' (keep k)) λp p1 p2 h' c k aY=>?_
  .exact acg (ay aa h' (keep k) dP q) (λ_ _ z=>z) λ_ _ z=>z.elim
  .exact⟨_,rfl,abu ⟨_,rfl,aM p p1 p2 h' c (keep k) aY⟩⟩
end
noncomputable abbrev j3(c:List Int):D:=bf.av c
def ints_of{ds:List D}(h:ds.all (ζ.fA 0)=true):∃ns:List Int,ds=ns.map ζ.D.int:=vN h
theorem wQ:∀{ds:List D},ds.all ζ.qn=true->∃au:List (List Int),ds=au.map j3/\∀k∈au,k≠[]
 |[],_=>⟨[],rfl,by simp⟩
 |d::ds,h=>by
  simp only[List.all_cons,abt]at h;obtain⟨au,rfl,ay⟩:=wQ h.2;cases d with
  |tup xs =>
   cases xs with
   |nil=>cases h.1
   |cons x xs =>
    have J:(ζ.fA 0 x&&xs.all (ζ.fA 0))=true:=h.1;have J:(x::xs).all (ζ.fA 0)=true:=J;obtain⟨ns,e⟩:=vN J;refine⟨ns::au,by rw[e];rfl,λk fq=>?_⟩;rcases abA.mp fq with rfl|fq
    .rintro rfl;cases e
    .exact ay k fq
  |_=>cases h.1
section
theorem B8{pins:List (Addr×Obj)}{σ:dp}{s:Shared}(I:Inv X pins σ H s)(af:bE G H):∀{au:List (List Int)}{xs:List V}{us:List Value},(∀k∈au,k≠[])->bH X.K G (au.map j3) xs->Vals xs us->fe.f9 s.heap us au
 |[],_,_,_,r,v=>by cases r;cases v;exact trivial
 |k::au,_,_,aC,⟨x,t,e,aG,aV⟩,v=>by
  subst e;cases v with
  |cons v1 v2 =>
   obtain⟨a,ys,rfl,h,q⟩:=aG;cases v1;obtain⟨its,bO,⟨o,az,ah,n,hd⟩,_⟩:=I.tuple (iy af h);rw[j0 q]at bO;exact⟨⟨a,o,its.toArray,n,rfl,az,ah,hd,by simpa using intsAre_of bO,aC k List.mem_cons_self⟩,B8 I af (λz hz=>aC z (List.mem_cons_of_mem _ hz)) aV v2⟩
theorem Dm:∀{ds:List D},ds.all ζ.oG=true->∃cs:List (List (List Int)),ds=cs.map bf.rI/\(∀c∈cs,c≠[])/\∀c∈cs,∀k∈c,k≠[]
 |[],_=>⟨[],rfl,by simp,by simp⟩
 |d::ds,h=>by
  simp only[List.all_cons,abt]at h;obtain⟨cs,rfl,J,aa⟩:=Dm h.2;cases d with
  |tup xs =>
   cases xs with
   |nil=>cases h.1
   |cons x xs =>
    have aJ:(x::xs).all ζ.qn=true:=h.1;obtain⟨c,e,aW⟩:=wQ aJ;refine⟨c::cs,by rw[e];rfl,λk ay=>?_,λk ay=>?_⟩
    .rcases abA.mp ay with rfl|ay
     .rintro rfl;cases e
     .exact J k ay
    .rcases abA.mp ay with rfl|ay
     .exact aW
     .exact aa k ay
  |_=>cases h.1
theorem JQ{pins:List (Addr×Obj)}{σ:dp}{s:Shared}(I:Inv X pins σ H s)(af:bE G H):∀{cs:List (List (List Int))}{xs:List V}{us:List Value},(∀c∈cs,c≠[])->(∀c∈cs,∀k∈c,k≠[])->bH X.K G (cs.map bf.rI) xs->Vals xs us->fe.iF s.heap us cs
 |[],_,_,_,_,r,v=>by cases r;cases v;exact trivial
 |c::cs,_,_,aC,hm,⟨x,t,e,aG,aV⟩,v=>by
  subst e;cases v with
  |cons v1 v2 =>
   obtain⟨a,ys,rfl,h,q⟩:=aG;cases v1;obtain⟨its,bO,⟨o,az,ah,n,hd⟩,_⟩:=I.tuple (iy af h);exact⟨⟨a,o,its.toArray,n,rfl,az,ah,hd,by simpa using B8 I af (hm c List.mem_cons_self) q bO,aC c List.mem_cons_self⟩,JQ I af (λz hz=>aC z (List.mem_cons_of_mem _ hz)) (λz hz=>hm z (List.mem_cons_of_mem _ hz)) aV v2⟩
theorem H3{K:W.Frag}(r:bH K G ds xs)(v:Vals xs us):∀{p:List Nat},(∀i∈p,i<ds.length) ->
  ∃ys,bH K G (p.map λi=>ds.getD i .dK) ys/\Vals ys (p.map λi=>us.getD i Value.none)
 |[],_=>⟨[],rfl,.nil⟩
 |i::p,h=>by
  obtain⟨ys,J,aa⟩:=H3 r v (p:=p) λj aI=>h j (List.mem_cons_of_mem _ aI)
  have aj:=h i List.mem_cons_self;have e:ds[i]?=some (ds.getD i .dK):=(by rw[aby aj];simp[List.getD,aby aj]);obtain⟨y,k1,k2⟩:=r.get e;obtain⟨u,k3,cF⟩:=v.get k1;have ar:us.getD i Value.none=u:=(by simp[List.getD,k3]);exact⟨y::ys,⟨y,ys,rfl,k2,J⟩,by rw[List.map_cons,ar];exact .cons cF aa⟩
def Br{K:W.Frag}{κ:Type}{f:κ->D}{lt:κ->κ->Bool}(L:bf.g4 lt)(hf:∀a b,ζ.kK (f a) (f b)=some (lt a b))(z){au:List κ}(r:bH K G (au.map f) xs)(v:Vals xs us){p:List Nat}(J:p.Perm (List.range us.length))(aa:p.Pairwise (λi j=>fe.ltI lt z au j i=false)):
  ∃ys,bH K G (ζ.hj (au.map f)) ys/\Vals ys (p.map λi=>us.getD i Value.none):=by
 have aA:us.length=au.length:=by rw[<- v.length,<- r.length,List.length_map]
 rw[aA]at J;rw[bf.me hf,<- fe.XZ L z au J aa,List.map_map];obtain⟨ys,k1,k2⟩:=H3 r v (p:=p) λi aj=>by
  have:=J.mem_iff.mp aj;rw[List.length_map];simpa using this
 refine⟨ys,?_,k2⟩;have e:(p.map λi=>(au.map f).getD i .dK)=p.map (f ∘ λi=>au.getD i z):=by
  apply abO;intro i aj;have aj:i<au.length:=(by simpa using J.mem_iff.mp aj);simp[List.getD,abF,aby aj]
 rw[<- e];exact k1
def BL{pins:List (Addr×Obj)}{σ:dp}{s:Shared}(cD:X.A.handled=none)(br:X.A.units+64<cLine)(I:Inv X pins σ H s)(af:bE G H)(r:bH X.K G ds xs)(v:Vals xs us)(ja:(ζ.h4 ds||ds.all ζ.oG)=true)(gw:ds.length<=63)(k:∀v aR aq,Ext G H aR aq->cT X.K H aR aq .fresh (.lst (ζ.hj ds)) v->Q v aq):CJ X.prog X.w X.A.in1.in1 us s (eU X pins σ Q):=by
 have hlen:us.length=ds.length:=by rw[<- v.length,<- r.length]
 have fin:∀{out:List Value}{ys:List V}(h':Heap)(c:Nat),bH X.K G (ζ.hj ds) ys->Vals ys out->out.length=us.length->(∀b o,s.heap.get? b=some o->h'.get? b=some o)->h'.get? s.heap.objs.size=some (seqObj "list" out.toArray c)->eU X pins σ Q (.ref s.heap.objs.size) { s with heap:=h' }:=λ{out ys} h' c gG Kb az ay aY=>by
  refine⟨.ref s.heap.objs.size,_,I.laid (t':=s.toks) (o:=.lst ys) ay (abz _) ⟨by rw[Kb.length,az,hlen,sizeLine_eq];lia,out,c,Kb,aY⟩,rfl,?_⟩;exact k _ G _ (Ext.own af I.fresh λ_ z=>nomatch z) ⟨_,ys,rfl,dJ,I.fresh,af.free I.fresh,gG⟩
 have Ax:∀{p:List Nat},p.Perm (List.range us.length)->(p.map λi=>us.getD i Value.none).length=us.length:=λh=>by rw[List.length_map,h.length_eq,List.length_range]
 unfold ζ.h4 at ja;rw[adq,adq]at ja;rcases ja with(h|h)|h
 .obtain⟨ns,rfl⟩:=ints_of h;have bW:IntsAre us ns:=(by rw[j0 r]at v;exact intsAre_of v);refine⟨oneType',fe.ltI bf.ltI 0 ns,fe.A5 bf.hc 0 ns,fe.A2 (fe.Sz bW),⋯,λaa h' _ dP q=>fe.SI bW aa q,λaa h' _ i j C aj aI q=>fe.Lm bW i j C aj aI q,λp p1 p2 h' c ay aY=>?_⟩;obtain⟨ys,k1,k2⟩:=Br bf.hc (f:=ζ.D.int) (λ_ _=>rfl) 0 r v p1 p2;exact fin h' c k1 k2 (Ax p1) ay aY
 .obtain⟨au,rfl,d1⟩:=wQ h;have cK:=B8 I af d1 r v;refine⟨tuples' true,fe.ltI bf.lexLt [] au,fe.A5 bf.kG [] au,fe.A2 (fe.SG cK),⋯,λaa h' k dP q=>fe.SJ (s:={ s with heap:=h' }) (cK.kept k) aa q,λaa h' k i j C aj aI q=>fe.Ln (s:={ s with heap:=h' }) (cK.kept k) i j C aj aI q,λp p1 p2 h' c ay aY=>?_⟩;obtain⟨ys,k1,k2⟩:=Br bf.kG (f:=j3) (λa b=>bf.ta a b) [] r v p1 p2;exact fin h' c k1 k2 (Ax p1) ay aY
 .obtain⟨au,rfl,d1,Rf⟩:=Dm h;have cK:=JQ I af d1 Rf r v;refine⟨tuples' false,fe.ltI bf.fM [] au,fe.A5 bf.Gq [] au,fe.A2 (fe.SH cK),⋯,λaa h' k dP q=>fe.SK (s:={ s with heap:=h' }) (cK.kept k) aa q,λaa h' k i j C aj aI q=>fe.Lo (s:={ s with heap:=h' }) (by show X.A.units+1+1+2<cLine;lia) (cK.kept k) i j C aj aI q,λp p1 p2 h' c ay aY=>?_⟩;obtain⟨ys,k1,k2⟩:=Br bf.Gq (f:=bf.rI) (λa b=>bf.Tu a b) [] r v p1 p2;exact fin h' c k1 k2 (Ax p1) ay aY
end
section
def ZR{ds:List D}{Q:D->Prop}(h:cS (ζ.sorted ds) Q E):(ζ.h4 ds||ds.all ζ.oG)=true/\ds.length<=63/\Q (.lst (ζ.hj ds)):=by
 unfold ζ.sorted at h;cases q:((ζ.h4 ds||ds.all ζ.oG)&&decide (ds.length<=63)) with
 |false=>rw[q]at h;exact h.elim
 |true =>
  rw[q]at h;rw[abt,abN]at q;exact⟨q.1,q.2,h⟩
def Pk(ah:X.calm=true)(br:X.A.units+64<cLine):g0 X (.builtin "sorted") (kU X.K .fresh λd=>ζ.er d>>=λxs=>ζ.sorted xs):=by
 intro pins s σ H xs us Q I r ⟨G,x,d,ex,af,cm,hw⟩;subst ex;obtain⟨u,rfl,bg⟩:=vals1 r;obtain⟨ds,a,ys,rfl,aM,rs,hw⟩:=wm af cm (bz.mp hw);obtain⟨ja,gw,hw⟩:=ZR hw;have cD:X.A.handled=none:=I.ok.hd ah;cases bg;rcases aM with aM|aM
 .obtain⟨its,bO,cz,hz⟩:=I.list aM;refine BM (collect_list cz.isList ?_ (by rw[<- bO.length];exact hz));have a6:Inv X pins σ H { s with heap:=(s.heap.push (seqObj "list" #[] 0)).update s.heap.objs.size (Obj.mapSeq (·++its.toArray)) }:=I.kept (t':=s.toks) λb o q=>(abV _ _ (acy (abP (abC q)))).trans (abv _ q)
  exact BL cD br a6 af rs bO ja gw hw
 .obtain⟨its,bO,cz,hz⟩:=I.tuple aM;refine BM (Pv.Mt (show s.heap.IsTuple a its.toArray from cz) ?_ (by rw[<- bO.length];exact hz));have a6:Inv X pins σ H { s with heap:=(s.heap.push (seqObj "list" #[] 0)).update s.heap.objs.size (Obj.mapSeq (·++its.toArray)) }:=I.kept (t':=s.toks) λb o q=>(abV _ _ (acy (abP (abC q)))).trans (abv _ q)
  exact BL cD br a6 af rs bO ja gw hw
end
structure cc(K:W.Frag)(ao:List Nat)(bw bc G H:aD)(ρ:bx)(σ:dp):Prop where
 b0:et K ao G H ρ σ
 ext:Ext bw bc G H
 own:∀(i:Nat)(d:D)(a:Addr),ρ[i]?=some (some d)->gS d=true->i∈ao->σ[i]?=some (some (V.ref a))->bc a=none
noncomputable def ij(K:W.Frag)(ao:List Nat)(bw bc:aD)(T:Ends):ζ.eH->Prop
 |.bJ ρ=>∀σ G H,cc K ao bw bc G H ρ σ->T.bJ σ H
 |.cI d=>∀v G H,Ext bw bc G H->Rep K G d v->T.cI v H
noncomputable def dm(xp:dA)(X:a7)(ao:List Nat)(f:bx->cu ζ.eH):f7:=λT σ H =>
 ∃bw bc G ρ,cc X.K ao bw bc G H ρ σ/\cS (f ρ) (ij X.K ao bw bc T) (λc=>ff xp X c bc)
def eO{α:Type}{l:List α}{a:α}(h:i≠j):(l.set i a)[j]?=l[j]?:=aez h
def get_eq{α:Type}{l:List α}{a b:α}(h:(l.set i a)[i]?=some b):i<l.length/\b=a:=by
 rw[List.getElem?_set_self']at h;cases q:l[i]? with
 |none=>rw[q]at h;cases h
 |some c=>rw[q]at h;exact⟨(abR.mp q).1,(ab5 h).symm⟩
def wo{α:Type}{l:List α}{a:α}(h:i<l.length):(l.set i a)[i]?=some a:=by simp[h]
section
variable{K:W.Frag}{ao:List Nat}{bw bc G H aR aq:aD}{ρ:bx}{σ:dp}{i:Nat}{d:D}{v:V}
def et.tS(h:et K ao G H ρ σ)(hm:i∉ao)(r:Rep K G d v):et K ao G H (ρ.set i (some d)) (σ.set i (some v)) where
 len:=by rw[ade,ade];exact h.len
 sub:=h.sub
 val:=λj e q aI=>by
  by_cases c:i=j
  .subst c;obtain⟨J,aa⟩:=get_eq q;cases aa;exact⟨v,wo (by rw[<- h.len];exact J),r⟩
  .rw[eO c]at q ⊢;exact h.val j e q aI
 own:=λj e q aI aA=>by
  have c:i≠j:=λz=>hm (z▸aI)
  rw[eO c]at q ⊢;exact h.own j e q aI aA
 lst:=λj e q aI aA=>by
  have c:i≠j:=λz=>hm (z▸aI)
  rw[eO c]at q;obtain⟨a,o,J,aa⟩:=h.lst j e q aI aA;exact⟨a,o,by rw[eO c];exact J,aa⟩
 dT:=h.dT
 apart:=λj k d e a b aO ba bR b3 aI ay ne e1 ar=>by
  have c:i≠j:=λz=>hm (z▸aI)
  have de:i≠k:=λz=>hm (z▸ay)
  rw[eO c]at aO e1;rw[eO de]at ba ar;exact h.apart j k d e a b aO ba bR b3 aI ay ne e1 ar
def et.set_own(h:et K ao G H ρ σ)(hm:i∈ao)(aA:gS d=false)(r:Rep K G d v):et K ao G H (ρ.set i (some d)) (σ.set i (some v)) where
 len:=by rw[ade,ade];exact h.len
 sub:=h.sub
 val:=λj e q aI=>by
  have c:i≠j:=λz=>aI (z▸hm)
  rw[eO c]at q ⊢;exact h.val j e q aI
 own:=λj e q aI hle=>by
  by_cases c:i=j
  .subst c;obtain⟨J,aa⟩:=get_eq q;cases aa;exact⟨v,wo (by rw[<- h.len];exact J),r⟩
  .rw[eO c]at q ⊢;exact h.own j e q aI hle
 lst:=λj e q aI hle=>by
  by_cases c:i=j
  .subst c;obtain⟨J,aa⟩:=get_eq q;cases aa;rw[aA]at hle;cases hle
  .rw[eO c]at q;obtain⟨a,o,J,aa⟩:=h.lst j e q aI hle;exact⟨a,o,by rw[eO c];exact J,aa⟩
 dT:=h.dT
 apart:=λj k d e a b aO ba bR b3 aI ay ne e1 ar=>by
  have c:i≠j:=λz=>by subst z;obtain⟨J,aa⟩:=get_eq aO;cases aa;rw[aA]at bR;cases bR
  have de:i≠k:=λz=>by subst z;obtain⟨J,aa⟩:=get_eq ba;cases aa;rw[aA]at b3;cases b3
  rw[eO c]at aO e1;rw[eO de]at ba ar;exact h.apart j k d e a b aO ba bR b3 aI ay ne e1 ar
def et.XC(h:et K ao G H ρ σ)(hm:i∈ao)(fo:gS d=true)(eP:H a=some o)(ks:G a=none)(r:jB K G d o)(aC:∀(j:Nat)(e:D),j≠i->j∈ao->gS e=true->ρ[j]?=some (some e)->σ[j]?≠some (some (V.ref a))):et K ao G H (ρ.set i (some d)) (σ.set i (some (.ref a))) where
 len:=by rw[ade,ade];exact h.len
 sub:=h.sub
 val:=λj e q aI=>by
  have c:i≠j:=λz=>aI (z▸hm)
  rw[eO c]at q ⊢;exact h.val j e q aI
 own:=λj e q aI hle=>by
  by_cases c:i=j
  .subst c;obtain⟨J,aa⟩:=get_eq q;cases aa;rw[fo]at hle;cases hle
  .rw[eO c]at q ⊢;exact h.own j e q aI hle
 lst:=λj e q aI hle=>by
  by_cases c:i=j
  .subst c;obtain⟨J,aa⟩:=get_eq q;cases aa;exact⟨a,o,wo (by rw[<- h.len];exact J),eP,ks,r⟩
  .rw[eO c]at q;obtain⟨b,bt,J,aa⟩:=h.lst j e q aI hle;exact⟨b,bt,by rw[eO c];exact J,aa⟩
 dT:=h.dT
 apart:=λj k e f b g5 aO ba bR b3 aI ay ne e1 ar=>by
  by_cases c:i=j
  .subst c;have de:i≠k:=ne;obtain⟨J,aa⟩:=get_eq e1;cases aa;rw[eO de]at ba ar;intro z;exact aC k f (acy de) ay b3 ba (by rw[z];exact ar)
  .by_cases de:i=k
   .subst de;obtain⟨J,aa⟩:=get_eq ar;cases aa;rw[eO c]at aO e1;intro z;exact aC j e (acy c) aI bR aO (by rw[<- z];exact e1)
   .rw[eO c]at aO e1;rw[eO de]at ba ar;exact h.apart j k e f b g5 aO ba bR b3 aI ay ne e1 ar
def jB.nt:∀{d:D},jB K G d o->∀xs,o≠.tup xs
 |.lst _,⟨_,e,_⟩,_,z=>by rw[e]at z;cases z
 |.cf _,e,_,z=>by rw[show o=_ from e]at z;cases z
 |.bN _,⟨_,e,_⟩,_,z=>by rw[e]at z;cases z
def cc.step(h:cc K ao bw bc G H ρ σ)(x:Ext G H aR aq):cc K ao bw bc aR aq ρ σ:=⟨h.b0.ext x,h.ext.trans x,h.own⟩
theorem cc.tS(h:cc K ao bw bc G H ρ σ)(hm:i∉ao)(r:Rep K G d v):cc K ao bw bc G H (ρ.set i (some d)) (σ.set i (some v)) :=
 ⟨h.b0.tS hm r,h.ext,λj e a q fo aI z=>by
  have c:i≠j:=λz=>hm (z▸aI)
  rw[eO c]at q z;exact h.own j e a q fo aI z⟩
def cc.tR(h:cc K ao bw bc G H ρ σ)(x:Ext G H aR aq)(hm:i∈ao)(fo:gS d=true)(J:aq a=some o)(aa:H a=none)(aJ:aR a=none)(r:jB K aR d o):cc K ao bw bc aR aq (ρ.set i (some d)) (σ.set i (some (.ref a))):=by
 have h':=h.step x;refine⟨h'.b0.XC hm fo J aJ r λj e aI zR he q z=>?_,h'.ext,λj e b q he aI z=>?_⟩
 .obtain⟨b,bt,k1,k2,k3,cF⟩:=h.b0.lst j e q zR he;rw[k1]at z;cases z;rw[aa]at k2;cases k2
 .by_cases c:i=j
  .subst c;obtain⟨_,w⟩:=get_eq z;cases w;exact h.ext.h.free aa
  .rw[eO c]at q z;exact h.own j e b q he aI z
def cc.IT(h:cc K ao bw bc G H ρ σ)(x:Ext G H aR aq)(hm:i∈ao)(r:cT K H aR aq .fresh d v):cc K ao bw bc aR aq (ρ.set i (some d)) (σ.set i (some v)):=by
 have go:gS d=false->Rep K aR d v->cc K ao bw bc aR aq (ρ.set i (some d)) (σ.set i (some v)):=λfo r=>by
  refine⟨(h.step x).b0.set_own hm fo r,(h.step x).ext,λj e b q he aI z=>?_⟩
  by_cases c:i=j
  .subst c;obtain⟨_,w⟩:=get_eq q;cases w;rw[fo]at he;cases he
  .rw[eO c]at q z;exact h.own j e b q he aI z
 cases d with
 |lst ds =>
  obtain⟨a,xs,rfl,J,aa,aJ,aW⟩:=r;exact h.tR x hm rfl J aa aJ ⟨xs,rfl,aW⟩
 |cf ax=>exact r.elim
 |bN ax=>exact r.elim
 |_=>exact go rfl r
def cc.write (h : cc K ao bw bc G H ρ σ) (hm : i ∈ ao) (q : ρ[i]? = some (some d)) (hd : gS d = true) (he : gS e = true) (z : σ[i]? = some (some (V.ref a))) (ks : G a = none) (r : jB K G e bt) :
    cc K ao bw bc G (upd H a bt) (ρ.set i (some e)) σ := by
  have h0 : bc a = none := h.own i d a q hd hm z
  have aj : i < ρ.length := (abR.mp q).1
  have other : ∀ (j : Nat) (f : D), j ≠ i -> j ∈ ao -> gS f = true -> ρ[j]? = some (some f) -> σ[j]? ≠ some (some (V.ref a)) := fun j f aI zR hf VR lH => h.b0.apart j i f d a a VR q hf hd zR hm aI lH z rfl
  have BU : bE G (upd H a bt) := fun b o z => by
    have : b ≠ a := fun w => by rw [w, ks] at z; cases z
    rw [dc this]; exact h.b0.sub b o z
  have I6 : et K ao G (upd H a bt) (ρ.set i (some e)) σ := by
    refine ⟨by rw [ade]; exact h.b0.len, BU, fun j f cN aI => ?_, fun j f cN aI aA => ?_, fun j f cN aI aA => ?_, fun b xs w => ?_, fun j k f g b g5 aO ba bR b3 aI ay ne e1 ar => ?_⟩
    · have c : i ≠ j := fun z => aI (z ▸ hm)
      rw [eO c] at cN; exact h.b0.val j f cN aI
    · by_cases c : i = j
      · subst c
        obtain ⟨_, w⟩ := get_eq cN
        cases w
        rw [he] at aA; cases aA
      · rw [eO c] at cN; exact h.b0.own j f cN aI aA
    · by_cases c : i = j
      · subst c
        obtain ⟨_, w⟩ := get_eq cN
        cases w
        exact ⟨a, bt, z, dJ, ks, r⟩
      · rw [eO c] at cN
        obtain ⟨b, b5, k1, k2, k3, cF⟩ := h.b0.lst j f cN aI aA
        have : b ≠ a := fun w => other j f (acy c) aI aA cN (by rw [k1, w])
        exact ⟨b, b5, k1, by rw [dc this]; exact k2, k3, cF⟩
    · by_cases c : b = a
      · subst c; rw [dJ] at w; cases w; exact absurd rfl (r.nt xs)
      · rw [dc c] at w; exact h.b0.dT b xs w
    · have full : ∀ (k : Nat) (g : D), gS g = true -> (ρ.set i (some e))[k]? = some (some g) -> ∃ g', gS g' = true /\ ρ[k]? = some (some g') := fun k g aY z => by
        by_cases c : i = k
        · subst c; exact ⟨d, hd, q⟩
        · rw [eO c] at z; exact ⟨g, aY, z⟩
      obtain ⟨y3, nr, qH⟩ := full j f bR aO
      obtain ⟨g', lZ, oZ⟩ := full k g b3 ba
      exact h.b0.apart j k y3 g' b g5 qH oZ nr lZ aI ay ne e1 ar
  refine ⟨I6, ⟨h.ext.g, fun b o z => ?_, BU, h.ext.new, fun b xs w => .inr (I6.dT b xs w)⟩, fun j f b cN hf aI lH => ?_⟩
  · have : b ≠ a := fun w => by rw [w, h0] at z; cases z
    rw [dc this]; exact h.ext.h b o z
  · by_cases c : i = j
    · subst c; rw [z] at lH; cases lH; exact h0
    · rw [eO c] at cN; exact h.own j f b cN hf aI lH
end
section
variable{xp:dA}{X:a7}{ao:List Nat}{m:fj}{f bh c1 fc:bx->cu D}{g g1 g2:bx->cu ζ.eH}{a b c e dH:Expr}{ak:List Expr}{pos p1 p2 p3 p4:Pos}{st:Stmt}{tY tQ cQ:List Stmt}{i:Nat}{x:Str}
def Iy(hm:i∉ao)(aP:X.N.Nodup)(aj:X.N[i]?=some x)(ai:Loc X.env.scope x)(he:aS X e (bp xp X ao .val f))(af:swapsWith e (some (.Name x p1)) pos.line X.env=pure false)(hf:X.fn x=true\/X.env.scope.names.lookup x=some .local):
  dz X (.Assign [.Name x p1] e pos) (dm xp X ao λρ=>f ρ>>=λd=>.ok (.bJ (ρ.set i (some d)))):=by
 intro pins s σ H T I ⟨bw,bc,G,ρ,ae,hw⟩;refine v9 aP aj ai he af hf pins s σ H T I ?_;refine⟨G,ρ,ae.b0,b8 (bz.mp hw) (λd k v aL H1 aT aG=>?_) λ_ q=>q.mono ae.ext.h⟩;exact k _ aL H1 ((ae.step aT).tS hm aG)
def Iz(hm:i∈ao)(aP:X.N.Nodup)(aj:X.N[i]?=some x)(ai:Loc X.env.scope x)(he:aS X e (bp xp X ao .fresh f))(af:swapsWith e (some (.Name x p1)) pos.line X.env=pure false)(hf:X.fn x=true\/X.env.scope.names.lookup x=some .local):
  dz X (.Assign [.Name x p1] e pos) (dm xp X ao λρ=>f ρ>>=λd=>.ok (.bJ (ρ.set i (some d)))):=by
 intro pins s σ H T I ⟨bw,bc,G,ρ,ae,hw⟩;refine v9 aP aj ai he af hf pins s σ H T I ?_;refine⟨G,ρ,ae.b0,b8 (bz.mp hw) (λd k v aL H1 aT aG=>?_) λ_ q=>q.mono ae.ext.h⟩;exact k _ aL H1 (ae.IT aT hm aG)
def IF(he:aS X e (bp xp X ao .val f)):dz X (.Return (some e) pos) (dm xp X ao λρ=>f ρ>>=λd=>.ok (.cI d)):=by
 intro pins s σ H T I ⟨bw,bc,G,ρ,ae,hw⟩;refine tE he pins s σ H T I ?_;refine⟨G,ρ,ae.b0,b8 (bz.mp hw) (λd k v aL H1 aT aG=>?_) λ_ q=>q.mono ae.ext.h⟩;exact k v aL H1 (ae.ext.trans aT) aG
def Xe(hm:i∈ao)(aP:X.N[i]?=some x)(aN:ft X.env.scope x)(J:(x==("__debug__":Str))=false)(aa:(x==("__classdict__":Str))=false):
  dz X (.Return (some (.Name x p1)) pos) (dm xp X ao λρ=>ζ.vL ρ[i]?>>=λd=>.ok (.cI d)):=by
 intro pins s σ H T I ⟨bw,bc,G,ρ,ae,hw⟩;refine tE (gU aP aN J aa) pins s σ H T I ?_;dsimp only at hw;have key:∀ds,ρ[i]?=some (some (.lst ds))->ij X.K ao bw bc T (.cI (.lst ds))->nL i σ H T.cI:=λds q hw=>by
  obtain⟨a,o,k1,k2,k3,xs,rfl,cF⟩:=ae.b0.lst i (.lst ds) q hm rfl;refine⟨_,k1,?_⟩;have h0:bc a=none:=ae.own i (.lst ds) a q rfl hm k1;refine hw _ (upd G a (.lst xs)) H ⟨ae.ext.g.trans (fY k3),ae.ext.h,λb o z=>?_,λb bY bV=>?_,λb xs z=>.inr (fY k3 _ _ (ae.b0.dT b xs z))⟩ ⟨a,xs,rfl,.inl (.inl dJ),cF.mono (fY k3)⟩
  .by_cases c:b=a
   .subst c;rw[dJ]at z;rw[k2];exact z
   .rw[dc c]at z;exact ae.b0.sub b o z
  .have:b≠a:=λw=>bV (by rw[w];exact h0)
   rw[dc this];exact ae.ext.new b bY bV
 cases q:ρ[i]? with
 |none=>rw[q]at hw;exact hw.elim
 |some o =>
  cases o with
  |none=>rw[q]at hw;exact hw.elim
  |some d =>
   rw[q]at hw;cases d with
   |lst ds=>exact key ds q hw
   |_=>exact hw.elim
noncomputable def BB(g1 g2:bx->cu ζ.eH):bx->cu ζ.eH:=λρ=>g1 ρ>>=λr=>match r with
 |.bJ bP=>g2 bP
 |.cI d=>.ok (.cI d)
def IG:fk X [] (dm xp X ao λρ=>.ok (.bJ ρ)):=by
 intro pins s σ H T I ⟨bw,bc,G,ρ,ae,hw⟩;exact VI pins s σ H T I (hw σ G H ae)
def By(J:dz X st (dm xp X ao g1))(aa:fk X tY (dm xp X ao g2)):fk X (st::tY) (dm xp X ao (BB g1 g2)):=by
 intro pins s σ H T I ⟨bw,bc,G,ρ,ae,hw⟩;refine VG J aa pins s σ H T I ?_;refine⟨bw,bc,G,ρ,ae,b8 (bz.mp hw) (λr k=>?_) λ_ q=>q⟩;cases r with
 |bJ bP=>exact λcE aR aq fS=>⟨bw,bc,aR,bP,fS,k⟩
 |cI d=>exact k
def IB(ah:eI X c (fZ xp X ao fc))(aw:fk X tQ (dm xp X ao g1))(ae:fk X cQ (dm xp X ao g2)):dz X (.If c tQ cQ pos) (dm xp X ao λρ=>fc ρ>>=λx=>ζ.eu x>>=λk=>if k then g1 ρ else g2 ρ):=by
 intro pins s σ H T I ⟨bw,bc,G,ρ,il,hw⟩;refine VE ah aw ae pins s σ H T I ?_;refine⟨G,ρ,il.b0,?_⟩;refine bz.mpr (b8 (bz.mp hw) (λd k=>b8 (bz.mp k) (λcL q aL H1 aT=>?_) λ_ q=>q.mono il.ext.h) λ_ q=>q.mono il.ext.h);cases cL with
 |true=>simp only[acj]at q ⊢;exact⟨bw,bc,aL,ρ,il.step aT,q⟩
 |false=>simp only[abx,abS]at q ⊢;exact⟨bw,bc,aL,ρ,il.step aT,q⟩
end
theorem sV:∀{ag:List Value}{k:List Int},IntsAre ag k->ItemsAre (intKind prog w) k ag
 |_,_,.nil=>.nil
 |_,_,.cons n t r=>.cons (Pv.sT prog w n t) (sV r)
theorem CR:∀{k:List Int}{ag:List Value},ItemsAre (intKind prog w) k ag->IntsAre ag k
 |_,_,.nil=>.nil
 |_,_,.cons h r=>by
  obtain⟨t,rfl⟩:=aeT h;exact .cons _ t (CR r)
theorem FW:∀{ag:List Value}{a b:List Int},IntsAre ag a->IntsAre ag b->a=b
 |_,_,_,.nil,.nil=>rfl
 |_,_,_,.cons n t r,.cons _ _ q=>by rw[FW r q]
def AL{κ:Type}[DecidableEq κ](au:List κ)(h:i<=au.length):(Pv.met au i).length<=(bf.c8 au).length :=
 bf.iS (Pv.tf au i) λz hz=>(bf.jU z au).mpr (List.mem_of_mem_take ((Pv.vP au i h z).mp hz))
def IV{κ:Type}[DecidableEq κ]{lt:κ->κ->Bool}(L:bf.g4 lt){c2 r dk:List κ}(J:c2.Perm r)(aa:r.Perm (Pv.met dk dk.length)):bf.c7 lt c2=bf.c7 lt (bf.c8 dk):=by
 have h:=J.trans aa;have ea:c2.Nodup:=h.nodup_iff.mpr (Pv.tf dk _);refine bf.jE L (bf.lr L ea) (bf.lr L (bf.nB dk)) λz=>?_
 rw[bf.jV,bf.jV,bf.jU,h.mem_iff,Pv.vP dk _ (abz _),List.take_length]
def IU{κ:Type}[DecidableEq κ]{c2 r dk:List κ}(J:c2.Perm r)(aa:r.Perm (Pv.met dk dk.length)):c2.length<=(bf.c8 dk).length:=by
 rw[(J.trans aa).length_eq];exact AL dk (abz _)
def Si(h:ItemsOf P acc l.length)(ei:∀i v,P i v->l[i]?=some v):acc.toList=l:=by
 obtain⟨J,aa⟩:=h;apply ac9;intro i
 by_cases aj:i<l.length
 .have fp:i<acc.size:=⋯;have e:acc[i]?=some acc[i]:=abI fp;have:=ei i _ (aa i _ e);rw[this];simpa using e
 .rw[abM (by simp;lia),abM ⋯]
section
variable{X:a7}{pins:List (Addr×Obj)}{σ:dp}{G H:aD}{s:Shared}
def xn(K:W.Frag)(G:aD)(v:Value):Prop:=∃b k,v=.ref b/\Rep K G (j3 k) (V.ref b)
theorem Io(I:Inv X pins σ H s)(af:bE G H):∀{au:List (List Int)}{xs:List V}{us:List Value},bH X.K G (au.map j3) xs->Vals xs us->Paired ((Pv.F5 (xn X.K G) X.prog X.w).Row s.heap) us au
 |[],_,_,r,v=>by cases r;cases v;exact .nil
 |k::au,_,_,⟨x,t,e,aG,aV⟩,v=>by
  subst e;cases v with
  |cons v1 v2 =>
   obtain⟨a,ys,rfl,h,q⟩:=id aG;cases v1;obtain⟨its,bO,⟨o,az,ah,n,hd⟩,_⟩:=I.tuple (iy af h);rw[j0 q]at bO;exact .cons ⟨a,rfl,⟨o,its.toArray,n,az,ah,hd,sV (by simpa using intsAre_of bO)⟩,a,k,rfl,aG⟩ (Io I af aV v2)
theorem Im:∀{ns:List Int}{us:List Value},IntsAre us ns->Paired (λv (k:Int)=>∃t,v=Value.int k t) us ns
 |_,_,.nil=>.nil
 |_,_,.cons n t r=>.cons ⟨t,rfl⟩ (Im r)
theorem IW(I:Inv X pins σ H s)(af:bE G H):∀{ak:List (Int×Value)}{au:List (List Int)},Paired (λe k=>Pv.k9 X.prog X.w s.heap e k/\xn X.K G e.2) ak au->∃xs,bH X.K G (au.map j3) xs/\Vals xs (ak.map (·.2))
 |_,_,.nil=>⟨[],rfl,.nil⟩
 |e::ak,k::au,.cons ⟨⟨b,e1,_,o,items,n,az,ah,hd,ay⟩,g5,cL,ar,r⟩ t=>by
  obtain⟨xs,aG,aV⟩:=IW I af t;rw[e1]at ar;injection ar with ar;subst ar;have zT:cL=k:=by
   obtain⟨a,ys,bI,h,q⟩:=id r;cases bI;obtain⟨its,bO,⟨bt,dG,_,cv,fT⟩,_⟩:=I.tuple (iy af h);rw[az]at dG;cases dG;rw[hd]at fT;injection fT with bR _;rw[j0 q]at bO;have J:=intsAre_of bO;have aa:=CR ay;rw[bR]at aa;exact FW (by simpa using J) (by simpa using aa)
  subst zT;exact⟨V.ref b::xs,⟨_,_,rfl,r,aG⟩,by rw[List.map_cons,e1];exact .cons rfl aV⟩
theorem IX{K:W.Frag}:∀{ak:List (Int×Value)}{au:List Int},Paired Pv.k8 ak au->∃xs,bH K G (au.map ζ.D.int) xs/\Vals xs (ak.map (·.2))
 |_,_,.nil=>⟨[],rfl,.nil⟩
 |e::ak,k::au,.cons ⟨_,t,e1⟩ iz=>by
  obtain⟨xs,aG,aV⟩:=IX (K:=K) iz;exact⟨V.int k::xs,⟨_,_,rfl,rfl,aG⟩,by rw[List.map_cons,e1];exact .cons ⟨t,rfl⟩ aV⟩
end
section
variable{xp:dA}{X:a7}{ao:List Nat}{m:fj}{f:bx->cu D}{e:Expr}{pos pos' p tr:Pos}{x y:Str}{pins:List (Addr×Obj)}{σ:dp}{G H:aD}{s:Shared}
def ZS{ds:List D}{Q:D->Prop}(h:cS (ζ.eR ds) Q E):ζ.h4 ds=true/\(ζ.lD ds).length<=63/\Q (.lst (ζ.hj (ζ.lD ds))):=by
 unfold ζ.eR at h;cases q:(ζ.h4 ds&&decide ((ζ.lD ds).length<=63)) with
 |false=>rw[q]at h;exact h.elim
 |true =>
  rw[q]at h;simp only[abt,abN]at q;exact⟨q.1,q.2,h⟩
def Inv.grown(I:Inv X pins σ H s)(g:Pv.uh s s'):Inv X pins σ H s':=by
 obtain⟨h',g',d',qZ,tq⟩:=s';obtain⟨k,e1,ar,bo⟩:=g;have e1:g'=s.gens:=e1;have ar:d'=s.drawn:=ar;have bo:tq=s.os:=bo;subst e1 ar bo;exact I.kept k
def Jc(cD:X.A.handled=none)(br:X.A.units+64<cLine)(I:Inv X pins σ H s)(af:bE G H)(az:s.heap.get? a=some o)(O:Pv.nX X.w o ak a8 t)(r:bH X.K G ds xs)(v:Vals xs ((Pv.gk X.w a ak a8).toList.map (·.2)))(ja:ζ.h4 ds=true)(gw:ds.length<=63)(k:∀v aR aq,Ext G H aR aq->cT X.K H aR aq .fresh (.lst (ζ.hj ds)) v->Q v aq):wpAny (model X.prog X.w) X.A (call (.builtin "sorted") [.ref a]) (eU X pins σ Q) X.cq s:=by
 have hsz:(Pv.gk X.w a ak a8).size=ak.size:=by have:=(Pv.qF X.w a ak a8).length_eq;simpa using this
 have aA:ak.size<=63:=by
  have J:=v.length;have aa:=r.length;simp only[List.length_map,Array.length_toList]at J;lia
 refine BM (Pv.Ms (A:=X.A.in1) cD az O (by rw[sizeLine_eq];lia) λs' acc g ik=>?_);have e:acc.toList=(Pv.gk X.w a ak a8).toList.map (·.2):=by
  refine Si (P:=λi v=>∃x,(Pv.gk X.w a ak a8)[i]?=some x/\v=x.2) (l:=(Pv.gk X.w a ak a8).toList.map (·.2)) (by simpa[hsz] using ik) λi v aN=>?_
  obtain⟨z,J,aa⟩:=aN;rw[abF,aca,J,aa];rfl
 rw[e];exact BL cD br (Inv.grown I g) af r v (by rw[ja];rfl) gw k
def ZT(ah:X.calm=true)(br:X.A.units+64<cLine)(I:Inv X pins σ H s)(af:bE G H)(cm:View X.K G H d z)(bg:RelV z u)(hw:cS (ζ.er d>>=λxs=>ζ.eR xs) (λd'=>∀v aR aq,Ext G H aR aq->cT X.K H aR aq .fresh d' v->Q v aq) (λ_=>False)):
  wpAny (model X.prog X.w) X.A (call (.type "set") [u]) (λw s1=>wpAny (model X.prog X.w) X.A (call (.builtin "sorted") [w]) (eU X pins σ Q) X.cq s1) X.cq s:=by
 obtain⟨ds,a,ys,rfl,aM,rs,hw⟩:=wm af cm (bz.mp hw);obtain⟨ja,gw,hw⟩:=ZS hw;have cD:X.A.handled=none:=I.ok.hd ah;cases bg;obtain⟨its,bO,T,bu,fO,nl,cK,kB⟩:∃(its:List Value),Vals ys its/\∃T bu fO nl,(T="list"\/T="tuple")/\s.heap.get? a=some { cls:=.type T,dict:=bu,data:=.seq its.toArray nl,slots:=fO }:=by
  rcases aM with aM|aM
  .obtain⟨its,bO,⟨⟨cls,dd,data,bM⟩,n,az,J,_,aJ⟩,_⟩:=I.list aM;simp only at J aJ;subst J aJ;exact⟨its,bO,"list",dd,bM,n,.inl rfl,az⟩
  .obtain⟨its,bO,⟨⟨cls,dd,data,bM⟩,az,J,n,aJ⟩,_⟩:=I.tuple aM;simp only at J aJ;subst J aJ;exact⟨its,bO,"tuple",dd,bM,n,.inr rfl,az⟩
 have keep:∀{h':Heap}{tk:Nat},(∀b o,b<s.heap.objs.size->s.heap.get? b=some o->h'.get? b=some o)->Inv X pins σ H { s with heap:=h',toks:=tk }:=λay=>I.kept λb o q=>ay b o (abC q) q
 unfold ζ.h4 at ja;rw[adq]at ja;rcases ja with h|h
 .obtain⟨ns,rfl⟩:=ints_of h;have bW:IntsAre its ns:=(by rw[j0 rs]at bO;exact intsAre_of bO);rw[bf.rS (f:=ζ.D.int) bf.D3]at gw hw;rw[List.length_map]at gw;refine Pv.Di (Pv.Ss X.prog X.w) cK cD br kB (show Paired (λv (k:Int)=>∃t,v=Value.int k t) its.toArray.toList ns from by simpa using Im bW) (λi aj=>by have:=AL ns (adP aj);lia) λh' tk r bb aB ay=>?_
  obtain⟨o,ak,a8,t,az,hex,hd,fR,_,d6,iq,z3,ow⟩:=bb;obtain⟨c2,aO,ba⟩:=Pv.Paired.perm (Pv.qF X.w s.heap.objs.size ak a8) z3;obtain⟨xs,aG,aV⟩:=IX (K:=X.K) (G:=G) ba;have e:ζ.hj (c2.map ζ.D.int)=ζ.hj ((bf.c8 ns).map ζ.D.int):=by
   rw[bf.me (f:=ζ.D.int) (lt:=bf.ltI) λ_ _=>rfl,bf.me (f:=ζ.D.int) (lt:=bf.ltI) λ_ _=>rfl,IV bf.hc aO aB]
  refine Jc (s:={ s with heap:=h',toks:=tk }) cD br (keep ay) af az ⟨hex,hd,fR,d6,iq⟩ aG aV ?_ ?_ (by rw[e];exact hw)
  .unfold ζ.h4;rw[bf.vM];rfl
  .rw[List.length_map];have:=IU aO aB;lia
 .obtain⟨au,rfl,d1⟩:=wQ h;rw[bf.rS (f:=j3) bf.pU]at gw hw;rw[List.length_map]at gw;refine Pv.Di (Pv.F5 (xn X.K G) X.prog X.w) cK cD br kB (by simpa using Io I af rs bO) (λi aj=>by have:=AL au (adP aj);lia) λh' tk r bb aB ay=>?_
  obtain⟨o,ak,a8,t,az,hex,hd,fR,_,d6,iq,z3,ow⟩:=bb;obtain⟨c2,aO,ba⟩:=Pv.Paired.perm (Pv.qF X.w s.heap.objs.size ak a8) z3;have cx:Inv X pins σ H { s with heap:=h',toks:=tk }:=keep ay;obtain⟨xs,aG,aV⟩:=IW cx af ba;have e:ζ.hj (c2.map j3)=ζ.hj ((bf.c8 au).map j3):=by
   rw[bf.me (f:=j3) (lt:=bf.lexLt) bf.ta,bf.me (f:=j3) (lt:=bf.lexLt) bf.ta,IV bf.kG aO aB]
  refine Jc (s:={ s with heap:=h',toks:=tk }) cD br cx af az ⟨hex,hd,fR,d6,iq⟩ aG aV ?_ ?_ (by rw[e];exact hw)
  .unfold ζ.h4;rw[bf.yJ λc ah=>d1 c ?_,aeg];have:=((aO.trans aB).mem_iff).mp ah;exact List.mem_of_mem_take ((Pv.vP au _ (abz _) c).mp this)
  .rw[List.length_map];have:=IU aO aB;lia
def Xk(ah:X.calm=true)(br:X.A.units+64<cLine)(ai:x="sorted")(aQ:y="set")(nc:eV X x)(sz:X.aZ x=none)(sv:eV X y)(sA:X.aZ y=none)(aw:aS X e (bp xp X ao .view f))(c4:starEach [e] X.env=[(false,eval e X.env)]):
  aS X (.Call (.Name x p) [.Call (.Name y tr) [e] [] pos'] [] pos) (bp xp X ao .fresh λρ=>f ρ>>=λd=>ζ.er d>>=λxs=>ζ.eR xs):=by
 subst ai aQ;intro pins s σ H Q I ⟨G,ρ,af,hw⟩;refine acZ (kF I nc sz (u:=.builtin "sorted") (by kernel_rfl) ?_);refine aen ?_ rfl rfl;show wpAny _ _ (spliced ((false,eval (.Call (.Name "set" tr) [e] [] pos') X.env)::[])) _ _ s;refine ad3 ?_;refine acZ (kF I sv sA (u:=.type "set") (by kernel_rfl) ?_);refine aci (bK (l7 aw c4 pos' pins s σ H (λag H1=>∃v d aL,ag=[v]/\Ext G H aL H1/\View X.K aL H1 d v/\cS (ζ.er d>>=λxs=>ζ.eR xs) (λd'=>∀v aR aq,Ext aL H1 aR aq->cT X.K H1 aR aq .fresh d' v->Q v aq) (λ_=>False)) I
  ⟨G,ρ,af,b8 (bz.mp hw) (λd k v aL H1 aT aG=>?_) λ_ q=>q⟩) λus s1 ⟨ag,H1,a6,aG,aO⟩=>?_) c4 rfl
 .refine⟨v,d,aL,rfl,aT,aG,?_⟩;refine b8 (pk k λc=>?_) (λd' q q1 cn aX b7 aV=>q q1 cn aX (aT.trans b7) (aV.old aT.h)) λ_ q=>q
  intro z;cases hd:ζ.er d with
  |ok ds=>rw[hd]at z;have z:ζ.eR ds=.exc c:=z;unfold ζ.eR at z;split at z<;>cases z
  |exc de=>cases d<;>cases hd
  |bad=>rw[hd]at z;cases z
 .obtain⟨v,d,aL,e1,aT,cm,gg⟩:=aO;subst e1;obtain⟨u,rfl,bg⟩:=vals1 aG;refine bK (ZT ah br a6 aT.sub cm bg gg) λw s2 aa=>?_
  exact ad7 aa
end
section
variable{xp:dA}{X:a7}{ao:List Nat}{m:fj}{f bh c1:bx->cu D}{a b e dH:Expr}{pos p p2 p3 p4:Pos}{pins:List (Addr×Obj)}{σ:dp}{G H:aD}{s:Shared}{x:Str}
def ZK (lo) : ∀ {n : Nat} {l : List Value}, l.length = n -> (∀ (i : Nat) v, l[i]? = some v -> ∃ t, v = .int (lo + i * 1) t) -> Vals ((List.range n).map fun (k : Nat) => V.int (lo + (k : Nat))) l := by
  intro n l aA h
  subst aA
  induction l generalizing lo with
  | nil => exact .nil
  | cons v l aE =>
    rw [List.length_cons, aee, List.map_cons, List.map_map]
    refine .cons ?_ ?_
    · obtain ⟨t, e⟩ := h 0 v rfl
      exact ⟨t, by rw [e]; simp⟩
    · have := aE (lo + 1) fun i w hw => by
        obtain ⟨t, e⟩ := h (i + 1) w (by simpa using hw)
        exact ⟨t, by rw [e]; congr 1; push_cast; lia⟩
      have ar : ((fun (k : Nat) => V.int (lo + (k : Nat))) ∘ Nat.succ) = fun (k : Nat) => V.int (lo + 1 + (k : Nat)) := by
        funext k; simp only [Function.comp]; congr 1; push_cast; lia
      rw [ar]; exact this
theorem H4{K:W.Frag}(lo):∀(l:List Nat),bH K G (l.map λ(k:Nat)=>ζ.D.int (lo+(k:Nat))) (l.map λ(k:Nat)=>V.int (lo+(k:Nat)))
 |[]=>rfl
 |k::l=>⟨_,_,rfl,rfl,H4 lo l⟩
def Kl(aY:eV X "range")(hm:X.aZ "range"=none)(aw:aS X a (bp xp X ao .view bh))(c4:starEach [a] X.env=[(false,eval a X.env)])(I:Inv X pins σ H s)(af:et X.K ao G H ρ σ){Q:List D->Prop}(hw:cS (bh ρ>>=λd=>ζ.gs d>>=λi=>ζ.iU 0 i) Q (λc=>ff xp X c H))(k:∀(s1:Shared)(aL H1:aD)(n:Int)(r:Addr)(t u v:Tok)(h':Heap)(tk:Nat),Inv X pins σ H1 s1->Ext G H aL H1->Q (ζ.eB 0 n)->(-(2 ^ 62)<=n/\n<2 ^ 62/\(ζ.eB 0 n).length<=16777216)->Inv X pins σ H1 { s1 with heap:=h',toks:=tk }->IsRange h' r 0 n 1 t u v->R (.ref r) { s1 with heap:=h',toks:=tk }):
  wpAny (model X.prog X.w) X.A (eval (.Call (.Name "range" p) [a] [] pos) X.env) R X.cq s:=by
 refine Call_ (kF I aY hm boot_range (aci (bK (l7 aw c4 pos pins s σ H (λag H1=>∃n aL,ag=[.int n]/\Ext G H aL H1/\Q (ζ.eB 0 n)/\(-(2 ^ 62)<=n/\n<2 ^ 62/\(ζ.eB 0 n).length<=16777216)) I
  ⟨G,ρ,af,b8 (bz.mp hw) (λd q v aL H1 aT aG=>?_) λ_ q=>q⟩) λus s1 ⟨ag,H1,a6,aG,n,aL,e1,aT,aM,ae⟩=>?_) c4 rfl))
 .have q:=bz.mp q;cases d with
  |int i =>
   obtain⟨⟨_,_,b1,b2⟩,hz,q⟩:=Bt q;exact⟨i,aL,by rw[cT.qD aG],aT,q,b1,b2,hz⟩
  |_=>exact q.elim
 .subst e1;obtain⟨u,rfl,cC⟩:=vals1 aG;obtain⟨t,rfl⟩:=cC;refine call_range_1 ?_;exact k s1 aL H1 n _ _ _ _ _ _ a6 aT aM ae (a6.kept λb o e=>abv _ e) (IsRange.new ..)
def Ib(n):Builtin.Range.rangeSize 0 n 1=((ζ.eB 0 n).length:Int):=by
 unfold ζ.eB;rw[List.length_map,List.length_range,rangeSize_one]
 split<;>lia
def V2(n):(ζ.eB 0 n).length=n.toNat:=by unfold ζ.eB;rw[List.length_map,List.length_range];congr 1;lia
def Ic(h:ItemsOf (λi v=>∃t,v=.int (0+i*1) t) acc (ζ.eB 0 n).length):∃xs,bH X.K G (ζ.eB 0 n) xs/\Vals xs acc.toList:=by
 have aA:acc.toList.length=n.toNat:=by rw[Array.length_toList,h.1,V2]
 have v:=ZK 0 aA λi v aN=>h.2 i v (by simpa using aN)
 have e:ζ.eB 0 n=(List.range n.toNat).map λ(k:Nat)=>ζ.D.int (0+(k:Nat)):=by
  unfold ζ.eB;rw[afn]
 exact⟨_,by rw[e];exact H4 0 _,v⟩
def Xn{y:Str}(ah:X.calm=true)(ai:x="range")(aQ:y="tuple")(nc:eV X x)(sz:X.aZ x=none)(sv:eV X y)(sA:X.aZ y=none)(aw:aS X a (bp xp X ao .view bh))(c4:starEach [a] X.env=[(false,eval a X.env)]):
  aS X (.Call (.Name y p2) [.Call (.Name x p) [a] [] pos] [] p3) (bp xp X ao .val λρ=>(bh ρ>>=λd=>ζ.gs d>>=λi=>ζ.iU 0 i)>>=λds=>.ok (.tup ds)):=by
 subst ai aQ;intro pins s σ H Q I ⟨G,ρ,af,hw⟩;refine acZ (kF I sv sA (u:=.type "tuple") (by kernel_rfl) ?_);refine aci ?_ rfl rfl;show wpAny _ _ (spliced ((false,eval (.Call (.Name "range" p) [a] [] pos) X.env)::[])) _ _ s;refine ad3 ?_;refine Kl nc sz aw c4 I af (bz.mp hw) λs1 aL H1 n r t u v h' tk a6 aT aM ae cx a4=>ad7 ?_
 have cD:X.A.handled=none:=cx.ok.hd ah;have aC:=Ib n;have meets:Meets (Builtin.«tuple.__new__» ⟨[.type "tuple",.ref r],[]⟩) (λA R s'=>A.handled=none/\IsRange s'.heap r 0 n 1 t u v /\
   ∀(s2:Shared)(acc:Array Value),Pv.uh s' s2->ItemsOf (λi v=>∃t,v=.int (0+i*1) t) acc (ζ.eB 0 n).length->R (.ok (.ret (.ref s2.heap.objs.size))) { s2 with heap:=s2.heap.push { cls:=.type "tuple",data:=.seq acc } }) :=
  .of_wp λprog w A R s' h=>by
   obtain⟨J,aa,aJ⟩:=h;have gz:=sub_tuple_self;have aax:=init_tuple_lookup;have aaC:=madeHere_tuple;have cK:s'.TypeIs (.ref r) "range":=⟨_,aa,rfl⟩;have aW:A.in1.handled=none:=J
   wp_walk using adE cK,Pv.Mr (A:=A.in1) aW aa (small_one ⋯ ⋯ ae.1 ae.2.1) aC ae.2.2
   intro s2 acc g ik;have e:acc.toList.toArray=acc:=(by simp);refine abr (m:=Builtin.Tuple.tupleExact acc.toList.toArray) (ab7 (abu ⟨_,rfl,?_⟩) (show acc.toList.toArray.size<=sizeLine by rw[e,ik.1,sizeLine_eq];exact ae.2.2));rw[e];exact aJ s2 acc g ik
 refine callType_new F.called_tuple ∅ (F.typeCall_tuple_1 _) (F.newCall_tuple_1 _) (λobj=>F.args_object_init_2 obj _) F.entry_tuple_new meets ⟨cD,a4,λs2 acc g ik=>⟨⟨_,abD _ rfl,rfl⟩,?_⟩⟩;obtain⟨xs,k1,k2⟩:=Ic (X:=X) (G:=aL) ik;have ef:=Inv.grown cx g;have e:acc=acc.toList.toArray:=by simp
 rw[e];exact G5 ef aT.sub k2 k1 (by rw[k2.length,Array.length_toList,ik.1,sizeLine_eq];exact ae.2.2) λv aR aq b7 aV=>aM v aR aq (aT.trans b7) aV
def W5{y:Str}(ah:X.calm=true)(ai:x="range")(aQ:y="list")(nc:eV X x)(sz:X.aZ x=none)(sv:eV X y)(sA:X.aZ y=none)(aw:aS X a (bp xp X ao .view bh))(c4:starEach [a] X.env=[(false,eval a X.env)]):
  aS X (.Call (.Name y p2) [.Call (.Name x p) [a] [] pos] [] p3) (bp xp X ao .fresh λρ=>(bh ρ>>=λd=>ζ.gs d>>=λi=>ζ.iU 0 i)>>=λds=>.ok (.lst ds)):=by
 subst ai aQ;intro pins s σ H Q I ⟨G,ρ,af,hw⟩;refine acZ (kF I sv sA (u:=.type "list") (by kernel_rfl) ?_);refine aci ?_ rfl rfl;show wpAny _ _ (spliced ((false,eval (.Call (.Name "range" p) [a] [] pos) X.env)::[])) _ _ s;refine ad3 ?_;refine Kl nc sz aw c4 I af (bz.mp hw) λs1 aL H1 n r t u v h' tk a6 aT aM ae cx a4=>ad7 ?_
 have cD:X.A.handled=none:=cx.ok.hd ah;have aC:=Ib n;refine call_list_range cD a4 (small_one ⋯ ⋯ ae.1 ae.2.1) aC ae.2.2 λaa Zi acc c ay aY ik=>?_
 obtain⟨xs,k1,k2⟩:=Ic (X:=X) (G:=aL) ik;have e:acc=acc.toList.toArray:=by simp
 rw[e]at aY;refine⟨.ref h'.objs.size,_,cx.laid (t':=Zi) (o:=.lst xs) ay (abz _) ⟨by rw[k2.length,Array.length_toList,ik.1,sizeLine_eq];exact ae.2.2,acc.toList,c,k2,aY⟩,rfl,?_⟩;have fr:H1 h'.objs.size=none:=cx.fresh;exact aM _ aL _ (aT.trans (Ext.own aT.sub fr λ_ z=>nomatch z)) ⟨_,xs,rfl,dJ,aT.h.free fr,aT.sub.free fr,k1⟩
end
section
variable{X:a7}{pins:List (Addr×Obj)}{σ:dp}{G H:aD}{s:Shared}{h':Heap}
end
def Cs:∀x y:Nat,(x ^^^ y)+2*(x &&& y)=x+y:=by
 intro x
 induction x using Nat.strongRecOn with
 |ind x aE =>
  intro y
  by_cases h:x=0
  .subst h;simp
  .have J:=aE (x / 2) ⋯ (y / 2);have e1:(x ^^^ y) / 2=x / 2 ^^^ y / 2:=afd;have ar:(x &&& y) / 2=x / 2 &&& y / 2:=aeD;have bo:(x ^^^ y)%2=(x%2+y%2)%2:=by
    have:=@ad9 x y;rcases abE x with a|a<;>rcases abE y with b|b<;>rcases abE (x ^^^ y) with c|c<;>simp[a,b,c]at this ⊢
   have eK:(x &&& y)%2=(x%2)*(y%2):=by
    have:=@adH x y;rcases abE x with a|a<;>rcases abE y with b|b<;>rcases abE (x &&& y) with c|c<;>simp[a,b,c]at this ⊢
   rw[<- e1,<- ar]at J;revert J bo eK;generalize x ^^^ y=p;generalize x &&& y=q;intro J bo eK;rcases abE x with a|a<;>rcases abE y with b|b<;>rw[a,b]at bo eK<;>lia
def CN(aj:0<=i)(aI:0<=j):Builtin.bitAnd i j=((i.toNat &&& j.toNat:Nat):Int):=by
 unfold Builtin.bitAnd;rw[decide_eq_true aj,decide_eq_true aI]
def K0(aj:0<=i)(aI:¬0<=j):Builtin.bitAnd i j=i-((i.toNat &&& (-j-1).toNat:Nat):Int):=by
 unfold Builtin.bitAnd;rw[decide_eq_true aj,decide_eq_false aI];rfl
def ZZ(aj:0<=i)(aI:0<=j):Builtin.bitXor i j=((i.toNat ^^^ j.toNat:Nat):Int):=by
 rw[bitXor_and,CN aj aI];have:=Cs i.toNat j.toNat;lia
section
variable{xp:dA}{X:a7}{ao:List Nat}{m:fj}{f bh c1 fc:bx->cu D}{a b c e:Expr}{pos:Pos}{pins:List (Addr×Obj)}{σ:dp}{G H:aD}{s:Shared}
def Np:dt X (binaryOp .BitAnd) (l9 X.K (ζ.eE .and)):=by
 intro pins s σ H x y v u Q I bg bT ⟨G,bj,c9,af,cm,ec,hw⟩;cases bj<;>cases c9<;>first|exact hw.elim|skip
 rename_i i j;have hw:cS (ζ.n1 i j) _ _:=hw;unfold ζ.n1 at hw
 by_cases h:0<=i
 .rw[if_pos h]at hw
  by_cases aa:0<=j
  .rw[if_pos aa]at hw;exact Hk pins s σ H x y v u Q I bg bT ⟨_,_,cm,ec,by dsimp only;rw[CN h aa];exact m2 af hw rfl⟩
  .rw[if_neg aa]at hw;exact Hk pins s σ H x y v u Q I bg bT ⟨_,_,cm,ec,by dsimp only;rw[K0 h aa];exact m2 af hw rfl⟩
 .rw[if_neg h]at hw;exact hw.elim
def Nx:dt X (binaryOp .BitXor) (l9 X.K (ζ.eE .xor)):=by
 intro pins s σ H x y v u Q I bg bT ⟨G,bj,c9,af,cm,ec,hw⟩;cases bj<;>cases c9<;>first|exact hw.elim|skip
 rename_i i j;have hw:cS (ζ.ub i j) _ _:=hw;unfold ζ.ub at hw
 by_cases h:0<=i/\0<=j
 .rw[if_pos h]at hw;exact UI pins s σ H x y v u Q I bg bT ⟨_,_,cm,ec,by dsimp only;rw[ZZ h.1 h.2];exact m2 af hw rfl⟩
 .rw[if_neg h]at hw;exact hw.elim
def IC(ah:eI X c (fZ xp X ao fc))(aw:aS X a (bp xp X ao m bh))(ae:aS X b (bp xp X ao m c1)):aS X (.IfExp c a b pos) (bp xp X ao m λρ=>fc ρ>>=λx=>ζ.eu x>>=λk=>if k then bh ρ else c1 ρ):=by
 intro pins s σ H Q I ⟨G,ρ,af,hw⟩;refine U1 ah aw ae pins s σ H Q I ?_;refine⟨G,ρ,af,bz.mpr (b8 (bz.mp hw) (λd k=>b8 (bz.mp k) (λcL q aL H1 aT=>?_) λ_ q=>q) λ_ q=>q)⟩;cases cL with
 |true=>simp only[acj]at q ⊢;exact⟨aL,ρ,af.ext aT,b8 q (λd d2 v cn aX b7 aV=>d2 v cn aX (aT.trans b7) (aV.old aT.h)) λ_ z=>z.mono aT.h⟩
 |false=>simp only[abx,abS]at q ⊢;exact⟨aL,ρ,af.ext aT,b8 q (λd d2 v cn aX b7 aV=>d2 v cn aX (aT.trans b7) (aV.old aT.h)) λ_ z=>z.mono aT.h⟩
def W2(ah:eI X c (fZ xp X ao fc))(aw:eI X a (fZ xp X ao bh))(ae:eI X b (fZ xp X ao c1)):eI X (.IfExp c a b pos) (fZ xp X ao λρ=>fc ρ>>=λx=>ζ.eu x>>=λk=>if k then bh ρ else c1 ρ):=by
 intro pins s σ H Q I ⟨G,ρ,af,hw⟩;refine PyProof.Rows.isTrue_IfExp (bK (ah pins s σ H (λcL H1=>∃aL,Ext G H aL H1/\cS ((if cL then bh ρ else c1 ρ)>>=ζ.eu) (λb=>∀aR aq,Ext G H aR aq->Q b aq) (λc=>ff xp X c H)) I ⟨G,ρ,af,?_⟩) λd s1 ⟨H1,a6,aL,aT,aO⟩=>?_)
 .refine bz.mpr (b8 (bz.mp (bz.mp hw)) (λd k=>b8 (bz.mp k) (λcL q aL H1 aT=>⟨aL,aT,bz.mpr q⟩) λ_ q=>q) λ_ q=>q)
 .have go:∀{g:bx->cu D}{e:Expr},eI X e (fZ xp X ao g)->cS (g ρ>>=ζ.eu) (λb=>∀aR aq,Ext G H aR aq->Q b aq) (λc=>ff xp X c H)->wpAny (model X.prog X.w) X.A (isTrue e X.env (eval e X.env)) (xt X pins σ Q) X.cq s1:=λ{g e} h q =>
   h pins s1 σ H1 Q a6 ⟨aL,ρ,af.ext aT,b8 q (λb d2 cn aX b7=>d2 cn aX (aT.trans b7)) λ_ z=>z.mono aT.h⟩
  cases d with
  |true=>exact go aw aO
  |false=>exact go ae aO
theorem qm:∀{ds:List D}{k:List Int},ζ.intsOf ds=some k->ds=k.map .int
 |[],_,h=>by cases h;rfl
 |.int i::ds,k,h=>by
  cases q:ζ.intsOf ds with
  |none=>simp[ζ.intsOf,q]at h
  |some cL =>
   simp only[ζ.intsOf,q,Option.map_some,acq]at h;subst h;rw[qm q];rfl
 |.dK::_,_,h=>by cases h
 |.aU _::_,_,h=>by cases h
 |.str _::_,_,h=>by cases h
 |.tup _::_,_,h=>by cases h
 |.lst _::_,_,h=>by cases h
 |.cf _::_,_,h=>by cases h
 |.bN _::_,_,h=>by cases h
 |.hD _::_,_,h=>by cases h
def ints_list(I:Inv X pins σ H s){K:W.Frag}(af:bE G H)(cm:View X.K G H (.lst (ns.map .int)) z)(bg:RelV z u):∃(a:Addr)(xs:Array (Int×Tok)),u=.ref a/\s.heap.IsList a (intItems xs)/\xs.toList.map (·.1)=ns:=by
 obtain⟨a,ys,rfl,aM,rs⟩:=cm;cases bg;rw[j0 rs]at aM;obtain⟨its,bO,cz,hz⟩:=I.list aM;have aj:IntsAre its ns:=intsAre_of bO;obtain⟨xs,ex⟩:=aj.allInts.items;refine⟨a,xs,rfl,by rw[<- ex];exact cz.isList,?_⟩;rw[<- nums_intItems,<- ex];exact aj.numsOf
def Pl(ah:X.calm=true):g0 X (.builtin "sum") (kU X.K m λd=>ζ.qt d>>=λxs=>ζ.kY xs):=by
 intro pins s σ H xs us Q I r ⟨G,z,d,ex,af,cm,hw⟩;subst ex;obtain⟨u,rfl,bg⟩:=vals1 r;cases d with
 |lst ds =>
  have jc:cS (ζ.kY ds) _ _:=hw;clear hw;unfold ζ.kY at jc;cases q:ζ.intsOf ds with
  |none=>rw[q]at jc;exact jc.elim
  |some ns =>
   rw[q]at jc;cases qm q;obtain⟨a,xs,rfl,aA,lJ⟩:=ints_list (K:=X.K) I af cm bg;refine sum_intListG (I.ok.hd ah) aA λh' tk t' ay=>?_
   refine⟨.int ns.sum,H,I.kept ay,⟨t',?_⟩,jc _ G H (Ext.refl af) cT.int⟩;rw[preSum_eq,adi (by simp),lJ]
 |_=>exact hw.elim
theorem CS(g:Nat->Int):∀k,g (argBest (λi j=>decide (g i>g j)) k)=((List.range k).map λi=>g (i+1)).foldl (λm x=>if x>m then x else m) (g 0)
 |0=>rfl
 |k+1=>by
  rw[List.range_succ,List.map_append,List.foldl_append,<- CS g k];show g (if decide (g (k+1)>g (argBest (λi j=>decide (g i>g j)) k))=true then k+1 else argBest (λi j=>decide (g i>g j)) k)=_;simp only[List.map_cons,adF,List.foldl_cons,List.foldl_nil]
  by_cases h:g (k+1)>g (argBest (λi j=>decide (g i>g j)) k)
  .rw[if_pos (decide_eq_true h),if_pos h]
  .rw[if_neg (by simpa using h),if_neg h]
def Uh(xs)(n)(ns)(h:xs.toList.map (·.1)=n::ns):numAt xs 0=n/\(List.range (xs.size-1)).map (λi=>numAt xs (i+1))=ns:=by
 have aY:∀i,numAt xs i=((n::ns)[i]?).getD 0:=λi=>by
  unfold numAt;rw[<- h,abF,aca]
 have hz:xs.size=ns.length+1:=by
  have:=acp List.length h;simpa using this
 refine⟨by rw[aY];rfl,?_⟩;rw[hz,Nat.add_sub_cancel];apply ac9;intro i;rw[abF]
 by_cases aj:i<ns.length
 .rw[acW aj,Option.map_some,aY,List.getElem?_cons_succ,aby aj];rfl
 .rw[abM (by simpa using aj),abM (by simpa using aj)];rfl
def Pf(ah:X.calm=true):g0 X (.builtin "max") (kU X.K m λd=>ζ.qt d>>=λxs=>ζ.kN xs):=by
 intro pins s σ H xs us Q I r ⟨G,z,d,ex,af,cm,hw⟩;subst ex;obtain⟨u,rfl,bg⟩:=vals1 r;cases d with
 |lst ds =>
  have jc:cS (ζ.kN ds) _ _:=hw;clear hw;unfold ζ.kN at jc;cases q:ζ.intsOf ds with
  |none=>rw[q]at jc;exact jc.elim
  |some ns =>
   rw[q]at jc;cases ns with
   |nil=>exact jc.elim
   |cons n ns =>
    cases qm q;obtain⟨a,xs,rfl,aA,lJ⟩:=ints_list (K:=X.K) I af cm bg;obtain⟨e0,e1⟩:=Uh xs n ns lJ;have hz:0<xs.size:=by
     have:=acp List.length lJ;simp at this;lia
    refine max_intList (I.ok.hd ah) aA hz λv h' tk aN ay=>?_
    obtain⟨t,rfl⟩:=intItems_at aN;refine⟨.int (ns.foldl (λm x=>if x>m then x else m) n),H,I.kept ay,⟨t,?_⟩,jc _ G H (Ext.refl af) cT.int⟩;rw[CS (numAt xs),e0,e1]
 |_=>exact hw.elim
end
section
variable{xp:dA}{X:a7}{ao:List Nat}{m:fj}{f:bx->cu D}{e dH iter:Expr}{pos p1 p4 ap ew:Pos}{i:Nat}{x n:Str}{tY:List Stmt}
def Dq{o:Option (Option D)}(h:cS (ζ.jI o) Q E):∃ds,o=some (some (.lst ds))/\Q ():=by
 cases o with
 |none=>exact h.elim
 |some o =>
  cases o with
  |none=>exact h.elim
  |some d =>
   cases d with
   |lst ds=>exact⟨ds,rfl,h⟩
   |_=>exact h.elim
def zI(c4:starEach [e] X.env=[(false,eval e X.env)]):((backTo ew (starEach [e] X.env)).all (λx=>!x.1)&&(backToKw ew (keywordEach [] X.env)).all (λx=>x.1.isSome)&&decide ([e].length+([]:List Keyword).length+(if ([]:List Keyword).isEmpty then 0 else 1)<30))=true:=by
 rw[c4];rfl
def WE(hm:i∈ao)(aC:n="append")(aP:X.N[i]?=some x)(aN:ft X.env.scope x)(J:(x==("__debug__":Str))=false)(aa:(x==("__classdict__":Str))=false)(jM:(ap.endLine==ew.line)=true)(he:aS X e (bp xp X ao .val f))(c4:starEach [e] X.env=[(false,eval e X.env)]):
  dz X (.Expr (.Call (.Attribute (.Name x p1) n ap) [e] [] ew) p4) (dm xp X ao λρ=>ζ.jI ρ[i]?>>=λ_=>f ρ>>=λd=>ζ.ru ρ[i]? d>>=λy=>.ok (.bJ (ρ.set i (some y)))):=by
 subst aC;intro pins s σ H T I ⟨bw,bc,G,ρ,ae,hw⟩;refine Bh (A7 adC PySem.F.slot_list_append PySem.F.type_list_append GV (gU aP aN J aa) (l7 he c4) rfl (zI c4) jM c4 rfl) rfl pins s σ H T I ?_;obtain⟨ds,q,hw⟩:=Dq (bz.mp hw);obtain⟨a,o,k1,k2,k3,xs,rfl,cF⟩:=ae.b0.lst i (.lst ds) q hm rfl;refine⟨_,k1,.inl ⟨rfl,xs,ej.of k2⟩,?_⟩;refine⟨G,ρ,ae.b0,b8 (bz.mp hw) (λd k v aL H1 aT aG=>?_) λ_ z=>z.mono ae.ext.h⟩;have ha:=ae.step aT;rw[q,ζ.ux]at k;have k:=bz.mp k
 by_cases hz:ds.length<ζ.SZ
 .rw[if_pos hz]at k;have si:H1 a=some (.lst xs):=aT.h _ _ k2;have sh:aL a=none:=aT.new a k3 (by rw[k2];exact λz=>nomatch z);refine⟨a,xs,v,rfl,rfl,si,by rw[<- cF.length,<- rp];exact hz,?_⟩;exact k σ aL _ (ha.write (d:=.lst ds) (e:=.lst (ds++[d])) hm q rfl rfl k1 sh ⟨_,rfl,(cF.mono aT.g).snoc aG⟩)
 .rw[if_neg hz]at k;exact k.elim
noncomputable def hH(aL bc:aD):aD:=λa=>match aL a with
 |some o=>some o
 |none=>bc a
def nh(h:aL a=some o):hH aL bc a=some o:=by unfold hH;rw[h]
def jd(h:aL a=none):hH aL bc a=bc a:=by unfold hH;rw[h]
variable{K:W.Frag}{bw bc aL H1 G H:aD}{ρ:bx}{σ:dp}
def IJ(x:Ext bw bc aL H1):bE bc (hH aL bc):=λa o h=>by
 cases q:aL a with
 |none=>rw[jd q];exact h
 |some bt =>
  rw[nh q];have e1:=x.sub a bt q;have ar:=x.h a o h;rw[e1]at ar;exact ar
def OZ(x:Ext bw bc aL H1)(y:Ext bw bc G H)(s:bE aL G):Ext aL (hH aL bc) G H where
 g:=s
 h:=λa o e=>by
  cases q:aL a with
  |some bt=>rw[nh q]at e;cases e;exact y.sub a o (s a o q)
  |none=>rw[jd q]at e;exact y.h a o e
 sub:=y.sub
 new:=λa e1 ar=>by
  rw[jd e1]at ar;refine y.new a ?_ ar;cases q:bw a with
  |none=>rfl
  |some o=>rw[x.g a o q]at e1;cases e1
 dT:=λb xs z=>(y.dT b xs z).elim (λw=>.inl (by
  cases q:aL b with
  |none=>rw[jd q];exact w
  |some o=>rw[nh q];rw[y.sub b o (s b o q)]at z;exact z)) .inr
def Eo(x:Ext bw bc aL H1)(y:Ext aL (hH aL bc) G H):Ext bw bc G H where
 g:=x.g.trans y.g
 h:=(IJ x).trans y.h
 sub:=y.sub
 new:=λa e1 ar=>by
  have q:=x.new a e1 ar;exact y.new a q (by rw[jd q];exact ar)
 dT:=λb xs z=>(y.dT b xs z).elim (λw=>by
  cases q:aL b with
  |none=>rw[jd q]at w;exact .inl w
  |some o=>rw[nh q]at w;exact .inr (y.g _ _ (q.trans w))) .inr
def cc.re(x:Ext bw bc aL H1)(h:cc K ao bw bc G H ρ σ)(s:bE aL G):cc K ao aL (hH aL bc) G H ρ σ:=by
 refine⟨h.b0,OZ x h.ext s,λi ds a q fo aj e=>?_⟩;obtain⟨b,xs,k1,k2,k3,cF⟩:=h.b0.lst i ds q aj fo;rw[k1]at e;cases e;have:aL a=none:=by
  cases z:aL a with
  |none=>rfl
  |some o=>rw[s a o z]at k3;cases k3
 rw[jd this];exact h.own i ds a q fo aj k1
def cc.back(x:Ext bw bc aL H1)(h:cc K ao aL (hH aL bc) G H ρ σ):cc K ao bw bc G H ρ σ:=by
 refine⟨h.b0,Eo x h.ext,λi ds a q fo aj e=>?_⟩;have:=h.own i ds a q fo aj e;cases z:aL a with
 |some o=>rw[nh z]at this;cases this
 |none=>rw[jd z]at this;exact this
theorem cc.IS:∀{ts:List Nat}{ws:List D}{ag:List V}{ρ:bx}{σ:dp},(∀t∈ts,t∉ao)->cc K ao bw bc G H ρ σ->bH K G ws ag->cc K ao bw bc G H (ζ.mc ts (ws.map some) ρ) (nG ts ag σ)
 |[],ws,ag,ρ,σ,_,h,r=>by simpa[ζ.mc,nG] using h
 |t::ts,[],ag,ρ,σ,_,h,r=>by cases r;simpa[ζ.mc,nG] using h
 |t::ts,w::ws,ag,ρ,σ,aH,h,⟨v,r,e,aG,aV⟩=>by
  subst e;exact cc.IS (ts:=ts) (λz hz=>aH z (List.mem_cons_of_mem _ hz)) (h.tS (aH t List.mem_cons_self) aG) aV
def PH(g:D->bx->cu ζ.eH)(d:D)(ds:List D)(ρ:bx):ζ.forL g (d::ds) ρ=g d ρ>>=λr=>match r with
  |.bJ bP=>ζ.forL g ds bP
  |.cI x=>.ok (.cI x):=rfl
def WX(aB:PassesOwn (model X.prog X.w) X.A X.env X.cq)(ah:X.calm=true)(RH:∀t∈ts,t∉ao)(aj:ht X dH iter (j4 xp X ao .val mY))(aY:nV X dH (zc X.K k ts))(ae:fk X tY (dm xp X ao zf))(af:∀z,foldedSetIterable iter X.env z=pure z):dz X (.For dH iter tY [] pos) (dm xp X ao λρ=>mY ρ>>=λds=>ζ.forL (λd bP=>ζ.gu k d>>=λag=>zf (ζ.mc ts ag bP)) ds ρ):=by
 intro pins s σ H T I ⟨bw,bc,G,ρ,il,hw⟩;refine VD aB ah aj aY ae af pins s σ H T I ?_;refine⟨G,ρ,il.b0,b8 (bz.mp hw) (λds h3 dI aL H1 aT lR hz=>?_) λ_ q=>q.mono il.ext.h⟩;have w5:Ext bw bc aL H1:=il.ext.trans aT;have XG:=IJ w5;refine⟨λj m cE aq=>j+m=ds.length/\∃aR bP,cc X.K ao aL (hH aL bc) aR aq bP cE/\cS (ζ.forL (λd bP=>ζ.gu k d>>=λag=>zf (ζ.mc ts ag bP)) (ds.drop j) bP) (ij X.K ao bw bc T) (λc=>ff xp X c bc),
  ⟨ds.length,⋯,aL,ρ,cc.re w5 (il.step aT) (bE.refl _),by simpa using h3⟩,?_⟩
 rintro j m cE aq ⟨aI,aR,bP,cQ,gg⟩;have om:ro .val aL H1 aR aq:=⟨cQ.ext.g,cQ.b0.sub⟩
 by_cases bS:j<ds.length
 .refine .inr ⟨lR.go j aR aq om bS,λnQ aX=>(j+1)+(m-1)=ds.length/\∃cn jt,cc X.K ao aL (hH aL bc) cn aX jt nQ/\cS (ζ.forL (λd bP=>ζ.gu k d>>=λag=>zf (ζ.mc ts ag bP)) (ds.drop (j+1)) jt) (ij X.K ao bw bc T) (λc=>ff xp X c bc),
   λnQ aX aa=>⟨m-1,⋯,aa⟩,λv aX aQ=>?_⟩
  have hd:ds[j]?=some ds[j]:=aby bS;obtain⟨cn,b7,dM⟩:=lR.k7 j aR aq v aX ds[j] om cQ.b0.sub hd aQ;have Bz:=cQ.step b7;have NX:ds.drop j=ds[j]::ds.drop (j+1):=ado bS;rw[NX,PH]at gg;have gg:=bz.mp (bz.mp gg);refine⟨cn,ds[j],b7.sub,dM,?_⟩;cases q:ζ.gu k ds[j] with
  |bad=>rw[q]at gg;exact gg
  |exc c =>
   exfalso;cases k with
   |zero=>cases q
   |succ k =>
    cases fT:ds[j] with
    |tup zs =>
     rw[fT]at q;have Qr:ζ.gu (k+1) (.tup zs)=if zs.length=k+1 then .ok (zs.map some) else .bad:=rfl;rw[Qr]at q
     split at q<;>cases q
    |_=>rw[fT]at q;cases q
  |ok os =>
   rw[q]at gg;intro ws ag yQ WA;subst yQ;refine⟨aL,hH aL bc,cn,_,cc.IS RH Bz WA,b8 gg (λr F9=>?_) λc z=>z.mono XG⟩;cases r with
   |bJ jt=>exact λju ke bq Xq=>⟨⋯,ke,jt,Xq,F9⟩
   |cI d=>exact λwU ke bq iB c5=>F9 wU ke bq (Eo w5 iB) c5
 .have lH:j=ds.length:=⋯;subst lH;refine .inl ⟨lR.stop aR aq om,?_⟩;rw[List.drop_length]at gg;exact gg cE aR aq (cc.back w5 cQ)
end
def Ah(a k:List Int):decide (a.map (Sum.inl (β:=Str))=k.map Sum.inl)=decide (a=k):=by
 by_cases h:a=k
 .simp[h]
 .have:a.map (Sum.inl (β:=Str))≠k.map Sum.inl:=λz=>h ((List.map_inj_right (λa b=>aeU)).mp z)
  simp[h,this]
def ND(ax)(k):iA (g6 ax) (k.map Sum.inl)=(ζ.ph ax k).map V.int:=by
 induction ax with
 |nil=>rfl
 |cons p ax aE =>
  unfold iA ζ.ph g6 at aE ⊢;rw[List.map_cons,List.find?_cons,List.find?_cons];dsimp only;rw[Ah]
  by_cases h:p.1=k
  .simp[h]
  .simp only[decide_eq_false h];exact aE
def NC(ax)(k)(n):putK (g6 ax) (k.map Sum.inl) (V.int n)=g6 (ζ.putN ax k n):=by
 have e1:((g6 ax).any λdf=>decide (df.1=k.map Sum.inl))=ax.any λp=>decide (p.1=k):=by
  induction ax with
  |nil=>rfl
  |cons p ax aE=>unfold g6 at aE ⊢;rw[List.map_cons,List.any_cons,List.any_cons,aE,Ah]
 have ar:(g6 ax).map (λdf=>if df.1=k.map Sum.inl then(df.1,V.int n) else df)=g6 (ax.map λp=>if p.1=k then(p.1,n) else p):=by
  unfold g6;rw[List.map_map,List.map_map];refine abO λp _=>?_
  have:=Ah p.1 k
  by_cases h:p.1=k
  .simp[h]
  .have h':¬p.1.map (Sum.inl (β:=Str))=k.map Sum.inl:=(by simpa[h] using this);simp[h,h']
 unfold putK ζ.putN;rw[e1]
 split
 .exact ar
 .unfold g6;rw[List.map_append];rfl
def F6(k:List Int):(k.map (Sum.inl (β:=Str))).map dq=k.map V.int:=by rw[List.map_map];rfl
def rR{o:Option (Option D)}(h:ζ.km o=some ax):o=some (some (.cf ax)):=by
 unfold ζ.km at h
 split at h
 .cases h;rfl
 .cases h
def uQ{o:Option (Option D)}(h:ζ.i5 o=some ax):o=some (some (.bN ax)):=by
 unfold ζ.i5 at h
 split at h
 .cases h;rfl
 .cases h
def mJ{α:Type}{f:D->Option α}{o:Option (Option D)}{a:α}(h:ζ.fu f o=some a):∃d,o=some (some d)/\f d=some a:=by
 unfold ζ.fu at h
 split at h
 .exact⟨_,rfl,h⟩
 .cases h
def sS{d:D}(h:ζ.intD d=some i):d=.int i:=by
 unfold ζ.intD at h
 split at h
 .cases h;rfl
 .cases h
def JP{d:D}(h:ζ.j5 d=some k):d=.tup (k.map .int):=by
 unfold ζ.j5 at h
 split at h
 .rw[qm h]
 .cases h
def Ik{d:D}(h:ζ.rowOf d=some r):d=ζ.o4 r:=by
 unfold ζ.rowOf at h
 split at h
 .split at h
  .rename_i e;cases h;rw[qm e];rfl
  .cases h
 .cases h
theorem ints_rep{K:W.Frag}:∀ns:List Int,bH K G (ns.map ζ.D.int) (ns.map V.int)
 |[]=>rfl
 |n::ns=>⟨.int n,ns.map V.int,rfl,rfl,ints_rep ns⟩
section
variable{G:aD}
end
section
variable{G:aD}
theorem eJ.val:∀{ax:List (Int×Int×Int)}{ys:List (Key×V)},eJ G ax ys->∀{k:Int}{r:Int×Int},ζ.nN ax k=some r->∃b,iA ys (Sum.inl k)=some (.ref b)/\G b=some (.tup [.int r.1,.int r.2])
 |[],_,_,k,r,e=>by cases e
 |p::ax,_,⟨b,t,e,J,aa⟩,k,r,q=>by
  subst e;unfold ζ.nN at q;unfold iA;rw[List.find?_cons]at q ⊢
  by_cases c:p.1=k
  .simp only[c,decide_true,Option.map_some,acq]at q ⊢;subst q;exact⟨b,rfl,J⟩
  .have de:¬(Sum.inl p.1:Key)=Sum.inl k:=λz=>c (aeU z)
   simp only[c,de,decide_false]at q ⊢;exact eJ.val aa q
theorem eJ.any:∀{ax:List (Int×Int×Int)}{ys:List (Key×V)},eJ G ax ys->∀k:Int,(ys.any λdf=>decide (df.1=Sum.inl k))=ax.any λp=>decide (p.1=k)
 |[],_,h,k=>by cases h;rfl
 |p::ax,_,⟨b,t,e,J,aa⟩,k=>by
  subst e;rw[List.any_cons,List.any_cons,eJ.any aa k];congr 1
  by_cases c:p.1=k
  .simp[c]
  .have de:¬(Sum.inl p.1:Key)=Sum.inl k:=λz=>c (aeU z)
   simp[c,de]
theorem eJ.map(ae:G b=some (.tup [.int r.1,.int r.2])):∀{ax:List (Int×Int×Int)}{ys:List (Key×V)},eJ G ax ys->eJ G (ax.map λp=>if p.1=k then(p.1,r) else p) (ys.map λdf=>if df.1=Sum.inl k then(df.1,.ref b) else df)
 |[],_,h=>by cases h;rfl
 |p::ax,_,⟨g5,t,e,J,aa⟩=>by
  subst e;rw[List.map_cons,List.map_cons]
  by_cases c:p.1=k
  .rw[if_pos c,if_pos (by rw[c])];exact⟨b,_,rfl,ae,eJ.map ae aa⟩
  .rw[if_neg c,if_neg λz=>c (aeU z)];exact⟨g5,_,rfl,J,eJ.map ae aa⟩
theorem eJ.snoc(ae:G b=some (.tup [.int q.2.1,.int q.2.2])):∀{ax:List (Int×Int×Int)}{ys:List (Key×V)},eJ G ax ys->eJ G (ax++[q]) (ys++[(Sum.inl q.1,.ref b)])
 |[],_,h=>by cases h;exact⟨b,[],rfl,ae,rfl⟩
 |p::ax,_,⟨g5,t,e,J,aa⟩=>by subst e;exact⟨g5,_,rfl,J,eJ.snoc ae aa⟩
def eJ.put(h:eJ G ax ys)(k)(ae:G b=some (.tup [.int r.1,.int r.2])):eJ G (ζ.l8 ax k r) (putK ys (Sum.inl k) (.ref b)):=by
 unfold ζ.l8 putK;rw[h.any k]
 split
 .exact h.map ae
 .exact h.snoc (q:=(k,r)) ae
theorem eJ.len:∀{ax:List (Int×Int×Int)}{ys:List (Key×V)},eJ G ax ys->ys.length=ax.length
 |[],_,h=>by cases h;rfl
 |p::ax,_,⟨b,t,e,J,aa⟩=>by subst e;rw[List.length_cons,List.length_cons,eJ.len aa]
def Il{K:W.Frag}(h:Rep K G (ζ.o4 r) v):∃b,v=.ref b/\G b=some (.tup [.int r.1,.int r.2]):=by
 obtain⟨b,xs,e,J,aa⟩:=h;rw[j0 (ns:=[r.1,r.2]) aa]at J;exact⟨b,e,J⟩
def Wv{K:W.Frag}(h:G b=some (.tup [.int r.1,.int r.2])):Rep K G (ζ.o4 r) (.ref b):=⟨b,_,rfl,h,.int r.1,_,rfl,rfl,.int r.2,_,rfl,rfl,rfl⟩
end
section
variable{X:a7}{pins:List (Addr×Obj)}{σ:dp}{G H:aD}{s:Shared}
def freeze(I:Inv X pins σ H s)(bI:H a=some u)(br:(∃ys,u=.dY ys)\/∃ys,u=.ey ys):∃bu,Inv X pins σ (upd H a (.eh bu u)) s:=by
 obtain⟨bu,az,_⟩:=V7 I (a:=a) (by rcases br with⟨ys,rfl⟩|⟨ys,rfl⟩;exact .inl ⟨ys,.inl bI⟩;exact .inr ⟨ys,.inl bI⟩);have ne:∀{b:Addr},H b=none->b≠a:=λq z=>by rw[z,bI]at q;cases q
 have nt:∀{b:Addr}{v:e4},H b=some v->(∀ys,v≠.dY ys)->(∀ys,v≠.ey ys)->b≠a:=λq J aa z=>by
  rw[z,bI]at q;cases q;rcases br with⟨ys,e⟩|⟨ys,e⟩
  .exact J ys e
  .exact aa ys e
 have jn:∀{b:Addr}{v:e4},d7 X.prog X.w H s.heap b v->d7 X.prog X.w (upd H a (.eh bu u)) s.heap b v:=λq=>q.jn (λ_ _ _ z=>z)
  (λc z=>by rw[dc (nt z (λ_ w=>nomatch w) λ_ w=>nomatch w)];exact z) λc xs z=>by rw[dc (nt z (λ_ w=>nomatch w) λ_ w=>nomatch w)];exact z
 refine⟨bu,I.ok,I.os,I.bare,⟨I.base.keep,I.base.slot,λb o e n ai=>?_,I.base.there,λb xs e=>?_,λb o v e=>?_,λb a3 e=>?_⟩,I.loc,I.cell,?_,λx c e=>?_,λp aB=>?_,λb v e=>?_,I.len⟩
 .have q:=I.base.free b o e n ai;rw[dc (ne q)];exact q
 .have q:=I.base.jq b xs e;rw[dc (nt q (λ_ w=>nomatch w) λ_ w=>nomatch w)];exact q
 .have q:=I.base.iH b o v e;rw[dc (nt q (λ_ w=>nomatch w) λ_ w=>nomatch w)];exact q
 .obtain⟨more,q⟩:=I.base.jo b a3 e;exact⟨more,by rw[dc (nt q (λ_ w=>nomatch w) λ_ w=>nomatch w)];exact q⟩
 .rw[dc (ne I.free)];exact I.free
 .rw[dc (ne (I.hE x c e))];exact I.hE x c e
 .obtain⟨bY,bV,dV⟩:=I.pin p aB;exact⟨bY,by rw[dc (ne bV)];exact bV,dV⟩
 .by_cases c:b=a
  .subst c;rw[dJ]at e;cases e;exact⟨az,jn (I.bL b u bI)⟩
  .rw[dc c]at e;exact jn (I.bL b v e)
def A8(h:aS X e eT):aS X e (λσ H Q=>eT σ H λv H1=>∃a u,v=.ref a/\H1 a=some u/\((∃ys,u=.dY ys)\/∃ys,u=.ey ys)/\∀bu,Q v (upd H1 a (.eh bu u))):=by
 intro pins s σ H Q I q;refine acg (h pins s σ H _ I q) (λw s1 ⟨v,H1,a6,bO,a,u,e,bI,br,k⟩=>?_) λ_ _ z=>z
 obtain⟨bu,cx⟩:=freeze a6 bI br;exact⟨v,_,cx,bO,k bu⟩
end
section
variable{xp:dA}{X:a7}{ao:List Nat}{m:fj}{f:bx->cu D}{val:Expr}{pos p1 p2 p3 p4 nE:Pos}{i j:Nat}{x y:Str}{pins:List (Addr×Obj)}{σ:dp}{G H:aD}{s:Shared}{ρ:bx}
def OW(af:bE G H)(aB:H a=none)(az:∀xs,bt≠.tup xs):Ext G H (upd G a bt) (upd (upd H a o) a bt):=by rw[Cb];exact Ext.put af aB
def WS(hm:i∈ao)(aP:X.N.Nodup)(aj:X.N[i]?=some x)(ai:Loc X.env.scope x)(hf:X.fn x=true\/X.env.scope.names.lookup x=some .local):dz X (.Assign [.Name x p1] (.Dict [] [] nE) pos) (dm xp X ao λρ=>.ok (.bJ (ρ.set i (some (.cf []))))):=by
 intro pins s σ H T I ⟨bw,bc,G,ρ,ae,hw⟩;refine v9 aP aj ai UZ rfl hf pins s σ H T I ?_;intro p aB;exact hw _ G _ (ae.tR (Ext.own ae.b0.sub aB λ_ z=>nomatch z) hm rfl dJ aB (ae.b0.sub.free aB) rfl)
def WT(hm:i∈ao)(aP:X.N.Nodup)(aj:X.N[i]?=some x)(ai:Loc X.env.scope x)(hf:X.fn x=true\/X.env.scope.names.lookup x=some .local):dz X (.Assign [.Name x p1] (.Dict [] [] nE) pos) (dm xp X ao λρ=>.ok (.bJ (ρ.set i (some (.bN []))))):=by
 intro pins s σ H T I ⟨bw,bc,G,ρ,ae,hw⟩;refine v9 aP aj ai Ht rfl hf pins s σ H T I ?_;intro p aB;exact hw _ G _ (ae.tR (Ext.own ae.b0.sub aB λ_ z=>nomatch z) hm rfl dJ aB (ae.b0.sub.free aB) ⟨[],rfl,rfl⟩)
def WU:aS X (.Dict [] [] nE) (bp xp X ao .val λ_=>.ok (.bN [])):=by
 intro pins s σ H Q I ⟨G,ρ,af,hw⟩;refine A8 Ht pins s σ H Q I λp aB=>⟨p,_,rfl,dJ,.inl ⟨_,rfl⟩,λbu=>?_⟩
 exact hw (.ref p) _ _ (OW af.sub aB λ_ z=>nomatch z) ⟨p,bu,[],rfl,dJ,rfl⟩
def I8(af:et X.K ao G H ρ σ)(hm:j∉ao){k:List Int}(h:ρ[j]?=some (some (.tup (k.map .int)))):∃b,σ[j]?=some (some (V.ref b))/\H b=some (.tup ((k.map (Sum.inl (β:=Str))).map dq)):=by
 obtain⟨v,J,b,ys,rfl,aa,aJ⟩:=af.val j _ h hm;rw[j0 aJ]at aa;exact⟨b,J,by rw[F6];exact af.sub _ _ aa⟩
def WR(aj:i∉ao)(aI:j∉ao)(aP:X.N[i]?=some x)(aN:ft X.env.scope x)(J:(x==("__debug__":Str))=false)(aa:(x==("__classdict__":Str))=false)(m5:X.N[j]?=some y)(oC:ft X.env.scope y)(oj:(y==("__debug__":Str))=false)(iJ:(y==("__classdict__":Str))=false):aS X (.Dict [some (.Name x p1)] [.Name y p2] pos) (bp xp X ao .val λρ=>ζ.rU ρ[i]? ρ[j]?):=by
 intro pins s σ H Q I ⟨G,ρ,af,hw⟩;dsimp only at hw;unfold ζ.rU at hw;cases e1:ζ.fu ζ.intD ρ[i]? with
 |none=>rw[e1]at hw;exact hw.elim
 |some k =>
  cases ar:ζ.fu ζ.rowOf ρ[j]? with
  |none=>rw[e1,ar]at hw;exact hw.elim
  |some r =>
   rw[e1,ar]at hw;obtain⟨bR,aO,ba⟩:=mJ e1;obtain⟨b3,b6,dx⟩:=mJ ar;cases sS ba;cases Ik dx;obtain⟨v1,k1,bY⟩:=af.val i _ aO aj;have bY:v1=.int k:=bY;subst bY;obtain⟨v2,k2,bV⟩:=af.val j _ b6 aI;obtain⟨b,rfl,ae⟩:=Il bV;refine A8 (UY (Vu (gU aP aN J aa) (gU m5 oC oj iJ) Vv) rfl rfl (λz=>nomatch z) (by simp)) pins s σ H Q I λp aB=>?_
   refine⟨_,k1,_,k2,dJ,[(Sum.inl k,.ref b)],rfl,by simp,p,_,rfl,dJ,.inl ⟨_,rfl⟩,λbu=>?_⟩;have ks:=af.sub.free aB;refine hw (.ref p) (upd G p (.eh bu (.dY (qw [] [(Sum.inl k,.ref b)])))) _ (by rw[Cb,Cb];exact Ext.put af.sub aB) ⟨p,bu,_,rfl,dJ,b,[],rfl,fY ks _ _ ae,rfl⟩
def WQ(br:X.A.units+64<cLine)(aI:j∉ao)(aP:X.N[i]?=some x)(aN:ft X.env.scope x)(J:(x==("__debug__":Str))=false)(aa:(x==("__classdict__":Str))=false)(m5:X.N[j]?=some y)(oC:ft X.env.scope y)(oj:(y==("__debug__":Str))=false)(iJ:(y==("__classdict__":Str))=false):aS X (.Subscript (.Name x p1) (.Name y p2) pos) (bp xp X ao m λρ=>ζ.lF ρ[i]? ρ[j]?):=by
 intro pins s σ H Q I ⟨G,ρ,af,hw⟩;refine UX ⋯ (gU aP aN J aa) (gU m5 oC oj iJ) (λ_ _=>rfl) pins s σ H Q I ?_;dsimp only at hw;have Sy:∀ax k,ζ.km ρ[i]?=some ax->ζ.fu ζ.j5 ρ[j]?=some k->BX (nL i) (nL j) σ H Q:=λax k e1 ar=>by
  rw[ζ.lF,e1,ar]at hw;dsimp only at hw;obtain⟨v,k1,a,rfl,k2⟩:=af.view (rR e1);obtain⟨b3,b6,dx⟩:=mJ ar;cases JP dx;obtain⟨b,cF,k5⟩:=I8 af aI b6;cases bo:ζ.ph ax k with
  |none=>rw[bo]at hw;exact hw.elim
  |some n =>
   rw[bo]at hw;refine⟨_,k1,_,cF,a,.int n,rfl,.inr ⟨_,_,b,k2,rfl,k5,by rw[ND,bo];rfl⟩,hw _ G H (Ext.refl af.sub) (by cases m<;>rfl)⟩
 have Sv:∀ax k,ζ.i5 ρ[i]?=some ax->ζ.fu ζ.intD ρ[j]?=some k->cS (match ζ.nN ax k with|some r=>.ok (ζ.o4 r)|none=>.bad) (λd=>∀v aR aq,Ext G H aR aq->cT X.K H aR aq m d v->Q v aq) (λc=>ff xp X c H)->BX (nL i) (nL j) σ H Q:=λax k e1 ar hw=>by
  obtain⟨v,k1,a,ys,rfl,k2,k3⟩:=af.view (uQ e1);obtain⟨b3,b6,dx⟩:=mJ ar;cases sS dx;obtain⟨v2,cF,bV⟩:=af.val j _ b6 aI;have bV:v2=.int k:=bV;subst bV;cases bo:ζ.nN ax k with
  |none=>rw[bo]at hw;exact hw.elim
  |some r =>
   rw[bo]at hw;obtain⟨b,g1,g2⟩:=k3.val bo;refine⟨_,k1,_,cF,a,.ref b,rfl,.inl ⟨ys,Sum.inl k,k2,rfl,g1.symm⟩,hw _ G H (Ext.refl af.sub) ?_⟩;have:=Wv (K:=X.K) g2;cases m<;>exact this
 cases e1:ζ.km ρ[i]? with
 |some ax =>
  cases ar:ζ.fu ζ.j5 ρ[j]? with
  |some k=>exact Sy ax k e1 ar
  |none =>
   rw[ζ.lF,e1,ar]at hw;have:ζ.i5 ρ[i]?=none:=(by rw[rR e1];rfl);rw[this]at hw;exact hw.elim
 |none =>
  rw[ζ.lF,e1]at hw;dsimp only at hw;cases bo:ζ.i5 ρ[i]? with
  |none=>rw[bo]at hw;exact hw.elim
  |some ax =>
   cases eK:ζ.fu ζ.intD ρ[j]? with
   |none=>rw[bo,eK]at hw;exact hw.elim
   |some k=>rw[bo,eK]at hw;exact Sv ax k bo eK hw
def WV(br:X.A.units+64<cLine)(hm:i∈ao)(aI:j∉ao)(aP:X.N[i]?=some x)(aN:ft X.env.scope x)(J:(x==("__debug__":Str))=false)(aa:(x==("__classdict__":Str))=false)(m5:X.N[j]?=some y)(oC:ft X.env.scope y)(oj:(y==("__debug__":Str))=false)(iJ:(y==("__classdict__":Str))=false)(he:aS X val (bp xp X ao .val f))(jb:swapsWith val (some (.Subscript (.Name x p1) (.Name y p2) p3)) pos.line X.env=pure false):
  dz X (.Assign [.Subscript (.Name x p1) (.Name y p2) p3] val pos) (dm xp X ao λρ=>f ρ>>=λd=>ζ.pT ρ[i]? ρ[j]? d>>=λz=>.ok (.bJ (ρ.set i (some z)))):=by
 intro pins s σ H T I ⟨bw,bc,G,ρ,ae,hw⟩;refine VC ⋯ (gU aP aN J aa) (gU m5 oC oj iJ) he jb pins s σ H T I ?_;refine⟨G,ρ,ae.b0,b8 (bz.mp hw) (λd k v aL H1 aT aG=>?_) λ_ z=>z.mono ae.ext.h⟩;have ha:=ae.step aT;have k:=bz.mp k;have P2:∀ax d2 n,ζ.km ρ[i]?=some ax->ζ.fu ζ.j5 ρ[j]?=some d2->d=.int n->ax.length<1000->ij X.K ao bw bc T (.bJ (ρ.set i (some (.cf (ζ.putN ax d2 n)))))->∃w,σ[i]?=some (some w)/\∃u,σ[j]?=some (some u)/\∃a fi,w=.ref a/\jy H1 a u v fi/\T.bJ σ fi:=λax d2 n e1 ar r0 hz q=>by
  subst r0;have aG:v=.int n:=aG;subst aG;obtain⟨a,o,k1,k2,k3,cF⟩:=ha.b0.lst i _ (rR e1) hm rfl;cases cF;obtain⟨b3,b6,dx⟩:=mJ ar;cases JP dx;obtain⟨b,k5,eY⟩:=I8 ha.b0 aI b6;refine⟨_,k1,_,k5,a,_,rfl,jy.t k2 eY (by unfold g6;rw[List.length_map,sizeLine_eq];lia),?_⟩;rw[NC];exact q σ aL _ (ha.write (d:=.cf ax) (e:=.cf (ζ.putN ax d2 n)) hm (rR e1) rfl rfl k1 k3 rfl)
 have P1:∀ax d2 r,ζ.i5 ρ[i]?=some ax->ζ.fu ζ.intD ρ[j]?=some d2->d=ζ.o4 r->ax.length<1000->ij X.K ao bw bc T (.bJ (ρ.set i (some (.bN (ζ.l8 ax d2 r)))))->∃w,σ[i]?=some (some w)/\∃u,σ[j]?=some (some u)/\∃a fi,w=.ref a/\jy H1 a u v fi/\T.bJ σ fi:=λax d2 r e1 ar r0 hz q=>by
  subst r0;obtain⟨c,rfl,ah⟩:=Il aG;obtain⟨a,o,k1,k2,k3,ys,rfl,cF⟩:=ha.b0.lst i _ (uQ e1) hm rfl;obtain⟨b3,b6,dx⟩:=mJ ar;cases sS dx;obtain⟨v2,k5,bV⟩:=ha.b0.val j _ b6 aI;have bV:v2=.int d2:=bV;subst bV;refine⟨_,k1,_,k5,a,_,rfl,jy.k (k:=Sum.inl d2) k2 (by rw[cF.len,sizeLine_eq];lia),?_⟩;exact q σ aL _ (ha.write (d:=.bN ax) (e:=.bN (ζ.l8 ax d2 r)) hm (uQ e1) rfl rfl k1 k3 ⟨_,rfl,cF.put d2 ah⟩)
 have second:cS (match ζ.i5 ρ[i]?,ζ.fu ζ.intD ρ[j]?,ζ.rowOf d with|some ax,some k,some r=>if ax.length<1000 then .ok (ζ.D.bN (ζ.l8 ax k r)) else .bad|_,_,_=>.bad) (λz=>cS (.ok (ζ.eH.bJ (ρ.set i (some z)))) (ij X.K ao bw bc T) (λc=>ff xp X c bc)) (λc=>ff xp X c bc)->∃w,σ[i]?=some (some w)/\∃u,σ[j]?=some (some u)/\∃a fi,w=.ref a/\jy H1 a u v fi/\T.bJ σ fi:=λk=>by
  cases e1:ζ.i5 ρ[i]? with
  |none=>rw[e1]at k;exact k.elim
  |some ax =>
   cases ar:ζ.fu ζ.intD ρ[j]? with
   |none=>rw[e1,ar]at k;exact k.elim
   |some d2 =>
    cases bo:ζ.rowOf d with
    |none=>rw[e1,ar,bo]at k;exact k.elim
    |some r =>
     rw[e1,ar,bo]at k;dsimp only at k
     by_cases hz:ax.length<1000
     .rw[if_pos hz]at k;exact P1 ax d2 r e1 ar (Ik bo) hz k
     .rw[if_neg hz]at k;exact k.elim
 unfold ζ.pT at k;cases e1:ζ.km ρ[i]? with
 |none=>rw[e1]at k;exact second k
 |some ax =>
  cases ar:ζ.fu ζ.j5 ρ[j]? with
  |none=>rw[e1,ar]at k;exact second k
  |some d2 =>
   cases bo:ζ.intD d with
   |none=>rw[e1,ar,bo]at k;exact second k
   |some n =>
    rw[e1,ar,bo]at k;dsimp only at k
    by_cases hz:ax.length<1000
    .rw[if_pos hz]at k;exact P2 ax d2 n e1 ar (sS bo) hz k
    .rw[if_neg hz]at k;exact k.elim
def Xd(hm:i∈ao)(aP:X.N[i]?=some x)(aN:ft X.env.scope x)(J:(x==("__debug__":Str))=false)(aa:(x==("__classdict__":Str))=false):
  dz X (.Return (some (.Name x p1)) pos) (dm xp X ao λρ=>ζ.rT ρ[i]?>>=λd=>.ok (.cI d)):=by
 intro pins s σ H T I ⟨bw,bc,G,ρ,ae,hw⟩;refine tE (A8 (gU aP aN J aa)) pins s σ H T I ?_;dsimp only at hw;have key:∀d,ρ[i]?=some (some d)->gS d=true->(∀o,jB X.K G d o->(∃ys,o=.dY ys)\/∃ys,o=.ey ys)->(∀a o bu,jB X.K G d o->G a=none->Rep X.K (upd G a (.eh bu o)) d (.ref a))->ij X.K ao bw bc T (.cI d)->nL i σ H (λv H1=>∃a u,v=.ref a/\H1 a=some u/\((∃ys,u=.dY ys)\/∃ys,u=.ey ys)/\∀bu,T.cI v (upd H1 a (.eh bu u))):=λd q fo az a4 hw=>by
  obtain⟨a,o,k1,k2,k3,cF⟩:=ae.b0.lst i d q hm fo;have h0:bc a=none:=ae.own i d a q fo hm k1;have ay:=az o cF;have nt:∀xs,o≠.tup xs:=λxs z=>by rcases ay with⟨_,e⟩|⟨_,e⟩<;>rw[e]at z<;>cases z
  refine⟨_,k1,a,o,rfl,k2,ay,λbu=>?_⟩;refine hw _ (upd G a (.eh bu o)) (upd H a (.eh bu o)) ⟨ae.ext.g.trans (fY k3),λb v z=>?_,λb v z=>?_,λb bY bV=>?_,λb xs z=>.inr ?_⟩ (a4 a o bu cF k3)
  .have:b≠a:=λw=>by rw[w,h0]at z;cases z
   rw[dc this];exact ae.ext.h b v z
  .by_cases c:b=a
   .subst c;rw[dJ]at z ⊢;exact z
   .rw[dc c]at z ⊢;exact ae.b0.sub b v z
  .have:b≠a:=λw=>bV (by rw[w];exact h0)
   rw[dc this];exact ae.ext.new b bY bV
  .have c:b≠a:=λw=>by rw[w,dJ]at z;cases z
   rw[dc c]at z ⊢;exact ae.b0.dT b xs z
 cases q:ρ[i]? with
 |none=>rw[q]at hw;exact hw.elim
 |some o =>
  cases o with
  |none=>rw[q]at hw;exact hw.elim
  |some d =>
   rw[q]at hw;cases d with
   |cf ax=>exact key _ q rfl (λo e=>.inr ⟨_,e⟩) (λa o bu e g=>by cases e;exact⟨a,bu,rfl,dJ⟩) hw
   |bN ax=>exact key _ q rfl (λo ⟨ys,e,_⟩=>.inl ⟨ys,e⟩) (λa o bu ⟨ys,e,r⟩ g=>by subst e;exact⟨a,bu,ys,rfl,dJ,r.mono (fY g)⟩) hw
   |_=>exact hw.elim
end
noncomputable def CD(d:Addr)(o:e4)(au:List V):jz :=
 ⟨λi H=>H d=some o/\i<au.length,λi H v aq=>aq=H/\au[i]?=some v,λi H=>H d=some o/\au.length=i⟩
def Zr{K:W.Frag}(d it)(hd:bu.data=.dict ak a8)(aN:Vals au (ak.toList.map (·.key))):
  Turn P w K dH (CD d (.eh bu u) au) [it] it (λi h=>h.IsKeyIter it d i ak.size a8) where
 mem:=by simp
 obj:=λi h st b ae=>by
  have e:b=it:=(by simpa using ae);subst e;obtain⟨o,e,c,d⟩:=st;exact⟨o,e,λv z=>by rw[d]at z;cases z⟩
 keep:=λi h h' st k=>st.at λo e=>k it (by simp) o e
 item:=by
  intro X ei hw g9 ah i pins s σ H E I hf st aY;subst ei hw g9;obtain⟨aM,aj⟩:=aY;have az:s.heap.get? d=some bu:=(show d7 X.prog X.w H s.heap d (.eh bu u) from I.bL d _ aM).1;have aA:au.length=ak.size:=(by rw[aN.length,List.length_map,Array.length_toList]);have ai:au[i]?=some au[i]:=aby aj;obtain⟨v,k1,k2⟩:=aN.get ai;obtain⟨f0,f1,f2,dZ,f4,ez⟩:=hf it (by simp);have bS:i<ak.size:=⋯;refine Pv.Nm st az hd bS λh' bl cQ=>?_
  have a6:Inv X pins σ H { s with heap:=h' }:=I.turned (t':=s.toks) (λb o ae e=>(cQ.2 b ae).trans e) f0 f1 dZ f4 ez;have ob:ak[i].key=v:=by
   rw[abF,aca,abI bS]at k1;exact ab5 k1
  obtain⟨o,e,c,dd⟩:=id bl;exact⟨_,rfl,ve (s:={ s with heap:=h' }) e c dd ∅ ⟨au[i],H,a6,by rw[ob];exact k2,⟨rfl,ai⟩,bl,λb ae=>(hf b ae).1⟩⟩
 done:=by
  intro X ei hw g9 ah i pins s σ H E I hf st aY;subst ei hw g9;obtain⟨aM,aj⟩:=aY;have az:s.heap.get? d=some bu:=(show d7 X.prog X.w H s.heap d (.eh bu u) from I.bL d _ aM).1;have aA:au.length=ak.size:=(by rw[aN.length,List.length_map,Array.length_toList]);obtain⟨f0,f1,f2,dZ,f4,ez⟩:=hf it (by simp);subst aj;rw[aA]at st;exact Pv.Nk (I.ok.hd ah) st az hd λh' e6=>⟨rfl,I.turned (t':=s.toks) (λb o ae e=>e6 b o ae e) f0 f1 dZ f4 ez⟩
 self:=λ_ _ _ _ _ st h=>wpAny_pyIter_keyiter st h
def Sg{K:W.Frag}(ei:∀aL H1,P aL H1->bE G aL/\H1 d=some o)(r:bH K G ds au):nT K P (CD d o au) ds where
 go:=λi aL H1 h aj=>⟨(ei aL H1 h).2,by rw[<- r.length];exact aj⟩
 k7:=λi aL H1 x aX d h af hd ⟨e,y⟩=>by
  obtain⟨g,q⟩:=ei aL H1 h;subst e;obtain⟨v,J,aa⟩:=r.get hd;rw[J]at y;cases y;exact⟨aL,Ext.refl af,aa.mono g⟩
 stop:=λaL H1 h=>⟨(ei aL H1 h).2,r.length.symm⟩
section
theorem DO{G H:aD}(dT:∀b xs,H b=some (.tup xs)->G b=some (.tup xs)){K:W.Frag}:∀{ax:List (List Int×Int)}{xs:List (List Key×Addr×Value)},Paired (λ(p:List Key×V)(q:List Key×Addr×Value)=>p.1=q.1/\H q.2.1=some (.tup (p.1.map dq))/\RelV p.2 q.2.2) (g6 ax) xs ->
  bH K G (ax.map λp=>.tup (p.1.map .int)) (xs.map λq=>V.ref q.2.1)
 |[],_,h=>by cases h;rfl
 |p::ax,_,h=>by
  cases h with
  |@cons _ q _ xs J aa =>
   refine⟨V.ref q.2.1,_,rfl,⟨q.2.1,p.1.map V.int,rfl,dT _ _ ?_,?_⟩,DO dT aa⟩
   .have:=J.2.1;dsimp only at this;rw[F6]at this;exact this
   .exact ints_rep p.1
theorem Ka:∀xs:List (List Key×Addr×Value),Vals (xs.map λq=>V.ref q.2.1) (xs.map λq=>Value.ref q.2.1)
 |[]=>.nil
 |q::xs=>.cons (show RelV (V.ref q.2.1) (Value.ref q.2.1) from rfl) (Ka xs)
end
theorem DN{K:W.Frag}:∀{ax:List (Int×Int×Int)}{ys:List (Key×V)}{ag:List (Key×Value)}{ak:List DictEntry},eJ G ax ys->eW ys ag->Pairs (hJ P w) ak ag ->
  bH K G (ax.map λp=>.int p.1) (ax.map λp=>V.int p.1)/\Vals (ax.map λp=>V.int p.1) (ak.map (·.key))
 |[],_,_,_,J,aa,aJ=>by cases J;cases aa;cases aJ;exact⟨rfl,.nil⟩
 |p::ax,_,_,_,⟨b,t,e,aO,ba⟩,aa,aJ=>by
  subst e;cases aa with
  |@cons _ q _ abn bY bV =>
   cases aJ with
   |@cons e0 _ od _ k1 k2 k3 =>
    obtain⟨aG,aV⟩:=DN (K:=K) ba bV k3;have bY:=bY.1;dsimp only at bY;rw[<- bY]at k1;refine⟨⟨.int p.1,_,rfl,rfl,aG⟩,.cons ?_ aV⟩;have k1:Value.isInt p.1 e0.key=true:=k1;cases ay:e0.key with
    |int i t=>rw[ay]at k1;exact⟨t,by show e0.key=_;rw[ay,(show i=p.1 by simpa[Value.isInt] using k1)]⟩
    |_=>rw[ay]at k1;cases k1
section
def WY(hm:m=.view\/m=.val)(aj:i∉ao)(aP:X.N[i]?=some x)(aN:ft X.env.scope x)(J:(x==("__debug__":Str))=false)(aa:(x==("__classdict__":Str))=false):ht X dH (.Name x p1) (j4 xp X ao m λρ=>ζ.pQ ρ[i]?):=by
 intro pins s σ H R I ⟨G,ρ,af,hw⟩;dsimp only at hw;have go:∀{d:Addr}{bu:Obj}{u:e4}{au:List V}{ds:List D}{ak:Array DictEntry}{a8:Nat},σ[i]?=some (some (.ref d))->G d=some (.eh bu u)->(d==sysModules)=false->bu.ExactDict->bu.data=.dict ak a8->bH X.K G ds au->Vals au (ak.toList.map (·.key))->ds.length<=16777216 ->
   (∀dI aR aq,Ext G H aR aq->nT X.K (ro m aR aq) dI ds->ds.length<=16777216->R dI aq)->wpAny (model X.prog X.w) X.A (eval (.Name x p1) X.env) (λv s1=>wpAny (model X.prog X.w) X.A (pyIter v) (xq X pins σ dH R) X.cq s1) X.cq s:=λ{d bu u au ds ak a8} k1 k2 k3 cF k5 eY vG aA k=>by
  refine bK (gU aP aN J aa pins s σ H (λv H1=>v=.ref d/\H1=H) I ⟨_,k1,rfl,rfl⟩) λv s1 ⟨w,H1,a6,aG,e1,ar⟩=>?_
  subst e1 ar;cases aG;have eP:=af.sub _ _ k2;have az:s1.heap.get? d=some bu:=(show d7 X.prog X.w H1 s1.heap d (.eh bu u) from a6.bL d _ eP).1;refine Pv.Nl k3 az cF k5 ?_;refine⟨s1.heap.objs.size,[s1.heap.objs.size],_,_,H1,rfl,a6.kept (t':=s1.toks) λb o e=>abv _ e,Zr (u:=u) d _ k5 vG,⟨_,abD _ rfl,rfl,rfl⟩,λb ae=>?_,k _ G H1 (Ext.refl af.sub) (Sg (G:=G) (o:=.eh bu u) (λaL aX ⟨bY,bV⟩=>⟨bY,?_⟩) eY) aA⟩
  .have e:b=s1.heap.objs.size:=(by simpa using ae);subst e;exact a6.r8 (abz _) (a6.bL.fresh (abz _))
  .rcases hm with rfl|rfl
   .exact bV _ _ eP
   .exact bV _ _ (bY _ _ k2)
 unfold ζ.pQ at hw;cases e1:ζ.km ρ[i]? with
 |some ax =>
  rw[e1]at hw;obtain⟨v,k1,a,bu,rfl,k2⟩:=af.val i _ (rR e1) aj;obtain⟨az,bY,bV,xs,dV,o,ak,a8,mr,Cv,Cw,Kp,Kq⟩:=(show d7 X.prog X.w H s.heap a (.eh bu (.ey (g6 ax))) from I.bL a _ (af.sub _ _ k2));rw[az]at mr;cases mr;have a4:=DO (K:=X.K) af.dT dV;refine go k1 k2 bV Cv Cw a4 (by rw[Kp,List.map_map];exact Ka xs) ?_ hw;rw[List.length_map];unfold g6 at bY;rw[List.length_map,sizeLine_eq]at bY;exact bY
 |none =>
  rw[e1]at hw;dsimp only at hw;cases ar:ζ.i5 ρ[i]? with
  |none =>
   rw[ar]at hw;exact hw.elim
  |some ax =>
   rw[ar]at hw;obtain⟨v,k1,a,bu,ys,rfl,k2,k3⟩:=af.val i _ (uQ ar) aj;obtain⟨az,bY,bV,ag,dV,o,ak,a8,mr,Cv,Cw,Kp,Kq,abq⟩:=(show d7 X.prog X.w H s.heap a (.eh bu (.dY ys)) from I.bL a _ (af.sub _ _ k2));rw[az]at mr;cases mr;obtain⟨aG,aV⟩:=DN (K:=X.K) k3 dV Kq;refine go k1 k2 bV Cv Cw aG aV ?_ hw;rw[List.length_map,<- k3.len];rw[sizeLine_eq]at bY;exact bY
end
section
def To(ah:gE.cls=.type "list"\/gE.cls=.type "tuple")(hd:gE.data=.seq h2 eZ)(aaz:¬(!items.isEmpty&&Builtin.List.listTooLong (items.size+h2.size))=true)(hz:items.size<=sizeLine)(FL:items.size+h2.size<=sizeLine+1):
  Meets (Builtin.«list.extend» ⟨[.ref l,.ref b],[]⟩) λ_ R s=>s.heap.get? l=some { cls:=.type "list",dict:=none,data:=.seq items n,slots:=#[] }/\s.heap.get? b=some gE /\
   R (.ok (.ret Value.none)) { s with heap:=s.heap.update l (Obj.mapSeq λx=>x++h2),toks:=s.toks }:=by
 refine .of_wp λprog w A R s h=>?_
 obtain⟨aB,g,d,tk,os⟩:=s;obtain⟨bU,b3,aal,j2⟩:=gE;cases hd;obtain⟨e1,ar,h⟩:=h;have f1:=AutoSeq1.idx_int;have f2:=AutoSeq1.sub_list_list;have dZ:=AutoSeq1.sub_list_tuple;have f4:=AutoSeq1.sub_tuple_tuple;have ez:=AutoSeq1.sub_tuple_list;have FO:(items++h2).size<=sizeLine+1:=by rw[aeV];exact FL
 rcases ah with ah|ah
 .cases ah
  wp_walk using (aeE e1 rfl (hz:=hz) (_hz':=FO)),adx e1,adx ar
  exact⟨_,rfl,h⟩
 .cases ah
  wp_walk using (aeE e1 rfl (hz:=hz) (_hz':=FO)),adx e1,adx ar
  exact⟨_,rfl,h⟩
noncomputable def VU(K:W.Frag):V->List V->aD->dD->Prop:=λx ag H Q=>∃l b xs zs,x=.ref l/\ag=[.ref b]/\H l=some (.lst xs)/\(ej K H b zs\/fl K H b zs)/\xs.length+zs.length<=sizeLine/\Q .dK (upd H l (.lst (xs++zs)))
def TU:uo X "list.extend" (VU X.K):=by
 intro pins s σ H x ag v us Q I bg bO h;obtain⟨l,b,xs,zs,rfl,rfl,eP,d8,hz,q⟩:=h;cases bg;obtain⟨u,rfl,cC⟩:=bO.one;cases cC;obtain⟨z,its,n,r,aA,e⟩:=I.AF eP;obtain⟨hb,gE,eZ,aV,ar,bU,b3⟩:∃hb gE eZ,Vals zs hb/\s.heap.get? b=some gE/\(gE.cls=.type "list"\/gE.cls=.type "tuple")/\gE.data=.seq hb.toArray eZ:=by
  rcases d8 with d8|d8
  .obtain⟨hb,aV,⟨gE,eZ,ar,bU,_,b3⟩,_⟩:=I.list d8;exact⟨hb,gE,eZ,aV,ar,.inl bU,b3⟩
  .obtain⟨hb,aV,⟨gE,ar,bU,eZ,b3⟩,_⟩:=I.tuple d8;exact⟨hb,gE,eZ,aV,ar,.inr bU,b3⟩
 have nd:=aV.length;have hsz:its.toArray.size+hb.toArray.size<=sizeLine:=by rw[abB,abB];lia
 refine call_meets F.slot_list_extend ⟨_,e,rfl⟩ F.entry_list_extend (F.args_list_extend_2 _ _) (To bU b3 (by rw[Uc hsz,Bool.and_false];exact acB) (by rw[abB];lia) ⋯) ⟨e,ar,?_⟩;refine⟨.dK,_,I.AE (its':=its++hb) eP e (by simp) (r.append aV) ?_,rfl,q⟩;rw[abw];lia
def WW{xp:dA}{f:bx->cu D}{p1 p4 ap ew:Pos}{x n:Str}(hm:i∈ao)(aC:n="extend")(aP:X.N[i]?=some x)(aN:ft X.env.scope x)(J:(x==("__debug__":Str))=false)(aa:(x==("__classdict__":Str))=false)(jM:(ap.endLine==ew.line)=true)(he:aS X e (bp xp X ao .val f))(c4:starEach [e] X.env=[(false,eval e X.env)]):
  dz X (.Expr (.Call (.Attribute (.Name x p1) n ap) [e] [] ew) p4) (dm xp X ao λρ=>ζ.jI ρ[i]?>>=λ_=>f ρ>>=λd=>ζ.pV ρ[i]? d>>=λy=>.ok (.bJ (ρ.set i (some y)))):=by
 subst aC;intro pins s σ H T I ⟨bw,bc,G,ρ,ae,hw⟩;refine Bh (A7 adC PySem.F.slot_list_extend PySem.F.type_list_extend TU (gU aP aN J aa) (l7 he c4) rfl (zI c4) jM c4 rfl) rfl pins s σ H T I ?_;obtain⟨ds,q,hw⟩:=Dq (bz.mp hw);obtain⟨a,o,k1,k2,k3,xs,rfl,cF⟩:=ae.b0.lst i (.lst ds) q hm rfl;refine⟨_,k1,.inl ⟨rfl,xs,ej.of k2⟩,?_⟩;refine⟨G,ρ,ae.b0,b8 (bz.mp hw) (λd k v aL H1 aT aG=>?_) λ_ z=>z.mono ae.ext.h⟩;have ha:=ae.step aT;rw[q]at k;cases d with
 |lst ak =>
  have k:cS ((if ds.length+ak.length<=ζ.SZ then ζ.R.ok (ζ.D.lst (ds++ak)) else .bad)>>=λy=>.ok (ζ.eH.bJ (ρ.set i (some y)))) _ _:=k;have k:=bz.mp k
  by_cases hz:ds.length+ak.length<=ζ.SZ
  .rw[if_pos hz]at k;obtain⟨b,zs,rfl,bb,hR⟩:=aG;have si:H1 a=some (.lst xs):=aT.h _ _ k2;have sh:aL a=none:=aT.new a k3 (by rw[k2];exact λz=>nomatch z);refine⟨a,b,xs,zs,rfl,rfl,si,(.inl (mf aT.sub bb)),by rw[<- cF.length,<- hR.length,<- rp];exact hz,?_⟩;exact k σ aL _ (ha.write (d:=.lst ds) (e:=.lst (ds++ak)) hm q rfl rfl k1 sh ⟨_,rfl,(cF.mono aT.g).append hR⟩)
  .rw[if_neg hz]at k;exact k.elim
 |tup ak =>
  have k:cS ((if ds.length+ak.length<=ζ.SZ then ζ.R.ok (ζ.D.lst (ds++ak)) else .bad)>>=λy=>.ok (ζ.eH.bJ (ρ.set i (some y)))) _ _:=k;have k:=bz.mp k
  by_cases hz:ds.length+ak.length<=ζ.SZ
  .rw[if_pos hz]at k;obtain⟨b,zs,rfl,bb,hR⟩:=aG;have si:H1 a=some (.lst xs):=aT.h _ _ k2;have sh:aL a=none:=aT.new a k3 (by rw[k2];exact λz=>nomatch z);refine⟨a,b,xs,zs,rfl,rfl,si,(.inr (iy aT.sub bb)),by rw[<- cF.length,<- hR.length,<- rp];exact hz,?_⟩;exact k σ aL _ (ha.write (d:=.lst ds) (e:=.lst (ds++ak)) hm q rfl rfl k1 sh ⟨_,rfl,(cF.mono aT.g).append hR⟩)
  .rw[if_neg hz]at k;exact k.elim
 |_=>exact k.elim
end
def R8{d:D}(h:ζ.vE d=some au):d=.lst (au.map .int):=by
 unfold ζ.vE at h
 split at h
 .rw[qm h]
 .cases h
theorem HW:∀{ds:List D}{us:List Value}{as:List Addr},ReadsAll h us (hl ds) as->∀(m:Nat)(hm:m<us.length),∃d bs,ds[m]?=some d/\Reads h us[m] (toPy d) bs
 |[],_,_,r,m,hm=>by cases r;simp at hm
 |d::ds,_,_,r,m,hm=>by
  cases r with
  |cons aG aV =>
   cases m with
   |zero=>exact⟨d,_,rfl,aG⟩
   |succ m =>
    obtain⟨d',bs,e1,ar⟩:=HW aV m (by simpa using hm);exact⟨d',bs,by simpa using e1,ar⟩
def wx(k):ζ.dh 60 (.int k)=true:=bf.tU 60 k
section
def TV(br:X.A.units+64<cLine):uo X "list.index" (λx ag H Q=>∃(G:aD)(l:Addr)(v:V)(xs:List V)(au:List Int)(k:Int),bE G H/\x=.ref l/\ag=[v]/\ej X.K H l xs/\bH X.K G (au.map .int) xs/\View X.K G H (.int k) v/\k∈au/\au.length<=1000/\Q (.int (au.idxOf k:Nat)) H):=by
 intro pins s σ H x ag v us Q I bg bO h;obtain⟨G,l,w,xs,au,k,af,rfl,rfl,aM,a4,aN,ay,hlen,q⟩:=h;cases bg;obtain⟨u,rfl,cC⟩:=bO.one;obtain⟨its,iZ,⟨⟨cls,dd,data,bM⟩,c,az,ah,_,hd⟩,_⟩:=I.list aM;simp only at ah hd;subst ah hd;have fx:(au.map ζ.D.int).all (ζ.dh 60)=true:=by rw[List.all_map,ab1];exact λk _=>wx k
 obtain⟨as,cw⟩:=o2 I af 60 fx a4 iZ;obtain⟨bs,dU⟩:=o1 I af aN cC (wx k);have aA:its.length=au.length:=by rw[<- iZ.length,<- a4.length,List.length_map]
 have key:∀m (hm:m<its.length),kp s.heap (.int k) its[m]=decide (au[m]'⋯=k):=λm hm=>by
  obtain⟨d,LL,e1,ar⟩:=HW cw m hm;rw[abF,aby ⋯]at e1;cases e1;rw[yT ar (wx _)];exact bf.D3 _ _
 have aI:=ack ay;refine call_meets F.slot_list_index ⟨_,az,rfl⟩ F.entry_list_index (F.args_list_index_2 _ _) (SeqAt.list_indexAt l its.toArray c dd bM u (kp s.heap (.int k)) (au.idxOf k) (by rw[abB];lia) ⋯ ?_ ?_) ⟨az,λz hz=>uY br dU (wx k) cw fx z (by simpa using hz),?_⟩
 .have:=key (au.idxOf k) ⋯;simp only[List.getElem_toArray];rw[this,ach aI];simp
 .intro h5 hm aa;have:=key h5 (by simpa using hm);simp only[List.getElem_toArray];rw[this];refine decide_eq_false λe=>?_
  have:=List.not_of_lt_findIdx (p:=(·==k)) (xs:=au) aa;simp[e]at this
 .exact⟨.int _,H,I.kept (t':=_) λb o e=>e,⟨_,rfl⟩,q⟩
def W3{X:a7}{m:fj}{i j:Nat}{x y n:Str}(br:X.A.units+64<cLine)(aC:n="index")(jM:(ap.endLine==ew.line)=true)(aP:X.N[i]?=some x)(aN:ft X.env.scope x)(J:(x==("__debug__":Str))=false)(aa:(x==("__classdict__":Str))=false)(m5:X.N[j]?=some y)(oC:ft X.env.scope y)(oj:(y==("__debug__":Str))=false)(iJ:(y==("__classdict__":Str))=false):aS X (.Call (.Attribute (.Name x p1) n ap) [.Name y p2] [] ew) (bp xp X ao m λρ=>ζ.qr ρ[i]? ρ[j]?):=by
 subst aC;intro pins s σ H Q I ⟨G,ρ,af,hw⟩;dsimp only at hw;unfold ζ.qr at hw;cases e1:ζ.fu ζ.vE ρ[i]? with
 |none=>rw[e1]at hw;exact hw.elim
 |some au =>
  cases ar:ζ.fu ζ.intD ρ[j]? with
  |none=>rw[e1,ar]at hw;exact hw.elim
  |some k =>
   rw[e1,ar]at hw;dsimp only at hw
   by_cases hz:k∈au/\au.length<=1000
   .rw[if_pos hz]at hw;obtain⟨bR,aO,ba⟩:=mJ e1;cases R8 ba;obtain⟨b3,b6,dx⟩:=mJ ar;cases sS dx;obtain⟨v1,k1,a,xs,rfl,k2,k3⟩:=af.view aO;obtain⟨v2,cF,k5⟩:=af.view b6;refine A7 adC PySem.F.slot_list_index PySem.F.type_list_index (TV br) (gU aP aN J aa) (l7 (gU m5 oC oj iJ) rfl) rfl (zI rfl) jM rfl rfl pins s σ H Q I ?_;exact⟨_,k1,.inl ⟨rfl,xs,k2⟩,_,cF,G,a,v2,xs,au,k,af.sub,rfl,rfl,k2,k3,k5,hz.1,hz.2,hw _ G H (Ext.refl af.sub) (by cases m<;>rfl)⟩
   .rw[if_neg hz]at hw;exact hw.elim
end
section
variable{xp:dA}{X:a7}{ao:List Nat}{m:fj}{f fc:bx->cu D}{e val c:Expr}{body:List Stmt}{pos p1 p2 p3 p4 ap ew:Pos}{i j:Nat}{x y n:Str}
def Xf(hm:i∈ao)(he:aS X e (bp xp X (ao.filter λj=>!(j==i)) .val f)):dz X (.Return (some e) pos) (dm xp X ao λρ=>ζ.jI ρ[i]?>>=λ_=>f ρ>>=λd=>.ok (.cI d)):=by
 intro pins s σ H T I ⟨bw,bc,G,ρ,ae,hw⟩;have mem:∀{j:Nat},(j∈ao.filter λj=>!(j==i))<->j∈ao/\j≠i:=λ{j}=>by rw[List.mem_filter];simp
 have key:∀ds,ρ[i]?=some (some (.lst ds))->cS (f ρ>>=λd=>.ok (.cI d)) (ij X.K ao bw bc T) (λc=>ff xp X c bc)->wpAny (model X.prog X.w) X.A (exec (.Return (some e) pos) X.env) (nW X pins T) X.cq s:=λds q hw=>by
  obtain⟨a,o,k1,k2,k3,xs,rfl,cF⟩:=ae.b0.lst i (.lst ds) q hm rfl;have h0:bc a=none:=ae.own i (.lst ds) a q rfl hm k1;have qO:bE G (upd G a (.lst xs)):=fY k3;have sub:bE (upd G a (.lst xs)) H:=λb v z=>by
   by_cases c:b=a
   .subst c;rw[dJ]at z;rw[k2];exact z
   .rw[dc c]at z;exact ae.b0.sub b v z
  have dT:∀b ys,H b=some (.tup ys)->upd G a (.lst xs) b=some (.tup ys):=λb ys z=>qO _ _ (ae.b0.dT b ys z)
  have wB:et X.K (ao.filter λj=>!(j==i)) (upd G a (.lst xs)) H ρ σ:=by
   refine⟨ae.b0.len,sub,λj d e aI=>?_,λj d e aI aA=>?_,λj d e aI aA=>?_,dT,λj k d e b g5 aO ba bR b3 aI ay=>ae.b0.apart j k d e b g5 aO ba bR b3 (mem.mp aI).1 (mem.mp ay).1⟩
   .by_cases c:j=i
    .subst c;rw[q]at e;cases e;exact⟨_,k1,a,xs,rfl,.inl (.inl dJ),cF.mono qO⟩
    .obtain⟨v,bY,bV⟩:=ae.b0.val j d e λw=>aI (mem.mpr ⟨w,c⟩)
     exact⟨v,bY,bV.mono qO⟩
   .obtain⟨v,bY,bV⟩:=ae.b0.own j d e (mem.mp aI).1 aA;exact⟨v,bY,bV.mono qO⟩
   .obtain⟨b,o,bY,bV,dV,mr⟩:=ae.b0.lst j d e (mem.mp aI).1 aA;have c:b≠a:=ae.b0.apart j i d (.lst ds) b a e q aA rfl (mem.mp aI).1 hm (mem.mp aI).2 bY k1;exact⟨b,o,bY,bV,by rw[dc c];exact dV,mr.mono qO⟩
  have ext:Ext bw bc (upd G a (.lst xs)) H:=by
   refine⟨ae.ext.g.trans qO,ae.ext.h,sub,λb bY bV=>?_,λb ys z=>.inr (dT b ys z)⟩;have:b≠a:=λw=>bV (by rw[w];exact h0)
   rw[dc this];exact ae.ext.new b bY bV
  refine tE he pins s σ _ T I ⟨_,ρ,wB,b8 (bz.mp hw) (λd k v aL H1 aT aG=>?_) λ_ z=>z.mono ext.h⟩;exact k v aL H1 (ext.trans aT) aG
 dsimp only at hw;cases q:ρ[i]? with
 |none=>rw[q]at hw;exact hw.elim
 |some o =>
  cases o with
  |none=>rw[q]at hw;exact hw.elim
  |some d =>
   rw[q]at hw;cases d with
   |lst ds=>exact key ds q hw
   |_=>exact hw.elim
def Xp(aB:PassesOwn (model X.prog X.w) X.A X.env X.cq)(ah:eI X c (fZ xp X ao fc))(ae:fk X body (dm xp X ao c1))(n):dz X (.While c body [] pos) (dm xp X ao λρ=>ζ.k4 (λbP=>fc bP>>=λx=>ζ.eu x) c1 n ρ):=by
 intro pins s σ H T I ⟨bw,bc,G,ρ,il,hw⟩;refine VF aB ah ae pins s σ H T I ?_;refine⟨λm cE aq=>∃aR bP,cc X.K ao bw bc aR aq bP cE/\cS (ζ.k4 (λbP=>fc bP>>=λx=>ζ.eu x) c1 m bP) (ij X.K ao bw bc T) (λc=>ff xp X c bc),⟨n,G,ρ,il,hw⟩,?_⟩;rintro m cE aq ⟨aR,bP,cQ,gg⟩;cases m with
 |zero=>exact gg.elim
 |succ m =>
  rw[ζ.k4]at gg;refine⟨aR,bP,cQ.b0,b8 (bz.mp gg) (λk q aL H1 aT=>?_) λ_ z=>z.mono cQ.ext.h⟩;cases k with
  |false =>
   rw[if_neg ∅]at q ⊢;exact q cE aL H1 (cQ.step aT)
  |true =>
   rw[if_pos rfl]at q ⊢;refine⟨λnQ aX=>∃cn jt,cc X.K ao bw bc cn aX jt nQ/\cS (ζ.k4 (λbP=>fc bP>>=λx=>ζ.eu x) c1 m jt) (ij X.K ao bw bc T) (λc=>ff xp X c bc),λnQ aX h=>⟨m,adl m,h⟩,bw,bc,aL,bP,cQ.step aT,b8 (bz.mp q) (λr d2=>?_) λ_ z=>z⟩;cases r with
   |bJ jt=>exact λnQ cn aX Bz=>⟨cn,jt,Bz,d2⟩
   |cI d=>exact d2
def Xi(hm:i∈ao)(aP:X.N[i]?=some x)(aN:ft X.env.scope x)(J:(x==("__debug__":Str))=false)(aa:(x==("__classdict__":Str))=false)(he:aS X val (bp xp X ao .val f))(jb:swapsWith val (some (.Subscript (.Name x p1) (.Constant (.int 0) k p2) p3)) pos.line X.env=pure false):
  dz X (.Assign [.Subscript (.Name x p1) (.Constant (.int 0) k p2) p3] val pos) (dm xp X ao λρ=>f ρ>>=λd=>ζ.tT ρ[i]? d>>=λz=>.ok (.bJ (ρ.set i (some z)))):=by
 intro pins s σ H T I ⟨bw,bc,G,ρ,ae,hw⟩;refine wpAny_Assign_Subscript (bK (he pins s σ H (λv H1=>∃a xs ds d aL,σ[i]?=some (some (.ref a))/\ρ[i]?=some (some (.lst ds))/\H1 a=some (.lst xs)/\aL a=none/\bH X.K aL ds xs/\Rep X.K aL d v/\cc X.K ao bw bc aL H1 ρ σ/\cS (ζ.tT ρ[i]? d>>=λz=>.ok (ζ.eH.bJ (ρ.set i (some z)))) (ij X.K ao bw bc T) (λc=>ff xp X c bc)) I ?_) λr s1 ⟨v,H1,a6,bO,a,xs,ds,d,aL,k1,q,k2,k3,cF,k5,cQ,d2⟩=>?_) jb
 .refine⟨G,ρ,ae.b0,b8 (bz.mp hw) (λd k v aL H1 aT aG=>?_) λ_ z=>z.mono ae.ext.h⟩;have cQ:=ae.step aT;cases q:ρ[i]? with
  |none=>rw[q]at k;exact k.elim
  |some o =>
   cases o with
   |none=>rw[q]at k;exact k.elim
   |some d' =>
    cases d' with
    |lst ds =>
     obtain⟨a,o,k1,k2,k3,xs,rfl,cF⟩:=cQ.b0.lst i (.lst ds) q hm rfl;exact⟨a,xs,ds,d,aL,k1,rfl,k2,k3,cF,aG,cQ,by rw[q]at k;exact k⟩
    |_=>rw[q]at k;exact k.elim
 .refine bK (gU aP aN J aa pins s1 σ H1 (λw aX=>w=.ref a/\aX=H1) a6 ⟨_,k1,rfl,rfl⟩) λu s2 ⟨w,aX,cx,aV,e1,ar⟩=>?_
  subst e1 ar;refine bK (Hu pins s2 σ aX (λw bq=>w=.int 0/\bq=aX) cx ⟨rfl,rfl⟩) λt5 s3 ⟨w,bq,ef,c5,e1,ar⟩=>?_
  subst e1 ar;rw[q]at d2;cases ds with
  |nil=>exact d2.elim
  |cons hA ds =>
   obtain⟨v0,fP,e,eY,vG⟩:=cF;subst e;refine acg (set_list pins s3 σ bq (.ref a) (.int 0) v _ _ _ (λfi=>fi=upd bq a (.lst (v::fP))) ef aV c5 bO ⟨a,_,0,0,rfl,rfl,k2,by unfold hG;rw[if_pos (Int.le_refl 0),if_pos (by rw[List.length_cons];lia)];rfl,rfl⟩) (λ_ s4 ⟨fi,fI,eK⟩=>?_) λ_ _ z=>z
   subst eK;refine⟨σ,_,fI,?_⟩;exact d2 σ aL _ (cQ.write (d:=.lst (hA::ds)) (e:=.lst (d::ds)) hm q rfl rfl k1 k3 ⟨_,rfl,v,fP,rfl,k5,vG⟩)
theorem bH.dropLast{K:W.Frag}(h:bH K G ds xs):bH K G ds.dropLast xs.dropLast:=by
 rw[List.dropLast_eq_take,List.dropLast_eq_take,<- h.length];exact h.take _
def s_pop(hm:i∈ao)(aC:n="pop")(aP:X.N[i]?=some x)(aN:ft X.env.scope x)(J:(x==("__debug__":Str))=false)(aa:(x==("__classdict__":Str))=false)(jM:(ap.endLine==ew.line)=true):
  dz X (.Expr (.Call (.Attribute (.Name x p1) n ap) [] [] ew) p4) (dm xp X ao λρ=>ζ.v8 ρ[i]?>>=λy=>.ok (.bJ (ρ.set i (some y)))):=by
 subst aC;intro pins s σ H T I ⟨bw,bc,G,ρ,ae,hw⟩;refine Bh (US adC PySem.F.slot_list_pop PySem.F.type_list_pop TX (gU aP aN J aa) rfl jM) rfl pins s σ H T I ?_;dsimp only at hw;have key:∀d ds,ρ[i]?=some (some (.lst (d::ds)))->ij X.K ao bw bc T (.bJ (ρ.set i (some (.lst (d::ds).dropLast))))->Js (Jp X.K "list" HO (nL i)) T σ H:=λd ds q hw=>by
  obtain⟨a,o,k1,k2,k3,xs,rfl,cF⟩:=ae.b0.lst i _ q hm rfl;obtain⟨v0,fP,e,eY,vG⟩:=id cF;subst e;have bS:(v0::fP).length-1<(v0::fP).length:=(by simp);refine⟨_,k1,.inl ⟨rfl,_,ej.of k2⟩,a,v0::fP,_,rfl,rfl,k2,aby bS,?_⟩;exact hw σ G _ (ae.write (d:=.lst (d::ds)) (e:=.lst (d::ds).dropLast) hm q rfl rfl k1 k3 ⟨_,rfl,bH.dropLast cF⟩)
 cases q:ρ[i]? with
 |none=>rw[q]at hw;exact hw.elim
 |some o =>
  cases o with
  |none=>rw[q]at hw;exact hw.elim
  |some d =>
   rw[q]at hw;cases d with
   |lst ds =>
    cases ds with
    |nil=>exact hw.elim
    |cons d ds=>exact key d ds q hw
   |_=>exact hw.elim
def Xl{st:Stmt}:dz X st (dm xp X ao λ_=>.bad):=λ_ _ _ _ _ _ ⟨_,_,_,_,_,hw⟩=>hw.elim
end
def PJ{K:W.Frag}(x:Ext G H aR aq)(r:cT K H aR aq .fresh d v):∃cn,Ext G H cn aq/\Rep K cn d v:=by
 cases d with
 |lst ds =>
  obtain⟨a,xs,rfl,J,aa,aJ,aW⟩:=r;refine⟨upd aR a (.lst xs),⟨x.g.trans (fY aJ),x.h,λb o q=>?_,λb aO ba=>?_,λb xs q=>(x.dT b xs q).imp id λz=>fY aJ _ _ z⟩,a,xs,rfl,.inl (.inl dJ),aW.mono (fY aJ)⟩
  .by_cases ae:b=a
   .subst ae;rw[dJ]at q;rw[J];exact q
   .rw[dc ae]at q;exact x.sub b o q
  .rw[dc (λz=>ba (by rw[z];exact aa))];exact x.new b aO ba
 |cf _=>exact r.elim
 |bN _=>exact r.elim
 |_=>exact⟨aR,x,r⟩
section
def WG(ah:X.calm=true)(hZ:∀i∈ao,i<X.N.length)(B:pq X scope xs dO)(ay:ζ.fh k target=some xs)(lP:∀x,foldedSetIterable iter X.env x=pure x)(aj:ht X target iter (j4 xp X ao .view mY))(he:∀s3 bq bB pins,aS (gZ X scope dO s3 bq bB pins) elt (bp xp (gZ X scope dO s3 bq bB pins) ao .val gO))(aH:rr xp X ao scope dO ifs fc)(aP:X.N.Nodup)(aQ:X.N[i]?=some y)(ai:Loc X.env.scope y)(hf:X.fn y=true\/X.env.scope.names.lookup y=some .local):
  dz X (.Assign [.Name y p1] (.ListComp elt [⟨target,iter,ifs,0⟩] scope pos) p4) (dm xp X ao λρ=>(mY ρ>>=λds=>ζ.l5 (ζ.dj (i6 k fc gO ρ) ds)>>=λys=>.ok (.lst ys))>>=λd=>.ok (.bJ (ρ.set i (some d)))):=by
 have jb:∃b:Bool,swapsWith (.ListComp elt [⟨target,iter,ifs,0⟩] scope pos) (some (.Name y p1)) p4.line X.env=pure b:=⟨_,rfl⟩;obtain⟨b,jb⟩:=jb;cases b with
 |false =>
  by_cases hm:i∈ao
  .exact Iz hm aP aQ ai (Bx ah hZ B ay lP aj he aH) jb hf
  .exact Iy hm aP aQ ai (aS.val (Bx ah hZ B ay lP aj he aH)) jb hf
 |true =>
  intro pins s σ H T I ⟨bw,bc,G,ρ,ae,hw⟩;rw[exec_Assign_Name_used _ _ _ _ jb];refine abr (wpAny_standAt (abr ?_));show wpAny _ X.A (do let _ <- comprehension (.ListComp elt [⟨target,iter,ifs,0⟩] scope pos) scope X.env _ (newList []) false (eval iter X.env) (some (assign (.Name y p1) X.env))) _ _ s;refine abr (acg (DH ah hZ B ay lP aj he aH I ae.b0 (use:=some (assign (.Name y p1) X.env)) (Qc:=λ_ s'=>nW X pins T .next s') ?_) (λ_ s' aM=>abu (abu aM)) λ_ _ e=>e);have hw:=bz.mp (bz.mp hw);refine bz.mpr (b8 hw (λds k1=>?_) λ_ q=>q.mono ae.ext.h);refine b8 (bz.mp k1) (λys k2 s4 aq aR C dr oL x r aC QA inv=>?_) λ_ q=>q.mono ae.ext.h
  have fI:Inv X pins σ aq s4:=inv s4.heap (aeW _ _);obtain⟨tn,ak,a8,az,a4⟩:=id aC;have Rc:∀v,tn.data≠.cell v:=λv z=>by
   have:=a4.1;rw[z]at this;cases this
  obtain⟨f0,f1,f2,dZ,f4,ez⟩:=QA;have Kw:Inv X (pins++[(C,tn)]) σ aq s4:=fI.Bc λp aB=>by
   rcases abU.mp aB with z|z
   .exact fI.pin p (abL _ z)
   .have z:=abK.mp z;subst z;exact⟨az,f0,f1,f2,Rc⟩
  show wpAny _ X.A (assign (.Name y p1) X.env (.ref dr)) _ _ s4;refine wpAny_assign_Name (wK Kw aP aQ ai (v:=.ref dr) rfl (λs5 kf=>?_) hf);have cb:s5.heap.get? C=some tn:=(kf.pin (C,tn) (abL _ (abL _ (abK.mpr rfl)))).1;refine⟨oL,⟨tn,ak,a8,cb,a4⟩,λh' cQ=>⟨σ.set i (some (.ref dr)),aq,?_,?_⟩⟩
  .exact(kf.q0).turned (t':=s5.toks) (λb o ae e=>(cQ.2 b ae).trans e) f0 f1 dZ f4 ez
  .by_cases hm:i∈ao
   .exact k2 _ aR aq (ae.IT x hm r)
   .obtain⟨cn,b7,aV⟩:=PJ x r;exact k2 _ cn aq ((ae.step b7).tS hm aV)
end
noncomputable def nice:Expr->Bool
 |.Starred ..=>false
 |.Set ..=>false
 |.SetComp ..=>false
 |.DictComp ..=>false
 |.Slice ..=>false
 |_=>true
def nn{α:Type}{a:α}{p:Prop}(h:none=some a):p:=nomatch h
def ho(h:ζ.hn x=some y):∃p,x=.Name y p:=by
 cases x with
 |Name z p=>cases h;exact⟨p,rfl⟩
 |_=>exact nn h
def wY(h:ζ.t6 x=some c):∃k p,x=.Constant c k p:=by
 cases x with
 |Constant z k p=>cases h;exact⟨k,p,rfl⟩
 |_=>exact nn h
def ZI(h:ζ.J5 x=some ak):∃k p,x=.Tuple ak k p:=by
 cases x with
 |Tuple z k p=>cases h;exact⟨k,p,rfl⟩
 |_=>exact nn h
def ZG(h:ζ.J2 x=some ak):∃p,x=.List ak p:=by
 cases x with
 |List z p=>cases h;exact⟨p,rfl⟩
 |_=>exact nn h
def JX(h:ζ.Cd x=some (a,o,b)):∃p,x=.BinOp a o b p:=by
 cases x with
 |BinOp l o r p=>cases h;exact⟨p,rfl⟩
 |_=>exact nn h
def J6(h:ζ.Cj x=some (o,a)):∃p,x=.UnaryOp o a p:=by
 cases x with
 |UnaryOp o r p=>cases h;exact⟨p,rfl⟩
 |_=>exact nn h
def JY{os:List CmpOp}(h:ζ.Cg x=some (a,os,ys)):∃p,x=.Compare a os ys p:=by
 cases x with
 |Compare l o r p=>cases h;exact⟨p,rfl⟩
 |_=>exact nn h
def Ce(h:ζ.vBool x=some (o,ak,p)):x=.BoolOp o ak p:=by
 cases x with
 |BoolOp o ak p=>cases h;rfl
 |_=>exact nn h
def w0(h:ζ.t7 x=some (a,b)):∃p,x=.Subscript a b p:=by
 cases x with
 |Subscript l r p=>cases h;exact⟨p,rfl⟩
 |_=>exact nn h
def ZH(h:ζ.J4 x=some (a,b,c)):∃p,x=.Slice a b c p:=by
 cases x with
 |Slice l r t p=>cases h;exact⟨p,rfl⟩
 |_=>exact nn h
def Cf(h:ζ.wX x=some (f,ak,au)):∃p,x=.Call f ak au p:=by
 cases x with
 |Call l r t p=>cases h;exact⟨p,rfl⟩
 |_=>exact nn h
def j6(h:ζ.jr x=some (y,ak)):∃p q,x=.Call (.Name y p) ak [] q:=by
 unfold ζ.jr at h
 split at h
 .rename_i f od e1;obtain⟨q,rfl⟩:=Cf e1
  split at h
  .rename_i z ar;obtain⟨p,rfl⟩:=ho ar;cases h;exact⟨p,q,rfl⟩
  .cases h
 .cases h
def ZF(h:ζ.J1 x=some (a,b,c)):∃p,x=.IfExp a b c p:=by
 cases x with
 |IfExp l r t p=>cases h;exact⟨p,rfl⟩
 |_=>exact nn h
def J0(h:ζ.JZ x=some (a,m3,sc)):∃p,x=.ListComp a m3 sc p:=by
 cases x with
 |ListComp l r t p=>cases h;exact⟨p,rfl⟩
 |_=>exact nn h
def fW(h:ζ.bZ g ct v e x=true):nice x=true:=by
 cases aC:nice x with
 |true=>rfl
 |false =>
  exfalso;cases x<;>first|(cases aC;done)|skip
  all_goals (cases e<;>exact acB h)
def tX(h:nice e=true):starEach (e::ak) env=(false,eval e env)::starEach ak env:=by
 cases e<;>first|rfl|cases h
def hN(h:nice e=true):starEach [e] env=[(false,eval e env)]:=tX h
def X6(h:nice e=true)(h':nice bk=true):starEach [e,bk] env=[(false,eval e env),(false,eval bk env)]:=by rw[tX h,hN h']
def Vq(h:∀e∈ak,nice e=true):(backTo pos (starEach ak env)).any (·.1)=false:=by
 induction ak with
 |nil=>rfl
 |cons e ak aE =>
  rw[tX (h e List.mem_cons_self)];show(false||(backTo pos (starEach ak env)).any (·.1))=false;rw[aE λz hz=>h z (List.mem_cons_of_mem _ hz)];rfl
def So(h:nice b=true):xr b:=by
 intro o i;cases b<;>first|rfl|cases h
def set_plain(h:nice b=true):∀x,foldedSetIterable b env x=pure x:=by
 intro x;cases b<;>first|rfl|cases h
def GG(h:nice b=true):behindInMarks op b=false:=by
 cases b<;>first|rfl|cases h
def BV(h:nice e=true)(ah:ζ.vQ e=true):swapsWith e t n env=pure false:=by
 cases e<;>first|rfl|(cases ah;done)|(cases h;done)
noncomputable def ra:List Str:=["len","isinstance","int","bool","str","tuple","list","sorted","set","range","sum","max","all","any"]
structure fR(P:Program)(w:World)(K:W.Frag)(aZ:Str->Option Value)(base:Heap)(xp:dA)(k:Nat)(g:ζ.Gt)(pg:ζ.eM)(Φ:ζ.e3):Prop where
 fn:∀(f:Nat)(x:Str),g.fns[f]?=some x->∃bh fd a3,aZ x=some (.ref bh)/\W.keepIn K (.ref bh)=true/\Binds K fd a3 []/\kc P w K aZ base (jw P w xp) k bh fd a3 (o8 K (Φ f) a3.length)/\∀ds,ds.length≠a3.length->Φ f ds=.bad
 blt:∀x:Str,x∈ra->aZ x=none
 r9:∀(j:Nat)(x:Str)(d:D),g.r9[j]?=some x->pg.cs[j]?=some d->∃v u,aZ x=some u/\RelV v u/\∀G,Rep K G d v
structure du(xp:dA)(k:Nat)(g:ζ.Gt)(pg:ζ.eM)(Φ:ζ.e3)(X:a7)(ct:ζ.dC):Prop where
 da:fR X.prog X.w X.K X.aZ X.base xp k g pg Φ
 room:f6 k X.A
 units:X.A.units+64<cLine
 calm:X.calm=true
 nm:X.N=ct.N
 ea:ct.N.Nodup
 ao:∀i∈ct.ao,i<ct.N.length
 lc:∀x,ct.sc.names.lookup x=some .local->X.env.scope.names.lookup x=some .local
 rJ:∀x,(ct.sc.names.lookup x=some .cell\/ct.sc.names.lookup x=some .free)->(X.env.scope.names.lookup x=some .cell\/X.env.scope.names.lookup x=some .free)
 gl:∀x,ct.sc.names.lookup x=some .globalImplicit->X.env.kindOf x=some .globalImplicit
section
def du.hO(h:du xp k g pg Φ X ct)(q:ζ.js ct.sc x=true):ft X.env.scope x:=by
 unfold ζ.js at q;simp only[adq,ab6]at q;rcases q with(q|q)|q
 .exact .inl (h.lc x q)
 .exact .inr (h.rJ x (.inl q))
 .exact .inr (h.rJ x (.inr q))
def du.sa(h:du xp k g pg Φ X ct)(q:ζ.kr ct.sc x=true):eV X x:=by
 unfold ζ.kr at q;exact h.gl x (by simpa using q)
def fX(h:ζ.okN x=true):(x==("__debug__":Str))=false/\(x==("__classdict__":Str))=false/\x≠"__name__":=by
 unfold ζ.okN at h;simp only[abt,acf]at h;exact⟨h.1.1,h.1.2,λz=>by rw[z]at h;exact absurd h.2 ∅⟩
theorem du.blt(h:du xp k g pg Φ X ct)(q:ζ.fv g ct.sc x=true)(aC:x∈ra):eV X x/\X.aZ x=none:=by
 unfold ζ.fv at q;simp only[abt,acf]at q;exact⟨h.sa q.1.1.1,h.da.blt x aC⟩
end
noncomputable def oM(v:Bool):fj:=if v then .view else .val
structure Res(xp:dA)(X:a7)(ao:List Nat)(v fr:Bool)(x:Expr)(f:bx->cu D):Prop where
 e9:aS X x (bp xp X ao (oM v) f)
 fresh:fr=true->aS X x (bp xp X ao .fresh f)
 pt:eI X x (fZ xp X ao f)
 oY:(∃op ak p,x=.BoolOp op ak p)->mA X x (fZ xp X ao f)
section
theorem Res.view(h:Res xp X ao v fr x f):aS X x (bp xp X ao .view f):=aS.view h.e9
theorem Res.val(h:Res xp X ao false fr x f):aS X x (bp xp X ao .val f):=h.e9
def Hw(h:aS X x (bp xp X ao .val f)):aS X x (bp xp X ao (oM v) f):=by
 cases v with
 |true=>exact aS.view h
 |false=>exact h
def Res.qE(h:aS X x (bp xp X ao .val f))(aH:∀whole,isTrue x X.env whole=(do let v <- whole;standAt x.pos;holding [v] (truthy v)))(ae:∀op ak p,x≠.BoolOp op ak p)(hf:fr=false):Res xp X ao v fr x f :=
 ⟨Hw h,λz=>(by rw[hf]at z;cases z),o5 (aS.view h) aH,λ⟨op,ak,p,e⟩=>absurd e (ae op ak p)⟩
def Res.oT(h:aS X x (bp xp X ao .fresh f))(aH:∀whole,isTrue x X.env whole=(do let v <- whole;standAt x.pos;holding [v] (truthy v)))(ae:∀op ak p,x≠.BoolOp op ak p):Res xp X ao v fr x f :=
 ⟨Hw (aS.val h),λ_=>h,o5 (aS.view h) aH,λ⟨op,ak,p,e⟩=>absurd e (ae op ak p)⟩
def Res.oS(h:∀m,aS X x (bp xp X ao m f))(aH:eI X x (fZ xp X ao f))(ae:∀op ak p,x≠.BoolOp op ak p):Res xp X ao v fr x f :=
 ⟨h _,λ_=>h _,aH,λ⟨op,ak,p,e⟩=>absurd e (ae op ak p)⟩
end
def td(N xs):(ζ.mask N xs).length=N.length:=by unfold ζ.mask;rw[List.length_map]
structure rb(ct:ζ.dC)(scope:Scope)(xs:List Str):Prop where
 kind:scope.kind=.function
 nA:∀y∈scope.names,y.2≠.cell
 names:∀y∈scope.names,y.2=.local->scope.names.lookup y.1=some .local
 fh:∀y∈xs,scope.names.lookup y=some .local
 loc:∀y∈scope.names,y.2=.local->y.1∈xs\/y.1=(".0":Str)
 fr:∀y∈scope.names,y.2=.free->ct.sc.names.lookup y.1=some .cell\/ct.sc.names.lookup y.1=some .free
 same:∀p∈(ζ.mask ct.N xs).zip ct.N,p.1=p.2\/scope.names.lookup p.1=none
 ea:(ζ.mask ct.N xs++xs).Nodup
 dot:(".0":Str)∉ζ.mask ct.N xs++xs
section
def rb.block(aF:du xp k g pg Φ X ct)(b:rb ct scope xs):pq X scope xs (ζ.mask ct.N xs++xs) where
 kind:=b.kind
 nA:=b.nA
 names:=b.names
 loc:=λy h=>b.loc (y,.local) (ace h) rfl
 fh:=b.fh
 fr:=λy aQ e=>aF.rJ y.1 (b.fr y aQ e)
 len:=by rw[abw,td,aF.nm]
 old:=λi y aj e af=>by
  rw[aF.nm]at aj ⊢;rw[abH (by rw[td];exact aj)]at e;have hz:((ζ.mask ct.N xs).zip ct.N)[i]?=some (y,ct.N[i]):=by
   rw[List.getElem?_zip_eq_some];exact⟨e,aby aj⟩
  have hm:=b.same _ (acL hz);have aQ:y∈ζ.mask ct.N xs:=acL e;rcases hm with hm|hm
  .refine⟨by have hm:y=ct.N[i]:=hm;rw[aby aj,<- hm],λai=>?_,λz=>b.dot (List.mem_append_left _ (z▸aQ))⟩;exact(ada.mp b.ea).2.2 y aQ y ai rfl
  .simp only at hm;rw[hm]at af;cases af
 new:=λj=>by
  rw[aF.nm,abW (by rw[td];lia),td];congr 1;lia
 ea:=b.ea
def rb.ok(aF:du xp k g pg Φ X ct)(b:rb ct scope xs)(s3)(bq)(bB)(pins):du xp k g pg Φ (gZ X scope (ζ.mask ct.N xs++xs) s3 bq bB pins) ⟨ζ.mask ct.N xs++xs,scope,ct.ao⟩ where
 da:=aF.da
 room:=aF.room
 units:=aF.units
 calm:=aF.calm
 nm:=rfl
 ea:=b.ea
 ao:=λi aj=>by
  have:=aF.ao i aj;show i<(ζ.mask ct.N xs++xs).length;rw[abw,td];lia
 lc:=λx h=>wd h ∅
 rJ:=λx h=>by
  rcases h with h|h
  .exact absurd rfl (b.nA _ (ace h))
  .exact Bp h
 gl:=λx h=>wd h ∅
end
def LH(h:ζ.rE ct sc xs=true):rb ct sc xs:=by
 unfold ζ.rE at h;rw[abt,abt,abt,abt,abt,abt,abt,abt,abt]at h;obtain⟨⟨⟨⟨⟨⟨⟨⟨⟨J,aa⟩,aJ⟩,aW⟩,_⟩,cb⟩,eF⟩,gQ⟩,c3⟩,p6⟩:=h;exact {
  kind:=of_decide_eq_true J
  nA:=λy aQ=>by simpa using ab1.mp aa y aQ
  names:=λy aQ e=>by
   have:=ab1.mp aJ y aQ;rw[e]at this;simpa using this
  fh:=λy aQ=>by
   have:=ab1.mp aW y aQ;simp only[abt,ab6]at this;exact this.1
  loc:=λy aQ e=>by
   have:=ab1.mp cb y aQ;rw[e]at this;simpa using this
  fr:=λy aQ e=>by
   have:=ab1.mp eF y aQ;rw[e]at this;simpa using this
  same:=λp aB=>by
   have:=ab1.mp gQ p aB;simpa using this
  ea:=of_decide_eq_true c3
  dot:=by simpa using p6 }
section
def WJ(F:kc X.prog X.w X.K X.aZ X.base (jw X.prog X.w xp) k fn fd a3 (o8 X.K φ a3.length))(a4:f6 k X.A)(aY:eV X x)(hm:X.aZ x=some (.ref fn))(ay:W.keepIn X.K (.ref fn)=true)(ae:Binds X.K fd a3 [])(aw:fQ X (e::ak) (nK xp X ao bC))(aA:∀ds,ds.length≠a3.length->φ ds=.bad)(jL:(x==("__debug__":Str))=false)(he:starEach (e::ak) X.env=(false,eval e X.env)::starEach ak X.env)(d6:(backTo pos (starEach ak X.env)).any (·.1)=false):
  aS X (.Call (.Name x p) (e::ak) [] pos) (bp xp X ao .val λρ=>bC ρ>>=λds=>φ ds):=by
 intro pins s σ H Q I ⟨G,ρ,af,hw⟩;refine UT (dvs:=[]) (ds:=[]) (E:=DZ xp X) F a4 aY hm ay ae .nil UP aw jL he d6 pins s σ H Q I ?_;have hw:=bz.mp hw;refine⟨G,ρ,af,?_⟩;cases q:bC ρ with
 |ok ds =>
  rw[q]at hw;intro ag aL H1 aT aG;rw[adb]
  by_cases hlen:ds.length=a3.length
  .refine⟨by rw[<- aG.length];exact hlen,aL,ds,aT.sub,(af.ext aT).dT,aG,?_⟩;refine b8 hw (λd k v cn aX b7 aV=>k v cn aX (aT.trans b7) aV) λc z aX aa de hU=>?_
   injection hU with hU _;have:c=de:=⋯;subst this;exact(z.mono aT.h).mono aa
  .have hw:cS (φ ds) _ _:=hw;rw[aA ds hlen]at hw;exact hw.elim
 |exc c=>rw[q]at hw;exact hw
 |bad=>rw[q]at hw;exact hw
end
section
variable{xp:dA}{k:Nat}{g:ζ.Gt}{pg:ζ.eM}{Φ:ζ.e3}
def LA(o)(x y:D)(c):ζ.eE o x y≠.exc c:=by
 refine G9 ?_ c;cases o<;>cases x<;>first|rfl|(cases y<;>first|rfl|exact nz rfl rfl|exact nz (nz rfl rfl) rfl)
def S9(d:D)(c):ζ.lW d≠.exc c:=by
 intro h;cases d<;>simp only[ζ.lW]at h<;>first|(cases h;done)|(split at h<;>cases h)
def X0(d:D)(c):(ζ.er d>>=λxs=>ζ.sorted xs)≠.exc c:=by
 intro h;have key:∀xs:List D,ζ.sorted xs≠.exc c:=λxs h=>by
  unfold ζ.sorted at h
  split at h<;>cases h
 cases d with
 |tup xs=>exact key xs h
 |lst xs=>exact key xs h
 |_=>cases h
def Xv(d:D)(c):(ζ.er d>>=λxs=>ζ.R.ok (ζ.D.lst xs))≠.exc c:=by
 intro h;cases d<;>cases h
def Xx(d:D)(c):(ζ.er d>>=λxs=>ζ.R.ok (ζ.D.tup xs))≠.exc c:=by
 intro h;cases d<;>cases h
def KW(d:D)(c):(ζ.er d>>=λxs=>ζ.mG xs>>=λb=>ζ.R.ok (ζ.D.aU b))≠.exc c:=by
 intro h;have key:∀xs:List D,(ζ.mG xs>>=λb=>ζ.R.ok (ζ.D.aU b))≠.exc c:=λxs h=>by
  unfold ζ.mG at h;cases q:ζ.ie xs<;>rw[q]at h<;>cases h
 cases d with
 |tup xs=>exact key xs h
 |lst xs=>exact key xs h
 |_=>cases h
def K1(d:D)(c):(ζ.er d>>=λxs=>ζ.mH xs>>=λb=>ζ.R.ok (ζ.D.aU b))≠.exc c:=by
 intro h;have key:∀xs:List D,(ζ.mH xs>>=λb=>ζ.R.ok (ζ.D.aU b))≠.exc c:=λxs h=>by
  unfold ζ.mH at h;cases q:ζ.ie xs<;>rw[q]at h<;>cases h
 cases d with
 |tup xs=>exact key xs h
 |lst xs=>exact key xs h
 |_=>cases h
def Yg(d:D)(c):(ζ.qt d>>=λxs=>ζ.kY xs)≠.exc c:=by
 intro h;cases d with
 |lst xs =>
  have h:ζ.kY xs=.exc c:=h;unfold ζ.kY at h
  split at h<;>cases h
 |_=>cases h
def TA(d:D)(c):(ζ.qt d>>=λxs=>ζ.kN xs)≠.exc c:=by
 intro h;cases d with
 |lst xs =>
  have h:ζ.kN xs=.exc c:=h;unfold ζ.kN at h
  split at h<;>cases h
 |_=>cases h
def iG{x y:Str}(h:(x==y)=true):x=y:=by simpa using h
def Xb{m:fj}(aF:du xp k g pg Φ X ct)(aB:ζ.tC p=true)(ai:x=ζ.tB p)(ae:ζ.fv g ct.sc x=true)(aw:aS X e (bp xp X ao .view f))(aC:nice e=true):
  aS X (.Call (.Name x q) [e] [] pos) (bp xp X ao .fresh λρ=>f ρ>>=λd=>ζ.kS pg.up p d):=by
 cases p with
 |len =>
  subst ai;obtain⟨J,aa⟩:=aF.blt ae ∅;exact qM (m:=.fresh) S9 f_len J aa (by kernel_rfl) aw ∅ ∅ (hN aC)
 |sorted =>
  subst ai;obtain⟨J,aa⟩:=aF.blt ae ∅;exact qM (m:=.fresh) X0 (Pk aF.calm aF.units) J aa (by kernel_rfl) aw ∅ ∅ (hN aC)
 |sum =>
  subst ai;obtain⟨J,aa⟩:=aF.blt ae ∅;exact qM (m:=.fresh) Yg (Pl aF.calm) J aa (by kernel_rfl) aw ∅ ∅ (hN aC)
 |max =>
  subst ai;obtain⟨J,aa⟩:=aF.blt ae ∅;exact qM (m:=.fresh) TA (Pf aF.calm) J aa (by kernel_rfl) aw ∅ ∅ (hN aC)
 |all =>
  subst ai;obtain⟨J,aa⟩:=aF.blt ae ∅;exact qM (m:=.fresh) KW (O4 aF.calm) J aa (by kernel_rfl) aw ∅ ∅ (hN aC)
 |any =>
  subst ai;obtain⟨J,aa⟩:=aF.blt ae ∅;exact qM (m:=.fresh) K1 (O5 aF.calm) J aa (by kernel_rfl) aw ∅ ∅ (hN aC)
 |eR=>cases aB
def qN(aF:du xp k g pg Φ X ct)(h:ζ.uN o op=true):dt X (compareOp op) (hi X.K (ζ.dX o)):=by
 cases o<;>cases op<;>first|(cases h;done)|skip
 .exact LS aF.units
 .exact LY aF.units
 .exact LX aF.units
 .exact LW
 .exact LU
 .exact LV aF.units
 .exact LZ aF.units
def WI(h:ζ.Hj o op=true):dt X (binaryOp op) (l9 X.K (ζ.eE o)):=by
 cases o<;>cases op<;>first|(cases h;done)|skip
 .exact Nn
 .exact Nw
 .exact Nu
 .exact Nq
 .exact Nt
 .exact Np
 .exact Nx
def SS(h:nice c=true):lastMarks [op,op'] [b,c]=false:=GG h
def boot_isinstance:bootBuiltins "isinstance"=some (.builtin "isinstance"):=by kernel_rfl
end
section
variable{xp:dA}{k:Nat}{g:ζ.Gt}{pg:ζ.eM}{Φ:ζ.e3}
variable(xp k g pg Φ) in
structure ka (n:Nat):Prop where
 e:∀(e:ζ.E)(x:Expr)(ct:ζ.dC)(v:Bool)(X:a7),sizeOf e<n->du xp k g pg Φ X ct->ζ.bZ g ct v e x=true->Res xp X ct.ao v (ζ.kq e) x (λρ=>ζ.ev pg Φ ρ e)
 a:∀(a:ζ.A)(ak:List Expr)(ct:ζ.dC)(X:a7),sizeOf a<n->du xp k g pg Φ X ct->ζ.mO g ct a ak=true->fQ X ak (nK xp X ct.ao λρ=>ζ.hV pg Φ ρ a)/\(∀e∈ak,nice e=true)/\∀ρ ds,ζ.hV pg Φ ρ a=.ok ds->ds.length=ak.length
 o:∀(o:ζ.O)(x:Option Expr)(ct:ζ.dC)(X:a7),sizeOf o<n->du xp k g pg Φ X ct->ζ.rK g ct o x=true->kg X x (qX xp X ct.ao λρ=>ζ.mX pg Φ ρ o)
 i:∀(s:ζ.I)(x:Expr)(ct:ζ.dC)(v:Bool)(X:a7)(dH:Expr),sizeOf s<n->du xp k g pg Φ X ct->ζ.gL g ct v s x=true->(ζ.nD s=true->∃elts j p,dH=.Tuple elts j p)->ht X dH x (j4 xp X ct.ao (oM v) λρ=>ζ.g7 pg Φ ρ s)/\nice x=true
def GI(v):oM v=.view\/oM v=.val:=by cases v<;>simp[oM]
def Li(aF:du xp k g pg Φ X ct)(h:(ct.N[i]?==some x&&ζ.js ct.sc x&&ζ.okN x&&(v||!ct.ao.contains i))=true):Res xp X ct.ao v (ζ.kq (.var i)) (.Name x p) (λρ=>ζ.ev pg Φ ρ (.var i)):=by
 simp only[abt,ab6,adq,acf]at h;obtain⟨⟨⟨J,aa⟩,aJ⟩,aW⟩:=h;obtain⟨bR,b3,lC⟩:=fX aJ;have aP:X.N[i]?=some x:=by rw[aF.nm];exact J
 have aN:=aF.hO aa;refine⟨?_,λz=>(by cases z),o5 (II aP aN bR b3) λ_=>rfl,λ⟨_,_,_,z⟩=>(by cases z)⟩;cases v with
 |true=>exact II aP aN bR b3
 |false =>
  rcases aW with aW|aW
  .cases aW
  .exact Xo (λz=>by rw[acn.mpr z]at aW;cases aW) aP aN bR b3
def K6(aE:ka xp k g pg Φ n)(aF:du xp k g pg Φ X ct)(af:sizeOf a<n)(h:(g.fns[f]?==some x&&ζ.kr ct.sc x&&ζ.okN x&&!ak.isEmpty&&ζ.mO g ct a ak)=true):
  Res xp X ct.ao v (ζ.kq (.call f a)) (.Call (.Name x p) ak [] pos) (λρ=>ζ.ev pg Φ ρ (.call f a)):=by
 simp only[abt,ab6,acf]at h;obtain⟨⟨⟨⟨J,aa⟩,aJ⟩,aW⟩,cb⟩:=h;obtain⟨bR,b3,lC⟩:=fX aJ;obtain⟨p1,p2,p3⟩:=aE.a a ak ct X af aF cb;obtain⟨bh,fd,a3,e1,ar,bo,eK,oa⟩:=aF.da.fn f x J;cases ak with
 |nil=>cases aW
 |cons e ak =>
  exact Res.qE (WJ eK aF.room (aF.sa aa) e1 ar bo p1 oa bR (tX (p2 e List.mem_cons_self)) (Vq λz hz=>p2 z (List.mem_cons_of_mem _ hz))) (λ_=>rfl) (λ_ _ _ z=>by cases z) rfl
def Du(h:ζ.gL g ct v (.ep a) x=true):∃m p y pos,x=.Call (.Name m p) [y] [] pos/\m="range"/\ζ.fv g ct.sc m=true/\ζ.bZ g ct true a y=true:=by
 rw[ζ.gL]at h
 split at h
 .rename_i m y e1;obtain⟨p,pos,rfl⟩:=j6 e1;simp only[abt]at h;exact⟨m,p,y,pos,rfl,iG h.1.1,h.1.2,h.2⟩
 .cases h
def Lb(aE:ka xp k g pg Φ n){v:Bool}(aF:du xp k g pg Φ X ct)(af:sizeOf s<=n)(h:(x==("tuple":Str)&&ζ.fv g ct.sc x&&ζ.wz s&&ζ.gL g ct true s e)=true):
  aS X (.Call (.Name x p) [e] [] pos) (bp xp X ct.ao .val λρ=>ζ.ev pg Φ ρ (.tupI s)):=by
 simp only[abt]at h;obtain⟨⟨⟨J,aa⟩,aJ⟩,aW⟩:=h;have J:=iG J;subst J;obtain⟨g1,g2⟩:=aF.blt aa ∅;cases s with
 |seq a =>
  rw[ζ.gL]at aW;have r:=aE.e a e ct true X (by simp at af;lia) aF aW;have e1:(λρ=>ζ.ev pg Φ ρ (.tupI (.seq a)))=λρ=>ζ.ev pg Φ ρ a>>=λd=>ζ.er d>>=λds=>.ok (.tup ds):=funext λρ=>by
   rw[ζ.yZ,ζ.u0];cases ζ.ev pg Φ ρ a<;>rfl
  rw[e1];exact IA (m:=.val) Xx Pn g1 g2 (by kernel_rfl) r.view ∅ ∅ (hN (fW aW))
 |ep a =>
  obtain⟨m,aO,y,ba,rfl,k1,k2,k3⟩:=Du aW;obtain⟨g3,oi⟩:=aF.blt k2 (by rw[k1];decide);have r:=aE.e a y ct true X (by simp at af;lia) aF k3;exact Xn aF.calm k1 rfl g3 oi g1 g2 r.view (hN (fW k3))
 |_=>cases aJ
def La(aE:ka xp k g pg Φ n){v:Bool}(aF:du xp k g pg Φ X ct)(af:sizeOf s<=n)(h:(x==("list":Str)&&ζ.fv g ct.sc x&&ζ.wz s&&ζ.gL g ct true s e)=true):
  aS X (.Call (.Name x p) [e] [] pos) (bp xp X ct.ao .fresh λρ=>ζ.ev pg Φ ρ (.kI s)):=by
 simp only[abt]at h;obtain⟨⟨⟨J,aa⟩,aJ⟩,aW⟩:=h;have J:=iG J;subst J;obtain⟨g1,g2⟩:=aF.blt aa ∅;cases s with
 |seq a =>
  rw[ζ.gL]at aW;have r:=aE.e a e ct true X (by simp at af;lia) aF aW;have e1:(λρ=>ζ.ev pg Φ ρ (.kI (.seq a)))=λρ=>ζ.ev pg Φ ρ a>>=λd=>ζ.er d>>=λds=>.ok (.lst ds):=funext λρ=>by
   rw[ζ.Eh,ζ.u0];cases ζ.ev pg Φ ρ a<;>rfl
  rw[e1];exact IA (m:=.fresh) Xv f_list g1 g2 (by kernel_rfl) r.view ∅ ∅ (hN (fW aW))
 |ep a =>
  obtain⟨m,aO,y,ba,rfl,k1,k2,k3⟩:=Du aW;obtain⟨g3,oi⟩:=aF.blt k2 (by rw[k1];decide);have r:=aE.e a y ct true X (by simp at af;lia) aF k3;exact W5 aF.calm k1 rfl g3 oi g1 g2 r.view (hN (fW k3))
 |_=>cases aJ
def CU(aE:ka xp k g pg Φ n)(aF:du xp k g pg Φ X ct)(af:sizeOf e<n/\sizeOf s<n/\sizeOf c<n){pos:Pos}(ay:ζ.fh j t=some xs)(h:((!ζ.nD s||j==2)&&ζ.rE ct sc xs&&ζ.gL g ct true s it&&ζ.bZ g ⟨ζ.mask ct.N xs++xs,sc,ct.ao⟩ false e x&&ζ.n7 g ⟨ζ.mask ct.N xs++xs,sc,ct.ao⟩ c ifs)=true):
  pq X sc xs (ζ.mask ct.N xs++xs)/\(∀z,foldedSetIterable it X.env z=pure z)/\ht X t it (j4 xp X ct.ao .view λρ=>ζ.g7 pg Φ ρ s)/\(∀s3 bq bB pins,aS (gZ X sc (ζ.mask ct.N xs++xs) s3 bq bB pins) x (bp xp (gZ X sc (ζ.mask ct.N xs++xs) s3 bq bB pins) ct.ao .val λρ=>ζ.ev pg Φ ρ e)) /\
   rr xp X ct.ao sc (ζ.mask ct.N xs++xs) ifs (λρ=>ζ.mW pg Φ ρ c)/\(λρ=>ζ.ev pg Φ ρ (.comp e j s c))=λρ=>ζ.g7 pg Φ ρ s>>=λds=>ζ.l5 (ζ.dj (i6 j (λρ=>ζ.mW pg Φ ρ c) (λρ=>ζ.ev pg Φ ρ e) ρ) ds)>>=λys=>.ok (.lst ys):=by
 simp only[abt]at h;obtain⟨⟨⟨⟨h0,J⟩,vg⟩,ET⟩,gf⟩:=h;have B:=LH J;have z4:ζ.nD s=true->∃elts j p,t=.Tuple elts j p:=λaB=>by
  rw[aB]at h0;have aI:j=2:=(by simpa using h0);subst aI;cases t with
  |Tuple elts j p=>exact⟨elts,j,p,rfl⟩
  |_=>simp only[ζ.fh]at ay;cases ay
 obtain⟨d9,fz⟩:=aE.i s it ct true X t af.2.1 aF vg z4;refine⟨B.block aF,set_plain fz,d9,λs3 bq bB pins=>(aE.e e x _ false _ af.1 (B.ok aF s3 bq bB pins) ET).e9,?_,rfl⟩;cases c with
 |none =>
  cases ifs with
  |nil=>exact .inl ⟨rfl,rfl⟩
  |cons _ _=>unfold ζ.n7 at gf;cases gf
 |some ar =>
  match ifs,gf with
  |[],gf=>unfold ζ.n7 at gf;cases gf
  |[b7],gf =>
   refine .inr ⟨b7,λρ=>ζ.ev pg Φ ρ ar,rfl,rfl,λs3 bq bB pins=>?_⟩;have gf:ζ.bZ g ⟨ζ.mask ct.N xs++xs,sc,ct.ao⟩ true ar b7=true:=(by unfold ζ.n7 at gf;exact gf);exact(aE.e ar b7 _ true _ (by have:=af.2.2;simp at this;lia) (B.ok aF s3 bq bB pins) gf).pt
  |_::_::_,gf=>unfold ζ.n7 at gf;cases gf
end
section
variable{xp:dA}{k:Nat}{g:ζ.Gt}{pg:ζ.eM}{Φ:ζ.e3}{n:Nat}
def Gd{ak:List Expr}(h:ak.length<=1000):ak.length<=sizeLine:=by rw[sizeLine_eq];lia
def ZL(h:ζ.w1 g ct x a=some e):∃y p q,a=.Call (.Name y p) [e] [] q/\(x==("sorted":Str))=true/\ζ.fv g ct.sc x=true/\(y==("set":Str))=true/\ζ.fv g ct.sc y=true:=by
 unfold ζ.w1 at h
 split at h
 .rename_i y b ar;obtain⟨py,p1,rfl⟩:=j6 ar
  split at h
  .rename_i ah;cases h;simp only[abt]at ah;exact⟨y,py,p1,rfl,ah.1.1.1,ah.1.1.2,ah.1.2,ah.2⟩
  .cases h
 .cases h
def q2{ct:ζ.dC}{x:Str}{q:ζ.dW}{ak:List Expr}{e:Expr}(h:(match ak with|[e]=>if ζ.tC q&&x==ζ.tB q&&ζ.fv g ct.sc x then some e else none|_=>none)=some e):ak=[e]/\ζ.tC q=true/\(x==ζ.tB q)=true/\ζ.fv g ct.sc x=true:=by
 match ak,h with
 |[a],h =>
  simp only at h
  split at h
  .rename_i ah;cases h;simp only[abt]at ah;exact⟨rfl,ah.1.1,ah.1.2,ah.2⟩
  .cases h
def Ld(aE:ka xp k g pg Φ n)(aF:du xp k g pg Φ X ct)(af:sizeOf a<n)(aN:ζ.Kc g ct x pr ak=some e)(h:ζ.bZ g ct true a e=true):
  Res xp X ct.ao v (ζ.kq (.prim pr a)) (.Call (.Name x p) ak [] pos) (λρ=>ζ.ev pg Φ ρ (.prim pr a)):=by
 have one:∀{q:ζ.dW},ak=[e]/\ζ.tC q=true/\(x==ζ.tB q)=true/\ζ.fv g ct.sc x=true->Res xp X ct.ao v (ζ.kq (.prim q a)) (.Call (.Name x p) ak [] pos) (λρ=>ζ.ev pg Φ ρ (.prim q a)):=λ{q} ⟨h0,J,aa,aJ⟩=>by
  subst h0;have cw:=aE.e a e ct true X af aF h;exact Res.oT (Xb (m:=.fresh) aF J (iG aa) aJ cw.view (fW h)) (λ_=>rfl) (λ_ _ _ z=>by cases z)
 cases pr with
 |eR =>
  match ak,aN with
  |[bk],aN =>
   have aN:ζ.w1 g ct x bk=some e:=aN;obtain⟨y,p1,p2,rfl,J,aa,aJ,aW⟩:=ZL aN;obtain⟨g1,g2⟩:=aF.blt aa (by rw[iG J];decide);obtain⟨g3,oi⟩:=aF.blt aW (by rw[iG aJ];decide);have cw:=aE.e a e ct true X af aF h;exact Res.oT (Xk aF.calm aF.units (iG J) (iG aJ) g1 g2 g3 oi cw.view (hN (fW h))) (λ_=>rfl) (λ_ _ _ z=>by cases z)
 |len=>exact one (q2 aN)
 |sorted=>exact one (q2 aN)
 |sum=>exact one (q2 aN)
 |max=>exact one (q2 aN)
 |all=>exact one (q2 aN)
 |any=>exact one (q2 aN)
def J3{n k:Str}(h:ζ.wZ z=some (n,k)):∃p1 p2 pos,z=.Subscript (.Name n p1) (.Name k p2) pos:=by
 unfold ζ.wZ at h
 split at h
 .rename_i x y e1;obtain⟨pos,rfl⟩:=w0 e1
  split at h
  .rename_i cv cL ar bo;cases h;obtain⟨p1,rfl⟩:=ho ar;obtain⟨p2,rfl⟩:=ho bo;exact⟨p1,p2,pos,rfl⟩
  .cases h
 .cases h
def ZD{n k:Str}(h:ζ.Ci z=some (n,k)):∃p1 p2 pos,z=.Dict [some (.Name n p1)] [.Name k p2] pos:=by
 unfold ζ.Ci at h
 split at h
 .cases h;exact⟨_,_,_,rfl⟩
 .cases h
def Al(h:ζ.vF z=true):∃nE,z=.Dict [] [] nE:=by
 unfold ζ.vF at h
 split at h
 .exact⟨_,rfl⟩
 .cases h
def th{n:Str}(h:ζ.oP ct i n=true):ct.N[i]?=some n/\ζ.js ct.sc n=true/\ζ.okN n=true/\i∈ct.ao:=by
 unfold ζ.oP at h;simp only[abt,ab6]at h;exact⟨h.1.1.1,h.1.1.2,h.1.2,acn.mp h.2⟩
def tA{n:Str}(h:ζ.oX ct i n=true):ct.N[i]?=some n/\ζ.js ct.sc n=true/\ζ.okN n=true/\i∉ct.ao:=by
 unfold ζ.oX at h;simp only[abt,ab6,acf]at h;exact⟨h.1.1.1,h.1.1.2,h.1.2,λz=>by rw[acn.mpr z]at h;cases h.2⟩
def xx{n:Str}(h:ζ.rt ct i n=true):ct.N[i]?=some n/\ζ.js ct.sc n=true/\ζ.okN n=true:=by
 unfold ζ.rt at h;simp only[abt,ab6]at h;exact⟨h.1.1,h.1.2,h.2⟩
def JW{n:Str}(h:ζ.Cc x=some (o,n,p)):x=.Attribute o n p:=by
 cases x with
 |Attribute o n p=>cases h;rfl
 |_=>exact nn h
def JV{x n:Str}(h:ζ.wW z=some (x,n,ap,y)):∃p ew,z=.Call (.Attribute (.Name x p) n ap) [y] [] ew:=by
 unfold ζ.wW at h
 split at h
 .rename_i f Ko e1;obtain⟨ew,rfl⟩:=Cf e1
  split at h
  .rename_i o cv aag ar;obtain rfl:=JW ar
   split at h
   .rename_i pl bo;obtain⟨p,rfl⟩:=ho bo;cases h;exact⟨p,ew,rfl⟩
   .cases h
  .cases h
 .cases h
def X9(aE:ka xp k g pg Φ n)(e)(x)(ct)(v)(X)(af:sizeOf e<n+1)(aF:du xp k g pg Φ X ct)(h:ζ.bZ g ct v e x=true):Res xp X ct.ao v (ζ.kq e) x (λρ=>ζ.ev pg Φ ρ e):=by
 cases e with
 |var i =>
  rw[ζ.bZ]at h
  split at h
  .rename_i y e1;obtain⟨p,rfl⟩:=ho e1;exact Li aF h
  .cases h
 |lit d =>
  rw[ζ.bZ]at h
  split at h
  .rename_i c e1;obtain⟨d2,p,rfl⟩:=wY e1;exact Res.oS (λm=>ID h) (o5 (ID h) λ_=>rfl) λ_ _ _ z=>by cases z
  .cases h
 |tup a =>
  rw[ζ.bZ]at h
  split at h
  .rename_i ak e1;obtain⟨j,p,rfl⟩:=ZI e1;simp only[abt,abN]at h;obtain⟨p1,p2,p3⟩:=aE.a a ak ct X (by simp at af;lia) aF h.1;exact Res.qE (Xm p1 λρ ds q=>by rw[p3 ρ ds q];exact Gd h.2) (λ_=>rfl) (λ_ _ _ z=>by cases z) rfl
  .cases h
 |lst a =>
  rw[ζ.bZ]at h
  split at h
  .rename_i ak e1;obtain⟨p,rfl⟩:=ZG e1;simp only[abt,abN]at h;obtain⟨p1,p2,p3⟩:=aE.a a ak ct X (by simp at af;lia) aF h.1;exact Res.oT (W4 p1 λρ ds q=>by rw[p3 ρ ds q];exact Gd h.2) (λ_=>rfl) (λ_ _ _ z=>by cases z)
  .cases h
 |bin op a b =>
  rw[ζ.bZ]at h
  split at h
  .rename_i x o y e1;obtain⟨p,rfl⟩:=JX e1;simp only[abt]at h;have cw:=aE.e a x ct true X (by simp at af;lia) aF h.1.2;have dU:=aE.e b y ct true X (by simp at af;lia) aF h.2;exact Res.oT (WH (LA op) (WI h.1.1) cw.view dU.view) (λ_=>rfl) (λ_ _ _ z=>by cases z)
  .cases h
 |not a =>
  rw[ζ.bZ]at h
  split at h
  .rename_i x e1;obtain⟨p,rfl⟩:=J6 e1;have cw:=aE.e a x ct true X (by simp at af;lia) aF h;exact Res.oS (λm=>W8 cw.view) (W9 cw.pt) λ_ _ _ z=>by cases z
  .cases h
 |cmp op a b =>
  rw[ζ.bZ]at h
  split at h
  .rename_i x o y e1;obtain⟨p,rfl⟩:=JY e1;simp only[abt]at h;have cw:=aE.e a x ct true X (by simp at af;lia) aF h.1.2;have dU:=aE.e b y ct true X (by simp at af;lia) aF h.2;have hm:=GG (op:=o) (fW h.2);exact Res.oS (λm=>WK (qN aF h.1.1) cw.view dU.view hm) (WN (qN aF h.1.1) cw.view dU.view hm) λ_ _ _ z=>by cases z
  .cases h
 |rO op op' a b c =>
  rw[ζ.bZ]at h
  split at h
  .rename_i x o bt y z e1;obtain⟨p,rfl⟩:=JY e1;simp only[abt]at h;obtain⟨⟨⟨⟨J,aa⟩,aJ⟩,aW⟩,cb⟩:=h;have cw:=aE.e a x ct true X (by simp at af;lia) aF aJ;have dU:=aE.e b y ct true X (by simp at af;lia) aF aW;have rc:=aE.e c z ct true X (by simp at af;lia) aF cb;have hm:=SS (op:=o) (op':=bt) (b:=y) (fW cb);exact Res.oS (λm=>WL (qN aF J) (qN aF aa) cw.view dU.view rc.view hm) (WM (qN aF J) (qN aF aa) cw.view dU.view rc.view hm) λ_ _ _ z=>by cases z
  .cases h
 |and a b =>
  rw[ζ.bZ]at h
  split at h
  .rename_i x y p e1;obtain rfl:=Ce e1;simp only[abt]at h;have cw:=aE.e a x ct true X (by simp at af;lia) aF h.1;have dU:=aE.e b y ct v X (by simp at af;lia) aF h.2;have oY:=Iw (pos:=p) cw.pt (VO dU.pt);exact⟨Iv cw.view (Hx dU.e9),λz=>(by cases z),oY.pt,λ_=>oY⟩
  .rename_i x y z r p e1;obtain rfl:=Ce e1;simp only[abt]at h;have cw:=aE.e a x ct true X (by simp at af;lia) aF h.1;have dU:=aE.e b _ ct v X (by simp at af;lia) aF h.2;have oY:=Iw (pos:=p) cw.pt (dU.oY ⟨_,_,_,rfl⟩);exact⟨Iv cw.view dU.e9,λz=>(by cases z),oY.pt,λ_=>oY⟩
  .cases h
 |idx a b =>
  rw[ζ.bZ]at h
  split at h
  .rename_i x y e1;obtain⟨p,rfl⟩:=w0 e1;simp only[abt]at h;have cw:=aE.e a x ct true X (by simp at af;lia) aF h.1;have dU:=aE.e b y ct true X (by simp at af;lia) aF h.2;exact Res.qE (WZ cw.view dU.view (So (fW h.2))) (λ_=>rfl) (λ_ _ _ z=>by cases z) rfl
  .cases h
 |slice a lo aj =>
  rw[ζ.bZ]at h
  split at h
  .rename_i x y e1;obtain⟨p,rfl⟩:=w0 e1
   split at h
   .rename_i l u ar;obtain⟨tr,rfl⟩:=ZH ar;simp only[abt]at h;have cw:=aE.e a x ct true X (by simp at af;lia) aF h.1.1;have tK:=aE.o lo l ct X (by simp at af;lia) aF h.1.2;have Wg:=aE.o aj u ct X (by simp at af;lia) aF h.2;exact Res.oT (Xj cw.view tK Wg) (λ_=>rfl) (λ_ _ _ z=>by cases z)
   .cases h
  .cases h
 |call f a =>
  rw[ζ.bZ]at h
  split at h
  .rename_i x ak e1;obtain⟨p,q,rfl⟩:=j6 e1;exact K6 aE aF (by simp at af;lia) h
  .cases h
 |prim pr a =>
  rw[ζ.bZ]at h
  split at h
  .rename_i x ak e1;obtain⟨p,q,rfl⟩:=j6 e1
   split at h
   .rename_i e ar;exact Ld aE aF (by simp at af;lia) ar h
   .cases h
  .cases h
 |ig i j =>
  rw[ζ.bZ]at h
  split at h
  .rename_i cv cL e1;obtain⟨p1,p2,pos,rfl⟩:=J3 e1;rw[abt]at h;obtain⟨a1,a2,eX⟩:=xx h.1;obtain⟨b1,b2,el,gK⟩:=tA h.2;obtain⟨bR,b3,_⟩:=fX eX;obtain⟨f1,f2,_⟩:=fX el;have aB:∀m,aS X (.Subscript (.Name cv p1) (.Name cL p2) pos) (bp xp X ct.ao m λρ=>ζ.lF ρ[i]? ρ[j]?):=λm=>WQ aF.units gK (by rw[aF.nm];exact a1) (aF.hO a2) bR b3 (by rw[aF.nm];exact b1) (aF.hO b2) f1 f2
   exact Res.oS aB (o5 (aB .view) λ_=>rfl) λ_ _ _ z=>by cases z
  .cases h
 |kH i j =>
  rw[ζ.bZ]at h
  split at h
  .rename_i x cv ap y e1;obtain⟨p1,ew,rfl⟩:=JV e1
   split at h
   .rename_i cL ar;obtain⟨p2,rfl⟩:=ho ar;simp only[abt]at h;obtain⟨⟨⟨J,aa⟩,aJ⟩,aW⟩:=h;obtain⟨a1,a2,eX⟩:=xx aJ;obtain⟨b1,b2,el⟩:=xx aW;obtain⟨bR,b3,_⟩:=fX eX;obtain⟨f1,f2,_⟩:=fX el;have aB:∀m,aS X (.Call (.Attribute (.Name x p1) cv ap) [.Name cL p2] [] ew) (bp xp X ct.ao m λρ=>ζ.qr ρ[i]? ρ[j]?):=λm=>W3 aF.units (iG J) aa (by rw[aF.nm];exact a1) (aF.hO a2) bR b3 (by rw[aF.nm];exact b1) (aF.hO b2) f1 f2
    exact Res.oS aB (o5 (aB .view) λ_=>rfl) λ_ _ _ z=>by cases z
   .cases h
  .cases h
 |pR i j =>
  rw[ζ.bZ]at h
  split at h
  .rename_i cv cL e1;obtain⟨p1,p2,pos,rfl⟩:=ZD e1;rw[abt]at h;obtain⟨a1,a2,eX,ia⟩:=tA h.1;obtain⟨b1,b2,el,gK⟩:=tA h.2;obtain⟨bR,b3,_⟩:=fX eX;obtain⟨f1,f2,_⟩:=fX el;exact Res.qE (WR ia gK (by rw[aF.nm];exact a1) (aF.hO a2) bR b3 (by rw[aF.nm];exact b1) (aF.hO b2) f1 f2) (λ_=>rfl) (λ_ _ _ z=>by cases z) rfl
  .cases h
 |pS =>
  rw[ζ.bZ]at h;obtain⟨nE,rfl⟩:=Al h;exact Res.qE WU (λ_=>rfl) (λ_ _ _ z=>by cases z) rfl
 |neg a =>
  rw[ζ.bZ]at h
  split at h
  .rename_i x e1;obtain⟨p,rfl⟩:=J6 e1;have cw:=aE.e a x ct true X (by simp at af;lia) aF h;exact Res.oS (λm=>IE cw.view) (o5 (IE cw.view) λ_=>rfl) λ_ _ _ z=>by cases z
  .cases h
 |ite c a b =>
  rw[ζ.bZ]at h
  split at h
  .rename_i x y w e1;obtain⟨p,rfl⟩:=ZF e1;simp only[abt]at h;have rc:=aE.e c x ct true X (by simp at af;lia) aF h.1.1;have cw:=aE.e a y ct false X (by simp at af;lia) aF h.1.2;have dU:=aE.e b w ct false X (by simp at af;lia) aF h.2;refine⟨?_,λz=>(by cases z),W2 rc.pt cw.pt dU.pt,λ⟨_,_,_,z⟩=>(by cases z)⟩;cases v with
   |true=>exact IC rc.pt cw.view dU.view
   |false=>exact IC rc.pt cw.val dU.val
  .cases h
 |tupI s =>
  rw[ζ.bZ]at h
  split at h
  .rename_i x e e1;obtain⟨p,q,rfl⟩:=j6 e1;exact Res.qE (Lb (v:=v) aE aF (by simp at af;lia) h) (λ_=>rfl) (λ_ _ _ z=>by cases z) rfl
  .cases h
 |kI s =>
  rw[ζ.bZ]at h
  split at h
  .rename_i x e e1;obtain⟨p,q,rfl⟩:=j6 e1;exact Res.oT (La (v:=v) aE aF (by simp at af;lia) h) (λ_=>rfl) (λ_ _ _ z=>by cases z)
  .cases h
 |comp e j s c =>
  rw[ζ.bZ]at h
  split at h
  .rename_i x t it ifs sc e1;obtain⟨p,rfl⟩:=J0 e1
   split at h
   .rename_i xs ay;obtain⟨B,d9,fz,kD,sO,Ad⟩:=CU (pos:=p) aE aF (by simp at af;lia) ay h;rw[Ad];exact Res.oT (Bx aF.calm (by rw[aF.nm];exact aF.ao) B ay d9 fz kD sO) (λ_=>rfl) (λ_ _ _ z=>by cases z)
   .cases h
  .cases h
def X7(aE:ka xp k g pg Φ n)(a)(ak)(ct)(X)(af:sizeOf a<n+1)(aF:du xp k g pg Φ X ct)(h:ζ.mO g ct a ak=true):fQ X ak (nK xp X ct.ao λρ=>ζ.hV pg Φ ρ a)/\(∀e∈ak,nice e=true)/\∀ρ ds,ζ.hV pg Φ ρ a=.ok ds->ds.length=ak.length:=by
 unfold ζ.mO at h
 split at h
 .exact⟨W6,by simp,λρ ds q=>by rw[ζ.Ea]at q;cases q;rfl⟩
 .rename_i e a x xs;simp only[abt]at h;have re:=aE.e e x ct false X (by simp at af;lia) aF h.1;obtain⟨p1,p2,p3⟩:=aE.a a xs ct X (by simp at af;lia) aF h.2;refine⟨WO re.val p1 (tX (fW h.1)),λz hz=>?_,λρ ds q=>?_⟩
  .rcases abA.mp hz with rfl|hz
   .exact fW h.1
   .exact p2 z hz
  .rw[ζ.D9]at q;cases aO:ζ.ev pg Φ ρ e with
   |ok d =>
    rw[aO]at q;simp only[ζ.R.jk]at q;cases ba:ζ.hV pg Φ ρ a with
    |ok NI=>rw[ba]at q;cases q;simp[p3 ρ NI ba]
    |exc c=>rw[ba]at q;cases q
    |bad=>rw[ba]at q;cases q
   |exc c=>rw[aO]at q;cases q
   |bad=>rw[aO]at q;cases q
 .cases h
def Ya(aE:ka xp k g pg Φ n)(o)(x)(ct)(X)(af:sizeOf o<n+1)(aF:du xp k g pg Φ X ct)(h:ζ.rK g ct o x=true):kg X x (qX xp X ct.ao λρ=>ζ.mX pg Φ ρ o):=by
 unfold ζ.rK at h
 split at h
 .exact W7
 .rename_i e x;exact Xa (aE.e e x ct true X (by simp at af;lia) aF h).view
 .cases h
def stepI(aE:ka xp k g pg Φ n)(s)(x)(ct)(v)(X)(dH)(af:sizeOf s<n+1)(aF:du xp k g pg Φ X ct)(h:ζ.gL g ct v s x=true)(aB:ζ.nD s=true->∃elts j p,dH=.Tuple elts j p):
  ht X dH x (j4 xp X ct.ao (oM v) λρ=>ζ.g7 pg Φ ρ s)/\nice x=true:=by
 cases s with
 |seq e =>
  rw[ζ.gL]at h;exact⟨W0 (GI v) (aE.e e x ct v X (by simp at af;lia) aF h).e9,fW h⟩
 |ep a =>
  rw[ζ.gL]at h
  split at h
  .rename_i x y e1;obtain⟨VP,p,rfl⟩:=j6 e1;simp only[abt]at h;obtain⟨⟨J,aa⟩,aJ⟩:=h;obtain⟨g1,g2⟩:=aF.blt aa (by rw[iG J];decide);have cw:=aE.e a y ct true X (by simp at af;lia) aF aJ;exact⟨Xg (iG J) g1 g2 cw.view (hN (fW aJ)),rfl⟩
  .cases h
 |qL a b =>
  rw[ζ.gL]at h
  split at h
  .rename_i x y z e1;obtain⟨VP,p,rfl⟩:=j6 e1;simp only[abt]at h;obtain⟨⟨⟨J,aa⟩,aJ⟩,aW⟩:=h;obtain⟨g1,g2⟩:=aF.blt aa (by rw[iG J];decide);have cw:=aE.e a y ct true X (by simp at af;lia) aF aJ;have dU:=aE.e b z ct true X (by simp at af;lia) aF aW;exact⟨Xh (iG J) g1 g2 cw.view dU.view (X6 (fW aJ) (fW aW)) (hN (fW aW)),rfl⟩
  .cases h
 |mU i =>
  rw[ζ.gL]at h
  split at h
  .rename_i cv e1;obtain⟨p,rfl⟩:=ho e1;obtain⟨a1,a2,eX,ia⟩:=tA h;obtain⟨bR,b3,_⟩:=fX eX;exact⟨WY (GI v) ia (by rw[aF.nm];exact a1) (aF.hO a2) bR b3,rfl⟩
  .cases h
theorem n0:∀n,ka xp k g pg Φ n
 |0=>⟨λ_ _ _ _ _ h=>⋯,λ_ _ _ _ h=>⋯,λ_ _ _ _ h=>⋯,λ_ _ _ _ _ _ h=>⋯⟩
 |n+1=>⟨X9 (n0 n),X7 (n0 n),Ya (n0 n),stepI (n0 n)⟩
def jZ(aF:du xp k g pg Φ X ct)(h:ζ.bZ g ct v e x=true):Res xp X ct.ao v (ζ.kq e) x (λρ=>ζ.ev pg Φ ρ e):=(n0 (sizeOf e+1)).e e x ct v X (adl _) aF h
end
def Uw(x:d7 P w H h a o):∃u,h.get? a=some u:=by
 cases o with
 |lst xs=>obtain⟨_,_,_,_,e⟩:=x;exact⟨_,e⟩
 |tup xs=>obtain⟨_,_,_,o,e,_⟩:=x;exact⟨_,e⟩
 |dY ax=>obtain⟨_,_,_,_,o,_,_,e,_⟩:=x;exact⟨_,e⟩
 |ey ax=>obtain⟨_,_,_,_,o,_,_,e,_⟩:=x;exact⟨_,e⟩
 |set S n=>obtain⟨o,_,_,_,e,_⟩:=x;exact⟨_,e⟩
 |ins C bj bC=>obtain⟨_,_,_,e,_⟩:=x;exact⟨_,e⟩
 |own y=>exact x
 |w6 bC=>obtain⟨_,⟨_,_,_,e,_⟩,_⟩:=x;exact⟨_,e⟩
 |ep lo aj=>obtain⟨_,_,_,e⟩:=x;exact⟨_,e⟩
 |eh b5 u=>obtain⟨e,_⟩:=x;exact⟨_,e⟩
 |nM a3=>exact⟨_,x⟩
 |met f y=>exact⟨_,x⟩
 |ext φ=>exact x.2.1
def A1(x:ed P w H h)(e:h.get? a=none):H a=none:=by
 cases q:H a with
 |none=>rfl
 |some o=>obtain⟨u,z⟩:=Uw (x a o q);rw[e]at z;cases z
section
def AY{pins:List (Addr×Obj)}{σ:dp}{s:Shared}{l:List Addr}(I:Inv X pins σ H s)(nw:∀a∈l,hr X pins H a)(keep:∀b o,s.heap.get? b=some o->b∉l->b∉gd X.stack->h'.get? b=some o)(slot:∀b o,s.heap.get? b=some o->b∈gd X.stack->∃bM,h'.get? b=some { o with slots:=bM }):Inv X pins σ H { s with heap:=h',toks:=t' }:=by
 have any:∀b o,s.heap.get? b=some o->b∉l->∃bM,h'.get? b=some { o with slots:=bM }:=λb o e n=>by
  by_cases ae:b∈gd X.stack
  .exact slot b o e ae
  .exact⟨o.slots,keep b o e n ae⟩
 have old:∀b o,X.eS.heap.get? b=some o->b∉X.ex->b∉l:=λb o e ai ae=>by
  rcases(nw b ae).2.1 with z|z
  .exact ai z
  .rw[e]at z;cases z
 have Ue:∀b o,X.eS.heap.get? b=some o->b∉X.bC->b∉gd X.stack:=λb o e ae q=>by
  rcases abA.mp (I.pb b q) with z|z
  .exact absurd (abG (abC e) I.ok.above) (by rw[z];exact acQ _)
  .exact ae z
 have cellK:∀x c,X.env.cells.lookup x=some c->∀v,s.heap.IsCell c v->h'.IsCell c v:=λx c e v ⟨o,az,hd⟩=>by
  obtain⟨bM,q⟩:=any c o az λz=>(nw c z).2.2.2.1 x c e rfl
  exact⟨_,q,hd⟩
 refine⟨I.ok,I.os,I.bare,⟨λb o e n ae ai=>?_,λb o e n ae ai=>?_,I.base.free,λb o e ai=>?_,I.base.jq,I.base.iH,I.base.jo⟩,?_,λx c e=>?_,I.free,I.hE,λp aB=>?_,λa o e=>?_,I.len⟩
 .exact keep b o (I.base.keep b o e n ae ai) (old b o e ai) (Ue b o e ae)
 .obtain⟨bM,e1⟩:=I.base.slot b o e n ae ai;obtain⟨BJ,ar⟩:=any b _ e1 (old b o e ai);exact⟨BJ,ar⟩
 .obtain⟨bt,e1⟩:=I.base.there b o e ai;obtain⟨bM,ar⟩:=any b bt e1 (old b o e ai);exact⟨_,ar⟩
 .obtain⟨m,⟨o,ak,a8,az,hd,r⟩,aA⟩:=I.loc;obtain⟨bM,e⟩:=any _ o az λz=>(nw _ z).2.2.1 rfl
  refine⟨m,⟨_,ak,a8,e,hd,r⟩,λi x v e1 ar bo=>?_⟩;obtain⟨u,r,q⟩:=aA i x v e1 ar bo;refine⟨u,r,?_⟩;rcases q with q|⟨k,c,e,z⟩
  .exact .inl q
  .exact .inr ⟨k,c,e,cellK x c e _ z⟩
 .obtain⟨v,z⟩:=I.cell x c e;exact⟨v,cellK x c e v z⟩
 .obtain⟨e,n,ne,iR,d⟩:=I.pin p aB;exact⟨keep p.1 p.2 e (λz=>(nw _ z).2.2.2.2 p aB rfl) (λz=>(abA.mp (I.pb _ z)).elim ne iR),n,ne,iR,d⟩
 .refine(I.bL a o e).jn (λb u ae q=>?_) (λ_ q=>q) λ_ _ q=>q
  have eP:H b≠none:=by
   rcases ae with z|z
   .rw[z,e];exact λy=>nomatch y
   .rw[z];exact λy=>nomatch y
  exact keep b u q (λz=>eP (nw b z).1) λz=>eP (I.BS b z)
end
noncomputable def uH:List Value:=[.type "ValueError",.type "Exception",.type "BaseException",.type "object"]
structure pw(aZ:Str->Option Value)(base:Heap)(cl:Nat->Option Addr)(c:Nat)(x:Str)(C:Addr):Prop where
 at_:cl c=some C
 aZ:aZ x=some (.ref C)
 b5:∃(newId:String)(bm:List Value)(N:Addr)(nm q:Str)(bs:List Value)(hdct:Bool)(sn:List Str)(sub:List Value)(ab:Bool)(col:Option Bool)(dd:Option Addr)(k0 k1 k2 k3 k5:Option Value),
  base.get? C=some (excClassObj nm q C N bs bm hdct sn sub ab col dd k0 k1 k2 k3 k5 newId)/\bm.contains (.type "BaseException")=true
structure px(K:W.Frag)(base:Heap)(cl:Nat->Option Addr)(up:Nat->List Nat)(C:Addr):Prop where
 at_:cl 1=some C
 pj:(up 1).contains 1000=true
 b5:∃(newId rd vB:String)(uG bm:List Value)(N:Addr)(nm q:Str)(bs:List Value)(hdct:Bool)(sn:List Str)(sub:List Value)(ab:Bool)(col:Option Bool)(dd:Option Addr)(k0 k1 k2 k3 k5:Option Value)(mN:Str->Option Value),
  ExcBaseFacts rd newId vB uG/\uH.contains (.type rd)=true/\base.get? C=some (excClassObj nm q C N bs bm hdct sn sub ab col dd k0 k1 k2 k3 k5 newId)/\base.Ns N mN/\mN "__init__"=none/\OwnTail base uH bm/\ek.Plain K C bm /\
  ∀k D,cl k=some D->(Value.ref C::bm).contains (.ref D)=(up 1).contains k
section
variable{X:a7}{pins:List (Addr×Obj)}{σ:dp}{H:aD}{s:Shared}{h':Heap}{l:List Addr}{cl:Nat->Option Addr}{up:Nat->List Nat}{x n:Str}{C:Addr}{ao:List Nat}{np p fm pos:Pos}
def Xc(uq:pw X.aZ X.base cl 1 x C)(O:px X.K X.base cl up C)(ah:X.calm=true)(aY:eV X x)(hd:(x==("__debug__":Str))=false):
  dz X (.Raise (some (.Call (.Name x np) [.Constant (.str t) j p] [] fm)) none pos) (dm (ek.fJ cl) X ao λ_=>.exc 1):=by
 intro pins s σ H T I ⟨bw,bc,G,ρ,ae,hw⟩;obtain⟨newId,rd,vB,uG,bm,N,nm,q,bs,hdct,sn,sub,ab,col,dd,k0,k1,k2,k3,k5,mN,e3,zl,d0,aP,lO,Tl,_⟩:=O.b5;refine wpAny_Raise_call_subU (C:=C) (nm:=nm) (q:=q) (N:=N) (bs:=bs) (bm:=bm) (hdct:=hdct) (sn:=sn) (sub:=sub) (ab:=ab) (col:=col) (dd:=dd) (k0:=k0) (k1:=k1) (k2:=k2) (k3:=k3) (k5:=k5)
  e3 zl F.excBase_ValueError (mN:=mN) (Tl.hasType rfl) (I.ok.hd ah) rfl lO (vK I aY uq.aZ ⟨rfl,?_⟩ hd)
 have aw:=(oW A9 tu:fQ X [.Constant (.str t) j p] _) fm pins s σ H (λag H1=>ag.length=1/\H1=H) I ⟨rfl,rfl⟩;refine Calls.evalArgs_plain (bK aw λus s2 ⟨ag,H1,a6,r,e⟩=>⟨rfl,by show us.length<=sizeLine;rw[<- r.length,e.1];decide,a6.hv _ _ d0,aP.keeps a6.hv,Tl.keeps a6.hv,λh' bI hm=>?_⟩)
 .obtain⟨_,rfl⟩:=e;exact hw pins σ H1 { s2 with heap:=h' } (.ref bI) [bI] (a6.kept (t':=s2.toks) hm.keeps) ae.ext.h (λa aw=>by
   obtain rfl:a=bI:=(by simpa using aw);exact .of a6 hm.new (A1 a6.bL hm.new)) (ek.made O.at_ hm)
noncomputable def Yr(j:Nat)(bI:Addr)(v:V):TE:=λσ H Q=>σ[j]?=some (some (.ref bI))/\∀bq,bE H bq->Q v bq
noncomputable def Ju(j:Nat)(bI:Addr)(v:V):f7:=λT σ H=>σ[j]?=some (some (.ref bI))/\∀bq,bE H bq->T.cI v bq
def CC(aZ:Str->Option Value)(base:Heap)(cl:Nat->Option Addr)(up:Nat->List Nat)(v:V)(b:Bool):Prop:=(v=.ty "ValueError"/\b=true)\/∃k y D,v=.ref D/\pw aZ base cl k y D/\b=(up 1).contains k
def L1(O:px X.K X.base cl up C)(aB:(bI,eb)∈X.cA)(dQ:eb.cls=.ref C):
  g0 X (.builtin "isinstance") (λxs H Q=>∃v b,xs=[.ref bI,v]/\CC X.aZ X.base cl up v b/\Q (.aU b) H):=by
 intro pins s σ H xs us Q I r ⟨v,b,ex,aN,q⟩;subst ex;obtain⟨u,wR,rfl,cC,Iq⟩:=vals2 r;cases cC;have he:=(I.pin (bI,eb) (List.mem_append_left _ aB)).1;obtain⟨newId,rd,vB,uG,bm,N,nm,cN,bs,hdct,sn,sub,ab,col,dd,k0,k1,k2,k3,k5,mN,e3,zl,d0,aP,lO,Tl,P,ae⟩:=O.b5;have d0:=I.hv _ _ d0;rcases aN with⟨rfl,rfl⟩|⟨k,y,D,rfl,i3,rfl⟩
 .cases Iq;exact ek.Sf he dQ d0 (by kernel_rfl) (Tl.hasType rfl) ⟨.aU true,H,I,rfl,q⟩
 .cases Iq;obtain⟨_,_,_,_,_,_,_,_,_,_,_,_,_,_,_,_,_,eG,_⟩:=i3.b5;have eG:=I.hv _ _ eG;have hm:=ae k D i3.at_;cases e:(up 1).contains k with
  |true =>
   rw[e]at hm q;exact ek.Se he dQ d0 eG rfl ⟨_,rfl⟩ hm ⟨.aU true,H,I,rfl,q⟩
  |false =>
   rw[e]at hm q;exact ek.Sd I.oH P he dQ d0 eG rfl ⟨_,rfl⟩ hm ⟨.aU false,H,I.tok _,rfl,q⟩
variable{g:ζ.Gt}{ct:ζ.dC}
structure CA(X:a7)(g:ζ.Gt)(ct:ζ.dC)(cl:Nat->Option Addr):Prop where
 gl:∀x,ζ.kr ct.sc x=true->eV X x
 aU:∀x,ζ.fv g ct.sc x=true->x∈ra->eV X x/\X.aZ x=none
 pj:X.aZ "ValueError"=none
 own:∀(c:Nat)(x:Str),g.cls[c]?=some x->∃C,pw X.aZ X.base cl c x C
def Hv(O:px X.K X.base cl up C)(e8:CA X g ct cl)(aB:(bI,eb)∈X.cA)(dQ:eb.cls=.ref C)(aI:X.N[j]?=some n)(aN:ft X.env.scope n)(vs:ζ.okN n=true)(h:ζ.uK g ct n k z=true):aS X z (Yr j bI (.aU ((up 1).contains k)))/\nice z=true:=by
 unfold ζ.uK at h
 split at h
 .rename_i f e d e1;obtain⟨bB,ew,rfl⟩:=j6 e1
  split at h
  .rename_i y t ar bo;obtain⟨p1,rfl⟩:=ho ar;obtain⟨p2,rfl⟩:=ho bo;simp only[abt,ab6]at h;obtain⟨⟨⟨⟨rfl,aa⟩,rfl⟩,aW⟩,cb⟩:=h;obtain⟨b1,b2⟩:=e8.aU _ aa ∅;obtain⟨bR,b3,lC⟩:=fX vs;have jO:∃v,aS X (.Name t p2) (pe v)/\CC X.aZ X.base cl up v ((up 1).contains k):=by
    simp only[ζ.tyB,abt]at aW;obtain⟨⟨g1,g2⟩,g3⟩:=aW;obtain⟨t1,e2,t3⟩:=fX g2
    by_cases fq:k=1000
    .rw[if_pos fq]at g3;simp only[abt,ab6]at g3;obtain⟨rfl,_⟩:=g3;subst fq;exact⟨.ty "ValueError",UR (e8.gl _ g1) e8.pj (by kernel_rfl) rfl,.inl ⟨rfl,O.pj⟩⟩
    .rw[if_neg fq]at g3;obtain⟨D,i3⟩:=e8.own k t (by simpa using g3);exact⟨.ref D,U0 (e8.gl _ g1) i3.aZ rfl t1,.inr ⟨k,t,D,rfl,i3,rfl⟩⟩
   obtain⟨v,Ro,ai⟩:=jO;refine⟨λpins s σ H Q I ⟨aO,ba⟩=>?_,rfl⟩;refine Hr (L1 O aB dQ) b1 b2 boot_isinstance (oW (gU aI aN bR b3) (oW Ro tu)) ∅ ∅ rfl rfl pins s σ H Q I ?_;exact⟨_,aO,v,_,rfl,ai,ba H (bE.refl H)⟩
  .cases h
 .cases h
end
section
variable{X:a7}{pins:List (Addr×Obj)}{σ:dp}{H:aD}{s:Shared}{h':Heap}{l:List Addr}{cl:Nat->Option Addr}{up:Nat->List Nat}{c:Nat}{x n:Str}{C:Addr}{ao:List Nat}{np p fm pos:Pos}
def PI(I:Inv X pins σ H s)(aC:h'.Ns X.env.locals m)(af:Heap.SameBut X.env.locals s.heap h'):Inv X pins (List.replicate X.N.length none) H { s with heap:=h',toks:=t' }:=by
 have old:∀b o,X.eS.heap.get? b=some o->b≠X.env.locals:=λb o e=>abP (abG (abC e) I.ok.above)
 have gB:∀b o,b≠X.env.locals->s.heap.get? b=some o->h'.get? b=some o:=λb o nb e=>by rw[af.2 b nb];exact e
 refine⟨I.ok,I.os,I.bare,⟨λb o e n ae ai=>?_,λb o e n ae ai=>?_,I.base.free,λb o e ai=>?_,I.base.jq,I.base.iH,I.base.jo⟩,⟨m,aC,λi x v e1 ar bo=>?_⟩,λx c e=>?_,I.free,I.hE,λp aB=>?_,λa o e=>?_,by simp⟩
 .exact gB b o (old b o e) (I.base.keep b o e n ae ai)
 .obtain⟨bM,e1⟩:=I.base.slot b o e n ae ai;exact⟨bM,gB b _ (old b o e) e1⟩
 .obtain⟨bt,e1⟩:=I.base.there b o e ai;exact⟨bt,gB b bt (old b o e) e1⟩
 .rw[adz]at ar
  split at ar<;>cases ar
 .obtain⟨v,o,az,hd⟩:=I.cell x c e;exact⟨v,o,gB c o (I.mR x c e) az,hd⟩
 .obtain⟨e,n,ne,iR,d⟩:=I.pin p aB;exact⟨gB _ _ ne e,n,ne,iR,d⟩
 .refine(I.bL a o e).jn (λb u ae q=>gB b u (λz=>?_) q) (λ_ q=>q) λ_ _ q=>q
  have hf:=I.free;rw[<- z]at hf;rcases ae with w|w
  .rw[w,e]at hf;cases hf
  .rw[w]at hf;cases hf
noncomputable abbrev oF(X:a7)(e:Value)(cA:List (Addr×Obj)):a7:={ X with A:=X.A.mark (some e),calm:=false,cA:=cA,cq:=λ_ _=>False }
noncomputable abbrev kE(X:a7)(cA:List (Addr×Obj))(E:Value->Shared->Prop):a7:={ X with cA:=cA,cq:=E }
def Zj(I:Inv X pins σ H s)(aB:∀p∈cA,s.heap.get? p.1=some p.2/\H p.1=none/\p.1≠X.env.locals/\p.1∉X.bC/\∀v,p.2.data≠.cell v):Inv (oF X e cA) [] σ H s :=
 ⟨⟨I.ok.mod,I.ok.kind,I.ok.glob,I.ok.blt,I.ok.above,I.ok.inj,I.ok.has,I.ok.rH,(λz=>nomatch z),I.ok.frames,I.ok.pa,I.ok.u4,I.ok.bs,I.ok.n6,I.ok.qB,I.ok.oe,I.ok.i8,I.ok.p0⟩,I.os,I.bare,I.base,I.loc,I.cell,I.free,I.hE,λp q=>aB p (by simpa using q),I.bL,I.len⟩
def Ur(aF:X.Ok)(I:Inv (oF X e cA) a3 σ H s)(aB:∀p∈X.cA++pins,p∈cA):Inv X pins σ H s :=
 ⟨aF,I.os,I.bare,I.base,I.loc,I.cell,I.free,I.hE,λp q=>I.pin p (List.mem_append_left _ (aB p q)),I.bL,I.len⟩
def Zk(I:Inv X pins σ H s)(aB:∀p∈cA,p∈X.cA++pins):Inv (kE X cA E) [] σ H s :=
 ⟨⟨I.ok.mod,I.ok.kind,I.ok.glob,I.ok.blt,I.ok.above,I.ok.inj,I.ok.has,I.ok.rH,I.ok.hd,I.ok.frames,I.ok.pa,I.ok.u4,I.ok.bs,I.ok.n6,I.ok.qB,I.ok.oe,I.ok.i8,I.ok.p0⟩,I.os,I.bare,I.base,I.loc,I.cell,I.free,I.hE,λp q=>I.pin p (aB p (by simpa using q)),I.bL,I.len⟩
def tp(aF:X.Ok)(I:Inv (kE X cA E) a3 σ H s)(aB:∀p∈X.cA++pins,p∈cA):Inv X pins σ H s :=
 ⟨aF,I.os,I.bare,I.base,I.loc,I.cell,I.free,I.hE,λp q=>I.pin p (List.mem_append_left _ (aB p q)),I.bL,I.len⟩
def hr.vS(I:Inv X pins σ H s)(h:hr X pins H a):a∉X.bC:=λae=>by
 rcases h.2.1 with z|z
 .exact I.ok.oe a z ae
 .obtain⟨_,o,az,_⟩:=I.ok.i8.mem ae;rw[z]at az;cases az
def hr.Ub(I:Inv X pins σ H s)(h:hr X pins H a):a∉gd X.stack:=λae=>by
 rcases abA.mp (I.pb a ae) with z|z
 .exact h.2.2.1 z
 .exact hr.vS I h z
def CB(X:a7)(cl:Nat->Option Addr)(af:List ExceptHandler)(bv:Str):Prop:=∀(pins:List (Addr×Obj))(s:Shared)(σ:dp)(H:aD)(T:Ends)(ev:Value)(l:List Addr),Inv X pins σ H s->(∀a∈l,hr X pins H a)->ek.fJ cl 1 ev l s.heap->(∀bq,bE H bq->T.cI (.str bv) bq) ->
 wpAny (model X.prog X.w) X.A (handleBy ev X.env af) (nW X pins T) X.cq s
def HE(I:Inv X pins σ H s)(jj:hr X pins H bI)(hd:eb.data=.fields ag)(he:s.heap.get? bI=some eb):Inv (oF X (.ref bI) (X.cA++pins++[(bI,eb)])) [] σ H s:=Zj I λp aB=>by
 rcases abU.mp aB with aB|aB
 .exact I.pin p aB
 .obtain rfl:p=(bI,eb):=(by simpa using aB);exact⟨he,jj.1,jj.2.2.1,hr.vS I jj,λv=>by show eb.data≠_;rw[hd];exact λz=>nomatch z⟩
section
variable{k:Nat}{D:Addr}{mK:Stmt}{st:List Stmt}{aB:Pos}{bv:Str}(O:px X.K X.base cl up C)(i3:pw X.aZ X.base cl k x D)(ay:(up 1).contains k=true)(nc:eV X x)(Fh:(x==("__debug__":Str))=false)
include O i3 ay nc Fh
def Ql(aP:X.N.Nodup)(aI:X.N[j]?=some n)(aC:X.env.scope.names.lookup n=some .local)(m4:∀(bI:Addr)(eb:Obj)(ag:Array Value)(cA:List (Addr×Obj)),eb.cls=.ref C->eb.data=.fields ag->ag[2]?=some .none->(bI,eb)∈cA->fk (oF X (.ref bI) cA) (mK::st) (Ju j bI (.str bv))):CB X cl [.ExceptHandler (some (.Name x np)) (some n) (mK::st) aB] bv:=by
 intro pins s σ H T ev l I nw ai fin;have FJ:=ai;obtain⟨bI,w9,eb,ag,rfl,ah,he,dQ,hd,aa,a4⟩:=ai;have lM:bI∈l:=by rcases a4 with⟨rfl,_⟩|⟨T,_,_,rfl,_⟩<;>simp
 obtain rfl:w9=C:=ab5 (ah.symm.trans O.at_);obtain⟨newId,rd,vB,uG,bm,N,nm,q,bs,hdct,sn,sub,ab,col,dd,k0,k1,k2,k3,k5,mN,e3,zl,d0,m5,lO,Tl,_,ae⟩:=O.b5;obtain⟨_,_,_,_,_,_,_,_,_,_,_,_,_,_,_,_,_,eG,d8⟩:=i3.b5;refine wpAny_handleBy_cons (codeAny_handlers_test (vK (X:=oF X (.ref bI) (X.cA++pins++[(bI,eb)])) (HE I (nw bI lM) hd he) nc i3.aZ ?_ Fh)) (by intro q;cases q);obtain⟨cD,P0,NQ,tk,os⟩:=s;refine ek.Tz (I.hv _ _ d0) (I.hv _ _ eG) he dQ d8 ((ae k D i3.at_).trans ay) (codeAny_handlers_suite_as (ek.Pz FJ λJ l1 zV i9=>?_));have ef:Inv X pins σ H { heap:=J,gens:=P0,drawn:=NQ,toks:=tk,os:=os }:=AY (t':=tk) I (l:=l1) (λa aw=>nw a (zV a aw).1) (λb o q ae _=>i9 b o q ae) λb o q ae=>⟨o.slots,i9 b o q λz=>hr.Ub I (nw b (zV b z).1) ae⟩
 refine wK (X:=oF X (.ref bI) (X.cA++pins++[(bI,eb)])) (HE ef (nw bI lM) hd (i9 bI eb he λz=>(zV bI z).2 rfl)) aP aI (.inl aC) (v:=.ref bI) rfl (λs5 kf=>?_) (.inr aC);refine acg (m4 bI eb ag _ dQ hd aa (by simp) [] s5 _ H { bJ:=λ_ _=>False,cI:=λv bq=>v=.str bv/\bE H bq } kf ⟨?_,λbq z=>⟨rfl,z⟩⟩) (λf tN q=>?_) λ_ _ z=>z.elim
 .have QP:j<σ.length:=(by rw[I.len];exact(abR.mp aI).1);exact wo QP
 .cases f with
  |ret u =>
   obtain⟨v,uc,i2,ps,tH,rfl,XQ⟩:=q;obtain⟨m,Ra,_⟩:=id ps.loc;refine wpAny_nameGoes (env:=X.env) (m:=m) aC Ra (by rw[I.ok.kind];rfl) λgQ aa7 Rb Rz=>?_
   exact⟨.str bv,_,i2,PI (Ur I.ok ps λp aB=>List.mem_append_left _ aB) Rb Rz,tH,fin i2 XQ⟩
  |next=>obtain⟨_,_,_,z⟩:=q;exact z.elim
  |brk=>obtain⟨_,_,_,z⟩:=q;exact z.elim
  |cont=>obtain⟨_,_,_,z⟩:=q;exact z.elim
end
noncomputable def qA(bw bc bq:aD):aD:=λb=>match bw b with
 |some o=>some o
 |none=>match bc b,bq b with
  |none,some (.tup xs)=>some (.tup xs)
  |_,_=>none
def OX(J:bE bc bq)(aa:bE bw bq):Ext bw bc (qA bw bc bq) bq:=by
 refine⟨λb o e=>by unfold qA;rw[e],J,λb o e=>?_,λb bY bV=>?_,λb xs e=>?_⟩
 .unfold qA at e;cases q:bw b with
  |some bt=>rw[q]at e;cases e;exact aa b _ q
  |none =>
   rw[q]at e;dsimp only at e
   split at e
   .rename_i xs _ b6;cases e;exact b6
   .cases e
 .unfold qA;rw[bY];dsimp only
  split
  .rename_i q _;exact absurd q bV
  .rfl
 .cases q:bc b with
  |some o=>have:=J b o q;rw[e]at this;cases this;exact .inl rfl
  |none =>
   refine .inr ?_;unfold qA;cases ba:bw b with
   |some o=>have:=aa b o ba;rw[e]at this;cases this;rfl
   |none=>rw[q,e]
def IH(c4:X.stack=X.env::X.outer/\X.env.frame=some X.env.locals)(zB:∀(cA:List (Addr×Obj))(E:Value->Shared->Prop),fk (kE X cA E) as (dm (ek.fJ cl) (kE X cA E) ao λρ=>ζ.lK pg Φ ρ cy aG bU aV c5))(iO:∀c,c≠1->ζ.i7 pg c k0 cD=.bad)(eP:ζ.i7 pg 1 k0 cD=.bad\/ζ.i7 pg 1 k0 cD=.ok (.cI (.str bv))/\CB X cl [h0] bv):
  dz X (.Try as [h0] [] [] pos) (dm (ek.fJ cl) X ao λρ=>ζ.ex pg Φ ρ (.pf cy aG bU aV c5 k0 cD)):=by
 intro pins s σ H T I ⟨bw,bc,G,ρ,ae,hw⟩;refine wpAny_Try_except ?_;have go:∀(aL H1:aD)(i1:Value->Shared->Prop),cc X.K ao aL H1 G H ρ σ->cS (ζ.lK pg Φ ρ cy aG bU aV c5) (ij X.K ao aL H1 T) (λc=>ff (ek.fJ cl) (kE X (X.cA++pins) i1) c H1) ->
   wpAny (model X.prog X.w) X.A (execs as X.env) (λf s1=>match f with|.next=>wpAny (model X.prog X.w) X.A (execs [] X.env) (nW X pins T) X.cq s1|f=>nW X pins T f s1) i1 s:=λaL H1 i1 ha RK=>by
  refine acg (zB (X.cA++pins) i1 [] s σ H T (Zk I λ_ z=>z) ⟨aL,H1,G,ρ,ha,RK⟩) (λf s1 q=>?_) λ_ _ q=>q
  cases f with
  |next=>obtain⟨cE,aq,ee,q⟩:=q;exact ad0 ⟨cE,aq,tp I.ok ee λ_ z=>z,q⟩
  |ret u=>obtain⟨v,cE,aq,ee,r,q⟩:=q;exact⟨v,cE,aq,tp I.ok ee λ_ z=>z,r,q⟩
  |brk=>obtain⟨cE,aq,ee,q⟩:=q;exact⟨cE,aq,tp I.ok ee λ_ z=>z,q⟩
  |cont=>obtain⟨cE,aq,ee,q⟩:=q;exact⟨cE,aq,tp I.ok ee λ_ z=>z,q⟩
 dsimp only at hw;rw[ζ.y2]at hw;cases q:ζ.lK pg Φ ρ cy aG bU aV c5 with
 |ok r =>
  rw[q,ζ.JM]at hw;exact go bw bc _ ae (by rw[q];exact hw)
 |bad=>rw[q]at hw;exact hw.elim
 |exc c =>
  rw[q,ζ.JL]at hw
  by_cases Fg:c=1
  .subst Fg;rcases eP with sI|⟨sI,eP⟩
   .rw[sI]at hw;exact hw.elim
   rw[sI]at hw;have ks:bE bw (hH bw bc):=λb o e=>nh e
   have Qe:bE bc (hH bw bc):=λb o e=>by
    cases z:bw b with
    |none=>rw[jd z];exact e
    |some bt =>
     have e1:=ae.ext.sub b bt (ae.ext.g b bt z);rw[ae.ext.h b o e]at e1;cases e1;exact nh z
   have fS:cc X.K ao bw (hH bw bc) G H ρ σ:=by
    refine⟨ae.b0,⟨ae.ext.g,λb o e=>?_,ae.ext.sub,λb bY bV=>?_,λb xs e=>.inr (ae.b0.dT b xs e)⟩,λcP ds b bY j8 bV dV=>?_⟩
    .cases z:bw b with
     |none=>rw[jd z]at e;exact ae.ext.h b o e
     |some bt=>rw[nh z]at e;cases e;exact ae.ext.sub b _ (ae.ext.g b _ z)
    .rw[jd bY]at bV;exact ae.ext.new b bY bV
    .obtain⟨g5,xs,k1,k2,k3,cF⟩:=ae.b0.lst cP ds bY bV j8;rw[k1]at dV;cases dV;rw[jd (ae.ext.g.free k3)];exact ae.own cP ds _ bY j8 bV k1
   refine go bw (hH bw bc) _ fS ?_;rw[q];intro Bb cE aq s' ev l a6 b0 nw ai;have ee:Inv X pins cE aq s':=tp I.ok a6 λ_ z=>z
   have Hh:∀a∈l,hr X pins aq a:=λa aw=>⟨(nw a aw).1,(nw a aw).2.1,(nw a aw).2.2.1,(nw a aw).2.2.2.1,λp aB=>(nw a aw).2.2.2.2 p (List.mem_append_left _ aB)⟩
   have e1:ek.fr (X.env::X.outer)=gd X.stack:=(by rw[c4.1];rfl);refine ek.note (base:=X.base) (outer:=X.outer) (by rw[ee.ok.frames,c4.1]) (by rw[<- c4.1];exact ee.stack) c4.2 ai λJ l1 oD zX ay qe=>?_
   rw[e1]at ay qe;have cx:Inv X pins cE aq { s' with heap:=J }:=AY (t':=s'.toks) ee Hh ay qe;have Uk:∀a∈l1,hr X pins aq a:=λa aw=>(zX a aw).elim (Hh a) λz=>.of ee z (A1 ee.bL z)
   exact eP pins _ cE aq T ev l1 cx Uk oD λbq s3=>hw (.str bv) (qA bw bc bq) bq (OX ((Qe.trans b0).trans s3) ((ks.trans b0).trans s3)) rfl
  .rw[iO c Fg]at hw;exact hw.elim
end
def tZ(h:ζ.pd x=some (ts,y)):∃p,x=.Assign ts y p:=by
 cases x with
 |Assign a b p=>cases h;exact⟨p,rfl⟩
 |_=>exact nn h
def Jt(h:ζ.BY x=some y):∃p,x=.Expr y p:=by
 cases x with
 |Expr a p=>cases h;exact⟨p,rfl⟩
 |_=>exact nn h
def qY(h:ζ.mi x=some y):∃p,x=.Return y p:=by
 cases x with
 |Return a p=>cases h;exact⟨p,rfl⟩
 |_=>exact nn h
def Jv(h:ζ.t2 x=some (t,a,b)):∃p,x=.If t a b p:=by
 cases x with
 |If t a b p=>cases h;exact⟨p,rfl⟩
 |_=>exact nn h
def Yq(h:ζ.wL x=some (t,it,a,b)):∃p,x=.For t it a b p:=by
 cases x with
 |For t it a b p=>cases h;exact⟨p,rfl⟩
 |_=>exact nn h
structure mv(xp:dA)(g:ζ.Gt)(pg:ζ.eM)(K:W.Frag)(aZ:Str->Option Value)(base:Heap):Prop where
 ex:∃cl C,xp=ek.fJ cl/\(∀(c:Nat)(x:Str),g.cls[c]?=some x->∃C,pw aZ base cl c x C)/\px K base cl pg.up C
 lo:∀k,k<2->(pg.up 1).contains k=true
 pj:aZ "ValueError"=none
structure lj(xp:dA)(g:ζ.Gt)(pg:ζ.eM)(X:a7)(ct:ζ.dC):Prop where
 cls:mv xp g pg X.K X.aZ X.base
 pa:X.stack=X.env::X.outer/\X.env.frame=some X.env.locals
 loc:∀x,ζ.jS ct.sc x=true->Loc X.env.scope x
 fn:∀x,X.fn x=true
 pass:PassesOwn (model X.prog X.w) X.A X.env X.cq
section
variable{xp:dA}{k:Nat}{g:ζ.Gt}{pg:ζ.eM}{Φ:ζ.e3}
def Ma(h:ζ.bZ g ct v e (.ListComp x m3 sc pos)=true):∃bk j s c t it ifs xs,e=.comp bk j s c/\m3=[⟨t,it,ifs,0⟩]/\ζ.fh j t=some xs /\
  ((!ζ.nD s||j==2)&&ζ.rE ct sc xs&&ζ.gL g ct true s it&&ζ.bZ g ⟨ζ.mask ct.N xs++xs,sc,ct.ao⟩ false bk x&&ζ.n7 g ⟨ζ.mask ct.N xs++xs,sc,ct.ao⟩ c ifs)=true:=by
 cases e with
 |comp bk j s c =>
  rw[ζ.bZ]at h
  split at h
  .rename_i pl t it ifs abh e1;obtain⟨p,ar⟩:=J0 e1;cases ar
   split at h
   .rename_i xs ay;exact⟨bk,j,s,c,t,it,ifs,xs,rfl,rfl,ay,h⟩
   .cases h
  .cases h
 |_=>exact(acB h).elim
def Mw(x):(∃y m3 sc pos,x=.ListComp y m3 sc pos)\/ζ.vQ x=true:=by
 cases x<;>first|exact .inr rfl|exact .inl ⟨_,_,_,_,rfl⟩
def K4 (aF : du xp k g pg Φ X ct) (qb : ∀ x, ζ.jS ct.sc x = true -> Loc X.env.scope x) (ou : ∀ x, X.fn x = true) (h : (ct.N[i]? == some x && ζ.jS ct.sc x && ζ.okN x && (!ct.ao.contains i || ζ.kq e) && ζ.bZ g ct false e y) = true) :
    dz X (.Assign [.Name x p] y pos) (dm xp X ct.ao fun ρ => ζ.ex pg Φ ρ (.asg i e)) := by
  simp only [abt, ab6, adq, acf] at h
  obtain ⟨⟨⟨⟨J, aa⟩, aJ⟩, aW⟩, cb⟩ := h
  have aP : X.N.Nodup := by rw [aF.nm]; exact aF.ea
  have aj : X.N[i]? = some x := by rw [aF.nm]; exact J
  have ai := qb x aa
  have hf : X.fn x = true \/ X.env.scope.names.lookup x = some .local := .inl (ou x)
  rcases Mw y with ⟨z, m3, sc, pos', rfl⟩ | ah
  · obtain ⟨bk, j, s, c, t, it, ifs, xs, rfl, rfl, ay, cD⟩ := Ma cb
    obtain ⟨B, d9, fz, kD, sO, Ad⟩ := CU (pos := pos') (n0 (xp := xp) (k := k) (pg := pg) (Φ := Φ) (sizeOf (ζ.E.comp bk j s c))) aF (by simp only [ζ.E.comp.sizeOf_spec]; lia) ay cD
    have e1 : (fun ρ => ζ.ex pg Φ ρ (.asg i (.comp bk j s c))) = fun ρ => (ζ.g7 pg Φ ρ s >>= fun ds => ζ.l5 (ζ.dj (i6 j (fun ρ => ζ.mW pg Φ ρ c) (fun ρ => ζ.ev pg Φ ρ bk) ρ) ds) >>= fun ys => .ok (.lst ys)) >>= fun d => .ok (.bJ (ρ.set i (some d))) := by
      funext ρ
      have := congrFun Ad ρ
      rw [ζ.El]
      rw [this]
    rw [e1]
    exact WG aF.calm (by rw [aF.nm]; exact aF.ao) B ay d9 fz kD sO aP aj ai hf
  · have r := jZ aF cb
    have jb := BV (t := some (.Name x p)) (n := pos.line) (env := X.env) (fW cb) ah
    by_cases hm : i ∈ ct.ao
    · have m8 : ζ.kq e = true := by
        rcases aW with aW | aW
        · rw [acn.mpr hm] at aW; cases aW
        · exact aW
      exact Iz hm aP aj ai (r.fresh m8) jb hf
    · exact Iy hm aP aj ai r.val jb hf
def K5(aF:du xp k g pg Φ X ct)(qb:∀x,ζ.jS ct.sc x=true->Loc X.env.scope x)(ou:∀x,X.fn x=true){st:Stmt}(h:ζ.yr g ct i e st=true):
  dz X st (dm xp X ct.ao λρ=>ζ.ex pg Φ ρ (.asg i e)):=by
 unfold ζ.yr at h
 split at h
 .rename_i t y e1;obtain⟨pos,rfl⟩:=tZ e1
  split at h
  .rename_i x ar;obtain⟨p,rfl⟩:=ho ar;exact K4 aF qb ou h
  .cases h
 .cases h
def CW{st:Stmt}(h:ζ.uL g ct i e nm st=true):∃x n ap y p1 ew p4,st=.Expr (.Call (.Attribute (.Name x p1) n ap) [y] [] ew) p4/\(ap.endLine==ew.line)=true/\ct.N[i]?=some x/\ζ.js ct.sc x=true/\ζ.okN x=true/\i∈ct.ao/\n=nm/\ζ.bZ g ct false e y=true:=by
 unfold ζ.uL at h
 split at h
 .rename_i c e1;obtain⟨pos,rfl⟩:=Jt e1
  split at h
  .rename_i x n ap y ar;obtain⟨p1,ew,rfl⟩:=JV ar;simp only[abt,ab6]at h;obtain⟨⟨⟨⟨⟨⟨h0,J⟩,aa⟩,aJ⟩,aW⟩,cb⟩,eF⟩:=h;have h0:ap.endLine=ew.line:=h0;exact⟨x,n,ap,y,p1,ew,pos,rfl,by simpa using h0,J,aa,aJ,acn.mp aW,cb,eF⟩
  .cases h
 .cases h
def Yz(h:ζ.B0 x=some y):∃p,x=.Raise (some y) none p:=by
 unfold ζ.B0 at h
 split at h
 .cases h;exact⟨_,rfl⟩
 .cases h
def YC(q:ζ.Jy x=some (a,h,e,f)):∃p,x=.Try a h e f p:=by
 cases x with
 |Try a h e f p=>cases q;exact⟨p,rfl⟩
 |_=>exact nn q
def Le(aF:du xp k g pg Φ X ct)(bb:lj xp g pg X ct){st:Stmt}(h:ζ.yy g ct c st=true):dz X st (dm xp X ct.ao λρ=>ζ.ex pg Φ ρ (.raise c)):=by
 unfold ζ.yy at h
 split at h
 .rename_i y e1;obtain⟨pos,rfl⟩:=Yz e1
  split at h
  .rename_i x a ar;obtain⟨np,ew,rfl⟩:=j6 ar
   split at h
   .rename_i t bo;obtain⟨j,p,rfl⟩:=wY bo;simp only[abt,ab6]at h;obtain⟨⟨⟨rfl,J⟩,aa⟩,aJ⟩:=h;obtain⟨cl,C,rfl,dQ,O⟩:=bb.cls.ex;obtain⟨w9,uq⟩:=dQ 1 x J;obtain rfl:w9=C:=ab5 (uq.at_.symm.trans O.at_);exact Xc uq O aF.calm (aF.sa aa) (fX aJ).1
   .cases h
  .cases h
 .cases h
def UG:dt X (binaryOp .Mult) (λx y H Q=>∃z,x=.str z/\y=.int 1/\Q (.str z) H):=by
 intro pins s σ H x y v u Q I bg bT ⟨z,ex,g8,q⟩;subst ex g8;obtain⟨t,rfl⟩:=bg;obtain⟨e2,rfl⟩:=bT;refine P.mul_str ∅ (λ_ z=>nomatch z) (λ_ z=>nomatch z) ?_;exact⟨.str z,H,I,⟨_,rfl⟩,q⟩
def VH(O:px X.K X.base cl up C)(e8:CA X g ct cl)(aB:(bI,eb)∈X.cA)(dQ:eb.cls=.ref C)(aI:X.N[j]?=some n)(aC:X.env.scope.names.lookup n=some .local)(vs:ζ.okN n=true)(h:ζ.yv g ct n k5 eY t=true)(aM:ζ.vx up k5 eY=true):fk X [t] (Ju j bI (.str ζ.h6)):=by
 unfold ζ.yv at h
 split at h
 .rename_i gG eK;obtain⟨p4,rfl⟩:=qY eK
  split at h
  .rename_i q v NT;obtain⟨abb,rfl⟩:=JX NT
   split at h
   .rename_i pY y uU;obtain⟨UL,UM,rfl⟩:=j6 uU
    split at h
    .rename_i gn iY rF oa;obtain rfl:=Ce oa;simp only[abt,ab6]at h;obtain⟨⟨⟨⟨eF,gQ⟩,gf⟩,rfl⟩,P7⟩:=h;unfold ζ.FZ at gf
     split at gf
     case h_2=>cases gf
     rename_i LK NR;obtain⟨aaS,abd,rfl⟩:=wY NR;obtain rfl:LK=ζ.h6:=(by simpa using gf);have aN:ft X.env.scope n:=.inl aC;obtain⟨el,gK⟩:=e8.aU _ P7 ∅;obtain⟨hK,aa5⟩:=Hv O e8 aB dQ aI aN vs eF;obtain⟨tH,aa6⟩:=Hv O e8 aB dQ aI aN vs gQ;have Bs:=Hs (pos:=UM) (p:=UL) L0 el gK (show bootBuiltins "int"=some (.type "int") by kernel_rfl) (oW (Hq (pos:=rF) hK (Hx tH)) tu) ∅ ∅ rfl rfl;unfold ζ.vx at aM;simp only[abt]at aM;obtain⟨mL,pK⟩:=aM;intro pins s σ H T I ⟨aO,ba⟩;refine Bi (tE (Hy UG A9 Bs)) pins s σ H T I ?_;refine⟨aO,λlb s5=>⟨_,rfl,?_⟩⟩;rw[mL,if_pos rfl];refine⟨aO,λi2 tN=>?_⟩;rw[pK];exact .inr ⟨_,rfl,_,rfl,rfl,ba i2 (s5.trans tN)⟩
    .cases h
   .cases h
  .cases h
 .cases h
def L8(h:ζ.yt g ct cL t=true):∃x np,t=.Name x np/\g.cls[cL]?=some x/\ζ.kr ct.sc x=true/\ζ.okN x=true:=by
 unfold ζ.yt at h
 split at h
 .rename_i x e1;obtain⟨np,rfl⟩:=ho e1;simp only[abt,ab6]at h;exact⟨x,np,rfl,h.1.1,h.1.2,h.2⟩
 .cases h
def FY{fc fr:bx->cu D}(ρ):BB (λρ=>fc ρ>>=λx=>ζ.eu x>>=λk=>if k then fr ρ>>=λd=>.ok (.cI d) else .ok (.bJ ρ)) g2 ρ=fc ρ>>=λx=>ζ.eu x>>=λk=>if k then fr ρ>>=λd=>.ok (.cI d) else g2 ρ:=by
 unfold BB;dsimp only;cases fc ρ with
 |ok x=>cases x with
  |aU b=>cases b with
   |true=>cases fr ρ<;>rfl
   |false=>rfl
  |_=>rfl
 |_=>rfl
def CY(aF:du xp k g pg Φ X ct){st:Stmt}(h:ζ.uM g ct e st=true):dz X st (dm xp X ct.ao λρ=>ζ.ev pg Φ ρ e>>=λd=>.ok (.cI d)):=by
 unfold ζ.uM at h
 split at h
 .rename_i y e1;obtain⟨pos,rfl⟩:=qY e1;exact IF (jZ aF h).val
 .cases h
def CV(aF:du xp k g pg Φ X ct){st:Stmt}(h:ζ.uJ g ct c r st=true):dz X st (dm xp X ct.ao λρ=>ζ.ev pg Φ ρ c>>=λx=>ζ.eu x>>=λk=>if k then ζ.ev pg Φ ρ r>>=λd=>.ok (.cI d) else .ok (.bJ ρ)):=by
 unfold ζ.uJ at h
 split at h
 .rename_i t y e1;obtain⟨pos,rfl⟩:=Jv e1;simp only[abt]at h;exact IB (jZ aF h.1).pt (Bi (CY aF h.2)) IG
 .cases h
def Lh(aF:du xp k g pg Φ X ct)(bb:lj xp g pg X ct){st:Stmt}(h:ζ.yB g ct cy aG bU aV c5 cL cD st=true):dz X st (dm xp X ct.ao λρ=>ζ.ex pg Φ ρ (.pf cy aG bU aV c5 cL cD)):=by
 unfold ζ.yB at h
 split at h
 .rename_i a1 a2 eX hd bo;obtain⟨pos,rfl⟩:=YC bo;simp only[abt,abN]at h;obtain⟨⟨⟨⟨h0,J⟩,aa⟩,aJ⟩,aW⟩:=h;obtain⟨cl,C,rfl,dQ,O⟩:=bb.cls.ex;have ay:=bb.cls.lo cL aJ;have B:∀(cA:List (Addr×Obj))(E:Value->Shared->Prop),fk (kE X cA E) [a1,a2,eX] (dm (ek.fJ cl) (kE X cA E) ct.ao λρ=>ζ.lK pg Φ ρ cy aG bU aV c5):=λcA E=>by
   have zw:du (ek.fJ cl) k g pg Φ (kE X cA E) ct:=⟨aF.da,aF.room,aF.units,aF.calm,aF.nm,aF.ea,aF.ao,aF.lc,aF.rJ,aF.gl⟩;have r:=By (CV zw h0) (By (CV zw J) (Bi (CY zw aa)));refine cast (acp (fk (kE X cA E) [a1,a2,eX]) (acp (dm (ek.fJ cl) (kE X cA E) ct.ao) (funext λρ=>?_))) r;refine(FY (fc:=λρ=>ζ.ev pg Φ ρ cy) (fr:=λρ=>ζ.ev pg Φ ρ aG) ρ).trans ?_;unfold ζ.lK;rw[FY (fc:=λρ=>ζ.ev pg Φ ρ bU) (fr:=λρ=>ζ.ev pg Φ ρ aV) ρ]
  have ea:X.N.Nodup:=(by rw[aF.nm];exact aF.ea);have iO:∀c,c≠1->ζ.i7 pg c cL cD=.bad:=λc ah=>by unfold ζ.i7;rw[beq_false_of_ne ah];rfl
  cases aM:ζ.vx pg.up cD.k5 cD.eY with
  |false=>exact IH (bv:=ζ.h6) bb.pa B iO (.inl (by unfold ζ.i7;rw[aM,Bool.and_false,Bool.and_false];rfl))
  |true =>
   have aN:ζ.i7 pg 1 cL cD=.ok (.cI (.str ζ.h6)):=(by unfold ζ.i7;rw[ay,aM];rfl);obtain⟨t,nm,body,aB⟩:=hd;unfold ζ.Ds at aW
   split at aW
   .rename_i t' oa;have oa:t=some t':=oa;subst oa;simp only[abt]at aW;obtain⟨cb,eF⟩:=aW;obtain⟨x,np,rfl,gQ,c3,p6⟩:=L8 cb;obtain⟨D,i3⟩:=dQ cL x gQ;replace eF:ζ.yw g ct cD nm body=true:=eF;unfold ζ.yw at eF
    split at eF
    .rename_i n;simp only[abt,ab6]at eF;obtain⟨⟨⟨gD,eZ⟩,nu⟩,AP⟩:=eF
     split at AP
     .rename_i t1;have aC:=aF.lc n eZ;rw[<- aF.nm]at gD;exact IH bb.pa B iO (.inr ⟨aN,Ql O i3 ay (aF.sa c3) (fX p6).1 ea gD aC λbI eb ag cA aO ba b6 dx=>VH (X:=oF X (.ref bI) cA) (g:=g) (ct:=ct) O ⟨λx q=>aF.sa q,λx q hm=>aF.blt q hm,bb.cls.pj,dQ⟩ dx aO gD aC nu AP aM⟩)
     .cases AP
    .cases eF
   .cases aW
 .cases h
theorem Dt:∀{ts:List Nat}{xs:List Str},ζ.pN ct ts xs=true->ts.length=xs.length/\(∀t∈ts,t∉ct.ao)/\∀(j i:Nat) y,ts[j]?=some i->xs[j]?=some y->ct.N[i]?=some y/\ζ.jS ct.sc y=true
 |[],[],_=>⟨rfl,by simp,λj i y e=>by simp at e⟩
 |[],_::_,h=>by unfold ζ.pN at h;cases h
 |_::_,[],h=>by unfold ζ.pN at h;cases h
 |t::ts,x::xs,h=>by
  unfold ζ.pN at h;simp only[abt,ab6,acf]at h;obtain⟨⟨⟨⟨J,aa⟩,aJ⟩,aW⟩,cb⟩:=h;obtain⟨aG,aV,c5⟩:=Dt cb;refine⟨by simp[aG],λz hz=>?_,λj i y e1 ar=>?_⟩
  .rcases abA.mp hz with rfl|hz
   .intro w;rw[acn.mpr w]at aW;cases aW
   .exact aV z hz
  .cases j with
   |zero=>simp at e1 ar;subst e1 ar;exact⟨J,aa⟩
   |succ j=>exact c5 j i y (by simpa using e1) (by simpa using ar)
variable(xp k g pg Φ) in
structure fG (n:Nat):Prop where
 s:∀(s:ζ.S)(st:Stmt)(ct:ζ.dC)(X:a7),sizeOf s<n->du xp k g pg Φ X ct->lj xp g pg X ct->ζ.ly g ct s st=true->dz X st (dm xp X ct.ao λρ=>ζ.ex pg Φ ρ s)
 b:∀(b:ζ.B)(st:List Stmt)(ct:ζ.dC)(X:a7),sizeOf b<n->du xp k g pg Φ X ct->lj xp g pg X ct->ζ.jJ g ct b st=true->fk X st (dm xp X ct.ao λρ=>ζ.eN pg Φ ρ b)
variable{n:Nat}
def K7(aF:du xp k g pg Φ X ct)(bb:lj xp g pg X ct){st:Stmt}(h:ζ.pM ct i st=true):dz X st (dm xp X ct.ao λρ=>ζ.ex pg Φ ρ (.n8 i)):=by
 unfold ζ.pM at h
 split at h
 .rename_i t y e1;obtain⟨pos,rfl⟩:=tZ e1
  split at h
  .rename_i x ar;obtain⟨p1,rfl⟩:=ho ar;simp only[abt,ab6]at h;obtain⟨⟨⟨⟨J,aa⟩,aJ⟩,aW⟩,cb⟩:=h;obtain⟨nE,rfl⟩:=Al cb;exact WS (acn.mp aW) (by rw[aF.nm];exact aF.ea) (by rw[aF.nm];exact J) (bb.loc x aa) (.inl (bb.fn x))
  .cases h
 .cases h
def K8(aF:du xp k g pg Φ X ct)(bb:lj xp g pg X ct){st:Stmt}(h:ζ.pM ct i st=true):dz X st (dm xp X ct.ao λρ=>ζ.ex pg Φ ρ (.n9 i)):=by
 unfold ζ.pM at h
 split at h
 .rename_i t y e1;obtain⟨pos,rfl⟩:=tZ e1
  split at h
  .rename_i x ar;obtain⟨p1,rfl⟩:=ho ar;simp only[abt,ab6]at h;obtain⟨⟨⟨⟨J,aa⟩,aJ⟩,aW⟩,cb⟩:=h;obtain⟨nE,rfl⟩:=Al cb;exact WT (acn.mp aW) (by rw[aF.nm];exact aF.ea) (by rw[aF.nm];exact J) (bb.loc x aa) (.inl (bb.fn x))
  .cases h
 .cases h
def K9(aF:du xp k g pg Φ X ct){st:Stmt}(h:ζ.yu g ct i j e st=true):dz X st (dm xp X ct.ao λρ=>ζ.ex pg Φ ρ (.jK i j e)):=by
 unfold ζ.yu at h
 split at h
 .rename_i t v e1;obtain⟨pos,rfl⟩:=tZ e1
  split at h
  .rename_i x y ar;obtain⟨p1,p2,p3,rfl⟩:=J3 ar;simp only[abt]at h;obtain⟨⟨⟨J,aa⟩,aJ⟩,aW⟩:=h;obtain⟨a1,a2,eX,ia⟩:=th J;obtain⟨b1,b2,el,gK⟩:=tA aa;obtain⟨bR,b3,_⟩:=fX eX;obtain⟨f1,f2,_⟩:=fX el;exact WV aF.units ia gK (by rw[aF.nm];exact a1) (aF.hO a2) bR b3 (by rw[aF.nm];exact b1) (aF.hO b2) f1 f2 (jZ aF aW).val (BV (fW aW) aJ)
  .cases h
 .cases h
def YG(h:ζ.Jz x=some (t,a,b)):∃p,x=.While t a b p:=by
 cases x with
 |While t a b p=>cases h;exact⟨p,rfl⟩
 |_=>exact nn h
def Lg(aF:du xp k g pg Φ X ct){st:Stmt}(h:ζ.yA g ct i e st=true):dz X st (dm xp X ct.ao λρ=>ζ.ex pg Φ ρ (.o6 i e)):=by
 unfold ζ.yA at h
 split at h
 .rename_i t v e1;obtain⟨pos,rfl⟩:=tZ e1
  split at h
  .rename_i x y ar;obtain⟨p3,rfl⟩:=w0 ar
   split at h
   .rename_i cv cL bo eK;obtain⟨p1,rfl⟩:=ho bo;obtain⟨c,p2,rfl⟩:=wY eK;simp only[abt,ab6]at h;obtain⟨⟨⟨h0,J⟩,aJ⟩,aW⟩:=h;subst h0;obtain⟨a1,a2,eX,ia⟩:=th J;obtain⟨bR,b3,_⟩:=fX eX;exact Xi ia (by rw[aF.nm];exact a1) (aF.hO a2) bR b3 (jZ aF aW).val (BV (fW aW) aJ)
   .cases h
  .cases h
 .cases h
def Lc(aF:du xp k g pg Φ X ct){st:Stmt}(h:ζ.yx ct i st=true):dz X st (dm xp X ct.ao λρ=>ζ.ex pg Φ ρ (.pop i)):=by
 unfold ζ.yx at h
 split at h
 .rename_i c e1;obtain⟨p4,rfl⟩:=Jt e1
  split at h
  .rename_i y3 ar;obtain⟨ew,rfl⟩:=Cf ar
   split at h
   .rename_i o cv ap bo;obtain rfl:=JW bo
    split at h
    .rename_i x eK;obtain⟨p1,rfl⟩:=ho eK;simp only[abt,ab6]at h;obtain⟨⟨h0,J⟩,aa⟩:=h;obtain⟨a1,a2,eX,ia⟩:=th aa;obtain⟨bR,b3,_⟩:=fX eX;have J:ap.endLine=ew.line:=J;exact s_pop ia h0 (by rw[aF.nm];exact a1) (aF.hO a2) bR b3 (by simpa using J)
    .cases h
   .cases h
  .cases h
 .cases h
def Lf(aF:du xp k g pg Φ X ct){st:Stmt}(h:ζ.yz g ct i e st=true):dz X st (dm xp X ct.ao λρ=>ζ.ex pg Φ ρ (.qK i e)):=by
 unfold ζ.yz at h
 split at h
 .rename_i y e1;obtain⟨pos,rfl⟩:=qY e1;simp only[abt]at h;have Qk:du xp k g pg Φ X ⟨ct.N,ct.sc,ct.ao.filter λj=>!(j==i)⟩:={ aF with ao:=λj aI=>aF.ao j (List.mem_filter.mp aI).1 };exact Xf (acn.mp h.1) (jZ Qk h.2).val
 .cases h
def Yb(aE:fG xp k g pg Φ n)(s)(st)(ct)(X)(af:sizeOf s<n+1)(aF:du xp k g pg Φ X ct)(bb:lj xp g pg X ct)(h:ζ.ly g ct s st=true):dz X st (dm xp X ct.ao λρ=>ζ.ex pg Φ ρ s):=by
 cases s with
 |asg i e=>exact K5 aF bb.loc bb.fn h
 |app i e =>
  obtain⟨x,n,ap,y,p1,ew,p4,rfl,J,aa,aJ,aW,cb,eF,gQ⟩:=CW (nm:="append") h;obtain⟨bR,b3,lC⟩:=fX aW;exact WE cb eF (by rw[aF.nm];exact aa) (aF.hO aJ) bR b3 J (jZ aF gQ).val (hN (fW gQ))
 |ret e =>
  rw[ζ.ly]at h
  split at h
  .rename_i y e1;obtain⟨pos,rfl⟩:=qY e1;exact IF (jZ aF h).val
  .cases h
 |nF i =>
  rw[ζ.ly]at h
  split at h
  .rename_i y e1;obtain⟨pos,rfl⟩:=qY e1
   split at h
   .rename_i x ar;obtain⟨p1,rfl⟩:=ho ar;obtain⟨a1,a2,eX,ia⟩:=th h;obtain⟨bR,b3,_⟩:=fX eX;exact Xe ia (by rw[aF.nm];exact a1) (aF.hO a2) bR b3
   .cases h
  .cases h
 |qJ i =>
  rw[ζ.ly]at h
  split at h
  .rename_i y e1;obtain⟨pos,rfl⟩:=qY e1
   split at h
   .rename_i x ar;obtain⟨p1,rfl⟩:=ho ar;obtain⟨a1,a2,eX,ia⟩:=th h;obtain⟨bR,b3,_⟩:=fX eX;exact Xd ia (by rw[aF.nm];exact a1) (aF.hO a2) bR b3
   .cases h
  .cases h
 |n8 i=>exact K7 aF bb h
 |n9 i=>exact K8 aF bb h
 |jK i j e=>exact K9 aF h
 |o6 i e=>exact Lg aF h
 |pop i=>exact Lc aF h
 |qK i e=>exact Lf aF h
 |stop=>exact Xl
 |raise c=>exact Le aF bb h
 |pf cy aG bU aV c5 cL cD=>exact Lh aF bb h
 |q3 c b =>
  rw[ζ.ly]at h
  split at h
  .rename_i t x e1;obtain⟨pos,rfl⟩:=YG e1;simp only[abt]at h;exact Xp bb.pass (jZ aF h.1).pt (aE.b b x ct X (by simp at af;lia) aF bb h.2) 200
  .cases h
 |ext i e =>
  obtain⟨x,n,ap,y,p1,ew,p4,rfl,J,aa,aJ,aW,cb,eF,gQ⟩:=CW (nm:="extend") h;obtain⟨bR,b3,lC⟩:=fX aW;exact WW cb eF (by rw[aF.nm];exact aa) (aF.hO aJ) bR b3 J (jZ aF gQ).val (hN (fW gQ))
 |iff c a b =>
  rw[ζ.ly]at h
  split at h
  .rename_i t x y e1;obtain⟨pos,rfl⟩:=Jv e1;simp only[abt]at h;have cw:=aE.b a x ct X (by simp at af;lia) aF bb h.1.2;have dU:=aE.b b y ct X (by simp at af;lia) aF bb h.2;exact IB (jZ aF h.1.1).pt cw dU
  .cases h
 |e7 j ts s b =>
  rw[ζ.ly]at h
  split at h
  .rename_i t it x e1;obtain⟨pos,rfl⟩:=Yq e1
   split at h
   .rename_i xs ay;simp only[abt]at h;obtain⟨⟨⟨⟨h0,J⟩,_⟩,aJ⟩,aW⟩:=h;obtain⟨cy,bU,hx⟩:=Dt J;have aP:X.N.Nodup:=(by rw[aF.nm];exact aF.ea);have z4:ζ.nD s=true->∃elts j p,t=.Tuple elts j p:=λaB=>by
     rw[aB]at h0;have aI:j=2:=(by simpa using h0);subst aI;cases t with
     |Tuple elts j p=>exact⟨elts,j,p,rfl⟩
     |_=>simp only[ζ.fh]at ay;cases ay
    have aY:=HB aF.calm aP ay cy λj i y e1 ar=>by
     obtain⟨bY,bV⟩:=hx j i y e1 ar;exact⟨by rw[aF.nm];exact bY,bb.loc y bV,.inl (bb.fn y)⟩
    obtain⟨d9,fz⟩:=(n0 (xp:=xp) (k:=k) (g:=g) (pg:=pg) (Φ:=Φ) (sizeOf s+1)).i s it ct false X t (adl _) aF aJ z4;have dU:=aE.b b x ct X (by simp at af;lia) aF bb aW;exact WX bb.pass aF.calm bU d9 aY dU (set_plain fz)
   .cases h
  .cases h
def X8(aE:fG xp k g pg Φ n)(b)(st)(ct)(X)(af:sizeOf b<n+1)(aF:du xp k g pg Φ X ct)(bb:lj xp g pg X ct)(h:ζ.jJ g ct b st=true):fk X st (dm xp X ct.ao λρ=>ζ.eN pg Φ ρ b):=by
 unfold ζ.jJ at h
 split at h
 .exact IG
 .rename_i s b x xs;simp only[abt]at h;have aG:=aE.s s x ct X (by simp at af;lia) aF bb h.1;have aV:=aE.b b xs ct X (by simp at af;lia) aF bb h.2;exact By aG aV
 .cases h
theorem xw:∀n,fG xp k g pg Φ n
 |0=>⟨λ_ _ _ _ h=>⋯,λ_ _ _ _ h=>⋯⟩
 |n+1=>⟨Yb (xw n),X8 (xw n)⟩
def Uu{st:List Stmt}(aF:du xp k g pg Φ X ct)(bb:lj xp g pg X ct)(h:ζ.jJ g ct b st=true):fk X st (dm xp X ct.ao λρ=>ζ.eN pg Φ ρ b):=(xw (sizeOf b+1)).b b st ct X (adl _) aF bb h
end
def Jj{ds:List D}{i:Nat}{d:D}(h:(ζ.start fd ds)[i]?=some (some d)):ds[i]?=some d/\i<ds.length:=by
 unfold ζ.start at h
 by_cases aj:i<ds.length
 .rw[abH (by simpa using aj),abF]at h;refine⟨?_,aj⟩;cases e:ds[i]? with
  |none=>rw[e]at h;cases h
  |some a=>rw[e]at h;cases h;rfl
 .rw[abW (by simpa using aj),adz]at h
  split at h<;>cases h
def X5{i:Nat}(h:ag[i]?=some v):(bA.start N ag)[i]?=some (some v):=by
 have aj:=(abR.mp h).1;unfold bA.start;rw[abH (by simpa using aj),abF,h];rfl
def XR{K:W.Frag}(af:bE G H)(dT:∀b xs,H b=some (.tup xs)->G b=some (.tup xs))(r:bH K G ds ag)(aC:N.length=fd.np+fd.nl)(aA:ds.length=fd.np)(hm:∀i∈ao,fd.np<=i):
  cc K ao G H G H (ζ.start fd ds) (bA.start N ag):=by
 have no:∀{i:Nat}{d:D},(ζ.start fd ds)[i]?=some (some d)->i∈ao->False:=λh q=>by
  have:=(Jj h).2;have:=hm _ q;lia
 refine⟨⟨?_,af,λi d h _=>?_,λi d h q=>(no h q).elim,λi d h q=>(no h q).elim,dT,λi j d e a b h _ _ _ q=>(no h q).elim⟩,Ext.refl af,λi d a h _ q=>(no h q).elim⟩
 .unfold ζ.start bA.start;rw[abw,abw,List.length_map,List.length_map,adM,adM,<- r.length];lia
 .obtain⟨v,J,aa⟩:=r.get (Jj h).1;exact⟨v,X5 J,aa⟩
def ue(K:W.Frag)(aZ:Str->Option Value)(g:ζ.Gt)(fds:List ζ.la)(f:Nat)(x:Str):Prop :=
 ∃fd N st bh mZ,fds[f]?=some fd/\ζ.mP g N fd st=true/\aZ x=some (.ref bh)/\bA.rf K x x st bh mZ/\Binds K mZ ((hB st).args.map (·.arg)) []
section
variable{P:Program}{w:World}{K:W.Frag}{aZ:Str->Option Value}{base:Heap}{xp:dA}{g:ζ.Gt}{pg:ζ.eM}{fds:List ζ.la}
def Dr{st:Stmt}(h:ζ.mP g N fd st=true):((hB st).args.map (·.arg)).length=fd.np/\xg N ((hB st).args.map (·.arg)) (hC st)/\N.length=fd.np+fd.nl/\(∀i∈ζ.jX fd.body,fd.np<=i/\i<N.length) /\
  ζ.jJ g ⟨N,hC st,ζ.jX fd.body⟩ fd.body (lE st)=true:=by
 unfold ζ.mP at h
 split at h
 .rename_i name args body sc bind pos;simp only[abt,ab6,acf,ab1,bne_iff_ne,ne_eq,abN]at h;obtain⟨⟨⟨⟨⟨⟨⟨⟨⟨⟨⟨⟨⟨⟨⟨J,aa⟩,aJ⟩,aW⟩,cb⟩,eF⟩,_⟩,_⟩,_⟩,_⟩,_⟩,_⟩,gQ⟩,c3⟩,p6⟩,vg⟩:=h;have aA:(args.args.map (·.arg)).length=fd.np:=(by rw[eF,adj];lia);refine⟨aA,⟨J,aa,aJ,aW,?_,λx ai=>?_,c3⟩,cb,p6,vg⟩
  .show N.take (args.args.map (·.arg)).length=args.args.map (·.arg);rw[aA,eF]
  .have ai:x∈args.args.map (·.arg):=ai;rw[eF]at ai;have:=gQ x ai;unfold ζ.jS at this;have this:sc.names.lookup x=some .local\/sc.names.lookup x=some .cell:=(by simpa using this);exact this
 .cases h
def EE(dQ:mv xp g pg K aZ base)(T:fR P w K aZ base xp n g pg (ζ.run pg fds n)){st:Stmt}(e:fds[f]?=some fd)(cZ:ζ.mP g N fd st=true)(F:bA.rf K x x st bh mZ):
  kc P w K aZ base (jw P w xp) (n+1) bh mZ ((hB st).args.map (·.arg)) (o8 K (ζ.run pg fds (n+1) f) ((hB st).args.map (·.arg)).length):=by
 obtain⟨aA,S,aP,hZ,d8⟩:=Dr cZ;have Rx:∀ds,ζ.run pg fds (n+1) f ds=ζ.c6 pg (ζ.run pg fds n) fd ds:=λds=>by rw[ζ.tL,e]
 obtain⟨fN,bu,dq,doc,pm,an,d4,ct,fO,rfl,lk,lL⟩:=F.ex;refine PE lk lL S (λag H Q E h=>h.1) λA outer s H ag Q E a4 ⟨aN,G,ds,af,dT,r,hw⟩=>?_
 have kz:ds.length=fd.np:=by rw[r.length,aN,aA]
 rw[Rx]at hw;unfold ζ.c6 at hw;rw[if_pos kz]at hw;refine⟨dm xp (mS (jw P w xp) P w K aZ base N x (hC st) bh d4 A outer s H E) (ζ.jX fd.body) λρ=>ζ.eN pg (ζ.run pg fds n) ρ fd.body,?_,?_⟩
 .refine Uu (ct:=⟨N,hC st,ζ.jX fd.body⟩) (k:=n) (g:=g) (Φ:=ζ.run pg fds n) ⟨T,a4,a4.units,rfl,rfl,S.ea,λi aj=>(hZ i aj).2,λx h=>h,λx h=>h,λx h=>h⟩ ⟨dQ,⟨rfl,rfl⟩,λx h=>?_,λ_=>rfl,PassesOwn.leaving⟩ d8;unfold ζ.jS at h;have h:(hC st).names.lookup x=some .local\/(hC st).names.lookup x=some .cell:=(by simpa using h);exact h
 .refine⟨G,H,G,ζ.start fd ds,XR af dT r aP kz λi aj=>(hZ i aj).1,?_⟩;show cS (ζ.eN pg (ζ.run pg fds n) (ζ.start fd ds) fd.body) _ _;generalize ζ.eN pg (ζ.run pg fds n) (ζ.start fd ds) fd.body=gG at hw ⊢;have hR:∀c:Nat,(∀aq,bE H aq->E (.int c 0) none aq)->ff xp (mS (jw P w xp) P w K aZ base N x (hC st) bh d4 A outer s H E) c H:=λc m4 pins σ aq s' e l I b0 nw ai=>by
   obtain⟨cl,_,rfl,_⟩:=dQ.ex;refine ek.leave (base:=base) (outer:=outer) I.ok.frames I.stack rfl ai λJ l1 oD zX ay qe=>?_
   have cx:Inv _ pins σ aq { s' with heap:=J }:=AY (t':=s'.toks) I nw ay qe;refine⟨c,aq,l1,I.os,I.bare,cx.base,cx.bL,b0,λa aw=>?_,oD,m4 aq b0⟩;have eZ:hr (mS (jw P w (ek.fJ cl)) P w K aZ base N x (hC st) bh d4 A outer s H E) pins aq a:=(zX a aw).elim (nw a) λz=>.of I z (A1 I.bL z)
   exact⟨eZ.2.1.elim (λz=>nomatch z) id,eZ.1⟩
  cases gG with
  |bad=>exact hw.elim
  |exc c=>exact hR c hw
  |ok fK =>
   cases fK with
   |bJ ρ=>exact λσ aR aq cQ=>hw .dK aR aq cQ.ext rfl
   |cI d=>exact λv aR aq ext rep=>hw v aR aq ext rep
def Ze(dQ:mv xp g pg K aZ base)(T:fR P w K aZ base xp n g pg (ζ.run pg fds n))(hd:∀f x,g.fns[f]?=some x->ue K aZ g fds f x):fR P w K aZ base xp (n+1) g pg (ζ.run pg fds (n+1)):=by
 refine⟨λf x ai=>?_,T.blt,T.r9⟩;obtain⟨fd,N,st,bh,mZ,e,cZ,hm,F,ae⟩:=hd f x ai;obtain⟨aA,_⟩:=Dr cZ;exact⟨bh,mZ,_,hm,F.gB,ae,EE dQ T e cZ F,λds kz=>by rw[ζ.tL,e];unfold ζ.c6;exact if_neg (by rw[<- aA];exact kz)⟩
theorem JH(dQ:mv xp g pg K aZ base)(hd:∀f x,g.fns[f]?=some x->ue K aZ g fds f x)(ae:∀x:Str,x∈ra->aZ x=none)(aY:∀(j:Nat)(x:Str)(d:D),g.r9[j]?=some x->pg.cs[j]?=some d->∃v u,aZ x=some u/\RelV v u/\∀G,Rep K G d v):
  ∀n,fR P w K aZ base xp n g pg (ζ.run pg fds n)
 |0=>⟨λf x ai=>by
   obtain⟨fd,N,st,bh,mZ,e,cZ,hm,F,ae⟩:=hd f x ai;exact⟨bh,mZ,_,hm,F.gB,ae,⟨λag H Q E h=>h.1,λA outer s H args us ag Q E _ _ _ _ ⟨_,_,_,_,_,_,h⟩=>h.elim⟩,λ_ _=>rfl⟩,ae,aY⟩
 |n+1=>Ze dQ (JH dQ hd ae aY n) hd
end
noncomputable def pn(Q:Nat->Str->Prop):Nat->List Str->Prop
 |_,[]=>True
 |n,x::xs=>Q n x/\pn Q (n+1) xs
theorem pn.get:∀{xs:List Str}{n f:Nat}{x:Str},pn Q n xs->xs[f]?=some x->Q (n+f) x
 |[],_,_,_,_,h=>by simp at h
 |y::xs,n,0,x,q,h=>by simp at h;subst h;exact q.1
 |y::xs,n,f+1,x,q,h=>by
  have:=pn.get (n:=n+1) (f:=f) q.2 (by simpa using h);rwa[Nat.add_right_comm,Nat.add_assoc]at this
def OE{us:List Value}(h:us.length=1):∃a,us=[a]:=aeh.mp h
def OF{us:List Value}(h:us.length=2):∃a b,us=[a,b]:=by
 match us,h with
 |[a,b],_=>exact⟨a,b,rfl⟩
def OG{us:List Value}(h:us.length=3):∃a b c,us=[a,b,c]:=by
 match us,h with
 |[a,b,c],_=>exact⟨a,b,c,rfl⟩
noncomputable def AllB(K:W.Frag):List Str->Prop
 |[]=>True
 |x::xs=>W.nsIn K mainGlobals x=some none/\AllB K xs
theorem AllB.get{K:W.Frag}(X:K.In h)(G:h.Ns mainGlobals aZ):∀{xs:List Str},AllB K xs->∀x∈xs,aZ x=none
 |[],_,x,ai=>by simp at ai
 |y::ys,q,x,ai=>by
  rcases abA.mp ai with rfl|ai
  .exact PySem.W.mg_none_of X G q.1
  .exact AllB.get X G q.2 x ai
def uf(K:W.Frag)(x:Str)(st:Stmt):Prop :=
 ∃(f:Addr)(fN:Value)(bu:Option Addr)(dq doc pm:Value)(an:Option Addr)(d4 ct:Value)(fO:Array (Option Value)),W.nsIn K mainGlobals x=some (some (.ref f)) /\
  K.lookup f=some ⟨fN,bu,.func (W.fnOf x x (hB st) (lE st) (hC st) .none dq doc pm an d4 ct),fO⟩/\W.codeIn K d4 x=true/\W.keepIn K (.ref f)=true
def Ny{K:W.Frag}{st:Stmt}{dq doc pm:Value}(a:W.nsIn K mainGlobals x=some (some (.ref f)))(l:K.lookup f=some ⟨fN,bu,.func (W.fnOf x x (hB st) (lE st) (hC st) .none dq doc pm an d4 ct),fO⟩)(c:W.codeIn K d4 x=true)(k:W.keepIn K (.ref f)=true):uf K x st:=⟨f,fN,bu,dq,doc,pm,an,d4,ct,fO,a,l,c,k⟩
def dE{K:W.Frag}{st:Stmt}(X:K.In h)(G:h.Ns mainGlobals aZ)(d:uf K x st)(hf:fds[j]?=some fd)(cZ:ζ.mP g N fd st=true)(ae:∀(dq doc pm:Value)(an:Option Addr)(d4 ct:Value)(us:List Value),us.length=((hB st).args.map (·.arg)).length->bindArgs (W.fnOf x x (hB st) (lE st) (hC st) .none dq doc pm an d4 ct) ⟨us,[]⟩=pure (((hB st).args.map (·.arg)).zip us)):ue K aZ g fds j x:=by
 obtain⟨f,fN,bu,dq,doc,pm,an,d4,ct,fO,a,l,c,k⟩:=d;have F:=EJ l c k;exact⟨fd,N,st,f,_,hf,cZ,afj X G a,F,F.binds ae⟩
theorem H2{K:W.Frag}:∀ns:List Int,bH K G (ns.map ζ.D.int) (ns.map V.int)
 |[]=>rfl
 |n::ns=>⟨.int n,ns.map V.int,rfl,rfl,H2 ns⟩
def X2{K:W.Frag}{ns:List Int}(bb:ej K H a (ns.map V.int))(aH:φ [.lst (ns.map .int)]=.ok (.aU true)):o8 K φ 1 [.ref a] H (λv _=>v=.aU true) λ_ _ _=>False:=by
 refine⟨rfl,H,[.lst (ns.map .int)],bE.refl H,λ_ _ z=>z,⟨.ref a,[],rfl,⟨a,_,rfl,bb,H2 ns⟩,rfl⟩,?_⟩;rw[aH];exact λv aR aq _ r=>r
def MF:jw P w xp outer H s (λ_ _ _=>False) e s'->False:=λ⟨_,_,_,_,_,_,_,_,_,_,h⟩=>h
noncomputable def kl(K:W.Frag)(g:ζ.Gt)(c:Nat):Option Addr:=match g.cls[c]? with
 |some x=>(match W.nsIn K mainGlobals x with|some (some (.ref C))=>some C|_=>none)
 |none=>none
def Mc{K:W.Frag}(h:g.cls[c]?=some x)(e:W.nsIn K mainGlobals x=some (some (.ref C))):kl K g c=some C:=by
 unfold kl;rw[h];dsimp only;rw[e]
def uk(o:Obj)(C N:Addr)(bm:List Value)(newId:String):Prop:=∃(nm q:Str)(bs:List Value)(hdct:Bool)(sn:List Str)(sub:List Value)(ab:Bool)(col:Option Bool)(dd:Option Addr)(k0 k1 k2 k3 k5:Option Value),o=excClassObj nm q C N bs bm hdct sn sub ab col dd k0 k1 k2 k3 k5 newId
def xd(K:W.Frag)(x:Str)(C:Addr)(bm:List Value):Prop:=∃o N i,W.nsIn K mainGlobals x=some (some (.ref C))/\K.lookup C=some o/\uk o C N bm i/\bm.contains (.type "BaseException")=true
def xc(K:W.Frag)(x:Str)(C:Addr)(bm:List Value):Prop:=∃o N,W.nsIn K mainGlobals x=some (some (.ref C))/\K.lookup C=some o/\uk o C N bm "ValueError.__new__"/\PySem.W.nsOkIn K N=true/\W.nsIn K N "__init__"=some none/\PySem.W.tailIn K uH bm=true/\ek.Plain K C bm
def ud(K:W.Frag)(x0 aT:Str):Prop:=∃mu i0 mK b1,(xd K x0 mu mK/\xc K aT i0 b1)/\(Value.ref i0::b1).contains (.ref mu)=true
def Mb{K:W.Frag}(a0:W.nsIn K mainGlobals x0=some (some (.ref mu)))(l0:K.lookup mu=some o0)(e0:uk o0 mu aac mK h1)(h0:mK.contains (.type "BaseException")=true)(a1:W.nsIn K mainGlobals aT=some (some (.ref i0)))(l1:K.lookup i0=some iT)(e1:uk iT i0 CF b1 "ValueError.__new__")(n:PySem.W.nsOkIn K CF=true)(i:W.nsIn K CF "__init__"=some none)(t:PySem.W.tailIn K uH b1=true)(p1:PySem.W.findIn K (.ref i0) "__class__"=some (some (.builtin "object.__class__")))(p2:PySem.W.findIn K (.ref i0) "__getattribute__"=some (some (.builtin "BaseException.__getattribute__")))(p3:PySem.W.findIn K (.ref i0) "__getattr__"=some none)(p4:b1.contains (.type "object")=true)(p5:b1.contains (.type "BaseException")=true)(m0:(Value.ref i0::b1).contains (.ref mu)=true):ud K x0 aT :=
 ⟨mu,i0,mK,b1,⟨⟨_,_,_,a0,l0,e0,h0⟩,⟨_,_,a1,l1,e1,n,i,t,⟨p1,p2,p3,p4,p5⟩⟩⟩,m0⟩
section
variable{K:W.Frag}{h:Heap}{aZ:Str->Option Value}{g:ζ.Gt}{pg:ζ.eM}{c:Nat}{x:Str}{C:Addr}{bm:List Value}
def Hm(X:K.In h)(G:h.Ns mainGlobals aZ)(aY:g.cls[c]?=some x)(q:xd K x C bm):pw aZ h (kl K g) c x C:=by
 obtain⟨o,N,i,a,l,⟨nm,q,bs,hdct,sn,sub,ab,col,dd,k0,k1,k2,k3,k5,rfl⟩,ae⟩:=q;exact⟨Mc aY a,afj X G a,_,_,_,_,_,_,_,_,_,_,_,_,_,_,_,_,_,X _ _ l,ae⟩
def xc.s(q:xc K x C bm):xd K x C bm:=by
 obtain⟨o,N,a,l,e,n,i,t,P⟩:=q;exact⟨o,N,_,a,l,e,P.d8⟩
def rN(X:K.In h)(G:h.Ns mainGlobals aZ)(aY:g.cls=[x0,aT])(aN:W.nsIn K mainGlobals "ValueError"=some none)(q:ud K x0 aT)(br:pg.up 1=[1,0,1000]):mv (ek.fJ (kl K g)) g pg K aZ h:=by
 obtain⟨mu,i0,mK,b1,⟨qG,aO⟩,m0⟩:=q;have o0:=Hm (c:=0) X G (by rw[aY];rfl) qG;have iT:=Hm (c:=1) X G (by rw[aY];rfl) aO.s;refine⟨⟨_,i0,rfl,λc z e=>?_,iT.at_,by rw[br];rfl,?_⟩,λk ay=>?_,PySem.W.mg_none_of X G aN⟩
 .rw[aY]at e
  match c,e with
  |0,e=>cases e;exact⟨_,o0⟩
  |1,e=>cases e;exact⟨_,iT⟩
  |n+2,e=>cases e
 .obtain⟨o,N,a,l,⟨nm,q,bs,hdct,sn,sub,ab,col,dd,k0,k1,k2,k3,k5,rfl⟩,n,i,t,P⟩:=aO;refine⟨_,_,_,_,b1,N,nm,q,bs,hdct,sn,sub,ab,col,dd,k0,k1,k2,k3,k5,_,F.excBase_ValueError,rfl,X _ _ l,.of_isNs (PySem.W.isNs_of_in X n),PySem.W.nsMap_none_of_in X n i,PySem.W.tail_of_in X t,P,λk D e=>?_⟩;rw[br]
  match k,e with
  |0,e=>cases o0.at_.symm.trans e;exact m0
  |1,e=>cases iT.at_.symm.trans e;simp
  |n+2,e=>unfold kl at e;rw[aY]at e;cases e
 .rw[br]
  match k,ay with
  |0,_=>rfl
  |1,_=>rfl
end
def S3{l:PySem.W.OpenLaw}{K:W.Frag}{st:Stmt}(X:K.In h)(G:h.Ns mainGlobals aZ)(Qy:aZ "law"=some (.ref bh))(dl:uf K "law" st)(hf:fds[f]?=some fd)(cZ:ζ.mP g N fd st=true)(ai:(hB st).args.map (·.arg)=[x])(zA:∀(dq doc pm:Value)(an:Option Addr)(d4 ct:Value)(s:Shared)(u:Value),BindsTo s (W.fnOf "law" "law" (hB st) (lE st) (hC st) .none dq doc pm an d4 ct) ⟨[u],[]⟩ [(x,u)])(T:∀base:Heap,K.In base->base.Ns mainGlobals aZ->mv xp g pg K aZ base/\fR l.prog w K aZ base xp n g pg (ζ.run pg fds n)):
  ∃fd:FuncData,(∀(s:Shared)(u:Value),BindsTo s fd ⟨[u],[]⟩ [(x,u)])/\∀base:Heap,K.In base->base.Ns mainGlobals aZ->kc l.prog w K aZ base (jw l.prog w xp) (n+1) bh fd [x] (o8 K (ζ.run pg fds (n+1) f) 1):=by
 obtain⟨y3,fN,bu,dq,doc,pm,an,d4,ct,fO,a,gh,c,k⟩:=dl;have e:=Qy.symm.trans (afj X G a);cases e;refine⟨_,zA dq doc pm an d4 ct,λbase oI nb=>?_⟩;have F:=EJ gh c k;have:=EE (T base oI nb).1 (T base oI nb).2 (f:=f) hf cZ F;rw[ai]at this;exact this
def walk{l:PySem.W.OpenLaw}{dA:(Str->Option Value)->Heap->Prop}{K:Params->W.Frag}(aC:l.most=some 63)(sq:d.params.defaults=[])(a4:n<=40)(aH:∀ns:List Int,ζ.run pg fds n f [.lst (ns.map .int)]=.ok (.aU true))(gx:∀(w:World)(h:Heap),nY w h->(K w.params).In h)(F:∀(w:World)(aZ:Str->Option Value)(bh:Addr)(h:Heap),(K w.params).In h->h.Ns mainGlobals aZ->aZ d.name=some (.ref bh) ->
   ∃fd:FuncData,(∀(s:Shared)(u:Value),BindsTo s fd ⟨[u],[]⟩ [(x,u)])/\∀base:Heap,(K w.params).In base->base.Ns mainGlobals aZ->kc l.prog w (K w.params) aZ base (jw l.prog w (ek.fJ (kl (K w.params) g))) n bh fd [x] (o8 (K w.params) (ζ.run pg fds n f) 1)):
  PySem.W.WalkO q loose dA nY l.row.toRowW d [] (λf ag=>PySem.call f ag) :=
 bA.ZN (n:=63) (k:=n) (x:=x) (CX:=λw=>jw l.prog w (ek.fJ (kl (K w.params) g))) (sp:=λw=>o8 (K w.params) (ζ.run pg fds n f) 1) aC ∅ sq (f6.mono (⟨rfl,∅,∅⟩:f6 40 callerA) a4) gx F (λw H a ns _ _ bb=>X2 bb (aH ns)) λ_ _ _ _ _ z=>MF z
end bF
end
section
namespace CI
open ζ bf dW cH eD e5
def dN(h:fds[f]?=some fd)(n)(ds):run pg fds (n+1) f ds=c6 pg (run pg fds n) fd ds:=by rw[tL,h]
noncomputable abbrev cC(n:Nat):e3:=run pg fds n
def Y9(n)(c)(h:c.length<=1000):cC (n+1) 0 [av c]=.ok (.lst ((cJ c).map av)):=(dN (f:=0) rfl n _).trans (XF c h)
def JC(n)(c o):cC (n+1) 1 [av c,av o]=.ok (.aU (lies c o)):=(dN (f:=1) rfl n _).trans (Ti c o)
def Y5(n)(c)(os:List (List Int)):cC (n+2) 2 [av c,.lst (os.map av)]=.ok (.aU (os.any (lies c))):=(dN (f:=2) rfl _ _).trans (Tj (JC n) c os)
def Zd(n)(cs)(aC:∀c∈cs,c≠[])(h:(c8 cs).length<=63):cC (n+3) 3 [.lst (cs.map av)]=.ok (.tup ((b4 cs).map av)):=(dN (f:=3) rfl _ _).trans (ZC (Y5 n) aC h)
def JF(n)(c)(h:c.length<=8):cC (n+1) 4 [av c]=.ok (.lst ((d5 c).map av)):=(dN (f:=4) rfl n _).trans (ZQ c h)
def B5(aP:Good N):∀t∈N.2,t.length<=8:=λt aH=>by have:=pL (aP.dw.cell t aH);have:=aP.dw.aj;lia
def YP(n)(N)(aP:Good N):cC (n+2) 5 [bG N.1 N.2]=.ok (.lst ((cO N.2).map av)):=(dN (f:=5) rfl _ _).trans (OD (JF n) (B5 aP) aP.len (r5 aP.dw.aj aP.dw.cell))
def YM(n)(N)(aP:Good N)(k:Nat):cC (n+3) 6 [bG N.1 N.2,.int ((k:Int)-1)]=.ok (.tup ((cl N.2 k).map av)):=(dN (f:=6) rfl _ _).trans (Mq k (YP n N aP))
def Ej(aP:Good N)(hz:z∈cO N.2):z.length<=8:=by
 obtain⟨_,t,J,aa⟩:=fV.mp hz;have:=aa.length_le;have:=B5 aP t J;lia
def Gp(aP:Good N){cs:List (List Int)}(s:cc N.2 cs):(lf cs).length<=63:=by
 by_cases q:cs=[]
 .rw[q];decide
 .have:=(s.dw aP.dw.cell aP.dw.aj q).aj;lia
def Y4{A:List (List Int)}(n)(N)(aP:Good N){cs:List (List Int)}(s:cc N.2 cs)(J:∀a∈A,a∈cs)(aa:∀b∈cs,∃a∈A,∀x∈b,x∈a)(aA:A.length<=63):cC (n+4) 7 [.lst (A.map av)]=if cs=[] then .exc 1 else .ok (fB cs):=by
 obtain⟨e1,ar⟩:=s.eq aP.dw.cell J aa
 by_cases q:cs=[]
 .have:A=[]:=acF.mpr λa aw=>by have:=J a aw;rw[q]at this;cases this
  rw[if_pos q,this];exact(dN (f:=7) rfl _ _).trans Ui
 .have gR:A≠[]:=λe=>by
   obtain⟨b,ae⟩:=adW _ q;obtain⟨a,aw,_⟩:=aa b ae;rw[e]at aw;cases aw
  have hd:(c8 (nb A)).length<=63:=by
   have:=iS (nB (nb A)) (ys:=nb A) λz hz=>(jU _ _).mp hz
   have bo:(nb A).length=A.length:=List.length_map _;lia
  have:=Uj (pg:=pg) (Φ:=cC (n+3)) (c0:=1) (Zd n) gR (λc ah=>(s.cell aP.dw.cell c (J c ah)).2) (λc ah=>Ej aP (s.sub c (J c ah))) ⋯ (by rw[e1];exact Gp aP s) hd;rw[e1,ar]at this;rw[if_neg q,G8 q];exact(dN (f:=7) rfl _ _).trans this
def JD(n)(N)(aP:Good N)(k:Nat):cC (n+4) 12 [bG N.1 N.2,.int ((k:Int)-1)]=.ok (.cf (mk (cl N.2 k))):=(dN (f:=12) rfl _ _).trans (Tx k (YM n N aP k) (rM aP.dw.aj aP.dw.cell k))
def YK(n)(U xs)(cV:U.Nodup)(ai:xs.Nodup)(h:∀x∈xs,x∈U):cC (n+1) 13 [.lst (xs.map av),.cf (mk U)]=.ok (.int (bD U xs:Int)):=(dN (f:=13) rfl _ _).trans (LG cV ai h)
def YL(n)(U)(b:Nat)(cV:U.Nodup):cC (n+1) 14 [.int (b:Int),.cf (mk U)]=.ok (hS U b):=(dN (f:=14) rfl _ _).trans (L7 cV b)
def Y8(n)(N)(aP:Good N)(k:Nat):cC (n+5) 15 [bG N.1 N.2,.int (k:Int)]=.ok (.lst ((dB (dg N.2 (k+1))).map cj)):=(dN (f:=15) rfl _ _).trans (Wl k aP.dw.cell aP.dw.aj (JD n N aP) (Y9 (n+3)) (YK (n+3)))
def Zb(n)(r q):cC (n+1) 16 [cj r,cj q]=.ok (cj (r.1 ^^^ q.1,r.2 ^^^ q.2)):=(dN (f:=16) rfl _ _).trans (Yh r q)
def B4(n)(B)(r)(h:(B.map (·.1)).Nodup):cC (n+2) 17 [cj r,.bN (dv B)]=.ok (cj (red B r)):=(dN (f:=17) rfl _ _).trans (Wc (Zb n) h r)
def Y2(n k:Nat)(h:0<k):cC (n+1) 18 [.int (k:Int)]=.ok (.int ((2 ^ lo k:Nat):Int)):=(dN (f:=18) rfl _ _).trans (Tr k h)
def B2(n)(B)(r)(h:dy B)(d8:B.length<900):cC (n+3) 19 [.bN (dv B),cj r]=.ok (.bN (dv (grow B r))):=(dN (f:=19) rfl _ _).trans (P5 (B4 n) (Y2 (n+1)) h d8 r)
def YJ(n)(rs)(h:rs.length<=63):cC (n+4) 20 [.lst (rs.map cj)]=.ok (.bN (dv (dF [] rs))):=(dN (f:=20) rfl _ _).trans (Ly (B2 n) h)
def YS(n)(rs)(h:rs.length<=63):cC (n+4) 21 [.lst (rs.map cj)]=.ok (.lst ((dR rs).2.map λb:Nat=>D.int (b:Int))):=(dN (f:=21) rfl _ _).trans (R1 (B2 n) (B4 (n+1)) h)
def Y7(n)(N)(k:Nat)(aP:Good N):∃G:List Nat,cC (n+6) 22 [bG N.1 N.2,.int (k:Int)]=.ok (.tup (G.map (hS (cl N.2 (k+1)))))/\Told N.2 k G:=by
 have hm:cC (n+5) 12 [bG N.1 N.2,.int (k:Int)]=.ok (.cf (mk (cl N.2 (k+1)))):=by
  have:=JD (n+1) N aP (k+1);rwa[show(((k+1:Nat):Int)-1)=(k:Int) by lia]at this
 obtain⟨ds,a,b⟩:=Wu (pg:=pg) (Φ:=cC (n+5)) k aP.dw.cell aP.dw.aj (YS (n+1)) (Y8 n N aP) (B4 (n+3)) (B2 (n+2)) (YL (n+4)) hm (YJ (n+1));exact⟨ds,(dN (f:=22) rfl _ _).trans a,b⟩
def YR(n)(N)(aP:Good N):cC (n+7) 23 [bG N.1 N.2]=.ok (.tup ((List.range (aj N.2)).map λk=>D.int (dM N.2 k:Int))):=(dN (f:=23) rfl _ _).trans (Rl (AS aP.dw) (AR aP.dw) λk=>Y7 n N k aP)
def YI(n)(is:List Int)(k:Nat):cC (n+1) 24 [.lst (is.map .int),.int (k:Int)]=.ok (.int (is.getD k 0)):=(dN (f:=24) rfl _ _).trans (L3 is k)
def Y3(n)(is:List Int)(k:Nat):∃r:Int,0<=r/\r<nU/\cC (n+2) 25 [.lst (is.map .int),.int (k:Int)]=.ok (.int r):=by
 obtain⟨r,a,b,e⟩:=TM (pg:=pg) (YI n is) k;exact⟨r,a,b,(dN (f:=25) rfl _ _).trans e⟩
def YN(n)(i k):∃r:Int,0<=r/\r<nU/\cC (n+1) 26 [.int i,.int k]=.ok (.int r):=by
 obtain⟨r,a,b,e⟩:=NH (pg:=pg) (Φ:=cC n) i k;exact⟨r,a,b,(dN (f:=26) rfl _ _).trans e⟩
def YZ(n)(c o):cC (n+1) 27 [av c,av o]=.ok (.aU (lies c o)):=(dN (f:=27) rfl n _).trans (S1 c o)
def JE(n)(ts)(aC:∀c∈ts,c≠[])(h:(c8 ts).length<=63):cC (n+2) 28 [.lst (ts.map av)]=.ok (.tup ((nq ts).map av)):=(dN (f:=28) rfl _ _).trans (S4 (YZ n) rfl aC h)
def B3(n s:Nat)(c)(af:s<=8)(ah:c.length<=8):cC (n+9) 29 [av c,.int (s:Int)]=.ok (.lst ((cG s c).map av)):=Hp (fds:=fds) (f:=29) rfl s (n+9) c ⋯ ah
def Za(n)(i m)(J:1<=m)(c3:m<=6):∃cs:List (List Int),cC (n+2) 30 [.int i,.int m]=.ok (.lst (cs.map av))/\(∀c∈cs,IsCell m c)/\gM m cs=true/\cs.length<=16:=by
 obtain⟨cs,e,r⟩:=XX (pg:=pg) (YN n) i m J c3;exact⟨cs,(dN (f:=30) rfl _ _).trans e,r⟩
def Y0(n)(i)(h0:0<=i):∃m ts,cC (n+10) 31 [.int i,.int 6]=.ok (bG m ts)/\Net m ts/\m<=6/\ts.length<=20:=by
 obtain⟨m,ts,e,r⟩:=T6 (pg:=pg) (Φ:=cC (n+9)) (JE (n+7)) (B3 n) (Za (n+7)) i h0;exact⟨m,ts,(dN (f:=31) rfl _ _).trans e,r⟩
def YW(n)(N)(aP:Good N)(h:Nat)(gQ:h<=7):cC (n+10) 32 [bG N.1 N.2,.int (h:Int)]=.ok (.lst ((cl N.2 (h+1)).map av)):=by
 rw[<- Dv];exact(dN (f:=32) rfl _ _).trans (SY (λc ah=>B3 n (h+1) c ⋯ ah) (B5 aP) aP.len (by rw[Dv];exact rM aP.dw.aj aP.dw.cell _))
def YQ(n)(N)(aP:Good N):cC (n+1) 33 [bG N.1 N.2]=.ok (.int (aj N.2:Int)):=(dN (f:=33) rfl _ _).trans (QK (AS aP.dw))
def YY(n)(N)(aP:Good N):cC (n+11) 34 [bG N.1 N.2]=.ok (.lst ((gi N.2).map av)):=(dN (f:=34) rfl _ _).trans (S0 aP.dw.cell aP.dw.aj (AR aP.dw) (YQ (n+9) N aP) λk ay=>YW n N aP k ay)
def YX(n)(h)(af)(aA:af.length<100):cC (n+1) 36 [av (h::af)]=.ok (.lst ((qU ((h-1)::af)).map .int)):=(dN (f:=36) rfl _ _).trans (Ta aA)
def Y1{A:List (List Int)}(n)(N)(aP:Good N){cs:List (List Int)}(s:cc N.2 cs)(hm:∀z,z∈A<->z∈cs)(aA:A.length<=63):cC (n+3) 35 [.lst (A.map av)]=.ok (bG (lf cs).length (b4 (nb cs))):=by
 obtain⟨e1,ar⟩:=s.eq aP.dw.cell (λa aw=>(hm a).mp aw) λb ae=>⟨b,(hm b).mpr ae,λ_ h=>h⟩
 have:=S2 (pg:=pg) (Φ:=cC (n+2)) (JE n) (λc ah=>s.cell aP.dw.cell c ((hm c).mp ah)) (λc ah=>Ej aP (s.sub c ((hm c).mp ah))) aA (by rw[e1];exact Gp aP s);rw[e1,ar]at this;exact(dN (f:=35) rfl _ _).trans this
def YO{A:List (List Int)}(n)(N)(aP:Good N){cs:List (List Int)}(s:cc N.2 cs)(hm:∀z,z∈A<->z∈cs)(aA:A.length<=63):cC (n+4) 38 [.lst (A.map av)]=.ok (fB cs):=(dN (f:=38) rfl _ _).trans (NP hm λ_=>Y1 n N aP s hm aA)
def Y6(n)(c)(os:List (List Int)):cC (n+2) 2 [av c,.tup (os.map av)]=.ok (.aU (os.any (lies c))):=(dN (f:=2) rfl _ _).trans (Tn (JC n) c os)
def YH(n)(N)(aP:Good N):cC (n+5) 11 [bG N.1 N.2]=if cp N.1 N.2=[] then .exc 1 else .ok (fB (cp N.1 N.2)):=by
 have aH:=aP.dw.cell;have J:=aP.dw.lo;have:=Y4 n (N.1,[aK N.1]) (BK J aP.dw.aj) (qV N.1 N.2) (A:=nZ N.1 N.2) (λa aw=>(GK aH a).mp aw) (λb ae=>⟨b,(GK aH b).mpr ae,λ_ h=>h⟩) (KR aP.dw.aj);refine(dN (f:=11) rfl _ _).trans ((KS (pg:=pg) (Φ:=cC (n+4)) (fn:=7) ⋯ aP.dw.aj (JF (n+3)) (Y6 (n+2))).trans ?_);rw[this]
 split<;>rfl
def Zc(n)(N)(aP:Good N):cC (n+6) 37 [.int 2,bG N.1 N.2,.int 0]=.ok (fB (cp N.1 N.2)):=by
 have h:=YH n N aP;refine(dN (f:=37) rfl _ _).trans ?_
 by_cases q:cp N.1 N.2=[]
 .rw[if_pos q]at h;rw[show fB (cp N.1 N.2)=.str h6 by unfold fB;rw[if_pos q]];exact Zm h rfl
 .rw[if_neg q]at h;exact Zl h
def YT(n)(N)(aP:Good N):cC (n+12) 39 [bG N.1 N.2]=.ok (.lst ((jR N.1 N.2).map av)):=(dN (f:=39) rfl _ _).trans (SV aP.dw.lo aP.dw.aj (YY n N aP) (B3 (n+2)))
def YU(n)(xs k):cC (n+1) 40 [.lst (xs.map .int),.int k]=.ok (.int (lu xs k)):=(dN (f:=40) rfl _ _).trans (SW xs k)
def YV(is:List Int):run pg fds 21 41 [.lst (is.map .int)]=.ok (.aU true) :=
 (dN (f:=41) rfl _ _).trans (SU (Y3 18 is) (Y0 10) (Zc 14) (YT 8) (λN aP=>YO 16 (N.1,[aK N.1]) (BK aP.dw.lo aP.dw.aj) (qV N.1 N.2) (GL aP.dw.lo) (SP aP.dw.lo aP.dw.aj)) (YR 13) (YX 19) (YU 19))
end CI
end
section
set_option Elab.async false
namespace ui
open PySem PySem.Spec PyProof.Rows bA bF
noncomputable def cg:List Nat:=[1,6,7,8,9,10,11,13,14,15,16,17,19,20,21,22,23,24,25,26,27,28,30,31,33,34,35,36,37,38,39,40,41,42,43,44,45,46,47,48,49,50]
noncomputable def st(j:Nat):Stmt:=PySem.Challenge.pw_holeyard_k34_whole_against.main.body.getD (cg.getD j 0) (.Pass ⟨0,0,0,0⟩)
def L9:((List.range 42).all λj=>ζ.mP e5.gt (e5.G7.getD j []) (e5.fds.getD j ⟨0,0,.nil⟩) (st j))=true:=by decide +kernel
def cZ(j:Nat)(h:j<42):ζ.mP e5.gt (e5.G7.getD j []) (e5.fds.getD j ⟨0,0,.nil⟩) (st j)=true:=ab1.mp L9 j (List.mem_range.mpr h)
structure Txt(K:W.Frag):Prop where
 ds:pn (λj x=>uf K x (st j)) 0 e5.gt.fns
 aU:AllB K ra
 pj:W.nsIn K mainGlobals "ValueError"=some none
 cl:ud K "HoleError" "NoNet"
section
variable{K:W.Frag}{h:Heap}{aZ:Str->Option Value}
theorem fns(X:K.In h)(G:h.Ns mainGlobals aZ)(t:Txt K):pn (ue K aZ e5.gt e5.fds) 0 e5.gt.fns:=by
 obtain⟨hA,bR,b3,lC,Nb,Nf,Ng,Nh,Ni,Nj,MG,MH,MI,MJ,MK,ML,MM,MN,MO,MP,MQ,MR,MS,MT,MU,MV,MW,MX,MY,MZ,M0,M1,M3,M4,M5,M6,M7,M8,M9,Na,Nc,Nd,-⟩:=t.ds;refine⟨dE X G hA rfl (cZ 0 ∅) ?_,dE X G bR rfl (cZ 1 ∅) ?_,dE X G b3 rfl (cZ 2 ∅) ?_,dE X G lC rfl (cZ 3 ∅) ?_,dE X G Nb rfl (cZ 4 ∅) ?_,dE X G Nf rfl (cZ 5 ∅) ?_,dE X G Ng rfl (cZ 6 ∅) ?_,dE X G Nh rfl (cZ 7 ∅) ?_,dE X G Ni rfl (cZ 8 ∅) ?_,dE X G Nj rfl (cZ 9 ∅) ?_,dE X G MG rfl (cZ 10 ∅) ?_,dE X G MH rfl (cZ 11 ∅) ?_,dE X G MI rfl (cZ 12 ∅) ?_,dE X G MJ rfl (cZ 13 ∅) ?_,dE X G MK rfl (cZ 14 ∅) ?_,dE X G ML rfl (cZ 15 ∅) ?_,dE X G MM rfl (cZ 16 ∅) ?_,dE X G MN rfl (cZ 17 ∅) ?_,dE X G MO rfl (cZ 18 ∅) ?_,dE X G MP rfl (cZ 19 ∅) ?_,dE X G MQ rfl (cZ 20 ∅) ?_,dE X G MR rfl (cZ 21 ∅) ?_,dE X G MS rfl (cZ 22 ∅) ?_,dE X G MT rfl (cZ 23 ∅) ?_,dE X G MU rfl (cZ 24 ∅) ?_,dE X G MV rfl (cZ 25 ∅) ?_,dE X G MW rfl (cZ 26 ∅) ?_,dE X G MX rfl (cZ 27 ∅) ?_,dE X G MY rfl (cZ 28 ∅) ?_,dE X G MZ rfl (cZ 29 ∅) ?_,dE X G M0 rfl (cZ 30 ∅) ?_,dE X G M1 rfl (cZ 31 ∅) ?_,dE X G M3 rfl (cZ 32 ∅) ?_,dE X G M4 rfl (cZ 33 ∅) ?_,dE X G M5 rfl (cZ 34 ∅) ?_,dE X G M6 rfl (cZ 35 ∅) ?_,dE X G M7 rfl (cZ 36 ∅) ?_,dE X G M8 rfl (cZ 37 ∅) ?_,dE X G M9 rfl (cZ 38 ∅) ?_,dE X G Na rfl (cZ 39 ∅) ?_,dE X G Nc rfl (cZ 40 ∅) ?_,dE X G Nd rfl (cZ 41 ∅) ?_,trivial⟩<;>intro _ _ _ _ _ _ us aA<;>first|(obtain⟨_,rfl⟩:=OE aA;rfl)|(obtain⟨_,_,rfl⟩:=OF aA;rfl)|(obtain⟨_,_,_,rfl⟩:=OG aA;rfl)
def da{P:Program}{w:World}(X:K.In h)(G:h.Ns mainGlobals aZ)(t:Txt K)(base:Heap)(oI:K.In base)(nb:base.Ns mainGlobals aZ):mv (ek.fJ (kl K e5.gt)) e5.gt e5.pg K aZ base/\fR P w K aZ base (ek.fJ (kl K e5.gt)) 20 e5.gt e5.pg (ζ.run e5.pg e5.fds 20):=by
 have ah:mv (ek.fJ (kl K e5.gt)) e5.gt e5.pg K aZ base:=rN oI nb rfl t.pj t.cl rfl;exact⟨ah,JH ah (λf x e=>by have:=(fns X G t).get e;rwa[ac3]at this) (AllB.get X G t.aU) (λj x d e1 ar=>by cases e1) _⟩
end
end ui
noncomputable def PySem.W.Fast.tw5589878449576762289:=PySem.Challenge.pw_holeyard_k34_whole_against
theorem PySem.W.Fast.te5589878449576762289:PySem.Challenge.pw_holeyard_k34_whole_against=PySem.W.Fast.tw5589878449576762289:=rfl
namespace PySem.W.Fast
noncomputable def tw12916335001074913522:=()
noncomputable def tw7435260727766177256:=()
noncomputable def tw15058174011658403396:=()
noncomputable def tw17125222546468869741:=()
noncomputable def tw11910675147200011264:=()
noncomputable def tw1635134423047642334:=()
noncomputable def tw6189838521190653970:=()
noncomputable def tw18093718548340036931:=()
noncomputable def tw11099621696066433949:=()
noncomputable def tw3691796411941021583:=()
noncomputable def tw14942085660289151417:=()
noncomputable def tw10881249337742392595:=()
noncomputable def tw13254557221819373831:=()
noncomputable def tw14473027701930928687:=()
noncomputable def tw13852134706688279295:=()
noncomputable def tw9585630282770096163:=()
noncomputable def tw7485817975283767934:=()
noncomputable def tw6565174435770815266:=()
noncomputable def tw2634852843482801978:=()
noncomputable def tw13893986102119545759:=()
noncomputable def tw16794047572907842821:=()
noncomputable def tw13188784273189691604:=()
noncomputable def tw10506264802311634680:=()
noncomputable def tw14762803088614475840:=()
noncomputable def tw624396557695147189:=()
noncomputable def tw12327528361826272413:=()
noncomputable def tw5988435326196814086:=()
noncomputable def tw3981128502900784400:=()
noncomputable def tw8353108648680137884:=()
noncomputable def tw7526523079284163914:=()
noncomputable def tw16546266643724944051:=()
noncomputable def tw1784781601296135134:=()
noncomputable def tw3511165567546660777:=()
noncomputable def tw6494029416572803286:=()
noncomputable def tw8843250787691243949:=()
noncomputable def tw21748017502963662:=()
noncomputable def tw9313460434209520399:=()
noncomputable def tw12528535618882750980:=()
noncomputable def tw17114954390392556098:=()
noncomputable def tw1790527943396649003:=()
noncomputable def tw5084092254565047401:=()
noncomputable def tw15727511826610769270:=()
noncomputable def tw850068178275136992:=()
noncomputable def tw17920890781700882075:=()
noncomputable def tw18425959495840178854:=()
noncomputable def tw11141843747003927207:=()
noncomputable def tw11899617747557942067:=()
noncomputable def tw11819006703059666488:=()
noncomputable def tw15929613249412986968:=()
noncomputable def tw17159231903214007038:=()
noncomputable def tw14390034432565127028:=()
noncomputable def tw2661339980130712124:=()
noncomputable def tw2262769765075094365:=()
noncomputable def tw2182292203866623697:=()
noncomputable def tw1522863910289740044:=()
noncomputable def tw18195479904776343078:=()
noncomputable def tw12330971128730573724:=()
noncomputable def tw10116295850496745124:=()
noncomputable def tw5463711835867389859:=()
noncomputable def tw11693036673408015112:=()
noncomputable def tw6637624279808835840:=()
noncomputable def tw11407102593016162004:=()
noncomputable def tw2983762909287679704:=()
noncomputable def tw18074997876561026309:=()
noncomputable def tw1510042638245825744:=()
noncomputable def tw15982181119664064209:=()
noncomputable def tw10614566112998966941:=()
noncomputable def tw14180104396828198441:=()
noncomputable def tw16918614769243276949:=()
noncomputable def tw10029040065487660308:=()
noncomputable def tw6153465147539581372:=()
noncomputable def tw8031630644586476074:=()
noncomputable def tw17952688334733555582:=()
noncomputable def tw588276601744755005:=()
noncomputable def tw18153488270909397424:=()
noncomputable def tw2680148646967409067:=()
noncomputable def tw15063042959627477108:=()
noncomputable def tw10875146852203042055:=()
noncomputable def tw7986851550974096560:=()
noncomputable def tw5772659072206889155:=()
noncomputable def tw16220871472661508816:=()
noncomputable def tw4336147935631613820:=()
noncomputable def tw10940948014235802398:=()
noncomputable def tw16981635131460084875:=()
noncomputable def tw1254057267822716684:=()
noncomputable def tw4174768850371035484:=()
noncomputable def tw17812413699527401697:=()
noncomputable def tw1112576777647758508:=()
noncomputable def tw8495981196411473957:=()
noncomputable def tw7500539719713616825:=()
noncomputable def tw6267992187611909636:=()
noncomputable def tw6465858253164921543:=()
noncomputable def tw16218467071319261082:=()
noncomputable def tw1463455104766265760:=()
noncomputable def tw6994779592405125175:=()
noncomputable def tw10420529943707993309:=()
noncomputable def tw14595067442953145401:=()
noncomputable def tw9402442722438218275:=()
noncomputable def tw10729445932764636296:=()
noncomputable def tw7592110179010880172:=()
noncomputable def tw14516545566529321522:=()
noncomputable def tw5136222600242403195:=()
noncomputable def tw11840163293834229381:=()
noncomputable def tw10230775473204740221:=()
noncomputable def tw15065513527899654583:=()
noncomputable def tw8841992508185618520:=()
noncomputable def tw16480003466176890053:=()
noncomputable def tw6334421751705485364:=()
noncomputable def tw73454107612311912:=()
noncomputable def tw9123544010419101647:=()
noncomputable def tw15427301909384207289:=()
noncomputable def tw15943791117164516308:=()
noncomputable def tw7228937625275334143:=()
noncomputable def tw10232086603826395747:=()
noncomputable def tw10418736172788030353:=()
noncomputable def tw15232937171096236625:=()
noncomputable def tw13493014009994262552:=()
noncomputable def tw17070900040690695935:=()
noncomputable def tw17451494176764112260:=()
noncomputable def tw869601563533427492:=()
noncomputable def tw8338266394509524568:=()
noncomputable def tw2730022995590598866:=()
noncomputable def tw3573145249143798436:=()
noncomputable def tw15311910783811857326:=()
noncomputable def tw4947595086296785885:=()
noncomputable def tw14127171846746078032:=()
noncomputable def tw17778038748412911947:=()
noncomputable def tw3319068832000444773:=()
noncomputable def tw13050776790855918881:=()
noncomputable def tw9490056152572918327:=()
noncomputable def tw5941476421788700609:=()
noncomputable def tw4981000440210840214:=()
noncomputable def tw14265026608148992528:=()
noncomputable def tw7091459446405361775:=()
noncomputable def tw17036816721084095160:=()
noncomputable def tw13904145185732174936:=()
noncomputable def tw695025448826201126:=()
noncomputable def tw11335759159943547638:=()
noncomputable def tw9950683102842799706:=()
noncomputable def tw17922471543496647046:=()
noncomputable def tw7285637421906789958:=()
noncomputable def tw7670580298919636148:=()
noncomputable def tw5532316317030444072:=()
noncomputable def tw5789898284686183089:=()
noncomputable def tw151272602872789800:=()
noncomputable def tw14607972281368698556:=()
noncomputable def tw12288613453683511762:=()
noncomputable def tw7542504997151421686:=()
noncomputable def tw6422210644570310391:=()
noncomputable def tw5570178345848157740:=()
noncomputable def tw4957800489708313629:=()
noncomputable def tw4303889414367566613:=()
noncomputable def tw4056243918448633547:=()
noncomputable def tw3384632531737530437:=()
noncomputable def tw2972262567199066719:=()
noncomputable def tw2486268079857197285:=()
noncomputable def tw15616034658027672922:=()
noncomputable def tw15061808390856543323:=()
noncomputable def tw14976715698810208765:=()
noncomputable def tw14800935398397223563:=()
noncomputable def tw14728286438583057437:=()
noncomputable def tw14716389358376593999:=()
noncomputable def tw14604528002728944422:=()
noncomputable def tw13554511065888246395:=()
noncomputable def tw12723638860582957622:=()
noncomputable def tw12496788355817976075:=()
noncomputable def tw12369134409947140836:=()
noncomputable def tw11610497527704414775:=()
noncomputable def tw11473410618634023825:=()
noncomputable def tw10197343783687041707:=()
noncomputable def tw4741286992068684327:=()
noncomputable def tw15298396969382381773:=()
noncomputable def tw9764772651773494209:=()
noncomputable def tw6790285156954843234:=()
noncomputable def tw3952313492594984467:=()
noncomputable def tw8173725034307648754:=()
noncomputable def tw11984620354779763806:=()
end PySem.W.Fast
open PySem PySem.W PyProof.Rows
set_option maxRecDepth 100000 in
set_option maxHeartbeats 0 in
theorem PySem.Challenge.cw_holeyard_k34_whole_against_holds : PySem.Challenge.rw_holeyard_k34_whole_against.Holds := by
 w_on;o_law;k_head;(case hw=>w_witness2)
 k_fill
 refine bF.walk (g:=e5.gt) (l:=PySem.Challenge.rw_holeyard_k34_whole_against) (pg:=e5.pg) (fds:=e5.fds) (n:=21) (f:=41) (x:="_law_script") rfl rfl ∅ CI.YV (λw h Y=>PySem.W.kIn_of Y) ?F
 case F =>
  intro w aZ bh h iD G sy;have cl:bF.ud (bA.um iD) "HoleError" "NoNet":=by
   dsimp only[bA.um];refine' bF.Mb ?a0 ?l0 ?e0 ?h0 ?a1 ?l1 ?e1 ?n ?i ?t ?p1 ?p2 ?p3 ?p4 ?p5 ?m0
   (case a0=>k_is);(case l0=>k_is);(case e0=>exact⟨_,_,_,_,_,_,_,_,_,_,_,_,_,_,rfl⟩);(case h0=>rfl);(case a1=>k_is);(case l1=>k_is);(case e1=>exact⟨_,_,_,_,_,_,_,_,_,_,_,_,_,_,rfl⟩);(case n=>kernel_rfl);(case i=>k_is);(case t=>kernel_rfl);(case p1=>k_is);(case p2=>k_is);(case p3=>k_is);(case p4=>rfl);(case p5=>rfl);(case m0=>rfl)
  have t:ui.Txt (bA.um iD):=by
   refine⟨⟨?_,?_,?_,?_,?_,?_,?_,?_,?_,?_,?_,?_,?_,?_,?_,?_,?_,?_,?_,?_,?_,?_,?_,?_,?_,?_,?_,?_,?_,?_,?_,?_,?_,?_,?_,?_,?_,?_,?_,?_,?_,?_,trivial⟩,⟨?_,?_,?_,?_,?_,?_,?_,?_,?_,?_,?_,?_,?_,?_,trivial⟩,?_,cl⟩<;>dsimp only[bA.um]<;>first|(refine' bF.Ny ?a ?l ?c ?k;(case a=>k_is);(case l=>k_is);(case c=>k_is);(case k=>k_is))|k_is
  exact bF.S3 iD G sy (t.ds.get (f:=41) rfl) rfl (ui.cZ 41 ∅) rfl (λ_ _ _ _ _ _ s u=>.of_eq rfl) (ui.da iD G t)
end
end
