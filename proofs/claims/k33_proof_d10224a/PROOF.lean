import PyProof.Rows.All
import Wide.All
import OpenK.AllK
import Wide.FinOn
import Lean
import PyProof.EqAt
import PyProof.EqKinds
import PyProof.TupleCall
import PySem.Value
import PySem.Sem
import PySem.SetTable
import PyProof.TupleKey
import PyProof.SetKind
import PyProof.DictKinds
import PyProof.IsRules
import PyProof.CompMap
import PyProof.Rows.SetFrom
import PyProof.WalksMore
import PyProof.FactsAll.subtypes_4
import PyProof.FactsAll.set
import PyProof.Seq
import PyProof.Walks
import KE.KDictSum
import PyProof.CollectStr
import PyProof.ListRange
import PyProof.Rows.SortShell
import PyProof.Rows.SortRuns
import KE.KSortAsk
import KE.KSortTup
import PyProof.StationsW
import PyProof.RulesAs
import PyProof.ExcClass3
import PyProof.IsInstance
import OpenK.KMore
import PyProof.ExcArgsOwn
import OpenK.KDescr
import PyProof.EnumMake
import PyProof.EnumFor
import PyProof.EnumStmt
import KE.BitLaws
import PyProof.Rows.SumAny
import PyProof.WalkInts
import PyProof.ExcBaseAll.ValueError
import PyProof.StrOps2
import PySem.Challenge.RW_holeyard_k33_whole_around_a_corner
set_option linter.all false
def aa2:=@PySem.wpAny_bind
def aa3:=@Bool.and_eq_true
def aa4:=@PySem.wpAny_pure
def aa5:=@PySem.Heap.get?_push_of_some
def aa6:=@Bool.false_eq_true
def aa7.{u}:=@List.length_append.{u}
def aa8.{u}:=@List.mem_cons.{u}
def aa9:=@Nat.le_refl
def aba.{u}:=@List.getElem?_eq_getElem.{u}
def abb.{u}:=@List.size_toArray.{u}
def abc:=@PySem.Heap.lt_size
def abd:=@PySem.Heap.get?_push_size
def abe:=@Nat.mod_two_eq_zero_or_one
def abf.{u}:=@Array.getElem?_eq_getElem.{u}
def abg.{u}:=@List.mem_singleton.{u}
def abh.{u}:=@List.mem_append_right.{u}
def abi.{u}:=@List.getElem?_append_left.{u}
def abj.{u,v}:=@List.getElem?_map.{u,v}
def abk:=@decide_eq_true_eq
def abl:=@Nat.lt_of_lt_of_le
def abm:=@Nat.ne_of_lt
def abn.{u}:=@List.mem_append.{u}
def abo.{u}:=@List.getElem?_eq_some_iff.{u}
def abp.{u}:=@if_false.{u}
def abq.{u}:=@List.nodup_iff_pairwise_ne.{u}
def abr:=@PySem.Heap.get?_update_other
def abt.{u}:=@List.pairwise_cons.{u}
def abu.{u}:=@List.getElem?_eq_none.{u}
def abv.{u}:=@Array.getElem?_eq_some_iff.{u}
def abw:=@Nat.zero_le
def abx.{u}:=@beq_iff_eq.{u}
def aby.{u}:=@List.all_eq_true.{u}
def abz:=@PySem.Heap.get?_update_self
def abA.{u}:=@List.Pairwise.imp_of_mem.{u}
def abB.{u,v}:=@List.map_congr_left.{u,v}
def abC.{u}:=@Option.some.inj.{u}
def abD.{u}:=@List.nodup_cons.{u}
def abE:=@PySem.wpAny_newObj_type
def abF.{u,v}:=@List.lookup_cons.{u,v}
def abG.{u}:=@beq_eq_false_iff_ne.{u}
def abH.{u}:=@List.getElem?_append_right.{u}
def abI:=@Nat.pow_le_pow_right
def abJ.{u}:=@Array.getElem?_toList.{u}
def abK.{u}:=@List.Pairwise.sublist.{u}
def abL.{u,v}:=@List.pairwise_map.{u,v}
def abM:=@PyProof.Rows.wpS_bind
def abN.{u}:=@List.contains_iff_mem.{u}
def abO:=@PySem.mem_of_lookup
def abP:=@Nat.testBit_lt_two_pow
def abQ:=@Bool.not_eq_true'
def abR:=@PySem.wpAny_mono
def abS:=@Nat.xor_assoc
def abT:=@PyProof.Rows.slot_tuple_getitem
def abU.{u}:=@if_true.{u}
def abV.{u}:=@Option.some.injEq.{u}
def abW:=@PySem.wpAny_loadPart_at
def abX:=@Nat.le_trans
def abY:=@Nat.xor_self
def abZ.{u}:=@Array.getElem?_setIfInBounds.{u}
def ab0:=@PySem.Heap.SameBut.update
def ab1.{u}:=@Ne.symm.{u}
def ab2:=@PyProof.Rows.callWith_type1
def ab3.{u}:=@List.idxOf_lt_length_of_mem.{u}
def ab4.{u}:=@Array.getD_eq_getD_getElem?.{u}
def ab5:=@PySem.wpAny_setState_of
def ab6.{u,v}:=@congrArg.{u,v}
def ab7:=@Bool.false_ne_true
def ab8:=@Nat.testBit_xor
def ab9:=@PySem.codeAny_builtin
def aca:=@PySem.wpAny_call_entry
def acb.{u}:=@List.filter_sublist.{u}
def acd.{u}:=@List.eq_nil_of_length_eq_zero.{u}
def ace.{u}:=@List.length_filter_le.{u}
def acf:=@PySem.wpAny_holding
def acg:=@PySem.F.slot_dict_keyiterator_next
def ach.{u}:=@List.getElem_idxOf.{u}
def aci.{u}:=@List.mem_of_getElem?.{u}
def acj:=@PySem.wpAny_callSpecial?_slot
def ack.{u}:=@List.cons_append.{u}
def acm:=@PySem.Around.under_plainId
def acn:=@PyProof.Rows.wpS_pure
def aco:=@Nat.lt_irrefl
def acp:=@Bool.not_true
def acq:=@PySem.wpAny_isSubtype_exc
def acr:=@PySem.wpAny_Call_Name_kw
def acs:=@Nat.xor_lt_two_pow
def acu:=@PySem.Obj.data_mapFields
def acv:=@PySem.wpAny_setField
def acw:=@PySem.wpAny_typeNameOfWhole_keyiter
def acx.{u}:=@List.pairwise_singleton.{u}
def acy.{u}:=@List.ext_getElem?.{u}
def acz.{u}:=@List.append_nil.{u}
def acA.{u}:=@List.length_set.{u}
def acB:=@PyProof.Rows.F.plain_set_update_loop
def acC:=@Nat.zero_add
def acD:=@Nat.zero_xor
def acE.{u}:=@List.take_of_length_le.{u}
def acF.{u}:=@List.length_take.{u}
def acG.{u}:=@List.length_drop.{u}
def acH:=@Nat.lt_succ_self
def acI:=@PySem.Calls.spliced_cons
def acJ.{u}:=@List.pairwise_iff_getElem.{u}
def acK.{u}:=@List.drop_eq_getElem_cons.{u}
def acL.{u}:=@List.exists_mem_of_ne_nil.{u}
def acM:=@PySem.wpAny_passesOwn
def acN:=@Bool.or_eq_true
def acO:=@PySem.wpAny_truthy_bool
def acP:=@Nat.xor_zero
def acQ:=@Nat.pow_lt_pow_right
def acR:=@Nat.eq_of_testBit_eq
def acS.{u}:=@bne_self_eq_false.{u}
def acT:=@Nat.testBit_two_pow_self
def acU:=@PySem.wpAny_typeNameOf_keyiter
def acV:=@PySem.AutoSeq1.wpAny_loadPart'
def acW:=@List.getElem?_range
def acX.{u,v}:=@List.flatMap_append.{u,v}
def acY.{u}:=@List.getElem?_replicate.{u}
def acZ:=@Nat.zero_testBit
def ac0.{u}:=@List.eq_nil_iff_forall_not_mem.{u}
def ac1:=@PySem.F.plainAttrs_list
def ac2:=@PySem.wpAny_field
def ac3:=@PySem.wpAny_typeOf
def ac4.{u,v}:=@List.map_nil.{u,v}
def ac5:=@Nat.and_mod_two_eq_one
def ac6.{u}:=@Array.getElem?_eq_none.{u}
def ac7:=@List.pairwise_lt_range
def ac8:=@PySem.F.called_set
def ac9:=@Int.natCast_nonneg
def ada.{u}:=@List.length_eq_one_iff.{u}
def adb.{u}:=@List.contains_cons.{u}
def ade.{u}:=@List.countP_eq_length_filter.{u}
def adf.{u}:=@List.length_replicate.{u}
def adg.{u}:=@List.getElem?_toArray.{u}
def adh:=@PySem.Obj.isFreed_of_fields
def adi:=@PySem.Calls.spliced_nil
def adj.{u}:=@List.Pairwise.imp.{u}
def adk.{u}:=@List.countP_congr.{u}
def adl.{u}:=@List.append_assoc.{u}
def adm.{u}:=@List.nodup_append.{u}
def adn.{u}:=@List.nodup_nil.{u}
def ado:=@Nat.le_of_lt
def adp:=@PySem.wpAny_askSetting
def adq.{u}:=@List.nil_sublist.{u}
def ads.{u,v}:=@List.mem_flatMap.{u,v}
def adt:=@Classical.byContradiction
def adu:=@Nat.testBit_two_pow
def adv:=@PyProof.Rows.F.entry_set_update_loop
def adw:=@PySem.F.args_tuple_add_2
def adx:=@PySem.wpAny_execs_nil
def ady.{u,v}:=@List.countP_map.{u,v}
def adz.{u,v}:=@List.mem_filterMap.{u,v}
def adA:=@PySem.F.entry_tuple_add
def adB.{u}:=@List.map_id.{u}
def adC.{u}:=@List.filter_append_perm.{u}
def adD:=@PySem.F.slot_tuple_add
def adE:=@PySem.Calls.callWith_builtin
def adF:=@Nat.lt_trichotomy
def adG:=@Nat.xor_mod_two_eq_one
def adH:=@PySem.wpAny_storeSet_of
def adI:=@PySem.F.plain_list_iadd
def adJ:=@PyProof.Rows.wpS_forRange
def adK:=@List.range_succ_eq_map
def adL:=@Bool.or_true
def adM:=@of_decide_eq_true
def adN:=@PySem.F.slot_dict_get
def adO.{u}:=@List.eq_nil_or_concat.{u}
def adP.{u}:=@List.concat_eq_append.{u}
def adQ.{u}:=@List.take_append_drop.{u}
def adR:=@PySem.builtinLookup_eq_fast
def adS:=@PySem.F.typeOf_object_class
def adT:=@PyProof.Rows.callWith_builtin1
def adU:=@PySem.wpAny_forIn_list
def adV:=@Nat.le_of_not_lt
def adW:=@Nat.testBit_zero
def adX:=@Nat.testBit_succ
def adY.{u}:=@List.countP_cons.{u}
def adZ:=@PySem.putSet_of
def ad0:=@PySem.F.args_dict_keyiterator_next_1
def ad1:=@Nat.max_eq_right
def ad2:=@PyProof.Rows.reverseSlice'_eq
def ad3:=@PyProof.Rows.wpS_modify
def ad4.{u}:=@List.sublist_nil.{u}
def ad5:=@PySem.plainId_quiet
def ad6:=@PySem.wpAny_attempt
def ad7.{u}:=@List.getElem?_set_ne.{u}
def ad8:=@PySem.Calls.evalArgs_plain
def ad9.{u}:=@List.length_dropLast.{u}
def aea:=@PySem.codeAny_call_builtin
def aeb:=@PySem.F.entry_dict_keyiterator_next
def aec:=@Nat.and_div_two
def aed:=@Nat.testBit_and
def aee:=@PySem.wpAny_updateSeq
def aef:=@PySem.wpAny_setEntries_of
def aeg.{u,v}:=@List.map_eq_nil_iff.{u,v}
def aeh:=@PySem.codeAny_mono
def aei:=@Nat.xor_comm
def aej:=@Bool.false_and
def aek:=@PySem.tupleKind_room_in1
def ael:=@Bool.not_false
def aem.{u,v}:=@List.map_singleton.{u,v}
def aen:=@Int.emod_lt_of_pos
def aeo.{u}:=@Array.size_extract.{u}
def aep:=@PySem.wpAny_rule
def aeq:=@PySem.wpAny_pyIter_tuple
def aer:=@PySem.Code.quiet_builtin
def aes:=@PySem.wpAny_runValue
def aet:=@PySem.isSubtype_type
def aeu:=@PySem.wpAny_fieldsOf
def aev:=@PySem.Value.isInt_shape
def aew.{u,v}:=@Sum.inl.inj.{u,v}
def aex.{u}:=@Array.size_append.{u}
def aey:=@PySem.Heap.SameBut.refl
def aez:=@PySem.wpAny_pyIter_list
def aeA:=@PySem.wpAny_pyIter_slot
def aeB:=@PySem.wpAny_dictEntries
def aeC.{u}:=@List.Sublist.refl.{u}
def aeD:=@Bool.and_self
def aeE:=@PySem.noFill_tuple_add
def aeF:=@PySem.F.args_dict_get_3
def aeG:=@decide_eq_decide
def aeH.{u}:=@List.not_mem_nil.{u}
def aeI:=@PySem.wpAny_isInstance
def aeJ.{u}:=@List.any_eq_true.{u}
def aeK:=@decide_eq_false_iff_not
def aeL:=@PySem.isinstance_outer
def aeM:=@PySem.W.cellsFrom_some
def aeN:=@PySem.concat_meets
def aeO:=@Nat.le_of_eq
def aeP:=@PySem.F.entry_dict_get
def aeQ:=@Nat.lt_or_ge
def aeR:=@PySem.wpAny_specialOf
def aeS:=@Nat.two_pow_pos
def aeT:=@Nat.xor_div_two
def aeU:=@Int.emod_nonneg
def aeV:=@PySem.typeLookup_type
def aeW:=@PySem.wpAny_dictEpoch
def aeX:=@PySem.call_isinstance
def aeY:=@Bool.xor_false
def aeZ:=@decide_true
def ae0:=@PySem.W.mg_of
def ae1:=@Nat.mod_lt
def ae2:=@Nat.ne_of_gt
def ae3:=@Int.sub_zero
noncomputable section
section
set_option Elab.async false
set_option linter.all false
set_option maxRecDepth 100000
namespace bu
open PySem PySem.Spec PyProof.Rows
noncomputable abbrev Key:=Sum Int Str
noncomputable def qe:Key->Value->Bool
 |.inl k,v=>Value.isInt k v
 |.inr x,v=>Value.isStrOf x v
noncomputable def R8(w:World):Key->Int
 |.inl k=>hashInt k
 |.inr x=>hashStr w x
def lU:∀{k:Key}{v:Value},qe k v=true->(∃i t,k=Sum.inl i/\v=Value.int i t)\/(∃x t,k=Sum.inr x/\v=Value.str x t)
 |.inl i,v,h=>by
  obtain⟨t,e⟩:=aev (k:=i) (v:=v) h;exact .inl ⟨i,t,rfl,e⟩
 |.inr x,v,h=>by
  obtain⟨t,e⟩:=Value.isStrOf_shape (x:=x) (v:=v) h;exact .inr ⟨x,t,rfl,e⟩
def Sa(i:Int)(t:Tok):qe (.inl i) (.int i t)=true:=by simp[qe,Value.isInt]
def Sb(x:Str)(t:Tok):qe (.inr x) (.str x t)=true:=by simp[qe,Value.isStrOf]
def Sf(a b:Int):decide ((Sum.inl a:Key)=Sum.inl b)=(a==b):=by
 by_cases e:a=b
 .subst e;simp
 .have h:¬(Sum.inl a:Key)=Sum.inl b:=λq=>e (aew q)
  rw[decide_eq_false h];exact(abG.mpr e).symm
def Si(a b:Str):decide ((Sum.inr a:Key)=Sum.inr b)=decide (a=b):=by
 by_cases e:a=b
 .subst e;simp
 .have h:¬(Sum.inr a:Key)=Sum.inr b:=λq=>e (Sum.inr.inj q)
  rw[decide_eq_false h,decide_eq_false e]
def Sg(a:Int)(b:Str):decide ((Sum.inl a:Key)=Sum.inr b)=false:=decide_eq_false (λq=>nomatch q)
def Sh(a:Str)(b:Int):decide ((Sum.inr a:Key)=Sum.inl b)=false:=decide_eq_false (λq=>nomatch q)
noncomputable def gT(prog:Program)(w:World):PySem.KeyKind prog w Key where
 is:=qe
 hash:=R8 w
 inj:=λv a b aw ae=>by
  rcases lU aw with⟨i,t,rfl,rfl⟩|⟨x,t,rfl,rfl⟩
  .rcases lU ae with⟨j,u,rfl,e⟩|⟨y,u,rfl,e⟩
   .injection e with e1 _;rw[e1]
   .exact nomatch e
  .rcases lU ae with⟨j,u,rfl,e⟩|⟨y,u,rfl,e⟩
   .exact nomatch e
   .injection e with e1 _;rw[e1]
 byValue:=λk v h=>by
  rcases lU h with⟨i,t,rfl,rfl⟩|⟨x,t,rfl,rfl⟩<;>rfl
 pyHash:=λaK h=>by
  rcases lU aK with⟨i,t,rfl,rfl⟩|⟨x,t,rfl,rfl⟩
  .exact wpAny_pyHash_int h
  .exact wpAny_pyHash_str h
 eqBool:=λbh aK h=>by
  rcases lU bh with⟨i,t,rfl,rfl⟩|⟨x,t,rfl,rfl⟩
  .rcases lU aK with⟨j,u,rfl,rfl⟩|⟨y,u,rfl,rfl⟩
   .rw[Sf]at h;exact wpAny_eqBool_int h
   .rw[Sg]at h;exact SeqAt.EqAt.int_str i t y u _ _ _ _ h
  .rcases lU aK with⟨j,u,rfl,rfl⟩|⟨y,u,rfl,rfl⟩
   .rw[Sh]at h;exact SeqAt.EqAt.str_int x t j u _ _ _ _ h
   .rw[Si]at h;exact wpAny_eqBool_str h
 «strs»:=λk x t v h=>by
  rcases lU h with⟨i,u,rfl,e⟩|⟨y,u,rfl,e⟩
  .exact nomatch e
  .injection e with e1 _;subst e1;cases v<;>rfl
def To(prog:Program)(w:World)(i:Int)(t:Tok):(gT prog w).is (.inl i) (.int i t)=true:=Sa i t
def Tp(prog:Program)(w:World)(x:Str)(t:Tok):(gT prog w).is (.inr x) (.str x t)=true:=Sb x t
end bu
namespace bu
open PySem PySem.Spec PyProof.Rows
inductive V where
 |dV|aV (b:Bool)|int (i:Int)|str (x:Str)|yp (b:Array UInt8)|i8 (b:UInt64)|ref (a:Addr)|ty (n:String)
 deriving DecidableEq
noncomputable def RelV:V->Value->Prop
 |.dV,u=>u=Value.none
 |.aV b,u=>u=Value.bool b
 |.int i,u=>∃t,u=Value.int i t
 |.str x,u=>∃t,u=Value.str x t
 |.yp b,u=>∃t,u=Value.bytes b t
 |.i8 b,u=>∃t,u=Value.float b t
 |.ref a,u=>u=Value.ref a
 |.ty n,u=>u=Value.type n
noncomputable abbrev Vals:List V->List Value->Prop:=Paired RelV
theorem Vals.length{xs:List V}{us:List Value}(r:Vals xs us):xs.length=us.length:=Paired.length r
theorem Vals.get:∀{xs:List V}{us:List Value}{i:Nat}{x:V},Vals xs us->xs[i]?=some x->∃u,us[i]?=some u/\RelV x u
 |_,_,_,_,.nil,e=>by simp at e
 |_,_,0,_,.cons r _,e=>by simp at e;subst e;exact⟨_,rfl,r⟩
 |_,_,i+1,x,.cons _ t,e=>by
  obtain⟨u,J,aa⟩:=Vals.get (i:=i) (x:=x) t (by simpa using e);exact⟨u,by simpa using J,aa⟩
theorem Vals.set{x:V}{u:Value}(r:RelV x u):∀{xs:List V}{us:List Value}(i:Nat),Vals xs us->Vals (xs.set i x) (us.set i u)
 |_,_,_,.nil=>.nil
 |_,_,0,.cons _ t=>.cons r t
 |_,_,i+1,.cons q t=>.cons q (Vals.set r i t)
theorem Vals.append:∀{xs ys:List V}{us ws:List Value},Vals xs us->Vals ys ws->Vals (xs++ys) (us++ws)
 |_,_,_,_,.nil,s=>s
 |_,_,_,_,.cons r t,s=>.cons r (Vals.append t s)
theorem Vals.take:∀{xs:List V}{us:List Value}(n:Nat),Vals xs us->Vals (xs.take n) (us.take n)
 |_,_,0,_=>.nil
 |_,_,_+1,.nil=>.nil
 |_,_,n+1,.cons r t=>.cons r (Vals.take n t)
theorem Vals.drop:∀{xs:List V}{us:List Value}(n:Nat),Vals xs us->Vals (xs.drop n) (us.drop n)
 |_,_,0,r=>r
 |_,_,_+1,.nil=>.nil
 |_,_,n+1,.cons _ t=>Vals.drop n t
noncomputable def iF:Option V->Option Value->Prop
 |some v,some u=>RelV v u
 |none,none=>True
 |_,_=>False
def eT{κ:Type}:List (κ×V)->List (κ×Value)->Prop:=Paired λ(p:κ×V)(q:κ×Value)=>p.1=q.1/\RelV p.2 q.2
noncomputable def dc:Key->V
 |.inl i=>.int i
 |.inr x=>.str x
inductive e3 where
  |lst (xs:List V)
  |tup (xs:List V)
  |dS (ao:List (Key×V))|di (ao:List (List Key×V))
  |set (S:Int->Bool) (n:Nat)
  |ins (C bk:Addr) (bB:List (Str×V))
  |own (x:Addr)
  |w4 (bB:List (Str×V))
  |met (f x:Addr)
  |fa (lo ai:Int)
  |du (o:Obj) (u:e3)
  |nF (aY:Array Value)
  |ext (cS:Heap->Prop)
noncomputable abbrev aD:=Addr->Option e3
noncomputable def upd(H:aD)(a:Addr)(o:e3):aD:=λb=>if b=a then some o else H b
def dC{H:aD}{a:Addr}{o:e3}:upd H a o a=some o:=by unfold upd;rw[if_pos rfl]
def cR{H:aD}{a b:Addr}{o:e3}(h:b≠a):upd H a o b=H b:=by unfold upd;rw[if_neg h]
def Cm{H:aD}{a:Addr}{o u:e3}:upd (upd H a o) a u=upd H a u:=by
 funext b;unfold upd;split<;>rfl
def TG{H:aD}{a b:Addr}{o u:e3}(h:H a=some o)(h':H b=some u)(d:o≠u):a≠b:=by
 intro e;subst e;rw[h]at h';exact d (abC h')
def nd{H:aD}{a b:Addr}{o:e3}(h:H a=some o)(h':H b=none):a≠b:=by
 intro e;subst e;rw[h]at h';cases h'
section
variable(P:Program)(w:World)
noncomputable def d1(H:aD)(h:Heap)(a:Addr):e3->Prop
 |.lst xs=>xs.length<=sizeLine/\∃(its:List Value)(n:Nat),Vals xs its/\h.get? a=some { cls:=.type "list",data:=.seq its.toArray n }
 |.tup xs=>xs.length<=sizeLine/\∃its:List Value,Vals xs its/\IsTup h a its.toArray
 |.dS ao=>ao.length<=sizeLine/\(a==sysModules)=false/\∃ah,eT ao ah/\h.DictOf (gT P w) a ah
 |.di ao=>ao.length<=sizeLine/\(a==sysModules)=false/\∃xs:List (List Key×Addr×Value),
   Paired (λ(p:List Key×V)(q:List Key×Addr×Value)=>p.1=q.1/\H q.2.1=some (.tup (p.1.map dc))/\RelV p.2 q.2.2) ao xs /\
   ∃o aj a6,h.get? a=some o/\o.ExactDict/\o.data=.dict aj a6/\aj.toList=xs.map (entryOfKey (tupleKind (gT P w)))/\(xs.map (·.1)).Nodup
 |.set S n=>h.SetOf (intKind P w) a S n
 |.ins C bk bB=>H bk=some (.own a)/\bB.length<=1000/\bk≠a/\h.get? a=some (PySem.W.instObj C bk) /\
   ∃gF,h.Ns1 bk gF/\(∀f,iF (bB.lookup f) (gF f))/\PySem.Within gF (bB.map (·.1))
 |.own _=>∃o,h.get? a=some o
 |.w4 bB=>∃gF,h.Ns1 a gF/\∀f,iF (bB.lookup f) (gF f)
 |.fa lo ai=>∃t u v,h.get? a=some { cls:=.type "range",data:=.fields #[.int lo t,.int ai u,.int 1 v] }
 |.du o u=>h.get? a=some o/\d1 H h a u
 |.nF aY=>h.get? a=some { cls:=.none,data:=.fields aY }
 |.met f x=>h.get? a=some (PySem.W.methodObj (.ref f) (.ref x))
 |.ext cS=>cS h/\(∃o,h.get? a=some o)/\∀J aa:Heap,cS J->(∀o,J.get? a=some o->aa.get? a=some o)->cS aa
def ea(H:aD)(h:Heap):Prop:=∀a o,H a=some o->d1 P w H h a o
end
section
variable{P:Program}{w:World}{H aq:aD}{h h':Heap}{a:Addr}{o:e3}
theorem d1.lt(x:d1 P w H h a o):a<h.objs.size:=by
 cases o with
 |lst xs=>obtain⟨_,_,_,_,e⟩:=x;exact abc e
 |tup xs=>obtain⟨_,_,_,p⟩:=x;exact p.lt
 |dS ao=>obtain⟨_,_,_,_,o,_,_,e,_⟩:=x;exact abc e
 |di ao=>obtain⟨_,_,_,_,o,_,_,e,_⟩:=x;exact abc e
 |set S n=>obtain⟨o,_,_,_,e,_⟩:=x;exact abc e
 |ins C bk bB=>obtain⟨_,_,_,e,_⟩:=x;exact abc e
 |own y=>obtain⟨_,e⟩:=x;exact abc e
 |w4 bB=>obtain⟨_,⟨_,_,_,e,_⟩,_⟩:=x;exact abc e
 |fa lo ai=>obtain⟨_,_,_,e⟩:=x;exact abc e
 |du bQ u=>obtain⟨e,_⟩:=x;exact abc e
 |nF aY=>exact abc (show h.get? a=some _ from x)
 |met f y=>exact abc (show h.get? a=some _ from x)
 |ext cS=>obtain⟨_,⟨_,e⟩,_⟩:=x;exact abc e
theorem Paired.AR{α β:Type}{F G:α->β->Prop}:∀{GH:List α}{GI:List β},Paired F GH GI->(∀a b,F a b->G a b)->Paired G GH GI
 |_,_,.nil,_=>.nil
 |_,_,.cons r t,f=>.cons (f _ _ r) (Paired.AR t f)
def d1.jq(x:d1 P w H h a o)(k:∀b u,(b=a\/H b=some (.own a))->h.get? b=some u->h'.get? b=some u)(ay:∀b,H b=some (.own a)->aq b=some (.own a))(aA:∀b xs,H b=some (.tup xs)->aq b=some (.tup xs)):d1 P w aq h' a o:=by
 induction o with
 |lst xs=>obtain⟨z,its,n,r,e⟩:=x;exact⟨z,its,n,r,k _ _ (.inl rfl) e⟩
 |tup xs=>obtain⟨z,its,r,bQ,e,c⟩:=x;exact⟨z,its,r,bQ,k _ _ (.inl rfl) e,c⟩
 |dS ao=>obtain⟨z,y,ah,r,bQ,aj,a6,e,c⟩:=x;exact⟨z,y,ah,r,bQ,aj,a6,k _ _ (.inl rfl) e,c⟩
 |di ao =>
  obtain⟨z,y,xs,r,bQ,aj,a6,e,c⟩:=x;exact⟨z,y,xs,Paired.AR r λp q z=>⟨z.1,aA _ _ z.2.1,z.2.2⟩,bQ,aj,a6,k _ _ (.inl rfl) e,c⟩
 |set S n=>obtain⟨bQ,aj,a6,t,e,c⟩:=x;exact⟨bQ,aj,a6,t,k _ _ (.inl rfl) e,c⟩
 |ins C bk bB =>
  obtain⟨d,z,ne,e,gF,⟨bb,aj,a6,ar,c⟩,r⟩:=x;exact⟨ay _ d,z,ne,k _ _ (.inl rfl) e,gF,⟨bb,aj,a6,k _ _ (.inr d) ar,c⟩,r⟩
 |own y=>obtain⟨bQ,e⟩:=x;exact⟨bQ,k _ _ (.inl rfl) e⟩
 |w4 bB=>obtain⟨gF,⟨bb,aj,a6,e,c⟩,r⟩:=x;exact⟨gF,⟨bb,aj,a6,k _ _ (.inl rfl) e,c⟩,r⟩
 |fa lo ai=>obtain⟨t,u,v,e⟩:=x;exact⟨t,u,v,k _ _ (.inl rfl) e⟩
 |du bQ u aG=>obtain⟨e,q⟩:=x;exact⟨k _ _ (.inl rfl) e,aG q⟩
 |nF aY =>
  have e:h.get? a=some { cls:=.none,data:=.fields aY }:=x;show h'.get? a=some { cls:=.none,data:=.fields aY };exact k a _ (.inl rfl) e
 |met f y =>
  have e:h.get? a=some (PySem.W.methodObj (.ref f) (.ref y)):=x;show h'.get? a=some (PySem.W.methodObj (.ref f) (.ref y));exact k a _ (.inl rfl) e
 |ext cS=>obtain⟨p,⟨o,e⟩,st⟩:=x;exact⟨st _ _ p λo q=>k _ _ (.inl rfl) q,⟨o,k _ _ (.inl rfl) e⟩,st⟩
theorem ea.lt(x:ea P w H h)(e:H a=some o):a<h.objs.size:=(x a o e).lt
def ea.fresh(x:ea P w H h)(e:h.objs.size<=a):H a=none:=by
 cases q:H a with
 |none=>rfl
 |some u=>exact absurd (abl (x.lt q) e) (aco _)
def ea.kept(x:ea P w H h)(k:∀b u,h.get? b=some u->h'.get? b=some u):ea P w H h':=λa o e =>
 (x a o e).jq (λb u _ q=>k b u q) (λ_ q=>q) λ_ _ q=>q
def ea.laid(x:ea P w H h)(k:∀b u,h.get? b=some u->h'.get? b=some u)(aB:h.objs.size<=a)(new:d1 P w (upd H a o) h' a o):ea P w (upd H a o) h':=λb u e=>by
 have aC:=x.fresh aB
 by_cases ae:b=a
 .subst ae;rw[dC]at e;cases e;exact new
 .rw[cR ae]at e;exact(x b u e).jq (λc v _ q=>k c v q) (λc q=>by rw[cR (nd q aC)];exact q) λc xs q=>by rw[cR (nd q aC)];exact q
end
def gO(H:aD)(a:Addr)(u:e3):Prop:=H a=some u\/∃o,H a=some (.du o u)
def gO.ok{P:Program}{w:World}{H:aD}{h:Heap}{a:Addr}{u:e3}(r:gO H a u)(x:ea P w H h):d1 P w H h a u:=by
 rcases r with r|⟨o,r⟩
 .exact x a u r
 .obtain⟨_,q⟩:=x a _ r;exact q
noncomputable def q9:Option e3->Prop
 |some (.lst _)=>True
 |some (.dS _)=>True
 |some (.di _)=>True
 |some (.set _ _)=>True
 |some (.ins _ _ _)=>True
 |some (.ext _)=>True
 |_=>False
section
variable{P:Program}{w:World}{H:aD}{h h':Heap}{x e:Addr}{bL:e3}
def ea.write (ok : ea P w H h) (mu : q9 (H x)) (he : e = x \/ H e = some (.own x)) (k : ∀ b u, b ≠ e -> h.get? b = some u -> h'.get? b = some u) (pU : ∃ u, h'.get? e = some u)
    (new : d1 P w (upd H x bL) h' x bL) : ea P w (upd H x bL) h' := fun b u q => by
  have Hc : ∀ c y, H c = some (.own y) -> c ≠ x := fun c y r z => by subst z; rw [r] at mu; exact mu
  have TU : ∀ c xs, H c = some (.tup xs) -> c ≠ x := fun c xs r z => by subst z; rw [r] at mu; exact mu
  by_cases ae : b = x
  · subst ae; rw [dC] at q; cases q; exact new
  · rw [cR ae] at q
    by_cases oh : b = e
    · have cB : H b = some (.own x) := by
        rcases he with z | z
        · exact absurd (oh.trans z) ae
        · rw [oh]; exact z
      rw [q] at cB; cases cB
      obtain ⟨v, aK⟩ := pU
      exact ⟨v, by rw [oh]; exact aK⟩
    · refine (ok b u q).jq (fun c v ag r => k c v ?_ r) (fun c r => by rw [cR (Hc c b r)]; exact r) fun c xs r => by rw [cR (TU c xs r)]; exact r
      rcases ag with rfl | ag
      · exact oh
      · rintro rfl
        rcases he with z | z
        · exact Hc c b ag z
        · rw [ag] at z; cases z; exact ae rfl
end
structure fi(bB ex:List Addr)(H aq:aD)(h h':Heap):Prop where
 keep:∀b o,h.get? b=some o->H b=none->b∉bB->b∉ex->h'.get? b=some o
 slot:∀b o,h.get? b=some o->H b=none->b∈bB->b∉ex->∃bI,h'.get? b=some { o with slots:=bI }
 free:∀b o,h.get? b=some o->H b=none->b∉ex->aq b=none
 there:∀b o,h.get? b=some o->b∉ex->∃bL,h'.get? b=some bL
 jt:∀b xs,H b=some (.tup xs)->aq b=some (.tup xs)
 iK:∀b o u,H b=some (.du o u)->aq b=some (.du o u)
 js:∀b aY,H b=some (.nF aY)->∃more,aq b=some (.nF (aY++more))
section
variable{bB Py ex Z2:List Addr}{H H1 aU:aD}{h J aa h':Heap}{a x e:Addr}{o:e3}
def fi.any(u:fi bB ex H H1 h J){b:Addr}{bQ:Obj}(q:h.get? b=some bQ)(n:H b=none)(ak:b∉ex):∃bI,J.get? b=some { bQ with slots:=bI }:=by
 by_cases ae:b∈bB
 .exact u.slot b bQ q n ae ak
 .exact⟨bQ.slots,u.keep b bQ q n ae ak⟩
def fi.kept(k:∀b u,h.get? b=some u->h'.get? b=some u):fi bB ex H H h h' :=
 ⟨λb bQ q _ _ _=>k b bQ q,λb bQ q _ _ _=>⟨bQ.slots,k b bQ q⟩,λ_ _ _ n _=>n,λb bQ q _=>⟨bQ,k b bQ q⟩,λ_ _ q=>q,λ_ _ _ q=>q,λ_ aY q=>⟨#[],by rw[q];simp⟩⟩
def fi.refl:fi bB ex H H h h:=fi.kept λ_ _ q=>q
def fi.laid(k:∀b u,h.get? b=some u->h'.get? b=some u)(aB:h.objs.size<=a)(aC:H a=none):fi bB ex H (upd H a o) h h' where
 keep:=λb u q _ _ _=>k b u q
 slot:=λb u q _ _ _=>⟨u.slots,k b u q⟩
 free:=λb u q n _=>by rw[cR (abm (abl (abc q) aB))];exact n
 there:=λb u q _=>⟨u,k b u q⟩
 jt:=λb xs q=>by rw[cR (nd q aC)];exact q
 iK:=λb u xs q=>by rw[cR (nd q aC)];exact q
 js:=λb aY q=>⟨#[],by rw[cR (nd q aC),q];simp⟩
def fi.write(mu:q9 (H x))(he:e=x\/H e=some (.own x))(k:∀b u,b≠e->h.get? b=some u->h'.get? b=some u)(pU:∃u,h'.get? e=some u):fi bB ex H (upd H x o) h h':=by
 have ak:∀b,H b=none->b≠x:=λb n z=>by subst z;rw[n]at mu;exact mu
 have ae:∀b,H b=none->b≠e:=λb n z=>by
  subst z;rcases he with r|r
  .exact ak b n r
  .rw[n]at r;cases r
 have hm:∀b u,H b=some u->¬q9 (some u)->b≠x:=λb u q nm z=>by subst z;rw[q]at mu;exact nm mu
 refine⟨λb u q n _ _=>k b u (ae b n) q,λb u q n _ _=>⟨u.slots,k b u (ae b n) q⟩,λb u q n _=>by rw[cR (ak b n)];exact n,λb u q _=>?_,
  λb xs q=>by rw[cR (hm b _ q λz=>z)];exact q,λb u xs q=>by rw[cR (hm b _ q λz=>z)];exact q,λb aY q=>⟨#[],by rw[cR (hm b _ q λz=>z),q];simp⟩⟩
 by_cases oh:b=e
 .subst oh;exact pU
 .exact⟨u,k b u oh q⟩
end
noncomputable def wJ(h:Heap)(H:aD):List Addr:=(List.range h.objs.size).filter λa=>(H a).isSome
noncomputable def lM(h:Heap)(H:aD):Heap:=PySem.W.hideAll h (wJ h H)
def Qt(h:Heap)(H:aD):(lM h H).objs.size=h.objs.size:=PySem.W.hideAll_size _ _
def Qs{h:Heap}{H:aD}{b:Addr}{o:Obj}(e:h.get? b=some o)(n:H b=none):(lM h H).get? b=some o :=
 PySem.W.hideAll_get _ e λhm=>by
  have q:(H b).isSome=true:=(List.mem_filter.mp hm).2;rw[n]at q;simp at q
def T8{h:Heap}{H:aD}{b:Addr}{o:Obj}(e:(lM h H).get? b=some o):h.get? b=some o/\H b=none:=by
 have bq:h.get? b=some o:=PySem.W.of_hideAll (wJ h H) e;refine⟨bq,?_⟩;cases q:H b with
 |none=>rfl
 |some x =>
  have hm:b∈wJ h H:=List.mem_filter.mpr ⟨List.mem_range.mpr (abc bq),by simp[q]⟩;have z:(lM h H).get? b=none:=PySem.W.hideAll_none (wJ h H) hm;rw[z]at e;cases e
noncomputable def CV(g h:Heap)(L:Addr):List (Addr×Obj):=(List.range h.objs.size).filterMap λa=>if a=L\/(g.get? a).isSome=true then none else(h.get? a).map λo=>(a,o)
def Tf{g h:Heap}{L a:Addr}{o:Obj}(J:a≠L)(aa:g.get? a=none)(aE:h.get? a=some o):(a,o)∈CV g h L :=
 adz.mpr ⟨a,List.mem_range.mpr (abc aE),by simp[J,aa,aE]⟩
noncomputable def rest(g h:Heap)(L d:Addr):List (Addr×Obj):=(CV g h L).filter λp=>decide (p.1≠d)
def jj{g h:Heap}{L d a:Addr}{o:Obj}(J:a≠L)(aa:g.get? a=none)(aE:h.get? a=some o)(aR:a≠d):(a,o)∈rest g h L d :=
 List.mem_filter.mpr ⟨Tf J aa aE,decide_eq_true aR⟩
end bu
namespace bu
open PySem PySem.Spec PyProof.Rows
structure Mod(K:W.Frag)(aX:Str->Option Value)(base:Heap):Prop where
 AA:K.In base
 glob:base.Ns mainGlobals aX
 blt:∃ji,base.Ns builtinsNs ji/\∀x:Str,x≠"__name__"->ji x=bootBuiltins x
 nolimit:base.NoLimit
structure a4 where
 prog:Program
 w:World
 K:W.Frag
 aX:Str->Option Value
 base:Heap
 A:Around
 N:List Str
 eQ:Shared
 q6:aD
 env:Env
 outer:List Env
 stack:List Env
 ex:List Addr
 fn:Str->Bool
 calm:Bool
 cp:List (Addr×Obj)
 cb:Value->Shared->Prop
noncomputable def gg(l:List Env):List Addr:=l.filterMap (·.frame)
noncomputable abbrev a4.bB(X:a4):List Addr:=gg X.outer
def fj(sc:Scope)(x:Str):Prop:=sc.names.lookup x=some .local\/sc.names.lookup x=some .cell\/sc.names.lookup x=some .free
def Loc(sc:Scope)(x:Str):Prop:=sc.names.lookup x=some .local\/sc.names.lookup x=some .cell
def Look(env:Env)(h:Heap)(m:Str->Option Value)(x:Str)(u:Value):Prop :=
 (env.kindOf x=some .local/\m x=some u)\/((env.kindOf x=some .cell\/env.kindOf x=some .free)/\∃c,env.cells.lookup x=some c/\h.IsCell c (some u))
structure a4.Ok(X:a4):Prop where
 mod:Mod X.K X.aX X.base
 kind:X.env.scope.kind=.function
 glob:X.env.globals=mainGlobals
 blt:X.env.builtins=builtinsNs
 above:X.eQ.heap.objs.size<=X.env.locals
 inj:∀x y c,X.env.cells.lookup x=some c->X.env.cells.lookup y=some c->x=y
 has:∀x,(X.env.kindOf x=some .cell\/X.env.kindOf x=some .free)->∃c,X.env.cells.lookup x=some c
 rt:∀x c,X.fn x=true->X.env.cells.lookup x=some c->X.eQ.heap.objs.size<=c
 hd:X.calm=true->X.A.handled=none
 frames:X.A.frames=some X.stack
 o1:X.stack=X.outer\/(X.stack=X.env::X.outer/\X.env.frame=some X.env.locals)
 uW:∀b∈X.ex,b≠X.env.locals/\∀x c,X.env.cells.lookup x=some c->c≠b
 bs:∀b o,X.base.get? b=some o->X.eQ.heap.get? b=some o/\X.q6 b=none
 n4:X.base.objs.size<=X.eQ.heap.objs.size
 qr:∀b o,X.base.get? b=some o->b∉X.ex
 od:∀b∈X.ex,b∉X.bB
 i9:X.eQ.heap.FunFrames X.base X.outer
 pQ:∀b∈X.bB,X.q6 b=none
structure Inv(X:a4)(pins:List (Addr×Obj))(σ:List (Option V))(H:aD)(s:Shared):Prop where
 ok:X.Ok
 os:s.os=X.eQ.os
 bare:AllBare s.gens
 base:fi X.bB X.ex X.q6 H X.eQ.heap s.heap
 loc:∃m,s.heap.Ns X.env.locals m/\∀(i:Nat)(x:Str)(v:V),X.N[i]?=some x->σ[i]?=some (some v)->fj X.env.scope x->∃u,RelV v u/\Look X.env s.heap m x u
 cell:∀x c,X.env.cells.lookup x=some c->∃v,s.heap.IsCell c v
 free:H X.env.locals=none
 hC:∀x c,X.env.cells.lookup x=some c->H c=none
 pin:∀p∈X.cp++pins,s.heap.get? p.1=some p.2/\H p.1=none/\p.1≠X.env.locals/\p.1∉X.bB/\∀v,p.2.data≠.cell v
 bx:ea X.prog X.w H s.heap
 len:σ.length=X.N.length
section
variable{X:a4}{pins:List (Addr×Obj)}{σ:List (Option V)}{H aq:aD}{s:Shared}{h':Heap}
def a4.Ok.TN(ok:X.Ok){b:Addr}{o:Obj}(e:X.base.get? b=some o):b∉X.bB:=λae=>by
 have:=(ok.i9.mem ae).1;rw[e]at this;cases this
theorem Inv.bs(I:Inv X pins σ H s):∀b o,X.base.get? b=some o->s.heap.get? b=some o/\H b=none:=λb o e =>
 ⟨I.base.keep b o (I.ok.bs b o e).1 (I.ok.bs b o e).2 (I.ok.TN e) (I.ok.qr b o e),I.base.free b o (I.ok.bs b o e).1 (I.ok.bs b o e).2 (I.ok.qr b o e)⟩
def Inv.hu(I:Inv X pins σ H s):∀b o,X.base.get? b=some o->s.heap.get? b=some o:=λb o e=>(I.bs b o e).1
theorem Inv.mod(I:Inv X pins σ H s):Mod X.K X.aX X.base:=I.ok.mod
def Inv.oA(I:Inv X pins σ H s):X.K.In s.heap:=I.ok.mod.AA.keeps I.hu
theorem Inv.lt(I:Inv X pins σ H s):X.env.locals<s.heap.objs.size:=let ⟨_,aC,_⟩:=I.loc;aC.lt
def Inv.gJ(I:Inv X pins σ H s):X.eQ.heap.objs.size<=s.heap.objs.size:=abX I.ok.above (ado I.lt)
def Inv.vQ(I:Inv X pins σ H s){a:Addr}(h:s.heap.objs.size<=a):a∉X.bB:=λae=>by
 obtain⟨_,o,ay,_⟩:=I.ok.i9.mem ae;exact absurd (abl (abc ay) (abX I.gJ h)) (aco _)
def Inv.mJ(I:Inv X pins σ H s):∀x c,X.env.cells.lookup x=some c->c≠X.env.locals:=λx c e z=>by
 obtain⟨v,o,ay,hd⟩:=I.cell x c e;obtain⟨m,⟨bL,aj,a6,d8,fZ,_⟩,_⟩:=I.loc;rw[z,d8]at ay;cases ay;rw[fZ]at hd;cases hd
theorem Inv.i9(I:Inv X pins σ H s):s.heap.FunFrames X.base X.outer:=by
 have all:∀(l:List Env),(∀b∈gg l,b∈X.bB)->X.eQ.heap.FunFrames X.base l->s.heap.FunFrames X.base l:=by
  intro l
  induction l with
  |nil=>intro _ _;trivial
  |cons env r aG =>
   intro af az;obtain⟨ax,⟨L,o,hf,aC,ay,hd⟩,a3⟩:=az;have es:L∈X.bB:=af L (by unfold gg;rw[List.filterMap_cons,hf];exact List.mem_cons_self);obtain⟨bI,e⟩:=I.base.slot L o ay (I.ok.pQ L es) es λz=>I.ok.od L z es
   exact⟨ax,⟨L,_,hf,aC,e,hd⟩,aG (λb ae=>af b (by unfold gg;rw[List.filterMap_cons,hf];exact List.mem_cons_of_mem _ ae)) a3⟩
 exact all X.outer (λ_ ae=>ae) I.ok.i9
theorem Inv.stack(I:Inv X pins σ H s):s.heap.FunFrames X.base X.stack:=by
 rcases I.ok.o1 with e|⟨e,hf⟩
 .rw[e];exact I.i9
 .rw[e];obtain⟨m,aC,_⟩:=I.loc;refine .cons (by rw[I.ok.kind];decide) hf aC ?_ I.i9;exact Heap.get?_none_of_le (abX I.ok.n4 I.ok.above)
def Inv.o2(I:Inv X pins σ H s):∀b∈gg X.stack,b∈X.env.locals::X.bB:=λb ae=>by
 rcases I.ok.o1 with e|⟨e,hf⟩
 .rw[e]at ae;exact List.mem_cons_of_mem _ ae
 .rw[e]at ae;unfold gg at ae;rw[List.filterMap_cons,hf]at ae;exact ae
def Inv.B1(I:Inv X pins σ H s):∀b∈gg X.stack,H b=none:=λb ae=>by
 rcases aa8.mp (I.o2 b ae) with e|ae
 .rw[e];exact I.free
 .obtain⟨_,o,ay,_⟩:=I.ok.i9.mem ae;exact I.base.free b o ay (I.ok.pQ b ae) λz=>I.ok.od b z ae
def Inv.step{g':Array GenState}{t':Nat}{d':Drawn}{ch:List Addr}(I:Inv X pins σ H s)(kx:∀b∈ch,(b∈X.ex\/X.eQ.heap.objs.size<=b)/\b≠X.env.locals/\(∀x c,X.env.cells.lookup x=some c->c≠b)/\∀p∈X.cp++pins,p.1≠b)(keep:∀b o,b≠X.env.locals->b∉X.bB->b∉ch->s.heap.get? b=some o->H b=none->h'.get? b=some o)(slot:∀b o,b≠X.env.locals->b∈X.bB->b∉ch->s.heap.get? b=some o->H b=none->∃bI,h'.get? b=some { o with slots:=bI })(free:∀b o,b∉ch->s.heap.get? b=some o->H b=none->aq b=none)(there:∀b o,b∉ch->s.heap.get? b=some o->∃bL,h'.get? b=some bL)(jt:∀b xs,H b=some (.tup xs)->aq b=some (.tup xs))(iK:∀b o u,H b=some (.du o u)->aq b=some (.du o u))(js:∀b aY,H b=some (.nF aY)->∃more,aq b=some (.nF (aY++more)))(ns:∀m,s.heap.Ns X.env.locals m->h'.Ns X.env.locals m)(bx:ea X.prog X.w aq h')(aZ:AllBare g'):
  Inv X pins σ aq { s with heap:=h',gens:=g',drawn:=d',toks:=t' }:=by
 have jl:∀b o,X.eQ.heap.get? b=some o->b≠X.env.locals:=λb o e=>abm (abl (abc e) I.ok.above)
 have nc:∀b o,X.eQ.heap.get? b=some o->b∉X.ex->b∉ch:=λb o e ak ae=>by
  rcases(kx b ae).1 with z|z
  .exact ak z
  .exact absurd (abl (abc e) z) (aco _)
 have cellK:∀x c,X.env.cells.lookup x=some c->∀v,s.heap.IsCell c v->h'.IsCell c v:=λx c e v ⟨o,ay,hd⟩=>by
  have tb:c∉ch:=λz=>(kx c z).2.2.1 x c e rfl
  by_cases ag:c∈X.bB
  .obtain⟨bI,q⟩:=slot c o (I.mJ x c e) ag tb ay (I.hC x c e);exact⟨_,q,hd⟩
  .exact⟨o,keep c o (I.mJ x c e) ag tb ay (I.hC x c e),hd⟩
 refine⟨I.ok,I.os,aZ,⟨λb o e n ae ak=>?_,λb o e n ae ak=>?_,λb o e n ak=>?_,λb o e ak=>?_,λb xs e=>jt b xs (I.base.jt b xs e),λb o xs e=>iK b o xs (I.base.iK b o xs e),λb aY e=>?_⟩,?_,λx c e=>?_,?_,λx c e=>?_,λp aB=>?_,bx,I.len⟩
 .exact keep b o (jl b o e) ae (nc b o e ak) (I.base.keep b o e n ae ak) (I.base.free b o e n ak)
 .obtain⟨bI,e1⟩:=I.base.slot b o e n ae ak;obtain⟨BR,ar⟩:=slot b _ (jl b o e) ae (nc b o e ak) e1 (I.base.free b o e n ak);exact⟨BR,ar⟩
 .obtain⟨bL,e1⟩:=I.base.there b o e ak;exact free b bL (nc b o e ak) e1 (I.base.free b o e n ak)
 .obtain⟨bL,e1⟩:=I.base.there b o e ak;exact there b bL (nc b o e ak) e1
 .obtain⟨oE,e1⟩:=I.base.js b aY e;obtain⟨qk,ar⟩:=js b _ e1;exact⟨oE++qk,by rw[ar,Array.append_assoc]⟩
 .obtain⟨m,aC,az⟩:=I.loc;refine⟨m,ns m aC,λi x v e1 ar bf=>?_⟩;obtain⟨u,r,l⟩:=az i x v e1 ar bf;refine⟨u,r,?_⟩;rcases l with l|⟨k,c,e,z⟩
  .exact .inl l
  .exact .inr ⟨k,c,e,cellK x c e _ z⟩
 .obtain⟨v,z⟩:=I.cell x c e;exact⟨v,cellK x c e v z⟩
 .obtain⟨m,⟨o,_,_,ay,_⟩,_⟩:=I.loc;exact free _ o (λz=>(kx _ z).2.1 rfl) ay I.free
 .obtain⟨v,o,ay,hd⟩:=I.cell x c e;exact free c o (λz=>(kx c z).2.2.1 x c e rfl) ay (I.hC x c e)
 .obtain⟨e,n,ne,iS,d⟩:=I.pin p aB;have tb:p.1∉ch:=λz=>(kx p.1 z).2.2.2 p aB rfl
  exact⟨keep p.1 p.2 ne iS tb e n,free p.1 p.2 tb e n,ne,iS,d⟩
def Inv.un{t':Nat}(I:Inv X pins σ H s)(u:fi X.bB [] H aq s.heap h')(bx:ea X.prog X.w aq h'):Inv X pins σ aq { s with heap:=h',toks:=t' }:=by
 obtain⟨m,⟨o,aj,a6,ay,r⟩,_⟩:=id I.loc;obtain⟨bI,es⟩:=u.any ay I.free (by simp);exact I.step (g':=s.gens) (d':=s.drawn) (ch:=[]) (λ_ z=>nomatch z) (λb o _ ae _ e n=>u.keep b o e n ae (by simp)) (λb o _ ae _ e n=>u.slot b o e n ae (by simp)) (λb o _ e n=>u.free b o e n (by simp)) (λb o _ e=>u.there b o e (by simp)) u.jt u.iK u.js (λh3 hm=>by
  obtain⟨bL,ob,yV,d8,b5⟩:=hm;rw[ay]at d8;cases d8;exact⟨_,ob,yV,es,b5⟩) bx I.bare
def Inv.call{g':Array GenState}{t':Nat}{d':Drawn}{ch:List Addr}(I:Inv X pins σ H s)(u:fi (gg X.stack) ch H aq s.heap h')(bx:ea X.prog X.w aq h')(aZ:AllBare g')(kx:∀b∈ch,(b∈X.ex\/X.eQ.heap.objs.size<=b)/\b≠X.env.locals/\(∀x c,X.env.cells.lookup x=some c->c≠b)/\∀p∈X.cp++pins,p.1≠b):
  Inv X pins σ aq { s with heap:=h',gens:=g',drawn:=d',toks:=t' }:=by
 obtain⟨m,⟨o,aj,a6,ay,r⟩,_⟩:=id I.loc;obtain⟨bI,es⟩:=u.any ay I.free λz=>(kx _ z).2.1 rfl
 exact I.step (ch:=ch) kx (λb o es ae ag e n=>u.keep b o e n (λz=>(aa8.mp (I.o2 b z)).elim es ae) ag) (λb o _ _ ag e n=>u.any e n ag) (λb o ag e n=>u.free b o e n ag) (λb o ag e=>u.there b o e ag) u.jt u.iK u.js (λh3 hm=>by
  obtain⟨bL,ob,yV,d8,b5⟩:=hm;rw[ay]at d8;cases d8;exact⟨_,ob,yV,es,b5⟩) bx aZ
def Inv.turned{t':Nat}{it:Addr}(I:Inv X pins σ H s)(k:∀b o,b≠it->s.heap.get? b=some o->h'.get? b=some o)(aC:H it=none)(es:it≠X.env.locals)(J:it∈X.ex\/X.eQ.heap.objs.size<=it)(aa:∀x c,X.env.cells.lookup x=some c->c≠it)(aE:∀p∈X.cp++pins,p.1≠it):Inv X pins σ H { s with heap:=h',toks:=t' }:=by
 have G5:∀b u,H b=some u->b≠it:=λb u e z=>by rw[z,aC]at e;cases e
 refine I.step (g':=s.gens) (d':=s.drawn) (ch:=[it]) (λb ae=>?_) (λb o _ _ ag e _=>k b o (λz=>ag (by simp[z])) e) (λb o _ _ ag e _=>⟨o.slots,k b o (λz=>ag (by simp[z])) e⟩) (λ_ _ _ _ n=>n)
  (λb o ag e=>⟨o,k b o (λz=>ag (by simp[z])) e⟩) (λ_ _ e=>e) (λ_ _ _ e=>e) (λb aY e=>⟨#[],by rw[e];simp⟩) (λm hm=>?_) (λb u e=>?_) I.bare
 .have e:b=it:=(by simpa using ae);subst e;exact⟨J,es,aa,aE⟩
 .obtain⟨o,aj,a6,ay,r⟩:=hm;exact⟨o,aj,a6,k _ o (ab1 es) ay,r⟩
 .refine(I.bx b u e).jq (λc v ag q=>k c v ?_ q) (λ_ q=>q) λ_ _ q=>q
  rcases ag with z|z
  .rw[z];exact G5 b u e
  .exact G5 c _ z
def Inv.tok(I:Inv X pins σ H s)(t:Nat):Inv X pins σ H { s with toks:=t }:=I.un (h':=s.heap) (t':=t) fi.refl I.bx
theorem Inv.kept{t':Nat}(I:Inv X pins σ H s)(k:∀b u,s.heap.get? b=some u->h'.get? b=some u):Inv X pins σ H { s with heap:=h',toks:=t' }:=I.un (fi.kept k) (I.bx.kept k)
theorem Inv.laid{a:Addr}{o:e3}{t':Nat}(I:Inv X pins σ H s)(k:∀b u,s.heap.get? b=some u->h'.get? b=some u)(aB:s.heap.objs.size<=a)(new:d1 X.prog X.w (upd H a o) h' a o):
  Inv X pins σ (upd H a o) { s with heap:=h',toks:=t' }:=I.un (fi.laid k aB (I.bx.fresh aB)) (I.bx.laid k aB new)
theorem Inv.write{x e:Addr}{o:e3}{t':Nat}(I:Inv X pins σ H s)(mu:q9 (H x))(he:e=x\/H e=some (.own x))(k:∀b u,b≠e->s.heap.get? b=some u->h'.get? b=some u)(pU:∃u,h'.get? e=some u)(new:d1 X.prog X.w (upd H x o) h' x o):Inv X pins σ (upd H x o) { s with heap:=h',toks:=t' }:=I.un (fi.write mu he k pU) (I.bx.write mu he k pU new)
def Inv.Bi{Bh:List (Addr×Obj)}(I:Inv X pins σ H s)(h:∀p∈Bh,s.heap.get? p.1=some p.2/\H p.1=none/\p.1≠X.env.locals/\p.1∉X.bB/\∀v,p.2.data≠.cell v):Inv X Bh σ H s :=
 ⟨I.ok,I.os,I.bare,I.base,I.loc,I.cell,I.free,I.hC,λp aB=>(abn.mp aB).elim (λz=>I.pin p (List.mem_append_left _ z)) (h p),I.bx,I.len⟩
def G9{N:List Str}(aL:N.Nodup){i j:Nat}{x:Str}(a:N[i]?=some x)(b:N[j]?=some x):i=j:=by
 obtain⟨J,e1⟩:=abo.mp a;obtain⟨aa,ar⟩:=abo.mp b;exact(List.getElem_inj aL).mp (e1.trans ar.symm)
def XJ{M:Model}{A:Around}{E:Value->Shared->Prop}{i:Nat}{x:Str}{v:V}{u:Value}{Q:Unit->Shared->Prop}(I:Inv X pins σ H s)(aL:X.N.Nodup)(ai:X.N[i]?=some x)(ak:Loc X.env.scope x)(r:RelV v u)(h:∀s',Inv X pins (σ.set i (some v)) H s'->(∃a,Heap.SameBut a s.heap s'.heap/\(a=X.env.locals\/X.env.cells.lookup x=some a))->Q () s')(hf:X.fn x=true\/X.env.scope.names.lookup x=some .local):wpAny M A (storeName X.env x u) Q E s:=by
 obtain⟨m,aC,az⟩:=id I.loc;have zS:(X.env.scope.kind==.class||(X.env.scope.kind==.module&&X.env.locals != X.env.globals))=false:=by rw[I.ok.kind];rfl
 have Fw:i<σ.length:=by rw[I.len];exact(abo.mp ai).1
 have mJ:=I.mJ;have tracked:∀{a:Addr}{h':Heap},(∃o,s.heap.get? a=some o/\H a=none)->Heap.SameBut a s.heap h'->ea X.prog X.w H h':=λ{a h'} aw af b bQ e=>by
  obtain⟨_,_,mZ⟩:=aw;refine(I.bx b bQ e).jq (λc gM ag q=>(af.2 c ?_).trans q) (λ_ q=>q) λ_ _ q=>q
  rintro rfl;rcases ag with rfl|ag
  .rw[mZ]at e;cases e
  .rw[mZ]at ag;cases ag
 rcases ak with ax|ax
 .refine wpAny_storeName_local ax aC (λh' FD af=>?_) zS;obtain⟨T2,_,_,vm,_⟩:=id aC;refine h _ ⟨I.ok,I.os,I.bare,⟨λb o e n ae ak=>?_,λb o e n ae ak=>?_,I.base.free,λb o e ak=>?_,I.base.jt,I.base.iK,I.base.js⟩,⟨_,FD,λj y qS e1 ar bf=>?_⟩,λy c e=>?_,I.free,I.hC,λp aB=>?_,tracked ⟨T2,vm,I.free⟩ af,by simpa using I.len⟩ ⟨_,af,.inl rfl⟩
  .exact(af.2 b (abm (abl (abc e) I.ok.above))).trans (I.base.keep b o e n ae ak)
  .obtain⟨bI,e1⟩:=I.base.slot b o e n ae ak;exact⟨bI,(af.2 b (abm (abl (abc e) I.ok.above))).trans e1⟩
  .obtain⟨bL,e1⟩:=I.base.there b o e ak;exact⟨bL,(af.2 b (abm (abl (abc e) I.ok.above))).trans e1⟩
  .by_cases aI:j=i
   .subst aI;rw[ai]at e1;cases e1;rw[List.getElem?_set_self Fw]at ar;cases ar;exact⟨u,r,.inl ⟨ax,by simp⟩⟩
   .rw[ad7 (ab1 aI)]at ar;obtain⟨wM,b5,q⟩:=az j y qS e1 ar bf;refine⟨wM,b5,?_⟩;rcases q with⟨k,e⟩|⟨k,c,e,z⟩
    .refine .inl ⟨k,?_⟩;have:y≠x:=λe=>aI (G9 aL e1 (e▸ai))
     simp[this,e]
    .exact .inr ⟨k,c,e,z.sameBut af (mJ y c e)⟩
  .obtain⟨gM,z⟩:=I.cell y c e;exact⟨gM,z.sameBut af (mJ y c e)⟩
  .obtain⟨e,n,ne,iS,d⟩:=I.pin p aB;exact⟨(af.2 p.1 ne).trans e,n,ne,iS,d⟩
 .have oo:X.fn x=true:=by
   rcases hf with z|z
   .exact z
   .rw[z]at ax;cases ax
  obtain⟨c,ag⟩:=I.ok.has x (.inl ax);obtain⟨gM,z⟩:=I.cell x c ag;refine wpAny_storeName_cell I.ok.kind ax ag z (λh' cI af=>?_);obtain⟨fN,FF,Q0⟩:=id z;refine h { s with heap:=h' } ⟨I.ok,I.os,I.bare,⟨λb o e n ae ak=>?_,λb o e n ae ak=>?_,I.base.free,λb o e ak=>?_,I.base.jt,I.base.iK,I.base.js⟩,⟨m,aC.sameBut af (ab1 (mJ x c ag)),λj y qS e1 ar bf=>?_⟩,λy c3 e=>?_,I.free,I.hC,λp aB=>?_,tracked ⟨fN,FF,I.hC x c ag⟩ af,by simpa using I.len⟩ ⟨c,af,.inr ag⟩
  .exact(af.2 b (abm (abl (abc e) (I.ok.rt x c oo ag)))).trans (I.base.keep b o e n ae ak)
  .obtain⟨bI,e1⟩:=I.base.slot b o e n ae ak;exact⟨bI,(af.2 b (abm (abl (abc e) (I.ok.rt x c oo ag)))).trans e1⟩
  .obtain⟨bL,e1⟩:=I.base.there b o e ak;exact⟨bL,(af.2 b (abm (abl (abc e) (I.ok.rt x c oo ag)))).trans e1⟩
  .by_cases aI:j=i
   .subst aI;rw[ai]at e1;cases e1;rw[List.getElem?_set_self Fw]at ar;cases ar;exact⟨u,r,.inr ⟨.inl ax,c,ag,cI⟩⟩
   .rw[ad7 (ab1 aI)]at ar;obtain⟨wM,b5,q⟩:=az j y qS e1 ar bf;refine⟨wM,b5,?_⟩;rcases q with q|⟨k,c3,e,j1⟩
    .exact .inl q
    .refine .inr ⟨k,c3,e,j1.sameBut af ?_⟩;rintro rfl;exact aI (G9 aL e1 (I.ok.inj _ _ _ e ag▸ai))
  .by_cases ve:c3=c
   .subst ve;exact⟨_,cI⟩
   .obtain⟨j0,bF⟩:=I.cell y c3 e;exact⟨j0,bF.sameBut af ve⟩
  .obtain⟨e,n,ne,iS,d⟩:=I.pin p aB;refine⟨(af.2 p.1 ?_).trans e,n,ne,iS,d⟩;intro q;rw[q,FF]at e;have cB:fN=p.2:=abC e;exact d gM (by rw[<- cB];exact Q0)
def wF{M:Model}{A:Around}{E:Value->Shared->Prop}{i:Nat}{x:Str}{v:V}{u:Value}{Q:Unit->Shared->Prop}(I:Inv X pins σ H s)(aL:X.N.Nodup)(ai:X.N[i]?=some x)(ak:Loc X.env.scope x)(r:RelV v u)(h:∀s',Inv X pins (σ.set i (some v)) H s'->Q () s')(hf:X.fn x=true\/X.env.scope.names.lookup x=some .local:=by first|exact .inl rfl|exact .inr rfl|assumption):wpAny M A (storeName X.env x u) Q E s :=
 XJ I aL ai ak r (λs' eb _=>h s' eb) hf
def Inv.Dp{s':Shared}{ch:List Addr}(I:Inv X pins σ H s)(ay:s'.os=s.os)(u:fi (gg X.stack) ch H aq s.heap s'.heap)(bx:ea X.prog X.w aq s'.heap)(aZ:AllBare s'.gens)(kx:∀b∈ch,(b∈X.ex\/X.eQ.heap.objs.size<=b)/\b≠X.env.locals/\(∀x c,X.env.cells.lookup x=some c->c≠b)/\∀p∈X.cp++pins,p.1≠b):Inv X pins σ aq s':=by
 obtain⟨h',g',d',t',bL⟩:=s';have e:bL=s.os:=ay;subst e;exact I.call (g':=g') (t':=t') (d':=d') u bx aZ kx
end
noncomputable abbrev i2:=Value->Option Addr->aD->Prop
noncomputable abbrev St:=List (Option V)
noncomputable abbrev dw:=V->aD->Prop
noncomputable abbrev TE:=St->aD->dw->Prop
noncomputable abbrev TT:=St->aD->(Bool->aD->Prop)->Prop
noncomputable abbrev g8:=St->aD->(List V->aD->Prop)->Prop
structure Ends where
 bD:St->aD->Prop
 cC:dw
 hu:St->aD->Prop:=λ_ _=>False
 ct:St->aD->Prop:=λ_ _=>False
noncomputable abbrev gb:=Ends->St->aD->Prop
def eS(X:a4)(pins:List (Addr×Obj))(σ:St)(Q:dw)(u:Value)(s':Shared):Prop:=∃v aq,Inv X pins σ aq s'/\RelV v u/\Q v aq
def xo(X:a4)(pins:List (Addr×Obj))(σ:St)(Q:Bool->aD->Prop)(b:Bool)(s':Shared):Prop:=∃aq,Inv X pins σ aq s'/\Q b aq
def Ko(X:a4)(pins:List (Addr×Obj))(σ:St)(Q:List V->aD->Prop)(us:List Value)(s':Shared):Prop:=∃ah aq,Inv X pins σ aq s'/\Vals ah us/\Q ah aq
def nT(X:a4)(pins:List (Addr×Obj))(D:Ends)(f:Flow)(s':Shared):Prop :=
 match f with
 |.next=>∃cw aq,Inv X pins cw aq s'/\D.bD cw aq
 |.brk=>∃cw aq,Inv X pins cw aq s'/\D.hu cw aq
 |.cont=>∃cw aq,Inv X pins cw aq s'/\D.ct cw aq
 |.ret u=>∃v cw aq,Inv X pins cw aq s'/\RelV v u/\D.cC v aq
def aQ(X:a4)(e:Expr)(t:TE):Prop :=
 ∀(pins:List (Addr×Obj))(s:Shared)(σ:St)(H:aD)(Q:dw),Inv X pins σ H s->t σ H Q->wpAny (model X.prog X.w) X.A (eval e X.env) (eS X pins σ Q) X.cb s
def eU(X:a4)(e:Expr)(t:TT):Prop :=
 ∀(pins:List (Addr×Obj))(s:Shared)(σ:St)(H:aD)(Q:Bool->aD->Prop),Inv X pins σ H s->t σ H Q->wpAny (model X.prog X.w) X.A (isTrue e X.env (eval e X.env)) (xo X pins σ Q) X.cb s
def mr(X:a4)(e:Expr)(t:TT):Prop :=
 ∀(whole:Sem Value)(pins:List (Addr×Obj))(s:Shared)(σ:St)(H:aD)(Q:Bool->aD->Prop),Inv X pins σ H s->t σ H Q->wpAny (model X.prog X.w) X.A (isTrue e X.env whole) (xo X pins σ Q) X.cb s
def mr.pt{X:a4}{e:Expr}{t:TT}(h:mr X e t):eU X e t:=h _
def f7(X:a4)(aj:List Expr)(t:g8):Prop :=
 ∀(pos:Pos)(pins:List (Addr×Obj))(s:Shared)(σ:St)(H:aD)(Q:List V->aD->Prop),Inv X pins σ H s->t σ H Q->wpAny (model X.prog X.w) X.A (spliced (backTo pos (starEach aj X.env))) (Ko X pins σ Q) X.cb s
def dg(X:a4)(st:Stmt)(t:gb):Prop :=
 ∀(pins:List (Addr×Obj))(s:Shared)(σ:St)(H:aD)(D:Ends),Inv X pins σ H s->t D σ H->wpAny (model X.prog X.w) X.A (exec st X.env) (nT X pins D) X.cb s
def fp(X:a4)(st:List Stmt)(t:gb):Prop :=
 ∀(pins:List (Addr×Obj))(s:Shared)(σ:St)(H:aD)(D:Ends),Inv X pins σ H s->t D σ H->wpAny (model X.prog X.w) X.A (execs st X.env) (nT X pins D) X.cb s
def bR{α:Type}{t:Sem α}{Q dQ:α->Shared->Prop}{M:Model}{A:Around}{E:Value->Shared->Prop}{s:Shared}(h:wpAny M A t Q E s)(ek:∀a s,Q a s->dQ a s):wpAny M A t dQ E s:=abR h ek λ_ _ x=>x
end bu
namespace bu
open PySem PySem.Spec PyProof.Rows
section
variable{X:a4}
def bin{a b:Expr}{dp dq:TE}(aw:aQ X a dp)(ae:aQ X b dq){pins:List (Addr×Obj)}{s:Shared}{σ:St}{H:aD}{R:V->V->aD->Prop}(I:Inv X pins σ H s)(h:dp σ H λx H1=>dq σ H1 λy aU=>R x y aU){α:Type}{Q:α->Shared->Prop}{f:Value->Value->Sem α}(hf:∀v u s2 x y aU,Inv X pins σ aU s2->RelV x v->RelV y u->R x y aU->wpAny (model X.prog X.w) X.A (f v u) Q X.cb s2):
  wpAny (model X.prog X.w) X.A (eval a X.env) (λv cO=>wpAny (model X.prog X.w) X.A (eval b X.env) (λu gr=>wpAny (model X.prog X.w) X.A (f v u) Q X.cb gr) X.cb cO) X.cb s:=by
 refine bR (aw pins s σ H _ I h) λv s1 ⟨x,H1,a5,aH,aO⟩=>?_
 refine bR (ae pins s1 σ H1 _ a5 aO) λu s2 ⟨y,aU,ck,aT,a9⟩=>?_
 exact hf v u s2 x y aU ck aH aT a9
noncomputable def k6(i:Nat):TE:=λσ H Q=>∃v,σ[i]?=some (some v)/\Q v H
noncomputable def o4(v:V):TE:=λ_ H Q=>Q v H
def gp{i:Nat}{x:Str}{pos:Pos}(aL:X.N[i]?=some x)(aK:fj X.env.scope x)(hd:(x==("__debug__":Str))=false:=by decide)(lK:(x==("__classdict__":Str))=false:=by decide):aQ X (.Name x pos) (k6 i):=by
 intro pins s σ H Q I h;obtain⟨v,e,h⟩:=h;obtain⟨m,aC,az⟩:=I.loc;obtain⟨u,r,l⟩:=az i x v aL e aK;have fin:eS X pins σ Q u s:=⟨v,H,I,r,h⟩;rcases l with⟨ax,hm⟩|⟨ax,c,ag,oj⟩
 .exact wpAny_Name (wpAny_loadName_local I.ok.kind ax aC hm fin) hd
 .rcases ax with ax|ax
  .exact wpAny_Name (wpAny_loadName_cell I.ok.kind ax ag oj fin) hd
  .exact wpAny_Name (wpAny_loadName_free I.ok.kind ax ag oj fin lK) hd
def Hu{i j pos}:aQ X (.Constant (.int i) j pos) (o4 (.int i)):=λ_ _ _ H _ I h=>wpAny_Constant_int ⟨.int i,H,I.tok _,⟨_,rfl⟩,h⟩
def Uv{b j pos}:aQ X (.Constant (.bool b) j pos) (o4 (.aV b)):=λ_ _ _ H _ I h=>Constant_bool ⟨.aV b,H,I,rfl,h⟩
def UI{j pos}:aQ X (.Constant .none j pos) (o4 .dV):=λ_ _ _ H _ I h=>Constant_none ⟨.dV,H,I,rfl,h⟩
def Bf{x j pos}:aQ X (.Constant (.str x) j pos) (o4 (.str x)):=λ_ _ _ H _ I h=>Calls.Constant_str ⟨.str x,H,I.tok _,⟨_,rfl⟩,h⟩
def ff(X:a4)(x:Str):Prop:=X.env.kindOf x=some .globalImplicit
def vH{E:Value->Shared->Prop}{pins:List (Addr×Obj)}{s:Shared}{σ:St}{H:aD}{x:Str}{u:Value}{pos:Pos}{Q:Value->Shared->Prop}(I:Inv X pins σ H s)(aZ:ff X x)(hm:X.aX x=some u)(h:Q u s)(hd:(x==("__debug__":Str))=false:=by decide):wpAny (model X.prog X.w) X.A (eval (.Name x pos) X.env) Q E s :=
 Calls.Name_function_global I.ok.kind aZ (Calls.loadGlobal_global (by rw[I.ok.glob];exact I.mod.glob.keeps I.hu) hm h) hd
def lV{E:Value->Shared->Prop}{pins:List (Addr×Obj)}{s:Shared}{σ:St}{H:aD}{x:Str}{u:Value}{pos:Pos}{Q:Value->Shared->Prop}(I:Inv X pins σ H s)(aZ:ff X x)(hm:X.aX x=none)(aK:bootBuiltins x=some u)(h:Q u s)(aC:x≠"__name__":=by decide)(hd:(x==("__debug__":Str))=false:=by decide):wpAny (model X.prog X.w) X.A (eval (.Name x pos) X.env) Q E s:=by
 obtain⟨ji,J,aa⟩:=I.mod.blt;exact Calls.Name_function_global I.ok.kind aZ (Calls.loadGlobal_builtin (by rw[I.ok.glob];exact I.mod.glob.keeps I.hu) hm (by rw[I.ok.blt];exact J.keeps I.hu) ((aa x aC).trans aK) h) hd
def UD{x:Str}{v:V}{u:Value}{pos:Pos}(aZ:ff X x)(hm:X.aX x=some u)(r:RelV v u)(hd:(x==("__debug__":Str))=false:=by decide):aQ X (.Name x pos) (o4 v) :=
 λ_ _ _ H _ I h=>vH I aZ hm ⟨v,H,I,r,h⟩ hd
def Uw{x:Str}{v:V}{u:Value}{pos:Pos}(aZ:ff X x)(hm:X.aX x=none)(aK:bootBuiltins x=some u)(r:RelV v u)(aC:x≠"__name__":=by decide)(hd:(x==("__debug__":Str))=false:=by decide):aQ X (.Name x pos) (o4 v) :=
 λ_ _ _ H _ I h=>lV I aZ hm aK ⟨v,H,I,r,h⟩ aC hd
variable{a b:Expr}{dp dq:TE}{pos:Pos}
def ra(X:a4)(op:CmpOp)(a b:Expr)(t:TE):Prop :=
 ∀(pins:List (Addr×Obj))(s:Shared)(σ:St)(H:aD)(Q:dw),Inv X pins σ H s->t σ H Q ->
  wpAny (model X.prog X.w) X.A (eval a X.env) (λv cO=>wpAny (model X.prog X.w) X.A (eval b X.env) (λu gr=>wpAny (model X.prog X.w) X.A (compareOp op v u) (eS X pins σ Q) X.cb gr) X.cb cO) X.cb s
noncomputable def Jl(t:TE):TT:=λσ H Q=>t σ H λx H1=>∃c,x=.aV c/\Q c H1
def aaP{op:CmpOp}{t:TE}(h:ra X op a b t)(J:behindInMarks op b=false):eU X (.Compare a [op] [b] pos) (Jl t):=by
 intro pins s σ H Q I hw;refine wpAny_isTrue_Compare1 (bR (h pins s σ H _ I hw) λv s1 J=>bR J λu s2 aa=>bR aa λc s3 ⟨x,H1,a5,aH,aO⟩=>?_) J;obtain⟨d,rfl,q⟩:=aO;cases aH;exact acO ⟨H1,a5,q⟩
def Vt{e:Expr}{t:TE}(h:aQ X e t)(he:∀whole,isTrue e X.env whole=(do let v <- whole;standAt e.pos;holding [v] (truthy v)):=by intro _;rfl):eU X e (Jl t):=by
 intro pins s σ H Q I hw;refine isTrue_plain (bR (h pins s σ H _ I hw) λv s1 ⟨x,H1,a5,aH,aO⟩=>?_) (he _);obtain⟨d,rfl,q⟩:=aO;cases aH;exact acO ⟨H1,a5,q⟩
variable{nD Jm:TT}{rest:List Expr}
noncomputable def XS(t u:TT):TT:=λσ H Q=>t σ H λc H1=>if c=true then u σ H1 Q else Q false H1
noncomputable def X7(t:TT):TT:=λσ H Q=>t σ H λc H1=>Q (!c) H1
def Vv(aw:eU X a nD):mr X (.BoolOp .And [a] pos) nD:=by
 intro w0 pins s σ H Q I h;refine isTrue_and (bR (aw pins s σ H Q I h) λc s1 e=>?_);cases c with
 |true=>exact isTrue_and_nil e
 |false=>exact e
def Vu(aw:eU X a nD)(ae:mr X (.BoolOp .And (b::rest) pos) Jm):mr X (.BoolOp .And (a::b::rest) pos) (XS nD Jm):=by
 intro w0 pins s σ H Q I h;refine isTrue_and (bR (aw pins s σ H _ I h) λc s1 ⟨H1,a5,aO⟩=>?_);cases c with
 |true=>exact ae w0 pins s1 σ H1 Q a5 aO
 |false=>exact⟨H1,a5,aO⟩
def Vs(aw:eU X a nD):eU X (.UnaryOp .Not a pos) (X7 nD):=by
 intro pins s σ H Q I h;exact isTrue_not (aw pins s σ H (λc H1=>Q (!c) H1) I h)
noncomputable def XT(dp dq:TE):TE:=λσ H Q=>dp σ H λx H1=>∃c,x=.aV c/\if c=true then dq σ H1 Q else Q (.aV false) H1
noncomputable def X8(dp:TE):TE:=λσ H Q=>dp σ H λx H1=>∃c,x=.aV c/\Q (.aV (!c)) H1
def Hx{op}{t:TE}(h:aQ X a t):aQ X (.BoolOp op [a] pos) t:=λpins s σ H Q I hw=>BoolOp_one (h pins s σ H Q I hw)
def Hp(aw:aQ X a dp)(ae:aQ X (.BoolOp .And (b::rest) pos) dq):aQ X (.BoolOp .And (a::b::rest) pos) (XT dp dq):=by
 intro pins s σ H Q I h;refine BoolOp_and (bR (aw pins s σ H _ I h) λv s1 ⟨x,H1,a5,aH,aO⟩=>?_);obtain⟨c,rfl,aO⟩:=aO;cases aH;refine acO ?_;cases c with
 |true=>exact ae pins s1 σ H1 Q a5 aO
 |false=>exact⟨.aV false,H1,a5,rfl,aO⟩
def UJ(aw:aQ X a dp):aQ X (.UnaryOp .Not a pos) (X8 dp):=by
 intro pins s σ H Q I h;refine UnaryOp_ (bR (aw pins s σ H _ I h) λv s1 ⟨x,H1,a5,aH,aO⟩=>?_);obtain⟨c,rfl,aO⟩:=aO;cases aH;exact not_of (acO ⟨.aV (!c),H1,a5,rfl,aO⟩)
noncomputable def tP(t:TT)(dp dq:TE):TE:=λσ H Q=>t σ H λc H1=>if c=true then dp σ H1 Q else dq σ H1 Q
def UE{c:Expr}(ag:eU X c nD)(aw:aQ X a dp)(ae:aQ X b dq):aQ X (.IfExp c a b pos) (tP nD dp dq):=by
 intro pins s σ H Q I h;refine wpAny_IfExp (bR (ag pins s σ H _ I h) λd s1 ⟨H1,a5,aO⟩=>?_);cases d with
 |true=>exact aw pins s1 σ H1 Q a5 aO
 |false=>exact ae pins s1 σ H1 Q a5 aO
end
end bu
namespace bu
open PySem PySem.Spec PyProof.Rows
def eg(K:W.Frag)(H:aD)(a:Addr)(xs:List V):Prop :=
 gO H a (.lst xs) \/
  ∃(o:Obj)(its:Array Value)(n:Nat),K.lookup a=some o/\o.cls=.type "list"/\o.dict=none/\o.data=.seq its n/\its.size<=sizeLine/\Vals xs its.toList
def fq(K:W.Frag)(H:aD)(a:Addr)(xs:List V):Prop :=
 gO H a (.tup xs) \/
  ∃(o:Obj)(its:Array Value)(n:Nat),K.lookup a=some o/\o.cls=.type "tuple"/\o.data=.seq its n/\its.size<=sizeLine/\Vals xs its.toList
noncomputable def KG:Value->Option V
 |.none=>some .dV
 |.bool b=>some (.aV b)
 |.int i _=>some (.int i)
 |.str x _=>some (.str x)
 |.bytes b _=>some (.yp b)
 |.float b _=>some (.i8 b)
 |.ref a=>some (.ref a)
 |.type n=>some (.ty n)
 |_=>none
def RelV.abs{x:V}{u:Value}(r:RelV x u):KG u=some x:=by
 cases x with
 |dV=>cases r;rfl
 |aV _=>cases r;rfl
 |int _=>obtain⟨t,rfl⟩:=r;rfl
 |str _=>obtain⟨t,rfl⟩:=r;rfl
 |yp _=>obtain⟨t,rfl⟩:=r;rfl
 |i8 _=>obtain⟨t,rfl⟩:=r;rfl
 |ref _=>cases r;rfl
 |ty _=>cases r;rfl
def RelV.inj{x y:V}{u:Value}(r:RelV x u)(q:RelV y u):x=y:=abC (r.abs.symm.trans q.abs)
theorem Vals.inj:∀{xs ys:List V}{us:List Value},Vals xs us->Vals ys us->xs=ys
 |_,_,_,.nil,.nil=>rfl
 |_,_,_,.cons r t,.cons b5 t'=>by rw[r.inj b5,Vals.inj t t']
section
variable{X:a4}{pins:List (Addr×Obj)}{σ:St}{H:aD}{s:Shared}{a:Addr}{xs ys:List V}
def eg.of{K:W.Frag}(h:H a=some (.lst xs)):eg K H a xs:=.inl (.inl h)
def Inv.list(I:Inv X pins σ H s)(h:eg X.K H a xs):∃its:List Value,Vals xs its/\PlainL s.heap a its.toArray/\xs.length<=sizeLine:=by
 rcases h with h|⟨o,its,n,ax,ag,hd,af,hz,r⟩
 .obtain⟨z,its,n,r,e⟩:=h.ok I.bx;exact⟨its,r,⟨_,n,e,rfl,rfl,rfl⟩,z⟩
 .refine⟨its.toList,r,⟨o,n,I.oA a o ax,ag,hd,by simpa using af⟩,?_⟩;have e:=r.length;simp only[Array.length_toList]at e;omega
def Inv.tuple(I:Inv X pins σ H s)(h:fq X.K H a xs):∃its:List Value,Vals xs its/\IsTup s.heap a its.toArray/\xs.length<=sizeLine:=by
 rcases h with h|⟨o,its,n,ax,ag,af,hz,r⟩
 .obtain⟨z,its,r,p⟩:=h.ok I.bx;exact⟨its,r,p,z⟩
 .refine⟨its.toList,r,⟨o,I.oA a o ax,ag,n,by simpa using af⟩,?_⟩;have e:=r.length;simp only[Array.length_toList]at e;omega
def Inv.SV(I:Inv X pins σ H s)(h:eg X.K H a xs)(h':eg X.K H a ys):xs=ys:=by
 obtain⟨its,r,⟨o,n,e,_,_,d⟩,_⟩:=I.list h;obtain⟨its',b5,⟨bL,cc,bq,_,_,d'⟩,_⟩:=I.list h';rw[e]at bq;cases bq;rw[d]at d';injection d' with bZ _;have:its=its':=by simpa using ab6 Array.toList bZ
 subst this;exact r.inj b5
def Inv.Y0(I:Inv X pins σ H s)(h:fq X.K H a xs)(h':fq X.K H a ys):xs=ys:=by
 obtain⟨its,r,⟨o,e,_,n,d⟩,_⟩:=I.tuple h;obtain⟨its',b5,⟨bL,bq,_,cc,d'⟩,_⟩:=I.tuple h';rw[e]at bq;cases bq;rw[d]at d';injection d' with bZ _;have:its=its':=by simpa using ab6 Array.toList bZ
 subst this;exact r.inj b5
end
section
variable{X:a4}{pins:List (Addr×Obj)}{σ:St}{H:aD}{s:Shared}{E:Value->Shared->Prop}
end
section
variable{X:a4}{st:Stmt}{rest:List Stmt}{t u:gb}{e:Expr}{eR:TE}{pos:Pos}
noncomputable def X5:gb:=λD σ H=>D.bD σ H
noncomputable def Yb(t u:gb):gb:=λD σ H=>t { D with bD:=u D } σ H
def Vq:fp X [] X5:=λ_ _ σ H _ I h=>adx ⟨σ,H,I,h⟩
def Vo(J:dg X st t)(aa:fp X rest u):fp X (st::rest) (Yb t u):=by
 intro pins s σ H D I h;refine wpAny_execs_cons (bR (J pins s σ H { D with bD:=u D } I h) λf s1 q=>?_);cases f with
 |next =>
  obtain⟨cw,aq,eb,q⟩:=q;exact aa pins s1 cw aq D eb q
 |ret v=>exact q
 |brk=>exact q
 |cont=>exact q
def Bn(J:dg X st t):fp X [st] t:=by
 intro pins s σ H D I h;refine wpAny_execs_cons (bR (J pins s σ H D I h) λf s1 q=>?_);cases f with
 |next=>exact adx q
 |ret v=>exact q
 |brk=>exact q
 |cont=>exact q
def Inv.quiet{pins:List (Addr×Obj)}{σ:St}{H:aD}{s:Shared}(I:Inv X pins σ H s):interactive X.env=false:=by simp[interactive,I.ok.kind]
noncomputable def Jq(eR:TE):gb:=λD σ H=>eR σ H λ_ H1=>D.bD σ H1
def Bm(he:aQ X e eR)(af:swapsWith e none pos.line X.env=pure false:=by rfl):dg X (.Expr e pos) (Jq eR):=by
 intro pins s σ H D I h;exact wpAny_Expr_any (bR (he pins s σ H _ I h) λv s1 ⟨x,H1,a5,aH,aO⟩=>⟨σ,H1,a5,aO⟩) I.quiet af
noncomputable def mb(eR:TE):gb:=λD σ H=>eR σ H D.cC
def tp(he:aQ X e eR):dg X (.Return (some e) pos) (mb eR):=by
 intro pins s σ H D I h;exact wpAny_Return_some (bR (he pins s σ H _ I h) λv s1 ⟨x,H1,a5,aH,aO⟩=>⟨x,σ,H1,a5,aH,aO⟩)
noncomputable def X3(c:TT)(t u:gb):gb:=λD σ H=>c σ H λb H1=>if b=true then t D σ H1 else u D σ H1
def Vm{c:Expr}{a b:List Stmt}{o5:TT}(ag:eU X c o5)(aw:fp X a t)(ae:fp X b u):dg X (.If c a b pos) (X3 o5 t u):=by
 intro pins s σ H D I h;refine wpAny_If (bR (ag pins s σ H _ I h) λd s1 ⟨H1,a5,aO⟩=>?_);cases d with
 |true=>exact aw pins s1 σ H1 D a5 aO
 |false=>exact ae pins s1 σ H1 D a5 aO
end
noncomputable abbrev lq:=V->St->aD->(St->aD->Prop)->Prop
noncomputable abbrev my:=List V->St->aD->(St->aD->Prop)->Prop
def nS(X:a4)(target:Expr)(t:lq):Prop :=
 ∀(pins:List (Addr×Obj))(s:Shared)(σ:St)(H:aD)(v:V)(u:Value)(Q:St->aD->Prop),Inv X pins σ H s->RelV v u->t v σ H Q ->
  wpAny (model X.prog X.w) X.A (assign target X.env u) (λ_ s'=>∃cw aq,Inv X pins cw aq s'/\Q cw aq) X.cb s
def rb(X:a4)(ts:List Expr)(t:my):Prop :=
 ∀(pins:List (Addr×Obj))(s:Shared)(σ:St)(H:aD)(ah:List V)(us:List Value)(Q:St->aD->Prop),Inv X pins σ H s->Vals ah us->t ah σ H Q ->
  wpAny (model X.prog X.w) X.A (assignInOrder ((assignEach ts X.env).map (·.2)) us) (λ_ s'=>∃cw aq,Inv X pins cw aq s'/\Q cw aq) X.cb s
noncomputable abbrev KD:=V->V->V->aD->(aD->Prop)->Prop
def KC(X:a4)(t:KD):Prop :=
 ∀(pins:List (Addr×Obj))(s:Shared)(σ:St)(H:aD)(o i v:V)(nj kG u:Value)(Q:aD->Prop),Inv X pins σ H s->RelV o nj->RelV i kG->RelV v u->t o i v H Q ->
  wpAny (model X.prog X.w) X.A (setItem nj kG u) (λ_ s'=>∃aq,Inv X pins σ aq s'/\Q aq) X.cb s
section
variable{X:a4}{pos:Pos}
noncomputable def zt(i:Nat):lq:=λv σ H Q=>Q (σ.set i (some v)) H
def HA{i:Nat}{x:Str}(aL:X.N.Nodup)(ai:X.N[i]?=some x)(ak:Loc X.env.scope x)(hf:X.fn x=true\/X.env.scope.names.lookup x=some .local:=by first|exact .inl rfl|exact .inr rfl|assumption):nS X (.Name x pos) (zt i):=by
 intro pins s σ H v u Q I r h;exact wpAny_assign_Name (wF I aL ai ak r (λs' eb=>⟨_,H,eb,h⟩) hf)
noncomputable def EV:my:=λah σ H Q=>ah=[]/\Q σ H
noncomputable def ET(t:lq)(u:my):my:=λah σ H Q=>∃v r,ah=v::r/\t v σ H λcw aq=>u r cw aq Q
def UY:rb X [] EV:=by
 intro pins s σ H ah us Q I r h;obtain⟨e,h⟩:=h;subst e;cases r;exact assignInOrder_nil ⟨σ,H,I,h⟩
def UX{e:Expr}{aj:List Expr}{t:lq}{u:my}(J:nS X e t)(aa:rb X aj u)(af:(assignEach (e::aj) X.env).map (·.2)=assign e X.env::(assignEach aj X.env).map (·.2):=by rfl):rb X (e::aj) (ET t u):=by
 intro pins s σ H ah us Q I r h;obtain⟨v,aaX,e1,h⟩:=h;subst e1;cases r with
 |cons r gq =>
  rw[af];refine assignInOrder_cons (bR (J pins s σ H _ _ _ I r h) λ_ s1 ⟨qY,H1,a5,aO⟩=>?_);exact aa pins s1 qY H1 _ _ Q a5 gq aO
noncomputable def PB(K:W.Frag)(n:Nat)(t:my):lq:=λv σ H Q=>∃a xs,v=.ref a/\fq K H a xs/\xs.length=n/\t xs σ H Q
def UW{aj:List Expr}{k:Nat}{t:my}{n:Nat}(ag:X.calm=true)(h:rb X aj t)(aC:(assignEach aj X.env).length=n:=by rfl)(c8:(assignEach aj X.env).findIdx? (·.1)=none:=by rfl):nS X (.Tuple aj k pos) (PB X.K n t):=by
 intro pins s σ H v u Q I r hw;obtain⟨a,xs,e1,aN,az,hw⟩:=hw;subst e1;cases r;obtain⟨its,br,aA,hz⟩:=I.tuple aN;refine assign_Tuple_tuple (I.ok.hd ag) aA (by simp[aC,<- az,br.length]) c8 λh' ak=>?_
 have a5:Inv X pins σ H { s with heap:=h' }:=I.kept (t':=s.toks) λb o e=>ak b o (abm (abc e)) e
 exact h pins _ σ H xs _ Q a5 (by simpa using br) hw
noncomputable def o3(eR:TE)(g:lq):gb:=λD σ H=>eR σ H λx H1=>g x σ H1 D.bD
def tq{i:Nat}{x:Str}{e:Expr}{eR:TE}{pos':Pos}(aL:X.N.Nodup)(ai:X.N[i]?=some x)(ak:Loc X.env.scope x)(he:aQ X e eR)(af:swapsWith e (some (.Name x pos')) pos.line X.env=pure false:=by rfl)(hf:X.fn x=true\/X.env.scope.names.lookup x=some .local:=by first|exact .inl rfl|exact .inr rfl|assumption):
  dg X (.Assign [.Name x pos'] e pos) (o3 eR (zt i)):=by
 intro pins s σ H D I h;refine wpAny_Assign_Name (bR (he pins s σ H _ I h) λv s1 ⟨y,H1,a5,aH,aO⟩=>?_) af;exact wF a5 aL ai ak aH (λs2 ck=>⟨_,H1,ck,aO⟩) hf
end
section
variable{X:a4}{pos:Pos}
noncomputable def Yh(c:TT)(dq:gb):gb:=λD σ H=>∃W:Nat->St->aD->Prop,(∃m,W m σ H)/\∀m σ H,W m σ H ->
 c σ H λb H1=>if b=true then ∃N:St->aD->Prop,(∀cw aq,N cw aq->∃h3,h3<m/\W h3 cw aq)/\dq { D with bD:=N,ct:=N,hu:=D.bD } σ H1 else D.bD σ H1
def Vn{c:Expr}{body:List Stmt}{o5:TT}{dq:gb}(aB:PassesOwn (model X.prog X.w) X.A X.env X.cb)(ag:eU X c o5)(ae:fp X body dq):dg X (.While c body [] pos) (Yh o5 dq):=by
 intro pins s σ H D I h;obtain⟨W,⟨m0,Cz⟩,turn⟩:=h;refine wpAny_While (codeAny_whileLoop (λn s'=>∃cw aq,Inv X pins cw aq s'/\W n cw aq) ?_ m0 ⟨σ,H,I,Cz⟩);rintro n s1 ⟨qY,H1,a5,iX⟩;refine acM aB (bR (ag pins s1 qY H1 _ a5 (turn n qY H1 iX)) λb s2 ⟨aU,ck,a9⟩=>?_);cases b with
 |true =>
  obtain⟨N,aL,a9⟩:=a9;rw[if_pos rfl];refine acM aB (bR (ae pins s2 qY aU _ ck a9) λf s3 bW=>?_);cases f with
  |next =>
   obtain⟨jv,bt,eA,s9⟩:=bW;obtain⟨h3,hm,tW⟩:=aL jv bt s9;exact⟨h3,hm,jv,bt,eA,tW⟩
  |cont =>
   obtain⟨jv,bt,eA,s9⟩:=bW;obtain⟨h3,hm,tW⟩:=aL jv bt s9;exact⟨h3,hm,jv,bt,eA,tW⟩
  |brk=>exact bW
  |ret v=>exact bW
 |false =>
  rw[if_neg ab7];exact adx ⟨qY,aU,ck,a9⟩
end
structure jz where
 go:Nat->aD->Prop
 lg:Nat->aD->V->aD->Prop
 stop:Nat->aD->Prop
def j8(X:a4)(pins:List (Addr×Obj))(H:aD)(b:Addr):Prop :=
 H b=none/\b≠X.env.locals/\b∉X.bB/\(b∈X.ex\/X.eQ.heap.objs.size<=b)/\(∀x c,X.env.cells.lookup x=some c->c≠b)/\∀p∈X.cp++pins,p.1≠b
def Inv.rZ{X:a4}{pins:List (Addr×Obj)}{σ:St}{H aq:aD}{s:Shared}{b:Addr}(I:Inv X pins σ H s)(ae:s.heap.objs.size<=b)(aC:aq b=none):j8 X pins aq b:=by
 refine⟨aC,ae2 (abl I.lt ae),I.vQ ae,.inr (abX I.gJ ae),λx c e z=>?_,λp aB z=>?_⟩
 .obtain⟨v,q⟩:=I.cell x c e;exact absurd (abl q.lt (by rw[z];exact ae)) (aco _)
 .exact absurd (abl (abc (I.pin p aB).1) (by rw[z];exact ae)) (aco _)
structure Turn(P:Program)(w:World)(K:W.Frag)(dN:Expr)(dG:jz)(bH:List Addr)(it:Addr)(gW:Nat->Heap->Prop):Prop where
 mem:it∈bH
 obj:∀i h,gW i h->∀b∈bH,∃o,h.get? b=some o/\∀v,o.data≠.cell v
 keep:∀i h h',gW i h->(∀b∈bH,∀o,h.get? b=some o->h'.get? b=some o)->gW i h'
 item:∀(X:a4),X.prog=P->X.w=w->X.K=K->X.calm=true->∀(i:Nat)(pins:List (Addr×Obj))(s:Shared)(σ:St)(H:aD)(E:Value->Shared->Prop),Inv X pins σ H s->(∀b∈bH,j8 X pins H b)->gW i s.heap->dG.go i H ->
  wpAny (model P w) X.A (pyNext (.ref it)) (λr s1=>∃u,r=some u /\
   wpAny (model P w) X.A (letOwnedTupleGo dN (.ref it) u) (λ_ s2=>∃x aq,Inv X pins σ aq s2/\RelV x u/\dG.lg i H x aq/\gW (i+1) s2.heap/\∀b∈bH,aq b=none) E s1) E s
 done:∀(X:a4),X.prog=P->X.w=w->X.K=K->X.calm=true->∀(i:Nat)(pins:List (Addr×Obj))(s:Shared)(σ:St)(H:aD)(E:Value->Shared->Prop),Inv X pins σ H s->(∀b∈bH,j8 X pins H b)->gW i s.heap->dG.stop i H ->
  wpAny (model P w) X.A (pyNext (.ref it)) (λr s1=>r=none/\Inv X pins σ H s1) E s
 self:∀(A:Around)(i:Nat)(s:Shared)(Q:Value->Shared->Prop)(E:Value->Shared->Prop),gW i s.heap->Q (.ref it) s->wpAny (model P w) A (pyIter (.ref it)) Q E s
noncomputable abbrev TI:=St->aD->(jz->aD->Prop)->Prop
def xm(X:a4)(pins:List (Addr×Obj))(σ:St)(dN:Expr)(R:jz->aD->Prop)(Aw:Value)(s2:Shared):Prop :=
 ∃(it:Addr)(bH:List Addr)(gW:Nat->Heap->Prop)(dG:jz)(aq:aD),Aw=.ref it/\Inv X pins σ aq s2/\Turn X.prog X.w X.K dN dG bH it gW/\gW 0 s2.heap/\(∀b∈bH,j8 X pins aq b)/\R dG aq
def h9(X:a4)(dN iter:Expr)(qW:TI):Prop :=
 ∀(pins:List (Addr×Obj))(s:Shared)(σ:St)(H:aD)(R:jz->aD->Prop),Inv X pins σ H s->qW σ H R ->
  wpAny (model X.prog X.w) X.A (eval iter X.env) (λv s1=>wpAny (model X.prog X.w) X.A (pyIter v) (xm X pins σ dN R) X.cb s1) X.cb s
def u5 {M : Model} {A : Around} {E : Value -> Shared -> Prop} {s : Shared} {dN : Expr} {it : Addr} {u : Value} {o : Obj} {n : String} {ah : Array Value} {Q : Unit -> Shared -> Prop} (ay : s.heap.get? it = some o) (ag : o.cls = .type n) (hd : o.data = .fields ah)
    (aC : ["enumerate", "zip", "dict_itemiterator", "dict_reverseitemiterator", "odict_iterator", "itertools.zip_longest", "itertools.pairwise"].contains n = false) (ek : Q () s) : wpAny M A (letOwnedTupleGo dN (.ref it) u) Q E s := by
  unfold letOwnedTupleGo
  cases dN <;> first
    | exact aa4 ek
    | (cases u <;> first
        | exact aa4 ek
        | (refine aa2 (wpAny_load ay ?_)
           rw [ag, hd]
           show wpAny M A (if (["enumerate", "zip", "dict_itemiterator", "dict_reverseitemiterator", "odict_iterator", "itertools.zip_longest", "itertools.pairwise"].contains n && ah[0]? == some (rawInt _)) = true then _ else _) Q E s
           rw [if_neg (by intro h; rw [aC, aej] at h; cases h)]
           exact aa4 ek))
noncomputable def xh(K:W.Frag)(a:Addr):jz :=
 ⟨λi H=>∃xs x,eg K H a xs/\xs[i]?=some x,λi H x aq=>aq=H/\∀xs,eg K H a xs->xs[i]?=some x,λi H=>∃xs,eg K H a xs/\xs.length<=i⟩
noncomputable def xi(K:W.Frag)(a:Addr):jz :=
 ⟨λi H=>∃xs x,fq K H a xs/\xs[i]?=some x,λi H x aq=>aq=H/\∀xs,fq K H a xs->xs[i]?=some x,λi H=>∃xs,fq K H a xs/\xs.length<=i⟩
noncomputable def q7(lo:Int)(n:Nat):jz:=⟨λi _=>i<n,λi H x aq=>aq=H/\x=.int (lo+i),λi _=>n<=i⟩
def Y4{P:Program}{w:World}{K:W.Frag}{dN:Expr}(a it:Addr):Turn P w K dN (xh K a) [it] it (λi h=>h.IsListIter it a i) where
 mem:=by simp
 obj:=λi h st b ae=>by
  have e:b=it:=(by simpa using ae);subst e;obtain⟨o,e,c,d⟩:=st;exact⟨o,e,λv z=>by rw[d]at z;cases z⟩
 keep:=λi h h' st k=>st.at λo e=>k it (by simp) o e
 item:=by
  intro X ed hw hb ag i pins s σ H E I hf st aZ;subst ed hw hb;obtain⟨xs,x,aN,ak⟩:=aZ;obtain⟨its,br,p,hz⟩:=I.list aN;obtain⟨u,bh,b6⟩:=br.get ak;obtain⟨f0,f1,f2,ew,f4,ey⟩:=hf it (by simp);refine wpAny_pyNext_list_item st p.isList (x:=u) (by simpa using bh) λh' bj dF=>?_
  have a5:Inv X pins σ H { s with heap:=h' }:=I.turned (t':=s.toks) (λb o ae e=>(dF.2 b ae).trans e) f0 f1 ew f4 ey;obtain⟨o,e,c,d⟩:=id bj;exact⟨u,rfl,u5 (s:={ s with heap:=h' }) e c d (by decide) ⟨x,H,a5,b6,⟨rfl,λys aP=>by rw[I.SV aP aN];exact ak⟩,bj,λb ae=>(hf b ae).1⟩⟩
 done:=by
  intro X ed hw hb ag i pins s σ H E I hf st aZ;subst ed hw hb;obtain⟨xs,aN,ak⟩:=aZ;obtain⟨its,br,p,hz⟩:=I.list aN;obtain⟨f0,f1,f2,ew,f4,ey⟩:=hf it (by simp);have az:=br.length;exact wpAny_pyNext_list_end (I.ok.hd ag) st p.isList (by simp;omega) λh' eu=>⟨rfl,I.turned (t':=s.toks) (λb o ae e=>eu b o ae e) f0 f1 ew f4 ey⟩
 self:=λ_ _ _ _ _ st h=>wpAny_pyIter_listiter st h
def Y6{P:Program}{w:World}{K:W.Frag}{dN:Expr}(a it:Addr):Turn P w K dN (xi K a) [it] it (λi h=>h.IsTupleIter it a i) where
 mem:=by simp
 obj:=λi h st b ae=>by
  have e:b=it:=(by simpa using ae);subst e;obtain⟨o,e,c,d⟩:=st;exact⟨o,e,λv z=>by rw[d]at z;cases z⟩
 keep:=λi h h' st k=>st.at λo e=>k it (by simp) o e
 item:=by
  intro X ed hw hb ag i pins s σ H E I hf st aZ;subst ed hw hb;obtain⟨xs,x,aN,ak⟩:=aZ;obtain⟨its,br,p,hz⟩:=I.tuple aN;obtain⟨u,bh,b6⟩:=br.get ak;obtain⟨f0,f1,f2,ew,f4,ey⟩:=hf it (by simp);refine wpAny_pyNext_tuple_item st (show s.heap.IsTuple a its.toArray from p) (x:=u) (by simpa using bh) λh' bj dF=>?_
  have a5:Inv X pins σ H { s with heap:=h' }:=I.turned (t':=s.toks) (λb o ae e=>(dF.2 b ae).trans e) f0 f1 ew f4 ey;obtain⟨o,e,c,d⟩:=id bj;exact⟨u,rfl,u5 (s:={ s with heap:=h' }) e c d (by decide) ⟨x,H,a5,b6,⟨rfl,λys aP=>by rw[I.Y0 aP aN];exact ak⟩,bj,λb ae=>(hf b ae).1⟩⟩
 done:=by
  intro X ed hw hb ag i pins s σ H E I hf st aZ;subst ed hw hb;obtain⟨xs,aN,ak⟩:=aZ;obtain⟨its,br,p,hz⟩:=I.tuple aN;obtain⟨f0,f1,f2,ew,f4,ey⟩:=hf it (by simp);have az:=br.length;exact wpAny_pyNext_tuple_end (I.ok.hd ag) st (show s.heap.IsTuple a its.toArray from p) (by simp;omega) λh' eu=>⟨rfl,I.turned (t':=s.toks) (λb o ae e=>eu b o ae e) f0 f1 ew f4 ey⟩
 self:=λ_ _ _ _ _ st h=>wpAny_pyIter_tupleiter st h
def Y5{P:Program}{w:World}{K:W.Frag}{dN:Expr}(it:Addr)(lo:Int)(n:Nat):Turn P w K dN (q7 lo n) [it] it (λi h=>IsRangeIter h it (lo+(i:Nat)*1) ((n:Int)-(i:Nat)) 1) where
 mem:=by simp
 obj:=λi h st b ae=>by
  have e:b=it:=(by simpa using ae);subst e;exact⟨_,st,λv z=>by
   have j1:Data.fields _=Data.cell v:=z;cases j1⟩
 keep:=λi h h' st k=>k it (by simp) _ st
 item:=by
  intro X ed hw hb ag i pins s σ H E I hf st aZ;subst ed hw hb;obtain⟨f0,f1,f2,ew,f4,ey⟩:=hf it (by simp);have W:=Walks.range (prog:=X.prog) (w:=X.w) (I.ok.hd ag) it lo 1 n;refine W.item i s _ _ aZ st λv h' tk aK bj dK=>?_
  obtain⟨t,rfl⟩:=aK;have a5:Inv X pins σ H { s with heap:=h',toks:=tk }:=I.turned (λb o ae e=>dK b o (by simpa using ae) e) f0 f1 ew f4 ey;refine⟨_,rfl,u5 (s:={ s with heap:=h',toks:=tk }) (n:="range_iterator") bj rfl rfl (by decide) ⟨.int (lo+i),H,a5,⟨t,?_⟩,⟨rfl,rfl⟩,bj,λb ae=>(hf b ae).1⟩⟩;rw[Int.mul_one]
 done:=by
  intro X ed hw hb ag i pins s σ H E I hf st aZ;subst ed hw hb;obtain⟨f0,f1,f2,ew,f4,ey⟩:=hf it (by simp);exact wpAny_pyNext_range_end (I.ok.hd ag) st (by have:n<=i:=aZ;omega) λh' eu=>⟨rfl,I.turned (t':=s.toks) (λb o ae e=>eu b o ae e) f0 f1 ew f4 ey⟩
 self:=λ_ _ _ _ _ st h=>wpAny_pyIter_rangeiter st h
end bu
namespace bu
open PySem PySem.Spec PyProof.Rows
section
variable{X:a4}{dN:Expr}
def VI{pins:List (Addr×Obj)}{σ:St}{H:aD}{s:Shared}{R:jz->aD->Prop}{E:Value->Shared->Prop}{lo ai:Int}{t u v:Tok}{tk:Nat}(I:Inv X pins σ H s)(J:-(2 ^ 62)<=lo)(aa:lo<2 ^ 62)(aE:-(2 ^ 62)<=ai)(aR:ai<2 ^ 62)(q:R (q7 lo (ai-lo).toNat) H):wpAny (model X.prog X.w) X.A (pyIter (.ref s.heap.objs.size)) (xm X pins σ dN R) E { s with heap:=s.heap.push { cls:=.type "range",data:=.fields #[.int lo t,.int ai u,.int 1 v] },toks:=tk }:=by
 refine wpAny_pyIter_range (IsRange.new ..) (small_one J aa aE aR) ?_;have a5:Inv X pins σ H { s with heap:=s.heap.push { cls:=.type "range",data:=.fields #[.int lo t,.int ai u,.int 1 v] },toks:=tk }:=I.kept λb o e=>aa5 _ e
 refine⟨(s.heap.push { cls:=.type "range",data:=.fields #[.int lo t,.int ai u,.int 1 v] }).objs.size,[(s.heap.push { cls:=.type "range",data:=.fields #[.int lo t,.int ai u,.int 1 v] }).objs.size],_,_,H,rfl,
  a5.kept (t':=tk) λb o e=>aa5 _ e,Y5 _ lo (ai-lo).toNat,?_,λb ae=>?_,q⟩
 .have e1:lo+((0:Nat):Int)*1=lo:=(by simp);have ar:(((ai-lo).toNat:Nat):Int)-((0:Nat):Int)=Builtin.Range.rangeSize lo ai 1:=(by rw[rangeSize_one];split<;>omega);show IsRangeIter _ _ (lo+((0:Nat):Int)*1) ((((ai-lo).toNat:Nat):Int)-((0:Nat):Int)) 1;rw[e1,ar];exact abd _ rfl
 .have e:b=(s.heap.push { cls:=.type "range",data:=.fields #[.int lo t,.int ai u,.int 1 v] }).objs.size:=(by simpa using ae);subst e;exact a5.rZ (aa9 _) (a5.bx.fresh (aa9 _))
noncomputable def RF(dp:g8):TI:=λσ H R=>dp σ H λah H1=>∃j:Int,ah=[.int j]/\-(2 ^ 62)<=j/\j<2 ^ 62/\R (q7 0 j.toNat) H1
def UZ{a:Expr}{dp:g8}{p pos:Pos}(aZ:ff X "range")(hm:X.aX "range"=none)(aw:f7 X [a] dp)(af:starEach [a] X.env=[(false,eval a X.env)]:=by rfl):h9 X dN (.Call (.Name "range" p) [a] [] pos) (RF dp):=by
 intro pins s σ H R I h;refine Call_ (lV I aZ hm boot_range (ab2 (bR (aw pos pins s σ H _ I h) λus s1 ⟨ah,H1,a5,aH,aO⟩=>?_) af rfl));obtain⟨j,e,aO,a9,q⟩:=aO;subst e;cases aH with
 |cons r gq =>
  cases gq;obtain⟨t,rfl⟩:=r;exact call_range_1 (VI a5 (by omega) (by omega) aO a9 (by simpa using q))
noncomputable def wH(qW:TI)(g:lq)(dq:gb):gb:=λD σ H=>qW σ H λdG H1=>∃W:Nat->Nat->St->aD->Prop,(∃m,W 0 m σ H1)/\∀i m σ H,W i m σ H ->
 (dG.stop i H/\D.bD σ H)\/(dG.go i H/\∃N:St->aD->Prop,(∀cw aq,N cw aq->∃h3,h3<m/\W (i+1) h3 cw aq)/\∀x aq,dG.lg i H x aq->g x σ aq λnL aU=>dq { D with bD:=N,ct:=N,hu:=D.bD } nL aU)
noncomputable def v3(bH:List Addr)(h:Heap):List (Addr×Obj):=bH.filterMap λb=>(h.get? b).map λo=>(b,o)
def qm{bH:List Addr}{h:Heap}{b:Addr}{o:Obj}(ae:b∈bH)(e:h.get? b=some o):(b,o)∈v3 bH h:=adz.mpr ⟨b,ae,by rw[e];rfl⟩
def T9{bH:List Addr}{h:Heap}{p:Addr×Obj}(aB:p∈v3 bH h):p.1∈bH/\h.get? p.1=some p.2:=by
 obtain⟨b,ae,e⟩:=adz.mp aB;cases q:h.get? b with
 |none=>rw[q]at e;cases e
 |some o =>
  rw[q]at e;have bq:(b,o)=p:=abC e;subst bq;exact⟨ae,q⟩
def Inv.pinned{pins:List (Addr×Obj)}{σ:St}{H:aD}{s:Shared}{bH:List Addr}(I:Inv X pins σ H s)(hf:∀b∈bH,j8 X pins H b)(ay:∀b∈bH,∃o,s.heap.get? b=some o/\∀v,o.data≠.cell v):Inv X (pins++v3 bH s.heap) σ H s :=
 I.Bi λp aB=>(abn.mp aB).elim (λz=>I.pin p (abh _ z)) λz=>by
  obtain⟨ae,e⟩:=T9 z;obtain⟨f0,f1,f2,_⟩:=hf p.1 ae;obtain⟨o,bq,d⟩:=ay p.1 ae;rw[e]at bq;cases bq;exact⟨e,f0,f1,f2,d⟩
def Inv.qR{pins cn:List (Addr×Obj)}{σ:St}{H:aD}{s:Shared}(I:Inv X (pins++cn) σ H s):Inv X pins σ H s:=I.Bi λp aB=>I.pin p (abh _ (List.mem_append_left _ aB))
def Vl{iter:Expr}{body:List Stmt}{qW:TI}{g:lq}{dq:gb}{pos:Pos}(aB:PassesOwn (model X.prog X.w) X.A X.env X.cb)(ag:X.calm=true)(ai:h9 X dN iter qW)(aZ:nS X dN g)(ae:fp X body dq)(af:∀x,foldedSetIterable iter X.env x=pure x:=by intro _;rfl):dg X (.For dN iter body [] pos) (wH qW g dq):=by
 intro pins s σ H D I h;refine wpAny_For (bR (ai pins s σ H _ I h) λv s1 J=>bR J λAw s2 aa=>?_) af;obtain⟨it,bH,gW,dG,aU,e,ck,T,hl,f2,W,⟨m0,Cz⟩,turn⟩:=aa;subst e;have B0:∀{aq:aD},(∀b∈bH,aq b=none)->∀b∈bH,j8 X pins aq b:=λaC b ae=>⟨aC b ae,(f2 b ae).2⟩
 refine codeAny_forLoop_any (λn s'=>∃i cw aq,Inv X pins cw aq s'/\gW i s'.heap/\(∀b∈bH,aq b=none)/\W i n cw aq) ?_ m0 ⟨0,σ,aU,ck,hl,λb ae=>(f2 b ae).1,Cz⟩;rintro n s3 ⟨i,jv,bt,eA,hK,EO,tW⟩;rcases turn i n jv bt tW with⟨stop,Vy⟩|⟨go,N,aL,step⟩
 .refine acM aB (bR (T.done X rfl rfl rfl ag i pins s3 jv bt X.cb eA (B0 EO) hK stop) λr s4 ⟨a3,f6⟩=>?_);subst a3;exact adx ⟨jv,bt,f6,Vy⟩
 .refine acM aB (bR (T.item X rfl rfl rfl ag i pins s3 jv bt X.cb eA (B0 EO) hK go) λr s4 ⟨u,a3,aR⟩=>?_);subst a3;refine acM aB (bR aR λ_ s5 ⟨x,nN,mm,iw,CD,l9,zo⟩=>?_);have xf:=mm.pinned (B0 zo) (T.obj _ _ l9);refine acM aB (bR (aZ _ s5 jv nN x u _ xf iw (step x nN CD)) λ_ tG ⟨t8,i0,pd,kT⟩=>?_);refine acM aB (bR (ae _ tG t8 i0 _ pd kT) λf tH iv=>?_);have again:∀{j4:St}{ho:aD},Inv X (pins++v3 bH s5.heap) j4 ho tH->N j4 ho->∃m,m<n/\∃i cw aq,Inv X pins cw aq tH/\gW i tH.heap/\(∀b∈bH,aq b=none)/\W i m cw aq:=λ{j4 ho} hp ta=>by
   obtain⟨h3,hm,Zo⟩:=aL j4 ho ta;refine⟨h3,hm,i+1,j4,ho,hp.qR,T.keep _ _ _ l9 λb ae o e=>(hp.pin (b,o) (abh _ (abh _ (qm ae e)))).1,λb ae=>?_,Zo⟩;obtain⟨o,e,d⟩:=T.obj _ _ l9 b ae;exact(hp.pin (b,o) (abh _ (abh _ (qm ae e)))).2.1
  cases f with
  |next=>obtain⟨j4,ho,hp,ta⟩:=iv;exact again hp ta
  |cont=>obtain⟨j4,ho,hp,ta⟩:=iv;exact again hp ta
  |brk=>obtain⟨j4,ho,hp,iv⟩:=iv;exact⟨j4,ho,hp.qR,iv⟩
  |ret v=>obtain⟨nK,j4,ho,hp,Bp,iv⟩:=iv;exact⟨nK,j4,ho,hp.qR,Bp,iv⟩
end
end bu
namespace bu
open PySem PySem.Spec PyProof.Rows
noncomputable abbrev g7:=V->V->aD->dw->Prop
def d3(X:a4)(f:Value->Value->Sem Value)(r:g7):Prop :=
 ∀(pins:List (Addr×Obj))(s:Shared)(σ:St)(H:aD)(x y:V)(v u:Value)(Q:dw),Inv X pins σ H s->RelV x v->RelV y u->r x y H Q ->
  wpAny (model X.prog X.w) X.A (f v u) (eS X pins σ Q) X.cb s
def xq(X:a4)(f:Value->Sem Value)(r:V->aD->dw->Prop):Prop :=
 ∀(pins:List (Addr×Obj))(s:Shared)(σ:St)(H:aD)(x:V)(v:Value)(Q:dw),Inv X pins σ H s->RelV x v->r x H Q ->
  wpAny (model X.prog X.w) X.A (f v) (eS X pins σ Q) X.cb s
def g5(X:a4)(f:Value)(r:List V->aD->dw->Prop):Prop :=
 ∀(pins:List (Addr×Obj))(s:Shared)(σ:St)(H:aD)(xs:List V)(us:List Value)(Q:dw),Inv X pins σ H s->Vals xs us->r xs H Q ->
  wpAny (model X.prog X.w) X.A (call f us) (eS X pins σ Q) X.cb s
noncomputable def tQ(r:g7)(dp dq:TE):TE:=λσ H Q=>dp σ H λx H1=>dq σ H1 λy aU=>r x y aU Q
noncomputable def Yg(r:V->aD->dw->Prop)(dp:TE):TE:=λσ H Q=>dp σ H λx H1=>r x H1 Q
noncomputable def v8(C:Int->Int->Prop)(g:Int->Int->V):g7:=λx y H Q=>∃i j,x=.int i/\y=.int j/\C i j/\Q (g i j) H
noncomputable def nx(g:Int->Int->V):g7:=λx y H Q=>∃i j,x=.int i/\y=.int j/\Q (g i j) H
noncomputable def HQ(g:Int->V):V->aD->dw->Prop:=λx H Q=>∃i,x=.int i/\Q (g i) H
section
variable{X:a4}{a b c:Expr}{dp dq o5:TE}{pos:Pos}
def ym(aw:aQ X a dp)(ae:aQ X b dq){pins:List (Addr×Obj)}{s:Shared}{σ:St}{H:aD}{R:V->V->aD->Prop}(I:Inv X pins σ H s)(h:dp σ H λx H1=>dq σ H1 λy aU=>R x y aU){Q:Value->Shared->Prop}{f:Value->Value->Sem Value}(hf:∀v u s2 x y aU,Inv X pins σ aU s2->RelV x v->RelV y u->R x y aU->wpAny (model X.prog X.w) X.A (f v u) Q X.cb s2):
  wpAny (model X.prog X.w) X.A (eval a X.env) (λv cO=>wpAny (model X.prog X.w) X.A (eval b X.env) (λu gr=>wpAny (model X.prog X.w) X.A (f v u) Q X.cb gr) X.cb cO) X.cb s:=by
 refine bR (aw pins s σ H _ I h) λv s1 ⟨x,H1,a5,aH,aO⟩=>?_
 refine bR (ae pins s1 σ H1 _ a5 aO) λu s2 ⟨y,aU,ck,aT,a9⟩=>?_
 exact hf v u s2 x y aU ck aH aT a9
def Hy{op:Operator}{r:g7}(ay:d3 X (binaryOp op) r)(aw:aQ X a dp)(ae:aQ X b dq):aQ X (.BinOp a op b pos) (tQ r dp dq):=by
 intro pins s σ H Q I h;exact wpAny_BinOp (ym aw ae I h λv u s2 x y aU ck bc bM q=>ay pins s2 σ aU x y v u Q ck bc bM q)
def UM{op:UnaryOp}{r:V->aD->dw->Prop}(ay:xq X (unaryOp op) r)(aw:aQ X a dp):aQ X (.UnaryOp op a pos) (Yg r dp):=by
 intro pins s σ H Q I h;exact UnaryOp_ (bR (aw pins s σ H _ I h) λv s1 ⟨x,H1,a5,aH,aO⟩=>ay pins s1 σ H1 x v Q a5 aH aO)
def Ba{f:Value->Value->Sem Value}{C:Int->Int->Prop}{g:Int->Int->Int}(rule:∀(i j:Int)(t u:Tok)(s:Shared)(Q:Value->Shared->Prop)(E:Value->Shared->Prop),C i j->Q (.int (g i j) s.toks) { s with toks:=s.toks+1 }->wpAny (model X.prog X.w) X.A (f (.int i t) (.int j u)) Q E s):
  d3 X f (v8 C λi j=>.int (g i j)):=by
 intro pins s σ H x y v u Q I bc bM h;obtain⟨i,j,rfl,rfl,ag,q⟩:=h;obtain⟨t,rfl⟩:=bc;obtain⟨t',rfl⟩:=bM;exact rule i j t t' s _ _ ag ⟨.int (g i j),H,I.tok _,⟨_,rfl⟩,q⟩
def vV{f:Value->Value->Sem Value}{g:Int->Int->Int}(rule:∀(i j:Int)(t u:Tok)(s:Shared)(Q:Value->Shared->Prop)(E:Value->Shared->Prop),Q (.int (g i j) s.toks) { s with toks:=s.toks+1 }->wpAny (model X.prog X.w) X.A (f (.int i t) (.int j u)) Q E s):
  d3 X f (nx λi j=>.int (g i j)):=by
 intro pins s σ H x y v u Q I bc bM h;obtain⟨i,j,rfl,rfl,q⟩:=h;obtain⟨t,rfl⟩:=bc;obtain⟨t',rfl⟩:=bM;exact rule i j t t' s _ _ ⟨.int (g i j),H,I.tok _,⟨_,rfl⟩,q⟩
def Hh{f:Value->Value->Sem Value}{g:Int->Int->Bool}(rule:∀(i j:Int)(t u:Tok)(s:Shared)(Q:Value->Shared->Prop)(E:Value->Shared->Prop),Q (.bool (g i j)) s->wpAny (model X.prog X.w) X.A (f (.int i t) (.int j u)) Q E s):
  d3 X f (nx λi j=>.aV (g i j)):=by
 intro pins s σ H x y v u Q I bc bM h;obtain⟨i,j,rfl,rfl,q⟩:=h;obtain⟨t,rfl⟩:=bc;obtain⟨t',rfl⟩:=bM;exact rule i j t t' s _ _ ⟨.aV (g i j),H,I,rfl,q⟩
def Kp(i j:Int):Prop:=0<j/\j<1073741824
def xa(i j:Int):Prop:=(-(2 ^ 64)<i/\i<2 ^ 64)\/(-(2 ^ 64)<j/\j<2 ^ 64)
def xa.ok{i j:Int}(h:xa i j):IntMulOk i j:=by
 rcases h with⟨J,aa⟩|⟨J,aa⟩
 .exact .of_left (intBits_le_64 J aa)
 .exact .of_right (intBits_le_64 J aa)
def Ud:d3 X (binaryOp .Add) (nx λi j=>.int (i+j)):=vV λ_ _ _ _ _ _ _ q=>add_int q
def Um:d3 X (binaryOp .Sub) (nx λi j=>.int (i-j)):=vV λ_ _ _ _ _ _ _ q=>sub_int q
def Uk:d3 X (binaryOp .Mult) (v8 xa λi j=>.int (i*j)):=Ba λ_ _ _ _ _ _ _ ag q=>mul_int q ag.ok
def Ue:d3 X (binaryOp .FloorDiv) (v8 Kp λi j=>.int (i / j)):=Ba λi j _ _ _ _ _ ag q=>by
 have J:(0:Int)<j:=ag.1;have aa:j<1073741824:=ag.2;exact floordiv_int (by omega) (by rw[Int.fdiv_eq_ediv_of_nonneg i (by omega)];exact q) (.inl (PyProof.noPylong_small (by omega)))
def Uj:d3 X (binaryOp .Mod) (v8 (λ_ j=>0<j) λi j=>.int (i%j)):=Ba λi j _ _ _ _ _ ag q=>by
 have J:(0:Int)<j:=ag;exact mod_int' (by omega) (by rw[Int.fmod_eq_emod_of_nonneg i (by omega)];exact q)
def Hj:d3 X (binaryOp .BitAnd) (nx λi j=>.int (Builtin.bitAnd i j)):=vV λ_ _ _ _ _ _ _ q=>and_int q
def Un:d3 X (binaryOp .BitXor) (nx λi j=>.int (Builtin.bitXor i j)):=vV λ_ _ _ _ _ _ _ q=>xor_int q
def JT{f:Value->Sem Value}{g:Int->Int}(rule:∀(i:Int)(t:Tok)(s:Shared)(Q:Value->Shared->Prop)(E:Value->Shared->Prop),Q (.int (g i) s.toks) { s with toks:=s.toks+1 }->wpAny (model X.prog X.w) X.A (f (.int i t)) Q E s):
  xq X f (HQ λi=>.int (g i)):=by
 intro pins s σ H x v Q I bc h;obtain⟨i,rfl,q⟩:=h;obtain⟨t,rfl⟩:=bc;exact rule i t s _ _ ⟨.int (g i),H,I.tok _,⟨_,rfl⟩,q⟩
def Y9:xq X (unaryOp .USub) (HQ λi=>.int (-i)):=JT λ_ _ _ _ _ q=>neg_int q
end
section
variable{X:a4}{a b c:Expr}{dp dq o5:TE}{pos:Pos}
def Uh:d3 X (compareOp .Lt) (nx λi j=>.aV (decide (i<j))):=Hh λ_ _ _ _ _ _ _ q=>lt_int q
def Ug:d3 X (compareOp .Gt) (nx λi j=>.aV (decide (j<i))):=Hh λ_ _ _ _ _ _ _ q=>gt_int q
def Uz{op:CmpOp}{r:g7}(ay:d3 X (compareOp op) r)(aw:aQ X a dp)(ae:aQ X b dq)(hm:behindInMarks op b=false):aQ X (.Compare a [op] [b] pos) (tQ r dp dq):=by
 intro pins s σ H Q I h;exact wpAny_Compare1 (ym aw ae I h λv u s2 x y aU ck bc bM q=>ay pins s2 σ aU x y v u Q ck bc bM q) hm
noncomputable def Yd(t:TE):TT:=λσ H Q=>t σ H λx aq=>∃k,x=.aV k/\Q k aq
def Vr{op:CmpOp}{r:g7}(ay:d3 X (compareOp op) r)(aw:aQ X a dp)(ae:aQ X b dq)(hm:behindInMarks op b=false):eU X (.Compare a [op] [b] pos) (Yd (tQ r dp dq)):=by
 intro pins s σ H Q I h;refine wpAny_isTrue_Compare1 (bR (aw pins s σ H _ I h) λv s1 ⟨x,H1,a5,aH,aO⟩=>bR (ae pins s1 σ H1 _ a5 aO) λu s2 ⟨y,aU,ck,aT,a9⟩ =>
  bR (ay pins s2 σ aU x y v u _ ck aH aT a9) λc s3 ⟨z,bt,eA,de,k,e,bW⟩=>?_) hm
 subst e;cases de;exact acO ⟨bt,eA,bW⟩
def sU:(sizeLine:Nat)<2 ^ 63:=by rw[sizeLine_eq];decide
def vals1{x:V}{us:List Value}(r:Vals [x] us):∃u,us=[u]/\RelV x u:=by
 cases r with
 |cons aH aT=>cases aT;exact⟨_,rfl,aH⟩
def vals2{x y:V}{us:List Value}(r:Vals [x,y] us):∃u gM,us=[u,gM]/\RelV x u/\RelV y gM:=by
 cases r with
 |cons aH aT =>
  cases aT with
  |cons de h6=>cases h6;exact⟨_,_,rfl,aH,de⟩
def LW:g5 X (.type "int") (λxs H Q=>(∃i,xs=[.int i]/\Q (.int i) H)\/∃k,xs=[.aV k]/\Q (.int (if k then 1 else 0)) H):=by
 intro pins s σ H xs us Q I r h;rcases h with⟨i,rfl,q⟩|⟨k,rfl,q⟩
 .obtain⟨u,rfl,t,rfl⟩:=vals1 r;exact call_int_int ⟨.int i,H,I,⟨_,rfl⟩,q⟩
 .obtain⟨u,rfl,aH⟩:=vals1 r;cases aH;exact call_int_bool ⟨.int (if k then 1 else 0),H,I.tok _,⟨_,rfl⟩,q⟩
end
end bu
namespace bu
open PySem PySem.Spec PyProof.Rows
structure KA(h:Heap)(x bk C:Addr)(gF:Str->Option Value):Prop where
 obj:h.get? x=some (PySem.W.instObj C bk)
 ns:h.Ns1 bk gF
 ne:bk≠x
section
variable{prog:Program}{w:World}{A:Around}{E:Value->Shared->Prop}{s:Shared}{K:W.Frag}{x bk C f:Addr}{gF:Str->Option Value}{name:Str}{v:Value}
end
def iF.some_of{v:V}{o:Option Value}(r:iF (some v) o):∃u,o=some u/\RelV v u:=by
 cases o with
 |none=>exact(show False from r).elim
 |some u=>exact⟨u,rfl,r⟩
section
variable{P:Program}{w:World}{H aq:aD}{h h':Heap}{a C bk:Addr}{bB Py:List (Str×V)}
def Au(bx:ea P w H h)(e:H a=some (.ins C bk bB)):∃gF,KA h a bk C gF/\(∀f,iF (bB.lookup f) (gF f))/\PySem.Within gF (bB.map (·.1))/\bB.length<=1000/\H bk=some (.own a):=by
 obtain⟨d,z,ne,bQ,gF,n,r,q⟩:=(show d1 P w H h a (.ins C bk bB) from bx a _ e);exact⟨gF,⟨bQ,n,ne⟩,r,q,z,d⟩
end
structure iC(K:W.Frag)(C:Addr):Prop where
 pg:PySem.W.plainGet K C Str.empty=true
 hd:PySem.W.hasDictIn K C=true
 po:PySem.W.plainOver K C=true
 tI:PySem.W.findIn K (.ref C) "__setattr__"=some (some (.builtin "object.__setattr__"))
structure ZK(K:W.Frag)(C:Addr)(f:Str)(v:V)(u:Value):Prop where
 at_:PySem.W.findIn K (.ref C) f=some (some u)
 rel:RelV v u
 get:PySem.W.specialIn K u "__get__"=some none
 dJ:PySem.W.copiedNames.contains f=false
structure Meth(K:W.Frag)(C:Addr)(m:Str)(f:Addr):Prop where
 at_:PySem.W.findIn K (.ref C) m=some (some (.ref f))
 fn:PySem.W.isFn K (.ref f)=true
 gE:W.keepIn K (.ref f)=true
section
variable{X:a4}{pins:List (Addr×Obj)}{σ:St}{H:aD}{s:Shared}{a C bk:Addr}{bB:List (Str×V)}{f:Str}{v:V}{A:Around}{E:Value->Shared->Prop}
end
section
variable{X:a4}{o e value:Expr}{f:Str}{pos pos' YZ:Pos}{dp k8:TE}
end
section
variable{X:a4}{pins:List (Addr×Obj)}{σ:St}{H:aD}{s:Shared}{A:Around}{E:Value->Shared->Prop}{Q:Value->Shared->Prop}{c:Value}{b:Bool}
inductive jC(K:W.Frag)(H:aD):V->Value->Prop where
 |dV:jC K H .dV (.type "NoneType")
 |aV (x:Bool):jC K H (.aV x) (.type "bool")
 |int (i:Int):jC K H (.int i) (.type "int")
 |str (x:Str):jC K H (.str x) (.type "str")
 |i8 (x:UInt64):jC K H (.i8 x) (.type "float")
 |lst {a:Addr} {xs:List V} (e:H a=some (.lst xs)):jC K H (.ref a) (.type "list")
 |du {a:Addr} {o:Obj} {xs:List V} (e:H a=some (.du o (.lst xs))):jC K H (.ref a) (.type "list")
 |tup {a:Addr} {xs:List V} (e:H a=some (.tup xs)):jC K H (.ref a) (.type "tuple")
 |dS {a:Addr} {ao:List (Key×V)} (e:H a=some (.dS ao)):jC K H (.ref a) (.type "dict")
 |di {a:Addr} {ao:List (List Key×V)} (e:H a=some (.di ao)):jC K H (.ref a) (.type "dict")
 |ins {a C bk:Addr} {bB:List (Str×V)} (e:H a=some (.ins C bk bB)) (cl:iC K C) (aw:PySem.W.findIn K (.ref C) "__class__"=some (some (.builtin "object.__class__")))
   (aC:PySem.W.specialIn K (.builtin "object.__class__") "__get__"=some (some (.builtin "getset_descriptor.__get__"))) (aas:PySem.W.takesIn K (.builtin "object.__class__")=some true)
   (hm:PySem.W.mroIn K C (.type "object")=some true):jC K H (.ref a) (.ref C)
end
end bu
namespace bu
open PySem PySem.Spec PyProof.Rows
structure f9(k:Nat)(A:Around):Prop where
 hd:A.handled=none
 mO:A.depth+3*k+5<recursionLimit
 un:A.units+16*k+200<cLine
def f9.mono{j k:Nat}{A:Around}(r:f9 k A)(h:j<=k):f9 j A:=⟨r.hd,by have:=r.mO;omega,by have:=r.un;omega⟩
theorem f9.deeper{k:Nat}{A:Around}(r:f9 (k+1) A)(env:Env):f9 k (A.deeper env) :=
 ⟨r.hd,by have:=r.mO;show A.depth+1+3*k+5<_;omega,by have:=r.un;show A.units+3+16*k+200<_;omega⟩
theorem f9.depth{k:Nat}{A:Around}(r:f9 k A):A.depth<recursionLimit:=by have:=r.mO;omega
theorem f9.units{k:Nat}{A:Around}(r:f9 k A):A.units+64<cLine:=by have:=r.un;omega
noncomputable def Ju:g8:=λ_ H Q=>Q [] H
noncomputable def Jp(dp:TE)(fF:g8):g8:=λσ H Q=>dp σ H λx H1=>fF σ H1 λxs aU=>Q (x::xs) aU
section
variable{X:a4}{e:Expr}{aj:List Expr}{eR:TE}{t:g8}{pos:Pos}
def th:f7 X [] Ju:=λ_ _ _ _ H Q I h=>adi ⟨[],H,I,.nil,h⟩
def qv(aw:aQ X e eR)(a3:f7 X aj t)(af:starEach (e::aj) X.env=(false,eval e X.env)::starEach aj X.env:=by rfl):f7 X (e::aj) (Jp eR t):=by
 intro pos pins s σ H Q I h;rw[af];show wpAny _ _ (spliced ((false,eval e X.env)::backTo pos (starEach aj X.env))) _ _ s;refine acI (bR (aw pins s σ H _ I h) λu s1 ⟨x,H1,a5,aH,aO⟩=>?_);exact bR (a3 pos pins s1 σ H1 _ a5 aO) λus s2 ⟨xs,aU,ck,aT,a9⟩=>⟨x::xs,aU,ck,.cons aH aT,a9⟩
noncomputable def Yf(t:g8):TE:=λσ H Q=>t σ H λxs H1=>xs.length<=sizeLine/\∀p,H1 p=none->Q (.ref p) (upd H1 p (.tup xs))
noncomputable def X4(t:g8):TE:=λσ H Q=>t σ H λxs H1=>xs.length<=sizeLine/\∀p,H1 p=none->Q (.ref p) (upd H1 p (.lst xs))
def UL{aS}(h:f7 X aj t):aQ X (.Tuple aj aS pos) (Yf t):=by
 intro pins s σ H Q I aN;refine wpAny_Tuple_spliced (bR (h pos pins s σ H _ I aN) λus s1 ⟨xs,H1,a5,r,z,q⟩=>⟨by rw[<- r.length];exact z,?_⟩);have hf:H1 s1.heap.objs.size=none:=a5.bx.fresh (aa9 _);refine⟨.ref s1.heap.objs.size,upd H1 s1.heap.objs.size (.tup xs),a5.laid (t':=s1.toks) (λb u e=>aa5 _ e) (aa9 _) ?_,rfl,q _ hf⟩;exact⟨z,us,r,⟨_,abd _ rfl,rfl,_,rfl⟩⟩
def UH(h:f7 X aj t):aQ X (.List aj pos) (X4 t):=by
 intro pins s σ H Q I aN;refine wpAny_List_spliced (bR (h pos pins s σ H _ I aN) λus s1 ⟨xs,H1,a5,r,z,q⟩=>⟨by rw[<- r.length];exact z,?_⟩);have hf:H1 s1.heap.objs.size=none:=a5.bx.fresh (aa9 _);refine⟨.ref s1.heap.objs.size,upd H1 s1.heap.objs.size (.lst xs),a5.laid (t':=s1.toks) (λb u e=>aa5 _ e) (aa9 _) ?_,rfl,q _ hf⟩;exact⟨z,us,0,r,abd _ rfl⟩
end
noncomputable abbrev mw:=List V->aD->dw->i2->Prop
noncomputable abbrev jw:=List Env->aD->Shared->i2->Value->Shared->Prop
structure uc(P:Program)(w:World)(K:W.Frag)(aX:Str->Option Value)(base:Heap)(A:Around)(outer:List Env)(s:Shared)(H:aD):Prop where
 frames:A.frames=some outer
 mod:Mod K aX base
 bs:∀b o,base.get? b=some o->s.heap.get? b=some o/\H b=none
 n4:base.objs.size<=s.heap.objs.size
 i9:s.heap.FunFrames base outer
 pQ:∀b∈gg outer,H b=none
 bx:ea P w H s.heap
 bare:AllBare s.gens
def w9(outer:List Env)(P:Program)(w:World)(H:aD)(s:Shared)(Q:dw)(u:Value)(s':Shared):Prop :=
 ∃v aq,s'.os=s.os/\AllBare s'.gens/\fi (gg outer) [] H aq s.heap s'.heap/\ea P w aq s'.heap/\RelV v u/\Q v aq
def Kr(CX:jw)(outer:List Env)(P:Program)(w:World)(H:aD)(s:Shared)(Q:dw)(E:i2)(r:Result)(s':Shared):Prop :=
 match r with
 |.ok (.ret u)=>w9 outer P w H s Q u s'
 |.ok _=>False
 |.error e=>CX outer H s E e s'
structure j7(P:Program)(w:World)(K:W.Frag)(aX:Str->Option Value)(base:Heap)(CX:jw)(k:Nat)(f:Addr)(fd:FuncData)(aY:List Str)(sp:mw):Prop where
 len:∀ah H Q E,sp ah H Q E->ah.length=aY.length
 run:∀(A:Around)(outer:List Env)(s:Shared)(H:aD)(args:Args)(us:List Value)(ah:List V)(Q:dw)(E:i2),f9 k A->uc P w K aX base A outer s H->BindsTo s fd args (aY.zip us)->Vals ah us->sp ah H Q E ->
  codeAny (model P w) A (.call (.ref f) args) (Kr CX outer P w H s Q E) s
section
variable{X:a4}{pins:List (Addr×Obj)}{σ:St}{H:aD}{s s':Shared}
def Inv.N0(I:Inv X pins σ H s):uc X.prog X.w X.K X.aX X.base X.A X.stack s H :=
 ⟨I.ok.frames,I.ok.mod,I.bs,abX I.ok.n4 I.gJ,I.stack,I.B1,I.bx,I.bare⟩
def Inv.after{Q:dw}{u:Value}(I:Inv X pins σ H s)(h:w9 X.stack X.prog X.w H s Q u s'):eS X pins σ Q u s':=by
 obtain⟨v,aq,os,bare,un,bx,r,q⟩:=h;obtain⟨cu,g,d,t,tf⟩:=s';obtain rfl:tf=s.os:=os;exact⟨v,aq,I.call (h':=cu) (g':=g) (d':=d) (t':=t) (ch:=[]) un bx bare (λb z=>absurd z (by simp)),r,q⟩
end
noncomputable def XW(sp:mw)(dvs:List V)(E:i2)(t:g8):TE:=λσ H Q=>t σ H λah H1=>sp (ah++dvs) H1 Q E
def Binds(K:W.Frag)(fd:FuncData)(aY:List Str)(ds:List Value):Prop :=
 ∀(s:Shared)(us:List Value),K.In s.heap->(us++ds).length=aY.length->BindsTo s fd ⟨us,[]⟩ (aY.zip (us++ds))
def Binds.all{K:W.Frag}{fd:FuncData}{aY:List Str}(h:∀us:List Value,us.length=aY.length->bindArgs fd ⟨us,[]⟩=pure (aY.zip us)):Binds K fd aY []:=λs us _ az=>by
 rw[acz]at az ⊢;exact .of_eq (h us az)
def Passes(CX:jw)(X:a4)(E:i2):Prop:=∀(pins:List (Addr×Obj))(σ:St)(H:aD)(s:Shared)(e:Value)(s':Shared),Inv X pins σ H s->CX X.stack H s E e s'->X.cb e s'
section
variable{X:a4}{CX:jw}{k:Nat}{f C:Addr}{fd:FuncData}{aY:List Str}{sp:mw}{dvs:List V}{ds:List Value}{E:i2}{x m:Str}{p pos apos:Pos}{e o:Expr}{aj:List Expr}{dp:TE}{t:g8}
def V8{pins:List (Addr×Obj)}{σ:St}{H:aD}{s:Shared}{Q:dw}{us:List Value}{ah:List V}(F:j7 X.prog X.w X.K X.aX X.base CX k f fd aY sp)(a3:f9 k X.A)(ae:Binds X.K fd aY ds)(hd:Vals dvs ds)(ak:Passes CX X E)(I:Inv X pins σ H s)(r:Vals ah us)(h:sp (ah++dvs) H Q E):wpAny (model X.prog X.w) X.A (call (.ref f) us) (eS X pins σ Q) X.cb s:=by
 have aT:Vals (ah++dvs) (us++ds):=r.append hd;have az:(us++ds).length=aY.length:=by rw[<- aT.length];exact F.len _ _ _ _ h
 refine wpAny_call (aeh (F.run X.A X.stack s H ⟨us,[]⟩ (us++ds) (ah++dvs) Q E a3 I.N0 (ae s us I.oA az) aT h) λr s' aN=>?_);cases r with
 |error e=>exact ak pins σ H s e s' I aN
 |ok e7 =>
  cases e7 with
  |ret u=>exact I.after aN
  |next=>exact False.elim aN
  |brk=>exact False.elim aN
  |cont=>exact False.elim aN
def Uy(F:j7 X.prog X.w X.K X.aX X.base CX k f fd aY sp)(a3:f9 k X.A)(aZ:ff X x)(hm:X.aX x=some (.ref f))(ax:W.keepIn X.K (.ref f)=true)(ae:Binds X.K fd aY ds)(hd:Vals dvs ds)(ak:Passes CX X E)(aw:f7 X (e::aj) t)(jL:(x==("__debug__":Str))=false:=by decide)(he:starEach (e::aj) X.env=(false,eval e X.env)::starEach aj X.env:=by rfl)(d4:(backTo pos (starEach aj X.env)).any (·.1)=false:=by rfl):
  aQ X (.Call (.Name x p) (e::aj) [] pos) (XW sp dvs E t):=by
 intro pins s σ H Q I h;refine acr (vH I aZ hm ?_ jL);refine PySem.W.callWith_K (h₀:=X.base) I.ok.mod.AA ax (bR (aw pos pins s σ H _ I h) λus s1 ⟨ah,H1,a5,r,q⟩=>⟨a5.oA,?_⟩) he d4;exact V8 F a3 ae hd ak a5 r q
structure gN(K:W.Frag)(C f:Addr):Prop where
 makes:PySem.W.makesIn K C=true
 init:PySem.W.findIn K (.ref C) "__init__"=some (some (.ref f))
 fn:PySem.W.isFn K (.ref f)=true
 gE:W.keepIn K (.ref C)=true
end
section
variable{X:a4}{CX:jw}{k:Nat}{f C:Addr}{fd:FuncData}{aY au:List Str}{sp:mw}{E:i2}{x m:Str}{p pos apos aaE:Pos}{e o:Expr}{aj:List Expr}{aaF:List Keyword}{eR dp:TE}{t tk:g8}{nm:Option Str}
structure ZM(K:W.Frag)(fd:FuncData)(aY au:List Str)(g:List Value->List Value->List Value)(EW:List V->List V->List V):Prop where
 to:∀(s:Shared)(us ws:List Value),K.In s.heap->(g us ws).length=aY.length->BindsTo s fd ⟨us,au.zip ws⟩ (aY.zip (g us ws))
 rel:∀{ah:List V}{us:List Value}{zs:List V}{ws:List Value},Vals ah us->Vals zs ws->Vals (EW ah zs) (g us ws)
variable{g:List Value->List Value->List Value}{EW:List V->List V->List V}
end
structure xd(N P:List Str)(sc:Scope):Prop where
 kind:sc.kind=.function
 co:sc.isCoroutine=false
 gen:sc.isGenerator=false
 d5:N.Nodup
 pre:N.take P.length=P
 par:∀x∈P,sc.names.lookup x=some .local\/sc.names.lookup x=some .cell
 TO:∀y∈sc.names,y.2≠.free
theorem Dl{kindOf:Str->Option NameKind}{x:Str}:∀{binds:List (Str×Value)}{m:Str->Option Value},(∀v,(x,v)∉binds)->bindL kindOf binds m x=m x
 |[],_,_=>rfl
 |(n,v)::r,m,h=>by
  unfold bindL;rw[Dl λw hw=>h w (List.mem_cons_of_mem _ hw)]
  split
  .have:x≠n:=(by rintro rfl;exact h v List.mem_cons_self);simp[this]
  .rfl
theorem Dj{kindOf:Str->Option NameKind}{x:Str}:∀{binds:List (Str×Value)}{m:Str->Option Value},(∀v,(x,v)∉binds)->bindC kindOf binds m x=m x
 |[],_,_=>rfl
 |(n,v)::r,m,h=>by
  unfold bindC;rw[Dj λw hw=>h w (List.mem_cons_of_mem _ hw)]
  split
  .rfl
  .have:x≠n:=(by rintro rfl;exact h v List.mem_cons_self);simp[this]
theorem Dk{kindOf:Str->Option NameKind}{x:Str}{v:Value}:∀{P:List Str}{ah:List Value}{i:Nat}{m:Str->Option Value},P.Nodup->P[i]?=some x->ah[i]?=some v->kindOf x=some .local ->
  bindL kindOf (P.zip ah) m x=some v
 |[],_,_,_,_,h,_,_=>by simp at h
 |_::_,[],_,_,_,_,h,_=>by simp at h
 |p::P,w::ah,0,m,d5,J,aa,ax=>by
  simp at J aa;subst J;subst aa;show bindL kindOf ((p,w)::P.zip ah) m p=_;unfold bindL;rw[Dl λv aK=>(abD.mp d5).1 (List.of_mem_zip aK).1,if_pos ax];simp
 |p::P,w::ah,i+1,m,d5,J,aa,ax=>by
  show bindL kindOf ((p,w)::P.zip ah) m x=_;unfold bindL;exact Dk (i:=i) (abD.mp d5).2 (by simpa using J) (by simpa using aa) ax
theorem Di{kindOf:Str->Option NameKind}{x:Str}{v:Value}:∀{P:List Str}{ah:List Value}{i:Nat}{m:Str->Option Value},P.Nodup->P[i]?=some x->ah[i]?=some v->kindOf x≠some .local ->
  bindC kindOf (P.zip ah) m x=some v
 |[],_,_,_,_,h,_,_=>by simp at h
 |_::_,[],_,_,_,_,h,_=>by simp at h
 |p::P,w::ah,0,m,d5,J,aa,ax=>by
  simp at J aa;subst J;subst aa;show bindC kindOf ((p,w)::P.zip ah) m p=_;unfold bindC;rw[Dj λv aK=>(abD.mp d5).1 (List.of_mem_zip aK).1,if_neg ax];simp
 |p::P,w::ah,i+1,m,d5,J,aa,ax=>by
  show bindC kindOf ((p,w)::P.zip ah) m x=_;unfold bindC;exact Di (i:=i) (abD.mp d5).2 (by simpa using J) (by simpa using aa) ax
noncomputable def start(N:List Str)(ah:List V):St:=ah.map some++List.replicate (N.length-ah.length) none
noncomputable def mK(CX:jw)(P:Program)(w:World)(K:W.Frag)(aX:Str->Option Value)(base:Heap)(N:List Str)(qual:Str)(scope:Scope)(f:Addr)(cd:Value)(A:Around)(outer:List Env)(s:Shared)(H:aD)(E:i2):a4 where
 prog:=P
 w:=w
 K:=K
 aX:=aX
 base:=base
 A:=A.deeper (envOfC qual scope s.heap.objs.size f cd)
 N:=N
 eQ:=s
 q6:=H
 env:=envOfC qual scope s.heap.objs.size f cd
 outer:=outer
 stack:=envOfC qual scope s.heap.objs.size f cd::outer
 ex:=[]
 calm:=true
 fn:=λ_=>true
 cp:=[]
 cb:=λe s'=>wpAny (model P w) (A.deeper (envOfC qual scope s.heap.objs.size f cd)) (leaving (envOfC qual scope s.heap.objs.size f cd) e) (λ_ tF=>CX outer H s E e tF) (λbq tF=>CX outer H s E bq tF) s'
def Dx{sc:Scope}{n:Nat}{x:Str}(h:sc.names.lookup x=some .cell):∃c,(cellsFrom n sc.names []).lookup x=some c:=by
 have q:=aeM sc.names n [] (.inl h);exact Option.isSome_iff_exists.mp q
def RP{CX:jw}{P:Program}{w:World}{K:W.Frag}{aX:Str->Option Value}{base:Heap}{N aY:List Str}{qual:Str}{scope:Scope}{f:Addr}{cd:Value}{A:Around}{outer:List Env}{s s1:Shared}{H:aD}{E:i2}{us:List Value}{ah:List V}(S:xd N aY scope)(hd:A.handled=none)(e0:uc P w K aX base A outer s H)(az:ah.length=aY.length)(r:Vals ah us)(x:InCallC s s.heap.objs.size (bindL (envOfC qual scope s.heap.objs.size f cd).kindOf (aY.zip us) λ_=>none) (cellsFrom (s.heap.objs.size+1) scope.names []) (bindC (envOfC qual scope s.heap.objs.size f cd).kindOf (aY.zip us) λ_=>none) s1):
  Inv (mK CX P w K aX base N qual scope f cd A outer s H E) [] (start N ah) H s1:=by
 have d4:aY.length<=N.length:=by have:=ab6 List.length S.pre;rw[acF]at this;omega
 obtain⟨J,tk,rfl,ax⟩:=x.done;have tc:∀b:Addr,b∉(mK CX P w K aX base N qual scope f cd A outer s H E).ex:=λb z=>absurd (show b∈([]:List Addr) from z) (by simp)
 refine⟨⟨e0.mod,S.kind,rfl,rfl,aa9 _,λy z c J aa=>?_,λy aP=>?_,λy c _ h=>?_,λ_=>hd,Around.frames_deeper e0.frames,.inr ⟨rfl,rfl⟩,λb z=>absurd z (tc b),e0.bs,e0.n4,λb _ _=>tc b,λb z=>absurd z (tc b),e0.i9,e0.pQ⟩,
  rfl,e0.bare,fi.kept ax,⟨_,x.toInCall.ns,λi y v J aa aE=>?_⟩,λy c h=>⟨_,x.cell y c h⟩,e0.bx.fresh (aa9 _),λy c h=>?_,λp aB=>absurd (show p∈([]:List (Addr×Obj)) from aB) (by simp),e0.bx.kept ax,?_⟩
 .exact name_of_addr x.apart (abO J) (abO aa)
 .have aP:scope.names.lookup y=some .cell\/scope.names.lookup y=some .free:=aP;rcases aP with aP|aP
  .exact Dx aP
  .exact absurd rfl (S.TO _ (abO aP))
 .exact ado (x.above y c (abO h))
 .have ai:i<ah.length:=by
   unfold start at aa
   by_cases ai:i<ah.length
   .exact ai
   .rw[abH (by simpa using ai)]at aa;rw[acY]at aa
    split at aa<;>cases aa
  have aw:ah[i]?=some v:=by
   unfold start at aa;rw[abi (by simpa using ai),abj]at aa;cases e:ah[i]? with
   |none=>rw[e]at aa;cases aa
   |some a=>rw[e]at aa;cases aa;rfl
  obtain⟨u,bh,br⟩:=r.get aw;have aB:aY[i]?=some y:=by
   rw[<- S.pre,List.getElem?_take_of_lt (by omega)];exact J
  have G0:aY.Nodup:=(by rw[<- S.pre];exact S.d5.sublist (List.take_sublist _ _));refine⟨u,br,?_⟩;rcases S.par y (aci aB) with k|k
  .exact .inl ⟨k,Dk G0 aB bh k⟩
  .obtain⟨c,e⟩:=Dx (n:=s.heap.objs.size+1) k;refine .inr ⟨.inl k,c,e,?_⟩;have q:=x.cell y c e;rw[Di G0 aB bh (by show scope.names.lookup y≠_;rw[k];decide)]at q;exact q
 .exact e0.bx.fresh (ado (x.above y c (abO h)))
 .unfold start;show _=N.length;rw[aa7,List.length_map,adf];omega
def Pq{CX:jw}{P:Program}{w:World}{K:W.Frag}{aX:Str->Option Value}{base:Heap}{k:Nat}{f:Addr}{name qual:Str}{params:Arguments}{body:List Stmt}{scope:Scope}{uH dc doc pm d2 ct fN:Value}{an bb:Option Addr}{fO:Array (Option Value)}{N aY:List Str}{sp:mw}(lk:K.lookup f=some ⟨fN,bb,.func (W.fnOf name qual params body scope uH dc doc pm an d2 ct),fO⟩)(lK:W.codeIn K d2 qual=true)(S:xd N aY scope)(len:∀ah H Q E,sp ah H Q E->ah.length=aY.length)(zP:∀(A:Around)(outer:List Env)(s:Shared)(H:aD)(ah:List V)(Q:dw)(E:i2),f9 k (A.deeper (envOfC qual scope s.heap.objs.size f d2))->sp ah H Q E ->
   ∃t,fp (mK CX P w K aX base N qual scope f d2 A outer s H E) body t/\t { bD:=λ_ aq=>Q .dV aq,cC:=Q } (start N ah) H):
  j7 P w K aX base CX (k+1) f (W.fnOf name qual params body scope uH dc doc pm an d2 ct) aY sp:=by
 refine⟨len,λA outer s H args us ah Q E a3 e0 ae r p6=>?_⟩;have az:=len _ _ _ _ p6;have iE:K.In s.heap:=e0.mod.AA.keeps λb o e=>(e0.bs b o e).1
 have lim:s.heap.NoLimit:=e0.mod.nolimit.keeps λb o e=>(e0.bs b o e).1
 have QD:∀y∈aY.zip us,scope.names.lookup y.1=some .local\/(scope.names.lookup y.1=some .cell/\((cellsFrom (s.heap.objs.size+1) scope.names []).lookup y.1).isSome=true):=λ⟨n,v⟩ aP=>by
  rcases S.par n (List.of_mem_zip aP).1 with q|q
  .exact .inl q
  .exact .inr ⟨q,aeM _ _ _ (.inl q)⟩
 refine codeAny_call_function a3.depth (iE _ _ lk) rfl S.co S.gen rfl (PySem.W.codeRec_of iE lK) (ae _ _ _ _ ?_);refine wpAny_newFunctionEnv_cells S.kind QD λenv he s1 x=>?_
 subst he;refine⟨lim.keeps x.toInCall.keep,codeAny_func ?_⟩;obtain⟨t,aA,aN⟩:=zP A outer s H ah Q E (a3.deeper _) p6;have I:Inv (mK CX P w K aX base N qual scope f d2 A outer s H E) [] (start N ah) H s1:=RP S a3.hd e0 az r x;refine abR (aA [] s1 (start N ah) H _ I aN) (λe7 s' af=>?_) λe s' af=>af
 have fin:∀{cw:St}{aq:aD}{v:V}{u:Value},Inv (mK CX P w K aX base N qual scope f d2 A outer s H E) [] cw aq s'->RelV v u->Q v aq->w9 outer P w H s Q u s' :=
  λ{cw aq v u} dG br q=>⟨v,aq,dG.os,dG.bare,dG.base,dG.bx,br,q⟩
 cases e7 with
 |ret u =>
  obtain⟨v,cw,aq,dG,br,q⟩:=af;exact fin dG br q
 |next =>
  obtain⟨cw,aq,dG,q⟩:=af;exact fin (v:=V.dV) (u:=Value.none) dG rfl q
 |brk =>
  obtain⟨_,_,_,q⟩:=af;exact False.elim q
 |cont =>
  obtain⟨_,_,_,q⟩:=af;exact False.elim q
end bu
namespace bu
open PySem PySem.Spec PyProof.Rows
section
variable{X:a4}{x:Str}{p pos:Pos}{e:Expr}{aj:List Expr}{t:g8}{id T:String}{r:List V->aD->dw->Prop}
noncomputable def Jo(r:List V->aD->dw->Prop)(t:g8):TE:=λσ H Q=>t σ H λah H1=>r ah H1 Q
def Hq(ag:g5 X (.builtin id) r)(aZ:ff X x)(hm:X.aX x=none)(aK:bootBuiltins x=some (.builtin id))(aw:f7 X (e::aj) t)(aC:x≠"__name__":=by decide)(jL:(x==("__debug__":Str))=false:=by decide)(he:starEach (e::aj) X.env=(false,eval e X.env)::starEach aj X.env:=by rfl)(d4:(backTo pos (starEach aj X.env)).any (·.1)=false:=by rfl):aQ X (.Call (.Name x p) (e::aj) [] pos) (Jo r t):=by
 intro pins s σ H Q I h;refine acr (lV I aZ hm aK ?_ aC jL);exact adT (bR (aw pos pins s σ H _ I h) λus s1 ⟨ah,H1,a5,aH,aO⟩=>ag pins s1 σ H1 ah us Q a5 aH aO) he d4
def Hr(ag:g5 X (.type T) r)(aZ:ff X x)(hm:X.aX x=none)(aK:bootBuiltins x=some (.type T))(aw:f7 X (e::aj) t)(aC:x≠"__name__":=by decide)(jL:(x==("__debug__":Str))=false:=by decide)(he:starEach (e::aj) X.env=(false,eval e X.env)::starEach aj X.env:=by rfl)(d4:(backTo pos (starEach aj X.env)).any (·.1)=false:=by rfl):aQ X (.Call (.Name x p) (e::aj) [] pos) (Jo r t):=by
 intro pins s σ H Q I h;refine acr (lV I aZ hm aK ?_ aC jL);exact ab2 (bR (aw pos pins s σ H _ I h) λus s1 ⟨ah,H1,a5,aH,aO⟩=>ag pins s1 σ H1 ah us Q a5 aH aO) he d4
end
end bu
namespace da
open PySem PyProof.Rows
noncomputable def lexLt:List Int->List Int->Bool
 |[],[]=>false
 |[],_::_=>true
 |_::_,[]=>false
 |x::xs,y::ys=>if x=y then lexLt xs ys else decide (x<y)
def SM(x y:Int)(xs ys:List Int):lexLt (x::xs) (y::ys)=if x=y then lexLt xs ys else decide (x<y):=rfl
def SP:lexLt [] []=false:=rfl
def SO(y:Int)(ys:List Int):lexLt [] (y::ys)=true:=rfl
def SN(x:Int)(xs:List Int):lexLt (x::xs) []=false:=rfl
def N1(A:Around)(s:Shared)(a:Int)(t:Tok)(c:Int)(u:Tok):∃e,SeqAt.EqAt A s (.int a t) (.int c u) e/\(e=true<->a=c) :=
 ⟨(a==c),SeqAt.EqAt.int_int a t c u,by simp⟩
def VJ(A:Around)(s:Shared)(a:Int)(t:Tok)(c:Int)(u:Tok)(prog:Program)(w:World)(E:Value->Shared->Prop)(Q:Value->Shared->Prop)(h:Q (.bool (decide (a<c))) s):
  wpAny (model prog w) A (richCompare .Lt (.int a t) (.int c u)) Q E s :=
 (PyProof.Rows.lt_int h:wpAny (model prog w) A (compareOp .Lt (.int a t) (.int c u)) Q E s)
section
open PySem.SeqAt
open PySem.AutoSeq1 (wpAny_loadPart')
open PySem.MeetsSeq PySem.MeetsSeq2 PySem.MeetsSeq3
def Y1(l b:Addr)(items hX:Array Value)(n eX:Nat)(dd kk:Option Addr)(bI jX:Array (Option Value))(ns ms:List Int)(ai:IntsAre items.toList ns)(aI:IntsAre hX.toList ms):
  Meets (Builtin.«tuple.__lt__» ⟨[.ref l,.ref b],[]⟩)
   (λ_ R s=>s.heap.get? l=some { cls:=.type "tuple",dict:=dd,data:=.seq items n,slots:=bI }/\s.heap.get? b=some { cls:=.type "tuple",dict:=kk,data:=.seq hX eX,slots:=jX } /\
    R (.ok (.ret (.bool (lexLt ns ms)))) s) :=
 .of_wp λprog w A R s h=>by
  obtain⟨aB,g,d,tk,os⟩:=s;obtain⟨az,ae,h⟩:=h;have f2:=AutoSeq1.sub_tuple_tuple;have bO:items.size=ns.length:=(by rw[<- ai.length];simp);have bF:hX.size=ms.length:=by rw[<- aI.length];simp
  wp_walk using wpAny_loadPart' az,wpAny_loadPart' ae,adU _ (λrest b s'=>b.1=none/\s'=⟨aB,g,d,tk,os⟩/\∃(ah ws:List Value)(qs qo:List Int),rest=ah.zip ws /\
   IntsAre ah qs/\IntsAre ws qo/\qs.length+hX.size=qo.length+items.size/\R (.ok (.ret (.bool (lexLt qs qo)))) ⟨aB,g,d,tk,os⟩) _
  case turn =>
   rintro⟨y,x⟩ rest b s' ⟨fX,rfl,ah,ws,qs,qo,hz,An,vr,hlen,hR⟩;cases An with
   |nil=>rw[List.zip_nil_left]at hz;cases hz
   |cons a t Rq =>
    cases vr with
    |nil=>rw[List.zip_nil_right]at hz;cases hz
    |cons c u Rt =>
     rw[List.zip_cons_cons]at hz;injection hz with sD kC;injection sD with aP ak;subst aP ak;rw[SM]at hR;simp only[List.length_cons]at hlen;obtain⟨e,he,Ft⟩:=N1 A.in1 ⟨aB,g,d,tk,os⟩ a t c u;refine aa2 (he prog w _ _ ?_);cases e with
     |true =>
      rw[if_pos (Ft.mp rfl)]at hR
      wp_walk
      exact⟨rfl,rfl,_,_,_,_,kC,Rq,Rt,by omega,hR⟩
     |false =>
      rw[if_neg (λq=>absurd (Ft.mpr q) ab7)]at hR;have Rb:=VJ A.in1 ⟨aB,g,d,tk,os⟩ a t c u prog w
      wp_walk using Rb
      exact⟨_,rfl,by simpa using hR⟩
  case fin =>
   rintro⟨b1,b2⟩ s' ⟨fX,rfl,ah,ws,qs,qo,hz,An,vr,hlen,hR⟩;simp only at fX;subst fX;have aK:lexLt qs qo=decide (items.size<hX.size):=by
    cases An with
    |nil =>
     cases vr with
     |nil =>
      simp only[List.length_nil]at hlen;rw[SP];exact(decide_eq_false (by omega)).symm
     |cons c u hw =>
      simp only[List.length_nil,List.length_cons]at hlen;rw[SO];exact(decide_eq_true (by omega)).symm
    |cons a t aK =>
     cases vr with
     |nil =>
      simp only[List.length_nil,List.length_cons]at hlen;rw[SN];exact(decide_eq_false (by omega)).symm
     |cons c u hw =>
      rw[List.zip_cons_cons]at hz;cases hz
   rw[aK]at hR
   wp_walk
   exact⟨_,rfl,by simpa[Builtin.Tuple.tupleCompareSizes] using hR⟩
  case h =>
   exact⟨rfl,rfl,items.toList,hX.toList,ns,ms,rfl,ai,aI,by omega,h⟩
end
section
variable{prog:Program}{w:World}{A:Around}{E:Value->Shared->Prop}{s:Shared}
def GD{l b:Addr}{items hX:Array Value}{ns ms:List Int}{Q:Value->Shared->Prop}(az:IsTup s.heap l items)(ae:IsTup s.heap b hX)(ai:IntsAre items.toList ns)(aI:IntsAre hX.toList ms)(bh:A.units<cLine)(h:Q (.bool (lexLt ns ms)) s):wpAny (model prog w) A (compareOp .Lt (.ref l) (.ref b)) Q E s:=by
 obtain⟨⟨cls,dd,data,bI⟩,ay,ag,n,hd⟩:=id az;obtain⟨⟨rz,kk,data2,jX⟩,kA,iM,eX,hd2⟩:=id ae;simp only at ag hd iM hd2;subst ag hd iM hd2;exact richCompare_meets_room (op:=.Lt) ⟨_,ay,rfl⟩ ⟨_,kA,rfl⟩ PySem.F.slot_tuple_lt PySem.F.entry_tuple_lt (PySem.F.args_tuple_lt_2 _ _) (Y1 l b items hX n eX dd kk bI jX ns ms ai aI)
  ⟨ay,kA,show Value.bool (lexLt ns ms)≠Value.notImplemented/\Q (.bool (lexLt ns ms)) s from⟨(λx=>nomatch x),h⟩⟩ bh
def LY{t b:Addr}{ah ws:List Value}{Q:Value->Shared->Prop}(aA:IsTup s.heap t ah.toArray)(ae:IsTup s.heap b ws.toArray)(aK:ah≠[])(J:ws=[]->Q (.ref t) s)(aa:ws≠[]->Q (.ref s.heap.objs.size) { s with heap:=s.heap.push { cls:=.type "tuple",data:=.seq (ah++ws).toArray } })(hsz:ah.length+ws.length<=sizeLine):wpAny (model prog w) A (binaryOp .Add (.ref t) (.ref b)) Q E s:=by
 obtain⟨⟨cls,dd,data,bI⟩,ay,ag,n,hd⟩:=id aA;obtain⟨⟨rz,kk,data2,jX⟩,kA,iM,eX,hd2⟩:=id ae;simp only at ag hd iM hd2;subst ag hd iM hd2;have e:ah.toArray++ws.toArray=(ah++ws).toArray:=by simp
 by_cases hw:ws=[]
 .exact aeN ⟨_,ay,rfl⟩ ⟨_,kA,rfl⟩ aeE seq_tuple_add adD adA (adw _ _)
   (tuple_addW1 t b ah.toArray ws.toArray n eX dd kk bI jX (by simpa using aK) (by simp[hw])) ⟨ay,kA,J hw⟩
 .refine aeN ⟨_,ay,rfl⟩ ⟨_,kA,rfl⟩ aeE seq_tuple_add adD adA (adw _ _)
   (tuple_addW2 t b ah.toArray ws.toArray n eX dd kk bI jX (by simpa using aK) (by simpa using hw) (by rw[abb,abb];exact hsz)) ⟨ay,kA,?_⟩
  rw[e];exact aa hw
noncomputable def bN(n d:Nat):Option Int->Nat
 |none=>d
 |some v=>if v<0 then(v+(n:Int)).toNat else min v.toNat n
def wi(n d:Nat)(hd:d<=n)(o:Option Int):bN n d o<=n:=by
 cases o with
 |none=>exact hd
 |some v =>
  show(if v<0 then(v+(n:Int)).toNat else min v.toNat n)<=n
  by_cases aK:v<0
  .rw[if_pos aK];omega
  .rw[if_neg aK];exact Nat.min_le_right _ _
def DH(v:Int)(n d:Nat):(if v<0 then max (v+(n:Int)) 0 else min v (n:Int))=((bN n d (some v):Nat):Int):=by
 show(if v<0 then max (v+(n:Int)) 0 else min v (n:Int))=(((if v<0 then(v+(n:Int)).toNat else min v.toNat n):Nat):Int)
 by_cases aK:v<0
 .simp only[if_pos aK];omega
 .simp only[if_neg aK];omega
def KJ(lo ai:Option Int)(n:Nat):Builtin.Slice.sliceAdjust lo ai 1 (n:Int)=(((bN n 0 lo:Nat):Int),((bN n n ai:Nat):Int)):=by
 have J:¬((1:Int)<0):=by omega
 unfold Builtin.Slice.sliceAdjust;simp only[J,abp];refine Prod.ext ?_ ?_
 .cases lo with
  |none=>rfl
  |some v=>exact DH v n 0
 .cases ai with
  |none=>rfl
  |some v=>exact DH v n n
def U3(i j:Nat):Builtin.Slice.slicePlaces (i:Int) (j:Int) 1=j-i:=by
 unfold Builtin.Slice.slicePlaces;have J:(1:Int)>0:=by omega
 simp only[J,abU,Int.ediv_one]
 split<;>omega
def I0{v:Value}{o:Option Int}{Q:Option Int->Shared->Prop}(p:IsPart v o)(h:Q o s):wpAny (model prog w) A (Builtin.Slice.slicePartIndex v) Q E s:=by
 cases p with
 |none=>exact slicePart_none h
 |int i t=>exact slicePart_int h
def IZ{bI:Addr}{fG fH:Value}{lo ai:Option Int}{n:Nat}{Q:Int×Int×Nat->Shared->Prop}(af:s.heap.IsSliceOf bI fG fH .none)(cn:IsPart fG lo)(pu:IsPart fH ai)(h:Q (((bN n 0 lo:Nat):Int),1,bN n n ai-bN n 0 lo) s):wpAny (model prog w) A (Builtin.Slice.sliceApplied (.ref bI) (pure (n:Int))) Q E s:=by
 obtain⟨os,ov,mX,kz⟩:=id af;unfold Builtin.Slice.sliceApplied Builtin.Slice.sliceFields;refine aa2 (aa2 (ac2 ov kz (x:=fG) rfl (aa2 (ac2 ov kz (x:=fH) rfl (aa2 (ac2 ov kz (x:=.none) rfl (aa4 ?_)))))));refine aa2 (slicePart_none ?_);show wpAny _ _ (if ((1:Int)==0)=true then _ else _) _ _ s;rw[if_neg (by decide)];refine aa2 (I0 cn (aa2 (I0 pu (aa2 (aa4 ?_)))));show wpAny _ _ (match Builtin.Slice.sliceAdjust lo ai 1 (n:Int) with|(lo,ai)=>pure (lo,(1:Int),Builtin.Slice.slicePlaces lo ai 1)) _ _ s;rw[KJ lo ai n];show wpAny _ _ (pure (((bN n 0 lo:Nat):Int),(1:Int),Builtin.Slice.slicePlaces ((bN n 0 lo:Nat):Int) ((bN n n ai:Nat):Int) 1)) _ _ s;rw[U3];exact aa4 h
def U1(xs:Array Value)(i k:Nat):((List.range k).filterMap λ(m:Nat)=>xs[((i:Int)+(m:Int)*1).toNat]?).toArray=((xs.toList.drop i).take k).toArray:=by
 have e:(λ(m:Nat)=>xs[((i:Int)+(m:Int)*1).toNat]?)=λm=>xs[i+m]?:=by
  funext m;have:((i:Int)+(m:Int)*1).toNat=i+m:=(by omega);rw[this]
 rw[e];have:=pick_run xs i k;rw[List.filterMap_map]at this;have ar:((λx=>xs[x]?) ∘ λx=>i+x)=λm=>xs[i+m]?:=rfl
 rw[ar]at this;rw[this]
def PJ{t bI:Addr}{items:Array Value}{fG fH:Value}{lo ai:Option Int}{Q:Value->Shared->Prop}(aA:IsTup s.heap t items)(af:s.heap.IsSliceOf bI fG fH .none)(cn:IsPart fG lo)(pu:IsPart fH ai)(hw:¬(bN items.size 0 lo=0/\bN items.size items.size ai=items.size))(h:Q (.ref s.heap.objs.size) { s with heap:=s.heap.push { cls:=.type "tuple",data:=.seq ((items.toList.drop (bN items.size 0 lo)).take (bN items.size items.size ai-bN items.size 0 lo)).toArray } })(hsz:items.size<=sizeLine):wpAny (model prog w) A (getItem (.ref t) (.ref bI)) Q E s:=by
 have vp:sizeOk (.seq ((items.toList.drop (bN items.size 0 lo)).take (bN items.size items.size ai-bN items.size 0 lo)).toArray):=by
  show((items.toList.drop (bN items.size 0 lo)).take (bN items.size items.size ai-bN items.size 0 lo)).toArray.size<=sizeLine;rw[abb,acF,acG,Array.length_toList];omega
 have aI:bN items.size items.size ai<=items.size:=wi _ _ (aa9 _) ai;obtain⟨os,ov,mX,kz⟩:=id af;have zJ:s.TypeIs (.ref bI) "slice":=⟨os,ov,mX⟩;unfold getItem
 try with_reducible refine acf ?_
 first|refine aa2 (aa4 ?_)|skip
 refine aa2 (wpAny_sequenceKey aA.typeIs (by decide) ?_);refine aa2 (acj (name:=Str.ofString "__getitem__") aA.typeIs abT
  (aca abT aA.typeIs entry_tuple_getitem ?_ (args_tuple_getitem _ _)))
 show wpAny _ _ (Builtin.Tuple.tupleItemsOf (.ref t)>>=_) _ _ s;refine aa2 (tupleItemsOf_ aA ?_);refine aa2 (ac3 zJ ?_);rw[if_pos (by decide)];refine aa2 (IZ af cn pu ?_);have iQ:¬((((bN items.size 0 lo:Nat):Int)==0&&(1:Int)==1&&(bN items.size items.size ai-bN items.size 0 lo)==items.size)=true):=by
  intro q;rw[aa3,aa3]at q;have aO:((bN items.size 0 lo:Nat):Int)=0:=eq_of_beq q.1.1;have a9:bN items.size items.size ai-bN items.size 0 lo=items.size:=eq_of_beq q.2;exact hw ⟨by omega,by omega⟩
 show wpAny _ _ (if (((bN items.size 0 lo:Nat):Int)==0&&(1:Int)==1&&(bN items.size items.size ai-bN items.size 0 lo)==items.size)=true then _ else _) _ _ s;rw[if_neg iQ,U1]
 first
  |exact aa2 (m:=Builtin.Tuple.tupleExact _) (abE (aa4 ⟨_,rfl,aa4 h⟩) vp)
  |exact aa2 (m:=Builtin.Tuple.tupleExact _) (abE (aa2 (aa4 (aa4 ⟨_,rfl,aa4 h⟩))) vp)
  |exact aa2 (aa2 (m:=Builtin.Tuple.tupleExact _) (abE (aa4 (aa4 ⟨_,rfl,aa4 h⟩)) vp))
  |exact aa2 (aa2 (m:=Builtin.Tuple.tupleExact _) (abE (aa4 ⟨_,rfl,aa4 h⟩) vp))
end
end da
namespace bu
open PySem PySem.Spec PyProof.Rows
noncomputable abbrev pl:=St->aD->(Option Int->aD->Prop)->Prop
def j9(X:a4)(e:Option Expr)(t:pl):Prop :=
 ∀(pins:List (Addr×Obj))(s:Shared)(σ:St)(H:aD)(Q:Option Int->aD->Prop),Inv X pins σ H s->t σ H Q ->
  wpAny (model X.prog X.w) X.A (evalPart e X.env) (λu s'=>∃o aq,Inv X pins σ aq s'/\IsPart u o/\Q o aq) X.cb s
noncomputable def X6:pl:=λ_ H Q=>Q none H
noncomputable def X9(t:TE):pl:=λσ H Q=>t σ H λx H1=>∃i,x=.int i/\Q (some i) H1
def intsAre_of{ns:List Int}:∀{us:List Value},Vals (ns.map V.int) us->IntsAre us ns:=by
 induction ns with
 |nil=>intro us r;rw[ac4]at r;cases r;exact .nil
 |cons n ns aG =>
  intro us r;rw[List.map_cons]at r;cases r with
  |cons aH aT =>
   obtain⟨t,e⟩:=aH;subst e;exact .cons n t (aG aT)
section
variable{X:a4}{e:Expr}{eR:TE}{lo ai:Option Expr}{iB wI:pl}{pos p2:Pos}
def U6:j9 X none X6:=by
 intro pins s σ H Q I h;rw[evalPart_none];exact aa4 ⟨none,H,I,.none,h⟩
def U7(h:aQ X e eR):j9 X (some e) (X9 eR):=by
 intro pins s σ H Q I hw;rw[evalPart_some];refine bR (h pins s σ H _ I hw) λu s1 ⟨x,H1,a5,aH,aO⟩=>?_
 obtain⟨i,rfl,q⟩:=aO;obtain⟨t,rfl⟩:=aH;exact⟨some i,H1,a5,.int i t,q⟩
def rg(X:a4)(r:V->Option Int->Option Int->aD->dw->Prop):Prop :=
 ∀(pins:List (Addr×Obj))(s:Shared)(σ:St)(H:aD)(x:V)(v fG fH:Value)(lo ai:Option Int)(bI:Addr)(Q:dw),Inv X pins σ H s->RelV x v->s.heap.IsSliceOf bI fG fH .none->IsPart fG lo->IsPart fH ai->r x lo ai H Q ->
  ∃T id,typeLookup (.type T) "__getitem__"=pure (some (.builtin id))/\s.TypeIs v T/\wpAny (model X.prog X.w) X.A (getItem v (.ref bI)) (eS X pins σ Q) X.cb s
noncomputable def Yc(r:V->Option Int->Option Int->aD->dw->Prop)(eR:TE)(iB wI:pl):TE:=λσ H Q=>eR σ H λx H1=>iB σ H1 λl aU=>wI σ aU λu bt=>r x l u bt Q
def UK{r:V->Option Int->Option Int->aD->dw->Prop}(a3:rg X r)(he:aQ X e eR)(az:j9 X lo iB)(bh:j9 X ai wI):aQ X (.Subscript e (.Slice lo ai none p2) pos) (Yc r eR iB wI):=by
 intro pins s σ H Q I h;refine Subscript_ (bR (he pins s σ H _ I h) λv s1 ⟨x,H1,a5,aH,aO⟩=>?_);refine wpAny_Slice (bR (az pins s1 σ H1 _ a5 aO) λfG s2 ⟨l,aU,ck,cn,a9⟩=>bR (bh pins s2 σ aU _ ck a9) λfH s3 ⟨u,bt,eA,pu,bW⟩=>?_);rw[evalPart_none];refine aa4 ?_;have f6:Inv X pins σ bt { s3 with heap:=s3.heap.push { cls:=.type "slice",data:=.fields #[fG,fH,.none] } }:=eA.kept (t':=s3.toks) λb bQ q=>aa5 _ q
 obtain⟨T,id,cG,aA,aZ⟩:=a3 pins { s3 with heap:=s3.heap.push { cls:=.type "slice",data:=.fields #[fG,fH,.none] } } σ bt x v fG fH l u s3.heap.objs.size Q f6 aH (Heap.IsSliceOf.new ..) cn pu bW;show wpAny (model X.prog X.w) X.A (subscriptTail e (.Slice lo ai none p2) v (.ref s3.heap.objs.size)) (eS X pins σ Q) X.cb { s3 with heap:=s3.heap.push { cls:=.type "slice",data:=.fields #[fG,fH,.none] } };exact tail_any (ops:=[.ref s3.heap.objs.size,v]) aA cG aZ (by with_unfolding_all rfl)
noncomputable def lz(xs:List V)(lo ai:Option Int):List V:=(xs.drop (da.bN xs.length 0 lo)).take (da.bN xs.length xs.length ai-da.bN xs.length 0 lo)
def DS(xs:List V)(lo ai:Option Int):(lz xs lo ai).length<=xs.length:=by
 unfold lz;rw[acF,acG];omega
noncomputable def VG(K:W.Frag):V->Option Int->Option Int->aD->dw->Prop:=λx lo ai H Q=>∃a xs,x=.ref a/\fq K H a xs /\
 ¬(da.bN xs.length 0 lo=0/\da.bN xs.length xs.length ai=xs.length)/\∀p,H p=none->Q (.ref p) (upd H p (.tup (lz xs lo ai)))
def Xp:rg X (VG X.K):=by
 intro pins s σ H x v fG fH lo ai bI Q I bc af cn pu h;obtain⟨a,xs,rfl,ak,hw,q⟩:=h;cases bc;obtain⟨its,r,aA,hz⟩:=I.tuple ak;have hlen:its.toArray.size=xs.length:=by rw[abb];exact r.length.symm
 refine⟨"tuple",_,abT.lookup,aA.typeIs,?_⟩;refine da.PJ aA af cn pu (by rw[hlen];exact hw) ?_ (by rw[hlen];exact hz);rw[hlen];refine⟨.ref s.heap.objs.size,_,I.laid (t':=s.toks) (o:=.tup (lz xs lo ai)) (λb bQ q=>aa5 _ q) (aa9 _) ?_,rfl,q _ (I.bx.fresh (aa9 _))⟩;exact⟨abX (DS xs lo ai) hz,_,(r.drop (da.bN xs.length 0 lo)).take (da.bN xs.length xs.length ai-da.bN xs.length 0 lo),IsTup.new _ _⟩
noncomputable def VC(K:W.Frag):g7:=λx y H Q=>∃a b ns ms,x=.ref a/\y=.ref b/\fq K H a (ns.map V.int)/\fq K H b (ms.map V.int)/\Q (.aV (da.lexLt ns ms)) H
def Ui(bh:X.A.units<cLine):d3 X (compareOp .Lt) (VC X.K):=by
 intro pins s σ H x y v u Q I bc bM h;obtain⟨a,b,ns,ms,rfl,rfl,aw,ae,q⟩:=h;cases bc;cases bM;obtain⟨its,aH,p1,_⟩:=I.tuple aw;obtain⟨hc,aT,p2,_⟩:=I.tuple ae;have eW:IntsAre its.toArray.toList ns:=intsAre_of aH;have gR:IntsAre hc.toArray.toList ms:=intsAre_of aT;exact da.GD p1 p2 eW gR bh ⟨.aV (da.lexLt ns ms),H,I,rfl,q⟩
end
end bu
namespace bu
open PySem PySem.Spec PyProof.Rows
noncomputable def hF(n:Nat)(i:Int):Option Nat:=if 0<=i then(if i<n then some i.toNat else none) else if -(n:Int)<=i then some (i+n).toNat else none
def n1{α:Type}(xs:List α)(i:Int):Option α:=(hF xs.length i).bind λj=>xs[j]?
def F8{n:Nat}{i:Int}{j:Nat}(h:hF n i=some j):seqIndex? i n=some j/\j<n/\-(n:Int)<=i/\i<n:=by
 unfold hF at h
 by_cases h0:0<=i
 .rw[if_pos h0]at h
  by_cases J:i<n
  .rw[if_pos J]at h;have e:i.toNat=j:=abC h;exact⟨by rw[seqIndex_of h0 J,e],by omega,by omega,J⟩
  .rw[if_neg J]at h;cases h
 .rw[if_neg h0]at h
  by_cases J:-(n:Int)<=i
  .rw[if_pos J]at h;have e:(i+n).toNat=j:=abC h;exact⟨by rw[seqIndex_neg (by omega) J,e],by omega,J,by omega⟩
  .rw[if_neg J]at h;cases h
def xC{α:Type}{xs:List α}{i:Int}{v:α}(h:n1 xs i=some v):∃j,seqIndex? i xs.length=some j/\xs[j]?=some v/\j<xs.length/\-(xs.length:Int)<=i/\i<xs.length:=by
 unfold n1 at h;cases e:hF xs.length i with
 |none=>rw[e]at h;cases h
 |some j =>
  rw[e]at h;obtain⟨J,aa,aE,aR⟩:=F8 e;exact⟨j,J,h,aa,aE,aR⟩
def xn(b:Expr):Prop:=∀o i,subscripted b false o i=operate [o,i] (getItem o i)
def lp(X:a4)(r:g7):Prop :=
 ∀(value slice:Expr)(pins:List (Addr×Obj))(s:Shared)(σ:St)(H:aD)(x y:V)(v u:Value)(Q:dw),Inv X pins σ H s->RelV x v->RelV y u->r x y H Q ->
  subscripted slice false v u=operate [v,u] (getItem v u)->wpAny (model X.prog X.w) X.A (subscriptTail value slice v u) (eS X pins σ Q) X.cb s
def CN(X:a4)(id:String)(r:V->List V->aD->dw->Prop):Prop :=
 ∀(pins:List (Addr×Obj))(s:Shared)(σ:St)(H:aD)(x:V)(xs:List V)(v:Value)(us:List Value)(Q:dw),Inv X pins σ H s->RelV x v->Vals xs us->r x xs H Q ->
  wpAny (model X.prog X.w) X.A (call (.builtin id) (v::us)) (eS X pins σ Q) X.cb s
section
variable{X:a4}{a b:Expr}{dp dq:TE}{pos:Pos}
def lp.or{r b5:g7}(h:lp X r)(h':lp X b5):lp X (λx y H Q=>r x y H Q\/b5 x y H Q):=by
 intro value slice pins s σ H x y v u Q I bc bM q af;rcases q with q|q
 .exact h value slice pins s σ H x y v u Q I bc bM q af
 .exact h' value slice pins s σ H x y v u Q I bc bM q af
def UG{r:g7}(a3:lp X r)(aw:aQ X a dp)(ae:aQ X b dq)(af:xn b):aQ X (.Subscript a b pos) (tQ r dp dq):=by
 intro pins s σ H Q I h;exact Subscript_ (ym aw ae I h λv u s2 x y aU ck bc bM q=>a3 a b pins s2 σ aU x y v u Q ck bc bM q (af _ _))
noncomputable def HM(K:W.Frag):g7:=λx y H Q=>∃p xs i v,x=.ref p/\y=.int i/\eg K H p xs/\n1 xs i=some v/\Q v H
noncomputable def HO(K:W.Frag):g7:=λx y H Q=>∃p xs i v,x=.ref p/\y=.int i/\fq K H p xs/\n1 xs i=some v/\Q v H
noncomputable def HN:g7:=λx y H Q=>∃z i c,x=.str z/\y=.int i/\z.length<=sizeLine/\n1 z.cps.toList i=some c/\Q (.str ⟨#[c]⟩) H
def R2:lp X (HM X.K):=by
 intro value slice pins s σ H x y v u Q I bc bM h af;obtain⟨p,xs,i,z,rfl,rfl,aN,he,q⟩:=h;cases bc;obtain⟨t,rfl⟩:=bM;obtain⟨its,r,cn,hz⟩:=I.list aN;obtain⟨j,J,aa,aE,aR,bX⟩:=xC he;obtain⟨w,uV,h7⟩:=r.get aa;have az:=r.length;have aC:=sU;have fin:eS X pins σ Q w s:=⟨z,H,I,h7,q⟩
 by_cases h0:0<=i
 .have aI:i.toNat=j:=by
   rw[seqIndex_of h0 bX]at J;exact abC J
  exact item_listR cn.isList h0 (by omega) (by rw[aI];simpa using uV) fin af
 .have aI:(i+(its.toArray.size:Int)).toNat=j:=by
   rw[seqIndex_neg (by omega) aR]at J;rw[abb,<- az];exact abC J
  exact subscriptTail_builtinR (x:=w) cn.isList.typeIs slot_list_getitem.lookup
   (wpAny_getItem_list_neg (Q:=λr s'=>r=w/\eS X pins σ Q r s') cn.isList (by omega) (by rw[abb]<;>omega) (by omega) (by rw[aI];simpa using uV) ⟨rfl,fin⟩) af
def R6:lp X (HO X.K):=by
 intro value slice pins s σ H x y v u Q I bc bM h af;obtain⟨p,xs,i,z,rfl,rfl,aN,he,q⟩:=h;cases bc;obtain⟨t,rfl⟩:=bM;obtain⟨its,r,cn,hz⟩:=I.tuple aN;obtain⟨j,J,aa,aE,aR,bX⟩:=xC he;obtain⟨w,uV,h7⟩:=r.get aa;have az:=r.length;have aC:=sU;have fin:eS X pins σ Q w s:=⟨z,H,I,h7,q⟩;exact subscriptTail_builtinR (x:=w) cn.typeIs slot_tuple_getitem.lookup
  (getItem_tuple (j:=j) (Q:=λr s'=>r=w/\eS X pins σ Q r s') cn (by omega) (by omega) (by rw[abb,<- az];exact J) (by simpa using uV) ⟨rfl,fin⟩) af
def R5:lp X HN:=by
 intro value slice pins s σ H x y v u Q I bc bM h af;obtain⟨z,i,c,rfl,rfl,hz,he,q⟩:=h;obtain⟨t,rfl⟩:=bc;obtain⟨t',rfl⟩:=bM;obtain⟨j,J,aa,aE,aR,bX⟩:=xC he;have az:z.cps.toList.length=z.length:=by simp[Str.length]
 rw[az]at J aR bX;have aC:=sU;exact tail_any (typeIs_str s z t) slot_str_getitem.lookup (getItem_str (c:=c) (by
  have e1:decide (i < -(2 ^ 63:Int))=false:=decide_eq_false (by omega);have ar:decide (i>=2 ^ 63)=false:=decide_eq_false (by omega);rw[e1,ar,Bool.or_false]) (by rw[J];simpa using aa) ⟨.str ⟨#[c]⟩,H,I.tok _,⟨_,rfl⟩,q⟩) af
noncomputable def VB(K:W.Frag):g7:=λx y H Q=>HM K x y H Q\/HO K x y H Q\/HN x y H Q
def R4:lp X (VB X.K):=R2.or (R6.or R5)
def S5(its:List Value)(n j:Nat)(u:Value):Obj.mapSeq (·.setIfInBounds j u) { cls:=.type "list",data:=.seq its.toArray n }={ cls:=.type "list",data:=.seq (its.set j u).toArray n }:=by
 simp[Obj.mapSeq]
theorem Inv.lst{pins:List (Addr×Obj)}{σ:St}{H:aD}{s:Shared}{p:Addr}{xs:List V}(I:Inv X pins σ H s)(h:H p=some (.lst xs)):
  ∃(its:List Value)(n:Nat),Vals xs its/\s.heap.get? p=some { cls:=.type "list",data:=.seq its.toArray n }/\xs.length<=sizeLine:=by
 obtain⟨z,its,n,r,e⟩:=I.bx p _ h;exact⟨its,n,r,e,z⟩
def Inv.S0{pins:List (Addr×Obj)}{σ:St}{H:aD}{s:Shared}{p:Addr}{xs ys:List V}{its its':List Value}{n cc:Nat}{f:Obj->Obj}(I:Inv X pins σ H s)(h:H p=some (.lst xs))(ay:s.heap.get? p=some { cls:=.type "list",data:=.seq its.toArray n })(hf:f { cls:=.type "list",data:=.seq its.toArray n }={ cls:=.type "list",data:=.seq its'.toArray cc })(r:Vals ys its')(hz:ys.length<=sizeLine)(t:Nat):
  Inv X pins σ (upd H p (.lst ys)) { s with heap:=s.heap.update p f,toks:=t }:=by
 have e:(s.heap.update p f).get? p=some { cls:=.type "list",data:=.seq its'.toArray cc }:=by
  rw[abz f ay (by rw[hf]<;>rfl),hf]
 refine I.write (x:=p) (e:=p) (by rw[h];trivial) (.inl rfl) (λb u ae q=>(abr _ _ (ab1 ae)).trans q) ⟨_,e⟩ ?_;exact⟨hz,its',cc,r,e⟩
noncomputable def VD:V->V->V->aD->(aD->Prop)->Prop:=λo i v H Q=>∃p xs k j,o=.ref p/\i=.int k/\H p=some (.lst xs)/\hF xs.length k=some j/\Q (upd H p (.lst (xs.set j v)))
def set_list:KC X VD:=by
 intro pins s σ H o i v nj kG u Q I V2 Bz br h;obtain⟨p,xs,k,j,rfl,rfl,aB,aI,q⟩:=h;cases V2;obtain⟨t,rfl⟩:=Bz;obtain⟨its,n,r,ay,hz⟩:=I.lst aB;obtain⟨J,aa,aE,aR⟩:=F8 aI;have az:=r.length;have aC:=sU;have eb:Inv X pins σ (upd H p (.lst (xs.set j v))) { s with heap:=s.heap.update p (Obj.mapSeq (·.setIfInBounds j u)) } :=
  I.S0 aB ay (S5 its n j u) (r.set br j) (by rw[acA];exact hz) s.toks
 by_cases h0:0<=k
 .have ax:k.toNat=j:=by
   rw[seqIndex_of h0 aR]at J;exact abC J
  exact PySem.W.ki_setAt ay h0 (by omega) (by rw[abb,<- az];exact aR) (by rw[ax];exact⟨_,eb,q⟩)
 .have ax:(k+(its.toArray.size:Int)).toNat=j:=by
   rw[seqIndex_neg (by omega) aE]at J;rw[abb,<- az];exact abC J
  exact PySem.W.ki_setBack ay (by omega) (by rw[abb,<- az];exact aE) (by omega) (by rw[ax];exact⟨_,eb,q⟩)
def Xr(lo ai:Option Int)(n:Nat):(sliceBounds lo ai none n).1=((da.bN n 0 lo:Nat):Int)/\(sliceBounds lo ai none n).2.1=((da.bN n n ai:Nat):Int)/\(sliceBounds lo ai none n).2.2=1:=by
 refine⟨?_,?_,rfl⟩
 .cases lo with
  |none=>simp[sliceBounds,da.bN]
  |some i =>
   simp only[sliceBounds,da.bN,Option.getD_none,show(1:Int)>0 by decide,abU]
   by_cases h:i<0
   .simp only[h,abU]<;>omega
   .simp only[h,abp]<;>omega
 .cases ai with
  |none=>simp[sliceBounds,da.bN]
  |some i =>
   simp only[sliceBounds,da.bN,Option.getD_none,show(1:Int)>0 by decide,abU]
   by_cases h:i<0
   .simp only[h,abU]<;>omega
   .simp only[h,abp]<;>omega
def Xq(its:List Value)(lo ai:Option Int):slicePick its.toArray lo ai none=((its.drop (da.bN its.length 0 lo)).take (da.bN its.length its.length ai-da.bN its.length 0 lo)).toArray:=by
 obtain⟨J,aa,aE⟩:=Xr lo ai its.toArray.size;unfold slicePick;rw[J,aa,aE];simp only[sliceRange_one,pick_run,abb]<;>rfl
noncomputable def VF(K:W.Frag):V->Option Int->Option Int->aD->dw->Prop:=λx lo ai H Q=>∃a xs,x=.ref a/\eg K H a xs/\∀p,H p=none->Q (.ref p) (upd H p (.lst (lz xs lo ai)))
def Xn:rg X (VF X.K):=by
 intro pins s σ H x v fG fH lo ai bI Q I bc af cn pu h;obtain⟨a,xs,rfl,ak,q⟩:=h;cases bc;obtain⟨its,r,aA,hz⟩:=I.list ak;have hlen:=r.length;refine⟨"list",_,slot_list_getitem.lookup,aA.isList.typeIs,?_⟩;refine wpAny_getItem_list_slice aA.isList af cn pu .none (by simp) ?_ (by rw[abb]<;>omega);rw[Xq,<- hlen];refine⟨.ref s.heap.objs.size,_,I.laid (t':=s.toks) (o:=.lst (lz xs lo ai)) (λb bQ q=>aa5 _ q) (aa9 _) ?_,rfl,q _ (I.bx.fresh (aa9 _))⟩;exact⟨abX (DS xs lo ai) hz,_,0,(r.drop (da.bN xs.length 0 lo)).take (da.bN xs.length xs.length ai-da.bN xs.length 0 lo),abd _ rfl⟩
def Dq:g5 X (.builtin "len") (λxs H Q=>∃p ys,xs=[.ref p]/\(eg X.K H p ys\/fq X.K H p ys)/\Q (.int ys.length) H):=by
 intro pins s σ H xs us Q I r h;obtain⟨p,ys,rfl,aN,q⟩:=h;obtain⟨u,rfl,bc⟩:=vals1 r;cases bc;have aC:=sU;rcases aN with aN|aN
 .obtain⟨its,b5,cn,hz⟩:=I.list aN;have hlen:=b5.length;exact Calls.call_len_list cn.isList (by simp only[abb]<;>omega) ⟨.int ys.length,H,I.tok _,⟨s.toks+1,by rw[abb,hlen]⟩,q⟩
 .obtain⟨its,b5,cn,hz⟩:=I.tuple aN;have hlen:=b5.length;exact len_tuple cn (by simp only[abb]<;>omega) ⟨.int ys.length,H,I.tok _,⟨s.toks+1,by rw[abb,hlen]⟩,q⟩
def Dr:g5 X (.type "list") (λxs H Q=>∃p ys,xs=[.ref p]/\(eg X.K H p ys\/fq X.K H p ys)/\∀l,H l=none->Q (.ref l) (upd H l (.lst ys))):=by
 intro pins s σ H xs us Q I r h;obtain⟨p,ys,rfl,aN,q⟩:=h;obtain⟨u,rfl,bc⟩:=vals1 r;cases bc;have fin:∀(its:List Value),Vals ys its->ys.length<=sizeLine->∀(h':Heap)(c3:Nat),(∀b bL,s.heap.get? b=some bL->h'.get? b=some bL) ->
   h'.get? s.heap.objs.size=some { cls:=.type "list",dict:=none,data:=.seq its.toArray c3,slots:=#[] }->eS X pins σ Q (.ref s.heap.objs.size) { s with heap:=h' }:=λits b5 hz h' c3 gE e =>
  ⟨.ref s.heap.objs.size,_,I.laid (t':=s.toks) gE (aa9 _) (show d1 X.prog X.w _ h' _ (.lst ys) from⟨hz,its,c3,b5,e⟩),rfl,q _ (I.bx.fresh (aa9 _))⟩
 rcases aN with aN|aN
 .obtain⟨its,b5,cn,hz⟩:=I.list aN;have hlen:=b5.length;obtain⟨o,ay,ag,n,hd⟩:=cn.isList;exact call_list_seq p (.inl rfl) ay ag hd (λh' c3 gE e=>fin its b5 hz h' c3 gE e) (by simp only[abb]<;>omega)
 .obtain⟨its,b5,cn,hz⟩:=I.tuple aN;have hlen:=b5.length;obtain⟨o,ay,ag,n,hd⟩:=cn;exact call_list_seq p (.inr rfl) ay ag hd (λh' c3 gE e=>fin its b5 hz h' c3 gE e) (by simp only[abb]<;>omega)
def Dt:g5 X (.type "tuple") (λxs H Q=>∃p ys,xs=[.ref p]/\((eg X.K H p ys/\∀l,H l=none->Q (.ref l) (upd H l (.tup ys)))\/(fq X.K H p ys/\Q (.ref p) H))):=by
 intro pins s σ H xs us Q I r h;obtain⟨p,ys,rfl,h⟩:=h;obtain⟨u,rfl,bc⟩:=vals1 r;cases bc;rcases h with⟨aN,q⟩|⟨aN,q⟩
 .obtain⟨its,b5,cn,hz⟩:=I.list aN;have hlen:=b5.length;refine call_tuple_list cn.isList (λh' gE=>?_) (by simp only[abb]<;>omega);have a5:Inv X pins σ H { s with heap:=h' }:=I.kept (t':=s.toks) gE;have ck:Inv X pins σ (upd H h'.objs.size (.tup ys)) { s with heap:=h'.push { cls:=.type "tuple",data:=.seq its.toArray } } :=
   a5.laid (t':=s.toks) (λb o e=>aa5 _ e) (aa9 _) (show d1 X.prog X.w _ _ _ (.tup ys) from⟨hz,its,b5,IsTup.new _ _⟩)
  exact⟨.ref h'.objs.size,_,ck,rfl,q _ (a5.bx.fresh (aa9 _))⟩
 .obtain⟨its,b5,cn,hz⟩:=I.tuple aN;exact call_tuple_same cn ⟨.ref p,H,I,rfl,q⟩
def Cj(K:W.Frag)(T:String)(x:V)(H:aD):Prop:=match x with
 |.str _=>T="str"
 |.int _=>T="int"
 |.ref p=>(T="list"/\∃xs,eg K H p xs)\/(T="tuple"/\∃o,K.lookup p=some o/\o.cls=.type "tuple"/\o.dict=none) \/
   (T="dict"/\((∃ao,H p=some (.dS ao))\/∃ao,H p=some (.di ao)))\/(T="set"/\∃S n,H p=some (.set S n))
 |_=>False
def JS{pins:List (Addr×Obj)}{σ:St}{H:aD}{s:Shared}{T:String}{x:V}{v:Value}(I:Inv X pins σ H s)(r:RelV x v)(ty:Cj X.K T x H):
  s.TypeIs v T/\∀a,v=.ref a->∃bQ,s.heap.get? a=some bQ/\bQ.dict=none:=by
 cases x with
 |str z =>
  obtain⟨t,rfl⟩:=r;cases (show T="str" from ty);exact⟨typeIs_str s z t,λ_ e=>nomatch e⟩
 |int i =>
  obtain⟨t,rfl⟩:=r;cases (show T="int" from ty);exact⟨typeIs_int s i t,λ_ e=>nomatch e⟩
 |ref p =>
  cases r;rcases ty with⟨rfl,xs,aN⟩|⟨rfl,o,ax,ag,hd⟩|⟨rfl,ax⟩|⟨rfl,S,n,ax⟩
  .obtain⟨its,_,cn,_⟩:=I.list aN;refine⟨cn.isList.typeIs,λa e=>?_⟩;cases e;obtain⟨o,n,e,c,hd,_⟩:=cn;exact⟨o,e,hd⟩
  .refine⟨⟨o,I.oA p o ax,ag⟩,λa e=>?_⟩;cases e;exact⟨o,I.oA _ o ax,hd⟩
  .have z:∃o,s.heap.get? p=some o/\o.ExactDict:=by
    rcases ax with⟨ao,ax⟩|⟨ao,ax⟩
    .obtain⟨_,_,_,_,o,_,_,e,ex,_⟩:=I.bx p _ ax;exact⟨o,e,ex⟩
    .obtain⟨_,_,_,_,o,_,_,e,ex,_⟩:=I.bx p _ ax;exact⟨o,e,ex⟩
   obtain⟨o,e,ex⟩:=z;refine⟨⟨o,e,ex.1⟩,λa ar=>?_⟩;cases ar;exact⟨o,e,ex.2.1⟩
  .obtain⟨o,_,_,_,e,ex,_⟩:=I.bx p _ ax;refine⟨⟨o,e,ex.1⟩,λa ar=>?_⟩;cases ar;exact⟨o,e,ex.2.1⟩
 |_=>exact False.elim ty
noncomputable def Jn(K:W.Frag)(T:String)(r:V->List V->aD->dw->Prop)(to:TE):TE:=λσ H Q=>to σ H λx H1=>Cj K T x H1/\r x [] H1 Q
noncomputable def XU(K:W.Frag)(T:String)(r:V->List V->aD->dw->Prop)(to:TE)(t:g8):TE:=λσ H Q=>to σ H λx H1=>Cj K T x H1/\t σ H1 λxs aU=>r x xs aU Q
variable{o e:Expr}{aj:List Expr}{to:TE}{t:g8}{name:Str}{apos e6:Pos}{T id:String}{r:V->List V->aD->dw->Prop}
def Ux(vZ:PlainAttrs T)(slot:Slot T name id)(jN:typeOf (.builtin id)=pure (.type "method_descriptor"))(hm:CN X id r)(ay:aQ X o to)(sb:attributeBase o name X.env (eval o X.env)=eval o X.env:=by rfl)(iO:(apos.endLine==e6.line)=true:=by rfl):aQ X (.Call (.Attribute o name apos) [] [] e6) (Jn X.K T r to):=by
 intro pins s σ H Q I h;refine wpAny_Call_method0_late sb iO (bR (ay pins s σ H _ I h) λv s1 ⟨x,H1,a5,aH,ty,aO⟩=>?_);obtain⟨J,aa⟩:=JS a5 aH ty;exact⟨T,id,vZ,slot,jN,J,aa,adE rfl (PySem.evalArgs_none (hm pins s1 σ H1 x [] v [] Q a5 aH .nil aO))⟩
def Bd(vZ:PlainAttrs T)(slot:Slot T name id)(jN:typeOf (.builtin id)=pure (.type "method_descriptor"))(hm:CN X id r)(ay:aQ X o to)(aw:f7 X (e::aj) t)(sb:attributeBase o name X.env (eval o X.env)=eval o X.env:=by rfl)(Qk:((backTo e6 (starEach (e::aj) X.env)).all (λx=>!x.1)&&(backToKw e6 (keywordEach [] X.env)).all (λx=>x.1.isSome)
   && decide ((e::aj).length+([]:List Keyword).length+(if ([]:List Keyword).isEmpty then 0 else 1)<30))=true:=by rfl)(iO:(apos.endLine==e6.line)=true:=by rfl)(af:starEach (e::aj) X.env=(false,eval e X.env)::starEach aj X.env:=by rfl)(Q7:(backTo e6 (starEach aj X.env)).any (·.1)=false:=by rfl):
  aQ X (.Call (.Attribute o name apos) (e::aj) [] e6) (XU X.K T r to t):=by
 intro pins s σ H Q I h;refine wpAny_Call_method_late sb Qk iO rfl (bR (ay pins s σ H _ I h) λv s1 ⟨x,H1,a5,aH,ty,aO⟩=>?_);obtain⟨J,aa⟩:=JS a5 aH ty;refine⟨T,id,vZ,slot,jN,J,aa,?_⟩;have gA:=aw e6 pins s1 σ H1 _ a5 aO;rw[af]at gA ⊢;refine adE (by show(false||(backTo e6 (starEach aj X.env)).any (·.1))=false;rw[Q7]<;>rfl) (ad8 ?_);exact bR gA λus s2 ⟨ah,aU,ck,aT,a9⟩=>hm pins s2 σ aU x ah v us Q ck aH aT a9
end
end bu
namespace bu
open PySem PySem.Spec PyProof.Rows
def ui(X:a4)(id:String)(r:V->List V->aD->dw->Prop):Prop :=
 ∀(pins:List (Addr×Obj))(s:Shared)(σ:St)(H:aD)(x:V)(xs:List V)(v:Value)(us:List Value)(Q:dw),Inv X pins σ H s->RelV x v->Vals xs us->r x xs H Q ->
  wpAny (model X.prog X.w) X.A (call (.builtin id) (v::us)) (eS X pins σ Q) X.cb s
def Vals.one:∀{x:V}{us:List Value},Vals [x] us->∃u,us=[u]/\RelV x u
 |_,_,.cons r .nil=>⟨_,rfl,r⟩
def Vals.zero:∀{us:List Value},Vals [] us->us=[]
 |_,.nil=>rfl
theorem Vals.dropLast{xs:List V}{us:List Value}(h:Vals xs us):Vals xs.dropLast us.dropLast:=by
 induction h with
 |nil=>exact .nil
 |cons r t aG =>
  cases t with
  |nil=>exact .nil
  |cons q t'=>exact .cons r aG
def N7{α:Type}(l:List α):l.eraseIdx (l.length-1)=l.dropLast:=by
 induction l with
 |nil=>rfl
 |cons a r aG =>
  cases r with
  |nil=>rfl
  |cons b r =>
   have e:(a::b::r).length-1=((b::r).length-1)+1:=by
    have J:(a::b::r).length=r.length+2:=rfl;have aa:(b::r).length=r.length+1:=rfl;omega
   rw[e,List.eraseIdx_cons_succ,aG]
   all_goals rfl
section
variable{X:a4}{pins:List (Addr×Obj)}{σ:St}{H:aD}{s:Shared}{l b:Addr}{xs ys zs:List V}
def Inv.AO{its its':List Value}{n:Nat}{f:Array Value->Array Value}{t':Nat}(I:Inv X pins σ H s)(eO:H l=some (.lst xs))(e:s.heap.get? l=some { cls:=.type "list",data:=.seq its.toArray n })(hf:f its.toArray=its'.toArray)(aK:Vals ys its')(hz:ys.length<=sizeLine):
  Inv X pins σ (upd H l (.lst ys)) { s with heap:=s.heap.update l (Obj.mapSeq f),toks:=t' }:=by
 have q:=PySem.IsL.update e f;rw[hf]at q;refine I.write (x:=l) (e:=l) (by rw[eO];exact trivial) (.inl rfl) (λfT u ae bh=>(abr s.heap (Obj.mapSeq f) (ab1 ae)).trans bh) ⟨_,q⟩ ?_;exact⟨hz,its',_,aK,q⟩
def Inv.Gz{its:List Value}{t':Nat}(I:Inv X pins σ H s)(aK:Vals ys its)(hz:ys.length<=sizeLine):
  Inv X pins σ (upd H s.heap.objs.size (.lst ys)) { s with heap:=s.heap.push { cls:=.type "list",data:=.seq its.toArray },toks:=t' } :=
 I.laid (λ_ _ q=>aa5 _ q) (aa9 _) ⟨hz,its,0,aK,abd _ rfl⟩
theorem Inv.fresh(I:Inv X pins σ H s):H s.heap.objs.size=none:=I.bx.fresh (aa9 _)
def Inv.AP(I:Inv X pins σ H s)(eO:H l=some (.lst xs)):xs.length<=sizeLine/\∃(its:List Value)(n:Nat),Vals xs its/\xs.length=its.length/\s.heap.get? l=some { cls:=.type "list",data:=.seq its.toArray n }:=by
 obtain⟨z,its,n,r,e⟩:=I.bx l _ eO;exact⟨z,its,n,r,r.length,e⟩
def TQ{n:Nat}(h:n<=sizeLine):Builtin.List.listTooLong n=false:=by
 unfold Builtin.List.listTooLong;exact decide_eq_false (by omega)
end
section
variable{X:a4}
noncomputable def Vz:V->List V->aD->dw->Prop:=λx ah H Q=>∃l xs y,x=.ref l/\ah=[y]/\H l=some (.lst xs)/\xs.length<sizeLine/\Q .dV (upd H l (.lst (xs++[y])))
def GS:ui X "list.append" Vz:=by
 intro pins s σ H x ah v us Q I bc br h;obtain⟨l,xs,y,rfl,rfl,eO,hz,q⟩:=h;cases bc;obtain⟨u,rfl,b6⟩:=br.one;obtain⟨z,its,n,r,az,e⟩:=I.AP eO;refine call_meets F.slot_list_append ⟨_,e,rfl⟩ F.entry_list_append (F.args_list_append_2 _ _) (PySem.list_append l its.toArray n u (by rw[abb];omega)) ⟨e,?_⟩;refine⟨.dV,_,I.AO (its':=its++[u]) eO e (by simp) (r.append (.cons b6 .nil)) ?_,rfl,q⟩;rw[aa7,List.length_singleton];omega
noncomputable def HP:V->List V->aD->dw->Prop:=λx ah H Q=>∃l xs y,x=.ref l/\ah=[]/\H l=some (.lst xs)/\xs[xs.length-1]?=some y/\Q y (upd H l (.lst xs.dropLast))
def TA:ui X "list.pop" HP:=by
 intro pins s σ H x ah v us Q I bc br h;obtain⟨l,xs,y,rfl,rfl,eO,aP,q⟩:=h;cases bc;have Rp:=br.zero;subst Rp;obtain⟨z,its,n,r,az,e⟩:=I.AP eO;obtain⟨u,bh,b6⟩:=r.get aP;have Rx:its.toArray[its.toArray.size-1]?=some u:=by
  show its.toArray[its.length-1]?=some u;rw[<- abJ,<- az];exact bh
 refine call_meets F.slot_list_pop ⟨_,e,rfl⟩ F.entry_list_pop (F.args_list_pop_1 _) (MeetsSeq.list_pop_last l its.toArray n u Rx (by rw[abb];omega)) ⟨e,?_⟩;refine⟨y,_,I.AO (its':=its.dropLast) eO e ?_ r.dropLast ?_,b6,q⟩
 .show its.toArray.eraseIdxIfInBounds (its.toArray.size-1)=its.dropLast.toArray;rw[abb,List.eraseIdxIfInBounds_toArray,N7]
 .rw[ad9];omega
end
section
variable{prog:Program}{w:World}{A:Around}{E:Value->Shared->Prop}{s:Shared}
end
section
variable{X:a4}
end
end bu
namespace CF
open PySem PySem.W PySem.Calls PyProof.Rows
def RO{P:Params}{h:Heap}:∀(ns:List Int)(ah:List Value),WellAll P h ah (ns.map WData.int)->IntsAre ah ns:=by
 intro ns
 induction ns with
 |nil =>
  intro ah w;rw[ac4]at w;cases w;exact .nil
 |cons n ns aG =>
  intro ah w;rw[List.map_cons]at w;cases w with
  |cons a b =>
   cases a;exact .cons _ _ (aG _ b)
def W2{l:OpenLaw}{n:Nat}(aC:l.most=some n){P:Params}{h:Heap}{args:List WData}{vals:List Value}(vn:l.row.toRowW.claim.pre args=true)(sA:WellAll P h vals args):
  ∃a ah ns,vals=[Value.ref a]/\args=[WData.list (ns.map WData.int)]/\h.get? a=some { cls:=.type "list",data:=.seq ah.toArray }/\IntsAre ah ns/\ns.length<=n:=by
 have kD:WShape.hasAll [] args [.list .int]=true:=(pre_splitW vn).1;have ag:l.pre.holds [] { args:=args }=true:=(pre_splitW vn).2;obtain⟨d,r,rfl,J,aa⟩:=hasAllW_cons kD;obtain rfl:=hasAllW_nil aa;obtain⟨xs,rfl,aE⟩:=hasW_list J;obtain⟨ns,rfl⟩:=items_int aE;have hlen:ns.length<=n:=by
  unfold OpenLaw.pre at ag;have aR:(WTm.not (.lt (.lit (.int (n:Int))) (.len (.arg 0)))).holds [] { args:=[.list (ns.map .int)] }=true:=by
   have aR:=(holds_andW ag).1;rw[aC]at aR;exact aR
  have bX:=condW_of aR (w_not (w_lt w_lit (w_len_list (w_arg rfl))));rw[List.length_map]at bX;refine adV λq=>?_
  have cB:(n:Int)<((ns.length:Nat):Int):=by omega
  first
   |(rw[decide_eq_true cB]at bX;exact absurd bX (by decide))
   |(simp at bX;omega)
 cases sA with
 |cons iX j0 =>
  cases j0;cases iX with
  |list ay fz=>exact⟨_,_,ns,rfl,rfl,ay,RO ns _ fz,hlen⟩
def U8(l:OpenLaw)(args:List WData):l.row.toRowW.claim.post args (.bool true) args=true :=
 postW_of (r:=l.row.toRowW) (X:=(true==true))
  (show WShape.has [] (.bool true) .bool=true by first|rfl|decide|simp[WShape.has,WShape.arms,WShape.armsAll])
  (show(WTm.eq .res (.lit (.bool true))).value [] { args:=args,res:=some (.bool true),after:=args }=some (.bool (true==true)) from w_eq_bool (w_res rfl) w_lit) rfl
def Lo{l:OpenLaw}{n:Nat}{q:Program}{loose:List Str}{dx:(Str->Option Value)->Heap->Prop}{nV:World->Heap->Prop}{d:DefRec}(aC:l.most=some n)(sg:d.params.defaults=[])(call:∀(w:World)(eQ cO:Shared)(aX ji:Str->Option Value)(bl:Addr)(o:Obj)(pm cd doc:Value)(a:Addr)(ah:List Value)(ns:List Int),
   Ground q loose [] dx w eQ aX ji cO.heap->nV w cO.heap ->
   cO.heap.get? bl=some o->o.data=.func (docDef d.name d.params d.body d.scope pm cd doc)->cO.heap.CodeRec cd d.name->aX d.name=some (.ref bl) ->
   cO.heap.get? a=some { cls:=.type "list",data:=.seq ah.toArray }->IntsAre ah ns->ns.length<=n->cO.gens=#[] ->
   codeAny (model l.prog w) callerA (.call (.ref bl) ⟨[.ref a],[]⟩) (λr s'=>r=.ok (.ret (.bool true))/\OldK cO.heap s'.heap/\s'.os=cO.os/\AllBare s'.gens) cO):
  WalkO q loose dx nV l.row.toRowW d [] (λf ah=>PySem.call f ah):=by
 intro w eQ cO aX ji G Y bl o pm cd doc uH dc ay hd lK eN sl aZ args vals as vn FA aao sA aae;obtain rfl:uH=.none:=Dflts.none eN sg;obtain rfl:dc=.none:=Dflts.noKw eN;obtain⟨a,ah,ns,rfl,rfl,Ad,hints,hlen⟩:=W2 aC vn sA;refine enter_call (aeh (call w eQ cO aX ji bl o pm cd doc a ah ns G Y ay (fd_plain hd) lK sl Ad hints hlen aZ) λr s' aN=>?_);obtain⟨rfl,aa,aE,aR⟩:=aN;exact⟨.inl ⟨.bool true,.bool true,[],rfl,λ_=>rfl,.bool true,U8 l _,λ_=>⟨List.Pairwise.nil,λ_ hm=>(nomatch hm)⟩⟩,aa,aE,aR⟩
section
variable{prog:Program}{w:World}{A:Around}{E:Value->Shared->Prop}{s:Shared}{K:Frag}
end
end CF
namespace bu
open PySem PySem.Spec PyProof.Rows
theorem J8:∀{ah:List Value}{ns:List Int},IntsAre ah ns->Vals (ns.map V.int) ah
 |_,_,.nil=>.nil
 |_,_,.cons n t h=>.cons ⟨t,rfl⟩ (J8 h)
def xl(H:aD):Prop:=∀b,H b=none\/∃o xs,H b=some (.du o (.lst xs))
def Ss{P:Program}{w:World}{K:W.Frag}{aX ji:Str->Option Value}{CX:jw}{k:Nat}{bl a:Addr}{fd:FuncData}{x:Str}{sp:mw}{cO:Shared}{ah:List Value}{ns:List Int}(iE:K.In cO.heap)(pW:cO.heap.Ns mainGlobals aX)(ae:cO.heap.Ns builtinsNs ji)(ik:∀x:Str,x≠"__name__"->ji x=bootBuiltins x)(QH:cO.heap.NoLimit)(aZ:cO.gens=#[])(aw:cO.heap.get? a=some { cls:=.type "list",data:=.seq ah.toArray })(ai:IntsAre ah ns)(az:ns.length<=sizeLine)(a3:f9 k callerA)(F:∀base:Heap,K.In base->base.Ns mainGlobals aX->j7 P w K aX base CX k bl fd [x] sp)(zO:∀(s:Shared)(u:Value),BindsTo s fd ⟨[u],[]⟩ [(x,u)])(p6:∀H:aD,xl H->eg K H a (ns.map V.int)->sp [.ref a] H (λv _=>v=.aV true) λ_ _ _=>False)(zC:∀H e s',CX [] H cO (λ_ _ _=>False) e s'->False):
  codeAny (model P w) callerA (.call (.ref bl) ⟨[.ref a],[]⟩) (λr s'=>r=.ok (.ret (.bool true))/\OldK cO.heap s'.heap/\s'.os=cO.os/\AllBare s'.gens) cO:=by
 have br:=J8 ai;have SF:=ai.length;have core:∀H:aD,xl H->eg K H a (ns.map V.int)->ea P w H cO.heap->(∀b,H b≠none->b=a)->(H a≠none->K.lookup a=none) ->
   codeAny (model P w) callerA (.call (.ref bl) ⟨[.ref a],[]⟩) (λr s'=>r=.ok (.ret (.bool true))/\OldK cO.heap s'.heap/\s'.os=cO.os/\AllBare s'.gens) cO:=by
  intro H e8 a7 bx gA hb;have De:∀{b:Addr}{o:Obj},cO.heap.get? b=some o->H b=none->(lM cO.heap H).get? b=some o:=λe n=>Qs e n
  have tc:∀{b:Addr}{o:Obj}{aj:Array DictEntry}{a6:Nat},cO.heap.get? b=some o->o.data=.dict aj a6->H b=none:=λ{b o aj a6} e d=>by
   cases q:H b with
   |none=>rfl
   |some u =>
    have bq:b=a:=gA b (by rw[q];simp);subst bq;rw[aw]at e;cases e;have d':Data.seq ah.toArray _=Data.dict aj a6:=d;cases d'
  have vR:∀{b:Addr}{m:Str->Option Value},cO.heap.Ns b m->(lM cO.heap H).Ns b m:=λ{b m} ⟨o,aj,a6,e,d,r⟩=>⟨o,aj,a6,De e (tc e d),d,r⟩;have Fc:K.In (lM cO.heap H):=λb o e=>De (iE b o e) (by
   cases q:H b with
   |none=>rfl
   |some u =>
    have bq:b=a:=gA b (by rw[q];simp);subst bq;rw[hb (by rw[q];simp)]at e;cases e)
  have fs:Mod K aX (lM cO.heap H):=⟨Fc,vR pW,⟨ji,vR ae,ik⟩,let ⟨Tb,J,aa⟩:=QH;⟨Tb,vR J,aa⟩⟩;have e0:uc P w K aX (lM cO.heap H) callerA [] cO H:=⟨rfl,fs,λb o e=>T8 e,aeO (Qt _ _),trivial,λb ae=>absurd (show b∈([]:List Addr) from ae) (by simp),bx,.of_eq aZ⟩;refine aeh ((F _ Fc (vR pW)).run callerA [] cO H ⟨[.ref a],[]⟩ [.ref a] [.ref a] _ _ a3 e0 (zO cO (.ref a)) (.cons rfl .nil) (p6 H e8 a7)) λr s' h=>?_
  cases r with
  |error e=>exact(zC H e s' h).elim
  |ok e7 =>
   cases e7 with
   |next=>exact False.elim h
   |brk=>exact False.elim h
   |cont=>exact False.elim h
   |ret u =>
    obtain⟨v,aq,os,bare,un,Ae,b5,q⟩:=h;have cB:v=.aV true:=q;subst cB;obtain rfl:u=Value.bool true:=b5;refine⟨rfl,OldK.of_keep λb o e=>?_,os,bare⟩;cases q:H b with
    |none=>exact un.keep b o e q (by intro z;exact absurd (show b∈([]:List Addr) from z) (by simp)) (by simp)
    |some u =>
     rcases e8 b with z|⟨bQ,xs,z⟩
     .rw[q]at z;cases z
     .have bF:=un.iK b bQ _ z;obtain⟨e1,_⟩:=bx b _ z;obtain⟨ar,_⟩:=Ae b _ bF;rw[e]at e1;cases e1;exact ar
 cases ax:K.lookup a with
 |some o =>
  have e:=iE a o ax;rw[aw]at e;cases e;refine core (λ_=>none) (λ_=>.inl rfl) (.inr ⟨_,ah.toArray,_,ax,rfl,rfl,rfl,by rw[abb,SF];exact az,by simpa using br⟩) (λb u z=>by have j1:(none:Option e3)=some u:=z;cases j1) (λb z=>absurd rfl z) λz=>absurd rfl z
 |none =>
  refine core (λb=>if b=a then some (.du { cls:=.type "list",data:=.seq ah.toArray } (.lst (ns.map V.int))) else none) (λb=>?_) (.inl (.inr ⟨{ cls:=.type "list",data:=.seq ah.toArray },if_pos rfl⟩)) (λb u z=>?_) (λb z=>?_) λ_=>ax
  .by_cases ae:b=a
   .exact .inr ⟨_,_,if_pos ae⟩
   .exact .inl (if_neg ae)
  .by_cases ae:b=a
   .have j1:=(if_pos ae).symm.trans z;cases j1;subst ae;exact⟨aw,by rw[List.length_map];exact az,ah,_,br,aw⟩
   .have j1:=(if_neg ae).symm.trans z;cases j1
  .by_cases ae:b=a
   .exact ae
   .exact absurd (if_neg ae) z
end bu
namespace bu
open PySem PySem.Spec PyProof.Rows
noncomputable abbrev uh{K:W.Frag}{h:Heap}(_:K.In h):W.Frag:=K
def Zp{l:PySem.W.OpenLaw}{n k:Nat}{q:Program}{loose:List Str}{dx:(Str->Option Value)->Heap->Prop}{nV:World->Heap->Prop}{d:DefRec}{K:Params->W.Frag}{CX:World->jw}{sp:World->mw}{x:Str}(aC:l.most=some n)(QS:n<=sizeLine)(sg:d.params.defaults=[])(a3:f9 k callerA)(gB:∀(w:World)(h:Heap),nV w h->(K w.params).In h)(F:∀(w:World)(aX:Str->Option Value)(bl:Addr)(h:Heap),(K w.params).In h->h.Ns mainGlobals aX->aX d.name=some (.ref bl) ->
   ∃fd:FuncData,(∀(s:Shared)(u:Value),BindsTo s fd ⟨[u],[]⟩ [(x,u)]) /\
    ∀base:Heap,(K w.params).In base->base.Ns mainGlobals aX->j7 l.prog w (K w.params) aX base (CX w) k bl fd [x] (sp w))(p6:∀(w:World)(H:aD)(a:Addr)(ns:List Int),ns.length<=n->xl H->eg (K w.params) H a (ns.map V.int)->sp w [.ref a] H (λv _=>v=.aV true) λ_ _ _=>False)(zC:∀(w:World)(H:aD)(s:Shared)(e:Value)(s':Shared),CX w [] H s (λ_ _ _=>False) e s'->False):
  PySem.W.WalkO q loose dx nV l.row.toRowW d [] (λf ah=>PySem.call f ah):=by
 refine CF.Lo aC sg λw eQ cO aX ji bl o pm cd doc a ah ns G Y ay hd lK sl Ad hints hlen aZ=>?_
 have iE:=gB w _ Y;obtain⟨fd,ae,zG⟩:=F w aX bl _ iE G.T.g sl;exact Ss iE G.T.g G.T.b G.T.builtins G.T.nolimit aZ Ad hints (abX hlen QS) a3 zG ae (λH e8 a7=>p6 w H a ns hlen e8 a7) λH e s'=>zC w H cO e s'
end bu
namespace bu
open PySem PySem.Spec PyProof.Rows
noncomputable def hv(s:Stmt):Arguments:=match s with
 |.FunctionDef _ a _ _ _ _ _ _ _ _=>a
 |_=>{ posonlyargs:=[],args:=[],vararg:=none,kwonlyargs:=[],kw_defaults:=[],kwarg:=none,defaults:=[] }
noncomputable def lB(s:Stmt):List Stmt:=match s with
 |.FunctionDef _ _ b _ _ _ _ _ _ _=>b
 |_=>[]
noncomputable def hx(s:Stmt):Scope:=match s with
 |.FunctionDef _ _ _ _ _ _ sc _ _ _=>sc
 |_=>{ kind:=.function,names:=[],isGenerator:=false,isCoroutine:=false }
structure q3(K:W.Frag)(x qual:Str)(st:Stmt)(f:Addr)(fd:FuncData):Prop where
 ex:∃(fN:Value)(bb:Option Addr)(dc doc pm:Value)(an:Option Addr)(d2 ct:Value)(fO:Array (Option Value)),
  fd=W.fnOf x qual (hv st) (lB st) (hx st) .none dc doc pm an d2 ct/\K.lookup f=some ⟨fN,bb,.func fd,fO⟩/\W.codeIn K d2 qual=true
 gE:W.keepIn K (.ref f)=true
section
variable{P:Program}{w:World}{K:W.Frag}{aX:Str->Option Value}{base:Heap}
def q3.binds{x qual:Str}{st:Stmt}{f:Addr}{fd:FuncData}{aY:List Str}(F:q3 K x qual st f fd)(h:∀(dc doc pm:Value)(an:Option Addr)(d2 ct:Value)(us:List Value),us.length=aY.length->bindArgs (W.fnOf x qual (hv st) (lB st) (hx st) .none dc doc pm an d2 ct) ⟨us,[]⟩=pure (aY.zip us)):Binds K fd aY []:=by
 obtain⟨fN,bb,dc,doc,pm,an,d2,ct,fO,rfl,lk,lK⟩:=F.ex;exact .all (h dc doc pm an d2 ct)
def ES{x qual:Str}{st:Stmt}{f:Addr}{fN:Value}{bb an:Option Addr}{fO:Array (Option Value)}{dc doc pm d2 ct:Value}(l:K.lookup f=some ⟨fN,bb,.func (W.fnOf x qual (hv st) (lB st) (hx st) .none dc doc pm an d2 ct),fO⟩)(c:W.codeIn K d2 qual=true)(k:W.keepIn K (.ref f)=true):q3 K x qual st f (W.fnOf x qual (hv st) (lB st) (hx st) .none dc doc pm an d2 ct):=⟨⟨fN,bb,dc,doc,pm,an,d2,ct,fO,rfl,l,c⟩,k⟩
end
section
variable{X:a4}
end
def bA(H aq:aD):Prop:=∀b o,H b=some o->aq b=some o
def bA.refl(H:aD):bA H H:=λ_ _ h=>h
def bA.trans{H H1 aU:aD}(a:bA H H1)(b:bA H1 aU):bA H aU:=λc o h=>b c o (a c o h)
def bA.free{H aq:aD}(e:bA H aq){l:Addr}(h:aq l=Option.none):H l=Option.none:=by
 cases q:H l with
 |none=>rfl
 |some o =>
  rw[e l o q]at h;cases h
end bu
end
section
set_option Elab.async false
set_option linter.all false
set_option maxRecDepth 100000
namespace bu
open PySem PySem.Spec PyProof.Rows
section
variable{κ:Type}[DecidableEq κ]
noncomputable def gX(ao:List (κ×V))(k:κ):Option V:=(ao.find? λcK=>decide (cK.1=k)).map (·.2)
noncomputable def putK(ao:List (κ×V))(k:κ)(v:V):List (κ×V) :=
 if (ao.any λcK=>decide (cK.1=k))=true then ao.map (λcK=>if cK.1=k then(cK.1,v) else cK) else ao++[(k,v)]
def Cw{p:κ×V}{r:List (κ×V)}{k:κ}(e:p.1=k):gX (p::r) k=some p.2:=by simp[gX,List.find?_cons,e]
def Cv{p:κ×V}{r:List (κ×V)}{k:κ}(e:¬p.1=k):gX (p::r) k=gX r k:=by simp[gX,List.find?_cons,e]
theorem J7(k:κ):∀ao:List (κ×V),(ao.any λcK=>decide (cK.1=k))=(gX ao k).isSome
 |[]=>rfl
 |p::r=>by
  rw[List.any_cons]
  by_cases e:p.1=k
  .simp only[Cw e,decide_eq_true e,Bool.true_or,Option.isSome_some]
  .rw[Cv e,decide_eq_false e,Bool.false_or];exact J7 k r
def AH(ao:List (κ×V))(k:κ)(v:V):(putK ao k v).length<=ao.length+1:=by
 unfold putK
 split
 .rw[List.length_map];omega
 .rw[aa7,List.length_cons,List.length_nil];omega
def iF.RR{o:Option V}{u:Option Value}(r:iF o u):o.isSome=u.isSome:=by
 cases o with
 |none=>cases u with
  |none=>rfl
  |some _=>exact(show False from r).elim
 |some _=>cases u with
  |none=>exact(show False from r).elim
  |some _=>rfl
theorem iF.getD{o:Option V}{u:Option Value}{d:V}{d':Value}(r:iF o u)(cZ:RelV d d'):RelV (o.getD d) (u.getD d'):=by
 cases o with
 |none=>cases u with
  |none=>exact cZ
  |some _=>exact(show False from r).elim
 |some _=>cases u with
  |none=>exact(show False from r).elim
  |some _=>exact r
def eT.val{ao:List (κ×V)}{ah:List (κ×Value)}(r:eT ao ah)(k:κ):iF (gX ao k) (valueAt ah k):=by
 unfold eT at r
 induction r with
 |nil=>exact True.intro
 |@cons p q aY hi h t aG =>
  obtain⟨J,aa⟩:=h
  by_cases e:p.1=k
  .have bq:q.1=k:=J.symm.trans e;have b:valueAt (q::hi) k=some q.2:=(by simp[valueAt,List.find?_cons,bq]);rw[Cw e,b];exact aa
  .have bq:¬q.1=k:=λz=>e (J.trans z)
   have b:valueAt (q::hi) k=valueAt hi k:=(by simp[valueAt,List.find?_cons,bq]);rw[Cv e,b];exact aG
theorem eT.any{ao:List (κ×V)}{ah:List (κ×Value)}(r:eT ao ah)(k:κ):(ao.any λcK=>decide (cK.1=k))=ah.any λcK=>decide (cK.1=k):=by
 unfold eT at r
 induction r with
 |nil=>rfl
 |cons h t aG=>rw[List.any_cons,List.any_cons,aG,h.1]
def eT.Bx{ao:List (κ×V)}{ah:List (κ×Value)}(r:eT ao ah)(k:κ){y:V}{u:Value}(bM:RelV y u):
  eT (ao.map λcK=>if cK.1=k then(cK.1,y) else cK) (ah.map λcK=>if cK.1=k then(cK.1,u) else cK):=by
 unfold eT at r ⊢
 induction r with
 |nil=>exact .nil
 |@cons p q aY hi h t aG =>
  rw[List.map_cons,List.map_cons];refine .cons ?_ aG;obtain⟨J,aa⟩:=h
  by_cases e:p.1=k
  .rw[if_pos e,if_pos (J.symm.trans e)];exact⟨J,bM⟩
  .rw[if_neg e,if_neg (λz=>e (J.trans z))];exact⟨J,aa⟩
def eT.put{ao:List (κ×V)}{ah:List (κ×Value)}(r:eT ao ah)(k:κ){y:V}{u:Value}(bM:RelV y u):eT (putK ao k y) (stored ah k u):=by
 unfold putK stored;rw[r.any k]
 by_cases e:(ah.any λcK=>decide (cK.1=k))=true
 .rw[if_pos e,if_pos e];exact r.Bx k bM
 .rw[if_neg e,if_neg e];exact Paired.snoc r ⟨rfl,bM⟩
theorem eT.length{ao:List (κ×V)}{ah:List (κ×Value)}(r:eT ao ah):ao.length=ah.length:=Paired.length r
end
def sN{P:Program}{w:World}{k:Key}{u:Value}(r:RelV (dc k) u):(gT P w).is k u=true:=by
 cases k with
 |inl i=>obtain⟨t,e⟩:=(show ∃t,u=Value.int i t from r);subst e;exact To P w i t
 |inr x=>obtain⟨t,e⟩:=(show ∃t,u=Value.str x t from r);subst e;exact Tp P w x t
theorem sM{P:Program}{w:World}:∀{au:List Key}{us:List Value},Vals (au.map dc) us->ItemsAre (gT P w) au us
 |[],_,r=>by rw[ac4]at r;cases r;exact .nil
 |k::au,_,r=>by
  rw[List.map_cons]at r;cases r with
  |cons h t=>exact .cons (sN h) (sM t)
noncomputable abbrev KT(H:aD):List (List Key×V)->List (List Key×Addr×Value)->Prop:=Paired λp q=>p.1=q.1/\H q.2.1=some (.tup (p.1.map dc))/\RelV p.2 q.2.2
def KT.val{H:aD}{ao:List (List Key×V)}{xs:List (List Key×Addr×Value)}(r:KT H ao xs)(k:List Key):iF (gX ao k) ((atKey xs k).map (·.2)):=by
 induction r with
 |nil=>exact True.intro
 |@cons p q aY hi h t aG =>
  obtain⟨J,_,aa⟩:=h
  by_cases e:p.1=k
  .have bq:q.1=k:=J.symm.trans e;have b:atKey (q::hi) k=some q.2:=(by simp[atKey,List.find?_cons,bq]);rw[Cw e,b];exact aa
  .have bq:¬q.1=k:=λz=>e (J.trans z)
   have b:atKey (q::hi) k=atKey hi k:=(by simp[atKey,List.find?_cons,bq]);rw[Cv e,b];exact aG
def KT.Bx{H:aD}{ao:List (List Key×V)}{xs:List (List Key×Addr×Value)}(r:KT H ao xs)(k:List Key){y:V}{u:Value}(bM:RelV y u):
  KT H (ao.map λcK=>if cK.1=k then(cK.1,y) else cK) (xs.map (putAt k u)):=by
 induction r with
 |nil=>exact .nil
 |@cons p q aY hi h t aG =>
  rw[List.map_cons,List.map_cons];refine .cons ?_ aG;obtain⟨J,aa,aE⟩:=h;unfold putAt
  by_cases e:p.1=k
  .rw[if_pos e,if_pos (J.symm.trans e)];exact⟨J,aa,bM⟩
  .rw[if_neg e,if_neg (λz=>e (J.trans z))];exact⟨J,aa,aE⟩
def KT.put{H:aD}{ao:List (List Key×V)}{xs:List (List Key×Addr×Value)}(r:KT H ao xs)(k:List Key){b:Addr}{y:V}{u:Value}(ae:H b=some (.tup (k.map dc)))(bM:RelV y u):
  KT H (putK ao k y) (storedH xs k b u):=by
 have e:(ao.any λcK=>decide (cK.1=k))=(atKey xs k).isSome:=by
  rw[J7,(r.val k).RR,Option.isSome_map]
 unfold putK storedH;rw[e]
 by_cases q:(atKey xs k).isSome=true
 .rw[if_pos q,if_pos q];exact r.Bx k bM
 .rw[if_neg q,if_neg q];exact Paired.snoc r ⟨rfl,ae,bM⟩
def KT.keeps{H aq:aD}{ao:List (List Key×V)}{xs:List (List Key×Addr×Value)}(r:KT H ao xs)(aA:∀b ys,H b=some (.tup ys)->aq b=some (.tup ys)):KT aq ao xs :=
 Paired.AR r λ_ _ z=>⟨z.1,aA _ _ z.2.1,z.2.2⟩
section
variable{P:Program}{w:World}{H:aD}{h:Heap}{a:Addr}
def HS{u:e3}(ok:ea P w H h)(e:gO H a u):d1 P w H h a u:=e.ok ok
def rH{ao:List (Key×V)}(ok:ea P w H h)(e:gO H a (.dS ao)):ao.length<=sizeLine/\(a==sysModules)=false/\∃ah,eT ao ah/\h.DictOf (gT P w) a ah :=
 show d1 P w H h a (.dS ao) from HS ok e
def D4{ao:List (Key×V)}(ok:ea P w H h)(e:H a=some (.dS ao)):ao.length<=sizeLine/\(a==sysModules)=false/\∃ah,eT ao ah/\h.DictOf (gT P w) a ah:=rH ok (.inl e)
def vE{au:List Key}(ok:ea P w H h)(e:H a=some (.tup (au.map dc))):(tupleKind (gT P w)).is h au a:=by
 obtain⟨_,its,r,o,J,aa,n,aE⟩:=(show d1 P w H h a (.tup (au.map dc)) from ok a _ e);exact⟨o,its.toArray,n,J,aa,aE,by simpa using sM r⟩
def rN{ao:List (List Key×V)}(ok:ea P w H h)(e:gO H a (.di ao)):ao.length<=sizeLine/\(a==sysModules)=false /\
  ∃xs,KT H ao xs/\h.DictOfH (tupleKind (gT P w)) a xs:=by
 obtain⟨z,y,xs,r,o,aj,a6,J,aa,aE,aR,bX⟩:=(show d1 P w H h a (.di ao) from HS ok e);refine⟨z,y,xs,r,o,aj,a6,J,aa,aE,aR,λx ak=>?_,bX⟩;have all:∀{l:List (List Key×V)}{m:List (List Key×Addr×Value)},KT H l m->∀x∈m,(tupleKind (gT P w)).is h x.1 x.2.1:=by
  intro l m q
  induction q with
  |nil=>intro x ak;exact nomatch ak
  |@cons p q aY hi aN t aG =>
   intro x ak;rcases aa8.mp ak with e|ak
   .subst e;exact vE ok (by rw[<- aN.1];exact aN.2.1)
   .exact aG x ak
 exact all r x ak
def NL{ao:List (List Key×V)}(ok:ea P w H h)(e:H a=some (.di ao)):ao.length<=sizeLine/\(a==sysModules)=false /\
  ∃xs,KT H ao xs/\h.DictOfH (tupleKind (gT P w)) a xs:=rN ok (.inl e)
end
def mi(H:aD)(a:Addr)(y:V)(r:Option V):Prop :=
 (∃ao k,gO H a (.dS ao)/\y=dc k/\r=gX ao k)\/∃ao k b,gO H a (.di ao)/\y=.ref b/\H b=some (.tup (k.map dc))/\r=gX ao k
def iD(H:aD)(a:Addr)(y v:V)(aq:aD):Prop :=
 (∃ao k,H a=some (.dS ao)/\y=dc k/\ao.length<sizeLine/\aq=upd H a (.dS (putK ao k v))) \/
 ∃ao k b,H a=some (.di ao)/\y=.ref b/\H b=some (.tup (k.map dc))/\ao.length<sizeLine/\aq=upd H a (.di (putK ao k v))
def mi.t{H:aD}{a b:Addr}{ao:List (List Key×V)}{k:List Key}(e:H a=some (.di ao))(eu:H b=some (.tup (k.map dc))):mi H a (.ref b) (gX ao k):=.inr ⟨ao,k,b,.inl e,rfl,eu,rfl⟩
theorem iD.k{H:aD}{a:Addr}{ao:List (Key×V)}{k:Key}{v:V}(e:H a=some (.dS ao))(az:ao.length<sizeLine):iD H a (dc k) v (upd H a (.dS (putK ao k v))):=.inl ⟨ao,k,e,rfl,az,rfl⟩
def iD.t{H:aD}{a b:Addr}{ao:List (List Key×V)}{k:List Key}{v:V}(e:H a=some (.di ao))(eu:H b=some (.tup (k.map dc)))(az:ao.length<sizeLine):
  iD H a (.ref b) v (upd H a (.di (putK ao k v))):=.inr ⟨ao,k,b,e,rfl,eu,az,rfl⟩
section
variable{X:a4}{pins:List (Addr×Obj)}{σ:St}{H:aD}{s:Shared}{a:Addr}{y v:V}{u r:Value}{o:Option V}{A:Around}{E:Value->Shared->Prop}
def Inv.big(I:Inv X pins σ H s):sysModules<s.heap.objs.size:=by
 have h:mainGlobals<s.heap.objs.size:=(I.mod.glob.keeps I.hu).lt;exact Nat.lt_trans (by decide) h
def Nt{Q:Value->Shared->Prop}(bh:A.units+1<cLine)(I:Inv X pins σ H s)(g:mi H a y (some v))(bM:RelV y u)(h:∀gM s',Inv X pins σ H s'->RelV v gM->Q gM s'):
  wpAny (model X.prog X.w) A (getItem (.ref a) u) Q E s:=by
 rcases g with⟨ao,k,e,fU,l⟩|⟨ao,k,b,e,fU,eu,l⟩
 .subst fU;obtain⟨z,hd,ah,rel,dd⟩:=rH I.bx e;obtain⟨gM,hw,h7⟩:=iF.some_of (v:=v) (o:=valueAt ah k) (by rw[l];exact rel.val k);exact wpAny_getItem_of (sN bM) dd.mapOf hw (h gM _ (I.tok _) h7)
 .subst fU;cases (show u=Value.ref b from bM);obtain⟨z,hd,xs,rel,dd⟩:=rN I.bx e;obtain⟨gM,hw,h7⟩:=iF.some_of (v:=v) (o:=(atKey xs k).map (·.2)) (by rw[l];exact rel.val k);obtain⟨p,aB,Q5⟩:=Option.map_eq_some_iff.mp hw;refine wpAny_getItem_heap (aek bh) (vE I.bx eu) dd aB ?_;rw[Q5];exact h gM _ (I.tok _) h7
def yM{h':Heap}{t':Nat}{bQ:e3}(I:Inv X pins σ H s)(mu:q9 (H a))(af:Heap.SameBut a s.heap h')(he:∃q,h'.get? a=some q)(new:d1 X.prog X.w (upd H a bQ) h' a bQ):
  Inv X pins σ (upd H a bQ) { s with heap:=h',toks:=t' } :=
 I.write (x:=a) (e:=a) mu (.inl rfl) (λb q ae z=>(af.2 b ae).trans z) he new
def D3{P:Program}{w:World}{aq:aD}{h':Heap}{ao:List (Key×V)}{ah:List (Key×Value)}(z:ao.length<=sizeLine)(hd:(a==sysModules)=false)(rel:eT ao ah)(dd:h'.DictOf (gT P w) a ah):
  d1 P w aq h' a (.dS ao):=⟨z,hd,ah,rel,dd⟩
def Nw{aq:aD}{Q:Unit->Shared->Prop}(bh:A.units+1<cLine)(I:Inv X pins σ H s)(g:iD H a y v aq)(bM:RelV y u)(br:RelV v r)(h:∀s',Inv X pins σ aq s'->Q () s'):
  wpAny (model X.prog X.w) A (setItem (.ref a) u r) Q E s:=by
 rcases g with⟨ao,k,e,fU,l,rP⟩|⟨ao,k,b,e,fU,eu,l,rP⟩
 .subst fU rP;obtain⟨z,hd,ah,rel,dd⟩:=D4 I.bx e;have hz:ah.length<=sizeLine:=(by rw[<- rel.length];exact z);have az:(putK ao k v).length<=sizeLine:=(by have:=AH ao k v;omega);refine wpAny_setItem_pairs (hsz:=hz) (sN bM) dd λh' mL af=>h _ ?_
  have he:∃q,h'.get? a=some q:=let ⟨q,_,_,aN,_⟩:=mL;⟨q,aN⟩
  exact yM I (by rw[e];exact True.intro) af he (D3 az hd (rel.put k br) mL)
 .subst fU rP;cases (show u=Value.ref b from bM);obtain⟨z,hd,xs,rel,dd⟩:=NL I.bx e;have hz:xs.length<=sizeLine:=(by rw[<- Paired.length rel];exact z);have az:(putK ao k v).length<=sizeLine:=(by have:=AH ao k v;omega);refine wpAny_setItem_heap (hsz:=hz) (aek bh) (vE I.bx eu) dd λh' mL af=>h _ ?_
  obtain⟨q,aj,a6,aN,aa,aE,aR,_,bX⟩:=mL;refine yM I (by rw[e];exact True.intro) af ⟨q,aN⟩ ⟨az,hd,_,(rel.put k eu br).keeps λc ys jJ=>?_,q,aj,a6,aN,aa,aE,aR,bX⟩;rw[cR (TG jJ e (λz=>nomatch z))];exact jJ
end
section
variable{X:a4}{pins:List (Addr×Obj)}{σ:St}{H:aD}{s:Shared}{a:Addr}{ao:List (Key×V)}{k:Key}{u:Value}{A:Around}{E:Value->Shared->Prop}
end
def CQ(i:Expr):Prop:=∀nj kG,subscripted i false nj kG=operate [nj,kG] (getItem nj kG)
def XM{prog:Program}{w:World}{A:Around}{E:Value->Shared->Prop}{s:Shared}{env:Env}{value slice:Expr}{pos:Pos}{T id:String}{Q:Value->Shared->Prop}(az:typeLookup (.type T) "__getitem__"=pure (some (.builtin id)))(af:CQ slice)(h:wpAny (model prog w) A (eval value env) (λo cO=>wpAny (model prog w) A (eval slice env) (λi gr=>gr.TypeIs o T/\wpAny (model prog w) A (getItem o i) Q E gr) E cO) E s):
  wpAny (model prog w) A (eval (.Subscript value slice pos) env) Q E s:=by
 refine Subscript_ (abR h (λo cO hE=>abR hE (λi gr sE=>?_) λ_ _ x=>x) λ_ _ x=>x);obtain⟨cG,sE⟩:=sE;unfold subscriptTail;refine aa2 ?_;rw[getitemInPython_of_ne cG.not_modules];refine aa2 (aeR cG az ?_);have fin:wpAny (model prog w) A (subscripted slice false o i) (λr qL=>wpAny (model prog w) A (letTemporaryGo value o r>>=λ_=>pure r) Q E qL) E gr:=by
  rw[af o i];exact wpAny_operating (abR sE (λr qL vw=>aa2 (wpAny_letTemporaryGo (aa4 vw))) λ_ _ x=>x)
 first
  |exact aa4 (aa2 fin)
  |exact aa2 (aa4 (aa2 fin))
  |exact aa2 fin
def NC{X:a4}{pins:List (Addr×Obj)}{σ:St}{H:aD}{s:Shared}{a:Addr}{y:V}{o:Option V}(I:Inv X pins σ H s)(g:mi H a y o):s.TypeIs (.ref a) "dict":=by
 rcases g with⟨ao,k,e,_,_⟩|⟨ao,k,b,e,_,_,_⟩
 .obtain⟨_,_,ah,_,dd⟩:=rH I.bx e;exact dd.typeIs
 .obtain⟨_,_,xs,_,dd⟩:=rN I.bx e;exact dd.typeIs
noncomputable def wG(iV ty:TE):TE:=λσ H Q=>iV σ H λx H1=>ty σ H1 λy aU=>∃a v,x=.ref a/\mi aU a y (some v)/\Q v aU
noncomputable def Wf(iV ty k8:TE):gb:=λD σ H=>k8 σ H λv H1=>iV σ H1 λx aU=>ty σ aU λy bt=>∃a fR,x=.ref a/\iD bt a y v fR/\D.bD σ fR
section
variable{X:a4}{o i e value:Expr}{pos pos' YZ:Pos}{iV ty k8:TE}
def UA(bh:X.A.units+1<cLine)(ay:aQ X o iV)(ai:aQ X i ty)(af:CQ i):aQ X (.Subscript o i pos) (wG iV ty):=by
 intro pins s σ H Q I h;refine XM PySem.F.slot_dict_getitem.lookup af (bR (ay pins s σ H _ I h) λu s1 ⟨x,H1,a5,bc,aO⟩=>bR (ai pins s1 σ H1 _ a5 aO) λkG s2 ⟨y,aU,ck,bM,a,v,ex,g,a9⟩=>?_);subst ex;obtain rfl:u=Value.ref a:=bc;exact⟨NC ck g,Nt bh ck g bM λgM s3 eA h7=>⟨v,aU,eA,h7,a9⟩⟩
def Vk(bh:X.A.units+1<cLine)(ay:aQ X o iV)(ai:aQ X i ty)(aK:aQ X value k8)(af:swapsWith value (some (.Subscript o i pos')) pos.line X.env=pure false):
  dg X (.Assign [.Subscript o i pos'] value pos) (Wf iV ty k8):=by
 intro pins s σ H D I h;refine wpAny_Assign_Subscript (bR (aK pins s σ H _ I h) λr s1 ⟨v,H1,a5,br,aO⟩=>bR (ay pins s1 σ H1 _ a5 aO) λu s2 ⟨x,aU,ck,bc,a9⟩=>bR (ai pins s2 σ aU _ ck a9) λkG s3 ⟨y,bt,eA,bM,a,fR,ex,g,bW⟩=>?_) af;subst ex;obtain rfl:u=Value.ref a:=bc;exact Nw bh eA g bM br λs4 f6=>⟨σ,fR,f6,bW⟩
end
def D1{P:Program}{w:World}{H:aD}(h:Heap)(ae:sysModules<h.objs.size):d1 P w H (h.push { cls:=.type "dict",data:=.dict #[] }) h.objs.size (.dS []) :=
 ⟨abw _,abG.mpr (ab1 (abm ae)),[],.nil,Heap.DictOf.new h⟩
def NK{P:Program}{w:World}{H:aD}(h:Heap)(ae:sysModules<h.objs.size):d1 P w H (h.push { cls:=.type "dict",data:=.dict #[] }) h.objs.size (.di []) :=
 ⟨abw _,abG.mpr (ab1 (abm ae)),[],.nil,_,#[],0,abd _ rfl,⟨rfl,rfl,rfl⟩,rfl,rfl,adn⟩
noncomputable def XY:TE:=λ_ H Q=>∀p,H p=none->Q (.ref p) (upd H p (.dS []))
noncomputable def XZ:TE:=λ_ H Q=>∀p,H p=none->Q (.ref p) (upd H p (.di []))
section
variable{X:a4}{pos:Pos}
def Hs:aQ X (.Dict [] [] pos) XY:=λpins s σ H Q I h =>
 wpAny_Dict_empty ⟨.ref s.heap.objs.size,_,I.laid (a:=s.heap.objs.size) (o:=.dS []) (t':=s.toks) (λ_ _ q=>aa5 _ q) (aa9 _) (D1 s.heap I.big),rfl,h _ (I.bx.fresh (aa9 _))⟩
def Ht:aQ X (.Dict [] [] pos) XZ:=λpins s σ H Q I h =>
 wpAny_Dict_empty ⟨.ref s.heap.objs.size,_,I.laid (a:=s.heap.objs.size) (o:=.di []) (t':=s.toks) (λ_ _ q=>aa5 _ q) (aa9 _) (NK s.heap I.big),rfl,h _ (I.bx.fresh (aa9 _))⟩
end
noncomputable def B7:List (TE×TE)->St->aD->(List (V×V)->aD->Prop)->Prop
 |[],_,H,Q=>Q [] H
 |(tk,k8)::r,σ,H,Q=>tk σ H λx H1=>k8 σ H1 λy aU=>B7 r σ aU λaY bt=>Q ((x,y)::aY) bt
noncomputable abbrev CT:List (V×V)->List (Value×Value)->Prop:=Paired λp q=>RelV p.1 q.1/\RelV p.2 q.2
def uk(X:a4)(pos:Pos)(keys:List (Option Expr))(values:List Expr)(mc:List (TE×TE)):Prop :=
 ∀(pins:List (Addr×Obj))(s:Shared)(σ:St)(H:aD)(Q:List (V×V)->aD->Prop),Inv X pins σ H s->B7 mc σ H Q ->
  wpAny (model X.prog X.w) X.A (evalPairs (pairTrees keys values X.env pos)) (λah s'=>∃aY aq,Inv X pins σ aq s'/\CT aY ah/\Q aY aq) X.cb s
def Va{X:a4}{pos:Pos}:uk X pos [] [] []:=λpins s σ H Q I h=>pairTrees_nil_walk ⟨[],H,I,.nil,h⟩
def U9{X:a4}{pos:Pos}{k v:Expr}{au:List (Option Expr)}{ah:List Expr}{tk k8:TE}{mc:List (TE×TE)}(ax:aQ X k tk)(aK:aQ X v k8)(a3:uk X pos au ah mc):
  uk X pos (some k::au) (v::ah) ((tk,k8)::mc):=λpins s σ H Q I h =>
 pairTrees_cons_walk (bR (ax pins s σ H _ I h) λu s1 ⟨x,H1,a5,bc,aO⟩=>bR (aK pins s1 σ H1 _ a5 aO) λj0 s2 ⟨y,aU,ck,bM,a9⟩ =>
  bR (a3 pins s2 σ aU _ ck a9) λws s3 ⟨aY,bt,eA,rel,bW⟩=>⟨(x,y)::aY,bt,eA,.cons ⟨bc,bM⟩ rel,bW⟩)
noncomputable def qn(ao more:List (Key×V)):List (Key×V):=more.foldl (λacc cK=>putK acc cK.1 cK.2) ao
def eT.merge:∀{more:List (Key×V)}{rs:List (Key×Value)}{ao:List (Key×V)}{ah:List (Key×Value)},eT more rs->eT ao ah->eT (qn ao more) (merged ah rs):=by
 intro more rs ao ah r;unfold eT at r
 induction r generalizing ao ah with
 |nil=>intro q;exact q
 |@cons p q aY hi h t aG =>
  intro fP;have e:eT (putK ao p.1 p.2) (stored ah q.1 q.2):=by
   have:=fP.put p.1 h.2;rw[<- h.1];exact this
  exact aG e
theorem Gk:∀(more ao:List (Key×V)),(qn ao more).length<=ao.length+more.length
 |[],ao=>by show ao.length<=ao.length+0;omega
 |p::r,ao=>by
  have J:=Gk r (putK ao p.1 p.2);have aa:=AH ao p.1 p.2;show(qn (putK ao p.1 p.2) r).length<=_;rw[List.length_cons];omega
theorem Du{P:Program}{w:World}:∀{ao:List (Key×V)}{ws:List (Value×Value)},CT (ao.map λcK=>(dc cK.1,cK.2)) ws->∃rs,Carries (gT P w) ws rs/\eT ao rs
 |[],_,r=>by rw[ac4]at r;cases r;exact⟨[],True.intro,.nil⟩
 |p::ao,_,r=>by
  rw[List.map_cons]at r;cases r with
  |@cons a b as bs h t =>
   obtain⟨rs,c,q⟩:=Du (P:=P) (w:=w) t;obtain⟨b1,b2⟩:=b;exact⟨(p.1,b2)::rs,⟨sN h.1,rfl,c⟩,.cons ⟨rfl,h.2⟩ q⟩
noncomputable def X0(mc:List (TE×TE)):TE:=λσ H Q=>∀p,H p=none->B7 mc σ (upd H p (.dS [])) λaY aU=>aU p=some (.dS [])/\∃ao:List (Key×V),aY=ao.map (λcK=>(dc cK.1,cK.2))/\ao.length<=15/\Q (.ref p) (upd aU p (.dS (qn [] ao)))
def UC{X:a4}{pos:Pos}{keys:List (Option Expr)}{values:List Expr}{mc:List (TE×TE)}(h:uk X pos keys values mc)(fz:keys.all (·.isSome)=true)(az:keys.length=values.length)(h0:keys≠[])(PT:keys.length<=15):aQ X (.Dict keys values pos) (X0 mc):=by
 intro pins s σ H Q I q;have aC:=I.bx.fresh (aa9 s.heap.objs.size);have a5:=I.laid (a:=s.heap.objs.size) (o:=.dS []) (h':=s.heap.push { cls:=.type "dict",data:=.dict #[] }) (t':=s.toks) (λ_ _ q=>aa5 _ q) (aa9 _) (D1 s.heap I.big);refine wpAny_Dict_walk (knd:=gT X.prog X.w) fz az h0 PT (bR (h pins _ σ _ _ a5 (q _ aC)) λws s2 ⟨aY,aU,ck,rel,e,ao,a6,lk,a9⟩=>?_);subst a6;obtain⟨rs,c,eI⟩:=Du (P:=X.prog) (w:=X.w) rel;obtain⟨z,hd,aaZ,fP,dd⟩:=D4 ck.bx e;cases fP;refine⟨rs,c,dd,λh' mL af=>⟨.ref s.heap.objs.size,_,?_,rfl,a9⟩⟩;have hz:(qn [] ao).length<=sizeLine:=by
  have J:=Gk ao [];rw[List.length_nil]at J;rw[sizeLine_eq];omega
 have he:∃q,h'.get? s.heap.objs.size=some q:=let ⟨q,_,_,aN,_⟩:=mL;⟨q,aN⟩
 exact yM ck (by rw[e];exact True.intro) af he (D3 hz hd (eI.merge .nil) mL)
structure ZN(X:a4)(o:Expr)(m:Str)(apos:Pos)(e:Expr)(e6:Pos):Prop where
 base:attributeBase o m X.env (eval o X.env)=eval o X.env
 zh:((backTo e6 (starEach [e] X.env)).all (λx=>!x.1)&&(backToKw e6 (keywordEach [] X.env)).all (λx=>x.1.isSome)
  && decide (([e]:List Expr).length+([]:List Keyword).length+(if ([]:List Keyword).isEmpty then 0 else 1)<30))=true
 line:(apos.endLine==e6.line)=true
 trees:backTo e6 (starEach [e] X.env)=[(false,eval e X.env)]
structure M2(X:a4)(o:Expr)(m:Str)(apos:Pos)(e f:Expr)(e6:Pos):Prop where
 base:attributeBase o m X.env (eval o X.env)=eval o X.env
 zh:((backTo e6 (starEach [e,f] X.env)).all (λx=>!x.1)&&(backToKw e6 (keywordEach [] X.env)).all (λx=>x.1.isSome)
  && decide (([e,f]:List Expr).length+([]:List Keyword).length+(if ([]:List Keyword).isEmpty then 0 else 1)<30))=true
 line:(apos.endLine==e6.line)=true
 trees:backTo e6 (starEach [e,f] X.env)=[(false,eval e X.env),(false,eval f X.env)]
def CK(H:aD)(a:Addr):Prop:=(∃ao,gO H a (.dS ao))\/∃ao,gO H a (.di ao)
def RQ{X:a4}{pins:List (Addr×Obj)}{σ:St}{H:aD}{s:Shared}{a:Addr}(I:Inv X pins σ H s)(d:CK H a):
  s.TypeIs (.ref a) "dict"/\(∀b,Value.ref a=.ref b->∃bQ,s.heap.get? b=some bQ/\bQ.dict=none)/\(a==sysModules)=false:=by
 rcases d with⟨ao,e⟩|⟨ao,e⟩
 .obtain⟨_,hd,ah,_,dd⟩:=rH I.bx e;refine⟨dd.typeIs,λb q=>?_,hd⟩;cases q;obtain⟨bQ,_,_,J,aa,_⟩:=dd;exact⟨bQ,J,aa.2.1⟩
 .obtain⟨_,hd,xs,_,dd⟩:=rN I.bx e;refine⟨dd.typeIs,λb q=>?_,hd⟩;cases q;obtain⟨bQ,_,_,J,aa,_⟩:=dd;exact⟨bQ,J,aa.2.1⟩
section
variable{X:a4}{pins:List (Addr×Obj)}{σ:St}{H:aD}{s:Shared}{a:Addr}{y d:V}{u r:Value}{o:Option V}{A:Around}{E:Value->Shared->Prop}
def Nr{Q:Value->Shared->Prop}(bh:A.units+1<cLine)(I:Inv X pins σ H s)(g:mi H a y o)(bM:RelV y u)(cZ:RelV d r)(h:∀gM s',Inv X pins σ H s'->RelV (o.getD d) gM->Q gM s'):
  wpAny (model X.prog X.w) A (call (.builtin "dict.get") [.ref a,u,r]) Q E s:=by
 rcases g with⟨ao,k,e,fU,l⟩|⟨ao,k,b,e,fU,eu,l⟩
 .subst fU;obtain⟨z,hd,ah,rel,dd⟩:=rH I.bx e;refine call_meetsIn adN dd.typeIs aeP (aeF _ _ _) (meets_dict_get_default (gT X.prog X.w) a (sN bM) hd r) ⟨_,dd.mapOf,h _ _ (I.tok _) ?_⟩;rw[l];exact(rel.val k).getD cZ
 .subst fU;cases (show u=Value.ref b from bM);obtain⟨z,hd,xs,rel,dd⟩:=rN I.bx e;refine call_meetsIn adN dd.typeIs aeP (aeF _ _ _) (meetsH_dict_get_default (tupleKind (gT X.prog X.w)) a b hd r) ⟨aek bh,k,xs,vE I.bx eu,dd,h _ _ (I.tok _) ?_⟩;rw[l];exact(rel.val k).getD cZ
end
noncomputable def XX(iV ty wL:TE):TE:=λσ H Q=>iV σ H λx H1=>∃a,x=.ref a/\CK H1 a/\ty σ H1 λy aU=>wL σ aU λz bt=>∃o,mi bt a y o/\Q (o.getD z) bt
section
variable{X:a4}{o e f:Expr}{apos e6:Pos}{iV ty wL:TE}
def UB(bh:X.A.units+1<cLine)(ay:aQ X o iV)(he:aQ X e ty)(hf:aQ X f wL)(m:M2 X o "get" apos e f e6):aQ X (.Call (.Attribute o "get" apos) [e,f] [] e6) (XX iV ty wL):=by
 intro pins s σ H Q I h;refine wpAny_Call_method m.base m.zh m.line PySem.F.plainAttrs_dict adN PySem.F.type_dict_get (bR (ay pins s σ H _ I h) λu s1 ⟨x,H1,a5,bc,a,ex,d,aO⟩=>?_);subst ex;obtain rfl:u=Value.ref a:=bc;obtain⟨t1,eJ,_⟩:=RQ a5 d;refine⟨t1,eJ,?_⟩;rw[m.trees];refine adE rfl (ad8 (acI (bR (he pins s1 σ H1 _ a5 aO) λkG s2 ⟨y,aU,ck,bM,a9⟩ =>
  acI (bR (hf pins s2 σ aU _ ck a9) λZ3 s3 ⟨z,bt,eA,Wc,nj,g,bW⟩=>adi ?_))))
 exact Nr bh eA g bM Wc λgM s4 f6 h7=>⟨_,bt,f6,h7,bW⟩
end
section
variable{X:a4}{pins:List (Addr×Obj)}{σ:St}{H:aD}{s:Shared}{a:Addr}{ao:List (Key×V)}{A:Around}{E:Value->Shared->Prop}
end
section
variable{X:a4}{pins:List (Addr×Obj)}{σ:St}{H:aD}{s:Shared}{a:Addr}{y:V}{u:Value}{A:Around}{E:Value->Shared->Prop}
end
end bu
end
set_option autoImplicit true
set_option linter.all false
set_option maxRecDepth 100000
set_option maxHeartbeats 8000000
local macro_rules|`(tactic|lia)=>`(tactic|first | decide | assumption | exact Nat.le_trans (by assumption) (by decide) | exact Nat.lt_succ_of_le (by assumption) | exact Nat.le_of_succ_le_succ (by assumption) | exact Nat.le_succ_of_le (by assumption) | exact Nat.le_of_lt (by assumption) | exact Nat.not_le.mp (by assumption) | exact Nat.not_lt.mp (by assumption) | exact Int.le_trans (by assumption) (by decide)|lia -verbose)
local macro_rules|`(⋯)=>`(by lia)
local macro_rules|`(∅)=>`(by decide)
section
namespace Den
open PySem
inductive R(α:Type) where
 |ok (a:α)
 |exc (c:Nat)
 |bad
def R.bind{α β:Type}:R α->(α->R β)->R β
 |.ok a,f=>f a
 |.exc c,_=>.exc c
 |.bad,_=>.bad
noncomputable instance:Monad R where
 pure:=R.ok
 bind:=R.bind
def ba{α:Type}{a b:α}(h:a=b):a=b:=h
@[simp] theorem R.jn {α β:Type} (a) (f:α->R β):(R.ok a>>=f)=f a:=ba rfl
@[simp] theorem R.ON {α β:Type} (c) (f:α->R β):(R.exc c>>=f)=R.exc c:=ba rfl
@[simp] theorem R.ZV {α β:Type} (f:α->R β):(R.bad>>=f)=R.bad:=ba rfl
@[simp] theorem R.aaQ {α:Type} (a):(pure a:R α)=R.ok a:=rfl
inductive D where
 |dV
 |aV (b:Bool)
 |int (i:Int)
 |str (x:Str)
 |tup (xs:List D)
 |lst (xs:List D)
 |b4 (ao:List (List Int×Int))
 |bK (ao:List (Int×Int×Int))
 |dR (ao:List (List Int×List (List Int)))
 |hA (c:Nat)
mutual
noncomputable def gf:D->D->Bool
 |.dV,.dV=>true
 |.aV a,.aV b=>a==b
 |.aV a,.int j=>(if a then 1 else 0)==j
 |.int i,.aV b=>i==(if b then 1 else 0)
 |.int i,.int j=>i==j
 |.str x,.str y=>x==y
 |.tup xs,.tup ys=>kl xs ys
 |.lst xs,.lst ys=>kl xs ys
 |_,_=>false
noncomputable def kl:List D->List D->Bool
 |[],[]=>true
 |x::xs,y::ys=>gf x y&&kl xs ys
 |_,_=>false
end
mutual
noncomputable def kM:D->D->Option Bool
 |.int i,.int j=>some (decide (i<j))
 |.tup xs,.tup ys=>kN xs ys
 |_,_=>none
noncomputable def kN:List D->List D->Option Bool
 |[],[]=>some false
 |[],_::_=>some true
 |_::_,[]=>some false
 |x::xs,y::ys=>if gf x y then kN xs ys else kM x y
end
noncomputable def fB:Nat->D->Bool
 |0,.int _=>true
 |n+1,.tup xs=>xs.all (fB n)
 |_,_=>false
noncomputable def p9(x:D):List D->List D
 |[]=>[x]
 |y::ys=>if kM y x=some true then y::p9 x ys else x::y::ys
noncomputable def hk:List D->List D
 |[]=>[]
 |x::xs=>p9 x (hk xs)
noncomputable def lA:List D->List D
 |[]=>[]
 |x::xs=>if xs.any (gf x) then lA xs else x::lA xs
noncomputable def qc:D->Bool
 |.tup (x::xs)=>fB 0 x&&xs.all (fB 0)
 |_=>false
noncomputable def oz:D->Bool
 |.tup (x::xs)=>qc x&&xs.all qc
 |_=>false
noncomputable def h2(xs:List D):Bool:=xs.all (fB 0)||xs.all qc
noncomputable def SZ:Nat:=16777216
noncomputable def g0:Int:=18446744073709551616
noncomputable def sorted(xs:List D):R D:=if (h2 xs||xs.all oz)&&xs.length<=63 then .ok (.lst (hk xs)) else .bad
noncomputable def eP(xs:List D):R D:=if h2 xs&&(lA xs).length<=63 then .ok (.lst (hk (lA xs))) else .bad
inductive Op where
 |add|sub|mul|fdiv|mod|and|xor
inductive q2 where
 |eq|ne|lt|gt|mem|h5
noncomputable def nX(i j:Int):R D:=if 0<=i then(if 0<=j then .ok (.int (i.toNat &&& j.toNat:Nat)) else .ok (.int (i-(i.toNat &&& (-j-1).toNat:Nat)))) else .bad
noncomputable def t2(i j:Int):R D:=if 0<=i/\0<=j then .ok (.int (i.toNat ^^^ j.toNat:Nat)) else .bad
noncomputable def ej:Op->D->D->R D
 |.and,.int i,.int j=>nX i j
 |.xor,.int i,.int j=>t2 i j
 |.add,.int i,.int j=>.ok (.int (i+j))
 |.add,.tup xs,.tup ys=>if xs.length+ys.length<=SZ then .ok (.tup (xs++ys)) else .bad
 |.add,.lst xs,.lst ys=>if xs.length+ys.length<=SZ then .ok (.lst (xs++ys)) else .bad
 |.sub,.int i,.int j=>.ok (.int (i-j))
 |.mul,.int i,.int j=>if (-g0<i/\i<g0)\/(-g0<j/\j<g0) then .ok (.int (i*j)) else .bad
 |.fdiv,.int i,.int j=>if 0<j/\j<1073741824 then .ok (.int (i / j)) else .bad
 |.mod,.int i,.int j=>if 0<j then .ok (.int (i%j)) else .bad
 |_,_,_=>.bad
noncomputable def hI:R Bool->R Bool
 |.ok b=>.ok (!b)
 |.exc c=>.exc c
 |.bad=>.bad
noncomputable def c5:Nat->D->Bool
 |_,.dV=>true
 |_,.aV _=>true
 |_,.int _=>true
 |_,.str x=>x.cps.all (· < 0x110000)
 |n+1,.tup xs=>xs.all (c5 n)
 |n+1,.lst xs=>xs.all (c5 n)
 |_,_=>false
noncomputable def fk(x y:D):R Bool:=if c5 60 x&&c5 60 y then .ok (gf x y) else .bad
noncomputable def memD(x:D)(xs:List D):Bool:=xs.any λy=>gf y x
noncomputable def gG(x:D)(ys:List D):R Bool:=if c5 60 x&&ys.all (c5 60) then .ok (memD x ys) else .bad
noncomputable def A6:Option Bool->R Bool
 |some b=>.ok b
 |none=>.bad
noncomputable def vJ(x y:D):R Bool:=if (fB 0 x&&fB 0 y)||(fB 1 x&&fB 1 y) then A6 (kM x y) else .bad
noncomputable def e5:q2->D->D->R Bool
 |.eq,x,y=>fk x y
 |.ne,x,y=>hI (fk x y)
 |.lt,x,y=>vJ x y
 |.gt,.int i,.int j=>.ok (decide (j<i))
 |.mem,x,.tup ys=>gG x ys
 |.mem,x,.lst ys=>gG x ys
 |.h5,x,.tup ys=>hI (gG x ys)
 |.h5,x,.lst ys=>hI (gG x ys)
 |_,_,_=>.bad
noncomputable def hF(n:Nat)(i:Int):Option Nat:=if 0<=i then(if i<n then some i.toNat else none) else(if 0<=i+n then some (i+n).toNat else none)
def iL{α:Type}(xs:List α)(i:Int):Option α:=(hF xs.length i).bind (xs[·]?)
noncomputable def gD:D->D->R D
 |.tup xs,.int i=>match iL xs i with|some d=>.ok d|none=>.bad
 |.lst xs,.int i=>match iL xs i with|some d=>.ok d|none=>.bad
 |_,_=>.bad
noncomputable def bN(n d:Nat):Option Int->Nat
 |none=>d
 |some i=>if i<0 then(if i+n<0 then 0 else(i+n).toNat) else(if (n:Int)<i then n else i.toNat)
def cut{α:Type}(xs:List α)(lo ai:Option Int):List α:=(xs.drop (bN xs.length 0 lo)).take (bN xs.length xs.length ai-bN xs.length 0 lo)
noncomputable def kX(d:D)(lo ai:Option Int):R D:=match d with
 |.tup xs=>.ok (.tup (cut xs lo ai))
 |.lst xs=>.ok (.lst (cut xs lo ai))
 |_=>.bad
noncomputable def lW:D->R D
 |.tup xs=>.ok (.int xs.length)
 |.lst xs=>.ok (.int xs.length)
 |_=>.bad
inductive Ty where
 |int|bool|str|tuple|cls (c:Nat)
noncomputable abbrev kc:=Nat->List Nat
noncomputable def aav(up:kc)(d:D):Ty->R Bool
 |.int=>.ok (match d with|.int _=>true|.aV _=>true|_=>false)
 |.bool=>.ok (match d with|.aV _=>true|_=>false)
 |.str=>.ok (match d with|.str _=>true|_=>false)
 |.tuple=>.ok (match d with|.tup _=>true|_=>false)
 |.cls c=>match d with|.hA k=>.ok ((up k).contains c)|_=>.bad
noncomputable def en:D->R (List D)
 |.tup xs=>.ok xs
 |.lst xs=>.ok xs
 |_=>.bad
noncomputable def eY(lo ai:Int):List D:=(List.range (ai-lo).toNat).map λk=>.int (lo+(k:Nat))
noncomputable def oU(i:Int):Bool:=decide (-4611686018427387904<=i/\i<4611686018427387904)
noncomputable def kW(i j:Int):R (List D):=if oU i&&oU j&&decide ((j-i).toNat<=1000000) then .ok (eY i j) else .bad
inductive ef where
 |len|sorted|eP|sum|max|all|any
mutual
inductive E where
 |var (i:Nat)
 |lit (d:D)
 |tup (a:A)
 |lst (a:A)
 |bin (op:Op) (a b:E)
 |not (a:E)
 |neg (a:E)
 |cmp (op:q2) (a b:E)
 |and (a b:E)
 |idx (a b:E)
 |ite (c a b:E)
 |slice (a:E) (lo ai:O)
 |call (f:Nat) (a:A)
 |prim (p:ef) (a:E)
 |tupI (s:I)
 |kL (s:I)
 |comp (elt:E) (k:Nat) (s:I) (c:O)
 |ig (i j:Nat)
 |kK (i j:Nat)
 |yO (i j:Nat)
 |pG (i j:Nat)
 |pH
inductive A where
 |nil
 |cons (e:E) (a:A)
inductive O where
 |none
 |some (e:E)
inductive I where
 |seq (e:E)
 |fa (a:E)
 |mM (i:Nat)
end
noncomputable abbrev bw:=List (Option D)
noncomputable abbrev fe:=Nat->List D->R D
noncomputable def gx:Nat->D->R (List (Option D))
 |0,d=>.ok [some d]
 |k,.tup xs=>if xs.length=k then .ok (xs.map some) else .bad
 |_,_=>.bad
noncomputable def cV(f:D->R (Option D)):List D->R (List D)
 |[]=>.ok []
 |d::ds=>f d>>=λo=>cV f ds>>=λr=>match o with|some x=>.ok (x::r)|none=>.ok r
def lZ{α:Type}:R α->R α
 |.exc _=>.bad
 |r=>r
noncomputable def ic:List D->Option (List Bool)
 |[]=>some []
 |.aV b::xs=>(ic xs).map (b::·)
 |_=>none
noncomputable def mA(xs:List D):R Bool:=match ic xs with
 |some bs=>.ok (bs.all id)
 |none=>.bad
noncomputable def mB(xs:List D):R Bool:=match ic xs with
 |some bs=>.ok (bs.any id)
 |none=>.bad
noncomputable def intsOf:List D->Option (List Int)
 |[]=>some []
 |.int i::xs=>(intsOf xs).map (i::·)
 |_=>none
noncomputable def qj:D->R (List D)
 |.lst xs=>.ok xs
 |_=>.bad
noncomputable def jr(xs:List D):R D:=match intsOf xs with
 |some ns=>.ok (.int ns.sum)
 |none=>.bad
noncomputable def kO(xs:List D):R D:=match intsOf xs with
 |some (n::ns)=>.ok (.int (ns.foldl (λm x=>if x>m then x else m) n))
 |_=>.bad
noncomputable def kS(up:kc):ef->D->R D
 |.len,d=>lW d
 |.sorted,d=>en d>>=λxs=>sorted xs
 |.eP,d=>en d>>=λxs=>eP xs
 |.sum,d=>qj d>>=λxs=>jr xs
 |.max,d=>qj d>>=λxs=>kO xs
 |.all,d=>en d>>=λxs=>mA xs>>=λb=>.ok (.aV b)
 |.any,d=>en d>>=λxs=>mB xs>>=λb=>.ok (.aV b)
noncomputable def o7(ao:List (List Int×Int))(k:List Int):Option Int:=(ao.find? λp=>decide (p.1=k)).map (·.2)
noncomputable def putN(ao:List (List Int×Int))(k:List Int)(n:Int):List (List Int×Int):=if (ao.any λp=>decide (p.1=k))=true then ao.map (λp=>if p.1=k then(p.1,n) else p) else ao++[(k,n)]
noncomputable def oV(r:Int×Int):D:=.tup [.int r.1,.int r.2]
noncomputable def nG(ao:List (Int×Int×Int))(k:Int):Option (Int×Int):=(ao.find? λp=>decide (p.1=k)).map (·.2)
noncomputable def l3(ao:List (Int×Int×Int))(k:Int)(r:Int×Int):List (Int×Int×Int):=if (ao.any λp=>decide (p.1=k))=true then ao.map (λp=>if p.1=k then(p.1,r) else p) else ao++[(k,r)]
noncomputable def kj:Option (Option D)->Option (List (List Int×Int))
 |some (some (.b4 ao))=>some ao
 |_=>none
noncomputable def i6:Option (Option D)->Option (List (Int×Int×Int))
 |some (some (.bK ao))=>some ao
 |_=>none
noncomputable def rowOf:D->Option (Int×Int)
 |.tup ds=>(match intsOf ds with|some [a,b]=>some (a,b)|_=>none)
 |_=>none
noncomputable def intD:D->Option Int
 |.int i=>some i
 |_=>none
noncomputable def gK:D->Option (List Int)
 |.tup ds=>intsOf ds
 |_=>none
def eE{α:Type}(f:D->Option α):Option (Option D)->Option α
 |some (some d)=>f d
 |_=>none
noncomputable def n5(cs:List (List Int)):D:=.tup (cs.map λc=>.tup (c.map .int))
noncomputable def tR:List D->Option (List (List Int))
 |[]=>some []
 |x::xs=>(match gK x,tR xs with|some k,some au=>some (k::au)|_,_=>none)
noncomputable def uB:D->Option (List (List Int))
 |.tup xs=>tR xs
 |_=>none
noncomputable def qT(ao:List (List Int×List (List Int)))(k:List Int):Option (List (List Int)):=(ao.find? λp=>decide (p.1=k)).map (·.2)
noncomputable def v7(ao:List (List Int×List (List Int)))(k:List Int)(r:List (List Int)):List (List Int×List (List Int)):=if (ao.any λp=>decide (p.1=k))=true then ao.map (λp=>if p.1=k then(p.1,r) else p) else ao++[(k,r)]
noncomputable def ki:Option (Option D)->Option (List (List Int×List (List Int)))
 |some (some (.dR ao))=>some ao
 |_=>none
noncomputable def yN(o p:Option (Option D)):R D:=match ki o,eE gK p with
 |some ao,some k=>(match qT ao k with|some cs=>.ok (n5 cs)|none=>.bad)
 |_,_=>.bad
noncomputable def lC(o p:Option (Option D)):R D:=match kj o,eE gK p with
 |some ao,some k=>(match o7 ao k with|some n=>.ok (.int n)|none=>.bad)
 |_,_=>(match i6 o,eE intD p with|some ao,some k=>(match nG ao k with|some r=>.ok (oV r)|none=>.bad)|_,_=>yN o p)
noncomputable def uL(o p:Option (Option D))(d:D):R D:=match ki o,eE gK p,uB d with
 |some ao,some k,some cs=>if ao.length<1000 then .ok (.dR (v7 ao k cs)) else .bad
 |_,_,_=>.bad
noncomputable def pI(o p:Option (Option D))(d:D):R D:=match kj o,eE gK p,intD d with
 |some ao,some k,some n=>if ao.length<1000 then .ok (.b4 (putN ao k n)) else .bad
 |_,_,_=>(match i6 o,eE intD p,rowOf d with|some ao,some k,some r=>if ao.length<1000 then .ok (.bK (l3 ao k r)) else .bad|_,_,_=>uL o p d)
noncomputable def rJ(p q:Option (Option D)):R D:=match eE intD p,eE rowOf q with
 |some k,some r=>.ok (.bK [(k,r)])
 |_,_=>.bad
noncomputable def yQ(o:Option (Option D)):R (List D):=match ki o with
 |some ao=>.ok (ao.map λp=>.tup (p.1.map .int))
 |none=>.bad
noncomputable def pF(o:Option (Option D)):R (List D):=match kj o with
 |some ao=>.ok (ao.map λp=>.tup (p.1.map .int))
 |none=>(match i6 o with|some ao=>.ok (ao.map λp=>.int p.1)|none=>yQ o)
noncomputable def uK(o p:Option (Option D)):R D:=match ki o,eE gK p with
 |some ao,some k=>.ok (n5 ((qT ao k).getD []))
 |_,_=>.bad
noncomputable def vz:D->Option (List Int)
 |.lst xs=>intsOf xs
 |_=>none
noncomputable def qh(o p:Option (Option D)):R D:=match eE vz o,eE intD p with
 |some au,some k=>if k∈au/\au.length<=1000 then .ok (.int (au.idxOf k:Nat)) else .bad
 |_,_=>.bad
noncomputable def vI:Option (Option D)->R D
 |some (some (.lst ds))=>.ok (.lst ds)
 |_=>.bad
noncomputable def rG:Option (Option D)->R D
 |some (some (.b4 ao))=>.ok (.b4 ao)
 |some (some (.bK ao))=>.ok (.bK ao)
 |_=>.bad
noncomputable def ei:D->R Bool
 |.aV b=>.ok b
 |_=>.bad
noncomputable def iH:D->R Int
 |.int i=>.ok i
 |_=>.bad
noncomputable def zx:Option (Option D)->R D
 |some (some d)=>.ok d
 |_=>.bad
structure eV where
 up:kc
 cs:List D
section
variable(pg:eV)(Φ:fe)
mutual
noncomputable def ev (ρ:bw):E->R D
 |.var i=>zx ρ[i]?
 |.lit d=>.ok d
 |.tup a=>hP ρ a>>=λds=>.ok (.tup ds)
 |.lst a=>hP ρ a>>=λds=>.ok (.lst ds)
 |.bin op a b=>ev ρ a>>=λx=>ev ρ b>>=λy=>ej op x y
 |.neg a=>ev ρ a>>=λx=>iH x>>=λi=>.ok (.int (-i))
 |.not a=>ev ρ a>>=λx=>ei x>>=λb=>.ok (.aV (!b))
 |.cmp op a b=>ev ρ a>>=λx=>ev ρ b>>=λy=>e5 op x y>>=λc=>.ok (.aV c)
 |.and a b=>ev ρ a>>=λx=>ei x>>=λk=>if k then ev ρ b else .ok (.aV false)
 |.ite c a b=>ev ρ c>>=λx=>ei x>>=λk=>if k then ev ρ a else ev ρ b
 |.idx a b=>ev ρ a>>=λx=>ev ρ b>>=λy=>gD x y
 |.slice a lo ai=>ev ρ a>>=λx=>mR ρ lo>>=λl=>mR ρ ai>>=λh=>kX x l h
 |.call f a=>hP ρ a>>=λds=>Φ f ds
 |.prim p a=>ev ρ a>>=λx=>kS pg.up p x
 |.tupI s=>hy ρ s>>=λds=>.ok (.tup ds)
 |.kL s=>hy ρ s>>=λds=>.ok (.lst ds)
 |.ig i j=>lC ρ[i]? ρ[j]?
 |.kK i j=>qh ρ[i]? ρ[j]?
 |.yO i j=>uK ρ[i]? ρ[j]?
 |.pG i j=>rJ ρ[i]? ρ[j]?
 |.pH=>.ok (.bK [])
 |.comp e k s c=>hy ρ s>>=λds=>lZ (cV (λd=>gx k d>>=λah=>mQ (ρ++ah) c>>=λb=>if b then ev (ρ++ah) e>>=λy=>.ok (some y) else .ok none) ds)>>=λys=>.ok (.lst ys)
noncomputable def hP (ρ:bw):A->R (List D)
 |.nil=>.ok []
 |.cons e a=>ev ρ e>>=λx=>hP ρ a>>=λxs=>.ok (x::xs)
noncomputable def mR (ρ:bw):O->R (Option Int)
 |.none=>.ok none
 |.some e=>ev ρ e>>=λx=>iH x>>=λi=>.ok (some i)
noncomputable def mQ (ρ:bw):O->R Bool
 |.none=>.ok true
 |.some e=>ev ρ e>>=λx=>ei x
noncomputable def hy (ρ:bw):I->R (List D)
 |.seq e=>ev ρ e>>=λx=>en x
 |.fa a=>ev ρ a>>=λx=>iH x>>=λi=>kW 0 i
 |.mM i=>pF ρ[i]?
end
end
structure aU where
 j:Nat
 k5:Nat
 dU:Nat
noncomputable def vq(up:kc)(k5 dU:Nat):Bool:=(up 1).contains k5&&(up 1).contains dU
noncomputable def gU:Str:="none"
mutual
inductive S where
 |asg (i:Nat) (e:E)
 |app (i:Nat) (e:E)
 |n8 (i:Nat)
 |oT (i:Nat)
 |qA (i:Nat)
 |n9 (i:Nat)
 |jI (i j:Nat) (e:E)
 |rL (i:Nat)
 |qV (c:E) (b:B)
 |oW (i:Nat) (e:E)
 |pop (i:Nat)
 |wc (i:Nat) (e:E)
 |stop
 |raise (c:Nat)
 |o6 (cF aH bU aT de:E) (k:Nat) (h:aU)
 |ext (i:Nat) (e:E)
 |ret (e:E)
 |iff (c:E) (a b:B)
 |fW (k:Nat) (ts:List Nat) (s:I) (b:B)
inductive B where
 |nil
 |cons (s:S) (b:B)
end
inductive et where
 |bD (ρ:bw)
 |cC (d:D)
noncomputable def l5:List Nat->List (Option D)->bw->bw
 |i::is,v::ah,ρ=>l5 is ah (ρ.set i v)
 |_,_,ρ=>ρ
noncomputable def forL(f:D->bw->R et):List D->bw->R et
 |[],ρ=>.ok (.bD ρ)
 |d::ds,ρ=>f d ρ>>=λr=>match r with
  |.bD bP=>forL f ds bP
  |.cC x=>.ok (.cC x)
noncomputable def la(c:bw->R Bool)(f:bw->R et):Nat->bw->R et
 |0,_=>.bad
 |n+1,ρ=>c ρ>>=λk=>if k then(f ρ>>=λr=>match r with
  |.bD bP=>la c f n bP
  |.cC x=>.ok (.cC x)) else .ok (.bD ρ)
noncomputable def Dz:Option (Option D)->R Unit
 |some (some (.dR _))=>.ok ()
 |_=>.bad
noncomputable def tK:Option (Option D)->D->R D
 |some (some (.lst (_::xs))),d=>.ok (.lst (d::xs))
 |_,_=>.bad
noncomputable def v5:Option (Option D)->R D
 |some (some (.lst (x::xs)))=>.ok (.lst (x::xs).dropLast)
 |_=>.bad
noncomputable def iJ(pg:eV)(c k:Nat)(h:aU):R et:=if c==1&&((pg.up c).contains k&&vq pg.up h.k5 h.dU) then .ok (.cC (.str gU)) else .bad
noncomputable def JO:R et->(Nat->R et)->R et
 |.ok r,_=>.ok r
 |.exc c,f=>f c
 |.bad,_=>.bad
noncomputable def rk:Option (Option D)->D->R D
 |some (some (.lst xs)),d=>if xs.length<SZ then .ok (.lst (xs++[d])) else .bad
 |_,_=>.bad
noncomputable def pM:Option (Option D)->D->R D
 |some (some (.lst xs)),.lst ys=>if xs.length+ys.length<=SZ then .ok (.lst (xs++ys)) else .bad
 |some (some (.lst xs)),.tup ys=>if xs.length+ys.length<=SZ then .ok (.lst (xs++ys)) else .bad
 |_,_=>.bad
noncomputable def mG:Option (Option D)->R Unit
 |some (some (.lst _))=>.ok ()
 |_=>.bad
noncomputable def jK(pg:eV)(Φ:fe)(ρ:bw)(cF aH bU aT de:E):R et:=ev pg Φ ρ cF>>=λx=>ei x>>=λk=>if k then ev pg Φ ρ aH>>=λd=>.ok (.cC d) else ev pg Φ ρ bU>>=λx=>ei x>>=λk=>if k then ev pg Φ ρ aT>>=λd=>.ok (.cC d) else ev pg Φ ρ de>>=λd=>.ok (.cC d)
section
variable(pg:eV)(Φ:fe)
mutual
noncomputable def ex (ρ:bw):S->R et
 |.asg i e=>ev pg Φ ρ e>>=λd=>.ok (.bD (ρ.set i (some d)))
 |.app i e=>mG ρ[i]?>>=λ_=>ev pg Φ ρ e>>=λd=>rk ρ[i]? d>>=λx=>.ok (.bD (ρ.set i (some x)))
 |.ret e=>ev pg Φ ρ e>>=λd=>.ok (.cC d)
 |.oT i=>vI ρ[i]?>>=λd=>.ok (.cC d)
 |.qA i=>rG ρ[i]?>>=λd=>.ok (.cC d)
 |.n8 i=>.ok (.bD (ρ.set i (some (.b4 []))))
 |.n9 i=>.ok (.bD (ρ.set i (some (.bK []))))
 |.jI i j e=>ev pg Φ ρ e>>=λd=>pI ρ[i]? ρ[j]? d>>=λx=>.ok (.bD (ρ.set i (some x)))
 |.rL i=>.ok (.bD (ρ.set i (some (.dR []))))
 |.qV c b=>la (λbP=>ev pg Φ bP c>>=λx=>ei x) (λbP=>eL bP b) 200 ρ
 |.oW i e=>ev pg Φ ρ e>>=λd=>tK ρ[i]? d>>=λx=>.ok (.bD (ρ.set i (some x)))
 |.pop i=>v5 ρ[i]?>>=λx=>.ok (.bD (ρ.set i (some x)))
 |.wc i e=>Dz ρ[i]?>>=λ_=>ev pg Φ ρ e>>=λd=>.ok (.cC d)
 |.stop=>.bad
 |.raise c=>.exc c
 |.o6 cF aH bU aT de k h=>JO (jK pg Φ ρ cF aH bU aT de) λc=>iJ pg c k h
 |.ext i e=>mG ρ[i]?>>=λ_=>ev pg Φ ρ e>>=λd=>pM ρ[i]? d>>=λx=>.ok (.bD (ρ.set i (some x)))
 |.iff c a b=>ev pg Φ ρ c>>=λx=>ei x>>=λk=>if k then eL ρ a else eL ρ b
 |.fW k ts s b=>hy pg Φ ρ s>>=λds=>forL (λd bP=>gx k d>>=λah=>eL (l5 ts ah bP) b) ds ρ
noncomputable def eL (ρ:bw):B->R et
 |.nil=>.ok (.bD ρ)
 |.cons s b=>ex ρ s>>=λr=>match r with
  |.bD bP=>eL bP b
  |.cC d=>.ok (.cC d)
end
end
structure ll where
 np:Nat
 nl:Nat
 body:B
noncomputable def start(fd:ll)(ds:List D):bw:=ds.map some++List.replicate fd.nl none
noncomputable def mP:R et->R D
 |.ok (.cC d)=>.ok d
 |.ok (.bD _)=>.ok .dV
 |.exc c=>.exc c
 |.bad=>.bad
noncomputable def cL(pg:eV)(Φ:fe)(fd:ll)(ds:List D):R D:=if ds.length=fd.np then mP (eL pg Φ (start fd ds) fd.body) else .bad
noncomputable def run(pg:eV)(fds:List ll):Nat->fe
 |0=>λ_ _=>.bad
 |n+1=>λf ds=>match fds[f]? with
  |some fd=>cL pg (run pg fds n) fd ds
  |none=>.bad
def tD(pg:eV)(fds:List ll)(n f:Nat)(ds:List D):run pg fds (n+1) f ds=(match fds[f]? with|some fd=>cL pg (run pg fds n) fd ds|none=>.bad):=rfl
structure Gt where
 fns:List Str
 cls:List Str
 r2:List Str
structure dv where
 N:List Str
 sc:Scope
 mu:List Nat
noncomputable def ju(sc:Scope)(x:Str):Bool:=sc.names.lookup x==some .local||sc.names.lookup x==some .cell||sc.names.lookup x==some .free
noncomputable def jQ(sc:Scope)(x:Str):Bool:=sc.names.lookup x==some .local||sc.names.lookup x==some .cell
noncomputable def ko(sc:Scope)(x:Str):Bool:=sc.names.lookup x==some .globalImplicit
noncomputable def okN(x:Str):Bool:=!(x==("__debug__":Str))&&!(x==("__classdict__":Str))&&!(x==("__name__":Str))
noncomputable def Hi:Op->Operator->Bool
 |.add,.Add=>true|.sub,.Sub=>true|.mul,.Mult=>true|.fdiv,.FloorDiv=>true|.mod,.Mod=>true|.and,.BitAnd=>true|.xor,.BitXor=>true
 |_,_=>false
noncomputable def DJ:q2->CmpOp->Bool
 |.mem,.In=>true|.h5,.NotIn=>true|.eq,.Eq=>true|.ne,.NotEq=>true|.lt,.Lt=>true|.gt,.Gt=>true 
 |_,_=>false
noncomputable def litOk:D->Const->Bool
 |.dV,.none=>true
 |.aV a,.bool b=>a==b
 |.int i,.int j=>i==j
 |.str x,.str y=>x==y
 |_,_=>false
noncomputable def tyName:Ty->Str
 |.int=>"int"|.bool=>"bool"|.str=>"str"|.tuple=>"tuple"|.cls _=>""
noncomputable def tm:ef->Str
 |.len=>"len"|.sorted=>"sorted"|.sum=>"sum"|.max=>"max"|.all=>"all"|.any=>"any"|_=>""
noncomputable def tn:ef->Bool
 |.len=>true|.sorted=>true|.sum=>true|.max=>true|.all=>true|.any=>true|_=>false
noncomputable def nameOf:Expr->Option Str
 |.Name x _=>some x
 |_=>none
noncomputable def namesOf:List Expr->Option (List Str)
 |[]=>some []
 |e::aj=>match nameOf e,namesOf aj with|some x,some xs=>some (x::xs)|_,_=>none
noncomputable def fm:Nat->Expr->Option (List Str)
 |0,.Name x _=>some [x]
 |k+1,.Tuple aj _ _=>match namesOf aj with|some xs=>if xs.length=k+1 then some xs else none|none=>none
 |_,_=>none
noncomputable def mask(N xs:List Str):List Str:=N.map λn=>if xs.contains n then(((".":Str))++n) else n
noncomputable def nq:I->Bool:=λ_=>false
noncomputable def wu:I->Bool
 |.seq _=>true
 |.fa _=>true
 |_=>false
noncomputable def vN:Expr->Bool
 |.ListComp ..=>false
 |_=>true
noncomputable def fL(g:Gt)(sc:Scope)(x:Str):Bool:=ko sc x&&!(g.fns.contains x)&&!(g.cls.contains x)&&!(g.r2.contains x)
noncomputable def gL:Expr->Option Str
 |.Name x _=>some x
 |_=>none
noncomputable def tU:Expr->Option Const
 |.Constant c _ _=>some c
 |_=>none
noncomputable def Ct:Expr->Option (List Expr)
 |.Tuple aj _ _=>some aj
 |_=>none
noncomputable def J1:Expr->Option (List Expr)
 |.List aj _=>some aj
 |_=>none
noncomputable def Cp:Expr->Option (Expr×Operator×Expr)
 |.BinOp x o y _=>some (x,o,y)
 |_=>none
noncomputable def Cu:Expr->Option (UnaryOp×Expr)
 |.UnaryOp o x _=>some (o,x)
 |_=>none
noncomputable def JX:Expr->Option (Expr×List CmpOp×List Expr)
 |.Compare x os ys _=>some (x,os,ys)
 |_=>none
noncomputable def vBool:Expr->Option (BoolOp×List Expr×Pos)
 |.BoolOp o aj p=>some (o,aj,p)
 |_=>none
noncomputable def tV:Expr->Option (Expr×Expr)
 |.Subscript x y _=>some (x,y)
 |_=>none
noncomputable def J3:Expr->Option (Option Expr×Option Expr×Option Expr)
 |.Slice l h t _=>some (l,h,t)
 |_=>none
noncomputable def tT:Expr->Option (Expr×List Expr×List Keyword)
 |.Call f aj au _=>some (f,aj,au)
 |_=>none
noncomputable def jZ(x:Expr):Option (Str×List Expr):=match tT x with
 |some (f,aj,[])=>(match gL f with|some y=>some (y,aj)|none=>none)
 |_=>none
noncomputable def wQ:Expr->Option (Expr×Str×Pos)
 |.Attribute o n p=>some (o,n,p)
 |_=>none
noncomputable def JY:Expr->Option (Expr×List Comprehension×Scope)
 |.ListComp x mV sc _=>some (x,mV,sc)
 |_=>none
noncomputable def tyB(g:Gt)(ct:dv)(n:Str):Ty->Bool
 |.cls c=>ko ct.sc n&&okN n&&(if c=1000 then n==("ValueError":Str)&&fL g ct.sc n else g.cls[c]?==some n)
 |t=>n==tyName t&&fL g ct.sc n
noncomputable def wX(g:Gt)(ct:dv)(x:Str)(e:Expr):Option Expr:=match jZ e with
 |some (y,[a])=>if x==("sorted":Str)&&fL g ct.sc x&&y==("set":Str)&&fL g ct.sc y then some a else none
 |_=>none
noncomputable def Ka(g:Gt)(ct:dv)(x:Str)(p:ef)(aj:List Expr):Option Expr:=match p with
 |.eP=>(match aj with|[e]=>wX g ct x e|_=>none)
 |p=>(match aj with|[e]=>if tn p&&x==tm p&&fL g ct.sc x then some e else none|_=>none)
noncomputable def rq(ct:dv)(sc:Scope)(xs:List Str):Bool:=decide (sc.kind=.function)&&sc.names.all (λy=>y.2 != .cell)&&sc.names.all (λy=>y.2 != .local||sc.names.lookup y.1==some .local)
 && xs.all (λy=>sc.names.lookup y==some .local&&okN y)&&decide xs.Nodup&&sc.names.all (λy=>y.2 != .local||xs.contains y.1||y.1==(".0":Str))
 && sc.names.all (λy=>y.2 != .free||(ct.sc.names.lookup y.1==some .cell||ct.sc.names.lookup y.1==some .free))&&((mask ct.N xs).zip ct.N).all (λp=>p.1==p.2||sc.names.lookup p.1==none)&&decide (mask ct.N xs++xs).Nodup&&!((mask ct.N xs++xs).contains (".0":Str))
noncomputable def vB:Expr->Bool
 |.Dict [] [] _=>true
 |_=>false
noncomputable def Cr:Expr->Option (Str×Str)
 |.Dict [some (.Name n _)] [.Name k _] _=>some (n,k)
 |_=>none
noncomputable def J0:Expr->Option (Expr×Expr×Expr)
 |.IfExp x y w _=>some (x,y,w)
 |_=>none
noncomputable def rj(ct:dv)(i:Nat)(n:Str):Bool:=ct.N[i]?==some n&&ju ct.sc n&&okN n
noncomputable def m9(ct:dv)(i:Nat)(n:Str):Bool:=ct.N[i]?==some n&&ju ct.sc n&&okN n&&ct.mu.contains i
noncomputable def nr(ct:dv)(i:Nat)(n:Str):Bool:=ct.N[i]?==some n&&ju ct.sc n&&okN n&&!ct.mu.contains i
noncomputable def wV(z:Expr):Option (Str×Str):=match tV z with
 |some (x,y)=>(match gL x,gL y with|some n,some k=>some (n,k)|_,_=>none)
 |none=>none
noncomputable def wO(z:Expr):Option (Str×Str×Pos×Expr):=match tT z with
 |some (f,[y],[])=>(match wQ f with
  |some (o,n,ap)=>(match gL o with|some x=>some (x,n,ap,y)|none=>none)
  |none=>none)
 |_=>none
noncomputable def Cs(z:Expr):Option (Str×Str×Pos):=match tT z with
 |some (f,[k,o],[])=>(match wQ f with
  |some (d,n,ap)=>(match gL d,gL k,Ct o with|some x,some y,some []=>if n==("get":Str) then some (x,y,ap) else none|_,_,_=>none)
  |none=>none)
 |_=>none
section
variable(g:Gt)
mutual
noncomputable def b0 (ct:dv) (v:Bool):E->Expr->Bool
 |.var i,z=>(match gL z with|some x=>ct.N[i]?==some x&&ju ct.sc x&&okN x&&(v||!ct.mu.contains i)|none=>false)
 |.lit d,z=>(match tU z with|some c=>litOk d c|none=>false)
 |.tup a,z=>(match Ct z with|some aj=>mH ct a aj&&decide (aj.length<=1000)|none=>false)
 |.lst a,z=>(match J1 z with|some aj=>mH ct a aj&&decide (aj.length<=1000)|none=>false)
 |.bin op a b,z=>(match Cp z with|some (x,o,y)=>Hi op o&&b0 ct true a x&&b0 ct true b y|none=>false)
 |.neg a,z=>(match Cu z with|some (.USub,x)=>b0 ct true a x|_=>false)
 |.not a,z=>(match Cu z with|some (.Not,x)=>b0 ct true a x|_=>false)
 |.cmp op a b,z=>(match JX z with|some (x,[o],[y])=>DJ op o&&b0 ct true a x&&b0 ct true b y|_=>false)
 |.and a b,z=>(match vBool z with|some (.And,[x,y],_)=>b0 ct true a x&&b0 ct v b y|some (.And,x::y::w::r,p)=>b0 ct true a x&&b0 ct v b (.BoolOp .And (y::w::r) p)|_=>false)
 |.ite c a b,z=>(match J0 z with|some (x,y,w)=>b0 ct true c x&&b0 ct false a y&&b0 ct false b w|none=>false)
 |.idx a b,z=>(match tV z with|some (x,y)=>b0 ct true a x&&b0 ct true b y|none=>false)
 |.slice a lo ai,z=>(match tV z with|some (x,y)=>(match J3 y with|some (l,h,none)=>b0 ct true a x&&rx ct lo l&&rx ct ai h|_=>false)|none=>false)
 |.call f a,z=>(match jZ z with|some (x,aj)=>g.fns[f]?==some x&&ko ct.sc x&&okN x&&!aj.isEmpty&&mH ct a aj|none=>false)
 |.prim p a,z=>(match jZ z with|some (x,aj)=>(match Ka g ct x p aj with|some e=>b0 ct true a e|none=>false)|none=>false)
 |.tupI s,z=>(match jZ z with|some (x,[e])=>x==("tuple":Str)&&fL g ct.sc x&&wu s&&g9 ct true s e|_=>false)
 |.kL s,z=>(match jZ z with|some (x,[e])=>x==("list":Str)&&fL g ct.sc x&&wu s&&g9 ct true s e|_=>false)
 |.comp e k s c,z=>(match JY z with
   |some (x,[⟨t,it,ifs,0⟩],sc)=>(match fm k t with
    |some xs=>(!nq s||k==2)&&rq ct sc xs&&g9 ct true s it&&b0 ⟨mask ct.N xs++xs,sc,ct.mu⟩ false e x&&n6 ⟨mask ct.N xs++xs,sc,ct.mu⟩ c ifs
    |none=>false)
   |_=>false)
 |.ig i j,z=>(match wV z with|some (n,k)=>rj ct i n&&nr ct j k|none=>false)
 |.yO i j,z=>(match Cs z with|some (x,y,ap)=>m9 ct i x&&nr ct j y&&(ap.endLine==z.pos.line)|none=>false)
 |.kK i j,z=>(match wO z with|some (x,n,ap,y)=>(match gL y with|some k=>n==("index":Str)&&(ap.endLine==z.pos.line)&&rj ct i x&&rj ct j k|none=>false)|none=>false)
 |.pG i j,z=>(match Cr z with|some (n,k)=>nr ct i n&&nr ct j k|none=>false)
 |.pH,z=>vB z
noncomputable def mH (ct:dv):A->List Expr->Bool
 |.nil,[]=>true
 |.cons e a,x::xs=>b0 ct false e x&&mH ct a xs
 |_,_=>false
noncomputable def rx (ct:dv):O->Option Expr->Bool
 |.none,none=>true
 |.some e,some x=>b0 ct true e x
 |_,_=>false
noncomputable def n6 (ct:dv):O->List Expr->Bool
 |.none,[]=>true
 |.some e,[x]=>b0 ct true e x
 |_,_=>false
noncomputable def g9 (ct:dv) (v:Bool):I->Expr->Bool
 |.seq e,z=>b0 ct v e z
 |.fa a,z=>(match jZ z with|some (x,[y])=>x==("range":Str)&&fL g ct.sc x&&b0 ct true a y|_=>false)
 |.mM i,z=>(match gL z with|some n=>nr ct i n|none=>false)
end
noncomputable def kn:E->Bool
 |.lst _=>true
 |.comp ..=>true
 |.bin .add _ _=>true
 |.prim .sorted _=>true
 |.prim .eP _=>true
 |.kL _=>true
 |_=>false
noncomputable def pC(ct:dv):List Nat->List Str->Bool
 |[],[]=>true
 |i::is,x::xs=>ct.N[i]?==some x&&jQ ct.sc x&&okN x&&!ct.mu.contains i&&pC ct is xs
 |_,_=>false
noncomputable def o3:Stmt->Option (List Expr×Expr)
 |.Assign ts y _=>some (ts,y)
 |_=>none
noncomputable def B6:Stmt->Option Expr
 |.Expr y _=>some y
 |_=>none
noncomputable def mb:Stmt->Option (Option Expr)
 |.Return y _=>some y
 |_=>none
noncomputable def tP:Stmt->Option (Expr×List Stmt×List Stmt)
 |.If t x y _=>some (t,x,y)
 |_=>none
noncomputable def wH:Stmt->Option (Expr×Expr×List Stmt×List Stmt)
 |.For t it x y _=>some (t,it,x,y)
 |_=>none
noncomputable def B8:Stmt->Option Expr
 |.Raise (some y) none _=>some y
 |_=>none
noncomputable def Jw:Stmt->Option (List Stmt×List ExceptHandler×List Stmt×List Stmt)
 |.Try a h e f _=>some (a,h,e,f)
 |_=>none
noncomputable def Zg:ExceptHandler->Option Expr×Option Str×List Stmt
 |.ExceptHandler t n b _=>(t,n,b)
noncomputable def yv(ct:dv)(i:Nat)(e:E)(z:Stmt):Bool:=match o3 z with
 |some ([t],y)=>(match gL t with|some x=>ct.N[i]?==some x&&jQ ct.sc x&&okN x&&(!ct.mu.contains i||kn e)&&b0 g ct false e y|none=>false)
 |_=>false
noncomputable def uE(ct:dv)(i:Nat)(e:E)(nm:Str)(z:Stmt):Bool:=match B6 z with
 |some c=>(match wO c with|some (x,n,ap,y)=>(ap.endLine==c.pos.line)&&ct.N[i]?==some x&&ju ct.sc x&&okN x&&ct.mu.contains i&&n==nm&&b0 g ct false e y|none=>false)
 |none=>false
noncomputable def lx(ct:dv)(i:Nat)(z:Stmt):Bool:=match o3 z with
 |some ([t],y)=>(match gL t with|some x=>ct.N[i]?==some x&&jQ ct.sc x&&okN x&&ct.mu.contains i&&vB y|none=>false)
 |_=>false
noncomputable def yx(ct:dv)(i j:Nat)(e:E)(z:Stmt):Bool:=match o3 z with
 |some ([t],v)=>(match wV t with|some (x,y)=>m9 ct i x&&nr ct j y&&vN v&&b0 g ct false e v|none=>false)
 |_=>false
noncomputable def Jx:Stmt->Option (Expr×List Stmt×List Stmt)
 |.While t x y _=>some (t,x,y)
 |_=>none
noncomputable def yD(ct:dv)(i:Nat)(e:E)(z:Stmt):Bool:=match o3 z with
 |some ([t],v)=>(match tV t with
  |some (x,y)=>(match gL x,tU y with|some n,some (.int k)=>k==0&&m9 ct i n&&vN v&&b0 g ct false e v|_,_=>false)
  |none=>false)
 |_=>false
noncomputable def yA(ct:dv)(i:Nat)(z:Stmt):Bool:=match B6 z with
 |some c=>(match tT c with
  |some (f,[],[])=>(match wQ f with
   |some (o,n,ap)=>(match gL o with|some x=>n==("pop":Str)&&(ap.endLine==c.pos.line)&&m9 ct i x|none=>false)
   |none=>false)
  |_=>false)
 |none=>false
noncomputable def yC(ct:dv)(i:Nat)(e:E)(z:Stmt):Bool:=match mb z with
 |some (some y)=>ct.mu.contains i&&b0 g ⟨ct.N,ct.sc,ct.mu.filter λj=>!(j==i)⟩ false e y
 |_=>false
noncomputable def yB(ct:dv)(c:Nat)(z:Stmt):Bool:=match B8 z with
 |some y=>(match jZ y with
  |some (x,[a])=>(match tU a with|some (.str _)=>c==1&&g.cls[c]?==some x&&ko ct.sc x&&okN x|_=>false)
  |_=>false)
 |none=>false
noncomputable def uD(ct:dv)(n:Str)(k:Nat)(z:Expr):Bool:=match jZ z with
 |some (x,[e,d])=>(match gL e,gL d with|some y,some t=>x==("isinstance":Str)&&fL g ct.sc x&&y==n&&tyB g ct t (.cls k)&&(k==1000||decide (k<g.cls.length))|_,_=>false)
 |_=>false
noncomputable def yw(ct:dv)(k:Nat)(t:Expr):Bool:=match gL t with
 |some x=>g.cls[k]?==some x&&ko ct.sc x&&okN x
 |none=>false
noncomputable def F4(y:Expr):Bool:=match tU y with
 |some (.str b)=>b==gU
 |_=>false
noncomputable def yy(ct:dv)(n:Str)(k5 dU:Nat)(t:Stmt):Bool:=match mb t with
 |some (some r)=>(match Cp r with
  |some (q,.Mult,v)=>(match jZ v with
   |some (pO,[y])=>(match vBool y with
    |some (.And,[gu,iW],_)=>uD g ct n k5 gu&&uD g ct n dU iW&&F4 q&&pO==("int":Str)&&fL g ct.sc pO
    |_=>false)
   |_=>false)
  |_=>false)
 |_=>false
noncomputable def yz(ct:dv)(h:aU)(n:Option Str)(st:List Stmt):Bool:=match n with
 |some n=>ct.N[h.j]?==some n&&ct.sc.names.lookup n==some .local&&okN n&&(match st with|[t]=>yy g ct n h.k5 h.dU t|_=>false)
 |none=>false
noncomputable def DC(ct:dv)(k:Nat)(h:aU)(q:Option Expr×Option Str×List Stmt):Bool:=match q.1 with
 |some t=>yw g ct k t&&yz g ct h q.2.1 q.2.2
 |none=>false
noncomputable def uF(ct:dv)(e:E)(z:Stmt):Bool:=match mb z with
 |some (some y)=>b0 g ct false e y
 |_=>false
noncomputable def uC(ct:dv)(c r:E)(z:Stmt):Bool:=match tP z with
 |some (t,[y],[])=>b0 g ct true c t&&uF g ct r y
 |_=>false
noncomputable def yE(ct:dv)(cF aH bU aT de:E)(k:Nat)(h:aU)(z:Stmt):Bool:=match Jw z with
 |some ([a1,a2,eD],[hd],[],[])=>uC g ct cF aH a1&&uC g ct bU aT a2&&uF g ct de eD&&decide (k<2)&&DC g ct k h (Zg hd)
 |_=>false
mutual
noncomputable def ly (ct:dv):S->Stmt->Bool
 |.asg i e,z=>yv g ct i e z
 |.app i e,z=>uE g ct i e "append" z
 |.ret e,z=>(match mb z with|some (some y)=>b0 g ct false e y|_=>false)
 |.oT i,z=>(match mb z with|some (some y)=>(match gL y with|some x=>m9 ct i x|none=>false)|_=>false)
 |.qA i,z=>(match mb z with|some (some y)=>(match gL y with|some x=>m9 ct i x|none=>false)|_=>false)
 |.iff c a b,z=>(match tP z with|some (t,x,y)=>b0 g ct true c t&&jG ct a x&&jG ct b y|none=>false)
 |.fW k ts s b,z=>(match wH z with|some (t,it,x,[])=>(match fm k t with|some xs=>(!nq s||k==2)&&pC ct ts xs&&decide ts.Nodup&&g9 g ct false s it&&jG ct b x|none=>false)|_=>false)
 |.n8 i,z=>lx ct i z
 |.n9 i,z=>lx ct i z
 |.jI i j e,z=>yx g ct i j e z
 |.rL i,z=>lx ct i z
 |.qV c b,z=>(match Jx z with|some (t,x,[])=>b0 g ct true c t&&jG ct b x|_=>false)
 |.oW i e,z=>yD g ct i e z
 |.pop i,z=>yA ct i z
 |.wc i e,z=>yC g ct i e z
 |.stop,_=>true
 |.raise c,z=>yB g ct c z
 |.o6 cF aH bU aT de k h,z=>yE g ct cF aH bU aT de k h z
 |.ext i e,z=>uE g ct i e "extend" z
noncomputable def jG (ct:dv):B->List Stmt->Bool
 |.nil,[]=>true
 |.cons s b,x::xs=>ly ct s x&&jG ct b xs
 |_,_=>false
end
mutual
noncomputable def TB:S->List Nat
 |.app j _=>[j]
 |.n8 j=>[j]
 |.n9 j=>[j]
 |.jI j _ _=>[j]
 |.rL j=>[j]
 |.qV _ b=>jU b
 |.oW j _=>[j]
 |.pop j=>[j]
 |.ext j _=>[j]
 |.iff _ a b=>jU a++jU b
 |.fW _ _ _ b=>jU b
 |_=>[]
noncomputable def jU:B->List Nat
 |.nil=>[]
 |.cons s b=>TB s++jU b
end
noncomputable def mI(N:List Str)(fd:ll):Stmt->Bool
 |.FunctionDef name args body [] none [] sc none bind _ =>
   decide (sc.kind=.function)&&!sc.isCoroutine&&!sc.isGenerator&&decide N.Nodup&&N.length==fd.np+fd.nl
   && (args.args.map (·.arg))==N.take fd.np&&args.posonlyargs.isEmpty&&args.vararg.isNone&&args.kwonlyargs.isEmpty&&args.kwarg.isNone&&args.defaults.isEmpty&&args.kw_defaults.isEmpty
   && (N.take fd.np).all (λx=>jQ sc x)&&sc.names.all (λy=>y.2 != .free)
   && (jU fd.body).all (λi=>decide (fd.np<=i)&&decide (i<N.length))&&jG g ⟨N,sc,jU fd.body⟩ fd.body body
 |_=>false
end
end Den
end
section
namespace aW
open PySem Den
noncomputable def yc :B:=.cons (.ret (.comp (.bin .add (.slice (.var 0) (.none) (.some (.var 1))) (.slice (.var 0) (.some (.bin .add (.var 1) (.lit (.int 1)))) (.none))) 0 (.fa (.prim .len (.var 0))) (.some (.cmp .gt (.prim .len (.var 0)) (.lit (.int 1)))))) (.nil)
noncomputable def x5 :B:=.cons (.ret (.prim .all (.comp (.cmp .mem (.var 2) (.var 1)) 0 (.seq (.var 0)) (.none)))) (.nil)
noncomputable def x6(O4:Nat):B:=.cons (.ret (.prim .any (.comp (.call O4 (.cons (.var 0) (.cons (.var 2) (.nil)))) 0 (.seq (.var 1)) (.none)))) (.nil)
noncomputable def ye(O5:Nat):B:=.cons (.asg 1 (.prim .eP (.var 0))) (.cons (.asg 2 (.lst (.nil))) (.cons (.fW 0 [3] (.seq (.var 1)) (.cons (.asg 4 (.comp (.var 5) 0 (.seq (.var 1)) (.some (.cmp .gt (.prim .len (.var 5)) (.prim .len (.var 3)))))) (.cons (.iff (.not (.call O5 (.cons (.var 3) (.cons (.var 4) (.nil))))) (.cons (.app 2 (.var 3)) (.nil)) (.nil)) (.nil)))) (.cons (.ret (.tupI (.seq (.var 2)))) (.nil))))
noncomputable def xJ :B:=.cons (.asg 1 (.lst (.nil))) (.cons (.fW 0 [2] (.seq (.var 0)) (.cons (.asg 1 (.bin .add (.bin .add (.var 1) (.lst (.cons (.tup (.cons (.var 2) (.nil))) (.nil)))) (.comp (.bin .add (.var 3) (.tup (.cons (.var 2) (.nil)))) 0 (.seq (.var 1)) (.none)))) (.nil))) (.cons (.ret (.var 1)) (.nil)))
noncomputable def xN(O1:Nat):B:=.cons (.asg 1 (.lst (.nil))) (.cons (.fW 0 [2] (.seq (.idx (.var 0) (.lit (.int 1)))) (.cons (.ext 1 (.call O1 (.cons (.var 2) (.nil)))) (.nil))) (.cons (.ret (.prim .eP (.var 1))) (.nil)))
noncomputable def xI(zc:Nat):B:=.cons (.ret (.tupI (.seq (.comp (.var 2) 0 (.seq (.call zc (.cons (.var 0) (.nil)))) (.some (.cmp .eq (.bin .sub (.prim .len (.var 2)) (.lit (.int 1))) (.var 1))))))) (.nil)
noncomputable def uy(Pe:Nat)(yt:Nat):B:=.cons (.iff (.cmp .eq (.prim .len (.var 0)) (.lit (.int 0))) (.cons (.raise yt) (.nil)) (.nil)) (.cons (.asg 1 (.lst (.nil))) (.cons (.fW 0 [2] (.seq (.var 0)) (.cons (.ext 1 (.var 2)) (.nil))) (.cons (.asg 3 (.prim .eP (.var 1))) (.cons (.ret (.tup (.cons (.prim .len (.var 3)) (.cons (.call Pe (.cons (.comp (.tupI (.seq (.comp (.kK 3 5) 0 (.seq (.var 4)) (.none)))) 0 (.seq (.var 0)) (.none)) (.nil))) (.nil))))) (.nil)))))
noncomputable def x4 :B:=.cons (.ret (.tupI (.seq (.comp (.var 2) 0 (.seq (.var 0)) (.some (.cmp .ne (.var 2) (.var 1))))))) (.nil)
noncomputable def xF(zf:Nat)(ze:Nat):B:=.cons (.ret (.call zf (.cons (.comp (.call ze (.cons (.var 2) (.cons (.var 1) (.nil)))) 0 (.seq (.idx (.var 0) (.lit (.int 1)))) (.some (.and (.cmp .mem (.var 1) (.var 2)) (.cmp .gt (.prim .len (.var 2)) (.lit (.int 1)))))) (.nil)))) (.nil)
noncomputable def yf(zf:Nat)(ze:Nat):B:=.cons (.ret (.call zf (.cons (.comp (.call ze (.cons (.var 2) (.cons (.var 1) (.nil)))) 0 (.seq (.idx (.var 0) (.lit (.int 1)))) (.some (.cmp .ne (.var 2) (.tup (.cons (.var 1) (.nil)))))) (.nil)))) (.nil)
noncomputable def Lr :B:=.cons .stop (.cons .stop (.cons .stop (.cons .stop (.nil))))
noncomputable def x8(O0:Nat):B:=.cons (.n8 2) (.cons (.asg 3 (.lit (.int 1))) (.cons (.fW 0 [4] (.seq (.call O0 (.cons (.var 0) (.cons (.var 1) (.nil))))) (.cons (.jI 2 4 (.var 3)) (.cons (.asg 3 (.bin .mul (.var 3) (.lit (.int 2)))) (.nil)))) (.cons (.qA 2) (.nil))))
noncomputable def xH :B:=.cons (.ret (.prim .sum (.comp (.ig 1 2) 0 (.seq (.var 0)) (.none)))) (.nil)
noncomputable def xK :B:=.cons (.ret (.tupI (.seq (.comp (.var 2) 0 (.mM 1) (.some (.cmp .ne (.bin .and (.var 0) (.ig 1 2)) (.lit (.int 0)))))))) (.nil)
noncomputable def ya(OZ:Nat)(O9:Nat)(u0:Nat):B:=.cons (.asg 2 (.call u0 (.cons (.var 0) (.cons (.bin .sub (.var 1) (.lit (.int 1))) (.nil))))) (.cons (.asg 3 (.call u0 (.cons (.var 0) (.cons (.var 1) (.nil))))) (.cons (.ret (.comp (.tup (.cons (.call OZ (.cons (.call O9 (.cons (.var 4) (.nil))) (.cons (.var 2) (.nil)))) (.cons (.ig 3 4) (.nil)))) 0 (.mM 3) (.none))) (.nil)))
noncomputable def yd :B:=.cons (.ret (.tup (.cons (.bin .xor (.idx (.var 0) (.lit (.int 0))) (.idx (.var 1) (.lit (.int 0)))) (.cons (.bin .xor (.idx (.var 0) (.lit (.int 1))) (.idx (.var 1) (.lit (.int 1)))) (.nil))))) (.nil)
noncomputable def x9(Pc:Nat):B:=.cons (.fW 0 [2] (.mM 1) (.cons (.iff (.cmp .ne (.bin .and (.idx (.var 0) (.lit (.int 0))) (.var 2)) (.lit (.int 0))) (.cons (.asg 0 (.call Pc (.cons (.var 0) (.cons (.ig 1 2) (.nil))))) (.nil)) (.nil)) (.nil))) (.cons (.ret (.var 0)) (.nil))
noncomputable def x7 :B:=.cons (.ret (.bin .and (.var 0) (.neg (.var 0)))) (.nil)
noncomputable def uv(pN:Nat)(O6:Nat):B:=.cons (.asg 2 (.call pN (.cons (.var 1) (.cons (.var 0) (.nil))))) (.cons (.iff (.cmp .eq (.idx (.var 2) (.lit (.int 0))) (.lit (.int 0))) (.cons (.ret (.var 0)) (.nil)) (.nil)) (.cons (.asg 3 (.call O6 (.cons (.idx (.var 2) (.lit (.int 0))) (.nil)))) (.cons (.n9 4) (.cons (.fW 0 [5] (.mM 0) (.cons (.jI 4 5 (.call pN (.cons (.ig 0 5) (.cons (.pG 3 2) (.nil))))) (.nil))) (.cons (.jI 4 3 (.var 2)) (.cons (.qA 4) (.nil)))))))
noncomputable def xG(rY:Nat):B:=.cons (.asg 1 (.pH)) (.cons (.fW 0 [2] (.seq (.var 0)) (.cons (.asg 1 (.call rY (.cons (.var 1) (.cons (.var 2) (.nil))))) (.nil))) (.cons (.ret (.var 1)) (.nil)))
noncomputable def xP(rY:Nat)(pN:Nat):B:=.cons (.asg 1 (.pH)) (.cons (.asg 2 (.lst (.nil))) (.cons (.fW 0 [3] (.seq (.var 0)) (.cons (.asg 4 (.call pN (.cons (.var 3) (.cons (.var 1) (.nil))))) (.cons (.iff (.cmp .eq (.idx (.var 4) (.lit (.int 0))) (.lit (.int 0))) (.cons (.app 2 (.idx (.var 4) (.lit (.int 1)))) (.nil)) (.nil)) (.cons (.asg 1 (.call rY (.cons (.var 1) (.cons (.var 3) (.nil))))) (.nil))))) (.cons (.oT 2) (.nil))))
noncomputable def yb(O3:Nat)(Ew:Nat)(pN:Nat)(rY:Nat)(O2:Nat)(u0:Nat)(OY:Nat):B:=.cons (.asg 2 (.call OY (.cons (.call Ew (.cons (.var 0) (.cons (.bin .add (.var 1) (.lit (.int 1))) (.nil)))) (.nil)))) (.cons (.asg 3 (.call u0 (.cons (.var 0) (.cons (.var 1) (.nil))))) (.cons (.asg 4 (.lst (.nil))) (.cons (.fW 0 [5] (.seq (.call O3 (.cons (.call Ew (.cons (.var 0) (.cons (.var 1) (.nil)))) (.nil)))) (.cons (.asg 6 (.tup (.cons (.var 5) (.cons (.lit (.int 0)) (.nil))))) (.cons (.iff (.cmp .ne (.idx (.call pN (.cons (.var 6) (.cons (.var 2) (.nil)))) (.lit (.int 0))) (.lit (.int 0))) (.cons (.app 4 (.call O2 (.cons (.var 5) (.cons (.var 3) (.nil))))) (.cons (.asg 2 (.call rY (.cons (.var 2) (.cons (.var 6) (.nil))))) (.nil))) (.nil)) (.nil)))) (.cons (.ret (.tupI (.seq (.prim .sorted (.var 4))))) (.nil)))))
noncomputable def xO(O8:Nat):B:=.cons (.asg 1 (.prim .max (.comp (.prim .len (.var 2)) 0 (.seq (.idx (.var 0) (.lit (.int 1)))) (.none)))) (.cons (.ret (.tupI (.seq (.comp (.prim .len (.call O8 (.cons (.var 0) (.cons (.var 2) (.nil))))) 0 (.fa (.var 1)) (.none))))) (.nil))
noncomputable def xM(zc:Nat):B:=.cons (.ret (.prim .sum (.comp (.ite (.cmp .eq (.bin .mod (.prim .len (.var 1)) (.lit (.int 2))) (.lit (.int 1))) (.lit (.int 1)) (.neg (.lit (.int 1)))) 0 (.seq (.call zc (.cons (.var 0) (.nil)))) (.none)))) (.nil)
noncomputable def xR :B:=.cons (.iff (.cmp .lt (.var 1) (.prim .len (.var 0))) (.cons (.ret (.idx (.var 0) (.var 1))) (.nil)) (.nil)) (.cons (.ret (.lit (.int 0))) (.nil))
noncomputable def xY(Ph:Nat):B:=.cons (.asg 2 (.bin .mod (.bin .mul (.bin .add (.bin .add (.call Ph (.cons (.var 0) (.cons (.var 1) (.nil)))) (.bin .mul (.lit (.int 7919)) (.var 1))) (.lit (.int 1))) (.lit (.int 48271))) (.lit (.int 2147483647)))) (.cons (.ret (.bin .mod (.bin .add (.bin .add (.bin .mul (.var 2) (.var 2)) (.bin .mul (.lit (.int 7)) (.var 2))) (.var 1)) (.lit (.int 2147483629)))) (.nil))
noncomputable def xT :B:=.cons (.asg 2 (.bin .mod (.bin .mul (.bin .add (.bin .add (.var 0) (.bin .mul (.lit (.int 104729)) (.var 1))) (.lit (.int 17))) (.lit (.int 69621))) (.lit (.int 2147483647)))) (.cons (.ret (.bin .mod (.bin .add (.bin .add (.bin .mul (.var 2) (.var 2)) (.bin .mul (.lit (.int 3)) (.var 2))) (.var 1)) (.lit (.int 2147483629)))) (.nil))
noncomputable def xX :B:=.cons (.ret (.cmp .eq (.comp (.var 2) 0 (.seq (.var 0)) (.some (.cmp .h5 (.var 2) (.var 1)))) (.lst (.nil)))) (.nil)
noncomputable def x3(Pl:Nat):B:=.cons (.asg 1 (.lst (.nil))) (.cons (.fW 0 [2] (.seq (.prim .eP (.var 0))) (.cons (.iff (.cmp .eq (.comp (.var 3) 0 (.seq (.var 0)) (.some (.and (.cmp .ne (.var 2) (.var 3)) (.call Pl (.cons (.var 2) (.cons (.var 3) (.nil))))))) (.lst (.nil))) (.cons (.app 1 (.var 2)) (.nil)) (.nil)) (.nil))) (.cons (.ret (.tupI (.seq (.var 1)))) (.nil)))
noncomputable def pw(r0:Nat):B:=.cons (.iff (.cmp .eq (.var 1) (.lit (.int 0))) (.cons (.ret (.lst (.cons (.tup (.nil)) (.nil)))) (.nil)) (.nil)) (.cons (.asg 2 (.lst (.nil))) (.cons (.fW 0 [3] (.fa (.prim .len (.var 0))) (.cons (.asg 2 (.bin .add (.var 2) (.comp (.bin .add (.tup (.cons (.idx (.var 0) (.var 3)) (.nil))) (.var 4)) 0 (.seq (.call r0 (.cons (.slice (.var 0) (.some (.bin .add (.var 3) (.lit (.int 1)))) (.none)) (.cons (.bin .sub (.var 1) (.lit (.int 1))) (.nil))))) (.none)))) (.nil))) (.cons (.ret (.var 2)) (.nil))))
noncomputable def x2(EA:Nat):B:=.cons (.asg 2 (.comp (.tup (.cons (.var 6) (.nil))) 0 (.fa (.var 1)) (.none))) (.cons (.fW 0 [3] (.fa (.bin .mod (.var 0) (.lit (.int 9)))) (.cons (.asg 4 (.call EA (.cons (.var 0) (.cons (.var 3) (.nil))))) (.cons (.asg 5 (.tupI (.seq (.comp (.var 6) 0 (.fa (.var 1)) (.some (.cmp .lt (.bin .mod (.call EA (.cons (.var 4) (.cons (.var 6) (.nil)))) (.lit (.int 5))) (.bin .add (.lit (.int 2)) (.bin .mod (.var 4) (.lit (.int 2)))))))))) (.cons (.iff (.cmp .ne (.var 5) (.tup (.nil))) (.cons (.app 2 (.var 5)) (.nil)) (.nil)) (.nil))))) (.cons (.oT 2) (.nil)))
noncomputable def xZ(zq:Nat)(r0:Nat)(Pz:Nat):B:=.cons (.asg 2 (.bin .add (.lit (.int 1)) (.bin .mod (.var 0) (.var 1)))) (.cons (.asg 3 (.bin .mod (.bin .fdiv (.var 0) (.lit (.int 12))) (.lit (.int 8)))) (.cons (.iff (.cmp .eq (.var 3) (.lit (.int 0))) (.cons (.asg 4 (.call r0 (.cons (.tupI (.fa (.var 2))) (.cons (.bin .add (.lit (.int 1)) (.bin .mod (.bin .fdiv (.var 0) (.lit (.int 96))) (.var 2))) (.nil))))) (.nil)) (.cons (.iff (.and (.cmp .eq (.var 3) (.lit (.int 1))) (.cmp .gt (.var 1) (.lit (.int 5)))) (.cons (.asg 2 (.lit (.int 6))) (.cons (.asg 4 (.comp (.tup (.cons (.lit (.int 0)) (.cons (.bin .add (.lit (.int 1)) (.var 5)) (.cons (.bin .add (.lit (.int 1)) (.bin .mod (.bin .add (.var 5) (.lit (.int 1))) (.lit (.int 5)))) (.nil))))) 0 (.fa (.lit (.int 5))) (.none))) (.cons (.asg 4 (.bin .add (.var 4) (.comp (.tup (.cons (.bin .add (.lit (.int 1)) (.var 5)) (.cons (.bin .add (.lit (.int 1)) (.bin .mod (.bin .add (.var 5) (.lit (.int 1))) (.lit (.int 5)))) (.cons (.bin .add (.lit (.int 1)) (.bin .mod (.bin .add (.var 5) (.lit (.int 3))) (.lit (.int 5)))) (.nil))))) 0 (.fa (.lit (.int 5))) (.none)))) (.nil)))) (.cons (.iff (.and (.cmp .eq (.var 3) (.lit (.int 2))) (.cmp .gt (.var 1) (.lit (.int 6)))) (.cons (.asg 2 (.lit (.int 7))) (.cons (.asg 4 (.comp (.tup (.cons (.var 5) (.cons (.bin .mod (.bin .add (.var 5) (.lit (.int 1))) (.lit (.int 7))) (.cons (.bin .mod (.bin .add (.var 5) (.lit (.int 3))) (.lit (.int 7))) (.nil))))) 0 (.fa (.lit (.int 7))) (.none))) (.cons (.asg 4 (.bin .add (.var 4) (.comp (.tup (.cons (.var 5) (.cons (.bin .mod (.bin .add (.var 5) (.lit (.int 2))) (.lit (.int 7))) (.cons (.bin .mod (.bin .add (.var 5) (.lit (.int 3))) (.lit (.int 7))) (.nil))))) 0 (.fa (.lit (.int 7))) (.none)))) (.nil)))) (.cons (.asg 4 (.call Pz (.cons (.bin .fdiv (.var 0) (.lit (.int 96))) (.cons (.var 2) (.nil))))) (.nil))) (.nil))) (.nil))) (.cons (.ret (.tup (.cons (.var 2) (.cons (.call zq (.cons (.comp (.tupI (.seq (.prim .sorted (.var 5)))) 0 (.seq (.var 4)) (.none)) (.nil))) (.nil))))) (.nil))))
noncomputable def xS(r0:Nat):B:=.cons (.asg 2 (.lst (.nil))) (.cons (.fW 0 [3] (.seq (.idx (.var 0) (.lit (.int 1)))) (.cons (.asg 2 (.bin .add (.var 2) (.call r0 (.cons (.var 3) (.cons (.bin .add (.var 1) (.lit (.int 1))) (.nil)))))) (.nil))) (.cons (.ret (.prim .eP (.var 2))) (.nil)))
noncomputable def xV :B:=.cons (.ret (.prim .max (.comp (.prim .len (.var 1)) 0 (.seq (.idx (.var 0) (.lit (.int 1)))) (.none)))) (.nil)
noncomputable def xU(Pk:Nat)(Pj:Nat):B:=.cons (.asg 1 (.lst (.nil))) (.cons (.fW 0 [2] (.fa (.call Pk (.cons (.var 0) (.nil)))) (.cons (.asg 1 (.bin .add (.var 1) (.call Pj (.cons (.var 0) (.cons (.var 2) (.nil)))))) (.nil))) (.cons (.ret (.var 1)) (.nil)))
noncomputable def x1(zq:Nat):B:=.cons (.asg 1 (.lst (.nil))) (.cons (.fW 0 [2] (.seq (.var 0)) (.cons (.asg 1 (.bin .add (.var 1) (.kL (.seq (.var 2))))) (.nil))) (.cons (.asg 1 (.prim .eP (.var 1))) (.cons (.ret (.tup (.cons (.prim .len (.var 1)) (.cons (.call zq (.cons (.comp (.tupI (.seq (.comp (.kK 1 4) 0 (.seq (.var 3)) (.none)))) 0 (.seq (.var 0)) (.none)) (.nil))) (.nil))))) (.nil))))
noncomputable def xW :B:=.cons (.asg 1 (.kL (.seq (.var 0)))) (.cons (.oW 1 (.bin .sub (.idx (.var 1) (.lit (.int 0))) (.lit (.int 1)))) (.cons (.qV (.and (.cmp .ne (.var 1) (.lst (.nil))) (.cmp .eq (.idx (.var 1) (.neg (.lit (.int 1)))) (.lit (.int 0)))) (.cons (.pop 1) (.nil))) (.cons (.oT 1) (.nil))))
noncomputable def xQ(zg:Nat):B:=.cons (.asg 2 (.call zg (.cons (.var 0) (.nil)))) (.cons (.ret (.comp (.var 3) 0 (.seq (.var 2)) (.some (.and (.cmp .h5 (.var 1) (.var 3)) (.cmp .mem (.tupI (.seq (.prim .sorted (.bin .add (.var 3) (.tup (.cons (.var 1) (.nil))))))) (.var 2)))))) (.nil))
noncomputable def lu(OX:Nat)(Pf:Nat)(OU:Nat)(yt:Nat)(LO:Nat):B:=.cons (.o6 (.cmp .eq (.var 0) (.lit (.int 0))) (.call OX (.cons (.var 1) (.cons (.var 2) (.nil)))) (.cmp .eq (.var 0) (.lit (.int 1))) (.call Pf (.cons (.var 1) (.cons (.var 2) (.nil)))) (.call OU (.cons (.var 1) (.nil))) yt ⟨3,LO,1000⟩) (.nil)
noncomputable def ux(Pt:Nat):B:=.cons (.iff (.cmp .eq (.var 0) (.lst (.nil))) (.cons (.ret (.lit (.str (Str.ofString "none")))) (.nil)) (.nil)) (.cons (.ret (.call Pt (.cons (.var 0) (.nil)))) (.nil))
noncomputable def uw(zb:Nat):B:=.cons (.iff (.cmp .eq (.var 0) (.lit (.str (Str.ofString "none")))) (.cons (.ret (.lit (.int 0))) (.nil)) (.nil)) (.cons (.ret (.call zb (.cons (.var 0) (.nil)))) (.nil))
noncomputable def rp(zj:Nat)(zd:Nat)(zb:Nat)(Ey:Nat)(EB:Nat)(zg:Nat)(Pg:Nat)(ER:Nat)(EK:Nat)(Pr:Nat):B:=.cons (.asg 1 (.call Pr (.cons (.call EK (.cons (.var 0) (.cons (.lit (.int 0)) (.nil)))) (.cons (.lit (.int 6)) (.nil))))) (.cons (.asg 2 (.bin .mod (.call EK (.cons (.var 0) (.cons (.lit (.int 1)) (.nil)))) (.idx (.var 1) (.lit (.int 0))))) (.cons (.asg 3 (.call ER (.cons (.lit (.int 0)) (.cons (.var 1) (.cons (.var 2) (.nil)))))) (.cons (.asg 4 (.call ER (.cons (.lit (.int 1)) (.cons (.var 1) (.cons (.var 2) (.nil)))))) (.cons (.iff (.cmp .ne (.var 3) (.call EB (.cons (.call Pg (.cons (.var 1) (.cons (.var 2) (.nil)))) (.nil)))) (.cons (.ret (.lit (.aV false))) (.nil)) (.nil)) (.cons (.iff (.cmp .ne (.var 4) (.call EB (.cons (.comp (.var 5) 0 (.seq (.call zg (.cons (.var 1) (.nil)))) (.some (.cmp .h5 (.var 2) (.var 5)))) (.nil)))) (.cons (.ret (.lit (.aV false))) (.nil)) (.nil)) (.cons (.iff (.cmp .ne (.call zb (.cons (.var 1) (.nil))) (.bin .sub (.bin .add (.call Ey (.cons (.var 4) (.nil))) (.lit (.int 1))) (.call Ey (.cons (.var 3) (.nil))))) (.cons (.ret (.lit (.aV false))) (.nil)) (.nil)) (.cons (.iff (.and (.cmp .ne (.var 3) (.lit (.str (Str.ofString "none")))) (.cmp .eq (.call zj (.cons (.call zd (.cons (.var 3) (.nil))) (.nil))) (.lst (.nil)))) (.cons (.ret (.cmp .eq (.call zj (.cons (.call zd (.cons (.var 1) (.nil))) (.nil))) (.call zj (.cons (.call zd (.cons (.var 4) (.nil))) (.nil))))) (.nil)) (.nil)) (.cons (.ret (.lit (.aV true))) (.nil)))))))))
end aW
end
section
namespace e4
open PySem Den
noncomputable def fds:List ll:=[
 ⟨1,0,aW.yc⟩,
 ⟨2,0,aW.x5⟩,
 ⟨2,0,aW.x6 1⟩,
 ⟨1,4,aW.ye 2⟩,
 ⟨1,2,aW.xJ⟩,
 ⟨1,2,aW.xN 4⟩,
 ⟨2,0,aW.xI 5⟩,
 ⟨1,3,aW.uy 3 1⟩,
 ⟨2,0,aW.x4⟩,
 ⟨2,0,aW.xF 7 8⟩,
 ⟨2,0,aW.yf 7 8⟩,
 ⟨1,4,aW.Lr⟩,
 ⟨2,3,aW.x8 6⟩,
 ⟨2,0,aW.xH⟩,
 ⟨2,0,aW.xK⟩,
 ⟨2,2,aW.ya 13 0 12⟩,
 ⟨2,0,aW.yd⟩,
 ⟨2,1,aW.x9 16⟩,
 ⟨1,0,aW.x7⟩,
 ⟨2,4,aW.uv 17 18⟩,
 ⟨1,2,aW.xG 19⟩,
 ⟨1,4,aW.xP 19 17⟩,
 ⟨2,5,aW.yb 21 15 17 19 14 12 20⟩,
 ⟨1,1,aW.xO 22⟩,
 ⟨1,0,aW.xM 5⟩,
 ⟨2,0,aW.xR⟩,
 ⟨2,1,aW.xY 25⟩,
 ⟨2,1,aW.xT⟩,
 ⟨2,0,aW.xX⟩,
 ⟨1,2,aW.x3 28⟩,
 ⟨2,2,aW.pw 30⟩,
 ⟨2,4,aW.x2 27⟩,
 ⟨2,3,aW.xZ 29 30 31⟩,
 ⟨2,2,aW.xS 30⟩,
 ⟨1,0,aW.xV⟩,
 ⟨1,2,aW.xU 34 33⟩,
 ⟨1,2,aW.x1 29⟩,
 ⟨1,1,aW.xW⟩,
 ⟨2,1,aW.xQ 35⟩,
 ⟨3,1,aW.lu 9 10 11 1 0⟩,
 ⟨1,0,aW.ux 36⟩,
 ⟨1,0,aW.uw 24⟩,
 ⟨1,4,aW.rp 37 23 24 41 40 35 38 39 26 32⟩]
noncomputable def cs:List D:=[]
noncomputable def up:kc:=λc=>match c with|0=>[0,1000]|1=>[1,0,1000]|_=>[]
noncomputable def pg:eV:=⟨up,cs⟩
noncomputable def G6:List (List Str):=[
 (["cell"]:List Str),
 (["cell","other"]:List Str),
 (["cell","others"]:List Str),
 (["some","distinct","tops","cell","longer"]:List Str),
 (["top","found","corner"]:List Str),
 (["net","found","top"]:List Str),
 (["net","height"]:List Str),
 (["some","met","cell","left"]:List Str),
 (["cell","corner"]:List Str),
 (["net","corner"]:List Str),
 (["net","corner"]:List Str),
 (["net","corners","found","cell","rest"]:List Str),
 (["net","height","found","bit","cell"]:List Str),
 (["chain","marked"]:List Str),
 (["bits","marked"]:List Str),
 (["net","height","lower","own"]:List Str),
 (["one","other"]:List Str),
 (["row","basis","pivot"]:List Str),
 (["bits"]:List Str),
 (["basis","row","left","pivot","wider","other"]:List Str),
 (["rows","basis","row"]:List Str),
 (["rows","basis","found","row","left"]:List Str),
 (["net","height","reached","marked","found","bits","row"]:List Str),
 (["net","highest"]:List Str),
 (["net"]:List Str),
 (["_law_script","_law_k"]:List Str),
 (["_law_script","_law_k","_law_drawn_here"]:List Str),
 (["_law_number","_law_k","_law_drawn_here"]:List Str),
 (["_law_cell","_law_other"]:List Str),
 (["_law_some_here","_law_found","_law_cell"]:List Str),
 (["_law_cell","_law_size","_law_found","_law_at"]:List Str),
 (["_law_number","_law_many","_law_found","_law_k","_law_drawn_here","_law_cell"]:List Str),
 (["_law_number","_law_most","_law_many","_law_kind","_law_some_here"]:List Str),
 (["_law_net_here","_law_height","_law_found","_law_top"]:List Str),
 (["_law_net_here"]:List Str),
 (["_law_net_here","_law_found","_law_height"]:List Str),
 (["_law_some_here","_law_corners","_law_cell"]:List Str),
 (["_law_some_here","_law_found"]:List Str),
 (["_law_net_here","_law_corner","_law_every_here"]:List Str),
 (["_law_which","_law_net_here","_law_corner","e"]:List Str),
 (["_law_some_here"]:List Str),
 (["_law_net_here"]:List Str),
 (["_law_script","_law_net_here","_law_corner","_law_near","_law_rest"]:List Str)]
noncomputable def gt:Gt:=⟨[("sides":Str),("lies_in":Str),("lies_in_one":Str),("uppermost":Str),("cells_within":Str),("every_cell":Str),("cells_of_height":Str),("numbered_anew":Str),("left_out":Str),("around":Str),("without":Str),("against":Str),("marks":Str),("bits_of":Str),("chain_of":Str),("rim_rows":Str),("sum_of_rows":Str),("reduced":Str),("lowest_bit":Str),("grown":Str),("basis_of":Str),("idle_parts":Str),("rounds_about":Str),("holes":Str),("counted":Str),("_law_cell_at":Str),("_law_mixed":Str),("_law_drawn":Str),("_law_lies":Str),("_law_tops":Str),("_law_parts":Str),("_law_some":Str),("_law_net":Str),("_law_cells":Str),("_law_high":Str),("_law_every":Str),("_law_numbered":Str),("_law_less":Str),("_law_around":Str),("_law_told":Str),("_law_due":Str),("_law_counted":Str),("law":Str)],["HoleError","NoNet"],[]⟩
end e4
end
section
namespace Den
section
variable{pg:eV}{Φ:fe}{ρ:bw}
noncomputable def xv(pg:eV)(Φ:fe)(ρ:bw)(r:R D)(b:E):R D:=r>>=λx=>ei x>>=λk=>if k then ev pg Φ ρ b else .ok (.aV false)
noncomputable def BI(pg:eV)(Φ:fe)(r:R et)(b:B):R et:=r>>=λx=>match x with
 |.bD bP=>eL pg Φ bP b
 |.cC d=>.ok (.cC d)
noncomputable def Aq(pg:eV)(Φ:fe)(ρ:bw)(r:R D)(a b:B):R et:=r>>=λx=>ei x>>=λk=>if k then eL pg Φ ρ a else eL pg Φ ρ b
noncomputable def turn(pg:eV)(Φ:fe)(k:Nat)(ts:List Nat)(b:B)(d:D)(ρ:bw):R et:=gx k d>>=λah=>eL pg Φ (l5 ts ah ρ) b
noncomputable def elem(pg:eV)(Φ:fe)(ρ:bw)(e:E)(k:Nat)(c:O)(d:D):R (Option D):=gx k d>>=λah=>mQ pg Φ (ρ++ah) c>>=λb=>if b then ev pg Φ (ρ++ah) e>>=λy=>.ok (some y) else .ok none
def y6(i:Nat){d:D}(h:ρ[i]?=some (some d)):ev pg Φ ρ (.var i)=.ok d:=ab6 zx h
def uT(i:Nat):ev pg Φ ρ (.var i)=zx ρ[i]?:=ba rfl
def Ou{d:D}{r:bw}:ev pg Φ (some d::r) (.var 0)=.ok d:=ba rfl
def Ov{o:Option D}{r:bw}{i:Nat}:ev pg Φ (o::r) (.var (i+1))=ev pg Φ r (.var i):=ba rfl
def Em(d:D):ev pg Φ ρ (.lit d)=.ok d:=ba rfl
def Ot(a:A):ev pg Φ ρ (.tup a)=hP pg Φ ρ a>>=λds=>.ok (.tup ds):=ba rfl
def Ol(a:A):ev pg Φ ρ (.lst a)=hP pg Φ ρ a>>=λds=>.ok (.lst ds):=ba rfl
def Of(op:Op)(a b:E):ev pg Φ ρ (.bin op a b)=ev pg Φ ρ a>>=λx=>ev pg Φ ρ b>>=λy=>ej op x y:=ba rfl
def Ep(a:E):ev pg Φ ρ (.neg a)=ev pg Φ ρ a>>=λx=>iH x>>=λi=>.ok (.int (-i)):=ba rfl
def uR(i:Nat):hy pg Φ ρ (.mM i)=pF ρ[i]?:=ba rfl
def Om(a:E):ev pg Φ ρ (.not a)=ev pg Φ ρ a>>=λx=>ei x>>=λb=>.ok (.aV (!b)):=ba rfl
def Oh(op:q2)(a b:E):ev pg Φ ρ (.cmp op a b)=ev pg Φ ρ a>>=λx=>ev pg Φ ρ b>>=λy=>e5 op x y>>=λc=>.ok (.aV c):=ba rfl
def Oe(a b:E):ev pg Φ ρ (.and a b)=xv pg Φ ρ (ev pg Φ ρ a) b:=ba rfl
def Oj(a b:E):ev pg Φ ρ (.idx a b)=ev pg Φ ρ a>>=λx=>ev pg Φ ρ b>>=λy=>gD x y:=ba rfl
def Oq(a:E)(lo ai:O):ev pg Φ ρ (.slice a lo ai)=ev pg Φ ρ a>>=λx=>mR pg Φ ρ lo>>=λl=>mR pg Φ ρ ai>>=λh=>kX x l h:=ba rfl
def Og(f:Nat)(a:A):ev pg Φ ρ (.call f a)=hP pg Φ ρ a>>=λds=>Φ f ds:=ba rfl
def Oo(p:ef)(a:E):ev pg Φ ρ (.prim p a)=ev pg Φ ρ a>>=λx=>kS pg.up p x:=ba rfl
def y5(s:I):ev pg Φ ρ (.tupI s)=hy pg Φ ρ s>>=λds=>.ok (.tup ds):=ba rfl
def Eo(s:I):ev pg Φ ρ (.kL s)=hy pg Φ ρ s>>=λds=>.ok (.lst ds):=ba rfl
def Ej(e:E)(k:Nat)(s:I)(c:O):ev pg Φ ρ (.comp e k s c)=hy pg Φ ρ s>>=λds=>lZ (cV (elem pg Φ ρ e k c) ds)>>=λys=>.ok (.lst ys):=ba rfl
def vO{α:Type}(a:α):lZ (.ok a)=.ok a:=ba rfl
def Eh:hP pg Φ ρ .nil=.ok []:=ba rfl
def Eg(e:E)(a:A):hP pg Φ ρ (.cons e a)=ev pg Φ ρ e>>=λx=>hP pg Φ ρ a>>=λxs=>.ok (x::xs):=ba rfl
def Oc:mR pg Φ ρ .none=.ok none:=ba rfl
def Od(e:E):mR pg Φ ρ (.some e)=ev pg Φ ρ e>>=λx=>iH x>>=λi=>.ok (some i):=ba rfl
def Ei:mQ pg Φ ρ .none=.ok true:=ba rfl
def Oa(e:E):mQ pg Φ ρ (.some e)=ev pg Φ ρ e>>=λx=>ei x:=ba rfl
def uS(e:E):hy pg Φ ρ (.seq e)=ev pg Φ ρ e>>=λx=>en x:=ba rfl
def Ob(a:E):hy pg Φ ρ (.fa a)=ev pg Φ ρ a>>=λx=>iH x>>=λi=>kW 0 i:=ba rfl
def Lh(b:Bool):ei (.aV b)=.ok b:=ba rfl
def Li(i:Int):iH (.int i)=.ok i:=ba rfl
def W7(xs:List D):en (.tup xs)=.ok xs:=ba rfl
def IL(xs:List D):en (.lst xs)=.ok xs:=ba rfl
def Ly(d:D):gx 0 d=.ok [some d]:=ba rfl
def KS(b:E):xv pg Φ ρ (.ok (.aV true)) b=ev pg Φ ρ b:=ba rfl
def KR(b:E):xv pg Φ ρ (.ok (.aV false)) b=.ok (.aV false):=ba rfl
def OB:eL pg Φ ρ .nil=.ok (.bD ρ):=ba rfl
def OA(s:S)(b:B):eL pg Φ ρ (.cons s b)=BI pg Φ (ex pg Φ ρ s) b:=ba rfl
def W4(b:B):BI pg Φ (.ok (.bD ρ)) b=eL pg Φ ρ b:=ba rfl
def W5(d:D)(b:B):BI pg Φ (.ok (.cC d)) b=.ok (.cC d):=ba rfl
def Er(i:Nat)(e:E):ex pg Φ ρ (.asg i e)=ev pg Φ ρ e>>=λd=>.ok (.bD (ρ.set i (some d))):=ba rfl
noncomputable def Cd(pg:eV)(r:R et)(k:Nat)(h:aU):R et:=JO r λc=>iJ pg c k h
def rX(cF aH bU aT de:E)(k:Nat)(h:aU):ex pg Φ ρ (.o6 cF aH bU aT de k h)=Cd pg (jK pg Φ ρ cF aH bU aT de) k h:=ba rfl
def El(c a b:E):ev pg Φ ρ (.ite c a b)=ev pg Φ ρ c>>=λx=>ei x>>=λk=>if k then ev pg Φ ρ a else ev pg Φ ρ b:=ba rfl
def Cf(x:et)(k:Nat)(h:aU):Cd pg (.ok x) k h=.ok x:=ba rfl
def Ce(c k:Nat)(h:aU):Cd pg (.exc c) k h=iJ pg c k h:=ba rfl
def OC(i:Nat)(e:E):ex pg Φ ρ (.app i e)=mG ρ[i]?>>=λ_=>ev pg Φ ρ e>>=λd=>rk ρ[i]? d>>=λx=>.ok (.bD (ρ.set i (some x))):=ba rfl
def OJ(i:Nat):ex pg Φ ρ (.oT i)=vI ρ[i]?>>=λd=>.ok (.cC d):=ba rfl
def SY(ds:List D):vI (some (some (.lst ds)))=.ok (.lst ds):=ba rfl
def OI(e:E):ex pg Φ ρ (.ret e)=ev pg Φ ρ e>>=λd=>.ok (.cC d):=ba rfl
def OG(c:E)(a b:B):ex pg Φ ρ (.iff c a b)=Aq pg Φ ρ (ev pg Φ ρ c) a b:=ba rfl
def RL(a b:B):Aq pg Φ ρ (.ok (.aV true)) a b=eL pg Φ ρ a:=ba rfl
def RK(a b:B):Aq pg Φ ρ (.ok (.aV false)) a b=eL pg Φ ρ b:=ba rfl
def OF(k:Nat)(ts:List Nat)(s:I)(b:B):ex pg Φ ρ (.fW k ts s b)=hy pg Φ ρ s>>=λds=>forL (turn pg Φ k ts b) ds ρ:=ba rfl
def V6{nl:Nat}{b:B}(x:D):cL pg Φ ⟨1,nl,b⟩ [x]=mP (eL pg Φ (some x::List.replicate nl none) b):=ba rfl
def V7{nl:Nat}{b:B}(x y:D):cL pg Φ ⟨2,nl,b⟩ [x,y]=mP (eL pg Φ (some x::some y::List.replicate nl none) b):=ba rfl
def NX(d:D):mP (.ok (.cC d))=.ok d:=ba rfl
def Vh(up:kc)(d:D):kS up .len d=lW d:=ba rfl
def Vi(up:kc)(d:D):kS up .sorted d=en d>>=λxs=>sorted xs:=ba rfl
def Vj(up:kc)(d:D):kS up .eP d=en d>>=λxs=>eP xs:=ba rfl
def Vf(up:kc)(d:D):kS up .all d=en d>>=λxs=>mA xs>>=λb=>.ok (.aV b):=ba rfl
def Vg(up:kc)(d:D):kS up .any d=en d>>=λxs=>mB xs>>=λb=>.ok (.aV b):=ba rfl
def AG(xs:List D):lW (.tup xs)=.ok (.int xs.length):=ba rfl
def SH(xs:List D):lW (.lst xs)=.ok (.int xs.length):=ba rfl
def DK(x y:D):e5 .eq x y=fk x y:=ba rfl
def DN(x y:D):e5 .ne x y=hI (fk x y):=ba rfl
def DL(x y:D):e5 .lt x y=vJ x y:=ba rfl
def cmp_gt(i j:Int):e5 .gt (.int i) (.int j)=.ok (decide (j<i)):=ba rfl
def Mh(x:D)(ys:List D):e5 .mem x (.tup ys)=gG x ys:=ba rfl
def Mj(x:D)(ys:List D):e5 .h5 x (.tup ys)=hI (gG x ys):=ba rfl
def Mi(x:D)(ys:List D):e5 .h5 x (.lst ys)=hI (gG x ys):=ba rfl
def S4(i j:Int):vJ (.int i) (.int j)=.ok (decide (i<j)):=ba rfl
def TR(b:Bool):hI (.ok b)=.ok (!b):=ba rfl
def N3(i j:Int):fk (.int i) (.int j)=.ok (i==j):=ba rfl
def y2{x y:D}(h:c5 60 x=true)(h':c5 60 y=true):fk x y=.ok (gf x y):=by simp only[fk,h,h',aeD,abU]
def add_int(i j:Int):ej .add (.int i) (.int j)=.ok (.int (i+j)):=ba rfl
def sub_int(i j:Int):ej .sub (.int i) (.int j)=.ok (.int (i-j)):=ba rfl
def ri(xs ys:List D):ej .add (.tup xs) (.tup ys)=if xs.length+ys.length<=SZ then .ok (.tup (xs++ys)) else .bad:=ba rfl
def mz(xs ys:List D):ej .add (.lst xs) (.lst ys)=if xs.length+ys.length<=SZ then .ok (.lst (xs++ys)) else .bad:=ba rfl
def mul_int(i j:Int):ej .mul (.int i) (.int j)=if (-g0<i/\i<g0)\/(-g0<j/\j<g0) then .ok (.int (i*j)) else .bad:=ba rfl
def Ez(i j:Int):ej .fdiv (.int i) (.int j)=if 0<j/\j<1073741824 then .ok (.int (i / j)) else .bad:=ba rfl
def mod_int(i j:Int):ej .mod (.int i) (.int j)=if 0<j then .ok (.int (i%j)) else .bad:=ba rfl
def FX(xs:List D)(i:Int):gD (.tup xs) (.int i)=(match iL xs i with|some d=>.ok d|none=>.bad):=ba rfl
def vx(xs:List D)(i:Int):gD (.lst xs) (.int i)=(match iL xs i with|some d=>.ok d|none=>.bad):=ba rfl
def wx(xs:List D)(lo ai:Option Int):kX (.tup xs) lo ai=.ok (.tup (cut xs lo ai)):=ba rfl
def I1(xs:List D)(lo ai:Option Int):kX (.lst xs) lo ai=.ok (.lst (cut xs lo ai)):=ba rfl
def yu(xs:List D):mG (some (some (.lst xs)))=.ok ():=ba rfl
def uq(xs:List D)(d:D):rk (some (some (.lst xs))) d=if xs.length<SZ then .ok (.lst (xs++[d])) else .bad:=ba rfl
def W9{o v:Option D}{r:bw}:(o::r:bw).set 0 v=v::r:=ba rfl
def Xc{o v:Option D}{r:bw}{i:Nat}:(o::r:bw).set (i+1) v=o::r.set i v:=ba rfl
def PD{o:Option D}{r:bw}:(o::r:bw)[0]?=some o:=ba rfl
def PK{o:Option D}{r:bw}{i:Nat}:(o::r:bw)[i+1]?=r[i]?:=ba rfl
def VQ{α:Type}(x:α):List.replicate 0 x=[]:=ba rfl
def VR{α:Type}(n:Nat)(x:α):List.replicate (n+1) x=x::List.replicate n x:=ba rfl
def Y2(i:Nat)(b:B)(d:D):turn pg Φ 0 [i] b d ρ=eL pg Φ (ρ.set i (some d)) b:=ba rfl
def uP(e:E)(c:O)(d:D):elem pg Φ ρ e 0 c d=mQ pg Φ (ρ++[some d]) c>>=λb=>if b then ev pg Φ (ρ++[some d]) e>>=λy=>.ok (some y) else .ok none:=ba rfl
end
end Den
end
section
def Den.DNA:=And.intro (And.intro (And.intro (And.intro (And.intro (And.intro (@Den.Ou) (@Den.Ov)) (And.intro (@Den.Em) (And.intro (@Den.Ot) (@Den.Ol)))) (And.intro (And.intro (@Den.Of) (And.intro (@Den.Om) (@Den.Oh))) (And.intro (@Den.Oe) (And.intro (@Den.Oj) (@Den.Oq))))) (And.intro (And.intro (And.intro (@Den.Og) (@Den.Oo)) (And.intro (@Den.y5) (And.intro (@Den.Eo) (@Den.Ej)))) (And.intro (And.intro (@Den.vO) (And.intro (@Den.Eh) (@Den.Eg))) (And.intro (@Den.Oc) (And.intro (@Den.Od) (@Den.Ei)))))) (And.intro (And.intro (And.intro (And.intro (@Den.Oa) (@Den.uS)) (And.intro (@Den.Ob) (And.intro (@Den.Lh) (@Den.Li)))) (And.intro (And.intro (@Den.W7) (And.intro (@Den.IL) (@Den.Ly))) (And.intro (@Den.KS) (And.intro (@Den.KR) (@Den.OB))))) (And.intro (And.intro (And.intro (@Den.OA) (And.intro (@Den.W4) (@Den.W5))) (And.intro (@Den.Er) (And.intro (@Den.OC) (@Den.yu)))) (And.intro (And.intro (@Den.OI) (And.intro (@Den.OJ) (@Den.SY))) (And.intro (@Den.OG) (And.intro (@Den.RL) (@Den.RK))))))) (And.intro (And.intro (And.intro (And.intro (And.intro (@Den.OF) (@Den.V6)) (And.intro (@Den.V7) (And.intro (@Den.NX) (@Den.Vh)))) (And.intro (And.intro (@Den.Vi) (And.intro (@Den.Vj) (@Den.Vf))) (And.intro (@Den.Vg) (And.intro (@Den.AG) (@Den.SH))))) (And.intro (And.intro (And.intro (@Den.DK) (@Den.DN)) (And.intro (@Den.DL) (And.intro (@Den.cmp_gt) (@Den.Mh)))) (And.intro (And.intro (@Den.Mj) (And.intro (@Den.Mi) (@Den.S4))) (And.intro (@Den.TR) (And.intro (@Den.N3) (@Den.add_int)))))) (And.intro (And.intro (And.intro (And.intro (@Den.sub_int) (@Den.wx)) (And.intro (@Den.I1) (And.intro (@Den.W9) (@Den.Xc)))) (And.intro (And.intro (@Den.PD) (And.intro (@Den.PK) (@Den.VQ))) (And.intro (@Den.VR) (And.intro (@Den.Y2) (@Den.uP))))) (And.intro (And.intro (And.intro (@Den.R.jn) (And.intro (@Den.R.ON) (@ack.{0}))) (And.intro (@List.nil_append.{0}) (And.intro (@List.length_cons.{0}) (@List.length_nil.{0})))) (And.intro (And.intro (@acC) (And.intro (@abU.{1}) (@acp))) (And.intro (@ael) (And.intro (@aa6) (@abp.{1})))))))
end
local macro_rules | `(tactic| simp![$xs,*] $[$l]?) => `(tactic| simp only [Den.DNA, Nat.reduceAdd, $xs,*] $[$l]?)
local macro_rules | `(tactic| simp! $[$l:location]?) => `(tactic| simp only [Den.DNA, Nat.reduceAdd] $[$l]?)
section
namespace bg
open Den
theorem DQ:∀{ds:List D},(∀d∈ds,f d=.ok (g d))->cV f ds=.ok (ds.filterMap g)
 |[],_=>rfl
 |d::ds,h=>by
  have J:=h d List.mem_cons_self;have aa:=DQ (f:=f) (g:=g) (ds:=ds) λx ak=>h x (List.mem_cons_of_mem _ ak)
  unfold cV;rw[J];simp only[R.jn];rw[aa];simp only[R.jn,List.filterMap_cons];cases g d<;>rfl
theorem yn{α:Type}(p):∀xs:List α,ic (xs.map λx=>.aV (p x))=some (xs.map p)
 |[]=>rfl
 |x::xs=>by simp only[List.map_cons,ic,yn p xs,Option.map_some]
def KO{α:Type}(p)(xs:List α):mA (xs.map λx=>.aV (p x))=.ok (xs.all p):=by
 unfold mA;rw[yn];simp only[List.all_map];rfl
def KV{α:Type}(p)(xs:List α):mB (xs.map λx=>.aV (p x))=.ok (xs.any p):=by
 unfold mB;rw[yn];simp only[List.any_map];rfl
theorem EM{α:Type}{f:α->D}(I:List α->bw->Prop)(all):∀(xs pre:List α)(ρ:bw),all=pre++xs->I pre ρ ->
  (∀pre x post ρ,all=pre++x::post->I pre ρ->∃bP,g (f x) ρ=.ok (.bD bP)/\I (pre++[x]) bP)->∃bP,forL g (xs.map f) ρ=.ok (.bD bP)/\I all bP
 |[],pre,ρ,e,h,_=>⟨ρ,rfl,by rw[e];simpa using h⟩
 |x::xs,pre,ρ,e,h,af=>by
  obtain⟨ZJ,e1,eW⟩:=af pre x xs ρ e h;obtain⟨j3,ar,gR⟩:=EM I all xs (pre++[x]) ZJ (by rw[e];simp) eW af;refine⟨j3,?_,gR⟩;simp only[List.map_cons,forL,e1,R.jn];exact ar
def hB{α:Type}{f:α->D}(I:List α->bw->Prop)(xs)(ρ)(h:I [] ρ)(af:∀pre x post ρ,xs=pre++x::post->I pre ρ->∃bP,g (f x) ρ=.ok (.bD bP)/\I (pre++[x]) bP):∃bP,forL g (xs.map f) ρ=.ok (.bD bP)/\I xs bP :=
 EM I xs xs [] ρ rfl h af
noncomputable def av(c:List Int):D:=.tup (c.map .int)
theorem yW:∀a b:List Int,kl (a.map .int) (b.map .int)=decide (a=b)
 |[],[]=>rfl
 |[],_::_=>rfl
 |_::_,[]=>rfl
 |x::a,y::b=>by
  show(x==y&&kl (a.map .int) (b.map .int))=_;rw[yW a b]
  by_cases J:x=y
  .subst J;by_cases aa:a=b<;>simp[aa]
  .simp[J]
def pJ(a b):gf (av a) (av b)=decide (a=b):=yW a b
theorem Ec:∀a b:List (List Int),kl (a.map av) (b.map av)=decide (a=b)
 |[],[]=>rfl
 |[],_::_=>rfl
 |_::_,[]=>rfl
 |x::a,y::b=>by
  show(gf (av x) (av y)&&kl (a.map av) (b.map av))=_;rw[pJ,Ec a b]
  by_cases J:x=y
  .subst J;by_cases aa:a=b<;>simp[aa]
  .simp[J]
noncomputable def lexLt:List Int->List Int->Bool
 |[],[]=>false
 |[],_::_=>true
 |_::_,[]=>false
 |x::xs,y::ys=>if x=y then lexLt xs ys else decide (x<y)
theorem sW:∀a b:List Int,kN (a.map .int) (b.map .int)=some (lexLt a b)
 |[],[]=>rfl
 |[],_::_=>rfl
 |_::_,[]=>rfl
 |x::a,y::b=>by
  show(if (x==y)=true then kN (a.map .int) (b.map .int) else some (decide (x<y)))=some (if x=y then lexLt a b else decide (x<y));rw[sW a b]
  by_cases h:x=y<;>simp[h]
def sV(a b):kM (av a) (av b)=some (lexLt a b):=sW a b
def Td(x)(xs:List Int):memD (.int x) (xs.map .int)=decide (x∈xs):=by
 unfold memD
 induction xs with
 |nil=>simp
 |cons y ys aG =>
  rw[List.map_cons,List.any_cons,aG];show(y==x||_)=_
  by_cases h:y=x
  .subst h;simp
  .have:¬x=y:=λe=>h e.symm
   simp[h,this]
def Tc(c)(cs:List (List Int)):memD (av c) (cs.map av)=decide (c∈cs):=by
 unfold memD
 induction cs with
 |nil=>simp
 |cons y ys aG =>
  simp only[List.map_cons,List.any_cons,aG,pJ,aa8]
  by_cases h:y=c
  .subst h;simp
  .have:¬c=y:=λe=>h e.symm
   simp[h,this]
theorem AL:∀a:List Int,lexLt a a=false
 |[]=>rfl
 |x::a=>by simp[lexLt,AL a]
theorem AM:∀{a b c:List Int},lexLt a b=true->lexLt b c=true->lexLt a c=true
 |[],[],_,h,_=>by simp[lexLt]at h
 |[],_::_,[],_,h=>by simp[lexLt]at h
 |[],_::_,_::_,_,_=>rfl
 |_::_,[],_,h,_=>by simp[lexLt]at h
 |_::_,_::_,[],_,h=>by simp[lexLt]at h
 |x::a,y::b,z::c,J,aa=>by
  simp only[lexLt]at *
  split at J<;>split at aa
  .rename_i e1 ar;subst e1;subst ar;rw[if_pos rfl];exact AM J aa
  .rename_i e1 ar;subst e1;rw[if_neg ar];exact aa
  .rename_i e1 ar;subst ar;rw[if_neg e1];exact J
  .rename_i e1 ar;simp only[abk]at J aa;rw[if_neg ⋯];simp;lia
theorem AK:∀a b:List Int,a≠b->lexLt a b=true\/lexLt b a=true
 |[],[],h=>absurd rfl h
 |[],_::_,_=>.inl rfl
 |_::_,[],_=>.inr rfl
 |x::a,y::b,h=>by
  simp only[lexLt]
  by_cases e:x=y
  .subst e;have h':a≠b:=λe=>h (by rw[e])
   simpa using AK a b h'
  .have bq:¬y=x:=λz=>e z.symm
   rw[if_neg e,if_neg bq];simp only[abk];lia
section
variable{α:Type}
noncomputable def ins(lt:α->α->Bool)(x:α):List α->List α
 |[]=>[x]
 |y::ys=>if lt y x=true then y::ins lt x ys else x::y::ys
noncomputable def cW(lt:α->α->Bool):List α->List α
 |[]=>[]
 |x::xs=>ins lt x (cW lt xs)
noncomputable def cX[DecidableEq α]:List α->List α
 |[]=>[]
 |x::xs=>if x∈xs then cX xs else x::cX xs
variable{lt:α->α->Bool}
theorem FZ(h:∀a b,kM (f a) (f b)=some (lt a b))(x):∀ys:List α,p9 (f x) (ys.map f)=(ins lt x ys).map f
 |[]=>rfl
 |y::ys=>by
  simp only[List.map_cons,p9,ins,h,abV]
  split
  .simp[FZ h x ys]
  .rfl
theorem l6(h:∀a b,kM (f a) (f b)=some (lt a b)):∀xs:List α,hk (xs.map f)=(cW lt xs).map f
 |[]=>rfl
 |x::xs=>by simp only[List.map_cons,hk,cW,l6 h xs,FZ h]
theorem rF[DecidableEq α](h:∀a b,gf (f a) (f b)=decide (a=b)):∀xs:List α,lA (xs.map f)=(cX xs).map f
 |[]=>rfl
 |x::xs=>by
  have e:(xs.map f).any (gf (f x))=decide (x∈xs):=by
   rw[List.any_map]
   induction xs with
   |nil=>simp
   |cons y ys aG=>simp only[List.any_cons,aG,Function.comp,h,aa8];by_cases q:x=y<;>simp[q]
  simp only[List.map_cons,lA,cX,e,rF h xs,abk]
  split<;>rfl
theorem h4(x z):∀ys:List α,z∈ins lt x ys<->z=x\/z∈ys
 |[]=>by simp[ins]
 |y::ys=>by
  unfold ins
  split
  .simp only[aa8,h4 x z ys];constructor
   .rintro(h|h|h)
    .exact .inr (.inl h)
    .exact .inl h
    .exact .inr (.inr h)
   .rintro(h|h|h)
    .exact .inr (.inl h)
    .exact .inl h
    .exact .inr (.inr h)
  .simp
theorem jS(z):∀xs:List α,z∈cW lt xs<->z∈xs
 |[]=>by simp[cW]
 |x::xs=>by unfold cW;rw[h4,jS z xs];simp
theorem kI(x):∀ys:List α,(ins lt x ys).length=ys.length+1
 |[]=>rfl
 |y::ys=>by unfold ins;split<;>simp[kI x ys]
theorem m5:∀xs:List α,(cW lt xs).length=xs.length
 |[]=>rfl
 |x::xs=>by unfold cW;rw[kI,m5 xs];simp
theorem jR[DecidableEq α](z):∀xs:List α,z∈cX xs<->z∈xs
 |[]=>by simp[cX]
 |x::xs=>by
  unfold cX
  split
  .rename_i h;rw[jR z xs,aa8];exact⟨.inr,λq=>q.elim (λe=>e▸h) id⟩
  .simp[jR z xs]
theorem nh[DecidableEq α]:∀xs:List α,(cX xs).Nodup
 |[]=>adn
 |x::xs=>by
  unfold cX
  split
  .exact nh xs
  .rename_i h;exact abD.mpr ⟨λq=>h ((jR x xs).mp q),nh xs⟩
structure g6(lt:α->α->Bool):Prop where
 f3:∀a,lt a a=false
 fF:∀{a b c},lt a b=true->lt b c=true->lt a c=true
 conn:∀a b,a≠b->lt a b=true\/lt b a=true
def cz(lt:α->α->Bool)(xs:List α):Prop:=xs.Pairwise λa b=>lt a b=true
theorem mC(L:g6 lt)(x):∀{ys:List α},cz lt ys->x∉ys->cz lt (ins lt x ys)
 |[],_,_=>acx _ _
 |y::ys,h,ak=>by
  obtain⟨J,aa⟩:=abt.mp h;have sC:x≠y:=λe=>ak (by simp[e])
  unfold ins
  split
  .rename_i q;refine abt.mpr ⟨λz hz=>?_,mC L x aa λq=>ak (List.mem_cons_of_mem _ q)⟩;rcases(h4 x z ys).mp hz with e|e
   .subst e;exact q
   .exact J z e
  .rename_i q;have cB:lt x y=true:=(L.conn x y sC).resolve_right q;refine abt.mpr ⟨λz hz=>?_,h⟩;rcases aa8.mp hz with e|e
   .subst e;exact cB
   .exact L.fF cB (J z e)
theorem lr(L:g6 lt):∀{xs:List α},xs.Nodup->cz lt (cW lt xs)
 |[],_=>List.Pairwise.nil
 |x::xs,h=>mC L x (lr L (abD.mp h).2) λq=>(abD.mp h).1 ((jS x xs).mp q)
def cz.nodup(L:g6 lt)(h:cz lt xs):xs.Nodup:=adj (λ{a b} q e=>by subst e;rw[L.f3]at q;cases q) h
theorem kd(L:g6 lt):∀{xs ys:List α},cz lt xs->cz lt ys->(∀z,z∈xs<->z∈ys)->xs=ys
 |[],[],_,_,_=>rfl
 |[],y::_,_,_,h=>absurd ((h y).mpr List.mem_cons_self) (by simp)
 |x::_,[],_,_,h=>absurd ((h x).mp List.mem_cons_self) (by simp)
 |x::xs,y::ys,ak,aP,h=>by
  obtain⟨aS,cv⟩:=abt.mp ak;obtain⟨o9,t5⟩:=abt.mp aP;have e:x=y:=by
   rcases aa8.mp ((h x).mp List.mem_cons_self) with e|e
   .exact e
   .rcases aa8.mp ((h y).mpr List.mem_cons_self) with bq|bq
    .exact bq.symm
    .have a:=o9 x e;have b:=aS y bq;have:=L.fF a b;rw[L.f3]at this;cases this
  subst e;have bD:x∉xs:=λq=>by have:=aS x q;rw[L.f3]at this;cases this
  have T1:x∉ys:=λq=>by have:=o9 x q;rw[L.f3]at this;cases this
  rw[kd L cv t5 λz=>?_];constructor
  .intro hz;rcases aa8.mp ((h z).mp (List.mem_cons_of_mem _ hz)) with e|e
   .subst e;exact absurd hz bD
   .exact e
  .intro hz;rcases aa8.mp ((h z).mpr (List.mem_cons_of_mem _ hz)) with e|e
   .subst e;exact absurd hz T1
   .exact e
def XA(L:g6 lt)(h:cz lt xs):cW lt xs=xs:=kd L (lr L (h.nodup L)) h λz=>jS z xs
theorem uJ[DecidableEq α]:∀xs:List α,(cX xs).length<=xs.length
 |[]=>aa9 _
 |x::xs=>by unfold cX;have:=uJ xs;split<;>simp<;>lia
theorem jm[DecidableEq α]:∀{xs ys:List α},xs.Nodup->(∀z∈xs,z∈ys)->xs.length<=ys.length
 |[],_,_,_=>abw _
 |x::xs,ys,h,af=>by
  obtain⟨J,aa⟩:=abD.mp h;have ak:=af x List.mem_cons_self;have:=jm (xs:=xs) (ys:=ys.erase x) aa λz hz=>by
   have dT:z≠x:=λe=>J (e▸hz)
   exact(List.mem_erase_of_ne dT).mpr (af z (List.mem_cons_of_mem _ hz))
  rw[List.length_erase_of_mem ak]at this;have aB:0<ys.length:=List.length_pos_of_mem ak;simp only[List.length_cons];lia
end
def kJ:g6 lexLt:=⟨AL,AM,AK⟩
noncomputable def ltI(a b:Int):Bool:=decide (a<b)
def h1:g6 ltI:=⟨λa=>by simp[ltI],λJ aa=>by simp[ltI]at *;lia,λa b h=>by simp[ltI];lia⟩
def vK(is:List Int):(is.map D.int).all (fB 0)=true:=by simp[List.all_map,fB]
def yK{cs:List (List Int)}(aC:∀c∈cs,c≠[]):(cs.map av).all qc=true:=by
 rw[List.all_map,aby];intro c ag;cases c with
 |nil=>exact absurd rfl (aC [] ag)
 |cons x c=>show(fB 0 (.int x)&&(c.map D.int).all (fB 0))=true;rw[vK];rfl
def I8{cs:List Int}(h:cs.length<=63):sorted (cs.map .int)=.ok (.lst ((cW ltI cs).map .int)):=by
 unfold sorted h2;rw[vK];simp[l6 (f:=D.int) (lt:=ltI) λa b=>rfl,h]
def wB{cs:List (List Int)}(aC:∀c∈cs,c≠[])(h:(cX cs).length<=63):eP (cs.map av)=.ok (.lst ((cW lexLt (cX cs)).map av)):=by
 unfold eP h2;rw[yK aC,rF pJ,l6 (lt:=lexLt) sV];simp[h]
def N2(a b):gf (.int a) (.int b)=decide (a=b):=Bool.beq_eq_decide_eq a b
def Je{cs:List Int}(h:(cX cs).length<=63):eP (cs.map .int)=.ok (.lst ((cW ltI (cX cs)).map .int)):=by
 unfold eP h2;rw[vK,rF (f:=D.int) N2,l6 (f:=D.int) (lt:=ltI) λa b=>rfl];simp[h]
def Eb(a b):gf (.int a) (.int b)=decide (a=b):=Bool.beq_eq_decide_eq a b
def tL(n)(i):c5 n (.int i)=true:=by cases n<;>rfl
def BN(n)(c:List Int):(c.map D.int).all (c5 n)=true:=by simp[List.all_map,tL]
def wm(n)(c):c5 (n+1) (av c)=true:=BN n c
def wo(n)(cs:List (List Int)):(cs.map av).all (c5 (n+1))=true:=by simp[List.all_map,wm]
def sY(x)(c:List Int):gG (.int x) (c.map .int)=.ok (decide (x∈c)):=by
 unfold gG;rw[tL,BN,Td];rfl
def Te(c)(cs:List (List Int)):gG (av c) (cs.map av)=.ok (decide (c∈cs)):=by
 unfold gG;rw[wm,wo,Tc];rfl
def Ed(a b):fk (av a) (av b)=.ok (decide (a=b)):=by unfold fk;rw[wm,wm,pJ];rfl
def yZ(a b:List Int):fk (.lst (a.map .int)) (.lst (b.map .int))=.ok (decide (a=b)):=by
 have h:∀a:List Int,c5 60 (.lst (a.map .int))=true:=λa=>BN 59 a
 unfold fk;rw[h,h];exact ab6 R.ok (yW a b)
def y0(h:ys.all (c5 59)=true):fk (.lst ys) (.lst [])=.ok ys.isEmpty:=by
 have J:c5 60 (.lst ys)=true:=h;have aa:c5 60 (.lst [])=true:=rfl;unfold fk;rw[J,aa];cases ys<;>rfl
def N4(h:ys.all (c5 59)=true):fk (.tup ys) (.tup [])=.ok ys.isEmpty:=by
 have J:c5 60 (.tup ys)=true:=h;have aa:c5 60 (.tup [])=true:=rfl;unfold fk;rw[J,aa];cases ys<;>rfl
section
variable{α:Type}{lt:α->α->Bool}
def pn(lt:α->α->Bool)(xs:List α):Prop:=xs.Pairwise λa b=>lt b a=false
theorem ti(x):∀ys:List α,(ins lt x ys).Perm (x::ys)
 |[]=>List.Perm.refl _
 |y::ys=>by
  unfold ins
  split
  .exact(List.Perm.cons y (ti x ys)).trans (List.Perm.swap x y ys)
  .exact List.Perm.refl _
theorem tl:∀xs:List α,(cW lt xs).Perm xs
 |[]=>List.Perm.refl _
 |x::xs=>(ti x (cW lt xs)).trans (List.Perm.cons x (tl xs))
def Gx(L:g6 lt){a b:α}(h:lt a b=true):lt b a=false:=by
 cases q:lt b a with
 |false=>rfl
 |true=>have:=L.fF h q;rw[L.f3]at this;cases this
def Gw(L:g6 lt){a b c:α}(J:lt b a=false)(aa:lt c b=false):lt c a=false:=by
 cases q:lt c a with
 |false=>rfl
 |true =>
  by_cases e:a=b
  .subst e;rw[aa]at q;cases q
  .rcases L.conn a b e with w|w
   .have:=L.fF q w;rw[aa]at this;cases this
   .rw[J]at w;cases w
theorem Kb(L:g6 lt)(x):∀{ys:List α},pn lt ys->pn lt (ins lt x ys)
 |[],_=>acx _ _
 |y::ys,h=>by
  obtain⟨J,aa⟩:=abt.mp h;unfold ins
  split
  .rename_i c;refine abt.mpr ⟨λz hz=>?_,Kb L x aa⟩;rcases(h4 x z ys).mp hz with rfl|hz
   .exact Gx L c
   .exact J z hz
  .rename_i c;refine abt.mpr ⟨λz hz=>?_,h⟩;have c:lt y x=false:=(by simpa using c);rcases aa8.mp hz with rfl|hz
   .exact c
   .exact Gw L c (J z hz)
theorem Kc(L:g6 lt):∀xs:List α,pn lt (cW lt xs)
 |[]=>.nil
 |x::xs=>Kb L x (Kc L xs)
theorem Kd(L:g6 lt):∀{xs ys:List α},pn lt xs->pn lt ys->xs.Perm ys->xs=ys
 |[],ys,_,_,p=>(List.Perm.nil_eq p)
 |x::xs,[],_,_,p=>by have:=p.length_eq;simp at this
 |x::xs,y::ys,ak,aP,p=>by
  obtain⟨aS,cv⟩:=abt.mp ak;obtain⟨o9,t5⟩:=abt.mp aP;have e:x=y:=by
   apply adt;intro ne;have sC:y∈xs:=by
    rcases aa8.mp (p.mem_iff.mpr List.mem_cons_self) with q|q
    .exact absurd q.symm ne
    .exact q
   have sD:x∈ys:=by
    rcases aa8.mp (p.mem_iff.mp List.mem_cons_self) with q|q
    .exact absurd q ne
    .exact q
   rcases L.conn x y ne with w|w
   .rw[o9 x sD]at w;cases w
   .rw[aS y sC]at w;cases w
  subst e;rw[Kd L cv t5 (List.Perm.cons_inv p)]
end
end bg
end
section
namespace fy
def xor_swap(x y a:Nat):(x ^^^ a) ^^^ y=(x ^^^ y) ^^^ a:=by rw[abS,aei a y,<- abS]
def ZF(x y a:Nat):(x ^^^ a) ^^^ (y ^^^ a)=x ^^^ y:=by rw[xor_swap,<- abS,abS,abY,acP]
def h8(x a:Nat):(x ^^^ a) ^^^ a=x:=by rw[abS,abY,acP]
noncomputable def sp:List Nat->Nat->Prop
 |[],x=>x=0
 |a::L,x=>sp L x\/sp L (x ^^^ a)
theorem qJ:∀L,sp L 0
 |[]=>rfl
 |_::L=>.inl (qJ L)
theorem iy:∀{L:List Nat}{x y:Nat},sp L x->sp L y->sp L (x ^^^ y)
 |[],x,y,J,aa=>by cases J;cases aa;rfl
 |a::L,x,y,J,aa=>by
  rcases J with J|J<;>rcases aa with aa|aa
  .exact .inl (iy J aa)
  .exact .inr (by rw[abS];exact iy J aa)
  .exact .inr (by rw[<- xor_swap];exact iy J aa)
  .exact .inl (by rw[<- ZF x y a];exact iy J aa)
theorem fb:∀{L:List Nat}{a:Nat},a∈L->sp L a
 |b::L,a,h=>by
  rcases aa8.mp h with rfl|h
  .exact .inr (by rw[abY];exact qJ L)
  .exact .inl (fb h)
theorem fl:∀{L:List Nat}{x:Nat},(∀a∈L,sp M a)->sp L x->sp M x
 |[],x,_,h=>by cases h;exact qJ M
 |a::L,x,af,h=>by
  have es:∀b∈L,sp M b:=λb ae=>af b (List.mem_cons_of_mem _ ae)
  rcases h with h|h
  .exact fl es h
  .have:=iy (fl es h) (af a List.mem_cons_self);rwa[h8]at this
theorem wz{k:Nat}:∀{L:List Nat}{x:Nat},(∀a∈L,a.testBit k=false)->sp L x->x.testBit k=false
 |[],x,_,h=>by cases h;exact acZ k
 |a::L,x,af,h=>by
  have es:∀b∈L,b.testBit k=false:=λb ae=>af b (List.mem_cons_of_mem _ ae)
  rcases h with h|h
  .exact wz es h
  .have:=wz es h;rwa[ab8,af a List.mem_cons_self,aeY]at this
theorem BW:∀{L:List Nat}{x:Nat},(∀a∈L,a<2 ^ n)->sp L x->x<2 ^ n
 |[],x,_,h=>by cases h;exact aeS n
 |a::L,x,af,h=>by
  have es:∀b∈L,b<2 ^ n:=λb ae=>af b (List.mem_cons_of_mem _ ae)
  rcases h with h|h
  .exact BW es h
  .have:=acs (BW es h) (af a List.mem_cons_self);rwa[h8]at this
noncomputable abbrev Row:=Nat×Nat
noncomputable abbrev c6:=List (Nat×Row)
noncomputable def rws(B:c6):List Nat:=B.map λe=>e.2.1
noncomputable def one(r:Row)(e:Nat×Row):Row:=if r.1.testBit e.1=true then(r.1 ^^^ e.2.1,r.2 ^^^ e.2.2) else r
noncomputable def red(B:c6)(r:Row):Row:=B.foldl one r
def tB(e)(B:c6)(r):red (e::B) r=red B (one r e):=rfl
structure dr(B:c6):Prop where
 ap:B.Pairwise λe f=>e.2.1.testBit f.1=false/\f.2.1.testBit e.1=false
 lo:∀e∈B,e.2.1.testBit e.1=true/\∀j,j<e.1->e.2.1.testBit j=false
structure iZ(B:c6):Prop where
 ap:B.Pairwise λe f=>f.2.1.testBit e.1=false
 lo:∀e∈B,e.2.1.testBit e.1=true
def iZ.tail{B:c6}(h:iZ (e::B)):iZ B:=⟨(abt.mp h.ap).2,λf hf=>h.lo f (List.mem_cons_of_mem _ hf)⟩
def dr.e1{B:c6}(h:dr B):iZ B:=⟨h.ap.imp λq=>q.2,λe he=>(h.lo e he).1⟩
theorem dr.nil:dr []:=⟨.nil,λ_ h=>nomatch h⟩
def dr.tail{B:c6}(h:dr (e::B)):dr B:=⟨(abt.mp h.ap).2,λf hf=>h.lo f (List.mem_cons_of_mem _ hf)⟩
theorem HX{k:Nat}:∀{B:c6}{r:Row},(∀f∈B,f.2.1.testBit k=false)->(red B r).1.testBit k=r.1.testBit k
 |[],r,_=>rfl
 |e::B,r,h=>by
  rw[tB,HX λf hf=>h f (List.mem_cons_of_mem _ hf)];unfold one
  split
  .rw[ab8,h e List.mem_cons_self,aeY]
  .rfl
theorem Bu:∀{B:c6}{r:Row},iZ B->∀e∈B,(red B r).1.testBit e.1=false
 |f::B,r,h,e,he=>by
  obtain⟨J,aa⟩:=abt.mp h.ap;rw[tB];rcases aa8.mp he with rfl|he
  .rw[HX λg aZ=>J g aZ];unfold one
   split
   .rename_i q;rw[ab8,q,h.lo e List.mem_cons_self];rfl
   .rename_i q;simpa using q
  .exact Bu h.tail e he
theorem Bv:∀{B:c6}{r:Row},sp (rws B) (r.1 ^^^ (red B r).1)
 |[],r=>abY _
 |e::B,r=>by
  have aG:=Bv (B:=B) (r:=one r e);rw[tB];unfold one at aG ⊢
  split
  .rename_i q;rw[if_pos q]at aG;exact .inr (by rw[<- xor_swap];exact aG)
  .rename_i q;rw[if_neg q]at aG;exact .inl aG
theorem D8:∀{B:c6}{x:Nat},iZ B->sp (rws B) x->(∀e∈B,x.testBit e.1=false)->x=0
 |[],x,_,h,_=>h
 |e::B,x,h,af,ae=>by
  obtain⟨J,aa⟩:=abt.mp h.ap;rcases af with af|af
  .exact D8 h.tail af λf hf=>ae f (List.mem_cons_of_mem _ hf)
  .exfalso;have:=wz (k:=e.1) (λa aw=>by obtain⟨f,hf,rfl⟩:=List.mem_map.mp aw;exact J f hf) af;rw[ab8,ae e List.mem_cons_self,h.lo e List.mem_cons_self]at this;cases this
def VN{B:c6}(h:iZ B):(red B r).1=0<->sp (rws B) r.1:=by
 have J:=Bv (B:=B) (r:=r);constructor
 .intro z;rwa[z,acP]at J
 .intro z;have aa:=iy J z;rw[xor_swap,abY,acD]at aa;exact D8 h aa (Bu h)
def wa{B:c6}(h:dr B):(red B r).1=0<->sp (rws B) r.1:=VN h.e1
theorem AN : ∀ {C : c6} {x k : Nat}, dr C -> sp (rws C) x -> x.testBit k = true -> (∀ j, j < k -> x.testBit j = false) -> ∃ f ∈ C, f.1 = k
  | [], x, k, _, h, ax, _ => by cases h; rw [acZ] at ax; cases ax
  | f :: C, x, k, h, af, ax, aI => by
    obtain ⟨J, aa⟩ := abt.mp h.ap
    rcases af with af | af
    · obtain ⟨g, a, b⟩ := AN h.tail af ax aI
      exact ⟨g, List.mem_cons_of_mem _ a, b⟩
    · have ae := wz (k := f.1) (fun a aw => by obtain ⟨g, aZ, rfl⟩ := List.mem_map.mp aw; exact (J g aZ).2) af
      obtain ⟨l1, fC⟩ := h.lo f List.mem_cons_self
      rw [ab8, l1] at ae
      have ak : x.testBit f.1 = true := by cases q : x.testBit f.1 <;> rw [q] at ae <;> first | rfl | cases ae
      by_cases c : f.1 = k
      · exact ⟨f, List.mem_cons_self, c⟩
      · have bV : k < f.1 := by
          rcases adF k f.1 with q | q | q
          · exact q
          · exact absurd q.symm c
          · rw [aI f.1 q] at ak; cases ak
        obtain ⟨g, a, b⟩ := AN h.tail af (k := k) (by rw [ab8, ax, fC k bV]; rfl) fun j q => by rw [ab8, aI j q, fC j ⋯]; rfl
        exact ⟨g, List.mem_cons_of_mem _ a, b⟩
def rR{B:c6}(h:dr B):(B.map (·.1)).Nodup:=by
 rw[abq,abL];refine abA (λ{e f} he hf q z=>?_) h.ap;have:=(h.lo f hf).1;rw[<- z,q.2]at this;cases this
def rQ{B C:c6}(dW:dr B)(dX:dr C)(h:∀x,sp (rws B) x->sp (rws C) x):B.length<=C.length:=by
 have:=bg.jm (rR dW) (ys:=C.map (·.1)) λz hz=>by
  obtain⟨e,he,rfl⟩:=List.mem_map.mp hz;obtain⟨f,hf,q⟩:=AN dX (h _ (fb (List.mem_map.mpr ⟨e,he,rfl⟩))) (dW.lo e he).1 (dW.lo e he).2;exact List.mem_map.mpr ⟨f,hf,q⟩
 simpa using this
noncomputable def qi:Nat->Nat->Nat
 |0,_=>0
 |f+1,n=>if n%2=1 then 0 else qi f (n / 2)+1
noncomputable def lo(n:Nat):Nat:=qi n n
theorem GB:∀(f n:Nat),0<n->n<=f->n.testBit (qi f n)=true/\(∀j,j<qi f n->n.testBit j=false)/\n-(n &&& (n-1))=2 ^ qi f n/\(n &&& (n-1))<=n
 |0,n,h,aa=>by lia
 |f+1,n,h,aa=>by
  rw[qi]
  by_cases c:n%2=1
  .rw[if_pos c];refine⟨by rw[adW];simp[c],λj aI=>⋯,?_,Nat.and_le_left⟩;have e1:(n &&& (n-1)) / 2=n / 2:=(by rw[aec,show(n-1) / 2=n / 2 by lia,Nat.and_self]);have ar:(n &&& (n-1))%2=0:=by
    have:=@ac5 n (n-1);rcases abe (n &&& (n-1)) with q|q
    .exact q
    .have:=(this.mp q).2;lia
   show n-(n &&& (n-1))=1;lia
  .rw[if_neg c];obtain⟨eW,gR,kE,sG⟩:=GB f (n / 2) ⋯ ⋯;refine⟨by rw[adX];exact eW,λj aI=>?_,?_,Nat.and_le_left⟩
   .cases j with
    |zero=>rw[adW];simp[c]
    |succ j=>rw[adX];exact gR j ⋯
   .have e1:(n &&& (n-1)) / 2=n / 2 &&& (n / 2-1):=(by rw[aec,show(n-1) / 2=n / 2-1 by lia]);have ar:(n &&& (n-1))%2=0:=by
     have:=@ac5 n (n-1);rcases abe (n &&& (n-1)) with q|q
     .exact q
     .have:=(this.mp q).1;lia
    rw[Nat.pow_succ];rw[<- e1]at kE sG;lia
def GA(n)(h:0<n):n.testBit (lo n)=true/\(∀j,j<lo n->n.testBit j=false)/\n-(n &&& (n-1))=2 ^ lo n/\(n &&& (n-1))<=n:=GB n n h (aa9 _)
noncomputable def grow(B:c6)(r:Row):c6:=if (red B r).1=0 then B else B.map (λe=>(e.1,one e.2 (lo (red B r).1,red B r)))++[(lo (red B r).1,red B r)]
def r5 {B : c6} (h : dr B) (r) : dr (grow B r) := by
  unfold grow
  split
  · exact h
  · rename_i az
    have ae := Bu (r := r) h.e1
    generalize red B r = l at az ae
    obtain ⟨l1, fC, -, -⟩ := GA l.1 ⋯
    generalize lo l.1 = k at l1 fC
    have on : ∀ (e : Nat × Row) j, (one e.2 (k, l)).1.testBit j = (e.2.1.testBit j ^^ (e.2.1.testBit k && l.1.testBit j)) := fun e j => by
      unfold one
      by_cases q : e.2.1.testBit k = true
      · rw [if_pos q, ab8, q, Bool.true_and]
      · rw [if_neg q]
        have q : e.2.1.testBit k = false := by simpa using q
        rw [q, aej, aeY]
    refine ⟨List.pairwise_append.mpr ⟨?_, acx _ _, fun e he f hf => ?_⟩, fun e he => ?_⟩
    · rw [abL]
      refine abA (fun {e f} he hf q => ?_) h.ap
      dsimp only
      rw [on, on, q.1, q.2, ae e he, ae f hf, Bool.and_false, Bool.and_false]
      exact ⟨rfl, rfl⟩
    · obtain ⟨bq, hU, rfl⟩ := List.mem_map.mp he
      obtain rfl := abg.mp hf
      dsimp only
      rw [on, l1, ae bq hU, Bool.and_true, Bool.xor_self]
      exact ⟨rfl, rfl⟩
    · rcases abn.mp he with he | he
      · obtain ⟨bq, hU, rfl⟩ := List.mem_map.mp he
        dsimp only
        obtain ⟨bO, bF⟩ := h.lo bq hU
        refine ⟨by rw [on, bO, ae bq hU, Bool.and_false]; rfl, fun j aI => ?_⟩
        rw [on, bF j aI]
        by_cases q : bq.2.1.testBit k = true
        · have : bq.1 < k := by
            rcases adF bq.1 k with w | w | w
            · exact w
            · have := ae bq hU; rw [w, l1] at this; cases this
            · rw [bF k w] at q; cases q
          rw [fC j ⋯, Bool.and_false]; rfl
        · have q : bq.2.1.testBit k = false := by simpa using q
          rw [q]; rfl
      · obtain rfl := abg.mp he
        exact ⟨l1, fC⟩
def E0{B:c6}(h:dr B)(r)(x):sp (rws (grow B r)) x<->sp (r.1::rws B) x:=by
 have h0:=Bv (B:=B) (r:=r);unfold grow
 split
 .rename_i z;rw[z,acP]at h0;exact⟨.inl,fl λa aw=>by rcases aa8.mp aw with rfl|aw;exact h0;exact fb aw⟩
 .generalize red B r=l at h0;generalize lo l.1=k;have az:∀{M:List Nat},sp M l.1->(∀e∈B,sp M (one e.2 (k,l)).1)->∀a∈rws B,sp M a:=λ{M} J aa a aw=>by
   obtain⟨e,he,rfl⟩:=List.mem_map.mp aw;have:=aa e he;unfold one at this
   split at this
   .have:=iy this J;rwa[h8]at this
   .exact this
  constructor
  .refine fl λa aw=>?_
   have s8:sp (r.1::rws B) l.1:=by
    have J:sp (r.1::rws B) (r.1 ^^^ l.1):=.inl h0;have:=iy J (fb (L:=r.1::rws B) List.mem_cons_self);rwa[xor_swap,abY,acD]at this
   unfold rws at aw;rw[List.map_append,List.map_map]at aw;rcases abn.mp aw with aw|aw
   .obtain⟨e,he,rfl⟩:=List.mem_map.mp aw;have GN:sp (r.1::rws B) e.2.1:=.inl (fb (List.mem_map.mpr ⟨e,he,rfl⟩));show sp _ (one e.2 (k,l)).1;unfold one
    split
    .exact iy GN s8
    .exact GN
   .obtain rfl:a=l.1:=(by simpa using aw);exact s8
  .have s8:sp (rws (B.map (λe=>(e.1,one e.2 (k,l)))++[(k,l)])) l.1:=fb (by unfold rws;simp);have GJ:=az s8 λe he=>fb (by unfold rws;rw[List.map_append,List.map_map];exact List.mem_append_left _ (List.mem_map.mpr ⟨e,he,rfl⟩))
   refine fl λa aw=>?_
   rcases aa8.mp aw with rfl|aw
   .have:=iy (fl GJ h0) s8;rwa[h8]at this
   .exact GJ a aw
def r6(B)(r):(grow B r).length=B.length+if (red B r).1=0 then 0 else 1:=by
 unfold grow
 split<;>simp
noncomputable def dD(B:c6)(rs:List Row):c6:=rs.foldl grow B
theorem hS:∀{rs:List Row}{B:c6},dr B->dr (dD B rs)
 |[],_,h=>h
 |r::rs,_,h=>hS (rs:=rs) (r5 h r)
theorem r4:∀{rs:List Row}{B:c6},dr B->∀x,sp (rws (dD B rs)) x<->sp (rs.map (·.1)++rws B) x
 |[],_,h,x=>Iff.rfl
 |r::rs,B,h,x=>by
  show sp (rws (dD (grow B r) rs)) x<->_;rw[r4 (r5 h r) x];have g:=E0 h r;constructor
  .refine fl λa aw=>?_
   rcases abn.mp aw with aw|aw
   .exact fb (by rw[List.map_cons];exact List.mem_cons_of_mem _ (List.mem_append_left _ aw))
   .refine fl (λb ae=>?_) ((g a).mp (fb aw));refine fb ?_;rw[List.map_cons];rcases aa8.mp ae with rfl|ae
    .exact List.mem_cons_self
    .exact List.mem_cons_of_mem _ (abh _ ae)
  .refine fl λa aw=>?_
   have aX:∀b,b∈r.1::rws B->sp (rs.map (·.1)++rws (grow B r)) b:=λb ae=>fl (λc ag=>fb (abh _ ag)) ((g b).mpr (fb ae))
   rw[List.map_cons,ack]at aw;rcases aa8.mp aw with rfl|aw
   .exact aX _ List.mem_cons_self
   .rcases abn.mp aw with aw|aw
    .exact fb (List.mem_append_left _ aw)
    .exact aX a (List.mem_cons_of_mem _ aw)
end fy
end
section
namespace fy
noncomputable def bd:List Nat->Nat->Nat
 |[],_=>0
 |a::as,z=>(if z%2=1 then a else 0) ^^^ bd as (z / 2)
def ZC(a b c d:Nat):(a ^^^ b) ^^^ (c ^^^ d)=(a ^^^ c) ^^^ (b ^^^ d):=by rw[abS,<- abS b c d,aei b c,abS c b d,<- abS]
theorem kf:∀(as:List Nat)(x y:Nat),bd as (x ^^^ y)=bd as x ^^^ bd as y
 |[],_,_=>(abY 0).symm
 |a::as,x,y=>by
  show(if (x ^^^ y)%2=1 then a else 0) ^^^ bd as ((x ^^^ y) / 2)=((if x%2=1 then a else 0) ^^^ bd as (x / 2)) ^^^ ((if y%2=1 then a else 0) ^^^ bd as (y / 2));rw[aeT,kf as,ZC];congr 1;have:=@adG x y
  by_cases J:x%2=1<;>by_cases aa:y%2=1<;>simp[J,aa,this]
theorem yi:∀(as:List Nat)(a z:Nat),bd (as++[a]) z=bd as z ^^^ (if z.testBit as.length=true then a else 0)
 |[],a,z=>by
  show(if z%2=1 then a else 0) ^^^ 0=0 ^^^ _;rw[acP,acD,List.length_nil,adW];simp
 |b::as,a,z=>by
  show(if z%2=1 then b else 0) ^^^ bd (as++[a]) (z / 2)=((if z%2=1 then b else 0) ^^^ bd as (z / 2)) ^^^ _;rw[yi as a,List.length_cons,adX,abS]
theorem Df:∀(as:List Nat)(z:Nat),(∀j,j<as.length->z.testBit j=false)->bd as z=0
 |[],_,_=>rfl
 |a::as,z,h=>by
  have h0:=h 0 (by simp);rw[adW]at h0;show(if z%2=1 then a else 0) ^^^ bd as (z / 2)=0;rw[if_neg (by simpa using h0),Df as (z / 2) λj aI=>by rw[<- adX];exact h (j+1) (by simpa using aI)];rfl
def yj(as)(a):bd (as++[a]) (2 ^ as.length)=a:=by
 rw[yi,Df as _ λj aI=>by rw[adu];simp;lia,acT,if_pos rfl,acD]
def jF(as)(a)(h:z<2 ^ as.length):bd (as++[a]) z=bd as z:=by
 rw[yi,abP h];simp
def yJ(h:z<2 ^ (n+1)):(z.testBit n=false/\z<2 ^ n)\/(z.testBit n=true/\∀u,u<2 ^ (n+1)->u.testBit n=true->z ^^^ u<2 ^ n):=by
 have key:∀y,y<2 ^ (n+1)->y.testBit n=false->y<2 ^ n:=λy aP aC=>by
  refine Nat.lt_pow_two_of_testBit y λi ai=>?_
  rcases aeQ n i with q|q
  .exact abP (abl aP (abI ∅ q))
  .rw[show i=n by lia];exact aC
 cases q:z.testBit n with
 |false=>exact .inl ⟨rfl,key z h q⟩
 |true=>exact .inr ⟨rfl,λu bh ae=>key _ (acs h bh) (by rw[ab8,q,ae];rfl)⟩
theorem HW:∀{B:c6}{r:Row},(∀e∈B,bd as e.2.2=e.2.1)->bd as r.2=r.1->bd as (red B r).2=(red B r).1
 |[],r,_,h=>h
 |e::B,r,dW,h=>by
  rw[tB];refine HW (λf hf=>dW f (List.mem_cons_of_mem _ hf)) ?_;unfold one
  split
  .show bd as (r.2 ^^^ e.2.2)=r.1 ^^^ e.2.1;rw[kf,h,dW e List.mem_cons_self]
  .exact h
theorem HY:∀{B:c6}{r:Row},(∀e∈B,e.2.2<2 ^ n)->∃u,u<2 ^ n/\(red B r).2=r.2 ^^^ u
 |[],r,_=>⟨0,aeS n,(acP _).symm⟩
 |e::B,r,dW=>by
  obtain⟨u,J,aa⟩:=HY (B:=B) (r:=one r e) λf hf=>dW f (List.mem_cons_of_mem _ hf)
  rw[tB,aa];unfold one
  split
  .exact⟨e.2.2 ^^^ u,acs (dW e List.mem_cons_self) J,by rw[<- abS]⟩
  .exact⟨u,J,rfl⟩
noncomputable def step(st:c6×List Nat)(r:Row):c6×List Nat:=(grow st.1 r,if (red st.1 r).1=0 then st.2++[(red st.1 r).2] else st.2)
noncomputable def el(rs:List Row):c6×List Nat:=rs.foldl step ([],[])
noncomputable def dY(as:List Nat):List Row:=as.zipIdx.map λp=>(p.1,2 ^ p.2)
def Ts(as)(a):dY (as++[a])=dY as++[(a,2 ^ as.length)]:=by
 unfold dY;rw[List.zipIdx_append,List.map_append];simp
def FW(rs)(r):el (rs++[r])=step (el rs) r:=by unfold el;rw[List.foldl_append];rfl
noncomputable def bare(b:Nat):Row:=(b,0)
structure St(as:List Nat)(B:c6)(F:List Nat):Prop where
 uN:dr B
 pz:∀e∈B,bd as e.2.2=e.2.1/\e.2.2<2 ^ as.length
 len:B.length+F.length=as.length
 i8:∀b∈F,b<2 ^ as.length
 nul:∀b∈F,bd as b=0
 fin:(dD [] (F.map bare)).length=F.length
 qd:∀z,z<2 ^ as.length->bd as z=0->sp F z
 sH:∀z,z<2 ^ as.length->sp (rws B) (bd as z)
def qI:sp (rws (dD [] (F.map bare))) x<->sp F x:=by
 rw[r4 dr.nil,List.map_map];have e:F.map ((λx:Row=>x.1) ∘ bare)=F:=by
  have:((λx:Row=>x.1) ∘ bare)=id:=rfl;rw[this,adB]
 rw[e];show sp (F++[]) x<->_;rw[acz]
def snoc_ind{P:List Nat->Prop}(h0:P [])(J:∀as a,P as->P (as++[a]))(as):P as:=by
 have key:∀n (as:List Nat),as.length=n->P as:=by
  intro n
  induction n with
  |zero=>intro as h;rw[acd h];exact h0
  |succ n aG =>
   intro as h;rcases adO as with rfl|⟨l,a,rfl⟩
   .cases h
   .rw[adP]at h ⊢;exact J l a (aG l (by simpa using h))
 exact key _ as rfl
def BZ (as) : St as (el (dY as)).1 (el (dY as)).2 := by
  refine snoc_ind (P := fun as => St as (el (dY as)).1 (el (dY as)).2) ?_ ?_ as
  · show St [] [] []
    refine ⟨dr.nil, (fun _ h => nomatch h), rfl, (fun _ h => nomatch h), (fun _ h => nomatch h), rfl, fun z h _ => ?_, fun _ _ => rfl⟩
    have h : z < 1 := h
    show z = 0
    lia
  · intro as a aG
    rw [Ts, FW]
    generalize (el (dY as)) = st at aG
    obtain ⟨B, F⟩ := st
    dsimp only at aG
    unfold step
    dsimp only
    have ae : ∀ e ∈ B, bd (as ++ [a]) e.2.2 = e.2.1 := fun e he => by rw [jF as a (aG.pz e he).2]; exact (aG.pz e he).1
    have l1 := HW (r := (a, 2 ^ as.length)) ae (yj as a)
    obtain ⟨u, bh, fC⟩ := HY (B := B) (r := (a, 2 ^ as.length)) fun e he => (aG.pz e he).2
    have hz := wa (r := (a, 2 ^ as.length)) aG.uN
    have aZ := r6 B (a, 2 ^ as.length)
    have gH : (as ++ [a]).length = as.length + 1 := by simp
    have up : ∀ {z}, z < 2 ^ as.length -> z < 2 ^ (as ++ [a]).length := fun {z} h => by rw [gH, Nat.pow_succ]; lia
    have tt : (2 : Nat) ^ as.length < 2 ^ (as ++ [a]).length := by rw [gH]; exact acQ ∅ (acH _)
    have sR : (red B (a, 2 ^ as.length)).2 < 2 ^ (as ++ [a]).length := by rw [fC]; exact acs tt (up bh)
    have vF : (red B (a, 2 ^ as.length)).2.testBit as.length = true := by
      rw [fC, ab8]
      show ((2 ^ as.length).testBit as.length ^^ u.testBit as.length) = true
      rw [acT, abP bh]; rfl
    have top : ∀ {z}, z < 2 ^ (as ++ [a]).length -> z.testBit as.length = true -> bd (as ++ [a]) z = bd as (z ^^^ 2 ^ as.length) ^^^ a /\ z ^^^ 2 ^ as.length < 2 ^ as.length := fun {z} h q => by
      have bV : z ^^^ 2 ^ as.length < 2 ^ as.length := by
        rcases yJ (n := as.length) (by rw [<- gH]; exact h) with ⟨w, _⟩ | ⟨_, w⟩
        · rw [q] at w; cases w
        · exact w _ (by rw [<- gH]; exact tt) (acT)
      refine ⟨?_, bV⟩
      rw [<- jF as a bV, kf, yj, h8]
    have low : ∀ {z}, z < 2 ^ (as ++ [a]).length -> z.testBit as.length = false -> z < 2 ^ as.length := fun {z} h q => by
      rcases yJ (n := as.length) (by rw [<- gH]; exact h) with ⟨_, w⟩ | ⟨w, _⟩
      · exact w
      · rw [q] at w; cases w
    generalize az : red B (a, 2 ^ as.length) = l at l1 fC sR vF hz aZ
    by_cases c : l.1 = 0
    · have zZ : grow B (a, 2 ^ as.length) = B := by unfold grow; rw [az, if_pos c]
      rw [if_pos c, zZ]
      refine ⟨aG.uN, fun e he => ⟨ae e he, up (aG.pz e he).2⟩, by rw [aa7, gH]; have := aG.len; simp; lia, fun b fX => ?_, fun b fX => ?_, ?_, fun z h0 J => ?_, fun z h0 => ?_⟩
      · rcases abn.mp fX with h | h
        · exact up (aG.i8 b h)
        · rw [abg.mp h]; exact sR
      · rcases abn.mp fX with h | h
        · rw [jF as a (aG.i8 b h)]; exact aG.nul b h
        · rw [abg.mp h, l1, c]
      · rw [List.map_append]
        show (dD [] (F.map bare ++ [bare l.2])).length = _
        unfold dD
        rw [List.foldl_append]
        show (grow (dD [] (F.map bare)) (bare l.2)).length = _
        rw [r6, aG.fin, aa7, if_neg]
        · rfl
        · intro w
          have := BW aG.i8 (qI.mp ((wa (hS dr.nil)).mp w))
          have this : l.2 < 2 ^ as.length := this
          rw [abP this] at vF; cases vF
      · cases q : z.testBit as.length with
        | false =>
          have := aG.qd z (low h0 q) (by rw [<- jF as a (low h0 q)]; exact J)
          exact fl (fun b ae => fb (List.mem_append_left _ ae)) this
        | true =>
          have aa : z ^^^ l.2 < 2 ^ as.length := by
            rcases yJ (n := as.length) (by rw [<- gH]; exact h0) with ⟨w, _⟩ | ⟨_, w⟩
            · rw [q] at w; cases w
            · exact w _ (by rw [<- gH]; exact sR) vF
          have aE := aG.qd _ aa (by rw [<- jF as a aa, kf, J, l1, c]; rfl)
          have aR : sp (F ++ [l.2]) (z ^^^ l.2) := fl (fun b ae => fb (List.mem_append_left _ ae)) aE
          have := iy aR (fb (abh F List.mem_cons_self))
          rwa [h8] at this
      · cases q : z.testBit as.length with
        | false => rw [jF as a (low h0 q)]; exact aG.sH z (low h0 q)
        | true =>
          obtain ⟨t1, eJ⟩ := top h0 q
          rw [t1]
          exact iy (aG.sH _ eJ) (hz.mp c)
    · have zZ : ∀ e ∈ grow B (a, 2 ^ as.length), bd (as ++ [a]) e.2.2 = e.2.1 /\ e.2.2 < 2 ^ (as ++ [a]).length := fun e he => by
        unfold grow at he
        rw [az, if_neg c] at he
        rcases abn.mp he with he | he
        · obtain ⟨f, hf, rfl⟩ := List.mem_map.mp he
          dsimp only
          unfold one
          split
          · exact ⟨by rw [kf, ae f hf, l1], acs (up (aG.pz f hf).2) sR⟩
          · exact ⟨ae f hf, up (aG.pz f hf).2⟩
        · rw [abg.mp he]; exact ⟨l1, sR⟩
      rw [if_neg c]
      rw [if_neg c] at aZ
      refine ⟨r5 aG.uN _, zZ, by rw [aZ, gH]; have := aG.len; lia, fun b fX => up (aG.i8 b fX), fun b fX => by rw [jF as a (aG.i8 b fX)]; exact aG.nul b fX, aG.fin, fun z h0 J => ?_, fun z h0 => ?_⟩
      · cases q : z.testBit as.length with
        | false => exact aG.qd z (low h0 q) (by rw [<- jF as a (low h0 q)]; exact J)
        | true =>
          exfalso
          obtain ⟨t1, eJ⟩ := top h0 q
          rw [J] at t1
          have : bd as (z ^^^ 2 ^ as.length) = a := by
            have w : 0 ^^^ a = (bd as (z ^^^ 2 ^ as.length) ^^^ a) ^^^ a := ab6 (· ^^^ a) t1
            rw [h8, acD] at w
            exact w.symm
          exact c (hz.mpr (by have bX := aG.sH _ eJ; rw [this] at bX; exact bX))
      · rw [E0 aG.uN]
        cases q : z.testBit as.length with
        | false => rw [jF as a (low h0 q)]; exact .inl (aG.sH z (low h0 q))
        | true =>
          obtain ⟨t1, eJ⟩ := top h0 q
          rw [t1]
          exact .inr (by rw [h8]; exact aG.sH _ eJ)
noncomputable def tell(st:c6×List Nat)(b:Nat):c6×List Nat:=(grow st.1 (bare b),if (red st.1 (bare b)).1=0 then st.2 else st.2++[b])
theorem JL:∀(F:List Nat)(B:c6)(G:List Nat),(F.foldl tell (B,G)).2.length+B.length=(dD B (F.map bare)).length+G.length
 |[],B,G=>Nat.add_comm _ _
 |b::F,B,G=>by
  show(F.foldl tell (tell (B,G) b)).2.length+B.length=(dD (grow B (bare b)) (F.map bare)).length+G.length;have h:=JL F (grow B (bare b)) (if (red B (bare b)).1=0 then G else G++[b]);have aa:=r6 B (bare b);have N9:tell (B,G) b=(grow B (bare b),if (red B (bare b)).1=0 then G else G++[b]):=rfl;rw[N9]
  by_cases c:(red B (bare b)).1=0
  .rw[if_pos c]at h aa ⊢;lia
  .rw[if_neg c]at h aa ⊢;rw[aa7]at h;simp at h;lia
def V3(as)(rs)(h:∀r∈rs,r.1<2 ^ as.length/\bd as r.1=0):
  ((el (dY as)).2.foldl tell (dD [] rs,[])).2.length+(dD [] rs).length=(el (dY as)).2.length:=by
 have st:=BZ as;generalize (el (dY as)).2=F at st;rw[JL];have e1:=hS (rs:=rs) dr.nil;have ar:=hS (rs:=F.map bare) e1;have bf:=hS (rs:=F.map bare) dr.nil;have s1:∀x,sp (rws (dD (dD [] rs) (F.map bare))) x<->sp F x:=λx=>by
  rw[r4 e1,List.map_map,show F.map ((λx:Row=>x.1) ∘ bare)=F from adB F];refine⟨fl λa aw=>?_,fl λa aw=>fb (List.mem_append_left _ aw)⟩;rcases abn.mp aw with aw|aw
  .exact fb aw
  .have:=(r4 (rs:=rs) dr.nil a).mp (fb aw);refine fl (λb ae=>?_) this;rw[show rws []=[] from rfl,acz]at ae;obtain⟨r,a3,rfl⟩:=List.mem_map.mp ae;exact st.qd _ (h r a3).1 (h r a3).2
 have eW:=rQ ar bf λx ak=>qI.mpr ((s1 x).mp ak)
 have gR:=rQ bf ar λx ak=>(s1 x).mpr (qI.mp ak)
 have:=st.fin;simp only[List.length_nil];lia
end fy
end
section
namespace fy
def CB:∀x y:Nat,(x ^^^ y)+2*(x &&& y)=x+y:=by
 intro x
 induction x using Nat.strongRecOn with
 |ind x aG =>
  intro y
  by_cases h:x=0
  .subst h;simp
  .have J:=aG (x / 2) ⋯ (y / 2);have e1:(x ^^^ y) / 2=x / 2 ^^^ y / 2:=aeT;have ar:(x &&& y) / 2=x / 2 &&& y / 2:=aec;have bf:(x ^^^ y)%2=(x%2+y%2)%2:=by
    have:=@adG x y;rcases abe x with a|a<;>rcases abe y with b|b<;>rcases abe (x ^^^ y) with c|c<;>simp[a,b,c]at this ⊢
   have eG:(x &&& y)%2=(x%2)*(y%2):=by
    have:=@ac5 x y;rcases abe x with a|a<;>rcases abe y with b|b<;>rcases abe (x &&& y) with c|c<;>simp[a,b,c]at this ⊢
   rw[<- e1,<- ar]at J;revert J bf eG;generalize x ^^^ y=p;generalize x &&& y=q;intro J bf eG;rcases abe x with a|a<;>rcases abe y with b|b<;>rw[a,b]at bf eG<;>lia
noncomputable def d6:List Nat->Nat
 |[]=>0
 |a::as=>a ^^^ d6 as
theorem w5(j):∀L:List Nat,(d6 L).testBit j=decide ((L.countP λa=>a.testBit j)%2=1)
 |[]=>by simp[d6]
 |a::L=>by
  rw[d6,ab8,w5 j L,adY];cases a.testBit j with
  |false=>simp
  |true =>
   simp only[abU,Bool.true_xor];rcases abe (L.countP λa=>a.testBit j) with h|h
   .rw[h,show(List.countP (λa=>a.testBit j) L+1)%2=1 by lia];rfl
   .rw[h,show(List.countP (λa=>a.testBit j) L+1)%2=0 by lia];rfl
theorem yk:∀as:List Nat,bd as 0=0
 |[]=>rfl
 |a::as=>by show(if 0%2=1 then a else 0) ^^^ bd as (0 / 2)=0;rw[if_neg ∅,Nat.zero_div,yk as];rfl
theorem Dg:∀(as:List Nat)(j:Nat),bd as (2 ^ j)=as.getD j 0
 |[],j=>by simp[bd]
 |a::as,0=>by
  show(if 1%2=1 then a else 0) ^^^ bd as (1 / 2)=a;rw[if_pos ∅,show 1 / 2=0 by decide,yk,acP]
 |a::as,j+1=>by
  show(if 2 ^ (j+1)%2=1 then a else 0) ^^^ bd as (2 ^ (j+1) / 2)=(a::as).getD (j+1) 0;have J:2 ^ (j+1)%2=0:=(by rw[Nat.pow_succ];lia);have aa:2 ^ (j+1) / 2=2 ^ j:=(by rw[Nat.pow_succ];lia);rw[if_neg ⋯,aa,Dg as j,acD];rfl
theorem Dh(as):∀L:List Nat,bd as (d6 L)=d6 (L.map (bd as))
 |[]=>yk as
 |a::L=>by rw[d6,kf,Dh as L,List.map_cons,d6]
section
variable{α:Type}[DecidableEq α]
noncomputable abbrev cY(U:List α)(x:α):Nat:=U.idxOf x
def vD{x:α}(h:x∈U):cY U x<U.length:=ab3 h
def F9{U:List α}(dH:U.Nodup)(h:i<U.length):cY U U[i]=i:=dH.idxOf_getElem i h
noncomputable def cm(U xs:List α):Nat:=d6 (xs.map λx=>2 ^ cY U x)
def m8{U:List α}(j)(aI:j<U.length)(ak:xs.Nodup)(dH:U.Nodup):(cm U xs).testBit j=decide (U[j]∈xs):=by
 unfold cm;rw[w5,ady];have e:xs.countP ((λa=>a.testBit j) ∘ λx=>2 ^ U.idxOf x)=xs.countP λx=>x==U[j]:=by
  refine adk λx ak=>?_
  simp only[Function.comp,adu,abk,abx];constructor
  .intro h;have:U[U.idxOf x]'⋯=x:=ach ⋯;rw[<- this];congr 1
  .intro h;rw[h];exact dH.idxOf_getElem j aI
 have Mk:∀{xs:List α}(y:α),xs.Nodup->xs.countP (λx=>x==y)=if y∈xs then 1 else 0:=λ{xs} y=>by
  induction xs with
  |nil=>intro _;rfl
  |cons x xs aG =>
   intro aC;obtain⟨gH,eX⟩:=abD.mp aC;rw[adY,aG eX]
   by_cases q:x=y
   .subst q;simp[gH]
   .simp[q,ab1 q]
 rw[e,Mk _ ak]
 by_cases h:U[j]∈xs
 .rw[if_pos h,decide_eq_true h];rfl
 .rw[if_neg h,decide_eq_false h];rfl
theorem oJ:∀{xs:List α},(∀x∈xs,x∈U)->cm U xs<2 ^ U.length
 |[],_=>aeS _
 |x::xs,h=>by
  show 2 ^ U.idxOf x ^^^ cm U xs<2 ^ U.length;refine acs (acQ ∅ (ab3 (h x List.mem_cons_self))) (oJ λy aP=>h y (List.mem_cons_of_mem _ aP))
theorem GR(dH:U.Nodup):∀{xs:List α},xs.Nodup->(∀x∈xs,x∈U)->(xs.map λx=>((2 ^ cY U x:Nat):Int)).sum=(cm U xs:Int)
 |[],_,_=>rfl
 |x::xs,ak,h=>by
  obtain⟨J,aa⟩:=abD.mp ak;have Rw:=h x List.mem_cons_self;have bV:=ab3 Rw;rw[List.map_cons,List.sum_cons,GR dH aa λy aP=>h y (List.mem_cons_of_mem _ aP)];show _=((2 ^ cY U x ^^^ cm U xs:Nat):Int);have ae:(cm U xs).testBit (cY U x)=false:=(by rw[m8 _ bV aa dH,ach bV,decide_eq_false J]);have aw:2 ^ cY U x &&& cm U xs=0:=by
   apply acR;intro i;rw[aed,adu,acZ]
   by_cases q:cY U x=i
   .rw[<- q,ae];simp
   .simp[q]
  have:=CB (2 ^ cY U x) (cm U xs);rw[aw]at this;lia
def px{c:List α}(ag:∀x∈c,x∈U):bd (U.map h) (cm U c)=d6 (c.map h):=by
 show bd _ (d6 (c.map λx=>2 ^ cY U x))=_;rw[Dh,List.map_map];refine ab6 d6 (abB λx ak=>?_);have bV:=ab3 (ag x ak);show bd _ (2 ^ U.idxOf x)=_;rw[Dg,List.getD,abj,aba bV,ach bV];rfl
def Zz{V:List α}{sd:α->List α}{c:List α}(kv:V.Nodup)(af:∀x∈c,(sd x).Nodup)(aI:j<V.length):(d6 (c.map λx=>cm V (sd x))).testBit j=decide ((c.countP λx=>decide (V[j]∈sd x))%2=1):=by
 rw[w5,ady];have ar:c.countP ((λa=>a.testBit j) ∘ λx=>cm V (sd x))=c.countP λx=>decide (V[j]∈sd x):=by
  refine adk λx ak=>?_
  show(cm V (sd x)).testBit j=true<->_;rw[m8 j aI (af x ak) kv]
 rw[ar]
def H4{U V:List α}{sd:α->List α}(kv:V.Nodup)(ag:∀x∈c,x∈U)(af:∀x∈c,(sd x).Nodup/\∀y∈sd x,y∈V)(aa:∀y,(c.countP λx=>decide (y∈sd x))%2=0):
  bd (U.map λx=>cm V (sd x)) (cm U c)=0:=by
 rw[px ag];apply acR;intro j;rw[acZ]
 by_cases aI:j<V.length
 .rw[Zz kv (λx ak=>(af x ak).1) aI,aa];rfl
 .rw[w5,ady];have ar:c.countP ((λa=>a.testBit j) ∘ λx=>cm V (sd x))=0:=by
   rw[List.countP_eq_zero];intro x ak;show ¬(cm V (sd x)).testBit j=true;rw[abP (abl (oJ (af x ak).2) (abI ∅ (adV aI)))];simp
  rw[ar];rfl
def Tw(dH:U.Nodup)(ak:xs.Nodup){x:α}(h:x∈xs)(bh:x∈U):cm U xs≠0:=λz=>by
 have bV:=ab3 bh;have:=m8 _ bV ak dH;rw[z,acZ,ach bV]at this;exact of_decide_eq_false this.symm h
def Tv{U xs ys:List α}(dH:U.Nodup)(ak:xs.Nodup)(aP:ys.Nodup)(h:∀x,x∈xs<->x∈ys)(bh:∀x∈xs,x∈U):cm U xs=cm U ys:=by
 apply acR;intro j
 by_cases aI:j<U.length
 .rw[m8 j aI ak dH,m8 j aI aP dH];exact aeG.mpr (h _)
 .have p:=abI (n:=2) ∅ (adV aI);rw[abP (abl (oJ bh) p),abP (abl (oJ λy aP=>bh y ((h y).mpr aP)) p)]
end
end fy
end
section
namespace fy
noncomputable def dM(as:List Nat):Nat:=(dD [] (as.map bare)).length
def yg(L:List Nat):(L.map bare).map (λx:Row=>x.1)=L:=by rw[List.map_map];exact adB L
def EY(h:∀x,sp (rs.map (·.1)) x<->sp (hi.map (·.1)) x):(dD [] rs).length=(dD [] hi).length:=by
 have e:∀(rs:List Row) x,sp (rws (dD [] rs)) x<->sp (rs.map (·.1)) x:=λrs x=>by
  rw[r4 dr.nil,show rws []=[] from rfl,acz]
 have eW:=rQ (hS (rs:=rs) dr.nil) (hS (rs:=hi) dr.nil) λx ak=>(e hi x).mpr ((h x).mp ((e rs x).mp ak))
 have gR:=rQ (hS (rs:=hi) dr.nil) (hS (rs:=rs) dr.nil) λx ak=>(e rs x).mpr ((h x).mpr ((e hi x).mp ak))
 lia
def Ie(rs):(dD [] rs).length=dM (rs.map (·.1)):=EY λx=>by rw[yg]
def Ib{as bs:List Nat}(h:∀x,sp as x<->sp bs x):dM as=dM bs:=EY λx=>by rw[yg,yg];exact h x
def wd{as bs:List Nat}(h:∀x,x∈as<->x∈bs):dM as=dM bs:=Ib λ_=>⟨fl λa aw=>fb ((h a).mp aw),fl λa aw=>fb ((h a).mpr aw)⟩
def qB(as)(a):(sp as a->dM (as++[a])=dM as)/\(¬sp as a->dM (as++[a])=dM as+1):=by
 have e:dD [] ((as++[a]).map bare)=grow (dD [] (as.map bare)) (bare a):=by unfold dD;rw[List.map_append,List.foldl_append];rfl
 have z:=wa (B:=dD [] (as.map bare)) (r:=bare a) (hS dr.nil);have z:(red (dD [] (as.map bare)) (bare a)).1=0<->sp as a:=z.trans qI;unfold dM;rw[e,r6];exact⟨λh=>by rw[if_pos (z.mpr h)];rfl,λh=>by rw[if_neg λq=>h (z.mp q)]⟩
def mn(cS:Nat->Nat):Prop:=∀x y,cS (x ^^^ y)=cS x ^^^ cS y
theorem oZ(h:mn cS):∀{L:List Nat}{x:Nat},sp L x->sp (L.map cS) (cS x)
 |[],x,e=>by
  cases e;have:=h 0 0;rw[abY,abY]at this;exact this
 |a::L,x,e=>e.elim (λe=>.inl (oZ h e)) λe=>.inr (by rw[<- h];exact oZ h e)
def VZ(J:mn cS)(aa:mn ψ):∀as:List Nat,(∀a∈as,ψ (cS a)=a)->dM (as.map cS)=dM as:=by
 intro as;refine snoc_ind (P:=λas=>(∀a∈as,ψ (cS a)=a)->dM (as.map cS)=dM as) (λ_=>rfl) (λas a aG ae=>?_) as;have aG:=aG λb q=>ae b (List.mem_append_left _ q)
 rw[List.map_append,aem];obtain⟨l1,fC⟩:=qB as a;obtain⟨aH,aT⟩:=qB (as.map cS) (cS a)
 by_cases q:sp as a
 .rw[l1 q,aH (oZ J q),aG]
 .rw[fC q,aT λz=>q ?_,aG];have:=oZ aa z;rw[List.map_map,ae a (by simp),show as.map (ψ ∘ cS)=as from(abB λb q=>ae b (List.mem_append_left _ q)).trans (adB as)]at this;exact this
def ZA{as bs:List Nat}(h:as.Perm bs):d6 as=d6 bs:=by
 induction h with
 |nil=>rfl
 |cons a _ aG=>rw[d6,d6,aG]
 |swap a b L=>rw[d6,d6,d6,d6,<- abS,<- abS,aei b a]
 |trans _ _ J aa=>exact J.trans aa
theorem Kn:∀{L:List Nat},(∀a∈L,sp M a)->sp M (d6 L)
 |[],_=>qJ M
 |a::L,h=>iy (h a List.mem_cons_self) (Kn λb q=>h b (List.mem_cons_of_mem _ q))
def BA{α β w7:Type}[DecidableEq α][DecidableEq β]{U:List w7}{V:List α}{V':List β}{sd:w7->List α}(f)(g:β->α)(h:∀c∈U,∀y∈sd c,y∈V/\f y∈V'/\g (f y)=y):dM (U.map λc=>cm V' ((sd c).map f))=dM (U.map λc=>cm V (sd c)):=by
 have e:(U.map λc=>cm V' ((sd c).map f))=(U.map λc=>cm V (sd c)).map (bd (V.map λy=>2 ^ cY V' (f y))):=by
  rw[List.map_map];refine abB λc ag=>?_
  show _=bd _ (cm V (sd c));rw[px λy aP=>(h c ag y aP).1];unfold cm;rw[List.map_map];rfl
 rw[e];refine VZ (ψ:=bd (V'.map λz=>2 ^ cY V (g z))) (kf _) (kf _) _ λa aw=>?_
 obtain⟨c,ag,rfl⟩:=List.mem_map.mp aw;rw[px λy aP=>(h c ag y aP).1];have ar:d6 ((sd c).map λy=>2 ^ cY V' (f y))=cm V' ((sd c).map f):=by unfold cm;rw[List.map_map];rfl
 rw[ar,px λz hz=>by obtain⟨y,aP,rfl⟩:=List.mem_map.mp hz;exact(h c ag y aP).2.1,List.map_map];unfold cm;exact ab6 d6 (abB λy aP=>by show 2 ^ cY V (g (f y))=_;rw[(h c ag y aP).2.2])
end fy
end
section
namespace fy
def VY(h:∀x,sp as x->sp bs x):dM as<=dM bs :=
 rQ (hS dr.nil) (hS dr.nil) λ_ q=>qI.mpr (h _ (qI.mp q))
theorem BV(h:mn cS):∀{B:List Nat}{y:Nat},sp (B.map cS) y->∃x,sp B x/\cS x=y
 |[],y,e=>by
  cases e;refine⟨0,rfl,?_⟩;have:=h 0 0;rwa[abY,abY]at this
 |b::B,y,e=>e.elim (λe=>let ⟨x,a,q⟩:=BV h e;⟨x,.inl a,q⟩) λe=>let ⟨x,a,q⟩:=BV h e;⟨x ^^^ b,.inr (by rw[h8];exact a),by rw[h,q,h8]⟩
def Ja(h:sp A x)(q:sp B y):sp (A++B) (x ^^^ y) :=
 iy (fl (λ_ m=>fb (List.mem_append_left _ m)) h) (fl (λ_ m=>fb (abh _ m)) q)
theorem wA:∀{B:List Nat}{x:Nat},sp (B++A) x->∃y z,sp A y/\sp B z/\x=y ^^^ z
 |[],x,h=>⟨x,0,h,rfl,(acP _).symm⟩
 |b::B,x,h=>h.elim (λh=>let ⟨y,z,p,q,e⟩:=wA h;⟨y,z,p,.inl q,e⟩) λh=>let ⟨y,z,p,q,e⟩:=wA h;⟨y,z ^^^ b,p,.inr (by rw[h8];exact q),by rw[<- abS,<- e,h8]⟩
def Jb{cS:Nat->Nat}(jf:mn cS){A:List Nat}(gA:∀a∈A,cS a=0){x:Nat}(h:sp A x):cS x=0 :=
 fl (M:=[]) (λa aw=>by obtain⟨b,ae,rfl⟩:=List.mem_map.mp aw;exact gA b ae) (oZ jf h)
def V1(jf:mn cS)(gA:∀a∈A,cS a=0)(B):(∀x,sp B x->cS x=0->sp A x)->dM (A++B)=dM A+dM (B.map cS):=by
 have j2:=λx=>Jb (x:=x) jf gA
 refine snoc_ind (P:=λB=>(∀x,sp B x->cS x=0->sp A x)->dM (A++B)=dM A+dM (B.map cS)) (λ_=>by rw[acz];rfl) (λB b aG h=>?_) B;have aG:=aG λx ak=>h x (fl (λ_ m=>fb (List.mem_append_left _ m)) ak)
 rw[<- adl,List.map_append,aem];obtain⟨l1,fC⟩:=qB (A++B) b;obtain⟨aH,aT⟩:=qB (B.map cS) (cS b)
 by_cases q:sp (B.map cS) (cS b)
 .rw[aH q,l1 ?_,aG];obtain⟨x,ak,e⟩:=BV jf q;have:=h (x ^^^ b) (Ja ak (fb List.mem_cons_self)) (by rw[jf,e,abY]);have:=Ja this ak;rwa[aei x b,h8]at this
 .rw[aT q,fC λz=>q ?_,aG];rfl;obtain⟨y,x,p,r,e⟩:=wA z;rw[e,jf,j2 x r,acP];exact oZ jf p
def OM(h:∀r∈rs,r<2 ^ as.length/\bd as r=0)(az:as.length<=dM rs+dM as)(hz:z<2 ^ as.length)(ae:bd as z=0):sp rs z:=adt λq=>by
 have st:=BZ as;have e:(el (dY as)).1.length=dM as:=by
  have key:∀(rs:List Row)(st:c6×List Nat),(rs.foldl step st).1=dD st.1 rs:=λrs=>by
   induction rs with
   |nil=>intro st;rfl
   |cons r rs aG=>intro st;exact aG (step st r)
  have:(el (dY as)).1=dD [] (dY as):=key _ _;rw[this,Ie];unfold dY;rw[List.map_map];exact ab6 dM (by simp[Function.comp_def])
 have l:=st.len;have f:=st.fin;have i:=VY (as:=rs++[z]) (bs:=(el (dY as)).2) λx ak=>fl (λa aw=>(abn.mp aw).elim (λm=>st.qd _ (h a m).1 (h a m).2) λm=>by cases abg.mp m;exact st.qd _ hz ae) ak
 rw[(qB rs z).2 q]at i;unfold dM at i e az;lia
theorem yh(jf:mn cS):∀(as:List Nat)(z:Nat),bd (as.map cS) z=cS (bd as z)
 |[],z=>by
  have:=jf 0 0;rw[abY,abY]at this;exact this.symm
 |a::as,z=>by
  have h0:cS 0=0:=(by have:=jf 0 0;rwa[abY,abY]at this);show(if z%2=1 then cS a else 0) ^^^ bd (as.map cS) (z / 2)=cS ((if z%2=1 then a else 0) ^^^ bd as (z / 2));rw[jf,yh jf as]
  split
  .rfl
  .rw[h0]
def Xy(as):∀x,sp as x->∃z,z<2 ^ as.length/\bd as z=x:=by
 refine snoc_ind (P:=λas=>∀x,sp as x->∃z,z<2 ^ as.length/\bd as z=x) (λx h=>⟨0,∅,h.symm⟩) (λas a aG x h=>?_) as;obtain⟨y,u,p,q,e⟩:=wA h;obtain⟨z,hz,ae⟩:=aG u q;have l:2 ^ as.length<2 ^ (as++[a]).length:=acQ ∅ (by simp);rcases p with p|p
 .cases p;exact⟨z,⋯,by rw[jF as a hz,ae,e,acD]⟩
 .have p:y ^^^ a=0:=p;have ZG:y=a:=(by have:=h8 y a;rw[p,acD]at this;exact this.symm);exact⟨z ^^^ 2 ^ as.length,acs ⋯ l,by rw[kf,jF as a hz,yj,ae,e,ZG,aei]⟩
theorem Km:∀as bs:List Nat,d6 (as++bs)=d6 as ^^^ d6 bs
 |[],bs=>(acD _).symm
 |a::as,bs=>by
  show a ^^^ d6 (as++bs)=(a ^^^ d6 as) ^^^ d6 bs;rw[Km as,abS]
def V0(h:∀x∈L,x=a)(aw:a≠0)(es:L≠[]):dM L=1:=by
 have e:dM L=dM ([]++[a]):=wd λx=>⟨λq=>by rw[h x q];simp,λq=>by
  cases L with
  |nil=>exact absurd rfl es
  |cons b L=>rw[abg.mp q,<- h b List.mem_cons_self];exact List.mem_cons_self⟩
 rw[e,(qB [] a).2 λz=>aw z];rfl
def Ic(h:∀x∈L,x=0):dM L=0:=by
 have:dM L=dM []:=Ib λx=>⟨fl λa aw=>by rw[h a aw];exact qJ _,fl λa aw=>nomatch aw⟩
 rw[this];rfl
end fy
end
section
namespace fS
open PySem PySem.SetTable
def mv(xs:Array Nat):Prop:=∀(i j a b:Nat),i<j->xs[i]?=some a->xs[j]?=some b->a<b
def xj(xs:Array Nat)(j p:Nat):Prop:=∀(q a:Nat),q<p->xs[q]?=some a->a<j
def xe(xs:Array Nat)(j p:Nat):Prop:=∀(q a:Nat),p<=q->xs[q]?=some a->j<=a
theorem zy(a3:mv xs)(j):∀(fuel lo ai:Nat),ai-lo<=fuel->lo<=ai->ai<=xs.size->xj xs j lo->xe xs j ai ->
  below.go xs j fuel lo ai<=xs.size/\xj xs j (below.go xs j fuel lo ai)/\xe xs j (below.go xs j fuel lo ai)
 |0,lo,ai,J,aa,aE,az,cu=>by
  have e:lo=ai:=⋯;subst e;exact⟨aE,az,cu⟩
 |fuel+1,lo,ai,J,aa,aE,az,cu=>by
  unfold below.go
  by_cases bV:lo<ai
  .rw[if_pos bV];have hm:(lo+ai) / 2<xs.size:=⋯;have aZ:xs[(lo+ai) / 2]?=some xs[(lo+ai) / 2]:=abf hm;have hd:xs.getD ((lo+ai) / 2) j=xs[(lo+ai) / 2]:=(by simp[Array.getD,hm]);simp only[hd]
   by_cases ag:xs[(lo+ai) / 2]<j
   .rw[if_pos ag];refine zy a3 j fuel _ _ ⋯ ⋯ aE ?_ cu;intro q a aN aw
    by_cases e:q=(lo+ai) / 2
    .subst e;rw[aZ]at aw;cases aw;exact ag
    .have:=a3 q ((lo+ai) / 2) a _ ⋯ aw aZ;lia
   .rw[if_neg ag];refine zy a3 j fuel _ _ ⋯ ⋯ ⋯ az ?_;intro q a aN aw
    by_cases e:q=(lo+ai) / 2
    .subst e;rw[aZ]at aw;cases aw;lia
    .have:=a3 ((lo+ai) / 2) q _ a ⋯ aZ aw;lia
  .rw[if_neg bV];have e:lo=ai:=⋯;subst e;exact⟨aE,az,cu⟩
def yl(a3:mv xs)(j):below xs j<=xs.size/\xj xs j (below xs j)/\xe xs j (below xs j):=by
 unfold below;refine zy a3 j _ _ _ ⋯ ⋯ ⋯ (λq a aN _=>⋯) (λq a aN aw=>?_);have:=(abv.mp aw).1;lia
def below_at(a3:mv xs)(h:xs[i]?=some j):below xs j=i:=by
 obtain⟨J,aa,aE⟩:=yl a3 j
 by_cases cF:i<below xs j
 .exact absurd (aa i j cF h) (aco _)
 .by_cases bU:below xs j=i
  .exact bU
  .have ai:=(abv.mp h).1;have aZ:xs[below xs j]?=some (xs[below xs j]'⋯):=abf ⋯;have a:=aE _ _ (aa9 _) aZ;have b:=a3 (below xs j) i _ _ ⋯ aZ h;lia
def oX{t:SetTable}(a3:mv t.place)(h:t.place[i]?=some j):t.slot j=.live i:=by
 unfold slot;rw[below_at a3 h];simp[h]
def Xs{t:SetTable}(hd:t.dummies=#[])(h:∀i:Nat,t.place[i]?≠some j):t.slot j=.empty:=by
 unfold slot has;have h0:(t.place[below t.place j]?==some j)=false:=by
  rw[abG];exact h _
 simp only[h0,hd];simp
noncomputable def ib(m:Nat)(p:Probe):Probe :=
 if p.more>0 then { p with j:=p.j+1,more:=p.more-1 } else
 { p with j:=(leap m p.i p.perturb).1,more:=runEnd m (leap m p.i p.perturb).1-(leap m p.i p.perturb).1,i:=(leap m p.i p.perturb).1,perturb:=(leap m p.i p.perturb).2 }
def KL(t:SetTable)(p):t.advance p=ib t.mask p:=rfl
noncomputable def RM(m:Nat)(h:Int):Probe:={ j:=bits h%(m+1),more:=runEnd m (bits h%(m+1))-bits h%(m+1),i:=bits h%(m+1),perturb:=bits h,dummy:=none }
noncomputable def pr(m:Nat)(h:Int):Nat->Probe
 |0=>RM m h
 |n+1=>ib m (pr m h n)
noncomputable def cN(m:Nat)(h:Int)(n:Nat):Nat:=(pr m h n).j
theorem HG(m)(h):∀n,(pr m h n).dummy=none
 |0=>rfl
 |n+1=>by
  have aG:=HG m h n;show(ib m (pr m h n)).dummy=none;unfold ib
  split<;>exact aG
def we(h:i<=m):runEnd m i<=m/\i<=runEnd m i/\runEnd m i<=i+9:=by
 unfold runEnd;split<;>lia
def Gh(m i p):(leap m i p).1<=m:=by
 unfold leap;have:(i*5+1+p / 32)%(m+1)<m+1:=ae1 _ ⋯;show(i*5+1+p / 32)%(m+1)<=m;lia
theorem HH(m)(h):∀n,(pr m h n).j+(pr m h n).more<=m
 |0=>by
  have:bits h%(m+1)<m+1:=ae1 _ ⋯;have:=we (m:=m) (i:=bits h%(m+1)) ⋯;show bits h%(m+1)+(runEnd m (bits h%(m+1))-bits h%(m+1))<=m;lia
 |n+1=>by
  have aG:=HH m h n;show(ib m (pr m h n)).j+(ib m (pr m h n)).more<=m;unfold ib
  split
  .show(pr m h n).j+1+((pr m h n).more-1)<=m;lia
  .have:=Gh m (pr m h n).i (pr m h n).perturb;have:=we this;show(leap m (pr m h n).i (pr m h n).perturb).1+(runEnd m (leap m (pr m h n).i (pr m h n).perturb).1-(leap m (pr m h n).i (pr m h n).perturb).1)<=m;lia
def BX(m)(h)(n):cN m h n<=m:=by have:=HH m h n;unfold cN;lia
noncomputable def run(m:Nat)(h:Int):Nat->Nat×Nat
 |0=>(bits h%(m+1),bits h)
 |r+1=>leap m (run m h r).1 (run m h r).2
def BC(m)(h):∀r,(run m h r).1<=m
 |0=>by have:bits h%(m+1)<m+1:=ae1 _ ⋯;show bits h%(m+1)<=m;lia
 |r+1=>Gh _ _ _
noncomputable def st(m:Nat)(h:Int)(r d:Nat):Probe:={ j:=(run m h r).1+d,more:=runEnd m (run m h r).1-(run m h r).1-d,i:=(run m h r).1,perturb:=(run m h r).2,dummy:=none }
noncomputable def len(m:Nat)(h:Int)(r:Nat):Nat:=runEnd m (run m h r).1-(run m h r).1
def SG(m)(h)(r):len m h r<=9:=by have:=we (BC m h r);unfold len;lia
def CU(hd:d<len m h r):ib m (st m h r d)=st m h r (d+1):=by
 unfold ib;have:(st m h r d).more>0:=by show runEnd m (run m h r).1-(run m h r).1-d>0;unfold len at hd;lia
 rw[if_pos this];show Probe.mk _ _ _ _ _=Probe.mk _ _ _ _ _;congr 1
def KN:ib m (st m h r (len m h r))=st m h (r+1) 0:=by
 unfold ib;have:¬(st m h r (len m h r)).more>0:=by show ¬(runEnd m (run m h r).1-(run m h r).1-len m h r>0);unfold len;lia
 rw[if_neg this];rfl
theorem xE(m)(h):∀r:Nat,∃n,n<=10*r/\pr m h n=st m h r 0/\∀k,k<n->∃b5 d',b5<r/\d'<=len m h b5/\pr m h k=st m h b5 d'
 |0=>⟨0,aa9 _,rfl,λk ax=>absurd ax (Nat.not_lt_zero k)⟩
 |r+1=>by
  obtain⟨n,aC,e,ax⟩:=xE m h r;have walk:∀d,d<=len m h r->pr m h (n+d)=st m h r d:=by
   intro d
   induction d with
   |zero=>intro _;exact e
   |succ d aG =>
    intro hd;show ib m (pr m h (n+d))=_;rw[aG ⋯];exact CU ⋯
  have az:=SG m h r;refine⟨n+len m h r+1,⋯,?_,λk fv=>?_⟩
  .show ib m (pr m h (n+len m h r))=_;rw[walk _ (aa9 _)];exact KN
  .by_cases c:k<n
   .obtain⟨b5,d',a,b,c⟩:=ax k c;exact⟨b5,d',⋯,b,c⟩
   .refine⟨r,k-n,⋯,⋯,?_⟩;have:=walk (k-n) ⋯;rw[show n+(k-n)=k by lia]at this;exact this
def Ln(m)(h)(r d)(hd:d<=len m h r):∃n,n<=10*r+d/\pr m h n=st m h r d/\∀k,k<n->∃b5 d',d'<=len m h b5/\(b5<r\/(b5=r/\d'<d))/\pr m h k=st m h b5 d':=by
 obtain⟨n,aC,e,ax⟩:=xE m h r;have walk:∀d,d<=len m h r->pr m h (n+d)=st m h r d:=by
  intro d
  induction d with
  |zero=>intro _;exact e
  |succ d aG =>
   intro hd;show ib m (pr m h (n+d))=_;rw[aG ⋯];exact CU ⋯
 refine⟨n+d,⋯,walk d hd,λk fv=>?_⟩
 by_cases c:k<n
 .obtain⟨b5,d',a,b,c⟩:=ax k c;exact⟨b5,d',b,.inl a,c⟩
 .refine⟨r,k-n,⋯,.inr ⟨rfl,⋯⟩,?_⟩;have:=walk (k-n) ⋯;rw[show n+(k-n)=k by lia]at this;exact this
def LB(h):bits h<2 ^ 64:=by
 unfold bits;have J:=aeU h (show(2 ^ 64:Int)≠0 by decide);have aa:=aen h (show(0:Int)<2 ^ 64 by decide);have e:((2:Int) ^ 64)=18446744073709551616:=by decide
 rw[e]at J aa ⊢;lia
theorem Hz(m)(h):∀r,(run m h r).2=bits h / 32 ^ r
 |0=>by simp[run]
 |r+1=>by
  show(run m h r).2 / 32=_;rw[Hz m h r,Nat.div_div_eq_div_mul,Nat.pow_succ]
def UU(m)(h)(r)(a3:13<=r):(run m h r).2=0:=by
 rw[Hz];refine Nat.div_eq_of_lt (abl (LB h) (abX (show 2 ^ 64<=32 ^ 13 by decide) (abI ∅ a3)))
noncomputable def gV(m:Nat):Nat->Nat->Nat
 |0,i=>i
 |n+1,i=>(gV m n i*5+1)%(m+1)
theorem Im(m)(h):∀n,(run m h (13+n)).1=gV m n (run m h 13).1
 |0=>rfl
 |n+1=>by
  show(leap m (run m h (13+n)).1 (run m h (13+n)).2).1=_;rw[Im m h n,UU m h (13+n) ⋯];rfl
noncomputable def vW(m:Nat):Nat->Nat->List Nat
 |0,_=>[]
 |n+1,i=>i::vW m n ((i*5+1)%(m+1))
theorem Hk(m):∀n i,gV m n ((i*5+1)%(m+1))=gV m (n+1) i
 |0,i=>rfl
 |n+1,i=>by
  show(gV m n ((i*5+1)%(m+1))*5+1)%(m+1)=(gV m (n+1) i*5+1)%(m+1);rw[Hk m n i]
theorem vX(m):∀a b i,gV m (a+b) i=gV m b (gV m a i)
 |a,0,i=>rfl
 |a,b+1,i=>by
  show(gV m (a+b) i*5+1)%(m+1)=_;rw[vX m a b i];rfl
theorem GO(m):∀n i j,j∈vW m n i->∃k,k<n/\gV m k i=j
 |0,i,j,h=>by simp[vW]at h
 |n+1,i,j,h=>by
  rcases aa8.mp h with e|h
  .exact⟨0,⋯,e.symm⟩
  .obtain⟨k,ax,e⟩:=GO m n _ j h;exact⟨k+1,⋯,by rw[<- Hk];exact e⟩
def gN(m:Nat):Prop:=m=7\/m=31\/m=127\/m=511
noncomputable def rB(m:Nat):Bool:=(List.range (m+1)).all λj=>(vW m (m+1) 0).contains j
def Mz:rB 7=true:=by decide +kernel
def Mx:rB 31=true:=by decide +kernel
def Mw:rB 127=true:=by decide +kernel
def My:rB 511=true:=by decide +kernel
def UP:gV 511 512 0=0:=by decide +kernel
def UQ:gV 7 8 0=0:=by decide +kernel
def UO:gV 31 32 0=0:=by decide +kernel
def UN:gV 127 128 0=0:=by decide +kernel
def gN.gQ(h:gN m):rB m=true/\gV m (m+1) 0=0:=by
 rcases h with rfl|rfl|rfl|rfl
 .exact⟨Mz,UQ⟩
 .exact⟨Mx,UO⟩
 .exact⟨Mw,UN⟩
 .exact⟨My,UP⟩
def gN.HT(h:gN m)(aI:j<=m):∃k,k<m+1/\gV m k 0=j:=by
 have:=aby.mp h.gQ.1 j (List.mem_range.mpr ⋯);exact GO m (m+1) 0 j (by simpa using this)
def gN.reach(h:gN m)(ai:i<=m)(aI:j<=m):∃k,k<m+1/\gV m k i=j:=by
 obtain⟨a,aw,bG⟩:=h.HT ai;obtain⟨b,ae,eu⟩:=h.HT aI
 by_cases c:a<=b
 .refine⟨b-a,⋯,?_⟩;rw[<- bG,<- vX,show a+(b-a)=b by lia];exact eu
 .refine⟨m+1-a+b,⋯,?_⟩;rw[<- bG,<- vX,show a+(m+1-a+b)=(m+1)+b by lia,vX,h.gQ.2];exact eu
def gN.met(hm:gN m)(h)(aI:j<=m):∃r,r<m+14/\(run m h r).1=j:=by
 obtain⟨k,ax,e⟩:=hm.reach (BC m h 13) aI;exact⟨13+k,⋯,by rw[Im];exact e⟩
def gN.Tn(hm:gN m)(h)(aI:j<=m):∃n,n<10*turns m/\cN m h n=j:=by
 obtain⟨r,a3,e⟩:=hm.met h aI;obtain⟨n,aC,lG,_⟩:=xE m h r;refine⟨n,by unfold turns;lia,?_⟩;unfold cN;rw[lG];show(run m h r).1+0=j;lia
def least{P:Nat->Prop}(n)(h:P n):∃k,k<=n/\P k/\∀q,q<k->¬P q:=by
 induction n using Nat.strongRecOn with
 |ind n aG =>
  by_cases c:∃q,q<n/\P q
  .obtain⟨q,aN,aB⟩:=c;obtain⟨k,a,b,d⟩:=aG q aN aB;exact⟨k,⋯,b,d⟩
  .exact⟨n,aa9 _,h,λq aN aB=>c ⟨q,aN,aB⟩⟩
def hole(a3:mv xs)(af:xs.size<=m):∃j,j<=m/\∀i:Nat,xs[i]?≠some j:=by
 by_cases c:∃j,j<=m/\∀i:Nat,xs[i]?≠some j
 .exact c
 .exfalso;have all:∀j,j<=m->∃i:Nat,xs[i]?=some j:=λj aI=>by
   by_cases c3:∃i:Nat,xs[i]?=some j
   .exact c3
   .exact absurd ⟨j,aI,λi e=>c3 ⟨i,e⟩⟩ c
  have ge:∀j,j<=m->∀i:Nat,xs[i]?=some j->j<=i:=by
   intro j
   induction j with
   |zero=>intro _ i _;lia
   |succ j aG =>
    intro aI i ai;obtain⟨cJ,ft⟩:=all j ⋯;have:=aG ⋯ cJ ft
    by_cases cF:i<cJ
    .have:=a3 i cJ _ _ cF ai ft;lia
    .by_cases bU:i=cJ
     .subst bU;rw[ai]at ft;injection ft with e;lia
     .omega
  obtain⟨i,ai⟩:=all m (aa9 _);have J:=ge m (aa9 _) i ai;have aa:=(abv.mp ai).1;lia
def EE{t:SetTable}(hm:gN t.mask)(a3:mv t.place)(hd:t.dummies=#[])(af:t.place.size<=t.mask)(h):
  ∃N,N<10*turns t.mask/\t.slot (cN t.mask h N)=.empty/\(∀i:Nat,t.place[i]?≠some (cN t.mask h N))/\∀k,k<N->∃i:Nat,t.place[i]?=some (cN t.mask h k):=by
 obtain⟨j,aI,aC⟩:=hole a3 af;obtain⟨n,FD,e⟩:=hm.Tn h aI;obtain⟨N,J,aa,aE⟩:=least (P:=λn=>∀i:Nat,t.place[i]?≠some (cN t.mask h n)) n (by rw[e];exact aC);refine⟨N,⋯,Xs hd aa,aa,λk ax=>?_⟩
 by_cases c:∃i:Nat,t.place[i]?=some (cN t.mask h k)
 .exact c
 .exact absurd (λi e=>c ⟨i,e⟩) (aE k ax)
theorem Bk(a3:mv t.place)(he:t.slot (cN t.mask h N)=.empty)(az:∀k,k<N->∃i:Nat,t.place[i]?=some (cN t.mask h k)):
  ∀(fuel n:Nat),n<=N->N-n<fuel ->
   (∃k i,n<=k/\k<N/\t.place[i]?=some (cN t.mask h k)/\hashAt i=h/\(∀c4,n<=c4->c4<k->∀cJ:Nat,t.place[cJ]?=some (cN t.mask h c4)->hashAt cJ≠h)/\probe.go t hashAt h fuel (pr t.mask h n)=some (.candidate (cN t.mask h k) i (pr t.mask h (k+1))))
   \/ ((∀c4,n<=c4->c4<N->∀cJ:Nat,t.place[cJ]?=some (cN t.mask h c4)->hashAt cJ≠h)/\probe.go t hashAt h fuel (pr t.mask h n)=some (.empty (cN t.mask h N) none))
 |0,n,J,aa=>by lia
 |fuel+1,n,J,aa=>by
  unfold probe.go
  by_cases c:n=N
  .subst c;have e:t.slot (pr t.mask h n).j=.empty:=he;rw[e];refine .inr ⟨λc4 a b=>⋯,?_⟩;show some (Met.empty _ (pr t.mask h n).dummy)=_;rw[HG];rfl
  .obtain⟨i,ai⟩:=az n ⋯;have e:t.slot (pr t.mask h n).j=.live i:=oX a3 ai;rw[e]
   by_cases q:hashAt i=h
   .refine .inl ⟨n,i,aa9 _,⋯,ai,q,λc4 a b=>⋯,?_⟩;simp only[q,beq_self_eq_true,abU];rfl
   .have cB:(hashAt i==h)=false:=(by rw[abG];exact q);simp only[cB,aa6,abp];have ne:∀cJ:Nat,t.place[cJ]?=some (cN t.mask h n)->hashAt cJ≠h:=λcJ ft=>by
     have bq:=oX a3 ft;rw[oX a3 ai]at bq;injection bq with bq;rw[<- bq];exact q
    rw[KL];show(∃k i,_/\_/\_/\_/\_/\probe.go t hashAt h fuel (pr t.mask h (n+1))=_)\/(_/\probe.go t hashAt h fuel (pr t.mask h (n+1))=_);rcases Bk a3 he az fuel (n+1) ⋯ ⋯ with⟨k,eW,a,b,d,e1,f,g⟩|⟨f,g⟩
    .refine .inl ⟨k,eW,⋯,b,d,e1,λc4 p1 p2 cJ p3=>?_,g⟩
     by_cases c3:c4=n
     .subst c3;exact ne cJ p3
     .exact f c4 ⋯ p2 cJ p3
    .refine .inr ⟨λc4 p1 p2 cJ p3=>?_,g⟩
     by_cases c3:c4=n
     .subst c3;exact ne cJ p3
     .exact f c4 ⋯ p2 cJ p3
def Au{α:Type}(xs)(p)(x:α)(aB:p<=xs.size)(i):
  (insertAt xs p x)[i]?=if i<p then xs[i]? else if i=p then some x else xs[i-1]?:=by
 unfold insertAt;rw[Array.getElem?_append,Array.getElem?_push,Array.getElem?_extract,Array.getElem?_extract,Array.size_push,aeo];have e:min p xs.size-0=p:=by lia
 rw[e,acC]
 by_cases cF:i<p
 .simp only[if_pos (show i<p+1 by lia),if_neg (show ¬i=p by lia),if_pos cF]
 .by_cases bU:i=p
  .simp only[if_pos (show i<p+1 by lia),if_neg cF,if_pos bU]
  .simp only[if_neg (show ¬i<p+1 by lia),if_neg cF,if_neg bU,Nat.min_self];have ar:min p xs.size=p:=by lia
   by_cases ie:i-(p+1)<xs.size-p
   .rw[if_pos ie];congr 1;lia
   .rw[if_neg ie];rw[ac6 ⋯]
def qa{α:Type}(xs)(p)(x:α)(aB:p<=xs.size):(insertAt xs p x).size=xs.size+1:=by
 unfold insertAt;rw[aex,Array.size_push,aeo,aeo];lia
def F0{α:Type}(xs)(p)(x:α)(aB:p<=xs.size):(insertAt xs p x).toList.Perm (x::xs.toList):=by
 have e:(insertAt xs p x).toList=xs.toList.take p++x::xs.toList.drop p:=by
  unfold insertAt;simp[List.extract_eq_drop_take];rw[acE (by simp)]
 rw[e];refine(List.perm_middle).trans (List.Perm.cons x ?_);rw[adQ]
structure Tab{α:Type}(aj:Array (Int×α))(t:SetTable):Prop where
 ix:mv t.place
 le:∀i j:Nat,t.place[i]?=some j->j<=t.mask
 gJ:t.place.size=aj.size
 rK:t.dummies=#[]
 cm:gN t.mask
 full:t.place.size<=t.mask
 path:∀(i j:Nat)(e:Int×α),t.place[i]?=some j->aj[i]?=some e->∃n,cN t.mask e.1 n=j/\∀k,k<n->∃cJ:Nat,t.place[cJ]?=some (cN t.mask e.1 k)
section
variable{α:Type}{aj:Array (Int×α)}{t:SetTable}
theorem Tab.fill(T:Tab aj t):t.fill=aj.size:=by unfold SetTable.fill;rw[T.rK,T.gJ];simp
def Tab.met(T:Tab aj t)(he:∀i:Nat,t.place[i]?≠some (cN t.mask h N)){i:Nat}(ai:aj[i]?=some e)(cu:e.1=h):∃k,k<N/\t.place[i]?=some (cN t.mask h k):=by
 have af:=(abv.mp ai).1;rw[<- T.gJ]at af;have aB:t.place[i]?=some t.place[i]:=abf af;obtain⟨n,aC,ay⟩:=T.path i _ e aB ai;subst cu;refine⟨n,?_,by rw[aC];exact aB⟩
 by_cases c:n<N
 .exact c
 .exfalso
  by_cases bU:n=N
  .subst bU;exact he i (by rw[aC];exact aB)
  .obtain⟨cJ,ft⟩:=ay N ⋯;exact he cJ ft
theorem Tab.put(T:Tab aj t)(he:∀i:Nat,t.place[i]?≠some (cN t.mask h N))(az:∀k,k<N->∃i:Nat,t.place[i]?=some (cN t.mask h k))(hf:t.place.size+1<=t.mask):
  Tab (insertAt aj (t.put (cN t.mask h N)).2 (h,x)) (t.put (cN t.mask h N)).1/\(t.put (cN t.mask h N)).2<=aj.size/\(t.put (cN t.mask h N)).1.mask=t.mask/\(t.put (cN t.mask h N)).1.plain=t.plain/\(t.put (cN t.mask h N)).1.led=t.led
   /\ (t.put (cN t.mask h N)).1.place.size=aj.size+1:=by
 obtain⟨b1,b2,d7⟩:=yl T.ix (cN t.mask h N);generalize aI:cN t.mask h N=j at he b1 b2 d7 ⊢;have hd:has t.dummies j=false:=by unfold has;rw[T.rK];simp
 have e1:t.put j=({ t with place:=insertAt t.place (below t.place j) j },below t.place j):=by
  unfold SetTable.put;simp only[hd];rfl
 rw[e1];generalize below t.place j=p at b1 b2 d7;have rr:p<=aj.size:=by rw[<- T.gJ];exact b1
 have pg:=Au t.place p j b1;have rT:=Au aj p (h,x) rr;have Lp:∀(q a:Nat),p<=q->t.place[q]?=some a->j<a:=λq a aN aw=>by
  have:=d7 q a aN aw;have:j≠a:=λe=>he q (by rw[e];exact aw)
  lia
 have mem:∀v i:Nat,t.place[i]?=some v->∃cJ:Nat,(insertAt t.place p j)[cJ]?=some v:=λv i ai=>by
  by_cases c:i<p
  .exact⟨i,by rw[pg,if_pos c];exact ai⟩
  .exact⟨i+1,by rw[pg,if_neg (show ¬i+1<p by lia),if_neg (show ¬i+1=p by lia)];exact ai⟩
 refine⟨⟨?_,?_,?_,T.rK,T.cm,?_,?_⟩,rr,rfl,rfl,rfl,?_⟩
 .intro i cJ a b Qw aw ae;dsimp only at aw ae;rw[pg]at aw ae
  by_cases cF:i<p
  .rw[if_pos cF]at aw
   by_cases bU:cJ<p
   .rw[if_pos bU]at ae;exact T.ix i cJ a b Qw aw ae
   .rw[if_neg bU]at ae
    by_cases ie:cJ=p
    .rw[if_pos ie]at ae;injection ae with ae;subst ae;exact b2 i a cF aw
    .rw[if_neg ie]at ae;exact T.ix i (cJ-1) a b ⋯ aw ae
  .rw[if_neg cF]at aw;rw[if_neg (show ¬cJ<p by lia),if_neg (show ¬cJ=p by lia)]at ae
   by_cases ie:i=p
   .rw[if_pos ie]at aw;injection aw with aw;subst aw;exact Lp (cJ-1) b ⋯ ae
   .rw[if_neg ie]at aw;exact T.ix (i-1) (cJ-1) a b ⋯ aw ae
 .intro i v aK;dsimp only at aK ⊢;rw[pg]at aK
  split at aK
  .exact T.le _ _ aK
  .split at aK
   .injection aK with aK;rw[<- aK,<- aI];exact BX _ _ _
   .exact T.le _ _ aK
 .show(insertAt t.place p j).size=(insertAt aj p (h,x)).size;rw[qa _ _ _ b1,qa _ _ _ rr,T.gJ]
 .show(insertAt t.place p j).size<=t.mask;rw[qa _ _ _ b1];exact hf
 .intro i v e aK hD;dsimp only at aK ⊢;rw[pg]at aK;rw[rT]at hD;have old:∀sF:Nat,t.place[sF]?=some v->aj[sF]?=some e->∃n,cN t.mask e.1 n=v/\∀k,k<n->∃cJ:Nat,(insertAt t.place p j)[cJ]?=some (cN t.mask e.1 k):=λsF a b=>by
   obtain⟨n,aC,ay⟩:=T.path sF v e a b;exact⟨n,aC,λk ax=>let ⟨cJ,ft⟩:=ay k ax;mem _ _ ft⟩
  by_cases cF:i<p
  .rw[if_pos cF]at aK hD;exact old i aK hD
  .rw[if_neg cF]at aK hD
   by_cases bU:i=p
   .rw[if_pos bU]at aK hD;injection aK with aK;injection hD with hD;subst hD;exact⟨N,by rw[aI];exact aK,λk ax=>let ⟨cJ,ft⟩:=az k ax;mem _ _ ft⟩
   .rw[if_neg bU]at aK hD;exact old _ aK hD
 .show(insertAt t.place p j).size=aj.size+1;rw[qa _ _ _ b1,T.gJ]
end
theorem A3:∀(k:Nat)(l:List Nat),l.Nodup->(∀x∈l,x<k)->l.length<=k
 |0,l,_,h=>by
  cases l with
  |nil=>simp
  |cons a r=>exact absurd (h a List.mem_cons_self) (Nat.not_lt_zero a)
 |k+1,l,d5,h=>by
  by_cases c:k∈l
  .have J:=A3 k (l.erase k) (d5.erase k) λx ak=>by
    have:=(d5.mem_erase_iff).mp ak;have:=h x this.2;lia
   rw[List.length_erase_of_mem c]at J;lia
  .have:=A3 k l d5 λx ak=>by
    have:=h x ak;have:x≠k:=λe=>c (e▸ak)
    lia
   lia
def mq(cH:Array (Option Nat))(j:Nat):Prop:=∃q,cH[j]?=some (some q)
theorem EP(hz:cH.size=m+1):∀(fuel r:Nat),(∃fP,r<=fP/\fP<r+fuel/\cH[(run m h fP).1]?=some none) ->
  (∀b5 d,d<=len m h b5->b5<r->mq cH ((run m h b5).1+d)) ->
  ∃aH bZ,bZ<=len m h aH/\layClean.free m cH fuel (run m h r).1 (run m h r).2=some ((run m h aH).1+bZ)/\cH[(run m h aH).1+bZ]?=some none/\∀b5 d,d<=len m h b5->(b5<aH\/(b5=aH/\d<bZ))->mq cH ((run m h b5).1+d)
 |0,r,⟨fP,a,b,_⟩,_=>by lia
 |fuel+1,r,⟨fP,a,b,c⟩,ae=>by
  unfold layClean.free;have Ai:=we (BC m h r);have get:∀d,d<=len m h r->∃o,cH[(run m h r).1+d]?=some o/\cH.getD ((run m h r).1+d) (some 0)=o:=λd hd=>by
   unfold len at hd;have bV:(run m h r).1+d<cH.size:=(by rw[hz];lia);exact⟨cH[(run m h r).1+d],abf bV,by simp[Array.getD,bV]⟩
  cases hf:(List.range (runEnd m (run m h r).1+1-(run m h r).1)).find? λk=>(cH.getD ((run m h r).1+k) (some 0)).isNone with
  |some k =>
   obtain⟨J,aa,aE⟩:=List.find?_range_eq_some.mp hf;have ax:k<=len m h r:=(by have:=List.mem_range.mp aa;unfold len;lia);refine⟨r,k,ax,rfl,?_,λb5 d hd bV=>?_⟩
   .obtain⟨o,e1,ar⟩:=get k ax;rw[ar]at J;rw[e1];cases o with
    |none=>rfl
    |some _=>simp at J
   .rcases bV with bV|⟨rfl,bV⟩
    .exact ae b5 d hd bV
    .obtain⟨o,e1,ar⟩:=get d hd;have:=aE d bV;rw[ar]at this;cases o with
     |none=>simp at this
     |some q=>exact⟨q,e1⟩
  |none =>
   have aC:=List.find?_range_eq_none.mp hf;have full:∀d,d<=len m h r->mq cH ((run m h r).1+d):=λd hd=>by
    obtain⟨o,e1,ar⟩:=get d hd;have:=aC d (by unfold len at hd;lia);rw[ar]at this;cases o with
    |none=>simp at this
    |some q=>exact⟨q,e1⟩
   have aaJ:fP≠r:=λe=>by
    subst e;obtain⟨q,aN⟩:=full 0 (abw _);rw[Nat.add_zero,c]at aN;cases aN
   show ∃aH bZ,_/\layClean.free m cH fuel (run m h (r+1)).1 (run m h (r+1)).2=_/\_;refine EP hz fuel (r+1) ⟨fP,⋯,⋯,c⟩ λb5 d hd bV=>?_
   by_cases e:b5=r
   .subst e;exact full d hd
   .exact ae b5 d hd ⋯
structure Own(m:Nat)(af:List Int)(cH:Array (Option Nat)):Prop where
 size:cH.size=m+1
 lt:∀j q:Nat,cH[j]?=some (some q)->q<af.length
 inj:∀j lS q:Nat,cH[j]?=some (some q)->cH[lS]?=some (some q)->j=lS
 all:∀(q:Nat)(h:Int),af[q]?=some h->∃n,cH[cN m h n]?=some (some q)/\∀k,k<n->mq cH (cN m h k)
def Own.hole(O:Own m af cH)(az:af.length<=m):∃j,j<=m/\cH[j]?=some none:=by
 by_cases c:∃j,j<=m/\cH[j]?=some none
 .exact c
 .exfalso;have fN:∀j,j<=m->mq cH j:=λj aI=>by
   have aZ:cH[j]?=some (cH[j]'(by rw[O.size];lia)):=abf (by rw[O.size];lia);cases e:cH[j]'(by rw[O.size];lia) with
   |none=>exact absurd ⟨j,aI,by rw[aZ,e]⟩ c
   |some q=>exact⟨q,by rw[aZ,e]⟩
  have J:=A3 af.length ((List.range (m+1)).map λj=>(cH.getD j none).getD 0) ?_ ?_
  .simp at J;lia
  .have key:∀j,j<=m->cH[j]?=some (some ((cH.getD j none).getD 0)):=λj aI=>by
    obtain⟨q,aN⟩:=fN j aI;have:cH.getD j none=some q:=(by rw[ab4,aN];rfl);rw[this];exact aN
   rw[List.Nodup,abL];refine abA ?_ (List.nodup_range (n:=m+1));intro a b aw ae pS e;have sO:=key a (by have:=List.mem_range.mp aw;lia);have oB:=key b (by have:=List.mem_range.mp ae;lia);rw[<- e]at oB;exact pS (O.inj a b _ sO oB)
  .intro x ak;obtain⟨j,aI,e⟩:=List.mem_map.mp ak;obtain⟨q,aN⟩:=fN j (by have:=List.mem_range.mp aI;lia);have:cH.getD j none=some q:=(by rw[ab4,aN];rfl);rw[this]at e;have bq:q=x:=e;rw[<- bq];exact O.lt j q aN
def Own.step(hm:gN m)(O:Own m af cH)(az:af.length<=m)(h):
  ∃j,layClean.free m cH (turns m) (bits h%(m+1)) (bits h)=some j/\Own m (af++[h]) (cH.setIfInBounds j (some af.length)):=by
 obtain⟨aax,Qy,e0⟩:=O.hole az;obtain⟨fP,aan,N5⟩:=hm.met h Qy;obtain⟨aH,bZ,ky,uO,lG,QZ⟩:=EP (h:=h) O.size (turns m) 0 ⟨fP,abw _,by unfold turns;lia,by rw[N5];exact e0⟩ (λb5 d _ bV=>absurd bV (Nat.not_lt_zero _));obtain⟨n,_,aC,ax⟩:=Ln m h aH bZ ky;have N8:cN m h n=(run m h aH).1+bZ:=by unfold cN;rw[aC];rfl
 rw[<- N8]at uO lG;have T5:∀k,k<n->mq cH (cN m h k):=λk fv=>by
  obtain⟨b5,d',a,b,c⟩:=ax k fv;unfold cN;rw[c];exact QZ b5 d' a b
 refine⟨cN m h n,uO,?_,?_,?_,?_⟩
 .rw[Array.size_setIfInBounds];exact O.size
 .intro j q aN;rw[abZ]at aN;rw[aa7,List.length_singleton]
  split at aN
  .split at aN
   .injection aN with aN;injection aN with aN;lia
   .cases aN
  .have:=O.lt j q aN;lia
 .intro j lS q a b;rw[abZ]at a b
  split at a
  .rename_i e1
   split at b
   .rename_i ar;rw[<- e1,<- ar]
   .split at a
    .injection a with a;injection a with a;have:=O.lt lS q b;lia
    .cases a
  .split at b
   .split at b
    .injection b with b;injection b with b;have:=O.lt j q a;lia
    .cases b
   .exact O.inj j lS q a b
 .intro q h' aN;have mono:∀j,mq cH j->mq (cH.setIfInBounds (cN m h n) (some af.length)) j:=λj ⟨cB,su⟩=>by
   by_cases c:cN m h n=j
   .refine⟨af.length,?_⟩;rw[abZ,if_pos c,if_pos (by rw[O.size];have:=BX m h n;lia)]
   .exact⟨cB,by rw[abZ,if_neg c];exact su⟩
  by_cases c:q<af.length
  .rw[abi c]at aN;obtain⟨cc,a,b⟩:=O.all q h' aN;refine⟨cc,?_,λk fv=>mono _ (b k fv)⟩;rw[abZ,if_neg]
   .exact a
   .intro e;rw[<- e,lG]at a;cases a
  .have su:=(abo.mp aN).1;rw[aa7,List.length_singleton]at su;have e:q=af.length:=⋯;subst e;rw[abH (aa9 _),Nat.sub_self]at aN;simp at aN;subst aN;refine⟨n,?_,λk fv=>mono _ (T5 k fv)⟩;rw[abZ,if_pos rfl,if_pos (by rw[O.size];have:=BX m h n;lia)]
def Up(m):Own m [] (Array.replicate (m+1) none):=by
 have no:∀j q:Nat,(Array.replicate (m+1) (none:Option Nat))[j]?≠some (some q):=λj q aN=>by
  rw[Array.getElem?_replicate]at aN
  split at aN<;>cases aN
 exact⟨by simp,λj q aN=>absurd aN (no j q),λj lS q aN=>absurd aN (no j q),λq h aN=>by simp at aN⟩
def SD (hm : gN m) (af) (az : af.size <= m) : ∃ cH, layClean m af = some cH /\ Own m af.toList cH := by
  unfold layClean
  rw [<- Array.foldl_toList]
  have main : ∀ (rest done : List Int) (cH : Array (Option Nat)), Own m done cH -> (done ++ rest).length <= m ->
      ∃ vY, rest.foldl (fun (acc : Option (Array (Option Nat) × Nat)) h => do
        let (owner, k) <- acc
        let j <- layClean.free m owner (turns m) (bits h % (m + 1)) (bits h)
        pure (owner.setIfInBounds j (some k), k + 1)) (some (cH, done.length)) = some (vY, (done ++ rest).length) /\ Own m (done ++ rest) vY := by
    intro rest
    induction rest with
    | nil => intro done cH O _; exact ⟨cH, by simp, by simpa using O⟩
    | cons h r aG =>
      intro done cH O hlen
      rw [aa7, List.length_cons] at hlen
      obtain ⟨j, uO, Ky⟩ := O.step hm ⋯ h
      have := aG (done ++ [h]) _ Ky (by simp; lia)
      rw [adl] at this
      simp only [List.singleton_append, aa7, List.length_cons, List.length_nil, acC] at this
      obtain ⟨vY, e, Kz⟩ := this
      refine ⟨vY, ?_, Kz⟩
      rw [List.foldl_cons]
      simp only [Option.bind_eq_bind, Option.bind_some, uO, Option.pure_def] at e ⊢
      rw [e]
      simp only [aa7, List.length_cons]
  obtain ⟨cH, e, O⟩ := main af.toList [] (Array.replicate (m + 1) none) (Up m) (by simpa using az)
  refine ⟨cH, ?_, by simpa using O⟩
  simp only [List.length_nil] at e
  rw [e]; rfl
theorem zk{α β:Type}(f:α->Option β):∀(l:List α),(∀x∈l,(f x).isSome=true)->∀i:Nat,(l.filterMap f)[i]?=l[i]?.bind f
 |[],_,i=>by simp
 |x::r,h,i=>by
  have ak:=h x List.mem_cons_self;cases e:f x with
  |none=>rw[e]at ak;cases ak
  |some y =>
   rw[List.filterMap_cons,e];cases i with
   |zero=>simp[e]
   |succ i =>
    simp only[List.getElem?_cons_succ];exact zk f r (λz hz=>h z (List.mem_cons_of_mem _ hz)) i
theorem EJ{α β:Type}(f:α->Option β):∀(l:List α),(∀x∈l,(f x).isSome=true)->(l.filterMap f).length=l.length
 |[],_=>rfl
 |x::r,h=>by
  have ak:=h x List.mem_cons_self;cases e:f x with
  |none=>rw[e]at ak;cases ak
  |some y=>rw[List.filterMap_cons,e,List.length_cons,List.length_cons,EJ f r λz hz=>h z (List.mem_cons_of_mem _ hz)]
def Gg{α:Type}(hm:gN m)(aj:Array (Int×α))(az:aj.size<=m)(f GU)(led cn):
  ∃t' order,laid m f GU led cn (aj.map (·.1))=some (t',order)/\t'.mask=m/\t'.led=led/\t'.plain=cn/\(order.filterMap (aj[·]?)).size=aj.size/\Tab (order.filterMap (aj[·]?)) t'/\(order.filterMap (aj[·]?)).toList.Perm aj.toList/\order.toList.Perm (List.range aj.size):=by
 obtain⟨cH,e,O⟩:=SD hm (aj.map (·.1)) (by simpa using az);have hlen:(aj.map (·.1)).toList.length=aj.size:=by simp
 generalize es:(List.range (m+1)).filterMap (λj=>(cH.getD j none).map (j,·))=L;have oH:∀j q,(j,q)∈L<->cH[j]?=some (some q):=λj q=>by
  rw[<- es,adz];constructor
  .rintro⟨lS,z3,bq⟩;cases h0:cH.getD lS none with
   |none=>rw[h0]at bq;cases bq
   |some cB =>
    rw[h0]at bq;injection bq with bq;injection bq with e1 ar;subst e1;subst ar;rw[ab4]at h0;cases J:cH[lS]? with
    |none=>rw[J]at h0;cases h0
    |some o=>rw[J]at h0;exact ab6 some h0
  .intro h;refine⟨j,List.mem_range.mpr ?_,?_⟩
   .have:=(abv.mp h).1;rw[O.size]at this;exact this
   .rw[ab4,h];rfl
 have rise:L.Pairwise (λa b=>a.1<b.1):=by
  rw[<- es];refine List.Pairwise.filterMap _ ?_ (ac7 (n:=m+1));intro a pq bV b ae fT fX;cases h0:cH.getD a none with
  |none=>rw[h0]at ae;cases ae
  |some q =>
   cases J:cH.getD pq none with
   |none=>rw[J]at fX;cases fX
   |some cB =>
    rw[h0]at ae;rw[J]at fX;cases ae;cases fX;exact bV
 have lt:∀p∈L,p.2<aj.size:=λp aB=>by
  have:=O.lt p.1 p.2 ((oH p.1 p.2).mp aB);rw[hlen]at this;exact this
 have TF:(L.map (·.2)).Nodup:=by
  rw[List.Nodup,abL];refine abA ?_ rise;intro a b aw ae pS bq;have:=O.inj a.1 b.1 a.2 ((oH _ _).mp aw) (by rw[bq];exact(oH _ _).mp ae);lia
 have Bg:(L.map (·.2)).Perm (List.range aj.size):=by
  refine(List.perm_ext_iff_of_nodup TF List.nodup_range).mpr λq=>?_
  rw[List.mem_range,List.mem_map];constructor
  .rintro⟨p,aB,rfl⟩;exact lt p aB
  .intro aN;obtain⟨n,a,_⟩:=O.all q (aj[q].1) (by rw[abJ,Array.getElem?_map,abf aN];rfl);exact⟨(_,q),(oH _ _).mpr a,rfl⟩
 have AD:L.length=aj.size:=by have:=Bg.length_eq;simpa using this
 have Hf:∀q∈L.map (·.2),(aj[q]?).isSome=true:=λq aN=>by
  obtain⟨p,aB,rfl⟩:=List.mem_map.mp aN;rw[abf (lt p aB)];rfl
 have Ub:∀q∈List.range aj.size,(aj[q]?).isSome=true:=λq aN=>by
  rw[abf (List.mem_range.mp aN)];rfl
 have y4:((L.map (·.2)).toArray.filterMap (aj[·]?)).toList=(L.map (·.2)).filterMap (aj[·]?):=by simp
 have PH:∀(i:Nat),((L.map (·.2)).toArray.filterMap (aj[·]?))[i]?=(L[i]?).bind λp=>aj[p.2]?:=by
  intro i;rw[<- abJ,y4,zk _ _ Hf,abj];cases L[i]?<;>rfl
 have IY:((L.map (·.2)).toArray.filterMap (aj[·]?)).size=aj.size:=by
  rw[<- Array.length_toList,y4,EJ _ _ Hf,List.length_map,AD]
 have UR:((L.map (·.2)).toArray.filterMap (aj[·]?)).toList.Perm aj.toList:=by
  rw[y4];refine(Bg.filterMap (aj[·]?)).trans (List.Perm.of_eq ?_);refine acy λi=>?_
  rw[zk _ _ Ub]
  by_cases c:i<aj.size
  .rw[acW c];simp
  .rw[abu (by simpa using c),abu (by simpa using c)];rfl
 refine⟨{ mask:=m,place:=(L.map (·.1)).toArray,dummies:=#[],finger:=f,led,moves:=GU,plain:=cn },(L.map (·.2)).toArray,?_,rfl,rfl,rfl,IY,⟨?_,?_,?_,rfl,hm,?_,?_⟩,UR,by simpa using Bg⟩
 .unfold laid;rw[e];simp only[Option.bind_eq_bind,Option.bind_some,Option.pure_def,es]
 .intro i j a b z1 aw ae;simp only[adg,abj]at aw ae;cases bG:L[i]? with
  |none=>rw[bG]at aw;cases aw
  |some vZ =>
   cases eu:L[j]? with
   |none=>rw[eu]at ae;cases ae
   |some aaN =>
    rw[bG]at aw;rw[eu]at ae;cases aw;cases ae;obtain⟨J,e1⟩:=abo.mp bG;obtain⟨aa,ar⟩:=abo.mp eu;have:=acJ.mp rise i j J aa z1;rw[e1,ar]at this;exact this
 .intro i j ai;simp only[adg,abj]at ai;cases iI:L[i]? with
  |none=>rw[iI]at ai;cases ai
  |some p =>
   rw[iI]at ai;cases ai;have:=(oH p.1 p.2).mp (aci iI);have:=(abv.mp this).1;rw[O.size]at this;show p.1<=m;lia
 .show(L.map (·.1)).toArray.size=_;rw[IY];simp[AD]
 .show(L.map (·.1)).toArray.size<=m;simp[AD];exact az
 .intro i j bq ai he;simp only[adg,abj]at ai;rw[PH]at he;cases iI:L[i]? with
  |none=>rw[iI]at ai;cases ai
  |some p =>
   rw[iI]at ai he;cases ai;have aB:=(oH p.1 p.2).mp (aci iI);have hU:aj[p.2]?=some bq:=he;obtain⟨n,a,b⟩:=O.all p.2 bq.1 (by rw[abJ,Array.getElem?_map,hU];rfl);refine⟨n,O.inj _ _ _ a aB,λk ax=>?_⟩;obtain⟨cB,su⟩:=b k ax;obtain⟨cJ,ft,NV⟩:=List.mem_iff_getElem.mp ((oH _ _).mpr su);refine⟨cJ,?_⟩;show(L.map (·.1)).toArray[cJ]?=_;simp only[adg,abj];rw[aba ft,NV];rfl
end fS
end
section
namespace Pv
open PySem fS PySem.SetTable
section
variable{prog:Program}{w:World}{A:Around}{E:Value->Shared->Prop}{s:Shared}
def hs(prog:Program)(w:World)(h:Heap)(au:List Int)(b:Addr):Prop:=IsTupleKey (intKind prog w) h au b
noncomputable def fA(prog:Program)(w:World)(au:List Int):Int:=tupleKeyHash (intKind prog w) au
def lj(prog:Program)(w:World)(h:Heap)(e:Int×Value)(au:List Int):Prop:=∃b,e.2=.ref b/\e.1=fA prog w au/\hs prog w h au b
def hs.kept(x:hs prog w h au b)(k:∀o,h.get? b=some o->h'.get? b=some o):hs prog w h' au b :=
 let ⟨o,items,n,ay,r⟩:=x;⟨o,items,n,k o ay,r⟩
def hs.ne{aj a6 t}(x:hs prog w h au b)(ay:h.get? a=some o)(hd:o.data=.set aj a6 t):b≠a:=by
 rintro rfl;obtain⟨bL,items,n,d8,_,fZ,_⟩:=x;rw[ay]at d8;cases d8;rw[hd]at fZ;cases fZ
def DG(ax:hs prog w s.heap au a)(h:Q false s):wpAny M A (ofAClassStatement 8 (.ref a)) Q E s:=by
 have cG:s.TypeIs (.ref a) "tuple":=IsTupleKey.typeIs ax;obtain⟨o,items,n,ay,_,hd,ai⟩:=ax;unfold ofAClassStatement;refine aa2 (ac3 cG ?_);dsimp only;rw[if_pos (by rfl)];refine aa2 (aa4 ?_);simp only[acp,aa6,abp];refine aa2 (wpAny_seqItems ay hd ?_);dsimp only;refine aa2 ?_;rw[<- Array.forIn_toList];refine adU _ (λrest r s'=>r.1=none/\s'=s/\∀v∈rest,carriedByValue v=true) _ ?_ ?_ _ _ ⟨rfl,rfl,ai.byValue⟩
 .rintro v rest r s' ⟨a3,rfl,fz⟩;have aK:=fz v List.mem_cons_self;have e:ofAClassStatement 7 v=pure false:=by
   cases v with
   |ref b=>simp[carriedByValue]at aK
   |_=>unfold ofAClassStatement;rfl
  rw[e];refine aa2 (aa4 ?_);simp only[aa6,abp];exact aa4 ⟨rfl,rfl,λu sy=>fz u (List.mem_cons_of_mem _ sy)⟩
 .rintro⟨aH,aT⟩ s' ⟨a3,rfl,_⟩;simp only at a3;subst a3;exact aa4 h
def W3{stored:List Value}(ax:hs prog w s.heap au b)(af:∀v∈stored,∃c cQ,v=.ref c/\hs prog w s.heap cQ c)(h:Q false s):
  wpAny (model prog w) A (searchCouldBeSeen (.ref b) stored) Q E s:=by
 unfold searchCouldBeSeen;refine aa2 ?_;refine adU _ (λrest r s'=>r.1=none/\s'=s/\∀v∈rest,∃c cQ,v=.ref c/\hs prog w s.heap cQ c) _ ?_ ?_ _ _ ⟨rfl,rfl,af⟩
 .rintro v rest r s' ⟨a3,rfl,fz⟩;obtain⟨c,cQ,rfl,ag⟩:=fz v List.mem_cons_self;have kC:∀v∈rest,∃c cQ,v=.ref c/\hs prog w s'.heap cQ c:=λu sy=>fz u (List.mem_cons_of_mem _ sy)
  dsimp only
  split
  .exact aa4 ⟨rfl,rfl,kC⟩
  .refine aa2 (wpAny_eqIsQuiet_tuple ax ?_);simp only[acp,aa6,abp];refine aa2 (wpAny_eqIsQuiet_tuple ag ?_);simp only[acp,aa6,abp];refine aa2 (DG ax ?_);simp only[aa6,abp];refine aa2 (DG ag ?_);simp only[aa6,abp];exact aa4 ⟨rfl,rfl,kC⟩
 .rintro⟨aH,aT⟩ s' ⟨a3,rfl,_⟩;simp only at a3;subst a3;exact aa4 h
def LM(ax:hs prog w s.heap au a)(h:Q true s):wpAny (model prog w) A (hashByValue 8 (.ref a)) Q E s:=by
 have cG:s.TypeIs (.ref a) "tuple":=IsTupleKey.typeIs ax;obtain⟨o,items,n,ay,_,hd,ai⟩:=ax;unfold hashByValue;refine aa2 (aeR cG F.slot_tuple_hash.lookup ?_);dsimp only;refine aa2 (wpAny_seqItems ay hd ?_);refine aa2 ?_;show wpAny _ _ (forIn items _ _) _ _ s;rw[<- Array.forIn_toList];have fz:∀v∈items.toList,∃i t,v=Value.int i t:=by
  clear hd ay;generalize items.toList=l at ai
  induction ai with
  |nil=>intro v aK;simp at aK
  |@cons k qS cQ ah J _ aG =>
   intro v aK;rcases aa8.mp aK with rfl|aK
   .obtain⟨t,e⟩:=aev J;exact⟨_,t,e⟩
   .exact aG v aK
 refine adU _ (λrest r s'=>r.1=none/\s'=s/\∀v∈rest,∃i t,v=Value.int i t) _ ?_ ?_ _ _ ⟨rfl,rfl,fz⟩
 .rintro v rest r s' ⟨a3,rfl,fz⟩;obtain⟨i,t,rfl⟩:=fz v List.mem_cons_self;have e:hashByValue 7 (Value.int i t)=pure true:=(by unfold hashByValue;rfl);rw[e];refine aa2 (aa4 ?_);simp only[acp,aa6,abp];exact aa4 ⟨rfl,rfl,λu sy=>fz u (List.mem_cons_of_mem _ sy)⟩
 .rintro⟨aH,aT⟩ s' ⟨a3,rfl,_⟩;simp only at a3;subst a3;exact aa4 h
theorem Tab.fits{aj:Array (Int×Value)}(T:Tab aj t):t.fits aj.size=true:=by
 unfold SetTable.fits;have J:=T.gJ;have aa:=T.fill;have aE:=T.full;simp only[aa3,abx,abk];exact⟨J,by rw[aa,<- J];exact aE⟩
def Tab.PC{aj:Array (Int×Value)}(T:Tab aj t):t.gaveWay=false:=by
 unfold SetTable.gaveWay;rcases T.cm with e|e|e|e<;>rw[e]<;>rfl
theorem IK (bh : A.units < cLine)
    (ay : s.heap.get? a = some o) (hd : o.data = .set aj a6 t) (T : Tab aj t) (aB : Paired (lj prog w s.heap) aj.toList c9) (ax : hs prog w s.heap au b)
    (aL : N < 10 * turns t.mask) (he : t.slot (cN t.mask (fA prog w au) N) = .empty) (iN : ∀ i : Nat, t.place[i]? ≠ some (cN t.mask (fA prog w au) N)) (az : ∀ k, k < N -> ∃ i : Nat, t.place[i]? = some (cN t.mask (fA prog w au) k))
    (hf : au ∉ c9 -> R (.free (cN t.mask (fA prog w au) N) false) s) (aA : au ∈ c9 -> ∀ r, R (.there r) s) :
    ∀ (fuel n : Nat) (wC : Option Probe), n <= N -> N - n < fuel -> wC.getD (t.probeStart (fA prog w au)) = pr t.mask (fA prog w au) n ->
      (∀ k, k < n -> ∀ (i : Nat) (e : Int × Value), t.place[i]? = some (cN t.mask (fA prog w au) k) -> aj[i]? = some e -> ¬ lj prog w s.heap e au) ->
      wpAny (model prog w) A (setSearchFrom a (.ref b) (fA prog w au) uo fuel wC) R E s
  | 0, n, wC, J, aa, _, _ => by lia
  | fuel + 1, n, wC, J, aa, c8, iQ => by
    unfold setSearchFrom
    refine aa2 (ab5 ay hd (Tab.fits T) ?_)
    dsimp only
    rw [Tab.PC T]
    simp only [aa6, abp]
    rw [c8]
    have vb : ∀ (i : Nat) (e : Int × Value), aj[i]? = some e -> (fun i => (aj[i]?.map (·.1)).getD 0) i = e.1 := fun i e h => by simp [h]
    generalize aF : t.probe _ (fA prog w au) (pr t.mask (fA prog w au) n) = X
    have mem_of : ∀ (i : Nat) (e : Int × Value), aj[i]? = some e -> ∃ cQ, cQ ∈ c9 /\ lj prog w s.heap e cQ := fun i e h => by
      have hm : e ∈ aj.toList := by rw [<- abJ] at h; exact aci h
      clear vb iQ iN az he aA hf
      generalize aj.toList = l at aB hm
      induction aB with
      | nil => simp at hm
      | cons J _ aG =>
        rcases aa8.mp hm with rfl | hm
        · exact ⟨_, List.mem_cons_self, J⟩
        · obtain ⟨cQ, a1, a2⟩ := aG hm
          exact ⟨cQ, List.mem_cons_of_mem _ a1, a2⟩
    rcases Bk (h := fA prog w au) (hashAt := fun i => (aj[i]?.map (·.1)).getD 0) T.ix he az (10 * turns t.mask) n J ⋯ with ⟨k, i, b1, b2, d7, gd, ke, ro⟩ | ⟨ke, ro⟩
    · have uu : X = _ := aF.symm.trans ro
      rw [uu]
      dsimp only
      have ai : i < aj.size := by rw [<- T.gJ]; exact (abv.mp d7).1
      have pT : aj[i]? = some aj[i] := abf ai
      obtain ⟨cQ, z7, c, jJ, rU, ag⟩ := mem_of i _ pT
      have rest : wpAny (model prog w) A (do
          let some (_, y) := aj[i]? | unsupported "internal:set-entry"
          let equal <- holding [y] (eqBool y (.ref b))
          let (ob, _, t') <- setState a
          if uo && equal then return SetFound.there none
          let some same := t'.sameMemory t.moves t.mask | unsupported "set.changed-during-lookup:is-the-new-block-at-the-old-address"
          let XI <- match (if same then t'.slot (cN t.mask (fA prog w au) k) else .empty) with
            | .live cJ => match ob[cJ]? with
              | some (_, CC) => do pure (if <- isSame CC y then some cJ else none)
              | none => pure none
            | _ => pure none
          match XI with
          | none => rule "set.search.anew"; setSearchFrom a (.ref b) (fA prog w au) uo fuel none
          | some cJ => if equal then return SetFound.there (some cJ) else setSearchFrom a (.ref b) (fA prog w au) uo fuel (some (pr t.mask (fA prog w au) (k + 1)))) R E s := by
        rw [pT]
        generalize hD : aj[i] = ev at jJ rU pT
        obtain ⟨Z0, Z1⟩ := ev
        dsimp only at jJ rU ⊢
        subst jJ
        refine aa2 (acf (wpAny_eqBool_tuple bh ag ax ?_))
        refine aa2 (ab5 ay hd (Tab.fits T) ?_)
        dsimp only
        have same : t.sameMemory t.moves t.mask = some true := by unfold SetTable.sameMemory; simp
        by_cases q : cQ = au
        · subst q
          simp only [aeZ, Bool.and_true]
          cases uo
          · simp only [aa6, abp]
            rw [same]
            dsimp only
            rw [if_pos rfl, oX T.ix d7]
            dsimp only
            rw [pT]
            dsimp only
            refine aa2 (wpAny_isSame_ref_self (aa2 (aa4 ?_)))
            rw [if_pos rfl]
            dsimp only
            first | exact aa4 (aA z7 _) | (rw [if_pos trivial]; exact aa4 (aA z7 _))
          · simp only [abU]
            exact aa4 (aA z7 _)
        · simp only [decide_eq_false q, Bool.and_false, aa6, abp]
          rw [same]
          dsimp only
          rw [if_pos rfl, oX T.ix d7]
          dsimp only
          rw [pT]
          dsimp only
          refine aa2 (wpAny_isSame_ref_self (aa2 (aa4 ?_)))
          rw [if_pos rfl]
          dsimp only
          refine IK bh ay hd T aB ax aL he iN az hf aA fuel (k + 1) _ ⋯ ⋯ rfl fun c4 fv cJ bq Af hU ak => ?_
          by_cases cF : c4 < n
          · exact iQ c4 cF cJ bq Af hU ak
          · by_cases bU : c4 = k
            · subst bU
              have e1 : cJ = i := by
                have := oX T.ix Af
                rw [oX T.ix d7] at this
                injection this with this
                exact this.symm
              subst e1
              rw [pT] at hU
              cases hU
              obtain ⟨c3, NS, _, cI⟩ := ak
              cases NS
              exact q (IsTupleKey.inj ag cI)
            · obtain ⟨_, _, NU, _⟩ := ak
              exact ke c4 ⋯ ⋯ cJ Af ((vb cJ bq hU).trans NU)
      cases ip : t.led
      · simp only [ael, abU]
        refine aa2 (W3 ax (fun v aK => ?_) ?_)
        · obtain ⟨e, hU, rfl⟩ := List.mem_map.mp aK
          have hm : e ∈ aj.toList := by
            rw [Array.toList_filter] at hU
            exact (List.mem_filter.mp hU).1
          obtain ⟨j, aI⟩ := List.mem_iff_getElem?.mp hm
          obtain ⟨So, _, bU, ar, _, aa⟩ := mem_of j e (by rw [<- abJ]; exact aI)
          exact ⟨bU, So, ar, aa⟩
        · simp only [aa6, abp]
          exact rest
      · simp only [acp, aa6, abp]
        exact rest
    · have uu : X = _ := aF.symm.trans ro
      rw [uu]
      dsimp only
      refine aa4 (hf fun fu => ?_)
      obtain ⟨e, hm, ak⟩ : ∃ e ∈ aj.toList, lj prog w s.heap e au := by
        clear vb iQ iN az he aA hf mem_of ke ro uu
        generalize aj.toList = l at aB
        induction aB with
        | nil => simp at fu
        | @cons bq cQ _ _ J _ aG =>
          rcases aa8.mp fu with rfl | fu
          · exact ⟨bq, List.mem_cons_self, J⟩
          · obtain ⟨e, a1, a2⟩ := aG fu
            exact ⟨e, List.mem_cons_of_mem _ a1, a2⟩
      obtain ⟨j, aI⟩ := List.mem_iff_getElem?.mp hm
      rw [abJ] at aI
      obtain ⟨_, _, rU, _⟩ := id ak
      obtain ⟨k, ja, z5⟩ := T.met iN aI rU
      by_cases c : k < n
      · exact iQ k c j e z5 aI ak
      · exact ke k ⋯ ja j z5 ((vb j e aI).trans rU)
def pj(M:Value->Prop)(prog:Program)(w:World)(h:Heap)(a:Addr)(c9:List (List Int)):Prop :=
 ∃o aj a6 t,h.get? a=some o/\o.ExactSet/\o.data=.set aj a6 t/\Tab aj t/\aj.size*5<t.mask*3/\t.plain=true/\(t.led=true<->w.params.followText "set-order"=false)/\Paired (λe au=>lj prog w h e au/\M e.2) aj.toList c9/\c9.Nodup
def Paired.perm{α β:Type}{F:α->β->Prop}{l1 fC:List α}(p:l1.Perm fC):∀{au:List β},Paired F fC au->∃cQ,cQ.Perm au/\Paired F l1 cQ:=by
 induction p with
 |nil=>intro au h;cases h;exact⟨[],.refl _,.nil⟩
 |cons x _ aG =>
  intro au h;cases h with
  |cons J t =>
   obtain⟨cQ,tg,h'⟩:=aG t;exact⟨_::cQ,tg.cons _,.cons J h'⟩
 |swap x y l =>
  intro au h;cases h with
  |cons J t =>
   cases t with
   |cons aa t=>exact⟨_::_::_,List.Perm.swap _ _ _,.cons aa (.cons J t)⟩
 |trans _ _ Ar As =>
  intro au h;obtain⟨k1,p1,J⟩:=As h;obtain⟨k2,p2,aa⟩:=Ar J;exact⟨k2,p2.trans p1,aa⟩
theorem Paired.len{α β:Type}{F:α->β->Prop}:∀{l:List α}{au:List β},Paired F l au->l.length=au.length
 |_,_,.nil=>rfl
 |_,_,.cons _ t=>by simp[Paired.len t]
theorem Paired.mp{α β:Type}{F G:α->β->Prop}(f:∀a b,F a b->G a b):∀{l:List α}{au:List β},Paired F l au->Paired G l au
 |_,_,.nil=>.nil
 |_,_,.cons h t=>.cons (f _ _ h) (Paired.mp f t)
def KI(bh:A.units<cLine)(a7:pj M prog w s.heap a c9)(ax:hs prog w s.heap au b)(fs:M (.ref b))(sv:c9.length<256)(h:∀h' iq r,Heap.SameBut a s.heap h'->pj M prog w h' a iq->iq.Perm (if au∈c9 then c9 else au::c9)->Q r { s with heap:=h' }):
  wpAny (model prog w) A (setAddHashed a (.ref b) (fA prog w au)) Q E s:=by
 obtain⟨o,aj,a6,t,ay,hex,hd,T,iP,d4,ip,aB,ot⟩:=a7;obtain⟨N,aL,he,iN,az⟩:=EE T.cm T.ix T.rK T.full (fA prog w au);have hlen:aj.size=c9.length:=by have:=Paired.len aB;simpa using this
 unfold setAddHashed setAddHashedIn;refine acf (aa2 (ab5 ay hd (Tab.fits T) ?_));dsimp only;have Qb:byScan (.ref b) aj=false:=by unfold byScan;simp[Value.scannable]
 rw[Qb];simp only[aa6,abp];refine aa2 ?_;unfold setSearch;refine IK bh ay hd T (Paired.mp (λ_ _ x=>x.1) aB) ax aL he iN az (λlN=>?_) (λfu r=>?_) 100000 0 none (abw _) ?_ rfl (λk fv=>absurd fv (Nat.not_lt_zero k))
 .-- it is new
  dsimp only;have zV:t.place.size+1<=t.mask:=by
   rw[T.gJ];rcases T.cm with e|e|e|e<;>rw[e]at iP ⊢<;>lia
  obtain⟨ia,b1,b2,d7,gd,ke⟩:=T.put (x:=Value.ref b) iN az zV;refine aa2 (ab5 ay hd (Tab.fits T) ?_);dsimp only;generalize ed:t.put (cN t.mask (fA prog w au) N)=P at ia b1 b2 d7 gd ke;obtain⟨t1,p1⟩:=P;dsimp only at ia b1 b2 d7 gd ke ⊢;rw[d7,d4];simp only[abU];refine aa2 (LM ax ?_);simp only[abU];have ow:=F0 aj p1 (fA prog w au,Value.ref b) b1;have p7:(insertAt aj p1 (fA prog w au,Value.ref b)).size=aj.size+1:=qa _ _ _ b1;have zT:Paired (λe au=>lj prog w s.heap e au/\M e.2) ((fA prog w au,Value.ref b)::aj.toList) (au::c9):=.cons ⟨⟨b,rfl,rfl,ax⟩,fs⟩ aB;obtain⟨sQ,aO,a9⟩:=Paired.perm ow zT;have sq:sQ.Nodup:=(aO.nodup_iff).mpr (abD.mpr ⟨lN,ot⟩);generalize Qh:insertAt aj p1 (fA prog w au,Value.ref b)=cM at ia ow p7 a9;refine aa2 (adH ay hd ?_ (by rw[p7];have:sizeLine=2 ^ 40\/True:=.inr trivial;rw[sizeLine_eq];lia));have hV:(s.heap.update a (Obj.putSet cM t1)).get? a=some { o with data:=.set cM (a6+1) t1 }:=by
   have:=abz (Obj.putSet cM t1) ay (by rw[adZ cM t1 hd];rfl);rw[adZ cM t1 hd]at this;exact this
  have pZ:=ab0 s.heap a (Obj.putSet cM t1);have move:∀{h':Heap},Heap.SameBut a s.heap h'->∀(e:Int×Value)(cQ:List Int),(lj prog w s.heap e cQ/\M e.2)->(lj prog w h' e cQ/\M e.2):=λ{h'} af e cQ ⟨⟨c,e1,ar,bf⟩,eG⟩ =>
   ⟨⟨c,e1,ar,bf.kept λbL d8=>(af.2 c (bf.ne ay hd)).trans d8⟩,eG⟩
  have goal:∀h' iq,Heap.SameBut a s.heap h'->pj M prog w h' a iq->iq.Perm (au::c9)->Q true { s with heap:=h' }:=λh' iq bO bF dO=>h h' iq true bO bF (by rw[if_neg lN];exact dO)
  have sh:t1.fill=cM.size:=ia.fill
  by_cases jM:t1.tooFull=true
  .simp only[jM,ael,aeD,abU];have zN:∃m,gN m/\sizeAbove (grown cM.size)-1=m/\cM.size*5<m*3/\sizeAbove (grown cM.size)<=512:=by
    unfold SetTable.tooFull at jM;rw[sh,b2]at jM;have gC:cM.size*5>=t.mask*3:=(by simpa using jM);rcases T.cm with e|e|e|e
    .rw[e]at gC iP;have:cM.size=5:=⋯;rw[this];exact⟨31,.inr (.inl rfl),∅,∅,∅⟩
    .rw[e]at gC iP;have:cM.size=19:=⋯;rw[this];exact⟨127,.inr (.inr (.inl rfl)),∅,∅,∅⟩
    .rw[e]at gC iP;have:cM.size=77:=⋯;rw[this];exact⟨511,.inr (.inr (.inr rfl)),∅,∅,∅⟩
    .rw[e]at gC iP;lia
   obtain⟨m,hm,z9,sk,QM⟩:=zN;refine aa2 ?_;unfold setRelay;refine aa2 (ab5 hV rfl (Tab.fits ia) ?_);dsimp only;rw[<- p7];have Ri:¬sizeAbove (grown cM.size)>sizeLine:=(by rw[sizeLine_eq];lia);rw[if_neg Ri];obtain⟨eJ,order,cF,bU,ie,yq,mE,pA,yr,_⟩:=Gg (α:=Value) hm cM (by
    rcases hm with e|e|e|e<;>rw[e]at sk ⊢<;>lia) t1.finger (t1.movedTo m) t1.led t1.plain
   have Aj:t1.relaid (cM.map (·.1)) (grown cM.size)=some (eJ,order):=by
    unfold SetTable.relaid;rw[z9];exact cF
   refine aa2 ?_;rw[Aj];show wpAny (model prog w) A (if ((order.filterMap (cM[·]?)).size != cM.size)=true then _ else pure (order.filterMap (cM[·]?),eJ)) _ E _;rw[if_neg (by rw[mE];simp)];refine aa4 ?_;dsimp only;refine adH hV rfl ?_ (by rw[mE,sizeLine_eq];lia);obtain⟨AB,bW,dn⟩:=Paired.perm yr a9;have si:((s.heap.update a (Obj.putSet cM t1)).update a (Obj.putSet (order.filterMap (cM[·]?)) eJ)).get? a=some { o with data:=.set (order.filterMap (cM[·]?)) (a6+1+1) eJ }:=by
    have:=abz (Obj.putSet (order.filterMap (cM[·]?)) eJ) hV (by rw[adZ _ eJ rfl];rfl);rw[adZ _ eJ rfl]at this;exact this
   have vo:=pZ.trans (ab0 _ a (Obj.putSet (order.filterMap (cM[·]?)) eJ));refine aa4 (goal _ AB vo ⟨_,_,_,eJ,si,hex,rfl,pA,by rw[mE,bU];exact sk,by rw[yq,d7];exact d4,by rw[ie,gd];exact ip,Paired.mp (move vo) dn,(bW.nodup_iff).mpr sq⟩ (bW.trans aO))
  .have gC:t1.tooFull=false:=(by simpa using jM);simp only[gC,Bool.and_false,aa6,abp];refine aa4 (goal _ sQ pZ ⟨_,_,_,t1,hV,hex,rfl,ia,?_,by rw[d7];exact d4,by rw[gd];exact ip,Paired.mp (move pZ) a9,sq⟩ aO);unfold SetTable.tooFull at gC;rw[sh]at gC;have:¬cM.size*5>=t1.mask*3:=(by simpa using gC);lia
 .dsimp only;exact aa4 (h s.heap c9 false (aey a s.heap) ⟨o,aj,a6,t,ay,hex,hd,T,iP,d4,ip,aB,ot⟩ (by rw[if_pos fu]))
 .have:turns t.mask<=526:=(by unfold turns;rcases T.cm with e|e|e|e<;>rw[e]<;>lia);lia
def Xb(bh:A.units<cLine)(a7:pj M prog w s.heap a c9)(ax:hs prog w s.heap au b)(fs:M (.ref b))(sv:c9.length<256)(h:∀h' tk iq r,s.toks<=tk->Heap.SameBut a s.heap h'->pj M prog w h' a iq->iq.Perm (if au∈c9 then c9 else au::c9)->Q r { s with heap:=h',toks:=tk }):
  wpAny (model prog w) A (setAdd a (.ref b)) Q E s:=by
 unfold setAdd;refine acf (aa2 (wpAny_pyHash_tuple bh ax ?_));exact KI (s:={ s with toks:=_ }) bh a7 ax fs sv λh' iq r bO bF dO=>h h' _ iq r (Nat.le_add_right _ _) bO bF dO
def lh(e:Int×Value)(k:Int):Prop:=e.1=hashInt k/\∃t,e.2=.int k t
def ph(w:World)(h:Heap)(a:Addr)(au:List Int):Prop :=
 ∃o aj a6 t,h.get? a=some o/\o.ExactSet/\o.data=.set aj a6 t/\Tab aj t/\aj.size*5<t.mask*3/\t.plain=true/\(t.led=true<->w.params.followText "set-order"=false)/\Paired lh aj.toList au/\au.Nodup
def sJ(prog)(w)(i)(t):(intKind prog w).is i (.int i t)=true:=by show Value.isInt i (.int i t)=true;simp[Value.isInt]
def lh.elems(aB:Paired lh aj au):ElemsOf (intKind prog w) aj:=by
 intro e he
 induction aB with
 |nil=>simp at he
 |@cons bq k _ _ J _ aG =>
  rcases aa8.mp he with rfl|he
  .obtain⟨aa,t,ar⟩:=J;refine⟨⟨k,?_,aa⟩,?_⟩
   .rw[ar];exact sJ _ _ _ _
   .rw[ar];rfl
  .exact aG he
def lh.find(aB:Paired lh aj au)(k):(aj.findIdx? λe=>(intKind prog w).is k e.2).isSome=true<->k∈au:=by
 induction aB with
 |nil=>simp
 |@cons bq c4 _ _ J _ aG =>
  obtain⟨_,t,ar⟩:=J;have hd:(intKind prog w).is k bq.2=decide (k=c4):=by
   rw[ar];exact KeyKind.is_eq_decide (sJ prog w c4 t) k
  rw[List.findIdx?_cons,hd]
  by_cases c:k=c4
  .subst c;simp
  .simp only[decide_eq_false c];simp only[aa6,abp,Option.isSome_map];rw[aG];simp[c]
def KH(a7:ph w s.heap a au)(sv:au.length<256)(h:∀h' cQ r,Heap.SameBut a s.heap h'->ph w h' a cQ->cQ.Perm (if k∈au then au else k::au)->Q r { s with heap:=h' }):
  wpAny (model prog w) A (setAddHashed a (.int k tk) (hashInt k)) Q E s:=by
 obtain⟨o,aj,a6,t,ay,hex,hd,T,iP,d4,ip,aB,ot⟩:=a7;obtain⟨N,aL,he,iN,az⟩:=EE T.cm T.ix T.rK T.full (hashInt k);have hlen:aj.size=au.length:=by have:=Paired.len aB;simpa using this
 have lL:ElemsOf (intKind prog w) aj.toList:=lh.elems aB;have Rg:aj.size<scanBound:=by unfold scanBound;lia
 unfold setAddHashed setAddHashedIn;refine acf (aa2 (ab5 ay hd (Tab.fits T) ?_));dsimp only;rw[byScan_of (knd:=intKind prog w) (x:=.int k tk) rfl Rg lL];simp only[abU];unfold setAddByScan;refine aa2 ?_;refine aa2 (aep ?_);refine aa2 (wpAny_setScan_of (knd:=intKind prog w) (k:=k) (sJ _ _ _ _) ay hd (Tab.fits T) lL ?_);have vg:=lh.find (prog:=prog) (w:=w) aB k;cases a3:List.findIdx? (λe=>(intKind prog w).is k e.2) aj.toList with
 |some j =>
  dsimp only;rw[a3]at vg;have fu:k∈au:=vg.mp rfl;refine aa4 (aa4 ?_);exact h s.heap au _ (aey a s.heap) ⟨o,aj,a6,t,ay,hex,hd,T,iP,d4,ip,aB,ot⟩ (by rw[if_pos fu])
 |none =>
  dsimp only;rw[a3]at vg;have lN:k∉au:=λz=>by have:=vg.mpr z;cases this
  have zV:t.place.size+1<=t.mask:=by
   rw[T.gJ];rcases T.cm with e|e|e|e<;>rw[e]at iP ⊢<;>lia
  obtain⟨ia,b1,b2,d7,gd,ke⟩:=T.put (x:=Value.int k tk) iN az zV;have mZ:t.freeSlot (hashInt k)=some (cN t.mask (hashInt k) N,false):=by
   unfold SetTable.freeSlot;rcases Bk (h:=hashInt k) (hashAt:=λ_=>hashInt k+1) T.ix he az (10*turns t.mask) 0 (abw _) ⋯ with⟨_,_,_,_,_,z,_⟩|⟨_,z⟩
   .exact absurd z ⋯
   .have j1:t.probe (λ_=>hashInt k+1) (hashInt k) (t.probeStart (hashInt k))=_:=z;rw[j1];rfl
  have FA:layNew t aj (hashInt k) (.int k tk)=(insertAt aj (t.put (cN t.mask (hashInt k) N)).2 (hashInt k,.int k tk),(t.put (cN t.mask (hashInt k) N)).1,false,false):=by
   unfold layNew;rw[mZ];dsimp only;have zX:=Tab.fits ia;generalize t.put (cN t.mask (hashInt k) N)=P at ia b1 zX;obtain⟨t1,p1⟩:=P;dsimp only at zX ⊢;unfold SetTable.orStandIn;rw[zX];rfl
  rw[FA];dsimp only;generalize ed:t.put (cN t.mask (hashInt k) N)=P at ia b1 b2 d7 gd ke;obtain⟨t1,p1⟩:=P;dsimp only at ia b1 b2 d7 gd ke ⊢;refine aa2 (aa4 ?_);rw[d7,d4];simp only[abU];rw[show hashByValue 8 (Value.int k tk)=pure true from by unfold hashByValue;rfl];refine aa2 (aa4 ?_);simp only[abU];have ow:=F0 aj p1 (hashInt k,Value.int k tk) b1;have p7:(insertAt aj p1 (hashInt k,Value.int k tk)).size=aj.size+1:=qa _ _ _ b1;have zT:Paired lh ((hashInt k,Value.int k tk)::aj.toList) (k::au):=.cons ⟨rfl,_,rfl⟩ aB;obtain⟨sQ,aO,a9⟩:=Paired.perm ow zT;have sq:sQ.Nodup:=(aO.nodup_iff).mpr (abD.mpr ⟨lN,ot⟩);generalize Qh:insertAt aj p1 (hashInt k,Value.int k tk)=cM at ia ow p7 a9;refine aa2 (adH ay hd ?_ (by rw[p7,sizeLine_eq];lia));have hV:(s.heap.update a (Obj.putSet cM t1)).get? a=some { o with data:=.set cM (a6+1) t1 }:=by
   have:=abz (Obj.putSet cM t1) ay (by rw[adZ cM t1 hd];rfl);rw[adZ cM t1 hd]at this;exact this
  have pZ:=ab0 s.heap a (Obj.putSet cM t1);have goal:∀h' cQ,Heap.SameBut a s.heap h'->ph w h' a cQ->cQ.Perm (k::au)->Q true { s with heap:=h' }:=λh' cQ bO bF dO=>h h' cQ true bO bF (by rw[if_neg lN];exact dO)
  have sh:t1.fill=cM.size:=ia.fill
  by_cases jM:t1.tooFull=true
  .simp only[jM,ael,aeD,abU];have zN:∃m,gN m/\sizeAbove (grown cM.size)-1=m/\cM.size*5<m*3/\sizeAbove (grown cM.size)<=512:=by
    unfold SetTable.tooFull at jM;rw[sh,b2]at jM;have gC:cM.size*5>=t.mask*3:=(by simpa using jM);rcases T.cm with e|e|e|e
    .rw[e]at gC iP;have:cM.size=5:=⋯;rw[this];exact⟨31,.inr (.inl rfl),∅,∅,∅⟩
    .rw[e]at gC iP;have:cM.size=19:=⋯;rw[this];exact⟨127,.inr (.inr (.inl rfl)),∅,∅,∅⟩
    .rw[e]at gC iP;have:cM.size=77:=⋯;rw[this];exact⟨511,.inr (.inr (.inr rfl)),∅,∅,∅⟩
    .rw[e]at gC iP;lia
   obtain⟨m,hm,z9,sk,QM⟩:=zN;obtain⟨eJ,order,cF,bU,ie,yq,mE,pA,yr,LN⟩:=Gg (α:=Value) hm cM (by
    rcases hm with e|e|e|e<;>rw[e]at sk ⊢<;>lia) t1.finger (t1.movedTo m) t1.led t1.plain
   have Aj:t1.relaid (cM.map (·.1)) (grown cM.size)=some (eJ,order):=by
    unfold SetTable.relaid;rw[z9];exact cF
   have fz:relayAll t1 cM (grown cM.size)=(order.filterMap (cM[·]?),eJ,false):=by
    unfold relayAll;rw[Aj];dsimp only;have J:coversAll order cM.size=true:=(by unfold coversAll;exact List.isPerm_iff.mpr LN);rw[J,Tab.fits pA];rfl
   rw[fz];dsimp only;refine aa2 (aa4 ?_);refine aa2 (adH hV rfl ?_ (by rw[mE,sizeLine_eq];lia));obtain⟨AB,bW,dn⟩:=Paired.perm yr a9;have si:((s.heap.update a (Obj.putSet cM t1)).update a (Obj.putSet (order.filterMap (cM[·]?)) eJ)).get? a=some { o with data:=.set (order.filterMap (cM[·]?)) (a6+1+1) eJ }:=by
    have:=abz (Obj.putSet (order.filterMap (cM[·]?)) eJ) hV (by rw[adZ _ eJ rfl];rfl);rw[adZ _ eJ rfl]at this;exact this
   have vo:=pZ.trans (ab0 _ a (Obj.putSet (order.filterMap (cM[·]?)) eJ));exact aa4 (aa4 (goal _ AB vo ⟨_,_,_,eJ,si,hex,rfl,pA,by rw[mE,bU];exact sk,by rw[yq,d7];exact d4,by rw[ie,gd];exact ip,dn,(bW.nodup_iff).mpr sq⟩ (bW.trans aO)))
  .have gC:t1.tooFull=false:=(by simpa using jM);simp only[gC,Bool.and_false,aa6,abp];refine aa4 (aa4 (goal _ sQ pZ ⟨_,_,_,t1,hV,hex,rfl,ia,?_,by rw[d7];exact d4,by rw[gd];exact ip,a9,sq⟩ aO));unfold SetTable.tooFull at gC;rw[sh]at gC;have:¬cM.size*5>=t1.mask*3:=(by simpa using gC);lia
def Xa(a7:ph w s.heap a au)(sv:au.length<256)(h:∀h' qP cQ r,s.toks<=qP->Heap.SameBut a s.heap h'->ph w h' a cQ->cQ.Perm (if k∈au then au else k::au)->Q r { s with heap:=h',toks:=qP }):
  wpAny (model prog w) A (setAdd a (.int k tk)) Q E s:=by
 unfold setAdd;refine acf (aa2 ((intKind prog w).pyHash (k:=k) (sJ _ _ _ _) ?_));exact KH (s:={ s with toks:=s.toks+1 }) a7 sv λh' iq r bO bF dO=>h h' _ iq r (Nat.le_succ _) bO bF dO
end
end Pv
end
section
namespace Pv
open PySem PySem.Spec PyProof.Rows fS PySem.SetTable
section
variable{prog:Program}{w:World}
structure um(prog:Program)(w:World)(κ:Type)[DecidableEq κ] where
 Row:Heap->Value->κ->Prop
 Set:Heap->Addr->List κ->Prop
 fresh:∀(h:Heap)(a:Addr),h.get? a=some { cls:=.type "set",dict:=none,data:=.set #[] 0 (.fresh 0 0 (!w.params.followText "set-order")) }->Set h a []
 moved:∀{h h':Heap}{a:Addr}{au:List κ},Set h a au->(∀o,h.get? a=some o->h'.get? a=some o)->(∀b o,h.get? b=some o->o.cls=.type "tuple"->h'.get? b=some o)->Set h' a au
 BB:∀{h h':Heap}{v:Value}{k:κ},Row h v k->(∀b o,h.get? b=some o->o.cls=.type "tuple"->h'.get? b=some o)->Row h' v k
 A4:∀{h:Heap}{a:Addr}{au:List κ},Set h a au->∀o,h.get? a=some o->o.cls≠.type "tuple"
 add:∀{A:Around}{E:Value->Shared->Prop}{s:Shared}{a:Addr}{v:Value}{k:κ}{au:List κ}{Q:Bool->Shared->Prop},A.units<cLine->Set s.heap a au->Row s.heap v k->au.length<256 ->
  (∀h' tk cQ r,s.toks<=tk->Heap.SameBut a s.heap h'->Set h' a cQ->cQ.Perm (if k∈au then au else k::au)->Q r { s with heap:=h',toks:=tk })->wpAny (model prog w) A (setAdd a v) Q E s
section
variable{κ:Type}[DecidableEq κ]
noncomputable def met(au:List κ):Nat->List κ
 |0=>[]
 |i+1=>match au[i]? with
  |some k=>if k∈met au i then met au i else k::met au i
  |none=>met au i
theorem vM(au:List κ):∀(i:Nat),i<=au.length->∀k,k∈met au i<->k∈au.take i
 |0,_,k=>by simp[met]
 |i+1,ai,k=>by
  have aG:=vM au i ⋯ k;have aZ:au[i]?=some au[i]:=aba ⋯;have e:au.take (i+1)=au.take i++[au[i]]:=(by rw[List.take_succ,aZ];rfl);unfold met;rw[aZ,e,abn,<- aG,abg];dsimp only
  split
  .rename_i c;constructor
   .exact .inl
   .rintro(h|h)
    .exact h
    .rw[h];exact c
  .rw[aa8];exact⟨λh=>h.symm,λh=>h.symm⟩
theorem s7(au:List κ):∀i,(met au i).Nodup
 |0=>adn
 |i+1=>by
  unfold met
  split
  .split
   .exact s7 au i
   .rename_i c;exact abD.mpr ⟨c,s7 au i⟩
  .exact s7 au i
def US{gk:List κ}(h:l.Perm m)(h':gk.Perm (if k∈l then l else k::l)):gk.Perm (if k∈m then m else k::m):=by
 by_cases c:k∈l
 .rw[if_pos c]at h';rw[if_pos (h.mem_iff.mp c)];exact h'.trans h
 .rw[if_neg c]at h';rw[if_neg (λz=>c (h.mem_iff.mpr z))];exact h'.trans (h.cons k)
def Za{St:Nat->Shared->Prop}(K:um prog w κ)(W:WalksS prog w A.in1 I bH wr G n P St)(S)(pR:S∉bH)(bh:A.in1.units<cLine)(c9)(h0)(FP:∀i s,St i s->∀b∈wr,∀o,s.heap.get? b=some o->o.cls≠.type "tuple")(sz:∀i v,P i v->∃k,c9[i]?=some k/\K.Row h0 v k)(ae:∀i,i<n->(met c9 i).length<256):
  ∀(k i:Nat)(s:Shared),n-i=k->i<=n->St i s->(∀b o,h0.get? b=some o->o.cls=.type "tuple"->s.heap.get? b=some o)->(∃l,K.Set s.heap S l/\l.Perm (met c9 i)) ->
   (∀s' l,Moved (S::wr) G s s'->K.Set s'.heap S l->l.Perm (met c9 n)->R (.ok (.ret .none)) s') ->
   codeAny (model prog w) A (.builtin "set.update.loop" ⟨[.ref S,.ref I],[]⟩) R s:=by
 have Fg:S∉wr:=λh=>pR (W.sub _ h)
 have jc:∀b∈wr,b∈S::wr:=λb ae=>List.mem_cons_of_mem _ ae
 intro k
 induction k with
 |zero =>
  intro i s ax ai c8 Fy ⟨l,a7,az⟩ hR;have fu:i=n:=⋯;subst fu;refine ab9 adv ?_;rw[acm acB _];show wpAny _ A.in1 (pyNext (.ref I)>>=_) _ _ s;refine aa2 (W.done s _ _ c8 λs' hm=>?_);show wpAny _ A.in1 (ret Value.none) _ _ s';exact aa4 (hR s' l (hm.mono jc) (K.moved a7 (λo e=>hm.heap S o Fg e) λb o e ag=>hm.heap b o (λzQ=>FP _ s c8 b zQ o e ag) e) az)
 |succ k aG =>
  intro i s ax ai c8 Fy ⟨l,a7,az⟩ hR;have bV:i<n:=⋯;refine ab9 adv ?_;rw[acm acB _];show wpAny _ A.in1 (pyNext (.ref I)>>=_) _ _ s;refine aa2 (W.item i s _ _ bV c8 λv s' ed Rm hm=>?_);obtain⟨key,QC,vc⟩:=sz i v ed;have tk:∀b o,s.heap.get? b=some o->o.cls=.type "tuple"->s'.heap.get? b=some o:=λb o e ag=>hm.heap b o (λzQ=>FP _ s c8 b zQ o e ag) e
  have ku:K.Set s'.heap S l:=K.moved a7 (λo e=>hm.heap S o Fg e) tk;have Fz:∀b o,h0.get? b=some o->o.cls=.type "tuple"->s'.heap.get? b=some o:=λb o e ag=>tk b o (Fy b o e ag) ag
  have fv:K.Row s'.heap v key:=K.BB vc Fz;show wpAny _ A.in1 (holding [v] (setAdd S v)>>=_) _ _ s';refine aa2 (acf (K.add bh ku fv (by rw[az.length_eq];exact ae i bV) λh' qP gk r j2 bO bF dO=>?_));have Ac:∀b o,s'.heap.get? b=some o->o.cls=.type "tuple"->b≠S:=λb o e ag=>by
   rintro rfl;exact K.A4 ku o e ag
  refine aa4 ⟨ad5 acB _,aG (i+1) _ ⋯ bV (W.frame _ s' _ _ Rm j2 λb ae o e=>?_) (λb o e ag=>?_) ⟨gk,bF,?_⟩ λtF Sp QL P0 QE=>?_⟩
  .rw[bO.2 b (λh:b=S=>pR (by rw[<- h];exact ae))];exact e
  .have bq:=Fz b o e ag;show h'.get? b=some o;rw[bO.2 b (Ac b o bq ag)];exact bq
  .unfold met;rw[QC];exact US az dO
  .refine hR tF Sp (Moved.trans W.gtrans ((hm.mono jc).then_heap j2 λb o ae e=>?_) QL) P0 QE;rw[bO.2 b (λh:b=S=>ae (by rw[h];exact List.mem_cons_self))];exact e
end
def qD(a)(h:Q₁ (.ref s.heap.objs.size) { s with heap:=s.heap.push { cls:=.type "set",dict:=none,data:=.set #[] 0 (.fresh 0 0 (!w.params.followText "set-order")) } }):
  codeAny (model prog w) A (.call (.builtin "set.__new__") ⟨[.type "set",a],[]⟩) (wants Q₁ E) s:=by
 refine codeAny_of_tree ?_;show wpAny _ A.in1 (do checkBuiltinCall "set.__new__" ⟨[.type "set",a],[]⟩;again (.builtin "set.__new__" ⟨[.type "set",a],[]⟩)) _ _ s;refine aa2 (wpAny_of_eq (F.newCall_set_1 a) (aa4 ⟨ad5 F.plain_set_new _,ab9 F.entry_set_new ?_⟩));rw[acm F.plain_set_new _];unfold Builtin.«set.__new__» Builtin.Frozenset.newClass;have jc:=sub_set_self;obtain⟨aB,g,d,tk,os⟩:=s;dsimp only
 wp_walk
 refine adp (aa4 ?_);dsimp only;simp only[newObj];refine aa2 (wpAny_alloc (aa4 ?_));exact aa4 h
def JJ(led):Tab (α:=Value) #[] (SetTable.fresh 0 0 led):=by
 refine⟨λi j a b _ h=>?_,λi j h=>?_,rfl,rfl,.inl rfl,abw _,λi j e h=>?_⟩
 .simp[SetTable.fresh]at h
 .simp[SetTable.fresh]at h
 .simp[SetTable.fresh]at h
theorem Hn{α β:Type}{F:α->β->Prop}:∀{l:List α}{au:List β},Paired F l au->∀(i:Nat)(v:α),l[i]?=some v->∃k,au[i]?=some k/\F v k
 |_,_,.nil,i,v,h=>by simp at h
 |_,_,.cons J t,0,v,h=>by simp at h;subst h;exact⟨_,rfl,J⟩
 |_,_,.cons J t,i+1,v,h=>by
  have:=Hn t i v (by simpa using h);simpa using this
def Zq(cu:A.handled=none)(cG:T="list"\/T="tuple")(kB:h.get? l=some { cls:=.type T,dict:=bb,data:=.seq items nl,slots:=fO }):
  ∃(vT:Obj)(St:Nat->Heap->Prop),vT.cls≠.type "tuple"/\(∀(fx:Around)(E:Value->Shared->Prop)(s:Shared)(Q:Value->Shared->Prop),s.heap=h->Q (.ref h.objs.size) { s with heap:=h.push vT }->wpAny (model prog w) fx (pyIter (.ref l)) Q E s) /\
   Walks prog w A h.objs.size [h.objs.size,l] [h.objs.size] items.size (λi v=>items[i]?=some v) St/\St 0 (h.push vT)/\∀i h',St i h'->∀o,h'.get? h.objs.size=some o->o.cls≠.type "tuple":=by
 have bV:l<h.objs.size:=abc kB;rcases cG with rfl|rfl
 .have az:h.IsList l items:=⟨_,kB,rfl,nl,rfl⟩;refine⟨{ cls:=.type "list_iterator",data:=.fields #[.ref l,.int 0 0] },_,by show Value.type _≠Value.type _;decide,λfx E s Q e q=>?_,Walks.list cu h.objs.size l (abm bV) items,⟨⟨_,abd _ rfl,rfl,rfl⟩,az.push _⟩,λi h' st o e=>?_⟩
  .subst e;exact aez az q
  .obtain⟨⟨bL,bq,c,_⟩,_⟩:=st;rw[e]at bq;cases bq;rw[c];decide
 .have az:h.IsTuple l items:=⟨_,kB,rfl,nl,rfl⟩;refine⟨{ cls:=.type "tuple_iterator",data:=.fields #[.ref l,.int 0 0] },_,by show Value.type _≠Value.type _;decide,λfx E s Q e q=>?_,Walks.tuple cu h.objs.size l (abm bV) items,⟨⟨_,abd _ rfl,rfl,rfl⟩,⟨_,aa5 _ kB,rfl,nl,rfl⟩⟩,λi h' st o e=>?_⟩
  .subst e;exact aeq az q
  .obtain⟨⟨bL,bq,c,_⟩,_⟩:=st;rw[e]at bq;cases bq;rw[c];decide
def Ds {κ : Type} [DecidableEq κ] (K : um prog w κ) {s : Shared} {c9 : List κ} (cG : T = "list" \/ T = "tuple")
    (cu : A.handled = none) (bh : A.units + 64 < cLine) (kB : s.heap.get? l = some { cls := .type T, dict := bb, data := .seq items nl, slots := fO }) (ai : Paired (K.Row s.heap) items.toList c9) (ae : ∀ i, i < c9.length -> (met c9 i).length < 256)
    (h : ∀ (h' : Heap) (tk : Nat) (r : List κ), K.Set h' s.heap.objs.size r -> r.Perm (met c9 c9.length) ->
      (∀ b o, b < s.heap.objs.size -> s.heap.get? b = some o -> h'.get? b = some o) -> Q (.ref s.heap.objs.size) { s with heap := h', toks := tk }) :
    wpAny (model prog w) A (call (.type "set") [.ref l]) Q E s := by
  obtain ⟨c, iB, aak⟩ := ac8.mro
  have aai := ac8.made
  have jc := ac8.sub
  refine wpAny_call (codeAny_of_tree ?_)
  show wpAny _ _ (callAny (.type "set") _) _ _ _
  refine aa4 ⟨aer _ (by decide +kernel), ab9 F.entry_type_call ?_⟩
  rw [Around.under_plain (weight_type_call_type "set" [.ref l] []) rfl]
  have J := ac8.notType
  have aa := ac8.canCreate
  have Z7 := F.typeCall_set_1 (.ref l)
  repeat (any_goals (first | assumption | wp_step))
  refine aeh (qD (.ref l) (E := E) (Q₁ := fun obj cO => ∃ led : Bool, led = (!w.params.followText "set-order") /\ obj = .ref s.heap.objs.size /\ cO = { s with heap := s.heap.push { cls := .type "set", dict := none, data := .set #[] 0 (.fresh 0 0 led) } }) ⟨_, rfl, rfl, rfl⟩) fun r cO a3 => ?_
  cases r with
  | error e => exact a3
  | ok e7 =>
    cases e7 with
    | ret obj =>
      obtain ⟨led, ip, rfl, rfl⟩ := a3
      have a7 : (s.heap.push { cls := .type "set", dict := none, data := .set #[] 0 (.fresh 0 0 led) }).get? s.heap.objs.size = some { cls := .type "set", dict := none, data := .set #[] 0 (.fresh 0 0 led) } := abd _ rfl
      have P2 : Shared.TypeIs { s with heap := s.heap.push { cls := .type "set", dict := none, data := .set #[] 0 (.fresh 0 0 led) } } (.ref s.heap.objs.size) "set" := ⟨_, a7, rfl⟩
      have aad := ac8.init.lookup
      have Z6 := ac8.init.bind (.ref s.heap.objs.size)
      repeat (any_goals (first | assumption | wp_step))
      refine aeh (aea (R := wants (fun r gr => r = .none /\ ∃ h' tk gq, gr = { s with heap := h', toks := tk } /\ K.Set h' s.heap.objs.size gq /\ gq.Perm (met c9 c9.length) /\
          (∀ b o, b < s.heap.objs.size -> s.heap.get? b = some o -> h'.get? b = some o)) E) ac8.init.plain F.entry_set_init (check_set_init_1 P2 ?_)) fun Wd gr Ak => ?_
      · have Q1 : (s.heap.push { cls := .type "set", dict := none, data := .set #[] 0 (.fresh 0 0 led) }).get? l = some { cls := .type T, dict := bb, data := .seq items nl, slots := fO } := aa5 _ kB
        have aar : isSubtype (.type T) (.type "set") = pure false := by rcases cG with rfl | rfl; exact F.sub_list_set; exact F.sub_tuple_set
        have aaq : isSubtype (.type T) (.type "frozenset") = pure false := by rcases cG with rfl | rfl; exact F.sub_list_frozenset; exact F.sub_tuple_frozenset
        have dT : (Value.type T == Value.type "dict") = false := by rcases cG with rfl | rfl <;> decide
        have Qo : A.in1.in1.in1.handled = none := by simp [cu]
        obtain ⟨vT, St, aam, hit, W, st0, Ac⟩ := Zq (prog := prog) (w := w) Qo cG Q1
        unfold Builtin.«set.__init__» noKeywords Builtin.Frozenset.updateFrom
        generalize PZ : pyIter = h9
        wp_walk
        subst PZ
        refine hit _ _ _ _ rfl ?_
        refine aa2 (aes ?_)
        have QF : l < s.heap.objs.size := abc kB
        have pR : s.heap.objs.size ∉ [(s.heap.push { cls := .type "set", dict := none, data := .set #[] 0 (.fresh 0 0 led) }).objs.size, l] := by
          rw [Heap.size_push]; simp only [aa8, abg, aeH, or_false, not_or]
          exact ⟨abm (acH _), ae2 QF⟩
        have hlen : items.size = c9.length := by have := Paired.len ai; simpa using this
        refine Za K (W.toS) s.heap.objs.size pR ?hu2 c9 s.heap (fun i s' st b ae o e => ?nt) (fun i v aK => ?val) (fun i ft => ae i ⋯) (items.size - 0) 0 _ ⋯ (abw _)
          st0 (fun b o e _ => aa5 _ (aa5 _ e)) ⟨[], ?hS0, .refl _⟩ ?hR
        case hu2 => first | (show A.units + 1 + 1 + 1 + 1 < cLine; lia) | (show A.units + 1 + 1 + 1 < cLine; lia) | (simp [Around.in1]; lia)
        case nt =>
          rw [abg] at ae
          subst ae
          exact Ac i _ st o e
        case val => exact Hn ai i v (by rw [abJ]; exact aK)
        case hS0 =>
          refine K.fresh _ _ ?_
          rw [<- ip]
          exact aa5 _ a7
        case hR =>
          intro s' gq hm ku ow
          obtain ⟨h', g', d', qP, tf⟩ := s'
          have rT : g' = s.gens := hm.gens
          have rS : d' = s.drawn := hm.drawn
          have yU : tf = s.os := hm.os
          subst rT; subst rS; subst yU
          show wpAny _ _ _ _ _ _
          refine aa4 ?_
          show wpAny _ _ (ret Value.none) _ _ _
          refine aa4 ⟨rfl, h', qP, gq, rfl, ku, by rw [<- hlen]; exact ow, fun b o ae e => ?_⟩
          have fY : b ≠ s.heap.objs.size := abm ae
          have sa : b ≠ (s.heap.push { cls := .type "set", dict := none, data := .set #[] 0 (.fresh 0 0 led) }).objs.size := by
            rw [Heap.size_push]; exact abm (Nat.lt_succ_of_lt ae)
          exact hm.heap b o (by simp only [aa8, abg, aeH, or_false, not_or]; exact ⟨fY, sa⟩) (aa5 _ (aa5 _ e))
      · cases Wd with
        | error e => exact Ak
        | ok Pn =>
          cases Pn with
          | ret r =>
            obtain ⟨rfl, h', tk, gq, rfl, ku, Q8, fv⟩ := Ak
            repeat (any_goals (first | assumption | wp_step))
            exact h _ _ gq ku Q8 fv
          | _ => exact Ak.elim
    | _ => exact a3.elim
end
section
noncomputable def Ga(M:Value->Prop)(prog)(w):um prog w (List Int) where
 Row:=λh v au=>∃b,v=.ref b/\hs prog w h au b/\M v
 Set:=pj M prog w
 fresh:=λh a e=>⟨_,#[],0,_,e,⟨rfl,rfl,rfl⟩,rfl,JJ _,by show 0*5<7*3;decide,rfl,by show(!w.params.followText "set-order")=true<->_;simp,.nil,adn⟩
 moved:=λ{h h' a c9} x sO k=>by
  obtain⟨o,aj,a6,t,ay,aH,aT,de,h6,iw,tv,Bp,tw⟩:=x;refine⟨o,aj,a6,t,sO _ ay,aH,aT,de,h6,iw,tv,Paired.mp (λe au ⟨⟨b,e1,ar,bf⟩,eG⟩=>⟨⟨b,e1,ar,?_⟩,eG⟩) Bp,tw⟩;obtain⟨bQ,items,n,J,aa,aE⟩:=bf;exact⟨bQ,items,n,k b bQ J aa,aa,aE⟩
 BB:=λx k=>by
  obtain⟨b,e,⟨bQ,items,m,bO,bF,dO⟩,hL⟩:=x;exact⟨b,e,⟨bQ,items,m,k b bQ bO bF,bF,dO⟩,hL⟩
 A4:=λx o e=>by
  obtain⟨bL,_,_,_,d8,hex,_⟩:=x;rw[e]at d8;cases d8;rw[hex.1];decide
 add:=λ{A E s a v k au Q} bh a7 a3 az h=>by
  obtain⟨b,rfl,ax,fs⟩:=a3;refine Xb bh a7 ax fs az λh' tk cQ r j2 bO bF dO=>h h' tk cQ r j2 bO bF ?_
  by_cases c:k∈au
  .rw[if_pos c]at dO ⊢;exact dO
  .rw[if_neg c]at dO ⊢;exact dO
noncomputable def R7(prog)(w):um prog w Int where
 Row:=λ_ v k=>∃t,v=.int k t
 Set:=ph w
 fresh:=λh a e=>⟨_,#[],0,_,e,⟨rfl,rfl,rfl⟩,rfl,JJ _,by show 0*5<7*3;decide,rfl,by show(!w.params.followText "set-order")=true<->_;simp,.nil,adn⟩
 moved:=λ{h h' a c9} x sO k=>by
  obtain⟨o,aj,a6,t,ay,r⟩:=x;exact⟨o,aj,a6,t,sO _ ay,r⟩
 BB:=λx _=>x
 A4:=λx o e=>by
  obtain⟨bL,_,_,_,d8,hex,_⟩:=x;rw[e]at d8;cases d8;rw[hex.1];decide
 add:=λ{A E s a v k au Q} bh a7 a3 az h=>by
  obtain⟨t,rfl⟩:=a3;refine Xa a7 az λh' tk cQ r j2 bO bF dO=>h h' tk cQ r j2 bO bF ?_
  by_cases c:k∈au
  .rw[if_pos c]at dO ⊢;exact dO
  .rw[if_neg c]at dO ⊢;exact dO
end
def qG:Slot "set_iterator" "__next__" "set_iterator.__next__" :=
 .of (owner:="set_iterator") (n:="__next__") (by rw[aeV,adR];kernel_rfl) (by decide +kernel) (by decide +kernel) (by decide +kernel)
  (by first|exact .inl (by decide +kernel)|exact .inr (by decide +kernel)) (by rw[aet];kernel_rfl)
def Ea:entryFor table "set_iterator.__next__"=some Builtin.«set_iterator.__next__»:=entryFor_of_tree (by kernel_rfl)
def Hm:Manifest.owners.lookup (String.ofList ['r','o','t','a','r','e','t','i','_','t','e','s'].reverse)=some Manifest.sig_set_iterator:=by kernel_rfl
def C3(a):argsOk "set_iterator.__next__" ⟨[a],[]⟩:=by
 unfold argsOk;rw[signature?_of (id:="set_iterator.__next__") (n:=['_','_','t','x','e','n','_','_']) (o:=['r','o','t','a','r','e','t','i','_','t','e','s']) (by kernel_rfl) Hm];kernel_rfl
def I3:Slot "set_iterator" "__iter__" "set_iterator.__iter__" :=
 .of (owner:="set_iterator") (n:="__iter__") (by rw[aeV,adR];kernel_rfl) (by decide +kernel) (by decide +kernel) (by decide +kernel)
  (by first|exact .inl (by decide +kernel)|exact .inr (by decide +kernel)) (by rw[aet];kernel_rfl)
def KZ(a):argsOk "set_iterator.__iter__" ⟨[a],[]⟩:=by
 unfold argsOk;rw[signature?_of (id:="set_iterator.__iter__") (n:=['_','_','r','e','t','i','_','_']) (o:=['r','o','t','a','r','e','t','i','_','t','e','s']) (by kernel_rfl) Hm];kernel_rfl
def I2:Slot "set" "__iter__" "set.__iter__" :=
 .of (owner:="set") (n:="__iter__") (by rw[aeV,adR];kernel_rfl) (by decide +kernel) (by decide +kernel) (by decide +kernel)
  (by first|exact .inl (by decide +kernel)|exact .inr (by decide +kernel)) (by rw[aet];kernel_rfl)
def KY(a):argsOk "set.__iter__" ⟨[a],[]⟩:=by
 unfold argsOk;rw[signature?_of (id:="set.__iter__") (n:=['_','_','r','e','t','i','_','_']) (o:=['t','e','s']) (by kernel_rfl) PySem.F.owner_set];kernel_rfl
def NY:entryFor table "set.__iter__"=some Builtin.«frozenset.__iter__»:=entryFor_alias (id':="frozenset.__iter__") (by kernel_rfl) rfl (by decide +kernel) (by kernel_rfl)
def NZ:entryFor table "set_iterator.__iter__"=some Builtin.«dict_keyiterator.__iter__»:=entryFor_alias (id':="dict_keyiterator.__iter__") (by kernel_rfl) rfl (by decide +kernel) (by kernel_rfl)
theorem Ef{α:Type}:∀(l:List α)(i:Nat)(h:i<l.length),(l[i]::l.eraseIdx i).Perm l
 |x::r,0,_=>by simp
 |x::r,i+1,h=>by
  simp only[List.getElem_cons_succ,List.eraseIdx_cons_succ];exact(List.Perm.swap _ _ _).trans ((Ef r i (by simpa using h)).cons x)
theorem HD{α:Type}(next):∀(fuel k:Nat)(left:List α)(out:Array α),left.length<=fuel->(pickOrder.go next fuel k left out).toList.Perm (out.toList++left)
 |0,k,left,out,h=>by
  have:left=[]:=List.length_eq_zero_iff.mp ⋯;subst this;simp[pickOrder.go]
 |fuel+1,k,left,out,h=>by
  unfold pickOrder.go;cases left with
  |nil=>simp
  |cons x r =>
   have bV:next k%(x::r).length<(x::r).length:=ae1 _ (by simp)
   have aZ:(x::r)[next k%(x::r).length]?=some (x::r)[next k%(x::r).length]:=aba bV;rw[aZ];refine(HD next fuel (k+1) _ _ (by rw[List.length_eraseIdx_of_lt bV];simp only[List.length_cons]at h ⊢;lia)).trans ?_;rw[Array.toList_push,adl];exact List.Perm.append_left _ (Ef _ _ bV)
def U2{α:Type}(next)(xs:Array α):(pickOrder next xs).toList.Perm xs.toList:=by
 unfold pickOrder;have:=HD next xs.size 0 xs.toList #[] (by simp)
 simpa using this
section
variable{prog:Program}{w:World}
structure nU(w:World)(o:Obj)(aj:Array (Int×Value))(a6:Nat)(t:SetTable):Prop where
 ex:o.ExactSet
 data:o.data=.set aj a6 t
 tab:Tab aj t
 plain:t.plain=true
 led:t.led=true<->w.params.followText "set-order"=false
noncomputable def gn(w:World)(a:Addr)(aj:Array (Int×Value))(a6:Nat):Array (Int×Value):=if w.params.followText "set-order"=true then pickOrder (w.params.setOrder a a6) aj else aj
def qu(w)(a)(aj)(a6):(gn w a aj a6).toList.Perm aj.toList:=by
 unfold gn;split
 .exact U2 _ _
 .exact .refl _
noncomputable def slotAt(w:World)(t:SetTable)(i:Nat):Nat:=if w.params.followText "set-order"=true then 0 else match i with
 |0=>0
 |j+1=>t.place.getD j 0+1
def nP(h:Heap)(it a:Addr)(slot i n a6:Nat):Prop:=∃o,h.get? it=some o/\o.cls=.type "set_iterator"/\o.data=.fields #[.int slot 0,.int i 0,.ref a,.int n 0,.int a6 0]
def nP.typeIs{s:Shared}{slot i n a6:Nat}(h:nP s.heap it a slot i n a6):s.TypeIs (.ref it) "set_iterator":=let ⟨o,ay,ag,_⟩:=h;⟨o,ay,ag⟩
def Lw{aj:Array (Int×Value)}(T:Tab aj t)(hw:w.params.followText "set-order"=false)(ai:i<=aj.size):below t.place (slotAt w t i)=i:=by
 unfold slotAt;rw[if_neg (by rw[hw];decide)];obtain⟨J,aa,aE⟩:=yl T.ix (match i with|0=>0|j+1=>t.place.getD j 0+1);rw[T.gJ]at J;cases i with
 |zero =>
  dsimp only at J aa aE
  by_cases c:below t.place 0=0
  .exact c
  .exfalso;have bV:0<t.place.size:=(by rw[T.gJ];lia);have:=aa 0 _ ⋯ (abf bV);lia
 |succ j =>
  have aI:j<t.place.size:=(by rw[T.gJ];lia);have aZ:t.place[j]?=some t.place[j]:=abf aI;have hd:t.place.getD j 0=t.place[j]:=(by simp[Array.getD,aI]);dsimp only at J aa aE ⊢;rw[hd]at J aa aE ⊢
  by_cases cF:below t.place (t.place[j]+1)<=j
  .exfalso;have:=aE j _ cF aZ;lia
  .by_cases bU:j+1<below t.place (t.place[j]+1)
   .exfalso;have Qz:j+1<t.place.size:=(by rw[T.gJ];lia);have hV:t.place[j+1]?=some t.place[j+1]:=abf Qz;have a1:=aa (j+1) _ bU hV;have a2:=T.ix j (j+1) _ _ ⋯ aZ hV;lia
   .omega
def IM(ay:s.heap.get? a=some o)(O:nU w o aj a6 t)(ai:i<=aj.size)(h:Q ((gn w a aj a6)[i]?.map λe=>(e.2,slotAt w t (i+1))) s):wpAny (model prog w) A (setNext a (slotAt w t i) i a6) Q E s:=by
 unfold setNext;refine aa2 (ab5 ay O.data (Tab.fits O.tab) ?_);dsimp only;unfold setsByText;refine aa2 (aa2 (adp (aa4 ?_)));cases hw:w.params.followText "set-order" with
 |true =>
  have gj:(model prog w).w.params.followText "set-order"=true:=hw;simp only[gj,abU];simp only[acS,aa6,abp];refine aa2 ?_;unfold setWalk;refine aa2 (ab5 ay O.data (Tab.fits O.tab) ?_);unfold setsByText;refine aa2 (aa2 (adp (aa4 ?_)));simp only[gj,abU];refine aa2 (adp (aa4 ?_));have e1:gn w a aj a6=pickOrder (w.params.setOrder a a6) aj:=(by unfold gn;rw[if_pos hw]);have ar:∀i,slotAt w t i=0:=λi=>by unfold slotAt;rw[if_pos hw]
  rw[e1]at h;refine aa4 ?_;simp only[ar]at h ⊢;exact h
 |false =>
  have gj:(model prog w).w.params.followText "set-order"=false:=hw;simp only[gj,aa6,abp];have zU:(!t.plain&&decide (aj.size>1))=false:=(by rw[O.plain];rfl);show wpAny (model prog w) A (if (!t.plain&&decide (aj.size>1))=true then _ else _) Q E s;rw[zU];simp only[aa6,abp];have QG:t.led=true:=O.led.mpr hw;refine aa2 ?_;show wpAny (model prog w) A (if (!t.led&&!aj.isEmpty)=true then _ else pure ()) _ E s;rw[QG];simp only[acp,aej,aa6,abp];refine aa4 ?_;rw[Lw O.tab hw ai];have e1:gn w a aj a6=aj:=(by unfold gn;rw[if_neg (by rw[hw];decide)]);rw[e1]at h;refine aa4 ?_
  by_cases c:i<aj.size
  .have g1:aj[i]?=some aj[i]:=abf c;have aB:i<t.place.size:=(by rw[O.tab.gJ];exact c);have g2:t.place[i]?=some t.place[i]:=abf aB;rw[g1]at h ⊢;rw[g2];have bf:slotAt w t (i+1)=t.place[i]+1:=(by unfold slotAt;rw[if_neg (by rw[hw];decide)];simp[Array.getD,aB]);rw[bf]at h;exact h
  .have g1:aj[i]?=none:=ac6 ⋯;rw[g1]at h ⊢;exact h
def next_item(ay:s.heap.get? a=some o)(O:nU w o aj a6 t)(hit:nP s.heap it a (slotAt w t i) i aj.size a6)(ak:(gn w a aj a6)[i]?=some x)(ek:∀h',nP h' it a (slotAt w t (i+1)) (i+1) aj.size a6->Heap.SameBut it s.heap h'->Q (some x.2) { s with heap:=h' }):wpAny (model prog w) A (pyNext (.ref it)) Q E s:=by
 obtain⟨oO,m3,zR,il⟩:=id hit;have hsz:(gn w a aj a6).size=aj.size:=by have:=(qu w a aj a6).length_eq;simpa using this
 have ai:i<=aj.size:=by rw[<- hsz];exact ado (abv.mp ak).1
 have dT:it≠a:=by
  rintro rfl;rw[ay]at m3;cases m3;rw[O.data]at il;cases il
 unfold pyNext;refine aa2 (ad6 (acj (name:=Str.ofString "__next__") hit.typeIs qG
  (aca qG hit.typeIs Ea ?_ (C3 _))))
 unfold Builtin.«set_iterator.__next__»;refine aa2 (m:=slotArgs _ _ _) (aa4 ?_);refine aa2 (aeu m3 il ?_);dsimp only;refine aa2 (aef ay O.data (Tab.fits O.tab) ?_);simp only[acS,aa6,abp];simp only[Int.toNat_natCast];refine aa2 (IM ay O ai ?_);rw[ak];simp only[Option.map_some];have hV:=abz (Obj.mapFields (·.setIfInBounds 0 (rawInt (slotAt w t (i+1):Nat)))) m3 (by obtain⟨c,d,rM,bI⟩:=oO;simp only at il;subst il;rfl);refine aa2 (acv m3 il (by simp) ?_);have ky:(Obj.mapFields (·.setIfInBounds 0 (rawInt (slotAt w t (i+1):Nat))) oO).data=.fields #[.int (slotAt w t (i+1):Nat) 0,.int i 0,.ref a,.int aj.size 0,.int a6 0]:=by
  obtain⟨c,d,rM,bI⟩:=oO;simp only at il;subst il;rfl
 have vd:(Obj.mapFields (·.setIfInBounds 0 (rawInt (slotAt w t (i+1):Nat))) oO).cls=.type "set_iterator":=by
  obtain⟨c,d,rM,bI⟩:=oO;simp only at il zR;subst il;exact zR
 generalize Obj.mapFields (·.setIfInBounds 0 (rawInt (slotAt w t (i+1):Nat))) oO=iT at hV ky vd;refine aa2 (acv hV ky (by simp) ?_);have si:=abz (Obj.mapFields (·.setIfInBounds 1 (rawInt ((i:Int)+1)))) hV (by obtain⟨c,d,rM,bI⟩:=iT;simp only at ky;subst ky;rfl);refine aa4 ?_;refine⟨_,rfl,aa4 ?_⟩;refine ek _ ⟨_,si,?_,?_⟩ ((ab0 ..).trans (ab0 ..))
 .obtain⟨c,d,rM,bI⟩:=iT;simp only at ky vd;subst ky;exact vd
 .obtain⟨c,d,rM,bI⟩:=iT;simp only at ky vd;subst ky;rfl
def next_end(cu:A.handled=none)(ay:s.heap.get? a=some o)(O:nU w o aj a6 t)(hit:nP s.heap it a (slotAt w t aj.size) aj.size aj.size a6)(ek:∀h',Heap.ExtBut it s.heap h'->Q none { s with heap:=h' }):wpAny (model prog w) A (pyNext (.ref it)) Q E s:=by
 obtain⟨oO,m3,zR,il⟩:=id hit;have hsz:(gn w a aj a6).size=aj.size:=by have:=(qu w a aj a6).length_eq;simpa using this
 unfold pyNext;refine aa2 (ad6 (acj (name:=Str.ofString "__next__") hit.typeIs qG
  (aca qG hit.typeIs Ea ?_ (C3 _))))
 unfold Builtin.«set_iterator.__next__»;refine aa2 (m:=slotArgs _ _ _) (aa4 ?_);refine aa2 (aeu m3 il ?_);dsimp only;refine aa2 (aef ay O.data (Tab.fits O.tab) ?_);simp only[acS,aa6,abp];simp only[Int.toNat_natCast];refine aa2 (IM ay O (aa9 _) ?_);rw[ac6 ⋯];simp only[Option.map_none];refine aa2 (acv m3 il (by simp) ?_);show wpAny _ _ (newExc (.type "StopIteration") []>>=_) _ _ _;refine aa2 ?_;simp only[newExc,newTuple];refine aa2 (abE ?_ (by size_fits));refine aa2 (m:=firstArgMember _ _) (wpAny_of_eq (a:=Value.none) (by first|rfl|(simp only[firstArgMember];rfl)) ?_);refine abE ?_ (by size_fits);simp only[raiseNew];refine aa2 (wpAny_handled ?_);rw[show A.in1.handled=none from cu];refine aa2 (aa4 (wpAny_throw ?_));refine aa2 (aeI (T:="StopIteration") (b:=true) ⟨_,abd _ rfl,rfl⟩ isSubtype_stop ?_);exact aa4 (ek _ (((ab0 ..).extBut.push _).push _))
def RZ{slot i n a6:Nat}(hit:nP s.heap it a slot i n a6)(h:Q (.ref it) s):wpAny (model prog w) A (pyIter (.ref it)) Q E s:=by
 refine aeA hit.typeIs I3 (aca I3 hit.typeIs NZ ?_ (KZ _));show wpAny _ _ (ret (.ref it)) _ _ s;exact aa4 ⟨_,rfl,"set_iterator",_,hit.typeIs,qG.lookup,h⟩
def R0(ay:s.heap.get? a=some o)(O:nU w o aj a6 t)(ek:Q (.ref s.heap.objs.size) { s with heap:=s.heap.push { cls:=.type "set_iterator",data:=.fields #[.int 0 0,.int 0 0,.ref a,.int aj.size 0,.int a6 0] } }):wpAny (model prog w) A (pyIter (.ref a)) Q E s:=by
 have cG:s.TypeIs (.ref a) "set":=⟨o,ay,O.ex.1⟩;refine aeA cG I2 (aca I2 cG NY ?_ (KY _));unfold Builtin.«frozenset.__iter__» Builtin.Frozenset.slot0 slotArgs;simp only[List.isEmpty_nil,acp,aa6,↓reduceIte,bind_assoc,List.length_nil,acS];unfold Builtin.Frozenset.addrOf Builtin.Frozenset.sizeOf;simp only[pure_bind,bind_assoc];refine aa2 (aef ay O.data (Tab.fits O.tab) ?_);unfold setDrawn;simp only[bind_assoc];refine aa2 (ab5 ay O.data (Tab.fits O.tab) ?_);unfold setsByText;simp only[bind_assoc];refine aa2 (adp ?_);simp only[pure_bind];have zU:∀b:Bool,(!b&&(!t.plain&&decide (aj.size>1)))=false:=λb=>by rw[O.plain];simp
 show wpAny (model prog w) A.in1 (if (!(model prog w).w.params.followText "set-order"&&(!t.plain&&decide (aj.size>1)))=true then _ else _) _ _ s;rw[zU];simp only[aa6,abp,pure_bind];unfold setEpoch;simp only[bind_assoc,pure_bind];refine aa2 (ab5 ay O.data (Tab.fits O.tab) ?_);dsimp only;refine aa2 (abE (aa4 ⟨_,rfl,"set_iterator",_,⟨_,abd _ rfl,rfl⟩,qG.lookup,?_⟩));exact ek
def Zr(cu:A.handled=none)(dT:a≠I)(O:nU w o aj a6 t):
  Walks prog w A I [I,a] [I] aj.size (λi v=>∃x,(gn w a aj a6)[i]?=some x/\v=x.2) (λi h=>nP h I a (slotAt w t i) i aj.size a6/\h.get? a=some o) where
 sub:=λb ae=>by simp at ae;simp[ae]
 frame:=λi h h' st ax=>⟨let ⟨bL,e,r⟩:=st.1;⟨bL,ax I (by simp) bL e,r⟩,ax a (by simp) o st.2⟩
 item:=λi s Q E ai st ek=>by
  have hsz:(gn w a aj a6).size=aj.size:=(by have:=(qu w a aj a6).length_eq;simpa using this);have ak:(gn w a aj a6)[i]?=some (gn w a aj a6)[i]:=abf ⋯;exact next_item st.2 O st.1 ak λh' bj dF=>ek _ h' s.toks ⟨_,ak,rfl⟩ ⟨bj,(dF.2 a dT).trans st.2⟩ λb bL ae e=>dF.extBut b bL (λh=>ae (by simp[h])) e
 done:=λs Q E st ek=>next_end cu st.2 O st.1 λh' he=>ek h' s.toks λb bL ae e=>he b bL (λh=>ae (by simp[h])) e
 self:=λi s Q E st ek=>RZ st.1 ek
def Qx(cG:s.TypeIs (.ref r) "set")(h:Q false s):wpAny (model prog w) A (Builtin.List.listLengthHint (.ref r)) Q E s:=by
 unfold Builtin.List.listLengthHint;refine aa2 (aeR cG PySem.F.slot_set_len.lookup ?_);generalize Fs:("set.__len__":String)=RG
 wp_delta
 rw[show splitId RG=some ("set","__len__") from by subst Fs;decide +kernel];subst Fs;refine aa2 (aeI (T:="set") (b:=true) cG (by rw[aet];kernel_rfl) ?_);refine wpAny_ite_split (λpS=>absurd pS ∅) (λ_=>?_);refine wpAny_ite_split (λ_=>?_) (λpS=>absurd (by decide +kernel) pS);refine aa2 (ac3 cG ?_);exact aa4 h
end
end Pv
end
section
namespace Pv
open PySem PySem.Spec PyProof.Rows PySem.W
section
def Nl(af:(d==sysModules)=false)(ay:s.heap.get? d=some bb)(ak:bb.ExactDict)(hd:bb.data=.dict aj a6)(ek:Q (.ref s.heap.objs.size) { s with heap:=s.heap.push { cls:=.type "dict_keyiterator",data:=.fields #[.ref d,.int 0 0,.int aj.size 0,.int a6 0] } }):wpAny (model prog w) A (pyIter (.ref d)) Q E s:=by
 have cG:s.TypeIs (.ref d) "dict":=⟨bb,ay,ak.1⟩;refine aeA cG F.slot_dict_iter (aca F.slot_dict_iter cG F.entry_dict_iter ?_ (F.args_dict_iter_1 _));unfold Builtin.«dict.__iter__»;refine aa2 ?_;unfold Builtin.Dict.dictSlotNone;refine aa2 (wpAny_notOrdered_dict cG ?_);show wpAny _ _ (pure (Value.ref d)) _ _ s;refine aa4 ?_;show wpAny _ _ (Builtin.Dict.showsAll d>>=_) _ _ s;unfold Builtin.Dict.showsAll;rw[if_neg (by rw[af];exact ab7)];refine aa2 (aa4 ?_);refine aa2 (aeB ay hd ?_);refine aa2 (aeW ay hd ?_);refine aa2 (abE (aa4 ⟨_,rfl,"dict_keyiterator",_,⟨_,abd _ rfl,rfl⟩,acg.lookup,?_⟩));simpa[rawInt] using ek
def Nm(hit:s.heap.IsKeyIter it d i aj.size a6)(sr:s.heap.get? d=some bb)(sf:bb.data=.dict aj a6)(bV:i<aj.size)(ek:∀h',h'.IsKeyIter it d (i+1) aj.size a6->Heap.SameBut it s.heap h'->Q (some aj[i].key) { s with heap:=h' }):wpAny (model prog w) A (pyNext (.ref it)) Q E s:=by
 obtain⟨o,ay,ag,hd⟩:=id hit;unfold pyNext;refine aa2 (ad6 (acj (name:=Str.ofString "__next__") hit.typeIs acg
  (aca acg hit.typeIs aeb ?_ (ad0 _))))
 refine aa2 (aa4 ?_);refine aa2 ?_;refine aa2 ?_
 first|refine aa2 (acw hit.typeIs (aa4 ?_))|refine aa2 (acU hit.typeIs (aa4 ?_))
 refine aa2 (aeu ay hd ?_);simp only[show Builtin.Dict_items.ownsTuple "dict_keyiterator"=false by decide,aa6,abp];show wpAny _ _ (if (Value.ref d==Value.none)=true then _ else _) _ _ s;rw[if_neg (show ¬((Value.ref d==Value.none)=true) from ab7)];refine aa2 (aa4 ?_);refine aa2 (aeB sr sf ?_);rw[if_neg (by simp)];refine aa2 (aa4 ?_);refine aa2 (aeW sr sf ?_);rw[if_neg (by simp)];refine aa4 ?_;simp only[show ¬((i:Int)<0) from by lia,abp,Int.toNat_natCast,abf bV];refine aa2 ?_
 first|refine aa2 (acw hit.typeIs (aa4 ?_))|refine aa2 (acU hit.typeIs (aa4 ?_))
 refine aa2 (wpAny_isOneOf_keyiter hit.typeIs ?_);show wpAny _ _ (setField (.ref it) 1 (rawInt ((i:Int)+1))>>=_) _ _ s;refine aa2 (acv ay hd (by simp) ?_);have Fv:(s.heap.update it (Obj.mapFields (·.setIfInBounds 1 (rawInt ((i:Int)+1))))).IsKeyIter it d (i+1) aj.size a6 :=
  ⟨_,abz _ ay (adh (acu hd _)),(Obj.cls_mapFields ..).trans ag,by rw[acu hd];simp[rawInt]⟩
 refine aa2 (acf ?_);refine aa2 (wpAny_isOneOf_keyiter (s:={ s with heap:=s.heap.update it (Obj.mapFields (·.setIfInBounds 1 (rawInt ((i:Int)+1)))) }) Fv.typeIs ?_);show wpAny _ _ (pure aj[i].key) _ _ _;exact aa4 (aa4 ⟨_,rfl,aa4 (ek _ Fv (ab0 ..))⟩)
def Nk(cu:A.handled=none)(hit:s.heap.IsKeyIter it d aj.size aj.size a6)(sr:s.heap.get? d=some bb)(sf:bb.data=.dict aj a6)(ek:∀h',Heap.ExtBut it s.heap h'->Q none { s with heap:=h' }):wpAny (model prog w) A (pyNext (.ref it)) Q E s:=by
 obtain⟨o,ay,ag,hd⟩:=id hit;unfold pyNext;refine aa2 (ad6 (acj (name:=Str.ofString "__next__") hit.typeIs acg
  (aca acg hit.typeIs aeb ?_ (ad0 _))))
 refine aa2 (aa4 ?_);refine aa2 ?_;refine aa2 ?_
 first|refine aa2 (acw hit.typeIs (aa4 ?_))|refine aa2 (acU hit.typeIs (aa4 ?_))
 refine aa2 (aeu ay hd ?_);simp only[show Builtin.Dict_items.ownsTuple "dict_keyiterator"=false by decide,aa6,abp];show wpAny _ _ (if (Value.ref d==Value.none)=true then _ else _) _ _ s;rw[if_neg (show ¬((Value.ref d==Value.none)=true) from ab7)];refine aa2 (aa4 ?_);refine aa2 (aeB sr sf ?_);rw[if_neg (by simp)];refine aa2 (aa4 ?_);refine aa2 (aeW sr sf ?_);rw[if_neg (by simp)];refine aa4 ?_;simp only[show ¬((aj.size:Int)<0) from by lia,abp,Int.toNat_natCast,ac6 (aa9 aj.size)];refine aa2 ?_
 first|refine aa2 (acw hit.typeIs (aa4 ?_))|refine aa2 (acU hit.typeIs (aa4 ?_))
 show wpAny _ _ (setField (.ref it) 0 .none>>=_) _ _ s;refine aa2 (acv ay hd (by simp) ?_);show wpAny _ _ (newExc (.type "StopIteration") []>>=_) _ _ _;refine aa2 ?_;simp only[newExc,newTuple];refine aa2 (abE ?_ (by size_fits));refine aa2 (m:=firstArgMember _ _) (wpAny_of_eq (a:=Value.none) (by first|rfl|(simp only[firstArgMember];rfl)) ?_);refine abE ?_ (by size_fits);simp only[raiseNew];refine aa2 (wpAny_handled ?_);rw[show A.in1.handled=none from cu];refine aa2 (aa4 (wpAny_throw ?_));refine aa2 (aeI (T:="StopIteration") (b:=true) ⟨_,abd _ rfl,rfl⟩ isSubtype_stop ?_);exact aa4 (ek _ (((ab0 ..).extBut.push _).push _))
end
section
end
end Pv
end
section
namespace Pv
open PySem PySem.Spec PyProof.Rows fS PySem.SetTable
section
def Mp (az : s.heap.IsTuple l ah.toArray)
    (h : Q ah { s with heap := (s.heap.push (seqObj "list" #[] 0)).update s.heap.objs.size (Obj.mapSeq (· ++ ah.toArray)) }) (hsz : ah.length <= sizeLine) :
    wpAny (model prog w) A (collect (.ref l)) Q E s := by
  obtain ⟨o, ay, ag, n, hd⟩ := id az
  unfold collect
  refine aa2 (aes (ab9 entry_proto_collect' ?_))
  show wpAny _ _ (do again (.builtin "list.__iadd__" ⟨[<- newList [], .ref l], []⟩)) _ _ s
  refine aa2 (wpAny_newList (aa4 ⟨aer _ (by decide +kernel), ab9 entry_list_iadd' ?_⟩))
  show wpAny _ _ (Builtin.List.listExtendWith (.ref s.heap.objs.size) (.ref l) (.ref s.heap.objs.size)) _ _ { s with heap := s.heap.push (seqObj "list" #[] 0) }
  unfold Builtin.List.listExtendWith
  have d8 : (s.heap.push (seqObj "list" #[] 0)).get? l = some o := aa5 _ ay
  refine aa2 (ac3 (T := "tuple") ⟨o, d8, ag⟩ ?_)
  have aA : (Value.type "tuple" == Value.type "tuple") = true := by rfl
  rw [if_pos (by rw [aA]; simp)]
  refine aa2 (listItems_at d8 hd ?_)
  refine aa2 (listItems_at (xs := #[]) (n := 0) (abd _ rfl) rfl ?_)
  rw [if_neg (by simp)]
  refine aa2 (listUpdate_at (xs := #[]) (n := 0) (abd _ rfl) rfl ?_ (abw _) (by show (#[] ++ ah.toArray).size <= sizeLine + 1; simp only [aex, abb, List.length_nil]; lia))
  refine aa4 ?_
  show wpAny (model prog w) A (do
      let o <- load s.heap.objs.size
      match o.data with
      | .seq xs _ => pure xs.toList
      | _ => unsupported "internal:collect") Q E { s with heap := (s.heap.push (seqObj "list" #[] 0)).update s.heap.objs.size (Obj.mapSeq (· ++ ah.toArray)) }
  refine aa2 (wpAny_load (get?_update_seq (abd _ rfl) _) ?_)
  show wpAny _ _ (pure ((#[] : Array Value) ++ ah.toArray).toList) Q E _
  rw [show ((#[] : Array Value) ++ ah.toArray).toList = ah by simp]
  exact aa4 h
def ud(s s':Shared):Prop:=(∀b o,s.heap.get? b=some o->s'.heap.get? b=some o)/\s'.gens=s.gens/\s'.drawn=s.drawn/\s'.os=s.os
def Mn{n:Nat}(cu:A.handled=none)(a3:IsRange s.heap r a b c t u v)(Rj:Builtin.Range.small a b c=true)(aC:Builtin.Range.rangeSize a b c=n)(hlen:n<=2 ^ 24)(ek:∀s' acc,ud s s'->ItemsOf (λi v=>∃t,v=.int (a+i*c) t) acc n->Q acc.toList s'):wpAny (model prog w) A (collect (.ref r)) Q E s:=by
 unfold collect;refine aa2 (aes (ab9 F.entry_proto_collect ?_));rw[acm F.plain_proto_collect _];show wpAny _ A.in1 (newList []>>=λl=>again (.builtin "list.__iadd__" ⟨[l,.ref r],[]⟩)) _ _ s;refine aa2 (abE ?_);refine aa4 ⟨ad5 adI _,ab9 F.entry_list_iadd ?_⟩;rw[acm adI _];show wpAny _ A.in1 (Builtin.List.listExtendWith (.ref s.heap.objs.size) (.ref r) (.ref s.heap.objs.size)) _ _ _;have a7:(s.heap.push { cls:=.type "list",data:=.seq ([]:List Value).toArray }).get? s.heap.objs.size=some { cls:=.type "list",data:=.seq ([]:List Value).toArray }:=abd _ rfl;refine wpAny_extend_range (A:=A) (R:=wants _ E) (s:={ s with heap:=s.heap.push { cls:=.type "list",data:=.seq ([]:List Value).toArray } }) cu (aa5 _ a3) Rj aC hlen s.heap.objs.size (.ref s.heap.objs.size) 0 a7 λh' tk xr c3 ax ku ij=>?_
 show wpAny _ A (load s.heap.objs.size>>=_) _ _ _;refine aa2 (wpAny_load ku ?_);exact aa4 (ek _ xr ⟨λb o e=>ax b o (abm (abc e)) (aa5 _ e),rfl,rfl,rfl⟩ ij)
def Mo(cu:A.handled=none)(ay:s.heap.get? a=some o)(O:nU w o aj a6 t)(aC:aj.size<=sizeLine)(ek:∀s' acc,ud s s'->ItemsOf (λi v=>∃x,(gn w a aj a6)[i]?=some x/\v=x.2) acc aj.size->Q acc.toList s'):wpAny (model prog w) A (collect (.ref a)) Q E s:=by
 have bV:a<s.heap.objs.size:=abc ay;unfold collect;refine aa2 (aes (ab9 F.entry_proto_collect ?_));rw[acm F.plain_proto_collect _];show wpAny _ A.in1 (newList []>>=λl=>again (.builtin "list.__iadd__" ⟨[l,.ref a],[]⟩)) _ _ s;refine aa2 (abE ?_);refine aa4 ⟨ad5 adI _,ab9 F.entry_list_iadd ?_⟩;rw[acm adI _];show wpAny _ A.in1 (Builtin.List.listExtendWith (.ref s.heap.objs.size) (.ref a) (.ref s.heap.objs.size)) _ _ _;unfold Builtin.List.listExtendWith;have ou:(s.heap.push { cls:=.type "list",data:=.seq ([]:List Value).toArray }).get? a=some o:=aa5 _ ay;refine aa2 (ac3 (T:="set") ⟨o,ou,O.ex.1⟩ ?_);have J:Builtin.List.listSameRef (.ref s.heap.objs.size) (.ref a)=false:=by
  have dT:s.heap.objs.size≠a:=ab1 (abm bV);simp[Builtin.List.listSameRef,dT]
 have aa:(Value.type "set"==Value.type "list")=false:=by decide
 have aE:(Value.type "set"==Value.type "tuple")=false:=by decide
 simp only[J,aa,aE,Bool.or_false,aa6,abp];refine aa2 (R0 (s:={ s with heap:=s.heap.push { cls:=.type "list",data:=.seq ([]:List Value).toArray } }) ou O ?_);generalize eO:s.heap.push { cls:=.type "list",data:=.seq ([]:List Value).toArray }=H at *;have zH:H.objs.size=s.heap.objs.size+1:=by rw[<- eO,Heap.size_push]
 have QJ:a<H.objs.size:=by rw[zH];exact Nat.lt_succ_of_lt bV
 refine aa2 (acf (Qx ⟨o,aa5 _ ou,O.ex.1⟩ ?_));rw[if_pos ∅];have dT:a≠H.objs.size:=abm QJ;have Fe:s.heap.objs.size≠H.objs.size:=by rw[zH];exact abm (acH _)
 have Ff:s.heap.objs.size≠a:=ab1 (abm bV);have pR:s.heap.objs.size∉[H.objs.size,a]:=λhm=>by
  rcases aa8.mp hm with e|e
  .exact Fe e
  .exact Ff (abg.mp e)
 generalize va:H.push { cls:=.type "set_iterator",data:=.fields #[.int 0 0,.int 0 0,.ref a,.int aj.size 0,.int a6 0] }=dG;have a7:dG.get? s.heap.objs.size=some { cls:=.type "list",data:=.seq ([]:List Value).toArray }:=va▸aa5 _ (eO▸abd _ rfl);have QY:dG.get? a=some o:=va▸aa5 _ ou;have Qp:dG.get? H.objs.size=some { cls:=.type "set_iterator",data:=.fields #[.int 0 0,.int 0 0,.ref a,.int aj.size 0,.int a6 0] }:=va▸abd _ rfl;have Qn:A.in1.handled=none:=cu;have st0:slotAt w t 0=0:=by unfold slotAt;split<;>rfl
 refine aa2 (aep ?_);refine aa2 ?_;show wpAny _ A.in1 (updateSeq s.heap.objs.size (·.push .none)>>=λ_=>updateSeq s.heap.objs.size (·.pop)) _ _ _;refine aa2 (aee a7 rfl ?_);have Fh:=abz (Obj.mapSeq (·.push Value.none)) a7 rfl;refine aee Fh rfl ?_;have P1:=abz (Obj.mapSeq (·.pop)) Fh rfl;have Bc:∀b bQ,b≠s.heap.objs.size->dG.get? b=some bQ->((dG.update s.heap.objs.size (Obj.mapSeq (·.push Value.none))).update s.heap.objs.size (Obj.mapSeq (·.pop))).get? b=some bQ :=
  λb bQ ae e=>(abr _ _ (ab1 ae)).trans ((abr _ _ (ab1 ae)).trans e)
 refine aa4 ⟨ad5 F.plain_extend_loop _,codeAny_extend_loopS (Zr (prog:=prog) (A:=A.in1) Qn dT O).toS aC _ pR _ aj.size 0 _ _ _ rfl (abw _) ⟨⟨_,Bc _ _ (ab1 Fe) Qp,rfl,by rw[st0];rfl⟩,Bc _ _ (ab1 Ff) QY⟩ P1 (ItemsOf.nil _) λs' xr c3 hm ku ij=>?_⟩;show wpAny _ A (load s.heap.objs.size>>=_) _ _ s';refine aa2 (wpAny_load ku ?_);refine aa4 (ek s' xr ⟨λb bQ e=>hm.heap b bQ (λae=>?_) (Bc b bQ (abm (abc e)) (va▸aa5 _ (eO▸aa5 _ e))),hm.gens,hm.drawn,hm.os⟩ ij);have vj:=abc e;rcases aa8.mp ae with h|h
 .rw[h]at vj;exact aco _ vj
 .rw[abg.mp h,zH]at vj;exact absurd vj (Nat.not_lt.mpr (Nat.le_succ _))
end
end Pv
end
section
namespace Tm
open PySem PyProof.Rows
section
variable{M:Model}{A:Around}{E:Value->Shared->Prop}{s:Shared}{left:Bool}{key:Keyed}{arr:Array Keyed}{b n h:Nat}{p:Nat->Bool}{st:SortSt}{Q:Option Nat->SortSt->Prop}
end
structure hr(M:Model)(A:Around)(E:Value->Shared->Prop)(s:Shared)(κ:SortKind)(S:Keyed->Prop)(lt:Keyed->Keyed->Bool):Prop where
 ask:∀(x y:Keyed)(st:SortSt)(Q:Option Bool->SortSt->Prop),S x->S y->kindOf st=κ->Q (some (lt x y)) st->wpS M A E s (lt' x y) Q st
 n0:∀x y,S x->S y->lt x y=true->lt y x=false
 fF:∀x y z,S x->S y->S z->lt y x=false->lt z y=false->lt z x=false
abbrev le(lt:Keyed->Keyed->Bool)(x y:Keyed):Prop:=lt y x=false
section
variable{M:Model}{A:Around}{E:Value->Shared->Prop}{s:Shared}{κ:SortKind}{S:Keyed->Prop}{lt:Keyed->Keyed->Bool}{a b:Array Keyed}{st bj:SortSt}
def D9(h:i<a.size)(q:Q a[i] st):wpS M A E s (elem' a i) Q st:=by
 rw[elem'_eq,abf h];exact acn q
def pk(lt:Keyed->Keyed->Bool)(a:Array Keyed)(i n:Nat):Prop:=∀x y (ak:x<a.size) (aP:y<a.size),i<=x->x<=y->y<i+n->le lt a[x] a[y]
end
structure ZP(lt:Keyed->Keyed->Bool)(a b r:List Keyed)(i j:Nat):Prop where
 perm:(r++(a.drop i++b.drop j)).Perm (a++b)
 cE:(r++a.drop i).Pairwise (le lt)
 ee:(r++b.drop j).Pairwise (le lt)
section
end
section
variable{M:Model}{A:Around}{E:Value->Shared->Prop}{s:Shared}{κ:SortKind}{S:Keyed->Prop}{lt:Keyed->Keyed->Bool}{a b r:Array Keyed}{st0 st:SortSt}{i j aX ca Dv N:Nat}
structure Pre(S:Keyed->Prop)(lt:Keyed->Keyed->Bool)(a b:Array Keyed):Prop where
 tI:∀x (ak:x<a.size),S a[x]
 dF:∀x (ak:x<b.size),S b[x]
 T4:pk lt a 0 a.size
 bQ:pk lt b 0 b.size
 last:∀y∈b.toList,∀x,a.toList[a.toList.length-1]?=some x->le lt y x
end
section
def lb{A:Around}{s:Shared}{st:SortSt}{α:Type}{c:Prop}[Decidable c]{t e:StateT SortSt Sem α}{Q:α->SortSt->Prop}(J:c->wpS M A E s t Q st)(aa:¬c->wpS M A E s e Q st):wpS M A E s (if c then t else e) Q st:=by
 by_cases h:c
 .rw[if_pos h];exact J h
 .rw[if_neg h];exact aa h
def XB(h:pk lt a 0 a.size):a.toList.Pairwise (le lt):=by
 rw[acJ];intro x y ak aP sC;rw[Array.length_toList]at ak aP;exact h x y ak aP (abw _) (ado sC) ⋯
end
structure ZO(lt:Keyed->Keyed->Bool)(a b t:List Keyed)(i j:Nat):Prop where
 perm:(a.take i++b.take j++t).Perm (a++b)
 dp:(a.take i++t).Pairwise (le lt)
 dq:(b.take j++t).Pairwise (le lt)
section
end
section
variable{M:Model}{A:Around}{E:Value->Shared->Prop}{s:Shared}{κ:SortKind}{S:Keyed->Prop}{lt:Keyed->Keyed->Bool}{a b r:Array Keyed}{st0 st:SortSt}{i j aX ca Dv N:Nat}
structure ZR(S:Keyed->Prop)(lt:Keyed->Keyed->Bool)(a b:Array Keyed):Prop where
 tI:∀x (ak:x<a.size),S a[x]
 dF:∀x (ak:x<b.size),S b[x]
 T4:pk lt a 0 a.size
 bQ:pk lt b 0 b.size
 first:∀x∈b.toList.take 1,∀y∈a.toList,le lt x y
end
section
variable{M:Model}{A:Around}{E:Value->Shared->Prop}{s:Shared}{κ:SortKind}{S:Keyed->Prop}{lt:Keyed->Keyed->Bool}{a b r:Array Keyed}{st0 st:SortSt}{i j aX ca Dv N:Nat}
end
section
def hr.f3(O:hr M A E s κ S lt)(h:S x):lt x x=false:=by
 cases e:lt x x with
 |false=>rfl
 |true=>exact(O.n0 x x h h e▸e).symm▸rfl
end
noncomputable abbrev at_(c:Array Keyed)(x:Nat):Keyed:=c.getD x (Value.none,Value.none)
def rn(h:x<c.size):at_ c x=c[x]:=by
 show c.getD x _=_;unfold Array.getD;rw[dif_pos h];rfl
def pv(h:c[x]?=d[y]?):at_ c x=at_ d y:=by
 show c.getD x _=d.getD y _;rw[ab4,ab4,h]
def jE(aI:j<=c.size)(k):at_ (mirror c i j ((j-i) / 2)) k=if i<=k/\k<j then at_ c (i+j-1-k) else at_ c k:=by
 have h:=getElem?_mirror (i:=i) aI ((j-i) / 2) ⋯ k
 by_cases cF:(i<=k/\k<i+(j-i) / 2)\/(j-(j-i) / 2<=k/\k<j)
 .rw[if_pos cF]at h;rw[if_pos ⋯];exact pv h
 .rw[if_neg cF]at h
  by_cases bU:i<=k/\k<j
  .rw[if_pos bU];have:i+j-1-k=k:=⋯;rw[this];exact pv h
  .rw[if_neg bU];exact pv h
def xD(ax:k<c.size)(hd:d<=k)(x):at_ (bubble c k d) x=if x=k-d then at_ c k else if k-d<x/\x<=k then at_ c (x-1) else at_ c x:=by
 have h:=getElem?_bubble ax d hd x
 by_cases cF:x=k-d
 .rw[if_pos cF]at h ⊢;exact pv h
 .rw[if_neg cF]at h ⊢
  by_cases bU:k-d<x/\x<=k
  .rw[if_pos bU]at h ⊢;exact pv h
  .rw[if_neg bU]at h ⊢;exact pv h
def fg(lt:Keyed->Keyed->Bool)(c:Array Keyed)(l n:Nat):Prop:=∀x y,l<=x->x<=y->y<l+n->le lt (at_ c x) (at_ c y)
def Dec(lt:Keyed->Keyed->Bool)(c:Array Keyed)(l n:Nat):Prop:=∀x y,l<=x->x<=y->y<l+n->le lt (at_ c y) (at_ c x)
structure ec(c d:Array Keyed)(l h:Nat):Prop where
 size:d.size=c.size
 perm:d.toList.Perm c.toList
 out:∀k,(k<l\/h<=k)->at_ d k=at_ c k
theorem ec.refl(c)(l h):ec c c l h:=⟨rfl,.refl _,λ_ _=>rfl⟩
theorem ec.trans(x:ec c d l h)(y:ec d e l h):ec c e l h:=⟨y.size.trans x.size,y.perm.trans x.perm,λk q=>(y.out k q).trans (x.out k q)⟩
def ec.mono(x:ec c d l h)(a:gk<=l)(b:h<=h'):ec c d gk h':=⟨x.size,x.perm,λk q=>x.out k ⋯⟩
def ec.rev(aI:j<=c.size):ec c (mirror c i j ((j-i) / 2)) i j :=
 ⟨mirror_size ..,Array.perm_iff_toList_perm.mp (mirror_perm ..),λk q=>by rw[jE aI,if_neg ⋯]⟩
def ec.LK(ax:k<c.size)(hd:d<=k):ec c (bubble c k d) (k-d) (k+1) :=
 ⟨bubble_size ..,Array.perm_iff_toList_perm.mp (bubble_perm ..),λx q=>by rw[xD ax hd,if_neg ⋯,if_neg ⋯]⟩
section
variable{M:Model}{A:Around}{E:Value->Shared->Prop}{s:Shared}{κ:SortKind}{S:Keyed->Prop}{lt:Keyed->Keyed->Bool}{st bj:SortSt}{c d:Array Keyed}{l h n:Nat}
abbrev fI(S:Keyed->Prop)(c:Array Keyed):Prop:=∀x∈c.toList,S x
theorem fI.at_(h:fI S c){x:Nat}(ak:x<c.size):S (at_ c x):=by rw[rn ak];exact h _ (by simp)
def fI.perm(h:fI S c)(p:d.toList.Perm c.toList):fI S d:=λx ak=>h x (p.mem_iff.mp ak)
def rm(O:hr M A E s κ S lt)(ax:kindOf st=κ)(a7:fI S (arrOf st))(ai:i<(arrOf st).size)(aI:j<(arrOf st).size)(q:Q (some (lt (at_ (arrOf st) i) (at_ (arrOf st) j))) st):wpS M A E s (ltAt' i j) Q st:=by
 rw[ltAt'_eq];refine abM (wpS_get ?_);show wpS _ _ _ _ (do let x <- elem' (arrOf st) i;let y <- elem' (arrOf st) j;lt' x y) Q st;refine abM (D9 ai (abM (D9 aI ?_)));rw[rn ai,rn aI]at q;exact O.ask _ _ _ _ (a7 _ (by simp)) (a7 _ (by simp)) ax q
def fg.snoc(O:hr M A E s κ S lt)(a7:fI S c)(aC:l+n<c.size)(h0:0<n)(h:fg lt c l n)(q:le lt (at_ c (l+n-1)) (at_ c (l+n))):fg lt c l (n+1):=by
 intro x y J aa aE
 by_cases e:y=l+n
 .subst e
  by_cases ar:x=l+n
  .subst ar;exact O.f3 (a7.at_ aC)
  .exact O.fF _ _ _ (a7.at_ ⋯) (a7.at_ ⋯) (a7.at_ aC) (h x (l+n-1) J ⋯ ⋯) q
 .exact h x y J aa ⋯
def Dec.snoc(O:hr M A E s κ S lt)(a7:fI S c)(aC:l+n<c.size)(h0:0<n)(h:Dec lt c l n)(q:le lt (at_ c (l+n)) (at_ c (l+n-1))):Dec lt c l (n+1):=by
 intro x y J aa aE
 by_cases e:y=l+n
 .subst e
  by_cases ar:x=l+n
  .subst ar;exact O.f3 (a7.at_ aC)
  .exact O.fF _ _ _ (a7.at_ aC) (a7.at_ ⋯) (a7.at_ ⋯) q (h x (l+n-1) J ⋯ ⋯)
 .exact h x y J aa ⋯
def fg.one(O:hr M A E s κ S lt)(a7:fI S c)(aC:l<c.size):fg lt c l 1:=λx y J aa aE=>by
 obtain rfl:x=l:=by lia
 obtain rfl:y=x:=by lia
 exact O.f3 (a7.at_ aC)
def Dec.rev(h:Dec lt c l n)(aC:l+n<=c.size):fg lt (mirror c l (l+n) ((l+n-l) / 2)) l n:=by
 intro x y J aa aE;rw[jE aC,jE aC,if_pos ⋯,if_pos ⋯];exact h _ _ ⋯ ⋯ ⋯
def fg.cW(h:fg lt c l n):pk lt c l n:=λx y ak aP J aa aE=>by
 have:=h x y J aa aE;rw[rn ak,rn aP]at this;exact this
end
noncomputable def iB(l z jk:Nat):StateT SortSt Sem (Option Nat):=do
 reverseSlice' l (l+jk)
 let mut n:=jk
 for _ in [n:z] do
  let some q <- ltAt' (l+n) (l+n-1)|return none
  if q then break
  n:=n+1
 return some n
noncomputable def mO(l z jk:Nat):StateT SortSt Sem (Option Nat):=do
 rule "list.sort.descending-run"
 let mut n:=jk+1
 let mut e:=0
 for _ in [n:z] do
  let some q <- ltAt' (l+n) (l+n-1)|return none
  if q then
   if e>0 then reverseSlice' (l+n-(e+1)) (l+n)
   e:=0
  else
   let some g <- ltAt' (l+n-1) (l+n)|return none
   if g then break
   e:=e+1
  n:=n+1
 if e>0 then reverseSlice' (l+n-(e+1)) (l+n)
 iB l z n
def MA(l z:Nat):countRun' l z=(do
 let mut n:=1
 for _ in [1:z] do
  let some q <- ltAt' (l+n) (l+n-1)|return none
  if q then break
  n:=n+1
 if n==z then return some n
 if n>1 then
  let some g <- ltAt' l (l+n-1)|return none
  if g then return some n
  reverseSlice' l (l+n)
 mO l z n):=by
 rw[countRun'_eq];unfold mO iB;rfl
def kb(st bj:SortSt):Prop:=kindOf bj=kindOf st/\pendingOf bj=pendingOf st/\failedOf bj=failedOf st
section
variable{M:Model}{A:Around}{E:Value->Shared->Prop}{s:Shared}{κ:SortKind}{S:Keyed->Prop}{lt:Keyed->Keyed->Bool}{st st0:SortSt}{l z n jk:Nat}
def ra(lt:Keyed->Keyed->Bool)(l z:Nat)(st0:SortSt)(o:Option Nat)(bj:SortSt):Prop:=∃m,o=some m/\1<=m/\m<=z/\kb st0 bj/\ec (arrOf st0) (arrOf bj) l (l+z)/\fg lt (arrOf bj) l m
def Dc(O:hr M A E s κ S lt)(ax:kindOf st=κ)(a7:fI S (arrOf st))(hz:l+z<=(arrOf st).size)(J:1<=jk)(aC:jk<=z)(h:fg lt (arrOf st) l jk){Q:Option (Option Nat)×Nat->SortSt->Prop}(aN:∀n,jk<=n->n<=z->fg lt (arrOf st) l n->(n=z\/lt (at_ (arrOf st) (l+n)) (at_ (arrOf st) (l+n-1))=true)->Q (none,n) st):wpS M A E s (forIn [jk:z] ((none:Option (Option Nat)),jk) λx __s=>do
   let __x <- ltAt' (l+__s.snd) (l+__s.snd-1)
   match __x with
    |some q=>if q=true then pure (ForInStep.done (none,__s.snd)) else pure (ForInStep.yield (none,__s.snd+1))
    |x=>pure (ForInStep.done (some none,__s.snd))) Q st:=by
 refine adJ (I:=λx (c:Option (Option Nat)×Nat) bj=>bj=st/\c.1=none/\c.2=x/\jk<=x/\x<=z/\fg lt (arrOf st) l x) ?step ?fin ⟨rfl,rfl,rfl,aa9 _,aC,h⟩
 case fin =>
  rintro⟨o,n⟩ bj ⟨rfl,rfl,rfl,k1,k2,k3⟩;rw[ad1 aC]at k3 ⊢;exact aN z aC (aa9 _) k3 (.inl rfl)
 case step =>
  rintro x ⟨o,n⟩ bj _ ak ⟨rfl,rfl,e,k1,k2,k3⟩;dsimp only at e ⊢;subst e;refine abM (rm O ax a7 ⋯ ⋯ ?_);cases e:lt (at_ (arrOf bj) (l+n)) (at_ (arrOf bj) (l+n-1)) with
  |true=>dsimp only;rw[if_pos rfl];exact acn (aN n k1 k2 k3 (.inr e))
  |false=>dsimp only;rw[if_neg (by simp)];exact acn ⟨rfl,rfl,rfl,⋯,⋯,k3.snoc O a7 ⋯ ⋯ e⟩
def JM(O:hr M A E s κ S lt)(oq:kindOf st0=κ)(hS0:fI S (arrOf st0))(af:kb st0 st)(aB:ec (arrOf st0) (arrOf st) l (l+z))(hz:l+z<=(arrOf st0).size)(J:1<=n)(aC:n<=z)(h:Dec lt (arrOf st) l n):wpS M A E s (iB l z n) (ra lt l z st0) st:=by
 unfold iB;rw[ad2];refine abM (ad3 ?_);have jO:l+z<=(arrOf st).size:=by rw[aB.size];exact hz
 generalize e1:setArr st (mirror (arrOf st) l (l+n) ((l+n-l) / 2))=d0;have a1:arrOf d0=mirror (arrOf st) l (l+n) ((l+n-l) / 2):=by rw[<- e1]
 have s1:kb st0 d0:=by rw[<- e1];exact af
 have p1:ec (arrOf st0) (arrOf d0) l (l+z):=by rw[a1];exact aB.trans ((ec.rev ⋯).mono (aa9 _) ⋯)
 have eW:fg lt (arrOf d0) l n:=by rw[a1];exact h.rev ⋯
 refine abM (Dc O (s1.1.trans oq) (hS0.perm p1.perm) (by rw[p1.size];exact hz) J aC eW λm k1 k2 k3 _=>?_);exact acn ⟨m,rfl,⋯,k2,s1,p1,k3⟩
def LF(O:hr M A E s κ S lt)(a7:fI S c)(aC:l+n<=c.size)(he:e+1<=n)(h:Dec lt c l n)(ae:∀x y,l+n-(e+1)<=x->x<l+n->l+n-(e+1)<=y->y<l+n->le lt (at_ c x) (at_ c y)):
  Dec lt (mirror c (l+n-(e+1)) (l+n) ((l+n-(l+n-(e+1))) / 2)) l n:=by
 intro x y J aa aE;rw[jE aC,jE aC]
 by_cases yL:l+n-(e+1)<=x
 .rw[if_pos ⋯,if_pos ⋯];exact ae _ _ ⋯ ⋯ ⋯ ⋯
 .rw[if_neg (show ¬(l+n-(e+1)<=x/\x<l+n) by lia)]
  by_cases uG:l+n-(e+1)<=y
  .rw[if_pos ⋯];exact h _ _ J ⋯ ⋯
  .rw[if_neg ⋯];exact h _ _ J aa aE
structure mj(lt:Keyed->Keyed->Bool)(S:Keyed->Prop)(l z:Nat)(st0 st:SortSt)(n e:Nat):Prop where
 ss:kb st0 st
 e9:ec (arrOf st0) (arrOf st) l (l+z)
 dec:Dec lt (arrOf st) l n
 len:e+1<=n
 vS:n<=z
 eq:∀x y,l+n-(e+1)<=x->x<l+n->l+n-(e+1)<=y->y<l+n->le lt (at_ (arrOf st) x) (at_ (arrOf st) y)
def mj.turn(O:hr M A E s κ S lt)(hS0:fI S (arrOf st0))(hz:l+z<=(arrOf st0).size)(h:mj lt S l z st0 st n e):mj lt S l z st0 (setArr st (mirror (arrOf st) (l+n-(e+1)) (l+n) ((l+n-(l+n-(e+1))) / 2))) n 0:=by
 have J:=h.len;have aa:=h.vS;have jO:l+n<=(arrOf st).size:=by rw[h.e9.size];lia
 refine⟨h.ss,h.e9.trans ((ec.rev jO).mono ⋯ ⋯),LF O (hS0.perm h.e9.perm) jO J h.dec h.eq,⋯,h.vS,λx y k1 k2 k3 b8=>?_⟩;have ex:x=l+n-1:=by lia
 have fU:y=l+n-1:=by lia
 subst ex fU;have e9:ec (arrOf st0) (mirror (arrOf st) (l+n-(e+1)) (l+n) ((l+n-(l+n-(e+1))) / 2)) l (l+z):=h.e9.trans ((ec.rev jO).mono ⋯ ⋯);exact O.f3 ((hS0.perm e9.perm).at_ (by rw[e9.size];lia))
def D5(O:hr M A E s κ S lt)(oq:kindOf st0=κ)(hS0:fI S (arrOf st0))(af:kb st0 st)(aB:ec (arrOf st0) (arrOf st) l (l+z))(hz:l+z<=(arrOf st0).size)(aC:n<z)(h:Dec lt (arrOf st) l (n+1)):wpS M A E s (mO l z n) (ra lt l z st0) st:=by
 unfold mO;refine abM (wpS_lift (aep ⟨rfl,?_⟩));have jH:mj lt S l z st0 st (n+1) 0:=by
  refine⟨af,aB,h,⋯,aC,λx y k1 k2 k3 b8=>?_⟩;have ex:x=l+n:=⋯;have fU:y=l+n:=⋯;subst ex fU;exact O.f3 ((hS0.perm aB.perm).at_ (by rw[aB.size];lia))
 refine abM (wpS_mono (adJ (I:=λx (c:Option (Option Nat)×Nat×Nat) bj=>c.1=none/\c.2.1=x/\mj lt S l z st0 bj x c.2.2) (Q:=λ(c:Option (Option Nat)×Nat×Nat) bj=>c.1=none/\mj lt S l z st0 bj c.2.1 c.2.2) ?step ?fin ⟨rfl,rfl,jH⟩) ?post)
 case fin =>
  rintro⟨o,cc,e⟩ bj ⟨rfl,rfl,D⟩;exact⟨rfl,D⟩
 case post =>
  rintro⟨o,cc,e⟩ bj ⟨rfl,D⟩;dsimp only at D ⊢;refine lb (λ_=>?_) λ_=>?_
  .rw[ad2];have jy:=D.turn O hS0 hz;exact abM (ad3 (JM O oq hS0 jy.ss jy.e9 hz (by have:=jy.len;lia) jy.vS jy.dec))
  .exact JM O oq hS0 D.ss D.e9 hz (by have:=D.len;lia) D.vS D.dec
 case step =>
  rintro x ⟨o,cc,e⟩ d0 vs ak ⟨rfl,e1,D⟩;dsimp only at e1 D ⊢;subst e1;have J:=D.len;have jO:l+z<=(arrOf d0).size:=(by rw[D.e9.size];exact hz);have eH:=hS0.perm D.e9.perm;have ja:=D.ss.1.trans oq;refine abM (rm O ja eH ⋯ ⋯ ?_);cases ar:lt (at_ (arrOf d0) (l+cc)) (at_ (arrOf d0) (l+cc-1)) with
  |true =>
   dsimp only;rw[if_pos rfl];have next:∀hl,mj lt S l z st0 hl cc 0->le lt (at_ (arrOf hl) (l+cc)) (at_ (arrOf hl) (l+cc-1))->mj lt S l z st0 hl (cc+1) 0:=λhl jy q=>by
    have FR:l+z<=(arrOf hl).size:=(by rw[jy.e9.size];exact hz);have Fd:=hS0.perm jy.e9.perm;refine⟨jy.ss,jy.e9,jy.dec.snoc O Fd ⋯ ⋯ q,⋯,⋯,λx y k1 k2 k3 b8=>?_⟩;have ex:x=l+cc:=⋯;have fU:y=l+cc:=⋯;subst ex fU;exact O.f3 (Fd.at_ ⋯)
   have qx:=O.n0 _ _ (eH.at_ ⋯) (eH.at_ ⋯) ar;refine lb (λc=>?_) λc=>?_
   .rw[ad2];refine abM (ad3 (acn ⟨rfl,rfl,next _ (D.turn O hS0 hz) ?_⟩));show le lt (at_ (mirror (arrOf d0) (l+cc-(e+1)) (l+cc) ((l+cc-(l+cc-(e+1))) / 2)) (l+cc)) (at_ (mirror (arrOf d0) (l+cc-(e+1)) (l+cc) ((l+cc-(l+cc-(e+1))) / 2)) (l+cc-1));rw[jE ⋯,jE ⋯,if_neg ⋯,if_pos ⋯];exact O.fF _ _ _ (eH.at_ ⋯) (eH.at_ ⋯) (eH.at_ ⋯) qx (D.eq _ _ ⋯ ⋯ ⋯ ⋯)
   .have e0:e=0:=⋯;subst e0;exact acn ⟨rfl,rfl,next d0 D qx⟩
  |false =>
   dsimp only;rw[if_neg (by simp)];refine abM (rm O ja eH ⋯ ⋯ ?_);cases bf:lt (at_ (arrOf d0) (l+cc-1)) (at_ (arrOf d0) (l+cc)) with
   |true=>dsimp only;rw[if_pos rfl];exact acn ⟨rfl,D⟩
   |false =>
    dsimp only;rw[if_neg (by simp)];refine acn ⟨rfl,rfl,D.ss,D.e9,D.dec.snoc O eH ⋯ ⋯ bf,by show e+1+1<=cc+1;lia,⋯,λx y k1 k2 k3 b8=>?_⟩;have k1:l+(cc+1)-(e+1+1)<=x:=k1;have k3:l+(cc+1)-(e+1+1)<=y:=k3;have tt:∀u,l+cc-(e+1)<=u->u<l+cc->le lt (at_ (arrOf d0) u) (at_ (arrOf d0) (l+cc))/\le lt (at_ (arrOf d0) (l+cc)) (at_ (arrOf d0) u):=λu gu iW =>
     ⟨O.fF _ _ _ (eH.at_ ⋯) (eH.at_ ⋯) (eH.at_ ⋯) (D.eq u (l+cc-1) gu iW ⋯ ⋯) ar,O.fF _ _ _ (eH.at_ ⋯) (eH.at_ ⋯) (eH.at_ ⋯) bf (D.eq (l+cc-1) u ⋯ ⋯ gu iW)⟩
    by_cases yL:x=l+cc
    .by_cases uG:y=l+cc
     .subst yL uG;exact O.f3 (eH.at_ ⋯)
     .subst yL;exact(tt y ⋯ ⋯).2
    .by_cases uG:y=l+cc
     .subst uG;exact(tt x ⋯ ⋯).1
     .exact D.eq x y ⋯ ⋯ ⋯ ⋯
def MB(O:hr M A E s κ S lt)(ax:kindOf st=κ)(a7:fI S (arrOf st))(hz:l+z<=(arrOf st).size)(J:1<=z):wpS M A E s (countRun' l z) (ra lt l z st) st:=by
 rw[MA];refine abM (Dc O ax a7 hz (aa9 1) J (fg.one O a7 ⋯) λn k1 k2 k3 b8=>?_);dsimp only;refine lb (λc=>?_) λc=>?_
 .exact acn ⟨n,rfl,k1,k2,⟨rfl,rfl,rfl⟩,.refl ..,k3⟩
 .have c:¬n=z:=(by simpa using c);have q:=O.n0 _ _ (a7.at_ ⋯) (a7.at_ ⋯) (b8.resolve_left c);refine lb (λbU=>?_) λbU=>?_
  .refine abM (rm O ax a7 ⋯ ⋯ ?_);cases e:lt (at_ (arrOf st) l) (at_ (arrOf st) (l+n-1)) with
   |true=>dsimp only;rw[if_pos rfl];exact acn ⟨n,rfl,k1,k2,⟨rfl,rfl,rfl⟩,.refl ..,k3⟩
   |false =>
    dsimp only;rw[if_neg (by simp),ad2];refine abM (ad3 ?_);have jO:l+n<=(arrOf st).size:=⋯;have e9:ec (arrOf st) (mirror (arrOf st) l (l+n) ((l+n-l) / 2)) l (l+z):=(ec.rev jO).mono (aa9 _) ⋯;have CW:∀x y,l<=x->x<l+n->l<=y->y<l+n->le lt (at_ (arrOf st) x) (at_ (arrOf st) y):=λx y gu iW tS Y7 =>
     O.fF _ _ _ (a7.at_ ⋯) (a7.at_ ⋯) (a7.at_ ⋯) (k3 x (l+n-1) gu ⋯ ⋯)
      (O.fF _ _ _ (a7.at_ ⋯) (a7.at_ ⋯) (a7.at_ ⋯) e (k3 l y (aa9 _) tS Y7))
    refine D5 (st0:=st) O ax a7 ⟨rfl,rfl,rfl⟩ e9 hz ⋯ ?_;show Dec lt (mirror (arrOf st) l (l+n) ((l+n-l) / 2)) l (n+1);have jH:Dec lt (mirror (arrOf st) l (l+n) ((l+n-l) / 2)) l n:=λx y gu iW tS=>by
     rw[jE jO,jE jO,if_pos ⋯,if_pos ⋯];exact CW _ _ ⋯ ⋯ ⋯ ⋯
    refine jH.snoc O (a7.perm e9.perm) (by rw[e9.size];lia) ⋯ ?_;rw[jE jO,jE jO,if_neg ⋯,if_pos ⋯];exact O.fF _ _ _ (a7.at_ ⋯) (a7.at_ ⋯) (a7.at_ ⋯) q (CW _ _ ⋯ ⋯ ⋯ ⋯)
  .have gH:n=1:=⋯;subst gH;refine D5 (st0:=st) O ax a7 ⟨rfl,rfl,rfl⟩ (.refl ..) hz ⋯ ?_;have jH:Dec lt (arrOf st) l 1:=λx y gu iW tS=>by
    obtain rfl:x=l:=⋯;obtain rfl:y=x:=⋯;exact O.f3 (a7.at_ ⋯)
   exact jH.snoc O a7 ⋯ ⋯ q
end
section
def LL(O:hr M A E s κ S lt)(a7:fI S c)(ax:l+k<c.size)(aB:p<=k)(h:fg lt c l k)(J:∀x,x<p->le lt (at_ c (l+x)) (at_ c (l+k)))(aa:∀x,p<=x->x<k->le lt (at_ c (l+k)) (at_ c (l+x))):fg lt (bubble c (l+k) (k-p)) l (k+1):=by
 intro x y gu iW tS;have e:l+k-(k-p)=l+p:=by lia
 rw[xD ax ⋯,xD ax ⋯,e];have g1:∀u,l<=u->u<l+p->le lt (at_ c u) (at_ c (l+k)):=λu a b=>by have:=J (u-l) ⋯;rwa[show l+(u-l)=u by lia]at this
 have g2:∀u,l+p<=u->u<l+k->le lt (at_ c (l+k)) (at_ c u):=λu a b=>by have:=aa (u-l) ⋯ ⋯;rwa[show l+(u-l)=u by lia]at this
 by_cases a:x=l+p
 .rw[if_pos a]
  by_cases b:y=l+p
  .rw[if_pos b];exact O.f3 (a7.at_ ax)
  .rw[if_neg b,if_pos ⋯];exact g2 _ ⋯ ⋯
 .rw[if_neg a]
  by_cases a2:l+p<x
  .rw[if_pos ⋯,if_neg ⋯,if_pos ⋯];exact h _ _ ⋯ ⋯ ⋯
  .rw[if_neg ⋯]
   by_cases b:y=l+p
   .rw[if_pos b];exact g1 _ gu ⋯
   .rw[if_neg b]
    by_cases b2:l+p<y
    .rw[if_pos ⋯];exact h _ _ gu ⋯ ⋯
    .rw[if_neg ⋯];exact h _ _ gu iW ⋯
def LJ{A:Around}{s:Shared}{S:Keyed->Prop}{st:SortSt}(O:hr M A E s κ S lt)(oq:kindOf st=κ)(hS0:fI S (arrOf st))(hz:l+n<=(arrOf st).size)(J:1<=ok)(aC:ok<=n)(h:fg lt (arrOf st) l ok)(aN:∀bj,kb st bj->ec (arrOf st) (arrOf bj) l (l+n)->fg lt (arrOf bj) l n->Q true bj):wpS M A E s (binarySort' l n ok) Q st:=by
 rw[binarySort'_eq];rw[Nat.max_eq_left J];refine abM (wpS_mono (adJ (I:=λk (c:Option Bool×Unit) bj=>c=(none,())/\k<=n/\kb st bj/\ec (arrOf st) (arrOf bj) l (l+n)/\fg lt (arrOf bj) l k)
  (Q:=λ(c:Option Bool×Unit) bj=>c=(none,())/\kb st bj/\ec (arrOf st) (arrOf bj) l (l+n)/\fg lt (arrOf bj) l n) ?step ?fin ⟨rfl,aC,⟨rfl,rfl,rfl⟩,.refl ..,h⟩) ?post)
 case fin =>
  rintro c bj ⟨rfl,k1,k2,k3,b8⟩;rw[ad1 aC]at b8;exact⟨rfl,k2,k3,b8⟩
 case post =>
  rintro c bj ⟨rfl,k2,k3,b8⟩;exact acn (aN bj k2 k3 b8)
 case step =>
  rintro k c d0 ja z5 ⟨rfl,aO,a9,bW,dn⟩;have aat:l+n<=(arrOf d0).size:=(by rw[bW.size];exact hz);have eH:=hS0.perm bW.perm;have dK:=a9.1.trans oq;refine abM (wpS_mono (adJ (I:=λx (c:Option Bool×Nat×Nat) bj=>bj=d0/\c.1=none/\c.2.1<=c.2.2/\c.2.2<=k/\(∀x,x<c.2.1->le lt (at_ (arrOf d0) (l+x)) (at_ (arrOf d0) (l+k)))/\(∀x,c.2.2<=x->x<k->le lt (at_ (arrOf d0) (l+k)) (at_ (arrOf d0) (l+x)))/\c.2.2-c.2.1+x<=k)
   (Q:=λ(c:Option Bool×Nat×Nat) bj=>bj=d0/\c.1=none/\c.2.1<=k/\(∀x,x<c.2.1->le lt (at_ (arrOf d0) (l+x)) (at_ (arrOf d0) (l+k)))/\∀x,c.2.1<=x->x<k->le lt (at_ (arrOf d0) (l+k)) (at_ (arrOf d0) (l+x))) ?step2 ?fin2
   ⟨rfl,rfl,abw _,aa9 _,λx ak=>absurd ak (Nat.not_lt_zero _),λx gu iW=>absurd iW (by dsimp only at gu;lia),by show k-0+0<=k;lia⟩) ?post2)
  case fin2 =>
   rintro⟨o,a,b⟩ bj ⟨rfl,rfl,aH,aT,de,h6,iw⟩;dsimp only at aH aT de h6 iw;rw[ad1 (abw _)]at iw;have e:a=b:=⋯;subst e;exact⟨rfl,rfl,aT,de,h6⟩
  case step2 =>
   rintro x ⟨o,a,b⟩ bj _ ak ⟨rfl,rfl,aH,aT,de,h6,iw⟩;dsimp only at aH aT de h6 iw ⊢;refine lb (λc=>?_) λc=>?_
   .have e:a=b:=⋯;subst e;exact acn ⟨rfl,rfl,aT,de,h6⟩
   .have hm:(a+b) / 2<b:=⋯;have QK:a<=(a+b) / 2:=⋯;refine abM (rm O dK eH ⋯ ⋯ ?_);cases e:lt (at_ (arrOf bj) (l+k)) (at_ (arrOf bj) (l+(a+b) / 2)) with
    |true =>
     dsimp only;rw[if_pos rfl];refine acn ⟨rfl,rfl,QK,by dsimp only;lia,de,λy gu iW=>?_,by dsimp only;lia⟩;exact O.fF _ _ _ (eH.at_ ⋯) (eH.at_ ⋯) (eH.at_ ⋯) (O.n0 _ _ (eH.at_ ⋯) (eH.at_ ⋯) e) (dn _ _ ⋯ (by dsimp only at gu;lia) ⋯)
    |false =>
     dsimp only;rw[if_neg (by simp)];refine acn ⟨rfl,rfl,by dsimp only;lia,aT,λy gu=>?_,h6,by dsimp only;lia⟩;exact O.fF _ _ _ (eH.at_ (by dsimp only at gu;lia)) (eH.at_ ⋯) (eH.at_ ⋯) (dn _ _ ⋯ (by dsimp only at gu;lia) ⋯) e
  case post2 =>
   rintro⟨o,p,b⟩ bj ⟨rfl,rfl,aT,de,h6⟩;dsimp only at aT de h6 ⊢;rw[moveDown'_eq];refine abM (ad3 (acn ⟨rfl,⋯,a9,?_,?_⟩))
   .show ec (arrOf st) (bubble (arrOf bj) (l+k) (l+k-(l+p))) l (l+n);exact bW.trans ((ec.LK ⋯ ⋯).mono ⋯ ⋯)
   .show fg lt (bubble (arrOf bj) (l+k) (l+k-(l+p))) l (k+1);rw[show l+k-(l+p)=k-p by lia];exact LL O eH ⋯ aT dn de h6
end
section
def V9{A:Around}{s:Shared}{S:Keyed->Prop}{st:SortSt}(O:hr M A E s κ S lt)(ax:kindOf st=κ)(hf:failedOf st=none)(aB:pendingOf st=#[])(a7:fI S (arrOf st))(aa:2<=(arrOf st).size)(zA:(arrOf st).size<64)(aN:∀bj,failedOf bj=none->(arrOf bj).toList.Perm (arrOf st).toList->(arrOf bj).toList.Pairwise (le lt)->Q () bj):wpS M A E s sortRuns' Q st:=by
 rw[sortRuns'_eq];refine abM (wpS_get ?_);dsimp only;generalize QP:minRun' (arrOf st).size (arrOf st).size 0=GQ;have QQ:GQ=(arrOf st).size:=by
  rw[<- QP];obtain⟨f,Qi⟩:∃f,(arrOf st).size=f+1:=⟨(arrOf st).size-1,⋯⟩;rw[Qi,minRun'_succ,if_pos ⋯]
 generalize aL:(arrOf st).size=N at aa zA QQ ⊢;refine abM (wpS_mono (adJ (I:=λx (c:Option Unit×Nat) bj=>c.1=none/\failedOf bj=none/\ec (arrOf st) (arrOf bj) 0 N/\((x=0/\c.2=0/\kindOf bj=κ/\pendingOf bj=#[])\/(c.2=N/\(pendingOf bj).size<=1/\fg lt (arrOf bj) 0 N)))
  (Q:=λ(c:Option Unit×Nat) bj=>c.1=none/\failedOf bj=none/\ec (arrOf st) (arrOf bj) 0 N/\(pendingOf bj).size<=1/\fg lt (arrOf bj) 0 N) ?step ?fin ⟨rfl,hf,.refl ..,.inl ⟨rfl,rfl,ax,aB⟩⟩) ?post)
 case fin =>
  rintro c bj ⟨aO,a9,bW,dn⟩;rw[ad1 (abw _)]at dn;rcases dn with⟨z,_⟩|⟨_,hJ,kT⟩
  .omega
  .exact⟨aO,a9,bW,hJ,kT⟩
 case step =>
  rintro x ⟨o,lo⟩ d0 _ ak ⟨rfl,k2,k3,b8⟩;rcases b8 with⟨rfl,rfl,dK,dU⟩|⟨b8,k5,dU⟩
  .have eH:=a7.perm k3.perm;have hsz:(arrOf d0).size=N:=k3.size.trans aL;refine lb (λc=>absurd c ⋯) λc=>?_
   refine abM (wpS_mono (MB (l:=0) (z:=N-0) O dK eH (by rw[hsz];lia) ⋯) ?_);rintro o hl ⟨m,rfl,oE,qk,s2,p2,gR⟩;have tail:∀hK,kb d0 hK->ec (arrOf d0) (arrOf hK) 0 (0+(N-0))->fg lt (arrOf hK) 0 N->∀l8,kindOf l8=kindOf hK->failedOf l8=failedOf hK->arrOf l8=arrOf hK->pendingOf l8=#[(0,N,0)]->failedOf l8=none/\ec (arrOf st) (arrOf l8) 0 N/\(pendingOf l8).size<=1/\fg lt (arrOf l8) 0 N:=λhK s3 p3 kE l8 e1 ar bf eG=>by
    rw[ar,bf,eG];exact⟨s3.2.2.trans k2,k3.trans (p3.mono (aa9 _) ⋯),aa9 _,kE⟩
   refine lb (λbU=>?b1) λbU=>?b2
   case b1 =>
    refine abM (wpS_lift (aep ⟨rfl,?_⟩));refine abM (LJ O (s2.1.trans dK) (eH.perm p2.perm) (by rw[p2.size,hsz];lia) oE ⋯ gR λhK s3 p3 kE=>?_);refine lb (λh=>nomatch h) λ_=>?_
    refine abM (wpS_get ?_);have BE:kb d0 hK:=⟨s3.1.trans s2.1,s3.2.1.trans s2.2.1,s3.2.2.trans s2.2.2⟩;have QO:min (N-0) GQ=N:=⋯;rw[QO]at kE p3 ⊢;rw[BE.2.1.trans dU];have t:=tail hK BE (p2.trans (p3.mono (aa9 _) ⋯)) kE (setPending hK ((pendingOf hK).push (0,N,0))) rfl rfl rfl (by show(pendingOf hK).push _=_;rw[BE.2.1.trans dU];rfl);exact abM (ad3 (acn ⟨rfl,t.1,t.2.1,.inr ⟨acC N,t.2.2⟩⟩))
   case b2 =>
    refine abM (wpS_get ?_);have hm:m=N:=⋯;subst hm;rw[s2.2.1.trans dU];have t:=tail hl s2 p2 gR (setPending hl ((pendingOf hl).push (0,m,0))) rfl rfl rfl (by show(pendingOf hl).push _=_;rw[s2.2.1.trans dU];rfl);exact abM (ad3 (acn ⟨rfl,t.1,t.2.1,.inr ⟨acC m,t.2.2⟩⟩))
  .refine lb (λc=>acn ⟨rfl,k2,k3,k5,dU⟩) λc=>absurd (aeO b8.symm) c
 case post =>
  rintro⟨o,lo⟩ d0 ⟨rfl,k2,k3,k5,dU⟩;refine abM (wpS_mono (adJ (I:=λx (c:Option Unit×Unit) bj=>c=(none,())/\bj=d0) (Q:=λ(c:Option Unit×Unit) bj=>c=(none,())/\bj=d0) ?step2 ?fin2 ⟨rfl,rfl⟩) ?post2)
  case fin2=>exact λc bj h=>h
  case step2 =>
   rintro y c bj _ aP ⟨rfl,rfl⟩;refine abM (wpS_get ?_);exact lb (λ_=>acn ⟨rfl,rfl⟩) λh=>absurd k5 h
  case post2 =>
   rintro c bj ⟨rfl,rfl⟩;refine acn (aN bj k2 k3.perm (XB ?_));rw[show(arrOf bj).size=N from k3.size.trans aL];exact dU.cW
end
end Tm
end
section
namespace Tm
open PySem PySem.W PyProof.Rows PySem.Calls
def UT{α β:Type}(f){gk m:List β}(h:gk.Perm m):∀l:List α,m=l.map f->∃p:List α,p.Perm l/\gk=p.map f:=by
 induction h with
 |nil=>intro l e;cases l with
  |nil=>exact⟨[],.refl _,rfl⟩
  |cons=>cases e
 |cons x _ aG =>
  intro l e;cases l with
  |nil=>cases e
  |cons y l =>
   rw[List.map_cons]at e;injection e with e1 ar;obtain⟨p,J,aa⟩:=aG l ar;exact⟨y::p,J.cons y,by rw[List.map_cons,e1,aa]⟩
 |swap x y m =>
  intro l e
  match l,e with
  |u::v::l,e =>
   rw[List.map_cons,List.map_cons]at e;injection e with e1 ar;injection ar with ar bf;exact⟨v::u::l,.swap u v l,by rw[List.map_cons,List.map_cons,e1,ar,bf]⟩
 |trans _ _ Ar As =>
  intro l e;obtain⟨p,J,aa⟩:=As l e;obtain⟨q,aE,aR⟩:=Ar p aa;exact⟨q,aE.trans J,aR⟩
structure Ord(lt:Nat->Nat->Bool):Prop where
 f3:∀x,lt x x=false
 fF:∀x y z,lt y x=false->lt z y=false->lt z x=false
 n0:∀x y,lt x y=true->lt y x=false
section
noncomputable abbrev pr(ah:List Value)(i:Nat):Keyed:=(ah.getD i Value.none,ah.getD i Value.none)
def ZH(ah):(ah.toArray.zip ah.toArray).toList=(List.range ah.length).map (pr ah):=by
 apply acy;intro i;rw[abj]
 by_cases h:i<ah.length
 .rw[acW h];simp[List.getElem?_zip_eq_some,List.getD,aba h]
 .rw[abu (by simpa using h),abu (by simpa using h)];rfl
def SW(O:Ord lt)(aK:∀i j,i<ah.length->j<ah.length->ah.getD i Value.none=ah.getD j Value.none->∀k,lt i k=lt j k/\lt k i=lt k j)(ay:s.heap.get? a=some (seqObj "list" ah.toArray n))(PR:ah.length<64)(ax:2<=ah.length->∀(h':Heap),(∀b o,b≠a->s.heap.get? b=some o->h'.get? b=some o)->∀Q:SortKind->Shared->Prop,Q κ { s with heap:=h' }->wpAny (model prog w) A (keyKind' ah.toArray) Q E { s with heap:=h' })(ag:2<=ah.length->∀(h':Heap),(∀b o,b≠a->s.heap.get? b=some o->h'.get? b=some o)->∀(i j:Nat)(C:Bool->Shared->Prop),i<ah.length->j<ah.length->C (lt i j) { s with heap:=h' }->kas_ask prog w A κ ah i j C { s with heap:=h' })(h:∀p:List Nat,p.Perm (List.range ah.length)->p.Pairwise (λi j=>lt j i=false)->∀(h':Heap)(c:Nat),(∀b o,b≠a->s.heap.get? b=some o->h'.get? b=some o)->h'.get? a=some (seqObj "list" (p.map λi=>ah.getD i Value.none).toArray c)->P (.done (.ret .none)) { s with heap:=h' }):
  wpAny (model prog w) A (Builtin.«list.sort» ⟨[.ref a],[]⟩) P E s:=by
 rw[list_sort_plain];have aw:a<s.heap.objs.size:=abc ay;refine aa2 (listItems_at ay rfl ?_);refine aa2 (listUpdate_at ay rfl ?_ (by rw[abb,sizeLine_eq];lia) (abw _));obtain⟨e1,ou⟩:∃e1,(s.heap.update a (Obj.mapSeq λ_=>(#[]:Array Value))).get? a=some (seqObj "list" #[] e1):=⟨_,get?_update_seq ay λ_=>#[]⟩;refine aa2 (seqEpoch_at ou rfl ?_);refine aa2 (wpAny_newTuple ?_ (by show ah.length<=_;rw[sizeLine_eq];lia));refine aa2 (wpAny_newList ?_ (abw _));refine acf ?_;have pX:(((s.heap.update a (Obj.mapSeq λ_=>(#[]:Array Value))).push (seqObj "tuple" ah.toArray 0)).push (seqObj "list" #[] 0)).get? a=some (seqObj "list" #[] e1):=aa5 _ (aa5 _ ou);have keep:∀b o,b≠a->s.heap.get? b=some o->(((s.heap.update a (Obj.mapSeq λ_=>(#[]:Array Value))).push (seqObj "tuple" ah.toArray 0)).push (seqObj "list" #[] 0)).get? b=some o:=λb o ae q =>
  aa5 _ (aa5 _ ((abr _ _ (ab1 ae)).trans q))
 show wpAny (model prog w) A _ P E { s with heap:=((s.heap.update a (Obj.mapSeq λ_=>(#[]:Array Value))).push (seqObj "tuple" ah.toArray 0)).push (seqObj "list" #[] 0) };generalize ((s.heap.update a (Obj.mapSeq λ_=>(#[]:Array Value))).push (seqObj "tuple" ah.toArray 0)).push (seqObj "list" #[] 0)=J at pX keep;dsimp only;have fin:∀p:List Nat,p.Perm (List.range ah.length)->p.Pairwise (λi j=>lt j i=false)->P (.done (.ret .none)) { s with heap:=J.update a (Obj.mapSeq λ_=>(p.map λi=>ah.getD i Value.none).toArray) }:=λp aB af=>by
  obtain⟨bU,iM⟩:∃bU,(J.update a (Obj.mapSeq λ_=>(p.map λi=>ah.getD i Value.none).toArray)).get? a=some (seqObj "list" (p.map λi=>ah.getD i Value.none).toArray bU):=⟨_,get?_update_seq pX λ_=>(p.map λi=>ah.getD i Value.none).toArray⟩;exact h p aB af _ bU (λb o ae q=>(abr _ _ (ab1 ae)).trans (keep b o ae q)) iM
 have hz:=ZH ah
 by_cases aa:ah.toArray.size<2
 .rw[if_pos aa,if_pos aa];refine aa2 (aa4 ?_);rw[StateT.run_pure];refine aa2 (aa4 ?_);dsimp only;refine aa2 (seqEpoch_at pX rfl ?_);have bf:(arrOf (SortSt.mk' general' (ah.toArray.zip ah.toArray) #[] 7 none)).map (·.2)=((List.range ah.length).map λi=>ah.getD i Value.none).toArray:=by
   show(ah.toArray.zip ah.toArray).map (·.2)=_;apply Array.toList_inj.mp;rw[Array.toList_map,hz,List.map_map];rfl
  rw[bf];refine aa2 (listUpdate_at pX rfl ?_ (abw _) (by rw[abb,List.length_map,List.length_range,sizeLine_eq];lia));simp only[acS,aa6,abp];refine aa4 (fin _ (.refl _) ?_);have hT:ah.length<2:=by simpa using aa
  match ah,hT with
  |[],_=>exact List.Pairwise.nil
  |[_],_=>exact acx _ _
 .rw[if_neg aa,if_neg aa];have hT:2<=ah.length:=(by simp at aa;exact aa);refine aa2 (ax hT J keep _ ?_);have cY:∀x:Keyed,∃i,(∃i,i<ah.length/\x=pr ah i)->i<ah.length/\x=pr ah i:=λx=>by
   by_cases c:∃i,i<ah.length/\x=pr ah i
   .obtain⟨i,ai⟩:=c;exact⟨i,λ_=>ai⟩
   .exact⟨0,λq=>absurd q c⟩
  obtain⟨idx,vi⟩:∃idx:Keyed->Nat,∀x,(∃i,i<ah.length/\x=pr ah i)->idx x<ah.length/\x=pr ah (idx x):=⟨λx=>(cY x).choose,λx=>(cY x).choose_spec⟩;have Or:hr (model prog w) A E { s with heap:=J } κ (λx=>∃i,i<ah.length/\x=pr ah i) (λx y=>lt (idx x) (idx y)):=by
   refine⟨λx y st Q ak aP z6 q=>?_,λx y _ _ q=>O.n0 _ _ q,λx y z _ _ _ aO a9=>O.fF _ _ _ aO a9⟩;obtain⟨eW,ex⟩:=vi x ak;obtain⟨Ax,fU⟩:=vi y aP;rw[lt'_eq];refine abM (wpS_get ?_);refine abM (wpS_lift (ad6 ?_));have:=ag hT J keep (idx x) (idx y) (λb s'=>s'={ s with heap:=J }/\b=lt (idx x) (idx y)) eW Ax ⟨rfl,rfl⟩;unfold kas_ask at this;have e1:ah.getD (idx x) Value.none=x.1:=(ab6 Prod.fst ex).symm;have ar:ah.getD (idx y) Value.none=y.1:=(ab6 Prod.fst fU).symm;rw[e1,ar]at this;rw[z6];refine abR this (λb s' ⟨af,ae⟩=>⟨af,?_⟩) λ_ _ z=>z.elim
   subst ae;exact acn q
  have run:=V9 (st:=SortSt.mk' κ (ah.toArray.zip ah.toArray) #[] 7 none) (Q:=λ_ bj=>failedOf bj=none/\∃p:List Nat,p.Perm (List.range ah.length)/\p.Pairwise (λi j=>lt j i=false)/\(arrOf bj).toList=p.map (pr ah)) Or rfl rfl rfl
   (λx ak=>by
    have ak:x∈(ah.toArray.zip ah.toArray).toList:=ak;rw[hz]at ak;obtain⟨i,ai,rfl⟩:=List.mem_map.mp ak;exact⟨i,List.mem_range.mp ai,rfl⟩) (by show 2<=(ah.toArray.zip ah.toArray).size;rw[<- Array.length_toList,hz];simpa using hT) (by show(ah.toArray.zip ah.toArray).size<64;rw[<- Array.length_toList,hz];simpa using PR) λbj aH aT de=>by
     have aT:(arrOf bj).toList.Perm (ah.toArray.zip ah.toArray).toList:=aT;rw[hz]at aT;obtain⟨p,p1,p2⟩:=UT (pr ah) aT _ rfl;refine⟨aH,p,p1,?_,p2⟩;rw[p2,abL]at de;refine abA (λ{i j} ai aI q=>?_) de;have ai:=List.mem_range.mp (p1.mem_iff.mp ai);have aI:=List.mem_range.mp (p1.mem_iff.mp aI);obtain⟨eW,iI⟩:=vi (pr ah i) ⟨i,ai,rfl⟩;obtain⟨Ax,lE⟩:=vi (pr ah j) ⟨j,aI,rfl⟩;have q:lt (idx (pr ah j)) (idx (pr ah i))=false:=q;rw[(aK j (idx (pr ah j)) aI Ax (ab6 Prod.fst lE) i).1,(aK i (idx (pr ah i)) ai eW (ab6 Prod.fst iI) _).2];exact q
  refine aa2 (abR run ?_ λ_ _ e=>e);rintro⟨⟨⟩,bj⟩ s' ⟨rfl,hf,p,p1,p2,p3⟩;have Q3:(arrOf bj).map (·.2)=(p.map λi=>ah.getD i Value.none).toArray:=by
   apply Array.toList_inj.mp;rw[Array.toList_map,p3,List.map_map];rfl
  rw[Q3];refine aa2 (seqEpoch_at pX rfl ?_);refine aa2 (listUpdate_at pX rfl ?_ (abw _) (by rw[abb,List.length_map,p1.length_eq,List.length_range,sizeLine_eq];lia));rw[hf];simp only[acS,aa6,abp];exact aa4 (fin p p1 p2)
end
end Tm
end
section
namespace fh
open PySem PySem.W PyProof.Rows PySem.Calls
section
def ltI{κ:Type}(lt:κ->κ->Bool)(z:κ)(au:List κ)(i j:Nat):Bool:=lt (au.getD i z) (au.getD j z)
def Bb{κ:Type}{lt:κ->κ->Bool}(L:bg.g6 lt)(z)(au):Tm.Ord (ltI lt z au) where
 f3:=λx=>L.f3 _
 fF:=λx y z J aa=>bg.Gw L J aa
 n0:=λx y h=>bg.Gx L h
def PG{κ:Type}(z:κ)(au):(List.range au.length).map (λi=>au.getD i z)=au:=by
 apply acy;intro i;rw[abj]
 by_cases h:i<au.length
 .rw[acW h];simp[List.getD,h]
 .rw[abu (by simpa using h),abu (by simpa using h)];rfl
def Xw{κ:Type}{lt:κ->κ->Bool}(L:bg.g6 lt)(z)(au){p:List Nat}(J:p.Perm (List.range au.length))(aa:p.Pairwise (λi j=>ltI lt z au j i=false)):(p.map λi=>au.getD i z)=bg.cW lt au:=by
 refine bg.Kd L ?_ (bg.Kc L au) ?_
 .unfold bg.pn;rw[abL];exact aa
 .refine((J.map λi=>au.getD i z).trans ?_).trans (bg.tl au).symm;rw[PG]
def A9{κ:Type}{lt:κ->κ->Bool}{z:κ}{au:List κ}{ah:List Value}(h:∀i j,i<ah.length->j<ah.length->ah.getD i Value.none=ah.getD j Value.none->au.getD i z=au.getD j z):
  ∀i j,i<ah.length->j<ah.length->ah.getD i Value.none=ah.getD j Value.none->∀k,ltI lt z au i k=ltI lt z au j k/\ltI lt z au k i=ltI lt z au k j:=λi j ai aI e k=>by
 unfold ltI;rw[h i j ai aI e];exact⟨rfl,rfl⟩
theorem ints_get:∀{ah:List Value}{ns:List Int}(h:IntsAre ah ns)(i:Nat),i<ah.length->∃t,ah.getD i Value.none=.int (ns.getD i 0) t
 |_,_,.nil,i,h=>by simp at h
 |_,_,.cons n t _,0,_=>⟨t,rfl⟩
 |_,_,.cons n t r,i+1,h=>by
  obtain⟨u,e⟩:=ints_get r i (by simpa using h);exact⟨u,by simpa[List.getD] using e⟩
theorem Av:∀{ah:List Value}{ns:List Int}(h:IntsAre ah ns),ns.length=ah.length
 |_,_,.nil=>rfl
 |_,_,.cons n t r=>by simp[Av r]
def Se(h:IntsAre ah ns):∀i j,i<ah.length->j<ah.length->ah.getD i Value.none=ah.getD j Value.none->ns.getD i 0=ns.getD j 0:=λi j ai aI e=>by
 obtain⟨t,e1⟩:=ints_get h i ai;obtain⟨u,ar⟩:=ints_get h j aI;rw[e1,ar]at e;injection e
def Lk(b3:IntsAre ah ns)(i j)(C)(ai:i<ah.length)(aI:j<ah.length)(h:C (ltI bg.ltI 0 ns i j) s):kas_ask prog w A oneType' ah i j C s:=by
 obtain⟨t,e1⟩:=ints_get b3 i ai;obtain⟨u,ar⟩:=ints_get b3 j aI;unfold kas_ask;rw[e1,ar];exact kat_lt_int h
def Sl(b3:IntsAre ah ns)(aa:2<=ah.length)(h:Q oneType' s):wpAny (model prog w) A (keyKind' ah.toArray) Q E s:=by
 obtain⟨wY,wZ,rest,rfl⟩:∃wY wZ rest,ah=wY::wZ::rest:=by
  match ah,aa with
  |wY::wZ::rest,_=>exact⟨wY,wZ,rest,rfl⟩
 rw[keyKind_ints b3];exact aa4 h
noncomputable def gc(h:Heap):List Value->List (List Int)->Prop
 |[],[]=>True
 |v::ah,k::au=>(∃a o xs n,v=.ref a/\h.get? a=some o/\o.cls=.type "tuple"/\o.data=.seq xs n/\IntsAre xs.toList k/\k≠[])/\gc h ah au
 |_,_=>False
theorem gc.kept(k:∀b o,h.get? b=some o->h'.get? b=some o):∀{ah:List Value}{au:List (List Int)},gc h ah au->gc h' ah au
 |[],[],_=>trivial
 |v::ah,x::au,⟨⟨a,o,xs,n,e,ay,r⟩,t⟩=>⟨⟨a,o,xs,n,e,k a o ay,r⟩,t.kept k⟩
theorem gc.len:∀{ah:List Value}{au:List (List Int)},gc h ah au->au.length=ah.length
 |[],[],_=>rfl
 |v::ah,x::au,⟨_,t⟩=>by simp[t.len]
theorem gc.get:∀{ah:List Value}{au:List (List Int)},gc h ah au->∀i,i<ah.length->∃a o xs n,ah.getD i Value.none=.ref a/\h.get? a=some o/\o.cls=.type "tuple"/\o.data=.seq xs n/\IntsAre xs.toList (au.getD i [])/\au.getD i []≠[]
 |[],[],_,i,ai=>by simp at ai
 |v::ah,x::au,⟨q,t⟩,0,_=>q
 |v::ah,x::au,⟨q,t⟩,i+1,ai=>by
  have:=t.get i (by simpa using ai);simpa[List.getD] using this
def F2(h:IntsAre us xs):∀{ys:List Int},IntsAre us ys->xs=ys:=by
 induction h with
 |nil=>intro ys q;cases q;rfl
 |cons n t _ aG =>
  intro ys q;cases q with
  |cons _ _ q=>rw[aG q]
def Sj(H:gc h ah au):∀i j,i<ah.length->j<ah.length->ah.getD i Value.none=ah.getD j Value.none->au.getD i []=au.getD j []:=λi j ai aI e=>by
 obtain⟨a,o,xs,n,e1,aO,_,a9,bW,_⟩:=H.get i ai;obtain⟨pq,bL,t4,cc,ar,qy,_,oQ,Bo,_⟩:=H.get j aI;rw[e1,ar]at e;injection e with e;subst e;rw[aO]at qy;cases qy;rw[a9]at oQ;cases oQ;exact F2 bW Bo
theorem gc.sP : ∀ {ah : List Value} {au : List (List Int)}, gc h ah au -> ∃ bB : List Value, KatTups h ah bB /\ bB.length = ah.length /\ ∀ v ∈ bB, ∃ i t, v = Value.int i t
  | [], [], _ => ⟨[], KatTups.nil, rfl, by simp⟩
  | v :: ah, x :: au, ⟨⟨a, o, xs, n, e, ay, ag, hd, b3, dT⟩, t⟩ => by
    subst e
    obtain ⟨bB, J, aa, aE⟩ := t.sP
    obtain ⟨i, u, hf⟩ : ∃ i u, xs[0]? = some (Value.int i u) := by
      cases q : xs.toList with
      | nil => rw [q] at b3; cases b3; exact absurd rfl dT
      | cons y ys =>
        rw [q] at b3
        cases b3 with
        | cons n t r => exact ⟨n, t, by have : xs.toList[0]? = some (Value.int n t) := by rw [q]; rfl
                                        simpa using this⟩
    refine ⟨Value.int i u :: bB, KatTups.cons ay ag hd hf J, by simp [aa], fun z hz => ?_⟩
    rcases aa8.mp hz with rfl | hz
    · exact ⟨i, u, rfl⟩
    · exact aE z hz
noncomputable def oC(fin:Bool):List Int->List Int->Bool
 |x::xs,y::ys=>if x=y then oC fin xs ys else decide (x<y)
 |_,_=>fin
theorem Gr:∀(xs ys:List Int),oC (decide (xs.length<ys.length)) xs ys=bg.lexLt xs ys
 |[],[]=>rfl
 |[],_::_=>rfl
 |_::_,[]=>rfl
 |x::xs,y::ys=>by
  have e:decide ((x::xs).length<(y::ys).length)=decide (xs.length<ys.length):=(by simp);rw[e];simp only[oC,bg.lexLt,Gr xs ys]
theorem Gb:∀{us ah:List Value}{xs ys:List Int}(i:Nat),IntsAre us xs->IntsAre ah ys->Q (oC fin xs ys) s->KatLex prog w A true fin Q (us.zip ah) i s
 |_,_,_,_,i,.nil,_,h=>by simpa[oC] using kat_nil (prog:=prog) (w:=w) (A:=A) (b:=true) (i:=i) h
 |_,_,_,_,i,.cons x t r,.nil,h=>by simpa[oC] using kat_nil (prog:=prog) (w:=w) (A:=A) (b:=true) (i:=i) h
 |_,_,_,_,i,.cons x t r,.cons y u q,h=>by
  refine kat_cons (wpAny_eqBool_int ?_);simp only[oC]at h
  by_cases e:x=y
  .subst e;rw[if_pos rfl]at h;rw[show(x==x)=true by simp];exact kat_yes (Gb (i+1) r q h)
  .rw[if_neg e]at h;rw[show(x==y)=false by simpa using e];refine kat_no ?_;cases ae:(true&&i==0) with
   |true=>exact oneLt_int h
   |false=>exact kat_one _ _ (lt_int (show W.BoolBack Q (Value.bool (decide (x<y))) s from h))
def Ll(cG:gc s.heap ah au)(i j)(C)(ai:i<ah.length)(aI:j<ah.length)(h:C (ltI bg.lexLt [] au i j) s):kas_ask prog w A (tuples' true) ah i j C s:=by
 obtain⟨a,o,xs,n,e1,ay,ag,hd,b3,_⟩:=cG.get i ai;obtain⟨b,bL,ys,cc,ar,d8,cI,fZ,kr,_⟩:=cG.get j aI;unfold kas_ask;rw[e1,ar];refine kat_lt ay hd d8 fZ (Gb 0 b3 kr ?_);have l1:(au.getD i []).length=xs.size:=by rw[Av b3,Array.length_toList]
 have fC:(au.getD j []).length=ys.size:=by rw[Av kr,Array.length_toList]
 rw[<- l1,<- fC,Gr];exact h
def Sm(cG:gc s.heap ah au)(aa:2<=ah.length)(h:Q (tuples' true) s):wpAny (model prog w) A (keyKind' ah.toArray) Q E s:=by
 obtain⟨bB,k1,k2,k3⟩:=cG.sP;refine kat_kind (T:=Value.type "int") k1 ⋯ (λv aK=>?_) ∅ (by rw[show(Value.type "int" != Value.type "tuple")=true by decide];exact h);obtain⟨i,t,rfl⟩:=k3 v aK;exact Looks.of_pure rfl
end
end fh
end
section
namespace bg
noncomputable def fM:List (List Int)->List (List Int)->Bool
 |[],[]=>false
 |[],_::_=>true
 |_::_,[]=>false
 |x::xs,y::ys=>if x=y then fM xs ys else lexLt x y
theorem Gn:∀a,fM a a=false
 |[]=>rfl
 |x::a=>by simp[fM,Gn a]
theorem Gm:∀a b,a≠b->fM a b=true\/fM b a=true
 |[],[],h=>absurd rfl h
 |[],_::_,_=>.inl rfl
 |_::_,[],_=>.inr rfl
 |x::a,y::b,h=>by
  simp only[fM]
  by_cases e:x=y
  .subst e;simp only[abU];exact Gm a b λz=>h (by rw[z])
  .rw[if_neg e,if_neg (ab1 e)];exact AK x y e
theorem Gp:∀{a b c},fM a b=true->fM b c=true->fM a c=true
 |[],[],_,h,_=>by simp[fM]at h
 |[],_::_,[],_,h=>by simp[fM]at h
 |[],_::_,_::_,_,_=>rfl
 |_::_,[],_,h,_=>by simp[fM]at h
 |_::_,_::_,[],_,h=>by simp[fM]at h
 |x::a,y::b,z::c,J,aa=>by
  simp only[fM]at *
  by_cases e:x=y
  .subst e;rw[if_pos rfl]at J
   by_cases ar:x=z
   .subst ar;rw[if_pos rfl]at aa ⊢;exact Gp J aa
   .rw[if_neg ar]at aa ⊢;exact aa
  .rw[if_neg e]at J
   by_cases ar:y=z
   .subst ar;rw[if_neg e];exact J
   .rw[if_neg ar]at aa;have t:=AM J aa
    by_cases bf:x=z
    .subst bf;rw[AL]at t;cases t
    .rw[if_neg bf];exact t
def Gv:g6 fM:=⟨Gn,Gp,Gm⟩
noncomputable def ru(c:List (List Int)):Den.D:=.tup (c.map av)
theorem GC:∀a b:List (List Int),Den.kN (a.map av) (b.map av)=some (fM a b)
 |[],[]=>rfl
 |[],_::_=>rfl
 |_::_,[]=>rfl
 |x::a,y::b=>by
  rw[show Den.kN ((x::a).map av) ((y::b).map av)=if Den.gf (av x) (av y)=true then Den.kN (a.map av) (b.map av) else Den.kM (av x) (av y) from rfl,GC a b,sV,pJ];simp only[fM]
  by_cases h:x=y<;>simp[h]
def S3(a b):Den.kM (ru a) (ru b)=some (fM a b):=GC a b
end bg
namespace fh
open PySem PySem.W PyProof.Rows PySem.Calls
noncomputable def iG(h:Heap):List Value->List (List (List Int))->Prop
 |[],[]=>True
 |v::ah,k::au=>(∃a o xs n,v=.ref a/\h.get? a=some o/\o.cls=.type "tuple"/\o.data=.seq xs n/\gc h xs.toList k/\k≠[])/\iG h ah au
 |_,_=>False
theorem iG.kept(k:∀b o,h.get? b=some o->h'.get? b=some o):∀{ah:List Value}{au:List (List (List Int))},iG h ah au->iG h' ah au
 |[],[],_=>trivial
 |v::ah,x::au,⟨⟨a,o,xs,n,e,ay,ag,hd,b3,dT⟩,t⟩=>⟨⟨a,o,xs,n,e,k _ _ ay,ag,hd,b3.kept k,dT⟩,t.kept k⟩
 |[],_::_,h=>h.elim
 |_::_,[],h=>h.elim
theorem iG.get:∀{ah:List Value}{au:List (List (List Int))},iG h ah au->∀i,i<ah.length->∃a o xs n,ah.getD i Value.none=.ref a/\h.get? a=some o/\o.cls=.type "tuple"/\o.data=.seq xs n/\gc h xs.toList (au.getD i [])/\au.getD i []≠[]
 |[],[],_,i,ai=>by simp at ai
 |v::ah,x::au,⟨t,r⟩,0,_=>by simpa[List.getD] using t
 |v::ah,x::au,⟨t,r⟩,i+1,ai=>by simpa[List.getD] using iG.get r i (by simpa using ai)
 |[],_::_,h,_,_=>h.elim
 |_::_,[],h,_,_=>h.elim
theorem JR:∀{ah:List Value}{xs ys:List (List Int)},gc h ah xs->gc h ah ys->xs=ys
 |[],[],[],_,_=>rfl
 |v::ah,x::xs,y::ys,⟨⟨a,o,us,n,e,ay,ag,hd,b3,_⟩,t⟩,⟨⟨pq,bL,aaW,cc,bq,d8,cI,fZ,kr,_⟩,t'⟩=>by
  subst e;cases bq;rw[ay]at d8;cases d8;rw[hd]at fZ;cases fZ;rw[F2 b3 kr,JR t t']
 |[],_::_,_,h,_=>h.elim
 |[],[],_::_,_,h=>h.elim
 |_::_,[],_,h,_=>h.elim
 |_::_,_::_,[],_,h=>h.elim
def Sk(H:iG h ah au):∀i j,i<ah.length->j<ah.length->ah.getD i Value.none=ah.getD j Value.none->au.getD i []=au.getD j []:=λi j ai aI e=>by
 obtain⟨a,o,xs,n,aO,qx,_,a9,bW,_⟩:=H.get i ai;obtain⟨pq,bL,t4,cc,qy,HL,_,oQ,Bo,_⟩:=H.get j aI;rw[aO,qy]at e;cases e;rw[qx]at HL;cases HL;rw[a9]at oQ;cases oQ;exact JR bW Bo
theorem iG.sP : ∀ {ah : List Value} {au : List (List (List Int))}, iG h ah au -> ∃ bB : List Value, KatTups h ah bB /\ bB.length = ah.length /\ ∀ v ∈ bB, ∃ a o, v = Value.ref a /\ h.get? a = some o /\ o.cls = .type "tuple"
  | [], [], _ => ⟨[], KatTups.nil, rfl, by simp⟩
  | v :: ah, x :: au, ⟨⟨a, o, xs, n, e, ay, ag, hd, b3, dT⟩, t⟩ => by
    subst e
    obtain ⟨bB, J, aa, aE⟩ := t.sP
    obtain ⟨b, bL, hf, ae, Qa⟩ : ∃ b bL, xs[0]? = some (Value.ref b) /\ h.get? b = some bL /\ bL.cls = .type "tuple" := by
      cases q : xs.toList with
      | nil =>
        rw [q] at b3
        cases x with
        | nil => exact absurd rfl dT
        | cons _ _ => exact b3.elim
      | cons y ys =>
        rw [q] at b3
        cases x with
        | nil => exact b3.elim
        | cons k x =>
          obtain ⟨⟨b, bL, us, cc, e1, ar, bf, _⟩, _⟩ := b3
          exact ⟨b, bL, by have : xs.toList[0]? = some (Value.ref b) := by rw [q, e1]; rfl
                           simpa using this, ar, bf⟩
    refine ⟨Value.ref b :: bB, KatTups.cons ay ag hd hf J, by simp [aa], fun z hz => ?_⟩
    rcases aa8.mp hz with rfl | hz
    · exact ⟨b, bL, rfl, ae, Qa⟩
    · exact aE z hz
  | [], _ :: _, h => h.elim
  | _ :: _, [], h => h.elim
section
noncomputable def oD(fin:Bool):List (List Int)->List (List Int)->Bool
 |x::xs,y::ys=>if x=y then oD fin xs ys else bg.lexLt x y
 |_,_=>fin
theorem Gq:∀(xs ys:List (List Int)),oD (decide (xs.length<ys.length)) xs ys=bg.fM xs ys
 |[],[]=>rfl
 |[],_::_=>rfl
 |_::_,[]=>rfl
 |x::xs,y::ys=>by
  have e:decide ((x::xs).length<(y::ys).length)=decide (xs.length<ys.length):=(by simp);rw[e];simp only[oD,bg.fM,Gq xs ys]
theorem Gs:∀a b:List Int,da.lexLt a b=bg.lexLt a b
 |[],[]=>rfl
 |[],_::_=>rfl
 |_::_,[]=>rfl
 |x::a,y::b=>by simp only[da.lexLt,bg.lexLt,Gs a b]
noncomputable def tr(k:List Int):PyData:=.tuple (k.map .int)
theorem Bt:∀{us:List Value}{k:List Int},IntsAre us k->ReadsAll h us (k.map .int) []
 |_,_,.nil=>.nil
 |_,_,.cons n t r=>.cons (as:=[]) (.int n t) (Bt r)
theorem Ee:∀a b:List Int,PyData.eqvAll (a.map .int) (b.map .int)=decide (a=b)
 |[],[]=>rfl
 |[],_::_=>rfl
 |_::_,[]=>rfl
 |x::a,y::b=>by
  rw[List.map_cons,List.map_cons,PyData.eqvAll,Ee a b,PyData.eqv]
  by_cases h:x=y<;>simp[h]
theorem vG:∀a:List Int,PyData.canLayAll0 (a.map .int)=true/\PyData.depthAll (a.map .int)=0
 |[]=>⟨rfl,rfl⟩
 |x::a=>by
  obtain⟨J,aa⟩:=vG a;exact⟨by rw[List.map_cons,PyData.canLayAll0,J];rfl,by rw[List.map_cons];show max (PyData.depth (.int x)) (PyData.depthAll (a.map .int))=0;rw[aa];rfl⟩
theorem Gd(bh:A.units+2<cLine):∀{us ah:List Value}{xs ys:List (List Int)}(i:Nat),gc s.heap us xs->gc s.heap ah ys->Q (oD fin xs ys) s->KatLex prog w A false fin Q (us.zip ah) i s
 |[],_,[],_,i,_,_,h=>by simpa[oD] using kat_nil (prog:=prog) (w:=w) (A:=A) (b:=false) (i:=i) h
 |_::_,[],_::_,[],i,_,_,h=>by simpa[oD] using kat_nil (prog:=prog) (w:=w) (A:=A) (b:=false) (i:=i) h
 |u::us,v::ah,x::xs,y::ys,i,⟨⟨a,o,as,n,e,ay,ag,hd,b3,_⟩,t⟩,⟨⟨b,bL,bs,cc,bq,d8,cI,fZ,kr,_⟩,t'⟩,h=>by
  subst e bq;have aH:Reads s.heap (.ref a) (tr x) []:=.tuple ay ag hd (Bt b3);have aT:Reads s.heap (.ref b) (tr y) []:=.tuple d8 cI fZ (Bt kr);have dep:∀k:List Int,(tr k).depth=1:=λk=>by show PyData.depthAll (k.map .int)+1=1;rw[(vG k).2]
  have eq:=SeqAt.eqAt_reads _ _ A s _ _ _ _ aH aT (show PyData.canLayAll0 (x.map .int)=true from(vG x).1) (show PyData.canLayAll0 (y.map .int)=true from(vG y).1) (by rw[dep,dep];show A.units+1<cLine;lia);rw[show PyData.eqv (tr x) (tr y)=decide (x=y) from Ee x y]at eq;refine kat_cons (eq prog w _ _ ?_);simp only[oD]at h
  by_cases e:x=y
  .rw[if_pos e]at h;rw[decide_eq_true e];exact kat_yes (Gd bh (i+1) t t' h)
  .rw[if_neg e]at h;rw[decide_eq_false e];refine kat_no (kat_one _ _ ?_);have p1:s.heap.IsTuple a as:=⟨o,ay,ag,n,hd⟩;have p2:s.heap.IsTuple b bs:=⟨bL,d8,cI,cc,fZ⟩;exact da.GD p1 p2 b3 kr ⋯ (by rw[Gs];exact h)
 |[],_,_::_,_,_,h,_,_=>h.elim
 |_::_,_,[],_,_,h,_,_=>h.elim
 |_::_,[],_::_,_::_,_,_,h,_=>h.elim
 |_::_,_::_,_::_,[],_,_,h,_=>h.elim
def Lm(bh:A.units+2<cLine)(cG:iG s.heap ah au)(i j)(C)(ai:i<ah.length)(aI:j<ah.length)(h:C (ltI bg.fM [] au i j) s):kas_ask prog w A (tuples' false) ah i j C s:=by
 obtain⟨a,o,xs,n,e1,ay,ag,hd,b3,_⟩:=cG.get i ai;obtain⟨b,bL,ys,cc,ar,d8,cI,fZ,kr,_⟩:=cG.get j aI;unfold kas_ask;rw[e1,ar];refine kat_lt ay hd d8 fZ (Gd bh 0 b3 kr ?_);have l1:(au.getD i []).length=xs.size:=by rw[b3.len,Array.length_toList]
 have fC:(au.getD j []).length=ys.size:=by rw[kr.len,Array.length_toList]
 rw[<- l1,<- fC,Gq];exact h
def Sn(cG:iG s.heap ah au)(aa:2<=ah.length)(h:Q (tuples' false) s):wpAny (model prog w) A (keyKind' ah.toArray) Q E s:=by
 obtain⟨bB,k1,k2,k3⟩:=cG.sP;refine kat_kind (T:=Value.type "tuple") k1 ⋯ (λv aK=>?_) ∅ (by rw[show(Value.type "tuple" != Value.type "tuple")=false by decide];exact h);obtain⟨a,o,rfl,ay,ag⟩:=k3 v aK;rw[<- ag];exact(Looks.ld ay).andThen .now
end
end fh
end
section
namespace ef
open Den bg
variable{pg:eV}{Φ:fe}
noncomputable def aaw:D->Bool
 |.int _=>true
 |_=>false
section
variable{α:Type}{lt:α->α->Bool}
def wi{n d k:Nat}(h:k<=n):bN n d (some (k:Int))=k:=by
 have J:¬((k:Int)<0):=by lia
 have aa:¬((n:Int)<(k:Int)):=by lia
 simp only[bN,if_neg J,if_neg aa];lia
def Iq{n d k:Nat}(h:n<k):bN n d (some (k:Int))=n:=by
 have J:¬((k:Int)<0):=by lia
 have aa:((n:Int)<(k:Int)):=by lia
 simp only[bN,if_neg J,if_pos aa]
def DU{β:Type}(xs:List β)(k:Nat):cut xs (some (k:Int)) none=xs.drop k:=by
 unfold cut
 by_cases h:k<=xs.length
 .rw[wi h];show List.take (xs.length-k) (xs.drop k)=_;rw[acE (by simp)]
 .rw[Iq ⋯,List.drop_of_length_le (aa9 _),List.drop_of_length_le ⋯];simp
def MD{β:Type}(xs:List β)(k:Nat):cut xs none (some (k:Int))=xs.take k:=by
 unfold cut
 by_cases h:k<=xs.length
 .rw[wi h];simp[bN]
 .rw[Iq ⋯];simp only[bN,List.drop_zero,Nat.sub_zero];rw[acE (aa9 _),acE ⋯]
end
def IsCell(m:Int)(c:List Int):Prop:=c≠[]/\(∀x∈c,0<=x/\x<m)/\cz ltI c
noncomputable instance (m:Int) (c:List Int):Decidable (IsCell m c):=by unfold IsCell cz;infer_instance
def PF{α:Type}(x:α)(xs):iL (x::xs) (-1)=(x::xs).getLast?:=by
 have e:hF (x::xs).length (-1)=some xs.length:=by
  unfold hF;have J:¬((0:Int)<=-1):=∅;have aa:(0:Int)<=-1+((x::xs).length:Nat):=(by simp only[List.length_cons];lia);rw[if_neg J,if_pos aa];simp only[List.length_cons];congr 1;lia
 unfold iL;rw[e];simp[List.getLast?_eq_getElem?]
def zw{α:Type}(xs:List α)(k:Nat):iL xs (k:Int)=xs[k]?:=by
 unfold iL hF;rw[if_pos ⋯]
 by_cases h:k<xs.length
 .rw[if_pos ⋯];simp
 .rw[if_neg ⋯];simp;lia
def PE{α:Type}(x:α)(xs):iL (x::xs) 0=some x:=by have:=zw (x::xs) 0;simpa using this
def getLast?_map{α β:Type}(f:α->β)(xs:List α):(xs.map f).getLast?=xs.getLast?.map f:=by simp
noncomputable def lies(c o:List Int):Bool:=c.all λx=>decide (x∈o)
def qf:lies c o=true<->∀x∈c,x∈o:=by simp[lies]
def Mq{c:List Int}(h:∀x∈c,g (.int x)=.ok (some (p x))):cV g (c.map .int)=.ok (c.map p):=by
 rw[DQ (g:=λd=>match d with|.int x=>some (p x)|_=>none)]
 .congr 1
  induction c with
  |nil=>rfl
  |cons x c aG=>simp[aG λy aP=>h y (List.mem_cons_of_mem _ aP)]
 .intro d hd;obtain⟨x,ak,rfl⟩:=List.mem_map.mp hd;exact h x ak
def Pp{α β:Type}(f:α->β)(xs:List α):xs.filterMap (λx=>some (f x))=xs.map f:=by
 induction xs with
 |nil=>rfl
 |cons x xs aG=>simp
def Po{α β:Type}(q:α->Bool)(f:α->β)(xs:List α):xs.filterMap (λx=>if q x then some (f x) else none)=(xs.filter q).map f:=by
 induction xs with
 |nil=>rfl
 |cons x xs aG=>cases h:q x<;>simp[h,aG]
noncomputable def cA(m:Int):List Int:=(List.range m.toNat).map λ(k:Nat)=>(k:Int)
def tx(m):eY 0 m=(cA m).map .int:=by
 unfold eY cA;rw[List.map_map];have:(m-0).toNat=m.toNat:=by lia
 rw[this];apply abB;intro k _;simp
def oI:x∈cA m<->0<=x/\x<m:=by
 unfold cA;rw[List.mem_map];constructor
 .rintro⟨k,ax,rfl⟩;have:=List.mem_range.mp ax;lia
 .rintro⟨J,aa⟩;exact⟨x.toNat,List.mem_range.mpr ⋯,⋯⟩
noncomputable def gQ(m:Int)(ts:List (List Int)):Bool:=(cA m).all λk=>ts.any (lies [k])
def rA:gQ m ts=true<->∀x,0<=x->x<m->∃t∈ts,x∈t:=by
 unfold gQ;simp only[aby,aeJ,qf,oI,abg,forall_eq];exact⟨λh x a b=>h x ⟨a,b⟩,λh x ab=>h x ab.1 ab.2⟩
def H7(h:-1000<=m)(h':m<=1000):oU m=true:=by unfold oU;simp;lia
def ny(J:-1000<=i)(aa:i<=1000)(aE:-1000<=j)(aR:j<=1000):kW i j=.ok (eY i j):=by
 have bX:(j-i).toNat<=1000000:=by lia
 unfold kW;rw[H7 J aa,H7 aE aR,decide_eq_true bX];rfl
def ED{α:Type}{p:α->Bool}{c:α}(pre)(h:p c=true):(pre++[c]).filter p=pre.filter p++[c]:=by rw[List.filter_append];simp[h]
def EC{α:Type}{p:α->Bool}{c:α}(pre)(h:p c=false):(pre++[c]).filter p=pre.filter p:=by rw[List.filter_append];simp[h]
noncomputable def bT(cs:List (List Int)):List (List Int):=(cW lexLt (cX cs)).filter λc=>!((cW lexLt (cX cs)).filter λo=>decide (c.length<o.length)).any (lies c)
def gP:SZ=16777216:=rfl
noncomputable def bo(m:Int)(ts:List (List Int)):D:=.tup [.int m,.tup (ts.map av)]
def zh(d:D):Prop:=∀m ts,d=bo m ts->(∀c∈ts,IsCell m c)->(cX ts).length<=63
end ef
end
section
namespace c2
open Den bg ef
variable{pg:eV}{Φ:fe}
mutual
theorem Xg:∀(n:Nat)(d:D),c5 n d=true->c5 (n+1) d=true
 |n,.dV,_=>rfl
 |n,.aV _,_=>rfl
 |n,.int _,_=>rfl
 |0,.str _,h=>h
 |n+1,.str _,h=>h
 |0,.tup _,h=>by cases h
 |n+1,.tup xs,h=>BQ n xs h
 |0,.lst _,h=>by cases h
 |n+1,.lst xs,h=>BQ n xs h
 |0,.b4 _,h=>by cases h
 |0,.bK _,h=>by cases h
 |0,.dR _,h=>by cases h
 |n+1,.dR _,h=>by cases h
 |n+1,.b4 _,h=>by cases h
 |n+1,.bK _,h=>by cases h
 |0,.hA _,h=>by cases h
 |n+1,.hA _,h=>by cases h
theorem BQ:∀(n:Nat)(xs:List D),xs.all (c5 n)=true->xs.all (c5 (n+1))=true
 |_,[],_=>rfl
 |n,x::xs,h=>by
  simp only[List.all_cons,aa3]at h ⊢;exact⟨Xg n x h.1,BQ n xs h.2⟩
end
def RI{c:List Int}{k:Nat}(h:c[k]?=some x):gD (.tup (c.map .int)) (.int (k:Int))=.ok (.int x):=by
 rw[FX,zw,abj,h];rfl
end c2
end
section
namespace c2
open Den bg ef
def DP{α:Type}{p:α->Option D}{f:α->D}{au:List α}(h:∀k∈au,g (f k)=.ok (p k)):cV g (au.map f)=.ok (au.filterMap p):=by
 induction au with
 |nil=>rfl
 |cons c cs aG =>
  simp only[List.map_cons,cV,h c List.mem_cons_self,R.jn,aG λy aP=>h y (List.mem_cons_of_mem _ aP),List.filterMap_cons];cases p c<;>rfl
def i5{α:Type}{q:α->Bool}{h:α->D}{f:α->D}{au:List α}(e:∀k∈au,g (f k)=.ok (if q k then some (h k) else none)):cV g (au.map f)=.ok ((au.filter q).map h):=by
 rw[DP e,Po]
def hO{α:Type}{h:α->D}{f:α->D}{au:List α}(e:∀k∈au,g (f k)=.ok (some (h k))):cV g (au.map f)=.ok (au.map h):=by
 rw[DP (p:=λk=>some (h k)) e,Pp]
def nA(c):en (av c)=.ok (c.map .int):=rfl
def EI{α:Type}(q)(xs:List α):(xs.filter q).isEmpty=xs.all λx=>!q x:=by
 induction xs with
 |nil=>rfl
 |cons x xs aG=>cases h:q x<;>simp[h,aG]
def AV{α β:Type}(f:α->β)(xs:List α):(xs.map f).isEmpty=xs.isEmpty:=by cases xs<;>rfl
def Sx(c o):cL pg Φ ⟨2,0,aW.xX⟩ [av c,av o]=.ok (.aV (lies c o)):=by
 have e1:cV (elem pg Φ [some (av c),some (av o)] (.var 2) 0 (.some (.cmp .h5 (.var 2) (.var 1)))) (c.map .int)=.ok ((c.filter λx=>!decide (x∈o)).map .int):=i5 λx _=>by
  simp!;unfold av;simp![sY];cases decide (x∈o)<;>simp!
 simp![aW.xX,nA,e1,y0 (ys:=(c.filter λx=>!decide (x∈o)).map .int) (by simp[List.all_map,tL]),AV,EI,lies,Bool.not_not]
noncomputable def m7(cs:List (List Int)):List (List Int):=(cW lexLt (cX cs)).filter λc=>cs.all λo=>!(!decide (c=o)&&lies c o)
def SA(hf:∀c o:List Int,Φ f [av c,av o]=.ok (.aV (lies c o))){cs:List (List Int)}(hd:en d=.ok (cs.map av))(aC:∀c∈cs,c≠[])(gz:(cX cs).length<=63):
  cL pg Φ ⟨1,2,aW.x3 f⟩ [d]=.ok (.tup ((m7 cs).map av)):=by
 simp![aW.x3,hd,wB aC gz];have hlen:(cW lexLt (cX cs)).length<=63:=by rw[m5];exact gz
 unfold m7;generalize cW lexLt (cX cs)=ds at *;obtain⟨bP,e,x,he⟩:=hB (f:=av) (g:=turn pg Φ 0 [2] (.cons (.iff (.cmp .eq (.comp (.var 3) 0 (.seq (.var 0)) (.some (.and (.cmp .ne (.var 2) (.var 3)) (.call f (.cons (.var 2) (.cons (.var 3) (.nil))))))) (.lst (.nil))) (.cons (.app 1 (.var 2)) (.nil)) (.nil)) (.nil)))
  (λaY ρ=>∃(x:Option D),ρ=[some d,some (.lst ((aY.filter λc=>cs.all λo=>!(!decide (c=o)&&lies c o)).map av)),x])
  ds [some d,some (.lst []),none] ⟨none,rfl⟩ (λpre c post ρ aB ⟨x,b3⟩=>by
   subst b3;have e1:∀z,cV (elem pg Φ [some d,z,some (av c)] (.var 3) 0 (.some (.and (.cmp .ne (.var 2) (.var 3)) (.call f (.cons (.var 2) (.cons (.var 3) (.nil))))))) (cs.map av)=.ok ((cs.filter λo=>!decide (c=o)&&lies c o).map av):=λz=>i5 λo _=>by
    simp![Ed,hf];cases decide (c=o)<;>simp![hf,aej,Bool.true_and];cases lies c o<;>simp!
   have az:((pre.filter λc=>cs.all λo=>!(!decide (c=o)&&lies c o)).map av).length<SZ:=by
    have J:=ace (λc=>cs.all λo=>!(!decide (c=o)&&lies c o)) pre;have aa:pre.length<=ds.length:=(by rw[aB];simp);rw[List.length_map,gP];lia
   simp![hd,e1,y0 (wo 58 _),AV,EI];cases q:(cs.all λo=>!(!decide (c=o)&&lies c o))
   .refine⟨_,by simp!;rfl,some (av c),?_⟩;rw[EC pre (by rw[q])]
   .refine⟨_,by simp![uq,if_pos az];rfl,some (av c),?_⟩;rw[ED pre (by rw[q]),List.map_append];rfl)
 rw[e,he];simp!
def Dd(ag:cz ltI c)(ay:cz ltI o)(h:∀x∈c,x∈o)(ne:c≠o):c.length<o.length:=by
 have J:c.length<=o.length:=jm (ag.nodup h1) h;rcases aeQ c.length o.length with q|q
 .exact q
 .exfalso;apply ne;refine kd h1 ag ay λz=>⟨h z,λhz=>?_⟩
  by_cases FT:z∈c
  .exact FT
  .exfalso;have:(z::c).length<=o.length:=jm (abD.mpr ⟨FT,ag.nodup h1⟩) λw hw=>by
    rcases aa8.mp hw with rfl|hw
    .exact hz
    .exact h w hw
   simp at this;lia
def GF{cs:List (List Int)}(h:∀c∈cs,cz ltI c):m7 cs=bT cs:=by
 unfold m7 bT;apply List.filter_congr;intro c ag;have hm:∀z,z∈cW lexLt (cX cs)<->z∈cs:=λz=>by rw[jS,jR]
 have ag:=(hm c).mp ag;rw[Bool.eq_iff_iff];simp only[aby,abQ,Bool.and_eq_false_iff,Bool.not_eq_false',abk,List.any_eq_false,List.mem_filter,hm];constructor
 .intro q o ⟨ay,az⟩;rcases q o ay with rfl|q
  .omega
  .rw[q];exact ab7
 .intro q o ay
  by_cases e:c=o
  .exact .inl e
  .refine .inr ?_;cases z:lies c o with
   |false=>rfl
   |true=>exact absurd z (q o ⟨ay,Dd (h c ag) (h o ay) (qf.mp z) e⟩)
def pB(h:IsCell m c):c.length<=m.toNat:=by
 have:c.length<=(cA m).length:=jm (h.2.2.nodup h1) λz hz=>oI.mpr (h.2.1 z hz)
 simpa[cA] using this
theorem EG{k:Nat}:∀{ts:List (List Int)},(∀c∈ts,c.length<=k)->ts.flatten.length<=ts.length*k
 |[],_=>by simp
 |t::ts,h=>by
  have:=EG (ts:=ts) λc ag=>h c (List.mem_cons_of_mem _ ag)
  have J:=h t List.mem_cons_self;simp only[List.flatten_cons,aa7,List.length_cons,Nat.succ_mul];lia
def sL(h:m<=6):(cA m).length<=6:=by unfold cA;simp;lia
noncomputable def df:Nat->List Int->List (List Int)
 |0,_=>[[]]
 |_+1,[]=>[]
 |s+1,x::r=>(df s r).map (x::·)++df (s+1) r
theorem s6:∀(s:Nat)(c z:List Int),z∈df s c<->z.length=s/\z.Sublist c
 |0,c,z=>by
  simp only[df,abg,List.length_eq_zero_iff];exact⟨λh=>⟨h,by subst h;exact adq _⟩,λh=>h.1⟩
 |s+1,[],z=>by
  simp only[df,aeH,ad4,false_iff];rintro⟨J,aa⟩;subst aa;simp at J
 |s+1,x::r,z=>by
  simp only[df,abn,List.mem_map,s6 s r,s6 (s+1) r,List.sublist_cons_iff];constructor
  .rintro(⟨y,⟨J,aa⟩,rfl⟩|⟨J,aa⟩)
   .exact⟨by simp[J],.inr ⟨y,rfl,aa⟩⟩
   .exact⟨J,.inl aa⟩
  .rintro⟨J,aa|⟨y,rfl,aa⟩⟩
   .exact .inr ⟨J,aa⟩
   .exact .inl ⟨y,⟨by simpa using J,aa⟩,rfl⟩
theorem sT:∀(s:Nat)(c:List Int),(df s c).length<=2 ^ c.length
 |0,c=>by simp only[df,List.length_singleton];exact Nat.one_le_two_pow
 |s+1,[]=>by simp[df]
 |s+1,x::r=>by
  have J:=sT s r;have aa:=sT (s+1) r;simp only[df,aa7,List.length_map,List.length_cons,Nat.pow_succ];lia
noncomputable def cp:Nat->Nat->Nat
 |0,_=>1
 |_+1,0=>0
 |s+1,n+1=>cp s n+cp (s+1) n
theorem Bl:∀(s:Nat)(c:List Int),(df s c).length=cp s c.length
 |0,c=>by simp[df,cp]
 |s+1,[]=>by simp[df,cp]
 |s+1,x::r=>by simp only[df,aa7,List.length_map,List.length_cons,cp,Bl s r,Bl (s+1) r]
theorem Bj:∀{s n:Nat},n<s->cp s n=0
 |0,_,h=>by lia
 |s+1,0,_=>rfl
 |s+1,n+1,h=>by simp only[cp,Bj (s:=s) (n:=n) ⋯,Bj (s:=s+1) (n:=n) ⋯]
def U5{s n:Nat}(h:n<=6):cp s n<=20:=by
 rcases aeQ n s with q|q
 .rw[Bj q];lia
 .have:∀n:Fin 7,∀s:Fin 7,cp s.val n.val<=20:=∅;exact this ⟨n,⋯⟩ ⟨s,⋯⟩
theorem HK:∀(s:Nat)(c:List Int),df (s+1) c=(List.range c.length).flatMap λk=>(df s (c.drop (k+1))).map (c.getD k 0::·)
 |s,[]=>rfl
 |s,x::r=>by
  rw[List.length_cons,adK,List.flatMap_cons,List.flatMap_map];show _=(df s r).map (x::·)++(List.range r.length).flatMap λk=>(df s (r.drop (k+1))).map (r.getD k 0::·)
  rw[<- HK s r];rfl
def RJ{c:List Int}{k:Nat}(h:k<c.length):gD (.tup (c.map .int)) (.int (k:Int))=.ok (.int (c.getD k 0)):=RI (by rw[aba h];simp[List.getD,aba h])
def v9(n:Nat):eY 0 (n:Int)=(List.range n).map λ(k:Nat)=>D.int (k:Int):=by
 unfold eY;have:((n:Int)-0).toNat=n:=by lia
 rw[this];apply abB;intro k _;congr 1;lia
theorem u2{α β:Type}{f:α->List β}{k:Nat}:∀{xs:List α},(∀x∈xs,(f x).length<=k)->(xs.flatMap f).length<=xs.length*k
 |[],_=>by simp
 |x::xs,h=>by
  have:=u2 (f:=f) (xs:=xs) λc ag=>h c (List.mem_cons_of_mem _ ag)
  have J:=h x List.mem_cons_self;simp only[List.flatMap_cons,aa7,List.length_cons,Nat.succ_mul];lia
def Us(c):cL pg Φ ⟨2,2,aW.pw f⟩ [av c,.int 0]=.ok (.lst ((df 0 c).map av)):=by
 have e:fk (.int 0) (.int 0)=.ok true:=rfl;simp![aW.pw,e,df];rfl
def Ut{s:Nat}(ag:c.length<=8)(hf:∀c3:List Int,c3.length<=8->Φ f [av c3,.int (s:Int)]=.ok (.lst ((df s c3).map av))):cL pg Φ ⟨2,2,aW.pw f⟩ [av c,.int ((s:Int)+1)]=.ok (.lst ((df (s+1) c).map av)):=by
 have h0:((s:Int)+1==0)=false:=by rw[abG];lia
 have J:lW (av c)=.ok (.int (c.length:Int)):=by unfold av;rw[AG,List.length_map]
 simp![aW.pw,h0,J,ny (i:=0) (j:=(c.length:Int)) ⋯ ⋯ ⋯ ⋯,v9];have n3:∀au:List Nat,au.length<=8->(au.flatMap λk=>(df s (c.drop (k+1))).map (c.getD k 0::·)).length<=2048:=λau ax=>by
  have:=u2 (f:=λk=>(df s (c.drop (k+1))).map (c.getD k 0::·)) (k:=256) (xs:=au) λk _=>by
   have aa:=sT s (c.drop (k+1));have aE:(c.drop (k+1)).length<=8:=(by rw[acG];lia);have aR:2 ^ (c.drop (k+1)).length<=2 ^ 8:=abI ∅ aE;rw[List.length_map];lia
  lia
 obtain⟨bP,e,x,he⟩:=hB (f:=λk:Nat=>D.int (k:Int)) (g:=turn pg Φ 0 [3] (.cons (.asg 2 (.bin .add (.var 2) (.comp (.bin .add (.tup (.cons (.idx (.var 0) (.var 3)) (.nil))) (.var 4)) 0 (.seq (.call f (.cons (.slice (.var 0) (.some (.bin .add (.var 3) (.lit (.int 1)))) (.none)) (.cons (.bin .sub (.var 1) (.lit (.int 1))) (.nil))))) (.none)))) (.nil)))
  (λaY ρ=>∃(x:Option D),ρ=[some (av c),some (.int ((s:Int)+1)),some (.lst ((aY.flatMap λk=>(df s (c.drop (k+1))).map (c.getD k 0::·)).map av)),x])
  (List.range c.length) [some (av c),some (.int ((s:Int)+1)),some (.lst []),none] ⟨none,rfl⟩ (λpre k post ρ aB ⟨x,b3⟩=>by
   subst b3;have ax:k<c.length:=by
    have:k∈List.range c.length:=(by rw[aB];simp);exact List.mem_range.mp this
   have d4:pre.length+1<=c.length:=by
    have:(List.range c.length).length=(pre++k::post).length:=(by rw[aB]);simp at this;lia
   have af:kX (av c) (some ((k:Int)+1)) none=.ok (av (c.drop (k+1))):=by
    unfold av;rw[wx];have:((k:Int)+1)=((k+1:Nat):Int):=⋯;rw[this,DU,List.map_drop]
   have jc:(s:Int)+1-1=(s:Int):=⋯;have hd:(c.drop (k+1)).length<=8:=(by rw[acG];lia);have e1:∀a b,cV (elem pg Φ [some (av c),a,b,some (D.int (k:Int))] (.bin .add (.tup (.cons (.idx (.var 0) (.var 3)) (.nil))) (.var 4)) 0 .none) ((df s (c.drop (k+1))).map av)=.ok ((df s (c.drop (k+1))).map λz=>av (c.getD k 0::z)):=λa b=>hO λz hz=>by
    have hz:=(s6 _ _ _).mp hz;have aau:=hz.2.length_le;have eW:=RJ ax;have az:[D.int (c.getD k 0)].length+(z.map D.int).length<=SZ:=(by rw[List.length_map,gP];simp only[List.length_singleton];lia);simp!;unfold av;simp![eW,ri];rw[if_pos (by simpa using az)];rfl
   have hlen:((pre.flatMap λk=>(df s (c.drop (k+1))).map (c.getD k 0::·)).map av).length+((df s (c.drop (k+1))).map λz=>av (c.getD k 0::z)).length<=SZ:=by
    have J:=n3 pre ⋯;have aa:=sT s (c.drop (k+1));have aR:2 ^ (c.drop (k+1)).length<=2 ^ 8:=abI ∅ hd;rw[List.length_map,List.length_map,gP];lia
   refine⟨_,by simp![af,jc,hf _ hd,e1,mz,if_pos hlen];rfl,some (.int (k:Int)),?_⟩;simp[acX])
 rw[e,he,<- HK];simp!
theorem Ho{fds:List ll}(hf:fds[f]?=some ⟨2,2,aW.pw f⟩):∀(s n:Nat)(c:List Int),s<n->c.length<=8->run pg fds n f [av c,.int (s:Int)]=.ok (.lst ((df s c).map av))
 |0,0,c,h,_=>by lia
 |s+1,0,c,h,_=>by lia
 |0,n+1,c,_,_=>by rw[tD,hf];exact Us c
 |s+1,n+1,c,h,ag=>by
  rw[tD,hf];have:((s+1:Nat):Int)=(s:Int)+1:=⋯;rw[this];exact Ut ag λc3 cI=>Ho hf s n c3 ⋯ cI
theorem nZ:∀{o c:List Int},cz ltI c->cz ltI o->(∀x∈c,x∈o)->c.Sublist o
 |[],[],_,_,_=>adq _
 |[],x::c,_,_,h=>by have:=h x List.mem_cons_self;simp at this
 |y::o,[],_,_,_=>adq _
 |y::o,x::c,ag,ay,h=>by
  obtain⟨cF,bU⟩:=abt.mp ag;obtain⟨iT,gI⟩:=abt.mp ay
  by_cases e:x=y
  .subst e;refine List.Sublist.cons_cons x (nZ bU gI λz hz=>?_);rcases aa8.mp (h z (List.mem_cons_of_mem _ hz)) with q|q
   .have:=cF z hz;subst q;simp[ltI]at this
   .exact q
  .have ak:x∈o:=by
    rcases aa8.mp (h x List.mem_cons_self) with q|q
    .exact absurd q e
    .exact q
   have sD:=iT x ak;refine List.Sublist.cons y (nZ ag gI λz hz=>?_);rcases aa8.mp (h z hz) with q|q
   .exfalso;subst q;rcases aa8.mp hz with w|w
    .exact e w.symm
    .have:=cF z w;simp[ltI]at this sD;lia
   .exact q
noncomputable def mF(ts:List (List Int))(h:Nat):List (List Int):=cW lexLt (cX (ts.flatMap (df (h+1))))
def Tg:z∈mF ts h<->z.length=h+1/\∃t∈ts,z.Sublist t:=by
 unfold mF;rw[jS,jR,ads];simp only[s6];exact⟨λ⟨t,a,b,c⟩=>⟨b,t,a,c⟩,λ⟨b,t,a,c⟩=>⟨t,a,b,c⟩⟩
def Lj(ts)(h):cz lexLt (mF ts h):=lr kJ (nh _)
def C9(m):cz ltI (cA m):=by
 unfold cA cz;rw[abL];exact adj (λ{a b}(q:a<b)=>by simp[ltI];lia) ac7
def L1(h:IsCell m c):c.Sublist (cA m):=nZ h.2.2 (C9 m) λx ak=>oI.mpr (h.2.1 x ak)
def Su{f h:Nat}(hf:∀c:List Int,c.length<=8->Φ f [av c,.int ((h:Int)+1)]=.ok (.lst ((df (h+1) c).map av)))(aA:∀t∈ts,t.length<=8)(az:ts.length<=63)(gz:(mF ts h).length<=63):
  cL pg Φ ⟨2,2,aW.xS f⟩ [bo m ts,.int (h:Int)]=.ok (.lst ((mF ts h).map av)):=by
 have ai:gD (bo m ts) (.int 1)=.ok (.tup (ts.map av)):=rfl;simp![aW.xS,ai];have n3:∀au:List (List Int),au.length<=63->(∀t∈au,t.length<=8)->(au.flatMap (df (h+1))).length<=65280:=λau ax c7=>by
  have:=u2 (f:=df (h+1)) (k:=256) (xs:=au) λt ox=>by
   have aa:=sT (h+1) t;have aR:2 ^ t.length<=2 ^ 8:=abI ∅ (c7 t ox);lia
  lia
 obtain⟨bP,e,x,he⟩:=hB (f:=av) (g:=turn pg Φ 0 [3] (.cons (.asg 2 (.bin .add (.var 2) (.call f (.cons (.var 3) (.cons (.bin .add (.var 1) (.lit (.int 1))) (.nil)))))) (.nil)))
  (λaY ρ=>∃(x:Option D),ρ=[some (bo m ts),some (.int (h:Int)),some (.lst ((aY.flatMap (df (h+1))).map av)),x])
  ts [some (bo m ts),some (.int (h:Int)),some (.lst []),none] ⟨none,rfl⟩ (λpre t post ρ aB ⟨x,b3⟩=>by
   subst b3;have sx:t∈ts:=(by rw[aB];simp);have d4:pre.length+1<=ts.length:=(by rw[aB];simp);have J:=n3 pre ⋯ λt ox=>aA t (by rw[aB];simp[ox])
   have aa:=n3 [t] (by simp) λz hz=>by simp at hz;subst hz;exact aA z sx
   have hlen:((pre.flatMap (df (h+1))).map av).length+((df (h+1) t).map av).length<=SZ:=by
    simp at aa;rw[List.length_map,List.length_map,gP];lia
   refine⟨_,by simp![hf t (aA t sx),mz,if_pos hlen];rfl,some (av t),?_⟩;simp[acX])
 rw[e,he];have aC:∀c∈ts.flatMap (df (h+1)),c≠[]:=λc ag=>by
  obtain⟨t,_,ag⟩:=ads.mp ag;intro z;subst z;have:=((s6 _ _ _).mp ag).1;simp at this
 have:(cX (ts.flatMap (df (h+1)))).length<=63:=by unfold mF at gz;rw[m5]at gz;exact gz
 simp![wB aC this,mF]
noncomputable def JT:D->Int
 |.int i=>i
 |_=>0
def lY(i j)(h:(-g0<i/\i<g0)\/(-g0<j/\j<g0)):ej .mul (.int i) (.int j)=.ok (.int (i*j)):=by rw[mul_int,if_pos h]
def iu(i j)(h:0<j):ej .mod (.int i) (.int j)=.ok (.int (i%j)):=by rw[mod_int,if_pos h]
def u1(i j)(h:0<j)(h':j<1073741824):ej .fdiv (.int i) (.int j)=.ok (.int (i / j)):=by rw[Ez,if_pos ⟨h,h'⟩]
def j6:g0=18446744073709551616:=rfl
noncomputable def nR:Int:=2147483629
def CP:nR=2147483629:=rfl
def lF(a){b:Int}(h:0<b):0<=a%b/\a%b<b:=⟨aeU a ⋯,aen a h⟩
def NH(i k):∃r:Int,0<=r/\r<nR/\cL pg Φ ⟨2,1,aW.xT⟩ [.int i,.int k]=.ok (.int r):=by
 have b1:=lF ((i+104729*k+17)*69621) (b:=2147483647) ∅;refine⟨((i+104729*k+17)*69621%2147483647*((i+104729*k+17)*69621%2147483647)+3*((i+104729*k+17)*69621%2147483647)+k)%2147483629,?_,?_,by
  simp![aW.xT,lY 104729 k (.inl (by rw[j6];lia)),lY _ 69621 (.inr (by rw[j6];lia)),iu _ 2147483647 ∅,iu _ 2147483629 ∅,
   lY ((i+104729*k+17)*69621%2147483647) ((i+104729*k+17)*69621%2147483647) (.inl (by rw[j6];lia)),lY 3 ((i+104729*k+17)*69621%2147483647) (.inl (by rw[j6];lia))]⟩
 .exact(lF _ ∅).1
 .rw[CP];exact(lF _ ∅).2
def L0(is:List Int)(k:Nat):cL pg Φ ⟨2,0,aW.xR⟩ [.lst (is.map .int),.int (k:Int)]=.ok (.int (is.getD k 0)):=by
 simp![aW.xR,List.length_map]
 by_cases h:k<is.length
 .have h':(k:Int)<(is.length:Int):=⋯;have e:gD (.lst (is.map D.int)) (.int (k:Int))=.ok (.int (is.getD k 0)):=by
   rw[vx,zw,abj,aba h];simp[List.getD,aba h]
  simp![decide_eq_true h',e]
 .have h':¬(k:Int)<(is.length:Int):=⋯;have e:is.getD k 0=0:=(by simp[List.getD,abu (adV h)]);simp![decide_eq_false h',e]
def Tq{is:List Int}(hf:∀k:Nat,Φ f [.lst (is.map .int),.int (k:Int)]=.ok (.int (is.getD k 0)))(k:Nat):∃r:Int,0<=r/\r<nR/\cL pg Φ ⟨2,1,aW.xY f⟩ [.lst (is.map .int),.int (k:Int)]=.ok (.int r):=by
 have b1:=lF ((is.getD k 0+7919*(k:Int)+1)*48271) (b:=2147483647) ∅;refine⟨((is.getD k 0+7919*(k:Int)+1)*48271%2147483647*((is.getD k 0+7919*(k:Int)+1)*48271%2147483647)+7*((is.getD k 0+7919*(k:Int)+1)*48271%2147483647)+(k:Int))%2147483629,?_,?_,by
  simp![aW.xY,hf,lY 7919 (k:Int) (.inl (by rw[j6];lia)),lY _ 48271 (.inr (by rw[j6];lia)),iu _ 2147483647 ∅,iu _ 2147483629 ∅,
   lY ((is.getD k 0+7919*(k:Int)+1)*48271%2147483647) ((is.getD k 0+7919*(k:Int)+1)*48271%2147483647) (.inl (by rw[j6];lia)),lY 7 ((is.getD k 0+7919*(k:Int)+1)*48271%2147483647) (.inl (by rw[j6];lia))]⟩
 .exact(lF _ ∅).1
 .rw[CP];exact(lF _ ∅).2
def Xv(hf:∀i k:Int,∃r:Int,0<=r/\r<nR/\Φ f [.int i,.int k]=.ok (.int r))(i m)(J:1<=m)(c7:m<=6):
  ∃cs:List (List Int),cL pg Φ ⟨2,4,aW.x2 f⟩ [.int i,.int m]=.ok (.lst (cs.map av))/\(∀c∈cs,IsCell m c)/\gQ m cs=true/\cs.length<=16:=by
 have a3:=ny (i:=0) (j:=m) ⋯ ⋯ ⋯ ⋯;have Lq:=lF i (b:=9) ∅;have Ra:=ny (i:=0) (j:=i%9) ⋯ ⋯ ⋯ ⋯;have uM:eY 0 (i%9)=(cA (i%9)).map .int:=tx _;have e0:cV (elem pg Φ [some (.int i),some (.int m),none,none,none,none] (.tup (.cons (.var 6) (.nil))) 0 .none) ((cA m).map .int)=.ok ((cA m).map λk=>av [k]):=hO λk _=>by
  simp!;rfl
 simp![aW.x2,a3,tx,e0,iu i 9 ∅,Ra];have h0:∀k∈cA m,IsCell m [k]:=λk ax=>⟨by simp,by simpa using oI.mp ax,acx _ _⟩
 obtain⟨bP,e,cs,x,y,z,he,ag,az⟩:=hB (f:=D.int) (g:=turn pg Φ 0 [3] (.cons (.asg 4 (.call f (.cons (.var 0) (.cons (.var 3) (.nil))))) (.cons (.asg 5 (.tupI (.seq (.comp (.var 6) 0 (.fa (.var 1)) (.some (.cmp .lt (.bin .mod (.call f (.cons (.var 4) (.cons (.var 6) (.nil)))) (.lit (.int 5))) (.bin .add (.lit (.int 2)) (.bin .mod (.var 4) (.lit (.int 2)))))))))) (.cons (.iff (.cmp .ne (.var 5) (.tup (.nil))) (.cons (.app 2 (.var 5)) (.nil)) (.nil)) (.nil)))))
  (λaY ρ=>∃(cs:List (List Int))(x y z:Option D),ρ=[some (.int i),some (.int m),some (.lst (((cA m).map λk=>[k]).map av++cs.map av)),x,y,z]/\(∀c∈cs,IsCell m c)/\cs.length<=aY.length)
  (cA (i%9)) [some (.int i),some (.int m),some (.lst ((cA m).map λk=>av [k])),none,none,none] ⟨[],none,none,none,by simp[Function.comp_def],by simp,by simp⟩ (λpre k post ρ aB ⟨cs,x,y,z,b3,ag,az⟩=>by
   subst b3;obtain⟨r,aH,aT,Q9⟩:=hf i k;have ex:∃q:Int->Bool,∀x y z,cV (elem pg Φ [some (.int i),some (.int m),x,y,some (.int r),z] (.var 6) 0 (.some (.cmp .lt (.bin .mod (.call f (.cons (.var 4) (.cons (.var 6) (.nil)))) (.lit (.int 5))) (.bin .add (.lit (.int 2)) (.bin .mod (.var 4) (.lit (.int 2))))))) ((cA m).map .int)=.ok (((cA m).filter q).map .int):=by
    obtain⟨g,aZ⟩:∃g:Int->Int,∀k,Φ f [.int r,.int k]=.ok (.int (g k)):=⟨λk=>Classical.choose (hf r k),λk=>(Classical.choose_spec (hf r k)).2.2⟩;refine⟨λk=>decide (g k%5<2+r%2),λx y z=>i5 λk _=>?_⟩;have af:=aZ k;simp![af,iu _ 5 ∅,iu _ 2 ∅]
    split<;>rfl
   obtain⟨q,aN⟩:=ex;have jc:((cA m).filter q).Sublist (cA m):=acb;simp![Q9,a3,tx,aN];have aC:fk (.tup (((cA m).filter q).map .int)) (.tup [])=.ok ((cA m).filter q).isEmpty:=by
    rw[N4 (by simp[List.all_map,tL]),AV]
   simp![aC];have d4:pre.length+1<=9:=by
    have J:(cA (i%9)).length=(pre++k::post).length:=(by rw[<- aB]);have aa:(cA (i%9)).length<=9:=(by unfold cA;simp;lia);simp at J;lia
   cases FI:((cA m).filter q).isEmpty
   .have dT:(cA m).filter q≠[]:=(by intro z;rw[z]at FI;cases FI);have oj:IsCell m ((cA m).filter q):=⟨dT,λx ak=>oI.mp (jc.subset ak),abK jc (C9 m)⟩;have hlen:(((cA m).map λk=>[k]).map av++cs.map av).length<SZ:=by
     have:=sL c7;simp only[aa7,List.length_map,gP];lia
    refine⟨_,by simp![uq,if_pos hlen];rfl,cs++[(cA m).filter q],_,_,_,by simp only[List.map_append,adl];rfl,λc cI=>?_,by simp;lia⟩;rcases abn.mp cI with w|w
    .exact ag c w
    .simp at w;subst w;exact oj
   .exact⟨_,by simp!;rfl,cs,_,_,_,rfl,ag,by simp;lia⟩)
 rw[e,he];simp!;refine⟨((cA m).map λk=>[k])++cs,by rw[List.map_append],λc cI=>?_,?_,?_⟩
 .rcases abn.mp cI with w|w
  .obtain⟨k,ax,rfl⟩:=List.mem_map.mp w;exact h0 k ax
  .exact ag c w
 .rw[rA];intro x a b;exact⟨[x],by simp[oI];exact .inl ⟨a,b⟩,by simp⟩
 .have:=sL c7;have aa:(cA (i%9)).length<=8:=(by unfold cA;simp;lia);simp only[aa7,List.length_map];lia
def jT{cs:List (List Int)}:c∈bT cs<->c∈cs/\∀o∈cs,c.length<o.length->¬lies c o=true:=by
 unfold bT;simp only[List.mem_filter,jS,jR,abQ,List.any_eq_false,abk,and_imp]
def ur(cs):cz lexLt (bT cs):=abK acb (lr kJ (nh _))
def Zc(cs):bT (bT cs)=bT cs:=by
 refine kd kJ (ur _) (ur _) λz=>?_
 rw[jT];refine⟨λh=>h.1,λh=>⟨h,λo ay az=>(jT.mp h).2 o (jT.mp ay).1 az⟩⟩
theorem Ck{cs:List (List Int)}(h:∀c∈cs,IsCell m c):∀(n:Nat)(c:List Int),c∈cs->m.toNat<=c.length+n->∃t∈bT cs,∀x∈c,x∈t
 |0,c,ag,aC=>⟨c,jT.mpr ⟨ag,λo ay az=>by have:=pB (h o ay);lia⟩,λ_ ak=>ak⟩
 |n+1,c,ag,aC=>by
  by_cases q:∀o∈cs,c.length<o.length->¬lies c o=true
  .exact⟨c,jT.mpr ⟨ag,q⟩,λ_ ak=>ak⟩
  .obtain⟨o,ay,az,af⟩:∃o,o∈cs/\c.length<o.length/\lies c o=true:=by
    apply adt;intro z;exact q λo ay az af=>z ⟨o,ay,az,af⟩
   obtain⟨t,aA,Rd⟩:=Ck h n o ay ⋯;exact⟨t,aA,λx ak=>Rd x (qf.mp af x ak)⟩
structure Net(m:Int)(ts:List (List Int)):Prop where
 lo:1<=m
 ai:m<=6
 cell:∀c∈ts,IsCell m c
 top:ts=bT ts
 gQ:gQ m ts=true
def G3{cs:List (List Int)}(J:1<=m)(c7:m<=6)(ag:∀c∈cs,IsCell m c)(aK:gQ m cs=true):Net m (bT cs) where
 lo:=J
 ai:=c7
 cell:=λc h=>ag c (jT.mp h).1
 top:=(Zc cs).symm
 gQ:=by
  rw[rA]at aK ⊢;intro x a b;obtain⟨c,h,ak⟩:=aK x a b;obtain⟨t,aA,af⟩:=Ck ag m.toNat c h ⋯;exact⟨t,aA,af x ak⟩
def JU(cs):(bT cs).length<=cs.length:=by
 unfold bT;have J:=ace (λc=>!((cW lexLt (cX cs)).filter λo=>decide (c.length<o.length)).any (lies c)) (cW lexLt (cX cs));have aa:=uJ cs;rw[m5]at J;lia
def A1{cs:List (List Int)}(hf:∀cs:List (List Int),(∀c∈cs,c≠[])->(cX cs).length<=63->Φ lI [.lst (cs.map av)]=.ok (.tup ((m7 cs).map av)))(J:1<=m)(c7:m<=6)(az:cs.length<=20)(PU:∀c∈cs,c.length<=63)(ag:∀c∈cs,IsCell m (cW ltI c))(aK:gQ m (cs.map (cW ltI))=true):
  ∃ts,mP (eL pg Φ [some a,some b,some (.int m),some c,some (.lst (cs.map av))] (.cons (.ret (.tup (.cons (.var 2) (.cons (.call lI (.cons (.comp (.tupI (.seq (.prim .sorted (.var 5)))) 0 (.seq (.var 4)) (.none)) (.nil))) (.nil))))) (.nil)))=.ok (bo m ts)/\Net m ts/\ts.length<=20:=by
 have mX:∀c∈cs.map (cW ltI),IsCell m c:=λc cI=>by obtain⟨o,ay,rfl⟩:=List.mem_map.mp cI;exact ag o ay
 refine⟨bT (cs.map (cW ltI)),?_,G3 J c7 mX aK,by have:=JU (cs.map (cW ltI));rw[List.length_map]at this;lia⟩;have e1:cV (elem pg Φ [some a,some b,some (.int m),some c,some (.lst (cs.map av))] (.tupI (.seq (.prim .sorted (.var 5)))) 0 .none) (cs.map av)=.ok (cs.map λc=>av (cW ltI c)):=hO λc cI=>by
  simp![nA,I8 (PU c cI)];rfl
 have ar:(cs.map λc=>av (cW ltI c))=(cs.map (cW ltI)).map av:=by rw[List.map_map];rfl
 have gz:(cX (cs.map (cW ltI))).length<=63:=by have:=uJ (cs.map (cW ltI));rw[List.length_map]at this;lia
 simp![e1,ar,hf _ (λc cI=>(mX c cI).1) gz,GF (λc cI=>(mX c cI).2.2)];rfl
def BY(h:IsCell m c):cW ltI c=c:=XA h1 h.2.2
def Jd{cs:List (List Int)}(h:∀c∈cs,IsCell m c):cs.map (cW ltI)=cs:=by
 conv=>rhs;rw[<- adB cs]
 exact abB λc ag=>BY (h c ag)
noncomputable def Dy:Bool:=(List.range 7).all λm=>(List.range 7).all λs=>(decide (s=0)||decide (m<s))||((df s (cA (m:Int))).all (λc=>decide (IsCell (m:Int) c))&&gQ (m:Int) (df s (cA (m:Int))))
def yu:Dy=true:=by decide +kernel
def KQ{s:Nat}(J:1<=m)(ez:m<=6)(af:1<=s)(aap:(s:Int)<=m):(∀c∈df s (cA m),IsCell m c)/\gQ m (df s (cA m))=true:=by
 have h:=yu;unfold Dy at h;rw[aby]at h;have h:=h m.toNat (List.mem_range.mpr ⋯);rw[aby]at h;have h:=h s (List.mem_range.mpr ⋯);have e:((m.toNat:Nat):Int)=m:=by lia
 rw[e]at h;have gH:¬s=0:=by lia
 have eX:¬m.toNat<s:=by lia
 simp only[decide_eq_false gH,decide_eq_false eX,Bool.or_self,Bool.false_or,aa3,aby,abk]at h;exact h
noncomputable def band:List (List Int):=(cA 5).map (λk=>[0,1+k,1+(k+1)%5])++(cA 5).map λk=>[1+k,1+(k+1)%5,1+(k+3)%5]
def Ls:(band.map (cW ltI)).all (λc=>decide (IsCell 6 c))&&gQ 6 (band.map (cW ltI))&&decide (band.length<=20)&&band.all (λc=>decide (c.length<=63))=true:=by decide +kernel
def TJ{lI bH bB:Nat}(aA:∀cs:List (List Int),(∀c∈cs,c≠[])->(cX cs).length<=63->Φ lI [.lst (cs.map av)]=.ok (.tup ((m7 cs).map av)))(aB:∀(s:Nat)(c:List Int),s<=8->c.length<=8->Φ bH [av c,.int (s:Int)]=.ok (.lst ((df s c).map av)))(af:∀i m:Int,1<=m->m<=6->∃cs:List (List Int),Φ bB [.int i,.int m]=.ok (.lst (cs.map av))/\(∀c∈cs,IsCell m c)/\gQ m cs=true/\cs.length<=16)(i)(h0:0<=i):
  ∃m ts,cL pg Φ ⟨2,3,aW.xZ lI bH bB⟩ [.int i,.int 6]=.ok (bo m ts)/\Net m ts/\m<=6/\ts.length<=20:=by
 have ro:=lF i (b:=6) ∅;have bZ:decide ((5:Int)<6)=true:=rfl;have b7:decide ((6:Int)<6)=false:=rfl;simp![aW.xZ,iu i 6 ∅,u1 i 12 ∅ ∅,iu _ 8 ∅];cases k0:(i / 12%8==0)
 .cases k1:(i / 12%8==1)
  .have rest:∀k2:Bool,(if k2=true then decide ((6:Int)<6) else false)=false:=λk2=>by cases k2<;>rfl
   obtain⟨cs,e,ag,aK,az⟩:=af (i / 96) (1+i%6) ⋯ ⋯;obtain⟨ts,ar,aC,m2⟩:=A1 (pg:=pg) (Φ:=Φ) (cs:=cs) (m:=1+i%6) (a:=.int i) (b:=.int 6) (c:=.int (i / 12%8)) aA ⋯ ⋯ ⋯ (λc cI=>by have:=pB (ag c cI);lia) (λc cI=>by rw[BY (ag c cI)];exact ag c cI) (by rw[Jd ag];exact aK);refine⟨1+i%6,ts,?_,aC,⋯,m2⟩;rw[<- ar];cases k2:(i / 12%8==2)
   .simp![k1,k2,u1 i 96 ∅ ∅,e]
   .simp![k1,k2,b7,u1 i 96 ∅ ∅,e]
  .have ae:=Ls;simp only[aa3,aby,abk]at ae;obtain⟨⟨⟨fY,sa⟩,P7⟩,P8⟩:=ae;obtain⟨ts,ar,aC,m2⟩:=A1 (pg:=pg) (Φ:=Φ) (cs:=band) (m:=6) (a:=.int i) (b:=.int 6) (c:=.int (i / 12%8)) aA ∅ ∅ P7 P8 (λc cI=>fY _ (List.mem_map_of_mem cI)) sa;refine⟨6,ts,?_,aC,⋯,m2⟩;rw[<- ar];have iw:=ny (i:=0) (j:=5) ⋯ ⋯ ⋯ ⋯;have cF:∀a b c d e,cV (elem pg Φ [a,b,c,d,e] (.tup (.cons (.lit (.int 0)) (.cons (.bin .add (.lit (.int 1)) (.var 5)) (.cons (.bin .add (.lit (.int 1)) (.bin .mod (.bin .add (.var 5) (.lit (.int 1))) (.lit (.int 5)))) (.nil))))) 0 .none) ((cA 5).map .int)=.ok ((cA 5).map λk=>av [0,1+k,1+(k+1)%5]):=λa b c d e=>hO λk _=>by
    simp![iu _ 5 ∅];rfl
   have bU:∀a b c d e,cV (elem pg Φ [a,b,c,d,e] (.tup (.cons (.bin .add (.lit (.int 1)) (.var 5)) (.cons (.bin .add (.lit (.int 1)) (.bin .mod (.bin .add (.var 5) (.lit (.int 1))) (.lit (.int 5)))) (.cons (.bin .add (.lit (.int 1)) (.bin .mod (.bin .add (.var 5) (.lit (.int 3))) (.lit (.int 5)))) (.nil))))) 0 .none) ((cA 5).map .int)=.ok ((cA 5).map λk=>av [1+k,1+(k+1)%5,1+(k+3)%5]):=λa b c d e=>hO λk _=>by
    simp![iu _ 5 ∅];rfl
   have eu:band.map av=(cA 5).map (λk=>av [0,1+k,1+(k+1)%5])++(cA 5).map λk=>av [1+k,1+(k+1)%5,1+(k+3)%5]:=by
    unfold band;rw[List.map_append,List.map_map,List.map_map];rfl
   have hlen:((cA 5).map (λk=>av [0,1+k,1+(k+1)%5])).length+((cA 5).map λk=>av [1+k,1+(k+1)%5,1+(k+3)%5]).length<=SZ:=by
    have:=sL (m:=5) ∅;rw[List.length_map,List.length_map,gP];lia
   simp![k1,bZ,iw,tx,cF,bU,mz,if_pos hlen,<- eu]
 .have Lq:=lF (i / 96) (b:=1+i%6) ⋯;obtain⟨s,pY⟩:∃s:Nat,(s:Int)=1+i / 96%(1+i%6):=⟨(1+i / 96%(1+i%6)).toNat,⋯⟩;obtain⟨ag,aK⟩:=KQ (m:=1+i%6) (s:=s) ⋯ ⋯ ⋯ ⋯;have Fu:(cA (1+i%6)).length<=6:=(by unfold cA;simp;lia);have QI:(df s (cA (1+i%6))).length<=20:=(by rw[Bl];exact U5 Fu);obtain⟨ts,ar,aC,m2⟩:=A1 (pg:=pg) (Φ:=Φ) (cs:=df s (cA (1+i%6))) (m:=1+i%6) (a:=.int i) (b:=.int 6) (c:=.int (i / 12%8)) aA ⋯ ⋯ QI (λc cI=>by have:=pB (ag c cI);lia) (λc cI=>by rw[BY (ag c cI)];exact ag c cI) (by rw[Jd ag];exact aK);refine⟨1+i%6,ts,?_,aC,⋯,m2⟩;rw[<- ar];have FH:=aB s (cA (1+i%6)) ⋯ ⋯;unfold av at FH;simp![u1 i 96 ∅ ∅,iu (i / 96) (1+i%6) ⋯,<- pY,ny (i:=0) (j:=1+i%6) ⋯ ⋯ ⋯ ⋯,tx,FH];rfl
noncomputable def cU(c:List Int):List (List Int):=if 1<c.length then(List.range c.length).map λk=>c.take k++c.drop (k+1) else []
noncomputable def bY(a b:List (List Int)):List (List Int):=cW lexLt (cX (a.filter (λx=>!decide (x∈b))++b.filter λx=>!decide (x∈a)))
def xB(h:cz lexLt xs):xs.Nodup:=adj (λ{a b} h e=>by subst e;rw[kJ.f3]at h;cases h) h
def nY(h:cz ltI xs):xs.Nodup:=adj (λ{a b} h e=>by subst e;rw[h1.f3]at h;cases h) h
noncomputable def cnt(e:List Int)(cs:List (List Int)):Nat:=cs.countP λc=>decide (e∈cU c)
theorem tl{α:Type}(lt):∀xs:List α,(cW lt xs).Perm xs
 |[]=>.nil
 |x::xs=>(ti lt x (cW lt xs)).trans ((tl lt xs).cons x)
 where ti {α:Type} (lt:α->α->Bool) (x:α):∀ys:List α,(ins lt x ys).Perm (x::ys)
  |[]=>.refl _
  |y::ys=>by
   unfold ins
   split
   .exact((ti lt x ys).cons y).trans (List.Perm.swap x y ys)
   .exact .refl _
def tj{α:Type}[DecidableEq α]{xs ys:List α}(ak:xs.Nodup)(aP:ys.Nodup)(h:∀z,z∈xs<->z∈ys):xs.Perm ys:=(List.perm_ext_iff_of_nodup ak aP).mpr h
def iU(h:cz ltI c):e∈cU c<->1<c.length/\e.length+1=c.length/\e.Sublist c:=by
 unfold cU;constructor
 .intro he
  split at he
  .rename_i az;obtain⟨k,ax,rfl⟩:=List.mem_map.mp he;have ax:=List.mem_range.mp ax;refine⟨az,by rw[aa7,acF,acG];lia,?_⟩
   conv=>rhs;rw[<- adQ k c]
   refine List.Sublist.append (aeC _) ?_;rw[acK ax];exact List.sublist_cons_self _ _
  .cases he
 .rintro⟨az,J,af⟩;rw[if_pos az];refine List.mem_map.mpr ?_;have key:∀{e c:List Int},e.Sublist c->e.length+1=c.length->∃k,k<c.length/\c.take k++c.drop (k+1)=e:=by
   intro e c af
   induction af with
   |slnil=>intro z;cases z
   |@cons e c x af aG =>
    intro z;have:e.length=c.length:=(by simpa using z);exact⟨0,by simp,by simpa using (af.eq_of_length this).symm⟩
   |@cons_cons e c x af aG =>
    intro z;obtain⟨k,ax,oa⟩:=aG (by simpa using z);exact⟨k+1,by simpa using ax,by simp[oa]⟩
  obtain⟨k,ax,oa⟩:=key af J;exact⟨k,List.mem_range.mpr ax,oa⟩
def tM(h:cz ltI c)(he:e∈cU c):cz ltI e:=abK ((iU h).mp he).2.2 h
def N6(ag:cz ltI c)(he:cz ltI e)(af:e.Sublist c){k:Nat}(ax:k<c.length):e.Sublist (c.take k++c.drop (k+1))<->c[k]∉e:=by
 have aC:=nY ag;have hd:(c.take k++c[k]::c.drop (k+1))=c:=by rw[<- acK ax,adQ]
 rw[<- hd]at aC;have QN:∀x,x∈c<->x=c[k]\/x∈c.take k++c.drop (k+1):=λx=>by
  conv=>lhs;rw[<- hd]
  simp only[abn,aa8];constructor
  .rintro(h|h|h)
   .exact .inr (.inl h)
   .exact .inl h
   .exact .inr (.inr h)
  .rintro(h|h|h)
   .exact .inr (.inl h)
   .exact .inl h
   .exact .inr (.inr h)
 have iQ:c[k]∉c.take k++c.drop (k+1):=λz=>by
  have:=List.perm_middle.nodup_iff.mp aC;exact(abD.mp this).1 z
 have jc:(c.take k++c.drop (k+1)).Sublist c:=by
  conv=>rhs;rw[<- hd]
  exact List.Sublist.append (aeC _) (List.sublist_cons_self _ _)
 constructor
 .exact λz w=>iQ (z.subset w)
 .exact λz=>nZ he (abK jc ag) λx ak=>((QN x).mp (af.subset ak)).elim (λe=>absurd (e▸ak) z) id
theorem Gj{α:Type}(p):∀c:List α,c.length=c.countP p+c.countP (λx=>!p x)
 |[]=>rfl
 |x::c=>by
  rw[List.length_cons,Gj p c,adY,adY];cases p x<;>simp<;>lia
def Mu{α:Type}[DecidableEq α]{c e:List α}(ag:c.Nodup)(he:e.Nodup)(af:∀x∈e,x∈c):c.countP (λx=>!decide (x∈e))+e.length=c.length:=by
 have J:(c.filter λx=>decide (x∈e)).Perm e:=tj (ag.filter _) he λz=>by
  rw[List.mem_filter];simp only[abk];exact⟨λh=>h.2,λh=>⟨af z h,h⟩⟩
 have aa:c.length=(c.filter λx=>decide (x∈e)).length+(c.filter λx=>!decide (x∈e)).length:=by
  rw[<- ade,<- ade];exact Gj (λx=>decide (x∈e)) c
 rw[J.length_eq]at aa;rw[ade];lia
def DO(ag:cz ltI c)(e):cnt e (cU c)=0\/cnt e (cU c)=2:=by
 by_cases az:1<c.length
 .by_cases af:e.Sublist c/\e.length+2=c.length/\2<c.length
  .obtain⟨af,aa,aE⟩:=af;have he:cz ltI e:=abK af ag;right;have e1:cnt e (cU c)=c.countP λx=>!decide (x∈e):=by
    unfold cnt;rw[show cU c=(List.range c.length).map (λk=>c.take k++c.drop (k+1)) from if_pos az,ady];have:c=(List.range c.length).map λk=>c.getD k 0:=by
     apply List.ext_getElem
     .simp
     .intro i J aa;simp[List.getD,J]
    conv=>rhs;rw[this]
    rw[ady];refine adk λk ax=>?_
    have ax:=List.mem_range.mp ax;have Rh:cz ltI (c.take k++c.drop (k+1)):=tM ag (by unfold cU;rw[if_pos az];exact List.mem_map.mpr ⟨k,List.mem_range.mpr ax,rfl⟩);have hlen:(c.take k++c.drop (k+1)).length+1=c.length:=(by rw[aa7,acF,acG];lia);simp only[Function.comp,abk,abQ,aeK];rw[iU Rh,N6 ag he af ax];have:c.getD k 0=c[k]:=(by simp[List.getD,ax]);rw[this];exact⟨λz=>z.2.2,λz=>⟨⋯,⋯,z⟩⟩
   rw[e1];have:=Mu (nY ag) (nY he) λx ak=>af.subset ak
   lia
  .left;unfold cnt;rw[List.countP_eq_zero];intro d hd;simp only[abk];intro z;obtain⟨_,b2,d7⟩:=(iU ag).mp hd;obtain⟨a1,a2,eD⟩:=(iU (tM ag hd)).mp z;exact af ⟨eD.trans d7,⋯,⋯⟩
 .left;unfold cnt cU;rw[if_neg az];rfl
def qF(ag:cz ltI c):(cU c).Nodup:=by
 unfold cU
 split
 .rw[abq,abL];refine abA (λ{i j} ai aI (z1:i<j) e=>?_) ac7;have aI:=List.mem_range.mp aI;have ai:i<c.length:=List.mem_range.mp ai;have J:(c.take i++c.drop (i+1))[i]?=c[i+1]?:=by
   rw[abH (by simp;lia),List.getElem?_drop];congr 1;simp;lia
  have aa:(c.take j++c.drop (j+1))[i]?=c[i]?:=by
   rw[abi (by simp;lia),List.getElem?_take_of_lt z1]
  rw[e,aa]at J;rw[aba ai,aba (by lia:i+1<c.length)]at J;have:=acJ.mp ag i (i+1) ai ⋯ ⋯;injection J with J;rw[J,h1.f3]at this;cases this
 .exact adn
end c2
end
section
namespace c2
open Den bg ef fy
def rW(i j):ev pg Φ ρ (.ig i j)=lC ρ[i]? ρ[j]?:=ba rfl
def Oi(i j):ev pg Φ ρ (.pG i j)=rJ ρ[i]? ρ[j]?:=ba rfl
def Ek:ev pg Φ ρ .pH=.ok (.bK []):=ba rfl
def OD(i):ex pg Φ ρ (.n8 i)=.ok (.bD (ρ.set i (some (.b4 [])))):=ba rfl
def OE(i):ex pg Φ ρ (.n9 i)=.ok (.bD (ρ.set i (some (.bK [])))):=ba rfl
def y8(i j)(e):ex pg Φ ρ (.jI i j e)=ev pg Φ ρ e>>=λd=>pI ρ[i]? ρ[j]? d>>=λx=>.ok (.bD (ρ.set i (some x))):=ba rfl
def Es(i)(e):ex pg Φ ρ (.ext i e)=mG ρ[i]?>>=λ_=>ev pg Φ ρ e>>=λd=>pM ρ[i]? d>>=λx=>.ok (.bD (ρ.set i (some x))):=ba rfl
def Et(i):ex pg Φ ρ (.qA i)=rG ρ[i]?>>=λd=>.ok (.cC d):=ba rfl
def HJ(up)(xs):kS up .sum (.lst xs)=jr xs:=ba rfl
def HI(up)(xs):kS up .max (.lst xs)=kO xs:=ba rfl
def kH(c):lW (av c)=.ok (.int (c.length:Int)):=by unfold av;rw[AG,List.length_map]
def Xi{c:List Int}(h:c.length<=1000)(k:Nat):ej .add (.tup (cut (c.map D.int) none (some (k:Int)))) (.tup (cut (c.map D.int) (some ((k:Int)+1)) none))=.ok (av (c.take k++c.drop (k+1))):=by
 have e:((k:Int)+1)=((k+1:Nat):Int):=by lia
 rw[e,MD,DU,ri,if_pos]
 .unfold av;rw[List.map_append,List.map_take,List.map_drop]
 .rw[acF,acG,List.length_map,gP];lia
def Xj(c)(h:c.length<=1000):cL pg Φ ⟨1,0,aW.yc⟩ [av c]=.ok (.lst ((cU c).map av)):=by
 have e1:cV (elem pg Φ [some (av c)] (.bin .add (.slice (.var 0) (.none) (.some (.var 1))) (.slice (.var 0) (.some (.bin .add (.var 1) (.lit (.int 1)))) (.none))) 0 (.some (.cmp .gt (.prim .len (.var 0)) (.lit (.int 1))))) ((List.range c.length).map λ(k:Nat)=>D.int (k:Int))=.ok (((List.range c.length).filter λ_=>decide (1<c.length)).map λk=>av (c.take k++c.drop (k+1))):=i5 λk _=>by
  have af:∀lo ai,kX (av c) lo ai=.ok (.tup (cut (c.map D.int) lo ai)):=λlo ai=>rfl
  simp![kH,af,Xi h]
  by_cases q:1<c.length
  .have cB:(1:Int)<(c.length:Int):=⋯;simp only[decide_eq_true q,decide_eq_true cB,abU]
  .have cB:¬(1:Int)<(c.length:Int):=⋯;simp only[decide_eq_false q,decide_eq_false cB,aa6,abp]
 simp![aW.yc,kH,ny (i:=0) (j:=(c.length:Int)) ⋯ ⋯ ⋯ ⋯,v9,e1];congr 2;unfold cU
 by_cases q:1<c.length
 .rw[if_pos q,decide_eq_true q,List.filter_eq_self.mpr λ_ _=>rfl,List.map_map];rfl
 .rw[if_neg q,decide_eq_false q,List.filter_eq_nil_iff.mpr λ_ _=>∅];rfl
def Xh(h:cz ltI c)(he:e∈cU c):e≠[]:=λz=>by
 obtain⟨a,b,_⟩:=(iU h).mp he;subst z;simp at b;lia
noncomputable def eF(t:List Int):List (List Int):=t.foldl (λf x=>f++[[x]]++f.map (·++[x])) []
def cw_snoc(t)(x):eF (t++[x])=eF t++[[x]]++(eF t).map (·++[x]):=by unfold eF;rw[List.foldl_append];rfl
def I6{P:List Int->Prop}(h0:P [])(J:∀as a,P as->P (as++[a]))(as):P as:=by
 have key:∀n (as:List Int),as.length=n->P as:=by
  intro n
  induction n with
  |zero=>intro as h;rw[acd h];exact h0
  |succ n aG =>
   intro as h;rcases adO as with rfl|⟨l,a,rfl⟩
   .cases h
   .rw[adP]at h ⊢;exact J l a (aG l (by simpa using h))
 exact key _ as rfl
def sub_snoc{z t:List Int}:z.Sublist (t++[x])<->z.Sublist t\/∃y,z=y++[x]/\y.Sublist t:=by
 rw[List.sublist_append_iff];constructor
 .rintro⟨a,b,rfl,J,aa⟩;have ae:b=[]\/b=[x]:=by
   cases aa with
   |cons _ h=>exact .inl (ad4.mp h)
   |cons_cons _ h=>exact .inr (by rw[ad4.mp h])
  rcases ae with rfl|rfl
  .exact .inl (by simpa using J)
  .exact .inr ⟨a,rfl,J⟩
 .rintro(h|⟨y,rfl,h⟩)
  .exact⟨z,[],by simp,h,adq _⟩
  .exact⟨y,[x],rfl,h,aeC _⟩
def ql(t):∀z,z∈eF t<->z≠[]/\z.Sublist t:=by
 refine I6 (P:=λt=>∀z,z∈eF t<->z≠[]/\z.Sublist t) (λz=>?_) (λt x aG z=>?_) t
 .constructor
  .intro h;cases h
  .rintro⟨J,aa⟩;exact absurd (ad4.mp aa) J
 .rw[cw_snoc,abn,abn,abg,List.mem_map,sub_snoc,aG];constructor
  .rintro((⟨J,aa⟩|rfl)|⟨y,aP,rfl⟩)
   .exact⟨J,.inl aa⟩
   .exact⟨by simp,.inr ⟨[],rfl,adq _⟩⟩
   .exact⟨by simp,.inr ⟨y,rfl,((aG y).mp aP).2⟩⟩
  .rintro⟨J,aa|⟨y,rfl,aa⟩⟩
   .exact .inl (.inl ⟨J,aa⟩)
   .by_cases aP:y=[]
    .subst aP;exact .inl (.inr rfl)
    .exact .inr ⟨y,(aG y).mpr ⟨aP,aa⟩,rfl⟩
def AE(t):(eF t).length+1=2 ^ t.length:=by
 refine I6 (P:=λt=>(eF t).length+1=2 ^ t.length) rfl (λt x aG=>?_) t;rw[cw_snoc,aa7,aa7,aa7,List.length_map,List.length_singleton,List.length_singleton,Nat.pow_succ];lia
noncomputable def cx(ts:List (List Int)):List (List Int):=cW lexLt (cX (ts.flatMap eF))
def hg:z∈cx ts<->z≠[]/\∃t∈ts,z.Sublist t:=by
 unfold cx;rw[jS,jR,ads];constructor
 .rintro⟨t,J,aa⟩;exact⟨((ql t z).mp aa).1,t,J,((ql t z).mp aa).2⟩
 .rintro⟨h0,t,J,aa⟩;exact⟨t,J,(ql t z).mpr ⟨h0,aa⟩⟩
def xA(ts):cz lexLt (cx ts):=lr kJ (nh _)
noncomputable def cl(ts:List (List Int))(n:Nat):List (List Int):=(cx ts).filter λc=>decide (c.length=n)
def fD:z∈cl ts n<->z.length=n/\z≠[]/\∃t∈ts,z.Sublist t:=by
 unfold cl;rw[List.mem_filter,hg];simp only[abk];exact⟨λh=>⟨h.2,h.1⟩,λh=>⟨h.2,h.1⟩⟩
def C8(ts)(n):cz lexLt (cl ts n):=abK acb (xA ts)
def i4(ts)(n):(cl ts n).Nodup:=xB (C8 ts n)
def DF(ts)(h):mF ts h=cl ts (h+1):=kd kJ (Lj ts h) (C8 ts _) λz=>by
 rw[Tg,fD];exact⟨λ⟨J,aa⟩=>⟨J,by rintro rfl;simp at J,aa⟩,λ⟨J,_,aa⟩=>⟨J,aa⟩⟩
def uU(c7:m<=6)(aA:∀t∈ts,IsCell m t):(cx ts).length<=63:=by
 have J:(cx ts).length<=(eF (cA m)).length:=jm (xB (xA ts)) λz hz=>by
  obtain⟨h0,t,J,aa⟩:=hg.mp hz;exact(ql _ z).mpr ⟨h0,aa.trans (L1 (aA t J))⟩
 have aa:=AE (cA m);have aE:=sL c7;have aR:2 ^ (cA m).length<=2 ^ 6:=abI ∅ aE;lia
def ry(c7:m<=6)(aA:∀t∈ts,IsCell m t)(n):(cl ts n).length<=63:=abX (ace _ _) (uU c7 aA)
def pD(aA:∀t∈ts,IsCell m t)(hz:z∈cl ts n):cz ltI z:=by
 obtain⟨_,_,t,J,aa⟩:=fD.mp hz;exact abK aa (aA t J).2.2
def n7(aA:∀t∈ts,IsCell m t)(hz:z∈cl ts n)(he:e∈cU z):e∈cl ts (n-1):=by
 obtain⟨J,aa,aE⟩:=(iU (pD aA hz)).mp he;obtain⟨aR,bX,t,ez,gi⟩:=fD.mp hz;exact fD.mpr ⟨⋯,by rintro rfl;simp at aa;lia,t,ez,aE.trans gi⟩
def Zs(c)(c7:c.length<=8):cL pg Φ ⟨1,2,aW.xJ⟩ [av c]=.ok (.lst ((eF c).map av)):=by
 simp![aW.xJ,nA];obtain⟨bP,e,x,he⟩:=hB (f:=D.int) (g:=turn pg Φ 0 [2] (.cons (.asg 1 (.bin .add (.bin .add (.var 1) (.lst (.cons (.tup (.cons (.var 2) (.nil))) (.nil)))) (.comp (.bin .add (.var 3) (.tup (.cons (.var 2) (.nil)))) 0 (.seq (.var 1)) (.none)))) (.nil)))
  (λaY ρ=>∃(x:Option D),ρ=[some (av c),some (.lst ((eF aY).map av)),x])
  c [some (av c),some (.lst []),none] ⟨none,rfl⟩ (λpre k post ρ aB ⟨x,b3⟩=>by
   subst b3;have d4:pre.length+1<=c.length:=(by rw[aB];simp);have J:=AE pre;have aa:2 ^ pre.length<=2 ^ 8:=abI ∅ ⋯;have e1:cV (elem pg Φ [some (av c),some (.lst ((eF pre).map av)),some (.int k)] (.bin .add (.var 3) (.tup (.cons (.var 2) (.nil)))) 0 .none) ((eF pre).map av)=.ok ((eF pre).map λz=>av (z++[k])):=hO λz hz=>by
    have hz:=((ql pre z).mp hz).2.length_le;have:ej .add (av z) (.tup [.int k])=.ok (av (z++[k])):=by
     unfold av;rw[ri,if_pos (by rw[List.length_map,gP];simp;lia),List.map_append];rfl
    simp![this]
   have a1:ej .add (.lst ((eF pre).map av)) (.lst [.tup [.int k]])=.ok (.lst ((eF pre++[[k]]).map av)):=by
    rw[mz,if_pos (by rw[List.length_map,gP];simp;lia),List.map_append];rfl
   have a2:ej .add (.lst ((eF pre++[[k]]).map av)) (.lst ((eF pre).map λz=>av (z++[k])))=.ok (.lst ((eF (pre++[k])).map av)):=by
    rw[mz,if_pos (by rw[List.length_map,List.length_map,aa7,gP];simp;lia),cw_snoc];simp only[List.map_append,List.map_map];rfl
   refine⟨_,by simp![a1,e1,a2],some (.int k),rfl⟩)
 rw[e,he];simp!
def OQ(xs ys):pM (some (some (.lst xs))) (.lst ys)=if xs.length+ys.length<=SZ then .ok (.lst (xs++ys)) else .bad:=ba rfl
def Ow(hf:∀c:List Int,c.length<=8->Φ f [av c]=.ok (.lst ((eF c).map av)))(aA:∀t∈ts,t.length<=8)(az:ts.length<=63)(zz:(cx ts).length<=63):
  cL pg Φ ⟨1,2,aW.xN f⟩ [bo m ts]=.ok (.lst ((cx ts).map av)):=by
 have ai:gD (bo m ts) (.int 1)=.ok (.tup (ts.map av)):=rfl;simp![aW.xN,ai];have n3:∀au:List (List Int),au.length<=63->(∀t∈au,t.length<=8)->(au.flatMap eF).length<=65280:=λau ax c7=>by
  have:=u2 (f:=eF) (k:=256) (xs:=au) λt ox=>by
   have aa:=AE t;have aR:2 ^ t.length<=2 ^ 8:=abI ∅ (c7 t ox);lia
  lia
 obtain⟨bP,e,x,he⟩:=hB (f:=av) (g:=turn pg Φ 0 [2] (.cons (.ext 1 (.call f (.cons (.var 2) (.nil)))) (.nil)))
  (λaY ρ=>∃(x:Option D),ρ=[some (bo m ts),some (.lst ((aY.flatMap eF).map av)),x])
  ts [some (bo m ts),some (.lst []),none] ⟨none,rfl⟩ (λpre t post ρ aB ⟨x,b3⟩=>by
   subst b3;have sx:t∈ts:=(by rw[aB];simp);have d4:pre.length+1<=ts.length:=(by rw[aB];simp);have J:=n3 pre ⋯ λt ox=>aA t (by rw[aB];simp[ox])
   have aa:=n3 [t] (by simp) λz hz=>by simp at hz;subst hz;exact aA z sx
   have hlen:((pre.flatMap eF).map av).length+((eF t).map av).length<=SZ:=by
    simp at aa;rw[List.length_map,List.length_map,gP];lia
   refine⟨_,by simp![Es,hf t (aA t sx),OQ,if_pos hlen];rfl,some (av t),?_⟩;simp[acX])
 rw[e,he];have aC:∀c∈ts.flatMap eF,c≠[]:=λc ag=>by
  obtain⟨t,_,ag⟩:=ads.mp ag;exact((ql _ _).mp ag).1
 have:(cX (ts.flatMap eF)).length<=63:=by unfold cx at zz;rw[m5]at zz;exact zz
 simp![wB aC this,cx]
def Mm(n:Nat)(hf:Φ f [bo m ts]=.ok (.lst ((cx ts).map av))):cL pg Φ ⟨2,0,aW.xI f⟩ [bo m ts,.int ((n:Int)-1)]=.ok (.tup ((cl ts n).map av)):=by
 have e1:cV (elem pg Φ [some (bo m ts),some (.int ((n:Int)-1))] (.var 2) 0 (.some (.cmp .eq (.bin .sub (.prim .len (.var 2)) (.lit (.int 1))) (.var 1)))) ((cx ts).map av)=.ok (((cx ts).filter λc=>decide (c.length=n)).map av):=i5 λc _=>by
  simp![kH]
  by_cases q:c.length=n
  .rw[decide_eq_true q,abx.mpr (show(c.length:Int)-1=(n:Int)-1 by lia)];rfl
  .rw[decide_eq_false q,abG.mpr (show(c.length:Int)-1≠(n:Int)-1 by lia)];rfl
 simp![aW.xI,hf,e1];rfl
noncomputable def mk(U:List (List Int)):List (List Int×Int):=U.zipIdx.map λp=>(p.1,((2 ^ p.2:Nat):Int))
def Tu(U)(c):mk (U++[c])=mk U++[(c,((2 ^ U.length:Nat):Int))]:=by unfold mk;rw[List.zipIdx_append,List.map_append];simp
def AU(U):(mk U).map (·.1)=U:=by
 unfold mk;rw[List.map_map];show U.zipIdx.map (λp=>p.1)=U;exact List.zipIdx_map_fst 0 U
def Tt(U):(mk U).length=U.length:=by have:=ab6 List.length (AU U);simpa using this
def idx_map{α β:Type}[DecidableEq α]{U:List α}(dH:U.Nodup)(g:α->Nat->β):U.map (λc=>g c (cY U c))=U.zipIdx.map λp=>g p.1 p.2:=by
 apply acy;intro i;rw[abj,abj,List.getElem?_zipIdx]
 by_cases h:i<U.length
 .rw[aba h];simp only[Option.map_some,dH.idxOf_getElem i h,acC]
 .rw[abu ⋯];rfl
def Zl(dH:U.Nodup)(ag:c∈U):o7 (mk U) c=some ((2 ^ cY U c:Nat):Int):=by
 unfold mk;rw[<- idx_map dH λc i=>(c,((2 ^ i:Nat):Int))];unfold o7;rw[List.find?_map];have:U.find? ((λp:List Int×Int=>decide (p.1=c)) ∘ λc=>(c,((2 ^ cY U c:Nat):Int)))=some c:=by
  have key:∀V:List (List Int),c∈V->V.find? ((λp:List Int×Int=>decide (p.1=c)) ∘ λc=>(c,((2 ^ cY U c:Nat):Int)))=some c:=λV=>by
   induction V with
   |nil=>intro h;cases h
   |cons v V aG =>
    intro h;rw[List.find?_cons]
    by_cases q:v=c
    .subst q;simp
    .rw[show((λp:List Int×Int=>decide (p.1=c)) ∘ λc=>(c,((2 ^ cY U c:Nat):Int))) v=false by simp[q]];exact aG ((aa8.mp h).resolve_left (ab1 q))
  exact key U ag
 rw[this];rfl
def Cg(c):gK (av c)=some c:=by
 show intsOf (c.map .int)=some c
 induction c with
 |nil=>rfl
 |cons x c aG=>rw[List.map_cons,intsOf,aG];rfl
def NJ(ao)(c)(n)(h:ao.length<1000)(ag:c∉ao.map (·.1)):pI (some (some (.b4 ao))) (some (some (av c))) (.int n)=.ok (.b4 (ao++[(c,n)])):=by
 have e:putN ao c n=ao++[(c,n)]:=by
  unfold putN;rw[if_neg];intro z;obtain⟨p,aB,q⟩:=aeJ.mp z;exact ag (List.mem_map.mpr ⟨p,aB,by simpa using q⟩)
 show(match some ao,gK (av c),some n with
  |some ao,some k,some n=>if ao.length<1000 then R.ok (D.b4 (putN ao k n)) else .bad
  |_,_,_=>_)=_
 rw[Cg];dsimp only;rw[if_pos h,e]
def yP(dH:U.Nodup)(ag:c∈U):lC (some (some (.b4 (mk U)))) (some (some (av c)))=.ok (.int ((2 ^ cY U c:Nat):Int)):=by
 show(match some (mk U),gK (av c) with
  |some ao,some k=>(match o7 ao k with|some n=>R.ok (D.int n)|none=>.bad)
  |_,_=>_)=_
 rw[Cg];dsimp only;rw[Zl dH ag]
def D0(U):pF (some (some (.b4 (mk U))))=.ok (U.map av):=by
 show R.ok ((mk U).map λp=>D.tup (p.1.map .int))=_;have:((mk U).map λp=>D.tup (p.1.map .int))=((mk U).map (·.1)).map av:=by rw[List.map_map];rfl
 rw[this,AU]
def NA(ao):rG (some (some (.b4 ao)))=.ok (.b4 ao):=ba rfl
def NB(ao):rG (some (some (.bK ao)))=.ok (.bK ao):=ba rfl
def S8(n:Nat)(hf:Φ f [bo m ts,.int ((n:Int)-1)]=.ok (.tup ((cl ts n).map av)))(az:(cl ts n).length<=63):cL pg Φ ⟨2,3,aW.x8 f⟩ [bo m ts,.int ((n:Int)-1)]=.ok (.b4 (mk (cl ts n))):=by
 simp![aW.x8,OD,hf];have dH:=i4 ts n;obtain⟨bP,e,x,he⟩:=hB (f:=av) (g:=turn pg Φ 0 [4] (.cons (.jI 2 4 (.var 3)) (.cons (.asg 3 (.bin .mul (.var 3) (.lit (.int 2)))) (.nil))))
  (λaY ρ=>∃(x:Option D),ρ=[some (bo m ts),some (.int ((n:Int)-1)),some (.b4 (mk aY)),some (.int ((2 ^ aY.length:Nat):Int)),x])
  (cl ts n) [some (bo m ts),some (.int ((n:Int)-1)),some (.b4 []),some (.int 1),none] ⟨none,rfl⟩ (λpre c post ρ aB ⟨x,b3⟩=>by
   subst b3;have d4:pre.length+1<=(cl ts n).length:=(by rw[aB];simp);have ag:c∉(mk pre).map (·.1):=by
    rw[AU];intro z;rw[aB]at dH;exact(adm.mp dH).2.2 c z c List.mem_cons_self rfl
   have af:=NJ (mk pre) c ((2 ^ pre.length:Nat):Int) (by rw[Tt];lia) ag;have hm:ej .mul (.int ((2 ^ pre.length:Nat):Int)) (.int 2)=.ok (.int ((2 ^ (pre++[c]).length:Nat):Int)):=by
    rw[lY _ _ (.inr ⟨by rw[j6];lia,by rw[j6];lia⟩),aa7,List.length_singleton,Nat.pow_succ];rfl
   refine⟨_,by simp![y8,af,hm];rfl,some (av c),?_⟩;rw[Tu])
 rw[e,he];simp![Et,NA]
def vA(is):intsOf (is.map .int)=some is:=Cg is
def XN{U xs:List (List Int)}(dH:U.Nodup)(ak:xs.Nodup)(h:∀x∈xs,x∈U):jr (xs.map λx=>D.int ((2 ^ cY U x:Nat):Int))=.ok (.int (cm U xs:Int)):=by
 have:=vA (xs.map λx=>((2 ^ cY U x:Nat):Int));rw[List.map_map]at this;unfold jr;rw[show(xs.map λx=>D.int ((2 ^ cY U x:Nat):Int))=xs.map (D.int ∘ λx=>((2 ^ cY U x:Nat):Int)) from rfl,this];dsimp only;rw[GR dH ak h]
def LC(dH:U.Nodup)(ak:xs.Nodup)(h:∀x∈xs,x∈U):cL pg Φ ⟨2,0,aW.xH⟩ [.lst (xs.map av),.b4 (mk U)]=.ok (.int (cm U xs:Int)):=by
 have e1:cV (elem pg Φ [some (.lst (xs.map av)),some (.b4 (mk U))] (.ig 1 2) 0 .none) (xs.map av)=.ok (xs.map λx=>D.int ((2 ^ cY U x:Nat):Int)):=hO λx ak=>by
  simp![rW,yP dH (h x ak)]
 simp![aW.xH,e1,HJ,XN dH ak h]
def xw(a b:Nat):ej .and (.int (a:Int)) (.int (b:Int))=.ok (.int ((a &&& b:Nat):Int)):=by
 show nX (a:Int) (b:Int)=_;unfold nX;rw[if_pos (ac9 a),if_pos (ac9 b)];rfl
def ZD(a b:Nat):ej .xor (.int (a:Int)) (.int (b:Int))=.ok (.int ((a ^^^ b:Nat):Int)):=by
 show t2 (a:Int) (b:Int)=_;unfold t2;rw[if_pos ⟨ac9 a,ac9 b⟩];rfl
def CZ(a k):((a &&& 2 ^ k:Nat):Int)=0<->a.testBit k=false:=by
 have key:a &&& 2 ^ k=0<->a.testBit k=false:=by
  constructor
  .intro h;have:=ab6 (λz=>z.testBit k) h;simpa[aed,acT] using this
  .intro h;apply acR;intro i;rw[aed,adu,acZ]
   by_cases q:k=i
   .rw[<- q,h];rfl
   .simp[q]
 rw[<- key];lia
def G1(a k):e5 .ne (.int ((a &&& 2 ^ k:Nat):Int)) (.int 0)=.ok (a.testBit k):=by
 show hI (.ok (((a &&& 2 ^ k:Nat):Int)==0))=_;cases q:a.testBit k with
 |false=>rw[abx.mpr ((CZ a k).mpr q)];rfl
 |true=>rw[abG.mpr λz=>by rw[(CZ a k).mp z]at q;cases q];rfl
def L4(dH:U.Nodup)(b:Nat):cL pg Φ ⟨2,0,aW.xK⟩ [.int (b:Int),.b4 (mk U)]=.ok (.tup ((U.filter λc=>b.testBit (cY U c)).map av)):=by
 have e1:cV (elem pg Φ [some (.int (b:Int)),some (.b4 (mk U))] (.var 2) 0 (.some (.cmp .ne (.bin .and (.var 0) (.ig 1 2)) (.lit (.int 0))))) (U.map av)=.ok ((U.filter λc=>b.testBit (cY U c)).map av):=i5 λc ag=>by
  have:=G1 b (cY U c);simp![rW,yP dH ag,xw];have aa:hI (.ok (((b &&& 2 ^ cY U c:Nat):Int)==0))=.ok (b.testBit (cY U c)):=this;rw[show hI (.ok (((b &&& 2 ^ cY U c:Nat):Int)==0))=R.ok (!(((b &&& 2 ^ cY U c:Nat):Int)==0)) from rfl]at aa;injection aa with aa;rw[aa];cases b.testBit (cY U c)<;>rfl
 simp![aW.xK,uR,D0,e1]
noncomputable def b9(r:Row):D:=.tup [.int (r.1:Int),.int (r.2:Int)]
noncomputable def e2(ts:List (List Int))(n:Nat):List Nat:=(cl ts n).map λc=>cm (cl ts (n-1)) (cU c)
def VW{dz bB pP:Nat}(n:Nat)(aA:∀t∈ts,IsCell m t)(c7:m<=6)(hm:∀n:Nat,Φ pP [bo m ts,.int ((n:Int)-1)]=.ok (.b4 (mk (cl ts n))))(af:∀c:List Int,c.length<=1000->Φ bB [av c]=.ok (.lst ((cU c).map av)))(ae:∀U xs:List (List Int),U.Nodup->xs.Nodup->(∀x∈xs,x∈U)->Φ dz [.lst (xs.map av),.b4 (mk U)]=.ok (.int (cm U xs:Int))):
  cL pg Φ ⟨2,2,aW.ya dz bB pP⟩ [bo m ts,.int (n:Int)]=.ok (.lst ((dY (e2 ts (n+1))).map b9)):=by
 have dH:=i4 ts (n+1);have oE:=hm n;have qk:Φ pP [bo m ts,.int (n:Int)]=.ok (.b4 (mk (cl ts (n+1)))):=by
  have:=hm (n+1);rwa[show(((n+1:Nat):Int)-1)=(n:Int) by lia]at this
 have e1:cV (elem pg Φ [some (bo m ts),some (.int (n:Int)),some (.b4 (mk (cl ts n))),some (.b4 (mk (cl ts (n+1))))] (.tup (.cons (.call dz (.cons (.call bB (.cons (.var 4) (.nil))) (.cons (.var 2) (.nil)))) (.cons (.ig 3 4) (.nil)))) 0 .none) ((cl ts (n+1)).map av)=.ok ((cl ts (n+1)).map λc=>b9 (cm (cl ts n) (cU c),2 ^ cY (cl ts (n+1)) c)):=hO λc ag=>by
  have oi:=pD aA ag;have hlen:c.length<=1000:=by
   obtain⟨_,_,t,J,aa⟩:=fD.mp ag;have:=aa.length_le;have:=pB (aA t J);lia
  simp![rW,af c hlen,ae (cl ts n) (cU c) (i4 ts n) (qF oi) (λe he=>n7 aA ag he),yP dH ag];rfl
 have ar:(dY (e2 ts (n+1))).map b9=(cl ts (n+1)).map λc=>b9 (cm (cl ts n) (cU c),2 ^ cY (cl ts (n+1)) c):=by
  rw[idx_map dH λc i=>b9 (cm (cl ts n) (cU c),2 ^ i)];unfold dY e2;rw[List.zipIdx_map,List.map_map,List.map_map];rfl
 simp![aW.ya,oE,qk,uR,D0,e1,ar]
def lR(r):gD (b9 r) (.int 0)=.ok (.int (r.1:Int)):=rfl
def F7(r):gD (b9 r) (.int 1)=.ok (.int (r.2:Int)):=rfl
def XP(r q):cL pg Φ ⟨2,0,aW.yd⟩ [b9 r,b9 q]=.ok (b9 (r.1 ^^^ q.1,r.2 ^^^ q.2)):=by
 simp![aW.yd,lR,F7,ZD];rfl
noncomputable def dm(B:c6):List (Int×Int×Int):=B.map λe=>(((2 ^ e.1:Nat):Int),(e.2.1:Int),(e.2.2:Int))
def HF(h:a≠b):((2 ^ a:Nat):Int)≠((2 ^ b:Nat):Int):=λz=>by
 have z:2 ^ a=2 ^ b:=Int.ofNat.inj z;rcases adF a b with q|q|q
 .have:=acQ (show 1<2 by decide) q;lia
 .exact h q
 .have:=acQ (show 1<2 by decide) q;lia
theorem J6 : ∀ {B : c6}, (B.map (·.1)).Nodup -> ∀ e ∈ B, nG (dm B) ((2 ^ e.1 : Nat) : Int) = some ((e.2.1 : Int), (e.2.2 : Int))
  | f :: B, h, e, he => by
    obtain ⟨J, aa⟩ := abD.mp h
    unfold nG dm
    rw [List.map_cons, List.find?_cons]
    dsimp only
    by_cases q : f.1 = e.1
    · have : f = e := by
        rcases aa8.mp he with z | z
        · exact z.symm
        · exact absurd (List.mem_map.mpr ⟨e, z, q.symm⟩) J
      subst this
      rw [decide_eq_true rfl]
      rfl
    · rw [decide_eq_false (HF q)]
      exact J6 aa e ((aa8.mp he).resolve_left fun z => q (by rw [z]))
def DZ{B:c6}(h:(B.map (·.1)).Nodup)(he:e∈B):lC (some (some (.bK (dm B)))) (some (some (.int ((2 ^ e.1:Nat):Int))))=.ok (b9 e.2):=by
 show(match some (dm B),some ((2 ^ e.1:Nat):Int) with
  |some ao,some k=>(match nG ao k with|some r=>R.ok (oV r)|none=>.bad)
  |_,_=>R.bad)=_
 dsimp only;rw[J6 h e he];rfl
def D2(B):pF (some (some (.bK (dm B))))=.ok (B.map λe=>D.int ((2 ^ e.1:Nat):Int)):=by
 show R.ok ((dm B).map λp=>D.int p.1)=_;unfold dm;rw[List.map_map];rfl
def VM(B)(e)(r):red (B++[e]) r=one (red B r) e:=by unfold red;rw[List.foldl_append];rfl
def VO(hf:∀r q:Row,Φ f [b9 r,b9 q]=.ok (b9 (r.1 ^^^ q.1,r.2 ^^^ q.2))){B:c6}(h:(B.map (·.1)).Nodup)(r):cL pg Φ ⟨2,1,aW.x9 f⟩ [b9 r,.bK (dm B)]=.ok (b9 (red B r)):=by
 simp![aW.x9,uR,D2];obtain⟨bP,e,x,he⟩:=hB (f:=λe:Nat×Row=>D.int ((2 ^ e.1:Nat):Int)) (g:=turn pg Φ 0 [2] (.cons (.iff (.cmp .ne (.bin .and (.idx (.var 0) (.lit (.int 0))) (.var 2)) (.lit (.int 0))) (.cons (.asg 0 (.call f (.cons (.var 0) (.cons (.ig 1 2) (.nil))))) (.nil)) (.nil)) (.nil)))
  (λaY ρ=>∃(x:Option D),ρ=[some (b9 (red aY r)),some (.bK (dm B)),x])
  B [some (b9 r),some (.bK (dm B)),none] ⟨none,rfl⟩ (λpre e post ρ aB ⟨x,b3⟩=>by
   subst b3;have iN:e∈B:=(by rw[aB];simp);have aC:=G1 (red pre r).1 e.1;have aC:hI (.ok ((((red pre r).1 &&& 2 ^ e.1:Nat):Int)==0))=.ok ((red pre r).1.testBit e.1):=aC;rw[VM];unfold one;cases q:(red pre r).1.testBit e.1 with
   |true =>
    rw[q]at aC;refine⟨_,by simp![lR,xw,aC,rW,DZ h iN,hf],some (.int ((2 ^ e.1:Nat):Int)),rfl⟩
   |false =>
    rw[q]at aC;refine⟨_,by simp![lR,xw,aC],some (.int ((2 ^ e.1:Nat):Int)),rfl⟩)
 rw[e,he];simp!
def SX(n:Nat)(h:0<n):cL pg Φ ⟨1,0,aW.x7⟩ [.int (n:Int)]=.ok (.int ((2 ^ lo n:Nat):Int)):=by
 have e:ej .and (.int (n:Int)) (.int (-(n:Int)))=.ok (.int ((2 ^ lo n:Nat):Int)):=by
  show nX (n:Int) (-(n:Int))=_;unfold nX;rw[if_pos (ac9 n),if_neg ⋯];obtain⟨_,_,aE,aR⟩:=GA n h;have bX:(-(-(n:Int))-1).toNat=n-1:=⋯;rw[bX,Int.toNat_natCast];congr 2;lia
 simp![aW.x7,Ep,e]
def D6(ao)(k)(r)(h:ao.length<1000)(ag:k∉ao.map (·.1)):pI (some (some (.bK ao))) (some (some (.int k))) (b9 r)=.ok (.bK (ao++[(k,(r.1:Int),(r.2:Int))])):=by
 have e:l3 ao k ((r.1:Int),(r.2:Int))=ao++[(k,(r.1:Int),(r.2:Int))]:=by
  unfold l3;rw[if_neg];intro z;obtain⟨p,aB,q⟩:=aeJ.mp z;exact ag (List.mem_map.mpr ⟨p,aB,by simpa using q⟩)
 show(if ao.length<1000 then R.ok (D.bK (l3 ao k ((r.1:Int),(r.2:Int)))) else .bad)=_;rw[if_pos h,e]
def NG(k)(r):rJ (some (some (.int ((2 ^ k:Nat):Int)))) (some (some (b9 r)))=.ok (.bK (dm [(k,r)])):=rfl
def DV(B){k:Nat}(h:k∉B.map (·.1)):((2 ^ k:Nat):Int)∉(dm B).map (·.1):=λz=>by
 unfold dm at z;rw[List.map_map]at z;obtain⟨e,he,q⟩:=List.mem_map.mp z;exact HF (λw=>h (List.mem_map.mpr ⟨e,he,w⟩)) q
def PQ{fr e7:Nat}(a3:∀(B:c6)(r:Row),(B.map (·.1)).Nodup->Φ fr [b9 r,.bK (dm B)]=.ok (b9 (red B r)))(az:∀n:Nat,0<n->Φ e7 [.int (n:Int)]=.ok (.int ((2 ^ lo n:Nat):Int))){B:c6}(h:dr B)(dW:B.length<900)(r):
  cL pg Φ ⟨2,4,aW.uv fr e7⟩ [.bK (dm B),b9 r]=.ok (.bK (dm (grow B r))):=by
 have aC:=rR h;have aZ:=r5 h r
 by_cases c:(red B r).1=0
 .have hz:(((red B r).1:Int)==0)=true:=(by rw[c];rfl);simp![aW.uv,a3 B r aC,lR,hz];unfold grow;rw[if_pos c]
 .have hz:(((red B r).1:Int)==0)=false:=abG.mpr ⋯;have ax:=az (red B r).1 ⋯;have oa:grow B r=B.map (λe=>(e.1,one e.2 (lo (red B r).1,red B r)))++[(lo (red B r).1,red B r)]:=(by unfold grow;rw[if_neg c]);rw[oa]at aZ ⊢;have vk:=rR aZ;simp![aW.uv,a3 B r aC,lR,hz,ax,OE,uR,D2];generalize red B r=l at vk;generalize lo l.1=k at vk;have E3:((B.map λe=>(e.1,one e.2 (k,l))).map (·.1))=B.map (·.1):=(by rw[List.map_map];rfl);have QB:k∉B.map (·.1):=by
   rw[List.map_append,E3]at vk;exact λz=>(adm.mp vk).2.2 k z k (by simp) rfl
  obtain⟨bP,e,x,he⟩:=hB (f:=λe:Nat×Row=>D.int ((2 ^ e.1:Nat):Int)) (g:=turn pg Φ 0 [5] (.cons (.jI 4 5 (.call fr (.cons (.ig 0 5) (.cons (.pG 3 2) (.nil))))) (.nil)))
   (λaY ρ=>∃(x:Option D),ρ=[some (.bK (dm B)),some (b9 r),some (b9 l),some (.int ((2 ^ k:Nat):Int)),some (.bK (dm (aY.map λe=>(e.1,one e.2 (k,l))))),x])
   B [some (.bK (dm B)),some (b9 r),some (b9 l),some (.int ((2 ^ k:Nat):Int)),some (.bK []),none] ⟨none,rfl⟩ (λpre e post ρ aB ⟨x,b3⟩=>by
    subst b3;have iN:e∈B:=(by rw[aB];simp);have d4:pre.length+1<=B.length:=(by rw[aB];simp);have J:=a3 [(k,l)] e.2 (by simp);have J:Φ fr [b9 e.2,.bK (dm [(k,l)])]=.ok (b9 (one e.2 (k,l))):=J;have dT:e.1∉(pre.map λe=>(e.1,one e.2 (k,l))).map (·.1):=by
     rw[List.map_map];intro z;have z:e.1∈pre.map (·.1):=z;rw[aB,List.map_append,List.map_cons]at aC;exact(adm.mp aC).2.2 e.1 z e.1 List.mem_cons_self rfl
    have aa:=D6 (dm (pre.map λe=>(e.1,one e.2 (k,l)))) ((2 ^ e.1:Nat):Int) (one e.2 (k,l)) (by unfold dm;simp;lia) (DV _ dT);refine⟨_,by simp![y8,rW,Oi,DZ aC iN,NG,J,aa];rfl,some (.int ((2 ^ e.1:Nat):Int)),?_⟩;unfold dm;simp only[List.map_append,List.map_cons,ac4])
  rw[e,he];have aE:=D6 (dm (B.map λe=>(e.1,one e.2 (k,l)))) ((2 ^ k:Nat):Int) l (by unfold dm;simp;lia) (DV _ (by rw[E3];exact QB));simp![y8,aE,Et,NB];unfold dm;simp only[List.map_append,List.map_cons,ac4]
def PO(B)(rs)(r):dD B (rs++[r])=grow (dD B rs) r:=by unfold dD;rw[List.foldl_append];rfl
def EZ(B)(r):(grow B r).length<=B.length+1:=by rw[r6];split<;>lia
theorem u7:∀(rs:List Row)(B:c6),(dD B rs).length<=B.length+rs.length
 |[],B=>aa9 _
 |r::rs,B=>by
  have J:=u7 rs (grow B r);have aa:=EZ B r;show(dD (grow B r) rs).length<=_;rw[List.length_cons];lia
def Ap(rs):(el rs).1=dD [] rs:=by
 have key:∀(rs:List Row)(st:c6×List Nat),(rs.foldl step st).1=dD st.1 rs:=λrs=>by
  induction rs with
  |nil=>intro st;rfl
  |cons r rs aG=>intro st;exact aG (step st r)
 exact key rs ([],[])
def FV(rs):(el rs).2.length<=rs.length:=by
 have key:∀(rs:List Row)(st:c6×List Nat),(rs.foldl step st).2.length<=st.2.length+rs.length:=λrs=>by
  induction rs with
  |nil=>intro st;exact aa9 _
  |cons r rs aG =>
   intro st;have J:=aG (step st r);have aa:(step st r).2.length<=st.2.length+1:=(by unfold step;dsimp only;split<;>simp);show(rs.foldl step (step st r)).2.length<=_;rw[List.length_cons];lia
 have:=key rs ([],[]);simp only[List.length_nil,acC]at this;exact this
def Lv(aZ:∀(B:c6)(r:Row),dr B->B.length<900->Φ ih [.bK (dm B),b9 r]=.ok (.bK (dm (grow B r))))(az:rs.length<=63):cL pg Φ ⟨1,2,aW.xG ih⟩ [.lst (rs.map b9)]=.ok (.bK (dm (dD [] rs))):=by
 simp![aW.xG,Ek];obtain⟨bP,e,x,he⟩:=hB (f:=b9) (g:=turn pg Φ 0 [2] (.cons (.asg 1 (.call ih (.cons (.var 1) (.cons (.var 2) (.nil))))) (.nil)))
  (λaY ρ=>∃(x:Option D),ρ=[some (.lst (rs.map b9)),some (.bK (dm (dD [] aY))),x])
  rs [some (.lst (rs.map b9)),some (.bK []),none] ⟨none,rfl⟩ (λpre r post ρ aB ⟨x,b3⟩=>by
   subst b3;have d4:pre.length+1<=rs.length:=(by rw[aB];simp);have J:=u7 pre [];have aa:=aZ (dD [] pre) r (hS dr.nil) (by simp at J;lia);rw[PO];refine⟨_,by simp![aa],some (b9 r),rfl⟩)
 rw[e,he];simp!
def xy(xs)(d)(h:xs.length<SZ):rk (some (some (.lst xs))) d=.ok (.lst (xs++[d])):=by rw[uq,if_pos h]
def RH{ih fr:Nat}(aZ:∀(B:c6)(r:Row),dr B->B.length<900->Φ ih [.bK (dm B),b9 r]=.ok (.bK (dm (grow B r))))(a3:∀(B:c6)(r:Row),(B.map (·.1)).Nodup->Φ fr [b9 r,.bK (dm B)]=.ok (b9 (red B r)))(az:rs.length<=63):
  cL pg Φ ⟨1,4,aW.xP ih fr⟩ [.lst (rs.map b9)]=.ok (.lst ((el rs).2.map λb:Nat=>D.int (b:Int))):=by
 simp![aW.xP,Ek];obtain⟨bP,e,x,y,he⟩:=hB (f:=b9) (g:=turn pg Φ 0 [3] (.cons (.asg 4 (.call fr (.cons (.var 3) (.cons (.var 1) (.nil))))) (.cons (.iff (.cmp .eq (.idx (.var 4) (.lit (.int 0))) (.lit (.int 0))) (.cons (.app 2 (.idx (.var 4) (.lit (.int 1)))) (.nil)) (.nil)) (.cons (.asg 1 (.call ih (.cons (.var 1) (.cons (.var 3) (.nil))))) (.nil)))))
  (λaY ρ=>∃(x y:Option D),ρ=[some (.lst (rs.map b9)),some (.bK (dm (el aY).1)),some (.lst ((el aY).2.map λb:Nat=>D.int (b:Int))),x,y])
  rs [some (.lst (rs.map b9)),some (.bK []),some (.lst []),none,none] ⟨none,none,rfl⟩ (λpre r post ρ aB ⟨x,y,b3⟩=>by
   subst b3;have d4:pre.length+1<=rs.length:=(by rw[aB];simp);have J:=u7 pre [];have aR:=FV pre;have mW:dr (el pre).1:=(by rw[Ap];exact hS dr.nil);have aa:=aZ (el pre).1 r mW (by rw[Ap];simp at J;lia);have aE:=a3 (el pre).1 r (rR mW);rw[FW];unfold step;dsimp only
   by_cases c:(red (el pre).1 r).1=0
   .have hz:(((red (el pre).1 r).1:Int)==0)=true:=(by rw[c];rfl);have bX:=xy ((el pre).2.map λb:Nat=>D.int (b:Int)) (.int ((red (el pre).1 r).2:Int)) (by rw[List.length_map,gP];lia);rw[if_pos c];refine⟨_,by simp![aE,lR,F7,hz,bX,aa];rfl,some (b9 r),some (b9 (red (el pre).1 r)),?_⟩;rw[List.map_append];rfl
   .have hz:(((red (el pre).1 r).1:Int)==0)=false:=abG.mpr ⋯;rw[if_neg c];refine⟨_,by simp![aE,lR,hz,aa],some (b9 r),some (b9 (red (el pre).1 r)),rfl⟩)
 rw[e,he];simp!
noncomputable def hN(U:List (List Int))(b:Nat):D:=.tup ((U.filter λc=>b.testBit (cY U c)).map av)
theorem I7{α:Type}(f):∀xs:List α,∃ys:List α,ys.Perm xs/\hk (xs.map f)=ys.map f
 |[]=>⟨[],.nil,rfl⟩
 |x::xs=>by
  have ins:∀ys:List α,∃zs:List α,zs.Perm (x::ys)/\p9 (f x) (ys.map f)=zs.map f:=λys=>by
   induction ys with
   |nil=>exact⟨[x],.refl _,rfl⟩
   |cons y ys aG =>
    rw[List.map_cons,p9]
    split
    .obtain⟨zs,p,e⟩:=aG;exact⟨y::zs,(p.cons y).trans (List.Perm.swap x y ys),by rw[e];rfl⟩
    .exact⟨x::y::ys,.refl _,rfl⟩
  obtain⟨ys,p,e⟩:=I7 f xs;obtain⟨zs,p2,ar⟩:=ins ys;exact⟨zs,p2.trans (p.cons x),by rw[List.map_cons,hk,e,ar]⟩
def L3(dH:U.Nodup)(aC:∀c∈U,c≠[])(h0:b≠0)(ae:b<2 ^ U.length):oz (hN U b)=true:=by
 obtain⟨i,ai⟩:∃i,b.testBit i=true:=Nat.exists_testBit_of_ne_zero h0;have bV:i<U.length:=by
  rcases aeQ i U.length with q|q
  .exact q
  .rw[abP (abl ae (abI ∅ q))]at ai;cases ai
 have hm:U[i]∈U.filter λc=>b.testBit (cY U c):=List.mem_filter.mpr ⟨List.getElem_mem bV,by rw[F9 dH bV];exact ai⟩
 have ag:∀c∈U.filter λc=>b.testBit (cY U c),c≠[]:=λc h=>aC c (List.mem_filter.mp h).1
 unfold hN;generalize (U.filter λc=>b.testBit (cY U c))=cs at hm ag;cases cs with
 |nil=>cases hm
 |cons c cs =>
  have:=yK ag;exact this
def tE(ts)(n):(e2 ts n).length=(cl ts n).length:=by unfold e2;rw[List.length_map]
def GP(as):(dY as).length=as.length:=by unfold dY;simp
def Lu(n)(aA:∀t∈ts,IsCell m t):∀r∈dY (e2 ts (n+2)),r.1<2 ^ (e2 ts (n+1)).length/\bd (e2 ts (n+1)) r.1=0:=by
 intro r a3;obtain⟨p,aB,rfl⟩:=List.mem_map.mp a3;have Q4:p.1∈e2 ts (n+2):=List.fst_mem_of_mem_zipIdx aB;obtain⟨c,ag,e⟩:=List.mem_map.mp Q4;dsimp only;rw[<- e,tE];have oi:=pD aA ag;have fu:∀x∈cU c,x∈cl ts (n+1):=λx ak=>n7 aA ag ak
 refine⟨oJ fu,H4 (i4 ts n) fu (λx ak=>⟨qF (tM oi ak),λy aP=>n7 aA (fu x ak) aP⟩) λy=>?_⟩;have z:=DO oi y;refine(ab6 (· % 2) (?e:_=cnt y (cU c))).trans ?_
 case e=>exact adk λx _=>by simp only[abk]
 lia
structure Told(ts:List (List Int))(n:Nat)(G:List Nat):Prop where
 len:G.length+(dD [] (dY (e2 ts (n+2)))).length+(dD [] (dY (e2 ts (n+1)))).length=(cl ts (n+1)).length
def Tr(as):(dY as).map (·.1)=as:=by
 unfold dY;rw[List.map_map];exact List.zipIdx_map_fst 0 as
def V4{pO zp fr ih fc pP dz:Nat}(n:Nat)(aA:∀t∈ts,IsCell m t)(c7:m<=6)(ai:∀rs:List Row,rs.length<=63->Φ pO [.lst (rs.map b9)]=.ok (.lst ((el rs).2.map λb:Nat=>D.int (b:Int))))(FJ:∀n:Nat,Φ zp [bo m ts,.int (n:Int)]=.ok (.lst ((dY (e2 ts (n+1))).map b9)))(a3:∀(B:c6)(r:Row),(B.map (·.1)).Nodup->Φ fr [b9 r,.bK (dm B)]=.ok (b9 (red B r)))(aZ:∀(B:c6)(r:Row),dr B->B.length<900->Φ ih [.bK (dm B),b9 r]=.ok (.bK (dm (grow B r))))(ag:∀(U:List (List Int))(b:Nat),U.Nodup->Φ fc [.int (b:Int),.b4 (mk U)]=.ok (hN U b))(hm:Φ pP [bo m ts,.int (n:Int)]=.ok (.b4 (mk (cl ts (n+1)))))(ae:∀rs:List Row,rs.length<=63->Φ dz [.lst (rs.map b9)]=.ok (.bK (dm (dD [] rs)))):
  ∃G:List Nat,cL pg Φ ⟨2,5,aW.yb pO zp fr ih fc pP dz⟩ [bo m ts,.int (n:Int)]=.ok (.tup (G.map (hN (cl ts (n+1)))))/\Told ts n G:=by
 have l1:(dY (e2 ts (n+1))).length<=63:=by rw[GP,tE];exact ry c7 aA _
 have fC:(dY (e2 ts (n+2))).length<=63:=by rw[GP,tE];exact ry c7 aA _
 have aH:=FJ n;have aT:Φ zp [bo m ts,.int ((n:Int)+1)]=.ok (.lst ((dY (e2 ts (n+2))).map b9)):=FJ (n+1);have eW:=ai _ l1;have b1:=ae _ fC;have dH:=i4 ts (n+1);have st:=BZ (e2 ts (n+1));have tC:=V3 (e2 ts (n+1)) _ (Lu n aA);have zG:=FV (dY (e2 ts (n+1)));have bI:=st.len;rw[Ap,tE]at bI;have BK:=st.i8;rw[tE]at BK;have vc:=u7 (dY (e2 ts (n+2))) [];simp only[List.length_nil,acC]at vc;have E7:=hS (rs:=dY (e2 ts (n+2))) dr.nil;simp![aW.yb,aH,aT,eW,b1,hm];generalize (el (dY (e2 ts (n+1)))).2=F at tC bI BK zG;generalize PV:dD [] (dY (e2 ts (n+2)))=gZ at tC vc E7;obtain⟨bP,e,x,y,J,aa,aE,aR,he⟩:=hB (f:=λb:Nat=>D.int (b:Int)) (g:=turn pg Φ 0 [5] (.cons (.asg 6 (.tup (.cons (.var 5) (.cons (.lit (.int 0)) (.nil))))) (.cons (.iff (.cmp .ne (.idx (.call fr (.cons (.var 6) (.cons (.var 2) (.nil)))) (.lit (.int 0))) (.lit (.int 0))) (.cons (.app 4 (.call fc (.cons (.var 5) (.cons (.var 3) (.nil))))) (.cons (.asg 2 (.call ih (.cons (.var 2) (.cons (.var 6) (.nil))))) (.nil))) (.nil)) (.nil))))
  (λaY ρ=>∃(x y:Option D),dr (aY.foldl tell (gZ,[])).1/\(aY.foldl tell (gZ,[])).1.length<=gZ.length+aY.length/\(aY.foldl tell (gZ,[])).2.length<=aY.length/\(∀b∈(aY.foldl tell (gZ,[])).2,b≠0/\b<2 ^ (cl ts (n+1)).length) /\
   ρ=[some (bo m ts),some (.int (n:Int)),some (.bK (dm (aY.foldl tell (gZ,[])).1)),some (.b4 (mk (cl ts (n+1)))),some (.lst ((aY.foldl tell (gZ,[])).2.map (hN (cl ts (n+1))))),x,y])
  F [some (bo m ts),some (.int (n:Int)),some (.bK (dm gZ)),some (.b4 (mk (cl ts (n+1)))),some (.lst []),none,none] ⟨none,none,E7,aa9 _,aa9 _,(λ_ h=>nomatch h),rfl⟩ (λpre b post ρ aB ⟨x,y,J,aa,aE,aR,b3⟩=>by
   subst b3;have P9:b∈F:=(by rw[aB];simp);have d4:pre.length+1<=F.length:=(by rw[aB];simp);rw[List.foldl_append];show ∃bP,_/\∃x y,dr (tell (pre.foldl tell (gZ,[])) b).1/\(tell (pre.foldl tell (gZ,[])) b).1.length<=gZ.length+(pre++[b]).length/\(tell (pre.foldl tell (gZ,[])) b).2.length<=(pre++[b]).length/\(∀z∈(tell (pre.foldl tell (gZ,[])) b).2,z≠0/\z<2 ^ (cl ts (n+1)).length)/\bP=[some (bo m ts),some (.int (n:Int)),some (.bK (dm (tell (pre.foldl tell (gZ,[])) b).1)),some (.b4 (mk (cl ts (n+1)))),some (.lst ((tell (pre.foldl tell (gZ,[])) b).2.map (hN (cl ts (n+1))))),x,y];generalize pre.foldl tell (gZ,[])=w at J aa aE aR;obtain⟨B,G⟩:=w;dsimp only at J aa aE aR;have g1:=r5 J (bare b);have g2:=EZ B (bare b);have g3:=a3 B (bare b) (rR J);have oe:=aZ B (bare b) J ⋯;have PA:=ag (cl ts (n+1)) b dH;have eu:D.tup [.int (b:Int),.int 0]=b9 (bare b):=rfl;have ZI:=wa (r:=bare b) J;unfold tell;dsimp only
   by_cases c:(red B (bare b)).1=0
   .have hz:(((red B (bare b)).1:Int)==0)=true:=(by rw[c];rfl);have rT:grow B (bare b)=B:=(by unfold grow;rw[if_pos c]);rw[if_pos c,rT];refine⟨_,by simp![eu,g3,lR,hz],some (.int (b:Int)),some (b9 (bare b)),J,by rw[aa7];lia,by rw[aa7];lia,aR,rfl⟩
   .have hz:(((red B (bare b)).1:Int)==0)=false:=abG.mpr ⋯;have bX:=xy (G.map (hN (cl ts (n+1)))) (hN (cl ts (n+1)) b) (by rw[List.length_map,gP];lia);rw[if_neg c];refine⟨_,by simp![eu,g3,lR,hz,PA,bX,oe];rfl,some (.int (b:Int)),some (b9 (bare b)),g1,by rw[aa7,List.length_singleton];lia,by rw[aa7,aa7];simp;lia,λz hz=>?_,?_⟩
    .rcases abn.mp hz with hz|hz
     .exact aR z hz
     .rw[abg.mp hz];exact⟨λe=>c (ZI.mpr (by rw[e];exact qJ _)),BK b P9⟩
    .rw[List.map_append];rfl)
 rw[e,he];generalize t1:(F.foldl tell (gZ,[])).2=N at tC aE aR;have ve:(N.map (hN (cl ts (n+1)))).all oz=true:=by
  rw[List.all_map,aby];exact λb ae=>L3 dH (λc ag=>(fD.mp ag).2.1) (aR b ae).1 (aR b ae).2
 obtain⟨G,p,NQ⟩:=I7 (hN (cl ts (n+1))) N;have af:Den.sorted (N.map (hN (cl ts (n+1))))=.ok (.lst (G.map (hN (cl ts (n+1))))):=by
  unfold Den.sorted;rw[ve,adL,Bool.true_and,if_pos,NQ];rw[List.length_map,abk];lia
 refine⟨G,by simp![t1,af],⟨?_⟩⟩;rw[p.length_eq,PV];lia
noncomputable def nn(ts:List (List Int))(k:Nat):Nat:=(cl ts (k+1)).length
noncomputable def eI(ts:List (List Int))(k:Nat):Nat:=dM (e2 ts (k+1))
noncomputable def cZ(ts:List (List Int))(k:Nat):Nat:=nn ts k-eI ts (k+1)-eI ts k
def H6(ts)(k):(dD [] (dY (e2 ts (k+1)))).length=eI ts k:=by
 unfold eI;rw[Ie,Tr]
def Told.sum(h:Told ts n G):cZ ts n=G.length/\cZ ts n+eI ts (n+1)+eI ts n=nn ts n:=by
 have:=h.len;rw[H6,H6]at this;have this:G.length+eI ts (n+1)+eI ts n=nn ts n:=this;unfold cZ;lia
def IX(ρ)(c):cU (c.map ρ)=(cU c).map (List.map ρ):=by
 unfold cU;rw[List.length_map]
 split
 .rw[List.map_map];refine abB λk _=>?_
  simp only[Function.comp,List.map_append,List.map_take,List.map_drop]
 .rfl
structure Move(ts k7:List (List Int))(s t:List Int)(ρ w7:Int->Int):Prop where
 fwd:∀n z,z∈cl ts n->z≠s->z≠t->z.map ρ∈cl k7 n/\(z.map ρ).map w7=z
 bwd:∀n z,z∈cl k7 n->∃y∈cl ts n,y≠s/\y≠t/\z=y.map ρ
structure ZL(ts:List (List Int))(s t:List Int):Prop where
 aaV:t∈cl ts t.length
 cU:s∈cU t
 one:∀d,d∈cl ts (s.length+1)->s∈c2.cU d->d=t
section
noncomputable def col(ts:List (List Int))(n:Nat)(c:List Int):Nat:=cm (cl ts n) (c2.cU c)
end
section
variable{m:Int}{ts:List (List Int)}{s t:List Int}
def kg(aA:∀t∈ts,IsCell m t)(hz:z∈cx ts):cz ltI z/\z≠[]/\z∈cl ts z.length:=by
 obtain⟨J,t,aa,aE⟩:=hg.mp hz;exact⟨abK aE (aA t aa).2.2,J,fD.mpr ⟨rfl,J,t,aa,aE⟩⟩
def pK(hz:z∈cl ts n):z∈cx ts:=by
 obtain⟨_,J,aa⟩:=fD.mp hz;exact hg.mpr ⟨J,aa⟩
def oc(hz:z∈cx ts)(af:y.Sublist z)(aP:y≠[]):y∈cx ts:=by
 obtain⟨_,t,aa,aE⟩:=hg.mp hz;exact hg.mpr ⟨aP,t,aa,af.trans aE⟩
def Hg{α:Type}{xs:List α}(aC:xs.Nodup){t:α}(J:t∈xs)(aa:∀o∈xs,o=t):xs=[t]:=by
 match xs,aC,J,aa with
 |[x],_,J,_=>rw[abg.mp J]
 |x::y::r,aC,_,aa =>
  have a:=aa x List.mem_cons_self;have b:=aa y (List.mem_cons_of_mem _ List.mem_cons_self);exact absurd (by rw[a,b];exact List.mem_cons_self) (abD.mp aC).1
def pL(ts):(cx ts).Nodup:=xB (xA ts)
end
noncomputable def lf(cs:List (List Int)):List Int:=cW ltI (cX cs.flatten)
noncomputable def eZ(L:List Int)(x:Int):Int:=(cY L x:Nat)
noncomputable def u3(L:List Int)(i:Int):Int:=L.getD i.toNat 0
noncomputable def nb(cs:List (List Int)):List (List Int):=cs.map (List.map (eZ (lf cs)))
def kP{cs:List (List Int)}:x∈lf cs<->∃c∈cs,x∈c:=by unfold lf;rw[jS,jR,List.mem_flatten]
def ps(cs):cz ltI (lf cs):=lr h1 (nh _)
def SQ{A B:List (List Int)}(J:∀a∈A,a∈B)(aa:∀b∈B,∃a∈A,∀x∈b,x∈a):lf A=lf B:=kd h1 (ps A) (ps B) λz=>by
 rw[kP,kP];exact⟨λ⟨c,a,b⟩=>⟨c,J c a,b⟩,λ⟨c,a,b⟩=>let ⟨d,e,f⟩:=aa c a;⟨d,e,f z b⟩⟩
def Zb{A B:List (List Int)}(gA:∀a∈A,a∈B)(dW:∀b∈B,∃a∈A,∀x∈b,x∈a)(aw:∀b∈B,cz ltI b):bT A=bT B:=kd kJ (ur A) (ur B) λz=>by
 rw[jT,jT];constructor
 .rintro⟨J,aa⟩;refine⟨gA z J,λo ay az af=>?_⟩;obtain⟨a,aE,aR⟩:=dW o ay;have:o.length<=a.length:=jm (nY (aw o ay)) aR;exact aa a aE ⋯ (qf.mpr λx ak=>aR x (qf.mp af x ak))
 .rintro⟨J,aa⟩;refine⟨?_,λo ay=>aa o (gA o ay)⟩;obtain⟨a,aE,aR⟩:=dW z J
  by_cases e:z=a
  .rw[e];exact aE
  .exact absurd (qf.mpr aR) (aa a (gA a aE) (Dd (aw z J) (aw a (gA a aE)) aR e))
def VU(h:x∈L):u3 L (eZ L x)=x:=by
 have bV:=vD h;unfold u3 eZ;rw[Int.toNat_natCast,List.getD,aba bV];exact ach bV
def VT(h:x∈L):0<=eZ L x/\eZ L x<(L.length:Int):=by
 have:=vD h;unfold eZ;lia
def VV(es:cz ltI L)(aw:a∈L)(ae:b∈L)(h:a<b):eZ L a<eZ L b:=by
 have J:=vD aw;have aa:=vD ae;have e1:L[cY L a]=a:=ach J;have ar:L[cY L b]=b:=ach aa;unfold eZ;rcases adF (cY L a) (cY L b) with q|q|q
 .omega
 .exfalso;have:L[cY L a]=L[cY L b]:=(by congr 1);lia
 .exfalso;have:=acJ.mp es _ _ aa J q;rw[e1,ar]at this;simp[ltI]at this;lia
def H3(es:cz ltI L)(ag:cz ltI c)(h:∀x∈c,x∈L):cz ltI (c.map (eZ L)):=by
 unfold cz;rw[abL];refine abA (λ{a b} aw ae q=>?_) ag;have q:a<b:=by simpa[ltI] using q
 have:=VV es (h a aw) (h b ae) q;simpa[ltI] using this
section
variable{m:Int}{ts:List (List Int)}{s t:List Int}
def GZ(aA:∀t∈ts,IsCell m t){cs:List (List Int)}(h:∀c∈cs,cz ltI c/\c≠[]):∀c∈nb cs,IsCell ((lf cs).length:Int) c:=λc ag=>by
 obtain⟨z,hz,rfl⟩:=List.mem_map.mp ag;have fu:∀x∈z,x∈lf cs:=λx ak=>kP.mpr ⟨z,hz,ak⟩
 refine⟨λe=>(h z hz).2 (aeg.mp e),λx ak=>?_,H3 (ps cs) (h z hz).1 fu⟩;obtain⟨y,aP,rfl⟩:=List.mem_map.mp ak;exact VT (fu y aP)
end
structure bS(ts cs:List (List Int)):Prop where
 sub:∀c∈cs,c∈cx ts
 yR:∀c∈cs,∀y:List Int,y.Sublist c->y≠[]->y∈cs
 vP:cs.Nodup
def bS.cell(h:bS ts cs)(aA:∀t∈ts,IsCell m t):∀c∈cs,cz ltI c/\c≠[]:=λc ag=>⟨(kg aA (h.sub c ag)).1,(kg aA (h.sub c ag)).2.1⟩
def bS.AX(h:bS ts cs)(aA:∀t∈ts,IsCell m t):∀c∈nb cs,IsCell ((lf cs).length:Int) c:=GZ aA (h.cell aA)
def bS.dI(h:bS ts cs)(aA:∀t∈ts,IsCell m t)(c7:m<=6)(dT:cs≠[]):Net ((lf cs).length:Int) (bT (nb cs)):=by
 refine G3 ?_ ?_ (h.AX aA) (rA.mpr λx x0 aS=>?_)
 .cases cs with
  |nil=>exact absurd rfl dT
  |cons e cs =>
   cases q:e with
   |nil=>exact absurd q (h.cell aA e List.mem_cons_self).2
   |cons y r =>
    have:=List.length_pos_of_mem (kP (cs:=e::cs) |>.mpr ⟨e,List.mem_cons_self,by rw[q];exact List.mem_cons_self⟩);rw[q]at this;lia
 .have:(lf cs).length<=(cA m).length:=jm (nY (ps _)) λz hz=>by
   obtain⟨c,J,aa⟩:=kP.mp hz;obtain⟨_,u,aE,aR⟩:=hg.mp (h.sub c J);exact oI.mpr ((aA u aE).2.1 z (aR.subset aa))
  have:=sL c7;lia
 .have bV:x.toNat<(lf cs).length:=⋯;obtain⟨c,J,aa⟩:=kP.mp (List.getElem_mem bV);refine⟨c.map (eZ (lf cs)),List.mem_map.mpr ⟨c,J,rfl⟩,List.mem_map.mpr ⟨_,aa,?_⟩⟩;unfold eZ;rw[F9 (nY (ps _)) bV];lia
def bS.fwd(h:bS ts cs)(aA:∀t∈ts,IsCell m t)(hz:z∈cs):z.map (eZ (lf cs))∈cl (bT (nb cs)) z.length/\(z.map (eZ (lf cs))).map (u3 (lf cs))=z:=by
 have ag:=h.AX aA;have aC:z.map (eZ (lf cs))∈nb cs:=List.mem_map.mpr ⟨z,hz,rfl⟩;obtain⟨u,aE,aR⟩:=Ck ag _ _ aC (Nat.le_add_left _ _);have bh:=ag u (jT.mp aE).1;refine⟨fD.mpr ⟨by rw[List.length_map],(ag _ aC).1,u,aE,nZ (ag _ aC).2.2 bh.2.2 aR⟩,?_⟩;rw[List.map_map];exact(abB λx ak=>VU (kP.mpr ⟨z,hz,ak⟩)).trans (adB z)
def bS.bwd(h:bS ts cs)(hz:z∈cl (bT (nb cs)) n):∃y∈cs,y.length=n/\z=y.map (eZ (lf cs)):=by
 obtain⟨J,aa,u,aE,aR⟩:=fD.mp hz;obtain⟨c,bX,rfl⟩:=List.mem_map.mp (jT.mp aE).1;obtain⟨y,ez,rfl⟩:=List.sublist_map_iff.mp aR;rw[List.length_map]at J;exact⟨y,h.yR c bX y ez λe=>aa (by rw[e];rfl),J,rfl⟩
noncomputable def lv(cs:List (List Int))(n:Nat):List (List Int):=cs.filter λc=>decide (c.length=n)
def iR:z∈lv cs n<->z∈cs/\z.length=n:=by
 unfold lv;rw[List.mem_filter];simp
def bS.inj(h:bS ts cs)(aA:∀t∈ts,IsCell m t){U:List (List Int)}(dH:U.Nodup)(af:∀c∈U,c∈cs):(U.map (List.map (eZ (lf cs)))).Nodup:=by
 rw[abq,abL];refine abA (λ{a b} aw ae (q:a≠b) e=>q ?_) (abq.mp dH);rw[<- (h.fwd aA (af a aw)).2,e,(h.fwd aA (af b ae)).2]
def bS.perm(h:bS ts cs)(aA:∀t∈ts,IsCell m t)(n):((lv cs n).map (List.map (eZ (lf cs)))).Perm (cl (bT (nb cs)) n):=by
 refine tj (h.inj aA (h.vP.filter _) λc ag=>(iR.mp ag).1) (i4 _ n) λz=>⟨λq=>?_,λq=>?_⟩
 .obtain⟨y,aP,rfl⟩:=List.mem_map.mp q;obtain⟨a,b⟩:=iR.mp aP;rw[<- b];exact(h.fwd aA a).1
 .obtain⟨y,J,aa,rfl⟩:=h.bwd q;exact List.mem_map.mpr ⟨y,iR.mpr ⟨J,aa⟩,rfl⟩
theorem bS.cx(h:bS ts cs)(aA:∀t∈ts,IsCell m t):(cs.map (List.map (eZ (lf cs)))).Perm (c2.cx (bT (nb cs))):=by
 refine tj (h.inj aA h.vP λc ag=>ag) (pL _) λz=>⟨λq=>?_,λq=>?_⟩
 .obtain⟨y,aP,rfl⟩:=List.mem_map.mp q;exact pK (h.fwd aA aP).1
 .have ag:=λc (q:c∈bT (nb cs))=>h.AX aA c (jT.mp q).1
  obtain⟨y,J,_,rfl⟩:=h.bwd (kg ag q).2.2;exact List.mem_map.mpr ⟨y,J,rfl⟩
theorem bS.nn(h:bS ts cs)(aA:∀t∈ts,IsCell m t)(n):c2.nn (bT (nb cs)) n=(lv cs (n+1)).length:=by
 have:=(h.perm aA (n+1)).length_eq;rw[List.length_map]at this;exact this.symm
theorem bS.eI(h:bS ts cs)(aA:∀t∈ts,IsCell m t)(n)(kv:∀c∈lv cs n,c∈V):c2.eI (bT (nb cs)) n=dM ((lv cs (n+1)).map λc=>cm V (cU c)):=by
 have side:∀c∈lv cs (n+1),∀y∈cU c,y∈cs/\y.length=n:=λc ag y aP=>by
  obtain⟨J,aa⟩:=iR.mp ag;obtain⟨a,b,d⟩:=(iU (h.cell aA c J).1).mp aP;exact⟨h.yR c J y d (Xh (h.cell aA c J).1 aP),⋯⟩
 have e:=BA (U:=lv cs (n+1)) (V:=V) (V':=cl (bT (nb cs)) n) (sd:=cU) (List.map (eZ (lf cs))) (List.map (u3 (lf cs))) λc ag y aP=>by
  obtain⟨a,b⟩:=side c ag y aP;have:=h.fwd aA a;rw[b]at this;exact⟨kv y (iR.mpr ⟨a,b⟩),this⟩
 rw[<- e];unfold c2.eI;refine wd λx=>?_
 unfold e2;rw[show n+1-1=n from rfl,List.mem_map,List.mem_map];have p:=h.perm aA (n+1);constructor
 .rintro⟨z,hz,rfl⟩;obtain⟨c,ag,rfl⟩:=List.mem_map.mp (p.symm.subset hz);exact⟨c,ag,by rw[IX]⟩
 .rintro⟨c,ag,rfl⟩;exact⟨c.map (eZ (lf cs)),p.subset (List.mem_map.mpr ⟨c,ag,rfl⟩),by rw[IX]⟩
def bS.eq(h:bS ts cs)(aA:∀t∈ts,IsCell m t){A:List (List Int)}(J:∀a∈A,a∈cs)(aa:∀b∈cs,∃a∈A,∀x∈b,x∈a):lf A=lf cs/\bT (nb A)=bT (nb cs):=by
 have e:=SQ J aa;refine⟨e,?_⟩;unfold nb;rw[e];refine Zb (λa aw=>?_) (λb ae=>?_) λb ae=>?_
 .obtain⟨c,ag,rfl⟩:=List.mem_map.mp aw;exact List.mem_map.mpr ⟨c,J c ag,rfl⟩
 .obtain⟨c,ag,rfl⟩:=List.mem_map.mp ae;obtain⟨a,aE,aR⟩:=aa c ag;refine⟨a.map _,List.mem_map.mpr ⟨a,aE,rfl⟩,λx ak=>?_⟩;obtain⟨y,aP,rfl⟩:=List.mem_map.mp ak;exact List.mem_map.mpr ⟨y,aR y aP,rfl⟩
 .obtain⟨c,ag,rfl⟩:=List.mem_map.mp ae;exact H3 (ps _) (h.cell aA c ag).1 λx ak=>kP.mpr ⟨c,ag,ak⟩
noncomputable def ins(v:Int)(c:List Int):List Int:=cW ltI (c++[v])
noncomputable def dl(v:Int)(c:List Int):List Int:=c.filter λx=>!decide (x=v)
noncomputable def cf(ts:List (List Int))(v:Int):List (List Int):=(cx ts).filter λc=>!decide (v∈c)&&decide (ins v c∈cx ts)
noncomputable def rest(ts:List (List Int))(v:Int):List (List Int):=(cx ts).filter λc=>!decide (v∈c)
noncomputable def wv(ts:List (List Int))(v:Int)(n:Nat):List (List Int):=(cl ts n).filter λc=>decide (v∈c)
def hH:z∈cf ts v<->z∈cx ts/\v∉z/\ins v z∈cx ts:=by unfold cf;rw[List.mem_filter];simp
def jj:z∈rest ts v<->z∈cx ts/\v∉z:=by unfold rest;rw[List.mem_filter];simp
def gm:z∈wv ts v n<->z∈cl ts n/\v∈z:=by unfold wv;rw[List.mem_filter];simp
def h4:x∈ins v c<->x∈c\/x=v:=by unfold ins;rw[jS];simp
def mem_dl:x∈dl v c<->x∈c/\x≠v:=by unfold dl;rw[List.mem_filter];simp
def mC(h:cz ltI c)(aK:v∉c):cz ltI (ins v c):=lr h1 (adm.mpr ⟨nY h,by simp,λa aw b ae e=>aK (by rw[<- abg.mp ae,<- e];exact aw)⟩)
def rl(h:cz ltI c):cz ltI (dl v c):=abK acb h
def rI(h:cz ltI c)(aK:v∉c):dl v (ins v c)=c:=kd h1 (rl (mC h aK)) h λz=>by
 rw[mem_dl,h4];exact⟨λq=>q.1.elim id λe=>absurd e q.2,λq=>⟨.inl q,λe=>aK (e▸q)⟩⟩
def jP(h:cz ltI c)(aK:v∈c):ins v (dl v c)=c:=kd h1 (mC (rl h) λq=>(mem_dl.mp q).2 rfl) h λz=>by
 rw[h4,mem_dl];constructor
 .rintro(q|rfl)
  .exact q.1
  .exact aK
 .intro q
  by_cases e:z=v
  .exact .inr e
  .exact .inl ⟨q,e⟩
def kI(v)(c):(ins v c).length=c.length+1:=by
 unfold ins;rw[(tl ltI _).length_eq];simp
def sS(h:cz ltI c)(aK:v∈c):(dl v c).length+1=c.length:=by rw[<- kI v (dl v c),jP h aK]
def qK(ts v):bS ts (rest ts v):=⟨λc h=>(jj.mp h).1,λc h y af aP=>jj.mpr ⟨oc (jj.mp h).1 af aP,λq=>(jj.mp h).2 (af.subset q)⟩,(pL ts).filter _⟩
def ma(aA:∀t∈ts,IsCell m t)(v):bS ts (cf ts v):=⟨λc h=>(hH.mp h).1,λc h y af aP=>by
 obtain⟨a,b,d⟩:=hH.mp h;have oi:=(kg aA a).1;have FQ:v∉y:=λq=>b (af.subset q)
 have vu:cz ltI y:=abK af oi;refine hH.mpr ⟨oc a af aP,FQ,oc d (nZ (mC vu FQ) (mC oi b) λx ak=>?_) λe=>?_⟩
 .exact h4.mpr ((h4.mp ak).imp (λq=>af.subset q) id)
 .have:=kI v y;rw[e]at this;exact(nomatch this),(pL ts).filter _⟩
noncomputable def fQ(v:Int)(c:List Int):List (List Int):=(cU c).filter λy=>decide (v∈y)
noncomputable def qH(v:Int)(c:List Int):List (List Int):=(cU c).filter λy=>!decide (v∈y)
def lX:y∈fQ v c<->y∈cU c/\v∈y:=by unfold fQ;rw[List.mem_filter];simp
def Tj:y∈qH v c<->y∈cU c/\v∉y:=by unfold qH;rw[List.mem_filter];simp
def w2(ts v n):(wv ts v n).Nodup:=(i4 ts n).filter _
def me(aA:∀t∈ts,IsCell m t)(h:c∈wv ts v n):cz ltI c:=pD aA (gm.mp h).1
def B4(h:cz ltI c):(fQ v c).Nodup:=(qF h).filter _
def kZ(aA:∀t∈ts,IsCell m t)(ag:c∈wv ts v (n+1))(aP:y∈fQ v c):y∈wv ts v n:=by
 obtain⟨a,b⟩:=lX.mp aP;exact gm.mpr ⟨n7 aA (gm.mp ag).1 a,b⟩
noncomputable def br(ts:List (List Int))(v:Int)(k:Nat):Nat:=dM ((wv ts v (k+1)).map λc=>cm (wv ts v k) (fQ v c))
def Ip(aA:∀t∈ts,IsCell m t)(kv:∀c∈wv ts v k,c∈V):dM ((wv ts v (k+1)).map λc=>cm V (fQ v c))=br ts v k:=by
 have e:=BA (U:=wv ts v (k+1)) (V:=wv ts v k) (V':=V) (sd:=fQ v) id id λc ag y aP=>⟨kZ aA ag aP,kv y (kZ aA ag aP),rfl⟩
 simp only[adB]at e;exact e
def Wa(ts v):br ts v 0=0:=Ic λx ak=>by
 obtain⟨c,ag,rfl⟩:=List.mem_map.mp ak;have:=(fD.mp (gm.mp ag).1).1;have e:cU c=[]:=by unfold cU;rw[if_neg ⋯]
 unfold fQ;rw[e];rfl
def w1(aA:∀t∈ts,IsCell m t)(h:c∈wv ts v (n+2)):dl v c∈lv (cf ts v) (n+1):=by
 have aw:=me aA h;obtain⟨J,aa⟩:=gm.mp h;have az:=sS aw aa;have:=(fD.mp J).1;refine iR.mpr ⟨hH.mpr ⟨oc (pK J) acb λe=>?_,λq=>(mem_dl.mp q).2 rfl,by rw[jP aw aa];exact pK J⟩,⋯⟩;rw[e,List.length_nil]at az;lia
def AY(aA:∀t∈ts,IsCell m t)(h:c∈lv (cf ts v) n):ins v c∈wv ts v (n+1):=by
 obtain⟨J,aa⟩:=iR.mp h;have:=(kg aA (hH.mp J).2.2).2.2;rw[kI,aa]at this;exact gm.mpr ⟨this,h4.mpr (.inr rfl)⟩
def G2(aA:∀t∈ts,IsCell m t)(h:c∈lv (cf ts v) n):cz ltI c/\v∉c:=⟨(kg aA (hH.mp (iR.mp h).1).1).1,(hH.mp (iR.mp h).1).2.1⟩
def Zx(aA:∀t∈ts,IsCell m t)(n):((wv ts v (n+2)).map (dl v)).Perm (lv (cf ts v) (n+1)):=by
 refine tj ?_ (((pL ts).filter _).filter _) λz=>⟨λq=>?_,λq=>?_⟩
 .rw[abq,abL];refine abA (λ{a b} aw ae (q:a≠b) e=>q ?_) (abq.mp (w2 ts v (n+2)));rw[<- jP (me aA aw) (gm.mp aw).2,e,jP (me aA ae) (gm.mp ae).2]
 .obtain⟨c,ag,rfl⟩:=List.mem_map.mp q;exact w1 aA ag
 .have:=G2 aA q;exact List.mem_map.mpr ⟨ins v z,AY aA q,rI this.1 this.2⟩
def Kl(ag:[v]∈cx ts):wv ts v 1=[[v]]:=by
 refine Hg (w2 ts v 1) (gm.mpr ⟨fD.mpr ⟨rfl,hg.mp ag⟩,by simp⟩) λo ay=>?_
 obtain⟨J,aa⟩:=gm.mp ay;obtain⟨x,rfl⟩:=ada.mp (fD.mp J).1;rw[abg.mp aa]
def XR(aw:cz ltI c)(aa:c.length=2)(aK:v∈c):fQ v c=[[v]]:=by
 refine Hg (B4 aw) (lX.mpr ⟨(iU aw).mpr ⟨⋯,by rw[aa];rfl,List.singleton_sublist.mpr aK⟩,by simp⟩) λo ay=>?_
 obtain⟨aE,aR⟩:=lX.mp ay;have:=((iU aw).mp aE).2.1;obtain⟨x,rfl⟩:=ada.mp (show o.length=1 by lia);rw[abg.mp aR]
def Io(aA:∀t∈ts,IsCell m t)(ag:[v]∈cx ts)(aC:cf ts v≠[]):br ts v 1=1:=by
 refine V0 (a:=cm (wv ts v 1) [[v]]) (λx ak=>?_) (Tw (w2 ts v 1) (by simp) (x:=[v]) List.mem_cons_self (by rw[Kl ag];exact List.mem_cons_self)) ?_
 .obtain⟨c,J,rfl⟩:=List.mem_map.mp ak;rw[XR (me aA J) (fD.mp (gm.mp J).1).1 (gm.mp J).2]
 .intro e;have e:=aeg.mp e;cases q:cf ts v with
  |nil=>exact aC q
  |cons z r =>
   have hz:z∈cf ts v:=(by rw[q];exact List.mem_cons_self);cases z with
   |nil=>exact absurd rfl ((ma aA v).cell aA _ hz).2
   |cons x r =>
    have:=AY aA (iR.mpr ⟨(ma aA v).yR _ hz [x] (by simp) (by simp),rfl⟩);simp only[List.length_singleton]at this;rw[e]at this;cases this
def XQ(aw:cz ltI c)(aK:v∈c)(az:2<c.length)(y):(∃x∈fQ v c,dl v x=y)<->y∈cU (dl v c):=by
 have hd:=sS aw aK;rw[iU (rl aw)];constructor
 .rintro⟨x,ak,rfl⟩;obtain⟨J,aa⟩:=lX.mp ak;obtain⟨_,aR,bX⟩:=(iU aw).mp J;have:=sS (tM aw J) aa;exact⟨⋯,⋯,bX.filter _⟩
 .rintro⟨J,aa,aE⟩;have vu:cz ltI y:=abK aE (rl aw);have FO:v∉y:=λq=>(mem_dl.mp (aE.subset q)).2 rfl
  refine⟨ins v y,lX.mpr ⟨(iU aw).mpr ⟨⋯,by rw[kI];lia,nZ (mC vu FO) aw λx ak=>?_⟩,h4.mpr (.inr rfl)⟩,rI vu FO⟩;rcases h4.mp ak with q|rfl
  .exact(mem_dl.mp (aE.subset q)).1
  .exact aK
def BD(aA:∀t∈ts,IsCell m t)(k):br ts v (k+2)=eI (bT (nb (cf ts v))) (k+1):=by
 have dF:=ma aA v;have e:=BA (U:=wv ts v (k+3)) (V:=wv ts v (k+2)) (V':=lv (cf ts v) (k+1)) (sd:=fQ v) (dl v) (ins v) λc ag y aP=>⟨kZ aA ag aP,w1 aA (kZ aA ag aP),jP (me aA (kZ aA ag aP)) (gm.mp (kZ aA ag aP)).2⟩
 have key:∀c∈wv ts v (k+3),cm (lv (cf ts v) (k+1)) ((fQ v c).map (dl v))=cm (lv (cf ts v) (k+1)) (cU (dl v c)):=λc ag=>by
  have aw:=me aA ag;have az:=(fD.mp (gm.mp ag).1).1;refine Tv (((pL ts).filter _).filter _) ?_ (qF (rl aw)) (λx=>?_) λx ak=>?_
  .rw[abq,abL];refine abA (λ{a b} Fn ae (q:a≠b) e=>q ?_) (abq.mp (B4 aw));rw[<- jP (me aA (kZ aA ag Fn)) (lX.mp Fn).2,e,jP (me aA (kZ aA ag ae)) (lX.mp ae).2]
  .rw[List.mem_map];exact XQ aw (gm.mp ag).2 ⋯ x
  .obtain⟨y,aP,rfl⟩:=List.mem_map.mp ak;exact w1 aA (kZ aA ag aP)
 rw[dF.eI aA (V:=lv (cf ts v) (k+1)) (k+1) λc h=>h];unfold br;rw[<- e];refine wd λx=>?_
 rw[List.mem_map,List.mem_map];constructor
 .rintro⟨c,ag,rfl⟩;exact⟨dl v c,w1 aA ag,(key c ag).symm⟩
 .rintro⟨c,ag,rfl⟩;have q:=G2 aA ag;have h:=AY aA ag;exact⟨ins v c,h,by rw[key _ h,rI q.1 q.2]⟩
def H5 (aA : ∀ t ∈ ts, IsCell m t) (ak : ∀ k, (wv ts v (k + 1)).length <= br ts v (k + 1) + br ts v k) (k) : eI ts k = eI (bT (nb (rest ts v))) k + br ts v k := by
  have dE : ∀ n, ∀ c, c ∈ cl ts n <-> c ∈ lv (rest ts v) n \/ c ∈ wv ts v n := fun n c => by
    rw [iR, jj, gm]
    by_cases q : v ∈ c
    · exact ⟨fun h => .inr ⟨h, q⟩, fun h => h.elim (fun h => absurd q h.1.2) (·.1)⟩
    · exact ⟨fun h => .inl ⟨⟨pK h, q⟩, (fD.mp h).1⟩, fun h => h.elim (fun h => by rw [<- h.2]; exact (kg aA h.1.1).2.2) fun h => absurd h.2 q⟩
  have kv : ∀ c ∈ wv ts v k, c ∈ cl ts k := fun c h => (gm.mp h).1
  let V := cl ts k
  let A := (lv (rest ts v) (k + 1)).map (col ts k)
  let B := (wv ts v (k + 1)).map (col ts k)
  let M := cm V (wv ts v k)
  have ln : mn (· &&& M) := fun x y => Nat.and_xor_distrib_right
  have FG : ∀ c ∈ cl ts (k + 1), col ts k c &&& M = cm V (fQ v c) := fun c ag => by
    have aw := pD aA ag
    have fu : ∀ y ∈ cU c, y ∈ V := fun y aP => n7 aA ag aP
    refine acR fun j => ?_
    rw [aed]
    by_cases aI : j < V.length
    · rw [show col ts k c = cm V (cU c) from rfl, m8 j aI (qF aw) (i4 ts k), m8 j aI (w2 ts v k) (i4 ts k), m8 j aI (B4 aw) (i4 ts k), <- Bool.decide_and]
      refine aeG.mpr ?_
      rw [lX, gm]
      exact ⟨fun q => ⟨q.1, q.2.2⟩, fun q => ⟨q.1, fu _ q.1, q.2⟩⟩
    · have z : ∀ {xs : List (List Int)}, (∀ x ∈ xs, x ∈ V) -> (cm V xs).testBit j = false := fun h => abP (abl (oJ h) (abI ∅ ⋯))
      rw [show col ts k c = cm V (cU c) from rfl, z fu, z fun y aP => fu y (lX.mp aP).1]
      rfl
  have gA : ∀ a ∈ A, a &&& M = 0 := fun a aw => by
    obtain ⟨c, ag, rfl⟩ := List.mem_map.mp aw
    rw [FG c ((dE _ c).mpr (.inl ag))]
    have : fQ v c = [] := by
      unfold fQ
      rw [List.filter_eq_nil_iff]
      intro y aP q
      have cI := (dE _ c).mpr (.inl ag)
      exact (jj.mp (iR.mp ag).1).2 (((iU (pD aA cI)).mp aP).2.2.subset (adM q))
    rw [this]; rfl
  have dW : B.map (· &&& M) = (wv ts v (k + 1)).map fun c => cm V (fQ v c) := by
    rw [List.map_map]
    exact abB fun c ag => FG c (gm.mp ag).1
  have e0 : eI ts k = dM (A ++ B) := by
    unfold eI
    refine wd fun x => ?_
    rw [abn, show e2 ts (k + 1) = (cl ts (k + 1)).map (col ts k) from rfl, List.mem_map, List.mem_map, List.mem_map]
    constructor
    · rintro ⟨c, ag, rfl⟩
      exact ((dE _ c).mp ag).imp (fun h => ⟨c, h, rfl⟩) fun h => ⟨c, h, rfl⟩
    · rintro (⟨c, ag, rfl⟩ | ⟨c, ag, rfl⟩)
      · exact ⟨c, (dE _ c).mpr (.inl ag), rfl⟩
      · exact ⟨c, (dE _ c).mpr (.inr ag), rfl⟩
  rw [e0, V1 ln gA B, dW, Ip aA kv, (qK ts v).eI aA (V := V) k fun c ag => (dE _ c).mpr (.inl ag)]
  · rfl
  intro x Rv vs
  obtain ⟨z, hz, rfl⟩ := Xy B x Rv
  let R := (wv ts v (k + 2)).map fun c => cm (wv ts v (k + 1)) (fQ v c)
  have hR : ∀ r ∈ R, r < 2 ^ (wv ts v (k + 1)).length /\ sp A (bd B r) := fun r a3 => by
    obtain ⟨t, J, rfl⟩ := List.mem_map.mp a3
    have FL := me aA J
    have Rn := (gm.mp J).1
    have fu : ∀ y ∈ fQ v t, y ∈ wv ts v (k + 1) := fun y aP => kZ aA J aP
    refine ⟨oJ fu, ?_⟩
    have af : ∀ y ∈ cU t, y ∈ cl ts (k + 1) := fun y aP => n7 aA Rn aP
    have gq := H4 (U := cl ts (k + 1)) (V := cl ts k) (sd := cU) (c := cU t) (i4 ts k) af (fun x ak => ⟨qF (tM FL ak), fun y aP => n7 aA (af x ak) aP⟩) fun y => by
      have z := DO FL y
      refine (ab6 (· % 2) (?e : _ = cnt y (cU t))).trans ?_
      case e => exact adk fun x _ => by simp only [abk]
      lia
    have p : (fQ v t ++ qH v t).Perm (cU t) := adC _ _
    rw [px af, <- ZA (p.map _), List.map_append, Km] at gq
    have gq : d6 ((fQ v t).map (col ts k)) ^^^ d6 ((qH v t).map (col ts k)) = 0 := gq
    show sp A (bd ((wv ts v (k + 1)).map (col ts k)) (cm (wv ts v (k + 1)) (fQ v t)))
    have e1 : d6 ((fQ v t).map (col ts k)) = d6 ((qH v t).map (col ts k)) := by
      have := ab6 (· ^^^ d6 ((qH v t).map (col ts k))) gq
      rwa [h8, acD] at this
    rw [px fu, e1]
    refine Kn fun a aw => ?_
    obtain ⟨y, aP, rfl⟩ := List.mem_map.mp aw
    obtain ⟨o9, t5⟩ := Tj.mp aP
    exact fb (List.mem_map.mpr ⟨y, iR.mpr ⟨jj.mpr ⟨pK (af y o9), t5⟩, (fD.mp (af y o9)).1⟩, rfl⟩)
  have Gf : (B.map (· &&& M)).length = (wv ts v (k + 1)).length := by rw [List.length_map, List.length_map]
  have RA : sp R z := OM (as := B.map (· &&& M)) (fun r a3 => by
      rw [Gf]
      exact ⟨(hR r a3).1, by rw [yh ln]; exact Jb ln gA (hR r a3).2⟩) (by
      rw [Gf, dW, Ip aA kv]
      exact ak k) (by rw [List.length_map]; exact hz) (by rw [yh ln]; exact vs)
  have := oZ (kf B) RA
  refine fl (fun a aw => ?_) this
  obtain ⟨r, a3, rfl⟩ := List.mem_map.mp aw
  exact (hR r a3).2
def VX(ts):eI ts 0=0:=Ic λx ak=>by
 obtain⟨c,ag,rfl⟩:=List.mem_map.mp ak;have e:cU c=[]:=by unfold cU;rw[if_neg (by have:=(fD.mp ag).1;lia)]
 rw[e];rfl
def TL(aA:∀t∈ts,IsCell m t)(v n):nn ts n=nn (bT (nb (rest ts v))) n+(wv ts v (n+1)).length:=by
 have p:(wv ts v (n+1)++(cl ts (n+1)).filter λc=>!decide (v∈c)).Perm (cl ts (n+1)):=adC _ _;have e:lv (rest ts v) (n+1)=(cl ts (n+1)).filter λc=>!decide (v∈c):=by
  unfold lv rest cl;rw[List.filter_filter,List.filter_filter];exact List.filter_congr λx _=>Bool.and_comm _ _
 have:=p.length_eq;rw[aa7,<- e,<- (qK ts v).nn aA n]at this;unfold nn at this ⊢;lia
def Kk(aA:∀t∈ts,IsCell m t)(v n):(wv ts v (n+2)).length=nn (bT (nb (cf ts v))) n:=by
 have:=(Zx (v:=v) aA n).length_eq;rw[List.length_map]at this;rw[this,(ma aA v).nn aA n]
def WZ(aA:∀t∈ts,IsCell m t)(ag:[v]∈cx ts)(aC:cf ts v≠[])(s0:∀n,cZ (bT (nb (cf ts v))) n+eI (bT (nb (cf ts v))) (n+1)+eI (bT (nb (cf ts v))) n=nn (bT (nb (cf ts v))) n)(h0:cZ (bT (nb (cf ts v))) 0=1)(J:∀n,cZ (bT (nb (cf ts v))) (n+1)=0)(s1:∀n,cZ ts n+eI ts (n+1)+eI ts n=nn ts n)(s2:∀n,cZ (bT (nb (rest ts v))) n+eI (bT (nb (rest ts v))) (n+1)+eI (bT (nb (rest ts v))) n=nn (bT (nb (rest ts v))) n)(n):cZ ts n=cZ (bT (nb (rest ts v))) n:=by
 have key:∀k,(wv ts v (k+1)).length=br ts v (k+1)+br ts v k:=λk=>by
  match k with
  |0=>rw[Kl ag,Wa,Io aA ag aC];rfl
  |1 =>
   have a:=s0 0;rw[h0,VX]at a;rw[Kk aA,BD aA,Io aA ag aC];simp only[acC]at a ⊢;lia
  |k+2 =>
   have a:=s0 (k+1);rw[J]at a;rw[Kk aA,BD aA,BD aA];lia
 have cF:=H5 aA (λk=>aeO (key k)) n;have bU:=H5 aA (λk=>aeO (key k)) (n+1);have:=s1 n;have:=s2 n;have:=TL aA v n;have:=key n;lia
def En(i j):ev pg Φ ρ (.kK i j)=qh ρ[i]? ρ[j]?:=ba rfl
def OK(i)(e):ex pg Φ ρ (.oW i e)=ev pg Φ ρ e>>=λd=>tK ρ[i]? d>>=λx=>.ok (.bD (ρ.set i (some x))):=ba rfl
def OH(i):ex pg Φ ρ (.pop i)=v5 ρ[i]?>>=λx=>.ok (.bD (ρ.set i (some x))):=ba rfl
def OL(c)(b):ex pg Φ ρ (.qV c b)=la (λbP=>ev pg Φ bP c>>=λx=>ei x) (λbP=>eL pg Φ bP b) 200 ρ:=ba rfl
def SR(c o):cL pg Φ ⟨2,0,aW.x5⟩ [av c,av o]=.ok (.aV (lies c o)):=by
 have e1:cV (elem pg Φ [some (av c),some (av o)] (.cmp .mem (.var 2) (.var 1)) 0 .none) (c.map .int)=.ok (c.map λx=>.aV (decide (x∈o))):=Mq λx _=>by
  simp!;unfold av;simp![sY]
 simp![aW.x5,nA,e1,KO,lies]
def SS(hf:∀c o:List Int,Φ f [av c,av o]=.ok (.aV (lies c o)))(c)(os:List (List Int)):cL pg Φ ⟨2,0,aW.x6 f⟩ [av c,.lst (os.map av)]=.ok (.aV (os.any (lies c))):=by
 have e1:cV (elem pg Φ [some (av c),some (.lst (os.map av))] (.call f (.cons (.var 0) (.cons (.var 2) .nil))) 0 .none) (os.map av)=.ok (os.map λo=>.aV (lies c o)):=hO λo _=>by simp![hf]
 simp![aW.x6,e1,KV]
def Zd(hf:∀(c:List Int)(os:List (List Int)),Φ f [av c,.lst (os.map av)]=.ok (.aV (os.any (lies c))))(aC:∀c∈cs,c≠[])(E2:(cX cs).length<=63):
  cL pg Φ ⟨1,4,aW.ye f⟩ [.lst (cs.map av)]=.ok (.tup ((bT cs).map av)):=by
 simp![aW.ye,wB aC E2];have hlen:(cW lexLt (cX cs)).length<=63:=by rw[m5];exact E2
 unfold bT;generalize cW lexLt (cX cs)=ds at *;generalize D.lst (cs.map av)=d;obtain⟨bP,e,x,y,he⟩:=hB (f:=av) (g:=turn pg Φ 0 [3] (.cons (.asg 4 (.comp (.var 5) 0 (.seq (.var 1)) (.some (.cmp .gt (.prim .len (.var 5)) (.prim .len (.var 3)))))) (.cons (.iff (.not (.call f (.cons (.var 3) (.cons (.var 4) .nil)))) (.cons (.app 2 (.var 3)) .nil) .nil) .nil)))
  (λaY ρ=>∃(x y:Option D),ρ=[some d,some (.lst (ds.map av)),some (.lst ((aY.filter λc=>!(ds.filter λo=>decide (c.length<o.length)).any (lies c)).map av)),x,y])
  ds [some d,some (.lst (ds.map av)),some (.lst []),none,none] ⟨none,none,rfl⟩ (λpre c post ρ aB ⟨x,y,b3⟩=>by
   subst b3;have d4:pre.length+1<=ds.length:=(by rw[aB];simp);have e1:∀z,cV (elem pg Φ [some d,some (.lst (ds.map av)),z,some (av c),y] (.var 5) 0 (.some (.cmp .gt (.prim .len (.var 5)) (.prim .len (.var 3))))) (ds.map av)=.ok ((ds.filter λo=>decide (c.length<o.length)).map av):=λz=>i5 λo _=>by
    simp![kH]
    by_cases q:c.length<o.length
    .have cB:(c.length:Int)<(o.length:Int):=⋯;simp only[decide_eq_true q,decide_eq_true cB,abU]
    .have cB:¬(c.length:Int)<(o.length:Int):=⋯;simp only[decide_eq_false q,decide_eq_false cB,aa6,abp]
   have aaa:=ace (λc:List Int=>!(ds.filter λo=>decide (c.length<o.length)).any (lies c)) pre;cases q:(ds.filter λo=>decide (c.length<o.length)).any (lies c) with
   |true =>
    refine⟨_,by simp![e1,hf,q];rfl,some (av c),_,by rw[EC pre (by rw[q];rfl)]⟩
   |false =>
    have bX:=xy ((pre.filter λc=>!(ds.filter λo=>decide (c.length<o.length)).any (lies c)).map av) (av c) (by rw[List.length_map,gP];lia);refine⟨_,by simp![e1,hf,q,bX];rfl,some (av c),_,by rw[ED pre (by rw[q];rfl),List.map_append];rfl⟩)
 rw[e,he];simp!
def OS(xs ys):pM (some (some (.lst xs))) (.tup ys)=if xs.length+ys.length<=SZ then .ok (.lst (xs++ys)) else .bad:=ba rfl
def Gy(az:L.length<=1000)(h:x∈L):qh (some (some (.lst (L.map .int)))) (some (some (.int x)))=.ok (.int (eZ L x)):=by
 show(match intsOf (L.map .int),some x with
  |some au,some k=>if k∈au/\au.length<=1000 then R.ok (D.int (au.idxOf k:Nat)) else .bad
  |_,_=>.bad)=_
 rw[vA];dsimp only;rw[if_pos ⟨h,az⟩];rfl
def EF{cs:List (List Int)}(c7:∀c∈cs,c.length<=8)(az:cs.length<=1000):cs.flatten.length<=8000:=by
 have:=EG c7;lia
def Hd(az:(lf cs).length<=63)(h:∀c∈cs,∀x∈c,elem pg Φ (ρ++[some (av c)]) e 0 .none (.int x)=.ok (some (.int (eZ (lf cs) x)))):cV (elem pg Φ ρ (.tupI (.seq (.comp e 0 (.seq (.var ρ.length)) .none))) 0 .none) (cs.map av)=.ok ((nb cs).map av):=by
 have:(nb cs).map av=cs.map λc=>av (c.map (eZ (lf cs))):=by unfold nb;rw[List.map_map];rfl
 rw[this];refine hO λc ag=>?_
 have e1:cV (elem pg Φ (ρ++[some (av c)]) e 0 .none) (c.map .int)=.ok (c.map λx=>D.int (eZ (lf cs) x)):=hO (h c ag);have ar:ev pg Φ (ρ++[some (av c)]) (.var ρ.length)=.ok (av c):=y6 _ (by rw[abH (aa9 _),Nat.sub_self];rfl);have bf:D.tup (c.map λx=>D.int (eZ (lf cs) x))=av (c.map (eZ (lf cs))):=by unfold av;rw[List.map_map];rfl
 rw[uP,Ei];simp only[R.jn,abU,y5,uS,Ej,ar,nA,e1,vO,IL,bf]
def TY(hf:∀cs:List (List Int),(∀c∈cs,c≠[])->(cX cs).length<=63->Φ f [.lst (cs.map av)]=.ok (.tup ((bT cs).map av)))(dT:cs≠[])(ag:∀c∈cs,c≠[])(c7:∀c∈cs,c.length<=8)(az:cs.length<=63+63)(J:(lf cs).length<=63)(aa:(cX (nb cs)).length<=63):
  cL pg Φ ⟨1,3,aW.uy f c0⟩ [.lst (cs.map av)]=.ok (bo (lf cs).length (bT (nb cs))):=by
 have hz:((cs.length:Int)==0)=false:=abG.mpr (by have:=List.length_pos_iff.mpr dT;lia);have ae:=EF c7 ⋯;simp![aW.uy,List.length_map,hz];obtain⟨bP,e,x,he⟩:=hB (f:=av) (g:=turn pg Φ 0 [2] (.cons (.ext 1 (.var 2)) (.nil)))
  (λaY ρ=>∃(x:Option D),ρ=[some (.lst (cs.map av)),some (.lst (aY.flatten.map .int)),x,none])
  cs [some (.lst (cs.map av)),some (.lst []),none,none] ⟨none,rfl⟩ (λpre c post ρ aB ⟨x,b3⟩=>by
   subst b3;have hlen:(pre.flatten.map D.int).length+(c.map D.int).length<=SZ:=by
    have:pre.flatten.length+c.length<=cs.flatten.length:=(by rw[aB];simp);rw[List.length_map,List.length_map,gP];lia
   have he:pM (some (some (.lst (pre.flatten.map .int)))) (av c)=.ok (.lst ((pre++[c]).flatten.map .int)):=by
    unfold av;rw[OS,if_pos hlen,<- List.map_append];simp
   refine⟨_,by simp![Es,he],some (av c),rfl⟩)
 have hd:(cX cs.flatten).length<=63:=by unfold lf at J;rw[m5]at J;exact J
 have af:eP (cs.flatten.map .int)=.ok (.lst ((lf cs).map .int)):=Je hd;have aC:∀c∈nb cs,c≠[]:=λc cI=>by
  obtain⟨z,hz,rfl⟩:=List.mem_map.mp cI;exact λq=>ag z hz (aeg.mp q)
 have ar:=Hd (pg:=pg) (Φ:=Φ) (cs:=cs) (ρ:=[some (.lst (cs.map av)),some (.lst (cs.flatten.map .int)),x,some (.lst ((lf cs).map .int))]) (e:=.kK 3 5) J λc cI y aP=>by
  rw[ack,ack,ack,ack,List.nil_append,uP];simp![En,Gy (by lia:(lf cs).length<=1000) (kP.mpr ⟨c,cI,aP⟩)]
 have ar:cV (elem pg Φ [some (.lst (cs.map av)),some (.lst (cs.flatten.map .int)),x,some (.lst ((lf cs).map .int))] (.tupI (.seq (.comp (.kK 3 5) 0 (.seq (.var 4)) .none))) 0 .none) (cs.map av)=.ok ((nb cs).map av):=ar;rw[e,he];simp![af,List.length_map,ar,hf _ aC aa];rfl
noncomputable def oK(m:Nat)(ns:List Nat):Nat:=ns.foldl (λm x=>if x>m then x else m) m
theorem GX:∀(ns:List Nat)(m:Nat),m<=oK m ns/\∀n∈ns,n<=oK m ns
 |[],m=>⟨aa9 _,λ_ h=>nomatch h⟩
 |x::ns,m=>by
  show m<=oK (if x>m then x else m) ns/\_;obtain⟨J,aa⟩:=GX ns (if x>m then x else m);refine⟨by split at J<;>split<;>lia,λn aC=>?_⟩;rcases aa8.mp aC with rfl|aC
  .show n<=oK (if n>m then n else m) ns
   split at J<;>split<;>lia
  .exact aa n aC
theorem GV:∀(ns:List Nat)(m:Nat),m<=k->(∀n∈ns,n<=k)->oK m ns<=k
 |[],m,h,_=>h
 |x::ns,m,h,aC=>GV ns _ (by dsimp only;split;exact aC x List.mem_cons_self;exact h) λn h'=>aC n (List.mem_cons_of_mem _ h')
theorem GW:∀(ns:List Nat)(m:Nat),(ns.map λn:Nat=>(n:Int)).foldl (λm x=>if x>m then x else m) (m:Int)=(oK m ns:Int)
 |[],m=>rfl
 |x::ns,m=>by
  rw[List.map_cons,List.foldl_cons];have:(if (x:Int)>(m:Int) then(x:Int) else(m:Int))=((if x>m then x else m:Nat):Int):=by
   by_cases q:x>m
   .rw[if_pos q,if_pos ⋯]
   .rw[if_neg q,if_neg ⋯]
  rw[this];exact GW ns _
noncomputable def ai:List (List Int)->Nat
 |[]=>0
 |t::ts=>oK t.length (ts.map (·.length))
def z0:∀t∈ts,t.length<=ai ts:=by
 cases ts with
 |nil=>intro t h;cases h
 |cons a ts =>
  intro t h;obtain⟨J,aa⟩:=GX (ts.map (·.length)) a.length;rcases aa8.mp h with rfl|h
  .exact J
  .exact aa _ (List.mem_map.mpr ⟨t,h,rfl⟩)
def Qr(h:∀t∈ts,t.length<=k):ai ts<=k:=by
 cases ts with
 |nil=>exact abw _
 |cons a ts=>exact GV _ _ (h a List.mem_cons_self) λn aC=>by obtain⟨t,aA,rfl⟩:=List.mem_map.mp aC;exact h t (List.mem_cons_of_mem _ aA)
def GK(h:ts≠[]):kO (ts.map λt=>D.int (t.length:Int))=.ok (.int (ai ts:Int)):=by
 cases ts with
 |nil=>exact absurd rfl h
 |cons a ts =>
  have e:((a::ts).map λt=>D.int (t.length:Int))=((a::ts).map λt=>(t.length:Int)).map D.int:=(by rw[List.map_map];rfl);unfold kO;rw[e,vA];show R.ok (D.int ((ts.map λt=>(t.length:Int)).foldl (λm x=>if x>m then x else m) (a.length:Int)))=_;have ar:(ts.map λt=>(t.length:Int))=(ts.map (·.length)).map λn:Nat=>(n:Int):=by rw[List.map_map];rfl
  rw[ar,GW];rfl
def Qv(h:ts≠[]):cL pg Φ ⟨1,0,aW.xV⟩ [bo m ts]=.ok (.int (ai ts:Int)):=by
 have ft:gD (bo m ts) (.int 1)=.ok (.tup (ts.map av)):=rfl;have e1:cV (elem pg Φ [some (bo m ts)] (.prim .len (.var 1)) 0 .none) (ts.map av)=.ok (ts.map λt=>D.int (t.length:Int)):=hO λt _=>by simp![kH]
 simp![aW.xV,ft,e1,HI,GK h]
def Q2(h:ts≠[])(c7:ai ts<=8)(hf:∀n:Nat,∃G:List Nat,Φ f [bo m ts,.int (n:Int)]=.ok (.tup (G.map (hN (cl ts (n+1)))))/\Told ts n G):cL pg Φ ⟨1,1,aW.xO f⟩ [bo m ts]=.ok (.tup ((List.range (ai ts)).map λk=>D.int (cZ ts k:Int))):=by
 have ft:gD (bo m ts) (.int 1)=.ok (.tup (ts.map av)):=rfl;have e1:cV (elem pg Φ [some (bo m ts),none] (.prim .len (.var 2)) 0 .none) (ts.map av)=.ok (ts.map λt=>D.int (t.length:Int)):=hO λt _=>by simp![kH]
 have ar:cV (elem pg Φ [some (bo m ts),some (.int (ai ts:Int))] (.prim .len (.call f (.cons (.var 0) (.cons (.var 2) (.nil))))) 0 .none) ((List.range (ai ts)).map λk:Nat=>D.int (k:Int))=.ok ((List.range (ai ts)).map λk=>D.int (cZ ts k:Int)):=hO λk _=>by
  obtain⟨G,a,b⟩:=hf k;simp![a,b.sum.1,List.length_map]
 simp![aW.xO,ft,e1,HI,GK h,ny (i:=0) (j:=(ai ts:Int)) ⋯ ⋯ ⋯ ⋯,v9,ar]
def A0(h:Net m ts):ts≠[]:=λe=>by
 subst e;obtain⟨t,aA,_⟩:=rA.mp h.gQ 0 (Int.le_refl 0) (by have:=h.lo;lia);cases aA
def AZ(h:Net m ts):ai ts<=8:=Qr λt aA=>by
 have:=pB (h.cell t aA);have:=h.ai;lia
def Br(h:ai ts<=k):cZ ts k=0:=by
 have:cl ts (k+1)=[]:=by
  rw[ac0];intro z hz;obtain⟨J,_,t,aa,aE⟩:=fD.mp hz;have:=z0 t aa;have:=aE.length_le;lia
 unfold cZ nn;rw[this];simp
noncomputable def fw(ts:List (List Int)):List (List Int):=(List.range (ai ts)).flatMap λh=>cl ts (h+1)
def sZ(z):z∈fw ts<->z∈cx ts:=by
 unfold fw;rw[ads];constructor
 .rintro⟨h,_,hz⟩;exact pK hz
 .intro hz;obtain⟨J,t,aa,aE⟩:=hg.mp hz;have aR:=z0 t aa;have bX:=aE.length_le;have ez:1<=z.length:=by cases z with|nil=>exact absurd rfl J|cons _ _=>simp
  refine⟨z.length-1,List.mem_range.mpr ⋯,fD.mpr ⟨⋯,J,t,aa,aE⟩⟩
def SK(ts):(fw ts).Nodup:=by
 unfold fw;rw[abq,List.pairwise_flatMap];refine⟨λa _=>abq.mp (i4 ts (a+1)),adj (λ{a b}(h:a<b) x ak y aP e=>?_) ac7⟩;have J:=(fD.mp ak).1;have aa:=(fD.mp aP).1;rw[e]at J;lia
def Gl(c7:m<=6)(aA:∀t∈ts,IsCell m t):(fw ts).length<=63:=abX (jm (SK ts) λz hz=>(sZ z).mp hz) (uU c7 aA)
def Sw(aA:∀t∈ts,IsCell m t)(c7:m<=6)(aab:ai ts<=8)(cu:Φ lH [bo m ts]=.ok (.int (ai ts:Int)))(ag:∀k:Nat,k<=7->Φ fc [bo m ts,.int (k:Int)]=.ok (.lst ((cl ts (k+1)).map av))):
  cL pg Φ ⟨1,2,aW.xU lH fc⟩ [bo m ts]=.ok (.lst ((fw ts).map av)):=by
 simp![aW.xU,cu,ny (i:=0) (j:=(ai ts:Int)) ⋯ ⋯ ⋯ ⋯,v9];obtain⟨bP,e,x,he⟩:=hB (f:=λk:Nat=>D.int (k:Int)) (g:=turn pg Φ 0 [2] (.cons (.asg 1 (.bin .add (.var 1) (.call fc (.cons (.var 0) (.cons (.var 2) (.nil)))))) (.nil)))
  (λaY ρ=>∃(x:Option D),ρ=[some (bo m ts),some (.lst ((aY.flatMap λh=>cl ts (h+1)).map av)),x])
  (List.range (ai ts)) [some (bo m ts),some (.lst []),none] ⟨none,rfl⟩ (λpre k post ρ aB ⟨x,b3⟩=>by
   subst b3;have ax:k<ai ts:=List.mem_range.mp (by rw[aB];simp);have hlen:((pre.flatMap λh=>cl ts (h+1)).map av).length+((cl ts (k+1)).map av).length<=SZ:=by
    have J:=Gl c7 aA;unfold fw at J;rw[aB,acX,aa7]at J;have aa:=ry c7 aA (k+1);rw[List.length_map,List.length_map,gP];lia
   refine⟨_,by simp![ag k ⋯,mz,if_pos hlen];rfl,some (.int (k:Int)),?_⟩;simp[acX])
 rw[e,he];simp![fw]
def Sy(hf:∀cs:List (List Int),(∀c∈cs,c≠[])->(cX cs).length<=63->Φ f [.lst (cs.map av)]=.ok (.tup ((m7 cs).map av)))(ag:∀c∈cs,cz ltI c/\c≠[])(c7:∀c∈cs,c.length<=8)(az:cs.length<=63)(J:(lf cs).length<=63):
  cL pg Φ ⟨1,2,aW.x1 f⟩ [.lst (cs.map av)]=.ok (bo (lf cs).length (bT (nb cs))):=by
 have ae:=EF c7 ⋯;simp![aW.x1];obtain⟨bP,e,x,he⟩:=hB (f:=av) (g:=turn pg Φ 0 [2] (.cons (.asg 1 (.bin .add (.var 1) (.kL (.seq (.var 2))))) (.nil)))
  (λaY ρ=>∃(x:Option D),ρ=[some (.lst (cs.map av)),some (.lst (aY.flatten.map .int)),x])
  cs [some (.lst (cs.map av)),some (.lst []),none] ⟨none,rfl⟩ (λpre c post ρ aB ⟨x,b3⟩=>by
   subst b3;have hlen:(pre.flatten.map D.int).length+(c.map D.int).length<=SZ:=by
    have:pre.flatten.length+c.length<=cs.flatten.length:=(by rw[aB];simp);rw[List.length_map,List.length_map,gP];lia
   have he:ej .add (.lst (pre.flatten.map .int)) (.lst (c.map .int))=.ok (.lst ((pre++[c]).flatten.map .int)):=by
    rw[mz,if_pos hlen,<- List.map_append];simp
   refine⟨_,by simp![nA,he],some (av c),rfl⟩)
 have hd:(cX cs.flatten).length<=63:=by unfold lf at J;rw[m5]at J;exact J
 have af:eP (cs.flatten.map .int)=.ok (.lst ((lf cs).map .int)):=Je hd;have oj:=GZ (m:=0) (ts:=[]) (λt h=>by cases h) (cs:=cs) ag;have aa:(cX (nb cs)).length<=63:=by have:=uJ (nb cs);unfold nb at this ⊢;rw[List.length_map]at this;lia
 have ar:=Hd (pg:=pg) (Φ:=Φ) (cs:=cs) (ρ:=[some (.lst (cs.map av)),some (.lst ((lf cs).map .int)),x]) (e:=.kK 1 4) J λc cI y aP=>by
  rw[ack,ack,ack,List.nil_append,uP];simp![En,Gy (by lia:(lf cs).length<=1000) (kP.mpr ⟨c,cI,aP⟩)]
 have ar:cV (elem pg Φ [some (.lst (cs.map av)),some (.lst ((lf cs).map .int)),x] (.tupI (.seq (.comp (.kK 1 4) 0 (.seq (.var 3)) .none))) 0 .none) (cs.map av)=.ok ((nb cs).map av):=ar;rw[e,he];simp![af,List.length_map,ar,hf _ (λc cI=>(oj c cI).1) aa,GF λc cI=>(oj c cI).2.2];rfl
noncomputable abbrev jA:=Int×List (List Int)
structure Good(N:jA):Prop where
 dI:Net N.1 N.2
 len:N.2.length<=63
noncomputable def nC:Nat->List Int->List Int
 |0,xs=>xs
 |n+1,xs=>if xs.getLast?=some 0 then nC n xs.dropLast else xs
noncomputable def kY(xs:List Int):List Int:=nC xs.length xs
def XK(xs):kY (xs++[0])=kY xs:=by
 unfold kY;rw[aa7];show nC (xs.length+1) (xs++[0])=_;rw[nC,if_pos (by simp),List.dropLast_concat]
theorem B2(f):∀k,(∀j,n<=j->f j=0)->kY ((List.range (n+k)).map f)=kY ((List.range n).map f)
 |0,_=>rfl
 |k+1,h=>by
  rw[<- Nat.add_assoc,List.range_succ,List.map_append,aem,h (n+k) ⋯,XK,B2 f k h]
theorem Ke(st:List Int->bw)(ag:∀xs,c (st xs)=.ok (decide (xs.getLast?=some 0)))(hf:∀xs,xs≠[]->f (st xs)=.ok (.bD (st xs.dropLast))):∀(n k:Nat)(xs:List Int),xs.length=k->k<n->la c f n (st xs)=.ok (.bD (st (nC k xs)))
 |0,_,_,_,h=>by lia
 |n+1,0,xs,e,_=>by
  rw[acd e,la,ag];rfl
 |n+1,k+1,xs,e,h=>by
  rw[la,ag,nC]
  by_cases q:xs.getLast?=some 0
  .rw[if_pos q,decide_eq_true q];simp only[R.jn,abU,hf xs (λz=>by rw[z]at e;cases e)];exact Ke st ag hf n k xs.dropLast (by rw[ad9];lia) ⋯
  .rw[if_neg q,decide_eq_false q];rfl
def SJ(az:af.length<100):cL pg Φ ⟨1,1,aW.xW⟩ [av (h::af)]=.ok (.lst ((kY ((h-1)::af)).map .int)):=by
 have hw:=Ke (c:=λbP=>ev pg Φ bP (.and (.cmp .ne (.var 1) (.lst (.nil))) (.cmp .eq (.idx (.var 1) (.neg (.lit (.int 1)))) (.lit (.int 0))))>>=λx=>ei x) (f:=λbP=>eL pg Φ bP (.cons (.pop 1) (.nil)))
  (λxs=>[some (av (h::af)),some (.lst (xs.map .int))]) (λxs=>by
   have e1:=yZ xs [];have e1:fk (.lst (xs.map .int)) (.lst [])=.ok (decide (xs=[])):=e1;cases xs with
   |nil=>simp![e1,aeZ];rfl
   |cons x xs =>
    have aZ:gD (.lst ((x::xs).map .int)) (.int (-1))=.ok (.int ((x::xs).getLastD 0)):=by
     rw[vx,List.map_cons,PF,<- List.map_cons,getLast?_map];rw[List.getLast?_cons,List.getLastD_cons,List.getLastD_eq_getLast?];rfl
    have jH:decide ((x::xs)=[])=false:=(by simp);simp![Ep,e1,jH,aZ];rw[List.getLast?_cons,List.getLastD_cons];congr 1;rw[Bool.eq_iff_iff];simp) (λxs ak=>by
   have aB:v5 (some (some (.lst (xs.map .int))))=.ok (.lst (xs.dropLast.map .int)):=by
    rw[List.map_dropLast];cases xs with
    |nil=>exact absurd rfl ak
    |cons x xs=>rfl
   simp![OH,aB]) 200 ((h-1)::af).length ((h-1)::af) rfl (by rw[List.length_cons];lia)
 have aZ:gD (.lst ((h::af).map .int)) (.int 0)=.ok (.int h):=by rw[vx,List.map_cons,PE]
 have lO:tK (some (some (.lst ((h::af).map .int)))) (.int (h-1))=.ok (.lst (((h-1)::af).map .int)):=rfl;rw[<- OL]at hw;simp![aW.xW,nA,aZ,OK,lO,hw];rfl
def SE(c v):cL pg Φ ⟨2,0,aW.x4⟩ [av c,.int v]=.ok (av (dl v c)):=by
 have e1:cV (elem pg Φ [some (av c),some (.int v)] (.var 2) 0 (.some (.cmp .ne (.var 2) (.var 1)))) (c.map .int)=.ok ((dl v c).map .int):=i5 λx _=>by
  simp!
  by_cases q:x=v
  .simp[q]
  .simp[q]
 simp![aW.x4,nA,e1];rfl
def TX:cL pg Φ ⟨1,3,aW.uy f c0⟩ [.lst []]=.exc c0:=rfl
noncomputable def nu(ts:List (List Int))(v:Int):List (List Int):=(ts.filter λt=>decide (v∈t)&&decide (1<t.length)).map (dl v)
noncomputable def nv(ts:List (List Int))(v:Int):List (List Int):=(ts.filter λt=>!decide (t=[v])).map (dl v)
def Lg(az:∀c:List Int,Φ e7 [av c,.int v]=.ok (av (dl v c))):cL pg Φ ⟨2,0,aW.xF fn e7⟩ [bo m ts,.int v]=mP (Φ fn [.lst ((nu ts v).map av)]>>=λd=>.ok (.cC d)):=by
 have ai:gD (bo m ts) (.int 1)=.ok (.tup (ts.map av)):=rfl;have e1:cV (elem pg Φ [some (bo m ts),some (.int v)] (.call e7 (.cons (.var 2) (.cons (.var 1) (.nil)))) 0 (.some (.and (.cmp .mem (.var 1) (.var 2)) (.cmp .gt (.prim .len (.var 2)) (.lit (.int 1)))))) (ts.map av)=.ok ((nu ts v).map av):=by
  unfold nu;rw[List.map_map];refine i5 λt _=>?_
  have hm:e5 .mem (.int v) (av t)=.ok (decide (v∈t)):=sY v t;have ae:decide ((1:Int)<(t.length:Int))=decide (1<t.length):=by
   refine aeG.mpr ?_;lia
  cases aO:decide (v∈t) with
  |true =>
   rw[aO]at hm;cases a9:decide (1<t.length) with
   |true=>rw[a9]at ae;simp![hm,kH,ae,az];rfl
   |false=>rw[a9]at ae;simp![hm,kH,ae,az];rfl
  |false=>rw[aO]at hm;simp![hm];rfl
 simp![aW.xF,ai,e1];cases Φ fn [.lst ((nu ts v).map av)]<;>rfl
def Zt(az:∀c:List Int,Φ e7 [av c,.int v]=.ok (av (dl v c))):cL pg Φ ⟨2,0,aW.yf fn e7⟩ [bo m ts,.int v]=mP (Φ fn [.lst ((nv ts v).map av)]>>=λd=>.ok (.cC d)):=by
 have ai:gD (bo m ts) (.int 1)=.ok (.tup (ts.map av)):=rfl;have e1:cV (elem pg Φ [some (bo m ts),some (.int v)] (.call e7 (.cons (.var 2) (.cons (.var 1) (.nil)))) 0 (.some (.cmp .ne (.var 2) (.tup (.cons (.var 1) (.nil)))))) (ts.map av)=.ok ((nv ts v).map av):=by
  unfold nv;rw[List.map_map];refine i5 λt _=>?_
  have hm:fk (av t) (.tup [.int v])=.ok (decide (t=[v])):=Ed t [v];simp![hm,az]
  by_cases aO:t=[v]
  .simp[aO]
  .simp[aO]
 simp![aW.yf,ai,e1];cases Φ fn [.lst ((nv ts v).map av)]<;>rfl
def Vc(aA:∀t∈ts,IsCell m t):∀a∈nu ts v,a∈cf ts v:=λa aw=>by
 obtain⟨t,J,rfl⟩:=List.mem_map.mp aw;obtain⟨aa,aE⟩:=List.mem_filter.mp J;simp only[aa3,abk]at aE;have hD:t∈cx ts:=hg.mpr ⟨(aA t aa).1,t,aa,.refl t⟩;have az:=sS (aA t aa).2.2 aE.1;refine hH.mpr ⟨oc hD acb λe=>?_,λq=>(mem_dl.mp q).2 rfl,by rw[jP (aA t aa).2.2 aE.1];exact hD⟩;have e:dl v t=[]:=e;rw[e,List.length_nil]at az;lia
def Vb(aA:∀t∈ts,IsCell m t):∀b∈cf ts v,∃a∈nu ts v,∀x∈b,x∈a:=λb ae=>by
 obtain⟨J,aa,aE⟩:=hH.mp ae;obtain⟨_,t,aR,bX⟩:=hg.mp aE;have az:=bX.length_le;rw[kI]at az;have fY:=List.length_pos_iff.mpr (hg.mp J).1;refine⟨dl v t,List.mem_map.mpr ⟨t,List.mem_filter.mpr ⟨aR,?_⟩,rfl⟩,λx ak=>mem_dl.mpr ⟨bX.subset (h4.mpr (.inl ak)),λe=>aa (e▸ak)⟩⟩;rw[decide_eq_true (bX.subset (h4.mpr (.inr rfl))),decide_eq_true (show 1<t.length by lia)];rfl
def Ve(aA:∀t∈ts,IsCell m t):∀a∈nv ts v,a∈rest ts v:=λa aw=>by
 obtain⟨t,J,rfl⟩:=List.mem_map.mp aw;obtain⟨aa,aE⟩:=List.mem_filter.mp J;have aE:t≠[v]:=by simpa using aE
 have hD:t∈cx ts:=hg.mpr ⟨(aA t aa).1,t,aa,.refl t⟩;refine jj.mpr ⟨oc hD acb λe=>?_,λq=>(mem_dl.mp q).2 rfl⟩;have e:dl v t=[]:=e
 by_cases aK:v∈t
 .have az:=sS (aA t aa).2.2 aK;rw[e,List.length_nil]at az;obtain⟨x,rfl⟩:=ada.mp az.symm;exact aE (by rw[abg.mp aK])
 .obtain⟨x,ak⟩:=acL t (aA t aa).1;have:x∈dl v t:=mem_dl.mpr ⟨ak,λq=>aK (q▸ak)⟩;rw[e]at this;cases this
def Vd:∀b∈rest ts v,∃a∈nv ts v,∀x∈b,x∈a:=λb ae=>by
 obtain⟨J,aa⟩:=jj.mp ae;obtain⟨aC,t,aR,bX⟩:=hg.mp J;refine⟨dl v t,List.mem_map.mpr ⟨t,List.mem_filter.mpr ⟨aR,?_⟩,rfl⟩,λx ak=>mem_dl.mpr ⟨bX.subset ak,λe=>aa (e▸ak)⟩⟩;have:t≠[v]:=λe=>by
  obtain⟨x,ak⟩:=acL b aC;have:=bX.subset ak;rw[e]at this;exact aa (by rw[<- abg.mp this];exact ak)
 simp[this]
def DM(x)(ys):e5 .mem x (.lst ys)=gG x ys:=ba rfl
noncomputable def jl(ts:List (List Int))(v:Int):List (List Int):=(fw ts).filter λc=>!decide (v∈c)&&decide (ins v c∈fw ts)
noncomputable def tA(ts:List (List Int))(v:Int):List (List Int):=(fw ts).filter λc=>!decide (v∈c)
def Sr(he:Φ fV [bo m ts]=.ok (.lst ((fw ts).map av)))(c7:∀c∈fw ts,c.length<=8):cL pg Φ ⟨2,1,aW.xQ fV⟩ [bo m ts,.int v]=.ok (.lst ((jl ts v).map av)):=by
 have e1:cV (elem pg Φ [some (bo m ts),some (.int v),some (.lst ((fw ts).map av))] (.var 3) 0 (.some (.and (.cmp .h5 (.var 1) (.var 3)) (.cmp .mem (.tupI (.seq (.prim .sorted (.bin .add (.var 3) (.tup (.cons (.var 1) (.nil))))))) (.var 2))))) ((fw ts).map av)=.ok ((jl ts v).map av):=i5 λc ag=>by
  have hm:e5 .h5 (.int v) (av c)=.ok (!decide (v∈c)):=by
   show hI (gG (.int v) (c.map .int))=_;rw[sY];rfl
  have c7:=c7 c ag;have aw:ej .add (av c) (.tup [.int v])=.ok (.tup ((c++[v]).map .int)):=by
   unfold av;rw[ri,if_pos (by simp[gP];lia),List.map_append];rfl
  have af:Den.sorted ((c++[v]).map .int)=.ok (.lst ((ins v c).map .int)):=I8 (by simp;lia);have aN:gG (.tup ((ins v c).map .int)) ((fw ts).map av)=.ok (decide (ins v c∈fw ts)):=Te (ins v c) (fw ts);cases aO:decide (v∈c) with
  |true=>rw[aO]at hm;simp![hm];rfl
  |false =>
   rw[aO]at hm;cases a9:decide (ins v c∈fw ts) with
   |true=>rw[a9]at aN;simp![hm,aw,af,DM,aN];rfl
   |false=>rw[a9]at aN;simp![hm,aw,af,DM,aN];rfl
 simp![aW.xQ,he,e1]
def Th(z):z∈jl ts v<->z∈cf ts v:=by
 unfold jl;rw[List.mem_filter,sZ,hH];simp only[aa3,abQ,aeK,abk,sZ]
def Ti(z):z∈tA ts v<->z∈rest ts v:=by
 unfold tA;rw[List.mem_filter,sZ,jj];simp
noncomputable def dZ(cs:List (List Int)):D:=if cs=[] then .str gU else bo (lf cs).length (bT (nb cs))
def qg:PySem.Str.ofString "none"=gU:=rfl
def NM(hm:∀z,z∈cs<->z∈rC)(aC:cs≠[]->Φ fn [.lst (cs.map av)]=.ok (bo (lf rC).length (bT (nb rC)))):cL pg Φ ⟨1,0,aW.ux fn⟩ [.lst (cs.map av)]=.ok (dZ rC):=by
 have e1:=y0 (ys:=cs.map av) (wo 58 cs);unfold dZ;cases cs with
 |nil =>
  have:rC=[]:=ac0.mpr λz hz=>by cases (hm z).mpr hz
  have e1:fk (D.lst []) (D.lst [])=.ok true:=e1;rw[if_pos this];simp![aW.ux,e1,ac4,qg]
 |cons c cs =>
  have:rC≠[]:=λe=>by have:=(hm c).mp List.mem_cons_self;rw[e]at this;cases this
  have aC:=aC (by simp);rw[if_neg this];rw[List.map_cons]at aC e1 ⊢;simp![aW.ux,e1,List.isEmpty_cons,aC]
noncomputable def hj(n:Nat):Int:=if n%2=1 then 1 else -1
noncomputable def eo(cs:List (List Int)):Int:=(cs.map λc=>hj c.length).sum
def Xe(n):hj (n+1)=- hj n:=by unfold hj;split<;>split<;>lia
def BL(h:List.Perm as bs):eo as=eo bs:=by
 unfold eo
 induction h with
 |nil=>rfl
 |cons a _ aG=>rw[List.map_cons,List.map_cons,List.sum_cons,List.sum_cons,aG]
 |swap a b L=>simp only[List.map_cons,List.sum_cons];lia
 |trans _ _ J aa=>exact J.trans aa
def Xf(as bs):eo (as++bs)=eo as+eo bs:=by unfold eo;rw[List.map_append,List.sum_append]
def Mv(hf:Φ f [bo m ts]=.ok (.lst ((cx ts).map av))):cL pg Φ ⟨1,0,aW.xM f⟩ [bo m ts]=.ok (.int (eo (cx ts))):=by
 have e1:cV (elem pg Φ [some (bo m ts)] (.ite (.cmp .eq (.bin .mod (.prim .len (.var 1)) (.lit (.int 2))) (.lit (.int 1))) (.lit (.int 1)) (.neg (.lit (.int 1)))) 0 .none) ((cx ts).map av)=.ok ((cx ts).map λc=>D.int (hj c.length)):=hO λc _=>by
  have hm:ej .mod (.int (c.length:Int)) (.int 2)=.ok (.int ((c.length:Int)%2)):=iu _ _ ∅;have aC:ev pg Φ [some (bo m ts),some (av c)] (.neg (.lit (.int 1)))=.ok (.int (-1)):=rfl;unfold hj
  by_cases q:c.length%2=1
  .have cB:((c.length:Int)%2==1)=true:=abx.mpr ⋯;simp![El,hm,kH,cB,aC,if_pos q]
  .have cB:((c.length:Int)%2==1)=false:=abG.mpr ⋯;simp![El,hm,kH,cB,aC,if_neg q]
 have ar:jr ((cx ts).map λc=>D.int (hj c.length))=.ok (.int (eo (cx ts))):=by
  have e:((cx ts).map λc=>D.int (hj c.length))=((cx ts).map λc=>hj c.length).map D.int:=(by rw[List.map_map];rfl);unfold jr;rw[e,vA];rfl
 simp![aW.xM,hf,e1,HJ,ar]
def bS.cnt(h:bS ts cs)(aA:∀t∈ts,IsCell m t):eo (c2.cx (bT (nb cs)))=eo cs:=by
 rw[<- BL (h.cx aA)];unfold eo;rw[List.map_map];exact ab6 List.sum (abB λc _=>by simp only[Function.comp,List.length_map])
def Ml(aA:∀t∈ts,IsCell m t)(ag:[v]∈cx ts):eo (cx ts)=eo (rest ts v)+1-eo (cf ts v):=by
 have p:((cx ts).filter (λc=>decide (v∈c))++rest ts v).Perm (cx ts):=adC _ _;have q:((cx ts).filter λc=>decide (v∈c)).Perm ([v]::(cf ts v).map (ins v)):=by
  refine tj ((pL ts).filter _) (abD.mpr ⟨λz=>?_,?_⟩) λz=>?_
  .obtain⟨c,J,aa⟩:=List.mem_map.mp z;have:=kI v c;rw[aa]at this;have aE:c.length=0:=(by simpa using this.symm);exact(hg.mp (hH.mp J).1).1 (acd aE)
  .rw[abq,abL];refine abA (λ{a b} aw ae (q:a≠b) e=>q ?_) (abq.mp (ma aA v).vP);have J:=hH.mp aw;have aa:=hH.mp ae;rw[<- rI (kg aA J.1).1 J.2.1,e,rI (kg aA aa.1).1 aa.2.1]
  .rw[List.mem_filter,aa8,List.mem_map];simp only[abk];constructor
   .rintro⟨J,aa⟩
    by_cases hz:z=[v]
    .exact .inl hz
    .have aw:=(kg aA J).1;refine .inr ⟨dl v z,hH.mpr ⟨oc J acb λe=>?_,λq=>(mem_dl.mp q).2 rfl,by rw[jP aw aa];exact J⟩,jP aw aa⟩;have e:dl v z=[]:=e;have:=jP aw aa;rw[e]at this;exact hz this.symm
   .rintro(rfl|⟨c,J,rfl⟩)
    .exact⟨ag,by simp⟩
    .exact⟨(hH.mp J).2.2,h4.mpr (.inr rfl)⟩
 have e:eo ((cf ts v).map (ins v))=- eo (cf ts v):=by
  unfold eo;rw[List.map_map];have:((λc:List Int=>hj c.length) ∘ ins v)=λc=>- hj c.length:=by funext c;simp only[Function.comp,kI,Xe]
  rw[this];generalize cf ts v=L
  induction L with
  |nil=>rfl
  |cons a L aG=>simp only[List.map_cons,List.sum_cons,aG];lia
 have e1:eo ([v]::(cf ts v).map (ins v))=1+eo ((cf ts v).map (ins v)):=rfl;rw[<- BL p,Xf,BL q,e1,e];lia
def BO(m ts):c5 60 (bo m ts)=true:=by
 show(c5 59 (.int m)&&(c5 59 (.tup (ts.map av))&&true))=true;have:c5 59 (.tup (ts.map av))=true:=wo 57 ts;rw[this];rfl
def BM:c5 60 (.str gU)=true:=by decide +kernel
def yY(cs):fk (dZ cs) (.str gU)=.ok (decide (cs=[])):=by
 unfold dZ
 by_cases q:cs=[]
 .rw[if_pos q,y2 BM BM,decide_eq_true q];have:gf (.str gU) (.str gU)=true:=(by decide +kernel);rw[this]
 .rw[if_neg q,y2 (BO _ _) BM,decide_eq_false q];rfl
def y1(cs):fk (dZ cs) (dZ cs)=.ok true:=by
 unfold dZ
 by_cases q:cs=[]
 .have:=yY cs;unfold dZ at this;rw[if_pos q]at this ⊢;rw[this,decide_eq_true q]
 .rw[if_neg q,y2 (BO _ _) (BO _ _)];show R.ok (((_:Int)==_)&&(kl ((bT (nb cs)).map av) ((bT (nb cs)).map av)&&true))=_;rw[Ec];simp
def Sv(h:bS ts cs)(aA:∀t∈ts,IsCell m t)(hf:cs≠[]->Φ f [bo (lf cs).length (bT (nb cs))]=.ok (.int (eo (cx (bT (nb cs)))))):cL pg Φ ⟨1,0,aW.uw f⟩ [dZ cs]=.ok (.int (eo cs)):=by
 have e1:=yY cs
 by_cases q:cs=[]
 .rw[decide_eq_true q]at e1;simp![aW.uw,qg,e1];rw[q];rfl
 .have hf:=hf q;rw[h.cnt aA]at hf;have ar:bo (lf cs).length (bT (nb cs))=dZ cs:=(by unfold dZ;rw[if_neg q]);rw[ar]at hf;rw[decide_eq_false q]at e1;simp![aW.uw,qg,e1,hf]
def wg(k b)(x y z):cL pg Φ ⟨3,k,b⟩ [x,y,z]=mP (eL pg Φ (some x::some y::some z::List.replicate k none) b):=ba rfl
def YV(h:Φ bl [a,b]=.ok d):cL pg Φ ⟨3,1,aW.lu bl r1 ih k5 dU⟩ [.int 0,a,b]=.ok d:=by
 have q:((0:Int)==0)=true:=rfl;simp![wg,aW.lu,rX,jK,q,h,Cf]
def YX(h:Φ r1 [a,b]=.ok d):cL pg Φ ⟨3,1,aW.lu bl r1 ih k5 dU⟩ [.int 1,a,b]=.ok d:=by
 have q:((1:Int)==0)=false:=rfl;have cB:((1:Int)==1)=true:=rfl;simp![wg,aW.lu,rX,jK,q,cB,h,Cf]
def YW(h:Φ bl [a,b]=.exc 1)(he:iJ pg 1 k5 ⟨3,dU,1000⟩=.ok (.cC (.str gU))):cL pg Φ ⟨3,1,aW.lu bl r1 ih k5 dU⟩ [.int 0,a,b]=.ok (.str gU):=by
 have q:((0:Int)==0)=true:=rfl;simp![wg,aW.lu,rX,jK,q,h,Ce,he]
def YY(h:Φ r1 [a,b]=.exc 1)(he:iJ pg 1 k5 ⟨3,dU,1000⟩=.ok (.cC (.str gU))):cL pg Φ ⟨3,1,aW.lu bl r1 ih k5 dU⟩ [.int 1,a,b]=.ok (.str gU):=by
 have q:((1:Int)==0)=false:=rfl;have cB:((1:Int)==1)=true:=rfl;simp![wg,aW.lu,rX,jK,q,cB,h,Ce,he]
noncomputable def ir(ts:List (List Int))(k:Nat):Int:=(cZ ts k:Int)-if k=0 then 1 else 0
noncomputable def jh(ts:List (List Int)):List Int:=kY ((List.range (ai ts)).map (ir ts))
def vh(h:Good N):1<=ai N.2:=by
 have J:=A0 h.dI
 match aL:N.2,J with
 |t::ts,_ =>
  have aA:t∈N.2:=(by rw[aL];exact List.mem_cons_self);have aa:=z0 t aA;have aE:=(h.dI.cell t aA).1;have aR:1<=t.length:=by cases t with|nil=>exact absurd rfl aE|cons _ _=>simp
  rw[aL]at aa;lia
def S1(J:1<=ai ts)(aa:1<=ai k7)(h:∀k,cZ k7 k=cZ ts k):jh k7=jh ts:=by
 have e:ir k7=ir ts:=by funext k;unfold ir;rw[h]
 unfold jh;rw[e];have a:=B2 (ir ts) (n:=ai ts) (ai k7) λj aI=>by unfold ir;rw[Br aI,if_neg ⋯];rfl
 have b:=B2 (ir ts) (n:=ai k7) (ai ts) λj aI=>by unfold ir;rw[<- h,Br aI,if_neg ⋯];rfl
 rw[<- a,<- b,Nat.add_comm]
def AJ{Φ:fe}(hf:∀(h:Int)(af:List Int),af.length<100->Φ f [av (h::af)]=.ok (.lst ((kY ((h-1)::af)).map .int)))(h:Good N):Φ f [.tup ((List.range (ai N.2)).map λk=>D.int (cZ N.2 k:Int))]=.ok (.lst ((jh N.2).map .int)):=by
 have J:=vh h;have c7:=AZ h.dI;unfold jh;obtain⟨n,aC⟩:∃n,ai N.2=n+1:=⟨ai N.2-1,⋯⟩;rw[aC,adK];have:=hf (cZ N.2 0:Int) ((List.range n).map λk=>(cZ N.2 (k+1):Int)) (by rw[List.length_map,List.length_range];lia);have e1:D.tup ((0::(List.range n).map Nat.succ).map λk=>D.int (cZ N.2 k:Int))=av ((cZ N.2 0:Int)::(List.range n).map λk=>(cZ N.2 (k+1):Int)):=by
  unfold av;rw[List.map_cons,List.map_cons,List.map_map,List.map_map];rfl
 have ar:(0::(List.range n).map Nat.succ).map (ir N.2)=((cZ N.2 0:Int)-1)::(List.range n).map λk=>(cZ N.2 (k+1):Int):=by
  rw[List.map_cons,List.map_map];refine List.cons_eq_cons.mpr ⟨rfl,abB λk _=>?_⟩;show ir N.2 (k+1)=_;unfold ir;rw[if_neg ⋯,ae3]
 rw[e1,ar,this]
theorem Jh:∀(n:Nat)(xs:List Int),xs.length=n->nC n xs=[]->∀x∈xs,x=0
 |0,xs,e,_=>λx ak=>by rw[acd e]at ak;cases ak
 |n+1,xs,e,h=>λx ak=>by
  rw[nC]at h
  split at h
  .rename_i q;have:=Jh n xs.dropLast (by rw[ad9];lia) h;rcases adO xs with rfl|⟨l,a,rfl⟩
   .cases ak
   .rw[adP]at q ak this;rw[List.getLast?_append]at q;simp at q;rw[List.dropLast_concat]at this;rcases abn.mp ak with w|w
    .exact this x w
    .rw[abg.mp w,q]
  .rw[h]at e;cases e
def S2(h:Good N)(e:jh N.2=[]):cZ N.2 0=1/\∀n,cZ N.2 (n+1)=0:=by
 have J:=vh h;have key:∀k,k<ai N.2->ir N.2 k=0:=λk ax=>Jh _ _ rfl e _ (List.mem_map.mpr ⟨k,List.mem_range.mpr ax,rfl⟩)
 refine⟨?_,λn=>?_⟩
 .have:=key 0 J;unfold ir at this;rw[if_pos rfl]at this;lia
 .by_cases q:n+1<ai N.2
  .have:=key (n+1) q;unfold ir at this;rw[if_neg ⋯]at this;lia
  .exact Br ⋯
def bS.good(h:Good N)(s:bS N.2 cs)(aC:cs≠[]):Good (((lf cs).length:Int),bT (nb cs)):=by
 have aA:=h.dI.cell;refine⟨s.dI aA h.dI.ai aC,?_⟩;have J:=JU (nb cs);have aa:cs.length<=(c2.cx N.2).length:=jm s.vP s.sub;have aE:=uU h.dI.ai aA;have aR:(nb cs).length=cs.length:=List.length_map _;show(bT (nb cs)).length<=63;lia
def A2(h:cs≠[]):dZ cs=bo (lf cs).length (bT (nb cs)):=by unfold dZ;rw[if_neg h]
def Mt(h:Net m ts)(h0:0<=v)(J:v<m):[v]∈cx ts:=by
 obtain⟨t,aA,aK⟩:=rA.mp h.gQ v h0 J;exact hg.mpr ⟨by simp,t,aA,List.singleton_sublist.mpr aK⟩
def Sq{is:List Int}(hm:∀k:Nat,∃r:Int,0<=r/\r<nR/\Φ zl [.lst (is.map .int),.int (k:Int)]=.ok (.int r))(aC:∀i:Int,0<=i->∃m ts,Φ fn [.int i,.int 6]=.ok (bo m ts)/\Net m ts/\m<=6/\ts.length<=20)(J:∀(N:jA)(v:Int),Good N->[v]∈cx N.2->Φ lI [.int 0,bo N.1 N.2,.int v]=.ok (dZ (cf N.2 v)))(aa:∀(N:jA)(v:Int),Good N->[v]∈cx N.2->Φ lI [.int 1,bo N.1 N.2,.int v]=.ok (dZ (rest N.2 v)))(aE:∀(N:jA)(v:Int),Good N->Φ Ex [bo N.1 N.2,.int v]=.ok (.lst ((jl N.2 v).map av)))(aR:∀N:jA,Good N->Φ fV [bo N.1 N.2]=.ok (.lst ((fw N.2).map av)))(bX:∀(N:jA)(v:Int),Good N->Φ fd [.lst ((jl N.2 v).map av)]=.ok (dZ (cf N.2 v)))(ez:∀(N:jA)(v:Int),Good N->Φ fd [.lst ((tA N.2 v).map av)]=.ok (dZ (rest N.2 v)))(gi:∀N:jA,Good N->Φ fc [bo N.1 N.2]=.ok (.int (eo (cx N.2))))(c7:∀(N:jA)(cs:List (List Int)),Good N->bS N.2 cs->Φ zi [dZ cs]=.ok (.int (eo cs)))(kp:∀N:jA,Good N->Φ lH [bo N.1 N.2]=.ok (.tup ((List.range (ai N.2)).map λk=>D.int (cZ N.2 k:Int))))(aw:∀(h:Int)(af:List Int),af.length<100->Φ e7 [av (h::af)]=.ok (.lst ((kY ((h-1)::af)).map .int)))(Am:∀N:jA,Good N->∀n,cZ N.2 n+eI N.2 (n+1)+eI N.2 n=nn N.2 n):cL pg Φ ⟨1,4,aW.rp e7 lH fc zi fd fV Ex lI zl fn⟩ [.lst (is.map .int)]=.ok (.aV true):=by
 obtain⟨r,fP,-,e0⟩:=hm 0;obtain⟨aH,-,-,rO⟩:=hm 1;have e0:Φ zl [.lst (is.map .int),.int 0]=.ok (.int r):=e0;have rO:Φ zl [.lst (is.map .int),.int 1]=.ok (.int aH):=rO;obtain⟨m,ts,e1,aL,aah,az⟩:=aC r fP;have g:Good (m,ts):=⟨aL,by show ts.length<=63;lia⟩;have aA:=aL.cell;have m0:0<m:=by have:=aL.lo;lia
 have iI:gD (bo m ts) (.int 0)=.ok (.int m):=rfl;have v0:=aeU aH (Int.ne_of_gt m0);have v1:=aen aH m0;have emod:=iu aH m m0;generalize aH%m=v at *;have aK:[v]∈cx ts:=Mt aL v0 v1;have f1:Φ lI [.int 0,bo m ts,.int v]=.ok (dZ (cf ts v)):=J (m,ts) v g aK;have f2:Φ lI [.int 1,bo m ts,.int v]=.ok (dZ (rest ts v)):=aa (m,ts) v g aK;have ew:Φ Ex [bo m ts,.int v]=.ok (.lst ((jl ts v).map av)):=aE (m,ts) v g;have f4:Φ fV [bo m ts]=.ok (.lst ((fw ts).map av)):=aR (m,ts) g;have ey:Φ fd [.lst ((jl ts v).map av)]=.ok (dZ (cf ts v)):=bX (m,ts) v g;have uX:Φ fd [.lst ((tA ts v).map av)]=.ok (dZ (rest ts v)):=ez (m,ts) v g;have uY:Φ fc [bo m ts]=.ok (.int (eo (cx ts))):=gi (m,ts) g;have f8:Φ zi [dZ (cf ts v)]=.ok (.int (eo (cf ts v))):=c7 (m,ts) _ g (ma aA v);have za:Φ zi [dZ (rest ts v)]=.ok (.int (eo (rest ts v))):=c7 (m,ts) _ g (qK ts v);have aO:∀(x y:Option D),cV (elem pg Φ [some (.lst (is.map .int)),some (bo m ts),some (.int v),x,y] (.var 5) 0 (.some (.cmp .h5 (.var 2) (.var 5)))) ((fw ts).map av)=.ok ((tA ts v).map av):=λx y=>i5 λc _=>by
  have hm:e5 .h5 (.int v) (av c)=.ok (!decide (v∈c)):=by
   show hI (gG (.int v) (c.map .int))=_;rw[sY];rfl
  simp![hm];cases decide (v∈c)<;>rfl
 have a9:(eo (cx ts)==eo (rest ts v)+1-eo (cf ts v))=true:=abx.mpr (Ml aA aK);have bW:=yY (cf ts v);cases hz:decide (cf ts v=[]) with
 |true =>
  rw[hz]at bW;simp![aW.rp,e0,rO,e1,iI,emod,f1,f2,ew,f4,ey,uX,uY,f8,za,y1,aO,a9,bW,qg]
 |false =>
  rw[hz]at bW;have dT:cf ts v≠[]:=of_decide_eq_false hz;have Ai:rest ts v≠[]:=λe=>by
   obtain⟨z,h⟩:=acL _ dT;have h:=hH.mp h;have:=jj.mpr ⟨h.1,h.2.1⟩;rw[e]at this;cases this
  have u4:=(ma aA v).good g dT;have u6:=(qK ts v).good g Ai;have k1:=kp _ u4;have k2:=AJ aw u4;have k1:Φ lH [dZ (cf ts v)]=.ok (.tup ((List.range (ai (bT (nb (cf ts v))))).map λk=>D.int (cZ (bT (nb (cf ts v))) k:Int))):=(by rw[A2 dT];exact k1);have k3:=yZ (jh (bT (nb (cf ts v)))) [];have k3:fk (.lst ((jh (bT (nb (cf ts v)))).map .int)) (.lst [])=_:=k3;have k2:Φ e7 [.tup ((List.range (ai (bT (nb (cf ts v))))).map λk=>D.int (cZ (bT (nb (cf ts v))) k:Int))]=.ok (.lst ((jh (bT (nb (cf ts v)))).map .int)):=k2;cases aP:decide (jh (bT (nb (cf ts v)))=[]) with
  |false =>
   rw[aP]at k3;simp![aW.rp,e0,rO,e1,iI,emod,f1,f2,ew,f4,ey,uX,uY,f8,za,y1,aO,a9,bW,qg,k1,k2,k3]
  |true =>
   rw[aP]at k3;obtain⟨bO,bF⟩:=S2 u4 (adM aP);have bO:cZ (bT (nb (cf ts v))) 0=1:=bO;have bF:∀n,cZ (bT (nb (cf ts v))) (n+1)=0:=bF;have s0:=Am _ u4;have s1:=Am (m,ts) g;have s2:=Am _ u6;dsimp only at s0 s1 s2;have af:=WZ aA aK dT s0 bO bF s1 s2;have b8:Φ lH [bo m ts]=.ok (.tup ((List.range (ai ts)).map λk=>D.int (cZ ts k:Int))):=kp (m,ts) g;have k5:Φ e7 [.tup ((List.range (ai ts)).map λk=>D.int (cZ ts k:Int))]=.ok (.lst ((jh ts).map .int)):=AJ aw g;have dU:=kp _ u6;have lT:=AJ aw u6;have dU:Φ lH [dZ (rest ts v)]=.ok (.tup ((List.range (ai (bT (nb (rest ts v))))).map λk=>D.int (cZ (bT (nb (rest ts v))) k:Int))):=(by rw[A2 Ai];exact dU);rw[S1 (vh g) (vh u6) λk=>(af k).symm]at lT;have lT:Φ e7 [.tup ((List.range (ai (bT (nb (rest ts v))))).map λk=>D.int (cZ (bT (nb (rest ts v))) k:Int))]=.ok (.lst ((jh ts).map .int)):=lT;simp![aW.rp,e0,rO,e1,iI,emod,f1,f2,ew,f4,ey,uX,uY,f8,za,y1,aO,a9,bW,qg,k1,k2,k3,b8,k5,dU,lT,yZ,aeZ]
end c2
end
section
namespace eh
open PySem
noncomputable def fr(l:List Env):List Addr:=l.filterMap (·.frame)
def fK(cls:Nat->Option Addr)(c:Nat)(e:Value)(l:List Addr)(h:Heap):Prop :=
 ∃bG C d9 ah,e=.ref bG/\cls c=some C/\h.get? bG=some d9/\d9.cls=.ref C/\d9.data=.fields ah/\ah[2]?=some .none /\
  ((l=[bG]/\ah[1]?=some .none)\/∃T jV ts,l=[bG,T]/\ah[1]?=some (.ref T)/\T≠bG/\h.get? T=some jV/\jV.data=.fields ts/\ts[3]?=some .none)
def YQ{s:Shared}(az:s.heap.FunFrames base l)(he:s.heap.get? a=some o)(hd:o.data=.fields ah):a∉fr l:=λhm=>by
 obtain⟨_,bL,q,aC⟩:=az.mem hm;rw[he]at q;cases q;exact aC ah hd
def entry(mY:A.frames=some (env::outer))(az:s.heap.FunFrames base (env::outer))(hf:env.frame=some L)(he:s.heap.get? bG=some d9)(hd:d9.data=.fields ah)(hz:1<ah.size)(k:∀h' T jV ts,h'.get? bG=some (d9.mapFields (·.setIfInBounds 1 (.ref T)))->T≠bG->s.heap.get? T=none->h'.get? T=some jV->jV.data=.fields ts->3<ts.size ->
   (∀b o,s.heap.get? b=some o->b≠bG->b∉fr (env::outer)->h'.get? b=some o)->(∀b o,s.heap.get? b=some o->b≠bG->∃bI,h'.get? b=some { o with slots:=bI })->Q () { s with heap:=h' }):
  wpAny M A (do let a <- frameOf env;let cn <- entryPlaceOf L bD;let b <- EntryCells.newEntry head a .none (rawInt L) .none cn;setField (.ref bG) 1 b) Q E s:=by
 refine aa2 (wpAny_frameOf_fun mY az hf λg1 ⟨bO,bF,dO⟩=>aa2 (wpAny_entryPlaceOf λcn d4=>?_));unfold EntryCells.newEntry newFields;have e1:g1.get? bG=some d9:=(bF bG (YQ az he hd)).trans he;have ne:g1.objs.size≠bG:=ae2 (abc e1);refine aa2 (abE (acv (aa5 _ e1) hd hz (k _ g1.objs.size _ _ (abz _ (aa5 _ e1) (adh (acu hd _))) ne ?_ ((abr _ _ ne.symm).trans (abd g1 rfl)) rfl ?_ (λb o q ae aC=>?_) λb o q ae=>?_)) (d4.sizeOk5 _ _ _ _ _))
 .cases q:s.heap.get? g1.objs.size with
  |none=>rfl
  |some o=>exact absurd (abc q) (by rw[bO];exact aco _)
 .simp
 .rw[abr _ _ (ab1 ae)];exact aa5 _ ((bF b aC).trans q)
 .obtain⟨bI,cB⟩:=dO b o q;exact⟨bI,by rw[abr _ _ (ab1 ae)];exact aa5 _ cB⟩
def note(mY:A.frames=some (env::outer))(az:s.heap.FunFrames base (env::outer))(hf:env.frame=some L)(ak:fK cls c e l s.heap)(k:∀h' gk,fK cls c e gk h'->(∀a∈gk,a∈l\/s.heap.get? a=none)->(∀b o,s.heap.get? b=some o->b∉l->b∉fr (env::outer)->h'.get? b=some o) ->
   (∀b o,s.heap.get? b=some o->b∈fr (env::outer)->∃bI,h'.get? b=some { o with slots:=bI })->Q () { s with heap:=h' }):
  wpAny M A (noteFrame e env) (λ_ s2=>wpAny M A (setFlight e none) Q E s2) E s:=by
 obtain⟨bG,C,d9,ah,rfl,ag,he,dE,hd,aa,a3⟩:=ak;have hz:1<ah.size:=Nat.lt_trans ∅ (abv.mp aa).1;have fin:∀{h0 J:Heap}{T:Addr}{jV:Obj}{ts:Array Value},(∀b o,s.heap.get? b=some o->b∉l->h0.get? b=some o)->bG∈l->J.get? bG=some (d9.mapFields (·.setIfInBounds 1 (.ref T)))->T≠bG->s.heap.get? T=none->J.get? T=some jV->jV.data=.fields ts->3<ts.size ->
   (∀b o,h0.get? b=some o->b≠bG->b∉fr (env::outer)->J.get? b=some o)->(∀b o,h0.get? b=some o->b≠bG->∃bI,J.get? b=some { o with slots:=bI })->(∀b,b∈l->∀o,s.heap.get? b=some o->∃ws,o.data=.fields ws)->wpAny M A (setFlight (.ref bG) none) Q E { s with heap:=J }:=by
  intro h0 J T jV ts k0 lL aO a9 bW dn hJ kT iv tu Vw;have bZ:=acu hd (·.setIfInBounds 1 (Value.ref T));have v1:(ah.setIfInBounds 1 (Value.ref T))[1]?=some (Value.ref T):=(by simp[hz]);have v2:(ah.setIfInBounds 1 (Value.ref T))[2]?=some Value.none:=(by rw[Array.getElem?_setIfInBounds_ne ∅];exact aa);have nl:∀b o,s.heap.get? b=some o->b∈fr (env::outer)->b∉l:=λb o q ae hm=>by
   obtain⟨_,bL,cB,aC⟩:=az.mem ae;rw[q]at cB;cases cB;obtain⟨ws,hw⟩:=Vw b hm o q;exact aC ws hw
  have GY:∀b o,s.heap.get? b=some o->b≠T:=λb o q z=>by rw[z,bW]at q;cases q
  have ni:∀b,b≠T->(J.update T (Obj.mapFields (·.setIfInBounds 3 ((none:Option Addr).elim Value.none λf=>rawInt f)))).get? b=J.get? b:=λb ae=>abr _ _ (ab1 ae)
  unfold setFlight;refine aa2 (ac2 aO bZ v1 ?_);rw[if_pos (show(Value.ref T != Value.none)=true from by simp)];refine acv dn hJ kT (k _ [bG,T] ⟨bG,C,_,_,rfl,ag,(ni bG (ab1 a9)).trans aO,(Obj.cls_mapFields _ _).trans dE,bZ,v2,.inr ⟨T,_,_,rfl,v1,a9,abz _ dn (adh (acu hJ _)),acu hJ _,by simp[kT]⟩⟩ (λa aw=>?_) (λb o q ae aC=>?_) λb o q ae=>?_)
  .rcases aa8.mp aw with rfl|aw
   .exact .inl lL
   .obtain rfl:a=T:=(by simpa using aw);exact .inr bW
  .exact(ni b (GY b o q)).trans (iv b o (k0 b o q ae) (λz=>ae (by rw[z];exact lL)) aC)
  .have hm:=nl b o q ae;obtain⟨bI,z⟩:=tu b o (k0 b o q hm) λz=>hm (by rw[z];exact lL)
   exact⟨bI,(ni b (GY b o q)).trans z⟩
 unfold noteFrame;simp only[hf];rcases a3 with⟨rfl,J⟩|⟨T,jV,ts,rfl,J,zI,cG,om,aE⟩
 .refine aa2 (ac2 he hd J ?_);rw[if_neg ∅];refine entry mY az hf he hd hz λh' mx T3 k7 aO a9 bW dn hJ kT iv tu=>fin (h0:=s.heap) (λb o q _=>q) (by simp) aO a9 bW dn hJ kT iv tu λb ae o q=>?_
  obtain rfl:b=bG:=(by simpa using ae);rw[he]at q;cases q;exact⟨ah,hd⟩
 .refine aa2 (ac2 he hd J ?_);rw[if_pos (show(Value.ref T != Value.none)=true from by simp)];refine aa2 (ac2 cG om aE ?_);rw[if_neg (show ¬((Value.none==rawInt L)=true) from by simp[rawInt])];refine aa2 (acv cG om (abv.mp aE).1 ?_);have ni:∀b,b≠T->(s.heap.update T (Obj.mapFields (·.setIfInBounds 3 Value.none))).get? b=s.heap.get? b:=λb ae=>abr _ _ (ab1 ae)
  have VL:∀b,b∈[bG,T]->∀o,s.heap.get? b=some o->∃ws,o.data=.fields ws:=λb ae o q=>by
   rcases aa8.mp ae with rfl|ae
   .rw[he]at q;cases q;exact⟨ah,hd⟩
   .obtain rfl:b=T:=(by simpa using ae);rw[cG]at q;cases q;exact⟨ts,om⟩
  have m2:(s.heap.update T (Obj.mapFields (·.setIfInBounds 3 Value.none))).FunFrames base (env::outer):=az.of_keeps λb o q aC=>⟨o,(ni b λz=>by rw[z,cG]at q;cases q;exact aC ts om).trans q,rfl⟩
  have P4:∀mx,(s.heap.update T (Obj.mapFields (·.setIfInBounds 3 Value.none))).get? mx=none->s.heap.get? mx=none:=λmx q=>by
   by_cases z:mx=T
   .subst z;rw[abz _ cG (adh (acu om _))]at q;cases q
   .rw[ni mx z]at q;exact q
  exact entry (s:={ s with heap:=s.heap.update T (Obj.mapFields (·.setIfInBounds 3 Value.none)) }) mY m2 hf ((ni bG (ab1 zI)).trans he) hd hz λh' mx T3 k7 aO a9 bW dn hJ kT iv tu =>
   fin (h0:=s.heap.update T (Obj.mapFields (·.setIfInBounds 3 Value.none))) (λb o q ae=>(ni b λz=>ae (by simp[z])).trans q) (by simp) aO a9 (P4 mx bW) dn hJ kT iv tu VL
def leave(mY:A.frames=some (env::outer))(az:s.heap.FunFrames base (env::outer))(hf:env.frame=some L)(ak:fK cls c e l s.heap)(k:∀h' gk,fK cls c e gk h'->(∀a∈gk,a∈l\/s.heap.get? a=none)->(∀b o,s.heap.get? b=some o->b∉l->b∉fr (env::outer)->h'.get? b=some o) ->
   (∀b o,s.heap.get? b=some o->b∈fr (env::outer)->∃bI,h'.get? b=some { o with slots:=bI })->Q () { s with heap:=h' }):
  wpAny M A (leaving env e) Q E s:=by
 unfold leaving;exact aa2 (note mY az hf ak k)
def Pm(ak:fK cls c e l s.heap)(k:∀(h':Heap)(gk:List Addr),(∀a∈gk,a∈l/\e≠.ref a)->(∀b o,s.heap.get? b=some o->b∉gk->h'.get? b=some o)->Q () { s with heap:=h' }):wpAny M A (setFlight e none) Q E s:=by
 obtain⟨bG,C,d9,ah,rfl,ag,he,dE,hd,h0,a3⟩:=ak;rcases a3 with⟨rfl,J⟩|⟨T,jV,ts,rfl,J,zI,cG,om,aE⟩
 .unfold setFlight;refine aa2 (ac2 he hd J ?_);rw[if_neg ∅];exact aa4 (k s.heap [] (λ_ z=>nomatch z) λb o q _=>q)
 .unfold setFlight;refine aa2 (ac2 he hd J ?_);rw[if_pos (show(Value.ref T != Value.none)=true from by simp)];refine acv cG om (abv.mp aE).1 (k _ [T] (λa aw=>?_) λb o q ae=>?_)
  .obtain rfl:a=T:=(by simpa using aw);exact⟨by simp,λz=>zI (Value.ref.inj z).symm⟩
  .rw[abr _ _ (λz=>ae (by simp[z]))];exact q
def made(ag:cls c=some C)(hm:Heap.MadeExcOf h h' e (.ref C) args):fK cls c (.ref e) [e] h':=by
 obtain⟨t,he,_,_⟩:=hm.there;exact⟨e,C,_,_,rfl,ag,he,rfl,rfl,rfl,.inl ⟨rfl,rfl⟩⟩
section
def F5(ak:s.heap.get? x=some kQ)(dE:kQ.cls=.ref C)(dX:s.heap.get? C=some (excClassObj nm q C N bs bm hdct sn sub ab col dd k0 k1 k2 k3 k5 newId))(jN:∀{fx:Around}{dQ:Value->Shared->Prop}{fJ},dQ (.type "type") s->wpAny (model prog w) fx (typeOf c) dQ fJ s)(z2:∀{fx:Around}{dQ:Bool->Shared->Prop}{fJ},dQ true s->wpAny (model prog w) fx (isType c) dQ fJ s)(hm:(Value.ref C::bm).contains c=true)(h:Q (.done (.ret (.bool true))) s):wpAny (model prog w) A (Builtin.«isinstance.nested» ⟨[.ref x,c,.int dep tk],[]⟩) Q E s:=by
 obtain⟨h0,g,d,tt,os⟩:=s;have q8:∀{fx:Around}{dQ:Value->Shared->Prop}{fJ},dQ (.ref C) ⟨h0,g,d,tt,os⟩->wpAny (model prog w) fx (typeOf (.ref x)) dQ fJ ⟨h0,g,d,tt,os⟩:=λ{fx dQ fJ} z=>by
  unfold typeOf
  repeat (first|(with_reducible refine abW ak ?_;rw[dE])|wp_step)
  exact z
 unfold Builtin.«isinstance.nested»;refine aa2 (q8 ?_)
 by_cases he:(Value.ref C==c)=true
 .rw[if_pos he];show wpAny (model prog w) A (pure _) Q E _;exact aa4 h
 .rw[if_neg he];refine aa2 (jN ?_);rw[if_pos ∅]
  k_delta "plainIsInstance"
  refine aa2 (aa2 (z2 ?_));simp only[acp,aa6,abp];refine aa2 ?_;unfold isInstance;refine aa2 (q8 ?_);refine acq dX ?_;rw[hm];simp only[abU]
  first
   |exact aa4 h
   |exact aa4 (aa4 h)
   |exact aa2 (aa4 (aa4 h))
def RT(ak:s.heap.get? x=some kQ)(dE:kQ.cls=.ref C)(dX:s.heap.get? C=some (excClassObj nm q C N bs bm hdct sn sub ab col dd k0 k1 k2 k3 k5 newId))(eN:s.heap.get? D=some l2)(zE:l2.cls=.type "type")(zF:∃cd,l2.data=.cls cd)(hm:(Value.ref C::bm).contains (.ref D)=true)(h:Q (.bool true) s):wpAny (model prog w) A (call (.builtin "isinstance") [.ref x,.ref D]) Q E s:=by
 refine aeX (S:=λ_ R s=>(s.heap.get? x=some kQ/\s.heap.get? C=some (excClassObj nm q C N bs bm hdct sn sub ab col dd k0 k1 k2 k3 k5 newId)/\s.heap.get? D=some l2)/\R (.ok (.ret (.bool true))) s)
  (λ_ _ _ _ _ af=>aeL (F5 af.1.1 dE af.1.2.1 (λ{fx dQ fJ} z=>?_) (λ{fx dQ fJ} z=>?_) hm af.2) (by intro q;cases q)) ⟨⟨ak,dX,eN⟩,h⟩
 .have eN:=af.1.2.2;rename_i s';obtain⟨h0,g,d,tt,os⟩:=s';unfold typeOf
  repeat (first|(with_reducible refine abW eN ?_;rw[zE])|wp_step)
  exact z
 .have eN:=af.1.2.2;obtain⟨fN,bb,T6,fO⟩:=l2;obtain⟨cd,rfl⟩:=zF;unfold isType loadHead;exact aa2 (wpAny_loadPart eN (aa4 z))
def RU(ak:s.heap.get? x=some kQ)(dE:kQ.cls=.ref C)(dX:s.heap.get? C=some (excClassObj nm q C N bs bm hdct sn sub ab col dd k0 k1 k2 k3 k5 newId))(jN:typeOf (.type T)=pure (.type "type"))(hm:bm.contains (.type T)=true)(h:Q (.bool true) s):wpAny (model prog w) A (call (.builtin "isinstance") [.ref x,.type T]) Q E s:=by
 refine aeX (S:=λ_ R s=>(s.heap.get? x=some kQ/\s.heap.get? C=some (excClassObj nm q C N bs bm hdct sn sub ab col dd k0 k1 k2 k3 k5 newId))/\R (.ok (.ret (.bool true))) s)
  (λ_ _ _ _ _ af=>aeL (F5 af.1.1 dE af.1.2 (λ{fx dQ fJ} z=>?_) (λ{fx dQ fJ} z=>?_) (by rw[adb,hm,adL]) af.2) (by intro q;cases q)) ⟨⟨ak,dX⟩,h⟩
 .rw[jN];exact aa4 z
 .exact aa4 z
end
end eh
end
section
namespace eh
open PySem PySem.W
section
variable{prog:Program}{w:World}{A:Around}{E:Value->Shared->Prop}{h:Heap}{g:Array GenState}{d:Drawn}{t:Nat}{os:OsState}{a:Addr}{o:Obj}{K:Frag}{nm q:Str}{C N:Addr}{bs bm:List Value}{hdct:Bool}{sn:List Str}{sub:List Value}{ab:Bool}{col:Option Bool}{dd:Option Addr}{k0 k1 k2 k3 k5:Option Value}{newId:String}
def S9(dX:h.get? C=some (excClassObj nm q C N bs bm hdct sn sub ab col dd k0 k1 k2 k3 k5 newId))(eN:h.get? D=some (excClassObj aaL cB D dP LI Dm Z8 aaU B3 ZT ZX mL aaz aaA aaB aaC aaD aaK))(he:h.get? e=some d9)(zS:d9.cls=.ref C)(sb:Dm.contains (.type "BaseException")=true)(hm:(Value.ref C::bm).contains (.ref D)=true)(aN:Q true ⟨h,g,d,t,os⟩):wpAny M A (excMatches (.ref e) (.ref D)) Q E ⟨h,g,d,t,os⟩:=by
 have se:(Value.ref D::Dm).contains (.type "BaseException")=true:=by rw[adb,sb,adL]
 have f:=tc_notTuple;unfold excMatches
 repeat (first|(with_reducible refine abW he ?_;rw[zS])|with_reducible refine abW eN ?_|(with_reducible refine acq eN ?_;rw[se])|(with_reducible refine acq dX ?_;rw[hm])|wp_step)
 exact aN
def Mf(dX:h.get? C=some (excClassObj nm q C N bs bm hdct sn sub ab col dd k0 k1 k2 k3 k5 newId))(e8:bm.contains (.type "object")=true)(ak:h.get? a=some o)(ag:o.cls=.ref C)(aN:R (.ok (.ret (.ref C))) ⟨h,g,d,t,os⟩):
  codeAny (model prog w) A (.call (.builtin "getset_descriptor.__get__") ⟨[.builtin "object.__class__",.ref a,.ref C],[]⟩) R ⟨h,g,d,t,os⟩:=by
 have Fi:(⟨h,g,d,t,os⟩:Shared).TypeIs (.builtin "object.__class__") "getset_descriptor":=adS;have se:(Value.ref C::bm).contains (.type (".".intercalate ("object.__class__".cutAt '.').dropLast))=true:=by
  rw[F.owner_object_class,adb,e8,adL]
 refine aea F.slot_gs_get.plain F.entry_gs_get (F.slot_gs_get.check _ _ _ _ _ _ _ _ Fi (F.args_gs_get _ _ _) ?_)
 repeat (any_goals (first|assumption|(with_reducible refine abW ak ?_;rw[ag])|(with_reducible refine acq dX ?_;rw[se])|wp_step))
 refine⟨aer _ (by decide +kernel),ab9 F.entry_object_class ?_⟩
 repeat (any_goals (first|assumption|(with_reducible refine abW ak ?_;rw[ag])|wp_step))
def Md(dX:h.get? C=some (excClassObj nm q C N bs bm hdct sn sub ab col dd k0 k1 k2 k3 k5 newId))(dW:bm.contains (.type "BaseException")=true)(ak:h.get? a=some o)(ag:o.cls=.ref C)(aN:Q () ⟨h,g,d,t,os⟩):wpAny M A (checkBuiltinCall "BaseException.__getattribute__" ⟨[.ref a,TC],[]⟩) Q E ⟨h,g,d,t,os⟩:=by
 have ax:builtinKind "BaseException.__getattribute__"=some .slot:=by decide +kernel
 have Rl:splitId "BaseException.__getattribute__"=some ("BaseException","__getattribute__"):=by decide +kernel
 have se:(Value.ref C::bm).contains (.type "BaseException")=true:=by rw[adb,dW,adL]
 have aw:=F.args_bexc_ga (.ref a) TC;simp only[checkBuiltinCall,ax,Rl];refine aa2 ?_
 .unfold isInstance
  repeat (first|(with_reducible refine abW ak ?_;rw[ag])|(with_reducible refine acq dX ?_;rw[se])|wp_step)
  exact aN
def Me(X:K.In h)(J:findIn K (.ref C) "__class__"=some (some (.builtin "object.__class__")))(dX:h.get? C=some (excClassObj nm q C N bs bm hdct sn sub ab col dd k0 k1 k2 k3 k5 newId))(e8:bm.contains (.type "object")=true)(ak:h.get? a=some o)(ag:o.cls=.ref C)(aN:Q (.done (.ret (.ref C))) ⟨h,g,d,t,os⟩):
  wpAny (model prog w) A (Builtin.«object.__getattribute__» ⟨[.ref a,.str "__class__" tk],[]⟩) Q E ⟨h,g,d,t,os⟩:=by
 have Fi:(⟨h,g,d,t,os⟩:Shared).TypeIs (.builtin "object.__class__") "getset_descriptor":=adS;have ey:=adS;have uX:=F.slot_gs_get.lookup;have uY:=F.slot_gs_set.lookup;have Kw:=looks_findIn (M:=model prog w) X J
 repeat (any_goals (first|assumption|(with_reducible refine abW ak ?_;rw[ag])|with_reducible refine Looks.at Kw ?_|wp_step))
 refine Mf dX e8 ak ag ?_
 repeat (any_goals (first|assumption|wp_step))
def Mc(X:K.In h)(J:findIn K (.ref C) "__class__"=some (some (.builtin "object.__class__")))(aa:findIn K (.ref C) "__getattribute__"=some (some (.builtin "BaseException.__getattribute__")))(aE:findIn K (.ref C) "__getattr__"=some none)(dX:h.get? C=some (excClassObj nm q C N bs bm hdct sn sub ab col dd k0 k1 k2 k3 k5 newId))(e8:bm.contains (.type "object")=true)(dW:bm.contains (.type "BaseException")=true)(ak:h.get? a=some o)(ag:o.cls=.ref C)(aN:Q (.ref C) ⟨h,g,d,t,os⟩):wpAny (model prog w) A (getAttrBy (.ref a) (.str "__class__" tk) false) Q E ⟨h,g,d,t,os⟩:=by
 have ew:=F.excAttr_ValueError.ga.bind (.ref a);have Ru:(Value.builtin "BaseException.__getattribute__"==Value.builtin "object.__getattribute__")=false:=by decide +kernel
 have vt:(onTheHeap (Value.ref C)&&Value.builtin "BaseException.__getattribute__"==Value.builtin "object.__getattribute__")=false:=by rw[Ru];rfl
 have bu:=looks_findIn (M:=model prog w) X aa;have Kx:=looks_findIn (M:=model prog w) X aE
 repeat (any_goals (first|assumption|(with_reducible refine abW ak ?_;rw[ag])|with_reducible refine Looks.at bu ?_|with_reducible refine Looks.at Kx ?_|wp_step))
 refine aea F.excAttr_ValueError.ga.plain F.entry_bexc_ga (Md dX dW ak ag (Me X J dX e8 ak ag ?_))
 repeat (any_goals (first|assumption|wp_step))
def Mb(X:K.In h)(J:findIn K (.ref C) "__class__"=some (some (.builtin "object.__class__")))(aa:findIn K (.ref C) "__getattribute__"=some (some (.builtin "BaseException.__getattribute__")))(aE:findIn K (.ref C) "__getattr__"=some none)(dX:h.get? C=some (excClassObj nm q C N bs bm hdct sn sub ab col dd k0 k1 k2 k3 k5 newId))(e8:bm.contains (.type "object")=true)(dW:bm.contains (.type "BaseException")=true)(ak:h.get? a=some o)(ag:o.cls=.ref C)(aN:Q (some (.ref C)) ⟨h,g,d,t+1,os⟩):wpAny (model prog w) A (getAttr? (.ref a) "__class__") Q E ⟨h,g,d,t,os⟩:=by
 unfold getAttr? getAttrBy?
 repeat (any_goals (first|assumption|with_reducible apply Mc X J aa aE dX e8 dW ak ag|wp_step))
structure Plain(K:Frag)(C:Addr)(bm:List Value):Prop where
 a1:findIn K (.ref C) "__class__"=some (some (.builtin "object.__class__"))
 a2:findIn K (.ref C) "__getattribute__"=some (some (.builtin "BaseException.__getattribute__"))
 eD:findIn K (.ref C) "__getattr__"=some none
 e8:bm.contains (.type "object")=true
 dW:bm.contains (.type "BaseException")=true
def TH(X:K.In h)(P:Plain K C bm)(dX:h.get? C=some (excClassObj nm q C N bs bm hdct sn sub ab col dd k0 k1 k2 k3 k5 newId))(ak:h.get? a=some o)(ag:o.cls=.ref C)(jN:∀{fx:Around}{dQ:Value->Shared->Prop}{fJ},dQ (.type "type") ⟨h,g,d,t,os⟩->wpAny (model prog w) fx (typeOf c) dQ fJ ⟨h,g,d,t,os⟩)(z2:∀{fx:Around}{dQ:Bool->Shared->Prop}{fJ},dQ true ⟨h,g,d,t,os⟩->wpAny (model prog w) fx (isType c) dQ fJ ⟨h,g,d,t,os⟩)(hm:(Value.ref C::bm).contains c=false)(aN:Q (.done (.ret (.bool false))) ⟨h,g,d,t+1,os⟩):wpAny (model prog w) A (Builtin.«isinstance.nested» ⟨[.ref a,c,.int dep tk],[]⟩) Q E ⟨h,g,d,t,os⟩:=by
 have q8:∀{fx:Around}{dQ:Value->Shared->Prop}{fJ},dQ (.ref C) ⟨h,g,d,t,os⟩->wpAny (model prog w) fx (typeOf (.ref a)) dQ fJ ⟨h,g,d,t,os⟩:=λ{fx dQ fJ} z=>by
  unfold typeOf
  repeat (first|(with_reducible refine abW ak ?_;rw[ag])|wp_step)
  exact z
 have he:¬(Value.ref C==c)=true:=λz=>by
  rw[adb]at hm;have:=abx.mp z;subst this;simp at hm
 unfold Builtin.«isinstance.nested»;refine aa2 (q8 ?_);rw[if_neg he];refine aa2 (jN ?_);rw[if_pos ∅]
 k_delta "plainIsInstance"
 refine aa2 (aa2 (z2 ?_));simp only[acp,aa6,abp];refine aa2 ?_;unfold isInstance;refine aa2 (q8 ?_);refine acq dX ?_;rw[hm];simp only[aa6,abp];refine aa2 (Mb X P.a1 P.a2 P.eD dX P.e8 P.dW ak ag ?_);refine aa2 ?_;unfold isType loadHead;refine aa2 (wpAny_loadPart dX (aa4 ?_));simp only[excClassObj,acp,aa6,abp];refine aa2 (aep ?_);refine acq dX ?_;rw[hm]
 first
  |exact aa4 aN
  |exact aa4 (aa4 aN)
  |exact aa2 (aa4 (aa4 aN))
def RS(X:K.In s.heap)(P:Plain K C bm)(ak:s.heap.get? x=some kQ)(dE:kQ.cls=.ref C)(dX:s.heap.get? C=some (excClassObj nm q C N bs bm hdct sn sub ab col dd k0 k1 k2 k3 k5 newId))(eN:s.heap.get? D=some l2)(zE:l2.cls=.type "type")(zF:∃cd,l2.data=.cls cd)(hm:(Value.ref C::bm).contains (.ref D)=false)(h:Q (.bool false) { s with toks:=s.toks+1 }):wpAny (model prog w) A (call (.builtin "isinstance") [.ref x,.ref D]) Q E s:=by
 refine aeX (S:=λ_ R s=>(K.In s.heap/\s.heap.get? x=some kQ/\s.heap.get? C=some (excClassObj nm q C N bs bm hdct sn sub ab col dd k0 k1 k2 k3 k5 newId)/\s.heap.get? D=some l2)/\R (.ok (.ret (.bool false))) { s with toks:=s.toks+1 })
  (λ_ _ _ _ s' af=>aeL ?_ (by intro q;cases q)) ⟨⟨X,ak,dX,eN⟩,h⟩
 obtain⟨h0,g,d,tt,os⟩:=s';refine TH af.1.1 P af.1.2.2.1 af.1.2.1 dE (λ{fx dQ fJ} z=>?_) (λ{fx dQ fJ} z=>?_) hm af.2
 .have eN:=af.1.2.2.2;unfold typeOf
  repeat (first|(with_reducible refine abW eN ?_;rw[zE])|wp_step)
  exact z
 .have eN:=af.1.2.2.2;obtain⟨fN,bb,T6,fO⟩:=l2;obtain⟨cd,rfl⟩:=zF;unfold isType loadHead;exact aa2 (wpAny_loadPart eN (aa4 z))
end
end eh
end
section
namespace eh
open PySem
section
end
end eh
end
section
namespace bC
open PySem PySem.Spec PyProof.Rows bu
noncomputable abbrev D:=Den.D
noncomputable abbrev bw:=Den.bw
noncomputable abbrev cq:=Den.R
noncomputable abbrev dk:=List (Option V)
def cy{α:Type}(r:cq α)(Q:α->Prop)(E:Nat->Prop):Prop:=match r with
 |.ok a=>Q a
 |.exc c=>E c
 |.bad=>False
def bJ{α β:Type}{r:cq α}{f:α->cq β}{Q:β->Prop}:cy (r>>=f) Q E<->cy r (λa=>cy (f a) Q E) E:=by
 cases r<;>exact Iff.rfl
def cj{α:Type}{r:cq α}{Q dQ:α->Prop}(h:cy r Q E)(aN:∀a,Q a->dQ a)(he:∀c,E c->fJ c):cy r dQ fJ:=by
 cases r with
 |ok a=>exact aN a h
 |exc c=>exact he c h
 |bad=>exact h
noncomputable def ha(ao:List (List Int×Int)):List (List Key×V):=ao.map λp=>(p.1.map Sum.inl,V.int p.2)
noncomputable def eC(G:aD):List (Int×Int×Int)->List (Key×V)->Prop
 |[],ys=>ys=[]
 |p::aY,ys=>∃b r,ys=(Sum.inl p.1,.ref b)::r/\G b=some (.tup [.int p.2.1,.int p.2.2])/\eC G aY r
theorem eC.mono(s:bA G aM):∀{aY:List (Int×Int×Int)}{ys:List (Key×V)},eC G aY ys->eC aM aY ys
 |[],_,h=>h
 |p::aY,_,⟨b,r,e,J,aa⟩=>⟨b,r,e,s _ _ J,aa.mono s⟩
noncomputable def iC(G:aD):List (List Int)->List V->Prop
 |[],xs=>xs=[]
 |c::cs,xs=>∃b r,xs=.ref b::r/\G b=some (.tup (c.map V.int))/\iC G cs r
theorem iC.mono(s:bA G aM):∀{cs:List (List Int)}{xs:List V},iC G cs xs->iC aM cs xs
 |[],_,h=>h
 |c::cs,_,⟨b,r,e,J,aa⟩=>⟨b,r,e,s _ _ J,aa.mono s⟩
noncomputable def eB(G:aD):List (List Int×List (List Int))->List (List Key×V)->Prop
 |[],ys=>ys=[]
 |p::aY,ys=>∃b xs r,ys=(p.1.map Sum.inl,.ref b)::r/\G b=some (.tup xs)/\iC G p.2 xs/\eB G aY r
theorem eB.mono(s:bA G aM):∀{aY:List (List Int×List (List Int))}{ys:List (List Key×V)},eB G aY ys->eB aM aY ys
 |[],_,h=>h
 |p::aY,_,⟨b,xs,r,e,J,aa,aE⟩=>⟨b,xs,r,e,s _ _ J,aa.mono s,aE.mono s⟩
mutual
noncomputable def Rep (K:W.Frag) (G:aD):D->V->Prop
 |.dV,v=>v=.dV
 |.aV b,v=>v=.aV b
 |.int i,v=>v=.int i
 |.str x,v=>v=.str x
 |.tup ds,v=>∃a xs,v=.ref a/\G a=some (.tup xs)/\bz K G ds xs
 |.lst ds,v=>∃a xs,v=.ref a/\eg K G a xs/\bz K G ds xs
 |.b4 ao,v=>∃a bb,v=.ref a/\G a=some (.du bb (.di (ha ao)))
 |.bK ao,v=>∃a bb ys,v=.ref a/\G a=some (.du bb (.dS ys))/\eC G ao ys
 |.dR ao,v=>∃a bb ys,v=.ref a/\G a=some (.du bb (.di ys))/\eB G ao ys
 |.hA _,_=>False
noncomputable def bz (K:W.Frag) (G:aD):List D->List V->Prop
 |[],xs=>xs=[]
 |d::ds,xs=>∃v r,xs=v::r/\Rep K G d v/\bz K G ds r
end
section
variable{K:W.Frag}{G aM H aq:aD}
def Jc(s:bA G aM)(h:fq K G a xs):fq K aM a xs:=by
 rcases h with(h|⟨o,h⟩)|h
 .exact .inl (.inl (s _ _ h))
 .exact .inl (.inr ⟨o,s _ _ h⟩)
 .exact .inr h
def iz(s:bA G aM)(h:G a=some (.tup xs)):fq K aM a xs:=.inl (.inl (s _ _ h))
def l7(s:bA G aM)(h:eg K G a xs):eg K aM a xs:=by
 rcases h with(h|⟨o,h⟩)|h
 .exact .inl (.inl (s _ _ h))
 .exact .inl (.inr ⟨o,s _ _ h⟩)
 .exact .inr h
def Bs(s:bA G aM)(h:gO G a u):gO aM a u:=by
 rcases h with h|⟨o,h⟩
 .exact .inl (s _ _ h)
 .exact .inr ⟨o,s _ _ h⟩
mutual
theorem Rep.mono (s:bA G aM):∀{d:D}{v:V},Rep K G d v->Rep K aM d v
 |.dV,_,h=>h
 |.aV _,_,h=>h
 |.int _,_,h=>h
 |.str _,_,h=>h
 |.tup ds,_,⟨a,xs,e,h,r⟩=>⟨a,xs,e,s _ _ h,bz.mono s r⟩
 |.lst ds,_,⟨a,xs,e,h,r⟩=>⟨a,xs,e,l7 s h,bz.mono s r⟩
 |.b4 _,_,⟨a,bb,e,h⟩=>⟨a,bb,e,s _ _ h⟩
 |.bK _,_,⟨a,bb,ys,e,h,r⟩=>⟨a,bb,ys,e,s _ _ h,r.mono s⟩
 |.dR _,_,⟨a,bb,ys,e,h,r⟩=>⟨a,bb,ys,e,s _ _ h,r.mono s⟩
 |.hA _,_,h=>h
theorem bz.mono (s:bA G aM):∀{ds:List D}{xs:List V},bz K G ds xs->bz K aM ds xs
 |[],_,h=>h
 |d::ds,_,⟨v,r,e,J,aa⟩=>⟨v,r,e,Rep.mono s J,bz.mono s aa⟩
end
theorem bz.length:∀{ds:List D}{xs:List V},bz K G ds xs->ds.length=xs.length
 |[],_,h=>by cases h;rfl
 |d::ds,_,⟨v,r,e,J,aa⟩=>by subst e;simp[bz.length aa]
theorem bz.append:∀{ds aj:List D}{xs ys:List V},bz K G ds xs->bz K G aj ys->bz K G (ds++aj) (xs++ys)
 |[],_,_,_,h,q=>by cases h;exact q
 |d::ds,_,_,_,⟨v,r,e,J,aa⟩,q=>by subst e;exact⟨v,r++_,rfl,J,bz.append aa q⟩
theorem bz.get:∀{ds:List D}{xs:List V}{i:Nat}{d:D},bz K G ds xs->ds[i]?=some d->∃v,xs[i]?=some v/\Rep K G d v
 |[],_,_,_,h,e=>by simp at e
 |d::ds,_,0,_,⟨v,r,e,J,aa⟩,q=>by subst e;simp at q;subst q;exact⟨v,rfl,J⟩
 |d::ds,_,i+1,_,⟨v,r,e,J,aa⟩,q=>by subst e;simpa using bz.get aa (by simpa using q)
theorem bz.drop:∀{ds:List D}{xs:List V}(n:Nat),bz K G ds xs->bz K G (ds.drop n) (xs.drop n)
 |_,_,0,h=>by simpa using h
 |[],_,n+1,h=>by cases h;simp[bz]
 |d::ds,_,n+1,⟨v,r,e,J,aa⟩=>by subst e;simpa using bz.drop n aa
theorem bz.take:∀{ds:List D}{xs:List V}(n:Nat),bz K G ds xs->bz K G (ds.take n) (xs.take n)
 |_,_,0,h=>by simp[bz]
 |[],_,n+1,h=>by cases h;simp[bz]
 |d::ds,_,n+1,⟨v,r,e,J,aa⟩=>by subst e;exact⟨v,r.take n,by simp,J,bz.take n aa⟩
def bz.snoc(h:bz K G ds xs)(q:Rep K G d v):bz K G (ds++[d]) (xs++[v]):=h.append ⟨v,[],rfl,q,rfl⟩
noncomputable def View(K:W.Frag)(G H:aD):D->V->Prop
 |.b4 ao,v=>∃a,v=.ref a/\gO H a (.di (ha ao))
 |.bK ao,v=>∃a ys,v=.ref a/\gO H a (.dS ys)/\eC G ao ys
 |.dR ao,v=>∃a ys,v=.ref a/\gO H a (.di ys)/\eB G ao ys
 |.lst ds,v=>∃a xs,v=.ref a/\eg K H a xs/\bz K G ds xs
 |d,v=>Rep K G d v
def Rep.view(s:bA G H):∀{d:D}{v:V},Rep K G d v->View K G H d v
 |.lst ds,_,⟨a,xs,e,h,r⟩=>⟨a,xs,e,l7 s h,r⟩
 |.dV,_,h=>h
 |.aV _,_,h=>h
 |.int _,_,h=>h
 |.str _,_,h=>h
 |.tup _,_,h=>h
 |.b4 _,_,⟨a,bb,e,h⟩=>⟨a,e,.inr ⟨bb,s _ _ h⟩⟩
 |.bK _,_,⟨a,bb,ys,e,h,r⟩=>⟨a,ys,e,.inr ⟨bb,s _ _ h⟩,r⟩
 |.dR _,_,⟨a,bb,ys,e,h,r⟩=>⟨a,ys,e,.inr ⟨bb,s _ _ h⟩,r⟩
 |.hA _,_,h=>h
structure Ext(G H aM aq:aD):Prop where
 g:bA G aM
 h:bA H aq
 sub:bA aM aq
 new:∀a,G a=none->H a≠none->aM a=none
 dB:∀b xs,aq b=some (.tup xs)->H b=some (.tup xs)\/aM b=some (.tup xs)
theorem Ext.refl(s:bA G H):Ext G H G H:=⟨bA.refl G,bA.refl H,s,λ_ h _=>h,λ_ _ h=>.inl h⟩
theorem Ext.trans(x:Ext G H aJ H1)(y:Ext aJ H1 aM aq):Ext G H aM aq :=
 ⟨x.g.trans y.g,x.h.trans y.h,y.sub,λa J aa=>y.new a (x.new a J aa) (λz=>by
  cases q:H a with
  |none=>exact aa q
  |some o=>rw[x.h a o q]at z;cases z),λb xs z=>(y.dB b xs z).elim (λz=>(x.dB b xs z).imp id λz=>y.g _ _ z) .inr⟩
def f5(h:H a=none):bA H (upd H a o):=λb u e=>by rw[cR (nd e h)];exact e
def View.ext(x:Ext G H aJ H1):∀{d:D}{v:V},View K G H d v->View K aJ H1 d v
 |.lst ds,_,⟨a,xs,e,h,r⟩=>⟨a,xs,e,l7 x.h h,r.mono x.g⟩
 |.dV,_,h=>h
 |.aV _,_,h=>h
 |.int _,_,h=>h
 |.str _,_,h=>h
 |.tup _,_,h=>Rep.mono (K:=K) x.g h
 |.b4 _,_,⟨a,e,h⟩=>⟨a,e,Bs x.h h⟩
 |.bK _,_,⟨a,ys,e,h,r⟩=>⟨a,ys,e,Bs x.h h,r.mono x.g⟩
 |.dR _,_,⟨a,ys,e,h,r⟩=>⟨a,ys,e,Bs x.h h,r.mono x.g⟩
 |.hA _,_,h=>h
def Ext.own(s:bA G H)(h:H a=none)(ay:∀xs,o≠.tup xs):Ext G H G (upd H a o):=⟨bA.refl G,f5 h,s.trans (f5 h),λ_ J _=>J,λb xs e=>by
 by_cases q:b=a
 .subst q;rw[dC]at e;cases e;exact absurd rfl (ay xs)
 .rw[cR q]at e;exact .inl e⟩
def Ext.put(s:bA G H)(h:H a=none):Ext G H (upd G a o) (upd H a o):=by
 have kq:G a=none:=s.free h;refine⟨f5 kq,f5 h,λb u e=>?_,λb J aa=>?_,λb xs e=>?_⟩
 .by_cases q:b=a
  .subst q;rw[dC]at e ⊢;exact e
  .rw[cR q]at e ⊢;exact s b u e
 .rw[cR (λq=>aa (by rw[q];exact h))];exact J
 .by_cases q:b=a
  .subst q;rw[dC]at e ⊢;exact .inr e
  .rw[cR q]at e;exact .inl e
end
inductive fo where
 |view|val|fresh
noncomputable def cT(K:W.Frag)(H aM aq:aD):fo->D->V->Prop
 |.view,d,v=>View K aM aq d v
 |.val,d,v=>Rep K aM d v
 |.fresh,.lst ds,v=>∃a xs,v=.ref a/\aq a=some (.lst xs)/\H a=none/\aM a=none/\bz K aM ds xs
 |.fresh,.b4 _,_=>False
 |.fresh,.bK _,_=>False
 |.fresh,.dR _,_=>False
 |.fresh,d,v=>Rep K aM d v
noncomputable def gS:D->Bool
 |.lst _=>true
 |.b4 _=>true
 |.bK _=>true
 |.dR _=>true
 |_=>false
noncomputable def jB(K:W.Frag)(G:aD):D->e3->Prop
 |.lst ds,o=>∃xs,o=.lst xs/\bz K G ds xs
 |.b4 ao,o=>o=.di (ha ao)
 |.bK ao,o=>∃ys,o=.dS ys/\eC G ao ys
 |.dR ao,o=>∃ys,o=.di ys/\eB G ao ys
 |_,_=>False
theorem jB.mono{K:W.Frag}(s:bA G aM):∀{d:D}{o:e3},jB K G d o->jB K aM d o
 |.lst _,_,⟨xs,e,r⟩=>⟨xs,e,r.mono s⟩
 |.b4 _,_,h=>h
 |.bK _,_,⟨ys,e,r⟩=>⟨ys,e,r.mono s⟩
 |.dR _,_,⟨ys,e,r⟩=>⟨ys,e,r.mono s⟩
 |.dV,_,h=>h
 |.aV _,_,h=>h
 |.int _,_,h=>h
 |.str _,_,h=>h
 |.tup _,_,h=>h
 |.hA _,_,h=>h
structure er(K:W.Frag)(mu:List Nat)(G H:aD)(ρ:bw)(σ:dk):Prop where
 len:ρ.length=σ.length
 sub:bA G H
 val:∀(i:Nat)(d:D),ρ[i]?=some (some d)->i∉mu->∃v,σ[i]?=some (some v)/\Rep K G d v
 own:∀(i:Nat)(d:D),ρ[i]?=some (some d)->i∈mu->gS d=false->∃v,σ[i]?=some (some v)/\Rep K G d v
 lst:∀(i:Nat)(d:D),ρ[i]?=some (some d)->i∈mu->gS d=true->∃a o,σ[i]?=some (some (V.ref a))/\H a=some o/\G a=none/\jB K G d o
 dB:∀b xs,H b=some (.tup xs)->G b=some (.tup xs)
 apart:∀(i j:Nat)(d e:D)(a b:Addr),ρ[i]?=some (some d)->ρ[j]?=some (some e)->gS d=true->gS e=true->i∈mu->j∈mu->i≠j->σ[i]?=some (some (V.ref a))->σ[j]?=some (some (V.ref b))->a≠b
def er.ext{K:W.Frag}(h:er K mu G H ρ σ)(x:Ext G H aM aq):er K mu aM aq ρ σ where
 len:=h.len
 sub:=x.sub
 val:=λi d e hm=>let ⟨v,a,b⟩:=h.val i d e hm;⟨v,a,b.mono x.g⟩
 own:=λi d e hm az=>let ⟨v,a,b⟩:=h.own i d e hm az;⟨v,a,b.mono x.g⟩
 lst:=λi d e hm az=>let ⟨a,o,J,aa,aE,aR⟩:=h.lst i d e hm az;⟨a,o,J,x.h _ _ aa,x.new a aE (by rw[aa];exact λz=>nomatch z),aR.mono x.g⟩
 dB:=λb xs z=>(x.dB b xs z).elim (λz=>x.g _ _ (h.dB b xs z)) id
 apart:=h.apart
theorem er.view{K:W.Frag}(h:er K mu G H ρ σ){i:Nat}{d:D}(e:ρ[i]?=some (some d)):∃v,σ[i]?=some (some v)/\View K G H d v:=by
 by_cases hm:i∈mu
 .cases hd:gS d with
  |false=>obtain⟨v,J,aa⟩:=h.own i _ e hm hd;exact⟨v,J,aa.view h.sub⟩
  |true =>
   obtain⟨a,o,J,aa,aE,aR⟩:=h.lst i d e hm hd;cases d with
   |lst ds=>obtain⟨xs,rfl,r⟩:=aR;exact⟨_,J,a,xs,rfl,.inl (.inl aa),r⟩
   |b4 ao=>cases aR;exact⟨_,J,a,rfl,.inl aa⟩
   |bK ao=>obtain⟨ys,rfl,r⟩:=aR;exact⟨_,J,a,ys,rfl,.inl aa,r⟩
   |dR ao=>obtain⟨ys,rfl,r⟩:=aR;exact⟨_,J,a,ys,rfl,.inl aa,r⟩
   |_=>cases hd
 .obtain⟨v,J,aa⟩:=h.val i d e hm;exact⟨v,J,aa.view h.sub⟩
noncomputable abbrev dx:=Nat->Value->List Addr->Heap->Prop
def hq(X:a4)(pins:List (Addr×Obj))(H:aD)(a:Addr):Prop :=
 H a=none/\(a∈X.ex\/X.eQ.heap.get? a=none)/\a≠X.env.locals/\(∀x c,X.env.cells.lookup x=some c->c≠a)/\∀p∈X.cp++pins,p.1≠a
def hq.of{σ:dk}(I:Inv X pins σ H s)(h:s.heap.get? a=none)(h':aq a=none):hq X pins aq a:=by
 have no:∀{b:Addr}{o:Obj},s.heap.get? b=some o->b≠a:=λq z=>by rw[z,h]at q;cases q
 refine⟨h',?_,λz=>?_,λx c q=>?_,λp q=>no (I.pin p q).1⟩
 .by_cases ak:a∈X.ex
  .exact .inl ak
  .refine .inr ?_;cases q:X.eQ.heap.get? a with
   |none=>rfl
   |some o=>obtain⟨bL,e⟩:=I.base.there a o q ak;rw[h]at e;cases e
 .obtain⟨m,⟨o,_,_,ay,_⟩,_⟩:=I.loc;exact no ay z.symm
 .obtain⟨v,o,ay,_⟩:=I.cell x c q;exact no ay
def eK(xp:dx)(X:a4)(c:Nat)(H:aD):Prop:=∀(pins:List (Addr×Obj))(σ:dk)(aq:aD)(s':Shared)(e:Value)(l:List Addr),Inv X pins σ aq s'->bA H aq->(∀a∈l,hq X pins aq a)->xp c e l s'.heap->X.cb e s'
def eK.mono(h:eK xp X c H)(s:bA H aq):eK xp X c aq:=λpins σ aU s' e l I q n x=>h pins σ aU s' e l I (s.trans q) n x
noncomputable def bE(xp:dx)(X:a4)(mu:List Nat)(m:fo)(f:bw->cq D):TE:=λσ H Q =>
 ∃G ρ,er X.K mu G H ρ σ/\cy (f ρ) (λd=>∀v aM aq,Ext G H aM aq->cT X.K H aM aq m d v->Q v aq) (λc=>eK xp X c H)
theorem cT.view{K:W.Frag}(s:bA aM aq):∀{m:fo}{d:D}{v:V},cT K H aM aq m d v->View K aM aq d v
 |.view,_,_,h=>h
 |.val,_,_,h=>Rep.view s h
 |.fresh,.lst ds,_,⟨a,xs,e,J,_,_,r⟩=>⟨a,xs,e,.inl (.inl J),r⟩
 |.fresh,.dV,_,h=>h
 |.fresh,.aV _,_,h=>h
 |.fresh,.int _,_,h=>h
 |.fresh,.str _,_,h=>h
 |.fresh,.tup _,_,h=>h
 |.fresh,.b4 _,_,h=>h.elim
 |.fresh,.bK _,_,h=>h.elim
 |.fresh,.dR _,_,h=>h.elim
 |.fresh,.hA _,_,h=>h
theorem aQ.val(h:aQ X e (bE xp X mu .fresh f)):aQ X e (bE xp X mu .val f):=by
 intro pins s σ H Q I ⟨G,ρ,af,hw⟩;refine h pins s σ H Q I ⟨G,ρ,af,cj hw (λd k v aM aq x r=>?_) λ_ q=>q⟩;cases d with
 |lst ds =>
  obtain⟨a,xs,rfl,J,aa,aE,aR⟩:=r;refine k _ (upd aM a (.lst xs)) aq ⟨x.g.trans (f5 aE),x.h,λb o q=>?_,λb aO a9=>?_,λb xs q=>(x.dB b xs q).imp id λz=>f5 aE _ _ z⟩ ⟨a,xs,rfl,.inl (.inl dC),aR.mono (f5 aE)⟩
  .by_cases ae:b=a
   .subst ae;rw[dC]at q;rw[J];exact q
   .rw[cR ae]at q;exact x.sub b o q
  .rw[cR (λz=>a9 (by rw[z];exact aa))];exact x.new b aO a9
 |b4 _=>exact r.elim
 |bK _=>exact r.elim
 |dR _=>exact r.elim
 |_=>exact k v aM aq x r
theorem aQ.view(h:aQ X e (bE xp X mu m f)):aQ X e (bE xp X mu .view f):=by
 intro pins s σ H Q I ⟨G,ρ,af,hw⟩;exact h pins s σ H Q I ⟨G,ρ,af,cj hw (λd k v aM aq x r=>k v aM aq x (r.view x.sub)) λ_ q=>q⟩
section
def II(aL:X.N[i]?=some x)(aK:fj X.env.scope x)(J:(x==("__debug__":Str))=false)(aa:(x==("__classdict__":Str))=false):aQ X (.Name x p) (bE xp X mu .view λρ=>Den.ev pg Φ ρ (.var i)):=by
 intro pins s σ H Q I ⟨G,ρ,af,hw⟩;dsimp only at hw;cases e:ρ[i]? with
 |none=>rw[Den.uT,e]at hw;exact hw.elim
 |some o =>
  cases o with
  |none=>rw[Den.uT,e]at hw;exact hw.elim
  |some d =>
   rw[Den.y6 i e]at hw;obtain⟨v,a,b⟩:=af.view e;exact gp aL aK J aa pins s σ H Q I ⟨v,a,hw v G H (Ext.refl af.sub) b⟩
def WX(hm:i∉mu)(aL:X.N[i]?=some x)(aK:fj X.env.scope x)(J:(x==("__debug__":Str))=false)(aa:(x==("__classdict__":Str))=false):aQ X (.Name x p) (bE xp X mu .val λρ=>Den.ev pg Φ ρ (.var i)):=by
 intro pins s σ H Q I ⟨G,ρ,af,hw⟩;dsimp only at hw;cases e:ρ[i]? with
 |none=>rw[Den.uT,e]at hw;exact hw.elim
 |some o =>
  cases o with
  |none=>rw[Den.uT,e]at hw;exact hw.elim
  |some d =>
   rw[Den.y6 i e]at hw;obtain⟨v,a,b⟩:=af.val i d e hm;exact gp aL aK J aa pins s σ H Q I ⟨v,a,hw v G H (Ext.refl af.sub) b⟩
def IB{d:D}(h:Den.litOk d c=true):aQ X (.Constant c j p) (bE xp X mu m λρ=>Den.ev pg Φ ρ (.lit d)):=by
 intro pins s σ H Q I ⟨G,ρ,af,hw⟩;dsimp only at hw;rw[Den.Em]at hw;have fin:∀v,cT X.K H G H m d v->Q v H:=λv r=>hw v G H (Ext.refl af.sub) r
 cases d with
 |dV=>cases c<;>simp[Den.litOk]at h;exact UI pins s σ H Q I (fin _ (by cases m<;>rfl))
 |aV b =>
  cases c<;>simp[Den.litOk]at h;subst h;exact Uv pins s σ H Q I (fin _ (by cases m<;>rfl))
 |int i =>
  cases c<;>simp[Den.litOk]at h;subst h;exact Hu pins s σ H Q I (fin _ (by cases m<;>rfl))
 |str x =>
  cases c<;>simp[Den.litOk]at h;subst h;exact Bf pins s σ H Q I (fin _ (by cases m<;>rfl))
 |_=>cases c<;>simp[Den.litOk]at h
noncomputable def l4(K:W.Frag)(g:D->D->cq D):g7:=λx y H Q=>∃G bk dt,bA G H/\View K G H bk x/\View K G H dt y/\cy (g bk dt) (λd=>∀v aM aq,Ext G H aM aq->cT K H aM aq .fresh d v->Q v aq) (λ_=>False)
def cT.old{K:W.Frag}(s:bA H H1):∀{m:fo}{d:D}{v:V},cT K H1 aM aq m d v->cT K H aM aq m d v
 |.view,_,_,h=>h
 |.val,_,_,h=>h
 |.fresh,.lst ds,_,⟨a,xs,e,J,aa,aE,r⟩=>⟨a,xs,e,J,s.free aa,aE,r⟩
 |.fresh,.dV,_,h=>h
 |.fresh,.aV _,_,h=>h
 |.fresh,.int _,_,h=>h
 |.fresh,.str _,_,h=>h
 |.fresh,.tup _,_,h=>h
 |.fresh,.b4 _,_,h=>h
 |.fresh,.bK _,_,h=>h
 |.fresh,.dR _,_,h=>h
 |.fresh,.hA _,_,h=>h
def Wi(aZ:∀x y c,g x y≠.exc c)(ay:d3 X (binaryOp op) (l4 X.K g))(aw:aQ X a (bE xp X mu .view bl))(ae:aQ X b (bE xp X mu .view dz)):
  aQ X (.BinOp a op b pos) (bE xp X mu .fresh λρ=>bl ρ>>=λx=>dz ρ>>=λy=>g x y):=by
 intro pins s σ H Q I ⟨G,ρ,af,hw⟩;refine Hy ay aw ae pins s σ H Q I ?_;refine⟨G,ρ,af,cj (bJ.mp hw) (λbk k v aJ H1 aS aH=>?_) λ_ q=>q⟩;refine⟨aJ,ρ,af.ext aS,cj (bJ.mp k) (λdt k2 v2 cD aU cv aT=>?_) λ_ q=>q.mono aS.h⟩;refine⟨cD,bk,dt,cv.sub,View.ext cv aH,aT,?_⟩;cases q:g bk dt with
 |ok d =>
  rw[q]at k2;exact λCn nM bt nJ de=>k2 Cn nM bt ((aS.trans cv).trans nJ) (de.old (aS.h.trans cv.h))
 |exc c=>exact absurd q (aZ _ _ _)
 |bad=>rw[q]at k2;exact k2
def mU{K:W.Frag}{Q:dw}(af:bA G H)(k:∀v aM aq,Ext G H aM aq->cT K H aM aq .fresh d v->Q v aq)(r:cT K H G H .fresh d v):Q v H:=k v G H (Ext.refl af) r
def Nx:d3 X (binaryOp .Sub) (l4 X.K (Den.ej .sub)):=by
 intro pins s σ H x y v u Q I bc bM ⟨G,bk,dt,af,cg,ep,hw⟩;cases bk<;>cases dt<;>first|exact hw.elim|skip
 exact Um pins s σ H x y v u Q I bc bM ⟨_,_,cg,ep,mU af hw rfl⟩
def Nu:d3 X (binaryOp .Mod) (l4 X.K (Den.ej .mod)):=by
 intro pins s σ H x y v u Q I bc bM ⟨G,bk,dt,af,cg,ep,hw⟩;cases bk<;>cases dt<;>first|exact hw.elim|skip
 rename_i i j;rw[Den.mod_int]at hw
 by_cases h:0<j
 .rw[if_pos h]at hw;exact Uj pins s σ H x y v u Q I bc bM ⟨_,_,cg,ep,h,mU af hw rfl⟩
 .rw[if_neg h]at hw;exact hw.elim
def Nq:d3 X (binaryOp .FloorDiv) (l4 X.K (Den.ej .fdiv)):=by
 intro pins s σ H x y v u Q I bc bM ⟨G,bk,dt,af,cg,ep,hw⟩;cases bk<;>cases dt<;>first|exact hw.elim|skip
 rename_i i j;rw[Den.Ez]at hw
 by_cases h:0<j/\j<1073741824
 .rw[if_pos h]at hw;exact Ue pins s σ H x y v u Q I bc bM ⟨_,_,cg,ep,h,mU af hw rfl⟩
 .rw[if_neg h]at hw;exact hw.elim
end
mutual
noncomputable def toPy:D->PyData
 |.dV=>.none
 |.aV b=>.bool b
 |.int i=>.int i
 |.str x=>.str x
 |.tup xs=>.tuple (hn xs)
 |.lst xs=>.list (hn xs)
 |.b4 _=>.dict []
 |.bK _=>.dict []
 |.dR _=>.dict []
 |.hA _=>.dict []
noncomputable def hn:List D->List PyData
 |[]=>[]
 |d::ds=>toPy d::hn ds
end
mutual
theorem rV:∀a b:D,PyData.eqv (toPy a) (toPy b)=Den.gf a b
 |.dV,b=>by cases b<;>rfl
 |.aV _,b=>by cases b<;>rfl
 |.int _,b=>by cases b<;>rfl
 |.str _,b=>by cases b<;>rfl
 |.tup xs,b=>by
  cases b with
  |tup ys=>exact y3 xs ys
  |_=>rfl
 |.lst xs,b=>by
  cases b with
  |lst ys=>exact y3 xs ys
  |_=>rfl
 |.b4 _,b=>by cases b<;>rfl
 |.bK _,b=>by cases b<;>rfl
 |.dR _,b=>by cases b<;>rfl
 |.hA _,b=>by cases b<;>rfl
theorem y3:∀a b:List D,PyData.eqvAll (hn a) (hn b)=Den.kl a b
 |[],[]=>rfl
 |[],_::_=>rfl
 |_::_,[]=>rfl
 |x::xs,y::ys=>by simp only[hn,PyData.eqvAll,Den.kl,rV x y,y3 xs ys]
end
mutual
theorem qE:∀(n:Nat)(d:D),Den.c5 n d=true->(toPy d).canLay0=true/\(toPy d).depth<=n
 |n,.dV,_=>⟨rfl,abw _⟩
 |n,.aV _,_=>⟨rfl,abw _⟩
 |n,.int _,_=>⟨rfl,abw _⟩
 |0,.str x,h=>⟨h,abw _⟩
 |n+1,.str x,h=>⟨h,abw _⟩
 |0,.tup _,h=>by cases h
 |n+1,.tup xs,h=>by
  obtain⟨a,b⟩:=BP n xs h;exact⟨a,by show PyData.depthAll (hn xs)+1<=n+1;lia⟩
 |0,.lst _,h=>by cases h
 |n+1,.lst xs,h=>by
  obtain⟨a,b⟩:=BP n xs h;exact⟨a,by show PyData.depthAll (hn xs)+1<=n+1;lia⟩
 |0,.b4 _,h=>by cases h
 |n+1,.b4 _,h=>by cases h
 |0,.bK _,h=>by cases h
 |0,.dR _,h=>by cases h
 |n+1,.dR _,h=>by cases h
 |n+1,.bK _,h=>by cases h
 |0,.hA _,h=>by cases h
 |n+1,.hA _,h=>by cases h
theorem BP:∀(n:Nat)(ds:List D),ds.all (Den.c5 n)=true->PyData.canLayAll0 (hn ds)=true/\PyData.depthAll (hn ds)<=n
 |n,[],_=>⟨rfl,abw _⟩
 |n,d::ds,h=>by
  simp only[List.all_cons,aa3]at h;obtain⟨a,b⟩:=qE n d h.1;obtain⟨pq,fT⟩:=BP n ds h.2;refine⟨by simp only[hn,PyData.canLayAll0,a,pq,aeD],?_⟩;show max (PyData.depth (toPy d)) (PyData.depthAll (hn ds))<=n;lia
end
def wq{d:D}(h:Den.c5 60 d=true):SeqAt.shaped (toPy d)=true:=by
 obtain⟨a,b⟩:=qE 60 d h;unfold SeqAt.shaped;rw[a,Bool.true_and];exact decide_eq_true ⋯
section
variable{xp:dx}{X:a4}{mu:List Nat}{pg:Den.eV}{Φ:Den.fe}{pins:List (Addr×Obj)}{σ:dk}{G H:aD}{s:Shared}
mutual
theorem HV (I:Inv X pins σ H s) (af:bA G H):∀(n:Nat){d:D}{v:V}{u:Value},Den.c5 n d=true->Rep X.K G d v->RelV v u->∃as,Reads s.heap u (toPy d) as
 |_,.dV,_,_,_,h,r=>by cases h;cases r;exact⟨_,.none⟩
 |_,.aV b,_,_,_,h,r=>by cases h;cases r;exact⟨_,.bool b⟩
 |_,.int i,_,_,_,h,r=>by cases h;obtain⟨t,rfl⟩:=r;exact⟨_,.int i t⟩
 |_,.str x,_,_,_,h,r=>by cases h;obtain⟨t,rfl⟩:=r;exact⟨_,.str x t⟩
 |0,.tup ds,_,_,z,_,_=>by cases z
 |n+1,.tup ds,_,_,z,⟨a,xs,e,h,q⟩,r=>by
  subst e;cases r;obtain⟨its,br,⟨o,ay,ag,cc,hd⟩,_⟩:=I.tuple (iz af h);obtain⟨as,cE⟩:=oS I af n z q br;exact⟨as,.tuple ay ag hd (by simpa using cE)⟩
 |0,.lst ds,_,_,z,_,_=>by cases z
 |n+1,.lst ds,_,_,z,⟨a,xs,e,h,q⟩,r=>by
  subst e;cases r;obtain⟨its,br,⟨o,cc,ay,ag,_,hd⟩,_⟩:=I.list (l7 af h);obtain⟨as,cE⟩:=oS I af n z q br;exact⟨a::as,.list ay ag hd (by simpa using cE)⟩
 |0,.b4 _,_,_,z,_,_=>by cases z
 |n+1,.b4 _,_,_,z,_,_=>by cases z
 |0,.bK _,_,_,z,_,_=>by cases z
 |0,.dR _,_,_,z,_,_=>by cases z
 |n+1,.dR _,_,_,z,_,_=>by cases z
 |n+1,.bK _,_,_,z,_,_=>by cases z
 |_,.hA _,_,_,_,h,_=>h.elim
theorem oS (I:Inv X pins σ H s) (af:bA G H):∀(n:Nat){ds:List D}{xs:List V}{us:List Value},ds.all (Den.c5 n)=true->bz X.K G ds xs->Vals xs us->∃as,ReadsAll s.heap us (hn ds) as
 |_,[],_,_,_,h,r=>by cases h;cases r;exact⟨_,.nil⟩
 |n,d::ds,_,_,z,⟨v,t,e,J,aa⟩,r=>by
  subst e;simp only[List.all_cons,aa3]at z;cases r with
  |cons aH aT =>
   obtain⟨as,cE⟩:=HV I af n z.1 J aH;obtain⟨bs,ee⟩:=oS I af n z.2 aa aT;exact⟨as++bs,.cons cE ee⟩
end
def oR(I:Inv X pins σ H s)(af:bA G H)(h:View X.K G H d v)(r:RelV v u)(kD:Den.c5 60 d=true):∃as,Reads s.heap u (toPy d) as:=by
 cases d with
 |b4 ao=>cases kD
 |bK ao=>cases kD
 |dR ao=>cases kD
 |lst ds =>
  obtain⟨a,xs,rfl,h,q⟩:=h;cases r;obtain⟨its,br,⟨o,n,ay,ag,_,hd⟩,_⟩:=I.list h;obtain⟨as,cE⟩:=oS I af 59 kD q br;exact⟨a::as,.list ay ag hd (by simpa using cE)⟩
 |_=>exact HV I af 60 kD h r
noncomputable def kU(K:W.Frag)(g:D->D->cq Bool):g7:=λx y H Q=>∃G bk dt,bA G H/\View K G H bk x/\View K G H dt y/\cy (g bk dt) (λb=>Q (.aV b) H) (λ_=>False)
def Ki{r:cq Bool}:cy (Den.hI r) Q E<->cy r (λb=>Q (!b)) E:=by cases r<;>exact Iff.rfl
def Kg{x y:D}(h:cy (Den.fk x y) Q E):Den.c5 60 x=true/\Den.c5 60 y=true/\Q (Den.gf x y):=by
 unfold Den.fk at h;cases q:(Den.c5 60 x&&Den.c5 60 y) with
 |false=>rw[q]at h;exact h.elim
 |true =>
  rw[q]at h;simp only[aa3]at q;exact⟨q.1,q.2,h⟩
def LP(bh:X.A.units+64<cLine):d3 X (compareOp .Eq) (kU X.K (Den.e5 .eq)):=by
 intro pins s σ H x y v u Q I bc bM ⟨G,bk,dt,af,cg,ep,hw⟩;rw[Den.DK]at hw;obtain⟨J,aa,q⟩:=Kg hw;obtain⟨as,cE⟩:=oR I af cg bc J;obtain⟨bs,ee⟩:=oR I af ep bM aa;refine eq_dataH cE ee (wq J) (wq aa) bh ?_;rw[rV];exact⟨.aV _,H,I,rfl,q⟩
def LU(bh:X.A.units+64<cLine):d3 X (compareOp .NotEq) (kU X.K (Den.e5 .ne)):=by
 intro pins s σ H x y v u Q I bc bM ⟨G,bk,dt,af,cg,ep,hw⟩;rw[Den.DN]at hw;obtain⟨J,aa,q⟩:=Kg (Ki.mp hw);obtain⟨as,cE⟩:=oR I af cg bc J;obtain⟨bs,ee⟩:=oR I af ep bM aa;refine ne_dataH cE ee (wq J) (wq aa) bh ?_;rw[rV];exact⟨.aV _,H,I,rfl,q⟩
end
section
open Classical in
def km (h:Heap) (bk:D) (y:Value):Bool:=decide (∃(d:D)(as:List Addr),Reads h y (toPy d) as/\Den.c5 60 d=true/\Den.gf d bk=true)
open Classical in
theorem yX (r:Reads h y (toPy d) as) (hd:Den.c5 60 d=true):km h bk y=Den.gf d bk:=by
 unfold km;cases q:Den.gf d bk with
 |true=>exact decide_eq_true ⟨d,as,r,hd,q⟩
 |false =>
  refine decide_eq_false ?_;rintro⟨d',ZU,b5,fZ,cB⟩;have e:=SeqAt.Reads.unique _ _ _ _ _ (qE 60 d hd).1 r b5;rw[<- rV]at q cB;rw[e,cB]at q;cases q
theorem xx:∀{ds:List D}{us:List Value}{as:List Addr},ReadsAll h us (hn ds) as->ds.all (Den.c5 60)=true->us.any (km h bk)=ds.any λd=>Den.gf d bk
 |[],_,_,r,_=>by cases r;rfl
 |d::ds,_,_,r,hd=>by
  cases r with
  |cons aH aT =>
   simp only[List.all_cons,aa3]at hd;simp only[List.any_cons,yX aH hd.1,xx aT hd.2]
theorem uQ{X:a4}(bh:X.A.units+64<cLine)(bc:Reads s.heap v (toPy bk) bs)(ak:Den.c5 60 bk=true):∀{ds:List D}{us:List Value}{as:List Addr},ReadsAll s.heap us (hn ds) as->ds.all (Den.c5 60)=true->∀y,y∈us->SeqAt.EqAt X.A.in1 s y v (km s.heap bk y)
 |[],_,_,r,_,y,aP=>by cases r;simp at aP
 |d::ds,_,_,r,hd,y,aP=>by
  cases r with
  |cons aH aT =>
   simp only[List.all_cons,aa3]at hd;rcases aa8.mp aP with rfl|aP
   .rw[yX aH hd.1,<- rV];refine SeqAt.eqAt_reads _ _ _ _ _ _ _ _ aH bc (qE 60 _ hd.1).1 (qE 60 _ ak).1 ?_;have J:=(qE 60 _ hd.1).2;show X.A.units+1+_<cLine;have:min (toPy d).depth (toPy bk).depth<=60:=abX (Nat.min_le_left _ _) J;lia
   .exact uQ bh bc ak aT hd.2 y aP
def Kh{x:D}{ys:List D}(h:cy (Den.gG x ys) Q E):Den.c5 60 x=true/\ys.all (Den.c5 60)=true/\Q (Den.memD x ys):=by
 unfold Den.gG at h;cases q:(Den.c5 60 x&&ys.all (Den.c5 60)) with
 |false=>rw[q]at h;exact h.elim
 |true =>
  rw[q]at h;simp only[aa3]at q;exact⟨q.1,q.2,h⟩
def FY{pins:List (Addr×Obj)}{σ:dk}{s:Shared}{ys:List D}(I:Inv X pins σ H s)(af:bA G H)(h:View X.K G H (.tup ys) y\/View X.K G H (.lst ys) y)(r:RelV y u)(kD:ys.all (Den.c5 60)=true):
  ∃(a:Addr)(its:List Value)(as:List Addr),u=.ref a/\ReadsAll s.heap its (hn ys) as/\(s.heap.IsTuple a its.toArray\/s.heap.IsList a its.toArray):=by
 rcases h with⟨a,xs,rfl,h,q⟩|⟨a,xs,rfl,h,q⟩
 .cases r;obtain⟨its,br,⟨o,ay,ag,n,hd⟩,_⟩:=I.tuple (iz af h);obtain⟨as,cE⟩:=oS I af 60 kD q br;exact⟨a,its,as,rfl,cE,.inl ⟨o,ay,ag,n,hd⟩⟩
 .cases r;obtain⟨its,br,⟨o,n,ay,ag,_,hd⟩,_⟩:=I.list h;obtain⟨as,cE⟩:=oS I af 60 kD q br;exact⟨a,its,as,rfl,cE,.inr ⟨o,ay,ag,n,hd⟩⟩
def LR(bh:X.A.units+64<cLine):d3 X (compareOp .In) (kU X.K (Den.e5 .mem)):=by
 intro pins s σ H x y v u Q I bc bM ⟨G,bk,dt,af,cg,ep,hw⟩;have key:∀ys,(View X.K G H (.tup ys) y\/View X.K G H (.lst ys) y)->cy (Den.gG bk ys) (λb=>Q (.aV b) H) (λ_=>False)->wpAny (model X.prog X.w) X.A (compareOp .In v u) (eS X pins σ Q) X.cb s:=by
  intro ys aP hw;obtain⟨J,aa,q⟩:=Kh hw;obtain⟨bs,ee⟩:=oR I af cg bc J;obtain⟨a,its,as,rfl,cE,ay⟩:=FY I af aP bM aa;have e:its.toArray.any (km s.heap bk)=Den.memD bk ys:=(by rw[List.any_toArray];exact xx cE aa);have he:∀z,z∈its.toArray->SeqAt.EqAt X.A.in1 s z v (km s.heap bk z):=λz hz=>uQ bh ee J cE aa z (by simpa using hz)
  rcases ay with ay|ay
  .exact SeqAt.in_tupleAt _ ay he (by rw[e];exact⟨.aV _,H,I,rfl,q⟩)
  .exact SeqAt.in_listAt _ ay he (by rw[e];exact⟨.aV _,H,I,rfl,q⟩)
 cases dt with
 |tup ys=>exact key ys (.inl ep) hw
 |lst ys=>exact key ys (.inr ep) hw
 |_=>cases bk<;>exact hw.elim
def LV(bh:X.A.units+64<cLine):d3 X (compareOp .NotIn) (kU X.K (Den.e5 .h5)):=by
 intro pins s σ H x y v u Q I bc bM ⟨G,bk,dt,af,cg,ep,hw⟩;have key:∀ys,(View X.K G H (.tup ys) y\/View X.K G H (.lst ys) y)->cy (Den.hI (Den.gG bk ys)) (λb=>Q (.aV b) H) (λ_=>False)->wpAny (model X.prog X.w) X.A (compareOp .NotIn v u) (eS X pins σ Q) X.cb s:=by
  intro ys aP hw;obtain⟨J,aa,q⟩:=Kh (Ki.mp hw);obtain⟨bs,ee⟩:=oR I af cg bc J;obtain⟨a,its,as,rfl,cE,ay⟩:=FY I af aP bM aa;have e:its.toArray.any (km s.heap bk)=Den.memD bk ys:=(by rw[List.any_toArray];exact xx cE aa);have he:∀z,z∈its.toArray->SeqAt.EqAt X.A.in1 s z v (km s.heap bk z):=λz hz=>uQ bh ee J cE aa z (by simpa using hz)
  rcases ay with ay|ay
  .exact SeqAt.notIn_tupleAt _ ay he (by rw[e];exact⟨.aV _,H,I,rfl,q⟩)
  .exact SeqAt.notIn_listAt _ ay he (by rw[e];exact⟨.aV _,H,I,rfl,q⟩)
 cases dt with
 |tup ys=>exact key ys (.inl ep) hw
 |lst ys=>exact key ys (.inr ep) hw
 |_=>cases bk<;>exact hw.elim
end
section
variable{xp:dx}{X:a4}{mu:List Nat}{m:fo}{bl dz fc:bw->cq D}{a b c:Expr}{pos:Pos}
def AQ{d:D}(h:Den.fB 0 d=true):∃i,d=.int i:=by
 cases d with
 |int i=>exact⟨i,rfl⟩
 |_=>cases h
theorem vL:∀{ds:List D},ds.all (Den.fB 0)=true->∃ns:List Int,ds=ns.map Den.D.int
 |[],_=>⟨[],rfl⟩
 |d::ds,h=>by
  simp only[List.all_cons,aa3]at h;obtain⟨i,rfl⟩:=AQ h.1;obtain⟨ns,rfl⟩:=vL h.2;exact⟨i::ns,rfl⟩
def GG{d:D}(h:Den.fB 1 d=true):∃ns:List Int,d=.tup (ns.map Den.D.int):=by
 cases d with
 |tup ds=>obtain⟨ns,rfl⟩:=vL h;exact⟨ns,rfl⟩
 |_=>cases h
theorem jo{K:W.Frag}:∀{ns:List Int}{xs:List V},bz K G (ns.map Den.D.int) xs->xs=ns.map V.int
 |[],_,h=>h
 |n::ns,_,⟨v,r,e,J,aa⟩=>by
  subst e;have J:v=.int n:=J;rw[J,jo aa];rfl
theorem sW:∀a b:List Int,Den.kN (a.map Den.D.int) (b.map Den.D.int)=some (da.lexLt a b)
 |[],[]=>rfl
 |[],_::_=>rfl
 |_::_,[]=>rfl
 |x::a,y::b=>by
  rw[show Den.kN ((x::a).map Den.D.int) ((y::b).map Den.D.int)=if (x==y)=true then Den.kN (a.map .int) (b.map .int) else some (decide (x<y)) from rfl,sW a b];simp only[da.lexLt]
  by_cases h:x=y<;>simp[h]
def LS(bh:X.A.units+64<cLine):d3 X (compareOp .Lt) (kU X.K (Den.e5 .lt)):=by
 intro pins s σ H x y v u Q I bc bM ⟨G,bk,dt,af,cg,ep,hw⟩;rw[Den.DL]at hw;unfold Den.vJ at hw;cases q:((Den.fB 0 bk&&Den.fB 0 dt)||(Den.fB 1 bk&&Den.fB 1 dt)) with
 |false=>rw[q]at hw;exact hw.elim
 |true =>
  rw[q]at hw;simp only[abU]at hw;simp only[acN,aa3]at q;rcases q with⟨J,aa⟩|⟨J,aa⟩
  .obtain⟨i,rfl⟩:=AQ J;obtain⟨j,rfl⟩:=AQ aa;exact Uh pins s σ H x y v u Q I bc bM ⟨i,j,cg,ep,hw⟩
  .obtain⟨ns,rfl⟩:=GG J;obtain⟨ms,rfl⟩:=GG aa;obtain⟨a,xs,e1,k1,aH⟩:=cg;obtain⟨b,ys,ar,k2,aT⟩:=ep;rw[jo aH]at k1;rw[jo aT]at k2;refine Ui ⋯ pins s σ H x y v u Q I bc bM ⟨a,b,ns,ms,e1,ar,iz af k1,iz af k2,?_⟩;simp only[Den.kM,sW,Den.A6]at hw;exact hw
def LQ:d3 X (compareOp .Gt) (kU X.K (Den.e5 .gt)):=by
 intro pins s σ H x y v u Q I bc bM ⟨G,bk,dt,af,cg,ep,hw⟩;cases bk<;>cases dt<;>first|exact hw.elim|skip
 exact Ug pins s σ H x y v u Q I bc bM ⟨_,_,cg,ep,hw⟩
theorem cT.aV{K:W.Frag}{b:Bool}:cT K H aM aq m (.aV b) (.aV b):=by cases m<;>rfl
theorem cT.int{K:W.Frag}:cT K H aM aq m (.int i) (.int i):=by cases m<;>rfl
def cT.A7{K:W.Frag}{b:Bool}(h:cT K H aM aq m (.aV b) v):v=.aV b:=by cases m<;>exact h
def cT.vU{K:W.Frag}(h:cT K H aM aq m (.int i) v):v=.int i:=by cases m<;>exact h
noncomputable def yI(o:Den.q2)(bl dz:bw->cq D):bw->cq D:=λρ=>bl ρ>>=λx=>dz ρ>>=λy=>Den.e5 o x y>>=λk=>.ok (.aV k)
def oL{α:Type}:cq α->Bool
 |.exc _=>false
 |_=>true
def G7{α:Type}{r:cq α}(h:oL r=true)(c):r≠.exc c:=λe=>by rw[e]at h;cases h
def nf{α:Type}{p:Prop}[Decidable p]{a b:cq α}(aw:oL a=true)(ae:oL b=true):oL (if p then a else b)=true:=by by_cases h:p<;>simp[h,aw,ae]
def G8(h:oL r=true):oL (Den.hI r)=true:=by cases r<;>first|rfl|exact h
def TM(o):oL (Den.A6 o)=true:=by cases o<;>rfl
def Mg(o)(x y:D)(c):Den.e5 o x y≠.exc c:=by
 refine G7 ?_ c;cases o with
 |eq=>exact nf rfl rfl
 |ne=>exact G8 (nf rfl rfl)
 |lt=>exact nf (TM _) rfl
 |mem=>cases y<;>first|rfl|exact nf rfl rfl
 |h5=>cases y<;>first|rfl|exact G8 (nf rfl rfl)
 |gt=>cases x<;>cases y<;>rfl
def tX{α:Type}{r:cq α}{Q:α->Prop}(h:cy r Q E)(aC:∀c,r≠.exc c):cy r Q fJ:=by
 cases r with
 |ok a=>exact h
 |exc c=>exact absurd rfl (aC c)
 |bad=>exact h
def Jy{σ:dk}(h:bE xp X mu m (yI o bl dz) σ H Q):tQ (kU X.K (Den.e5 o)) (bE xp X mu .view bl) (bE xp X mu .view dz) σ H Q:=by
 obtain⟨G,ρ,af,hw⟩:=h;refine⟨G,ρ,af,cj (bJ.mp hw) (λbk k v aJ H1 aS aH=>?_) λ_ q=>q⟩;refine⟨aJ,ρ,af.ext aS,cj (bJ.mp k) (λdt k2 v2 cD aU cv aT=>?_) λ_ q=>q.mono aS.h⟩;refine⟨cD,bk,dt,cv.sub,View.ext cv aH,aT,?_⟩;exact cj (tX (bJ.mp k2) (λc=>Mg o bk dt c)) (λk q=>q (.aV k) cD aU (aS.trans cv) cT.aV) λ_ q=>q
def Wl(ay:d3 X (compareOp op) (kU X.K (Den.e5 o)))(aw:aQ X a (bE xp X mu .view bl))(ae:aQ X b (bE xp X mu .view dz))(hm:behindInMarks op b=false):
  aQ X (.Compare a [op] [b] pos) (bE xp X mu m (yI o bl dz)):=λpins s σ H Q I h=>Uz ay aw ae hm pins s σ H Q I (Jy h)
noncomputable def gs(xp:dx)(X:a4)(mu:List Nat)(f:bw->cq D):TT:=λσ H Q =>
 ∃G ρ,er X.K mu G H ρ σ/\cy (f ρ>>=Den.ei) (λb=>∀aM aq,Ext G H aM aq->Q b aq) (λc=>eK xp X c H)
def Jv{σ:dk}(h:gs xp X mu f σ H Q):bE xp X mu .view f σ H (λx aq=>∃k,x=.aV k/\Q k aq):=by
 obtain⟨G,ρ,af,hw⟩:=h;refine⟨G,ρ,af,cj (bJ.mp hw) (λd k v aM aq x r=>?_) λ_ q=>q⟩;cases d with
 |aV b=>exact⟨b,cT.A7 r,k aM aq x⟩
 |_=>exact k.elim
def Wm(ay:d3 X (compareOp op) (kU X.K (Den.e5 o)))(aw:aQ X a (bE xp X mu .view bl))(ae:aQ X b (bE xp X mu .view dz))(hm:behindInMarks op b=false):
  eU X (.Compare a [op] [b] pos) (gs xp X mu (yI o bl dz)):=λpins s σ H Q I h=>Vr ay aw ae hm pins s σ H Q I (Jy (Jv h))
def nz(h:aQ X a (bE xp X mu .view f))(he:∀whole,isTrue a X.env whole=(do let v <- whole;standAt a.pos;holding [v] (truthy v))):eU X a (gs xp X mu f):=λpins s σ H Q I hw=>Vt h he pins s σ H Q I (Jv hw)
noncomputable def C0(bl dz:bw->cq D):bw->cq D:=λρ=>bl ρ>>=λx=>Den.ei x>>=λk=>if k then dz ρ else .ok (.aV false)
noncomputable def Hb(bl:bw->cq D):bw->cq D:=λρ=>bl ρ>>=λx=>Den.ei x>>=λk=>.ok (.aV (!k))
def cT.back{K:W.Frag}(s:bA H H1)(h:cT K H1 aM aq m d v):cT K H aM aq m d v:=cT.old s h
def Ir{rest:List Expr}(aw:aQ X a (bE xp X mu .view bl))(ae:aQ X (.BoolOp .And (b::rest) pos) (bE xp X mu m dz)):aQ X (.BoolOp .And (a::b::rest) pos) (bE xp X mu m (C0 bl dz)):=by
 intro pins s σ H Q I ⟨G,ρ,af,hw⟩;refine Hp aw ae pins s σ H Q I ?_;refine⟨G,ρ,af,cj (bJ.mp hw) (λbk k v aJ H1 aS aH=>?_) λ_ q=>q⟩;cases bk with
 |aV b =>
  refine⟨b,cT.A7 aH,?_⟩;cases b with
  |true =>
   simp only[abU];exact⟨aJ,ρ,af.ext aS,cj k (λd q v2 cD aU cv aT=>q v2 cD aU (aS.trans cv) (cT.back aS.h aT)) λ_ q=>q.mono aS.h⟩
  |false =>
   simp only[aa6,abp];exact k (.aV false) aJ H1 aS cT.aV
 |_=>exact k.elim
def WI(aw:aQ X a (bE xp X mu .view bl)):aQ X (.UnaryOp .Not a pos) (bE xp X mu m (Hb bl)):=by
 intro pins s σ H Q I ⟨G,ρ,af,hw⟩;refine UJ aw pins s σ H Q I ?_;refine⟨G,ρ,af,cj (bJ.mp hw) (λbk k v aJ H1 aS aH=>?_) λ_ q=>q⟩;cases bk with
 |aV b=>exact⟨b,cT.A7 aH,k (.aV (!b)) aJ H1 aS cT.aV⟩
 |_=>exact k.elim
def It{rest:List Expr}(aw:eU X a (gs xp X mu bl))(ae:mr X (.BoolOp .And (b::rest) pos) (gs xp X mu dz)):mr X (.BoolOp .And (a::b::rest) pos) (gs xp X mu (C0 bl dz)):=by
 intro w0 pins s σ H Q I ⟨G,ρ,af,hw⟩;refine Vu aw ae w0 pins s σ H Q I ?_;refine⟨G,ρ,af,?_⟩;refine bJ.mpr (cj (bJ.mp (bJ.mp hw)) (λbk k=>cj (bJ.mp k) (λb k2 aJ H1 aS=>?_) λ_ q=>q) λ_ q=>q);cases b with
 |true =>
  simp only[abU]at k2 ⊢;exact⟨aJ,ρ,af.ext aS,cj (bJ.mpr k2) (λd q cD aU cv=>q cD aU (aS.trans cv)) λ_ q=>q.mono aS.h⟩
 |false =>
  simp only[aa6,abp]at k2 ⊢;exact k2 aJ H1 aS
def WJ(aw:eU X a (gs xp X mu bl)):eU X (.UnaryOp .Not a pos) (gs xp X mu (Hb bl)):=by
 intro pins s σ H Q I ⟨G,ρ,af,hw⟩;refine Vs aw pins s σ H Q I ?_;refine⟨G,ρ,af,?_⟩;exact bJ.mpr (cj (bJ.mp (bJ.mp hw)) (λbk k=>cj (bJ.mp k) (λb k2 aJ H1 aS=>k2 aJ H1 aS) λ_ q=>q) λ_ q=>q)
end
section
variable{xp:dx}{X:a4}{mu:List Nat}{m:fo}{bl dz fc:bw->cq D}{a b c:Expr}{pos:Pos}{pins:List (Addr×Obj)}{σ:dk}{G H:aD}{s:Shared}
def G4(I:Inv X pins σ H s)(af:bA G H)(r:Vals xs its)(q:bz X.K G ds xs)(hz:xs.length<=sizeLine)(k:∀v aM aq,Ext G H aM aq->Rep X.K aM (.tup ds) v->Q v aq):eS X pins σ Q (.ref s.heap.objs.size) { s with heap:=s.heap.push { cls:=.type "tuple",data:=.seq its.toArray } }:=by
 refine⟨.ref s.heap.objs.size,_,I.laid (t':=s.toks) (o:=.tup xs) (λb bQ q=>aa5 _ q) (aa9 _) ⟨hz,its,r,IsTup.new _ _⟩,rfl,?_⟩;exact k _ (upd G s.heap.objs.size (.tup xs)) _ (Ext.put af I.fresh) ⟨_,xs,rfl,dC,q.mono (f5 (af.free I.fresh))⟩
def TK(I:Inv X pins σ H s)(af:bA G H)(r:Vals xs its)(q:bz X.K G ds xs)(hz:xs.length<=sizeLine)(k:∀v aM aq,Ext G H aM aq->cT X.K H aM aq .fresh (.lst ds) v->Q v aq):eS X pins σ Q (.ref s.heap.objs.size) { s with heap:=s.heap.push { cls:=.type "list",data:=.seq its.toArray } }:=by
 refine⟨.ref s.heap.objs.size,_,I.Gz (t':=s.toks) r hz,rfl,?_⟩;exact k _ G _ (Ext.own af I.fresh λ_ z=>nomatch z) ⟨_,xs,rfl,dC,I.fresh,af.free I.fresh,q⟩
def md{ds:List D}(h:View X.K G H (.lst ds) v):∃a xs,v=.ref a/\eg X.K H a xs/\bz X.K G ds xs:=h
def nH(af:bA G H){ds:List D}(h:View X.K G H (.tup ds) v):∃a xs,v=.ref a/\fq X.K H a xs/\bz X.K G ds xs:=by
 obtain⟨a,xs,e,k,r⟩:=h;exact⟨a,xs,e,iz af k,r⟩
def rf:Den.SZ=sizeLine:=by rw[sizeLine_eq];rfl
def Nn:d3 X (binaryOp .Add) (l4 X.K (Den.ej .add)):=by
 intro pins s σ H x y v u Q I bc bM ⟨G,bk,dt,af,cg,ep,hw⟩;cases bk with
 |int i =>
  cases dt with
  |int j=>exact Ud pins s σ H x y v u Q I bc bM ⟨_,_,cg,ep,mU af hw rfl⟩
  |_=>exact hw.elim
 |tup ds =>
  cases dt with
  |tup aj =>
   rw[Den.ri]at hw
   by_cases h:ds.length+aj.length<=Den.SZ
   .rw[if_pos h]at hw;obtain⟨l,xs,rfl,k1,aH⟩:=nH af cg;obtain⟨b,ys,rfl,k2,aT⟩:=nH af ep;cases bc;cases bM;obtain⟨its,iX,p1,_⟩:=I.tuple k1;obtain⟨hc,j0,p2,_⟩:=I.tuple k2;have hz:xs.length+ys.length<=sizeLine:=by rw[<- aH.length,<- aT.length,<- rf];exact h
    by_cases e0:its=[]
    .-- YR left one is empty
     subst e0;have:ds=[]:=by
      have J:=aH.length;have aa:=iX.length;simp at aa;rw[aa]at J;simp at J;exact J
     subst this;obtain⟨⟨cls,dd,data,bI⟩,ay,ag,n,hd⟩:=id p1;obtain⟨⟨rz,kk,data2,jX⟩,kA,iM,eX,hd2⟩:=id p2;simp only at ag hd iM hd2;subst ag hd iM hd2;refine aeN ⟨_,ay,rfl⟩ ⟨_,kA,rfl⟩ aeE seq_tuple_add adD adA (adw _ _)
      (tuple_addW0 l b _ hc.toArray n eX dd kk bI jX rfl) ⟨ay,kA,?_⟩
     exact⟨.ref b,H,I,rfl,hw _ G H (Ext.refl af) ep⟩
    .refine da.LY p1 p2 e0 (λz=>?_) (λz=>?_) (by rw[<- iX.length,<- j0.length];exact hz)
     .have:aj=[]:=by
       have J:=aT.length;have aa:=j0.length;rw[z]at aa;simp at aa;rw[aa]at J;simp at J;exact J
      subst this;rw[acz]at hw;exact⟨.ref l,H,I,rfl,hw _ G H (Ext.refl af) cg⟩
     .exact G4 I af (iX.append j0) (aH.append aT) (by rw[aa7];exact hz) hw
   .rw[if_neg h]at hw;exact hw.elim
  |_=>exact hw.elim
 |lst ds =>
  cases dt with
  |lst aj =>
   rw[Den.mz]at hw
   by_cases h:ds.length+aj.length<=Den.SZ
   .rw[if_pos h]at hw;obtain⟨l,xs,rfl,k1,aH⟩:=md cg;obtain⟨b,ys,rfl,k2,aT⟩:=md ep;cases bc;cases bM;obtain⟨its,iX,⟨iT,n,e1,ag,il,hd⟩,_⟩:=I.list k1;obtain⟨hc,j0,⟨gI,eX,ar,iM,Z9,hd2⟩,_⟩:=I.list k2;have hz:xs.length+ys.length<=sizeLine:=(by rw[<- aH.length,<- aT.length,<- rf];exact h);obtain⟨cls,dd,data,bI⟩:=iT;obtain⟨rz,kk,data2,jX⟩:=gI;simp only at ag hd iM hd2;subst ag hd iM hd2;refine aeN ⟨_,e1,rfl⟩ ⟨_,ar,rfl⟩ noFill_list_add seq_list_add F.slot_list_add F.entry_list_add (F.args_list_add_2 _ _)
     (list_addW l b its.toArray hc.toArray n eX dd kk bI jX (by rw[abb,abb,<- iX.length,<- j0.length];exact hz)) ⟨e1,ar,?_⟩
    have bG:its.toArray++hc.toArray=(its++hc).toArray:=(by simp);rw[bG];exact TK I af (iX.append j0) (aH.append aT) (by rw[aa7];exact hz) hw
   .rw[if_neg h]at hw;exact hw.elim
  |_=>exact hw.elim
 |_=>cases dt<;>exact hw.elim
end
end bC
end
section
namespace bC
open PySem PySem.Spec PyProof.Rows bu PySem.MeetsSeq
section
def Nv:d3 X (binaryOp .Mult) (l4 X.K (Den.ej .mul)):=by
 intro pins s σ H x y v u Q I bc bM ⟨G,bk,dt,af,cg,ep,hw⟩;cases bk with
 |int i =>
  cases dt with
  |int j =>
   rw[Den.mul_int]at hw
   by_cases h:(-Den.g0<i/\i<Den.g0)\/(-Den.g0<j/\j<Den.g0)
   .rw[if_pos h]at hw;exact Uk pins s σ H x y v u Q I bc bM ⟨_,_,cg,ep,h,mU af hw rfl⟩
   .rw[if_neg h]at hw;exact hw.elim
  |_=>exact hw.elim
 |_=>cases dt<;>exact hw.elim
end
end bC
end
section
namespace bC
open PySem PySem.Spec PyProof.Rows bu
section
variable{xp:dx}{X:a4}{mu:List Nat}{m:fo}{f bl dz fc:bw->cq D}{bB:bw->cq (List D)}{a b c e:Expr}{aj:List Expr}{pos:Pos}{pins:List (Addr×Obj)}{σ:dk}{G H:aD}{s:Shared}
def IC(aw:aQ X a (bE xp X mu .view bl)):aQ X (.UnaryOp .USub a pos) (bE xp X mu m λρ=>bl ρ>>=λx=>Den.iH x>>=λi=>.ok (.int (-i))):=by
 intro pins s σ H Q I ⟨G,ρ,af,hw⟩;refine UM Y9 aw pins s σ H Q I ?_;refine⟨G,ρ,af,cj (bJ.mp hw) (λbk k v aJ H1 aS aH=>?_) λ_ q=>q⟩;cases bk with
 |int i=>exact⟨i,cT.vU aH,k (.int (-i)) aJ H1 aS cT.int⟩
 |_=>exact k.elim
noncomputable def nE(xp:dx)(X:a4)(mu:List Nat)(f:bw->cq (List D)):g8:=λσ H Q =>
 ∃G ρ,er X.K mu G H ρ σ/\cy (f ρ) (λds=>∀ah aM aq,Ext G H aM aq->bz X.K aM ds ah->Q ah aq) (λc=>eK xp X c H)
def ID:f7 X [] (nE xp X mu λ_=>.ok []):=by
 intro p pins s σ H Q I ⟨G,ρ,af,hw⟩;exact th p pins s σ H Q I (hw [] G H (Ext.refl af.sub) rfl)
def Wn(he:aQ X e (bE xp X mu .val f))(a3:f7 X aj (nE xp X mu bB))(c8:starEach (e::aj) X.env=(false,eval e X.env)::starEach aj X.env):f7 X (e::aj) (nE xp X mu λρ=>f ρ>>=λx=>bB ρ>>=λxs=>.ok (x::xs)):=by
 intro p pins s σ H Q I ⟨G,ρ,af,hw⟩;refine qv he a3 c8 p pins s σ H Q I ?_;refine⟨G,ρ,af,cj (bJ.mp hw) (λbk k v aJ H1 aS aH=>?_) λ_ q=>q⟩;refine⟨aJ,ρ,af.ext aS,cj (bJ.mp k) (λds k2 ah cD aU cv aT=>?_) λ_ q=>q.mono aS.h⟩;exact k2 (v::ah) cD aU (aS.trans cv) ⟨v,ah,rfl,Rep.mono cv.g aH,aT⟩
def IH(h:f7 X aj (nE xp X mu bB))(az:∀ρ ds,bB ρ=.ok ds->ds.length<=sizeLine):aQ X (.Tuple aj j pos) (bE xp X mu .val λρ=>bB ρ>>=λds=>.ok (.tup ds)):=by
 intro pins s σ H Q I ⟨G,ρ,af,hw⟩;refine UL h pins s σ H Q I ?_;refine⟨G,ρ,af,?_⟩;have hw:=bJ.mp hw;cases q:bB ρ with
 |ok ds =>
  rw[q]at hw;intro ah aJ H1 aS aH;refine⟨by rw[<- aH.length];exact az ρ ds q,λp aB=>?_⟩;exact hw (.ref p) (upd aJ p (.tup ah)) _ (aS.trans (Ext.put aS.sub aB)) ⟨p,ah,rfl,dC,aH.mono (f5 (aS.sub.free aB))⟩
 |exc c=>rw[q]at hw;exact hw
 |bad=>rw[q]at hw;exact hw
def WE(h:f7 X aj (nE xp X mu bB))(az:∀ρ ds,bB ρ=.ok ds->ds.length<=sizeLine):aQ X (.List aj pos) (bE xp X mu .fresh λρ=>bB ρ>>=λds=>.ok (.lst ds)):=by
 intro pins s σ H Q I ⟨G,ρ,af,hw⟩;refine UH h pins s σ H Q I ?_;refine⟨G,ρ,af,?_⟩;have hw:=bJ.mp hw;cases q:bB ρ with
 |ok ds =>
  rw[q]at hw;intro ah aJ H1 aS aH;refine⟨by rw[<- aH.length];exact az ρ ds q,λp aB=>?_⟩;exact hw (.ref p) aJ _ (aS.trans (Ext.own aS.sub aB λ_ z=>nomatch z)) ⟨p,ah,rfl,dC,aS.h.free aB,aS.sub.free aB,aH⟩
 |exc c=>rw[q]at hw;exact hw
 |bad=>rw[q]at hw;exact hw
def R1(n)(i):Den.hF n i=bu.hF n i:=by
 unfold Den.hF bu.hF
 by_cases h:0<=i
 .rw[if_pos h,if_pos h]
 .rw[if_neg h,if_neg h]
  by_cases q:0<=i+(n:Int)
  .rw[if_pos q,if_pos ⋯]
  .rw[if_neg q,if_neg ⋯]
def EX{K:W.Frag}(r:bz K G ds xs)(h:Den.iL ds i=some d):∃v,n1 xs i=some v/\Rep K G d v:=by
 unfold Den.iL at h;rw[R1,r.length]at h;unfold n1;cases q:bu.hF xs.length i with
 |none=>rw[q]at h;cases h
 |some j =>
  rw[q]at h;obtain⟨v,e,z⟩:=r.get (i:=j) h;exact⟨v,e,z⟩
def WA(aw:aQ X a (bE xp X mu .view bl))(ae:aQ X b (bE xp X mu .view dz))(aB:xn b):aQ X (.Subscript a b pos) (bE xp X mu .val λρ=>bl ρ>>=λx=>dz ρ>>=λy=>Den.gD x y):=by
 intro pins s σ H Q I ⟨G,ρ,af,hw⟩;refine UG R4 aw ae aB pins s σ H Q I ?_;refine⟨G,ρ,af,cj (bJ.mp hw) (λbk k v aJ H1 aS aH=>?_) λ_ q=>q⟩;refine⟨aJ,ρ,af.ext aS,cj (bJ.mp k) (λdt k2 v2 cD aU cv aT=>?_) λ_ q=>q.mono aS.h⟩;have aH:=View.ext cv aH;cases bk with
 |lst ds =>
  cases dt with
  |int i =>
   simp only[Den.vx]at k2;cases q:Den.iL ds i with
   |none=>rw[q]at k2;exact k2.elim
   |some d =>
    rw[q]at k2;obtain⟨l,xs,rfl,e,r⟩:=md aH;obtain⟨w,ar,h7⟩:=EX r q;exact .inl ⟨l,xs,i,w,rfl,aT,e,ar,k2 w cD aU (aS.trans cv) h7⟩
  |_=>exact k2.elim
 |tup ds =>
  cases dt with
  |int i =>
   simp only[Den.FX]at k2;cases q:Den.iL ds i with
   |none=>rw[q]at k2;exact k2.elim
   |some d =>
    rw[q]at k2;obtain⟨l,xs,rfl,e,r⟩:=nH cv.sub aH;obtain⟨w,ar,h7⟩:=EX r q;exact .inr (.inl ⟨l,xs,i,w,rfl,aT,e,ar,k2 w cD aU (aS.trans cv) h7⟩)
  |_=>exact k2.elim
 |_=>cases dt<;>exact k2.elim
noncomputable def kV(K:W.Frag)(m:fo)(g:D->cq D):List V->aD->dw->Prop:=λxs H Q=>∃G x d,xs=[x]/\bA G H/\View K G H d x/\cy (g d) (λd'=>∀v aM aq,Ext G H aM aq->cT K H aM aq m d' v->Q v aq) (λ_=>False)
def nk(he:aQ X e eR)(c8:starEach [e] X.env=[(false,eval e X.env)]):f7 X [e] (Jp eR Ju):=qv he th c8
def qC{id:String}(aZ:∀d c,g d≠.exc c)(ag:g5 X (.builtin id) (kV X.K m g))(zY:ff X x)(hm:X.aX x=none)(aK:bootBuiltins x=some (.builtin id))(aw:aQ X e (bE xp X mu .view f))(aC:x≠"__name__")(jL:(x==("__debug__":Str))=false)(c8:starEach [e] X.env=[(false,eval e X.env)]):aQ X (.Call (.Name x p) [e] [] pos) (bE xp X mu m λρ=>f ρ>>=λd=>g d):=by
 intro pins s σ H Q I ⟨G,ρ,af,hw⟩;refine Hq ag zY hm aK (nk aw c8) aC jL c8 rfl pins s σ H Q I ?_;refine⟨G,ρ,af,cj (bJ.mp hw) (λbk k v aJ H1 aS aH=>?_) λ_ q=>q⟩;refine⟨aJ,v,bk,rfl,aS.sub,aH,?_⟩;exact cj (tX k (aZ bk)) (λd q v2 cD aU cv aT=>q v2 cD aU (aS.trans cv) (aT.old aS.h)) λ_ q=>q
def Iw(aZ:∀d c,g d≠.exc c)(ag:g5 X (.type T) (kV X.K m g))(zY:ff X x)(hm:X.aX x=none)(aK:bootBuiltins x=some (.type T))(aw:aQ X e (bE xp X mu .view f))(aC:x≠"__name__")(jL:(x==("__debug__":Str))=false)(c8:starEach [e] X.env=[(false,eval e X.env)]):aQ X (.Call (.Name x p) [e] [] pos) (bE xp X mu m λρ=>f ρ>>=λd=>g d):=by
 intro pins s σ H Q I ⟨G,ρ,af,hw⟩;refine Hr ag zY hm aK (nk aw c8) aC jL c8 rfl pins s σ H Q I ?_;refine⟨G,ρ,af,cj (bJ.mp hw) (λbk k v aJ H1 aS aH=>?_) λ_ q=>q⟩;refine⟨aJ,v,bk,rfl,aS.sub,aH,?_⟩;exact cj (tX k (aZ bk)) (λd q v2 cD aU cv aT=>q v2 cD aU (aS.trans cv) (aT.old aS.h)) λ_ q=>q
def f_len:g5 X (.builtin "len") (kV X.K m Den.lW):=by
 intro pins s σ H xs us Q I r ⟨G,x,d,ex,af,cg,hw⟩;subst ex;cases d with
 |tup ds =>
  obtain⟨a,ys,rfl,k,q⟩:=nH af cg;refine Dq pins s σ H _ us Q I r ⟨a,ys,rfl,.inr k,?_⟩;rw[<- q.length];exact hw _ G H (Ext.refl af) cT.int
 |lst ds =>
  obtain⟨a,ys,rfl,k,q⟩:=md cg;refine Dq pins s σ H _ us Q I r ⟨a,ys,rfl,.inl k,?_⟩;rw[<- q.length];exact hw _ G H (Ext.refl af) cT.int
 |_=>exact hw.elim
def f_list:g5 X (.type "list") (kV X.K .fresh λd=>Den.en d>>=λds=>.ok (.lst ds)):=by
 intro pins s σ H xs us Q I r ⟨G,x,d,ex,af,cg,hw⟩;subst ex;cases d with
 |tup ds =>
  obtain⟨a,ys,rfl,k,q⟩:=nH af cg;exact Dr pins s σ H _ us Q I r ⟨a,ys,rfl,.inr k,λl az=>hw _ G _ (Ext.own af az λ_ z=>nomatch z) ⟨l,ys,rfl,dC,az,af.free az,q⟩⟩
 |lst ds =>
  obtain⟨a,ys,rfl,k,q⟩:=md cg;exact Dr pins s σ H _ us Q I r ⟨a,ys,rfl,.inl k,λl az=>hw _ G _ (Ext.own af az λ_ z=>nomatch z) ⟨l,ys,rfl,dC,az,af.free az,q⟩⟩
 |_=>exact hw.elim
def Pd:g5 X (.type "tuple") (kV X.K .val λd=>Den.en d>>=λds=>.ok (.tup ds)):=by
 intro pins s σ H xs us Q I r ⟨G,x,d,ex,af,cg,hw⟩;subst ex;cases d with
 |tup ds =>
  obtain⟨a,ys,rfl,k,q⟩:=nH af cg;exact Dt pins s σ H _ us Q I r ⟨a,ys,rfl,.inr ⟨k,hw _ G H (Ext.refl af) cg⟩⟩
 |lst ds =>
  obtain⟨a,ys,rfl,k,q⟩:=md cg;exact Dt pins s σ H _ us Q I r ⟨a,ys,rfl,.inl ⟨k,λl az=>hw _ (upd G l (.tup ys)) _ (Ext.put af az) ⟨l,ys,rfl,dC,q.mono (f5 (af.free az))⟩⟩⟩
 |_=>exact hw.elim
end
def VK{σ:dk}(I:Inv X pins σ H s)(h:(∃ys,gO H a (.dS ys))\/∃ys,gO H a (.di ys)):∃o,s.heap.get? a=some o/\o.cls=.type "dict":=by
 rcases h with⟨ys,h|⟨bb,h⟩⟩|⟨ys,h|⟨bb,h⟩⟩
 .obtain⟨_,_,_,_,o,_,_,e,x,_⟩:=(show d1 X.prog X.w H s.heap a (.dS ys) from I.bx a _ h);exact⟨o,e,x.1⟩
 .obtain⟨_,_,_,_,_,o,_,_,e,x,_⟩:=(show d1 X.prog X.w H s.heap a (.du bb (.dS ys)) from I.bx a _ h);exact⟨o,e,x.1⟩
 .obtain⟨_,_,_,_,o,_,_,e,x,_⟩:=(show d1 X.prog X.w H s.heap a (.di ys) from I.bx a _ h);exact⟨o,e,x.1⟩
 .obtain⟨_,_,_,_,_,o,_,_,e,x,_⟩:=(show d1 X.prog X.w H s.heap a (.du bb (.di ys)) from I.bx a _ h);exact⟨o,e,x.1⟩
section
variable{xp:dx}{X:a4}{mu:List Nat}{m:fo}{f bl dz fc:bw->cq D}{bB:bw->cq (List D)}{a b c e:Expr}{aj:List Expr}{pos:Pos}{pins:List (Addr×Obj)}{σ:dk}{G H:aD}{s:Shared}
end
noncomputable def jx(P:Program)(w:World)(xp:dx):jw:=λouter H s E e s' =>
 ∃(c:Nat)(aq:aD)(l:List Addr),s'.os=s.os/\AllBare s'.gens/\fi (gg outer) [] H aq s.heap s'.heap/\ea P w aq s'.heap/\bA H aq/\(∀a∈l,s.heap.get? a=none/\aq a=none)/\xp c e l s'.heap/\E (.int c 0) none aq
noncomputable def oY(K:W.Frag)(cS:List D->cq D)(n:Nat):mw:=λah H Q E =>
 ah.length=n/\∃G ds,bA G H/\(∀b xs,H b=some (.tup xs)->G b=some (.tup xs))/\bz K G ds ah/\cy (cS ds) (λd=>∀v aM aq,Ext G H aM aq->Rep K aM d v->Q v aq) (λc=>∀aq,bA H aq->E (.int c 0) none aq)
section
variable{xp:dx}{X:a4}{mu:List Nat}{m:fo}{f bl dz fc:bw->cq D}{bB:bw->cq (List D)}{a b c e:Expr}{aj:List Expr}{pos:Pos}{pins:List (Addr×Obj)}{σ:dk}{G H:aD}{s:Shared}
noncomputable def D7(xp:dx)(X:a4):i2:=λu _ aq=>∀c:Nat,u=.int c 0->eK xp X c aq
def Uu:Passes (jx X.prog X.w xp) X (D7 xp X):=by
 intro pins σ H s e s' I ⟨c,aq,l,os,bare,un,bx,bY,aC,ak,mW⟩;have eb:Inv X pins σ aq s':=I.Dp os un bx bare (λb z=>absurd z (by simp));exact mW c rfl pins σ aq s' e l eb (bA.refl _) (λa aw=>.of I (aC a aw).1 (aC a aw).2) ak
end
section
variable{prog:Program}{w:World}{A:Around}{R:Result->Shared->Prop}{s:Shared}
def Mr{elt target iter:Expr}{ifs:List Expr}{scope:Scope}{pos:Pos}{it acc:Value}{env:Env}(I:Nat->Shared->Prop)(turn:∀n s,I n s->wpAny (model prog w) A (pyNext it) (λr cO=>match r with
   |none=>R (.ok .next) cO
   |some v=>wpAny (model prog w) A (letOwnedTupleGo target it v) (λ_ Ji=>wpAny (model prog w) A (assign target env v) (λ_ gr =>
     wpAny (model prog w) A (forIn ifs true λc r=>if r=true then do let ok <- isTrue c env (eval c env);pure (ForInStep.yield ok) else pure (ForInStep.yield r)) (λok qL =>
      if ok=true then wpAny (model prog w) A (eval elt env) (λx Jj =>
       wpAny (model prog w) A (call (.builtin "list.append") [acc,x]) (λ_ Jk=>∃m,m<n/\I m Jk) (λ_ _=>False) Jj) (λ_ _=>False) qL
      else ∃m,m<n/\I m qL) (λ_ _=>False) gr) (λ_ _=>False) Ji) (λ_ _=>False) cO) (λ_ _=>False) s)(n:Nat)(h:I n s):
  codeAny (model prog w) A (.compLoop (.ListComp elt [⟨target,iter,ifs,0⟩] scope pos) 0 it acc env) R s:=by
 have up:∀{α:Type}{t:Sem α}{Q:α->Shared->Prop}{E:Value->Shared->Prop}{s:Shared},wpAny (model prog w) A t Q (λ_ _=>False) s->wpAny (model prog w) A t Q E s:=λh=>abR h (λ_ _ q=>q) λ_ _ z=>z.elim
 refine codeAny_loop rfl I (λn s b3=>?_) n h;show wpAny _ A ((compTurn (.ListComp elt [⟨target,iter,ifs,0⟩] scope pos) 0 it acc env).onRaise (λx=>do noteFrame x env;theTreesLotGoes x)) _ _ s;refine wpAny_noted ?_;rw[compTurn_list];refine aa2 (wpAny_standAt (aa2 (abR (turn n s b3) (λr cO hE=>?_) λ_ _ z=>z.elim)));cases r with
 |none=>exact aa4 hE
 |some v =>
  refine aa2 (abR hE (λ_ Ji RC=>?_) λ_ _ z=>z.elim);refine aa2 (abR RC (λ_ gr sE=>aa2 (abR sE (λok qL vw=>?_) λ_ _ z=>z.elim)) λ_ _ z=>z.elim);cases ok with
  |false=>exact aa4 ⟨rfl,vw⟩
  |true =>
   refine aa2 (aa2 (abR vw (λx Jj RD=>aa2 (abR RD (λ_ Jk RE=>?_) λ_ _ z=>z.elim)) λ_ _ z=>z.elim));exact aa4 (aa4 ⟨rfl,RE⟩)
end
noncomputable def gy(env:Env):List (Str×NameKind)->List (Str×Addr)->List (Str×Addr)
 |[],cs=>cs
 |(n,k)::r,cs=>if k==.free then gy env r ((n,(env.cells.lookup n).getD 0)::cs) else gy env r cs
def Ma(h:∀x∈scope.names,x.2=.free->∃c,env.cells.lookup x.1=some c):closureFor scope env=pure (gy env scope.names []):=by
 have key:∀(l:List (Str×NameKind))(cs:List (Str×Addr)),(∀x∈l,x.2=.free->∃c,env.cells.lookup x.1=some c) ->
   (forIn l cs λ(x:Str×NameKind)(r:List (Str×Addr))=>(match x with
    |(name,kind)=>if (kind==NameKind.free)=true then do let a <- cellOf env name;pure (ForInStep.yield ((name,a)::r)) else pure (ForInStep.yield r):Sem (ForInStep (List (Str×Addr)))))=(pure (gy env l cs):Sem _):=by
  intro l
  induction l with
  |nil=>intro cs _;rfl
  |cons x l aG =>
   intro cs ak;obtain⟨n,k⟩:=x;simp only[List.forIn_cons,gy];cases q:(k==NameKind.free) with
   |false =>
    simp only[aa6,abp,pure_bind];exact aG cs λy aP=>ak y (List.mem_cons_of_mem _ aP)
   |true =>
    have ax:k=.free:=(by simpa using q);obtain⟨c,e⟩:=ak (n,k) List.mem_cons_self ax;simp only at e;simp only[abU,cellOf,e,pure_bind,Option.getD_some];exact aG _ λy aP=>ak y (List.mem_cons_of_mem _ aP)
 unfold closureFor;have:=key scope.names [] h;simp only[bind_pure];exact this
theorem yG:∀(l:List (Str×NameKind))(cs:List (Str×Addr)),(gy env l cs).lookup x=some c->cs.lookup x=some c\/(∃y∈l,y.1=x/\y.2=.free/\c=(env.cells.lookup x).getD 0)
 |[],cs,h=>.inl h
 |(n,k)::r,cs,h=>by
  unfold gy at h;cases q:(k==NameKind.free) with
  |false =>
   rw[q]at h;rcases yG r cs h with J|⟨y,aP,J⟩
   .exact .inl J
   .exact .inr ⟨y,List.mem_cons_of_mem _ aP,J⟩
  |true =>
   rw[q]at h;have ax:k=.free:=(by simpa using q);rcases yG r _ h with J|⟨y,aP,J⟩
   .rw[abF]at J;cases z:(x==n) with
    |false=>rw[z]at J;exact .inl J
    |true =>
     rw[z]at J;have e:x=n:=(by simpa using z);subst e;exact .inr ⟨(x,k),List.mem_cons_self,rfl,ax,(abC J).symm⟩
   .exact .inr ⟨y,List.mem_cons_of_mem _ aP,J⟩
theorem yF:∀(l:List (Str×NameKind))(cs:List (Str×Addr)),((∃y∈l,y.1=x/\y.2=.free)\/(cs.lookup x).isSome=true)->((gy env l cs).lookup x).isSome=true
 |[],cs,h=>by
  rcases h with⟨y,aP,_⟩|h
  .simp at aP
  .exact h
 |(n,k)::r,cs,h=>by
  unfold gy;cases q:(k==NameKind.free) with
  |false =>
   refine yF r cs ?_;rcases h with⟨y,aP,J,aa⟩|h
   .rcases aa8.mp aP with e|aP
    .subst e;simp only at aa;rw[aa]at q;cases q
    .exact .inl ⟨y,aP,J,aa⟩
   .exact .inr h
  |true =>
   refine yF r _ ?_;rcases h with⟨y,aP,J,aa⟩|h
   .rcases aa8.mp aP with e|aP
    .subst e;simp only at J;subst J;exact .inr (by simp)
    .exact .inl ⟨y,aP,J,aa⟩
   .refine .inr ?_;rw[abF];cases z:(x==n)
    .exact h
    .rfl
theorem m6{env:Env}{x:Str}:∀{names:List (Str×NameKind)}{k:NameKind},(names.map λ(n,k)=>if (k==NameKind.free&&env.scope.kind==.function&&env.kindOf n==some .cell) then(n,NameKind.cell) else(n,k)).lookup x=some k ->
  names.lookup x=some k\/(names.lookup x=some .free/\k=.cell)
 |[],_,h=>by simp at h
 |(n,j)::r,k,h=>by
  have h:List.lookup x ((if (j==NameKind.free&&env.scope.kind==.function&&env.kindOf n==some .cell)=true then(n,NameKind.cell) else(n,j))::(r.map λ(n,k)=>if (k==NameKind.free&&env.scope.kind==.function&&env.kindOf n==some .cell) then(n,NameKind.cell) else(n,k)))=some k:=h;rw[abF];cases ak:x==n with
  |true =>
   by_cases ag:(j==NameKind.free&&env.scope.kind==.function&&env.kindOf n==some .cell)=true
   .rw[if_pos ag,abF]at h;simp only[ak]at h;have aI:j=.free:=(by simp only[aa3,abx]at ag;exact ag.1.1);exact .inr ⟨by rw[aI],(abC h).symm⟩
   .rw[if_neg ag,abF]at h;simp only[ak]at h;exact .inl h
  |false =>
   by_cases ag:(j==NameKind.free&&env.scope.kind==.function&&env.kindOf n==some .cell)=true
   .rw[if_pos ag,abF]at h;simp only[ak]at h;exact m6 h
   .rw[if_neg ag,abF]at h;simp only[ak]at h;exact m6 h
theorem wb{env:Env}{x:Str}{k:NameKind}:∀{names:List (Str×NameKind)},names.lookup x=some k->k≠.free->(names.map λ(n,k)=>if (k==NameKind.free&&env.scope.kind==.function&&env.kindOf n==some .cell) then(n,NameKind.cell) else(n,k)).lookup x=some k
 |[],h,_=>by simp at h
 |(n,j)::r,h,ax=>by
  show List.lookup x ((if (j==NameKind.free&&env.scope.kind==.function&&env.kindOf n==some .cell)=true then(n,NameKind.cell) else(n,j))::_)=_;rw[abF]at h;cases ak:x==n with
  |true =>
   simp only[ak]at h;have aI:j=k:=abC h;subst aI;have ag:¬(j==NameKind.free&&env.scope.kind==.function&&env.kindOf n==some .cell)=true:=by
    intro z;simp only[aa3,abx]at z;exact ax z.1.1
   rw[if_neg ag,abF];simp only[ak]
  |false =>
   simp only[ak]at h;have aG:=wb (env:=env) h ax
   by_cases ag:(j==NameKind.free&&env.scope.kind==.function&&env.kindOf n==some .cell)=true
   .rw[if_pos ag,abF];simp only[ak];exact aG
   .rw[if_neg ag,abF];simp only[ak];exact aG
theorem Bw{env:Env}{x:Str}:∀{names:List (Str×NameKind)},names.lookup x=some .free->(names.map λ(n,k)=>if (k==NameKind.free&&env.scope.kind==.function&&env.kindOf n==some .cell) then(n,NameKind.cell) else(n,k)).lookup x=some .cell\/(names.map λ(n,k)=>if (k==NameKind.free&&env.scope.kind==.function&&env.kindOf n==some .cell) then(n,NameKind.cell) else(n,k)).lookup x=some .free
 |[],h=>by simp at h
 |(n,j)::r,h=>by
  show List.lookup x ((if (j==NameKind.free&&env.scope.kind==.function&&env.kindOf n==some .cell)=true then(n,NameKind.cell) else(n,j))::_)=_\/List.lookup x ((if (j==NameKind.free&&env.scope.kind==.function&&env.kindOf n==some .cell)=true then(n,NameKind.cell) else(n,j))::_)=_;rw[abF]at h;cases ak:x==n with
  |true =>
   simp only[ak]at h
   by_cases ag:(j==NameKind.free&&env.scope.kind==.function&&env.kindOf n==some .cell)=true
   .rw[if_pos ag,abF];simp[ak]
   .rw[if_neg ag,abF];simp only[ak];exact .inr h
  |false =>
   simp only[ak]at h;have aG:=Bw (env:=env) h
   by_cases ag:(j==NameKind.free&&env.scope.kind==.function&&env.kindOf n==some .cell)=true
   .rw[if_pos ag,abF];simp only[ak];exact aG
   .rw[if_neg ag,abF];simp only[ak];exact aG
noncomputable def n2(X:a4)(L2:Env)(dP:List Str)(s3:Shared)(bt:aD)(bH:List Addr)(pins:List (Addr×Obj)):a4 :=
 { X with N:=dP,eQ:=s3,q6:=bt,env:=L2,outer:=X.stack,ex:=bH,fn:=λ_=>false,cp:=X.cp++pins,cb:=λ_ _=>False }
structure pb(X:a4)(scope:Scope)(xs:List Str)(dP:List Str):Prop where
 kind:scope.kind=.function
 ng:∀y∈scope.names,y.2≠.cell
 names:∀y∈scope.names,y.2=.local->scope.names.lookup y.1=some .local
 loc:∀y,scope.names.lookup y=some .local->y∈xs\/y=(".0":Str)
 fm:∀y∈xs,scope.names.lookup y=some .local
 fr:∀y∈scope.names,y.2=.free->X.env.scope.names.lookup y.1=some .cell\/X.env.scope.names.lookup y.1=some .free
 len:dP.length=X.N.length+xs.length
 old:∀(i:Nat) y,i<X.N.length->dP[i]?=some y->(scope.names.lookup y).isSome=true->X.N[i]?=some y/\y∉xs/\y≠(".0":Str)
 new:∀(j:Nat),dP[X.N.length+j]?=xs[j]?
 d5:dP.Nodup
section
def LG{pins:List (Addr×Obj)}{σ:dk}{s:Shared}{scope:Scope}{hE:Heap}(I:Inv X pins σ H s)(hf:∀b∈bH,j8 X pins H b)(ay:∀b∈bH,∃o,s.heap.get? b=some o)(B:pb X scope xs dP)(pW:hE.Ns s.heap.objs.size (λ_=>none))(ax:∀b o,s.heap.get? b=some o->hE.get? b=some o):
  Inv (n2 X (compEnvC scope (gy X.env scope.names []) s.heap.objs.size X.env) dP s H bH pins) [] (σ++List.replicate xs.length none) H { s with heap:=hE,toks:=tk }:=by
 have look:∀y c,(gy X.env scope.names []).lookup y=some c->X.env.cells.lookup y=some c:=λy c e=>by
  rcases yG _ _ e with h|⟨z,hz,e1,ar,bf⟩
  .simp at h
  .have:=B.fr z hz ar;rw[e1]at this;obtain⟨c3,cI⟩:=I.ok.has y (by rcases this with q|q;exact .inl q;exact .inr q);rw[cI]at bf;simp at bf;rw[cI,bf]
 have has:∀y,scope.names.lookup y=some .free->∃c,(gy X.env scope.names []).lookup y=some c:=λy e =>
  Option.isSome_iff_exists.mp (yF _ _ (.inl ⟨(y,.free),abO e,rfl,rfl⟩))
 have ZW:∀y c,X.env.cells.lookup y=some c->c<s.heap.objs.size:=λy c e=>by
  obtain⟨v,q⟩:=I.cell y c e;exact q.lt
 have Ha:∀b,b<s.heap.objs.size->b≠s.heap.objs.size:=λb ae=>abm ae
 refine⟨⟨I.ok.mod,B.kind,I.ok.glob,I.ok.blt,aa9 _,λy z c e1 ar=>I.ok.inj y z c (look y c e1) (look z c ar),λy aP=>?_,λy c q _=>Bool.noConfusion q,I.ok.hd,I.ok.frames,.inl rfl,λb ae=>?_,I.bs,abX I.ok.n4 I.gJ,λb o e ae=>?_,λb ae sa=>?_,I.stack,I.B1⟩,
  rfl,I.bare,fi.kept ax,⟨_,pW,λi y v e1 ar bf=>?_⟩,λy c e=>?_,I.fresh,λy c e=>I.hC y c (look y c e),λp aB=>?_,I.bx.kept ax,?_⟩
 .-- has
  have aP:(relabel scope X.env).names.lookup y=some .cell\/(relabel scope X.env).names.lookup y=some .free:=aP;have:scope.names.lookup y=some .free:=by
   rcases aP with q|q
   .rcases m6 q with z|z
    .exact absurd rfl (B.ng _ (abO z))
    .exact z.1
   .rcases m6 q with z|z
    .exact z
    .exact z.1
  exact has y this
 .-- uW
  obtain⟨f0,f1,f2,ew,f4,ey⟩:=hf b ae;obtain⟨o,ay⟩:=ay b ae;exact⟨Ha b (abc ay),λy c e=>f4 y c (look y c e)⟩
 .-- qr
  obtain⟨f0,f1,f2,ew,f4,ey⟩:=hf b ae;rcases ew with q|q
  .exact I.ok.qr b o e q
  .have:=abc (I.ok.bs b o e).1;exact absurd (abl this q) (aco _)
 .-- od
  obtain⟨f0,f1,f2,ew,f4,ey⟩:=hf b ae;rcases aa8.mp (I.o2 b sa) with q|q
  .exact f1 q
  .exact f2 q
 .-- YR names
  have ai:i<σ.length:=by
   by_cases ai:i<σ.length
   .exact ai
   .rw[abH ⋯,acY]at ar
    split at ar<;>cases ar
  rw[abi ai]at ar;have Qq:i<X.N.length:=(by rw[<- I.len];exact ai);have bf:fj (relabel scope X.env) y:=bf;have Rk:(scope.names.lookup y).isSome=true:=by
   rcases bf with q|q|q
   all_goals
    rcases m6 q with z|z
    .rw[z];rfl
    .rw[z.1];rfl
  obtain⟨NR,ak,h0⟩:=B.old i y Qq e1 Rk;have mZ:scope.names.lookup y=some .free:=by
   rcases bf with q|q|q
   .rcases m6 q with z|z
    .rcases B.loc y z with w|w
     .exact absurd w ak
     .exact absurd w h0
    .exact z.1
   .rcases m6 q with z|z
    .exact absurd rfl (B.ng _ (abO z))
    .exact z.1
   .rcases m6 q with z|z
    .exact z
    .exact z.1
  have aF:=B.fr (y,.free) (abO mZ) rfl;obtain⟨m,aC,az⟩:=I.loc;obtain⟨u,r,l⟩:=az i y v NR ar (by rcases aF with q|q;exact .inr (.inl q);exact .inr (.inr q));refine⟨u,r,.inr ⟨?_,?_⟩⟩
  .exact Bw mZ
  .rcases l with⟨k,_⟩|⟨_,c,jJ,z⟩
   .exfalso;have k:X.env.scope.names.lookup y=some .local:=k;simp only at aF;rcases aF with q|q<;>rw[k]at q<;>cases q
   .obtain⟨c3,cI⟩:=has y mZ;have e:c3=c:=(by have:=look y c3 cI;rw[jJ]at this;exact(abC this).symm);subst e;obtain⟨o,J,aa⟩:=z;exact⟨c3,cI,o,ax _ _ J,aa⟩
 .-- cells
  obtain⟨v,o,J,aa⟩:=I.cell y c (look y c e);exact⟨v,o,ax _ _ J,aa⟩
 .-- pins
  have aB:p∈X.cp++pins:=(by simpa[n2] using aB);obtain⟨e,n,ne,iS,d⟩:=I.pin p aB;refine⟨ax _ _ e,n,Ha _ (abc e),λae=>?_,d⟩;rcases aa8.mp (I.o2 p.1 ae) with q|q
  .exact ne q
  .exact iS q
 .show _=dP.length;rw[aa7,adf,B.len,I.len]
end
noncomputable def nB:List Nat->List V->dk->dk
 |i::is,v::ah,σ=>nB is ah (σ.set i (some v))
 |_,_,σ=>σ
noncomputable def zu:List Nat->my
 |[]=>EV
 |i::is=>ET (zt i) (zu is)
theorem EU:∀(ts:List Nat)(ah:List V)(σ:dk)(H:aD)(Q:dk->aD->Prop),ah.length=ts.length->Q (nB ts ah σ) H->zu ts ah σ H Q
 |[],[],σ,H,Q,_,q=>⟨rfl,q⟩
 |[],_::_,_,_,_,h,_=>by simp at h
 |_::_,[],_,_,_,h,_=>by simp at h
 |i::is,v::ah,σ,H,Q,h,q=>⟨v,ah,rfl,EU is ah _ H Q (by simpa using h) q⟩
noncomputable def zr(K:W.Frag)(k:Nat)(ts:List Nat):lq:=λv σ H Q=>∃G d,bA G H/\Rep K G d v/\cy (Den.gx k d) (λos=>∀(ws:List D)(ah:List V),os=ws.map some->bz K G ws ah->Q (nB ts ah σ) H) (λ_=>False)
section
theorem HC(aL:X.N.Nodup):∀(ts:List Nat)(ys:List Str)(aj:List Expr),Den.namesOf aj=some ys->ts.length=ys.length->(∀(j i:Nat) y,ts[j]?=some i->ys[j]?=some y->X.N[i]?=some y/\Loc X.env.scope y/\(X.fn y=true\/X.env.scope.names.lookup y=some .local)) ->
  rb X aj (zu ts)/\(assignEach aj X.env).length=ts.length/\(assignEach aj X.env).findIdx? (·.1)=none
 |ts,ys,[],h,az,_=>by
  simp only[Den.namesOf,abV]at h;subst h;have:ts=[]:=(by simpa using az);subst this;exact⟨UY,rfl,rfl⟩
 |ts,ys,e::aj,h,az,ak=>by
  simp only[Den.namesOf]at h;cases e with
  |Name x p =>
   cases q:Den.namesOf aj with
   |none=>simp only[Den.nameOf,q]at h;cases h
   |some zs =>
    simp only[Den.nameOf,q,abV]at h;subst h;cases ts with
    |nil=>simp at az
    |cons i is =>
     obtain⟨a,b,c⟩:=ak 0 i x rfl rfl;obtain⟨J,aa,aE⟩:=HC aL is zs aj q (by simpa using az) λj i y e1 ar=>ak (j+1) i y (by simpa using e1) (by simpa using ar)
     refine⟨UX (HA aL a b c) J rfl,?_,?_⟩
     .show(assignEach aj X.env).length+1=is.length+1;rw[aa]
     .show((false,assign (.Name x p) X.env)::assignEach aj X.env).findIdx? (·.1)=none;rw[List.findIdx?_cons];simp only[aa6,abp];rw[aE];rfl
  |_=>simp only[Den.nameOf]at h;cases h
def HB(ag:X.calm=true)(aL:X.N.Nodup)(aA:Den.fm k target=some ys)(az:ts.length=ys.length)(ak:∀(j i:Nat) y,ts[j]?=some i->ys[j]?=some y->X.N[i]?=some y/\Loc X.env.scope y/\(X.fn y=true\/X.env.scope.names.lookup y=some .local)):nS X target (zr X.K k ts):=by
 cases k with
 |zero =>
  cases target with
  |Name x p =>
   simp only[Den.fm,abV]at aA;subst aA;obtain⟨i,rfl⟩:∃i,ts=[i]:=by
    match ts,az with
    |[i],_=>exact⟨i,rfl⟩
   obtain⟨a,b,c⟩:=ak 0 i x rfl rfl;intro pins s σ H v u Q I r ⟨G,d,af,cZ,hw⟩;refine HA aL a b c pins s σ H v u Q I r ?_;exact hw [d] [v] rfl ⟨v,[],rfl,cZ,rfl⟩
  |_=>simp only[Den.fm]at aA;cases aA
 |succ k =>
  cases target with
  |Tuple aj j p =>
   simp only[Den.fm]at aA;cases q:Den.namesOf aj with
   |none=>rw[q]at aA;cases aA
   |some zs =>
    rw[q]at aA;simp only at aA
    by_cases hz:zs.length=k+1
    .rw[if_pos hz]at aA;simp only[abV]at aA;subst aA;obtain⟨J,aa,aE⟩:=HC aL ts zs aj q az ak;intro pins s σ H v u Q I r ⟨G,d,af,cZ,hw⟩;refine UW (n:=ts.length) ag J aa aE pins s σ H v u Q I r ?_;cases d with
     |tup ds =>
      obtain⟨a,xs,e,hY,Ik⟩:=cZ;have ae:Den.gx (k+1) (.tup ds)=if ds.length=k+1 then .ok (ds.map some) else .bad:=rfl;rw[ae]at hw
      by_cases hd:ds.length=k+1
      .rw[if_pos hd]at hw;have FC:xs.length=ts.length:=(by rw[<- Ik.length,hd,az,hz]);exact⟨a,xs,e,iz af hY,FC,EU ts xs σ H Q FC (hw ds xs rfl Ik)⟩
      .rw[if_neg hd]at hw;exact hw.elim
     |_=>exact hw.elim
    .rw[if_neg hz]at aA;cases aA
  |_=>simp only[Den.fm]at aA;cases aA
end
structure nQ(K:W.Frag)(P:aD->aD->Prop)(dG:jz)(ds:List D):Prop where
 go:∀(i:Nat) aJ H1,P aJ H1->i<ds.length->dG.go i H1
 lg:∀(i:Nat) aJ H1 x aU d,P aJ H1->bA aJ H1->ds[i]?=some d->dG.lg i H1 x aU->∃cD,Ext aJ H1 cD aU/\Rep K cD d x
 stop:∀aJ H1,P aJ H1->dG.stop ds.length H1
noncomputable def rd(m:fo)(G H:aD):aD->aD->Prop:=λaJ H1=>bA G aJ/\(match m with|.view=>bA H H1|_=>bA aJ H1)
noncomputable def k4(xp:dx)(X:a4)(mu:List Nat)(m:fo)(f:bw->cq (List D)):TI:=λσ H R =>
 ∃G ρ,er X.K mu G H ρ σ/\cy (f ρ) (λds=>∀dG aM aq,Ext G H aM aq->nQ X.K (rd m aM aq) dG ds->ds.length<=16777216->R dG aq) (λc=>eK xp X c H)
def vO{α:Type}{r:cq α}{Q:α->Prop}(h:cy (Den.lZ r) Q E):∃a,r=.ok a/\Q a:=by
 cases r with
 |ok a=>exact⟨a,rfl,h⟩
 |exc c=>exact h.elim
 |bad=>exact h.elim
def er.more{K:W.Frag}(h:er K mu G H ρ σ)(hW:∀i∈mu,i<ρ.length)(r:bz K G ws ah):er K mu G H (ρ++ws.map some) (σ++ah.map some) where
 len:=by rw[aa7,aa7,h.len,List.length_map,List.length_map,r.length]
 sub:=h.sub
 val:=λi d e hm=>by
  by_cases ai:i<ρ.length
  .rw[abi ai]at e;obtain⟨v,a,b⟩:=h.val i d e hm;exact⟨v,by rw[abi (by rw[<- h.len];exact ai)];exact a,b⟩
  .rw[abH ⋯,abj]at e;cases q:ws[i-ρ.length]? with
   |none=>rw[q]at e;cases e
   |some w =>
    rw[q]at e;simp only[Option.map_some,abV]at e;subst e;obtain⟨v,a,b⟩:=r.get q;exact⟨v,by rw[abH (by rw[<- h.len];lia),abj,<- h.len,a];rfl,b⟩
 own:=λi d e hm az=>by
  have ai:=hW i hm;rw[abi ai]at e;obtain⟨v,a,b⟩:=h.own i d e hm az;exact⟨v,by rw[abi (by rw[<- h.len];exact ai)];exact a,b⟩
 lst:=λi d e hm az=>by
  have ai:=hW i hm;rw[abi ai]at e;obtain⟨a,o,J,aa⟩:=h.lst i d e hm az;exact⟨a,o,by rw[abi (by rw[<- h.len];exact ai)];exact J,aa⟩
 dB:=h.dB
 apart:=λi j ds aj a b e1 ar bZ b7 ai aI ne J aa=>by
  have ft:=hW i ai;have z3:=hW j aI;rw[abi ft]at e1;rw[abi z3]at ar;rw[abi (by rw[<- h.len];exact ft)]at J;rw[abi (by rw[<- h.len];exact z3)]at aa;exact h.apart i j ds aj a b e1 ar bZ b7 ai aI ne J aa
theorem IP:∀(ah:List V)(σ:dk)(gw:dk)(n:Nat),n=σ.length->gw.length=ah.length->nB (List.range' n ah.length) ah (σ++gw)=σ++ah.map some
 |[],σ,gw,n,aC,aA=>by
  have:gw=[]:=(by simpa using aA);subst this;rfl
 |v::ah,σ,gw,n,aC,aA=>by
  cases gw with
  |nil=>simp at aA
  |cons t gw =>
   rw[List.length_cons,List.range'_succ,nB];have e:(σ++t::gw).set n (some v)=(σ++[some v])++gw:=by
    rw[List.set_append_right _ _ ⋯,aC];simp
   rw[e,IP ah (σ++[some v]) gw (n+1) (by simp[aC]) (by simpa using aA)];simp
section
noncomputable def i7(k:Nat)(fc:bw->cq Bool)(fV:bw->cq D)(ρ:bw)(d:D):cq (Option D):=Den.gx k d>>=λah=>fc (ρ++ah)>>=λb=>if b then fV (ρ++ah)>>=λy=>.ok (some y) else .ok none
noncomputable def g4(X:a4)(scope:Scope)(dP:List Str)(s3:Shared)(bt:aD)(bH:List Addr)(pins:List (Addr×Obj)):a4:=n2 X (compEnvC scope (gy X.env scope.names []) s3.heap.objs.size X.env) dP s3 bt bH pins
def Lz{d:D}{os:List (Option D)}(h:Den.gx k d=.ok os):∃ws:List D,os=ws.map some:=by
 cases k with
 |zero=>cases h;exact⟨[d],rfl⟩
 |succ k =>
  cases d with
  |tup ds =>
   have ae:Den.gx (k+1) (.tup ds)=if ds.length=k+1 then .ok (ds.map some) else .bad:=rfl;rw[ae]at h
   by_cases hd:ds.length=k+1
   .rw[if_pos hd]at h;cases h;exact⟨ds,rfl⟩
   .rw[if_neg hd]at h;cases h
  |_=>cases h
end
section
variable{xp:dx}{X:a4}{mu:List Nat}{mS:bw->cq (List D)}{fV:bw->cq D}{fc:bw->cq Bool}{elt target iter:Expr}{ifs:List Expr}{scope:Scope}{pos:Pos}{xs dP:List Str}{k:Nat}
def rh(xp:dx)(X:a4)(mu:List Nat)(scope:Scope)(dP:List Str)(ifs:List Expr)(fc:bw->cq Bool):Prop :=
 (ifs=[]/\fc=λ_=>.ok true)\/∃(c:Expr)(uZ:bw->cq D),ifs=[c]/\(fc=λρ=>uZ ρ>>=Den.ei)/\∀s3 bt bH pins,eU (g4 X scope dP s3 bt bH pins) c (gs xp (g4 X scope dP s3 bt bH pins) mu uZ)
def YP(aA:rh xp X mu scope dP ifs fc){σ:dk}(I:Inv (g4 X scope dP s3 bt bH pp) pins σ H s)(af:er X.K mu G H ρ σ)(ae:fc ρ=.ok b)(aN:∀s' aM aq,Inv (g4 X scope dP s3 bt bH pp) pins σ aq s'->Ext G H aM aq->Q b s'):
  wpAny (model X.prog X.w) X.A (forIn ifs true λc r=>if r=true then do let ok <- isTrue c (g4 X scope dP s3 bt bH pp).env (eval c (g4 X scope dP s3 bt bH pp).env);pure (ForInStep.yield ok) else pure (ForInStep.yield r)) Q (λ_ _=>False) s:=by
 rcases aA with⟨rfl,rfl⟩|⟨c,uZ,rfl,rfl,h⟩
 .cases ae;exact wpAny_tests_nil (aN s G H I (Ext.refl af.sub))
 .refine wpAny_tests_one (abR (h s3 bt bH pp pins s σ H (λfT aq=>fT=b/\∃aM,Ext G H aM aq) I ⟨G,ρ,af,?_⟩) (λfT s' ⟨aq,eb,e,aM,x⟩=>?_) λ_ _ z=>z)
  .have ae:(uZ ρ>>=Den.ei)=.ok b:=ae;rw[ae];exact λaM aq x=>⟨rfl,aM,x⟩
  .subst e;exact aN s' aM aq eb x
def LA{d:D}{os:List (Option D)}(ax:Den.fm k target=some xs)(h:Den.gx k d=.ok os):os.length=xs.length:=by
 cases k with
 |zero =>
  cases h;cases target with
  |Name x p=>simp only[Den.fm,abV]at ax;subst ax;rfl
  |_=>simp only[Den.fm]at ax;cases ax
 |succ k =>
  have ak:xs.length=k+1:=by
   cases target with
   |Tuple aj j p =>
    simp only[Den.fm]at ax;cases q:Den.namesOf aj with
    |none=>rw[q]at ax;cases ax
    |some zs =>
     rw[q]at ax;simp only at ax
     by_cases hz:zs.length=k+1
     .rw[if_pos hz]at ax;cases ax;exact hz
     .rw[if_neg hz]at ax;cases ax
   |_=>simp only[Den.fm]at ax;cases ax
  cases d with
  |tup ds =>
   have ae:Den.gx (k+1) (.tup ds)=if ds.length=k+1 then .ok (ds.map some) else .bad:=rfl;rw[ae]at h
   by_cases hd:ds.length=k+1
   .rw[if_pos hd]at h;cases h;rw[List.length_map,hd,ak]
   .rw[if_neg hd]at h;cases h
  |_=>cases h
def S6{a b:List D}(h:a.map some=b.map some):a=b:=by
 induction a generalizing b with
 |nil=>cases b with|nil=>rfl|cons _ _=>simp at h
 |cons x a aG=>cases b with
  |nil=>simp at h
  |cons y b=>simp only[List.map_cons,List.cons.injEq,abV]at h;rw[h.1,aG h.2]
def CG(X:a4)(pins:List (Addr×Obj))(σ:dk)(G H:aD)(use:Option (Value->Sem Unit))(Qc:Value->Shared->Prop)(ys:List D):Prop :=
 ∀(s4:Shared)(aq aM:aD)(C dj:Addr)(oF:Str->Option Value),Ext G H aM aq->cT X.K H aM aq .fresh (.lst ys) (.ref dj)->s4.heap.Ns C oF->j8 X pins aq C->(∀h',Heap.SameBut C s4.heap h'->Inv X pins σ aq { s4 with heap:=h' }) ->
  compPost (model X.prog X.w) X.A X.cb use Qc (.ref dj) C (.ok .next) s4
structure Kq(X Y:a4)(f:D->cq (Option D))(gW:Nat->Heap->Prop)(bH:List Addr)(ds ys:List D)(xs:List Str)(σ:dk)(cD aU:aD)(dj:Addr)(n:Nat)(s':Shared)(i:Nat)(gw:dk)(aq aM:aD)(mf rest:List D)(hM:List V):Prop where
 J:n=ds.length-i
 aa:i<=ds.length
 aE:gw.length=xs.length
 aR:Inv Y [] (σ++gw) aq s'
 bX:gW i s'.heap
 ez:∀b∈bH,aq b=none
 gi:Ext cD aU aM aq
 c7:aq dj=some (.lst hM)
 kp:aM dj=none
 u9:bz X.K aM mf hM
 E1:mf.length<=i
 gh:Den.cV f (ds.drop i)=.ok rest
 Z4:ys=mf++rest
def NW{d:D}{r rest:List D}(h:Den.cV (i7 k fc fV ρ) (d::r)=.ok rest):∃(ws:List D)(b:Bool)(qz:List D),Den.gx k d=.ok (ws.map some)/\fc (ρ++ws.map some)=.ok b /\
  Den.cV (i7 k fc fV ρ) r=.ok qz/\((b=false/\rest=qz)\/∃y,b=true/\fV (ρ++ws.map some)=.ok y/\rest=y::qz):=by
 simp only[Den.cV]at h;cases aO:i7 k fc fV ρ d with
 |exc c=>rw[aO]at h;cases h
 |bad=>rw[aO]at h;cases h
 |ok o =>
 rw[aO]at h;simp only[Den.R.jn]at h;cases a9:Den.cV (i7 k fc fV ρ) r with
 |exc c=>rw[a9]at h;cases h
 |bad=>rw[a9]at h;cases h
 |ok qz =>
 rw[a9]at h;simp only[Den.R.jn]at h;unfold i7 at aO;cases bW:Den.gx k d with
 |exc c=>rw[bW]at aO;cases aO
 |bad=>rw[bW]at aO;cases aO
 |ok os =>
 rw[bW]at aO;simp only[Den.R.jn]at aO;obtain⟨ws,rfl⟩:=Lz bW;cases dn:fc (ρ++ws.map some) with
 |exc c=>rw[dn]at aO;cases aO
 |bad=>rw[dn]at aO;cases aO
 |ok b =>
 rw[dn]at aO;simp only[Den.R.jn]at aO;cases b with
 |false=>cases aO;cases h;exact⟨ws,false,_,rfl,dn,rfl,.inl ⟨rfl,rfl⟩⟩
 |true =>
  simp only[abU]at aO;cases hJ:fV (ρ++ws.map some) with
  |exc c=>rw[hJ]at aO;cases aO
  |bad=>rw[hJ]at aO;cases aO
  |ok y =>
  rw[hJ]at aO;cases aO;cases h;exact⟨ws,true,_,rfl,dn,rfl,.inr ⟨y,rfl,hJ,rfl⟩⟩
def DR (ag : X.calm = true) (hW : ∀ i ∈ mu, i < X.N.length) (B : pb X scope xs dP) (ax : Den.fm k target = some xs) (lO : ∀ x, foldedSetIterable iter X.env x = pure x)
    (ai : h9 X target iter (k4 xp X mu .view mS)) (he : ∀ s3 bt bH pins, aQ (g4 X scope dP s3 bt bH pins) elt (bE xp (g4 X scope dP s3 bt bH pins) mu .val fV)) (aA : rh xp X mu scope dP ifs fc)
    {σ : dk} (I : Inv X pins σ H s) (af : er X.K mu G H ρ σ)
    (hw : cy (mS ρ >>= fun ds => Den.lZ (Den.cV (i7 k fc fV ρ) ds)) (CG X pins σ G H use Qc) (fun c => eK xp X c H)) :
    wpAny (model X.prog X.w) X.A (comprehension (.ListComp elt [⟨target, iter, ifs, 0⟩] scope pos) scope X.env pos' (newList []) false (eval iter X.env) use) Qc X.cb s := by
  have Qe : closureFor scope X.env = pure (gy X.env scope.names []) := Ma fun x ak e => by
    have := B.fr x ak e
    exact I.ok.has x.1 (by rcases this with q | q; exact .inl q; exact .inr q)
  refine wpAny_comprehension_free (use := use) rfl lO Qe B.kind B.names ?_
  refine bR (ai pins s σ H (fun dG aq => ∃ aM ds ys, Ext G H aM aq /\ nQ X.K (rd .view aM aq) dG ds /\ ds.length <= 16777216 /\ Den.cV (i7 k fc fV ρ) ds = .ok ys /\ CG X pins σ G H use Qc ys) I
    ⟨G, ρ, af, cj (bJ.mp hw) (fun ds hY dG aM aq x lQ hz => ?_) fun _ q => q⟩) fun v s1 J => bR J fun Aw s2 aa => ?_
  · obtain ⟨ys, e, q⟩ := vO hY
    exact ⟨aM, ds, ys, x, lQ, hz, e, q⟩
  obtain ⟨it, bH, gW, dG, aU, rfl, ck, T, hl, f2, cD, ds, ys, cv, lQ, hz, Rz, fin⟩ := aa
  refine abE (wpAny_newFunctionEnv B.ng (by intro y aP; simp at aP) (fun hE Ab Al => ?_) B.kind)
  dsimp only at Ab Al ⊢
  have eA : Inv X pins σ (upd aU s2.heap.objs.size (.lst [])) { s2 with heap := s2.heap.push { cls := .type "list", data := .seq ([] : List Value).toArray } } := ck.Gz (t' := s2.toks) (ys := []) (its := []) .nil (abw _)
  generalize FK : ({ s2 with heap := s2.heap.push { cls := .type "list", data := .seq ([] : List Value).toArray } } : Shared) = s3 at eA
  have Fq : s3.heap = s2.heap.push { cls := .type "list", data := .seq ([] : List Value).toArray } := by rw [<- FK]
  rw [<- Fq] at Ab Al ⊢
  generalize E6 : s2.heap.objs.size = dj at *
  have r7 : aU dj = none := by rw [<- E6]; exact ck.fresh
  have Qm : ∀ b ∈ bH, b ≠ dj := fun b ae z => by
    obtain ⟨o, e, _⟩ := T.obj _ _ hl b ae
    have := abc e
    rw [z, <- E6] at this
    exact absurd this (aco _)
  have Fx : ∀ b o, s2.heap.get? b = some o -> s3.heap.get? b = some o := fun b o e => by rw [Fq]; exact aa5 _ e
  have c8 : ({ heap := hE, gens := s2.gens, drawn := s2.drawn, toks := s2.toks + ([] : List (Str × Value)).length, os := s2.os } : Shared) = { s3 with heap := hE, toks := s2.toks } := by rw [<- FK]; rfl
  rw [c8]
  show codeAny (model X.prog X.w) X.A (Code.compStart (elt.ListComp [{ target := target, iter := iter, ifs := ifs, is_async := 0 }] scope pos) 0 (Value.ref it) (Value.ref dj) (compEnvC scope (gy X.env scope.names []) s3.heap.objs.size X.env))
    (compPost (model X.prog X.w) X.A X.cb use Qc (Value.ref dj) s3.heap.objs.size) { s3 with heap := hE, toks := s2.toks }
  have pW : hE.Ns s3.heap.objs.size (fun _ => none) := by simpa using Ab
  have ja : ∀ b o, s3.heap.get? b = some o -> hE.get? b = some o := fun b o e => Al.extBut b o (abm (abc e)) (aa5 _ e)
  have vf : ∀ b ∈ bH, j8 X pins (upd aU dj (.lst [])) b := fun b ae => ⟨by rw [cR (Qm b ae)]; exact (f2 b ae).1, (f2 b ae).2⟩
  have QX : ∀ b ∈ bH, ∃ o, s3.heap.get? b = some o := fun b ae => by
    obtain ⟨o, e, _⟩ := T.obj _ _ hl b ae
    exact ⟨o, Fx b o e⟩
  have uf := LG (tk := s2.toks) eA vf QX B pW ja
  generalize gB : n2 X (compEnvC scope (gy X.env scope.names []) s3.heap.objs.size X.env) dP s3 (upd aU dj (.lst [])) bH pins = Y at uf
  have ZZ : Y = g4 X scope dP s3 (upd aU dj (.lst [])) bH pins := gB.symm
  have Jf : gW 0 hE := T.keep _ _ _ hl fun b ae o e => ja b o (Fx b o e)
  have wy : er X.K mu cD aU ρ σ := af.ext cv
  have QR : ∀ i ∈ mu, i < ρ.length := fun i ai => by rw [af.len, I.len]; exact hW i ai
  have aal : ∀ (i : Nat) (d : D), i ∈ mu -> gS d = true -> ρ[i]? = some (some d) -> σ[i]? ≠ some (some (V.ref dj)) := fun i d ai az e z => by
    obtain ⟨a, ah, J, aa, _⟩ := wy.lst i d e ai az
    rw [J] at z
    injection z with z
    injection z with z
    injection z with z
    rw [z, r7] at aa; cases aa
  have zm : ∀ {aq : aD}, (∀ b ∈ bH, aq b = none) -> ∀ b ∈ bH, j8 Y [] aq b := fun aC b ae => by
    obtain ⟨f0, f1, OT, ew, f4, ey⟩ := vf b ae
    obtain ⟨e1, ar⟩ := uf.ok.uW b (by rw [<- gB]; exact ae)
    refine ⟨aC b ae, e1, uf.ok.od b (by rw [<- gB]; exact ae), .inl (by rw [<- gB]; exact ae), ar, fun p aB => ?_⟩
    rw [<- gB] at aB
    exact ey p (by simpa [n2] using aB)
  have loop : codeAny (model X.prog X.w) X.A (.compLoop (.ListComp elt [⟨target, iter, ifs, 0⟩] scope pos) 0 (.ref it) (.ref dj) (compEnvC scope (gy X.env scope.names []) s3.heap.objs.size X.env))
      (compPost (model X.prog X.w) X.A X.cb use Qc (Value.ref dj) s3.heap.objs.size) { s3 with heap := hE, toks := s2.toks } := by
    refine Mr (fun n s' => ∃ (i : Nat) (gw : dk) (aq aM : aD) (mf rest : List D) (hM : List V), Kq X Y (i7 k fc fV ρ) gW bH ds ys xs σ cD aU dj n s' i gw aq aM mf rest hM) ?_ ds.length
      ⟨0, List.replicate xs.length none, _, cD, [], ys, [], by simp, abw _, by simp, uf, Jf, fun b ae => (vf b ae).1, Ext.own cv.sub r7 (fun _ z => nomatch z), dC, cv.sub.free r7, rfl, aa9 _, by simpa using Rz, rfl⟩
    rintro n s' ⟨i, gw, aq, aM, mf, rest, hM, rfl, Fu, RB, eb, bj, EN, nI, eN, E8, Bq, aag, kC, vv⟩
    have og : rd .view cD aU aM aq := ⟨nI.g, nI.h⟩
    have Fm : Y.calm = true := by rw [<- gB]; exact ag
    have zL : Y.prog = X.prog := by rw [<- gB]; rfl
    have zM : Y.w = X.w := by rw [<- gB]; rfl
    have Fl : Y.K = X.K := by rw [<- gB]; rfl
    have Fj : Y.A = X.A := by rw [<- gB]; rfl
    have Z5 : Y.cb = fun _ _ => False := by rw [<- gB]; rfl
    by_cases bV : i < ds.length
    · have hd : ds[i]? = some ds[i] := aba bV
      generalize ds[i] = d at hd
      have Qg : ds.drop i = d :: ds.drop (i + 1) := by
        have := abo.mp hd
        obtain ⟨J, aa⟩ := this
        rw [<- aa]; exact acK J
      rw [Qg] at kC
      have item := T.item Y zL zM Fl Fm i [] s' (σ ++ gw) aq (fun _ _ => False) eb (zm EN) bj (lQ.go i aM aq og bV)
      rw [Fj] at item
      refine bR item fun r s4 ⟨u, a3, aR⟩ => ?_
      subst a3
      refine bR aR fun _ s5 ⟨x, nN, mm, iw, CD, l9, zo⟩ => ?_
      obtain ⟨q4, tZ, cZ⟩ := lQ.lg i aM aq x nN d og nI.sub hd CD
      have xf := mm.pinned (zm zo) (T.obj _ _ l9)
      obtain ⟨ws, b, qz, bW, dn, a9, ae⟩ := NW kC
      have sA : ws.length = xs.length := by have := LA ax bW; simpa using this
      subst gB
      have aZ : nS (n2 X (compEnvC scope (gy X.env scope.names []) s3.heap.objs.size X.env) dP s3 (upd aU dj (.lst [])) bH pins) target (zr X.K k (List.range' X.N.length xs.length)) := by
        refine HB (X := n2 X (compEnvC scope (gy X.env scope.names []) s3.heap.objs.size X.env) dP s3 (upd aU dj (.lst [])) bH pins) ag B.d5 ax (by simp) fun j cJ y e1 ar => ?_
        rw [List.getElem?_range' (abo.mp ar).1] at e1
        have aP : y ∈ xs := aci ar
        have pV : (relabel scope X.env).names.lookup y = some .local := wb (B.fm y aP) ∅
        cases e1
        refine ⟨?_, .inl pV, .inr pV⟩
        show dP[X.N.length + 1 * j]? = some y
        rw [Nat.one_mul, B.new j]; exact ar
      refine bR (aZ _ s5 (σ ++ gw) nN x u (fun t8 i0 => ∃ ah : List V, t8 = σ ++ ah.map some /\ ah.length = xs.length /\ i0 = nN /\ bz X.K q4 ws ah) xf iw ⟨q4, d, tZ.sub, cZ, ?_⟩) fun _ tG ⟨t8, i0, pd, ah, yS, FN, rP, rws⟩ => ?_
      · rw [bW]
        intro aa0 ah e r
        have e := S6 e
        subst e
        have az : ah.length = xs.length := by rw [<- r.length, sA]
        refine ⟨ah, ?_, az, rfl, r⟩
        rw [<- az]
        exact IP ah σ gw X.N.length (I.len.symm) (by rw [RB, az])
      subst yS
      subst rP
      have CA : Ext cD aU q4 i0 := nI.trans tZ
      have I5 : er X.K mu q4 i0 (ρ ++ ws.map some) (σ ++ ah.map some) := (wy.ext CA).more QR rws
      have E5 : i0 dj = some (.lst hM) := tZ.h _ _ eN
      have PX : q4 dj = none := tZ.new dj E8 (by rw [eN]; exact fun z => nomatch z)
      refine YP aA pd I5 dn fun tH q5 ho hp nK => ?_
      have zD : ho dj = some (.lst hM) := nK.h _ _ E5
      have E9 : q5 dj = none := nK.new dj PX (by rw [E5]; exact fun z => nomatch z)
      have HR : bz X.K q5 mf hM := (Bq.mono tZ.g).mono nK.g
      rcases ae with ⟨rfl, rfl⟩ | ⟨y, rfl, hJ, rfl⟩
      · simp only [aa6, abp]
        refine ⟨ds.length - (i + 1), by lia, i + 1, ah.map some, ho, q5, mf, rest, hM, rfl, by lia, by rw [List.length_map]; exact FN, hp.qR, T.keep _ _ _ l9 fun b ae o e => (hp.pin (b, o) (abh _ (abh _ (qm ae e)))).1, fun b ae => ?_, CA.trans nK, zD, E9, HR, by lia, a9, vv⟩
        obtain ⟨bQ, e, _⟩ := T.obj _ _ l9 b ae
        exact (hp.pin (b, bQ) (abh _ (abh _ (qm ae e)))).2.1
      · simp only [abU]
        refine bR (he s3 (upd aU dj (.lst [])) bH pins _ tH (σ ++ ah.map some) ho (fun v nO => ∃ ml, Ext q5 ho ml nO /\ Rep X.K ml y v) hp ⟨q5, ρ ++ ws.map some, I5.ext nK, by rw [hJ]; exact fun v ml nO qX tw => ⟨ml, qX, tw⟩⟩) fun u8 We ⟨wN, nO, Ku, tw, ml, qX, VP⟩ => ?_
        have PW : nO dj = some (.lst hM) := qX.h _ _ zD
        have Fb : ml dj = none := qX.new dj E9 (by rw [zD]; exact fun z => nomatch z)
        have hlen : hM.length < sizeLine := by rw [<- Bq.length, sizeLine_eq]; lia
        refine bR (GS (X := g4 X scope dP s3 (upd aU dj (.lst [])) bH pins) _ We (σ ++ ah.map some) nO (.ref dj) [wN] (.ref dj) [u8] (fun _ CH => CH = upd nO dj (.lst (hM ++ [wN]))) Ku rfl (.cons tw .nil) ⟨dj, hM, wN, rfl, rfl, PW, hlen, rfl⟩) fun _ aaS ⟨_, CH, xg, _, uM⟩ => ?_
        subst uM
        have tY : Ext cD aU ml nO := (CA.trans nK).trans qX
        refine ⟨ds.length - (i + 1), by lia, i + 1, ah.map some, _, ml, mf ++ [y], qz, hM ++ [wN], rfl, by lia, by rw [List.length_map]; exact FN, xg.qR, T.keep _ _ _ l9 fun b ae o e => (xg.pin (b, o) (abh _ (abh _ (qm ae e)))).1, fun b ae => ?_,
          ⟨tY.g, fun b o e => ?_, fun b o e => ?_, tY.new, fun b xs e => tY.dB b xs (by
            by_cases q : b = dj
            · subst q; rw [dC] at e; cases e
            · rw [cR q] at e; exact e)⟩, dC, Fb, (HR.mono qX.g).snoc VP, by rw [aa7, List.length_singleton]; lia, a9, by rw [vv, adl]; rfl⟩
        · obtain ⟨bQ, e, _⟩ := T.obj _ _ l9 b ae
          exact (xg.pin (b, bQ) (abh _ (abh _ (qm ae e)))).2.1
        · rw [cR (nd e r7)]; exact tY.h b o e
        · rw [cR (nd e Fb)]; exact tY.sub b o e
    · have Qu : i = ds.length := by lia
      subst Qu
      have a3 : rest = [] := by
        rw [List.drop_length] at kC
        simp only [Den.cV] at kC
        cases kC; rfl
      subst a3
      rw [acz] at vv
      subst vv
      have done := T.done Y zL zM Fl Fm ds.length [] s' (σ ++ gw) aq (fun _ _ => False) eb (zm EN) bj (lQ.stop aM aq og)
      rw [Fj] at done
      refine bR done fun r s4 ⟨a3, f6⟩ => ?_
      subst a3
      obtain ⟨oF, FE, _⟩ := f6.loc
      have yT : Y.env.locals = s3.heap.objs.size := by rw [<- gB]; rfl
      rw [yT] at FE
      refine fin s4 aq aM s3.heap.objs.size dj oF (cv.trans nI) ⟨dj, hM, rfl, eN, cv.h.free r7, E8, Bq⟩ FE (eA.rZ (aa9 _) (by have := f6.free; rw [yT] at this; exact this)) fun h' dF => ?_
      have E4 : aq s3.heap.objs.size = none := by have := f6.free; rw [yT] at this; exact this
      have un : fi (gg X.stack) bH (upd aU dj (.lst [])) aq s3.heap s4.heap := by have := f6.base; rw [<- gB] at this; exact this
      have nc : ∀ b o, s3.heap.get? b = some o -> b ≠ s3.heap.objs.size := fun b o e => abm (abc e)
      have Y8 : fi (gg X.stack) bH (upd aU dj (.lst [])) aq s3.heap h' :=
        ⟨fun b o e n ae ak => (dF.2 b (nc b o e)).trans (un.keep b o e n ae ak), fun b o e n ae ak => by obtain ⟨bI, q⟩ := un.slot b o e n ae ak; exact ⟨bI, (dF.2 b (nc b o e)).trans q⟩, un.free,
          fun b o e ak => by obtain ⟨bL, q⟩ := un.there b o e ak; exact ⟨bL, (dF.2 b (nc b o e)).trans q⟩, un.jt, un.iK, un.js⟩
      have Ae : ea X.prog X.w aq h' := fun b o e => by
        have q := f6.bx b o e
        rw [zL, zM] at q
        refine q.jq (fun c v cI q => (dF.2 c ?_).trans q) (fun _ q => q) fun _ _ q => q
        rcases cI with z | z
        · rw [z]; rintro rfl; rw [E4] at e; cases e
        · rintro rfl; rw [E4] at z; cases z
      have Uo : s4.os = s3.os := by have := f6.os; rw [<- gB] at this; exact this
      have Kv : Inv X pins σ aq { s4 with heap := h' } := eA.Dp (s' := { s4 with heap := h' }) Uo Y8 Ae f6.bare fun b ae => by
        obtain ⟨f0, f1, OT, ew, f4, ey⟩ := vf b ae
        exact ⟨ew, f1, f4, ey⟩
      exact Kv
  refine codeAny_compStart_list loop (T.self _ _ _ _ _ Jf loop)
def BF(ag:X.calm=true)(hW:∀i∈mu,i<X.N.length)(B:pb X scope xs dP)(ax:Den.fm k target=some xs)(lO:∀x,foldedSetIterable iter X.env x=pure x)(ai:h9 X target iter (k4 xp X mu .view mS))(he:∀s3 bt bH pins,aQ (g4 X scope dP s3 bt bH pins) elt (bE xp (g4 X scope dP s3 bt bH pins) mu .val fV))(aA:rh xp X mu scope dP ifs fc):
  aQ X (.ListComp elt [⟨target,iter,ifs,0⟩] scope pos) (bE xp X mu .fresh λρ=>mS ρ>>=λds=>Den.lZ (Den.cV (i7 k fc fV ρ) ds)>>=λys=>.ok (.lst ys)):=by
 intro pins s σ H Q I ⟨G,ρ,af,hw⟩;rw[eval_ListComp];refine DR ag hW B ax lO ai he aA I af (use:=none) (Qc:=eS X pins σ Q) ?_;have hw:=bJ.mp hw;refine bJ.mpr (cj hw (λds k1=>?_) λ_ q=>q);refine cj (bJ.mp k1) (λys k2 s4 aq aM C dj oF x r aC hf inv=>?_) λ_ q=>q
 exact⟨oF,aC,λh' dF=>⟨.ref dj,aq,inv h' dF,rfl,k2 _ aM aq x r⟩⟩
end
section
def U0(az:aQ X l iB):h9 X dN l (λσ H R=>iB σ H λx H1=>∃a xs,x=.ref a/\((eg X.K H1 a xs/\(xs.length<=sizeLine->R (xh X.K a) H1))\/(fq X.K H1 a xs/\(xs.length<=sizeLine->R (xi X.K a) H1)))):=by
 intro pins s σ H R I h;refine bR (az pins s σ H _ I h) λv s1 ⟨x,H1,a5,aH,aO⟩=>?_
 obtain⟨a,xs,e,⟨aN,q⟩|⟨aN,q⟩⟩:=aO
 .subst e;cases aH;obtain⟨its,br,p,hz⟩:=a5.list aN;refine aez p.isList ?_;refine⟨s1.heap.objs.size,[s1.heap.objs.size],_,_,H1,rfl,a5.kept (t':=s1.toks) λb o e=>aa5 _ e,Y4 a _,⟨_,abd _ rfl,rfl,rfl⟩,λb ae=>?_,q hz⟩;have e:b=s1.heap.objs.size:=(by simpa using ae);subst e;exact a5.rZ (aa9 _) (a5.bx.fresh (aa9 _))
 .subst e;cases aH;obtain⟨its,br,p,hz⟩:=a5.tuple aN;refine aeq (show s1.heap.IsTuple a its.toArray from p) ?_;refine⟨s1.heap.objs.size,[s1.heap.objs.size],_,_,H1,rfl,a5.kept (t':=s1.toks) λb o e=>aa5 _ e,Y6 a _,⟨_,abd _ rfl,rfl,rfl⟩,λb ae=>?_,q hz⟩;have e:b=s1.heap.objs.size:=(by simpa using ae);subst e;exact a5.rZ (aa9 _) (a5.bx.fresh (aa9 _))
def F6{K:W.Frag}{a:Addr}(ed:∀aJ H1,P aJ H1->bA G aJ/\eg K H1 a xs)(r:bz K G ds xs):nQ K P (xh K a) ds where
 go:=λi aJ H1 h ai=>by
  obtain⟨_,q⟩:=ed aJ H1 h;have ak:i<xs.length:=(by rw[<- r.length];exact ai);exact⟨xs,xs[i],q,aba ak⟩
 lg:=λi aJ H1 x aU d h af hd ⟨e,y⟩=>by
  obtain⟨g,q⟩:=ed aJ H1 h;subst e;obtain⟨v,J,aa⟩:=r.get hd;have:=y xs q;rw[J]at this;cases this;exact⟨aJ,Ext.refl af,aa.mono g⟩
 stop:=λaJ H1 h=>⟨xs,(ed aJ H1 h).2,by rw[r.length];exact aa9 _⟩
def RX{K:W.Frag}{a:Addr}(ed:∀aJ H1,P aJ H1->bA G aJ/\fq K H1 a xs)(r:bz K G ds xs):nQ K P (xi K a) ds where
 go:=λi aJ H1 h ai=>by
  obtain⟨_,q⟩:=ed aJ H1 h;have ak:i<xs.length:=(by rw[<- r.length];exact ai);exact⟨xs,xs[i],q,aba ak⟩
 lg:=λi aJ H1 x aU d h af hd ⟨e,y⟩=>by
  obtain⟨g,q⟩:=ed aJ H1 h;subst e;obtain⟨v,J,aa⟩:=r.get hd;have:=y xs q;rw[J]at this;cases this;exact⟨aJ,Ext.refl af,aa.mono g⟩
 stop:=λaJ H1 h=>⟨xs,(ed aJ H1 h).2,by rw[r.length];exact aa9 _⟩
def AF{K:W.Frag}(r:bz K G ds xs)(h:xs.length<=sizeLine):ds.length<=16777216:=by rw[r.length,<- sizeLine_eq];exact h
def WB(hm:m=.view\/m=.val)(az:aQ X l (bE xp X mu m f)):h9 X dN l (k4 xp X mu m λρ=>f ρ>>=λd=>Den.en d):=by
 intro pins s σ H R I ⟨G,ρ,af,hw⟩;refine U0 az pins s σ H R I ?_;refine⟨G,ρ,af,cj (bJ.mp hw) (λd k v aJ H1 aS aH=>?_) λ_ q=>q⟩;cases d with
 |lst ds =>
  rcases hm with rfl|rfl
  .obtain⟨a,xs,rfl,hY,r⟩:=md (X:=X) aH;exact⟨a,xs,rfl,.inl ⟨hY,λhz=>k _ aJ H1 aS (F6 (G:=aJ) (λcD aU ⟨J,aa⟩=>⟨J,l7 aa hY⟩) r) (AF r hz)⟩⟩
  .obtain⟨a,xs,rfl,hY,r⟩:=aH;exact⟨a,xs,rfl,.inl ⟨l7 aS.sub hY,λhz=>k _ aJ H1 aS (F6 (G:=aJ) (λcD aU ⟨J,aa⟩=>⟨J,l7 aa (l7 J hY)⟩) r) (AF r hz)⟩⟩
 |tup ds =>
  have aH:Rep X.K aJ (.tup ds) v:=(by rcases hm with rfl|rfl<;>exact aH);obtain⟨a,xs,rfl,hY,r⟩:=aH;refine⟨a,xs,rfl,.inr ⟨iz aS.sub hY,λhz=>k _ aJ H1 aS (RX (G:=aJ) (λcD aU ⟨J,aa⟩=>?_) r) (AF r hz)⟩⟩;rcases hm with rfl|rfl
  .exact⟨J,Jc aa (iz aS.sub hY)⟩
  .exact⟨J,Jc aa (iz J hY)⟩
 |_=>exact k.elim
def RW{K:W.Frag}{lo ai:Int}:nQ K P (q7 lo (ai-lo).toNat) (Den.eY lo ai) where
 go:=λi aJ H1 _ bV=>by
  show i<(ai-lo).toNat;unfold Den.eY at bV;simpa using bV
 lg:=λi aJ H1 x aU d _ af hd ⟨e,y⟩=>by
  subst e;unfold Den.eY at hd;rw[abj]at hd;cases q:(List.range (ai-lo).toNat)[i]? with
  |none=>rw[q]at hd;cases hd
  |some k =>
   rw[q]at hd;have ax:k=i:=by
    have:=abo.mp q;obtain⟨_,e⟩:=this;rw[<- e];simp
   subst ax;cases hd;exact⟨aJ,Ext.refl af,y⟩
 stop:=λaJ H1 _=>by
  show(ai-lo).toNat<=_;unfold Den.eY;simp
def Ia{Q:List D->Prop}(h:cy (Den.kW i j) Q E):(-(2 ^ 62)<=i/\i<2 ^ 62/\-(2 ^ 62)<=j/\j<2 ^ 62)/\(Den.eY i j).length<=16777216/\Q (Den.eY i j):=by
 unfold Den.kW at h;cases q:(Den.oU i&&Den.oU j&&decide ((j-i).toNat<=1000000)) with
 |false=>rw[q]at h;exact h.elim
 |true =>
  rw[q]at h;simp only[aa3,Den.oU,abk]at q;obtain⟨⟨⟨a1,a2⟩,eD,ht⟩,ZS⟩:=q;refine⟨⟨⋯,⋯,⋯,⋯⟩,?_,h⟩;unfold Den.eY;rw[List.length_map,List.length_range];lia
def WR{x:Str}(ak:x="range")(aZ:ff X x)(hm:X.aX x=none)(aw:aQ X a (bE xp X mu .view bl))(c8:starEach [a] X.env=[(false,eval a X.env)]):
  h9 X dN (.Call (.Name x p) [a] [] pos) (k4 xp X mu m λρ=>bl ρ>>=λd=>Den.iH d>>=λi=>Den.kW 0 i):=by
 subst ak;intro pins s σ H R I ⟨G,ρ,af,hw⟩;refine UZ aZ hm (nk aw c8) c8 pins s σ H R I ?_;refine⟨G,ρ,af,cj (bJ.mp hw) (λd k v aJ H1 aS aH=>?_) λ_ q=>q⟩;have k:=bJ.mp k;cases d with
 |int i =>
  obtain⟨⟨_,_,b1,b2⟩,hz,q⟩:=Ia k;refine⟨i,by rw[cT.vU aH],b1,b2,?_⟩;have:=q (q7 0 (i-0).toNat) aJ H1 aS RW hz;rw[ae3]at this;exact this
 |_=>exact k.elim
end
section
variable{xp:dx}{X:a4}{mu:List Nat}{m:fo}{f bl dz:bw->cq D}{l a b dN:Expr}{pos p:Pos}{pins:List (Addr×Obj)}{σ:dk}{G H:aD}{s:Shared}
theorem yo{K:W.Frag}:∀{ds:List D}{bs:List Bool}{xs:List V},Den.ic ds=some bs->bz K G ds xs->xs=bs.map V.aV
 |[],bs,xs,h,r=>by cases h;exact r
 |d::ds,bs,xs,h,⟨v,t,e,aH,aT⟩=>by
  subst e;cases d with
  |aV b =>
   simp only[Den.ic]at h;cases q:Den.ic ds with
   |none=>rw[q]at h;cases h
   |some cs =>
    rw[q]at h;simp only[Option.map_some,abV]at h;subst h;have aH:v=.aV b:=aH;rw[aH,yo q aT];rfl
  |_=>simp only[Den.ic]at h;cases h
theorem Cx:∀{bs:List Bool}{us:List Value},Vals (bs.map V.aV) us->us=bs.map Value.bool
 |[],_,r=>by cases r;rfl
 |b::bs,_,r=>by
  cases r with
  |cons aH aT=>rw[Cx aT,(show _=Value.bool b from aH)];rfl
def Dn(ag:X.calm=true)(I:Inv X pins σ H s){a:Addr}{bs:List Bool}(h:eg X.K H a (bs.map V.aV)\/fq X.K H a (bs.map V.aV)){Q:Value->Shared->Prop}{r:List Nat->(Nat->Bool)->Bool}(aN:∀h' tk,Inv X pins σ H { s with heap:=h',toks:=tk }->Q (.bool (r (List.range bs.length) λi=>bs.getD i false)) { s with heap:=h',toks:=tk }):
  wpAny (model X.prog X.w) X.A.in1 (pyIter (.ref a)) (λit gr=>∃I bH wr n P St fF,it=.ref I/\Walks X.prog X.w X.A.in1 I bH wr n P St/\St 0 gr.heap/\TruthOf X.prog X.w X.A.in1 P fF /\
   ∀h' tk,(∀b o,b∉wr->gr.heap.get? b=some o->h'.get? b=some o)->Q (.bool (r (List.range n) fF)) { gr with heap:=h',toks:=tk }) X.cb s:=by
 have cu:X.A.in1.handled=none:=I.ok.hd ag;have JN:∀its:List Value,its=bs.map Value.bool->TruthOf X.prog X.w X.A.in1 (λi v=>its.toArray[i]?=some v) λi=>bs.getD i false:=by
  intro its e i v s Q E aK ek;subst e;have aK:(bs.map Value.bool)[i]?=some v:=(by simpa using aK);rw[abj]at aK;cases q:bs[i]? with
  |none=>rw[q]at aK;cases aK
  |some b =>
   rw[q]at aK;cases aK;refine acO ?_;have:bs.getD i false=b:=(by simp[List.getD,q]);have ek:Q (bs.getD i false) s:=ek;rw[this]at ek;exact ek
 rcases h with h|h
 .obtain⟨its,br,cn,hz⟩:=I.list h;have e:=Cx br;have az:its.toArray.size=bs.length:=(by rw[abb,e,List.length_map]);refine aez cn.isList ?_;have dT:a≠s.heap.objs.size:=(by obtain⟨o,n,ay,_⟩:=cn;exact abm (abc ay));refine⟨s.heap.objs.size,_,_,_,_,_,λi=>bs.getD i false,rfl,Walks.list cu _ a dT its.toArray,⟨⟨_,abd _ rfl,rfl,rfl⟩,(let ⟨o,ay,r⟩:=cn.isList;⟨o,aa5 _ ay,r⟩)⟩,JN its e,λh' tk ax=>?_⟩;rw[az];refine aN h' tk (I.kept λb o e=>ax b o (by simp;exact abm (abc e)) (aa5 _ e))
 .obtain⟨its,br,cn,hz⟩:=I.tuple h;have e:=Cx br;have az:its.toArray.size=bs.length:=(by rw[abb,e,List.length_map]);refine aeq (show s.heap.IsTuple a its.toArray from cn) ?_;have dT:a≠s.heap.objs.size:=(by obtain⟨o,ay,_⟩:=cn;exact abm (abc ay));refine⟨s.heap.objs.size,_,_,_,_,_,λi=>bs.getD i false,rfl,Walks.tuple cu _ a dT its.toArray,⟨⟨_,abd _ rfl,rfl,rfl⟩,(let ⟨o,ay,r⟩:=cn;⟨o,aa5 _ ay,r⟩)⟩,JN its e,λh' tk ax=>?_⟩;rw[az];refine aN h' tk (I.kept λb o e=>ax b o (by simp;exact abm (abc e)) (aa5 _ e))
def range_getD(bs):(List.range bs.length).map (λi=>bs.getD i false)=bs:=by
 apply acy;intro i;rw[abj]
 by_cases h:i<bs.length
 .rw[acW h];simp[List.getD,h]
 .rw[abu (by simpa using h),abu (by simpa using h)];rfl
def all_range(bs:List Bool):(List.range bs.length).all (λi=>bs.getD i false)=bs.all id:=by
 conv=>rhs;rw[<- range_getD bs]
 rw[List.all_map];rfl
def any_range(bs:List Bool):(List.range bs.length).any (λi=>bs.getD i false)=bs.any id:=by
 conv=>rhs;rw[<- range_getD bs]
 rw[List.any_map];rfl
def wj(af:bA G H)(cg:View X.K G H d x){Q:List D->Prop}(h:cy (Den.en d) Q E):∃ds a xs,x=.ref a/\(eg X.K H a xs\/fq X.K H a xs)/\bz X.K G ds xs/\Q ds:=by
 cases d with
 |tup ds =>
  obtain⟨a,ys,rfl,k,q⟩:=nH af cg;exact⟨ds,a,ys,rfl,.inr k,q,h⟩
 |lst ds =>
  obtain⟨a,ys,rfl,k,q⟩:=md cg;exact⟨ds,a,ys,rfl,.inl k,q,h⟩
 |_=>exact h.elim
def Kf{ds:List D}{Q:Bool->Prop}{E:Nat->Prop}{r:List Bool->Bool}(h:cy (match Den.ic ds with|some bs=>Den.R.ok (r bs)|none=>.bad) Q E):∃bs,Den.ic ds=some bs/\Q (r bs):=by
 cases q:Den.ic ds with
 |none=>rw[q]at h;exact h.elim
 |some bs=>rw[q]at h;exact⟨bs,rfl,h⟩
def OV(ag:X.calm=true):g5 X (.builtin "all") (kV X.K m λd=>Den.en d>>=λxs=>Den.mA xs>>=λb=>.ok (.aV b)):=by
 intro pins s σ H xs us Q I r ⟨G,x,d,ex,af,cg,hw⟩;subst ex;obtain⟨u,rfl,bc⟩:=vals1 r;obtain⟨ds,a,ys,rfl,aN,rs,hw⟩:=wj af cg (bJ.mp hw);obtain⟨bs,e,hw⟩:=Kf (r:=λbs=>bs.all id) (bJ.mp hw);rw[yo e rs]at aN;cases bc;refine call_all_walk (Dn ag I aN (r:=λl t=>l.all t) λh' tk eb=>?_);rw[all_range];exact⟨.aV _,H,eb,rfl,hw _ G H (Ext.refl af) cT.aV⟩
def OW(ag:X.calm=true):g5 X (.builtin "any") (kV X.K m λd=>Den.en d>>=λxs=>Den.mB xs>>=λb=>.ok (.aV b)):=by
 intro pins s σ H xs us Q I r ⟨G,x,d,ex,af,cg,hw⟩;subst ex;obtain⟨u,rfl,bc⟩:=vals1 r;obtain⟨ds,a,ys,rfl,aN,rs,hw⟩:=wj af cg (bJ.mp hw);obtain⟨bs,e,hw⟩:=Kf (r:=λbs=>bs.any id) (bJ.mp hw);rw[yo e rs]at aN;cases bc;refine call_any_walk (Dn ag I aN (r:=λl t=>l.any t) λh' tk eb=>?_);rw[any_range];exact⟨.aV _,H,eb,rfl,hw _ G H (Ext.refl af) cT.aV⟩
end
section
def PI{lo ai:Option Int}(aA:IsTup s.heap t items)(af:s.heap.IsSliceOf bI fG fH .none)(cn:IsPart fG lo)(pu:IsPart fH ai)(hw:da.bN items.size 0 lo=0/\da.bN items.size items.size ai=items.size)(h:Q (.ref t) s):wpAny (model prog w) A (getItem (.ref t) (.ref bI)) Q E s:=by
 obtain⟨os,ov,mX,kz⟩:=id af;have zJ:s.TypeIs (.ref bI) "slice":=⟨os,ov,mX⟩;unfold getItem
 try with_reducible refine acf ?_
 first|refine aa2 (aa4 ?_)|skip
 refine aa2 (wpAny_sequenceKey aA.typeIs ∅ ?_);refine aa2 (acj (name:=Str.ofString "__getitem__") aA.typeIs abT
  (aca abT aA.typeIs entry_tuple_getitem ?_ (args_tuple_getitem _ _)))
 show wpAny _ _ (Builtin.Tuple.tupleItemsOf (.ref t)>>=_) _ _ s;refine aa2 (PyProof.Rows.tupleItemsOf_ aA ?_);refine aa2 (ac3 zJ ?_);rw[if_pos ∅];refine aa2 (da.IZ af cn pu ?_);have Ry:(((da.bN items.size 0 lo:Nat):Int)==0&&(1:Int)==1&&(da.bN items.size items.size ai-da.bN items.size 0 lo)==items.size)=true:=by
  rw[hw.1,hw.2];simp
 show wpAny _ _ (if (((da.bN items.size 0 lo:Nat):Int)==0&&(1:Int)==1&&(da.bN items.size items.size ai-da.bN items.size 0 lo)==items.size)=true then _ else _) _ _ s;rw[if_pos Ry];unfold Builtin.Tuple.tupleIsExact;refine aa2 (aa2 (ac3 aA.typeIs (aa4 ?_)));rw[if_pos ∅];refine aa2 (aep (aa4 ⟨_,rfl,aa4 h⟩))
end
section
variable{xp:dx}{X:a4}{mu:List Nat}{m:fo}{f bl dz:bw->cq D}{e7 lH:bw->cq (Option Int)}{a b dN:Expr}{lo ai:Option Expr}{pos p p2:Pos}{pins:List (Addr×Obj)}{σ:dk}{G H:aD}{s:Shared}
def wh(n d)(o):Den.bN n d o=da.bN n d o:=by
 cases o with
 |none=>rfl
 |some i =>
  simp only[Den.bN,da.bN]
  by_cases h:i<0
  .rw[if_pos h,if_pos h];split<;>lia
  .rw[if_neg h,if_neg h];split<;>lia
def DT{K:W.Frag}(r:bz K G ds xs)(lo ai):bz K G (Den.cut ds lo ai) (lz xs lo ai):=by
 unfold Den.cut lz;rw[wh,wh,r.length];exact(r.drop _).take _
noncomputable def qN(xp:dx)(X:a4)(mu:List Nat)(f:bw->cq (Option Int)):pl:=λσ H Q =>
 ∃G ρ,er X.K mu G H ρ σ/\cy (f ρ) (λo=>∀aM aq,Ext G H aM aq->Q o aq) (λc=>eK xp X c H)
def WH:j9 X none (qN xp X mu λ_=>.ok none):=by
 intro pins s σ H Q I ⟨G,ρ,af,hw⟩;exact U6 pins s σ H Q I (hw G H (Ext.refl af.sub))
def WK(aw:aQ X a (bE xp X mu .view bl)):j9 X (some a) (qN xp X mu λρ=>bl ρ>>=λx=>Den.iH x>>=λi=>.ok (some i)):=by
 intro pins s σ H Q I ⟨G,ρ,af,hw⟩;refine U7 aw pins s σ H Q I ?_;refine⟨G,ρ,af,cj (bJ.mp hw) (λd k v aJ H1 aS aH=>?_) λ_ q=>q⟩;cases d with
 |int i=>exact⟨i,cT.vU aH,k aJ H1 aS⟩
 |_=>exact k.elim
noncomputable def VE(K:W.Frag):V->Option Int->Option Int->aD->dw->Prop:=λx lo ai H Q =>
 ∃G d,bA G H/\View K G H d x/\cy (Den.kX d lo ai) (λd'=>∀v aM aq,Ext G H aM aq->cT K H aM aq .fresh d' v->Q v aq) (λ_=>False)
def Xm:rg X (λx lo ai H Q=>∃a xs,x=.ref a/\fq X.K H a xs/\(da.bN xs.length 0 lo=0/\da.bN xs.length xs.length ai=xs.length)/\Q (.ref a) H):=by
 intro pins s σ H x v fG fH lo ai bI Q I bc af cn pu h;obtain⟨a,xs,rfl,ak,hw,q⟩:=h;cases bc;obtain⟨its,r,aA,hz⟩:=I.tuple ak;have hlen:its.toArray.size=xs.length:=by rw[abb];exact r.length.symm
 refine⟨"tuple",_,abT.lookup,aA.typeIs,?_⟩;exact PI aA af cn pu (by rw[hlen];exact hw) ⟨.ref a,H,I,rfl,q⟩
def MC{ds:List D}{lo ai:Option Int}(h:da.bN ds.length 0 lo=0/\da.bN ds.length ds.length ai=ds.length):Den.cut ds lo ai=ds:=by
 unfold Den.cut;rw[wh,wh,h.1,h.2];simp
def Xl:rg X (VE X.K):=by
 intro pins s σ H x v fG fH lo ai bI Q I bc af cn pu ⟨G,d,p0,cg,hw⟩;cases d with
 |tup ds =>
  obtain⟨a,xs,rfl,k,r⟩:=nH p0 cg
  by_cases fz:da.bN xs.length 0 lo=0/\da.bN xs.length xs.length ai=xs.length
  .refine Xm pins s σ H _ v fG fH lo ai bI Q I bc af cn pu ⟨a,xs,rfl,k,fz,?_⟩;rw[Den.wx,MC (by rw[r.length];exact fz)]at hw;exact hw _ G H (Ext.refl p0) cg
  .refine Xp pins s σ H _ v fG fH lo ai bI Q I bc af cn pu ⟨a,xs,rfl,k,fz,λp aB=>?_⟩;rw[Den.wx]at hw;exact hw _ (upd G p (.tup (lz xs lo ai))) _ (Ext.put p0 aB) ⟨p,_,rfl,dC,(DT r lo ai).mono (f5 (p0.free aB))⟩
 |lst ds =>
  obtain⟨a,xs,rfl,k,r⟩:=md cg;refine Xn pins s σ H _ v fG fH lo ai bI Q I bc af cn pu ⟨a,xs,rfl,k,λp aB=>?_⟩;rw[Den.I1]at hw;exact hw _ G _ (Ext.own p0 aB λ_ z=>nomatch z) ⟨p,_,rfl,dC,aB,p0.free aB,DT r lo ai⟩
 |_=>exact hw.elim
def Xo{d:D}{lo ai:Option Int}:Den.kX d lo ai≠.exc c:=by cases d<;>simp[Den.kX]
def WT(aw:aQ X a (bE xp X mu .view bl))(az:j9 X lo (qN xp X mu e7))(cu:j9 X ai (qN xp X mu lH)):
  aQ X (.Subscript a (.Slice lo ai none p2) pos) (bE xp X mu .fresh λρ=>bl ρ>>=λx=>e7 ρ>>=λl=>lH ρ>>=λh=>Den.kX x l h):=by
 intro pins s σ H Q I ⟨G,ρ,af,hw⟩;refine UK Xl aw az cu pins s σ H Q I ?_;refine⟨G,ρ,af,cj (bJ.mp hw) (λbk hZ v aJ H1 aS aH=>?_) λ_ q=>q⟩;refine⟨aJ,ρ,af.ext aS,cj (bJ.mp hZ) (λl k cD aU cv=>?_) λ_ q=>q.mono aS.h⟩;refine⟨cD,ρ,(af.ext aS).ext cv,cj (bJ.mp k) (λh k2 nM bt nJ=>?_) λ_ q=>(q.mono aS.h).mono cv.h⟩;refine⟨nM,bk,nJ.sub,View.ext nJ (View.ext cv aH),?_⟩;exact cj (tX k2 (λc=>Xo)) (λd q v4 Ks fR Zy h6=>q v4 Ks fR (((aS.trans cv).trans nJ).trans Zy) (((h6.old nJ.h).old cv.h).old aS.h)) λ_ q=>q
end
section
def CS(prog:Program)(w:World)(A:Around)(ah:List Value)(s1:Shared)(Q:Value->Shared->Prop):Prop :=
 ∃(κ:SortKind)(lt:Nat->Nat->Bool),Tm.Ord lt/\(∀i j,i<ah.length->j<ah.length->ah.getD i Value.none=ah.getD j Value.none->∀k,lt i k=lt j k/\lt k i=lt k j)/\ah.length<64 /\
   (2<=ah.length->∀(h':Heap),(∀b o,s1.heap.get? b=some o->h'.get? b=some o)->∀dQ:SortKind->Shared->Prop,dQ κ { s1 with heap:=h' }->wpAny (model prog w) A (keyKind' ah.toArray) dQ (λ_ _=>False) { s1 with heap:=h' }) /\
   (2<=ah.length->∀(h':Heap),(∀b o,s1.heap.get? b=some o->h'.get? b=some o)->∀(i j:Nat)(C:Bool->Shared->Prop),i<ah.length->j<ah.length->C (lt i j) { s1 with heap:=h' }->PySem.W.kas_ask prog w A κ ah i j C { s1 with heap:=h' }) /\
   ∀p:List Nat,p.Perm (List.range ah.length)->p.Pairwise (λi j=>lt j i=false)->∀(h':Heap)(c:Nat),(∀b o,s1.heap.get? b=some o->h'.get? b=some o)->h'.get? s1.heap.objs.size=some (seqObj "list" (p.map λi=>ah.getD i Value.none).toArray c)->Q (.ref s1.heap.objs.size) { s1 with heap:=h' }
def BU(ag:wpAny (model prog w) A.in1 (collect src) (λah s1=>CS prog w A.in1.in1 ah s1 Q) (λ_ _=>False) s):wpAny (model prog w) A (call (.builtin "sorted") [src]) Q E s:=by
 refine Calls.call_function_entry kind_sorted plain_sorted entry_sorted (args_sorted1 _) ?_;unfold Builtin.«sorted»;refine aa2 (m:=checkCount "sorted" 1 1 _) (aa4 ?_);refine aa2 (abR ag (λah s1 ak=>?_) λ_ _ z=>z.elim);obtain⟨κ,lt,e8,aK,zA,ax,Qf,aN⟩:=ak;refine aa2 (wpAny_newList ?_ (by rw[sizeLine_eq];lia));have vm:(s1.heap.push (seqObj "list" ah.toArray 0)).get? s1.heap.objs.size=some (seqObj "list" ah.toArray 0):=abd _ rfl;have keep:∀{h':Heap},(∀b o,b≠s1.heap.objs.size->(s1.heap.push (seqObj "list" ah.toArray 0)).get? b=some o->h'.get? b=some o)->∀b o,s1.heap.get? b=some o->h'.get? b=some o:=λfv b o q =>
  fv b o (abm (abc q)) (aa5 _ q)
 show wpAny _ _ _ _ _ { s1 with heap:=s1.heap.push (seqObj "list" ah.toArray 0) };refine aa2 (acf (aca slot_list_sort ⟨_,vm,rfl⟩ entry_list_sort ?body (args_list_sort _)))
 case body =>
  refine Tm.SW (s:={ s1 with heap:=s1.heap.push (seqObj "list" ah.toArray 0) }) (κ:=κ) (lt:=lt) e8 aK vm zA (λaa h' k dQ q=>?_) (λaa h' k=>Qf aa h' (keep k)) λp p1 p2 h' c k aZ=>?_
  .exact abR (ax aa h' (keep k) dQ q) (λ_ _ z=>z) λ_ _ z=>z.elim
  .exact⟨_,rfl,aa4 ⟨_,rfl,aN p p1 p2 h' c (keep k) aZ⟩⟩
end
noncomputable abbrev jY(c:List Int):D:=bg.av c
def ints_of{ds:List D}(h:ds.all (Den.fB 0)=true):∃ns:List Int,ds=ns.map Den.D.int:=vL h
theorem wK:∀{ds:List D},ds.all Den.qc=true->∃au:List (List Int),ds=au.map jY/\∀k∈au,k≠[]
 |[],_=>⟨[],rfl,by simp⟩
 |d::ds,h=>by
  simp only[List.all_cons,aa3]at h;obtain⟨au,rfl,ax⟩:=wK h.2;cases d with
  |tup xs =>
   cases xs with
   |nil=>cases h.1
   |cons x xs =>
    have J:(Den.fB 0 x&&xs.all (Den.fB 0))=true:=h.1;have J:(x::xs).all (Den.fB 0)=true:=J;obtain⟨ns,e⟩:=vL J;refine⟨ns::au,by rw[e];rfl,λk fv=>?_⟩;rcases aa8.mp fv with rfl|fv
    .rintro rfl;cases e
    .exact ax k fv
  |_=>cases h.1
section
theorem Ci{pins:List (Addr×Obj)}{σ:dk}{s:Shared}(I:Inv X pins σ H s)(af:bA G H):∀{au:List (List Int)}{xs:List V}{us:List Value},(∀k∈au,k≠[])->bz X.K G (au.map jY) xs->Vals xs us->fh.gc s.heap us au
 |[],_,_,_,r,v=>by cases r;cases v;exact trivial
 |k::au,_,_,aC,⟨x,t,e,aH,aT⟩,v=>by
  subst e;cases v with
  |cons v1 v2 =>
   obtain⟨a,ys,rfl,h,q⟩:=aH;cases v1;obtain⟨its,br,⟨o,ay,ag,n,hd⟩,_⟩:=I.tuple (iz af h);rw[jo q]at br;exact⟨⟨a,o,its.toArray,n,rfl,ay,ag,hd,by simpa using intsAre_of br,aC k List.mem_cons_self⟩,Ci I af (λz hz=>aC z (List.mem_cons_of_mem _ hz)) aT v2⟩
theorem Dw:∀{ds:List D},ds.all Den.oz=true->∃cs:List (List (List Int)),ds=cs.map bg.ru/\(∀c∈cs,c≠[])/\∀c∈cs,∀k∈c,k≠[]
 |[],_=>⟨[],rfl,by simp,by simp⟩
 |d::ds,h=>by
  simp only[List.all_cons,aa3]at h;obtain⟨cs,rfl,J,aa⟩:=Dw h.2;cases d with
  |tup xs =>
   cases xs with
   |nil=>cases h.1
   |cons x xs =>
    have aE:(x::xs).all Den.qc=true:=h.1;obtain⟨c,e,aR⟩:=wK aE;refine⟨c::cs,by rw[e];rfl,λk ax=>?_,λk ax=>?_⟩
    .rcases aa8.mp ax with rfl|ax
     .rintro rfl;cases e
     .exact J k ax
    .rcases aa8.mp ax with rfl|ax
     .exact aR
     .exact aa k ax
  |_=>cases h.1
theorem JP{pins:List (Addr×Obj)}{σ:dk}{s:Shared}(I:Inv X pins σ H s)(af:bA G H):∀{cs:List (List (List Int))}{xs:List V}{us:List Value},(∀c∈cs,c≠[])->(∀c∈cs,∀k∈c,k≠[])->bz X.K G (cs.map bg.ru) xs->Vals xs us->fh.iG s.heap us cs
 |[],_,_,_,_,r,v=>by cases r;cases v;exact trivial
 |c::cs,_,_,aC,hm,⟨x,t,e,aH,aT⟩,v=>by
  subst e;cases v with
  |cons v1 v2 =>
   obtain⟨a,ys,rfl,h,q⟩:=aH;cases v1;obtain⟨its,br,⟨o,ay,ag,n,hd⟩,_⟩:=I.tuple (iz af h);exact⟨⟨a,o,its.toArray,n,rfl,ay,ag,hd,by simpa using Ci I af (hm c List.mem_cons_self) q br,aC c List.mem_cons_self⟩,JP I af (λz hz=>aC z (List.mem_cons_of_mem _ hz)) (λz hz=>hm z (List.mem_cons_of_mem _ hz)) aT v2⟩
theorem H0{K:W.Frag}(r:bz K G ds xs)(v:Vals xs us):∀{p:List Nat},(∀i∈p,i<ds.length) ->
  ∃ys,bz K G (p.map λi=>ds.getD i .dV) ys/\Vals ys (p.map λi=>us.getD i Value.none)
 |[],_=>⟨[],rfl,.nil⟩
 |i::p,h=>by
  obtain⟨ys,J,aa⟩:=H0 r v (p:=p) λj aI=>h j (List.mem_cons_of_mem _ aI)
  have ai:=h i List.mem_cons_self;have e:ds[i]?=some (ds.getD i .dV):=(by rw[aba ai];simp[List.getD,aba ai]);obtain⟨y,k1,k2⟩:=r.get e;obtain⟨u,k3,b8⟩:=v.get k1;have ar:us.getD i Value.none=u:=(by simp[List.getD,k3]);exact⟨y::ys,⟨y,ys,rfl,k2,J⟩,by rw[List.map_cons,ar];exact .cons b8 aa⟩
def By{K:W.Frag}{κ:Type}{f:κ->D}{lt:κ->κ->Bool}(L:bg.g6 lt)(hf:∀a b,Den.kM (f a) (f b)=some (lt a b))(z){au:List κ}(r:bz K G (au.map f) xs)(v:Vals xs us){p:List Nat}(J:p.Perm (List.range us.length))(aa:p.Pairwise (λi j=>fh.ltI lt z au j i=false)):
  ∃ys,bz K G (Den.hk (au.map f)) ys/\Vals ys (p.map λi=>us.getD i Value.none):=by
 have az:us.length=au.length:=by rw[<- v.length,<- r.length,List.length_map]
 rw[az]at J;rw[bg.l6 hf,<- fh.Xw L z au J aa,List.map_map];obtain⟨ys,k1,k2⟩:=H0 r v (p:=p) λi ai=>by
  have:=J.mem_iff.mp ai;rw[List.length_map];simpa using this
 refine⟨ys,?_,k2⟩;have e:(p.map λi=>(au.map f).getD i .dV)=p.map (f ∘ λi=>au.getD i z):=by
  apply abB;intro i ai;have ai:i<au.length:=(by simpa using J.mem_iff.mp ai);simp[List.getD,abj,aba ai]
 rw[<- e];exact k1
def BS{pins:List (Addr×Obj)}{σ:dk}{s:Shared}(cu:X.A.handled=none)(bh:X.A.units+64<cLine)(I:Inv X pins σ H s)(af:bA G H)(r:bz X.K G ds xs)(v:Vals xs us)(jb:(Den.h2 ds||ds.all Den.oz)=true)(gz:ds.length<=63)(k:∀v aM aq,Ext G H aM aq->cT X.K H aM aq .fresh (.lst (Den.hk ds)) v->Q v aq):CS X.prog X.w X.A.in1.in1 us s (eS X pins σ Q):=by
 have hlen:us.length=ds.length:=by rw[<- v.length,<- r.length]
 have fin:∀{out:List Value}{ys:List V}(h':Heap)(c:Nat),bz X.K G (Den.hk ds) ys->Vals ys out->out.length=us.length->(∀b o,s.heap.get? b=some o->h'.get? b=some o)->h'.get? s.heap.objs.size=some (seqObj "list" out.toArray c)->eS X pins σ Q (.ref s.heap.objs.size) { s with heap:=h' }:=λ{out ys} h' c gq J9 ay ax aZ=>by
  refine⟨.ref s.heap.objs.size,_,I.laid (t':=s.toks) (o:=.lst ys) ax (aa9 _) ⟨by rw[J9.length,ay,hlen,sizeLine_eq];lia,out,c,J9,aZ⟩,rfl,?_⟩;exact k _ G _ (Ext.own af I.fresh λ_ z=>nomatch z) ⟨_,ys,rfl,dC,I.fresh,af.free I.fresh,gq⟩
 have AI:∀{p:List Nat},p.Perm (List.range us.length)->(p.map λi=>us.getD i Value.none).length=us.length:=λh=>by rw[List.length_map,h.length_eq,List.length_range]
 unfold Den.h2 at jb;rw[acN,acN]at jb;rcases jb with(h|h)|h
 .obtain⟨ns,rfl⟩:=ints_of h;have b3:IntsAre us ns:=(by rw[jo r]at v;exact intsAre_of v);refine⟨oneType',fh.ltI bg.ltI 0 ns,fh.Bb bg.h1 0 ns,fh.A9 (fh.Se b3),⋯,λaa h' _ dQ q=>fh.Sl b3 aa q,λaa h' _ i j C ai aI q=>fh.Lk b3 i j C ai aI q,λp p1 p2 h' c ax aZ=>?_⟩;obtain⟨ys,k1,k2⟩:=By bg.h1 (f:=Den.D.int) (λ_ _=>rfl) 0 r v p1 p2;exact fin h' c k1 k2 (AI p1) ax aZ
 .obtain⟨au,rfl,dT⟩:=wK h;have cG:=Ci I af dT r v;refine⟨tuples' true,fh.ltI bg.lexLt [] au,fh.Bb bg.kJ [] au,fh.A9 (fh.Sj cG),⋯,λaa h' k dQ q=>fh.Sm (s:={ s with heap:=h' }) (cG.kept k) aa q,λaa h' k i j C ai aI q=>fh.Ll (s:={ s with heap:=h' }) (cG.kept k) i j C ai aI q,λp p1 p2 h' c ax aZ=>?_⟩;obtain⟨ys,k1,k2⟩:=By bg.kJ (f:=jY) (λa b=>bg.sV a b) [] r v p1 p2;exact fin h' c k1 k2 (AI p1) ax aZ
 .obtain⟨au,rfl,dT,QW⟩:=Dw h;have cG:=JP I af dT QW r v;refine⟨tuples' false,fh.ltI bg.fM [] au,fh.Bb bg.Gv [] au,fh.A9 (fh.Sk cG),⋯,λaa h' k dQ q=>fh.Sn (s:={ s with heap:=h' }) (cG.kept k) aa q,λaa h' k i j C ai aI q=>fh.Lm (s:={ s with heap:=h' }) (by show X.A.units+1+1+2<cLine;lia) (cG.kept k) i j C ai aI q,λp p1 p2 h' c ax aZ=>?_⟩;obtain⟨ys,k1,k2⟩:=By bg.Gv (f:=bg.ru) (λa b=>bg.S3 a b) [] r v p1 p2;exact fin h' c k1 k2 (AI p1) ax aZ
end
section
def Zu{ds:List D}{Q:D->Prop}(h:cy (Den.sorted ds) Q E):(Den.h2 ds||ds.all Den.oz)=true/\ds.length<=63/\Q (.lst (Den.hk ds)):=by
 unfold Den.sorted at h;cases q:((Den.h2 ds||ds.all Den.oz)&&decide (ds.length<=63)) with
 |false=>rw[q]at h;exact h.elim
 |true =>
  rw[q]at h;rw[aa3,abk]at q;exact⟨q.1,q.2,h⟩
def Pa(ag:X.calm=true)(bh:X.A.units+64<cLine):g5 X (.builtin "sorted") (kV X.K .fresh λd=>Den.en d>>=λxs=>Den.sorted xs):=by
 intro pins s σ H xs us Q I r ⟨G,x,d,ex,af,cg,hw⟩;subst ex;obtain⟨u,rfl,bc⟩:=vals1 r;obtain⟨ds,a,ys,rfl,aN,rs,hw⟩:=wj af cg (bJ.mp hw);obtain⟨jb,gz,hw⟩:=Zu hw;have cu:X.A.handled=none:=I.ok.hd ag;cases bc;rcases aN with aN|aN
 .obtain⟨its,br,cn,hz⟩:=I.list aN;refine BU (collect_list cn.isList ?_ (by rw[<- br.length];exact hz));have a5:Inv X pins σ H { s with heap:=(s.heap.push (seqObj "list" #[] 0)).update s.heap.objs.size (Obj.mapSeq (·++its.toArray)) }:=I.kept (t':=s.toks) λb o q=>(abr _ _ (ab1 (abm (abc q)))).trans (aa5 _ q)
  exact BS cu bh a5 af rs br jb gz hw
 .obtain⟨its,br,cn,hz⟩:=I.tuple aN;refine BU (Pv.Mp (show s.heap.IsTuple a its.toArray from cn) ?_ (by rw[<- br.length];exact hz));have a5:Inv X pins σ H { s with heap:=(s.heap.push (seqObj "list" #[] 0)).update s.heap.objs.size (Obj.mapSeq (·++its.toArray)) }:=I.kept (t':=s.toks) λb o q=>(abr _ _ (ab1 (abm (abc q)))).trans (aa5 _ q)
  exact BS cu bh a5 af rs br jb gz hw
end
structure bS(K:W.Frag)(mu:List Nat)(bp a8 G H:aD)(ρ:bw)(σ:dk):Prop where
 bY:er K mu G H ρ σ
 ext:Ext bp a8 G H
 own:∀(i:Nat)(d:D)(a:Addr),ρ[i]?=some (some d)->gS d=true->i∈mu->σ[i]?=some (some (V.ref a))->a8 a=none
noncomputable def hQ(K:W.Frag)(mu:List Nat)(bp a8:aD)(T:Ends):Den.et->Prop
 |.bD ρ=>∀σ G H,bS K mu bp a8 G H ρ σ->T.bD σ H
 |.cC d=>∀v G H,Ext bp a8 G H->Rep K G d v->T.cC v H
noncomputable def c1(xp:dx)(X:a4)(mu:List Nat)(f:bw->cq Den.et):gb:=λT σ H =>
 ∃bp a8 G ρ,bS X.K mu bp a8 G H ρ σ/\cy (f ρ) (hQ X.K mu bp a8 T) (λc=>eK xp X c a8)
def eM{α:Type}{l:List α}{a:α}(h:i≠j):(l.set i a)[j]?=l[j]?:=ad7 h
def get_eq{α:Type}{l:List α}{a b:α}(h:(l.set i a)[i]?=some b):i<l.length/\b=a:=by
 rw[List.getElem?_set_self']at h;cases q:l[i]? with
 |none=>rw[q]at h;cases h
 |some c=>rw[q]at h;exact⟨(abo.mp q).1,(abC h).symm⟩
def wk{α:Type}{l:List α}{a:α}(h:i<l.length):(l.set i a)[i]?=some a:=by simp[h]
section
variable{K:W.Frag}{mu:List Nat}{bp a8 G H aM aq:aD}{ρ:bw}{σ:dk}{i:Nat}{d:D}{v:V}
def er.tJ(h:er K mu G H ρ σ)(hm:i∉mu)(r:Rep K G d v):er K mu G H (ρ.set i (some d)) (σ.set i (some v)) where
 len:=by rw[acA,acA];exact h.len
 sub:=h.sub
 val:=λj e q aI=>by
  by_cases c:i=j
  .subst c;obtain⟨J,aa⟩:=get_eq q;cases aa;exact⟨v,wk (by rw[<- h.len];exact J),r⟩
  .rw[eM c]at q ⊢;exact h.val j e q aI
 own:=λj e q aI az=>by
  have c:i≠j:=λz=>hm (z▸aI)
  rw[eM c]at q ⊢;exact h.own j e q aI az
 lst:=λj e q aI az=>by
  have c:i≠j:=λz=>hm (z▸aI)
  rw[eM c]at q;obtain⟨a,o,J,aa⟩:=h.lst j e q aI az;exact⟨a,o,by rw[eM c];exact J,aa⟩
 dB:=h.dB
 apart:=λj k d e a b aO a9 bZ b7 aI ax ne e1 ar=>by
  have c:i≠j:=λz=>hm (z▸aI)
  have c3:i≠k:=λz=>hm (z▸ax)
  rw[eM c]at aO e1;rw[eM c3]at a9 ar;exact h.apart j k d e a b aO a9 bZ b7 aI ax ne e1 ar
def er.set_own(h:er K mu G H ρ σ)(hm:i∈mu)(az:gS d=false)(r:Rep K G d v):er K mu G H (ρ.set i (some d)) (σ.set i (some v)) where
 len:=by rw[acA,acA];exact h.len
 sub:=h.sub
 val:=λj e q aI=>by
  have c:i≠j:=λz=>aI (z▸hm)
  rw[eM c]at q ⊢;exact h.val j e q aI
 own:=λj e q aI hle=>by
  by_cases c:i=j
  .subst c;obtain⟨J,aa⟩:=get_eq q;cases aa;exact⟨v,wk (by rw[<- h.len];exact J),r⟩
  .rw[eM c]at q ⊢;exact h.own j e q aI hle
 lst:=λj e q aI hle=>by
  by_cases c:i=j
  .subst c;obtain⟨J,aa⟩:=get_eq q;cases aa;rw[az]at hle;cases hle
  .rw[eM c]at q;obtain⟨a,o,J,aa⟩:=h.lst j e q aI hle;exact⟨a,o,by rw[eM c];exact J,aa⟩
 dB:=h.dB
 apart:=λj k d e a b aO a9 bZ b7 aI ax ne e1 ar=>by
  have c:i≠j:=λz=>by subst z;obtain⟨J,aa⟩:=get_eq aO;cases aa;rw[az]at bZ;cases bZ
  have c3:i≠k:=λz=>by subst z;obtain⟨J,aa⟩:=get_eq a9;cases aa;rw[az]at b7;cases b7
  rw[eM c]at aO e1;rw[eM c3]at a9 ar;exact h.apart j k d e a b aO a9 bZ b7 aI ax ne e1 ar
def er.Xd(h:er K mu G H ρ σ)(hm:i∈mu)(fs:gS d=true)(eO:H a=some o)(kq:G a=none)(r:jB K G d o)(aC:∀(j:Nat)(e:D),j≠i->j∈mu->gS e=true->ρ[j]?=some (some e)->σ[j]?≠some (some (V.ref a))):er K mu G H (ρ.set i (some d)) (σ.set i (some (.ref a))) where
 len:=by rw[acA,acA];exact h.len
 sub:=h.sub
 val:=λj e q aI=>by
  have c:i≠j:=λz=>aI (z▸hm)
  rw[eM c]at q ⊢;exact h.val j e q aI
 own:=λj e q aI hle=>by
  by_cases c:i=j
  .subst c;obtain⟨J,aa⟩:=get_eq q;cases aa;rw[fs]at hle;cases hle
  .rw[eM c]at q ⊢;exact h.own j e q aI hle
 lst:=λj e q aI hle=>by
  by_cases c:i=j
  .subst c;obtain⟨J,aa⟩:=get_eq q;cases aa;exact⟨a,o,wk (by rw[<- h.len];exact J),eO,kq,r⟩
  .rw[eM c]at q;obtain⟨b,bL,J,aa⟩:=h.lst j e q aI hle;exact⟨b,bL,by rw[eM c];exact J,aa⟩
 dB:=h.dB
 apart:=λj k e f b fT aO a9 bZ b7 aI ax ne e1 ar=>by
  by_cases c:i=j
  .subst c;have c3:i≠k:=ne;obtain⟨J,aa⟩:=get_eq e1;cases aa;rw[eM c3]at a9 ar;intro z;exact aC k f (ab1 c3) ax b7 a9 (by rw[z];exact ar)
  .by_cases c3:i=k
   .subst c3;obtain⟨J,aa⟩:=get_eq ar;cases aa;rw[eM c]at aO e1;intro z;exact aC j e (ab1 c) aI bZ aO (by rw[<- z];exact e1)
   .rw[eM c]at aO e1;rw[eM c3]at a9 ar;exact h.apart j k e f b fT aO a9 bZ b7 aI ax ne e1 ar
def jB.nt:∀{d:D},jB K G d o->∀xs,o≠.tup xs
 |.lst _,⟨_,e,_⟩,_,z=>by rw[e]at z;cases z
 |.b4 _,e,_,z=>by rw[show o=_ from e]at z;cases z
 |.bK _,⟨_,e,_⟩,_,z=>by rw[e]at z;cases z
 |.dR _,⟨_,e,_⟩,_,z=>by rw[e]at z;cases z
def bS.step(h:bS K mu bp a8 G H ρ σ)(x:Ext G H aM aq):bS K mu bp a8 aM aq ρ σ:=⟨h.bY.ext x,h.ext.trans x,h.own⟩
theorem bS.tJ(h:bS K mu bp a8 G H ρ σ)(hm:i∉mu)(r:Rep K G d v):bS K mu bp a8 G H (ρ.set i (some d)) (σ.set i (some v)) :=
 ⟨h.bY.tJ hm r,h.ext,λj e a q fs aI z=>by
  have c:i≠j:=λz=>hm (z▸aI)
  rw[eM c]at q z;exact h.own j e a q fs aI z⟩
def bS.qD(h:bS K mu bp a8 G H ρ σ)(x:Ext G H aM aq)(hm:i∈mu)(fs:gS d=true)(J:aq a=some o)(aa:H a=none)(aE:aM a=none)(r:jB K aM d o):bS K mu bp a8 aM aq (ρ.set i (some d)) (σ.set i (some (.ref a))):=by
 have h':=h.step x;refine⟨h'.bY.Xd hm fs J aE r λj e aI z4 he q z=>?_,h'.ext,λj e b q he aI z=>?_⟩
 .obtain⟨b,bL,k1,k2,k3,b8⟩:=h.bY.lst j e q z4 he;rw[k1]at z;cases z;rw[aa]at k2;cases k2
 .by_cases c:i=j
  .subst c;obtain⟨_,w⟩:=get_eq z;cases w;exact h.ext.h.free aa
  .rw[eM c]at q z;exact h.own j e b q he aI z
def bS.IS(h:bS K mu bp a8 G H ρ σ)(x:Ext G H aM aq)(hm:i∈mu)(r:cT K H aM aq .fresh d v):bS K mu bp a8 aM aq (ρ.set i (some d)) (σ.set i (some v)):=by
 have go:gS d=false->Rep K aM d v->bS K mu bp a8 aM aq (ρ.set i (some d)) (σ.set i (some v)):=λfs r=>by
  refine⟨(h.step x).bY.set_own hm fs r,(h.step x).ext,λj e b q he aI z=>?_⟩
  by_cases c:i=j
  .subst c;obtain⟨_,w⟩:=get_eq q;cases w;rw[fs]at he;cases he
  .rw[eM c]at q z;exact h.own j e b q he aI z
 cases d with
 |lst ds =>
  obtain⟨a,xs,rfl,J,aa,aE,aR⟩:=r;exact h.qD x hm rfl J aa aE ⟨xs,rfl,aR⟩
 |b4 ao=>exact r.elim
 |bK ao=>exact r.elim
 |dR ao=>exact r.elim
 |_=>exact go rfl r
def bS.write (h : bS K mu bp a8 G H ρ σ) (hm : i ∈ mu) (q : ρ[i]? = some (some d)) (hd : gS d = true) (he : gS e = true) (z : σ[i]? = some (some (V.ref a))) (kq : G a = none) (r : jB K G e bL) :
    bS K mu bp a8 G (upd H a bL) (ρ.set i (some e)) σ := by
  have h0 : a8 a = none := h.own i d a q hd hm z
  have ai : i < ρ.length := (abo.mp q).1
  have other : ∀ (j : Nat) (f : D), j ≠ i -> j ∈ mu -> gS f = true -> ρ[j]? = some (some f) -> σ[j]? ≠ some (some (V.ref a)) := fun j f aI z4 hf Vx lE => h.bY.apart j i f d a a Vx q hf hd z4 hm aI lE z rfl
  have B3 : bA G (upd H a bL) := fun b o z => by
    have : b ≠ a := fun w => by rw [w, kq] at z; cases z
    rw [cR this]; exact h.bY.sub b o z
  have I4 : er K mu G (upd H a bL) (ρ.set i (some e)) σ := by
    refine ⟨by rw [acA]; exact h.bY.len, B3, fun j f cB aI => ?_, fun j f cB aI az => ?_, fun j f cB aI az => ?_, fun b xs w => ?_, fun j k f g b fT aO a9 bZ b7 aI ax ne e1 ar => ?_⟩
    · have c : i ≠ j := fun z => aI (z ▸ hm)
      rw [eM c] at cB; exact h.bY.val j f cB aI
    · by_cases c : i = j
      · subst c
        obtain ⟨_, w⟩ := get_eq cB
        cases w
        rw [he] at az; cases az
      · rw [eM c] at cB; exact h.bY.own j f cB aI az
    · by_cases c : i = j
      · subst c
        obtain ⟨_, w⟩ := get_eq cB
        cases w
        exact ⟨a, bL, z, dC, kq, r⟩
      · rw [eM c] at cB
        obtain ⟨b, bQ, k1, k2, k3, b8⟩ := h.bY.lst j f cB aI az
        have : b ≠ a := fun w => other j f (ab1 c) aI az cB (by rw [k1, w])
        exact ⟨b, bQ, k1, by rw [cR this]; exact k2, k3, b8⟩
    · by_cases c : b = a
      · subst c; rw [dC] at w; cases w; exact absurd rfl (r.nt xs)
      · rw [cR c] at w; exact h.bY.dB b xs w
    · have full : ∀ (k : Nat) (g : D), gS g = true -> (ρ.set i (some e))[k]? = some (some g) -> ∃ g', gS g' = true /\ ρ[k]? = some (some g') := fun k g aZ z => by
        by_cases c : i = k
        · subst c; exact ⟨d, hd, q⟩
        · rw [eM c] at z; exact ⟨g, aZ, z⟩
      obtain ⟨y9, oE, qy⟩ := full j f bZ aO
      obtain ⟨g', qk, oQ⟩ := full k g b7 a9
      exact h.bY.apart j k y9 g' b fT qy oQ oE qk aI ax ne e1 ar
  refine ⟨I4, ⟨h.ext.g, fun b o z => ?_, B3, h.ext.new, fun b xs w => .inr (I4.dB b xs w)⟩, fun j f b cB hf aI lE => ?_⟩
  · have : b ≠ a := fun w => by rw [w, h0] at z; cases z
    rw [cR this]; exact h.ext.h b o z
  · by_cases c : i = j
    · subst c; rw [z] at lE; cases lE; exact h0
    · rw [eM c] at cB; exact h.own j f b cB hf aI lE
end
section
variable{xp:dx}{X:a4}{mu:List Nat}{m:fo}{f bl dz fc:bw->cq D}{g g1 g2:bw->cq Den.et}{a b c e dN:Expr}{aj:List Expr}{pos p1 p2 p3 p4:Pos}{st:Stmt}{tO tI dF:List Stmt}{i:Nat}{x:Str}
def Iu(hm:i∉mu)(aL:X.N.Nodup)(ai:X.N[i]?=some x)(ak:Loc X.env.scope x)(he:aQ X e (bE xp X mu .val f))(af:swapsWith e (some (.Name x p1)) pos.line X.env=pure false)(hf:X.fn x=true\/X.env.scope.names.lookup x=some .local):
  dg X (.Assign [.Name x p1] e pos) (c1 xp X mu λρ=>f ρ>>=λd=>.ok (.bD (ρ.set i (some d)))):=by
 intro pins s σ H T I ⟨bp,a8,G,ρ,ae,hw⟩;refine tq aL ai ak he af hf pins s σ H T I ?_;refine⟨G,ρ,ae.bY,cj (bJ.mp hw) (λd k v aJ H1 aS aH=>?_) λ_ q=>q.mono ae.ext.h⟩;exact k _ aJ H1 ((ae.step aS).tJ hm aH)
def Iv(hm:i∈mu)(aL:X.N.Nodup)(ai:X.N[i]?=some x)(ak:Loc X.env.scope x)(he:aQ X e (bE xp X mu .fresh f))(af:swapsWith e (some (.Name x p1)) pos.line X.env=pure false)(hf:X.fn x=true\/X.env.scope.names.lookup x=some .local):
  dg X (.Assign [.Name x p1] e pos) (c1 xp X mu λρ=>f ρ>>=λd=>.ok (.bD (ρ.set i (some d)))):=by
 intro pins s σ H T I ⟨bp,a8,G,ρ,ae,hw⟩;refine tq aL ai ak he af hf pins s σ H T I ?_;refine⟨G,ρ,ae.bY,cj (bJ.mp hw) (λd k v aJ H1 aS aH=>?_) λ_ q=>q.mono ae.ext.h⟩;exact k _ aJ H1 (ae.IS aS hm aH)
def IE(he:aQ X e (bE xp X mu .val f)):dg X (.Return (some e) pos) (c1 xp X mu λρ=>f ρ>>=λd=>.ok (.cC d)):=by
 intro pins s σ H T I ⟨bp,a8,G,ρ,ae,hw⟩;refine tp he pins s σ H T I ?_;refine⟨G,ρ,ae.bY,cj (bJ.mp hw) (λd k v aJ H1 aS aH=>?_) λ_ q=>q.mono ae.ext.h⟩;exact k v aJ H1 (ae.ext.trans aS) aH
def WO(hm:i∈mu)(aL:X.N[i]?=some x)(aK:fj X.env.scope x)(J:(x==("__debug__":Str))=false)(aa:(x==("__classdict__":Str))=false):
  dg X (.Return (some (.Name x p1)) pos) (c1 xp X mu λρ=>Den.vI ρ[i]?>>=λd=>.ok (.cC d)):=by
 intro pins s σ H T I ⟨bp,a8,G,ρ,ae,hw⟩;refine tp (gp aL aK J aa) pins s σ H T I ?_;dsimp only at hw;have key:∀ds,ρ[i]?=some (some (.lst ds))->hQ X.K mu bp a8 T (.cC (.lst ds))->k6 i σ H T.cC:=λds q hw=>by
  obtain⟨a,o,k1,k2,k3,xs,rfl,b8⟩:=ae.bY.lst i (.lst ds) q hm rfl;refine⟨_,k1,?_⟩;have h0:a8 a=none:=ae.own i (.lst ds) a q rfl hm k1;refine hw _ (upd G a (.lst xs)) H ⟨ae.ext.g.trans (f5 k3),ae.ext.h,λb o z=>?_,λb bO bF=>?_,λb xs z=>.inr (f5 k3 _ _ (ae.bY.dB b xs z))⟩ ⟨a,xs,rfl,.inl (.inl dC),b8.mono (f5 k3)⟩
  .by_cases c:b=a
   .subst c;rw[dC]at z;rw[k2];exact z
   .rw[cR c]at z;exact ae.bY.sub b o z
  .have:b≠a:=λw=>bF (by rw[w];exact h0)
   rw[cR this];exact ae.ext.new b bO bF
 cases q:ρ[i]? with
 |none=>rw[q]at hw;exact hw.elim
 |some o =>
  cases o with
  |none=>rw[q]at hw;exact hw.elim
  |some d =>
   rw[q]at hw;cases d with
   |lst ds=>exact key ds q hw
   |_=>exact hw.elim
noncomputable def BJ(g1 g2:bw->cq Den.et):bw->cq Den.et:=λρ=>g1 ρ>>=λr=>match r with
 |.bD bP=>g2 bP
 |.cC d=>.ok (.cC d)
def IF:fp X [] (c1 xp X mu λρ=>.ok (.bD ρ)):=by
 intro pins s σ H T I ⟨bp,a8,G,ρ,ae,hw⟩;exact Vq pins s σ H T I (hw σ G H ae)
def BG(J:dg X st (c1 xp X mu g1))(aa:fp X tO (c1 xp X mu g2)):fp X (st::tO) (c1 xp X mu (BJ g1 g2)):=by
 intro pins s σ H T I ⟨bp,a8,G,ρ,ae,hw⟩;refine Vo J aa pins s σ H T I ?_;refine⟨bp,a8,G,ρ,ae,cj (bJ.mp hw) (λr k=>?_) λ_ q=>q⟩;cases r with
 |bD bP=>exact λcw aM aq fX=>⟨bp,a8,aM,bP,fX,k⟩
 |cC d=>exact k
def Iz(ag:eU X c (gs xp X mu fc))(aw:fp X tI (c1 xp X mu g1))(ae:fp X dF (c1 xp X mu g2)):dg X (.If c tI dF pos) (c1 xp X mu λρ=>fc ρ>>=λx=>Den.ei x>>=λk=>if k then g1 ρ else g2 ρ):=by
 intro pins s σ H T I ⟨bp,a8,G,ρ,ik,hw⟩;refine Vm ag aw ae pins s σ H T I ?_;refine⟨G,ρ,ik.bY,?_⟩;refine bJ.mpr (cj (bJ.mp hw) (λd k=>cj (bJ.mp k) (λc4 q aJ H1 aS=>?_) λ_ q=>q.mono ik.ext.h) λ_ q=>q.mono ik.ext.h);cases c4 with
 |true=>simp only[abU]at q ⊢;exact⟨bp,a8,aJ,ρ,ik.step aS,q⟩
 |false=>simp only[aa6,abp]at q ⊢;exact⟨bp,a8,aJ,ρ,ik.step aS,q⟩
end
theorem sM:∀{ah:List Value}{k:List Int},IntsAre ah k->ItemsAre (intKind prog w) k ah
 |_,_,.nil=>.nil
 |_,_,.cons n t r=>.cons (Pv.sJ prog w n t) (sM r)
theorem C1:∀{k:List Int}{ah:List Value},ItemsAre (intKind prog w) k ah->IntsAre ah k
 |_,_,.nil=>.nil
 |_,_,.cons h r=>by
  obtain⟨t,rfl⟩:=aev h;exact .cons _ t (C1 r)
theorem F1:∀{ah:List Value}{a b:List Int},IntsAre ah a->IntsAre ah b->a=b
 |_,_,_,.nil,.nil=>rfl
 |_,_,_,.cons n t r,.cons _ _ q=>by rw[F1 r q]
def AS{κ:Type}[DecidableEq κ](au:List κ)(h:i<=au.length):(Pv.met au i).length<=(bg.cX au).length :=
 bg.jm (Pv.s7 au i) λz hz=>(bg.jR z au).mpr (List.mem_of_mem_take ((Pv.vM au i h z).mp hz))
def IU{κ:Type}[DecidableEq κ]{lt:κ->κ->Bool}(L:bg.g6 lt){cQ r c9:List κ}(J:cQ.Perm r)(aa:r.Perm (Pv.met c9 c9.length)):bg.cW lt cQ=bg.cW lt (bg.cX c9):=by
 have h:=J.trans aa;have d5:cQ.Nodup:=h.nodup_iff.mpr (Pv.s7 c9 _);refine bg.kd L (bg.lr L d5) (bg.lr L (bg.nh c9)) λz=>?_
 rw[bg.jS,bg.jS,bg.jR,h.mem_iff,Pv.vM c9 _ (aa9 _),List.take_length]
def IT{κ:Type}[DecidableEq κ]{cQ r c9:List κ}(J:cQ.Perm r)(aa:r.Perm (Pv.met c9 c9.length)):cQ.length<=(bg.cX c9).length:=by
 rw[(J.trans aa).length_eq];exact AS c9 (aa9 _)
def RY(h:ItemsOf P acc l.length)(ed:∀i v,P i v->l[i]?=some v):acc.toList=l:=by
 obtain⟨J,aa⟩:=h;apply acy;intro i
 by_cases ai:i<l.length
 .have ft:i<acc.size:=⋯;have e:acc[i]?=some acc[i]:=abf ft;have:=ed i _ (aa i _ e);rw[this];simpa using e
 .rw[abu (by simp;lia),abu ⋯]
section
variable{X:a4}{pins:List (Addr×Obj)}{σ:dk}{G H:aD}{s:Shared}
def xk(K:W.Frag)(G:aD)(v:Value):Prop:=∃b k,v=.ref b/\Rep K G (jY k) (V.ref b)
theorem Ij(I:Inv X pins σ H s)(af:bA G H):∀{au:List (List Int)}{xs:List V}{us:List Value},bz X.K G (au.map jY) xs->Vals xs us->Paired ((Pv.Ga (xk X.K G) X.prog X.w).Row s.heap) us au
 |[],_,_,r,v=>by cases r;cases v;exact .nil
 |k::au,_,_,⟨x,t,e,aH,aT⟩,v=>by
  subst e;cases v with
  |cons v1 v2 =>
   obtain⟨a,ys,rfl,h,q⟩:=id aH;cases v1;obtain⟨its,br,⟨o,ay,ag,n,hd⟩,_⟩:=I.tuple (iz af h);rw[jo q]at br;exact .cons ⟨a,rfl,⟨o,its.toArray,n,ay,ag,hd,sM (by simpa using intsAre_of br)⟩,a,k,rfl,aH⟩ (Ij I af aT v2)
theorem Ii:∀{ns:List Int}{us:List Value},IntsAre us ns->Paired (λv (k:Int)=>∃t,v=Value.int k t) us ns
 |_,_,.nil=>.nil
 |_,_,.cons n t r=>.cons ⟨t,rfl⟩ (Ii r)
theorem IV(I:Inv X pins σ H s)(af:bA G H):∀{aj:List (Int×Value)}{au:List (List Int)},Paired (λe k=>Pv.lj X.prog X.w s.heap e k/\xk X.K G e.2) aj au->∃xs,bz X.K G (au.map jY) xs/\Vals xs (aj.map (·.2))
 |_,_,.nil=>⟨[],rfl,.nil⟩
 |e::aj,k::au,.cons ⟨⟨b,e1,_,o,items,n,ay,ag,hd,ax⟩,fT,c4,ar,r⟩ t=>by
  obtain⟨xs,aH,aT⟩:=IV I af t;rw[e1]at ar;injection ar with ar;subst ar;have z6:c4=k:=by
   obtain⟨a,ys,bG,h,q⟩:=id r;cases bG;obtain⟨its,br,⟨bL,d8,_,cc,fZ⟩,_⟩:=I.tuple (iz af h);rw[ay]at d8;cases d8;rw[hd]at fZ;injection fZ with bZ _;rw[jo q]at br;have J:=intsAre_of br;have aa:=C1 ax;rw[bZ]at aa;exact F1 (by simpa using J) (by simpa using aa)
  subst z6;exact⟨V.ref b::xs,⟨_,_,rfl,r,aH⟩,by rw[List.map_cons,e1];exact .cons rfl aT⟩
theorem IW{K:W.Frag}:∀{aj:List (Int×Value)}{au:List Int},Paired Pv.lh aj au->∃xs,bz K G (au.map Den.D.int) xs/\Vals xs (aj.map (·.2))
 |_,_,.nil=>⟨[],rfl,.nil⟩
 |e::aj,k::au,.cons ⟨_,t,e1⟩ iB=>by
  obtain⟨xs,aH,aT⟩:=IW (K:=K) iB;exact⟨V.int k::xs,⟨_,_,rfl,rfl,aH⟩,by rw[List.map_cons,e1];exact .cons ⟨t,rfl⟩ aT⟩
end
section
variable{xp:dx}{X:a4}{mu:List Nat}{m:fo}{f:bw->cq D}{e:Expr}{pos pos' p tg:Pos}{x y:Str}{pins:List (Addr×Obj)}{σ:dk}{G H:aD}{s:Shared}
def Zv{ds:List D}{Q:D->Prop}(h:cy (Den.eP ds) Q E):Den.h2 ds=true/\(Den.lA ds).length<=63/\Q (.lst (Den.hk (Den.lA ds))):=by
 unfold Den.eP at h;cases q:(Den.h2 ds&&decide ((Den.lA ds).length<=63)) with
 |false=>rw[q]at h;exact h.elim
 |true =>
  rw[q]at h;simp only[aa3,abk]at q;exact⟨q.1,q.2,h⟩
def Inv.grown(I:Inv X pins σ H s)(g:Pv.ud s s'):Inv X pins σ H s':=by
 obtain⟨h',g',d',qP,tf⟩:=s';obtain⟨k,e1,ar,bf⟩:=g;have e1:g'=s.gens:=e1;have ar:d'=s.drawn:=ar;have bf:tf=s.os:=bf;subst e1 ar bf;exact I.kept k
def I9(cu:X.A.handled=none)(bh:X.A.units+64<cLine)(I:Inv X pins σ H s)(af:bA G H)(ay:s.heap.get? a=some o)(O:Pv.nU X.w o aj a6 t)(r:bz X.K G ds xs)(v:Vals xs ((Pv.gn X.w a aj a6).toList.map (·.2)))(jb:Den.h2 ds=true)(gz:ds.length<=63)(k:∀v aM aq,Ext G H aM aq->cT X.K H aM aq .fresh (.lst (Den.hk ds)) v->Q v aq):wpAny (model X.prog X.w) X.A (call (.builtin "sorted") [.ref a]) (eS X pins σ Q) X.cb s:=by
 have hsz:(Pv.gn X.w a aj a6).size=aj.size:=by have:=(Pv.qu X.w a aj a6).length_eq;simpa using this
 have az:aj.size<=63:=by
  have J:=v.length;have aa:=r.length;simp only[List.length_map,Array.length_toList]at J;lia
 refine BU (Pv.Mo (A:=X.A.in1) cu ay O (by rw[sizeLine_eq];lia) λs' acc g ij=>?_);have e:acc.toList=(Pv.gn X.w a aj a6).toList.map (·.2):=by
  refine RY (P:=λi v=>∃x,(Pv.gn X.w a aj a6)[i]?=some x/\v=x.2) (l:=(Pv.gn X.w a aj a6).toList.map (·.2)) (by simpa[hsz] using ij) λi v aK=>?_
  obtain⟨z,J,aa⟩:=aK;rw[abj,abJ,J,aa];rfl
 rw[e];exact BS cu bh (Inv.grown I g) af r v (by rw[jb];rfl) gz k
def Zw(ag:X.calm=true)(bh:X.A.units+64<cLine)(I:Inv X pins σ H s)(af:bA G H)(cg:View X.K G H d z)(bc:RelV z u)(hw:cy (Den.en d>>=λxs=>Den.eP xs) (λd'=>∀v aM aq,Ext G H aM aq->cT X.K H aM aq .fresh d' v->Q v aq) (λ_=>False)):
  wpAny (model X.prog X.w) X.A (call (.type "set") [u]) (λw s1=>wpAny (model X.prog X.w) X.A (call (.builtin "sorted") [w]) (eS X pins σ Q) X.cb s1) X.cb s:=by
 obtain⟨ds,a,ys,rfl,aN,rs,hw⟩:=wj af cg (bJ.mp hw);obtain⟨jb,gz,hw⟩:=Zv hw;have cu:X.A.handled=none:=I.ok.hd ag;cases bc;obtain⟨its,br,T,bb,fO,nl,cG,kB⟩:∃(its:List Value),Vals ys its/\∃T bb fO nl,(T="list"\/T="tuple")/\s.heap.get? a=some { cls:=.type T,dict:=bb,data:=.seq its.toArray nl,slots:=fO }:=by
  rcases aN with aN|aN
  .obtain⟨its,br,⟨⟨cls,dd,data,bI⟩,n,ay,J,_,aE⟩,_⟩:=I.list aN;simp only at J aE;subst J aE;exact⟨its,br,"list",dd,bI,n,.inl rfl,ay⟩
  .obtain⟨its,br,⟨⟨cls,dd,data,bI⟩,ay,J,n,aE⟩,_⟩:=I.tuple aN;simp only at J aE;subst J aE;exact⟨its,br,"tuple",dd,bI,n,.inr rfl,ay⟩
 have keep:∀{h':Heap}{tk:Nat},(∀b o,b<s.heap.objs.size->s.heap.get? b=some o->h'.get? b=some o)->Inv X pins σ H { s with heap:=h',toks:=tk }:=λax=>I.kept λb o q=>ax b o (abc q) q
 unfold Den.h2 at jb;rw[acN]at jb;rcases jb with h|h
 .obtain⟨ns,rfl⟩:=ints_of h;have b3:IntsAre its ns:=(by rw[jo rs]at br;exact intsAre_of br);rw[bg.rF (f:=Den.D.int) bg.Eb]at gz hw;rw[List.length_map]at gz;refine Pv.Ds (Pv.R7 X.prog X.w) cG cu bh kB (show Paired (λv (k:Int)=>∃t,v=Value.int k t) its.toArray.toList ns from by simpa using Ii b3) (λi ai=>by have:=AS ns (ado ai);lia) λh' tk r a7 aB ax=>?_
  obtain⟨o,aj,a6,t,ay,hex,hd,fS,_,d4,ip,Ag,ot⟩:=a7;obtain⟨cQ,aO,a9⟩:=Pv.Paired.perm (Pv.qu X.w s.heap.objs.size aj a6) Ag;obtain⟨xs,aH,aT⟩:=IW (K:=X.K) (G:=G) a9;have e:Den.hk (cQ.map Den.D.int)=Den.hk ((bg.cX ns).map Den.D.int):=by
   rw[bg.l6 (f:=Den.D.int) (lt:=bg.ltI) λ_ _=>rfl,bg.l6 (f:=Den.D.int) (lt:=bg.ltI) λ_ _=>rfl,IU bg.h1 aO aB]
  refine I9 (s:={ s with heap:=h',toks:=tk }) cu bh (keep ax) af ay ⟨hex,hd,fS,d4,ip⟩ aH aT ?_ ?_ (by rw[e];exact hw)
  .unfold Den.h2;rw[bg.vK];rfl
  .rw[List.length_map];have:=IT aO aB;lia
 .obtain⟨au,rfl,dT⟩:=wK h;rw[bg.rF (f:=jY) bg.pJ]at gz hw;rw[List.length_map]at gz;refine Pv.Ds (Pv.Ga (xk X.K G) X.prog X.w) cG cu bh kB (by simpa using Ij I af rs br) (λi ai=>by have:=AS au (ado ai);lia) λh' tk r a7 aB ax=>?_
  obtain⟨o,aj,a6,t,ay,hex,hd,fS,_,d4,ip,Ag,ot⟩:=a7;obtain⟨cQ,aO,a9⟩:=Pv.Paired.perm (Pv.qu X.w s.heap.objs.size aj a6) Ag;have ck:Inv X pins σ H { s with heap:=h',toks:=tk }:=keep ax;obtain⟨xs,aH,aT⟩:=IV ck af a9;have e:Den.hk (cQ.map jY)=Den.hk ((bg.cX au).map jY):=by
   rw[bg.l6 (f:=jY) (lt:=bg.lexLt) bg.sV,bg.l6 (f:=jY) (lt:=bg.lexLt) bg.sV,IU bg.kJ aO aB]
  refine I9 (s:={ s with heap:=h',toks:=tk }) cu bh ck af ay ⟨hex,hd,fS,d4,ip⟩ aH aT ?_ ?_ (by rw[e];exact hw)
  .unfold Den.h2;rw[bg.yK λc ag=>dT c ?_,adL];have:=((aO.trans aB).mem_iff).mp ag;exact List.mem_of_mem_take ((Pv.vM au _ (aa9 _) c).mp this)
  .rw[List.length_map];have:=IT aO aB;lia
def WU(ag:X.calm=true)(bh:X.A.units+64<cLine)(ak:x="sorted")(aP:y="set")(m1:ff X x)(sm:X.aX x=none)(sj:ff X y)(so:X.aX y=none)(aw:aQ X e (bE xp X mu .view f))(c8:starEach [e] X.env=[(false,eval e X.env)]):
  aQ X (.Call (.Name x p) [.Call (.Name y tg) [e] [] pos'] [] pos) (bE xp X mu .fresh λρ=>f ρ>>=λd=>Den.en d>>=λxs=>Den.eP xs):=by
 subst ak aP;intro pins s σ H Q I ⟨G,ρ,af,hw⟩;refine acr (lV I m1 sm (u:=.builtin "sorted") (by kernel_rfl) ?_);refine adT ?_ rfl rfl;show wpAny _ _ (spliced ((false,eval (.Call (.Name "set" tg) [e] [] pos') X.env)::[])) _ _ s;refine acI ?_;refine acr (lV I sj so (u:=.type "set") (by kernel_rfl) ?_);refine ab2 (bR (nk aw c8 pos' pins s σ H (λah H1=>∃v d aJ,ah=[v]/\Ext G H aJ H1/\View X.K aJ H1 d v/\cy (Den.en d>>=λxs=>Den.eP xs) (λd'=>∀v aM aq,Ext aJ H1 aM aq->cT X.K H1 aM aq .fresh d' v->Q v aq) (λ_=>False)) I
  ⟨G,ρ,af,cj (bJ.mp hw) (λd k v aJ H1 aS aH=>?_) λ_ q=>q⟩) λus s1 ⟨ah,H1,a5,aH,aO⟩=>?_) c8 rfl
 .refine⟨v,d,aJ,rfl,aS,aH,?_⟩;refine cj (tX k λc=>?_) (λd' q qS cD aU cv aT=>q qS cD aU (aS.trans cv) (aT.old aS.h)) λ_ q=>q
  intro z;cases hd:Den.en d with
  |ok ds=>rw[hd]at z;have z:Den.eP ds=.exc c:=z;unfold Den.eP at z;split at z<;>cases z
  |exc c3=>cases d<;>cases hd
  |bad=>rw[hd]at z;cases z
 .obtain⟨v,d,aJ,e1,aS,cg,gj⟩:=aO;subst e1;obtain⟨u,rfl,bc⟩:=vals1 aH;refine bR (Zw ag bh a5 aS.sub cg bc gj) λw s2 aa=>?_
  exact adi aa
end
section
variable{xp:dx}{X:a4}{mu:List Nat}{m:fo}{f bl dz:bw->cq D}{a b e dN:Expr}{pos p p2 p3 p4:Pos}{pins:List (Addr×Obj)}{σ:dk}{G H:aD}{s:Shared}{x:Str}
def Zm (lo) : ∀ {n : Nat} {l : List Value}, l.length = n -> (∀ (i : Nat) v, l[i]? = some v -> ∃ t, v = .int (lo + i * 1) t) -> Vals ((List.range n).map fun (k : Nat) => V.int (lo + (k : Nat))) l := by
  intro n l az h
  subst az
  induction l generalizing lo with
  | nil => exact .nil
  | cons v l aG =>
    rw [List.length_cons, adK, List.map_cons, List.map_map]
    refine .cons ?_ ?_
    · obtain ⟨t, e⟩ := h 0 v rfl
      exact ⟨t, by rw [e]; simp⟩
    · have := aG (lo + 1) fun i w hw => by
        obtain ⟨t, e⟩ := h (i + 1) w (by simpa using hw)
        exact ⟨t, by rw [e]; congr 1; push_cast; lia⟩
      have ar : ((fun (k : Nat) => V.int (lo + (k : Nat))) ∘ Nat.succ) = fun (k : Nat) => V.int (lo + 1 + (k : Nat)) := by
        funext k; simp only [Function.comp]; congr 1; push_cast; lia
      rw [ar]; exact this
theorem H2{K:W.Frag}(lo):∀(l:List Nat),bz K G (l.map λ(k:Nat)=>Den.D.int (lo+(k:Nat))) (l.map λ(k:Nat)=>V.int (lo+(k:Nat)))
 |[]=>rfl
 |k::l=>⟨_,_,rfl,rfl,H2 lo l⟩
def Kj(aZ:ff X "range")(hm:X.aX "range"=none)(aw:aQ X a (bE xp X mu .view bl))(c8:starEach [a] X.env=[(false,eval a X.env)])(I:Inv X pins σ H s)(af:er X.K mu G H ρ σ){Q:List D->Prop}(hw:cy (bl ρ>>=λd=>Den.iH d>>=λi=>Den.kW 0 i) Q (λc=>eK xp X c H))(k:∀(s1:Shared)(aJ H1:aD)(n:Int)(r:Addr)(t u v:Tok)(h':Heap)(tk:Nat),Inv X pins σ H1 s1->Ext G H aJ H1->Q (Den.eY 0 n)->(-(2 ^ 62)<=n/\n<2 ^ 62/\(Den.eY 0 n).length<=16777216)->Inv X pins σ H1 { s1 with heap:=h',toks:=tk }->IsRange h' r 0 n 1 t u v->R (.ref r) { s1 with heap:=h',toks:=tk }):
  wpAny (model X.prog X.w) X.A (eval (.Call (.Name "range" p) [a] [] pos) X.env) R X.cb s:=by
 refine Call_ (lV I aZ hm boot_range (ab2 (bR (nk aw c8 pos pins s σ H (λah H1=>∃n aJ,ah=[.int n]/\Ext G H aJ H1/\Q (Den.eY 0 n)/\(-(2 ^ 62)<=n/\n<2 ^ 62/\(Den.eY 0 n).length<=16777216)) I
  ⟨G,ρ,af,cj (bJ.mp hw) (λd q v aJ H1 aS aH=>?_) λ_ q=>q⟩) λus s1 ⟨ah,H1,a5,aH,n,aJ,e1,aS,aN,ae⟩=>?_) c8 rfl))
 .have q:=bJ.mp q;cases d with
  |int i =>
   obtain⟨⟨_,_,b1,b2⟩,hz,q⟩:=Ia q;exact⟨i,aJ,by rw[cT.vU aH],aS,q,b1,b2,hz⟩
  |_=>exact q.elim
 .subst e1;obtain⟨u,rfl,b6⟩:=vals1 aH;obtain⟨t,rfl⟩:=b6;refine call_range_1 ?_;exact k s1 aJ H1 n _ _ _ _ _ _ a5 aS aN ae (a5.kept λb o e=>aa5 _ e) (IsRange.new ..)
def H8(n):Builtin.Range.rangeSize 0 n 1=((Den.eY 0 n).length:Int):=by
 unfold Den.eY;rw[List.length_map,List.length_range,rangeSize_one]
 split<;>lia
def VH(n):(Den.eY 0 n).length=n.toNat:=by unfold Den.eY;rw[List.length_map,List.length_range];congr 1;lia
def H9(h:ItemsOf (λi v=>∃t,v=.int (0+i*1) t) acc (Den.eY 0 n).length):∃xs,bz X.K G (Den.eY 0 n) xs/\Vals xs acc.toList:=by
 have az:acc.toList.length=n.toNat:=by rw[Array.length_toList,h.1,VH]
 have v:=Zm 0 az λi v aK=>h.2 i v (by simpa using aK)
 have e:Den.eY 0 n=(List.range n.toNat).map λ(k:Nat)=>Den.D.int (0+(k:Nat)):=by
  unfold Den.eY;rw[ae3]
 exact⟨_,by rw[e];exact H2 0 _,v⟩
def WW{y:Str}(ag:X.calm=true)(ak:x="range")(aP:y="tuple")(m1:ff X x)(sm:X.aX x=none)(sj:ff X y)(so:X.aX y=none)(aw:aQ X a (bE xp X mu .view bl))(c8:starEach [a] X.env=[(false,eval a X.env)]):
  aQ X (.Call (.Name y p2) [.Call (.Name x p) [a] [] pos] [] p3) (bE xp X mu .val λρ=>(bl ρ>>=λd=>Den.iH d>>=λi=>Den.kW 0 i)>>=λds=>.ok (.tup ds)):=by
 subst ak aP;intro pins s σ H Q I ⟨G,ρ,af,hw⟩;refine acr (lV I sj so (u:=.type "tuple") (by kernel_rfl) ?_);refine ab2 ?_ rfl rfl;show wpAny _ _ (spliced ((false,eval (.Call (.Name "range" p) [a] [] pos) X.env)::[])) _ _ s;refine acI ?_;refine Kj m1 sm aw c8 I af (bJ.mp hw) λs1 aJ H1 n r t u v h' tk a5 aS aN ae ck a3=>adi ?_
 have cu:X.A.handled=none:=ck.ok.hd ag;have aC:=H8 n;have meets:Meets (Builtin.«tuple.__new__» ⟨[.type "tuple",.ref r],[]⟩) (λA R s'=>A.handled=none/\IsRange s'.heap r 0 n 1 t u v /\
   ∀(s2:Shared)(acc:Array Value),Pv.ud s' s2->ItemsOf (λi v=>∃t,v=.int (0+i*1) t) acc (Den.eY 0 n).length->R (.ok (.ret (.ref s2.heap.objs.size))) { s2 with heap:=s2.heap.push { cls:=.type "tuple",data:=.seq acc } }) :=
  .of_wp λprog w A R s' h=>by
   obtain⟨J,aa,aE⟩:=h;have jc:=sub_tuple_self;have aac:=init_tuple_lookup;have aaj:=madeHere_tuple;have cG:s'.TypeIs (.ref r) "range":=⟨_,aa,rfl⟩;have aR:A.in1.handled=none:=J
   wp_walk using ac3 cG,Pv.Mn (A:=A.in1) aR aa (small_one ⋯ ⋯ ae.1 ae.2.1) aC ae.2.2
   intro s2 acc g ij;have e:acc.toList.toArray=acc:=(by simp);refine aa2 (m:=Builtin.Tuple.tupleExact acc.toList.toArray) (abE (aa4 ⟨_,rfl,?_⟩) (show acc.toList.toArray.size<=sizeLine by rw[e,ij.1,sizeLine_eq];exact ae.2.2));rw[e];exact aE s2 acc g ij
 refine callType_new F.called_tuple ∅ (F.typeCall_tuple_1 _) (F.newCall_tuple_1 _) (λobj=>F.args_object_init_2 obj _) F.entry_tuple_new meets ⟨cu,a3,λs2 acc g ij=>⟨⟨_,abd _ rfl,rfl⟩,?_⟩⟩;obtain⟨xs,k1,k2⟩:=H9 (X:=X) (G:=aJ) ij;have eA:=Inv.grown ck g;have e:acc=acc.toList.toArray:=by simp
 rw[e];exact G4 eA aS.sub k2 k1 (by rw[k2.length,Array.length_toList,ij.1,sizeLine_eq];exact ae.2.2) λv aM aq cv aT=>aN v aM aq (aS.trans cv) aT
def WG{y:Str}(ag:X.calm=true)(ak:x="range")(aP:y="list")(m1:ff X x)(sm:X.aX x=none)(sj:ff X y)(so:X.aX y=none)(aw:aQ X a (bE xp X mu .view bl))(c8:starEach [a] X.env=[(false,eval a X.env)]):
  aQ X (.Call (.Name y p2) [.Call (.Name x p) [a] [] pos] [] p3) (bE xp X mu .fresh λρ=>(bl ρ>>=λd=>Den.iH d>>=λi=>Den.kW 0 i)>>=λds=>.ok (.lst ds)):=by
 subst ak aP;intro pins s σ H Q I ⟨G,ρ,af,hw⟩;refine acr (lV I sj so (u:=.type "list") (by kernel_rfl) ?_);refine ab2 ?_ rfl rfl;show wpAny _ _ (spliced ((false,eval (.Call (.Name "range" p) [a] [] pos) X.env)::[])) _ _ s;refine acI ?_;refine Kj m1 sm aw c8 I af (bJ.mp hw) λs1 aJ H1 n r t u v h' tk a5 aS aN ae ck a3=>adi ?_
 have cu:X.A.handled=none:=ck.ok.hd ag;have aC:=H8 n;refine call_list_range cu a3 (small_one ⋯ ⋯ ae.1 ae.2.1) aC ae.2.2 λaa YS acc c ax aZ ij=>?_
 obtain⟨xs,k1,k2⟩:=H9 (X:=X) (G:=aJ) ij;have e:acc=acc.toList.toArray:=by simp
 rw[e]at aZ;refine⟨.ref h'.objs.size,_,ck.laid (t':=YS) (o:=.lst xs) ax (aa9 _) ⟨by rw[k2.length,Array.length_toList,ij.1,sizeLine_eq];exact ae.2.2,acc.toList,c,k2,aZ⟩,rfl,?_⟩;have fr:H1 h'.objs.size=none:=ck.fresh;exact aN _ aJ _ (aS.trans (Ext.own aS.sub fr λ_ z=>nomatch z)) ⟨_,xs,rfl,dC,aS.h.free fr,aS.sub.free fr,k1⟩
end
section
variable{X:a4}{pins:List (Addr×Obj)}{σ:dk}{G H:aD}{s:Shared}{h':Heap}
end
def CB:∀x y:Nat,(x ^^^ y)+2*(x &&& y)=x+y:=by
 intro x
 induction x using Nat.strongRecOn with
 |ind x aG =>
  intro y
  by_cases h:x=0
  .subst h;simp
  .have J:=aG (x / 2) ⋯ (y / 2);have e1:(x ^^^ y) / 2=x / 2 ^^^ y / 2:=aeT;have ar:(x &&& y) / 2=x / 2 &&& y / 2:=aec;have bf:(x ^^^ y)%2=(x%2+y%2)%2:=by
    have:=@adG x y;rcases abe x with a|a<;>rcases abe y with b|b<;>rcases abe (x ^^^ y) with c|c<;>simp[a,b,c]at this ⊢
   have eG:(x &&& y)%2=(x%2)*(y%2):=by
    have:=@ac5 x y;rcases abe x with a|a<;>rcases abe y with b|b<;>rcases abe (x &&& y) with c|c<;>simp[a,b,c]at this ⊢
   rw[<- e1,<- ar]at J;revert J bf eG;generalize x ^^^ y=p;generalize x &&& y=q;intro J bf eG;rcases abe x with a|a<;>rcases abe y with b|b<;>rw[a,b]at bf eG<;>lia
def CY(ai:0<=i)(aI:0<=j):Builtin.bitAnd i j=((i.toNat &&& j.toNat:Nat):Int):=by
 unfold Builtin.bitAnd;rw[decide_eq_true ai,decide_eq_true aI]
def KU(ai:0<=i)(aI:¬0<=j):Builtin.bitAnd i j=i-((i.toNat &&& (-j-1).toNat:Nat):Int):=by
 unfold Builtin.bitAnd;rw[decide_eq_true ai,decide_eq_false aI];rfl
def ZE(ai:0<=i)(aI:0<=j):Builtin.bitXor i j=((i.toNat ^^^ j.toNat:Nat):Int):=by
 rw[bitXor_and,CY ai aI];have:=CB i.toNat j.toNat;lia
section
variable{xp:dx}{X:a4}{mu:List Nat}{m:fo}{f bl dz fc:bw->cq D}{a b c e:Expr}{pos:Pos}{pins:List (Addr×Obj)}{σ:dk}{G H:aD}{s:Shared}
def Np:d3 X (binaryOp .BitAnd) (l4 X.K (Den.ej .and)):=by
 intro pins s σ H x y v u Q I bc bM ⟨G,bk,dt,af,cg,ep,hw⟩;cases bk<;>cases dt<;>first|exact hw.elim|skip
 rename_i i j;have hw:cy (Den.nX i j) _ _:=hw;unfold Den.nX at hw
 by_cases h:0<=i
 .rw[if_pos h]at hw
  by_cases aa:0<=j
  .rw[if_pos aa]at hw;exact Hj pins s σ H x y v u Q I bc bM ⟨_,_,cg,ep,by dsimp only;rw[CY h aa];exact mU af hw rfl⟩
  .rw[if_neg aa]at hw;exact Hj pins s σ H x y v u Q I bc bM ⟨_,_,cg,ep,by dsimp only;rw[KU h aa];exact mU af hw rfl⟩
 .rw[if_neg h]at hw;exact hw.elim
def Ny:d3 X (binaryOp .BitXor) (l4 X.K (Den.ej .xor)):=by
 intro pins s σ H x y v u Q I bc bM ⟨G,bk,dt,af,cg,ep,hw⟩;cases bk<;>cases dt<;>first|exact hw.elim|skip
 rename_i i j;have hw:cy (Den.t2 i j) _ _:=hw;unfold Den.t2 at hw
 by_cases h:0<=i/\0<=j
 .rw[if_pos h]at hw;exact Un pins s σ H x y v u Q I bc bM ⟨_,_,cg,ep,by dsimp only;rw[ZE h.1 h.2];exact mU af hw rfl⟩
 .rw[if_neg h]at hw;exact hw.elim
def IA(ag:eU X c (gs xp X mu fc))(aw:aQ X a (bE xp X mu m bl))(ae:aQ X b (bE xp X mu m dz)):aQ X (.IfExp c a b pos) (bE xp X mu m λρ=>fc ρ>>=λx=>Den.ei x>>=λk=>if k then bl ρ else dz ρ):=by
 intro pins s σ H Q I ⟨G,ρ,af,hw⟩;refine UE ag aw ae pins s σ H Q I ?_;refine⟨G,ρ,af,bJ.mpr (cj (bJ.mp hw) (λd k=>cj (bJ.mp k) (λc4 q aJ H1 aS=>?_) λ_ q=>q) λ_ q=>q)⟩;cases c4 with
 |true=>simp only[abU]at q ⊢;exact⟨aJ,ρ,af.ext aS,cj q (λd dK v cD aU cv aT=>dK v cD aU (aS.trans cv) (aT.old aS.h)) λ_ z=>z.mono aS.h⟩
 |false=>simp only[aa6,abp]at q ⊢;exact⟨aJ,ρ,af.ext aS,cj q (λd dK v cD aU cv aT=>dK v cD aU (aS.trans cv) (aT.old aS.h)) λ_ z=>z.mono aS.h⟩
def WC(ag:eU X c (gs xp X mu fc))(aw:eU X a (gs xp X mu bl))(ae:eU X b (gs xp X mu dz)):eU X (.IfExp c a b pos) (gs xp X mu λρ=>fc ρ>>=λx=>Den.ei x>>=λk=>if k then bl ρ else dz ρ):=by
 intro pins s σ H Q I ⟨G,ρ,af,hw⟩;refine PyProof.Rows.isTrue_IfExp (bR (ag pins s σ H (λc4 H1=>∃aJ,Ext G H aJ H1/\cy ((if c4 then bl ρ else dz ρ)>>=Den.ei) (λb=>∀aM aq,Ext G H aM aq->Q b aq) (λc=>eK xp X c H)) I ⟨G,ρ,af,?_⟩) λd s1 ⟨H1,a5,aJ,aS,aO⟩=>?_)
 .refine bJ.mpr (cj (bJ.mp (bJ.mp hw)) (λd k=>cj (bJ.mp k) (λc4 q aJ H1 aS=>⟨aJ,aS,bJ.mpr q⟩) λ_ q=>q) λ_ q=>q)
 .have go:∀{g:bw->cq D}{e:Expr},eU X e (gs xp X mu g)->cy (g ρ>>=Den.ei) (λb=>∀aM aq,Ext G H aM aq->Q b aq) (λc=>eK xp X c H)->wpAny (model X.prog X.w) X.A (isTrue e X.env (eval e X.env)) (xo X pins σ Q) X.cb s1:=λ{g e} h q =>
   h pins s1 σ H1 Q a5 ⟨aJ,ρ,af.ext aS,cj q (λb dK cD aU cv=>dK cD aU (aS.trans cv)) λ_ z=>z.mono aS.h⟩
  cases d with
  |true=>exact go aw aO
  |false=>exact go ae aO
theorem qb:∀{ds:List D}{k:List Int},Den.intsOf ds=some k->ds=k.map .int
 |[],_,h=>by cases h;rfl
 |.int i::ds,k,h=>by
  cases q:Den.intsOf ds with
  |none=>simp[Den.intsOf,q]at h
  |some c4 =>
   simp only[Den.intsOf,q,Option.map_some,abV]at h;subst h;rw[qb q];rfl
 |.dV::_,_,h=>by cases h
 |.aV _::_,_,h=>by cases h
 |.str _::_,_,h=>by cases h
 |.tup _::_,_,h=>by cases h
 |.lst _::_,_,h=>by cases h
 |.b4 _::_,_,h=>by cases h
 |.bK _::_,_,h=>by cases h
 |.dR _::_,_,h=>by cases h
 |.hA _::_,_,h=>by cases h
def ints_list(I:Inv X pins σ H s){K:W.Frag}(af:bA G H)(cg:View X.K G H (.lst (ns.map .int)) z)(bc:RelV z u):∃(a:Addr)(xs:Array (Int×Tok)),u=.ref a/\s.heap.IsList a (intItems xs)/\xs.toList.map (·.1)=ns:=by
 obtain⟨a,ys,rfl,aN,rs⟩:=cg;cases bc;rw[jo rs]at aN;obtain⟨its,br,cn,hz⟩:=I.list aN;have ai:IntsAre its ns:=intsAre_of br;obtain⟨xs,ex⟩:=ai.allInts.items;refine⟨a,xs,rfl,by rw[<- ex];exact cn.isList,?_⟩;rw[<- nums_intItems,<- ex];exact ai.numsOf
def Pb(ag:X.calm=true):g5 X (.builtin "sum") (kV X.K m λd=>Den.qj d>>=λxs=>Den.jr xs):=by
 intro pins s σ H xs us Q I r ⟨G,z,d,ex,af,cg,hw⟩;subst ex;obtain⟨u,rfl,bc⟩:=vals1 r;cases d with
 |lst ds =>
  have je:cy (Den.jr ds) _ _:=hw;clear hw;unfold Den.jr at je;cases q:Den.intsOf ds with
  |none=>rw[q]at je;exact je.elim
  |some ns =>
   rw[q]at je;cases qb q;obtain⟨a,xs,rfl,az,lG⟩:=ints_list (K:=X.K) I af cg bc;refine sum_intListG (I.ok.hd ag) az λh' tk t' ax=>?_
   refine⟨.int ns.sum,H,I.kept ax,⟨t',?_⟩,je _ G H (Ext.refl af) cT.int⟩;rw[preSum_eq,acE (by simp),lG]
 |_=>exact hw.elim
theorem C2(g:Nat->Int):∀k,g (argBest (λi j=>decide (g i>g j)) k)=((List.range k).map λi=>g (i+1)).foldl (λm x=>if x>m then x else m) (g 0)
 |0=>rfl
 |k+1=>by
  rw[List.range_succ,List.map_append,List.foldl_append,<- C2 g k];show g (if decide (g (k+1)>g (argBest (λi j=>decide (g i>g j)) k))=true then k+1 else argBest (λi j=>decide (g i>g j)) k)=_;simp only[List.map_cons,ac4,List.foldl_cons,List.foldl_nil]
  by_cases h:g (k+1)>g (argBest (λi j=>decide (g i>g j)) k)
  .rw[if_pos (decide_eq_true h),if_pos h]
  .rw[if_neg (by simpa using h),if_neg h]
def TV(xs)(n)(ns)(h:xs.toList.map (·.1)=n::ns):numAt xs 0=n/\(List.range (xs.size-1)).map (λi=>numAt xs (i+1))=ns:=by
 have aZ:∀i,numAt xs i=((n::ns)[i]?).getD 0:=λi=>by
  unfold numAt;rw[<- h,abj,abJ]
 have hz:xs.size=ns.length+1:=by
  have:=ab6 List.length h;simpa using this
 refine⟨by rw[aZ];rfl,?_⟩;rw[hz,Nat.add_sub_cancel];apply acy;intro i;rw[abj]
 by_cases ai:i<ns.length
 .rw[acW ai,Option.map_some,aZ,List.getElem?_cons_succ,aba ai];rfl
 .rw[abu (by simpa using ai),abu (by simpa using ai)];rfl
def O7(ag:X.calm=true):g5 X (.builtin "max") (kV X.K m λd=>Den.qj d>>=λxs=>Den.kO xs):=by
 intro pins s σ H xs us Q I r ⟨G,z,d,ex,af,cg,hw⟩;subst ex;obtain⟨u,rfl,bc⟩:=vals1 r;cases d with
 |lst ds =>
  have je:cy (Den.kO ds) _ _:=hw;clear hw;unfold Den.kO at je;cases q:Den.intsOf ds with
  |none=>rw[q]at je;exact je.elim
  |some ns =>
   rw[q]at je;cases ns with
   |nil=>exact je.elim
   |cons n ns =>
    cases qb q;obtain⟨a,xs,rfl,az,lG⟩:=ints_list (K:=X.K) I af cg bc;obtain⟨e0,e1⟩:=TV xs n ns lG;have hz:0<xs.size:=by
     have:=ab6 List.length lG;simp at this;lia
    refine max_intList (I.ok.hd ag) az hz λv h' tk aK ax=>?_
    obtain⟨t,rfl⟩:=intItems_at aK;refine⟨.int (ns.foldl (λm x=>if x>m then x else m) n),H,I.kept ax,⟨t,?_⟩,je _ G H (Ext.refl af) cT.int⟩;rw[C2 (numAt xs),e0,e1]
 |_=>exact hw.elim
end
section
variable{xp:dx}{X:a4}{mu:List Nat}{m:fo}{f:bw->cq D}{e dN iter:Expr}{pos p1 p4 ap dJ:Pos}{i:Nat}{x n:Str}{tO:List Stmt}
def DA{o:Option (Option D)}(h:cy (Den.mG o) Q E):∃ds,o=some (some (.lst ds))/\Q ():=by
 cases o with
 |none=>exact h.elim
 |some o =>
  cases o with
  |none=>exact h.elim
  |some d =>
   cases d with
   |lst ds=>exact⟨ds,rfl,h⟩
   |_=>exact h.elim
def zW(c8:starEach [e] X.env=[(false,eval e X.env)]):((backTo dJ (starEach [e] X.env)).all (λx=>!x.1)&&(backToKw dJ (keywordEach [] X.env)).all (λx=>x.1.isSome)&&decide ([e].length+([]:List Keyword).length+(if ([]:List Keyword).isEmpty then 0 else 1)<30))=true:=by
 rw[c8];rfl
def Wg(hm:i∈mu)(aC:n="append")(aL:X.N[i]?=some x)(aK:fj X.env.scope x)(J:(x==("__debug__":Str))=false)(aa:(x==("__classdict__":Str))=false)(iO:(ap.endLine==dJ.line)=true)(he:aQ X e (bE xp X mu .val f))(c8:starEach [e] X.env=[(false,eval e X.env)]):
  dg X (.Expr (.Call (.Attribute (.Name x p1) n ap) [e] [] dJ) p4) (c1 xp X mu λρ=>Den.mG ρ[i]?>>=λ_=>f ρ>>=λd=>Den.rk ρ[i]? d>>=λy=>.ok (.bD (ρ.set i (some y)))):=by
 subst aC;intro pins s σ H T I ⟨bp,a8,G,ρ,ae,hw⟩;refine Bm (Bd ac1 PySem.F.slot_list_append PySem.F.type_list_append GS (gp aL aK J aa) (nk he c8) rfl (zW c8) iO c8 rfl) rfl pins s σ H T I ?_;obtain⟨ds,q,hw⟩:=DA (bJ.mp hw);obtain⟨a,o,k1,k2,k3,xs,rfl,b8⟩:=ae.bY.lst i (.lst ds) q hm rfl;refine⟨_,k1,.inl ⟨rfl,xs,eg.of k2⟩,?_⟩;refine⟨G,ρ,ae.bY,cj (bJ.mp hw) (λd k v aJ H1 aS aH=>?_) λ_ z=>z.mono ae.ext.h⟩;have fY:=ae.step aS;rw[q,Den.uq]at k;have k:=bJ.mp k
 by_cases hz:ds.length<Den.SZ
 .rw[if_pos hz]at k;have r9:H1 a=some (.lst xs):=aS.h _ _ k2;have r8:aJ a=none:=aS.new a k3 (by rw[k2];exact λz=>nomatch z);refine⟨a,xs,v,rfl,rfl,r9,by rw[<- b8.length,<- rf];exact hz,?_⟩;exact k σ aJ _ (fY.write (d:=.lst ds) (e:=.lst (ds++[d])) hm q rfl rfl k1 r8 ⟨_,rfl,(b8.mono aS.g).snoc aH⟩)
 .rw[if_neg hz]at k;exact k.elim
noncomputable def hG(aJ a8:aD):aD:=λa=>match aJ a with
 |some o=>some o
 |none=>a8 a
def m4(h:aJ a=some o):hG aJ a8 a=some o:=by unfold hG;rw[h]
def jg(h:aJ a=none):hG aJ a8 a=a8 a:=by unfold hG;rw[h]
variable{K:W.Frag}{bp a8 aJ H1 G H:aD}{ρ:bw}{σ:dk}
def IJ(x:Ext bp a8 aJ H1):bA a8 (hG aJ a8):=λa o h=>by
 cases q:aJ a with
 |none=>rw[jg q];exact h
 |some bL =>
  rw[m4 q];have e1:=x.sub a bL q;have ar:=x.h a o h;rw[e1]at ar;exact ar
def OR(x:Ext bp a8 aJ H1)(y:Ext bp a8 G H)(s:bA aJ G):Ext aJ (hG aJ a8) G H where
 g:=s
 h:=λa o e=>by
  cases q:aJ a with
  |some bL=>rw[m4 q]at e;cases e;exact y.sub a o (s a o q)
  |none=>rw[jg q]at e;exact y.h a o e
 sub:=y.sub
 new:=λa e1 ar=>by
  rw[jg e1]at ar;refine y.new a ?_ ar;cases q:bp a with
  |none=>rfl
  |some o=>rw[x.g a o q]at e1;cases e1
 dB:=λb xs z=>(y.dB b xs z).elim (λw=>.inl (by
  cases q:aJ b with
  |none=>rw[jg q];exact w
  |some o=>rw[m4 q];rw[y.sub b o (s b o q)]at z;exact z)) .inr
def Eu(x:Ext bp a8 aJ H1)(y:Ext aJ (hG aJ a8) G H):Ext bp a8 G H where
 g:=x.g.trans y.g
 h:=(IJ x).trans y.h
 sub:=y.sub
 new:=λa e1 ar=>by
  have q:=x.new a e1 ar;exact y.new a q (by rw[jg q];exact ar)
 dB:=λb xs z=>(y.dB b xs z).elim (λw=>by
  cases q:aJ b with
  |none=>rw[jg q]at w;exact .inl w
  |some o=>rw[m4 q]at w;exact .inr (y.g _ _ (q.trans w))) .inr
def bS.re(x:Ext bp a8 aJ H1)(h:bS K mu bp a8 G H ρ σ)(s:bA aJ G):bS K mu aJ (hG aJ a8) G H ρ σ:=by
 refine⟨h.bY,OR x h.ext s,λi ds a q fs ai e=>?_⟩;obtain⟨b,xs,k1,k2,k3,b8⟩:=h.bY.lst i ds q ai fs;rw[k1]at e;cases e;have:aJ a=none:=by
  cases z:aJ a with
  |none=>rfl
  |some o=>rw[s a o z]at k3;cases k3
 rw[jg this];exact h.own i ds a q fs ai k1
def bS.back(x:Ext bp a8 aJ H1)(h:bS K mu aJ (hG aJ a8) G H ρ σ):bS K mu bp a8 G H ρ σ:=by
 refine⟨h.bY,Eu x h.ext,λi ds a q fs ai e=>?_⟩;have:=h.own i ds a q fs ai e;cases z:aJ a with
 |some o=>rw[m4 z]at this;cases this
 |none=>rw[jg z]at this;exact this
theorem bS.IQ:∀{ts:List Nat}{ws:List D}{ah:List V}{ρ:bw}{σ:dk},(∀t∈ts,t∉mu)->bS K mu bp a8 G H ρ σ->bz K G ws ah->bS K mu bp a8 G H (Den.l5 ts (ws.map some) ρ) (nB ts ah σ)
 |[],ws,ah,ρ,σ,_,h,r=>by simpa[Den.l5,nB] using h
 |t::ts,[],ah,ρ,σ,_,h,r=>by cases r;simpa[Den.l5,nB] using h
 |t::ts,w::ws,ah,ρ,σ,aA,h,⟨v,r,e,aH,aT⟩=>by
  subst e;exact bS.IQ (ts:=ts) (λz hz=>aA z (List.mem_cons_of_mem _ hz)) (h.tJ (aA t List.mem_cons_self) aH) aT
def Pu(g:D->bw->cq Den.et)(d:D)(ds:List D)(ρ:bw):Den.forL g (d::ds) ρ=g d ρ>>=λr=>match r with
  |.bD bP=>Den.forL g ds bP
  |.cC x=>.ok (.cC x):=rfl
def Wy(aB:PassesOwn (model X.prog X.w) X.A X.env X.cb)(ag:X.calm=true)(Ro:∀t∈ts,t∉mu)(ai:h9 X dN iter (k4 xp X mu .val mS))(aZ:nS X dN (zr X.K k ts))(ae:fp X tO (c1 xp X mu zv))(af:∀z,foldedSetIterable iter X.env z=pure z):dg X (.For dN iter tO [] pos) (c1 xp X mu λρ=>mS ρ>>=λds=>Den.forL (λd bP=>Den.gx k d>>=λah=>zv (Den.l5 ts ah bP)) ds ρ):=by
 intro pins s σ H T I ⟨bp,a8,G,ρ,ik,hw⟩;refine Vl aB ag ai aZ ae af pins s σ H T I ?_;refine⟨G,ρ,ik.bY,cj (bJ.mp hw) (λds hY dG aJ H1 aS lQ hz=>?_) λ_ q=>q.mono ik.ext.h⟩;have w3:Ext bp a8 aJ H1:=ik.ext.trans aS;have Xk:=IJ w3;refine⟨λj m cw aq=>j+m=ds.length/\∃aM bP,bS X.K mu aJ (hG aJ a8) aM aq bP cw/\cy (Den.forL (λd bP=>Den.gx k d>>=λah=>zv (Den.l5 ts ah bP)) (ds.drop j) bP) (hQ X.K mu bp a8 T) (λc=>eK xp X c a8),
  ⟨ds.length,⋯,aJ,ρ,bS.re w3 (ik.step aS) (bA.refl _),by simpa using hY⟩,?_⟩
 rintro j m cw aq ⟨aI,aM,bP,dF,gj⟩;have og:rd .val aJ H1 aM aq:=⟨dF.ext.g,dF.bY.sub⟩
 by_cases bV:j<ds.length
 .refine .inr ⟨lQ.go j aM aq og bV,λnL aU=>(j+1)+(m-1)=ds.length/\∃cD j3,bS X.K mu aJ (hG aJ a8) cD aU j3 nL/\cy (Den.forL (λd bP=>Den.gx k d>>=λah=>zv (Den.l5 ts ah bP)) (ds.drop (j+1)) j3) (hQ X.K mu bp a8 T) (λc=>eK xp X c a8),
   λnL aU aa=>⟨m-1,⋯,aa⟩,λv aU aP=>?_⟩
  have hd:ds[j]?=some ds[j]:=aba bV;obtain⟨cD,cv,cZ⟩:=lQ.lg j aM aq v aU ds[j] og dF.bY.sub hd aP;have BH:=dF.step cv;have NT:ds.drop j=ds[j]::ds.drop (j+1):=acK bV;rw[NT,Pu]at gj;have gj:=bJ.mp (bJ.mp gj);refine⟨cD,ds[j],cv.sub,cZ,?_⟩;cases q:Den.gx k ds[j] with
  |bad=>rw[q]at gj;exact gj
  |exc c =>
   exfalso;cases k with
   |zero=>cases q
   |succ k =>
    cases fZ:ds[j] with
    |tup zs =>
     rw[fZ]at q;have Qd:Den.gx (k+1) (.tup zs)=if zs.length=k+1 then .ok (zs.map some) else .bad:=rfl;rw[Qd]at q
     split at q<;>cases q
    |_=>rw[fZ]at q;cases q
  |ok os =>
   rw[q]at gj;intro ws ah yU Wb;subst yU;refine⟨aJ,hG aJ a8,cD,_,bS.IQ Ro BH Wb,cj gj (λr Ge=>?_) λc z=>z.mono Xk⟩;cases r with
   |bD j3=>exact λjv nM bt W0=>⟨⋯,nM,j3,W0,Ge⟩
   |cC d=>exact λCn nM bt nJ de=>Ge Cn nM bt (Eu w3 nJ) de
 .have lE:j=ds.length:=⋯;subst lE;refine .inl ⟨lQ.stop aM aq og,?_⟩;rw[List.drop_length]at gj;exact gj cw aM aq (bS.back w3 dF)
end
def p8(a k:List Int):decide (a.map (Sum.inl (β:=Str))=k.map Sum.inl)=decide (a=k):=by
 by_cases h:a=k
 .simp[h]
 .have:a.map (Sum.inl (β:=Str))≠k.map Sum.inl:=λz=>h ((List.map_inj_right (λa b=>aew)).mp z)
  simp[h,this]
def NF(ao)(k):gX (ha ao) (k.map Sum.inl)=(Den.o7 ao k).map V.int:=by
 induction ao with
 |nil=>rfl
 |cons p ao aG =>
  unfold gX Den.o7 ha at aG ⊢;rw[List.map_cons,List.find?_cons,List.find?_cons];dsimp only;rw[p8]
  by_cases h:p.1=k
  .simp[h]
  .simp only[decide_eq_false h];exact aG
def ND(ao)(k)(n):putK (ha ao) (k.map Sum.inl) (V.int n)=ha (Den.putN ao k n):=by
 have e1:((ha ao).any λcK=>decide (cK.1=k.map Sum.inl))=ao.any λp=>decide (p.1=k):=by
  induction ao with
  |nil=>rfl
  |cons p ao aG=>unfold ha at aG ⊢;rw[List.map_cons,List.any_cons,List.any_cons,aG,p8]
 have ar:(ha ao).map (λcK=>if cK.1=k.map Sum.inl then(cK.1,V.int n) else cK)=ha (ao.map λp=>if p.1=k then(p.1,n) else p):=by
  unfold ha;rw[List.map_map,List.map_map];refine abB λp _=>?_
  have:=p8 p.1 k
  by_cases h:p.1=k
  .simp[h]
  .have h':¬p.1.map (Sum.inl (β:=Str))=k.map Sum.inl:=(by simpa[h] using this);simp[h,h']
 unfold putK Den.putN;rw[e1]
 split
 .exact ar
 .unfold ha;rw[List.map_append];rfl
def Ay(k:List Int):(k.map (Sum.inl (β:=Str))).map dc=k.map V.int:=by rw[List.map_map];rfl
def rE{o:Option (Option D)}(h:Den.kj o=some ao):o=some (some (.b4 ao)):=by
 unfold Den.kj at h
 split at h
 .cases h;rfl
 .cases h
def uI{o:Option (Option D)}(h:Den.i6 o=some ao):o=some (some (.bK ao)):=by
 unfold Den.i6 at h
 split at h
 .cases h;rfl
 .cases h
def jD{α:Type}{f:D->Option α}{o:Option (Option D)}{a:α}(h:Den.eE f o=some a):∃d,o=some (some d)/\f d=some a:=by
 unfold Den.eE at h
 split at h
 .exact⟨_,rfl,h⟩
 .cases h
def sI{d:D}(h:Den.intD d=some i):d=.int i:=by
 unfold Den.intD at h
 split at h
 .cases h;rfl
 .cases h
def qQ{d:D}(h:Den.gK d=some k):d=.tup (k.map .int):=by
 unfold Den.gK at h
 split at h
 .rw[qb h]
 .cases h
def Ig{d:D}(h:Den.rowOf d=some r):d=Den.oV r:=by
 unfold Den.rowOf at h
 split at h
 .split at h
  .rename_i e;cases h;rw[qb e];rfl
  .cases h
 .cases h
def rD{o:Option (Option D)}(h:Den.ki o=some ao):o=some (some (.dR ao)):=by
 unfold Den.ki at h
 split at h
 .cases h;rfl
 .cases h
theorem JQ:∀{xs:List D}{au:List (List Int)},Den.tR xs=some au->xs=au.map λk=>.tup (k.map .int)
 |[],au,h=>by cases h;rfl
 |x::xs,au,h=>by
  unfold Den.tR at h;cases e1:Den.gK x with
  |none=>rw[e1]at h;cases h
  |some k =>
   cases ar:Den.tR xs with
   |none=>rw[e1,ar]at h;cases h
   |some cQ =>
    rw[e1,ar]at h;cases h;rw[qQ e1,JQ ar];rfl
def LZ{d:D}(h:Den.uB d=some cs):d=Den.n5 cs:=by
 unfold Den.uB at h
 split at h
 .rw[JQ h];rfl
 .cases h
theorem ints_rep{K:W.Frag}:∀ns:List Int,bz K G (ns.map Den.D.int) (ns.map V.int)
 |[]=>rfl
 |n::ns=>⟨.int n,ns.map V.int,rfl,rfl,ints_rep ns⟩
theorem DI{K:W.Frag}:∀{cs:List (List Int)}{xs:List V},bz K G (cs.map λc=>.tup (c.map .int)) xs->iC G cs xs
 |[],_,h=>h
 |c::cs,_,⟨v,r,e,⟨a,ys,ar,J,aa⟩,aE⟩=>by subst e ar;rw[jo aa]at J;exact⟨a,r,rfl,J,DI aE⟩
theorem yH{K:W.Frag}:∀{cs:List (List Int)}{xs:List V},iC G cs xs->bz K G (cs.map λc=>.tup (c.map .int)) xs
 |[],_,h=>h
 |c::cs,_,⟨b,r,e,J,aa⟩=>⟨_,r,e,⟨b,_,rfl,J,ints_rep c⟩,yH aa⟩
section
variable{G:aD}
theorem eB.val:∀{ao:List (List Int×List (List Int))}{ys:List (List Key×V)},eB G ao ys->∀k:List Int,(Den.qT ao k=none/\gX ys (k.map Sum.inl)=none)\/∃cs b xs,Den.qT ao k=some cs/\gX ys (k.map Sum.inl)=some (.ref b)/\G b=some (.tup xs)/\iC G cs xs
 |[],_,h,k=>by cases h;exact .inl ⟨rfl,rfl⟩
 |p::ao,_,⟨b,xs,t,e,J,aa,aE⟩,k=>by
  subst e;unfold Den.qT gX;rw[List.find?_cons,List.find?_cons];dsimp only;rw[p8]
  by_cases c:p.1=k
  .rw[decide_eq_true c];exact .inr ⟨p.2,b,xs,rfl,rfl,J,aa⟩
  .rw[decide_eq_false c];exact eB.val aE k
theorem eB.any:∀{ao:List (List Int×List (List Int))}{ys:List (List Key×V)},eB G ao ys->∀k:List Int,(ys.any λcK=>decide (cK.1=k.map Sum.inl))=ao.any λp=>decide (p.1=k)
 |[],_,h,k=>by cases h;rfl
 |p::ao,_,⟨b,xs,t,e,J,aa,aE⟩,k=>by
  subst e;rw[List.any_cons,List.any_cons,eB.any aE k,p8]
theorem eB.map{k:List Int}(ae:G b=some (.tup xs))(ag:iC G cs xs):∀{ao:List (List Int×List (List Int))}{ys:List (List Key×V)},eB G ao ys->eB G (ao.map λp=>if p.1=k then(p.1,cs) else p) (ys.map λcK=>if cK.1=k.map Sum.inl then(cK.1,.ref b) else cK)
 |[],_,h=>by cases h;rfl
 |p::ao,_,⟨fT,t4,t,e,J,aa,aE⟩=>by
  subst e;rw[List.map_cons,List.map_cons];have hd:=p8 p.1 k
  by_cases c:p.1=k
  .rw[if_pos c,if_pos (by rw[c])];exact⟨b,xs,_,rfl,ae,ag,eB.map ae ag aE⟩
  .rw[if_neg c,if_neg (by simpa[c] using hd)];exact⟨fT,t4,_,rfl,J,aa,eB.map ae ag aE⟩
theorem eB.snoc(ae:G b=some (.tup xs))(ag:iC G q.2 xs):∀{ao:List (List Int×List (List Int))}{ys:List (List Key×V)},eB G ao ys->eB G (ao++[q]) (ys++[(q.1.map Sum.inl,.ref b)])
 |[],_,h=>by cases h;exact⟨b,xs,[],rfl,ae,ag,rfl⟩
 |p::ao,_,⟨fT,t4,t,e,J,aa,aE⟩=>by subst e;exact⟨fT,t4,_,rfl,J,aa,eB.snoc ae ag aE⟩
def eB.put(h:eB G ao ys)(k)(ae:G b=some (.tup xs))(ag:iC G cs xs):eB G (Den.v7 ao k cs) (putK ys (k.map Sum.inl) (.ref b)):=by
 unfold Den.v7 putK;rw[h.any k]
 split
 .exact h.map ae ag
 .exact h.snoc (q:=(k,cs)) ae ag
theorem eB.len:∀{ao:List (List Int×List (List Int))}{ys:List (List Key×V)},eB G ao ys->ys.length=ao.length
 |[],_,h=>by cases h;rfl
 |p::ao,_,⟨b,xs,t,e,J,aa,aE⟩=>by subst e;rw[List.length_cons,List.length_cons,eB.len aE]
end
section
variable{G:aD}
theorem eC.val:∀{ao:List (Int×Int×Int)}{ys:List (Key×V)},eC G ao ys->∀{k:Int}{r:Int×Int},Den.nG ao k=some r->∃b,gX ys (Sum.inl k)=some (.ref b)/\G b=some (.tup [.int r.1,.int r.2])
 |[],_,_,k,r,e=>by cases e
 |p::ao,_,⟨b,t,e,J,aa⟩,k,r,q=>by
  subst e;unfold Den.nG at q;unfold gX;rw[List.find?_cons]at q ⊢
  by_cases c:p.1=k
  .simp only[c,aeZ,Option.map_some,abV]at q ⊢;subst q;exact⟨b,rfl,J⟩
  .have c3:¬(Sum.inl p.1:Key)=Sum.inl k:=λz=>c (aew z)
   simp only[c,c3,decide_false]at q ⊢;exact eC.val aa q
theorem eC.any:∀{ao:List (Int×Int×Int)}{ys:List (Key×V)},eC G ao ys->∀k:Int,(ys.any λcK=>decide (cK.1=Sum.inl k))=ao.any λp=>decide (p.1=k)
 |[],_,h,k=>by cases h;rfl
 |p::ao,_,⟨b,t,e,J,aa⟩,k=>by
  subst e;rw[List.any_cons,List.any_cons,eC.any aa k];congr 1
  by_cases c:p.1=k
  .simp[c]
  .have c3:¬(Sum.inl p.1:Key)=Sum.inl k:=λz=>c (aew z)
   simp[c,c3]
theorem eC.map(ae:G b=some (.tup [.int r.1,.int r.2])):∀{ao:List (Int×Int×Int)}{ys:List (Key×V)},eC G ao ys->eC G (ao.map λp=>if p.1=k then(p.1,r) else p) (ys.map λcK=>if cK.1=Sum.inl k then(cK.1,.ref b) else cK)
 |[],_,h=>by cases h;rfl
 |p::ao,_,⟨fT,t,e,J,aa⟩=>by
  subst e;rw[List.map_cons,List.map_cons]
  by_cases c:p.1=k
  .rw[if_pos c,if_pos (by rw[c])];exact⟨b,_,rfl,ae,eC.map ae aa⟩
  .rw[if_neg c,if_neg λz=>c (aew z)];exact⟨fT,_,rfl,J,eC.map ae aa⟩
theorem eC.snoc(ae:G b=some (.tup [.int q.2.1,.int q.2.2])):∀{ao:List (Int×Int×Int)}{ys:List (Key×V)},eC G ao ys->eC G (ao++[q]) (ys++[(Sum.inl q.1,.ref b)])
 |[],_,h=>by cases h;exact⟨b,[],rfl,ae,rfl⟩
 |p::ao,_,⟨fT,t,e,J,aa⟩=>by subst e;exact⟨fT,_,rfl,J,eC.snoc ae aa⟩
def eC.put(h:eC G ao ys)(k)(ae:G b=some (.tup [.int r.1,.int r.2])):eC G (Den.l3 ao k r) (putK ys (Sum.inl k) (.ref b)):=by
 unfold Den.l3 putK;rw[h.any k]
 split
 .exact h.map ae
 .exact h.snoc (q:=(k,r)) ae
theorem eC.len:∀{ao:List (Int×Int×Int)}{ys:List (Key×V)},eC G ao ys->ys.length=ao.length
 |[],_,h=>by cases h;rfl
 |p::ao,_,⟨b,t,e,J,aa⟩=>by subst e;rw[List.length_cons,List.length_cons,eC.len aa]
def Ih{K:W.Frag}(h:Rep K G (Den.oV r) v):∃b,v=.ref b/\G b=some (.tup [.int r.1,.int r.2]):=by
 obtain⟨b,xs,e,J,aa⟩:=h;rw[jo (ns:=[r.1,r.2]) aa]at J;exact⟨b,e,J⟩
def V5{K:W.Frag}(h:G b=some (.tup [.int r.1,.int r.2])):Rep K G (Den.oV r) (.ref b):=⟨b,_,rfl,h,.int r.1,_,rfl,rfl,.int r.2,_,rfl,rfl,rfl⟩
end
section
variable{X:a4}{pins:List (Addr×Obj)}{σ:dk}{G H:aD}{s:Shared}
def freeze(I:Inv X pins σ H s)(bG:H a=some u)(bh:(∃ys,u=.dS ys)\/∃ys,u=.di ys):∃bb,Inv X pins σ (upd H a (.du bb u)) s:=by
 obtain⟨bb,ay,_⟩:=VK I (a:=a) (by rcases bh with⟨ys,rfl⟩|⟨ys,rfl⟩;exact .inl ⟨ys,.inl bG⟩;exact .inr ⟨ys,.inl bG⟩);have ne:∀{b:Addr},H b=none->b≠a:=λq z=>by rw[z,bG]at q;cases q
 have nt:∀{b:Addr}{v:e3},H b=some v->(∀ys,v≠.dS ys)->(∀ys,v≠.di ys)->b≠a:=λq J aa z=>by
  rw[z,bG]at q;cases q;rcases bh with⟨ys,e⟩|⟨ys,e⟩
  .exact J ys e
  .exact aa ys e
 have jq:∀{b:Addr}{v:e3},d1 X.prog X.w H s.heap b v->d1 X.prog X.w (upd H a (.du bb u)) s.heap b v:=λq=>q.jq (λ_ _ _ z=>z)
  (λc z=>by rw[cR (nt z (λ_ w=>nomatch w) λ_ w=>nomatch w)];exact z) λc xs z=>by rw[cR (nt z (λ_ w=>nomatch w) λ_ w=>nomatch w)];exact z
 refine⟨bb,I.ok,I.os,I.bare,⟨I.base.keep,I.base.slot,λb o e n ak=>?_,I.base.there,λb xs e=>?_,λb o v e=>?_,λb aY e=>?_⟩,I.loc,I.cell,?_,λx c e=>?_,λp aB=>?_,λb v e=>?_,I.len⟩
 .have q:=I.base.free b o e n ak;rw[cR (ne q)];exact q
 .have q:=I.base.jt b xs e;rw[cR (nt q (λ_ w=>nomatch w) λ_ w=>nomatch w)];exact q
 .have q:=I.base.iK b o v e;rw[cR (nt q (λ_ w=>nomatch w) λ_ w=>nomatch w)];exact q
 .obtain⟨more,q⟩:=I.base.js b aY e;exact⟨more,by rw[cR (nt q (λ_ w=>nomatch w) λ_ w=>nomatch w)];exact q⟩
 .rw[cR (ne I.free)];exact I.free
 .rw[cR (ne (I.hC x c e))];exact I.hC x c e
 .obtain⟨bO,bF,dO⟩:=I.pin p aB;exact⟨bO,by rw[cR (ne bF)];exact bF,dO⟩
 .by_cases c:b=a
  .subst c;rw[dC]at e;cases e;exact⟨ay,jq (I.bx b u bG)⟩
  .rw[cR c]at e;exact jq (I.bx b v e)
def Be(h:aQ X e eR):aQ X e (λσ H Q=>eR σ H λv H1=>∃a u,v=.ref a/\H1 a=some u/\((∃ys,u=.dS ys)\/∃ys,u=.di ys)/\∀bb,Q v (upd H1 a (.du bb u))):=by
 intro pins s σ H Q I q;refine abR (h pins s σ H _ I q) (λw s1 ⟨v,H1,a5,br,a,u,e,bG,bh,k⟩=>?_) λ_ _ z=>z
 obtain⟨bb,ck⟩:=freeze a5 bG bh;exact⟨v,_,ck,br,k bb⟩
end
section
variable{xp:dx}{X:a4}{mu:List Nat}{m:fo}{f:bw->cq D}{val:Expr}{pos p1 p2 p3 p4 kR:Pos}{i j:Nat}{x y:Str}{pins:List (Addr×Obj)}{σ:dk}{G H:aD}{s:Shared}{ρ:bw}
def OO(af:bA G H)(aB:H a=none)(ay:∀xs,bL≠.tup xs):Ext G H (upd G a bL) (upd (upd H a o) a bL):=by rw[Cm];exact Ext.put af aB
def Ws(hm:i∈mu)(aL:X.N.Nodup)(ai:X.N[i]?=some x)(ak:Loc X.env.scope x)(hf:X.fn x=true\/X.env.scope.names.lookup x=some .local):dg X (.Assign [.Name x p1] (.Dict [] [] kR) pos) (c1 xp X mu λρ=>.ok (.bD (ρ.set i (some (.b4 []))))):=by
 intro pins s σ H T I ⟨bp,a8,G,ρ,ae,hw⟩;refine tq aL ai ak Ht rfl hf pins s σ H T I ?_;intro p aB;exact hw _ G _ (ae.qD (Ext.own ae.bY.sub aB λ_ z=>nomatch z) hm rfl dC aB (ae.bY.sub.free aB) rfl)
def Wu(hm:i∈mu)(aL:X.N.Nodup)(ai:X.N[i]?=some x)(ak:Loc X.env.scope x)(hf:X.fn x=true\/X.env.scope.names.lookup x=some .local):dg X (.Assign [.Name x p1] (.Dict [] [] kR) pos) (c1 xp X mu λρ=>.ok (.bD (ρ.set i (some (.bK []))))):=by
 intro pins s σ H T I ⟨bp,a8,G,ρ,ae,hw⟩;refine tq aL ai ak Hs rfl hf pins s σ H T I ?_;intro p aB;exact hw _ G _ (ae.qD (Ext.own ae.bY.sub aB λ_ z=>nomatch z) hm rfl dC aB (ae.bY.sub.free aB) ⟨[],rfl,rfl⟩)
def Wt(hm:i∈mu)(aL:X.N.Nodup)(ai:X.N[i]?=some x)(ak:Loc X.env.scope x)(hf:X.fn x=true\/X.env.scope.names.lookup x=some .local):dg X (.Assign [.Name x p1] (.Dict [] [] kR) pos) (c1 xp X mu λρ=>.ok (.bD (ρ.set i (some (.dR []))))):=by
 intro pins s σ H T I ⟨bp,a8,G,ρ,ae,hw⟩;refine tq aL ai ak Ht rfl hf pins s σ H T I ?_;intro p aB;exact hw _ G _ (ae.qD (Ext.own ae.bY.sub aB λ_ z=>nomatch z) hm rfl dC aB (ae.bY.sub.free aB) ⟨[],rfl,rfl⟩)
def Wv:aQ X (.Dict [] [] kR) (bE xp X mu .val λ_=>.ok (.bK [])):=by
 intro pins s σ H Q I ⟨G,ρ,af,hw⟩;refine Be Hs pins s σ H Q I λp aB=>⟨p,_,rfl,dC,.inl ⟨_,rfl⟩,λbb=>?_⟩
 exact hw (.ref p) _ _ (OO af.sub aB λ_ z=>nomatch z) ⟨p,bb,[],rfl,dC,rfl⟩
def tN(af:er X.K mu G H ρ σ)(hm:j∉mu){k:List Int}(h:ρ[j]?=some (some (.tup (k.map .int)))):∃b,σ[j]?=some (some (V.ref b))/\H b=some (.tup ((k.map (Sum.inl (β:=Str))).map dc)):=by
 obtain⟨v,J,b,ys,rfl,aa,aE⟩:=af.val j _ h hm;rw[jo aE]at aa;exact⟨b,J,by rw[Ay];exact af.sub _ _ aa⟩
def Wr(ai:i∉mu)(aI:j∉mu)(aL:X.N[i]?=some x)(aK:fj X.env.scope x)(J:(x==("__debug__":Str))=false)(aa:(x==("__classdict__":Str))=false)(ks:X.N[j]?=some y)(lP:fj X.env.scope y)(lJ:(y==("__debug__":Str))=false)(hT:(y==("__classdict__":Str))=false):aQ X (.Dict [some (.Name x p1)] [.Name y p2] pos) (bE xp X mu .val λρ=>Den.rJ ρ[i]? ρ[j]?):=by
 intro pins s σ H Q I ⟨G,ρ,af,hw⟩;dsimp only at hw;unfold Den.rJ at hw;cases e1:Den.eE Den.intD ρ[i]? with
 |none=>rw[e1]at hw;exact hw.elim
 |some k =>
  cases ar:Den.eE Den.rowOf ρ[j]? with
  |none=>rw[e1,ar]at hw;exact hw.elim
  |some r =>
   rw[e1,ar]at hw;obtain⟨bZ,aO,a9⟩:=jD e1;obtain⟨b7,bW,dn⟩:=jD ar;cases sI a9;cases Ig dn;obtain⟨v1,k1,bO⟩:=af.val i _ aO ai;have bO:v1=.int k:=bO;subst bO;obtain⟨v2,k2,bF⟩:=af.val j _ bW aI;obtain⟨b,rfl,ae⟩:=Ih bF;refine Be (UC (U9 (gp aL aK J aa) (gp ks lP lJ hT) Va) rfl rfl (λz=>nomatch z) (by simp)) pins s σ H Q I λp aB=>?_
   refine⟨_,k1,_,k2,dC,[(Sum.inl k,.ref b)],rfl,by simp,p,_,rfl,dC,.inl ⟨_,rfl⟩,λbb=>?_⟩;have kq:=af.sub.free aB;refine hw (.ref p) (upd G p (.du bb (.dS (qn [] [(Sum.inl k,.ref b)])))) _ (by rw[Cm,Cm];exact Ext.put af.sub aB) ⟨p,bb,_,rfl,dC,b,[],rfl,f5 kq _ _ ae,rfl⟩
def Wo(bh:X.A.units+64<cLine)(aI:j∉mu)(aL:X.N[i]?=some x)(aK:fj X.env.scope x)(J:(x==("__debug__":Str))=false)(aa:(x==("__classdict__":Str))=false)(ks:X.N[j]?=some y)(lP:fj X.env.scope y)(lJ:(y==("__debug__":Str))=false)(hT:(y==("__classdict__":Str))=false):aQ X (.Subscript (.Name x p1) (.Name y p2) pos) (bE xp X mu m λρ=>Den.lC ρ[i]? ρ[j]?):=by
 intro pins s σ H Q I ⟨G,ρ,af,hw⟩;refine UA ⋯ (gp aL aK J aa) (gp ks lP lJ hT) (λ_ _=>rfl) pins s σ H Q I ?_;dsimp only at hw;have Sd:∀ao k,Den.kj ρ[i]?=some ao->Den.eE Den.gK ρ[j]?=some k->wG (k6 i) (k6 j) σ H Q:=λao k e1 ar=>by
  rw[Den.lC,e1,ar]at hw;dsimp only at hw;obtain⟨v,k1,a,rfl,k2⟩:=af.view (rE e1);obtain⟨b7,bW,dn⟩:=jD ar;cases qQ dn;obtain⟨b,b8,k5⟩:=tN af aI bW;cases bf:Den.o7 ao k with
  |none=>rw[bf]at hw;exact hw.elim
  |some n =>
   rw[bf]at hw;refine⟨_,k1,_,b8,a,.int n,rfl,.inr ⟨_,_,b,k2,rfl,k5,by rw[NF,bf];rfl⟩,hw _ G H (Ext.refl af.sub) (by cases m<;>rfl)⟩
 have R9:∀ao k,Den.i6 ρ[i]?=some ao->Den.eE Den.intD ρ[j]?=some k->cy (match Den.nG ao k with|some r=>.ok (Den.oV r)|none=>.bad) (λd=>∀v aM aq,Ext G H aM aq->cT X.K H aM aq m d v->Q v aq) (λc=>eK xp X c H)->wG (k6 i) (k6 j) σ H Q:=λao k e1 ar hw=>by
  obtain⟨v,k1,a,ys,rfl,k2,k3⟩:=af.view (uI e1);obtain⟨b7,bW,dn⟩:=jD ar;cases sI dn;obtain⟨v2,b8,bF⟩:=af.val j _ bW aI;have bF:v2=.int k:=bF;subst bF;cases bf:Den.nG ao k with
  |none=>rw[bf]at hw;exact hw.elim
  |some r =>
   rw[bf]at hw;obtain⟨b,g1,g2⟩:=k3.val bf;refine⟨_,k1,_,b8,a,.ref b,rfl,.inl ⟨ys,Sum.inl k,k2,rfl,g1.symm⟩,hw _ G H (Ext.refl af.sub) ?_⟩;have:=V5 (K:=X.K) g2;cases m<;>exact this
 have Az:cy (Den.yN ρ[i]? ρ[j]?) (λd=>∀v aM aq,Ext G H aM aq->cT X.K H aM aq m d v->Q v aq) (λc=>eK xp X c H)->wG (k6 i) (k6 j) σ H Q:=λhw=>by
  unfold Den.yN at hw;cases e1:Den.ki ρ[i]? with
  |none=>rw[e1]at hw;exact hw.elim
  |some ao =>
   cases ar:Den.eE Den.gK ρ[j]? with
   |none=>rw[e1,ar]at hw;exact hw.elim
   |some k =>
    rw[e1,ar]at hw;dsimp only at hw;obtain⟨v,k1,a,ys,rfl,k2,k3⟩:=af.view (rD e1);obtain⟨b7,bW,dn⟩:=jD ar;cases qQ dn;obtain⟨b,b8,k5⟩:=tN af aI bW;rcases k3.val k with⟨z,_⟩|⟨cs,c,xs,bO,bF,dO,hL⟩
    .rw[z]at hw;exact hw.elim
    .rw[bO]at hw;refine⟨_,k1,_,b8,a,.ref c,rfl,.inr ⟨_,_,b,k2,rfl,k5,bF.symm⟩,hw _ G H (Ext.refl af.sub) ?_⟩;have:Rep X.K G (Den.n5 cs) (.ref c):=⟨c,xs,rfl,dO,yH hL⟩;cases m<;>exact this
 cases e1:Den.kj ρ[i]? with
 |some ao =>
  cases ar:Den.eE Den.gK ρ[j]? with
  |some k=>exact Sd ao k e1 ar
  |none =>
   rw[Den.lC,e1,ar]at hw;have:Den.i6 ρ[i]?=none:=(by rw[rE e1];rfl);rw[this]at hw;exact Az hw
 |none =>
  rw[Den.lC,e1]at hw;dsimp only at hw;cases bf:Den.i6 ρ[i]? with
  |none=>rw[bf]at hw;exact Az hw
  |some ao =>
   cases eG:Den.eE Den.intD ρ[j]? with
   |none=>rw[bf,eG]at hw;exact Az hw
   |some k=>rw[bf,eG]at hw;exact R9 ao k bf eG hw
def Ww(bh:X.A.units+64<cLine)(hm:i∈mu)(aI:j∉mu)(aL:X.N[i]?=some x)(aK:fj X.env.scope x)(J:(x==("__debug__":Str))=false)(aa:(x==("__classdict__":Str))=false)(ks:X.N[j]?=some y)(lP:fj X.env.scope y)(lJ:(y==("__debug__":Str))=false)(hT:(y==("__classdict__":Str))=false)(he:aQ X val (bE xp X mu .val f))(jd:swapsWith val (some (.Subscript (.Name x p1) (.Name y p2) p3)) pos.line X.env=pure false):
  dg X (.Assign [.Subscript (.Name x p1) (.Name y p2) p3] val pos) (c1 xp X mu λρ=>f ρ>>=λd=>Den.pI ρ[i]? ρ[j]? d>>=λz=>.ok (.bD (ρ.set i (some z)))):=by
 intro pins s σ H T I ⟨bp,a8,G,ρ,ae,hw⟩;refine Vk ⋯ (gp aL aK J aa) (gp ks lP lJ hT) he jd pins s σ H T I ?_;refine⟨G,ρ,ae.bY,cj (bJ.mp hw) (λd k v aJ H1 aS aH=>?_) λ_ z=>z.mono ae.ext.h⟩;have fY:=ae.step aS;have k:=bJ.mp k;have PN:∀ao dK n,Den.kj ρ[i]?=some ao->Den.eE Den.gK ρ[j]?=some dK->d=.int n->ao.length<1000->hQ X.K mu bp a8 T (.bD (ρ.set i (some (.b4 (Den.putN ao dK n)))))->∃w,σ[i]?=some (some w)/\∃u,σ[j]?=some (some u)/\∃a fR,w=.ref a/\iD H1 a u v fR/\T.bD σ fR:=λao dK n e1 ar rS hz q=>by
  subst rS;have aH:v=.int n:=aH;subst aH;obtain⟨a,o,k1,k2,k3,b8⟩:=fY.bY.lst i _ (rE e1) hm rfl;cases b8;obtain⟨b7,bW,dn⟩:=jD ar;cases qQ dn;obtain⟨b,k5,dU⟩:=tN fY.bY aI bW;refine⟨_,k1,_,k5,a,_,rfl,iD.t k2 dU (by unfold ha;rw[List.length_map,sizeLine_eq];lia),?_⟩;rw[ND];exact q σ aJ _ (fY.write (d:=.b4 ao) (e:=.b4 (Den.putN ao dK n)) hm (rE e1) rfl rfl k1 k3 rfl)
 have PM:∀ao dK r,Den.i6 ρ[i]?=some ao->Den.eE Den.intD ρ[j]?=some dK->d=Den.oV r->ao.length<1000->hQ X.K mu bp a8 T (.bD (ρ.set i (some (.bK (Den.l3 ao dK r)))))->∃w,σ[i]?=some (some w)/\∃u,σ[j]?=some (some u)/\∃a fR,w=.ref a/\iD H1 a u v fR/\T.bD σ fR:=λao dK r e1 ar rS hz q=>by
  subst rS;obtain⟨c,rfl,ag⟩:=Ih aH;obtain⟨a,o,k1,k2,k3,ys,rfl,b8⟩:=fY.bY.lst i _ (uI e1) hm rfl;obtain⟨b7,bW,dn⟩:=jD ar;cases sI dn;obtain⟨v2,k5,bF⟩:=fY.bY.val j _ bW aI;have bF:v2=.int dK:=bF;subst bF;refine⟨_,k1,_,k5,a,_,rfl,iD.k (k:=Sum.inl dK) k2 (by rw[b8.len,sizeLine_eq];lia),?_⟩;exact q σ aJ _ (fY.write (d:=.bK ao) (e:=.bK (Den.l3 ao dK r)) hm (uI e1) rfl rfl k1 k3 ⟨_,rfl,b8.put dK ag⟩)
 have Cb:cy (Den.uL ρ[i]? ρ[j]? d) (λz=>cy (.ok (Den.et.bD (ρ.set i (some z)))) (hQ X.K mu bp a8 T) (λc=>eK xp X c a8)) (λc=>eK xp X c a8)->∃w,σ[i]?=some (some w)/\∃u,σ[j]?=some (some u)/\∃a fR,w=.ref a/\iD H1 a u v fR/\T.bD σ fR:=λhZ=>by
  unfold Den.uL at hZ;cases e1:Den.ki ρ[i]? with
  |none=>rw[e1]at hZ;exact hZ.elim
  |some ao =>
   cases ar:Den.eE Den.gK ρ[j]? with
   |none=>rw[e1,ar]at hZ;exact hZ.elim
   |some dK =>
    cases bf:Den.uB d with
    |none=>rw[e1,ar,bf]at hZ;exact hZ.elim
    |some cs =>
     rw[e1,ar,bf]at hZ;dsimp only at hZ
     by_cases hz:ao.length<1000
     .rw[if_pos hz]at hZ;cases LZ bf;obtain⟨c,xs,rfl,ag,a3⟩:=aH;obtain⟨a,o,k1,k2,k3,ys,rfl,b8⟩:=fY.bY.lst i _ (rD e1) hm rfl;obtain⟨b7,bW,dn⟩:=jD ar;cases qQ dn;obtain⟨b,k5,dU⟩:=tN fY.bY aI bW;refine⟨_,k1,_,k5,a,_,rfl,iD.t k2 dU (by rw[b8.len,sizeLine_eq];lia),?_⟩;exact hZ σ aJ _ (fY.write (d:=.dR ao) (e:=.dR (Den.v7 ao dK cs)) hm (rD e1) rfl rfl k1 k3 ⟨_,rfl,b8.put dK ag (DI a3)⟩)
     .rw[if_neg hz]at hZ;exact hZ.elim
 have second:cy (match Den.i6 ρ[i]?,Den.eE Den.intD ρ[j]?,Den.rowOf d with|some ao,some k,some r=>if ao.length<1000 then .ok (Den.D.bK (Den.l3 ao k r)) else .bad|_,_,_=>Den.uL ρ[i]? ρ[j]? d) (λz=>cy (.ok (Den.et.bD (ρ.set i (some z)))) (hQ X.K mu bp a8 T) (λc=>eK xp X c a8)) (λc=>eK xp X c a8)->∃w,σ[i]?=some (some w)/\∃u,σ[j]?=some (some u)/\∃a fR,w=.ref a/\iD H1 a u v fR/\T.bD σ fR:=λk=>by
  cases e1:Den.i6 ρ[i]? with
  |none=>rw[e1]at k;exact Cb k
  |some ao =>
   cases ar:Den.eE Den.intD ρ[j]? with
   |none=>rw[e1,ar]at k;exact Cb k
   |some dK =>
    cases bf:Den.rowOf d with
    |none=>rw[e1,ar,bf]at k;exact Cb k
    |some r =>
     rw[e1,ar,bf]at k;dsimp only at k
     by_cases hz:ao.length<1000
     .rw[if_pos hz]at k;exact PM ao dK r e1 ar (Ig bf) hz k
     .rw[if_neg hz]at k;exact k.elim
 unfold Den.pI at k;cases e1:Den.kj ρ[i]? with
 |none=>rw[e1]at k;exact second k
 |some ao =>
  cases ar:Den.eE Den.gK ρ[j]? with
  |none=>rw[e1,ar]at k;exact second k
  |some dK =>
   cases bf:Den.intD d with
   |none=>rw[e1,ar,bf]at k;exact second k
   |some n =>
    rw[e1,ar,bf]at k;dsimp only at k
    by_cases hz:ao.length<1000
    .rw[if_pos hz]at k;exact PN ao dK n e1 ar (sI bf) hz k
    .rw[if_neg hz]at k;exact k.elim
def WN(hm:i∈mu)(aL:X.N[i]?=some x)(aK:fj X.env.scope x)(J:(x==("__debug__":Str))=false)(aa:(x==("__classdict__":Str))=false):
  dg X (.Return (some (.Name x p1)) pos) (c1 xp X mu λρ=>Den.rG ρ[i]?>>=λd=>.ok (.cC d)):=by
 intro pins s σ H T I ⟨bp,a8,G,ρ,ae,hw⟩;refine tp (Be (gp aL aK J aa)) pins s σ H T I ?_;dsimp only at hw;have key:∀d,ρ[i]?=some (some d)->gS d=true->(∀o,jB X.K G d o->(∃ys,o=.dS ys)\/∃ys,o=.di ys)->(∀a o bb,jB X.K G d o->G a=none->Rep X.K (upd G a (.du bb o)) d (.ref a))->hQ X.K mu bp a8 T (.cC d)->k6 i σ H (λv H1=>∃a u,v=.ref a/\H1 a=some u/\((∃ys,u=.dS ys)\/∃ys,u=.di ys)/\∀bb,T.cC v (upd H1 a (.du bb u))):=λd q fs ay a3 hw=>by
  obtain⟨a,o,k1,k2,k3,b8⟩:=ae.bY.lst i d q hm fs;have h0:a8 a=none:=ae.own i d a q fs hm k1;have ax:=ay o b8;have nt:∀xs,o≠.tup xs:=λxs z=>by rcases ax with⟨_,e⟩|⟨_,e⟩<;>rw[e]at z<;>cases z
  refine⟨_,k1,a,o,rfl,k2,ax,λbb=>?_⟩;refine hw _ (upd G a (.du bb o)) (upd H a (.du bb o)) ⟨ae.ext.g.trans (f5 k3),λb v z=>?_,λb v z=>?_,λb bO bF=>?_,λb xs z=>.inr ?_⟩ (a3 a o bb b8 k3)
  .have:b≠a:=λw=>by rw[w,h0]at z;cases z
   rw[cR this];exact ae.ext.h b v z
  .by_cases c:b=a
   .subst c;rw[dC]at z ⊢;exact z
   .rw[cR c]at z ⊢;exact ae.bY.sub b v z
  .have:b≠a:=λw=>bF (by rw[w];exact h0)
   rw[cR this];exact ae.ext.new b bO bF
  .have c:b≠a:=λw=>by rw[w,dC]at z;cases z
   rw[cR c]at z ⊢;exact ae.bY.dB b xs z
 cases q:ρ[i]? with
 |none=>rw[q]at hw;exact hw.elim
 |some o =>
  cases o with
  |none=>rw[q]at hw;exact hw.elim
  |some d =>
   rw[q]at hw;cases d with
   |b4 ao=>exact key _ q rfl (λo e=>.inr ⟨_,e⟩) (λa o bb e g=>by cases e;exact⟨a,bb,rfl,dC⟩) hw
   |bK ao=>exact key _ q rfl (λo ⟨ys,e,_⟩=>.inl ⟨ys,e⟩) (λa o bb ⟨ys,e,r⟩ g=>by subst e;exact⟨a,bb,ys,rfl,dC,r.mono (f5 g)⟩) hw
   |_=>exact hw.elim
end
noncomputable def CM(d:Addr)(o:e3)(au:List V):jz :=
 ⟨λi H=>H d=some o/\i<au.length,λi H v aq=>aq=H/\au[i]?=some v,λi H=>H d=some o/\au.length=i⟩
def Y3{K:W.Frag}(d it)(hd:bb.data=.dict aj a6)(aK:Vals au (aj.toList.map (·.key))):
  Turn P w K dN (CM d (.du bb u) au) [it] it (λi h=>h.IsKeyIter it d i aj.size a6) where
 mem:=by simp
 obj:=λi h st b ae=>by
  have e:b=it:=(by simpa using ae);subst e;obtain⟨o,e,c,d⟩:=st;exact⟨o,e,λv z=>by rw[d]at z;cases z⟩
 keep:=λi h h' st k=>st.at λo e=>k it (by simp) o e
 item:=by
  intro X ed hw hb ag i pins s σ H E I hf st aZ;subst ed hw hb;obtain⟨aN,ai⟩:=aZ;have ay:s.heap.get? d=some bb:=(show d1 X.prog X.w H s.heap d (.du bb u) from I.bx d _ aN).1;have az:au.length=aj.size:=(by rw[aK.length,List.length_map,Array.length_toList]);have ak:au[i]?=some au[i]:=aba ai;obtain⟨v,k1,k2⟩:=aK.get ak;obtain⟨f0,f1,f2,ew,f4,ey⟩:=hf it (by simp);have bV:i<aj.size:=⋯;refine Pv.Nm st ay hd bV λh' bj dF=>?_
  have a5:Inv X pins σ H { s with heap:=h' }:=I.turned (t':=s.toks) (λb o ae e=>(dF.2 b ae).trans e) f0 f1 ew f4 ey;have oa:aj[i].key=v:=by
   rw[abj,abJ,abf bV]at k1;exact abC k1
  obtain⟨o,e,c,dd⟩:=id bj;exact⟨_,rfl,u5 (s:={ s with heap:=h' }) e c dd ∅ ⟨au[i],H,a5,by rw[oa];exact k2,⟨rfl,ak⟩,bj,λb ae=>(hf b ae).1⟩⟩
 done:=by
  intro X ed hw hb ag i pins s σ H E I hf st aZ;subst ed hw hb;obtain⟨aN,ai⟩:=aZ;have ay:s.heap.get? d=some bb:=(show d1 X.prog X.w H s.heap d (.du bb u) from I.bx d _ aN).1;have az:au.length=aj.size:=(by rw[aK.length,List.length_map,Array.length_toList]);obtain⟨f0,f1,f2,ew,f4,ey⟩:=hf it (by simp);subst ai;rw[az]at st;exact Pv.Nk (I.ok.hd ag) st ay hd λh' eu=>⟨rfl,I.turned (t':=s.toks) (λb o ae e=>eu b o ae e) f0 f1 ew f4 ey⟩
 self:=λ_ _ _ _ _ st h=>wpAny_pyIter_keyiter st h
def RV{K:W.Frag}(ed:∀aJ H1,P aJ H1->bA G aJ/\H1 d=some o)(r:bz K G ds au):nQ K P (CM d o au) ds where
 go:=λi aJ H1 h ai=>⟨(ed aJ H1 h).2,by rw[<- r.length];exact ai⟩
 lg:=λi aJ H1 x aU d h af hd ⟨e,y⟩=>by
  obtain⟨g,q⟩:=ed aJ H1 h;subst e;obtain⟨v,J,aa⟩:=r.get hd;rw[J]at y;cases y;exact⟨aJ,Ext.refl af,aa.mono g⟩
 stop:=λaJ H1 h=>⟨(ed aJ H1 h).2,r.length.symm⟩
section
theorem DY{G H:aD}(dB:∀b xs,H b=some (.tup xs)->G b=some (.tup xs)){K:W.Frag}:∀{ao:List (List Int×Int)}{xs:List (List Key×Addr×Value)},Paired (λ(p:List Key×V)(q:List Key×Addr×Value)=>p.1=q.1/\H q.2.1=some (.tup (p.1.map dc))/\RelV p.2 q.2.2) (ha ao) xs ->
  bz K G (ao.map λp=>.tup (p.1.map .int)) (xs.map λq=>V.ref q.2.1)
 |[],_,h=>by cases h;rfl
 |p::ao,_,h=>by
  cases h with
  |@cons _ q _ xs J aa =>
   refine⟨V.ref q.2.1,_,rfl,⟨q.2.1,p.1.map V.int,rfl,dB _ _ ?_,?_⟩,DY dB aa⟩
   .have:=J.2.1;dsimp only at this;rw[Ay]at this;exact this
   .exact ints_rep p.1
theorem DW{G H:aD}(dB:∀b xs,H b=some (.tup xs)->G b=some (.tup xs)){K:W.Frag}:∀{ao:List (List Int×List (List Int))}{ys:List (List Key×V)}{xs:List (List Key×Addr×Value)},eB G ao ys->Paired (λ(p:List Key×V)(q:List Key×Addr×Value)=>p.1=q.1/\H q.2.1=some (.tup (p.1.map dc))/\RelV p.2 q.2.2) ys xs ->
  bz K G (ao.map λp=>.tup (p.1.map .int)) (xs.map λq=>V.ref q.2.1)
 |[],_,_,J,h=>by cases J;cases h;rfl
 |p::ao,_,_,⟨b,us,t,e,aH,aT,de⟩,h=>by
  subst e;cases h with
  |@cons _ q _ xs J aa =>
   refine⟨V.ref q.2.1,_,rfl,⟨q.2.1,p.1.map V.int,rfl,dB _ _ ?_,ints_rep p.1⟩,DW dB de aa⟩;have:=J.2.1;dsimp only at this;rw[Ay]at this;exact this
theorem Cy:∀xs:List (List Key×Addr×Value),Vals (xs.map λq=>V.ref q.2.1) (xs.map λq=>Value.ref q.2.1)
 |[]=>.nil
 |q::xs=>.cons (show RelV (V.ref q.2.1) (Value.ref q.2.1) from rfl) (Cy xs)
end
theorem DX{K:W.Frag}:∀{ao:List (Int×Int×Int)}{ys:List (Key×V)}{ah:List (Key×Value)}{aj:List DictEntry},eC G ao ys->eT ys ah->Pairs (gT P w) aj ah ->
  bz K G (ao.map λp=>.int p.1) (ao.map λp=>V.int p.1)/\Vals (ao.map λp=>V.int p.1) (aj.map (·.key))
 |[],_,_,_,J,aa,aE=>by cases J;cases aa;cases aE;exact⟨rfl,.nil⟩
 |p::ao,_,_,_,⟨b,t,e,aO,a9⟩,aa,aE=>by
  subst e;cases aa with
  |@cons _ q _ aaY bO bF =>
   cases aE with
   |@cons e0 _ ob _ k1 k2 k3 =>
    obtain⟨aH,aT⟩:=DX (K:=K) a9 bF k3;have bO:=bO.1;dsimp only at bO;rw[<- bO]at k1;refine⟨⟨.int p.1,_,rfl,rfl,aH⟩,.cons ?_ aT⟩;have k1:Value.isInt p.1 e0.key=true:=k1;cases ax:e0.key with
    |int i t=>rw[ax]at k1;exact⟨t,by show e0.key=_;rw[ax,(show i=p.1 by simpa[Value.isInt] using k1)]⟩
    |_=>rw[ax]at k1;cases k1
section
def Wz(hm:m=.view\/m=.val)(ai:i∉mu)(aL:X.N[i]?=some x)(aK:fj X.env.scope x)(J:(x==("__debug__":Str))=false)(aa:(x==("__classdict__":Str))=false):h9 X dN (.Name x p1) (k4 xp X mu m λρ=>Den.pF ρ[i]?):=by
 intro pins s σ H R I ⟨G,ρ,af,hw⟩;dsimp only at hw;have go:∀{d:Addr}{bb:Obj}{u:e3}{au:List V}{ds:List D}{aj:Array DictEntry}{a6:Nat},σ[i]?=some (some (.ref d))->G d=some (.du bb u)->(d==sysModules)=false->bb.ExactDict->bb.data=.dict aj a6->bz X.K G ds au->Vals au (aj.toList.map (·.key))->ds.length<=16777216 ->
   (∀dG aM aq,Ext G H aM aq->nQ X.K (rd m aM aq) dG ds->ds.length<=16777216->R dG aq)->wpAny (model X.prog X.w) X.A (eval (.Name x p1) X.env) (λv s1=>wpAny (model X.prog X.w) X.A (pyIter v) (xm X pins σ dN R) X.cb s1) X.cb s:=λ{d bb u au ds aj a6} k1 k2 k3 b8 k5 dU lT az k=>by
  refine bR (gp aL aK J aa pins s σ H (λv H1=>v=.ref d/\H1=H) I ⟨_,k1,rfl,rfl⟩) λv s1 ⟨w,H1,a5,aH,e1,ar⟩=>?_
  subst e1 ar;cases aH;have eO:=af.sub _ _ k2;have ay:s1.heap.get? d=some bb:=(show d1 X.prog X.w H1 s1.heap d (.du bb u) from a5.bx d _ eO).1;refine Pv.Nl k3 ay b8 k5 ?_;refine⟨s1.heap.objs.size,[s1.heap.objs.size],_,_,H1,rfl,a5.kept (t':=s1.toks) λb o e=>aa5 _ e,Y3 (u:=u) d _ k5 lT,⟨_,abd _ rfl,rfl,rfl⟩,λb ae=>?_,k _ G H1 (Ext.refl af.sub) (RV (G:=G) (o:=.du bb u) (λaJ aU ⟨bO,bF⟩=>⟨bO,?_⟩) dU) az⟩
  .have e:b=s1.heap.objs.size:=(by simpa using ae);subst e;exact a5.rZ (aa9 _) (a5.bx.fresh (aa9 _))
  .rcases hm with rfl|rfl
   .exact bF _ _ eO
   .exact bF _ _ (bO _ _ k2)
 unfold Den.pF at hw;cases e1:Den.kj ρ[i]? with
 |some ao =>
  rw[e1]at hw;obtain⟨v,k1,a,bb,rfl,k2⟩:=af.val i _ (rE e1) ai;obtain⟨ay,bO,bF,xs,dO,o,aj,a6,hL,t6,t7,w6,CE⟩:=(show d1 X.prog X.w H s.heap a (.du bb (.di (ha ao))) from I.bx a _ (af.sub _ _ k2));rw[ay]at hL;cases hL;have a3:=DY (K:=X.K) af.dB dO;refine go k1 k2 bF t6 t7 a3 (by rw[w6,List.map_map];exact Cy xs) ?_ hw;rw[List.length_map];unfold ha at bO;rw[List.length_map,sizeLine_eq]at bO;exact bO
 |none =>
  rw[e1]at hw;dsimp only at hw;cases ar:Den.i6 ρ[i]? with
  |none =>
   rw[ar]at hw;have hw:cy (Den.yQ ρ[i]?) _ _:=hw;unfold Den.yQ at hw;cases bf:Den.ki ρ[i]? with
   |none=>rw[bf]at hw;exact hw.elim
   |some ao =>
    rw[bf]at hw;obtain⟨v,k1,a,bb,ys,rfl,k2,k3⟩:=af.val i _ (rD bf) ai;obtain⟨ay,bO,bF,xs,dO,o,aj,a6,hL,t6,t7,w6,CE⟩:=(show d1 X.prog X.w H s.heap a (.du bb (.di ys)) from I.bx a _ (af.sub _ _ k2));rw[ay]at hL;cases hL;have a3:=DW (K:=X.K) af.dB k3 dO;refine go k1 k2 bF t6 t7 a3 (by rw[w6,List.map_map];exact Cy xs) ?_ hw;rw[List.length_map,<- k3.len];rw[sizeLine_eq]at bO;exact bO
  |some ao =>
   rw[ar]at hw;obtain⟨v,k1,a,bb,ys,rfl,k2,k3⟩:=af.val i _ (uI ar) ai;obtain⟨ay,bO,bF,ah,dO,o,aj,a6,hL,t6,t7,w6,CE,aa1⟩:=(show d1 X.prog X.w H s.heap a (.du bb (.dS ys)) from I.bx a _ (af.sub _ _ k2));rw[ay]at hL;cases hL;obtain⟨aH,aT⟩:=DX (K:=X.K) k3 dO CE;refine go k1 k2 bF t6 t7 aH aT ?_ hw;rw[List.length_map,<- k3.len];rw[sizeLine_eq]at bO;exact bO
end
section
def SU(ag:gI.cls=.type "list"\/gI.cls=.type "tuple")(hd:gI.data=.seq hX eX)(aaf:¬(!items.isEmpty&&Builtin.List.listTooLong (items.size+hX.size))=true)(hz:items.size<=sizeLine)(FR:items.size+hX.size<=sizeLine+1):
  Meets (Builtin.«list.extend» ⟨[.ref l,.ref b],[]⟩) λ_ R s=>s.heap.get? l=some { cls:=.type "list",dict:=none,data:=.seq items n,slots:=#[] }/\s.heap.get? b=some gI /\
   R (.ok (.ret Value.none)) { s with heap:=s.heap.update l (Obj.mapSeq λx=>x++hX),toks:=s.toks }:=by
 refine .of_wp λprog w A R s h=>?_
 obtain⟨aB,g,d,tk,os⟩:=s;obtain⟨bU,b7,ZY,jX⟩:=gI;cases hd;obtain⟨e1,ar,h⟩:=h;have f1:=AutoSeq1.idx_int;have f2:=AutoSeq1.sub_list_list;have ew:=AutoSeq1.sub_list_tuple;have f4:=AutoSeq1.sub_tuple_tuple;have ey:=AutoSeq1.sub_tuple_list;have FU:(items++hX).size<=sizeLine+1:=by rw[aex];exact FR
 rcases ag with ag|ag
 .cases ag
  wp_walk using (aee e1 rfl (hz:=hz) (_hz':=FU)),acV e1,acV ar
  exact⟨_,rfl,h⟩
 .cases ag
  wp_walk using (aee e1 rfl (hz:=hz) (_hz':=FU)),acV e1,acV ar
  exact⟨_,rfl,h⟩
noncomputable def VA(K:W.Frag):V->List V->aD->dw->Prop:=λx ah H Q=>∃l b xs zs,x=.ref l/\ah=[.ref b]/\H l=some (.lst xs)/\(eg K H b zs\/fq K H b zs)/\xs.length+zs.length<=sizeLine/\Q .dV (upd H l (.lst (xs++zs)))
def Tx:ui X "list.extend" (VA X.K):=by
 intro pins s σ H x ah v us Q I bc br h;obtain⟨l,b,xs,zs,rfl,rfl,eO,dW,hz,q⟩:=h;cases bc;obtain⟨u,rfl,b6⟩:=br.one;cases b6;obtain⟨z,its,n,r,az,e⟩:=I.AP eO;obtain⟨hc,gI,eX,aT,ar,bU,b7⟩:∃hc gI eX,Vals zs hc/\s.heap.get? b=some gI/\(gI.cls=.type "list"\/gI.cls=.type "tuple")/\gI.data=.seq hc.toArray eX:=by
  rcases dW with dW|dW
  .obtain⟨hc,aT,⟨gI,eX,ar,bU,_,b7⟩,_⟩:=I.list dW;exact⟨hc,gI,eX,aT,ar,.inl bU,b7⟩
  .obtain⟨hc,aT,⟨gI,ar,bU,eX,b7⟩,_⟩:=I.tuple dW;exact⟨hc,gI,eX,aT,ar,.inr bU,b7⟩
 have m2:=aT.length;have hsz:its.toArray.size+hc.toArray.size<=sizeLine:=by rw[abb,abb];lia
 refine call_meets F.slot_list_extend ⟨_,e,rfl⟩ F.entry_list_extend (F.args_list_extend_2 _ _) (SU bU b7 (by rw[TQ hsz,Bool.and_false];exact ab7) (by rw[abb];lia) ⋯) ⟨e,ar,?_⟩;refine⟨.dV,_,I.AO (its':=its++hc) eO e (by simp) (r.append aT) ?_,rfl,q⟩;rw[aa7];lia
def Wx{xp:dx}{f:bw->cq D}{p1 p4 ap dJ:Pos}{x n:Str}(hm:i∈mu)(aC:n="extend")(aL:X.N[i]?=some x)(aK:fj X.env.scope x)(J:(x==("__debug__":Str))=false)(aa:(x==("__classdict__":Str))=false)(iO:(ap.endLine==dJ.line)=true)(he:aQ X e (bE xp X mu .val f))(c8:starEach [e] X.env=[(false,eval e X.env)]):
  dg X (.Expr (.Call (.Attribute (.Name x p1) n ap) [e] [] dJ) p4) (c1 xp X mu λρ=>Den.mG ρ[i]?>>=λ_=>f ρ>>=λd=>Den.pM ρ[i]? d>>=λy=>.ok (.bD (ρ.set i (some y)))):=by
 subst aC;intro pins s σ H T I ⟨bp,a8,G,ρ,ae,hw⟩;refine Bm (Bd ac1 PySem.F.slot_list_extend PySem.F.type_list_extend Tx (gp aL aK J aa) (nk he c8) rfl (zW c8) iO c8 rfl) rfl pins s σ H T I ?_;obtain⟨ds,q,hw⟩:=DA (bJ.mp hw);obtain⟨a,o,k1,k2,k3,xs,rfl,b8⟩:=ae.bY.lst i (.lst ds) q hm rfl;refine⟨_,k1,.inl ⟨rfl,xs,eg.of k2⟩,?_⟩;refine⟨G,ρ,ae.bY,cj (bJ.mp hw) (λd k v aJ H1 aS aH=>?_) λ_ z=>z.mono ae.ext.h⟩;have fY:=ae.step aS;rw[q]at k;cases d with
 |lst aj =>
  have k:cy ((if ds.length+aj.length<=Den.SZ then Den.R.ok (Den.D.lst (ds++aj)) else .bad)>>=λy=>.ok (Den.et.bD (ρ.set i (some y)))) _ _:=k;have k:=bJ.mp k
  by_cases hz:ds.length+aj.length<=Den.SZ
  .rw[if_pos hz]at k;obtain⟨b,zs,rfl,a7,hR⟩:=aH;have r9:H1 a=some (.lst xs):=aS.h _ _ k2;have r8:aJ a=none:=aS.new a k3 (by rw[k2];exact λz=>nomatch z);refine⟨a,b,xs,zs,rfl,rfl,r9,(.inl (l7 aS.sub a7)),by rw[<- b8.length,<- hR.length,<- rf];exact hz,?_⟩;exact k σ aJ _ (fY.write (d:=.lst ds) (e:=.lst (ds++aj)) hm q rfl rfl k1 r8 ⟨_,rfl,(b8.mono aS.g).append hR⟩)
  .rw[if_neg hz]at k;exact k.elim
 |tup aj =>
  have k:cy ((if ds.length+aj.length<=Den.SZ then Den.R.ok (Den.D.lst (ds++aj)) else .bad)>>=λy=>.ok (Den.et.bD (ρ.set i (some y)))) _ _:=k;have k:=bJ.mp k
  by_cases hz:ds.length+aj.length<=Den.SZ
  .rw[if_pos hz]at k;obtain⟨b,zs,rfl,a7,hR⟩:=aH;have r9:H1 a=some (.lst xs):=aS.h _ _ k2;have r8:aJ a=none:=aS.new a k3 (by rw[k2];exact λz=>nomatch z);refine⟨a,b,xs,zs,rfl,rfl,r9,(.inr (iz aS.sub a7)),by rw[<- b8.length,<- hR.length,<- rf];exact hz,?_⟩;exact k σ aJ _ (fY.write (d:=.lst ds) (e:=.lst (ds++aj)) hm q rfl rfl k1 r8 ⟨_,rfl,(b8.mono aS.g).append hR⟩)
  .rw[if_neg hz]at k;exact k.elim
 |_=>exact k.elim
end
def RN{d:D}(h:Den.vz d=some au):d=.lst (au.map .int):=by
 unfold Den.vz at h
 split at h
 .rw[qb h]
 .cases h
theorem HU:∀{ds:List D}{us:List Value}{as:List Addr},ReadsAll h us (hn ds) as->∀(m:Nat)(hm:m<us.length),∃d bs,ds[m]?=some d/\Reads h us[m] (toPy d) bs
 |[],_,_,r,m,hm=>by cases r;simp at hm
 |d::ds,_,_,r,m,hm=>by
  cases r with
  |cons aH aT =>
   cases m with
   |zero=>exact⟨d,_,rfl,aH⟩
   |succ m =>
    obtain⟨d',bs,e1,ar⟩:=HU aT m (by simpa using hm);exact⟨d',bs,by simpa using e1,ar⟩
def wt(k):Den.c5 60 (.int k)=true:=bg.tL 60 k
section
def Tz(bh:X.A.units+64<cLine):ui X "list.index" (λx ah H Q=>∃(G:aD)(l:Addr)(v:V)(xs:List V)(au:List Int)(k:Int),bA G H/\x=.ref l/\ah=[v]/\eg X.K H l xs/\bz X.K G (au.map .int) xs/\View X.K G H (.int k) v/\k∈au/\au.length<=1000/\Q (.int (au.idxOf k:Nat)) H):=by
 intro pins s σ H x ah v us Q I bc br h;obtain⟨G,l,w,xs,au,k,af,rfl,rfl,aN,a3,aK,ax,hlen,q⟩:=h;cases bc;obtain⟨u,rfl,b6⟩:=br.one;obtain⟨its,iX,⟨⟨cls,dd,data,bI⟩,c,ay,ag,_,hd⟩,_⟩:=I.list aN;simp only at ag hd;subst ag hd;have fz:(au.map Den.D.int).all (Den.c5 60)=true:=by rw[List.all_map,aby];exact λk _=>wt k
 obtain⟨as,cE⟩:=oS I af 60 fz a3 iX;obtain⟨bs,ee⟩:=oR I af aK b6 (wt k);have az:its.length=au.length:=by rw[<- iX.length,<- a3.length,List.length_map]
 have key:∀m (hm:m<its.length),km s.heap (.int k) its[m]=decide (au[m]'⋯=k):=λm hm=>by
  obtain⟨d,LI,e1,ar⟩:=HU cE m hm;rw[abj,aba ⋯]at e1;cases e1;rw[yX ar (wt _)];exact bg.Eb _ _
 have aI:=ab3 ax;refine call_meets F.slot_list_index ⟨_,ay,rfl⟩ F.entry_list_index (F.args_list_index_2 _ _) (SeqAt.list_indexAt l its.toArray c dd bI u (km s.heap (.int k)) (au.idxOf k) (by rw[abb];lia) ⋯ ?_ ?_) ⟨ay,λz hz=>uQ bh ee (wt k) cE fz z (by simpa using hz),?_⟩
 .have:=key (au.idxOf k) ⋯;simp only[List.getElem_toArray];rw[this,ach aI];simp
 .intro h3 hm aa;have:=key h3 (by simpa using hm);simp only[List.getElem_toArray];rw[this];refine decide_eq_false λe=>?_
  have:=List.not_of_lt_findIdx (p:=(·==k)) (xs:=au) aa;simp[e]at this
 .exact⟨.int _,H,I.kept (t':=_) λb o e=>e,⟨_,rfl⟩,q⟩
def WD{X:a4}{m:fo}{i j:Nat}{x y n:Str}(bh:X.A.units+64<cLine)(aC:n="index")(iO:(ap.endLine==dJ.line)=true)(aL:X.N[i]?=some x)(aK:fj X.env.scope x)(J:(x==("__debug__":Str))=false)(aa:(x==("__classdict__":Str))=false)(ks:X.N[j]?=some y)(lP:fj X.env.scope y)(lJ:(y==("__debug__":Str))=false)(hT:(y==("__classdict__":Str))=false):aQ X (.Call (.Attribute (.Name x p1) n ap) [.Name y p2] [] dJ) (bE xp X mu m λρ=>Den.qh ρ[i]? ρ[j]?):=by
 subst aC;intro pins s σ H Q I ⟨G,ρ,af,hw⟩;dsimp only at hw;unfold Den.qh at hw;cases e1:Den.eE Den.vz ρ[i]? with
 |none=>rw[e1]at hw;exact hw.elim
 |some au =>
  cases ar:Den.eE Den.intD ρ[j]? with
  |none=>rw[e1,ar]at hw;exact hw.elim
  |some k =>
   rw[e1,ar]at hw;dsimp only at hw
   by_cases hz:k∈au/\au.length<=1000
   .rw[if_pos hz]at hw;obtain⟨bZ,aO,a9⟩:=jD e1;cases RN a9;obtain⟨b7,bW,dn⟩:=jD ar;cases sI dn;obtain⟨v1,k1,a,xs,rfl,k2,k3⟩:=af.view aO;obtain⟨v2,b8,k5⟩:=af.view bW;refine Bd ac1 PySem.F.slot_list_index PySem.F.type_list_index (Tz bh) (gp aL aK J aa) (nk (gp ks lP lJ hT) rfl) rfl (zW rfl) iO rfl rfl pins s σ H Q I ?_;exact⟨_,k1,.inl ⟨rfl,xs,k2⟩,_,b8,G,a,v2,xs,au,k,af.sub,rfl,rfl,k2,k3,k5,hz.1,hz.2,hw _ G H (Ext.refl af.sub) (by cases m<;>rfl)⟩
   .rw[if_neg hz]at hw;exact hw.elim
end
section
variable{xp:dx}{X:a4}{mu:List Nat}{m:fo}{f fc:bw->cq D}{e val c:Expr}{body:List Stmt}{pos p1 p2 p3 p4 ap dJ:Pos}{i j:Nat}{x y n:Str}
def Wq(bh:X.A.units+64<cLine)(hm:i∈mu)(aI:j∉mu)(aL:X.N[i]?=some x)(aK:fj X.env.scope x)(J:(x==("__debug__":Str))=false)(aa:(x==("__classdict__":Str))=false)(ks:X.N[j]?=some y)(lP:fj X.env.scope y)(lJ:(y==("__debug__":Str))=false)(hT:(y==("__classdict__":Str))=false)(iO:(ap.endLine==dJ.line)=true):
  aQ X (.Call (.Attribute (.Name x p1) "get" ap) [.Name y p2,.Tuple [] k p3] [] dJ) (bE xp X mu m λρ=>Den.uK ρ[i]? ρ[j]?):=by
 intro pins s σ H Q I ⟨G,ρ,af,hw⟩;refine UB ⋯ (gp aL aK J aa) (gp ks lP lJ hT) (IH (xp:=xp) (mu:=mu) ID λ_ _ e=>by cases e;exact abw _) ⟨rfl,rfl,iO,rfl⟩ pins s σ H Q I ?_;dsimp only at hw;unfold Den.uK at hw;cases e1:Den.ki ρ[i]? with
 |none=>rw[e1]at hw;exact hw.elim
 |some ao =>
  cases ar:Den.eE Den.gK ρ[j]? with
  |none=>rw[e1,ar]at hw;exact hw.elim
  |some k =>
   rw[e1,ar]at hw;obtain⟨a,o,k1,k2,k3,ys,rfl,b8⟩:=af.lst i _ (rD e1) hm rfl;obtain⟨b7,bW,dn⟩:=jD ar;cases qQ dn;obtain⟨b,k5,dU⟩:=tN af aI bW;refine⟨_,k1,a,rfl,.inr ⟨_,.inl k2⟩,_,k5,G,ρ,af,?_⟩;show ∀v aM aq,Ext G H aM aq->Rep X.K aM (.tup []) v->_;intro v aM aq x r;refine⟨_,mi.t (x.h _ _ k2) (x.h _ _ dU),?_⟩;have hw:∀v aM aq,Ext G H aM aq->cT X.K H aM aq m (Den.n5 ((Den.qT ao k).getD [])) v->Q v aq:=hw;rcases b8.val k with⟨bO,bF⟩|⟨cs,c,xs,bO,bF,dO,hL⟩
   .rw[bF];refine hw _ aM aq x ?_;rw[bO];have r:Rep X.K aM (Den.n5 []) v:=r;cases m<;>exact r
   .rw[bF];refine hw _ aM aq x ?_;rw[bO];have r:Rep X.K aM (Den.n5 cs) (.ref c):=⟨c,xs,rfl,x.g _ _ dO,yH (hL.mono x.g)⟩;cases m<;>exact r
def WQ(hm:i∈mu)(he:aQ X e (bE xp X (mu.filter λj=>!(j==i)) .val f)):dg X (.Return (some e) pos) (c1 xp X mu λρ=>Den.Dz ρ[i]?>>=λ_=>f ρ>>=λd=>.ok (.cC d)):=by
 intro pins s σ H T I ⟨bp,a8,G,ρ,ae,hw⟩;have mem:∀{j:Nat},(j∈mu.filter λj=>!(j==i))<->j∈mu/\j≠i:=λ{j}=>by rw[List.mem_filter];simp
 have key:∀ao,ρ[i]?=some (some (.dR ao))->cy (f ρ>>=λd=>.ok (.cC d)) (hQ X.K mu bp a8 T) (λc=>eK xp X c a8)->wpAny (model X.prog X.w) X.A (exec (.Return (some e) pos) X.env) (nT X pins T) X.cb s:=λao q hw=>by
  obtain⟨a,o,k1,k2,k3,ys,rfl,b8⟩:=ae.bY.lst i (.dR ao) q hm rfl;have h0:a8 a=none:=ae.own i (.dR ao) a q rfl hm k1;obtain⟨bb,ck⟩:=freeze I k2 (.inr ⟨ys,rfl⟩);have hj:bA G (upd G a (.du bb (.di ys))):=f5 k3;have sub:bA (upd G a (.du bb (.di ys))) (upd H a (.du bb (.di ys))):=λb v z=>by
   by_cases c:b=a
   .subst c;rw[dC]at z ⊢;exact z
   .rw[cR c]at z ⊢;exact ae.bY.sub b v z
  have dB:∀b xs,upd H a (.du bb (.di ys)) b=some (.tup xs)->upd G a (.du bb (.di ys)) b=some (.tup xs):=λb xs z=>by
   have c:b≠a:=λw=>by rw[w,dC]at z;cases z
   rw[cR c]at z ⊢;exact ae.bY.dB b xs z
  have wy:er X.K (mu.filter λj=>!(j==i)) (upd G a (.du bb (.di ys))) (upd H a (.du bb (.di ys))) ρ σ:=by
   refine⟨ae.bY.len,sub,λj d e aI=>?_,λj d e aI az=>?_,λj d e aI az=>?_,dB,λj k d e b fT aO a9 bZ b7 aI ax=>ae.bY.apart j k d e b fT aO a9 bZ b7 (mem.mp aI).1 (mem.mp ax).1⟩
   .by_cases c:j=i
    .subst c;rw[q]at e;cases e;exact⟨_,k1,a,bb,ys,rfl,dC,b8.mono hj⟩
    .obtain⟨v,bO,bF⟩:=ae.bY.val j d e λw=>aI (mem.mpr ⟨w,c⟩)
     exact⟨v,bO,bF.mono hj⟩
   .obtain⟨v,bO,bF⟩:=ae.bY.own j d e (mem.mp aI).1 az;exact⟨v,bO,bF.mono hj⟩
   .obtain⟨b,o,bO,bF,dO,hL⟩:=ae.bY.lst j d e (mem.mp aI).1 az;have c:b≠a:=ae.bY.apart j i d (.dR ao) b a e q az rfl (mem.mp aI).1 hm (mem.mp aI).2 bO k1;exact⟨b,o,bO,by rw[cR c];exact bF,by rw[cR c];exact dO,hL.mono hj⟩
  have ext:Ext bp a8 (upd G a (.du bb (.di ys))) (upd H a (.du bb (.di ys))):=by
   refine⟨ae.ext.g.trans hj,λb v z=>?_,sub,λb bO bF=>?_,λb xs z=>.inr (dB b xs z)⟩
   .have:b≠a:=λw=>by rw[w,h0]at z;cases z
    rw[cR this];exact ae.ext.h b v z
   .have:b≠a:=λw=>bF (by rw[w];exact h0)
    rw[cR this];exact ae.ext.new b bO bF
  refine tp he pins s σ _ T ck ⟨_,ρ,wy,cj (bJ.mp hw) (λd k v aJ H1 aS aH=>?_) λ_ z=>z.mono ext.h⟩;exact k v aJ H1 (ext.trans aS) aH
 dsimp only at hw;cases q:ρ[i]? with
 |none=>rw[q]at hw;exact hw.elim
 |some o =>
  cases o with
  |none=>rw[q]at hw;exact hw.elim
  |some d =>
   rw[q]at hw;cases d with
   |dR ao=>exact key ao q hw
   |_=>exact hw.elim
def WY(aB:PassesOwn (model X.prog X.w) X.A X.env X.cb)(ag:eU X c (gs xp X mu fc))(ae:fp X body (c1 xp X mu dz))(n):dg X (.While c body [] pos) (c1 xp X mu λρ=>Den.la (λbP=>fc bP>>=λx=>Den.ei x) dz n ρ):=by
 intro pins s σ H T I ⟨bp,a8,G,ρ,ik,hw⟩;refine Vn aB ag ae pins s σ H T I ?_;refine⟨λm cw aq=>∃aM bP,bS X.K mu bp a8 aM aq bP cw/\cy (Den.la (λbP=>fc bP>>=λx=>Den.ei x) dz m bP) (hQ X.K mu bp a8 T) (λc=>eK xp X c a8),⟨n,G,ρ,ik,hw⟩,?_⟩;rintro m cw aq ⟨aM,bP,dF,gj⟩;cases m with
 |zero=>exact gj.elim
 |succ m =>
  rw[Den.la]at gj;refine⟨aM,bP,dF.bY,cj (bJ.mp gj) (λk q aJ H1 aS=>?_) λ_ z=>z.mono dF.ext.h⟩;cases k with
  |false =>
   rw[if_neg ∅]at q ⊢;exact q cw aJ H1 (dF.step aS)
  |true =>
   rw[if_pos rfl]at q ⊢;refine⟨λnL aU=>∃cD j3,bS X.K mu bp a8 cD aU j3 nL/\cy (Den.la (λbP=>fc bP>>=λx=>Den.ei x) dz m j3) (hQ X.K mu bp a8 T) (λc=>eK xp X c a8),λnL aU h=>⟨m,acH m,h⟩,bp,a8,aJ,bP,dF.step aS,cj (bJ.mp q) (λr dK=>?_) λ_ z=>z⟩;cases r with
   |bD j3=>exact λnL cD aU BH=>⟨cD,j3,BH,dK⟩
   |cC d=>exact dK
def WS(hm:i∈mu)(aL:X.N[i]?=some x)(aK:fj X.env.scope x)(J:(x==("__debug__":Str))=false)(aa:(x==("__classdict__":Str))=false)(he:aQ X val (bE xp X mu .val f))(jd:swapsWith val (some (.Subscript (.Name x p1) (.Constant (.int 0) k p2) p3)) pos.line X.env=pure false):
  dg X (.Assign [.Subscript (.Name x p1) (.Constant (.int 0) k p2) p3] val pos) (c1 xp X mu λρ=>f ρ>>=λd=>Den.tK ρ[i]? d>>=λz=>.ok (.bD (ρ.set i (some z)))):=by
 intro pins s σ H T I ⟨bp,a8,G,ρ,ae,hw⟩;refine wpAny_Assign_Subscript (bR (he pins s σ H (λv H1=>∃a xs ds d aJ,σ[i]?=some (some (.ref a))/\ρ[i]?=some (some (.lst ds))/\H1 a=some (.lst xs)/\aJ a=none/\bz X.K aJ ds xs/\Rep X.K aJ d v/\bS X.K mu bp a8 aJ H1 ρ σ/\cy (Den.tK ρ[i]? d>>=λz=>.ok (Den.et.bD (ρ.set i (some z)))) (hQ X.K mu bp a8 T) (λc=>eK xp X c a8)) I ?_) λr s1 ⟨v,H1,a5,br,a,xs,ds,d,aJ,k1,q,k2,k3,b8,k5,dF,dK⟩=>?_) jd
 .refine⟨G,ρ,ae.bY,cj (bJ.mp hw) (λd k v aJ H1 aS aH=>?_) λ_ z=>z.mono ae.ext.h⟩;have dF:=ae.step aS;cases q:ρ[i]? with
  |none=>rw[q]at k;exact k.elim
  |some o =>
   cases o with
   |none=>rw[q]at k;exact k.elim
   |some d' =>
    cases d' with
    |lst ds =>
     obtain⟨a,o,k1,k2,k3,xs,rfl,b8⟩:=dF.bY.lst i (.lst ds) q hm rfl;exact⟨a,xs,ds,d,aJ,k1,rfl,k2,k3,b8,aH,dF,by rw[q]at k;exact k⟩
    |_=>rw[q]at k;exact k.elim
 .refine bR (gp aL aK J aa pins s1 σ H1 (λw aU=>w=.ref a/\aU=H1) a5 ⟨_,k1,rfl,rfl⟩) λu s2 ⟨w,aU,ck,aT,e1,ar⟩=>?_
  subst e1 ar;refine bR (Hu pins s2 σ aU (λw bt=>w=.int 0/\bt=aU) ck ⟨rfl,rfl⟩) λtS s3 ⟨w,bt,eA,de,e1,ar⟩=>?_
  subst e1 ar;rw[q]at dK;cases ds with
  |nil=>exact dK.elim
  |cons jH ds =>
   obtain⟨v0,fP,e,dU,lT⟩:=b8;subst e;refine abR (set_list pins s3 σ bt (.ref a) (.int 0) v _ _ _ (λfR=>fR=upd bt a (.lst (v::fP))) eA aT de br ⟨a,_,0,0,rfl,rfl,k2,by unfold hF;rw[if_pos (Int.le_refl 0),if_pos (by rw[List.length_cons];lia)];rfl,rfl⟩) (λ_ s4 ⟨fR,f6,eG⟩=>?_) λ_ _ z=>z
   subst eG;refine⟨σ,_,f6,?_⟩;exact dK σ aJ _ (dF.write (d:=.lst (jH::ds)) (e:=.lst (d::ds)) hm q rfl rfl k1 k3 ⟨_,rfl,v,fP,rfl,k5,lT⟩)
theorem bz.dropLast{K:W.Frag}(h:bz K G ds xs):bz K G ds.dropLast xs.dropLast:=by
 rw[List.dropLast_eq_take,List.dropLast_eq_take,<- h.length];exact h.take _
def s_pop(hm:i∈mu)(aC:n="pop")(aL:X.N[i]?=some x)(aK:fj X.env.scope x)(J:(x==("__debug__":Str))=false)(aa:(x==("__classdict__":Str))=false)(iO:(ap.endLine==dJ.line)=true):
  dg X (.Expr (.Call (.Attribute (.Name x p1) n ap) [] [] dJ) p4) (c1 xp X mu λρ=>Den.v5 ρ[i]?>>=λy=>.ok (.bD (ρ.set i (some y)))):=by
 subst aC;intro pins s σ H T I ⟨bp,a8,G,ρ,ae,hw⟩;refine Bm (Ux ac1 PySem.F.slot_list_pop PySem.F.type_list_pop TA (gp aL aK J aa) rfl iO) rfl pins s σ H T I ?_;dsimp only at hw;have key:∀d ds,ρ[i]?=some (some (.lst (d::ds)))->hQ X.K mu bp a8 T (.bD (ρ.set i (some (.lst (d::ds).dropLast))))->Jq (Jn X.K "list" HP (k6 i)) T σ H:=λd ds q hw=>by
  obtain⟨a,o,k1,k2,k3,xs,rfl,b8⟩:=ae.bY.lst i _ q hm rfl;obtain⟨v0,fP,e,dU,lT⟩:=id b8;subst e;have bV:(v0::fP).length-1<(v0::fP).length:=(by simp);refine⟨_,k1,.inl ⟨rfl,_,eg.of k2⟩,a,v0::fP,_,rfl,rfl,k2,aba bV,?_⟩;exact hw σ G _ (ae.write (d:=.lst (d::ds)) (e:=.lst (d::ds).dropLast) hm q rfl rfl k1 k3 ⟨_,rfl,bz.dropLast b8⟩)
 cases q:ρ[i]? with
 |none=>rw[q]at hw;exact hw.elim
 |some o =>
  cases o with
  |none=>rw[q]at hw;exact hw.elim
  |some d =>
   rw[q]at hw;cases d with
   |lst ds =>
    cases ds with
    |nil=>exact hw.elim
    |cons d ds=>exact key d ds q hw
   |_=>exact hw.elim
def WV{st:Stmt}:dg X st (c1 xp X mu λ_=>.bad):=λ_ _ _ _ _ _ ⟨_,_,_,_,_,hw⟩=>hw.elim
end
def Px{K:W.Frag}(x:Ext G H aM aq)(r:cT K H aM aq .fresh d v):∃cD,Ext G H cD aq/\Rep K cD d v:=by
 cases d with
 |lst ds =>
  obtain⟨a,xs,rfl,J,aa,aE,aR⟩:=r;refine⟨upd aM a (.lst xs),⟨x.g.trans (f5 aE),x.h,λb o q=>?_,λb aO a9=>?_,λb xs q=>(x.dB b xs q).imp id λz=>f5 aE _ _ z⟩,a,xs,rfl,.inl (.inl dC),aR.mono (f5 aE)⟩
  .by_cases ae:b=a
   .subst ae;rw[dC]at q;rw[J];exact q
   .rw[cR ae]at q;exact x.sub b o q
  .rw[cR (λz=>a9 (by rw[z];exact aa))];exact x.new b aO a9
 |b4 _=>exact r.elim
 |bK _=>exact r.elim
 |dR _=>exact r.elim
 |_=>exact⟨aM,x,r⟩
section
def Wh(ag:X.calm=true)(hW:∀i∈mu,i<X.N.length)(B:pb X scope xs dP)(ax:Den.fm k target=some xs)(lO:∀x,foldedSetIterable iter X.env x=pure x)(ai:h9 X target iter (k4 xp X mu .view mS))(he:∀s3 bt bH pins,aQ (g4 X scope dP s3 bt bH pins) elt (bE xp (g4 X scope dP s3 bt bH pins) mu .val fV))(aA:rh xp X mu scope dP ifs fc)(aL:X.N.Nodup)(aP:X.N[i]?=some y)(ak:Loc X.env.scope y)(hf:X.fn y=true\/X.env.scope.names.lookup y=some .local):
  dg X (.Assign [.Name y p1] (.ListComp elt [⟨target,iter,ifs,0⟩] scope pos) p4) (c1 xp X mu λρ=>(mS ρ>>=λds=>Den.lZ (Den.cV (i7 k fc fV ρ) ds)>>=λys=>.ok (.lst ys))>>=λd=>.ok (.bD (ρ.set i (some d)))):=by
 have jd:∃b:Bool,swapsWith (.ListComp elt [⟨target,iter,ifs,0⟩] scope pos) (some (.Name y p1)) p4.line X.env=pure b:=⟨_,rfl⟩;obtain⟨b,jd⟩:=jd;cases b with
 |false =>
  by_cases hm:i∈mu
  .exact Iv hm aL aP ak (BF ag hW B ax lO ai he aA) jd hf
  .exact Iu hm aL aP ak (aQ.val (BF ag hW B ax lO ai he aA)) jd hf
 |true =>
  intro pins s σ H T I ⟨bp,a8,G,ρ,ae,hw⟩;rw[exec_Assign_Name_used _ _ _ _ jd];refine aa2 (wpAny_standAt (aa2 ?_));show wpAny _ X.A (do let _ <- comprehension (.ListComp elt [⟨target,iter,ifs,0⟩] scope pos) scope X.env _ (newList []) false (eval iter X.env) (some (assign (.Name y p1) X.env))) _ _ s;refine aa2 (abR (DR ag hW B ax lO ai he aA I ae.bY (use:=some (assign (.Name y p1) X.env)) (Qc:=λ_ s'=>nT X pins T .next s') ?_) (λ_ s' aN=>aa4 (aa4 aN)) λ_ _ e=>e);have hw:=bJ.mp (bJ.mp hw);refine bJ.mpr (cj hw (λds k1=>?_) λ_ q=>q.mono ae.ext.h);refine cj (bJ.mp k1) (λys k2 s4 aq aM C dj oF x r aC Ql inv=>?_) λ_ q=>q.mono ae.ext.h
  have f6:Inv X pins σ aq s4:=inv s4.heap (aey _ _);obtain⟨td,aj,a6,ay,a3⟩:=id aC;have QV:∀v,td.data≠.cell v:=λv z=>by
   have:=a3.1;rw[z]at this;cases this
  obtain⟨f0,f1,f2,ew,f4,ey⟩:=Ql;have Kt:Inv X (pins++[(C,td)]) σ aq s4:=f6.Bi λp aB=>by
   rcases abn.mp aB with z|z
   .exact f6.pin p (abh _ z)
   .have z:=abg.mp z;subst z;exact⟨ay,f0,f1,f2,QV⟩
  show wpAny _ X.A (assign (.Name y p1) X.env (.ref dj)) _ _ s4;refine wpAny_assign_Name (wF Kt aL aP ak (v:=.ref dj) rfl (λs5 mm=>?_) hf);have bX:s5.heap.get? C=some td:=(mm.pin (C,td) (abh _ (abh _ (abg.mpr rfl)))).1;refine⟨oF,⟨td,aj,a6,bX,a3⟩,λh' dF=>⟨σ.set i (some (.ref dj)),aq,?_,?_⟩⟩
  .exact(mm.qR).turned (t':=s5.toks) (λb o ae e=>(dF.2 b ae).trans e) f0 f1 ew f4 ey
  .by_cases hm:i∈mu
   .exact k2 _ aM aq (ae.IS x hm r)
   .obtain⟨cD,cv,aT⟩:=Px x r;exact k2 _ cD aq ((ae.step cv).tJ hm aT)
end
noncomputable def nice:Expr->Bool
 |.Starred ..=>false
 |.Set ..=>false
 |.SetComp ..=>false
 |.DictComp ..=>false
 |.Slice ..=>false
 |_=>true
def nn{α:Type}{a:α}{p:Prop}(h:none=some a):p:=nomatch h
def gv(h:Den.gL x=some y):∃p,x=.Name y p:=by
 cases x with
 |Name z p=>cases h;exact⟨p,rfl⟩
 |_=>exact nn h
def wU(h:Den.tU x=some c):∃k p,x=.Constant c k p:=by
 cases x with
 |Constant z k p=>cases h;exact⟨k,p,rfl⟩
 |_=>exact nn h
def J4(h:Den.Ct x=some aj):∃k p,x=.Tuple aj k p:=by
 cases x with
 |Tuple z k p=>cases h;exact⟨k,p,rfl⟩
 |_=>exact nn h
def Zj(h:Den.J1 x=some aj):∃p,x=.List aj p:=by
 cases x with
 |List z p=>cases h;exact⟨p,rfl⟩
 |_=>exact nn h
def JW(h:Den.Cp x=some (a,o,b)):∃p,x=.BinOp a o b p:=by
 cases x with
 |BinOp l o r p=>cases h;exact⟨p,rfl⟩
 |_=>exact nn h
def J5(h:Den.Cu x=some (o,a)):∃p,x=.UnaryOp o a p:=by
 cases x with
 |UnaryOp o r p=>cases h;exact⟨p,rfl⟩
 |_=>exact nn h
def Ze{os:List CmpOp}(h:Den.JX x=some (a,os,ys)):∃p,x=.Compare a os ys p:=by
 cases x with
 |Compare l o r p=>cases h;exact⟨p,rfl⟩
 |_=>exact nn h
def Cq(h:Den.vBool x=some (o,aj,p)):x=.BoolOp o aj p:=by
 cases x with
 |BoolOp o aj p=>cases h;rfl
 |_=>exact nn h
def wW(h:Den.tV x=some (a,b)):∃p,x=.Subscript a b p:=by
 cases x with
 |Subscript l r p=>cases h;exact⟨p,rfl⟩
 |_=>exact nn h
def Zk(h:Den.J3 x=some (a,b,c)):∃p,x=.Slice a b c p:=by
 cases x with
 |Slice l r t p=>cases h;exact⟨p,rfl⟩
 |_=>exact nn h
def wR(h:Den.tT x=some (f,aj,au)):∃p,x=.Call f aj au p:=by
 cases x with
 |Call l r t p=>cases h;exact⟨p,rfl⟩
 |_=>exact nn h
def k9(h:Den.jZ x=some (y,aj)):∃p q,x=.Call (.Name y p) aj [] q:=by
 unfold Den.jZ at h
 split at h
 .rename_i f ob e1;obtain⟨q,rfl⟩:=wR e1
  split at h
  .rename_i z ar;obtain⟨p,rfl⟩:=gv ar;cases h;exact⟨p,q,rfl⟩
  .cases h
 .cases h
def Zi(h:Den.J0 x=some (a,b,c)):∃p,x=.IfExp a b c p:=by
 cases x with
 |IfExp l r t p=>cases h;exact⟨p,rfl⟩
 |_=>exact nn h
def JZ(h:Den.JY x=some (a,mV,sc)):∃p,x=.ListComp a mV sc p:=by
 cases x with
 |ListComp l r t p=>cases h;exact⟨p,rfl⟩
 |_=>exact nn h
def hh(h:Den.b0 g ct v e x=true):nice x=true:=by
 cases aC:nice x with
 |true=>rfl
 |false =>
  exfalso;cases x<;>first|(cases aC;done)|skip
  all_goals (cases e<;>exact ab7 h)
def wD(h:nice e=true):starEach (e::aj) env=(false,eval e env)::starEach aj env:=by
 cases e<;>first|rfl|cases h
def iA(h:nice e=true):starEach [e] env=[(false,eval e env)]:=wD h
def U4(h:∀e∈aj,nice e=true):(backTo pos (starEach aj env)).any (·.1)=false:=by
 induction aj with
 |nil=>rfl
 |cons e aj aG =>
  rw[wD (h e List.mem_cons_self)];show(false||(backTo pos (starEach aj env)).any (·.1))=false;rw[aG λz hz=>h z (List.mem_cons_of_mem _ hz)];rfl
def R3(h:nice b=true):xn b:=by
 intro o i;cases b<;>first|rfl|cases h
def set_plain(h:nice b=true):∀x,foldedSetIterable b env x=pure x:=by
 intro x;cases b<;>first|rfl|cases h
def S7(h:nice b=true):behindInMarks op b=false:=by
 cases b<;>first|rfl|cases h
def B5(h:nice e=true)(ag:Den.vN e=true):swapsWith e t n env=pure false:=by
 cases e<;>first|rfl|(cases ag;done)|(cases h;done)
noncomputable def qZ:List Str:=["len","isinstance","int","bool","str","tuple","list","sorted","set","range","sum","max","all","any"]
structure fS(P:Program)(w:World)(K:W.Frag)(aX:Str->Option Value)(base:Heap)(xp:dx)(k:Nat)(g:Den.Gt)(pg:Den.eV)(Φ:Den.fe):Prop where
 fn:∀(f:Nat)(x:Str),g.fns[f]?=some x->∃bl fd aY,aX x=some (.ref bl)/\W.keepIn K (.ref bl)=true/\Binds K fd aY []/\j7 P w K aX base (jx P w xp) k bl fd aY (oY K (Φ f) aY.length)/\∀ds,ds.length≠aY.length->Φ f ds=.bad
 blt:∀x:Str,x∈qZ->aX x=none
 r2:∀(j:Nat)(x:Str)(d:D),g.r2[j]?=some x->pg.cs[j]?=some d->∃v u,aX x=some u/\RelV v u/\∀G,Rep K G d v
structure dh(xp:dx)(k:Nat)(g:Den.Gt)(pg:Den.eV)(Φ:Den.fe)(X:a4)(ct:Den.dv):Prop where
 dq:fS X.prog X.w X.K X.aX X.base xp k g pg Φ
 room:f9 k X.A
 units:X.A.units+64<cLine
 calm:X.calm=true
 nm:X.N=ct.N
 d5:ct.N.Nodup
 mu:∀i∈ct.mu,i<ct.N.length
 lc:∀x,ct.sc.names.lookup x=some .local->X.env.scope.names.lookup x=some .local
 rv:∀x,(ct.sc.names.lookup x=some .cell\/ct.sc.names.lookup x=some .free)->(X.env.scope.names.lookup x=some .cell\/X.env.scope.names.lookup x=some .free)
 gl:∀x,ct.sc.names.lookup x=some .globalImplicit->X.env.kindOf x=some .globalImplicit
section
def dh.gY(h:dh xp k g pg Φ X ct)(q:Den.ju ct.sc x=true):fj X.env.scope x:=by
 unfold Den.ju at q;simp only[acN,abx]at q;rcases q with(q|q)|q
 .exact .inl (h.lc x q)
 .exact .inr (h.rv x (.inl q))
 .exact .inr (h.rv x (.inr q))
def dh.r3(h:dh xp k g pg Φ X ct)(q:Den.ko ct.sc x=true):ff X x:=by
 unfold Den.ko at q;exact h.gl x (by simpa using q)
def fE(h:Den.okN x=true):(x==("__debug__":Str))=false/\(x==("__classdict__":Str))=false/\x≠"__name__":=by
 unfold Den.okN at h;simp only[aa3,abQ]at h;exact⟨h.1.1,h.1.2,λz=>by rw[z]at h;exact absurd h.2 ∅⟩
theorem dh.blt(h:dh xp k g pg Φ X ct)(q:Den.fL g ct.sc x=true)(aC:x∈qZ):ff X x/\X.aX x=none:=by
 unfold Den.fL at q;simp only[aa3,abQ]at q;exact⟨h.r3 q.1.1.1,h.dq.blt x aC⟩
end
noncomputable def oG(v:Bool):fo:=if v then .view else .val
structure Res(xp:dx)(X:a4)(mu:List Nat)(v fr:Bool)(x:Expr)(f:bw->cq D):Prop where
 e9:aQ X x (bE xp X mu (oG v) f)
 fresh:fr=true->aQ X x (bE xp X mu .fresh f)
 pt:eU X x (gs xp X mu f)
 oP:(∃op aj p,x=.BoolOp op aj p)->mr X x (gs xp X mu f)
section
theorem Res.view(h:Res xp X mu v fr x f):aQ X x (bE xp X mu .view f):=aQ.view h.e9
theorem Res.val(h:Res xp X mu false fr x f):aQ X x (bE xp X mu .val f):=h.e9
def Hw(h:aQ X x (bE xp X mu .val f)):aQ X x (bE xp X mu (oG v) f):=by
 cases v with
 |true=>exact aQ.view h
 |false=>exact h
def Res.qt(h:aQ X x (bE xp X mu .val f))(aA:∀whole,isTrue x X.env whole=(do let v <- whole;standAt x.pos;holding [v] (truthy v)))(ae:∀op aj p,x≠.BoolOp op aj p)(hf:fr=false):Res xp X mu v fr x f :=
 ⟨Hw h,λz=>(by rw[hf]at z;cases z),nz (aQ.view h) aA,λ⟨op,aj,p,e⟩=>absurd e (ae op aj p)⟩
def Res.oN(h:aQ X x (bE xp X mu .fresh f))(aA:∀whole,isTrue x X.env whole=(do let v <- whole;standAt x.pos;holding [v] (truthy v)))(ae:∀op aj p,x≠.BoolOp op aj p):Res xp X mu v fr x f :=
 ⟨Hw (aQ.val h),λ_=>h,nz (aQ.view h) aA,λ⟨op,aj,p,e⟩=>absurd e (ae op aj p)⟩
def Res.oM(h:∀m,aQ X x (bE xp X mu m f))(aA:eU X x (gs xp X mu f))(ae:∀op aj p,x≠.BoolOp op aj p):Res xp X mu v fr x f :=
 ⟨h _,λ_=>h _,aA,λ⟨op,aj,p,e⟩=>absurd e (ae op aj p)⟩
end
def sX(N xs):(Den.mask N xs).length=N.length:=by unfold Den.mask;rw[List.length_map]
structure q0(ct:Den.dv)(scope:Scope)(xs:List Str):Prop where
 kind:scope.kind=.function
 ng:∀y∈scope.names,y.2≠.cell
 names:∀y∈scope.names,y.2=.local->scope.names.lookup y.1=some .local
 fm:∀y∈xs,scope.names.lookup y=some .local
 loc:∀y∈scope.names,y.2=.local->y.1∈xs\/y.1=(".0":Str)
 fr:∀y∈scope.names,y.2=.free->ct.sc.names.lookup y.1=some .cell\/ct.sc.names.lookup y.1=some .free
 same:∀p∈(Den.mask ct.N xs).zip ct.N,p.1=p.2\/scope.names.lookup p.1=none
 d5:(Den.mask ct.N xs++xs).Nodup
 dot:(".0":Str)∉Den.mask ct.N xs++xs
section
def q0.block(aF:dh xp k g pg Φ X ct)(b:q0 ct scope xs):pb X scope xs (Den.mask ct.N xs++xs) where
 kind:=b.kind
 ng:=b.ng
 names:=b.names
 loc:=λy h=>b.loc (y,.local) (abO h) rfl
 fm:=b.fm
 fr:=λy aP e=>aF.rv y.1 (b.fr y aP e)
 len:=by rw[aa7,sX,aF.nm]
 old:=λi y ai e af=>by
  rw[aF.nm]at ai ⊢;rw[abi (by rw[sX];exact ai)]at e;have hz:((Den.mask ct.N xs).zip ct.N)[i]?=some (y,ct.N[i]):=by
   rw[List.getElem?_zip_eq_some];exact⟨e,aba ai⟩
  have hm:=b.same _ (aci hz);have aP:y∈Den.mask ct.N xs:=aci e;rcases hm with hm|hm
  .refine⟨by have hm:y=ct.N[i]:=hm;rw[aba ai,<- hm],λak=>?_,λz=>b.dot (List.mem_append_left _ (z▸aP))⟩;exact(adm.mp b.d5).2.2 y aP y ak rfl
  .simp only at hm;rw[hm]at af;cases af
 new:=λj=>by
  rw[aF.nm,abH (by rw[sX];lia),sX];congr 1;lia
 d5:=b.d5
def q0.ok(aF:dh xp k g pg Φ X ct)(b:q0 ct scope xs)(s3)(bt)(bH)(pins):dh xp k g pg Φ (g4 X scope (Den.mask ct.N xs++xs) s3 bt bH pins) ⟨Den.mask ct.N xs++xs,scope,ct.mu⟩ where
 dq:=aF.dq
 room:=aF.room
 units:=aF.units
 calm:=aF.calm
 nm:=rfl
 d5:=b.d5
 mu:=λi ai=>by
  have:=aF.mu i ai;show i<(Den.mask ct.N xs++xs).length;rw[aa7,sX];lia
 lc:=λx h=>wb h ∅
 rv:=λx h=>by
  rcases h with h|h
  .exact absurd rfl (b.ng _ (abO h))
  .exact Bw h
 gl:=λx h=>wb h ∅
end
def LD(h:Den.rq ct sc xs=true):q0 ct sc xs:=by
 unfold Den.rq at h;rw[aa3,aa3,aa3,aa3,aa3,aa3,aa3,aa3,aa3]at h;obtain⟨⟨⟨⟨⟨⟨⟨⟨⟨J,aa⟩,aE⟩,aR⟩,_⟩,bX⟩,ez⟩,gi⟩,c7⟩,kp⟩:=h;exact {
  kind:=adM J
  ng:=λy aP=>by simpa using aby.mp aa y aP
  names:=λy aP e=>by
   have:=aby.mp aE y aP;rw[e]at this;simpa using this
  fm:=λy aP=>by
   have:=aby.mp aR y aP;simp only[aa3,abx]at this;exact this.1
  loc:=λy aP e=>by
   have:=aby.mp bX y aP;rw[e]at this;simpa using this
  fr:=λy aP e=>by
   have:=aby.mp ez y aP;rw[e]at this;simpa using this
  same:=λp aB=>by
   have:=aby.mp gi p aB;simpa using this
  d5:=adM c7
  dot:=by simpa using kp }
section
def Wk(F:j7 X.prog X.w X.K X.aX X.base (jx X.prog X.w xp) k fn fd aY (oY X.K cS aY.length))(a3:f9 k X.A)(aZ:ff X x)(hm:X.aX x=some (.ref fn))(ax:W.keepIn X.K (.ref fn)=true)(ae:Binds X.K fd aY [])(aw:f7 X (e::aj) (nE xp X mu bB))(az:∀ds,ds.length≠aY.length->cS ds=.bad)(jL:(x==("__debug__":Str))=false)(he:starEach (e::aj) X.env=(false,eval e X.env)::starEach aj X.env)(d4:(backTo pos (starEach aj X.env)).any (·.1)=false):
  aQ X (.Call (.Name x p) (e::aj) [] pos) (bE xp X mu .val λρ=>bB ρ>>=λds=>cS ds):=by
 intro pins s σ H Q I ⟨G,ρ,af,hw⟩;refine Uy (dvs:=[]) (ds:=[]) (E:=D7 xp X) F a3 aZ hm ax ae .nil Uu aw jL he d4 pins s σ H Q I ?_;have hw:=bJ.mp hw;refine⟨G,ρ,af,?_⟩;cases q:bB ρ with
 |ok ds =>
  rw[q]at hw;intro ah aJ H1 aS aH;rw[acz]
  by_cases hlen:ds.length=aY.length
  .refine⟨by rw[<- aH.length];exact hlen,aJ,ds,aS.sub,(af.ext aS).dB,aH,?_⟩;refine cj hw (λd k v cD aU cv aT=>k v cD aU (aS.trans cv) aT) λc z aU aa c3 jJ=>?_
   injection jJ with jJ _;have:c=c3:=⋯;subst this;exact(z.mono aS.h).mono aa
  .have hw:cy (cS ds) _ _:=hw;rw[az ds hlen]at hw;exact hw.elim
 |exc c=>rw[q]at hw;exact hw
 |bad=>rw[q]at hw;exact hw
end
section
def Lx(o)(x y:D)(c):Den.ej o x y≠.exc c:=by
 refine G7 ?_ c;cases o<;>cases x<;>first|rfl|(cases y<;>first|rfl|exact nf rfl rfl|exact nf (nf rfl rfl) rfl)
def SI(d:D)(c):Den.lW d≠.exc c:=by
 intro h;cases d<;>simp only[Den.lW]at h<;>first|(cases h;done)|(split at h<;>cases h)
def Xx(d:D)(c):(Den.en d>>=λxs=>Den.sorted xs)≠.exc c:=by
 intro h;have key:∀xs:List D,Den.sorted xs≠.exc c:=λxs h=>by
  unfold Den.sorted at h
  split at h<;>cases h
 cases d with
 |tup xs=>exact key xs h
 |lst xs=>exact key xs h
 |_=>cases h
def W6(d:D)(c):(Den.en d>>=λxs=>Den.R.ok (Den.D.lst xs))≠.exc c:=by
 intro h;cases d<;>cases h
def W8(d:D)(c):(Den.en d>>=λxs=>Den.R.ok (Den.D.tup xs))≠.exc c:=by
 intro h;cases d<;>cases h
def KP(d:D)(c):(Den.en d>>=λxs=>Den.mA xs>>=λb=>Den.R.ok (Den.D.aV b))≠.exc c:=by
 intro h;have key:∀xs:List D,(Den.mA xs>>=λb=>Den.R.ok (Den.D.aV b))≠.exc c:=λxs h=>by
  unfold Den.mA at h;cases q:Den.ic xs<;>rw[q]at h<;>cases h
 cases d with
 |tup xs=>exact key xs h
 |lst xs=>exact key xs h
 |_=>cases h
def KW(d:D)(c):(Den.en d>>=λxs=>Den.mB xs>>=λb=>Den.R.ok (Den.D.aV b))≠.exc c:=by
 intro h;have key:∀xs:List D,(Den.mB xs>>=λb=>Den.R.ok (Den.D.aV b))≠.exc c:=λxs h=>by
  unfold Den.mB at h;cases q:Den.ic xs<;>rw[q]at h<;>cases h
 cases d with
 |tup xs=>exact key xs h
 |lst xs=>exact key xs h
 |_=>cases h
def XO(d:D)(c):(Den.qj d>>=λxs=>Den.jr xs)≠.exc c:=by
 intro h;cases d with
 |lst xs =>
  have h:Den.jr xs=.exc c:=h;unfold Den.jr at h
  split at h<;>cases h
 |_=>cases h
def Ta(d:D)(c):(Den.qj d>>=λxs=>Den.kO xs)≠.exc c:=by
 intro h;cases d with
 |lst xs =>
  have h:Den.kO xs=.exc c:=h;unfold Den.kO at h
  split at h<;>cases h
 |_=>cases h
def i3{x y:Str}(h:(x==y)=true):x=y:=by simpa using h
def WL{m:fo}(aF:dh xp k g pg Φ X ct)(aB:Den.tn p=true)(ak:x=Den.tm p)(ae:Den.fL g ct.sc x=true)(aw:aQ X e (bE xp X mu .view f))(aC:nice e=true):
  aQ X (.Call (.Name x q) [e] [] pos) (bE xp X mu .fresh λρ=>f ρ>>=λd=>Den.kS pg.up p d):=by
 cases p with
 |len =>
  subst ak;obtain⟨J,aa⟩:=aF.blt ae ∅;exact qC (m:=.fresh) SI f_len J aa (by kernel_rfl) aw ∅ ∅ (iA aC)
 |sorted =>
  subst ak;obtain⟨J,aa⟩:=aF.blt ae ∅;exact qC (m:=.fresh) Xx (Pa aF.calm aF.units) J aa (by kernel_rfl) aw ∅ ∅ (iA aC)
 |sum =>
  subst ak;obtain⟨J,aa⟩:=aF.blt ae ∅;exact qC (m:=.fresh) XO (Pb aF.calm) J aa (by kernel_rfl) aw ∅ ∅ (iA aC)
 |max =>
  subst ak;obtain⟨J,aa⟩:=aF.blt ae ∅;exact qC (m:=.fresh) Ta (O7 aF.calm) J aa (by kernel_rfl) aw ∅ ∅ (iA aC)
 |all =>
  subst ak;obtain⟨J,aa⟩:=aF.blt ae ∅;exact qC (m:=.fresh) KP (OV aF.calm) J aa (by kernel_rfl) aw ∅ ∅ (iA aC)
 |any =>
  subst ak;obtain⟨J,aa⟩:=aF.blt ae ∅;exact qC (m:=.fresh) KW (OW aF.calm) J aa (by kernel_rfl) aw ∅ ∅ (iA aC)
 |eP=>cases aB
def Iy(aF:dh xp k g pg Φ X ct)(h:Den.DJ o op=true):d3 X (compareOp op) (kU X.K (Den.e5 o)):=by
 cases o<;>cases op<;>first|(cases h;done)|skip
 .exact LP aF.units
 .exact LU aF.units
 .exact LS aF.units
 .exact LQ
 .exact LR aF.units
 .exact LV aF.units
def Wj(h:Den.Hi o op=true):d3 X (binaryOp op) (l4 X.K (Den.ej o)):=by
 cases o<;>cases op<;>first|(cases h;done)|skip
 .exact Nn
 .exact Nx
 .exact Nv
 .exact Nq
 .exact Nu
 .exact Np
 .exact Ny
def boot_isinstance:bootBuiltins "isinstance"=some (.builtin "isinstance"):=by kernel_rfl
end
section
variable{xp:dx}{k:Nat}{g:Den.Gt}{pg:Den.eV}{Φ:Den.fe}
variable(xp k g pg Φ) in
structure j5 (n:Nat):Prop where
 e:∀(e:Den.E)(x:Expr)(ct:Den.dv)(v:Bool)(X:a4),sizeOf e<n->dh xp k g pg Φ X ct->Den.b0 g ct v e x=true->Res xp X ct.mu v (Den.kn e) x (λρ=>Den.ev pg Φ ρ e)
 a:∀(a:Den.A)(aj:List Expr)(ct:Den.dv)(X:a4),sizeOf a<n->dh xp k g pg Φ X ct->Den.mH g ct a aj=true->f7 X aj (nE xp X ct.mu λρ=>Den.hP pg Φ ρ a)/\(∀e∈aj,nice e=true)/\∀ρ ds,Den.hP pg Φ ρ a=.ok ds->ds.length=aj.length
 o:∀(o:Den.O)(x:Option Expr)(ct:Den.dv)(X:a4),sizeOf o<n->dh xp k g pg Φ X ct->Den.rx g ct o x=true->j9 X x (qN xp X ct.mu λρ=>Den.mR pg Φ ρ o)
 i:∀(s:Den.I)(x:Expr)(ct:Den.dv)(v:Bool)(X:a4)(dN:Expr),sizeOf s<n->dh xp k g pg Φ X ct->Den.g9 g ct v s x=true->(Den.nq s=true->∃elts j p,dN=.Tuple elts j p)->h9 X dN x (k4 xp X ct.mu (oG v) λρ=>Den.hy pg Φ ρ s)/\nice x=true
def GL(v):oG v=.view\/oG v=.val:=by cases v<;>simp[oG]
def Lf(aF:dh xp k g pg Φ X ct)(h:(ct.N[i]?==some x&&Den.ju ct.sc x&&Den.okN x&&(v||!ct.mu.contains i))=true):Res xp X ct.mu v (Den.kn (.var i)) (.Name x p) (λρ=>Den.ev pg Φ ρ (.var i)):=by
 simp only[aa3,abx,acN,abQ]at h;obtain⟨⟨⟨J,aa⟩,aE⟩,aR⟩:=h;obtain⟨bZ,b7,pE⟩:=fE aE;have aL:X.N[i]?=some x:=by rw[aF.nm];exact J
 have aK:=aF.gY aa;refine⟨?_,λz=>(by cases z),nz (II aL aK bZ b7) λ_=>rfl,λ⟨_,_,_,z⟩=>(by cases z)⟩;cases v with
 |true=>exact II aL aK bZ b7
 |false =>
  rcases aR with aR|aR
  .cases aR
  .exact WX (λz=>by rw[abN.mpr z]at aR;cases aR) aL aK bZ b7
def K2(aG:j5 xp k g pg Φ n)(aF:dh xp k g pg Φ X ct)(af:sizeOf a<n)(h:(g.fns[f]?==some x&&Den.ko ct.sc x&&Den.okN x&&!aj.isEmpty&&Den.mH g ct a aj)=true):
  Res xp X ct.mu v (Den.kn (.call f a)) (.Call (.Name x p) aj [] pos) (λρ=>Den.ev pg Φ ρ (.call f a)):=by
 simp only[aa3,abx,abQ]at h;obtain⟨⟨⟨⟨J,aa⟩,aE⟩,aR⟩,bX⟩:=h;obtain⟨bZ,b7,pE⟩:=fE aE;obtain⟨p1,p2,p3⟩:=aG.a a aj ct X af aF bX;obtain⟨bl,fd,aY,e1,ar,bf,eG,lD⟩:=aF.dq.fn f x J;cases aj with
 |nil=>cases aR
 |cons e aj =>
  exact Res.qt (Wk eG aF.room (aF.r3 aa) e1 ar bf p1 lD bZ (wD (p2 e List.mem_cons_self)) (U4 λz hz=>p2 z (List.mem_cons_of_mem _ hz))) (λ_=>rfl) (λ_ _ _ z=>by cases z) rfl
def DE(h:Den.g9 g ct v (.fa a) x=true):∃m p y pos,x=.Call (.Name m p) [y] [] pos/\m="range"/\Den.fL g ct.sc m=true/\Den.b0 g ct true a y=true:=by
 rw[Den.g9]at h
 split at h
 .rename_i m y e1;obtain⟨p,pos,rfl⟩:=k9 e1;simp only[aa3]at h;exact⟨m,p,y,pos,rfl,i3 h.1.1,h.1.2,h.2⟩
 .cases h
def K8(aG:j5 xp k g pg Φ n){v:Bool}(aF:dh xp k g pg Φ X ct)(af:sizeOf s<=n)(h:(x==("tuple":Str)&&Den.fL g ct.sc x&&Den.wu s&&Den.g9 g ct true s e)=true):
  aQ X (.Call (.Name x p) [e] [] pos) (bE xp X ct.mu .val λρ=>Den.ev pg Φ ρ (.tupI s)):=by
 simp only[aa3]at h;obtain⟨⟨⟨J,aa⟩,aE⟩,aR⟩:=h;have J:=i3 J;subst J;obtain⟨g1,g2⟩:=aF.blt aa ∅;cases s with
 |seq a =>
  rw[Den.g9]at aR;have r:=aG.e a e ct true X (by simp at af;lia) aF aR;have e1:(λρ=>Den.ev pg Φ ρ (.tupI (.seq a)))=λρ=>Den.ev pg Φ ρ a>>=λd=>Den.en d>>=λds=>.ok (.tup ds):=funext λρ=>by
   rw[Den.y5,Den.uS];cases Den.ev pg Φ ρ a<;>rfl
  rw[e1];exact Iw (m:=.val) W8 Pd g1 g2 (by kernel_rfl) r.view ∅ ∅ (iA (hh aR))
 |fa a =>
  obtain⟨m,aO,y,a9,rfl,k1,k2,k3⟩:=DE aR;obtain⟨g3,oe⟩:=aF.blt k2 (by rw[k1];decide);have r:=aG.e a y ct true X (by simp at af;lia) aF k3;exact WW aF.calm k1 rfl g3 oe g1 g2 r.view (iA (hh k3))
 |_=>cases aE
def K7(aG:j5 xp k g pg Φ n){v:Bool}(aF:dh xp k g pg Φ X ct)(af:sizeOf s<=n)(h:(x==("list":Str)&&Den.fL g ct.sc x&&Den.wu s&&Den.g9 g ct true s e)=true):
  aQ X (.Call (.Name x p) [e] [] pos) (bE xp X ct.mu .fresh λρ=>Den.ev pg Φ ρ (.kL s)):=by
 simp only[aa3]at h;obtain⟨⟨⟨J,aa⟩,aE⟩,aR⟩:=h;have J:=i3 J;subst J;obtain⟨g1,g2⟩:=aF.blt aa ∅;cases s with
 |seq a =>
  rw[Den.g9]at aR;have r:=aG.e a e ct true X (by simp at af;lia) aF aR;have e1:(λρ=>Den.ev pg Φ ρ (.kL (.seq a)))=λρ=>Den.ev pg Φ ρ a>>=λd=>Den.en d>>=λds=>.ok (.lst ds):=funext λρ=>by
   rw[Den.Eo,Den.uS];cases Den.ev pg Φ ρ a<;>rfl
  rw[e1];exact Iw (m:=.fresh) W6 f_list g1 g2 (by kernel_rfl) r.view ∅ ∅ (iA (hh aR))
 |fa a =>
  obtain⟨m,aO,y,a9,rfl,k1,k2,k3⟩:=DE aR;obtain⟨g3,oe⟩:=aF.blt k2 (by rw[k1];decide);have r:=aG.e a y ct true X (by simp at af;lia) aF k3;exact WG aF.calm k1 rfl g3 oe g1 g2 r.view (iA (hh k3))
 |_=>cases aE
def C4(aG:j5 xp k g pg Φ n)(aF:dh xp k g pg Φ X ct)(af:sizeOf e<n/\sizeOf s<n/\sizeOf c<n){pos:Pos}(ax:Den.fm j t=some xs)(h:((!Den.nq s||j==2)&&Den.rq ct sc xs&&Den.g9 g ct true s it&&Den.b0 g ⟨Den.mask ct.N xs++xs,sc,ct.mu⟩ false e x&&Den.n6 g ⟨Den.mask ct.N xs++xs,sc,ct.mu⟩ c ifs)=true):
  pb X sc xs (Den.mask ct.N xs++xs)/\(∀z,foldedSetIterable it X.env z=pure z)/\h9 X t it (k4 xp X ct.mu .view λρ=>Den.hy pg Φ ρ s)/\(∀s3 bt bH pins,aQ (g4 X sc (Den.mask ct.N xs++xs) s3 bt bH pins) x (bE xp (g4 X sc (Den.mask ct.N xs++xs) s3 bt bH pins) ct.mu .val λρ=>Den.ev pg Φ ρ e)) /\
   rh xp X ct.mu sc (Den.mask ct.N xs++xs) ifs (λρ=>Den.mQ pg Φ ρ c)/\(λρ=>Den.ev pg Φ ρ (.comp e j s c))=λρ=>Den.hy pg Φ ρ s>>=λds=>Den.lZ (Den.cV (i7 j (λρ=>Den.mQ pg Φ ρ c) (λρ=>Den.ev pg Φ ρ e) ρ) ds)>>=λys=>.ok (.lst ys):=by
 simp only[aa3]at h;obtain⟨⟨⟨⟨h0,J⟩,u9⟩,E1⟩,gh⟩:=h;have B:=LD J;have Ah:Den.nq s=true->∃elts j p,t=.Tuple elts j p:=λaB=>by
  rw[aB]at h0;have aI:j=2:=(by simpa using h0);subst aI;cases t with
  |Tuple elts j p=>exact⟨elts,j,p,rfl⟩
  |_=>simp only[Den.fm]at ax;cases ax
 obtain⟨eW,gR⟩:=aG.i s it ct true X t af.2.1 aF u9 Ah;refine⟨B.block aF,set_plain gR,eW,λs3 bt bH pins=>(aG.e e x _ false _ af.1 (B.ok aF s3 bt bH pins) E1).e9,?_,rfl⟩;cases c with
 |none =>
  cases ifs with
  |nil=>exact .inl ⟨rfl,rfl⟩
  |cons _ _=>unfold Den.n6 at gh;cases gh
 |some ar =>
  match ifs,gh with
  |[],gh=>unfold Den.n6 at gh;cases gh
  |[cv],gh =>
   refine .inr ⟨cv,λρ=>Den.ev pg Φ ρ ar,rfl,rfl,λs3 bt bH pins=>?_⟩;have gh:Den.b0 g ⟨Den.mask ct.N xs++xs,sc,ct.mu⟩ true ar cv=true:=(by unfold Den.n6 at gh;exact gh);exact(aG.e ar cv _ true _ (by have:=af.2.2;simp at this;lia) (B.ok aF s3 bt bH pins) gh).pt
  |_::_::_,gh=>unfold Den.n6 at gh;cases gh
end
section
variable{xp:dx}{k:Nat}{g:Den.Gt}{pg:Den.eV}{Φ:Den.fe}{n:Nat}
def Gi{aj:List Expr}(h:aj.length<=1000):aj.length<=sizeLine:=by rw[sizeLine_eq];lia
def Zn(h:Den.wX g ct x a=some e):∃y p q,a=.Call (.Name y p) [e] [] q/\(x==("sorted":Str))=true/\Den.fL g ct.sc x=true/\(y==("set":Str))=true/\Den.fL g ct.sc y=true:=by
 unfold Den.wX at h
 split at h
 .rename_i y b ar;obtain⟨py,p1,rfl⟩:=k9 ar
  split at h
  .rename_i ag;cases h;simp only[aa3]at ag;exact⟨y,py,p1,rfl,ag.1.1.1,ag.1.1.2,ag.1.2,ag.2⟩
  .cases h
 .cases h
def qU{ct:Den.dv}{x:Str}{q:Den.ef}{aj:List Expr}{e:Expr}(h:(match aj with|[e]=>if Den.tn q&&x==Den.tm q&&Den.fL g ct.sc x then some e else none|_=>none)=some e):aj=[e]/\Den.tn q=true/\(x==Den.tm q)=true/\Den.fL g ct.sc x=true:=by
 match aj,h with
 |[a],h =>
  simp only at h
  split at h
  .rename_i ag;cases h;simp only[aa3]at ag;exact⟨rfl,ag.1.1,ag.1.2,ag.2⟩
  .cases h
def La(aG:j5 xp k g pg Φ n)(aF:dh xp k g pg Φ X ct)(af:sizeOf a<n)(aK:Den.Ka g ct x pr aj=some e)(h:Den.b0 g ct true a e=true):
  Res xp X ct.mu v (Den.kn (.prim pr a)) (.Call (.Name x p) aj [] pos) (λρ=>Den.ev pg Φ ρ (.prim pr a)):=by
 have one:∀{q:Den.ef},aj=[e]/\Den.tn q=true/\(x==Den.tm q)=true/\Den.fL g ct.sc x=true->Res xp X ct.mu v (Den.kn (.prim q a)) (.Call (.Name x p) aj [] pos) (λρ=>Den.ev pg Φ ρ (.prim q a)):=λ{q} ⟨h0,J,aa,aE⟩=>by
  subst h0;have cE:=aG.e a e ct true X af aF h;exact Res.oN (WL (m:=.fresh) aF J (i3 aa) aE cE.view (hh h)) (λ_=>rfl) (λ_ _ _ z=>by cases z)
 cases pr with
 |eP =>
  match aj,aK with
  |[bq],aK =>
   have aK:Den.wX g ct x bq=some e:=aK;obtain⟨y,p1,p2,rfl,J,aa,aE,aR⟩:=Zn aK;obtain⟨g1,g2⟩:=aF.blt aa (by rw[i3 J];decide);obtain⟨g3,oe⟩:=aF.blt aR (by rw[i3 aE];decide);have cE:=aG.e a e ct true X af aF h;exact Res.oN (WU aF.calm aF.units (i3 J) (i3 aE) g1 g2 g3 oe cE.view (iA (hh h))) (λ_=>rfl) (λ_ _ _ z=>by cases z)
 |len=>exact one (qU aK)
 |sorted=>exact one (qU aK)
 |sum=>exact one (qU aK)
 |max=>exact one (qU aK)
 |all=>exact one (qU aK)
 |any=>exact one (qU aK)
def J2{n k:Str}(h:Den.wV z=some (n,k)):∃p1 p2 pos,z=.Subscript (.Name n p1) (.Name k p2) pos:=by
 unfold Den.wV at h
 split at h
 .rename_i x y e1;obtain⟨pos,rfl⟩:=wW e1
  split at h
  .rename_i cc c4 ar bf;cases h;obtain⟨p1,rfl⟩:=gv ar;obtain⟨p2,rfl⟩:=gv bf;exact⟨p1,p2,pos,rfl⟩
  .cases h
 .cases h
def Zf{n k:Str}(h:Den.Cr z=some (n,k)):∃p1 p2 pos,z=.Dict [some (.Name n p1)] [.Name k p2] pos:=by
 unfold Den.Cr at h
 split at h
 .cases h;exact⟨_,_,_,rfl⟩
 .cases h
def vC(h:Den.vB z=true):∃kR,z=.Dict [] [] kR:=by
 unfold Den.vB at h
 split at h
 .exact⟨_,rfl⟩
 .cases h
def qp{n:Str}(h:Den.m9 ct i n=true):ct.N[i]?=some n/\Den.ju ct.sc n=true/\Den.okN n=true/\i∈ct.mu:=by
 unfold Den.m9 at h;simp only[aa3,abx]at h;exact⟨h.1.1.1,h.1.1.2,h.1.2,abN.mp h.2⟩
def qw{n:Str}(h:Den.nr ct i n=true):ct.N[i]?=some n/\Den.ju ct.sc n=true/\Den.okN n=true/\i∉ct.mu:=by
 unfold Den.nr at h;simp only[aa3,abx,abQ]at h;exact⟨h.1.1.1,h.1.1.2,h.1.2,λz=>by rw[abN.mpr z]at h;cases h.2⟩
def xu{n:Str}(h:Den.rj ct i n=true):ct.N[i]?=some n/\Den.ju ct.sc n=true/\Den.okN n=true:=by
 unfold Den.rj at h;simp only[aa3,abx]at h;exact⟨h.1.1,h.1.2,h.2⟩
def Co{n:Str}(h:Den.wQ x=some (o,n,p)):x=.Attribute o n p:=by
 cases x with
 |Attribute o n p=>cases h;rfl
 |_=>exact nn h
def JV{x n:Str}(h:Den.wO z=some (x,n,ap,y)):∃p dJ,z=.Call (.Attribute (.Name x p) n ap) [y] [] dJ:=by
 unfold Den.wO at h
 split at h
 .rename_i f CC e1;obtain⟨dJ,rfl⟩:=wR e1
  split at h
  .rename_i o cc KX ar;obtain rfl:=Co ar
   split at h
   .rename_i nI bf;obtain⟨p,rfl⟩:=gv bf;cases h;exact⟨p,dJ,rfl⟩
   .cases h
  .cases h
 .cases h
def Zh(h:Den.Cs z=some (x,y,ap)):∃p1 p2 c p3 dJ,z=.Call (.Attribute (.Name x p1) "get" ap) [.Name y p2,.Tuple [] c p3] [] dJ:=by
 unfold Den.Cs at h
 split at h
 .rename_i f k o e1;obtain⟨dJ,rfl⟩:=wR e1
  split at h
  .rename_i d n KX ar;obtain rfl:=Co ar
   split at h
   .rename_i nI CC bf eG lD
    split at h
    .rename_i yS;cases h;obtain⟨p1,rfl⟩:=gv bf;obtain⟨p2,rfl⟩:=gv eG;obtain⟨c,p3,rfl⟩:=J4 lD;obtain rfl:=i3 yS;exact⟨p1,p2,c,p3,dJ,rfl⟩
    .cases h
   .cases h
  .cases h
 .cases h
def XF(aG:j5 xp k g pg Φ n)(e)(x)(ct)(v)(X)(af:sizeOf e<n+1)(aF:dh xp k g pg Φ X ct)(h:Den.b0 g ct v e x=true):Res xp X ct.mu v (Den.kn e) x (λρ=>Den.ev pg Φ ρ e):=by
 cases e with
 |var i =>
  rw[Den.b0]at h
  split at h
  .rename_i y e1;obtain⟨p,rfl⟩:=gv e1;exact Lf aF h
  .cases h
 |lit d =>
  rw[Den.b0]at h
  split at h
  .rename_i c e1;obtain⟨dK,p,rfl⟩:=wU e1;exact Res.oM (λm=>IB h) (nz (IB h) λ_=>rfl) λ_ _ _ z=>by cases z
  .cases h
 |tup a =>
  rw[Den.b0]at h
  split at h
  .rename_i aj e1;obtain⟨j,p,rfl⟩:=J4 e1;simp only[aa3,abk]at h;obtain⟨p1,p2,p3⟩:=aG.a a aj ct X (by simp at af;lia) aF h.1;exact Res.qt (IH p1 λρ ds q=>by rw[p3 ρ ds q];exact Gi h.2) (λ_=>rfl) (λ_ _ _ z=>by cases z) rfl
  .cases h
 |lst a =>
  rw[Den.b0]at h
  split at h
  .rename_i aj e1;obtain⟨p,rfl⟩:=Zj e1;simp only[aa3,abk]at h;obtain⟨p1,p2,p3⟩:=aG.a a aj ct X (by simp at af;lia) aF h.1;exact Res.oN (WE p1 λρ ds q=>by rw[p3 ρ ds q];exact Gi h.2) (λ_=>rfl) (λ_ _ _ z=>by cases z)
  .cases h
 |bin op a b =>
  rw[Den.b0]at h
  split at h
  .rename_i x o y e1;obtain⟨p,rfl⟩:=JW e1;simp only[aa3]at h;have cE:=aG.e a x ct true X (by simp at af;lia) aF h.1.2;have ee:=aG.e b y ct true X (by simp at af;lia) aF h.2;exact Res.oN (Wi (Lx op) (Wj h.1.1) cE.view ee.view) (λ_=>rfl) (λ_ _ _ z=>by cases z)
  .cases h
 |not a =>
  rw[Den.b0]at h
  split at h
  .rename_i x e1;obtain⟨p,rfl⟩:=J5 e1;have cE:=aG.e a x ct true X (by simp at af;lia) aF h;exact Res.oM (λm=>WI cE.view) (WJ cE.pt) λ_ _ _ z=>by cases z
  .cases h
 |cmp op a b =>
  rw[Den.b0]at h
  split at h
  .rename_i x o y e1;obtain⟨p,rfl⟩:=Ze e1;simp only[aa3]at h;have cE:=aG.e a x ct true X (by simp at af;lia) aF h.1.2;have ee:=aG.e b y ct true X (by simp at af;lia) aF h.2;have hm:=S7 (op:=o) (hh h.2);exact Res.oM (λm=>Wl (Iy aF h.1.1) cE.view ee.view hm) (Wm (Iy aF h.1.1) cE.view ee.view hm) λ_ _ _ z=>by cases z
  .cases h
 |and a b =>
  rw[Den.b0]at h
  split at h
  .rename_i x y p e1;obtain rfl:=Cq e1;simp only[aa3]at h;have cE:=aG.e a x ct true X (by simp at af;lia) aF h.1;have ee:=aG.e b y ct v X (by simp at af;lia) aF h.2;have oP:=It (pos:=p) cE.pt (Vv ee.pt);exact⟨Ir cE.view (Hx ee.e9),λz=>(by cases z),oP.pt,λ_=>oP⟩
  .rename_i x y z r p e1;obtain rfl:=Cq e1;simp only[aa3]at h;have cE:=aG.e a x ct true X (by simp at af;lia) aF h.1;have ee:=aG.e b _ ct v X (by simp at af;lia) aF h.2;have oP:=It (pos:=p) cE.pt (ee.oP ⟨_,_,_,rfl⟩);exact⟨Ir cE.view ee.e9,λz=>(by cases z),oP.pt,λ_=>oP⟩
  .cases h
 |idx a b =>
  rw[Den.b0]at h
  split at h
  .rename_i x y e1;obtain⟨p,rfl⟩:=wW e1;simp only[aa3]at h;have cE:=aG.e a x ct true X (by simp at af;lia) aF h.1;have ee:=aG.e b y ct true X (by simp at af;lia) aF h.2;exact Res.qt (WA cE.view ee.view (R3 (hh h.2))) (λ_=>rfl) (λ_ _ _ z=>by cases z) rfl
  .cases h
 |slice a lo ai =>
  rw[Den.b0]at h
  split at h
  .rename_i x y e1;obtain⟨p,rfl⟩:=wW e1
   split at h
   .rename_i l u ar;obtain⟨tg,rfl⟩:=Zk ar;simp only[aa3]at h;have cE:=aG.e a x ct true X (by simp at af;lia) aF h.1.1;have tC:=aG.o lo l ct X (by simp at af;lia) aF h.1.2;have VS:=aG.o ai u ct X (by simp at af;lia) aF h.2;exact Res.oN (WT cE.view tC VS) (λ_=>rfl) (λ_ _ _ z=>by cases z)
   .cases h
  .cases h
 |call f a =>
  rw[Den.b0]at h
  split at h
  .rename_i x aj e1;obtain⟨p,q,rfl⟩:=k9 e1;exact K2 aG aF (by simp at af;lia) h
  .cases h
 |prim pr a =>
  rw[Den.b0]at h
  split at h
  .rename_i x aj e1;obtain⟨p,q,rfl⟩:=k9 e1
   split at h
   .rename_i e ar;exact La aG aF (by simp at af;lia) ar h
   .cases h
  .cases h
 |ig i j =>
  rw[Den.b0]at h
  split at h
  .rename_i cc c4 e1;obtain⟨p1,p2,pos,rfl⟩:=J2 e1;rw[aa3]at h;obtain⟨a1,a2,eD⟩:=xu h.1;obtain⟨b1,b2,d7,gd⟩:=qw h.2;obtain⟨bZ,b7,_⟩:=fE eD;obtain⟨f1,f2,_⟩:=fE d7;have aB:∀m,aQ X (.Subscript (.Name cc p1) (.Name c4 p2) pos) (bE xp X ct.mu m λρ=>Den.lC ρ[i]? ρ[j]?):=λm=>Wo aF.units gd (by rw[aF.nm];exact a1) (aF.gY a2) bZ b7 (by rw[aF.nm];exact b1) (aF.gY b2) f1 f2
   exact Res.oM aB (nz (aB .view) λ_=>rfl) λ_ _ _ z=>by cases z
  .cases h
 |yO i j =>
  rw[Den.b0]at h
  split at h
  .rename_i x y ap e1;obtain⟨p1,p2,c,p3,dJ,rfl⟩:=Zh e1;simp only[aa3,abx]at h;obtain⟨⟨J,aa⟩,aE⟩:=h;obtain⟨a1,a2,eD,ht⟩:=qp J;obtain⟨b1,b2,d7,gd⟩:=qw aa;obtain⟨bZ,b7,_⟩:=fE eD;obtain⟨f1,f2,_⟩:=fE d7;have aE:ap.endLine=dJ.line:=aE;have aB:∀m,aQ X (.Call (.Attribute (.Name x p1) "get" ap) [.Name y p2,.Tuple [] c p3] [] dJ) (bE xp X ct.mu m λρ=>Den.uK ρ[i]? ρ[j]?):=λm=>Wq aF.units ht gd (by rw[aF.nm];exact a1) (aF.gY a2) bZ b7 (by rw[aF.nm];exact b1) (aF.gY b2) f1 f2 (by simpa using aE)
   exact Res.oM aB (nz (aB .view) λ_=>rfl) λ_ _ _ z=>by cases z
  .cases h
 |kK i j =>
  rw[Den.b0]at h
  split at h
  .rename_i x cc ap y e1;obtain⟨p1,dJ,rfl⟩:=JV e1
   split at h
   .rename_i c4 ar;obtain⟨p2,rfl⟩:=gv ar;simp only[aa3]at h;obtain⟨⟨⟨J,aa⟩,aE⟩,aR⟩:=h;obtain⟨a1,a2,eD⟩:=xu aE;obtain⟨b1,b2,d7⟩:=xu aR;obtain⟨bZ,b7,_⟩:=fE eD;obtain⟨f1,f2,_⟩:=fE d7;have aB:∀m,aQ X (.Call (.Attribute (.Name x p1) cc ap) [.Name c4 p2] [] dJ) (bE xp X ct.mu m λρ=>Den.qh ρ[i]? ρ[j]?):=λm=>WD aF.units (i3 J) aa (by rw[aF.nm];exact a1) (aF.gY a2) bZ b7 (by rw[aF.nm];exact b1) (aF.gY b2) f1 f2
    exact Res.oM aB (nz (aB .view) λ_=>rfl) λ_ _ _ z=>by cases z
   .cases h
  .cases h
 |pG i j =>
  rw[Den.b0]at h
  split at h
  .rename_i cc c4 e1;obtain⟨p1,p2,pos,rfl⟩:=Zf e1;rw[aa3]at h;obtain⟨a1,a2,eD,ht⟩:=qw h.1;obtain⟨b1,b2,d7,gd⟩:=qw h.2;obtain⟨bZ,b7,_⟩:=fE eD;obtain⟨f1,f2,_⟩:=fE d7;exact Res.qt (Wr ht gd (by rw[aF.nm];exact a1) (aF.gY a2) bZ b7 (by rw[aF.nm];exact b1) (aF.gY b2) f1 f2) (λ_=>rfl) (λ_ _ _ z=>by cases z) rfl
  .cases h
 |pH =>
  rw[Den.b0]at h;obtain⟨kR,rfl⟩:=vC h;exact Res.qt Wv (λ_=>rfl) (λ_ _ _ z=>by cases z) rfl
 |neg a =>
  rw[Den.b0]at h
  split at h
  .rename_i x e1;obtain⟨p,rfl⟩:=J5 e1;have cE:=aG.e a x ct true X (by simp at af;lia) aF h;exact Res.oM (λm=>IC cE.view) (nz (IC cE.view) λ_=>rfl) λ_ _ _ z=>by cases z
  .cases h
 |ite c a b =>
  rw[Den.b0]at h
  split at h
  .rename_i x y w e1;obtain⟨p,rfl⟩:=Zi e1;simp only[aa3]at h;have rc:=aG.e c x ct true X (by simp at af;lia) aF h.1.1;have cE:=aG.e a y ct false X (by simp at af;lia) aF h.1.2;have ee:=aG.e b w ct false X (by simp at af;lia) aF h.2;refine⟨?_,λz=>(by cases z),WC rc.pt cE.pt ee.pt,λ⟨_,_,_,z⟩=>(by cases z)⟩;cases v with
   |true=>exact IA rc.pt cE.view ee.view
   |false=>exact IA rc.pt cE.val ee.val
  .cases h
 |tupI s =>
  rw[Den.b0]at h
  split at h
  .rename_i x e e1;obtain⟨p,q,rfl⟩:=k9 e1;exact Res.qt (K8 (v:=v) aG aF (by simp at af;lia) h) (λ_=>rfl) (λ_ _ _ z=>by cases z) rfl
  .cases h
 |kL s =>
  rw[Den.b0]at h
  split at h
  .rename_i x e e1;obtain⟨p,q,rfl⟩:=k9 e1;exact Res.oN (K7 (v:=v) aG aF (by simp at af;lia) h) (λ_=>rfl) (λ_ _ _ z=>by cases z)
  .cases h
 |comp e j s c =>
  rw[Den.b0]at h
  split at h
  .rename_i x t it ifs sc e1;obtain⟨p,rfl⟩:=JZ e1
   split at h
   .rename_i xs ax;obtain⟨B,eW,gR,kE,sG,Ao⟩:=C4 (pos:=p) aG aF (by simp at af;lia) ax h;rw[Ao];exact Res.oN (BF aF.calm (by rw[aF.nm];exact aF.mu) B ax eW gR kE sG) (λ_=>rfl) (λ_ _ _ z=>by cases z)
   .cases h
  .cases h
def XD(aG:j5 xp k g pg Φ n)(a)(aj)(ct)(X)(af:sizeOf a<n+1)(aF:dh xp k g pg Φ X ct)(h:Den.mH g ct a aj=true):f7 X aj (nE xp X ct.mu λρ=>Den.hP pg Φ ρ a)/\(∀e∈aj,nice e=true)/\∀ρ ds,Den.hP pg Φ ρ a=.ok ds->ds.length=aj.length:=by
 unfold Den.mH at h
 split at h
 .exact⟨ID,by simp,λρ ds q=>by rw[Den.Eh]at q;cases q;rfl⟩
 .rename_i e a x xs;simp only[aa3]at h;have re:=aG.e e x ct false X (by simp at af;lia) aF h.1;obtain⟨p1,p2,p3⟩:=aG.a a xs ct X (by simp at af;lia) aF h.2;refine⟨Wn re.val p1 (wD (hh h.1)),λz hz=>?_,λρ ds q=>?_⟩
  .rcases aa8.mp hz with rfl|hz
   .exact hh h.1
   .exact p2 z hz
  .rw[Den.Eg]at q;cases aO:Den.ev pg Φ ρ e with
   |ok d =>
    rw[aO]at q;simp only[Den.R.jn]at q;cases a9:Den.hP pg Φ ρ a with
    |ok NI=>rw[a9]at q;cases q;simp[p3 ρ NI a9]
    |exc c=>rw[a9]at q;cases q
    |bad=>rw[a9]at q;cases q
   |exc c=>rw[aO]at q;cases q
   |bad=>rw[aO]at q;cases q
 .cases h
def XG(aG:j5 xp k g pg Φ n)(o)(x)(ct)(X)(af:sizeOf o<n+1)(aF:dh xp k g pg Φ X ct)(h:Den.rx g ct o x=true):j9 X x (qN xp X ct.mu λρ=>Den.mR pg Φ ρ o):=by
 unfold Den.rx at h
 split at h
 .exact WH
 .rename_i e x;exact WK (aG.e e x ct true X (by simp at af;lia) aF h).view
 .cases h
def stepI(aG:j5 xp k g pg Φ n)(s)(x)(ct)(v)(X)(dN)(af:sizeOf s<n+1)(aF:dh xp k g pg Φ X ct)(h:Den.g9 g ct v s x=true)(aB:Den.nq s=true->∃elts j p,dN=.Tuple elts j p):
  h9 X dN x (k4 xp X ct.mu (oG v) λρ=>Den.hy pg Φ ρ s)/\nice x=true:=by
 cases s with
 |seq e =>
  rw[Den.g9]at h;exact⟨WB (GL v) (aG.e e x ct v X (by simp at af;lia) aF h).e9,hh h⟩
 |fa a =>
  rw[Den.g9]at h
  split at h
  .rename_i x y e1;obtain⟨aaR,p,rfl⟩:=k9 e1;simp only[aa3]at h;obtain⟨⟨J,aa⟩,aE⟩:=h;obtain⟨g1,g2⟩:=aF.blt aa (by rw[i3 J];decide);have cE:=aG.e a y ct true X (by simp at af;lia) aF aE;exact⟨WR (i3 J) g1 g2 cE.view (iA (hh aE)),rfl⟩
  .cases h
 |mM i =>
  rw[Den.g9]at h
  split at h
  .rename_i cc e1;obtain⟨p,rfl⟩:=gv e1;obtain⟨a1,a2,eD,ht⟩:=qw h;obtain⟨bZ,b7,_⟩:=fE eD;exact⟨Wz (GL v) ht (by rw[aF.nm];exact a1) (aF.gY a2) bZ b7,rfl⟩
  .cases h
theorem nW:∀n,j5 xp k g pg Φ n
 |0=>⟨λ_ _ _ _ _ h=>⋯,λ_ _ _ _ h=>⋯,λ_ _ _ _ h=>⋯,λ_ _ _ _ _ _ h=>⋯⟩
 |n+1=>⟨XF (nW n),XD (nW n),XG (nW n),stepI (nW n)⟩
def jW(aF:dh xp k g pg Φ X ct)(h:Den.b0 g ct v e x=true):Res xp X ct.mu v (Den.kn e) x (λρ=>Den.ev pg Φ ρ e):=(nW (sizeOf e+1)).e e x ct v X (acH _) aF h
end
def Uc(x:d1 P w H h a o):∃u,h.get? a=some u:=by
 cases o with
 |lst xs=>obtain⟨_,_,_,_,e⟩:=x;exact⟨_,e⟩
 |tup xs=>obtain⟨_,_,_,o,e,_⟩:=x;exact⟨_,e⟩
 |dS ao=>obtain⟨_,_,_,_,o,_,_,e,_⟩:=x;exact⟨_,e⟩
 |di ao=>obtain⟨_,_,_,_,o,_,_,e,_⟩:=x;exact⟨_,e⟩
 |set S n=>obtain⟨o,_,_,_,e,_⟩:=x;exact⟨_,e⟩
 |ins C bk bB=>obtain⟨_,_,_,e,_⟩:=x;exact⟨_,e⟩
 |own y=>exact x
 |w4 bB=>obtain⟨_,⟨_,_,_,e,_⟩,_⟩:=x;exact⟨_,e⟩
 |fa lo ai=>obtain⟨_,_,_,e⟩:=x;exact⟨_,e⟩
 |du bQ u=>obtain⟨e,_⟩:=x;exact⟨_,e⟩
 |nF aY=>exact⟨_,x⟩
 |met f y=>exact⟨_,x⟩
 |ext cS=>exact x.2.1
def A8(x:ea P w H h)(e:h.get? a=none):H a=none:=by
 cases q:H a with
 |none=>rfl
 |some o=>obtain⟨u,z⟩:=Uc (x a o q);rw[e]at z;cases z
section
def A5{pins:List (Addr×Obj)}{σ:dk}{s:Shared}{l:List Addr}(I:Inv X pins σ H s)(nw:∀a∈l,hq X pins H a)(keep:∀b o,s.heap.get? b=some o->b∉l->b∉gg X.stack->h'.get? b=some o)(slot:∀b o,s.heap.get? b=some o->b∈gg X.stack->∃bI,h'.get? b=some { o with slots:=bI }):Inv X pins σ H { s with heap:=h',toks:=t' }:=by
 have any:∀b o,s.heap.get? b=some o->b∉l->∃bI,h'.get? b=some { o with slots:=bI }:=λb o e n=>by
  by_cases ae:b∈gg X.stack
  .exact slot b o e ae
  .exact⟨o.slots,keep b o e n ae⟩
 have old:∀b o,X.eQ.heap.get? b=some o->b∉X.ex->b∉l:=λb o e ak ae=>by
  rcases(nw b ae).2.1 with z|z
  .exact ak z
  .rw[e]at z;cases z
 have TS:∀b o,X.eQ.heap.get? b=some o->b∉X.bB->b∉gg X.stack:=λb o e ae q=>by
  rcases aa8.mp (I.o2 b q) with z|z
  .exact absurd (abl (abc e) I.ok.above) (by rw[z];exact aco _)
  .exact ae z
 have cellK:∀x c,X.env.cells.lookup x=some c->∀v,s.heap.IsCell c v->h'.IsCell c v:=λx c e v ⟨o,ay,hd⟩=>by
  obtain⟨bI,q⟩:=any c o ay λz=>(nw c z).2.2.2.1 x c e rfl
  exact⟨_,q,hd⟩
 refine⟨I.ok,I.os,I.bare,⟨λb o e n ae ak=>?_,λb o e n ae ak=>?_,I.base.free,λb o e ak=>?_,I.base.jt,I.base.iK,I.base.js⟩,?_,λx c e=>?_,I.free,I.hC,λp aB=>?_,λa o e=>?_,I.len⟩
 .exact keep b o (I.base.keep b o e n ae ak) (old b o e ak) (TS b o e ae)
 .obtain⟨bI,e1⟩:=I.base.slot b o e n ae ak;obtain⟨BR,ar⟩:=any b _ e1 (old b o e ak);exact⟨BR,ar⟩
 .obtain⟨bL,e1⟩:=I.base.there b o e ak;obtain⟨bI,ar⟩:=any b bL e1 (old b o e ak);exact⟨_,ar⟩
 .obtain⟨m,⟨o,aj,a6,ay,hd,r⟩,az⟩:=I.loc;obtain⟨bI,e⟩:=any _ o ay λz=>(nw _ z).2.2.1 rfl
  refine⟨m,⟨_,aj,a6,e,hd,r⟩,λi x v e1 ar bf=>?_⟩;obtain⟨u,r,q⟩:=az i x v e1 ar bf;refine⟨u,r,?_⟩;rcases q with q|⟨k,c,e,z⟩
  .exact .inl q
  .exact .inr ⟨k,c,e,cellK x c e _ z⟩
 .obtain⟨v,z⟩:=I.cell x c e;exact⟨v,cellK x c e v z⟩
 .obtain⟨e,n,ne,iS,d⟩:=I.pin p aB;exact⟨keep p.1 p.2 e (λz=>(nw _ z).2.2.2.2 p aB rfl) (λz=>(aa8.mp (I.o2 _ z)).elim ne iS),n,ne,iS,d⟩
 .refine(I.bx a o e).jq (λb u ae q=>?_) (λ_ q=>q) λ_ _ q=>q
  have eO:H b≠none:=by
   rcases ae with z|z
   .rw[z,e];exact λy=>nomatch y
   .rw[z];exact λy=>nomatch y
  exact keep b u q (λz=>eO (nw b z).1) λz=>eO (I.B1 b z)
end
noncomputable def uA:List Value:=[.type "ValueError",.type "Exception",.type "BaseException",.type "object"]
structure pe(aX:Str->Option Value)(base:Heap)(cl:Nat->Option Addr)(c:Nat)(x:Str)(C:Addr):Prop where
 at_:cl c=some C
 aX:aX x=some (.ref C)
 bQ:∃(newId:String)(bm:List Value)(N:Addr)(nm q:Str)(bs:List Value)(hdct:Bool)(sn:List Str)(sub:List Value)(ab:Bool)(col:Option Bool)(dd:Option Addr)(k0 k1 k2 k3 k5:Option Value),
  base.get? C=some (excClassObj nm q C N bs bm hdct sn sub ab col dd k0 k1 k2 k3 k5 newId)/\bm.contains (.type "BaseException")=true
structure pf(K:W.Frag)(base:Heap)(cl:Nat->Option Addr)(up:Nat->List Nat)(C:Addr):Prop where
 at_:cl 1=some C
 o8:(up 1).contains 1000=true
 bQ:∃(newId q1 vy:String)(uz bm:List Value)(N:Addr)(nm q:Str)(bs:List Value)(hdct:Bool)(sn:List Str)(sub:List Value)(ab:Bool)(col:Option Bool)(dd:Option Addr)(k0 k1 k2 k3 k5:Option Value)(mN:Str->Option Value),
  ExcBaseFacts q1 newId vy uz/\uA.contains (.type q1)=true/\base.get? C=some (excClassObj nm q C N bs bm hdct sn sub ab col dd k0 k1 k2 k3 k5 newId)/\base.Ns N mN/\mN "__init__"=none/\OwnTail base uA bm/\eh.Plain K C bm /\
  ∀k D,cl k=some D->(Value.ref C::bm).contains (.ref D)=(up 1).contains k
section
variable{X:a4}{pins:List (Addr×Obj)}{σ:dk}{H:aD}{s:Shared}{h':Heap}{l:List Addr}{cl:Nat->Option Addr}{up:Nat->List Nat}{x n:Str}{C:Addr}{mu:List Nat}{np p e6 pos:Pos}
def WM(uj:pe X.aX X.base cl 1 x C)(O:pf X.K X.base cl up C)(ag:X.calm=true)(aZ:ff X x)(hd:(x==("__debug__":Str))=false):
  dg X (.Raise (some (.Call (.Name x np) [.Constant (.str t) j p] [] e6)) none pos) (c1 (eh.fK cl) X mu λ_=>.exc 1):=by
 intro pins s σ H T I ⟨bp,a8,G,ρ,ae,hw⟩;obtain⟨newId,q1,vy,uz,bm,N,nm,q,bs,hdct,sn,sub,ab,col,dd,k0,k1,k2,k3,k5,mN,fe,zB,dX,aL,lN,Tl,_⟩:=O.bQ;refine wpAny_Raise_call_subU (C:=C) (nm:=nm) (q:=q) (N:=N) (bs:=bs) (bm:=bm) (hdct:=hdct) (sn:=sn) (sub:=sub) (ab:=ab) (col:=col) (dd:=dd) (k0:=k0) (k1:=k1) (k2:=k2) (k3:=k3) (k5:=k5)
  fe zB F.excBase_ValueError (mN:=mN) (Tl.hasType rfl) (I.ok.hd ag) rfl lN (vH I aZ uj.aX ⟨rfl,?_⟩ hd)
 have aw:=(qv Bf th:f7 X [.Constant (.str t) j p] _) e6 pins s σ H (λah H1=>ah.length=1/\H1=H) I ⟨rfl,rfl⟩;refine ad8 (bR aw λus s2 ⟨ah,H1,a5,r,e⟩=>⟨rfl,by show us.length<=sizeLine;rw[<- r.length,e.1];decide,a5.hu _ _ dX,aL.keeps a5.hu,Tl.keeps a5.hu,λh' bG hm=>?_⟩)
 .obtain⟨_,rfl⟩:=e;exact hw pins σ H1 { s2 with heap:=h' } (.ref bG) [bG] (a5.kept (t':=s2.toks) hm.keeps) ae.ext.h (λa aw=>by
   obtain rfl:a=bG:=(by simpa using aw);exact .of a5 hm.new (A8 a5.bx hm.new)) (eh.made O.at_ hm)
noncomputable def X2(j:Nat)(bG:Addr)(v:V):TE:=λσ H Q=>σ[j]?=some (some (.ref bG))/\∀bt,bA H bt->Q v bt
noncomputable def Js(j:Nat)(bG:Addr)(v:V):gb:=λT σ H=>σ[j]?=some (some (.ref bG))/\∀bt,bA H bt->T.cC v bt
def CL(aX:Str->Option Value)(base:Heap)(cl:Nat->Option Addr)(up:Nat->List Nat)(v:V)(b:Bool):Prop:=(v=.ty "ValueError"/\b=true)\/∃k y D,v=.ref D/\pe aX base cl k y D/\b=(up 1).contains k
def LX(O:pf X.K X.base cl up C)(aB:(bG,d9)∈X.cp)(dE:d9.cls=.ref C):
  g5 X (.builtin "isinstance") (λxs H Q=>∃v b,xs=[.ref bG,v]/\CL X.aX X.base cl up v b/\Q (.aV b) H):=by
 intro pins s σ H xs us Q I r ⟨v,b,ex,aK,q⟩;subst ex;obtain⟨u,wM,rfl,b6,Il⟩:=vals2 r;cases b6;have he:=(I.pin (bG,d9) (List.mem_append_left _ aB)).1;obtain⟨newId,q1,vy,uz,bm,N,nm,cB,bs,hdct,sn,sub,ab,col,dd,k0,k1,k2,k3,k5,mN,fe,zB,dX,aL,lN,Tl,P,ae⟩:=O.bQ;have dX:=I.hu _ _ dX;rcases aK with⟨rfl,rfl⟩|⟨k,y,D,rfl,i1,rfl⟩
 .cases Il;exact eh.RU he dE dX (by kernel_rfl) (Tl.hasType rfl) ⟨.aV true,H,I,rfl,q⟩
 .cases Il;obtain⟨_,_,_,_,_,_,_,_,_,_,_,_,_,_,_,_,_,eN,_⟩:=i1.bQ;have eN:=I.hu _ _ eN;have hm:=ae k D i1.at_;cases e:(up 1).contains k with
  |true =>
   rw[e]at hm q;exact eh.RT he dE dX eN rfl ⟨_,rfl⟩ hm ⟨.aV true,H,I,rfl,q⟩
  |false =>
   rw[e]at hm q;exact eh.RS I.oA P he dE dX eN rfl ⟨_,rfl⟩ hm ⟨.aV false,H,I.tok _,rfl,q⟩
variable{g:Den.Gt}{ct:Den.dv}
structure CI(X:a4)(g:Den.Gt)(ct:Den.dv)(cl:Nat->Option Addr):Prop where
 gl:∀x,Den.ko ct.sc x=true->ff X x
 aV:∀x,Den.fL g ct.sc x=true->x∈qZ->ff X x/\X.aX x=none
 o8:X.aX "ValueError"=none
 own:∀(c:Nat)(x:Str),g.cls[c]?=some x->∃C,pe X.aX X.base cl c x C
def Hv(O:pf X.K X.base cl up C)(e8:CI X g ct cl)(aB:(bG,d9)∈X.cp)(dE:d9.cls=.ref C)(aI:X.N[j]?=some n)(aK:fj X.env.scope n)(vl:Den.okN n=true)(h:Den.uD g ct n k z=true):aQ X z (X2 j bG (.aV ((up 1).contains k)))/\nice z=true:=by
 unfold Den.uD at h
 split at h
 .rename_i f e d e1;obtain⟨bH,dJ,rfl⟩:=k9 e1
  split at h
  .rename_i y t ar bf;obtain⟨p1,rfl⟩:=gv ar;obtain⟨p2,rfl⟩:=gv bf;simp only[aa3,abx]at h;obtain⟨⟨⟨⟨rfl,aa⟩,rfl⟩,aR⟩,bX⟩:=h;obtain⟨b1,b2⟩:=e8.aV _ aa ∅;obtain⟨bZ,b7,pE⟩:=fE vl;have jN:∃v,aQ X (.Name t p2) (o4 v)/\CL X.aX X.base cl up v ((up 1).contains k):=by
    simp only[Den.tyB,aa3]at aR;obtain⟨⟨g1,g2⟩,g3⟩:=aR;obtain⟨t1,eJ,t3⟩:=fE g2
    by_cases fv:k=1000
    .rw[if_pos fv]at g3;simp only[aa3,abx]at g3;obtain⟨rfl,_⟩:=g3;subst fv;exact⟨.ty "ValueError",Uw (e8.gl _ g1) e8.o8 (by kernel_rfl) rfl,.inl ⟨rfl,O.o8⟩⟩
    .rw[if_neg fv]at g3;obtain⟨D,i1⟩:=e8.own k t (by simpa using g3);exact⟨.ref D,UD (e8.gl _ g1) i1.aX rfl t1,.inr ⟨k,t,D,rfl,i1,rfl⟩⟩
   obtain⟨v,Q6,ak⟩:=jN;refine⟨λpins s σ H Q I ⟨aO,a9⟩=>?_,rfl⟩;refine Hq (LX O aB dE) b1 b2 boot_isinstance (qv (gp aI aK bZ b7) (qv Q6 th)) ∅ ∅ rfl rfl pins s σ H Q I ?_;exact⟨_,aO,v,_,rfl,ak,a9 H (bA.refl H)⟩
  .cases h
 .cases h
end
section
variable{X:a4}{pins:List (Addr×Obj)}{σ:dk}{H:aD}{s:Shared}{h':Heap}{l:List Addr}{cl:Nat->Option Addr}{up:Nat->List Nat}{c:Nat}{x n:Str}{C:Addr}{mu:List Nat}{np p e6 pos:Pos}
def Pw(I:Inv X pins σ H s)(aC:h'.Ns X.env.locals m)(af:Heap.SameBut X.env.locals s.heap h'):Inv X pins (List.replicate X.N.length none) H { s with heap:=h',toks:=t' }:=by
 have old:∀b o,X.eQ.heap.get? b=some o->b≠X.env.locals:=λb o e=>abm (abl (abc e) I.ok.above)
 have gE:∀b o,b≠X.env.locals->s.heap.get? b=some o->h'.get? b=some o:=λb o nb e=>by rw[af.2 b nb];exact e
 refine⟨I.ok,I.os,I.bare,⟨λb o e n ae ak=>?_,λb o e n ae ak=>?_,I.base.free,λb o e ak=>?_,I.base.jt,I.base.iK,I.base.js⟩,⟨m,aC,λi x v e1 ar bf=>?_⟩,λx c e=>?_,I.free,I.hC,λp aB=>?_,λa o e=>?_,by simp⟩
 .exact gE b o (old b o e) (I.base.keep b o e n ae ak)
 .obtain⟨bI,e1⟩:=I.base.slot b o e n ae ak;exact⟨bI,gE b _ (old b o e) e1⟩
 .obtain⟨bL,e1⟩:=I.base.there b o e ak;exact⟨bL,gE b bL (old b o e) e1⟩
 .rw[acY]at ar
  split at ar<;>cases ar
 .obtain⟨v,o,ay,hd⟩:=I.cell x c e;exact⟨v,o,gE c o (I.mJ x c e) ay,hd⟩
 .obtain⟨e,n,ne,iS,d⟩:=I.pin p aB;exact⟨gE _ _ ne e,n,ne,iS,d⟩
 .refine(I.bx a o e).jq (λb u ae q=>gE b u (λz=>?_) q) (λ_ q=>q) λ_ _ q=>q
  have hf:=I.free;rw[<- z]at hf;rcases ae with w|w
  .rw[w,e]at hf;cases hf
  .rw[w]at hf;cases hf
noncomputable abbrev oy(X:a4)(e:Value)(cp:List (Addr×Obj)):a4:={ X with A:=X.A.mark (some e),calm:=false,cp:=cp,cb:=λ_ _=>False }
noncomputable abbrev kF(X:a4)(cp:List (Addr×Obj))(E:Value->Shared->Prop):a4:={ X with cp:=cp,cb:=E }
def YT(I:Inv X pins σ H s)(aB:∀p∈cp,s.heap.get? p.1=some p.2/\H p.1=none/\p.1≠X.env.locals/\p.1∉X.bB/\∀v,p.2.data≠.cell v):Inv (oy X e cp) [] σ H s :=
 ⟨⟨I.ok.mod,I.ok.kind,I.ok.glob,I.ok.blt,I.ok.above,I.ok.inj,I.ok.has,I.ok.rt,(λz=>nomatch z),I.ok.frames,I.ok.o1,I.ok.uW,I.ok.bs,I.ok.n4,I.ok.qr,I.ok.od,I.ok.i9,I.ok.pQ⟩,I.os,I.bare,I.base,I.loc,I.cell,I.free,I.hC,λp q=>aB p (by simpa using q),I.bx,I.len⟩
def T7(aF:X.Ok)(I:Inv (oy X e cp) aY σ H s)(aB:∀p∈X.cp++pins,p∈cp):Inv X pins σ H s :=
 ⟨aF,I.os,I.bare,I.base,I.loc,I.cell,I.free,I.hC,λp q=>I.pin p (List.mem_append_left _ (aB p q)),I.bx,I.len⟩
def YU(I:Inv X pins σ H s)(aB:∀p∈cp,p∈X.cp++pins):Inv (kF X cp E) [] σ H s :=
 ⟨⟨I.ok.mod,I.ok.kind,I.ok.glob,I.ok.blt,I.ok.above,I.ok.inj,I.ok.has,I.ok.rt,I.ok.hd,I.ok.frames,I.ok.o1,I.ok.uW,I.ok.bs,I.ok.n4,I.ok.qr,I.ok.od,I.ok.i9,I.ok.pQ⟩,I.os,I.bare,I.base,I.loc,I.cell,I.free,I.hC,λp q=>I.pin p (aB p (by simpa using q)),I.bx,I.len⟩
def te(aF:X.Ok)(I:Inv (kF X cp E) aY σ H s)(aB:∀p∈X.cp++pins,p∈cp):Inv X pins σ H s :=
 ⟨aF,I.os,I.bare,I.base,I.loc,I.cell,I.free,I.hC,λp q=>I.pin p (List.mem_append_left _ (aB p q)),I.bx,I.len⟩
def hq.vQ(I:Inv X pins σ H s)(h:hq X pins H a):a∉X.bB:=λae=>by
 rcases h.2.1 with z|z
 .exact I.ok.od a z ae
 .obtain⟨_,o,ay,_⟩:=I.ok.i9.mem ae;rw[z]at ay;cases ay
def hq.TP(I:Inv X pins σ H s)(h:hq X pins H a):a∉gg X.stack:=λae=>by
 rcases aa8.mp (I.o2 a ae) with z|z
 .exact h.2.2.1 z
 .exact hq.vQ I h z
def CJ(X:a4)(cl:Nat->Option Addr)(af:List ExceptHandler)(bv:Str):Prop:=∀(pins:List (Addr×Obj))(s:Shared)(σ:dk)(H:aD)(T:Ends)(ev:Value)(l:List Addr),Inv X pins σ H s->(∀a∈l,hq X pins H a)->eh.fK cl 1 ev l s.heap->(∀bt,bA H bt->T.cC (.str bv) bt) ->
 wpAny (model X.prog X.w) X.A (handleBy ev X.env af) (nT X pins T) X.cb s
def HE(I:Inv X pins σ H s)(cf:hq X pins H bG)(hd:d9.data=.fields ah)(he:s.heap.get? bG=some d9):Inv (oy X (.ref bG) (X.cp++pins++[(bG,d9)])) [] σ H s:=YT I λp aB=>by
 rcases abn.mp aB with aB|aB
 .exact I.pin p aB
 .obtain rfl:p=(bG,d9):=(by simpa using aB);exact⟨he,cf.1,cf.2.2.1,hq.vQ I cf,λv=>by show d9.data≠_;rw[hd];exact λz=>nomatch z⟩
section
variable{k:Nat}{D:Addr}{mD:Stmt}{st:List Stmt}{aB:Pos}{bv:Str}(O:pf X.K X.base cl up C)(i1:pe X.aX X.base cl k x D)(ax:(up 1).contains k=true)(m1:ff X x)(Fp:(x==("__debug__":Str))=false)
include O i1 ax m1 Fp
def P6(aL:X.N.Nodup)(aI:X.N[j]?=some n)(aC:X.env.scope.names.lookup n=some .local)(mW:∀(bG:Addr)(d9:Obj)(ah:Array Value)(cp:List (Addr×Obj)),d9.cls=.ref C->d9.data=.fields ah->ah[2]?=some .none->(bG,d9)∈cp->fp (oy X (.ref bG) cp) (mD::st) (Js j bG (.str bv))):CJ X cl [.ExceptHandler (some (.Name x np)) (some n) (mD::st) aB] bv:=by
 intro pins s σ H T ev l I nw ak fin;have vs:=ak;obtain⟨bG,w8,d9,ah,rfl,ag,he,dE,hd,aa,a3⟩:=ak;have lL:bG∈l:=by rcases a3 with⟨rfl,_⟩|⟨T,_,_,rfl,_⟩<;>simp
 obtain rfl:w8=C:=abC (ag.symm.trans O.at_);obtain⟨newId,q1,vy,uz,bm,N,nm,q,bs,hdct,sn,sub,ab,col,dd,k0,k1,k2,k3,k5,mN,fe,zB,dX,ks,lN,Tl,_,ae⟩:=O.bQ;obtain⟨_,_,_,_,_,_,_,_,_,_,_,_,_,_,_,_,_,eN,dW⟩:=i1.bQ;refine wpAny_handleBy_cons (codeAny_handlers_test (vH (X:=oy X (.ref bG) (X.cp++pins++[(bG,d9)])) (HE I (nw bG lL) hd he) m1 i1.aX ?_ Fp)) (by intro q;cases q);obtain⟨cu,PL,NN,tk,os⟩:=s;refine eh.S9 (I.hu _ _ dX) (I.hu _ _ eN) he dE dW ((ae k D i1.at_).trans ax) (codeAny_handlers_suite_as (eh.Pm vs λJ l1 z8 ja=>?_));have eA:Inv X pins σ H { heap:=J,gens:=PL,drawn:=NN,toks:=tk,os:=os }:=A5 (t':=tk) I (l:=l1) (λa aw=>nw a (z8 a aw).1) (λb o q ae _=>ja b o q ae) λb o q ae=>⟨o.slots,ja b o q λz=>hq.TP I (nw b (z8 b z).1) ae⟩
 refine wF (X:=oy X (.ref bG) (X.cp++pins++[(bG,d9)])) (HE eA (nw bG lL) hd (ja bG d9 he λz=>(z8 bG z).2 rfl)) aL aI (.inl aC) (v:=.ref bG) rfl (λs5 mm=>?_) (.inr aC);refine abR (mW bG d9 ah _ dE hd aa (by simp) [] s5 _ H { bD:=λ_ _=>False,cC:=λv bt=>v=.str bv/\bA H bt } mm ⟨?_,λbt z=>⟨rfl,z⟩⟩) (λf tG q=>?_) λ_ _ z=>z.elim
 .have QA:j<σ.length:=(by rw[I.len];exact(abo.mp aI).1);exact wk QA
 .cases f with
  |ret u =>
   obtain⟨v,t8,i0,pd,tv,rfl,Xt⟩:=q;obtain⟨m,QT,_⟩:=id pd.loc;refine wpAny_nameGoes (env:=X.env) (m:=m) aC QT (by rw[I.ok.kind];rfl) λgi aaI QU Rf=>?_
   exact⟨.str bv,_,i0,Pw (T7 I.ok pd λp aB=>List.mem_append_left _ aB) QU Rf,tv,fin i0 Xt⟩
  |next=>obtain⟨_,_,_,z⟩:=q;exact z.elim
  |brk=>obtain⟨_,_,_,z⟩:=q;exact z.elim
  |cont=>obtain⟨_,_,_,z⟩:=q;exact z.elim
end
noncomputable def qq(bp a8 bt:aD):aD:=λb=>match bp b with
 |some o=>some o
 |none=>match a8 b,bt b with
  |none,some (.tup xs)=>some (.tup xs)
  |_,_=>none
def OP(J:bA a8 bt)(aa:bA bp bt):Ext bp a8 (qq bp a8 bt) bt:=by
 refine⟨λb o e=>by unfold qq;rw[e],J,λb o e=>?_,λb bO bF=>?_,λb xs e=>?_⟩
 .unfold qq at e;cases q:bp b with
  |some bL=>rw[q]at e;cases e;exact aa b _ q
  |none =>
   rw[q]at e;dsimp only at e
   split at e
   .rename_i xs _ bW;cases e;exact bW
   .cases e
 .unfold qq;rw[bO];dsimp only
  split
  .rename_i q _;exact absurd q bF
  .rfl
 .cases q:a8 b with
  |some o=>have:=J b o q;rw[e]at this;cases this;exact .inl rfl
  |none =>
   refine .inr ?_;unfold qq;cases a9:bp b with
   |some o=>have:=aa b o a9;rw[e]at this;cases this;rfl
   |none=>rw[q,e]
def IG(c8:X.stack=X.env::X.outer/\X.env.frame=some X.env.locals)(zP:∀(cp:List (Addr×Obj))(E:Value->Shared->Prop),fp (kF X cp E) as (c1 (eh.fK cl) (kF X cp E) mu λρ=>Den.jK pg Φ ρ cF aH bU aT de))(iQ:∀c,c≠1->Den.iJ pg c k0 cu=.bad)(eO:Den.iJ pg 1 k0 cu=.bad\/Den.iJ pg 1 k0 cu=.ok (.cC (.str bv))/\CJ X cl [h0] bv):
  dg X (.Try as [h0] [] [] pos) (c1 (eh.fK cl) X mu λρ=>Den.ex pg Φ ρ (.o6 cF aH bU aT de k0 cu)):=by
 intro pins s σ H T I ⟨bp,a8,G,ρ,ae,hw⟩;refine wpAny_Try_except ?_;have go:∀(aJ H1:aD)(iZ:Value->Shared->Prop),bS X.K mu aJ H1 G H ρ σ->cy (Den.jK pg Φ ρ cF aH bU aT de) (hQ X.K mu aJ H1 T) (λc=>eK (eh.fK cl) (kF X (X.cp++pins) iZ) c H1) ->
   wpAny (model X.prog X.w) X.A (execs as X.env) (λf s1=>match f with|.next=>wpAny (model X.prog X.w) X.A (execs [] X.env) (nT X pins T) X.cb s1|f=>nT X pins T f s1) iZ s:=λaJ H1 iZ fY Rr=>by
  refine abR (zP (X.cp++pins) iZ [] s σ H T (YU I λ_ z=>z) ⟨aJ,H1,G,ρ,fY,Rr⟩) (λf s1 q=>?_) λ_ _ q=>q
  cases f with
  |next=>obtain⟨cw,aq,eb,q⟩:=q;exact adx ⟨cw,aq,te I.ok eb λ_ z=>z,q⟩
  |ret u=>obtain⟨v,cw,aq,eb,r,q⟩:=q;exact⟨v,cw,aq,te I.ok eb λ_ z=>z,r,q⟩
  |brk=>obtain⟨cw,aq,eb,q⟩:=q;exact⟨cw,aq,te I.ok eb λ_ z=>z,q⟩
  |cont=>obtain⟨cw,aq,eb,q⟩:=q;exact⟨cw,aq,te I.ok eb λ_ z=>z,q⟩
 dsimp only at hw;rw[Den.rX]at hw;cases q:Den.jK pg Φ ρ cF aH bU aT de with
 |ok r =>
  rw[q,Den.Cf]at hw;exact go bp a8 _ ae (by rw[q];exact hw)
 |bad=>rw[q]at hw;exact hw.elim
 |exc c =>
  rw[q,Den.Ce]at hw
  by_cases Fo:c=1
  .subst Fo;rcases eO with sz|⟨sz,eO⟩
   .rw[sz]at hw;exact hw.elim
   rw[sz]at hw;have kq:bA bp (hG bp a8):=λb o e=>m4 e
   have PY:bA a8 (hG bp a8):=λb o e=>by
    cases z:bp b with
    |none=>rw[jg z];exact e
    |some bL =>
     have e1:=ae.ext.sub b bL (ae.ext.g b bL z);rw[ae.ext.h b o e]at e1;cases e1;exact m4 z
   have fX:bS X.K mu bp (hG bp a8) G H ρ σ:=by
    refine⟨ae.bY,⟨ae.ext.g,λb o e=>?_,ae.ext.sub,λb bO bF=>?_,λb xs e=>.inr (ae.bY.dB b xs e)⟩,λcJ ds b bO j2 bF dO=>?_⟩
    .cases z:bp b with
     |none=>rw[jg z]at e;exact ae.ext.h b o e
     |some bL=>rw[m4 z]at e;cases e;exact ae.ext.sub b _ (ae.ext.g b _ z)
    .rw[jg bO]at bF;exact ae.ext.new b bO bF
    .obtain⟨fT,xs,k1,k2,k3,b8⟩:=ae.bY.lst cJ ds bO bF j2;rw[k1]at dO;cases dO;rw[jg (ae.ext.g.free k3)];exact ae.own cJ ds _ bO j2 bF k1
   refine go bp (hG bp a8) _ fX ?_;rw[q];intro Bh cw aq s' ev l a5 bY nw ak;have eb:Inv X pins cw aq s':=te I.ok a5 λ_ z=>z
   have He:∀a∈l,hq X pins aq a:=λa aw=>⟨(nw a aw).1,(nw a aw).2.1,(nw a aw).2.2.1,(nw a aw).2.2.2.1,λp aB=>(nw a aw).2.2.2.2 p (List.mem_append_left _ aB)⟩
   have e1:eh.fr (X.env::X.outer)=gg X.stack:=(by rw[c8.1];rfl);refine eh.note (base:=X.base) (outer:=X.outer) (by rw[eb.ok.frames,c8.1]) (by rw[<- c8.1];exact eb.stack) c8.2 ak λJ l1 vt Aa ax pY=>?_
   rw[e1]at ax pY;have ck:Inv X pins cw aq { s' with heap:=J }:=A5 (t':=s'.toks) eb He ax pY;have TZ:∀a∈l1,hq X pins aq a:=λa aw=>(Aa a aw).elim (He a) λz=>.of eb z (A8 eb.bx z)
   exact eO pins _ cw aq T ev l1 ck TZ vt λbt s3=>hw (.str bv) (qq bp a8 bt) bt (OP ((PY.trans bY).trans s3) ((kq.trans bY).trans s3)) rfl
  .rw[iQ c Fo]at hw;exact hw.elim
end
def qM(h:Den.o3 x=some (ts,y)):∃p,x=.Assign ts y p:=by
 cases x with
 |Assign a b p=>cases h;exact⟨p,rfl⟩
 |_=>exact nn h
def Jr(h:Den.B6 x=some y):∃p,x=.Expr y p:=by
 cases x with
 |Expr a p=>cases h;exact⟨p,rfl⟩
 |_=>exact nn h
def qO(h:Den.mb x=some y):∃p,x=.Return y p:=by
 cases x with
 |Return a p=>cases h;exact⟨p,rfl⟩
 |_=>exact nn h
def Jt(h:Den.tP x=some (t,a,b)):∃p,x=.If t a b p:=by
 cases x with
 |If t a b p=>cases h;exact⟨p,rfl⟩
 |_=>exact nn h
def X1(h:Den.wH x=some (t,it,a,b)):∃p,x=.For t it a b p:=by
 cases x with
 |For t it a b p=>cases h;exact⟨p,rfl⟩
 |_=>exact nn h
structure mh(xp:dx)(g:Den.Gt)(pg:Den.eV)(K:W.Frag)(aX:Str->Option Value)(base:Heap):Prop where
 ex:∃cl C,xp=eh.fK cl/\(∀(c:Nat)(x:Str),g.cls[c]?=some x->∃C,pe aX base cl c x C)/\pf K base cl pg.up C
 lo:∀k,k<2->(pg.up 1).contains k=true
 o8:aX "ValueError"=none
structure ka(xp:dx)(g:Den.Gt)(pg:Den.eV)(X:a4)(ct:Den.dv):Prop where
 cls:mh xp g pg X.K X.aX X.base
 o1:X.stack=X.env::X.outer/\X.env.frame=some X.env.locals
 loc:∀x,Den.jQ ct.sc x=true->Loc X.env.scope x
 fn:∀x,X.fn x=true
 pass:PassesOwn (model X.prog X.w) X.A X.env X.cb
section
variable{xp:dx}{k:Nat}{g:Den.Gt}{pg:Den.eV}{Φ:Den.fe}
def L7(h:Den.b0 g ct v e (.ListComp x mV sc pos)=true):∃bq j s c t it ifs xs,e=.comp bq j s c/\mV=[⟨t,it,ifs,0⟩]/\Den.fm j t=some xs /\
  ((!Den.nq s||j==2)&&Den.rq ct sc xs&&Den.g9 g ct true s it&&Den.b0 g ⟨Den.mask ct.N xs++xs,sc,ct.mu⟩ false bq x&&Den.n6 g ⟨Den.mask ct.N xs++xs,sc,ct.mu⟩ c ifs)=true:=by
 cases e with
 |comp bq j s c =>
  rw[Den.b0]at h
  split at h
  .rename_i nI t it ifs aaT e1;obtain⟨p,ar⟩:=JZ e1;cases ar
   split at h
   .rename_i xs ax;exact⟨bq,j,s,c,t,it,ifs,xs,rfl,rfl,ax,h⟩
   .cases h
  .cases h
 |_=>exact(ab7 h).elim
def Ms(x):(∃y mV sc pos,x=.ListComp y mV sc pos)\/Den.vN x=true:=by
 cases x<;>first|exact .inr rfl|exact .inl ⟨_,_,_,_,rfl⟩
def K0 (aF : dh xp k g pg Φ X ct) (pV : ∀ x, Den.jQ ct.sc x = true -> Loc X.env.scope x) (oo : ∀ x, X.fn x = true) (h : (ct.N[i]? == some x && Den.jQ ct.sc x && Den.okN x && (!ct.mu.contains i || Den.kn e) && Den.b0 g ct false e y) = true) :
    dg X (.Assign [.Name x p] y pos) (c1 xp X ct.mu fun ρ => Den.ex pg Φ ρ (.asg i e)) := by
  simp only [aa3, abx, acN, abQ] at h
  obtain ⟨⟨⟨⟨J, aa⟩, aE⟩, aR⟩, bX⟩ := h
  have aL : X.N.Nodup := by rw [aF.nm]; exact aF.d5
  have ai : X.N[i]? = some x := by rw [aF.nm]; exact J
  have ak := pV x aa
  have hf : X.fn x = true \/ X.env.scope.names.lookup x = some .local := .inl (oo x)
  rcases Ms y with ⟨z, mV, sc, pos', rfl⟩ | ag
  · obtain ⟨bq, j, s, c, t, it, ifs, xs, rfl, rfl, ax, cu⟩ := L7 bX
    obtain ⟨B, eW, gR, kE, sG, Ao⟩ := C4 (pos := pos') (nW (xp := xp) (k := k) (pg := pg) (Φ := Φ) (sizeOf (Den.E.comp bq j s c))) aF (by simp only [Den.E.comp.sizeOf_spec]; lia) ax cu
    have e1 : (fun ρ => Den.ex pg Φ ρ (.asg i (.comp bq j s c))) = fun ρ => (Den.hy pg Φ ρ s >>= fun ds => Den.lZ (Den.cV (i7 j (fun ρ => Den.mQ pg Φ ρ c) (fun ρ => Den.ev pg Φ ρ bq) ρ) ds) >>= fun ys => .ok (.lst ys)) >>= fun d => .ok (.bD (ρ.set i (some d))) := by
      funext ρ
      have := congrFun Ao ρ
      rw [Den.Er]
      rw [this]
    rw [e1]
    exact Wh aF.calm (by rw [aF.nm]; exact aF.mu) B ax eW gR kE sG aL ai ak hf
  · have r := jW aF bX
    have jd := B5 (t := some (.Name x p)) (n := pos.line) (env := X.env) (hh bX) ag
    by_cases hm : i ∈ ct.mu
    · have mY : Den.kn e = true := by
        rcases aR with aR | aR
        · rw [abN.mpr hm] at aR; cases aR
        · exact aR
      exact Iv hm aL ai ak (r.fresh mY) jd hf
    · exact Iu hm aL ai ak r.val jd hf
def K1(aF:dh xp k g pg Φ X ct)(pV:∀x,Den.jQ ct.sc x=true->Loc X.env.scope x)(oo:∀x,X.fn x=true){st:Stmt}(h:Den.yv g ct i e st=true):
  dg X st (c1 xp X ct.mu λρ=>Den.ex pg Φ ρ (.asg i e)):=by
 unfold Den.yv at h
 split at h
 .rename_i t y e1;obtain⟨pos,rfl⟩:=qM e1
  split at h
  .rename_i x ar;obtain⟨p,rfl⟩:=gv ar;exact K0 aF pV oo h
  .cases h
 .cases h
def C6{st:Stmt}(h:Den.uE g ct i e nm st=true):∃x n ap y p1 dJ p4,st=.Expr (.Call (.Attribute (.Name x p1) n ap) [y] [] dJ) p4/\(ap.endLine==dJ.line)=true/\ct.N[i]?=some x/\Den.ju ct.sc x=true/\Den.okN x=true/\i∈ct.mu/\n=nm/\Den.b0 g ct false e y=true:=by
 unfold Den.uE at h
 split at h
 .rename_i c e1;obtain⟨pos,rfl⟩:=Jr e1
  split at h
  .rename_i x n ap y ar;obtain⟨p1,dJ,rfl⟩:=JV ar;simp only[aa3,abx]at h;obtain⟨⟨⟨⟨⟨⟨h0,J⟩,aa⟩,aE⟩,aR⟩,bX⟩,ez⟩:=h;have h0:ap.endLine=dJ.line:=h0;exact⟨x,n,ap,y,p1,dJ,pos,rfl,by simpa using h0,J,aa,aE,abN.mp aR,bX,ez⟩
  .cases h
 .cases h
def Ya(h:Den.B8 x=some y):∃p,x=.Raise (some y) none p:=by
 unfold Den.B8 at h
 split at h
 .cases h;exact⟨_,rfl⟩
 .cases h
def Ye(q:Den.Jw x=some (a,h,e,f)):∃p,x=.Try a h e f p:=by
 cases x with
 |Try a h e f p=>cases q;exact⟨p,rfl⟩
 |_=>exact nn q
def Lb(aF:dh xp k g pg Φ X ct)(a7:ka xp g pg X ct){st:Stmt}(h:Den.yB g ct c st=true):dg X st (c1 xp X ct.mu λρ=>Den.ex pg Φ ρ (.raise c)):=by
 unfold Den.yB at h
 split at h
 .rename_i y e1;obtain⟨pos,rfl⟩:=Ya e1
  split at h
  .rename_i x a ar;obtain⟨np,dJ,rfl⟩:=k9 ar
   split at h
   .rename_i t bf;obtain⟨j,p,rfl⟩:=wU bf;simp only[aa3,abx]at h;obtain⟨⟨⟨rfl,J⟩,aa⟩,aE⟩:=h;obtain⟨cl,C,rfl,dE,O⟩:=a7.cls.ex;obtain⟨w8,uj⟩:=dE 1 x J;obtain rfl:w8=C:=abC (uj.at_.symm.trans O.at_);exact WM uj O aF.calm (aF.r3 aa) (fE aE).1
   .cases h
  .cases h
 .cases h
def Ul:d3 X (binaryOp .Mult) (λx y H Q=>∃z,x=.str z/\y=.int 1/\Q (.str z) H):=by
 intro pins s σ H x y v u Q I bc bM ⟨z,ex,fU,q⟩;subst ex fU;obtain⟨t,rfl⟩:=bc;obtain⟨eJ,rfl⟩:=bM;refine P.mul_str ∅ (λ_ z=>nomatch z) (λ_ z=>nomatch z) ?_;exact⟨.str z,H,I,⟨_,rfl⟩,q⟩
def Vp(O:pf X.K X.base cl up C)(e8:CI X g ct cl)(aB:(bG,d9)∈X.cp)(dE:d9.cls=.ref C)(aI:X.N[j]?=some n)(aC:X.env.scope.names.lookup n=some .local)(vl:Den.okN n=true)(h:Den.yy g ct n k5 dU t=true)(aN:Den.vq up k5 dU=true):fp X [t] (Js j bG (.str Den.gU)):=by
 unfold Den.yy at h
 split at h
 .rename_i gq eG;obtain⟨p4,rfl⟩:=qO eG
  split at h
  .rename_i q v NP;obtain⟨aaM,rfl⟩:=JW NP
   split at h
   .rename_i pO y uM;obtain⟨Uq,Ur,rfl⟩:=k9 uM
    split at h
    .rename_i gu iW rr lD;obtain rfl:=Cq lD;simp only[aa3,abx]at h;obtain⟨⟨⟨⟨ez,gi⟩,gh⟩,rfl⟩,PS⟩:=h;unfold Den.F4 at gh
     split at gh
     case h_2=>cases gh
     rename_i LH NO;obtain⟨aay,aaO,rfl⟩:=wU NO;obtain rfl:LH=Den.gU:=(by simpa using gh);have aK:fj X.env.scope n:=.inl aC;obtain⟨d7,gd⟩:=e8.aV _ PS ∅;obtain⟨iw,aaG⟩:=Hv O e8 aB dE aI aK vl ez;obtain⟨tv,aaH⟩:=Hv O e8 aB dE aI aK vl gi;have Bz:=Hr (pos:=Ur) (p:=Uq) LW d7 gd (show bootBuiltins "int"=some (.type "int") by kernel_rfl) (qv (Hp (pos:=rr) iw (Hx tv)) th) ∅ ∅ rfl rfl;unfold Den.vq at aN;simp only[aa3]at aN;obtain⟨mE,pA⟩:=aN;intro pins s σ H T I ⟨aO,a9⟩;refine Bn (tp (Hy Ul Bf Bz)) pins s σ H T I ?_;refine⟨aO,λnN s5=>⟨_,rfl,?_⟩⟩;rw[mE,if_pos rfl];refine⟨aO,λi0 tG=>?_⟩;rw[pA];exact .inr ⟨_,rfl,_,rfl,rfl,a9 i0 (s5.trans tG)⟩
    .cases h
   .cases h
  .cases h
 .cases h
def L5(h:Den.yw g ct c4 t=true):∃x np,t=.Name x np/\g.cls[c4]?=some x/\Den.ko ct.sc x=true/\Den.okN x=true:=by
 unfold Den.yw at h
 split at h
 .rename_i x e1;obtain⟨np,rfl⟩:=gv e1;simp only[aa3,abx]at h;exact⟨x,np,rfl,h.1.1,h.1.2,h.2⟩
 .cases h
def F3{fc fr:bw->cq D}(ρ):BJ (λρ=>fc ρ>>=λx=>Den.ei x>>=λk=>if k then fr ρ>>=λd=>.ok (.cC d) else .ok (.bD ρ)) g2 ρ=fc ρ>>=λx=>Den.ei x>>=λk=>if k then fr ρ>>=λd=>.ok (.cC d) else g2 ρ:=by
 unfold BJ;dsimp only;cases fc ρ with
 |ok x=>cases x with
  |aV b=>cases b with
   |true=>cases fr ρ<;>rfl
   |false=>rfl
  |_=>rfl
 |_=>rfl
def C7(aF:dh xp k g pg Φ X ct){st:Stmt}(h:Den.uF g ct e st=true):dg X st (c1 xp X ct.mu λρ=>Den.ev pg Φ ρ e>>=λd=>.ok (.cC d)):=by
 unfold Den.uF at h
 split at h
 .rename_i y e1;obtain⟨pos,rfl⟩:=qO e1;exact IE (jW aF h).val
 .cases h
def C5(aF:dh xp k g pg Φ X ct){st:Stmt}(h:Den.uC g ct c r st=true):dg X st (c1 xp X ct.mu λρ=>Den.ev pg Φ ρ c>>=λx=>Den.ei x>>=λk=>if k then Den.ev pg Φ ρ r>>=λd=>.ok (.cC d) else .ok (.bD ρ)):=by
 unfold Den.uC at h
 split at h
 .rename_i t y e1;obtain⟨pos,rfl⟩:=Jt e1;simp only[aa3]at h;exact Iz (jW aF h.1).pt (Bn (C7 aF h.2)) IF
 .cases h
def Le(aF:dh xp k g pg Φ X ct)(a7:ka xp g pg X ct){st:Stmt}(h:Den.yE g ct cF aH bU aT de c4 cu st=true):dg X st (c1 xp X ct.mu λρ=>Den.ex pg Φ ρ (.o6 cF aH bU aT de c4 cu)):=by
 unfold Den.yE at h
 split at h
 .rename_i a1 a2 eD hd bf;obtain⟨pos,rfl⟩:=Ye bf;simp only[aa3,abk]at h;obtain⟨⟨⟨⟨h0,J⟩,aa⟩,aE⟩,aR⟩:=h;obtain⟨cl,C,rfl,dE,O⟩:=a7.cls.ex;have ax:=a7.cls.lo c4 aE;have B:∀(cp:List (Addr×Obj))(E:Value->Shared->Prop),fp (kF X cp E) [a1,a2,eD] (c1 (eh.fK cl) (kF X cp E) ct.mu λρ=>Den.jK pg Φ ρ cF aH bU aT de):=λcp E=>by
   have zK:dh (eh.fK cl) k g pg Φ (kF X cp E) ct:=⟨aF.dq,aF.room,aF.units,aF.calm,aF.nm,aF.d5,aF.mu,aF.lc,aF.rv,aF.gl⟩;have r:=BG (C5 zK h0) (BG (C5 zK J) (Bn (C7 zK aa)));refine cast (ab6 (fp (kF X cp E) [a1,a2,eD]) (ab6 (c1 (eh.fK cl) (kF X cp E) ct.mu) (funext λρ=>?_))) r;refine(F3 (fc:=λρ=>Den.ev pg Φ ρ cF) (fr:=λρ=>Den.ev pg Φ ρ aH) ρ).trans ?_;unfold Den.jK;rw[F3 (fc:=λρ=>Den.ev pg Φ ρ bU) (fr:=λρ=>Den.ev pg Φ ρ aT) ρ]
  have d5:X.N.Nodup:=(by rw[aF.nm];exact aF.d5);have iQ:∀c,c≠1->Den.iJ pg c c4 cu=.bad:=λc ag=>by unfold Den.iJ;rw[beq_false_of_ne ag];rfl
  cases aN:Den.vq pg.up cu.k5 cu.dU with
  |false=>exact IG (bv:=Den.gU) a7.o1 B iQ (.inl (by unfold Den.iJ;rw[aN,Bool.and_false,Bool.and_false];rfl))
  |true =>
   have aK:Den.iJ pg 1 c4 cu=.ok (.cC (.str Den.gU)):=(by unfold Den.iJ;rw[ax,aN];rfl);obtain⟨t,nm,body,aB⟩:=hd;unfold Den.DC at aR
   split at aR
   .rename_i t' lD;have lD:t=some t':=lD;subst lD;simp only[aa3]at aR;obtain⟨bX,ez⟩:=aR;obtain⟨x,np,rfl,gi,c7,kp⟩:=L5 bX;obtain⟨D,i1⟩:=dE c4 x gi;replace ez:Den.yz g ct cu nm body=true:=ez;unfold Den.yz at ez
    split at ez
    .rename_i n;simp only[aa3,abx]at ez;obtain⟨⟨⟨gH,eX⟩,s9⟩,AW⟩:=ez
     split at AW
     .rename_i t1;have aC:=aF.lc n eX;rw[<- aF.nm]at gH;exact IG a7.o1 B iQ (.inr ⟨aK,P6 O i1 ax (aF.r3 c7) (fE kp).1 d5 gH aC λbG d9 ah cp aO a9 bW dn=>Vp (X:=oy X (.ref bG) cp) (g:=g) (ct:=ct) O ⟨λx q=>aF.r3 q,λx q hm=>aF.blt q hm,a7.cls.o8,dE⟩ dn aO gH aC s9 AW aN⟩)
     .cases AW
    .cases ez
   .cases aR
 .cases h
theorem DD:∀{ts:List Nat}{xs:List Str},Den.pC ct ts xs=true->ts.length=xs.length/\(∀t∈ts,t∉ct.mu)/\∀(j i:Nat) y,ts[j]?=some i->xs[j]?=some y->ct.N[i]?=some y/\Den.jQ ct.sc y=true
 |[],[],_=>⟨rfl,by simp,λj i y e=>by simp at e⟩
 |[],_::_,h=>by unfold Den.pC at h;cases h
 |_::_,[],h=>by unfold Den.pC at h;cases h
 |t::ts,x::xs,h=>by
  unfold Den.pC at h;simp only[aa3,abx,abQ]at h;obtain⟨⟨⟨⟨J,aa⟩,aE⟩,aR⟩,bX⟩:=h;obtain⟨aH,aT,de⟩:=DD bX;refine⟨by simp[aH],λz hz=>?_,λj i y e1 ar=>?_⟩
  .rcases aa8.mp hz with rfl|hz
   .intro w;rw[abN.mpr w]at aR;cases aR
   .exact aT z hz
  .cases j with
   |zero=>simp at e1 ar;subst e1 ar;exact⟨J,aa⟩
   |succ j=>exact de j i y (by simpa using e1) (by simpa using ar)
variable(xp k g pg Φ) in
structure fI (n:Nat):Prop where
 s:∀(s:Den.S)(st:Stmt)(ct:Den.dv)(X:a4),sizeOf s<n->dh xp k g pg Φ X ct->ka xp g pg X ct->Den.ly g ct s st=true->dg X st (c1 xp X ct.mu λρ=>Den.ex pg Φ ρ s)
 b:∀(b:Den.B)(st:List Stmt)(ct:Den.dv)(X:a4),sizeOf b<n->dh xp k g pg Φ X ct->ka xp g pg X ct->Den.jG g ct b st=true->fp X st (c1 xp X ct.mu λρ=>Den.eL pg Φ ρ b)
variable{n:Nat}
def K3(aF:dh xp k g pg Φ X ct)(a7:ka xp g pg X ct){st:Stmt}(h:Den.lx ct i st=true):dg X st (c1 xp X ct.mu λρ=>Den.ex pg Φ ρ (.n8 i)):=by
 unfold Den.lx at h
 split at h
 .rename_i t y e1;obtain⟨pos,rfl⟩:=qM e1
  split at h
  .rename_i x ar;obtain⟨p1,rfl⟩:=gv ar;simp only[aa3,abx]at h;obtain⟨⟨⟨⟨J,aa⟩,aE⟩,aR⟩,bX⟩:=h;obtain⟨kR,rfl⟩:=vC bX;exact Ws (abN.mp aR) (by rw[aF.nm];exact aF.d5) (by rw[aF.nm];exact J) (a7.loc x aa) (.inl (a7.fn x))
  .cases h
 .cases h
def K5(aF:dh xp k g pg Φ X ct)(a7:ka xp g pg X ct){st:Stmt}(h:Den.lx ct i st=true):dg X st (c1 xp X ct.mu λρ=>Den.ex pg Φ ρ (.n9 i)):=by
 unfold Den.lx at h
 split at h
 .rename_i t y e1;obtain⟨pos,rfl⟩:=qM e1
  split at h
  .rename_i x ar;obtain⟨p1,rfl⟩:=gv ar;simp only[aa3,abx]at h;obtain⟨⟨⟨⟨J,aa⟩,aE⟩,aR⟩,bX⟩:=h;obtain⟨kR,rfl⟩:=vC bX;exact Wu (abN.mp aR) (by rw[aF.nm];exact aF.d5) (by rw[aF.nm];exact J) (a7.loc x aa) (.inl (a7.fn x))
  .cases h
 .cases h
def K6(aF:dh xp k g pg Φ X ct){st:Stmt}(h:Den.yx g ct i j e st=true):dg X st (c1 xp X ct.mu λρ=>Den.ex pg Φ ρ (.jI i j e)):=by
 unfold Den.yx at h
 split at h
 .rename_i t v e1;obtain⟨pos,rfl⟩:=qM e1
  split at h
  .rename_i x y ar;obtain⟨p1,p2,p3,rfl⟩:=J2 ar;simp only[aa3]at h;obtain⟨⟨⟨J,aa⟩,aE⟩,aR⟩:=h;obtain⟨a1,a2,eD,ht⟩:=qp J;obtain⟨b1,b2,d7,gd⟩:=qw aa;obtain⟨bZ,b7,_⟩:=fE eD;obtain⟨f1,f2,_⟩:=fE d7;exact Ww aF.units ht gd (by rw[aF.nm];exact a1) (aF.gY a2) bZ b7 (by rw[aF.nm];exact b1) (aF.gY b2) f1 f2 (jW aF aR).val (B5 (hh aR) aE)
  .cases h
 .cases h
def K4(aF:dh xp k g pg Φ X ct)(a7:ka xp g pg X ct){st:Stmt}(h:Den.lx ct i st=true):dg X st (c1 xp X ct.mu λρ=>Den.ex pg Φ ρ (.rL i)):=by
 unfold Den.lx at h
 split at h
 .rename_i t y e1;obtain⟨pos,rfl⟩:=qM e1
  split at h
  .rename_i x ar;obtain⟨p1,rfl⟩:=gv ar;simp only[aa3,abx]at h;obtain⟨⟨⟨⟨J,aa⟩,aE⟩,aR⟩,bX⟩:=h;obtain⟨kR,rfl⟩:=vC bX;exact Wt (abN.mp aR) (by rw[aF.nm];exact aF.d5) (by rw[aF.nm];exact J) (a7.loc x aa) (.inl (a7.fn x))
  .cases h
 .cases h
def Yi(h:Den.Jx x=some (t,a,b)):∃p,x=.While t a b p:=by
 cases x with
 |While t a b p=>cases h;exact⟨p,rfl⟩
 |_=>exact nn h
def Ld(aF:dh xp k g pg Φ X ct){st:Stmt}(h:Den.yD g ct i e st=true):dg X st (c1 xp X ct.mu λρ=>Den.ex pg Φ ρ (.oW i e)):=by
 unfold Den.yD at h
 split at h
 .rename_i t v e1;obtain⟨pos,rfl⟩:=qM e1
  split at h
  .rename_i x y ar;obtain⟨p3,rfl⟩:=wW ar
   split at h
   .rename_i cc c4 bf eG;obtain⟨p1,rfl⟩:=gv bf;obtain⟨c,p2,rfl⟩:=wU eG;simp only[aa3,abx]at h;obtain⟨⟨⟨h0,J⟩,aE⟩,aR⟩:=h;subst h0;obtain⟨a1,a2,eD,ht⟩:=qp J;obtain⟨bZ,b7,_⟩:=fE eD;exact WS ht (by rw[aF.nm];exact a1) (aF.gY a2) bZ b7 (jW aF aR).val (B5 (hh aR) aE)
   .cases h
  .cases h
 .cases h
def K9(aF:dh xp k g pg Φ X ct){st:Stmt}(h:Den.yA ct i st=true):dg X st (c1 xp X ct.mu λρ=>Den.ex pg Φ ρ (.pop i)):=by
 unfold Den.yA at h
 split at h
 .rename_i c e1;obtain⟨p4,rfl⟩:=Jr e1
  split at h
  .rename_i y9 ar;obtain⟨dJ,rfl⟩:=wR ar
   split at h
   .rename_i o cc ap bf;obtain rfl:=Co bf
    split at h
    .rename_i x eG;obtain⟨p1,rfl⟩:=gv eG;simp only[aa3,abx]at h;obtain⟨⟨h0,J⟩,aa⟩:=h;obtain⟨a1,a2,eD,ht⟩:=qp aa;obtain⟨bZ,b7,_⟩:=fE eD;have J:ap.endLine=dJ.line:=J;exact s_pop ht h0 (by rw[aF.nm];exact a1) (aF.gY a2) bZ b7 (by simpa using J)
    .cases h
   .cases h
  .cases h
 .cases h
def Lc(aF:dh xp k g pg Φ X ct){st:Stmt}(h:Den.yC g ct i e st=true):dg X st (c1 xp X ct.mu λρ=>Den.ex pg Φ ρ (.wc i e)):=by
 unfold Den.yC at h
 split at h
 .rename_i y e1;obtain⟨pos,rfl⟩:=qO e1;simp only[aa3]at h;have P5:dh xp k g pg Φ X ⟨ct.N,ct.sc,ct.mu.filter λj=>!(j==i)⟩:={ aF with mu:=λj aI=>aF.mu j (List.mem_filter.mp aI).1 };exact WQ (abN.mp h.1) (jW P5 h.2).val
 .cases h
def XH(aG:fI xp k g pg Φ n)(s)(st)(ct)(X)(af:sizeOf s<n+1)(aF:dh xp k g pg Φ X ct)(a7:ka xp g pg X ct)(h:Den.ly g ct s st=true):dg X st (c1 xp X ct.mu λρ=>Den.ex pg Φ ρ s):=by
 cases s with
 |asg i e=>exact K1 aF a7.loc a7.fn h
 |app i e =>
  obtain⟨x,n,ap,y,p1,dJ,p4,rfl,J,aa,aE,aR,bX,ez,gi⟩:=C6 (nm:="append") h;obtain⟨bZ,b7,pE⟩:=fE aR;exact Wg bX ez (by rw[aF.nm];exact aa) (aF.gY aE) bZ b7 J (jW aF gi).val (iA (hh gi))
 |ret e =>
  rw[Den.ly]at h
  split at h
  .rename_i y e1;obtain⟨pos,rfl⟩:=qO e1;exact IE (jW aF h).val
  .cases h
 |oT i =>
  rw[Den.ly]at h
  split at h
  .rename_i y e1;obtain⟨pos,rfl⟩:=qO e1
   split at h
   .rename_i x ar;obtain⟨p1,rfl⟩:=gv ar;obtain⟨a1,a2,eD,ht⟩:=qp h;obtain⟨bZ,b7,_⟩:=fE eD;exact WO ht (by rw[aF.nm];exact a1) (aF.gY a2) bZ b7
   .cases h
  .cases h
 |qA i =>
  rw[Den.ly]at h
  split at h
  .rename_i y e1;obtain⟨pos,rfl⟩:=qO e1
   split at h
   .rename_i x ar;obtain⟨p1,rfl⟩:=gv ar;obtain⟨a1,a2,eD,ht⟩:=qp h;obtain⟨bZ,b7,_⟩:=fE eD;exact WN ht (by rw[aF.nm];exact a1) (aF.gY a2) bZ b7
   .cases h
  .cases h
 |n8 i=>exact K3 aF a7 h
 |n9 i=>exact K5 aF a7 h
 |jI i j e=>exact K6 aF h
 |rL i=>exact K4 aF a7 h
 |oW i e=>exact Ld aF h
 |pop i=>exact K9 aF h
 |wc i e=>exact Lc aF h
 |stop=>exact WV
 |raise c=>exact Lb aF a7 h
 |o6 cF aH bU aT de c4 cu=>exact Le aF a7 h
 |qV c b =>
  rw[Den.ly]at h
  split at h
  .rename_i t x e1;obtain⟨pos,rfl⟩:=Yi e1;simp only[aa3]at h;exact WY a7.pass (jW aF h.1).pt (aG.b b x ct X (by simp at af;lia) aF a7 h.2) 200
  .cases h
 |ext i e =>
  obtain⟨x,n,ap,y,p1,dJ,p4,rfl,J,aa,aE,aR,bX,ez,gi⟩:=C6 (nm:="extend") h;obtain⟨bZ,b7,pE⟩:=fE aR;exact Wx bX ez (by rw[aF.nm];exact aa) (aF.gY aE) bZ b7 J (jW aF gi).val (iA (hh gi))
 |iff c a b =>
  rw[Den.ly]at h
  split at h
  .rename_i t x y e1;obtain⟨pos,rfl⟩:=Jt e1;simp only[aa3]at h;have cE:=aG.b a x ct X (by simp at af;lia) aF a7 h.1.2;have ee:=aG.b b y ct X (by simp at af;lia) aF a7 h.2;exact Iz (jW aF h.1.1).pt cE ee
  .cases h
 |fW j ts s b =>
  rw[Den.ly]at h
  split at h
  .rename_i t it x e1;obtain⟨pos,rfl⟩:=X1 e1
   split at h
   .rename_i xs ax;simp only[aa3]at h;obtain⟨⟨⟨⟨h0,J⟩,_⟩,aE⟩,aR⟩:=h;obtain⟨cF,bU,ie⟩:=DD J;have aL:X.N.Nodup:=(by rw[aF.nm];exact aF.d5);have Ah:Den.nq s=true->∃elts j p,t=.Tuple elts j p:=λaB=>by
     rw[aB]at h0;have aI:j=2:=(by simpa using h0);subst aI;cases t with
     |Tuple elts j p=>exact⟨elts,j,p,rfl⟩
     |_=>simp only[Den.fm]at ax;cases ax
    have aZ:=HB aF.calm aL ax cF λj i y e1 ar=>by
     obtain⟨bO,bF⟩:=ie j i y e1 ar;exact⟨by rw[aF.nm];exact bO,a7.loc y bF,.inl (a7.fn y)⟩
    obtain⟨eW,gR⟩:=(nW (xp:=xp) (k:=k) (g:=g) (pg:=pg) (Φ:=Φ) (sizeOf s+1)).i s it ct false X t (acH _) aF aE Ah;have ee:=aG.b b x ct X (by simp at af;lia) aF a7 aR;exact Wy a7.pass aF.calm bU eW aZ ee (set_plain gR)
   .cases h
  .cases h
def XE(aG:fI xp k g pg Φ n)(b)(st)(ct)(X)(af:sizeOf b<n+1)(aF:dh xp k g pg Φ X ct)(a7:ka xp g pg X ct)(h:Den.jG g ct b st=true):fp X st (c1 xp X ct.mu λρ=>Den.eL pg Φ ρ b):=by
 unfold Den.jG at h
 split at h
 .exact IF
 .rename_i s b x xs;simp only[aa3]at h;have aH:=aG.s s x ct X (by simp at af;lia) aF a7 h.1;have aT:=aG.b b xs ct X (by simp at af;lia) aF a7 h.2;exact BG aH aT
 .cases h
theorem xt:∀n,fI xp k g pg Φ n
 |0=>⟨λ_ _ _ _ h=>⋯,λ_ _ _ _ h=>⋯⟩
 |n+1=>⟨XH (xt n),XE (xt n)⟩
def Ua{st:List Stmt}(aF:dh xp k g pg Φ X ct)(a7:ka xp g pg X ct)(h:Den.jG g ct b st=true):fp X st (c1 xp X ct.mu λρ=>Den.eL pg Φ ρ b):=(xt (sizeOf b+1)).b b st ct X (acH _) aF a7 h
end
def Jg{ds:List D}{i:Nat}{d:D}(h:(Den.start fd ds)[i]?=some (some d)):ds[i]?=some d/\i<ds.length:=by
 unfold Den.start at h
 by_cases ai:i<ds.length
 .rw[abi (by simpa using ai),abj]at h;refine⟨?_,ai⟩;cases e:ds[i]? with
  |none=>rw[e]at h;cases h
  |some a=>rw[e]at h;cases h;rfl
 .rw[abH (by simpa using ai),acY]at h
  split at h<;>cases h
def XC{i:Nat}(h:ah[i]?=some v):(bu.start N ah)[i]?=some (some v):=by
 have ai:=(abo.mp h).1;unfold bu.start;rw[abi (by simpa using ai),abj,h];rfl
def Xu{K:W.Frag}(af:bA G H)(dB:∀b xs,H b=some (.tup xs)->G b=some (.tup xs))(r:bz K G ds ah)(aC:N.length=fd.np+fd.nl)(az:ds.length=fd.np)(hm:∀i∈mu,fd.np<=i):
  bS K mu G H G H (Den.start fd ds) (bu.start N ah):=by
 have no:∀{i:Nat}{d:D},(Den.start fd ds)[i]?=some (some d)->i∈mu->False:=λh q=>by
  have:=(Jg h).2;have:=hm _ q;lia
 refine⟨⟨?_,af,λi d h _=>?_,λi d h q=>(no h q).elim,λi d h q=>(no h q).elim,dB,λi j d e a b h _ _ _ q=>(no h q).elim⟩,Ext.refl af,λi d a h _ q=>(no h q).elim⟩
 .unfold Den.start bu.start;rw[aa7,aa7,List.length_map,List.length_map,adf,adf,<- r.length];lia
 .obtain⟨v,J,aa⟩:=r.get (Jg h).1;exact⟨v,XC J,aa⟩
def ua(K:W.Frag)(aX:Str->Option Value)(g:Den.Gt)(fds:List Den.ll)(f:Nat)(x:Str):Prop :=
 ∃fd N st bl mT,fds[f]?=some fd/\Den.mI g N fd st=true/\aX x=some (.ref bl)/\bu.q3 K x x st bl mT/\Binds K mT ((hv st).args.map (·.arg)) []
section
variable{P:Program}{w:World}{K:W.Frag}{aX:Str->Option Value}{base:Heap}{xp:dx}{g:Den.Gt}{pg:Den.eV}{fds:List Den.ll}
def DB{st:Stmt}(h:Den.mI g N fd st=true):((hv st).args.map (·.arg)).length=fd.np/\xd N ((hv st).args.map (·.arg)) (hx st)/\N.length=fd.np+fd.nl/\(∀i∈Den.jU fd.body,fd.np<=i/\i<N.length) /\
  Den.jG g ⟨N,hx st,Den.jU fd.body⟩ fd.body (lB st)=true:=by
 unfold Den.mI at h
 split at h
 .rename_i name args body sc bind pos;simp only[aa3,abx,abQ,aby,bne_iff_ne,ne_eq,abk]at h;obtain⟨⟨⟨⟨⟨⟨⟨⟨⟨⟨⟨⟨⟨⟨⟨J,aa⟩,aE⟩,aR⟩,bX⟩,ez⟩,_⟩,_⟩,_⟩,_⟩,_⟩,_⟩,gi⟩,c7⟩,kp⟩,u9⟩:=h;have az:(args.args.map (·.arg)).length=fd.np:=(by rw[ez,acF];lia);refine⟨az,⟨J,aa,aE,aR,?_,λx ak=>?_,c7⟩,bX,kp,u9⟩
  .show N.take (args.args.map (·.arg)).length=args.args.map (·.arg);rw[az,ez]
  .have ak:x∈args.args.map (·.arg):=ak;rw[ez]at ak;have:=gi x ak;unfold Den.jQ at this;have this:sc.names.lookup x=some .local\/sc.names.lookup x=some .cell:=(by simpa using this);exact this
 .cases h
def EL(dE:mh xp g pg K aX base)(T:fS P w K aX base xp n g pg (Den.run pg fds n)){st:Stmt}(e:fds[f]?=some fd)(cP:Den.mI g N fd st=true)(F:bu.q3 K x x st bl mT):
  j7 P w K aX base (jx P w xp) (n+1) bl mT ((hv st).args.map (·.arg)) (oY K (Den.run pg fds (n+1) f) ((hv st).args.map (·.arg)).length):=by
 obtain⟨az,S,aL,hW,dW⟩:=DB cP;have Rc:∀ds,Den.run pg fds (n+1) f ds=Den.cL pg (Den.run pg fds n) fd ds:=λds=>by rw[Den.tD,e]
 obtain⟨fN,bb,dc,doc,pm,an,d2,ct,fO,rfl,lk,lK⟩:=F.ex;refine Pq lk lK S (λah H Q E h=>h.1) λA outer s H ah Q E a3 ⟨aK,G,ds,af,dB,r,hw⟩=>?_
 have kz:ds.length=fd.np:=by rw[r.length,aK,az]
 rw[Rc]at hw;unfold Den.cL at hw;rw[if_pos kz]at hw;refine⟨c1 xp (mK (jx P w xp) P w K aX base N x (hx st) bl d2 A outer s H E) (Den.jU fd.body) λρ=>Den.eL pg (Den.run pg fds n) ρ fd.body,?_,?_⟩
 .refine Ua (ct:=⟨N,hx st,Den.jU fd.body⟩) (k:=n) (g:=g) (Φ:=Den.run pg fds n) ⟨T,a3,a3.units,rfl,rfl,S.d5,λi ai=>(hW i ai).2,λx h=>h,λx h=>h,λx h=>h⟩ ⟨dE,⟨rfl,rfl⟩,λx h=>?_,λ_=>rfl,PassesOwn.leaving⟩ dW;unfold Den.jQ at h;have h:(hx st).names.lookup x=some .local\/(hx st).names.lookup x=some .cell:=(by simpa using h);exact h
 .refine⟨G,H,G,Den.start fd ds,Xu af dB r aL kz λi ai=>(hW i ai).1,?_⟩;show cy (Den.eL pg (Den.run pg fds n) (Den.start fd ds) fd.body) _ _;generalize Den.eL pg (Den.run pg fds n) (Den.start fd ds) fd.body=gq at hw ⊢;have hR:∀c:Nat,(∀aq,bA H aq->E (.int c 0) none aq)->eK xp (mK (jx P w xp) P w K aX base N x (hx st) bl d2 A outer s H E) c H:=λc mW pins σ aq s' e l I bY nw ak=>by
   obtain⟨cl,_,rfl,_⟩:=dE.ex;refine eh.leave (base:=base) (outer:=outer) I.ok.frames I.stack rfl ak λJ l1 vt Aa ax pY=>?_
   have ck:Inv _ pins σ aq { s' with heap:=J }:=A5 (t':=s'.toks) I nw ax pY;refine⟨c,aq,l1,I.os,I.bare,ck.base,ck.bx,bY,λa aw=>?_,vt,mW aq bY⟩;have eX:hq (mK (jx P w (eh.fK cl)) P w K aX base N x (hx st) bl d2 A outer s H E) pins aq a:=(Aa a aw).elim (nw a) λz=>.of I z (A8 I.bx z)
   exact⟨eX.2.1.elim (λz=>nomatch z) id,eX.1⟩
  cases gq with
  |bad=>exact hw.elim
  |exc c=>exact hR c hw
  |ok e7 =>
   cases e7 with
   |bD ρ=>exact λσ aM aq dF=>hw .dV aM aq dF.ext rfl
   |cC d=>exact λv aM aq ext rep=>hw v aM aq ext rep
def YO(dE:mh xp g pg K aX base)(T:fS P w K aX base xp n g pg (Den.run pg fds n))(hd:∀f x,g.fns[f]?=some x->ua K aX g fds f x):fS P w K aX base xp (n+1) g pg (Den.run pg fds (n+1)):=by
 refine⟨λf x ak=>?_,T.blt,T.r2⟩;obtain⟨fd,N,st,bl,mT,e,cP,hm,F,ae⟩:=hd f x ak;obtain⟨az,_⟩:=DB cP;exact⟨bl,mT,_,hm,F.gE,ae,EL dE T e cP F,λds kz=>by rw[Den.tD,e];unfold Den.cL;exact if_neg (by rw[<- az];exact kz)⟩
theorem JK(dE:mh xp g pg K aX base)(hd:∀f x,g.fns[f]?=some x->ua K aX g fds f x)(ae:∀x:Str,x∈qZ->aX x=none)(aZ:∀(j:Nat)(x:Str)(d:D),g.r2[j]?=some x->pg.cs[j]?=some d->∃v u,aX x=some u/\RelV v u/\∀G,Rep K G d v):
  ∀n,fS P w K aX base xp n g pg (Den.run pg fds n)
 |0=>⟨λf x ak=>by
   obtain⟨fd,N,st,bl,mT,e,cP,hm,F,ae⟩:=hd f x ak;exact⟨bl,mT,_,hm,F.gE,ae,⟨λah H Q E h=>h.1,λA outer s H args us ah Q E _ _ _ _ ⟨_,_,_,_,_,_,h⟩=>h.elim⟩,λ_ _=>rfl⟩,ae,aZ⟩
 |n+1=>YO dE (JK dE hd ae aZ n) hd
end
noncomputable def pa(Q:Nat->Str->Prop):Nat->List Str->Prop
 |_,[]=>True
 |n,x::xs=>Q n x/\pa Q (n+1) xs
theorem pa.get:∀{xs:List Str}{n f:Nat}{x:Str},pa Q n xs->xs[f]?=some x->Q (n+f) x
 |[],_,_,_,_,h=>by simp at h
 |y::xs,n,0,x,q,h=>by simp at h;subst h;exact q.1
 |y::xs,n,f+1,x,q,h=>by
  have:=pa.get (n:=n+1) (f:=f) q.2 (by simpa using h);rwa[Nat.add_right_comm,Nat.add_assoc]at this
def Ox{us:List Value}(h:us.length=1):∃a,us=[a]:=ada.mp h
def Oy{us:List Value}(h:us.length=2):∃a b,us=[a,b]:=by
 match us,h with
 |[a,b],_=>exact⟨a,b,rfl⟩
def Oz{us:List Value}(h:us.length=3):∃a b c,us=[a,b,c]:=by
 match us,h with
 |[a,b,c],_=>exact⟨a,b,c,rfl⟩
noncomputable def AllB(K:W.Frag):List Str->Prop
 |[]=>True
 |x::xs=>W.nsIn K mainGlobals x=some none/\AllB K xs
theorem AllB.get{K:W.Frag}(X:K.In h)(G:h.Ns mainGlobals aX):∀{xs:List Str},AllB K xs->∀x∈xs,aX x=none
 |[],_,x,ak=>by simp at ak
 |y::ys,q,x,ak=>by
  rcases aa8.mp ak with rfl|ak
  .exact PySem.W.mg_none_of X G q.1
  .exact AllB.get X G q.2 x ak
def ub(K:W.Frag)(x:Str)(st:Stmt):Prop :=
 ∃(f:Addr)(fN:Value)(bb:Option Addr)(dc doc pm:Value)(an:Option Addr)(d2 ct:Value)(fO:Array (Option Value)),W.nsIn K mainGlobals x=some (some (.ref f)) /\
  K.lookup f=some ⟨fN,bb,.func (W.fnOf x x (hv st) (lB st) (hx st) .none dc doc pm an d2 ct),fO⟩/\W.codeIn K d2 x=true/\W.keepIn K (.ref f)=true
def Nz{K:W.Frag}{st:Stmt}{dc doc pm:Value}(a:W.nsIn K mainGlobals x=some (some (.ref f)))(l:K.lookup f=some ⟨fN,bb,.func (W.fnOf x x (hv st) (lB st) (hx st) .none dc doc pm an d2 ct),fO⟩)(c:W.codeIn K d2 x=true)(k:W.keepIn K (.ref f)=true):ub K x st:=⟨f,fN,bb,dc,doc,pm,an,d2,ct,fO,a,l,c,k⟩
def dy{K:W.Frag}{st:Stmt}(X:K.In h)(G:h.Ns mainGlobals aX)(d:ub K x st)(hf:fds[j]?=some fd)(cP:Den.mI g N fd st=true)(ae:∀(dc doc pm:Value)(an:Option Addr)(d2 ct:Value)(us:List Value),us.length=((hv st).args.map (·.arg)).length->bindArgs (W.fnOf x x (hv st) (lB st) (hx st) .none dc doc pm an d2 ct) ⟨us,[]⟩=pure (((hv st).args.map (·.arg)).zip us)):ua K aX g fds j x:=by
 obtain⟨f,fN,bb,dc,doc,pm,an,d2,ct,fO,a,l,c,k⟩:=d;have F:=ES l c k;exact⟨fd,N,st,f,_,hf,cP,ae0 X G a,F,F.binds ae⟩
theorem HZ{K:W.Frag}:∀ns:List Int,bz K G (ns.map Den.D.int) (ns.map V.int)
 |[]=>rfl
 |n::ns=>⟨.int n,ns.map V.int,rfl,rfl,HZ ns⟩
def Xz{K:W.Frag}{ns:List Int}(a7:eg K H a (ns.map V.int))(aA:cS [.lst (ns.map .int)]=.ok (.aV true)):oY K cS 1 [.ref a] H (λv _=>v=.aV true) λ_ _ _=>False:=by
 refine⟨rfl,H,[.lst (ns.map .int)],bA.refl H,λ_ _ z=>z,⟨.ref a,[],rfl,⟨a,_,rfl,a7,HZ ns⟩,rfl⟩,?_⟩;rw[aA];exact λv aM aq _ r=>r
def ME:jx P w xp outer H s (λ_ _ _=>False) e s'->False:=λ⟨_,_,_,_,_,_,_,_,_,_,h⟩=>h
noncomputable def kh(K:W.Frag)(g:Den.Gt)(c:Nat):Option Addr:=match g.cls[c]? with
 |some x=>(match W.nsIn K mainGlobals x with|some (some (.ref C))=>some C|_=>none)
 |none=>none
def L9{K:W.Frag}(h:g.cls[c]?=some x)(e:W.nsIn K mainGlobals x=some (some (.ref C))):kh K g c=some C:=by
 unfold kh;rw[h];dsimp only;rw[e]
def ug(o:Obj)(C N:Addr)(bm:List Value)(newId:String):Prop:=∃(nm q:Str)(bs:List Value)(hdct:Bool)(sn:List Str)(sub:List Value)(ab:Bool)(col:Option Bool)(dd:Option Addr)(k0 k1 k2 k3 k5:Option Value),o=excClassObj nm q C N bs bm hdct sn sub ab col dd k0 k1 k2 k3 k5 newId
def xc(K:W.Frag)(x:Str)(C:Addr)(bm:List Value):Prop:=∃o N i,W.nsIn K mainGlobals x=some (some (.ref C))/\K.lookup C=some o/\ug o C N bm i/\bm.contains (.type "BaseException")=true
def xb(K:W.Frag)(x:Str)(C:Addr)(bm:List Value):Prop:=∃o N,W.nsIn K mainGlobals x=some (some (.ref C))/\K.lookup C=some o/\ug o C N bm "ValueError.__new__"/\PySem.W.nsOkIn K N=true/\W.nsIn K N "__init__"=some none/\PySem.W.tailIn K uA bm=true/\eh.Plain K C bm
def t9(K:W.Frag)(x0 aS:Str):Prop:=∃mg iY mD b1,(xc K x0 mg mD/\xb K aS iY b1)/\(Value.ref iY::b1).contains (.ref mg)=true
def L8{K:W.Frag}(a0:W.nsIn K mainGlobals x0=some (some (.ref mg)))(l0:K.lookup mg=some o0)(e0:ug o0 mg ZQ mD sF)(h0:mD.contains (.type "BaseException")=true)(a1:W.nsIn K mainGlobals aS=some (some (.ref iY)))(l1:K.lookup iY=some iT)(e1:ug iT iY CO b1 "ValueError.__new__")(n:PySem.W.nsOkIn K CO=true)(i:W.nsIn K CO "__init__"=some none)(t:PySem.W.tailIn K uA b1=true)(p1:PySem.W.findIn K (.ref iY) "__class__"=some (some (.builtin "object.__class__")))(p2:PySem.W.findIn K (.ref iY) "__getattribute__"=some (some (.builtin "BaseException.__getattribute__")))(p3:PySem.W.findIn K (.ref iY) "__getattr__"=some none)(p4:b1.contains (.type "object")=true)(p5:b1.contains (.type "BaseException")=true)(m0:(Value.ref iY::b1).contains (.ref mg)=true):t9 K x0 aS :=
 ⟨mg,iY,mD,b1,⟨⟨_,_,_,a0,l0,e0,h0⟩,⟨_,_,a1,l1,e1,n,i,t,⟨p1,p2,p3,p4,p5⟩⟩⟩,m0⟩
section
variable{K:W.Frag}{h:Heap}{aX:Str->Option Value}{g:Den.Gt}{pg:Den.eV}{c:Nat}{x:Str}{C:Addr}{bm:List Value}
def Hl(X:K.In h)(G:h.Ns mainGlobals aX)(aZ:g.cls[c]?=some x)(q:xc K x C bm):pe aX h (kh K g) c x C:=by
 obtain⟨o,N,i,a,l,⟨nm,q,bs,hdct,sn,sub,ab,col,dd,k0,k1,k2,k3,k5,rfl⟩,ae⟩:=q;exact⟨L9 aZ a,ae0 X G a,_,_,_,_,_,_,_,_,_,_,_,_,_,_,_,_,_,X _ _ l,ae⟩
def xb.s(q:xb K x C bm):xc K x C bm:=by
 obtain⟨o,N,a,l,e,n,i,t,P⟩:=q;exact⟨o,N,_,a,l,e,P.dW⟩
def rz(X:K.In h)(G:h.Ns mainGlobals aX)(aZ:g.cls=[x0,aS])(aK:W.nsIn K mainGlobals "ValueError"=some none)(q:t9 K x0 aS)(bh:pg.up 1=[1,0,1000]):mh (eh.fK (kh K g)) g pg K aX h:=by
 obtain⟨mg,iY,mD,b1,⟨qx,aO⟩,m0⟩:=q;have o0:=Hl (c:=0) X G (by rw[aZ];rfl) qx;have iT:=Hl (c:=1) X G (by rw[aZ];rfl) aO.s;refine⟨⟨_,iY,rfl,λc z e=>?_,iT.at_,by rw[bh];rfl,?_⟩,λk ax=>?_,PySem.W.mg_none_of X G aK⟩
 .rw[aZ]at e
  match c,e with
  |0,e=>cases e;exact⟨_,o0⟩
  |1,e=>cases e;exact⟨_,iT⟩
  |n+2,e=>cases e
 .obtain⟨o,N,a,l,⟨nm,q,bs,hdct,sn,sub,ab,col,dd,k0,k1,k2,k3,k5,rfl⟩,n,i,t,P⟩:=aO;refine⟨_,_,_,_,b1,N,nm,q,bs,hdct,sn,sub,ab,col,dd,k0,k1,k2,k3,k5,_,F.excBase_ValueError,rfl,X _ _ l,.of_isNs (PySem.W.isNs_of_in X n),PySem.W.nsMap_none_of_in X n i,PySem.W.tail_of_in X t,P,λk D e=>?_⟩;rw[bh]
  match k,e with
  |0,e=>cases o0.at_.symm.trans e;exact m0
  |1,e=>cases iT.at_.symm.trans e;simp
  |n+2,e=>unfold kh at e;rw[aZ]at e;cases e
 .rw[bh]
  match k,ax with
  |0,_=>rfl
  |1,_=>rfl
end
def Sz{l:PySem.W.OpenLaw}{K:W.Frag}{st:Stmt}(X:K.In h)(G:h.Ns mainGlobals aX)(Qj:aX "law"=some (.ref bl))(dl:ub K "law" st)(hf:fds[f]?=some fd)(cP:Den.mI g N fd st=true)(ak:(hv st).args.map (·.arg)=[x])(zO:∀(dc doc pm:Value)(an:Option Addr)(d2 ct:Value)(s:Shared)(u:Value),BindsTo s (W.fnOf "law" "law" (hv st) (lB st) (hx st) .none dc doc pm an d2 ct) ⟨[u],[]⟩ [(x,u)])(T:∀base:Heap,K.In base->base.Ns mainGlobals aX->mh xp g pg K aX base/\fS l.prog w K aX base xp n g pg (Den.run pg fds n)):
  ∃fd:FuncData,(∀(s:Shared)(u:Value),BindsTo s fd ⟨[u],[]⟩ [(x,u)])/\∀base:Heap,K.In base->base.Ns mainGlobals aX->j7 l.prog w K aX base (jx l.prog w xp) (n+1) bl fd [x] (oY K (Den.run pg fds (n+1) f) 1):=by
 obtain⟨y9,fN,bb,dc,doc,pm,an,d2,ct,fO,a,gk,c,k⟩:=dl;have e:=Qj.symm.trans (ae0 X G a);cases e;refine⟨_,zO dc doc pm an d2 ct,λbase oB nb=>?_⟩;have F:=ES gk c k;have:=EL (T base oB nb).1 (T base oB nb).2 (f:=f) hf cP F;rw[ak]at this;exact this
def walk{l:PySem.W.OpenLaw}{dx:(Str->Option Value)->Heap->Prop}{K:Params->W.Frag}(aC:l.most=some 63)(sg:d.params.defaults=[])(a3:n<=40)(aA:∀ns:List Int,Den.run pg fds n f [.lst (ns.map .int)]=.ok (.aV true))(gB:∀(w:World)(h:Heap),nV w h->(K w.params).In h)(F:∀(w:World)(aX:Str->Option Value)(bl:Addr)(h:Heap),(K w.params).In h->h.Ns mainGlobals aX->aX d.name=some (.ref bl) ->
   ∃fd:FuncData,(∀(s:Shared)(u:Value),BindsTo s fd ⟨[u],[]⟩ [(x,u)])/\∀base:Heap,(K w.params).In base->base.Ns mainGlobals aX->j7 l.prog w (K w.params) aX base (jx l.prog w (eh.fK (kh (K w.params) g))) n bl fd [x] (oY (K w.params) (Den.run pg fds n f) 1)):
  PySem.W.WalkO q loose dx nV l.row.toRowW d [] (λf ah=>PySem.call f ah) :=
 bu.Zp (n:=63) (k:=n) (x:=x) (CX:=λw=>jx l.prog w (eh.fK (kh (K w.params) g))) (sp:=λw=>oY (K w.params) (Den.run pg fds n f) 1) aC ∅ sg (f9.mono (⟨rfl,∅,∅⟩:f9 40 callerA) a3) gB F (λw H a ns _ _ a7=>Xz a7 (aA ns)) λ_ _ _ _ _ z=>ME z
end bC
end
section
namespace CR
open Den bg ef c2 fy e4
def dA(h:fds[f]?=some fd)(n)(ds):run pg fds (n+1) f ds=cL pg (run pg fds n) fd ds:=by rw[tD,h]
noncomputable abbrev b6(n:Nat):fe:=run pg fds n
def YG(n)(c)(h:c.length<=1000):b6 (n+1) 0 [av c]=.ok (.lst ((cU c).map av)):=(dA (f:=0) rfl n _).trans (Xj c h)
def Yy(n)(c o):b6 (n+1) 1 [av c,av o]=.ok (.aV (lies c o)):=(dA (f:=1) rfl n _).trans (SR c o)
def YE(n)(c)(os:List (List Int)):b6 (n+2) 2 [av c,.lst (os.map av)]=.ok (.aV (os.any (lies c))):=(dA (f:=2) rfl _ _).trans (SS (Yy n) c os)
def YL(n)(cs)(aC:∀c∈cs,c≠[])(h:(cX cs).length<=63):b6 (n+3) 3 [.lst (cs.map av)]=.ok (.tup ((bT cs).map av)):=(dA (f:=3) rfl _ _).trans (Zd (YE n) aC h)
def YM(n)(c)(h:c.length<=8):b6 (n+1) 4 [av c]=.ok (.lst ((eF c).map av)):=(dA (f:=4) rfl n _).trans (Zs c h)
def Cc(aL:Good N):∀t∈N.2,t.length<=8:=λt aA=>by have:=pB (aL.dI.cell t aA);have:=aL.dI.ai;lia
def JB(n)(N)(aL:Good N):b6 (n+2) 5 [bo N.1 N.2]=.ok (.lst ((cx N.2).map av)):=(dA (f:=5) rfl _ _).trans (Ow (YM n) (Cc aL) aL.len (uU aL.dI.ai aL.dI.cell))
def Yo(n)(N)(aL:Good N)(k:Nat):b6 (n+3) 6 [bo N.1 N.2,.int ((k:Int)-1)]=.ok (.tup ((cl N.2 k).map av)):=(dA (f:=6) rfl _ _).trans (Mm k (JB n N aL))
def y7(aL:Good N)(hz:z∈cx N.2):z.length<=8:=by
 obtain⟨_,t,J,aa⟩:=hg.mp hz;have:=aa.length_le;have:=Cc aL t J;lia
def JC(n)(c v):b6 (n+1) 8 [av c,.int v]=.ok (av (dl v c)):=(dA (f:=8) rfl n _).trans (SE c v)
def Gu(aL:Good N){cs:List (List Int)}(s:bS N.2 cs):(lf cs).length<=63:=by
 by_cases q:cs=[]
 .rw[q];decide
 .have:=(s.dI aL.dI.cell aL.dI.ai q).ai;lia
def JF{A:List (List Int)}(n)(N)(aL:Good N){cs:List (List Int)}(s:bS N.2 cs)(J:∀a∈A,a∈cs)(aa:∀b∈cs,∃a∈A,∀x∈b,x∈a)(az:A.length<=63):b6 (n+4) 7 [.lst (A.map av)]=if cs=[] then .exc 1 else .ok (dZ cs):=by
 obtain⟨e1,ar⟩:=s.eq aL.dI.cell J aa
 by_cases q:cs=[]
 .have:A=[]:=ac0.mpr λa aw=>by have:=J a aw;rw[q]at this;cases this
  rw[if_pos q,this];exact(dA (f:=7) rfl _ _).trans TX
 .have gA:A≠[]:=λe=>by
   obtain⟨b,ae⟩:=acL _ q;obtain⟨a,aw,_⟩:=aa b ae;rw[e]at aw;cases aw
  have hd:(cX (nb A)).length<=63:=by
   have:=jm (nh (nb A)) (ys:=nb A) λz hz=>(jR _ _).mp hz
   have bf:(nb A).length=A.length:=List.length_map _;lia
  have:=TY (pg:=pg) (Φ:=b6 (n+3)) (c0:=1) (YL n) gA (λc ag=>(s.cell aL.dI.cell c (J c ag)).2) (λc ag=>y7 aL (s.sub c (J c ag))) ⋯ (by rw[e1];exact Gu aL s) hd;rw[e1,ar]at this;rw[if_neg q,A2 q];exact(dA (f:=7) rfl _ _).trans this
def Yj(n)(N)(v)(aL:Good N):b6 (n+5) 9 [bo N.1 N.2,.int v]=if cf N.2 v=[] then .exc 1 else .ok (dZ (cf N.2 v)):=by
 have az:(nu N.2 v).length<=63:=by
  unfold nu;rw[List.length_map];exact abX (ace _ _) aL.len
 have:=JF n N aL (ma aL.dI.cell v) (Vc aL.dI.cell) (Vb aL.dI.cell) az;refine(dA (f:=9) rfl _ _).trans ((Lg (pg:=pg) (Φ:=b6 (n+4)) (fn:=7) λc=>JC (n+3) c v).trans ?_);rw[this]
 split<;>rfl
def YN(n)(N)(v)(aL:Good N):b6 (n+5) 10 [bo N.1 N.2,.int v]=if rest N.2 v=[] then .exc 1 else .ok (dZ (rest N.2 v)):=by
 have az:(nv N.2 v).length<=63:=by
  unfold nv;rw[List.length_map];exact abX (ace _ _) aL.len
 have:=JF n N aL (qK N.2 v) (Ve aL.dI.cell) Vd az;refine(dA (f:=10) rfl _ _).trans ((Zt (pg:=pg) (Φ:=b6 (n+4)) (fn:=7) λc=>JC (n+3) c v).trans ?_);rw[this]
 split<;>rfl
def JE(n)(N)(aL:Good N)(k:Nat):b6 (n+4) 12 [bo N.1 N.2,.int ((k:Int)-1)]=.ok (.b4 (mk (cl N.2 k))):=(dA (f:=12) rfl _ _).trans (S8 k (Yo n N aL k) (ry aL.dI.ai aL.dI.cell k))
def Ym(n)(U xs)(dH:U.Nodup)(ak:xs.Nodup)(h:∀x∈xs,x∈U):b6 (n+1) 13 [.lst (xs.map av),.b4 (mk U)]=.ok (.int (cm U xs:Int)):=(dA (f:=13) rfl _ _).trans (LC dH ak h)
def Yn(n)(U)(b:Nat)(dH:U.Nodup):b6 (n+1) 14 [.int (b:Int),.b4 (mk U)]=.ok (hN U b):=(dA (f:=14) rfl _ _).trans (L4 dH b)
def YF(n)(N)(aL:Good N)(k:Nat):b6 (n+5) 15 [bo N.1 N.2,.int (k:Int)]=.ok (.lst ((dY (e2 N.2 (k+1))).map b9)):=(dA (f:=15) rfl _ _).trans (VW k aL.dI.cell aL.dI.ai (JE n N aL) (YG (n+3)) (Ym (n+3)))
def YI(n)(r q):b6 (n+1) 16 [b9 r,b9 q]=.ok (b9 (r.1 ^^^ q.1,r.2 ^^^ q.2)):=(dA (f:=16) rfl _ _).trans (XP r q)
def Ca(n)(B)(r)(h:(B.map (·.1)).Nodup):b6 (n+2) 17 [b9 r,.bK (dm B)]=.ok (b9 (red B r)):=(dA (f:=17) rfl _ _).trans (VO (YI n) h r)
def YC(n k:Nat)(h:0<k):b6 (n+1) 18 [.int (k:Int)]=.ok (.int ((2 ^ lo k:Nat):Int)):=(dA (f:=18) rfl _ _).trans (SX k h)
def B9(n)(B)(r)(h:dr B)(dW:B.length<900):b6 (n+3) 19 [.bK (dm B),b9 r]=.ok (.bK (dm (grow B r))):=(dA (f:=19) rfl _ _).trans (PQ (Ca n) (YC (n+1)) h dW r)
def Yl(n)(rs)(h:rs.length<=63):b6 (n+4) 20 [.lst (rs.map b9)]=.ok (.bK (dm (dD [] rs))):=(dA (f:=20) rfl _ _).trans (Lv (B9 n) h)
def Ys(n)(rs)(h:rs.length<=63):b6 (n+4) 21 [.lst (rs.map b9)]=.ok (.lst ((el rs).2.map λb:Nat=>D.int (b:Int))):=(dA (f:=21) rfl _ _).trans (RH (B9 n) (Ca (n+1)) h)
def JH(n)(N)(k:Nat)(aL:Good N):∃G:List Nat,b6 (n+6) 22 [bo N.1 N.2,.int (k:Int)]=.ok (.tup (G.map (hN (cl N.2 (k+1)))))/\Told N.2 k G:=by
 have hm:b6 (n+5) 12 [bo N.1 N.2,.int (k:Int)]=.ok (.b4 (mk (cl N.2 (k+1)))):=by
  have:=JE (n+1) N aL (k+1);rwa[show(((k+1:Nat):Int)-1)=(k:Int) by lia]at this
 obtain⟨ds,a,b⟩:=V4 (pg:=pg) (Φ:=b6 (n+5)) k aL.dI.cell aL.dI.ai (Ys (n+1)) (YF n N aL) (Ca (n+3)) (B9 (n+2)) (Yn (n+4)) hm (Yl (n+1));exact⟨ds,(dA (f:=22) rfl _ _).trans a,b⟩
def Yr(n)(N)(aL:Good N):b6 (n+7) 23 [bo N.1 N.2]=.ok (.tup ((List.range (ai N.2)).map λk=>D.int (cZ N.2 k:Int))):=(dA (f:=23) rfl _ _).trans (Q2 (A0 aL.dI) (AZ aL.dI) λk=>JH n N k aL)
def Yk(n)(is:List Int)(k:Nat):b6 (n+1) 25 [.lst (is.map .int),.int (k:Int)]=.ok (.int (is.getD k 0)):=(dA (f:=25) rfl _ _).trans (L0 is k)
def YD(n)(is:List Int)(k:Nat):∃r:Int,0<=r/\r<nR/\b6 (n+2) 26 [.lst (is.map .int),.int (k:Int)]=.ok (.int r):=by
 obtain⟨r,a,b,e⟩:=Tq (pg:=pg) (Yk n is) k;exact⟨r,a,b,(dA (f:=26) rfl _ _).trans e⟩
def Yp(n)(i k):∃r:Int,0<=r/\r<nR/\b6 (n+1) 27 [.int i,.int k]=.ok (.int r):=by
 obtain⟨r,a,b,e⟩:=NH (pg:=pg) (Φ:=b6 n) i k;exact⟨r,a,b,(dA (f:=27) rfl _ _).trans e⟩
def Yz(n)(c o):b6 (n+1) 28 [av c,av o]=.ok (.aV (lies c o)):=(dA (f:=28) rfl n _).trans (Sx c o)
def JI(n)(ts)(aC:∀c∈ts,c≠[])(h:(cX ts).length<=63):b6 (n+2) 29 [.lst (ts.map av)]=.ok (.tup ((m7 ts).map av)):=(dA (f:=29) rfl _ _).trans (SA (Yz n) rfl aC h)
def JG(n s:Nat)(c)(af:s<=8)(ag:c.length<=8):b6 (n+9) 30 [av c,.int (s:Int)]=.ok (.lst ((df s c).map av)):=Ho (fds:=fds) (f:=30) rfl s (n+9) c ⋯ ag
def YH(n)(i m)(J:1<=m)(c7:m<=6):∃cs:List (List Int),b6 (n+2) 31 [.int i,.int m]=.ok (.lst (cs.map av))/\(∀c∈cs,IsCell m c)/\gQ m cs=true/\cs.length<=16:=by
 obtain⟨cs,e,r⟩:=Xv (pg:=pg) (Yp n) i m J c7;exact⟨cs,(dA (f:=31) rfl _ _).trans e,r⟩
def YA(n)(i)(h0:0<=i):∃m ts,b6 (n+10) 32 [.int i,.int 6]=.ok (bo m ts)/\Net m ts/\m<=6/\ts.length<=20:=by
 obtain⟨m,ts,e,r⟩:=TJ (pg:=pg) (Φ:=b6 (n+9)) (JI (n+7)) (JG n) (YH (n+7)) i h0;exact⟨m,ts,(dA (f:=32) rfl _ _).trans e,r⟩
def Yv(n)(N)(aL:Good N)(h:Nat)(gi:h<=7):b6 (n+10) 33 [bo N.1 N.2,.int (h:Int)]=.ok (.lst ((cl N.2 (h+1)).map av)):=by
 rw[<- DF];exact(dA (f:=33) rfl _ _).trans (Su (λc ag=>JG n (h+1) c ⋯ ag) (Cc aL) aL.len (by rw[DF];exact ry aL.dI.ai aL.dI.cell _))
def Yq(n)(N)(aL:Good N):b6 (n+1) 34 [bo N.1 N.2]=.ok (.int (ai N.2:Int)):=(dA (f:=34) rfl _ _).trans (Qv (A0 aL.dI))
def JD(n)(N)(aL:Good N):b6 (n+11) 35 [bo N.1 N.2]=.ok (.lst ((fw N.2).map av)):=(dA (f:=35) rfl _ _).trans (Sw aL.dI.cell aL.dI.ai (AZ aL.dI) (Yq (n+9) N aL) λk ax=>Yv n N aL k ax)
def Yx(n)(h)(af)(az:af.length<100):b6 (n+1) 37 [av (h::af)]=.ok (.lst ((kY ((h-1)::af)).map .int)):=(dA (f:=37) rfl _ _).trans (SJ az)
def Jz(n)(N)(aL:Good N):b6 (n+3) 24 [bo N.1 N.2]=.ok (.int (eo (cx N.2))):=(dA (f:=24) rfl _ _).trans (Mv (JB n N aL))
def YB{A:List (List Int)}(n)(N)(aL:Good N){cs:List (List Int)}(s:bS N.2 cs)(hm:∀z,z∈A<->z∈cs)(az:A.length<=63):b6 (n+3) 36 [.lst (A.map av)]=.ok (bo (lf cs).length (bT (nb cs))):=by
 obtain⟨e1,ar⟩:=s.eq aL.dI.cell (λa aw=>(hm a).mp aw) λb ae=>⟨b,(hm b).mpr ae,λ_ h=>h⟩
 have:=Sy (pg:=pg) (Φ:=b6 (n+2)) (JI n) (λc ag=>s.cell aL.dI.cell c ((hm c).mp ag)) (λc ag=>y7 aL (s.sub c ((hm c).mp ag))) az (by rw[e1];exact Gu aL s);rw[e1,ar]at this;exact(dA (f:=36) rfl _ _).trans this
def JA{A:List (List Int)}(n)(N)(aL:Good N){cs:List (List Int)}(s:bS N.2 cs)(hm:∀z,z∈A<->z∈cs)(az:A.length<=63):b6 (n+4) 40 [.lst (A.map av)]=.ok (dZ cs):=(dA (f:=40) rfl _ _).trans (NM hm λ_=>YB n N aL s hm az)
def EH(aL:Good N)(p):((fw N.2).filter p).length<=63:=abX (ace _ _) (Gl aL.dI.ai aL.dI.cell)
def YJ(n)(N)(v)(aL:Good N):b6 (n+6) 39 [.int 0,bo N.1 N.2,.int v]=.ok (dZ (cf N.2 v)):=by
 have h:=Yj n N v aL;refine(dA (f:=39) rfl _ _).trans ?_
 by_cases q:cf N.2 v=[]
 .rw[if_pos q]at h;rw[show dZ (cf N.2 v)=.str gU by unfold dZ;rw[if_pos q]];exact YW h rfl
 .rw[if_neg q]at h;exact YV h
def YK(n)(N)(v)(aL:Good N):b6 (n+6) 39 [.int 1,bo N.1 N.2,.int v]=.ok (dZ (rest N.2 v)):=by
 have h:=YN n N v aL;refine(dA (f:=39) rfl _ _).trans ?_
 by_cases q:rest N.2 v=[]
 .rw[if_pos q]at h;rw[show dZ (rest N.2 v)=.str gU by unfold dZ;rw[if_pos q]];exact YY h rfl
 .rw[if_neg q]at h;exact YX h
def Yw(n)(N)(cs)(aL:Good N)(s:bS N.2 cs):b6 (n+4) 41 [dZ cs]=.ok (.int (eo cs)):=by
 refine(dA (f:=41) rfl _ _).trans (Sv s aL.dI.cell λq=>?_);have:=Jz n _ (s.good aL q);dsimp only at this;exact this
def Yt(n)(N)(v)(aL:Good N):b6 (n+12) 38 [bo N.1 N.2,.int v]=.ok (.lst ((jl N.2 v).map av)):=(dA (f:=38) rfl _ _).trans (Sr (JD n N aL) λc ag=>y7 aL ((sZ c).mp ag))
def Yu(is:List Int):run pg fds 21 42 [.lst (is.map .int)]=.ok (.aV true) :=
 (dA (f:=42) rfl _ _).trans (Sq (YD 18 is) (YA 10) (λN v aL _=>YJ 14 N v aL) (λN v aL _=>YK 14 N v aL) (Yt 8) (JD 9) (λN v aL=>JA 16 N aL (ma aL.dI.cell v) Th (EH aL _)) (λN v aL=>JA 16 N aL (qK N.2 v) Ti (EH aL _)) (Jz 17) (Yw 16) (Yr 13) (Yx 19) λN aL n=>by
  obtain⟨G,_,b⟩:=JH 0 N n aL;exact b.sum.2)
end CR
end
section
set_option Elab.async false
namespace ue
open PySem PySem.Spec PyProof.Rows bu bC
noncomputable def cY:List Nat:=[1,6,7,8,9,10,11,13,14,15,16,17,19,20,21,22,23,24,25,26,27,28,30,31,32,34,35,36,37,38,39,40,41,42,43,44,45,46,47,48,49,50,51]
noncomputable def st(j:Nat):Stmt:=PySem.Challenge.pw_holeyard_k33_whole_around_a_corner.main.body.getD (cY.getD j 0) (.Pass ⟨0,0,0,0⟩)
def L6:((List.range 43).all λj=>Den.mI e4.gt (e4.G6.getD j []) (e4.fds.getD j ⟨0,0,.nil⟩) (st j))=true:=by decide +kernel
def cP(j:Nat)(h:j<43):Den.mI e4.gt (e4.G6.getD j []) (e4.fds.getD j ⟨0,0,.nil⟩) (st j)=true:=aby.mp L6 j (List.mem_range.mpr h)
structure Txt(K:W.Frag):Prop where
 ds:pa (λj x=>ub K x (st j)) 0 e4.gt.fns
 aV:AllB K qZ
 o8:W.nsIn K mainGlobals "ValueError"=some none
 cl:t9 K "HoleError" "NoNet"
section
variable{K:W.Frag}{h:Heap}{aX:Str->Option Value}
theorem fns(X:K.In h)(G:h.Ns mainGlobals aX)(t:Txt K):pa (ua K aX e4.gt e4.fds) 0 e4.gt.fns:=by
 obtain⟨jH,bZ,b7,pE,Na,Nf,Ng,Nh,Ni,Nj,MF,MG,MH,MI,MJ,MK,ML,MM,MN,MO,MP,MQ,MR,MS,MT,MU,MV,MW,MX,MY,MZ,M0,M1,M3,M4,M5,M6,M7,M8,M9,Nb,Nc,Nd,-⟩:=t.ds;refine⟨dy X G jH rfl (cP 0 ∅) ?_,dy X G bZ rfl (cP 1 ∅) ?_,dy X G b7 rfl (cP 2 ∅) ?_,dy X G pE rfl (cP 3 ∅) ?_,dy X G Na rfl (cP 4 ∅) ?_,dy X G Nf rfl (cP 5 ∅) ?_,dy X G Ng rfl (cP 6 ∅) ?_,dy X G Nh rfl (cP 7 ∅) ?_,dy X G Ni rfl (cP 8 ∅) ?_,dy X G Nj rfl (cP 9 ∅) ?_,dy X G MF rfl (cP 10 ∅) ?_,dy X G MG rfl (cP 11 ∅) ?_,dy X G MH rfl (cP 12 ∅) ?_,dy X G MI rfl (cP 13 ∅) ?_,dy X G MJ rfl (cP 14 ∅) ?_,dy X G MK rfl (cP 15 ∅) ?_,dy X G ML rfl (cP 16 ∅) ?_,dy X G MM rfl (cP 17 ∅) ?_,dy X G MN rfl (cP 18 ∅) ?_,dy X G MO rfl (cP 19 ∅) ?_,dy X G MP rfl (cP 20 ∅) ?_,dy X G MQ rfl (cP 21 ∅) ?_,dy X G MR rfl (cP 22 ∅) ?_,dy X G MS rfl (cP 23 ∅) ?_,dy X G MT rfl (cP 24 ∅) ?_,dy X G MU rfl (cP 25 ∅) ?_,dy X G MV rfl (cP 26 ∅) ?_,dy X G MW rfl (cP 27 ∅) ?_,dy X G MX rfl (cP 28 ∅) ?_,dy X G MY rfl (cP 29 ∅) ?_,dy X G MZ rfl (cP 30 ∅) ?_,dy X G M0 rfl (cP 31 ∅) ?_,dy X G M1 rfl (cP 32 ∅) ?_,dy X G M3 rfl (cP 33 ∅) ?_,dy X G M4 rfl (cP 34 ∅) ?_,dy X G M5 rfl (cP 35 ∅) ?_,dy X G M6 rfl (cP 36 ∅) ?_,dy X G M7 rfl (cP 37 ∅) ?_,dy X G M8 rfl (cP 38 ∅) ?_,dy X G M9 rfl (cP 39 ∅) ?_,dy X G Nb rfl (cP 40 ∅) ?_,dy X G Nc rfl (cP 41 ∅) ?_,dy X G Nd rfl (cP 42 ∅) ?_,trivial⟩<;>intro _ _ _ _ _ _ us az<;>first|(obtain⟨_,rfl⟩:=Ox az;rfl)|(obtain⟨_,_,rfl⟩:=Oy az;rfl)|(obtain⟨_,_,_,rfl⟩:=Oz az;rfl)
def dq{P:Program}{w:World}(X:K.In h)(G:h.Ns mainGlobals aX)(t:Txt K)(base:Heap)(oB:K.In base)(nb:base.Ns mainGlobals aX):mh (eh.fK (kh K e4.gt)) e4.gt e4.pg K aX base/\fS P w K aX base (eh.fK (kh K e4.gt)) 20 e4.gt e4.pg (Den.run e4.pg e4.fds 20):=by
 have ag:mh (eh.fK (kh K e4.gt)) e4.gt e4.pg K aX base:=rz oB nb rfl t.o8 t.cl rfl;exact⟨ag,JK ag (λf x e=>by have:=(fns X G t).get e;rwa[acC]at this) (AllB.get X G t.aV) (λj x d e1 ar=>by cases e1) _⟩
end
end ue
noncomputable def PySem.W.Fast.tw7651552095152596973:=PySem.Challenge.pw_holeyard_k33_whole_around_a_corner
theorem PySem.W.Fast.te7651552095152596973:PySem.Challenge.pw_holeyard_k33_whole_around_a_corner=PySem.W.Fast.tw7651552095152596973:=rfl
namespace PySem.W.Fast
noncomputable def tw10988591177303809669:=()
noncomputable def tw15031643412729960212:=()
noncomputable def tw6363937112968798402:=()
noncomputable def tw6004541367422152089:=()
noncomputable def tw10848073035506998282:=()
noncomputable def tw9955586228636605362:=()
noncomputable def tw17685116132977977150:=()
noncomputable def tw7289877777759152407:=()
noncomputable def tw17382792871208305424:=()
noncomputable def tw12991296921450797054:=()
noncomputable def tw10404442979344198285:=()
noncomputable def tw3949327587884780263:=()
noncomputable def tw9169763402800324659:=()
noncomputable def tw4713408786441385780:=()
noncomputable def tw6305315281197626646:=()
noncomputable def tw4051051973886293419:=()
noncomputable def tw4981530888119300117:=()
noncomputable def tw4018409429816226976:=()
noncomputable def tw8879267539031429624:=()
noncomputable def tw7200099240353411766:=()
noncomputable def tw9631589242353261595:=()
noncomputable def tw756201586328266881:=()
noncomputable def tw17534887706532780456:=()
noncomputable def tw825803951971825852:=()
noncomputable def tw10912542358618427953:=()
noncomputable def tw10007408450938433106:=()
noncomputable def tw13800691995514377863:=()
noncomputable def tw14481321323004417102:=()
noncomputable def tw463953692629561120:=()
noncomputable def tw446143983516143625:=()
noncomputable def tw3775677617836256162:=()
noncomputable def tw11593564582199041107:=()
noncomputable def tw12908161907091439741:=()
noncomputable def tw9228962037219054087:=()
noncomputable def tw18445380214415879051:=()
noncomputable def tw13673523359268272047:=()
noncomputable def tw701597693974450268:=()
noncomputable def tw11696111824576846809:=()
noncomputable def tw16480320438050709705:=()
noncomputable def tw2216450947606578493:=()
noncomputable def tw4933019036522995910:=()
noncomputable def tw6813891874690138537:=()
noncomputable def tw18199503071023429919:=()
noncomputable def tw5360395563861422634:=()
noncomputable def tw14151878310793473075:=()
noncomputable def tw13345304481306333400:=()
noncomputable def tw11439007205371216378:=()
noncomputable def tw6654070369075444691:=()
noncomputable def tw8932259968355290468:=()
noncomputable def tw2629116580491519108:=()
noncomputable def tw7054995669366481276:=()
noncomputable def tw18051552085251303305:=()
noncomputable def tw6155492112432234962:=()
noncomputable def tw6937718273453432512:=()
noncomputable def tw6537968301832571221:=()
noncomputable def tw12391459581908436624:=()
noncomputable def tw17721215454757565416:=()
noncomputable def tw15219652394730914424:=()
noncomputable def tw1128414511668146858:=()
noncomputable def tw8445698782694168158:=()
noncomputable def tw11116361680524083232:=()
noncomputable def tw5991388882683406465:=()
noncomputable def tw14875026597394471159:=()
noncomputable def tw13880069696248438276:=()
noncomputable def tw9920835286500780108:=()
noncomputable def tw4008808798841974135:=()
noncomputable def tw7933728058999517897:=()
noncomputable def tw10770590395189143950:=()
noncomputable def tw3929570400661639080:=()
noncomputable def tw15333586518402425510:=()
noncomputable def tw7922048866883440448:=()
noncomputable def tw1000658002017493097:=()
noncomputable def tw756169469591110994:=()
noncomputable def tw18184148804816727599:=()
noncomputable def tw9084856231775823633:=()
noncomputable def tw740666149437135357:=()
noncomputable def tw9132603205688319788:=()
noncomputable def tw5763291443720814170:=()
noncomputable def tw1489922056750214912:=()
noncomputable def tw17568648196077038543:=()
noncomputable def tw5132142461611331148:=()
noncomputable def tw4349715211641352920:=()
noncomputable def tw2575779726073090092:=()
noncomputable def tw6949351607116319127:=()
noncomputable def tw5024459969615492617:=()
noncomputable def tw15042139383764763789:=()
noncomputable def tw15542280585874634350:=()
noncomputable def tw609675800671771045:=()
noncomputable def tw10158491632974633829:=()
noncomputable def tw9786023521136614578:=()
noncomputable def tw1776184781492132513:=()
noncomputable def tw16130095831547207496:=()
noncomputable def tw14280686170407331147:=()
noncomputable def tw5961242467845421636:=()
noncomputable def tw15759814395201064080:=()
noncomputable def tw11478137380837419548:=()
noncomputable def tw9974258928255865056:=()
noncomputable def tw14170408693149164200:=()
noncomputable def tw9073007257053779492:=()
noncomputable def tw6728972695146676356:=()
noncomputable def tw14712249569362788912:=()
noncomputable def tw6884830109018406408:=()
noncomputable def tw10461444639748089268:=()
noncomputable def tw8451291569933068031:=()
noncomputable def tw2604741313738158093:=()
noncomputable def tw8139658875021645569:=()
noncomputable def tw11314038895749816129:=()
noncomputable def tw9705687081126382095:=()
noncomputable def tw15159309021426216512:=()
noncomputable def tw15011346261434872724:=()
noncomputable def tw11040842707875953505:=()
noncomputable def tw8834390486541260713:=()
noncomputable def tw772202302429022331:=()
noncomputable def tw2175435845895263364:=()
noncomputable def tw13176403435752315568:=()
noncomputable def tw9413301217957858936:=()
noncomputable def tw18004446362897783499:=()
noncomputable def tw12057065389422176186:=()
noncomputable def tw16226000322790098999:=()
noncomputable def tw5661228158590233432:=()
end PySem.W.Fast
open PySem PySem.W PyProof.Rows
set_option maxRecDepth 100000 in
set_option maxHeartbeats 0 in
theorem PySem.Challenge.cw_holeyard_k33_whole_around_a_corner_holds : PySem.Challenge.rw_holeyard_k33_whole_around_a_corner.Holds := by
 w_on;o_law;k_head;(case hw=>w_witness2)
 k_fill
 refine bC.walk (g:=e4.gt) (l:=PySem.Challenge.rw_holeyard_k33_whole_around_a_corner) (pg:=e4.pg) (fds:=e4.fds) (n:=21) (f:=42) (x:="_law_script") rfl rfl ∅ CR.Yu (λw h Y=>PySem.W.kIn_of Y) ?F
 case F =>
  intro w aX bl h iE G sl;have cl:bC.t9 (bu.uh iE) "HoleError" "NoNet":=by
   dsimp only[bu.uh];refine' bC.L8 ?a0 ?l0 ?e0 ?h0 ?a1 ?l1 ?e1 ?n ?i ?t ?p1 ?p2 ?p3 ?p4 ?p5 ?m0
   (case a0=>k_is);(case l0=>k_is);(case e0=>exact⟨_,_,_,_,_,_,_,_,_,_,_,_,_,_,rfl⟩);(case h0=>rfl);(case a1=>k_is);(case l1=>k_is);(case e1=>exact⟨_,_,_,_,_,_,_,_,_,_,_,_,_,_,rfl⟩);(case n=>kernel_rfl);(case i=>k_is);(case t=>kernel_rfl);(case p1=>k_is);(case p2=>k_is);(case p3=>k_is);(case p4=>rfl);(case p5=>rfl);(case m0=>rfl)
  have t:ue.Txt (bu.uh iE):=by
   refine⟨⟨?_,?_,?_,?_,?_,?_,?_,?_,?_,?_,?_,?_,?_,?_,?_,?_,?_,?_,?_,?_,?_,?_,?_,?_,?_,?_,?_,?_,?_,?_,?_,?_,?_,?_,?_,?_,?_,?_,?_,?_,?_,?_,?_,trivial⟩,⟨?_,?_,?_,?_,?_,?_,?_,?_,?_,?_,?_,?_,?_,?_,trivial⟩,?_,cl⟩<;>dsimp only[bu.uh]<;>first|(refine' bC.Nz ?a ?l ?c ?k;(case a=>k_is);(case l=>k_is);(case c=>k_is);(case k=>k_is))|k_is
  exact bC.Sz iE G sl (t.ds.get (f:=42) rfl) rfl (ue.cP 42 ∅) rfl (λ_ _ _ _ _ _ s u=>.of_eq rfl) (ue.dq iE G t)
end
end
