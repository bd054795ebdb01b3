import PyProof.Rows.All
import Wide.All
import OpenK.AllK
import Wide.FinOn
import Lean
import PyProof.EqAt
import PyProof.EqKinds
import PyProof.TupleCall
import PySem.Value
import PySem.Sem
import PySem.SetTable
import PyProof.TupleKey
import PyProof.SetKind
import PyProof.DictKinds
import PyProof.IsRules
import PyProof.CompMap
import PyProof.Rows.SetFrom
import PyProof.WalksMore
import PyProof.FactsAll.subtypes_4
import PyProof.FactsAll.set
import PyProof.Seq
import PyProof.Walks
import KE.KDictSum
import PyProof.CollectStr
import PyProof.ListRange
import PyProof.Rows.SortShell
import PyProof.Rows.SortRuns
import KE.KSortAsk
import KE.KSortTup
import PyProof.StationsW
import PyProof.RulesAs
import PyProof.ExcClass3
import PyProof.IsInstance
import OpenK.KMore
import PyProof.ExcArgsOwn
import OpenK.KDescr
import PyProof.EnumMake
import PyProof.EnumFor
import PyProof.EnumStmt
import KE.BitLaws
import PyProof.Rows.SumAny
import PyProof.WalkInts
import PyProof.ExcBaseAll.ValueError
import PyProof.StrOps2
import PySem.Challenge.RW_holeyard_k30_whole_taken_off
set_option linter.all false
def aa5:=@PySem.wpAny_bind
def aa6:=@Bool.and_eq_true
def aa7:=@PySem.wpAny_pure
def aa8:=@PySem.Heap.get?_push_of_some
def aa9.{u}:=@List.mem_cons.{u}
def aba:=@Bool.false_eq_true
def abb:=@Nat.le_refl
def abc.{u}:=@List.getElem?_eq_getElem.{u}
def abd:=@PySem.Heap.lt_size
def abe.{u}:=@List.size_toArray.{u}
def abf:=@PySem.Heap.get?_push_size
def abg:=@Nat.mod_two_eq_zero_or_one
def abh.{u}:=@Array.getElem?_eq_getElem.{u}
def abi.{u}:=@List.mem_filter.{u}
def abj.{u,v}:=@List.getElem?_map.{u,v}
def abk.{u}:=@List.nodup_iff_pairwise_ne.{u}
def abl:=@decide_eq_true_eq
def abm.{u}:=@List.mem_singleton.{u}
def abn.{u}:=@List.mem_append_right.{u}
def abo.{u}:=@List.getElem?_append_left.{u}
def abp:=@Nat.ne_of_lt
def abq.{u}:=@List.mem_append.{u}
def abr:=@Nat.lt_of_lt_of_le
def abt.{u}:=@List.getElem?_eq_some_iff.{u}
def abu:=@PySem.Heap.get?_update_other
def abv.{u}:=@List.nodup_cons.{u}
def abw.{u}:=@if_false.{u}
def abx.{u}:=@List.Pairwise.sublist.{u}
def aby.{u}:=@List.pairwise_cons.{u}
def abz:=@Nat.zero_le
def abA:=@PySem.Heap.get?_update_self
def abB.{u}:=@List.all_eq_true.{u}
def abC.{u}:=@List.getElem?_eq_none.{u}
def abD.{u}:=@Array.getElem?_eq_some_iff.{u}
def abE:=@PySem.wpAny_newObj_type
def abF.{u}:=@List.getElem?_append_right.{u}
def abG.{u}:=@beq_iff_eq.{u}
def abH.{u}:=@beq_eq_false_iff_ne.{u}
def abI.{u}:=@Option.some.inj.{u}
def abJ.{u}:=@List.length_filter_le.{u}
def abK.{u,v}:=@List.pairwise_map.{u,v}
def abL.{u,v}:=@List.lookup_cons.{u,v}
def abM.{u,v}:=@List.map_congr_left.{u,v}
def abN.{u}:=@List.Pairwise.imp_of_mem.{u}
def abO.{u}:=@Array.getElem?_toList.{u}
def abP.{u}:=@List.idxOf_lt_length_of_mem.{u}
def abQ:=@PyProof.Rows.wpS_bind
def abR.{u}:=@List.contains_iff_mem.{u}
def abS:=@PySem.mem_of_lookup
def abT:=@Nat.pow_le_pow_right
def abU:=@Bool.not_eq_true'
def abV:=@PySem.wpAny_mono
def abW.{u}:=@Ne.symm.{u}
def abX:=@PyProof.Rows.slot_tuple_getitem
def abY.{u}:=@if_true.{u}
def abZ:=@PySem.Heap.SameBut.update
def ab0.{u}:=@Option.some.injEq.{u}
def ab1:=@PySem.wpAny_loadPart_at
def ab2:=@Nat.le_trans
def ab3.{u}:=@Array.getElem?_setIfInBounds.{u}
def ab4:=@PySem.codeAny_builtin
def ab5:=@PySem.wpAny_call_entry
def ab6:=@Nat.xor_assoc
def ab7:=@PyProof.Rows.callWith_type1
def ab8.{u}:=@Array.getD_eq_getD_getElem?.{u}
def ab9:=@PySem.wpAny_setState_of
def aca:=@of_decide_eq_true
def acb:=@PySem.wpAny_callSpecial?_slot
def acd:=@Bool.false_ne_true
def ace.{u}:=@List.getElem_idxOf.{u}
def acf:=@PySem.wpAny_holding
def acg:=@Nat.testBit_xor
def ach:=@Classical.byContradiction
def aci.{u}:=@List.filter_sublist.{u}
def acj.{u}:=@List.Pairwise.imp.{u}
def ack:=@PySem.wpAny_setField
def acm.{u}:=@List.append_nil.{u}
def acn:=@PySem.F.slot_dict_keyiterator_next
def aco.{u}:=@List.countP_eq_length_filter.{u}
def acp.{u,v}:=@congrArg.{u,v}
def acq.{u}:=@List.mem_of_getElem?.{u}
def acr.{u}:=@List.cons_append.{u}
def acs:=@PySem.Around.under_plainId
def acu:=@PyProof.Rows.wpS_pure
def acv:=@Nat.lt_irrefl
def acw:=@Bool.not_true
def acx:=@Nat.testBit_lt_two_pow
def acy.{u}:=@List.nodup_append.{u}
def acz:=@PySem.wpAny_isSubtype_exc
def acA:=@PySem.wpAny_Call_Name_kw
def acB:=@PySem.Obj.data_mapFields
def acC:=@PySem.wpAny_field
def acD:=@PySem.wpAny_typeNameOfWhole_keyiter
def acE:=@PySem.wpAny_truthy_bool
def acF.{u}:=@List.pairwise_singleton.{u}
def acG.{u}:=@List.ext_getElem?.{u}
def acH.{u}:=@List.length_set.{u}
def acI:=@Bool.or_eq_true
def acJ:=@PyProof.Rows.F.plain_set_update_loop
def acK.{u}:=@List.take_of_length_le.{u}
def acL.{u}:=@List.length_take.{u}
def acM.{u}:=@List.length_drop.{u}
def acN:=@Nat.lt_succ_self
def acO.{u,v}:=@List.mem_flatMap.{u,v}
def acP:=@PySem.Calls.spliced_cons
def acQ:=@Nat.xor_lt_two_pow
def acR.{u}:=@List.pairwise_iff_getElem.{u}
def acS.{u}:=@List.drop_eq_getElem_cons.{u}
def acT:=@PySem.wpAny_passesOwn
def acU:=@Nat.zero_add
def acV:=@Nat.xor_self
def acW.{u}:=@List.append_assoc.{u}
def acX.{u}:=@bne_self_eq_false.{u}
def acY:=@Nat.testBit_two_pow_self
def acZ:=@PySem.wpAny_typeNameOf_keyiter
def ac0:=@PySem.AutoSeq1.wpAny_loadPart'
def ac1:=@List.getElem?_range
def ac2.{u,v}:=@List.flatMap_append.{u,v}
def ac3.{u}:=@List.getElem?_replicate.{u}
def ac4.{u}:=@List.nodup_nil.{u}
def ac5:=@PySem.F.plainAttrs_list
def ac6.{u}:=@List.eq_nil_of_length_eq_zero.{u}
def ac7:=@PySem.wpAny_typeOf
def ac8.{u,v}:=@List.map_nil.{u,v}
def ac9:=@Nat.and_mod_two_eq_one
def ada.{u}:=@Array.getElem?_eq_none.{u}
def adb:=@List.pairwise_lt_range
def ade:=@PySem.F.called_set
def adf:=@Int.natCast_nonneg
def adg.{u}:=@List.length_eq_one_iff.{u}
def adh.{u}:=@List.contains_cons.{u}
def adi.{u}:=@List.length_replicate.{u}
def adj.{u}:=@List.getElem?_toArray.{u}
def adk:=@PySem.Obj.isFreed_of_fields
def adl:=@PySem.Calls.spliced_nil
def adm.{u}:=@List.countP_congr.{u}
def adn.{u}:=@List.Sublist.refl.{u}
def ado:=@Nat.pow_lt_pow_right
def adp:=@Nat.le_of_lt
def adq:=@Nat.xor_zero
def ads:=@Nat.zero_testBit
def adt:=@Nat.zero_xor
def adu:=@PySem.wpAny_askSetting
def adv.{u}:=@List.any_eq_true.{u}
def adw.{u}:=@List.nil_sublist.{u}
def adx:=@Bool.or_true
def ady:=@Nat.testBit_two_pow
def adz:=@PyProof.Rows.F.entry_set_update_loop
def adA.{u}:=@List.length_pos_iff.{u}
def adB:=@PySem.F.args_tuple_add_2
def adC.{u}:=@List.length_erase_of_mem.{u}
def adD:=@PySem.wpAny_attempt
def adE:=@PySem.wpAny_execs_nil
def adF.{u,v}:=@List.countP_map.{u,v}
def adG.{u,v}:=@List.mem_filterMap.{u,v}
def adH.{u,v}:=@List.map_singleton.{u,v}
def adI.{u}:=@List.filter_append.{u}
def adJ:=@PySem.F.entry_tuple_add
def adK:=@decide_true
def adL:=@Bool.false_and
def adM:=@PySem.F.slot_tuple_add
def adN:=@PySem.Calls.callWith_builtin
def adO.{u}:=@List.length_pos_of_mem.{u}
def adP:=@Nat.lt_trichotomy
def adQ:=@Nat.xor_mod_two_eq_one
def adR:=@PySem.wpAny_storeSet_of
def adS:=@PySem.wpAny_pyIter_list
def adT:=@PySem.wpAny_runValue
def adU:=@PySem.F.plain_list_iadd
def adV:=@PyProof.Rows.wpS_forRange
def adW:=@List.range_succ_eq_map
def adX:=@PySem.F.slot_dict_get
def adY.{u}:=@List.take_append_drop.{u}
def adZ:=@PySem.builtinLookup_eq_fast
def ad0:=@PySem.F.typeOf_object_class
def ad1:=@PyProof.Rows.callWith_builtin1
def ad2:=@PySem.wpAny_forIn_list
def ad3:=@Nat.testBit_zero
def ad4:=@Nat.testBit_succ
def ad5.{u}:=@List.countP_cons.{u}
def ad6:=@PySem.putSet_of
def ad7:=@PySem.wpAny_rule
def ad8:=@PySem.wpAny_isInstance
def ad9:=@PySem.F.args_dict_keyiterator_next_1
def aea:=@Nat.max_eq_right
def aeb:=@PyProof.Rows.reverseSlice'_eq
def aec:=@PyProof.Rows.wpS_modify
def aed.{u}:=@List.sublist_nil.{u}
def aee:=@PySem.plainId_quiet
def aef.{u}:=@List.getElem?_set_ne.{u}
def aeg:=@PySem.Calls.evalArgs_plain
def aeh.{u}:=@List.map_id.{u}
def aei:=@Nat.eq_of_testBit_eq
def aej:=@PySem.codeAny_call_builtin
def aek:=@PySem.F.entry_dict_keyiterator_next
def ael:=@Nat.and_div_two
def aem:=@PySem.wpAny_updateSeq
def aen.{u}:=@List.countP_eq_zero.{u}
def aeo:=@PySem.wpAny_setEntries_of
def aep:=@PySem.codeAny_mono
def aeq:=@PySem.tupleKind_room_in1
def aer:=@Bool.not_false
def aes:=@Int.emod_lt_of_pos
def aet.{u}:=@Array.size_extract.{u}
def aeu:=@PySem.wpAny_pyIter_tuple
def aev:=@PySem.Code.quiet_builtin
def aew:=@PySem.isSubtype_type
def aex:=@PySem.wpAny_fieldsOf
def aey:=@PySem.Value.isInt_shape
def aez.{u,v}:=@Sum.inl.inj.{u,v}
def aeA.{u}:=@Array.size_append.{u}
def aeB:=@PySem.Heap.SameBut.refl
def aeC:=@PySem.wpAny_pyIter_slot
def aeD:=@PySem.wpAny_dictEntries
def aeE:=@Bool.and_self
def aeF:=@PySem.noFill_tuple_add
def aeG:=@Nat.le_of_not_lt
def aeH:=@PySem.F.args_dict_get_3
def aeI.{u}:=@List.not_mem_nil.{u}
def aeJ:=@decide_eq_false_iff_not
def aeK.{u}:=@List.getElem_mem.{u}
def aeL:=@PySem.isinstance_outer
def aeM:=@PySem.W.cellsFrom_some
def aeN:=@PySem.concat_meets
def aeO:=@PySem.F.entry_dict_get
def aeP:=@Nat.lt_or_ge
def aeQ:=@PySem.wpAny_specialOf
def aeR:=@Nat.two_pow_pos
def aeS:=@Nat.xor_div_two
def aeT:=@Nat.testBit_and
def aeU:=@Int.emod_nonneg
def aeV:=@PySem.typeLookup_type
def aeW:=@PySem.wpAny_dictEpoch
def aeX:=@PySem.call_isinstance
def aeY:=@Bool.xor_false
def aeZ:=@PySem.wpAny_of_eq
def ae0:=@PySem.W.mg_of
def ae1:=@Nat.mod_lt
def ae2:=@Nat.ne_of_gt
def ae3:=@Nat.xor_comm
def ae4:=@Nat.sub_self
def ae5:=@Int.sub_zero
noncomputable section
section
set_option Elab.async false
set_option linter.all false
set_option maxRecDepth 100000
namespace bu
open PySem PySem.Spec PyProof.Rows
noncomputable abbrev Key:=Sum Int Str
noncomputable def qM:Key->Value->Bool
 |.inl k,v=>Value.isInt k v
 |.inr x,v=>Value.isStrOf x v
noncomputable def Sp(w:World):Key->Int
 |.inl k=>hashInt k
 |.inr x=>hashStr w x
def lZ:∀{k:Key}{v:Value},qM k v=true->(∃i t,k=Sum.inl i/\v=Value.int i t)\/(∃x t,k=Sum.inr x/\v=Value.str x t)
 |.inl i,v,h=>by
  obtain⟨t,e⟩:=aey (k:=i) (v:=v) h;exact .inl ⟨i,t,rfl,e⟩
 |.inr x,v,h=>by
  obtain⟨t,e⟩:=Value.isStrOf_shape (x:=x) (v:=v) h;exact .inr ⟨x,t,rfl,e⟩
def Sr(i:Int)(t:Tok):qM (.inl i) (.int i t)=true:=by simp[qM,Value.isInt]
def Ss(x:Str)(t:Tok):qM (.inr x) (.str x t)=true:=by simp[qM,Value.isStrOf]
def Sw(a b:Int):decide ((Sum.inl a:Key)=Sum.inl b)=(a==b):=by
 by_cases e:a=b
 .subst e;simp
 .have h:¬(Sum.inl a:Key)=Sum.inl b:=λq=>e (aez q)
  rw[decide_eq_false h];exact(abH.mpr e).symm
def Sz(a b:Str):decide ((Sum.inr a:Key)=Sum.inr b)=decide (a=b):=by
 by_cases e:a=b
 .subst e;simp
 .have h:¬(Sum.inr a:Key)=Sum.inr b:=λq=>e (Sum.inr.inj q)
  rw[decide_eq_false h,decide_eq_false e]
def Sx(a:Int)(b:Str):decide ((Sum.inl a:Key)=Sum.inr b)=false:=decide_eq_false (λq=>nomatch q)
def Sy(a:Str)(b:Int):decide ((Sum.inr a:Key)=Sum.inl b)=false:=decide_eq_false (λq=>nomatch q)
noncomputable def g6(prog:Program)(w:World):PySem.KeyKind prog w Key where
 is:=qM
 hash:=Sp w
 inj:=λv a b aA aa=>by
  rcases lZ aA with⟨i,t,rfl,rfl⟩|⟨x,t,rfl,rfl⟩
  .rcases lZ aa with⟨j,u,rfl,e⟩|⟨y,u,rfl,e⟩
   .injection e with e1 _;rw[e1]
   .exact nomatch e
  .rcases lZ aa with⟨j,u,rfl,e⟩|⟨y,u,rfl,e⟩
   .exact nomatch e
   .injection e with e1 _;rw[e1]
 byValue:=λk v h=>by
  rcases lZ h with⟨i,t,rfl,rfl⟩|⟨x,t,rfl,rfl⟩<;>rfl
 pyHash:=λaI h=>by
  rcases lZ aI with⟨i,t,rfl,rfl⟩|⟨x,t,rfl,rfl⟩
  .exact wpAny_pyHash_int h
  .exact wpAny_pyHash_str h
 eqBool:=λbc aI h=>by
  rcases lZ bc with⟨i,t,rfl,rfl⟩|⟨x,t,rfl,rfl⟩
  .rcases lZ aI with⟨j,u,rfl,rfl⟩|⟨y,u,rfl,rfl⟩
   .rw[Sw]at h;exact wpAny_eqBool_int h
   .rw[Sx]at h;exact SeqAt.EqAt.int_str i t y u _ _ _ _ h
  .rcases lZ aI with⟨j,u,rfl,rfl⟩|⟨y,u,rfl,rfl⟩
   .rw[Sy]at h;exact SeqAt.EqAt.str_int x t j u _ _ _ _ h
   .rw[Sz]at h;exact wpAny_eqBool_str h
 «strs»:=λk x t v h=>by
  rcases lZ h with⟨i,u,rfl,e⟩|⟨y,u,rfl,e⟩
  .exact nomatch e
  .injection e with e1 _;subst e1;cases v<;>rfl
def Tw(prog:Program)(w:World)(i:Int)(t:Tok):(g6 prog w).is (.inl i) (.int i t)=true:=Sr i t
def Tx(prog:Program)(w:World)(x:Str)(t:Tok):(g6 prog w).is (.inr x) (.str x t)=true:=Ss x t
end bu
namespace bu
open PySem PySem.Spec PyProof.Rows
inductive V where
 |dT|aP (b:Bool)|int (i:Int)|str (x:Str)|y0 (b:Array UInt8)|jr (b:UInt64)|ref (a:Addr)|ty (n:String)
 deriving DecidableEq
noncomputable def RelV:V->Value->Prop
 |.dT,u=>u=Value.none
 |.aP b,u=>u=Value.bool b
 |.int i,u=>∃t,u=Value.int i t
 |.str x,u=>∃t,u=Value.str x t
 |.y0 b,u=>∃t,u=Value.bytes b t
 |.jr b,u=>∃t,u=Value.float b t
 |.ref a,u=>u=Value.ref a
 |.ty n,u=>u=Value.type n
noncomputable abbrev Vals:List V->List Value->Prop:=Paired RelV
theorem Vals.length{xs:List V}{us:List Value}(r:Vals xs us):xs.length=us.length:=Paired.length r
theorem Vals.get:∀{xs:List V}{us:List Value}{i:Nat}{x:V},Vals xs us->xs[i]?=some x->∃u,us[i]?=some u/\RelV x u
 |_,_,_,_,.nil,e=>by simp at e
 |_,_,0,_,.cons r _,e=>by simp at e;subst e;exact⟨_,rfl,r⟩
 |_,_,i+1,x,.cons _ t,e=>by
  obtain⟨u,J,h2⟩:=Vals.get (i:=i) (x:=x) t (by simpa using e);exact⟨u,by simpa using J,h2⟩
theorem Vals.set{x:V}{u:Value}(r:RelV x u):∀{xs:List V}{us:List Value}(i:Nat),Vals xs us->Vals (xs.set i x) (us.set i u)
 |_,_,_,.nil=>.nil
 |_,_,0,.cons _ t=>.cons r t
 |_,_,i+1,.cons q t=>.cons q (Vals.set r i t)
theorem Vals.append:∀{xs ys:List V}{us ws:List Value},Vals xs us->Vals ys ws->Vals (xs++ys) (us++ws)
 |_,_,_,_,.nil,s=>s
 |_,_,_,_,.cons r t,s=>.cons r (Vals.append t s)
theorem Vals.take:∀{xs:List V}{us:List Value}(n:Nat),Vals xs us->Vals (xs.take n) (us.take n)
 |_,_,0,_=>.nil
 |_,_,_+1,.nil=>.nil
 |_,_,n+1,.cons r t=>.cons r (Vals.take n t)
theorem Vals.drop:∀{xs:List V}{us:List Value}(n:Nat),Vals xs us->Vals (xs.drop n) (us.drop n)
 |_,_,0,r=>r
 |_,_,_+1,.nil=>.nil
 |_,_,n+1,.cons _ t=>Vals.drop n t
noncomputable def iR:Option V->Option Value->Prop
 |some v,some u=>RelV v u
 |none,none=>True
 |_,_=>False
def eO{κ:Type}:List (κ×V)->List (κ×Value)->Prop:=Paired λ(p:κ×V)(q:κ×Value)=>p.1=q.1/\RelV p.2 q.2
noncomputable def c3:Key->V
 |.inl i=>.int i
 |.inr x=>.str x
inductive eW where
  |lst (xs:List V)
  |tup (xs:List V)
  |dQ (ah:List (Key×V))|da (ah:List (List Key×V))
  |set (S:Int->Bool) (n:Nat)
  |ins (C bk:Addr) (bp:List (Str×V))
  |own (x:Addr)
  |xK (bp:List (Str×V))
  |met (f x:Addr)
  |ff (lo ai:Int)
  |dk (o:Obj) (u:eW)
  |n3 (aJ:Array Value)
  |ext (eo:Heap->Prop)
noncomputable abbrev aB:=Addr->Option eW
noncomputable def upd(H:aB)(a:Addr)(o:eW):aB:=λb=>if b=a then some o else H b
def dm{H:aB}{a:Addr}{o:eW}:upd H a o a=some o:=by unfold upd;rw[if_pos rfl]
def cG{H:aB}{a b:Addr}{o:eW}(h:b≠a):upd H a o b=H b:=by unfold upd;rw[if_neg h]
def CB{H:aB}{a:Addr}{o u:eW}:upd (upd H a o) a u=upd H a u:=by
 funext b;unfold upd;split<;>rfl
def TP{H:aB}{a b:Addr}{o u:eW}(h:H a=some o)(h':H b=some u)(d:o≠u):a≠b:=by
 intro e;subst e;rw[h]at h';exact d (abI h')
def nN{H:aB}{a b:Addr}{o:eW}(h:H a=some o)(h':H b=none):a≠b:=by
 intro e;subst e;rw[h]at h';cases h'
section
variable(P:Program)(w:World)
noncomputable def dX(H:aB)(h:Heap)(a:Addr):eW->Prop
 |.lst xs=>xs.length<=sizeLine/\∃(its:List Value)(n:Nat),Vals xs its/\h.get? a=some { cls:=.type "list",data:=.seq its.toArray n }
 |.tup xs=>xs.length<=sizeLine/\∃its:List Value,Vals xs its/\IsTup h a its.toArray
 |.dQ ah=>ah.length<=sizeLine/\(a==sysModules)=false/\∃af,eO ah af/\h.DictOf (g6 P w) a af
 |.da ah=>ah.length<=sizeLine/\(a==sysModules)=false/\∃xs:List (List Key×Addr×Value),
   Paired (λ(p:List Key×V)(q:List Key×Addr×Value)=>p.1=q.1/\H q.2.1=some (.tup (p.1.map c3))/\RelV p.2 q.2.2) ah xs /\
   ∃o aj aZ,h.get? a=some o/\o.ExactDict/\o.data=.dict aj aZ/\aj.toList=xs.map (entryOfKey (tupleKind (g6 P w)))/\(xs.map (·.1)).Nodup
 |.set S n=>h.SetOf (intKind P w) a S n
 |.ins C bk bp=>H bk=some (.own a)/\bp.length<=1000/\bk≠a/\h.get? a=some (PySem.W.instObj C bk) /\
   ∃gQ,h.Ns1 bk gQ/\(∀f,iR (bp.lookup f) (gQ f))/\PySem.Within gQ (bp.map (·.1))
 |.own _=>∃o,h.get? a=some o
 |.xK bp=>∃gQ,h.Ns1 a gQ/\∀f,iR (bp.lookup f) (gQ f)
 |.ff lo ai=>∃t u v,h.get? a=some { cls:=.type "range",data:=.fields #[.int lo t,.int ai u,.int 1 v] }
 |.dk o u=>h.get? a=some o/\dX H h a u
 |.n3 aJ=>h.get? a=some { cls:=.none,data:=.fields aJ }
 |.met f x=>h.get? a=some (PySem.W.methodObj (.ref f) (.ref x))
 |.ext eo=>eo h/\(∃o,h.get? a=some o)/\∀J h2:Heap,eo J->(∀o,J.get? a=some o->h2.get? a=some o)->eo h2
def d7(H:aB)(h:Heap):Prop:=∀a o,H a=some o->dX P w H h a o
end
section
variable{P:Program}{w:World}{H ao:aB}{h h':Heap}{a:Addr}{o:eW}
theorem dX.lt(x:dX P w H h a o):a<h.objs.size:=by
 cases o with
 |lst xs=>obtain⟨_,_,_,_,e⟩:=x;exact abd e
 |tup xs=>obtain⟨_,_,_,p⟩:=x;exact p.lt
 |dQ ah=>obtain⟨_,_,_,_,o,_,_,e,_⟩:=x;exact abd e
 |da ah=>obtain⟨_,_,_,_,o,_,_,e,_⟩:=x;exact abd e
 |set S n=>obtain⟨o,_,_,_,e,_⟩:=x;exact abd e
 |ins C bk bp=>obtain⟨_,_,_,e,_⟩:=x;exact abd e
 |own y=>obtain⟨_,e⟩:=x;exact abd e
 |xK bp=>obtain⟨_,⟨_,_,_,e,_⟩,_⟩:=x;exact abd e
 |ff lo ai=>obtain⟨_,_,_,e⟩:=x;exact abd e
 |dk bP u=>obtain⟨e,_⟩:=x;exact abd e
 |n3 aJ=>exact abd (show h.get? a=some _ from x)
 |met f y=>exact abd (show h.get? a=some _ from x)
 |ext eo=>obtain⟨_,⟨_,e⟩,_⟩:=x;exact abd e
theorem Paired.Be{α β:Type}{F G:α->β->Prop}:∀{G4:List α}{G5:List β},Paired F G4 G5->(∀a b,F a b->G a b)->Paired G G4 G5
 |_,_,.nil,_=>.nil
 |_,_,.cons r t,f=>.cons (f _ _ r) (Paired.Be t f)
def dX.jE(x:dX P w H h a o)(k:∀b u,(b=a\/H b=some (.own a))->h.get? b=some u->h'.get? b=some u)(av:∀b,H b=some (.own a)->ao b=some (.own a))(ay:∀b xs,H b=some (.tup xs)->ao b=some (.tup xs)):dX P w ao h' a o:=by
 induction o with
 |lst xs=>obtain⟨z,its,n,r,e⟩:=x;exact⟨z,its,n,r,k _ _ (.inl rfl) e⟩
 |tup xs=>obtain⟨z,its,r,bP,e,c⟩:=x;exact⟨z,its,r,bP,k _ _ (.inl rfl) e,c⟩
 |dQ ah=>obtain⟨z,y,af,r,bP,aj,aZ,e,c⟩:=x;exact⟨z,y,af,r,bP,aj,aZ,k _ _ (.inl rfl) e,c⟩
 |da ah =>
  obtain⟨z,y,xs,r,bP,aj,aZ,e,c⟩:=x;exact⟨z,y,xs,Paired.Be r λp q z=>⟨z.1,ay _ _ z.2.1,z.2.2⟩,bP,aj,aZ,k _ _ (.inl rfl) e,c⟩
 |set S n=>obtain⟨bP,aj,aZ,t,e,c⟩:=x;exact⟨bP,aj,aZ,t,k _ _ (.inl rfl) e,c⟩
 |ins C bk bp =>
  obtain⟨d,z,ne,e,gQ,⟨bb,aj,aZ,e2,c⟩,r⟩:=x;exact⟨av _ d,z,ne,k _ _ (.inl rfl) e,gQ,⟨bb,aj,aZ,k _ _ (.inr d) e2,c⟩,r⟩
 |own y=>obtain⟨bP,e⟩:=x;exact⟨bP,k _ _ (.inl rfl) e⟩
 |xK bp=>obtain⟨gQ,⟨bb,aj,aZ,e,c⟩,r⟩:=x;exact⟨gQ,⟨bb,aj,aZ,k _ _ (.inl rfl) e,c⟩,r⟩
 |ff lo ai=>obtain⟨t,u,v,e⟩:=x;exact⟨t,u,v,k _ _ (.inl rfl) e⟩
 |dk bP u aD=>obtain⟨e,q⟩:=x;exact⟨k _ _ (.inl rfl) e,aD q⟩
 |n3 aJ =>
  have e:h.get? a=some { cls:=.none,data:=.fields aJ }:=x;show h'.get? a=some { cls:=.none,data:=.fields aJ };exact k a _ (.inl rfl) e
 |met f y =>
  have e:h.get? a=some (PySem.W.methodObj (.ref f) (.ref y)):=x;show h'.get? a=some (PySem.W.methodObj (.ref f) (.ref y));exact k a _ (.inl rfl) e
 |ext eo=>obtain⟨p,⟨o,e⟩,st⟩:=x;exact⟨st _ _ p λo q=>k _ _ (.inl rfl) q,⟨o,k _ _ (.inl rfl) e⟩,st⟩
theorem d7.lt(x:d7 P w H h)(e:H a=some o):a<h.objs.size:=(x a o e).lt
def d7.fresh(x:d7 P w H h)(e:h.objs.size<=a):H a=none:=by
 cases q:H a with
 |none=>rfl
 |some u=>exact absurd (abr (x.lt q) e) (acv _)
def d7.kept(x:d7 P w H h)(k:∀b u,h.get? b=some u->h'.get? b=some u):d7 P w H h':=λa o e =>
 (x a o e).jE (λb u _ q=>k b u q) (λ_ q=>q) λ_ _ q=>q
def d7.laid(x:d7 P w H h)(k:∀b u,h.get? b=some u->h'.get? b=some u)(au:h.objs.size<=a)(new:dX P w (upd H a o) h' a o):d7 P w (upd H a o) h':=λb u e=>by
 have az:=x.fresh au
 by_cases aa:b=a
 .subst aa;rw[dm]at e;cases e;exact new
 .rw[cG aa]at e;exact(x b u e).jE (λc v _ q=>k c v q) (λc q=>by rw[cG (nN q az)];exact q) λc xs q=>by rw[cG (nN q az)];exact q
end
def gW(H:aB)(a:Addr)(u:eW):Prop:=H a=some u\/∃o,H a=some (.dk o u)
def gW.ok{P:Program}{w:World}{H:aB}{h:Heap}{a:Addr}{u:eW}(r:gW H a u)(x:d7 P w H h):dX P w H h a u:=by
 rcases r with r|⟨o,r⟩
 .exact x a u r
 .obtain⟨_,q⟩:=x a _ r;exact q
noncomputable def rK:Option eW->Prop
 |some (.lst _)=>True
 |some (.dQ _)=>True
 |some (.da _)=>True
 |some (.set _ _)=>True
 |some (.ins _ _ _)=>True
 |some (.ext _)=>True
 |_=>False
section
variable{P:Program}{w:World}{H:aB}{h h':Heap}{x e:Addr}{bJ:eW}
def d7.write (ok : d7 P w H h) (mu : rK (H x)) (he : e = x \/ H e = some (.own x)) (k : ∀ b u, b ≠ e -> h.get? b = some u -> h'.get? b = some u) (qw : ∃ u, h'.get? e = some u)
    (new : dX P w (upd H x bJ) h' x bJ) : d7 P w (upd H x bJ) h' := fun b u q => by
  have HA : ∀ c y, H c = some (.own y) -> c ≠ x := fun c y r z => by subst z; rw [r] at mu; exact mu
  have T2 : ∀ c xs, H c = some (.tup xs) -> c ≠ x := fun c xs r z => by subst z; rw [r] at mu; exact mu
  by_cases aa : b = x
  · subst aa; rw [dm] at q; cases q; exact new
  · rw [cG aa] at q
    by_cases oU : b = e
    · have cU : H b = some (.own x) := by
        rcases he with z | z
        · exact absurd (oU.trans z) aa
        · rw [oU]; exact z
      rw [q] at cU; cases cU
      obtain ⟨v, aI⟩ := qw
      exact ⟨v, by rw [oU]; exact aI⟩
    · refine (ok b u q).jE (fun c v ag r => k c v ?_ r) (fun c r => by rw [cG (HA c b r)]; exact r) fun c xs r => by rw [cG (T2 c xs r)]; exact r
      rcases ag with rfl | ag
      · exact oU
      · rintro rfl
        rcases he with z | z
        · exact HA c b ag z
        · rw [ag] at z; cases z; exact aa rfl
end
structure fj(bp ex:List Addr)(H ao:aB)(h h':Heap):Prop where
 keep:∀b o,h.get? b=some o->H b=none->b∉bp->b∉ex->h'.get? b=some o
 slot:∀b o,h.get? b=some o->H b=none->b∈bp->b∉ex->∃bF,h'.get? b=some { o with slots:=bF }
 free:∀b o,h.get? b=some o->H b=none->b∉ex->ao b=none
 there:∀b o,h.get? b=some o->b∉ex->∃bJ,h'.get? b=some bJ
 jG:∀b xs,H b=some (.tup xs)->ao b=some (.tup xs)
 iZ:∀b o u,H b=some (.dk o u)->ao b=some (.dk o u)
 jF:∀b aJ,H b=some (.n3 aJ)->∃more,ao b=some (.n3 (aJ++more))
section
variable{bp PT ex Z4:List Addr}{H H1 aR:aB}{h J h2 h':Heap}{a x e:Addr}{o:eW}
def fj.any(u:fj bp ex H H1 h J){b:Addr}{bP:Obj}(q:h.get? b=some bP)(n:H b=none)(ak:b∉ex):∃bF,J.get? b=some { bP with slots:=bF }:=by
 by_cases aa:b∈bp
 .exact u.slot b bP q n aa ak
 .exact⟨bP.slots,u.keep b bP q n aa ak⟩
def fj.kept(k:∀b u,h.get? b=some u->h'.get? b=some u):fj bp ex H H h h' :=
 ⟨λb bP q _ _ _=>k b bP q,λb bP q _ _ _=>⟨bP.slots,k b bP q⟩,λ_ _ _ n _=>n,λb bP q _=>⟨bP,k b bP q⟩,λ_ _ q=>q,λ_ _ _ q=>q,λ_ aJ q=>⟨#[],by rw[q];simp⟩⟩
def fj.refl:fj bp ex H H h h:=fj.kept λ_ _ q=>q
def fj.laid(k:∀b u,h.get? b=some u->h'.get? b=some u)(au:h.objs.size<=a)(az:H a=none):fj bp ex H (upd H a o) h h' where
 keep:=λb u q _ _ _=>k b u q
 slot:=λb u q _ _ _=>⟨u.slots,k b u q⟩
 free:=λb u q n _=>by rw[cG (abp (abr (abd q) au))];exact n
 there:=λb u q _=>⟨u,k b u q⟩
 jG:=λb xs q=>by rw[cG (nN q az)];exact q
 iZ:=λb u xs q=>by rw[cG (nN q az)];exact q
 jF:=λb aJ q=>⟨#[],by rw[cG (nN q az),q];simp⟩
def fj.write(mu:rK (H x))(he:e=x\/H e=some (.own x))(k:∀b u,b≠e->h.get? b=some u->h'.get? b=some u)(qw:∃u,h'.get? e=some u):fj bp ex H (upd H x o) h h':=by
 have ak:∀b,H b=none->b≠x:=λb n z=>by subst z;rw[n]at mu;exact mu
 have aa:∀b,H b=none->b≠e:=λb n z=>by
  subst z;rcases he with r|r
  .exact ak b n r
  .rw[n]at r;cases r
 have hm:∀b u,H b=some u->¬rK (some u)->b≠x:=λb u q nm z=>by subst z;rw[q]at mu;exact nm mu
 refine⟨λb u q n _ _=>k b u (aa b n) q,λb u q n _ _=>⟨u.slots,k b u (aa b n) q⟩,λb u q n _=>by rw[cG (ak b n)];exact n,λb u q _=>?_,
  λb xs q=>by rw[cG (hm b _ q λz=>z)];exact q,λb u xs q=>by rw[cG (hm b _ q λz=>z)];exact q,λb aJ q=>⟨#[],by rw[cG (hm b _ q λz=>z),q];simp⟩⟩
 by_cases oU:b=e
 .subst oU;exact qw
 .exact⟨u,k b u oU q⟩
end
noncomputable def xq(h:Heap)(H:aB):List Addr:=(List.range h.objs.size).filter λa=>(H a).isSome
noncomputable def lP(h:Heap)(H:aB):Heap:=PySem.W.hideAll h (xq h H)
def QI(h:Heap)(H:aB):(lP h H).objs.size=h.objs.size:=PySem.W.hideAll_size _ _
def QH{h:Heap}{H:aB}{b:Addr}{o:Obj}(e:h.get? b=some o)(n:H b=none):(lP h H).get? b=some o :=
 PySem.W.hideAll_get _ e λhm=>by
  have q:(H b).isSome=true:=(abi.mp hm).2;rw[n]at q;simp at q
def Ud{h:Heap}{H:aB}{b:Addr}{o:Obj}(e:(lP h H).get? b=some o):h.get? b=some o/\H b=none:=by
 have bq:h.get? b=some o:=PySem.W.of_hideAll (xq h H) e;refine⟨bq,?_⟩;cases q:H b with
 |none=>rfl
 |some x =>
  have hm:b∈xq h H:=abi.mpr ⟨List.mem_range.mpr (abd bq),by simp[q]⟩;have z:(lP h H).get? b=none:=PySem.W.hideAll_none (xq h H) hm;rw[z]at e;cases e
noncomputable def K9(g h:Heap)(L:Addr):List (Addr×Obj):=(List.range h.objs.size).filterMap λa=>if a=L\/(g.get? a).isSome=true then none else(h.get? a).map λo=>(a,o)
noncomputable def rest(g h:Heap)(L d:Addr):List (Addr×Obj):=(K9 g h L).filter λp=>decide (p.1≠d)
end bu
namespace bu
open PySem PySem.Spec PyProof.Rows
structure Mod(K:W.Frag)(aS:Str->Option Value)(base:Heap):Prop where
 A0:K.In base
 glob:base.Ns mainGlobals aS
 blt:∃jz,base.Ns builtinsNs jz/\∀x:Str,x≠"__name__"->jz x=bootBuiltins x
 nolimit:base.NoLimit
structure aU where
 prog:Program
 w:World
 K:W.Frag
 aS:Str->Option Value
 base:Heap
 A:Around
 N:List Str
 eL:Shared
 rH:aB
 env:Env
 outer:List Env
 stack:List Env
 ex:List Addr
 fn:Str->Bool
 calm:Bool
 cf:List (Addr×Obj)
 b9:Value->Shared->Prop
noncomputable def gv(l:List Env):List Addr:=l.filterMap (·.frame)
noncomputable abbrev aU.bp(X:aU):List Addr:=gv X.outer
def e6(sc:Scope)(x:Str):Prop:=sc.names.lookup x=some .local\/sc.names.lookup x=some .cell\/sc.names.lookup x=some .free
def Loc(sc:Scope)(x:Str):Prop:=sc.names.lookup x=some .local\/sc.names.lookup x=some .cell
def Look(env:Env)(h:Heap)(m:Str->Option Value)(x:Str)(u:Value):Prop :=
 (env.kindOf x=some .local/\m x=some u)\/((env.kindOf x=some .cell\/env.kindOf x=some .free)/\∃c,env.cells.lookup x=some c/\h.IsCell c (some u))
structure aU.Ok(X:aU):Prop where
 mod:Mod X.K X.aS X.base
 kind:X.env.scope.kind=.function
 glob:X.env.globals=mainGlobals
 blt:X.env.builtins=builtinsNs
 above:X.eL.heap.objs.size<=X.env.locals
 inj:∀x y c,X.env.cells.lookup x=some c->X.env.cells.lookup y=some c->x=y
 has:∀x,(X.env.kindOf x=some .cell\/X.env.kindOf x=some .free)->∃c,X.env.cells.lookup x=some c
 r4:∀x c,X.fn x=true->X.env.cells.lookup x=some c->X.eL.heap.objs.size<=c
 hd:X.calm=true->X.A.handled=none
 frames:X.A.frames=some X.stack
 pJ:X.stack=X.outer\/(X.stack=X.env::X.outer/\X.env.frame=some X.env.locals)
 vv:∀b∈X.ex,b≠X.env.locals/\∀x c,X.env.cells.lookup x=some c->c≠b
 bs:∀b o,X.base.get? b=some o->X.eL.heap.get? b=some o/\X.rH b=none
 oA:X.base.objs.size<=X.eL.heap.objs.size
 qY:∀b o,X.base.get? b=some o->b∉X.ex
 oQ:∀b∈X.ex,b∉X.bp
 js:X.eL.heap.FunFrames X.base X.outer
 qr:∀b∈X.bp,X.rH b=none
structure Inv(X:aU)(pins:List (Addr×Obj))(σ:List (Option V))(H:aB)(s:Shared):Prop where
 ok:X.Ok
 os:s.os=X.eL.os
 bare:AllBare s.gens
 base:fj X.bp X.ex X.rH H X.eL.heap s.heap
 loc:∃m,s.heap.Ns X.env.locals m/\∀(i:Nat)(x:Str)(v:V),X.N[i]?=some x->σ[i]?=some (some v)->e6 X.env.scope x->∃u,RelV v u/\Look X.env s.heap m x u
 cell:∀x c,X.env.cells.lookup x=some c->∃v,s.heap.IsCell c v
 free:H X.env.locals=none
 hK:∀x c,X.env.cells.lookup x=some c->H c=none
 pin:∀p∈X.cf++pins,s.heap.get? p.1=some p.2/\H p.1=none/\p.1≠X.env.locals/\p.1∉X.bp/\∀v,p.2.data≠.cell v
 bz:d7 X.prog X.w H s.heap
 len:σ.length=X.N.length
section
variable{X:aU}{pins:List (Addr×Obj)}{σ:List (Option V)}{H ao:aB}{s:Shared}{h':Heap}
def aU.Ok.TV(ok:X.Ok){b:Addr}{o:Obj}(e:X.base.get? b=some o):b∉X.bp:=λaa=>by
 have:=(ok.js.mem aa).1;rw[e]at this;cases this
theorem Inv.bs(I:Inv X pins σ H s):∀b o,X.base.get? b=some o->s.heap.get? b=some o/\H b=none:=λb o e =>
 ⟨I.base.keep b o (I.ok.bs b o e).1 (I.ok.bs b o e).2 (I.ok.TV e) (I.ok.qY b o e),I.base.free b o (I.ok.bs b o e).1 (I.ok.bs b o e).2 (I.ok.qY b o e)⟩
def Inv.hE(I:Inv X pins σ H s):∀b o,X.base.get? b=some o->s.heap.get? b=some o:=λb o e=>(I.bs b o e).1
theorem Inv.mod(I:Inv X pins σ H s):Mod X.K X.aS X.base:=I.ok.mod
def Inv.o6(I:Inv X pins σ H s):X.K.In s.heap:=I.ok.mod.A0.keeps I.hE
theorem Inv.lt(I:Inv X pins σ H s):X.env.locals<s.heap.objs.size:=let ⟨_,az,_⟩:=I.loc;az.lt
def Inv.gR(I:Inv X pins σ H s):X.eL.heap.objs.size<=s.heap.objs.size:=ab2 I.ok.above (adp I.lt)
def Inv.wH(I:Inv X pins σ H s){a:Addr}(h:s.heap.objs.size<=a):a∉X.bp:=λaa=>by
 obtain⟨_,o,av,_⟩:=I.ok.js.mem aa;exact absurd (abr (abd av) (ab2 I.gR h)) (acv _)
def Inv.mX(I:Inv X pins σ H s):∀x c,X.env.cells.lookup x=some c->c≠X.env.locals:=λx c e z=>by
 obtain⟨v,o,av,hd⟩:=I.cell x c e;obtain⟨m,⟨bJ,aj,aZ,d4,gc,_⟩,_⟩:=I.loc;rw[z,d4]at av;cases av;rw[gc]at hd;cases hd
theorem Inv.js(I:Inv X pins σ H s):s.heap.FunFrames X.base X.outer:=by
 have all:∀(l:List Env),(∀b∈gv l,b∈X.bp)->X.eL.heap.FunFrames X.base l->s.heap.FunFrames X.base l:=by
  intro l
  induction l with
  |nil=>intro _ _;trivial
  |cons env r aD =>
   intro ae ax;obtain⟨aw,⟨L,o,hf,az,av,hd⟩,aV⟩:=ax;have ed:L∈X.bp:=ae L (by unfold gv;rw[List.filterMap_cons,hf];exact List.mem_cons_self);obtain⟨bF,e⟩:=I.base.slot L o av (I.ok.qr L ed) ed λz=>I.ok.oQ L z ed
   exact⟨aw,⟨L,_,hf,az,e,hd⟩,aD (λb aa=>ae b (by unfold gv;rw[List.filterMap_cons,hf];exact List.mem_cons_of_mem _ aa)) aV⟩
 exact all X.outer (λ_ aa=>aa) I.ok.js
theorem Inv.stack(I:Inv X pins σ H s):s.heap.FunFrames X.base X.stack:=by
 rcases I.ok.pJ with e|⟨e,hf⟩
 .rw[e];exact I.js
 .rw[e];obtain⟨m,az,_⟩:=I.loc;refine .cons (by rw[I.ok.kind];decide) hf az ?_ I.js;exact Heap.get?_none_of_le (ab2 I.ok.oA I.ok.above)
def Inv.pK(I:Inv X pins σ H s):∀b∈gv X.stack,b∈X.env.locals::X.bp:=λb aa=>by
 rcases I.ok.pJ with e|⟨e,hf⟩
 .rw[e]at aa;exact List.mem_cons_of_mem _ aa
 .rw[e]at aa;unfold gv at aa;rw[List.filterMap_cons,hf]at aa;exact aa
def Inv.Cg(I:Inv X pins σ H s):∀b∈gv X.stack,H b=none:=λb aa=>by
 rcases aa9.mp (I.pK b aa) with e|aa
 .rw[e];exact I.free
 .obtain⟨_,o,av,_⟩:=I.ok.js.mem aa;exact I.base.free b o av (I.ok.qr b aa) λz=>I.ok.oQ b z aa
def Inv.step{g':Array GenState}{t':Nat}{d':Drawn}{ch:List Addr}(I:Inv X pins σ H s)(kG:∀b∈ch,(b∈X.ex\/X.eL.heap.objs.size<=b)/\b≠X.env.locals/\(∀x c,X.env.cells.lookup x=some c->c≠b)/\∀p∈X.cf++pins,p.1≠b)(keep:∀b o,b≠X.env.locals->b∉X.bp->b∉ch->s.heap.get? b=some o->H b=none->h'.get? b=some o)(slot:∀b o,b≠X.env.locals->b∈X.bp->b∉ch->s.heap.get? b=some o->H b=none->∃bF,h'.get? b=some { o with slots:=bF })(free:∀b o,b∉ch->s.heap.get? b=some o->H b=none->ao b=none)(there:∀b o,b∉ch->s.heap.get? b=some o->∃bJ,h'.get? b=some bJ)(jG:∀b xs,H b=some (.tup xs)->ao b=some (.tup xs))(iZ:∀b o u,H b=some (.dk o u)->ao b=some (.dk o u))(jF:∀b aJ,H b=some (.n3 aJ)->∃more,ao b=some (.n3 (aJ++more)))(ns:∀m,s.heap.Ns X.env.locals m->h'.Ns X.env.locals m)(bz:d7 X.prog X.w ao h')(aQ:AllBare g'):
  Inv X pins σ ao { s with heap:=h',gens:=g',drawn:=d',toks:=t' }:=by
 have Hm:∀b o,X.eL.heap.get? b=some o->b≠X.env.locals:=λb o e=>abp (abr (abd e) I.ok.above)
 have nM:∀b o,X.eL.heap.get? b=some o->b∉X.ex->b∉ch:=λb o e ak aa=>by
  rcases(kG b aa).1 with z|z
  .exact ak z
  .exact absurd (abr (abd e) z) (acv _)
 have cellK:∀x c,X.env.cells.lookup x=some c->∀v,s.heap.IsCell c v->h'.IsCell c v:=λx c e v ⟨o,av,hd⟩=>by
  have tS:c∉ch:=λz=>(kG c z).2.2.1 x c e rfl
  by_cases ag:c∈X.bp
  .obtain⟨bF,q⟩:=slot c o (I.mX x c e) ag tS av (I.hK x c e);exact⟨_,q,hd⟩
  .exact⟨o,keep c o (I.mX x c e) ag tS av (I.hK x c e),hd⟩
 refine⟨I.ok,I.os,aQ,⟨λb o e n aa ak=>?_,λb o e n aa ak=>?_,λb o e n ak=>?_,λb o e ak=>?_,λb xs e=>jG b xs (I.base.jG b xs e),λb o xs e=>iZ b o xs (I.base.iZ b o xs e),λb aJ e=>?_⟩,?_,λx c e=>?_,?_,λx c e=>?_,λp au=>?_,bz,I.len⟩
 .exact keep b o (Hm b o e) aa (nM b o e ak) (I.base.keep b o e n aa ak) (I.base.free b o e n ak)
 .obtain⟨bF,e1⟩:=I.base.slot b o e n aa ak;obtain⟨B9,e2⟩:=slot b _ (Hm b o e) aa (nM b o e ak) e1 (I.base.free b o e n ak);exact⟨B9,e2⟩
 .obtain⟨bJ,e1⟩:=I.base.there b o e ak;exact free b bJ (nM b o e ak) e1 (I.base.free b o e n ak)
 .obtain⟨bJ,e1⟩:=I.base.there b o e ak;exact there b bJ (nM b o e ak) e1
 .obtain⟨pd,e1⟩:=I.base.jF b aJ e;obtain⟨m2,e2⟩:=jF b _ e1;exact⟨pd++m2,by rw[e2,Array.append_assoc]⟩
 .obtain⟨m,az,ax⟩:=I.loc;refine⟨m,ns m az,λi x v e1 e2 e3=>?_⟩;obtain⟨u,r,l⟩:=ax i x v e1 e2 e3;refine⟨u,r,?_⟩;rcases l with l|⟨k,c,e,z⟩
  .exact .inl l
  .exact .inr ⟨k,c,e,cellK x c e _ z⟩
 .obtain⟨v,z⟩:=I.cell x c e;exact⟨v,cellK x c e v z⟩
 .obtain⟨m,⟨o,_,_,av,_⟩,_⟩:=I.loc;exact free _ o (λz=>(kG _ z).2.1 rfl) av I.free
 .obtain⟨v,o,av,hd⟩:=I.cell x c e;exact free c o (λz=>(kG c z).2.2.1 x c e rfl) av (I.hK x c e)
 .obtain⟨e,n,ne,jb,d⟩:=I.pin p au;have tS:p.1∉ch:=λz=>(kG p.1 z).2.2.2 p au rfl
  exact⟨keep p.1 p.2 ne jb tS e n,free p.1 p.2 tS e n,ne,jb,d⟩
def Inv.un{t':Nat}(I:Inv X pins σ H s)(u:fj X.bp [] H ao s.heap h')(bz:d7 X.prog X.w ao h'):Inv X pins σ ao { s with heap:=h',toks:=t' }:=by
 obtain⟨m,⟨o,aj,aZ,av,r⟩,_⟩:=id I.loc;obtain⟨bF,ed⟩:=u.any av I.free (by simp);exact I.step (g':=s.gens) (d':=s.drawn) (ch:=[]) (λ_ z=>nomatch z) (λb o _ aa _ e n=>u.keep b o e n aa (by simp)) (λb o _ aa _ e n=>u.slot b o e n aa (by simp)) (λb o _ e n=>u.free b o e n (by simp)) (λb o _ e=>u.there b o e (by simp)) u.jG u.iZ u.jF (λij hm=>by
  obtain⟨bJ,oN,zt,d4,b3⟩:=hm;rw[av]at d4;cases d4;exact⟨_,oN,zt,ed,b3⟩) bz I.bare
def Inv.call{g':Array GenState}{t':Nat}{d':Drawn}{ch:List Addr}(I:Inv X pins σ H s)(u:fj (gv X.stack) ch H ao s.heap h')(bz:d7 X.prog X.w ao h')(aQ:AllBare g')(kG:∀b∈ch,(b∈X.ex\/X.eL.heap.objs.size<=b)/\b≠X.env.locals/\(∀x c,X.env.cells.lookup x=some c->c≠b)/\∀p∈X.cf++pins,p.1≠b):
  Inv X pins σ ao { s with heap:=h',gens:=g',drawn:=d',toks:=t' }:=by
 obtain⟨m,⟨o,aj,aZ,av,r⟩,_⟩:=id I.loc;obtain⟨bF,ed⟩:=u.any av I.free λz=>(kG _ z).2.1 rfl
 exact I.step (ch:=ch) kG (λb o ed aa ag e n=>u.keep b o e n (λz=>(aa9.mp (I.pK b z)).elim ed aa) ag) (λb o _ _ ag e n=>u.any e n ag) (λb o ag e n=>u.free b o e n ag) (λb o ag e=>u.there b o e ag) u.jG u.iZ u.jF (λij hm=>by
  obtain⟨bJ,oN,zt,d4,b3⟩:=hm;rw[av]at d4;cases d4;exact⟨_,oN,zt,ed,b3⟩) bz aQ
def Inv.turned{t':Nat}{it:Addr}(I:Inv X pins σ H s)(k:∀b o,b≠it->s.heap.get? b=some o->h'.get? b=some o)(az:H it=none)(ed:it≠X.env.locals)(J:it∈X.ex\/X.eL.heap.objs.size<=it)(h2:∀x c,X.env.cells.lookup x=some c->c≠it)(h3:∀p∈X.cf++pins,p.1≠it):Inv X pins σ H { s with heap:=h',toks:=t' }:=by
 have Hs:∀b u,H b=some u->b≠it:=λb u e z=>by rw[z,az]at e;cases e
 refine I.step (g':=s.gens) (d':=s.drawn) (ch:=[it]) (λb aa=>?_) (λb o _ _ ag e _=>k b o (λz=>ag (by simp[z])) e) (λb o _ _ ag e _=>⟨o.slots,k b o (λz=>ag (by simp[z])) e⟩) (λ_ _ _ _ n=>n)
  (λb o ag e=>⟨o,k b o (λz=>ag (by simp[z])) e⟩) (λ_ _ e=>e) (λ_ _ _ e=>e) (λb aJ e=>⟨#[],by rw[e];simp⟩) (λm hm=>?_) (λb u e=>?_) I.bare
 .have e:b=it:=(by simpa using aa);subst e;exact⟨J,ed,h2,h3⟩
 .obtain⟨o,aj,aZ,av,r⟩:=hm;exact⟨o,aj,aZ,k _ o (abW ed) av,r⟩
 .refine(I.bz b u e).jE (λc v ag q=>k c v ?_ q) (λ_ q=>q) λ_ _ q=>q
  rcases ag with z|z
  .rw[z];exact Hs b u e
  .exact Hs c _ z
def Inv.tok(I:Inv X pins σ H s)(t:Nat):Inv X pins σ H { s with toks:=t }:=I.un (h':=s.heap) (t':=t) fj.refl I.bz
theorem Inv.kept{t':Nat}(I:Inv X pins σ H s)(k:∀b u,s.heap.get? b=some u->h'.get? b=some u):Inv X pins σ H { s with heap:=h',toks:=t' }:=I.un (fj.kept k) (I.bz.kept k)
theorem Inv.laid{a:Addr}{o:eW}{t':Nat}(I:Inv X pins σ H s)(k:∀b u,s.heap.get? b=some u->h'.get? b=some u)(au:s.heap.objs.size<=a)(new:dX X.prog X.w (upd H a o) h' a o):
  Inv X pins σ (upd H a o) { s with heap:=h',toks:=t' }:=I.un (fj.laid k au (I.bz.fresh au)) (I.bz.laid k au new)
theorem Inv.write{x e:Addr}{o:eW}{t':Nat}(I:Inv X pins σ H s)(mu:rK (H x))(he:e=x\/H e=some (.own x))(k:∀b u,b≠e->s.heap.get? b=some u->h'.get? b=some u)(qw:∃u,h'.get? e=some u)(new:dX X.prog X.w (upd H x o) h' x o):Inv X pins σ (upd H x o) { s with heap:=h',toks:=t' }:=I.un (fj.write mu he k qw) (I.bz.write mu he k qw new)
def Inv.BF{BE:List (Addr×Obj)}(I:Inv X pins σ H s)(h:∀p∈BE,s.heap.get? p.1=some p.2/\H p.1=none/\p.1≠X.env.locals/\p.1∉X.bp/\∀v,p.2.data≠.cell v):Inv X BE σ H s :=
 ⟨I.ok,I.os,I.bare,I.base,I.loc,I.cell,I.free,I.hK,λp au=>(abq.mp au).elim (λz=>I.pin p (List.mem_append_left _ z)) (h p),I.bz,I.len⟩
def Hw{N:List Str}(aG:N.Nodup){i j:Nat}{x:Str}(a:N[i]?=some x)(b:N[j]?=some x):i=j:=by
 obtain⟨J,e1⟩:=abt.mp a;obtain⟨h2,e2⟩:=abt.mp b;exact(List.getElem_inj aG).mp (e1.trans e2.symm)
def XQ{M:Model}{A:Around}{E:Value->Shared->Prop}{i:Nat}{x:Str}{v:V}{u:Value}{Q:Unit->Shared->Prop}(I:Inv X pins σ H s)(aG:X.N.Nodup)(ai:X.N[i]?=some x)(ak:Loc X.env.scope x)(r:RelV v u)(h:∀s',Inv X pins (σ.set i (some v)) H s'->(∃a,Heap.SameBut a s.heap s'.heap/\(a=X.env.locals\/X.env.cells.lookup x=some a))->Q () s')(hf:X.fn x=true\/X.env.scope.names.lookup x=some .local):wpAny M A (storeName X.env x u) Q E s:=by
 obtain⟨m,az,ax⟩:=id I.loc;have Ad:(X.env.scope.kind==.class||(X.env.scope.kind==.module&&X.env.locals != X.env.globals))=false:=by rw[I.ok.kind];rfl
 have FR:i<σ.length:=by rw[I.len];exact(abt.mp ai).1
 have mX:=I.mX;have tracked:∀{a:Addr}{h':Heap},(∃o,s.heap.get? a=some o/\H a=none)->Heap.SameBut a s.heap h'->d7 X.prog X.w H h':=λ{a h'} aA ae b bP e=>by
  obtain⟨_,_,nu⟩:=aA;refine(I.bz b bP e).jE (λc fm ag q=>(ae.2 c ?_).trans q) (λ_ q=>q) λ_ _ q=>q
  rintro rfl;rcases ag with rfl|ag
  .rw[nu]at e;cases e
  .rw[nu]at ag;cases ag
 rcases ak with aw|aw
 .refine wpAny_storeName_local aw az (λh' FY ae=>?_) Ad;obtain⟨T7,_,_,vS,_⟩:=id az;refine h _ ⟨I.ok,I.os,I.bare,⟨λb o e n aa ak=>?_,λb o e n aa ak=>?_,I.base.free,λb o e ak=>?_,I.base.jG,I.base.iZ,I.base.jF⟩,⟨_,FY,λj y rq e1 e2 e3=>?_⟩,λy c e=>?_,I.free,I.hK,λp au=>?_,tracked ⟨T7,vS,I.free⟩ ae,by simpa using I.len⟩ ⟨_,ae,.inl rfl⟩
  .exact(ae.2 b (abp (abr (abd e) I.ok.above))).trans (I.base.keep b o e n aa ak)
  .obtain⟨bF,e1⟩:=I.base.slot b o e n aa ak;exact⟨bF,(ae.2 b (abp (abr (abd e) I.ok.above))).trans e1⟩
  .obtain⟨bJ,e1⟩:=I.base.there b o e ak;exact⟨bJ,(ae.2 b (abp (abr (abd e) I.ok.above))).trans e1⟩
  .by_cases aF:j=i
   .subst aF;rw[ai]at e1;cases e1;rw[List.getElem?_set_self FR]at e2;cases e2;exact⟨u,r,.inl ⟨aw,by simp⟩⟩
   .rw[aef (abW aF)]at e2;obtain⟨xu,b3,q⟩:=ax j y rq e1 e2 e3;refine⟨xu,b3,?_⟩;rcases q with⟨k,e⟩|⟨k,c,e,z⟩
    .refine .inl ⟨k,?_⟩;have:y≠x:=λe=>aF (Hw aG e1 (e▸ai))
     simp[this,e]
    .exact .inr ⟨k,c,e,z.sameBut ae (mX y c e)⟩
  .obtain⟨fm,z⟩:=I.cell y c e;exact⟨fm,z.sameBut ae (mX y c e)⟩
  .obtain⟨e,n,ne,jb,d⟩:=I.pin p au;exact⟨(ae.2 p.1 ne).trans e,n,ne,jb,d⟩
 .have oX:X.fn x=true:=by
   rcases hf with z|z
   .exact z
   .rw[z]at aw;cases aw
  obtain⟨c,ag⟩:=I.ok.has x (.inl aw);obtain⟨fm,z⟩:=I.cell x c ag;refine wpAny_storeName_cell I.ok.kind aw ag z (λh' cD ae=>?_);obtain⟨fS,F0,Rg⟩:=id z;refine h { s with heap:=h' } ⟨I.ok,I.os,I.bare,⟨λb o e n aa ak=>?_,λb o e n aa ak=>?_,I.base.free,λb o e ak=>?_,I.base.jG,I.base.iZ,I.base.jF⟩,⟨m,az.sameBut ae (abW (mX x c ag)),λj y rq e1 e2 e3=>?_⟩,λy cW e=>?_,I.free,I.hK,λp au=>?_,tracked ⟨fS,F0,I.hK x c ag⟩ ae,by simpa using I.len⟩ ⟨c,ae,.inr ag⟩
  .exact(ae.2 b (abp (abr (abd e) (I.ok.r4 x c oX ag)))).trans (I.base.keep b o e n aa ak)
  .obtain⟨bF,e1⟩:=I.base.slot b o e n aa ak;exact⟨bF,(ae.2 b (abp (abr (abd e) (I.ok.r4 x c oX ag)))).trans e1⟩
  .obtain⟨bJ,e1⟩:=I.base.there b o e ak;exact⟨bJ,(ae.2 b (abp (abr (abd e) (I.ok.r4 x c oX ag)))).trans e1⟩
  .by_cases aF:j=i
   .subst aF;rw[ai]at e1;cases e1;rw[List.getElem?_set_self FR]at e2;cases e2;exact⟨u,r,.inr ⟨.inl aw,c,ag,cD⟩⟩
   .rw[aef (abW aF)]at e2;obtain⟨xu,b3,q⟩:=ax j y rq e1 e2 e3;refine⟨xu,b3,?_⟩;rcases q with q|⟨k,cW,e,kd⟩
    .exact .inl q
    .refine .inr ⟨k,cW,e,kd.sameBut ae ?_⟩;rintro rfl;exact aF (Hw aG e1 (I.ok.inj _ _ _ e ag▸ai))
  .by_cases qu:cW=c
   .subst qu;exact⟨_,cD⟩
   .obtain⟨kb,bE⟩:=I.cell y cW e;exact⟨kb,bE.sameBut ae qu⟩
  .obtain⟨e,n,ne,jb,d⟩:=I.pin p au;refine⟨(ae.2 p.1 ?_).trans e,n,ne,jb,d⟩;intro q;rw[q,F0]at e;have cU:fS=p.2:=abI e;exact d fm (by rw[<- cU];exact Rg)
def xl{M:Model}{A:Around}{E:Value->Shared->Prop}{i:Nat}{x:Str}{v:V}{u:Value}{Q:Unit->Shared->Prop}(I:Inv X pins σ H s)(aG:X.N.Nodup)(ai:X.N[i]?=some x)(ak:Loc X.env.scope x)(r:RelV v u)(h:∀s',Inv X pins (σ.set i (some v)) H s'->Q () s')(hf:X.fn x=true\/X.env.scope.names.lookup x=some .local:=by first|exact .inl rfl|exact .inr rfl|assumption):wpAny M A (storeName X.env x u) Q E s :=
 XQ I aG ai ak r (λs' d8 _=>h s' d8) hf
def Inv.DF{s':Shared}{ch:List Addr}(I:Inv X pins σ H s)(av:s'.os=s.os)(u:fj (gv X.stack) ch H ao s.heap s'.heap)(bz:d7 X.prog X.w ao s'.heap)(aQ:AllBare s'.gens)(kG:∀b∈ch,(b∈X.ex\/X.eL.heap.objs.size<=b)/\b≠X.env.locals/\(∀x c,X.env.cells.lookup x=some c->c≠b)/\∀p∈X.cf++pins,p.1≠b):Inv X pins σ ao s':=by
 obtain⟨h',g',d',t',bJ⟩:=s';have e:bJ=s.os:=av;subst e;exact I.call (g':=g') (t':=t') (d':=d') u bz aQ kG
end
noncomputable abbrev jl:=Value->Option Addr->aB->Prop
noncomputable abbrev St:=List (Option V)
noncomputable abbrev dn:=V->aB->Prop
noncomputable abbrev TE:=St->aB->dn->Prop
noncomputable abbrev TT:=St->aB->(Bool->aB->Prop)->Prop
noncomputable abbrev gX:=St->aB->(List V->aB->Prop)->Prop
structure Ends where
 br:St->aB->Prop
 cP:dn
 hE:St->aB->Prop:=λ_ _=>False
 ct:St->aB->Prop:=λ_ _=>False
noncomputable abbrev gr:=Ends->St->aB->Prop
def eN(X:aU)(pins:List (Addr×Obj))(σ:St)(Q:dn)(u:Value)(s':Shared):Prop:=∃v ao,Inv X pins σ ao s'/\RelV v u/\Q v ao
def C8(X:aU)(pins:List (Addr×Obj))(σ:St)(Q:Bool->aB->Prop)(b:Bool)(s':Shared):Prop:=∃ao,Inv X pins σ ao s'/\Q b ao
def KH(X:aU)(pins:List (Addr×Obj))(σ:St)(Q:List V->aB->Prop)(us:List Value)(s':Shared):Prop:=∃af ao,Inv X pins σ ao s'/\Vals af us/\Q af ao
def oj(X:aU)(pins:List (Addr×Obj))(D:Ends)(f:Flow)(s':Shared):Prop :=
 match f with
 |.next=>∃cj ao,Inv X pins cj ao s'/\D.br cj ao
 |.brk=>∃cj ao,Inv X pins cj ao s'/\D.hE cj ao
 |.cont=>∃cj ao,Inv X pins cj ao s'/\D.ct cj ao
 |.ret u=>∃v cj ao,Inv X pins cj ao s'/\RelV v u/\D.cP v ao
def aO(X:aU)(e:Expr)(t:TE):Prop :=
 ∀(pins:List (Addr×Obj))(s:Shared)(σ:St)(H:aB)(Q:dn),Inv X pins σ H s->t σ H Q->wpAny (model X.prog X.w) X.A (eval e X.env) (eN X pins σ Q) X.b9 s
def gp(X:aU)(e:Expr)(t:TT):Prop :=
 ∀(pins:List (Addr×Obj))(s:Shared)(σ:St)(H:aB)(Q:Bool->aB->Prop),Inv X pins σ H s->t σ H Q->wpAny (model X.prog X.w) X.A (isTrue e X.env (eval e X.env)) (C8 X pins σ Q) X.b9 s
def mI(X:aU)(e:Expr)(t:TT):Prop :=
 ∀(whole:Sem Value)(pins:List (Addr×Obj))(s:Shared)(σ:St)(H:aB)(Q:Bool->aB->Prop),Inv X pins σ H s->t σ H Q->wpAny (model X.prog X.w) X.A (isTrue e X.env whole) (C8 X pins σ Q) X.b9 s
def mI.pt{X:aU}{e:Expr}{t:TT}(h:mI X e t):gp X e t:=h _
def fZ(X:aU)(aj:List Expr)(t:gX):Prop :=
 ∀(pos:Pos)(pins:List (Addr×Obj))(s:Shared)(σ:St)(H:aB)(Q:List V->aB->Prop),Inv X pins σ H s->t σ H Q->wpAny (model X.prog X.w) X.A (spliced (backTo pos (starEach aj X.env))) (KH X pins σ Q) X.b9 s
def c9(X:aU)(st:Stmt)(t:gr):Prop :=
 ∀(pins:List (Addr×Obj))(s:Shared)(σ:St)(H:aB)(D:Ends),Inv X pins σ H s->t D σ H->wpAny (model X.prog X.w) X.A (exec st X.env) (oj X pins D) X.b9 s
def f3(X:aU)(st:List Stmt)(t:gr):Prop :=
 ∀(pins:List (Addr×Obj))(s:Shared)(σ:St)(H:aB)(D:Ends),Inv X pins σ H s->t D σ H->wpAny (model X.prog X.w) X.A (execs st X.env) (oj X pins D) X.b9 s
def bR{α:Type}{t:Sem α}{Q dO:α->Shared->Prop}{M:Model}{A:Around}{E:Value->Shared->Prop}{s:Shared}(h:wpAny M A t Q E s)(dh:∀a s,Q a s->dO a s):wpAny M A t dO E s:=abV h dh λ_ _ x=>x
end bu
namespace bu
open PySem PySem.Spec PyProof.Rows
section
variable{X:aU}
def bin{a b:Expr}{dt du:TE}(aA:aO X a dt)(aa:aO X b du){pins:List (Addr×Obj)}{s:Shared}{σ:St}{H:aB}{R:V->V->aB->Prop}(I:Inv X pins σ H s)(h:dt σ H λx H1=>du σ H1 λy aR=>R x y aR){α:Type}{Q:α->Shared->Prop}{f:Value->Value->Sem α}(hf:∀v u s2 x y aR,Inv X pins σ aR s2->RelV x v->RelV y u->R x y aR->wpAny (model X.prog X.w) X.A (f v u) Q X.b9 s2):
  wpAny (model X.prog X.w) X.A (eval a X.env) (λv cC=>wpAny (model X.prog X.w) X.A (eval b X.env) (λu gF=>wpAny (model X.prog X.w) X.A (f v u) Q X.b9 gF) X.b9 cC) X.b9 s:=by
 refine bR (aA pins s σ H _ I h) λv s1 ⟨x,H1,aY,aH,aM⟩=>?_
 refine bR (aa pins s1 σ H1 _ aY aM) λu s2 ⟨y,aR,cb,aX,a7⟩=>?_
 exact hf v u s2 x y aR cb aH aX a7
noncomputable def lb(i:Nat):TE:=λσ H Q=>∃v,σ[i]?=some (some v)/\Q v H
noncomputable def pM(v:V):TE:=λ_ H Q=>Q v H
def gg{i:Nat}{x:Str}{pos:Pos}(aG:X.N[i]?=some x)(aI:e6 X.env.scope x)(hd:(x==("__debug__":Str))=false:=by decide)(lN:(x==("__classdict__":Str))=false:=by decide):aO X (.Name x pos) (lb i):=by
 intro pins s σ H Q I h;obtain⟨v,e,h⟩:=h;obtain⟨m,az,ax⟩:=I.loc;obtain⟨u,r,l⟩:=ax i x v aG e aI;have fin:eN X pins σ Q u s:=⟨v,H,I,r,h⟩;rcases l with⟨aw,hm⟩|⟨aw,c,ag,oV⟩
 .exact wpAny_Name (wpAny_loadName_local I.ok.kind aw az hm fin) hd
 .rcases aw with aw|aw
  .exact wpAny_Name (wpAny_loadName_cell I.ok.kind aw ag oV fin) hd
  .exact wpAny_Name (wpAny_loadName_free I.ok.kind aw ag oV fin lN) hd
def HS{i j pos}:aO X (.Constant (.int i) j pos) (pM (.int i)):=λ_ _ _ H _ I h=>wpAny_Constant_int ⟨.int i,H,I.tok _,⟨_,rfl⟩,h⟩
def UG{b j pos}:aO X (.Constant (.bool b) j pos) (pM (.aP b)):=λ_ _ _ H _ I h=>Constant_bool ⟨.aP b,H,I,rfl,h⟩
def UQ{j pos}:aO X (.Constant .none j pos) (pM .dT):=λ_ _ _ H _ I h=>Constant_none ⟨.dT,H,I,rfl,h⟩
def BC{x j pos}:aO X (.Constant (.str x) j pos) (pM (.str x)):=λ_ _ _ H _ I h=>Calls.Constant_str ⟨.str x,H,I.tok _,⟨_,rfl⟩,h⟩
def fg(X:aU)(x:Str):Prop:=X.env.kindOf x=some .globalImplicit
def wk{E:Value->Shared->Prop}{pins:List (Addr×Obj)}{s:Shared}{σ:St}{H:aB}{x:Str}{u:Value}{pos:Pos}{Q:Value->Shared->Prop}(I:Inv X pins σ H s)(aQ:fg X x)(hm:X.aS x=some u)(h:Q u s)(hd:(x==("__debug__":Str))=false:=by decide):wpAny (model X.prog X.w) X.A (eval (.Name x pos) X.env) Q E s :=
 Calls.Name_function_global I.ok.kind aQ (Calls.loadGlobal_global (by rw[I.ok.glob];exact I.mod.glob.keeps I.hE) hm h) hd
def l6{E:Value->Shared->Prop}{pins:List (Addr×Obj)}{s:Shared}{σ:St}{H:aB}{x:Str}{u:Value}{pos:Pos}{Q:Value->Shared->Prop}(I:Inv X pins σ H s)(aQ:fg X x)(hm:X.aS x=none)(aI:bootBuiltins x=some u)(h:Q u s)(az:x≠"__name__":=by decide)(hd:(x==("__debug__":Str))=false:=by decide):wpAny (model X.prog X.w) X.A (eval (.Name x pos) X.env) Q E s:=by
 obtain⟨jz,J,h2⟩:=I.mod.blt;exact Calls.Name_function_global I.ok.kind aQ (Calls.loadGlobal_builtin (by rw[I.ok.glob];exact I.mod.glob.keeps I.hE) hm (by rw[I.ok.blt];exact J.keeps I.hE) ((h2 x az).trans aI) h) hd
def UO{x:Str}{v:V}{u:Value}{pos:Pos}(aQ:fg X x)(hm:X.aS x=some u)(r:RelV v u)(hd:(x==("__debug__":Str))=false:=by decide):aO X (.Name x pos) (pM v) :=
 λ_ _ _ H _ I h=>wk I aQ hm ⟨v,H,I,r,h⟩ hd
def UH{x:Str}{v:V}{u:Value}{pos:Pos}(aQ:fg X x)(hm:X.aS x=none)(aI:bootBuiltins x=some u)(r:RelV v u)(az:x≠"__name__":=by decide)(hd:(x==("__debug__":Str))=false:=by decide):aO X (.Name x pos) (pM v) :=
 λ_ _ _ H _ I h=>l6 I aQ hm aI ⟨v,H,I,r,h⟩ az hd
variable{a b:Expr}{dt du:TE}{pos:Pos}
def rL(X:aU)(op:CmpOp)(a b:Expr)(t:TE):Prop :=
 ∀(pins:List (Addr×Obj))(s:Shared)(σ:St)(H:aB)(Q:dn),Inv X pins σ H s->t σ H Q ->
  wpAny (model X.prog X.w) X.A (eval a X.env) (λv cC=>wpAny (model X.prog X.w) X.A (eval b X.env) (λu gF=>wpAny (model X.prog X.w) X.A (compareOp op v u) (eN X pins σ Q) X.b9 gF) X.b9 cC) X.b9 s
noncomputable def JE(t:TE):TT:=λσ H Q=>t σ H λx H1=>∃c,x=.aP c/\Q c H1
def aaS{op:CmpOp}{t:TE}(h:rL X op a b t)(J:behindInMarks op b=false):gp X (.Compare a [op] [b] pos) (JE t):=by
 intro pins s σ H Q I hw;refine wpAny_isTrue_Compare1 (bR (h pins s σ H _ I hw) λv s1 J=>bR J λu s2 h2=>bR h2 λc s3 ⟨x,H1,aY,aH,aM⟩=>?_) J;obtain⟨d,rfl,q⟩:=aM;cases aH;exact acE ⟨H1,aY,q⟩
def Vy{e:Expr}{t:TE}(h:aO X e t)(he:∀whole,isTrue e X.env whole=(do let v <- whole;standAt e.pos;holding [v] (truthy v)):=by intro _;rfl):gp X e (JE t):=by
 intro pins s σ H Q I hw;refine isTrue_plain (bR (h pins s σ H _ I hw) λv s1 ⟨x,H1,aY,aH,aM⟩=>?_) (he _);obtain⟨d,rfl,q⟩:=aM;cases aH;exact acE ⟨H1,aY,q⟩
variable{rl JF:TT}{rest:List Expr}
noncomputable def XX(t u:TT):TT:=λσ H Q=>t σ H λc H1=>if c=true then u σ H1 Q else Q false H1
noncomputable def Yd(t:TT):TT:=λσ H Q=>t σ H λc H1=>Q (!c) H1
def VA(aA:gp X a rl):mI X (.BoolOp .And [a] pos) rl:=by
 intro xI pins s σ H Q I h;refine isTrue_and (bR (aA pins s σ H Q I h) λc s1 e=>?_);cases c with
 |true=>exact isTrue_and_nil e
 |false=>exact e
def Vz(aA:gp X a rl)(aa:mI X (.BoolOp .And (b::rest) pos) JF):mI X (.BoolOp .And (a::b::rest) pos) (XX rl JF):=by
 intro xI pins s σ H Q I h;refine isTrue_and (bR (aA pins s σ H _ I h) λc s1 ⟨H1,aY,aM⟩=>?_);cases c with
 |true=>exact aa xI pins s1 σ H1 Q aY aM
 |false=>exact⟨H1,aY,aM⟩
def Vx(aA:gp X a rl):gp X (.UnaryOp .Not a pos) (Yd rl):=by
 intro pins s σ H Q I h;exact isTrue_not (aA pins s σ H (λc H1=>Q (!c) H1) I h)
noncomputable def XY(dt du:TE):TE:=λσ H Q=>dt σ H λx H1=>∃c,x=.aP c/\if c=true then du σ H1 Q else Q (.aP false) H1
noncomputable def Ye(dt:TE):TE:=λσ H Q=>dt σ H λx H1=>∃c,x=.aP c/\Q (.aP (!c)) H1
def HW{op}{t:TE}(h:aO X a t):aO X (.BoolOp op [a] pos) t:=λpins s σ H Q I hw=>BoolOp_one (h pins s σ H Q I hw)
def Bx(aA:aO X a dt)(aa:aO X (.BoolOp .And (b::rest) pos) du):aO X (.BoolOp .And (a::b::rest) pos) (XY dt du):=by
 intro pins s σ H Q I h;refine BoolOp_and (bR (aA pins s σ H _ I h) λv s1 ⟨x,H1,aY,aH,aM⟩=>?_);obtain⟨c,rfl,aM⟩:=aM;cases aH;refine acE ?_;cases c with
 |true=>exact aa pins s1 σ H1 Q aY aM
 |false=>exact⟨.aP false,H1,aY,rfl,aM⟩
def HV(aA:aO X a dt):aO X (.UnaryOp .Not a pos) (Ye dt):=by
 intro pins s σ H Q I h;refine UnaryOp_ (bR (aA pins s σ H _ I h) λv s1 ⟨x,H1,aY,aH,aM⟩=>?_);obtain⟨c,rfl,aM⟩:=aM;cases aH;exact not_of (acE ⟨.aP (!c),H1,aY,rfl,aM⟩)
noncomputable def Cn(t:TT)(dt du:TE):TE:=λσ H Q=>t σ H λc H1=>if c=true then dt σ H1 Q else du σ H1 Q
end
end bu
namespace bu
open PySem PySem.Spec PyProof.Rows
def d1(K:W.Frag)(H:aB)(a:Addr)(xs:List V):Prop :=
 gW H a (.lst xs) \/
  ∃(o:Obj)(its:Array Value)(n:Nat),K.lookup a=some o/\o.cls=.type "list"/\o.dict=none/\o.data=.seq its n/\its.size<=sizeLine/\Vals xs its.toList
def fq(K:W.Frag)(H:aB)(a:Addr)(xs:List V):Prop :=
 gW H a (.tup xs) \/
  ∃(o:Obj)(its:Array Value)(n:Nat),K.lookup a=some o/\o.cls=.type "tuple"/\o.data=.seq its n/\its.size<=sizeLine/\Vals xs its.toList
noncomputable def KZ:Value->Option V
 |.none=>some .dT
 |.bool b=>some (.aP b)
 |.int i _=>some (.int i)
 |.str x _=>some (.str x)
 |.bytes b _=>some (.y0 b)
 |.float b _=>some (.jr b)
 |.ref a=>some (.ref a)
 |.type n=>some (.ty n)
 |_=>none
def RelV.abs{x:V}{u:Value}(r:RelV x u):KZ u=some x:=by
 cases x with
 |dT=>cases r;rfl
 |aP _=>cases r;rfl
 |int _=>obtain⟨t,rfl⟩:=r;rfl
 |str _=>obtain⟨t,rfl⟩:=r;rfl
 |y0 _=>obtain⟨t,rfl⟩:=r;rfl
 |jr _=>obtain⟨t,rfl⟩:=r;rfl
 |ref _=>cases r;rfl
 |ty _=>cases r;rfl
def RelV.inj{x y:V}{u:Value}(r:RelV x u)(q:RelV y u):x=y:=abI (r.abs.symm.trans q.abs)
theorem Vals.inj:∀{xs ys:List V}{us:List Value},Vals xs us->Vals ys us->xs=ys
 |_,_,_,.nil,.nil=>rfl
 |_,_,_,.cons r t,.cons b3 t'=>by rw[r.inj b3,Vals.inj t t']
section
variable{X:aU}{pins:List (Addr×Obj)}{σ:St}{H:aB}{s:Shared}{a:Addr}{xs ys:List V}
def d1.of{K:W.Frag}(h:H a=some (.lst xs)):d1 K H a xs:=.inl (.inl h)
def Inv.list(I:Inv X pins σ H s)(h:d1 X.K H a xs):∃its:List Value,Vals xs its/\PlainL s.heap a its.toArray/\xs.length<=sizeLine:=by
 rcases h with h|⟨o,its,n,aw,ag,hd,ae,hz,r⟩
 .obtain⟨z,its,n,r,e⟩:=h.ok I.bz;exact⟨its,r,⟨_,n,e,rfl,rfl,rfl⟩,z⟩
 .refine⟨its.toList,r,⟨o,n,I.o6 a o aw,ag,hd,by simpa using ae⟩,?_⟩;have e:=r.length;simp only[Array.length_toList]at e;omega
def Inv.tuple(I:Inv X pins σ H s)(h:fq X.K H a xs):∃its:List Value,Vals xs its/\IsTup s.heap a its.toArray/\xs.length<=sizeLine:=by
 rcases h with h|⟨o,its,n,aw,ag,ae,hz,r⟩
 .obtain⟨z,its,r,p⟩:=h.ok I.bz;exact⟨its,r,p,z⟩
 .refine⟨its.toList,r,⟨o,I.o6 a o aw,ag,n,by simpa using ae⟩,?_⟩;have e:=r.length;simp only[Array.length_toList]at e;omega
def Inv.S9(I:Inv X pins σ H s)(h:d1 X.K H a xs)(h':d1 X.K H a ys):xs=ys:=by
 obtain⟨its,r,⟨o,n,e,_,_,d⟩,_⟩:=I.list h;obtain⟨its',b3,⟨bJ,b7,bq,_,_,d'⟩,_⟩:=I.list h';rw[e]at bq;cases bq;rw[d]at d';injection d' with bQ _;have:its=its':=by simpa using acp Array.toList bQ
 subst this;exact r.inj b3
def Inv.Y3(I:Inv X pins σ H s)(h:fq X.K H a xs)(h':fq X.K H a ys):xs=ys:=by
 obtain⟨its,r,⟨o,e,_,n,d⟩,_⟩:=I.tuple h;obtain⟨its',b3,⟨bJ,bq,_,b7,d'⟩,_⟩:=I.tuple h';rw[e]at bq;cases bq;rw[d]at d';injection d' with bQ _;have:its=its':=by simpa using acp Array.toList bQ
 subst this;exact r.inj b3
end
section
variable{X:aU}{pins:List (Addr×Obj)}{σ:St}{H:aB}{s:Shared}{E:Value->Shared->Prop}
end
section
variable{X:aU}{st:Stmt}{rest:List Stmt}{t u:gr}{e:Expr}{eM:TE}{pos:Pos}
noncomputable def Yb:gr:=λD σ H=>D.br σ H
noncomputable def Yh(t u:gr):gr:=λD σ H=>t { D with br:=u D } σ H
def Vv:f3 X [] Yb:=λ_ _ σ H _ I h=>adE ⟨σ,H,I,h⟩
def Ia(J:c9 X st t)(h2:f3 X rest u):f3 X (st::rest) (Yh t u):=by
 intro pins s σ H D I h;refine wpAny_execs_cons (bR (J pins s σ H { D with br:=u D } I h) λf s1 q=>?_);cases f with
 |next =>
  obtain⟨cj,ao,d8,q⟩:=q;exact h2 pins s1 cj ao D d8 q
 |ret v=>exact q
 |brk=>exact q
 |cont=>exact q
def Ib(J:c9 X st t):f3 X [st] t:=by
 intro pins s σ H D I h;refine wpAny_execs_cons (bR (J pins s σ H D I h) λf s1 q=>?_);cases f with
 |next=>exact adE q
 |ret v=>exact q
 |brk=>exact q
 |cont=>exact q
def Inv.quiet{pins:List (Addr×Obj)}{σ:St}{H:aB}{s:Shared}(I:Inv X pins σ H s):interactive X.env=false:=by simp[interactive,I.ok.kind]
noncomputable def JJ(eM:TE):gr:=λD σ H=>eM σ H λ_ H1=>D.br σ H1
def BL(he:aO X e eM)(ae:swapsWith e none pos.line X.env=pure false:=by rfl):c9 X (.Expr e pos) (JJ eM):=by
 intro pins s σ H D I h;exact wpAny_Expr_any (bR (he pins s σ H _ I h) λv s1 ⟨x,H1,aY,aH,aM⟩=>⟨σ,H1,aY,aM⟩) I.quiet ae
noncomputable def n2(eM:TE):gr:=λD σ H=>eM σ H D.cP
def t4(he:aO X e eM):c9 X (.Return (some e) pos) (n2 eM):=by
 intro pins s σ H D I h;exact wpAny_Return_some (bR (he pins s σ H _ I h) λv s1 ⟨x,H1,aY,aH,aM⟩=>⟨x,σ,H1,aY,aH,aM⟩)
noncomputable def X8(c:TT)(t u:gr):gr:=λD σ H=>c σ H λb H1=>if b=true then t D σ H1 else u D σ H1
def Vs{c:Expr}{a b:List Stmt}{pN:TT}(ag:gp X c pN)(aA:f3 X a t)(aa:f3 X b u):c9 X (.If c a b pos) (X8 pN t u):=by
 intro pins s σ H D I h;refine wpAny_If (bR (ag pins s σ H _ I h) λd s1 ⟨H1,aY,aM⟩=>?_);cases d with
 |true=>exact aA pins s1 σ H1 D aY aM
 |false=>exact aa pins s1 σ H1 D aY aM
end
noncomputable abbrev ly:=V->St->aB->(St->aB->Prop)->Prop
noncomputable abbrev mM:=List V->St->aB->(St->aB->Prop)->Prop
def oi(X:aU)(target:Expr)(t:ly):Prop :=
 ∀(pins:List (Addr×Obj))(s:Shared)(σ:St)(H:aB)(v:V)(u:Value)(Q:St->aB->Prop),Inv X pins σ H s->RelV v u->t v σ H Q ->
  wpAny (model X.prog X.w) X.A (assign target X.env u) (λ_ s'=>∃cj ao,Inv X pins cj ao s'/\Q cj ao) X.b9 s
def rM(X:aU)(ts:List Expr)(t:mM):Prop :=
 ∀(pins:List (Addr×Obj))(s:Shared)(σ:St)(H:aB)(af:List V)(us:List Value)(Q:St->aB->Prop),Inv X pins σ H s->Vals af us->t af σ H Q ->
  wpAny (model X.prog X.w) X.A (assignInOrder ((assignEach ts X.env).map (·.2)) us) (λ_ s'=>∃cj ao,Inv X pins cj ao s'/\Q cj ao) X.b9 s
noncomputable abbrev KY:=V->V->V->aB->(aB->Prop)->Prop
def KX(X:aU)(t:KY):Prop :=
 ∀(pins:List (Addr×Obj))(s:Shared)(σ:St)(H:aB)(o i v:V)(mc kO u:Value)(Q:aB->Prop),Inv X pins σ H s->RelV o mc->RelV i kO->RelV v u->t o i v H Q ->
  wpAny (model X.prog X.w) X.A (setItem mc kO u) (λ_ s'=>∃ao,Inv X pins σ ao s'/\Q ao) X.b9 s
section
variable{X:aU}{pos:Pos}
noncomputable def zO(i:Nat):ly:=λv σ H Q=>Q (σ.set i (some v)) H
def HZ{i:Nat}{x:Str}(aG:X.N.Nodup)(ai:X.N[i]?=some x)(ak:Loc X.env.scope x)(hf:X.fn x=true\/X.env.scope.names.lookup x=some .local:=by first|exact .inl rfl|exact .inr rfl|assumption):oi X (.Name x pos) (zO i):=by
 intro pins s σ H v u Q I r h;exact wpAny_assign_Name (xl I aG ai ak r (λs' d8=>⟨_,H,d8,h⟩) hf)
noncomputable def Fg:mM:=λaf σ H Q=>af=[]/\Q σ H
noncomputable def Fe(t:ly)(u:mM):mM:=λaf σ H Q=>∃v r,af=v::r/\t v σ H λcj ao=>u r cj ao Q
def U5:rM X [] Fg:=by
 intro pins s σ H af us Q I r h;obtain⟨e,h⟩:=h;subst e;cases r;exact assignInOrder_nil ⟨σ,H,I,h⟩
def U4{e:Expr}{aj:List Expr}{t:ly}{u:mM}(J:oi X e t)(h2:rM X aj u)(ae:(assignEach (e::aj) X.env).map (·.2)=assign e X.env::(assignEach aj X.env).map (·.2):=by rfl):rM X (e::aj) (Fe t u):=by
 intro pins s σ H af us Q I r h;obtain⟨v,aa0,e1,h⟩:=h;subst e1;cases r with
 |cons r gE =>
  rw[ae];refine assignInOrder_cons (bR (J pins s σ H _ _ _ I r h) λ_ s1 ⟨ry,H1,aY,aM⟩=>?_);exact h2 pins s1 ry H1 _ _ Q aY gE aM
noncomputable def PW(K:W.Frag)(n:Nat)(t:mM):ly:=λv σ H Q=>∃a xs,v=.ref a/\fq K H a xs/\xs.length=n/\t xs σ H Q
def U3{aj:List Expr}{k:Nat}{t:mM}{n:Nat}(ag:X.calm=true)(h:rM X aj t)(az:(assignEach aj X.env).length=n:=by rfl)(cK:(assignEach aj X.env).findIdx? (·.1)=none:=by rfl):oi X (.Tuple aj k pos) (PW X.K n t):=by
 intro pins s σ H v u Q I r hw;obtain⟨a,xs,e1,aE,ax,hw⟩:=hw;subst e1;cases r;obtain⟨its,bI,ay,hz⟩:=I.tuple aE;refine assign_Tuple_tuple (I.ok.hd ag) ay (by simp[az,<- ax,bI.length]) cK λh' ak=>?_
 have aY:Inv X pins σ H { s with heap:=h' }:=I.kept (t':=s.toks) λb o e=>ak b o (abp (abd e)) e
 exact h pins _ σ H xs _ Q aY (by simpa using bI) hw
noncomputable def n1(eM:TE)(g:ly):gr:=λD σ H=>eM σ H λx H1=>g x σ H1 D.br
def q4{i:Nat}{x:Str}{e:Expr}{eM:TE}{pos':Pos}(aG:X.N.Nodup)(ai:X.N[i]?=some x)(ak:Loc X.env.scope x)(he:aO X e eM)(ae:swapsWith e (some (.Name x pos')) pos.line X.env=pure false:=by rfl)(hf:X.fn x=true\/X.env.scope.names.lookup x=some .local:=by first|exact .inl rfl|exact .inr rfl|assumption):
  c9 X (.Assign [.Name x pos'] e pos) (n1 eM (zO i)):=by
 intro pins s σ H D I h;refine wpAny_Assign_Name (bR (he pins s σ H _ I h) λv s1 ⟨y,H1,aY,aH,aM⟩=>?_) ae;exact xl aY aG ai ak aH (λs2 cb=>⟨_,H1,cb,aM⟩) hf
end
section
variable{X:aU}{pos:Pos}
noncomputable def Yn(c:TT)(du:gr):gr:=λD σ H=>∃W:Nat->St->aB->Prop,(∃m,W m σ H)/\∀m σ H,W m σ H ->
 c σ H λb H1=>if b=true then ∃N:St->aB->Prop,(∀cj ao,N cj ao->∃ij,ij<m/\W ij cj ao)/\du { D with br:=N,ct:=N,hE:=D.br } σ H1 else D.br σ H1
def Vt{c:Expr}{body:List Stmt}{pN:TT}{du:gr}(au:PassesOwn (model X.prog X.w) X.A X.env X.b9)(ag:gp X c pN)(aa:f3 X body du):c9 X (.While c body [] pos) (Yn pN du):=by
 intro pins s σ H D I h;obtain⟨W,⟨m0,CP⟩,turn⟩:=h;refine wpAny_While (codeAny_whileLoop (λn s'=>∃cj ao,Inv X pins cj ao s'/\W n cj ao) ?_ m0 ⟨σ,H,I,CP⟩);rintro n s1 ⟨ry,H1,aY,jg⟩;refine acT au (bR (ag pins s1 ry H1 _ aY (turn n ry H1 jg)) λb s2 ⟨aR,cb,a7⟩=>?_);cases b with
 |true =>
  obtain⟨N,aG,a7⟩:=a7;rw[if_pos rfl];refine acT au (bR (aa pins s2 ry aR _ cb a7) λf s3 bU=>?_);cases f with
  |next =>
   obtain⟨jJ,bj,er,tQ⟩:=bU;obtain⟨ij,hm,uA⟩:=aG jJ bj tQ;exact⟨ij,hm,jJ,bj,er,uA⟩
  |cont =>
   obtain⟨jJ,bj,er,tQ⟩:=bU;obtain⟨ij,hm,uA⟩:=aG jJ bj tQ;exact⟨ij,hm,jJ,bj,er,uA⟩
  |brk=>exact bU
  |ret v=>exact bU
 |false =>
  rw[if_neg acd];exact adE ⟨ry,aR,cb,a7⟩
end
structure jN where
 go:Nat->aB->Prop
 ll:Nat->aB->V->aB->Prop
 stop:Nat->aB->Prop
def kj(X:aU)(pins:List (Addr×Obj))(H:aB)(b:Addr):Prop :=
 H b=none/\b≠X.env.locals/\b∉X.bp/\(b∈X.ex\/X.eL.heap.objs.size<=b)/\(∀x c,X.env.cells.lookup x=some c->c≠b)/\∀p∈X.cf++pins,p.1≠b
def Inv.sF{X:aU}{pins:List (Addr×Obj)}{σ:St}{H ao:aB}{s:Shared}{b:Addr}(I:Inv X pins σ H s)(aa:s.heap.objs.size<=b)(az:ao b=none):kj X pins ao b:=by
 refine⟨az,ae2 (abr I.lt aa),I.wH aa,.inr (ab2 I.gR aa),λx c e z=>?_,λp au z=>?_⟩
 .obtain⟨v,q⟩:=I.cell x c e;exact absurd (abr q.lt (by rw[z];exact aa)) (acv _)
 .exact absurd (abr (abd (I.pin p au).1) (by rw[z];exact aa)) (acv _)
structure Turn(P:Program)(w:World)(K:W.Frag)(dv:Expr)(dD:jN)(bD:List Addr)(it:Addr)(g8:Nat->Heap->Prop):Prop where
 mem:it∈bD
 obj:∀i h,g8 i h->∀b∈bD,∃o,h.get? b=some o/\∀v,o.data≠.cell v
 keep:∀i h h',g8 i h->(∀b∈bD,∀o,h.get? b=some o->h'.get? b=some o)->g8 i h'
 item:∀(X:aU),X.prog=P->X.w=w->X.K=K->X.calm=true->∀(i:Nat)(pins:List (Addr×Obj))(s:Shared)(σ:St)(H:aB)(E:Value->Shared->Prop),Inv X pins σ H s->(∀b∈bD,kj X pins H b)->g8 i s.heap->dD.go i H ->
  wpAny (model P w) X.A (pyNext (.ref it)) (λr s1=>∃u,r=some u /\
   wpAny (model P w) X.A (letOwnedTupleGo dv (.ref it) u) (λ_ s2=>∃x ao,Inv X pins σ ao s2/\RelV x u/\dD.ll i H x ao/\g8 (i+1) s2.heap/\∀b∈bD,ao b=none) E s1) E s
 done:∀(X:aU),X.prog=P->X.w=w->X.K=K->X.calm=true->∀(i:Nat)(pins:List (Addr×Obj))(s:Shared)(σ:St)(H:aB)(E:Value->Shared->Prop),Inv X pins σ H s->(∀b∈bD,kj X pins H b)->g8 i s.heap->dD.stop i H ->
  wpAny (model P w) X.A (pyNext (.ref it)) (λr s1=>r=none/\Inv X pins σ H s1) E s
 self:∀(A:Around)(i:Nat)(s:Shared)(Q:Value->Shared->Prop)(E:Value->Shared->Prop),g8 i s.heap->Q (.ref it) s->wpAny (model P w) A (pyIter (.ref it)) Q E s
noncomputable abbrev TI:=St->aB->(jN->aB->Prop)->Prop
def x5(X:aU)(pins:List (Addr×Obj))(σ:St)(dv:Expr)(R:jN->aB->Prop)(AW:Value)(s2:Shared):Prop :=
 ∃(it:Addr)(bD:List Addr)(g8:Nat->Heap->Prop)(dD:jN)(ao:aB),AW=.ref it/\Inv X pins σ ao s2/\Turn X.prog X.w X.K dv dD bD it g8/\g8 0 s2.heap/\(∀b∈bD,kj X pins ao b)/\R dD ao
def ir(X:aU)(dv iter:Expr)(ru:TI):Prop :=
 ∀(pins:List (Addr×Obj))(s:Shared)(σ:St)(H:aB)(R:jN->aB->Prop),Inv X pins σ H s->ru σ H R ->
  wpAny (model X.prog X.w) X.A (eval iter X.env) (λv s1=>wpAny (model X.prog X.w) X.A (pyIter v) (x5 X pins σ dv R) X.b9 s1) X.b9 s
def vD {M : Model} {A : Around} {E : Value -> Shared -> Prop} {s : Shared} {dv : Expr} {it : Addr} {u : Value} {o : Obj} {n : String} {af : Array Value} {Q : Unit -> Shared -> Prop} (av : s.heap.get? it = some o) (ag : o.cls = .type n) (hd : o.data = .fields af)
    (az : ["enumerate", "zip", "dict_itemiterator", "dict_reverseitemiterator", "odict_iterator", "itertools.zip_longest", "itertools.pairwise"].contains n = false) (dh : Q () s) : wpAny M A (letOwnedTupleGo dv (.ref it) u) Q E s := by
  unfold letOwnedTupleGo
  cases dv <;> first
    | exact aa7 dh
    | (cases u <;> first
        | exact aa7 dh
        | (refine aa5 (wpAny_load av ?_)
           rw [ag, hd]
           show wpAny M A (if (["enumerate", "zip", "dict_itemiterator", "dict_reverseitemiterator", "odict_iterator", "itertools.zip_longest", "itertools.pairwise"].contains n && af[0]? == some (rawInt _)) = true then _ else _) Q E s
           rw [if_neg (by intro h; rw [az, adL] at h; cases h)]
           exact aa7 dh))
noncomputable def xY(K:W.Frag)(a:Addr):jN :=
 ⟨λi H=>∃xs x,d1 K H a xs/\xs[i]?=some x,λi H x ao=>ao=H/\∀xs,d1 K H a xs->xs[i]?=some x,λi H=>∃xs,d1 K H a xs/\xs.length<=i⟩
noncomputable def xZ(K:W.Frag)(a:Addr):jN :=
 ⟨λi H=>∃xs x,fq K H a xs/\xs[i]?=some x,λi H x ao=>ao=H/\∀xs,fq K H a xs->xs[i]?=some x,λi H=>∃xs,fq K H a xs/\xs.length<=i⟩
noncomputable def rI(lo:Int)(n:Nat):jN:=⟨λi _=>i<n,λi H x ao=>ao=H/\x=.int (lo+i),λi _=>n<=i⟩
def Y7{P:Program}{w:World}{K:W.Frag}{dv:Expr}(a it:Addr):Turn P w K dv (xY K a) [it] it (λi h=>h.IsListIter it a i) where
 mem:=by simp
 obj:=λi h st b aa=>by
  have e:b=it:=(by simpa using aa);subst e;obtain⟨o,e,c,d⟩:=st;exact⟨o,e,λv z=>by rw[d]at z;cases z⟩
 keep:=λi h h' st k=>st.at λo e=>k it (by simp) o e
 item:=by
  intro X ea hw hn ag i pins s σ H E I hf st aQ;subst ea hw hn;obtain⟨xs,x,aE,ak⟩:=aQ;obtain⟨its,bI,p,hz⟩:=I.list aE;obtain⟨u,bc,cm⟩:=bI.get ak;obtain⟨f0,f1,f2,e9,f4,fa⟩:=hf it (by simp);refine wpAny_pyNext_list_item st p.isList (x:=u) (by simpa using bc) λh' bh dM=>?_
  have aY:Inv X pins σ H { s with heap:=h' }:=I.turned (t':=s.toks) (λb o aa e=>(dM.2 b aa).trans e) f0 f1 e9 f4 fa;obtain⟨o,e,c,d⟩:=id bh;exact⟨u,rfl,vD (s:={ s with heap:=h' }) e c d (by decide) ⟨x,H,aY,cm,⟨rfl,λys aN=>by rw[I.S9 aN aE];exact ak⟩,bh,λb aa=>(hf b aa).1⟩⟩
 done:=by
  intro X ea hw hn ag i pins s σ H E I hf st aQ;subst ea hw hn;obtain⟨xs,aE,ak⟩:=aQ;obtain⟨its,bI,p,hz⟩:=I.list aE;obtain⟨f0,f1,f2,e9,f4,fa⟩:=hf it (by simp);have ax:=bI.length;exact wpAny_pyNext_list_end (I.ok.hd ag) st p.isList (by simp;omega) λh' eF=>⟨rfl,I.turned (t':=s.toks) (λb o aa e=>eF b o aa e) f0 f1 e9 f4 fa⟩
 self:=λ_ _ _ _ _ st h=>wpAny_pyIter_listiter st h
def Y9{P:Program}{w:World}{K:W.Frag}{dv:Expr}(a it:Addr):Turn P w K dv (xZ K a) [it] it (λi h=>h.IsTupleIter it a i) where
 mem:=by simp
 obj:=λi h st b aa=>by
  have e:b=it:=(by simpa using aa);subst e;obtain⟨o,e,c,d⟩:=st;exact⟨o,e,λv z=>by rw[d]at z;cases z⟩
 keep:=λi h h' st k=>st.at λo e=>k it (by simp) o e
 item:=by
  intro X ea hw hn ag i pins s σ H E I hf st aQ;subst ea hw hn;obtain⟨xs,x,aE,ak⟩:=aQ;obtain⟨its,bI,p,hz⟩:=I.tuple aE;obtain⟨u,bc,cm⟩:=bI.get ak;obtain⟨f0,f1,f2,e9,f4,fa⟩:=hf it (by simp);refine wpAny_pyNext_tuple_item st (show s.heap.IsTuple a its.toArray from p) (x:=u) (by simpa using bc) λh' bh dM=>?_
  have aY:Inv X pins σ H { s with heap:=h' }:=I.turned (t':=s.toks) (λb o aa e=>(dM.2 b aa).trans e) f0 f1 e9 f4 fa;obtain⟨o,e,c,d⟩:=id bh;exact⟨u,rfl,vD (s:={ s with heap:=h' }) e c d (by decide) ⟨x,H,aY,cm,⟨rfl,λys aN=>by rw[I.Y3 aN aE];exact ak⟩,bh,λb aa=>(hf b aa).1⟩⟩
 done:=by
  intro X ea hw hn ag i pins s σ H E I hf st aQ;subst ea hw hn;obtain⟨xs,aE,ak⟩:=aQ;obtain⟨its,bI,p,hz⟩:=I.tuple aE;obtain⟨f0,f1,f2,e9,f4,fa⟩:=hf it (by simp);have ax:=bI.length;exact wpAny_pyNext_tuple_end (I.ok.hd ag) st (show s.heap.IsTuple a its.toArray from p) (by simp;omega) λh' eF=>⟨rfl,I.turned (t':=s.toks) (λb o aa e=>eF b o aa e) f0 f1 e9 f4 fa⟩
 self:=λ_ _ _ _ _ st h=>wpAny_pyIter_tupleiter st h
def Y8{P:Program}{w:World}{K:W.Frag}{dv:Expr}(it:Addr)(lo:Int)(n:Nat):Turn P w K dv (rI lo n) [it] it (λi h=>IsRangeIter h it (lo+(i:Nat)*1) ((n:Int)-(i:Nat)) 1) where
 mem:=by simp
 obj:=λi h st b aa=>by
  have e:b=it:=(by simpa using aa);subst e;exact⟨_,st,λv z=>by
   have kd:Data.fields _=Data.cell v:=z;cases kd⟩
 keep:=λi h h' st k=>k it (by simp) _ st
 item:=by
  intro X ea hw hn ag i pins s σ H E I hf st aQ;subst ea hw hn;obtain⟨f0,f1,f2,e9,f4,fa⟩:=hf it (by simp);have W:=Walks.range (prog:=X.prog) (w:=X.w) (I.ok.hd ag) it lo 1 n;refine W.item i s _ _ aQ st λv h' tk aI bh d5=>?_
  obtain⟨t,rfl⟩:=aI;have aY:Inv X pins σ H { s with heap:=h',toks:=tk }:=I.turned (λb o aa e=>d5 b o (by simpa using aa) e) f0 f1 e9 f4 fa;refine⟨_,rfl,vD (s:={ s with heap:=h',toks:=tk }) (n:="range_iterator") bh rfl rfl (by decide) ⟨.int (lo+i),H,aY,⟨t,?_⟩,⟨rfl,rfl⟩,bh,λb aa=>(hf b aa).1⟩⟩;rw[Int.mul_one]
 done:=by
  intro X ea hw hn ag i pins s σ H E I hf st aQ;subst ea hw hn;obtain⟨f0,f1,f2,e9,f4,fa⟩:=hf it (by simp);exact wpAny_pyNext_range_end (I.ok.hd ag) st (by have:n<=i:=aQ;omega) λh' eF=>⟨rfl,I.turned (t':=s.toks) (λb o aa e=>eF b o aa e) f0 f1 e9 f4 fa⟩
 self:=λ_ _ _ _ _ st h=>wpAny_pyIter_rangeiter st h
end bu
namespace bu
open PySem PySem.Spec PyProof.Rows
section
variable{X:aU}{dv:Expr}
def VN{pins:List (Addr×Obj)}{σ:St}{H:aB}{s:Shared}{R:jN->aB->Prop}{E:Value->Shared->Prop}{lo ai:Int}{t u v:Tok}{tk:Nat}(I:Inv X pins σ H s)(J:-(2 ^ 62)<=lo)(h2:lo<2 ^ 62)(h3:-(2 ^ 62)<=ai)(h4:ai<2 ^ 62)(q:R (rI lo (ai-lo).toNat) H):wpAny (model X.prog X.w) X.A (pyIter (.ref s.heap.objs.size)) (x5 X pins σ dv R) E { s with heap:=s.heap.push { cls:=.type "range",data:=.fields #[.int lo t,.int ai u,.int 1 v] },toks:=tk }:=by
 refine wpAny_pyIter_range (IsRange.new ..) (small_one J h2 h3 h4) ?_;have aY:Inv X pins σ H { s with heap:=s.heap.push { cls:=.type "range",data:=.fields #[.int lo t,.int ai u,.int 1 v] },toks:=tk }:=I.kept λb o e=>aa8 _ e
 refine⟨(s.heap.push { cls:=.type "range",data:=.fields #[.int lo t,.int ai u,.int 1 v] }).objs.size,[(s.heap.push { cls:=.type "range",data:=.fields #[.int lo t,.int ai u,.int 1 v] }).objs.size],_,_,H,rfl,
  aY.kept (t':=tk) λb o e=>aa8 _ e,Y8 _ lo (ai-lo).toNat,?_,λb aa=>?_,q⟩
 .have e1:lo+((0:Nat):Int)*1=lo:=(by simp);have e2:(((ai-lo).toNat:Nat):Int)-((0:Nat):Int)=Builtin.Range.rangeSize lo ai 1:=(by rw[rangeSize_one];split<;>omega);show IsRangeIter _ _ (lo+((0:Nat):Int)*1) ((((ai-lo).toNat:Nat):Int)-((0:Nat):Int)) 1;rw[e1,e2];exact abf _ rfl
 .have e:b=(s.heap.push { cls:=.type "range",data:=.fields #[.int lo t,.int ai u,.int 1 v] }).objs.size:=(by simpa using aa);subst e;exact aY.sF (abb _) (aY.bz.fresh (abb _))
noncomputable def RU(dt:gX):TI:=λσ H R=>dt σ H λaf H1=>∃j:Int,af=[.int j]/\-(2 ^ 62)<=j/\j<2 ^ 62/\R (rI 0 j.toNat) H1
def U6{a:Expr}{dt:gX}{p pos:Pos}(aQ:fg X "range")(hm:X.aS "range"=none)(aA:fZ X [a] dt)(ae:starEach [a] X.env=[(false,eval a X.env)]:=by rfl):ir X dv (.Call (.Name "range" p) [a] [] pos) (RU dt):=by
 intro pins s σ H R I h;refine Call_ (l6 I aQ hm boot_range (ab7 (bR (aA pos pins s σ H _ I h) λus s1 ⟨af,H1,aY,aH,aM⟩=>?_) ae rfl));obtain⟨j,e,aM,a7,q⟩:=aM;subst e;cases aH with
 |cons r gE =>
  cases gE;obtain⟨t,rfl⟩:=r;exact call_range_1 (VN aY (by omega) (by omega) aM a7 (by simpa using q))
noncomputable def xn(ru:TI)(g:ly)(du:gr):gr:=λD σ H=>ru σ H λdD H1=>∃W:Nat->Nat->St->aB->Prop,(∃m,W 0 m σ H1)/\∀i m σ H,W i m σ H ->
 (dD.stop i H/\D.br σ H)\/(dD.go i H/\∃N:St->aB->Prop,(∀cj ao,N cj ao->∃ij,ij<m/\W (i+1) ij cj ao)/\∀x ao,dD.ll i H x ao->g x σ ao λn9 aR=>du { D with br:=N,ct:=N,hE:=D.br } n9 aR)
noncomputable def wY(bD:List Addr)(h:Heap):List (Addr×Obj):=bD.filterMap λb=>(h.get? b).map λo=>(b,o)
def qT{bD:List Addr}{h:Heap}{b:Addr}{o:Obj}(aa:b∈bD)(e:h.get? b=some o):(b,o)∈wY bD h:=adG.mpr ⟨b,aa,by rw[e];rfl⟩
def Ue{bD:List Addr}{h:Heap}{p:Addr×Obj}(au:p∈wY bD h):p.1∈bD/\h.get? p.1=some p.2:=by
 obtain⟨b,aa,e⟩:=adG.mp au;cases q:h.get? b with
 |none=>rw[q]at e;cases e
 |some o =>
  rw[q]at e;have bq:(b,o)=p:=abI e;subst bq;exact⟨aa,q⟩
def Inv.pinned{pins:List (Addr×Obj)}{σ:St}{H:aB}{s:Shared}{bD:List Addr}(I:Inv X pins σ H s)(hf:∀b∈bD,kj X pins H b)(av:∀b∈bD,∃o,s.heap.get? b=some o/\∀v,o.data≠.cell v):Inv X (pins++wY bD s.heap) σ H s :=
 I.BF λp au=>(abq.mp au).elim (λz=>I.pin p (abn _ z)) λz=>by
  obtain⟨aa,e⟩:=Ue z;obtain⟨f0,f1,f2,_⟩:=hf p.1 aa;obtain⟨o,bq,d⟩:=av p.1 aa;rw[e]at bq;cases bq;exact⟨e,f0,f1,f2,d⟩
def Inv.rp{pins b0:List (Addr×Obj)}{σ:St}{H:aB}{s:Shared}(I:Inv X (pins++b0) σ H s):Inv X pins σ H s:=I.BF λp au=>I.pin p (abn _ (List.mem_append_left _ au))
def Vr{iter:Expr}{body:List Stmt}{ru:TI}{g:ly}{du:gr}{pos:Pos}(au:PassesOwn (model X.prog X.w) X.A X.env X.b9)(ag:X.calm=true)(ai:ir X dv iter ru)(aQ:oi X dv g)(aa:f3 X body du)(ae:∀x,foldedSetIterable iter X.env x=pure x:=by intro _;rfl):c9 X (.For dv iter body [] pos) (xn ru g du):=by
 intro pins s σ H D I h;refine wpAny_For (bR (ai pins s σ H _ I h) λv s1 J=>bR J λAW s2 h2=>?_) ae;obtain⟨it,bD,g8,dD,aR,e,cb,T,hs,f2,W,⟨m0,CP⟩,turn⟩:=h2;subst e;have Cf:∀{ao:aB},(∀b∈bD,ao b=none)->∀b∈bD,kj X pins ao b:=λaz b aa=>⟨az b aa,(f2 b aa).2⟩
 refine codeAny_forLoop_any (λn s'=>∃i cj ao,Inv X pins cj ao s'/\g8 i s'.heap/\(∀b∈bD,ao b=none)/\W i n cj ao) ?_ m0 ⟨0,σ,aR,cb,hs,λb aa=>(f2 b aa).1,CP⟩;rintro n s3 ⟨i,jJ,bj,er,hU,E9,uA⟩;rcases turn i n jJ bj uA with⟨stop,VD⟩|⟨go,N,aG,step⟩
 .refine acT au (bR (T.done X rfl rfl rfl ag i pins s3 jJ bj X.b9 er (Cf E9) hU stop) λr s4 ⟨aV,gn⟩=>?_);subst aV;exact adE ⟨jJ,bj,gn,VD⟩
 .refine acT au (bR (T.item X rfl rfl rfl ag i pins s3 jJ bj X.b9 er (Cf E9) hU go) λr s4 ⟨u,aV,h4⟩=>?_);subst aV;refine acT au (bR h4 λ_ s5 ⟨x,mE,mF,jC,CS,mj,zK⟩=>?_);have xW:=mF.pinned (Cf zK) (T.obj _ _ mj);refine acT au (bR (aQ _ s5 jJ mE x u _ xW jC (step x mE CS)) λ_ rb ⟨uI,ji,pW,kW⟩=>?_);refine acT au (bR (aa _ rb uI ji _ pW kW) λf ue iH=>?_);have again:∀{kf:St}{hx:aB},Inv X (pins++wY bD s5.heap) kf hx ue->N kf hx->∃m,m<n/\∃i cj ao,Inv X pins cj ao ue/\g8 i ue.heap/\(∀b∈bD,ao b=none)/\W i m cj ao:=λ{kf hx} hy tR=>by
   obtain⟨ij,hm,Zo⟩:=aG kf hx tR;refine⟨ij,hm,i+1,kf,hx,hy.rp,T.keep _ _ _ mj λb aa o e=>(hy.pin (b,o) (abn _ (abn _ (qT aa e)))).1,λb aa=>?_,Zo⟩;obtain⟨o,e,d⟩:=T.obj _ _ mj b aa;exact(hy.pin (b,o) (abn _ (abn _ (qT aa e)))).2.1
  cases f with
  |next=>obtain⟨kf,hx,hy,tR⟩:=iH;exact again hy tR
  |cont=>obtain⟨kf,hx,hy,tR⟩:=iH;exact again hy tR
  |brk=>obtain⟨kf,hx,hy,iH⟩:=iH;exact⟨kf,hx,hy.rp,iH⟩
  |ret v=>obtain⟨n7,kf,hx,hy,BN,iH⟩:=iH;exact⟨n7,kf,hx,hy.rp,BN,iH⟩
end
end bu
namespace bu
open PySem PySem.Spec PyProof.Rows
noncomputable abbrev hh:=V->V->aB->dn->Prop
def d0(X:aU)(f:Value->Value->Sem Value)(r:hh):Prop :=
 ∀(pins:List (Addr×Obj))(s:Shared)(σ:St)(H:aB)(x y:V)(v u:Value)(Q:dn),Inv X pins σ H s->RelV x v->RelV y u->r x y H Q ->
  wpAny (model X.prog X.w) X.A (f v u) (eN X pins σ Q) X.b9 s
def x7(X:aU)(f:Value->Sem Value)(r:V->aB->dn->Prop):Prop :=
 ∀(pins:List (Addr×Obj))(s:Shared)(σ:St)(H:aB)(x:V)(v:Value)(Q:dn),Inv X pins σ H s->RelV x v->r x H Q ->
  wpAny (model X.prog X.w) X.A (f v) (eN X pins σ Q) X.b9 s
def gS(X:aU)(f:Value)(r:List V->aB->dn->Prop):Prop :=
 ∀(pins:List (Addr×Obj))(s:Shared)(σ:St)(H:aB)(xs:List V)(us:List Value)(Q:dn),Inv X pins σ H s->Vals xs us->r xs H Q ->
  wpAny (model X.prog X.w) X.A (call f us) (eN X pins σ Q) X.b9 s
noncomputable def uv(r:hh)(dt du:TE):TE:=λσ H Q=>dt σ H λx H1=>du σ H1 λy aR=>r x y aR Q
noncomputable def Ym(r:V->aB->dn->Prop)(dt:TE):TE:=λσ H Q=>dt σ H λx H1=>r x H1 Q
noncomputable def w0(C:Int->Int->Prop)(g:Int->Int->V):hh:=λx y H Q=>∃i j,x=.int i/\y=.int j/\C i j/\Q (g i j) H
noncomputable def nX(g:Int->Int->V):hh:=λx y H Q=>∃i j,x=.int i/\y=.int j/\Q (g i j) H
noncomputable def Ij(g:Int->V):V->aB->dn->Prop:=λx H Q=>∃i,x=.int i/\Q (g i) H
section
variable{X:aU}{a b c:Expr}{dt du pN:TE}{pos:Pos}
def yX(aA:aO X a dt)(aa:aO X b du){pins:List (Addr×Obj)}{s:Shared}{σ:St}{H:aB}{R:V->V->aB->Prop}(I:Inv X pins σ H s)(h:dt σ H λx H1=>du σ H1 λy aR=>R x y aR){Q:Value->Shared->Prop}{f:Value->Value->Sem Value}(hf:∀v u s2 x y aR,Inv X pins σ aR s2->RelV x v->RelV y u->R x y aR->wpAny (model X.prog X.w) X.A (f v u) Q X.b9 s2):
  wpAny (model X.prog X.w) X.A (eval a X.env) (λv cC=>wpAny (model X.prog X.w) X.A (eval b X.env) (λu gF=>wpAny (model X.prog X.w) X.A (f v u) Q X.b9 gF) X.b9 cC) X.b9 s:=by
 refine bR (aA pins s σ H _ I h) λv s1 ⟨x,H1,aY,aH,aM⟩=>?_
 refine bR (aa pins s1 σ H1 _ aY aM) λu s2 ⟨y,aR,cb,aX,a7⟩=>?_
 exact hf v u s2 x y aR cb aH aX a7
def HX{op:Operator}{r:hh}(av:d0 X (binaryOp op) r)(aA:aO X a dt)(aa:aO X b du):aO X (.BinOp a op b pos) (uv r dt du):=by
 intro pins s σ H Q I h;exact wpAny_BinOp (yX aA aa I h λv u s2 x y aR cb bf bL q=>av pins s2 σ aR x y v u Q cb bf bL q)
def UT{op:UnaryOp}{r:V->aB->dn->Prop}(av:x7 X (unaryOp op) r)(aA:aO X a dt):aO X (.UnaryOp op a pos) (Ym r dt):=by
 intro pins s σ H Q I h;exact UnaryOp_ (bR (aA pins s σ H _ I h) λv s1 ⟨x,H1,aY,aH,aM⟩=>av pins s1 σ H1 x v Q aY aH aM)
def Bu{f:Value->Value->Sem Value}{C:Int->Int->Prop}{g:Int->Int->Int}(rule:∀(i j:Int)(t u:Tok)(s:Shared)(Q:Value->Shared->Prop)(E:Value->Shared->Prop),C i j->Q (.int (g i j) s.toks) { s with toks:=s.toks+1 }->wpAny (model X.prog X.w) X.A (f (.int i t) (.int j u)) Q E s):
  d0 X f (w0 C λi j=>.int (g i j)):=by
 intro pins s σ H x y v u Q I bf bL h;obtain⟨i,j,rfl,rfl,ag,q⟩:=h;obtain⟨t,rfl⟩:=bf;obtain⟨t',rfl⟩:=bL;exact rule i j t t' s _ _ ag ⟨.int (g i j),H,I.tok _,⟨_,rfl⟩,q⟩
def wQ{f:Value->Value->Sem Value}{g:Int->Int->Int}(rule:∀(i j:Int)(t u:Tok)(s:Shared)(Q:Value->Shared->Prop)(E:Value->Shared->Prop),Q (.int (g i j) s.toks) { s with toks:=s.toks+1 }->wpAny (model X.prog X.w) X.A (f (.int i t) (.int j u)) Q E s):
  d0 X f (nX λi j=>.int (g i j)):=by
 intro pins s σ H x y v u Q I bf bL h;obtain⟨i,j,rfl,rfl,q⟩:=h;obtain⟨t,rfl⟩:=bf;obtain⟨t',rfl⟩:=bL;exact rule i j t t' s _ _ ⟨.int (g i j),H,I.tok _,⟨_,rfl⟩,q⟩
def HH{f:Value->Value->Sem Value}{g:Int->Int->Bool}(rule:∀(i j:Int)(t u:Tok)(s:Shared)(Q:Value->Shared->Prop)(E:Value->Shared->Prop),Q (.bool (g i j)) s->wpAny (model X.prog X.w) X.A (f (.int i t) (.int j u)) Q E s):
  d0 X f (nX λi j=>.aP (g i j)):=by
 intro pins s σ H x y v u Q I bf bL h;obtain⟨i,j,rfl,rfl,q⟩:=h;obtain⟨t,rfl⟩:=bf;obtain⟨t',rfl⟩:=bL;exact rule i j t t' s _ _ ⟨.aP (g i j),H,I,rfl,q⟩
def KI(i j:Int):Prop:=0<j/\j<1073741824
def xR(i j:Int):Prop:=(-(2 ^ 64)<i/\i<2 ^ 64)\/(-(2 ^ 64)<j/\j<2 ^ 64)
def xR.ok{i j:Int}(h:xR i j):IntMulOk i j:=by
 rcases h with⟨J,h2⟩|⟨J,h2⟩
 .exact .of_left (intBits_le_64 J h2)
 .exact .of_right (intBits_le_64 J h2)
def Ul:d0 X (binaryOp .Add) (nX λi j=>.int (i+j)):=wQ λ_ _ _ _ _ _ _ q=>add_int q
def Ut:d0 X (binaryOp .Sub) (nX λi j=>.int (i-j)):=wQ λ_ _ _ _ _ _ _ q=>sub_int q
def Ur:d0 X (binaryOp .Mult) (w0 xR λi j=>.int (i*j)):=Bu λ_ _ _ _ _ _ _ ag q=>mul_int q ag.ok
def Um:d0 X (binaryOp .FloorDiv) (w0 KI λi j=>.int (i / j)):=Bu λi j _ _ _ _ _ ag q=>by
 have J:(0:Int)<j:=ag.1;have h2:j<1073741824:=ag.2;exact floordiv_int (by omega) (by rw[Int.fdiv_eq_ediv_of_nonneg i (by omega)];exact q) (.inl (PyProof.noPylong_small (by omega)))
def Uq:d0 X (binaryOp .Mod) (w0 (λ_ j=>0<j) λi j=>.int (i%j)):=Bu λi j _ _ _ _ _ ag q=>by
 have J:(0:Int)<j:=ag;exact mod_int' (by omega) (by rw[Int.fmod_eq_emod_of_nonneg i (by omega)];exact q)
def HJ:d0 X (binaryOp .BitAnd) (nX λi j=>.int (Builtin.bitAnd i j)):=wQ λ_ _ _ _ _ _ _ q=>and_int q
def Uu:d0 X (binaryOp .BitXor) (nX λi j=>.int (Builtin.bitXor i j)):=wQ λ_ _ _ _ _ _ _ q=>xor_int q
def Kb{f:Value->Sem Value}{g:Int->Int}(rule:∀(i:Int)(t:Tok)(s:Shared)(Q:Value->Shared->Prop)(E:Value->Shared->Prop),Q (.int (g i) s.toks) { s with toks:=s.toks+1 }->wpAny (model X.prog X.w) X.A (f (.int i t)) Q E s):
  x7 X f (Ij λi=>.int (g i)):=by
 intro pins s σ H x v Q I bf h;obtain⟨i,rfl,q⟩:=h;obtain⟨t,rfl⟩:=bf;exact rule i t s _ _ ⟨.int (g i),H,I.tok _,⟨_,rfl⟩,q⟩
def Zc:x7 X (unaryOp .USub) (Ij λi=>.int (-i)):=Kb λ_ _ _ _ _ q=>neg_int q
end
section
variable{X:aU}{a b c:Expr}{dt du pN:TE}{pos:Pos}
def Uo:d0 X (compareOp .Lt) (nX λi j=>.aP (decide (i<j))):=HH λ_ _ _ _ _ _ _ q=>lt_int q
def Un:d0 X (compareOp .Gt) (nX λi j=>.aP (decide (j<i))):=HH λ_ _ _ _ _ _ _ q=>gt_int q
def UK{op:CmpOp}{r:hh}(av:d0 X (compareOp op) r)(aA:aO X a dt)(aa:aO X b du)(hm:behindInMarks op b=false):aO X (.Compare a [op] [b] pos) (uv r dt du):=by
 intro pins s σ H Q I h;exact wpAny_Compare1 (yX aA aa I h λv u s2 x y aR cb bf bL q=>av pins s2 σ aR x y v u Q cb bf bL q) hm
noncomputable def Yj(t:TE):TT:=λσ H Q=>t σ H λx ao=>∃k,x=.aP k/\Q k ao
def Vw{op:CmpOp}{r:hh}(av:d0 X (compareOp op) r)(aA:aO X a dt)(aa:aO X b du)(hm:behindInMarks op b=false):gp X (.Compare a [op] [b] pos) (Yj (uv r dt du)):=by
 intro pins s σ H Q I h;refine wpAny_isTrue_Compare1 (bR (aA pins s σ H _ I h) λv s1 ⟨x,H1,aY,aH,aM⟩=>bR (aa pins s1 σ H1 _ aY aM) λu s2 ⟨y,aR,cb,aX,a7⟩ =>
  bR (av pins s2 σ aR x y v u _ cb aH aX a7) λc s3 ⟨z,bj,er,eJ,k,e,bU⟩=>?_) hm
 subst e;cases eJ;exact acE ⟨bj,er,bU⟩
def tI:(sizeLine:Nat)<2 ^ 63:=by rw[sizeLine_eq];decide
def vals1{x:V}{us:List Value}(r:Vals [x] us):∃u,us=[u]/\RelV x u:=by
 cases r with
 |cons aH aX=>cases aX;exact⟨_,rfl,aH⟩
def vals2{x y:V}{us:List Value}(r:Vals [x,y] us):∃u fm,us=[u,fm]/\RelV x u/\RelV y fm:=by
 cases r with
 |cons aH aX =>
  cases aX with
  |cons eJ ip=>cases ip;exact⟨_,_,rfl,aH,eJ⟩
def Mg:gS X (.type "int") (λxs H Q=>(∃i,xs=[.int i]/\Q (.int i) H)\/∃k,xs=[.aP k]/\Q (.int (if k then 1 else 0)) H):=by
 intro pins s σ H xs us Q I r h;rcases h with⟨i,rfl,q⟩|⟨k,rfl,q⟩
 .obtain⟨u,rfl,t,rfl⟩:=vals1 r;exact call_int_int ⟨.int i,H,I,⟨_,rfl⟩,q⟩
 .obtain⟨u,rfl,aH⟩:=vals1 r;cases aH;exact call_int_bool ⟨.int (if k then 1 else 0),H,I.tok _,⟨_,rfl⟩,q⟩
end
end bu
namespace bu
open PySem PySem.Spec PyProof.Rows
structure KW(h:Heap)(x bk C:Addr)(gQ:Str->Option Value):Prop where
 obj:h.get? x=some (PySem.W.instObj C bk)
 ns:h.Ns1 bk gQ
 ne:bk≠x
section
variable{prog:Program}{w:World}{A:Around}{E:Value->Shared->Prop}{s:Shared}{K:W.Frag}{x bk C f:Addr}{gQ:Str->Option Value}{name:Str}{v:Value}
end
def iR.some_of{v:V}{o:Option Value}(r:iR (some v) o):∃u,o=some u/\RelV v u:=by
 cases o with
 |none=>exact(show False from r).elim
 |some u=>exact⟨u,rfl,r⟩
section
variable{P:Program}{w:World}{H ao:aB}{h h':Heap}{a C bk:Addr}{bp PT:List (Str×V)}
def AS(bz:d7 P w H h)(e:H a=some (.ins C bk bp)):∃gQ,KW h a bk C gQ/\(∀f,iR (bp.lookup f) (gQ f))/\PySem.Within gQ (bp.map (·.1))/\bp.length<=1000/\H bk=some (.own a):=by
 obtain⟨d,z,ne,bP,gQ,n,r,q⟩:=(show dX P w H h a (.ins C bk bp) from bz a _ e);exact⟨gQ,⟨bP,n,ne⟩,r,q,z,d⟩
end
structure iO(K:W.Frag)(C:Addr):Prop where
 pg:PySem.W.plainGet K C Str.empty=true
 hd:PySem.W.hasDictIn K C=true
 po:PySem.W.plainOver K C=true
 uf:PySem.W.findIn K (.ref C) "__setattr__"=some (some (.builtin "object.__setattr__"))
structure ZJ(K:W.Frag)(C:Addr)(f:Str)(v:V)(u:Value):Prop where
 at_:PySem.W.findIn K (.ref C) f=some (some u)
 rel:RelV v u
 get:PySem.W.specialIn K u "__get__"=some none
 dG:PySem.W.copiedNames.contains f=false
structure Meth(K:W.Frag)(C:Addr)(m:Str)(f:Addr):Prop where
 at_:PySem.W.findIn K (.ref C) m=some (some (.ref f))
 fn:PySem.W.isFn K (.ref f)=true
 gP:W.keepIn K (.ref f)=true
section
variable{X:aU}{pins:List (Addr×Obj)}{σ:St}{H:aB}{s:Shared}{a C bk:Addr}{bp:List (Str×V)}{f:Str}{v:V}{A:Around}{E:Value->Shared->Prop}
end
section
variable{X:aU}{o e value:Expr}{f:Str}{pos pos' Y1:Pos}{dt lg:TE}
end
section
variable{X:aU}{pins:List (Addr×Obj)}{σ:St}{H:aB}{s:Shared}{A:Around}{E:Value->Shared->Prop}{Q:Value->Shared->Prop}{c:Value}{b:Bool}
inductive jP(K:W.Frag)(H:aB):V->Value->Prop where
 |dT:jP K H .dT (.type "NoneType")
 |aP (x:Bool):jP K H (.aP x) (.type "bool")
 |int (i:Int):jP K H (.int i) (.type "int")
 |str (x:Str):jP K H (.str x) (.type "str")
 |jr (x:UInt64):jP K H (.jr x) (.type "float")
 |lst {a:Addr} {xs:List V} (e:H a=some (.lst xs)):jP K H (.ref a) (.type "list")
 |dk {a:Addr} {o:Obj} {xs:List V} (e:H a=some (.dk o (.lst xs))):jP K H (.ref a) (.type "list")
 |tup {a:Addr} {xs:List V} (e:H a=some (.tup xs)):jP K H (.ref a) (.type "tuple")
 |dQ {a:Addr} {ah:List (Key×V)} (e:H a=some (.dQ ah)):jP K H (.ref a) (.type "dict")
 |da {a:Addr} {ah:List (List Key×V)} (e:H a=some (.da ah)):jP K H (.ref a) (.type "dict")
 |ins {a C bk:Addr} {bp:List (Str×V)} (e:H a=some (.ins C bk bp)) (cl:iO K C) (aA:PySem.W.findIn K (.ref C) "__class__"=some (some (.builtin "object.__class__")))
   (az:PySem.W.specialIn K (.builtin "object.__class__") "__get__"=some (some (.builtin "getset_descriptor.__get__"))) (aav:PySem.W.takesIn K (.builtin "object.__class__")=some true)
   (hm:PySem.W.mroIn K C (.type "object")=some true):jP K H (.ref a) (.ref C)
end
end bu
namespace bu
open PySem PySem.Spec PyProof.Rows
structure gq(k:Nat)(A:Around):Prop where
 hd:A.handled=none
 m1:A.depth+3*k+5<recursionLimit
 un:A.units+16*k+200<cLine
def gq.mono{j k:Nat}{A:Around}(r:gq k A)(h:j<=k):gq j A:=⟨r.hd,by have:=r.m1;omega,by have:=r.un;omega⟩
theorem gq.deeper{k:Nat}{A:Around}(r:gq (k+1) A)(env:Env):gq k (A.deeper env) :=
 ⟨r.hd,by have:=r.m1;show A.depth+1+3*k+5<_;omega,by have:=r.un;show A.units+3+16*k+200<_;omega⟩
theorem gq.depth{k:Nat}{A:Around}(r:gq k A):A.depth<recursionLimit:=by have:=r.m1;omega
theorem gq.units{k:Nat}{A:Around}(r:gq k A):A.units+64<cLine:=by have:=r.un;omega
noncomputable def JM:gX:=λ_ H Q=>Q [] H
noncomputable def JI(dt:TE)(fL:gX):gX:=λσ H Q=>dt σ H λx H1=>fL σ H1 λxs aR=>Q (x::xs) aR
section
variable{X:aU}{e:Expr}{aj:List Expr}{eM:TE}{t:gX}{pos:Pos}
def pv:fZ X [] JM:=λ_ _ _ _ H Q I h=>adl ⟨[],H,I,.nil,h⟩
def nS(aA:aO X e eM)(aV:fZ X aj t)(ae:starEach (e::aj) X.env=(false,eval e X.env)::starEach aj X.env:=by rfl):fZ X (e::aj) (JI eM t):=by
 intro pos pins s σ H Q I h;rw[ae];show wpAny _ _ (spliced ((false,eval e X.env)::backTo pos (starEach aj X.env))) _ _ s;refine acP (bR (aA pins s σ H _ I h) λu s1 ⟨x,H1,aY,aH,aM⟩=>?_);exact bR (aV pos pins s1 σ H1 _ aY aM) λus s2 ⟨xs,aR,cb,aX,a7⟩=>⟨x::xs,aR,cb,.cons aH aX,a7⟩
noncomputable def Yl(t:gX):TE:=λσ H Q=>t σ H λxs H1=>xs.length<=sizeLine/\∀p,H1 p=none->Q (.ref p) (upd H1 p (.tup xs))
noncomputable def Ya(t:gX):TE:=λσ H Q=>t σ H λxs H1=>xs.length<=sizeLine/\∀p,H1 p=none->Q (.ref p) (upd H1 p (.lst xs))
def US{aT}(h:fZ X aj t):aO X (.Tuple aj aT pos) (Yl t):=by
 intro pins s σ H Q I aE;refine wpAny_Tuple_spliced (bR (h pos pins s σ H _ I aE) λus s1 ⟨xs,H1,aY,r,z,q⟩=>⟨by rw[<- r.length];exact z,?_⟩);have hf:H1 s1.heap.objs.size=none:=aY.bz.fresh (abb _);refine⟨.ref s1.heap.objs.size,upd H1 s1.heap.objs.size (.tup xs),aY.laid (t':=s1.toks) (λb u e=>aa8 _ e) (abb _) ?_,rfl,q _ hf⟩;exact⟨z,us,r,⟨_,abf _ rfl,rfl,_,rfl⟩⟩
def HT(h:fZ X aj t):aO X (.List aj pos) (Ya t):=by
 intro pins s σ H Q I aE;refine wpAny_List_spliced (bR (h pos pins s σ H _ I aE) λus s1 ⟨xs,H1,aY,r,z,q⟩=>⟨by rw[<- r.length];exact z,?_⟩);have hf:H1 s1.heap.objs.size=none:=aY.bz.fresh (abb _);refine⟨.ref s1.heap.objs.size,upd H1 s1.heap.objs.size (.lst xs),aY.laid (t':=s1.toks) (λb u e=>aa8 _ e) (abb _) ?_,rfl,q _ hf⟩;exact⟨z,us,0,r,abf _ rfl⟩
end
noncomputable abbrev mK:=List V->aB->dn->jl->Prop
noncomputable abbrev jK:=List Env->aB->Shared->jl->Value->Shared->Prop
structure uM(P:Program)(w:World)(K:W.Frag)(aS:Str->Option Value)(base:Heap)(A:Around)(outer:List Env)(s:Shared)(H:aB):Prop where
 frames:A.frames=some outer
 mod:Mod K aS base
 bs:∀b o,base.get? b=some o->s.heap.get? b=some o/\H b=none
 oA:base.objs.size<=s.heap.objs.size
 js:s.heap.FunFrames base outer
 qr:∀b∈gv outer,H b=none
 bz:d7 P w H s.heap
 bare:AllBare s.gens
def xQ(outer:List Env)(P:Program)(w:World)(H:aB)(s:Shared)(Q:dn)(u:Value)(s':Shared):Prop :=
 ∃v ao,s'.os=s.os/\AllBare s'.gens/\fj (gv outer) [] H ao s.heap s'.heap/\d7 P w ao s'.heap/\RelV v u/\Q v ao
def KL(CX:jK)(outer:List Env)(P:Program)(w:World)(H:aB)(s:Shared)(Q:dn)(E:jl)(r:Result)(s':Shared):Prop :=
 match r with
 |.ok (.ret u)=>xQ outer P w H s Q u s'
 |.ok _=>False
 |.error e=>CX outer H s E e s'
structure ki(P:Program)(w:World)(K:W.Frag)(aS:Str->Option Value)(base:Heap)(CX:jK)(k:Nat)(f:Addr)(fd:FuncData)(aJ:List Str)(sp:mK):Prop where
 len:∀af H Q E,sp af H Q E->af.length=aJ.length
 run:∀(A:Around)(outer:List Env)(s:Shared)(H:aB)(args:Args)(us:List Value)(af:List V)(Q:dn)(E:jl),gq k A->uM P w K aS base A outer s H->BindsTo s fd args (aJ.zip us)->Vals af us->sp af H Q E ->
  codeAny (model P w) A (.call (.ref f) args) (KL CX outer P w H s Q E) s
section
variable{X:aU}{pins:List (Addr×Obj)}{σ:St}{H:aB}{s s':Shared}
def Inv.Ol(I:Inv X pins σ H s):uM X.prog X.w X.K X.aS X.base X.A X.stack s H :=
 ⟨I.ok.frames,I.ok.mod,I.bs,ab2 I.ok.oA I.gR,I.stack,I.Cg,I.bz,I.bare⟩
def Inv.after{Q:dn}{u:Value}(I:Inv X pins σ H s)(h:xQ X.stack X.prog X.w H s Q u s'):eN X pins σ Q u s':=by
 obtain⟨v,ao,os,bare,un,bz,r,q⟩:=h;obtain⟨bZ,g,d,t,tW⟩:=s';obtain rfl:tW=s.os:=os;exact⟨v,ao,I.call (h':=bZ) (g':=g) (d':=d) (t':=t) (ch:=[]) un bz bare (λb z=>absurd z (by simp)),r,q⟩
end
noncomputable def X0(sp:mK)(dvs:List V)(E:jl)(t:gX):TE:=λσ H Q=>t σ H λaf H1=>sp (af++dvs) H1 Q E
def Binds(K:W.Frag)(fd:FuncData)(aJ:List Str)(ds:List Value):Prop :=
 ∀(s:Shared)(us:List Value),K.In s.heap->(us++ds).length=aJ.length->BindsTo s fd ⟨us,[]⟩ (aJ.zip (us++ds))
def Binds.all{K:W.Frag}{fd:FuncData}{aJ:List Str}(h:∀us:List Value,us.length=aJ.length->bindArgs fd ⟨us,[]⟩=pure (aJ.zip us)):Binds K fd aJ []:=λs us _ ax=>by
 rw[acm]at ax ⊢;exact .of_eq (h us ax)
def Passes(CX:jK)(X:aU)(E:jl):Prop:=∀(pins:List (Addr×Obj))(σ:St)(H:aB)(s:Shared)(e:Value)(s':Shared),Inv X pins σ H s->CX X.stack H s E e s'->X.b9 e s'
section
variable{X:aU}{CX:jK}{k:Nat}{f C:Addr}{fd:FuncData}{aJ:List Str}{sp:mK}{dvs:List V}{ds:List Value}{E:jl}{x m:Str}{p pos apos:Pos}{e o:Expr}{aj:List Expr}{dt:TE}{t:gX}
def We{pins:List (Addr×Obj)}{σ:St}{H:aB}{s:Shared}{Q:dn}{us:List Value}{af:List V}(F:ki X.prog X.w X.K X.aS X.base CX k f fd aJ sp)(aV:gq k X.A)(aa:Binds X.K fd aJ ds)(hd:Vals dvs ds)(ak:Passes CX X E)(I:Inv X pins σ H s)(r:Vals af us)(h:sp (af++dvs) H Q E):wpAny (model X.prog X.w) X.A (call (.ref f) us) (eN X pins σ Q) X.b9 s:=by
 have aX:Vals (af++dvs) (us++ds):=r.append hd;have ax:(us++ds).length=aJ.length:=by rw[<- aX.length];exact F.len _ _ _ _ h
 refine wpAny_call (aep (F.run X.A X.stack s H ⟨us,[]⟩ (us++ds) (af++dvs) Q E aV I.Ol (aa s us I.o6 ax) aX h) λr s' aE=>?_);cases r with
 |error e=>exact ak pins σ H s e s' I aE
 |ok eQ =>
  cases eQ with
  |ret u=>exact I.after aE
  |next=>exact False.elim aE
  |brk=>exact False.elim aE
  |cont=>exact False.elim aE
def UJ(F:ki X.prog X.w X.K X.aS X.base CX k f fd aJ sp)(aV:gq k X.A)(aQ:fg X x)(hm:X.aS x=some (.ref f))(aw:W.keepIn X.K (.ref f)=true)(aa:Binds X.K fd aJ ds)(hd:Vals dvs ds)(ak:Passes CX X E)(aA:fZ X (e::aj) t)(jX:(x==("__debug__":Str))=false:=by decide)(he:starEach (e::aj) X.env=(false,eval e X.env)::starEach aj X.env:=by rfl)(dV:(backTo pos (starEach aj X.env)).any (·.1)=false:=by rfl):
  aO X (.Call (.Name x p) (e::aj) [] pos) (X0 sp dvs E t):=by
 intro pins s σ H Q I h;refine acA (wk I aQ hm ?_ jX);refine PySem.W.callWith_K (h₀:=X.base) I.ok.mod.A0 aw (bR (aA pos pins s σ H _ I h) λus s1 ⟨af,H1,aY,r,q⟩=>⟨aY.o6,?_⟩) he dV;exact We F aV aa hd ak aY r q
structure gV(K:W.Frag)(C f:Addr):Prop where
 makes:PySem.W.makesIn K C=true
 init:PySem.W.findIn K (.ref C) "__init__"=some (some (.ref f))
 fn:PySem.W.isFn K (.ref f)=true
 gP:W.keepIn K (.ref C)=true
end
section
variable{X:aU}{CX:jK}{k:Nat}{f C:Addr}{fd:FuncData}{aJ ar:List Str}{sp:mK}{E:jl}{x m:Str}{p pos apos aaG:Pos}{e o:Expr}{aj:List Expr}{aaI:List Keyword}{eM dt:TE}{t tk:gX}{nm:Option Str}
structure ZK(K:W.Frag)(fd:FuncData)(aJ ar:List Str)(g:List Value->List Value->List Value)(Fh:List V->List V->List V):Prop where
 to:∀(s:Shared)(us ws:List Value),K.In s.heap->(g us ws).length=aJ.length->BindsTo s fd ⟨us,ar.zip ws⟩ (aJ.zip (g us ws))
 rel:∀{af:List V}{us:List Value}{zs:List V}{ws:List Value},Vals af us->Vals zs ws->Vals (Fh af zs) (g us ws)
variable{g:List Value->List Value->List Value}{Fh:List V->List V->List V}
end
structure xT(N P:List Str)(sc:Scope):Prop where
 kind:sc.kind=.function
 co:sc.isCoroutine=false
 gen:sc.isGenerator=false
 c4:N.Nodup
 pre:N.take P.length=P
 par:∀x∈P,sc.names.lookup x=some .local\/sc.names.lookup x=some .cell
 TX:∀y∈sc.names,y.2≠.free
theorem DC{kindOf:Str->Option NameKind}{x:Str}:∀{binds:List (Str×Value)}{m:Str->Option Value},(∀v,(x,v)∉binds)->bindL kindOf binds m x=m x
 |[],_,_=>rfl
 |(n,v)::r,m,h=>by
  unfold bindL;rw[DC λw hw=>h w (List.mem_cons_of_mem _ hw)]
  split
  .have:x≠n:=(by rintro rfl;exact h v List.mem_cons_self);simp[this]
  .rfl
theorem DA{kindOf:Str->Option NameKind}{x:Str}:∀{binds:List (Str×Value)}{m:Str->Option Value},(∀v,(x,v)∉binds)->bindC kindOf binds m x=m x
 |[],_,_=>rfl
 |(n,v)::r,m,h=>by
  unfold bindC;rw[DA λw hw=>h w (List.mem_cons_of_mem _ hw)]
  split
  .rfl
  .have:x≠n:=(by rintro rfl;exact h v List.mem_cons_self);simp[this]
theorem DB{kindOf:Str->Option NameKind}{x:Str}{v:Value}:∀{P:List Str}{af:List Value}{i:Nat}{m:Str->Option Value},P.Nodup->P[i]?=some x->af[i]?=some v->kindOf x=some .local ->
  bindL kindOf (P.zip af) m x=some v
 |[],_,_,_,_,h,_,_=>by simp at h
 |_::_,[],_,_,_,_,h,_=>by simp at h
 |p::P,w::af,0,m,c4,J,h2,aw=>by
  simp at J h2;subst J;subst h2;show bindL kindOf ((p,w)::P.zip af) m p=_;unfold bindL;rw[DC λv aI=>(abv.mp c4).1 (List.of_mem_zip aI).1,if_pos aw];simp
 |p::P,w::af,i+1,m,c4,J,h2,aw=>by
  show bindL kindOf ((p,w)::P.zip af) m x=_;unfold bindL;exact DB (i:=i) (abv.mp c4).2 (by simpa using J) (by simpa using h2) aw
theorem Dz{kindOf:Str->Option NameKind}{x:Str}{v:Value}:∀{P:List Str}{af:List Value}{i:Nat}{m:Str->Option Value},P.Nodup->P[i]?=some x->af[i]?=some v->kindOf x≠some .local ->
  bindC kindOf (P.zip af) m x=some v
 |[],_,_,_,_,h,_,_=>by simp at h
 |_::_,[],_,_,_,_,h,_=>by simp at h
 |p::P,w::af,0,m,c4,J,h2,aw=>by
  simp at J h2;subst J;subst h2;show bindC kindOf ((p,w)::P.zip af) m p=_;unfold bindC;rw[DA λv aI=>(abv.mp c4).1 (List.of_mem_zip aI).1,if_neg aw];simp
 |p::P,w::af,i+1,m,c4,J,h2,aw=>by
  show bindC kindOf ((p,w)::P.zip af) m x=_;unfold bindC;exact Dz (i:=i) (abv.mp c4).2 (by simpa using J) (by simpa using h2) aw
noncomputable def start(N:List Str)(af:List V):St:=af.map some++List.replicate (N.length-af.length) none
noncomputable def mY(CX:jK)(P:Program)(w:World)(K:W.Frag)(aS:Str->Option Value)(base:Heap)(N:List Str)(qual:Str)(scope:Scope)(f:Addr)(cd:Value)(A:Around)(outer:List Env)(s:Shared)(H:aB)(E:jl):aU where
 prog:=P
 w:=w
 K:=K
 aS:=aS
 base:=base
 A:=A.deeper (envOfC qual scope s.heap.objs.size f cd)
 N:=N
 eL:=s
 rH:=H
 env:=envOfC qual scope s.heap.objs.size f cd
 outer:=outer
 stack:=envOfC qual scope s.heap.objs.size f cd::outer
 ex:=[]
 calm:=true
 fn:=λ_=>true
 cf:=[]
 b9:=λe s'=>wpAny (model P w) (A.deeper (envOfC qual scope s.heap.objs.size f cd)) (leaving (envOfC qual scope s.heap.objs.size f cd) e) (λ_ ud=>CX outer H s E e ud) (λbq ud=>CX outer H s E bq ud) s'
def DN{sc:Scope}{n:Nat}{x:Str}(h:sc.names.lookup x=some .cell):∃c,(cellsFrom n sc.names []).lookup x=some c:=by
 have q:=aeM sc.names n [] (.inl h);exact Option.isSome_iff_exists.mp q
def R5{CX:jK}{P:Program}{w:World}{K:W.Frag}{aS:Str->Option Value}{base:Heap}{N aJ:List Str}{qual:Str}{scope:Scope}{f:Addr}{cd:Value}{A:Around}{outer:List Env}{s s1:Shared}{H:aB}{E:jl}{us:List Value}{af:List V}(S:xT N aJ scope)(hd:A.handled=none)(e0:uM P w K aS base A outer s H)(ax:af.length=aJ.length)(r:Vals af us)(x:InCallC s s.heap.objs.size (bindL (envOfC qual scope s.heap.objs.size f cd).kindOf (aJ.zip us) λ_=>none) (cellsFrom (s.heap.objs.size+1) scope.names []) (bindC (envOfC qual scope s.heap.objs.size f cd).kindOf (aJ.zip us) λ_=>none) s1):
  Inv (mY CX P w K aS base N qual scope f cd A outer s H E) [] (start N af) H s1:=by
 have dV:aJ.length<=N.length:=by have:=acp List.length S.pre;rw[acL]at this;omega
 obtain⟨J,tk,rfl,aw⟩:=x.done;have tT:∀b:Addr,b∉(mY CX P w K aS base N qual scope f cd A outer s H E).ex:=λb z=>absurd (show b∈([]:List Addr) from z) (by simp)
 refine⟨⟨e0.mod,S.kind,rfl,rfl,abb _,λy z c J h2=>?_,λy aN=>?_,λy c _ h=>?_,λ_=>hd,Around.frames_deeper e0.frames,.inr ⟨rfl,rfl⟩,λb z=>absurd z (tT b),e0.bs,e0.oA,λb _ _=>tT b,λb z=>absurd z (tT b),e0.js,e0.qr⟩,
  rfl,e0.bare,fj.kept aw,⟨_,x.toInCall.ns,λi y v J h2 h3=>?_⟩,λy c h=>⟨_,x.cell y c h⟩,e0.bz.fresh (abb _),λy c h=>?_,λp au=>absurd (show p∈([]:List (Addr×Obj)) from au) (by simp),e0.bz.kept aw,?_⟩
 .exact name_of_addr x.apart (abS J) (abS h2)
 .have aN:scope.names.lookup y=some .cell\/scope.names.lookup y=some .free:=aN;rcases aN with aN|aN
  .exact DN aN
  .exact absurd rfl (S.TX _ (abS aN))
 .exact adp (x.above y c (abS h))
 .have ai:i<af.length:=by
   unfold start at h2
   by_cases ai:i<af.length
   .exact ai
   .rw[abF (by simpa using ai)]at h2;rw[ac3]at h2
    split at h2<;>cases h2
  have aA:af[i]?=some v:=by
   unfold start at h2;rw[abo (by simpa using ai),abj]at h2;cases e:af[i]? with
   |none=>rw[e]at h2;cases h2
   |some a=>rw[e]at h2;cases h2;rfl
  obtain⟨u,bc,bI⟩:=r.get aA;have au:aJ[i]?=some y:=by
   rw[<- S.pre,List.getElem?_take_of_lt (by omega)];exact J
  have Hl:aJ.Nodup:=(by rw[<- S.pre];exact S.c4.sublist (List.take_sublist _ _));refine⟨u,bI,?_⟩;rcases S.par y (acq au) with k|k
  .exact .inl ⟨k,DB Hl au bc k⟩
  .obtain⟨c,e⟩:=DN (n:=s.heap.objs.size+1) k;refine .inr ⟨.inl k,c,e,?_⟩;have q:=x.cell y c e;rw[Dz Hl au bc (by show scope.names.lookup y≠_;rw[k];decide)]at q;exact q
 .exact e0.bz.fresh (adp (x.above y c (abS h)))
 .unfold start;show _=N.length;rw[List.length_append,List.length_map,adi];omega
def PJ{CX:jK}{P:Program}{w:World}{K:W.Frag}{aS:Str->Option Value}{base:Heap}{k:Nat}{f:Addr}{name qual:Str}{params:Arguments}{body:List Stmt}{scope:Scope}{vc c3 doc pm dY ct fS:Value}{an bb:Option Addr}{fT:Array (Option Value)}{N aJ:List Str}{sp:mK}(lk:K.lookup f=some ⟨fS,bb,.func (W.fnOf name qual params body scope vc c3 doc pm an dY ct),fT⟩)(lN:W.codeIn K dY qual=true)(S:xT N aJ scope)(len:∀af H Q E,sp af H Q E->af.length=aJ.length)(Aa:∀(A:Around)(outer:List Env)(s:Shared)(H:aB)(af:List V)(Q:dn)(E:jl),gq k (A.deeper (envOfC qual scope s.heap.objs.size f dY))->sp af H Q E ->
   ∃t,f3 (mY CX P w K aS base N qual scope f dY A outer s H E) body t/\t { br:=λ_ ao=>Q .dT ao,cP:=Q } (start N af) H):
  ki P w K aS base CX (k+1) f (W.fnOf name qual params body scope vc c3 doc pm an dY ct) aJ sp:=by
 refine⟨len,λA outer s H args us af Q E aV e0 aa r qE=>?_⟩;have ax:=len _ _ _ _ qE;have iQ:K.In s.heap:=e0.mod.A0.keeps λb o e=>(e0.bs b o e).1
 have lim:s.heap.NoLimit:=e0.mod.nolimit.keeps λb o e=>(e0.bs b o e).1
 have QS:∀y∈aJ.zip us,scope.names.lookup y.1=some .local\/(scope.names.lookup y.1=some .cell/\((cellsFrom (s.heap.objs.size+1) scope.names []).lookup y.1).isSome=true):=λ⟨n,v⟩ aN=>by
  rcases S.par n (List.of_mem_zip aN).1 with q|q
  .exact .inl q
  .exact .inr ⟨q,aeM _ _ _ (.inl q)⟩
 refine codeAny_call_function aV.depth (iQ _ _ lk) rfl S.co S.gen rfl (PySem.W.codeRec_of iQ lN) (aa _ _ _ _ ?_);refine wpAny_newFunctionEnv_cells S.kind QS λenv he s1 x=>?_
 subst he;refine⟨lim.keeps x.toInCall.keep,codeAny_func ?_⟩;obtain⟨t,ay,aE⟩:=Aa A outer s H af Q E (aV.deeper _) qE;have I:Inv (mY CX P w K aS base N qual scope f dY A outer s H E) [] (start N af) H s1:=R5 S aV.hd e0 ax r x;refine abV (ay [] s1 (start N af) H _ I aE) (λeQ s' ae=>?_) λe s' ae=>ae
 have fin:∀{cj:St}{ao:aB}{v:V}{u:Value},Inv (mY CX P w K aS base N qual scope f dY A outer s H E) [] cj ao s'->RelV v u->Q v ao->xQ outer P w H s Q u s' :=
  λ{cj ao v u} dD bI q=>⟨v,ao,dD.os,dD.bare,dD.base,dD.bz,bI,q⟩
 cases eQ with
 |ret u =>
  obtain⟨v,cj,ao,dD,bI,q⟩:=ae;exact fin dD bI q
 |next =>
  obtain⟨cj,ao,dD,q⟩:=ae;exact fin (v:=V.dT) (u:=Value.none) dD rfl q
 |brk =>
  obtain⟨_,_,_,q⟩:=ae;exact False.elim q
 |cont =>
  obtain⟨_,_,_,q⟩:=ae;exact False.elim q
end bu
namespace bu
open PySem PySem.Spec PyProof.Rows
section
variable{X:aU}{x:Str}{p pos:Pos}{e:Expr}{aj:List Expr}{t:gX}{id T:String}{r:List V->aB->dn->Prop}
noncomputable def JH(r:List V->aB->dn->Prop)(t:gX):TE:=λσ H Q=>t σ H λaf H1=>r af H1 Q
def Bz(ag:gS X (.builtin id) r)(aQ:fg X x)(hm:X.aS x=none)(aI:bootBuiltins x=some (.builtin id))(aA:fZ X (e::aj) t)(az:x≠"__name__":=by decide)(jX:(x==("__debug__":Str))=false:=by decide)(he:starEach (e::aj) X.env=(false,eval e X.env)::starEach aj X.env:=by rfl)(dV:(backTo pos (starEach aj X.env)).any (·.1)=false:=by rfl):aO X (.Call (.Name x p) (e::aj) [] pos) (JH r t):=by
 intro pins s σ H Q I h;refine acA (l6 I aQ hm aI ?_ az jX);exact ad1 (bR (aA pos pins s σ H _ I h) λus s1 ⟨af,H1,aY,aH,aM⟩=>ag pins s1 σ H1 af us Q aY aH aM) he dV
def HP(ag:gS X (.type T) r)(aQ:fg X x)(hm:X.aS x=none)(aI:bootBuiltins x=some (.type T))(aA:fZ X (e::aj) t)(az:x≠"__name__":=by decide)(jX:(x==("__debug__":Str))=false:=by decide)(he:starEach (e::aj) X.env=(false,eval e X.env)::starEach aj X.env:=by rfl)(dV:(backTo pos (starEach aj X.env)).any (·.1)=false:=by rfl):aO X (.Call (.Name x p) (e::aj) [] pos) (JH r t):=by
 intro pins s σ H Q I h;refine acA (l6 I aQ hm aI ?_ az jX);exact ab7 (bR (aA pos pins s σ H _ I h) λus s1 ⟨af,H1,aY,aH,aM⟩=>ag pins s1 σ H1 af us Q aY aH aM) he dV
end
end bu
namespace c2
open PySem PyProof.Rows
noncomputable def lexLt:List Int->List Int->Bool
 |[],[]=>false
 |[],_::_=>true
 |_::_,[]=>false
 |x::xs,y::ys=>if x=y then lexLt xs ys else decide (x<y)
def S2(x y:Int)(xs ys:List Int):lexLt (x::xs) (y::ys)=if x=y then lexLt xs ys else decide (x<y):=rfl
def S5:lexLt [] []=false:=rfl
def S4(y:Int)(ys:List Int):lexLt [] (y::ys)=true:=rfl
def S3(x:Int)(xs:List Int):lexLt (x::xs) []=false:=rfl
def Om(A:Around)(s:Shared)(a:Int)(t:Tok)(c:Int)(u:Tok):∃e,SeqAt.EqAt A s (.int a t) (.int c u) e/\(e=true<->a=c) :=
 ⟨(a==c),SeqAt.EqAt.int_int a t c u,by simp⟩
def VO(A:Around)(s:Shared)(a:Int)(t:Tok)(c:Int)(u:Tok)(prog:Program)(w:World)(E:Value->Shared->Prop)(Q:Value->Shared->Prop)(h:Q (.bool (decide (a<c))) s):
  wpAny (model prog w) A (richCompare .Lt (.int a t) (.int c u)) Q E s :=
 (PyProof.Rows.lt_int h:wpAny (model prog w) A (compareOp .Lt (.int a t) (.int c u)) Q E s)
section
open PySem.SeqAt
open PySem.AutoSeq1 (wpAny_loadPart')
open PySem.MeetsSeq PySem.MeetsSeq2 PySem.MeetsSeq3
def Y4(l b:Addr)(items ib:Array Value)(n d2:Nat)(dd kv:Option Addr)(bF j8:Array (Option Value))(ns ms:List Int)(ai:IntsAre items.toList ns)(aF:IntsAre ib.toList ms):
  Meets (Builtin.«tuple.__lt__» ⟨[.ref l,.ref b],[]⟩)
   (λ_ R s=>s.heap.get? l=some { cls:=.type "tuple",dict:=dd,data:=.seq items n,slots:=bF }/\s.heap.get? b=some { cls:=.type "tuple",dict:=kv,data:=.seq ib d2,slots:=j8 } /\
    R (.ok (.ret (.bool (lexLt ns ms)))) s) :=
 .of_wp λprog w A R s h=>by
  obtain⟨au,g,d,tk,os⟩:=s;obtain⟨ax,aa,h⟩:=h;have f2:=AutoSeq1.sub_tuple_tuple;have bO:items.size=ns.length:=(by rw[<- ai.length];simp);have bE:ib.size=ms.length:=by rw[<- aF.length];simp
  wp_walk using wpAny_loadPart' ax,wpAny_loadPart' aa,ad2 _ (λrest b s'=>b.1=none/\s'=⟨au,g,d,tk,os⟩/\∃(af ws:List Value)(qZ qV:List Int),rest=af.zip ws /\
   IntsAre af qZ/\IntsAre ws qV/\qZ.length+ib.size=qV.length+items.size/\R (.ok (.ret (.bool (lexLt qZ qV)))) ⟨au,g,d,tk,os⟩) _
  case turn =>
   rintro⟨y,x⟩ rest b s' ⟨gb,rfl,af,ws,qZ,qV,hz,AK,vX,hlen,hR⟩;cases AK with
   |nil=>rw[List.zip_nil_left]at hz;cases hz
   |cons a t RH =>
    cases vX with
    |nil=>rw[List.zip_nil_right]at hz;cases hz
    |cons c u RJ =>
     rw[List.zip_cons_cons]at hz;injection hz with tn kL;injection tn with aN ak;subst aN ak;rw[S2]at hR;simp only[List.length_cons]at hlen;obtain⟨e,he,FP⟩:=Om A.in1 ⟨au,g,d,tk,os⟩ a t c u;refine aa5 (he prog w _ _ ?_);cases e with
     |true =>
      rw[if_pos (FP.mp rfl)]at hR
      wp_walk
      exact⟨rfl,rfl,_,_,_,_,kL,RH,RJ,by omega,hR⟩
     |false =>
      rw[if_neg (λq=>absurd (FP.mpr q) acd)]at hR;have Rr:=VO A.in1 ⟨au,g,d,tk,os⟩ a t c u prog w
      wp_walk using Rr
      exact⟨_,rfl,by simpa using hR⟩
  case fin =>
   rintro⟨b1,b2⟩ s' ⟨gb,rfl,af,ws,qZ,qV,hz,AK,vX,hlen,hR⟩;simp only at gb;subst gb;have aI:lexLt qZ qV=decide (items.size<ib.size):=by
    cases AK with
    |nil =>
     cases vX with
     |nil =>
      simp only[List.length_nil]at hlen;rw[S5];exact(decide_eq_false (by omega)).symm
     |cons c u hw =>
      simp only[List.length_nil,List.length_cons]at hlen;rw[S4];exact(decide_eq_true (by omega)).symm
    |cons a t aI =>
     cases vX with
     |nil =>
      simp only[List.length_nil,List.length_cons]at hlen;rw[S3];exact(decide_eq_false (by omega)).symm
     |cons c u hw =>
      rw[List.zip_cons_cons]at hz;cases hz
   rw[aI]at hR
   wp_walk
   exact⟨_,rfl,by simpa[Builtin.Tuple.tupleCompareSizes] using hR⟩
  case h =>
   exact⟨rfl,rfl,items.toList,ib.toList,ns,ms,rfl,ai,aF,by omega,h⟩
end
section
variable{prog:Program}{w:World}{A:Around}{E:Value->Shared->Prop}{s:Shared}
def G1{l b:Addr}{items ib:Array Value}{ns ms:List Int}{Q:Value->Shared->Prop}(ax:IsTup s.heap l items)(aa:IsTup s.heap b ib)(ai:IntsAre items.toList ns)(aF:IntsAre ib.toList ms)(bc:A.units<cLine)(h:Q (.bool (lexLt ns ms)) s):wpAny (model prog w) A (compareOp .Lt (.ref l) (.ref b)) Q E s:=by
 obtain⟨⟨cls,dd,data,bF⟩,av,ag,n,hd⟩:=id ax;obtain⟨⟨ze,kv,data2,j8⟩,kJ,i2,d2,hd2⟩:=id aa;simp only at ag hd i2 hd2;subst ag hd i2 hd2;exact richCompare_meets_room (op:=.Lt) ⟨_,av,rfl⟩ ⟨_,kJ,rfl⟩ PySem.F.slot_tuple_lt PySem.F.entry_tuple_lt (PySem.F.args_tuple_lt_2 _ _) (Y4 l b items ib n d2 dd kv bF j8 ns ms ai aF)
  ⟨av,kJ,show Value.bool (lexLt ns ms)≠Value.notImplemented/\Q (.bool (lexLt ns ms)) s from⟨(λx=>nomatch x),h⟩⟩ bc
def Mi{t b:Addr}{af ws:List Value}{Q:Value->Shared->Prop}(ay:IsTup s.heap t af.toArray)(aa:IsTup s.heap b ws.toArray)(aI:af≠[])(J:ws=[]->Q (.ref t) s)(h2:ws≠[]->Q (.ref s.heap.objs.size) { s with heap:=s.heap.push { cls:=.type "tuple",data:=.seq (af++ws).toArray } })(hsz:af.length+ws.length<=sizeLine):wpAny (model prog w) A (binaryOp .Add (.ref t) (.ref b)) Q E s:=by
 obtain⟨⟨cls,dd,data,bF⟩,av,ag,n,hd⟩:=id ay;obtain⟨⟨ze,kv,data2,j8⟩,kJ,i2,d2,hd2⟩:=id aa;simp only at ag hd i2 hd2;subst ag hd i2 hd2;have e:af.toArray++ws.toArray=(af++ws).toArray:=by simp
 by_cases hw:ws=[]
 .exact aeN ⟨_,av,rfl⟩ ⟨_,kJ,rfl⟩ aeF seq_tuple_add adM adJ (adB _ _)
   (tuple_addW1 t b af.toArray ws.toArray n d2 dd kv bF j8 (by simpa using aI) (by simp[hw])) ⟨av,kJ,J hw⟩
 .refine aeN ⟨_,av,rfl⟩ ⟨_,kJ,rfl⟩ aeF seq_tuple_add adM adJ (adB _ _)
   (tuple_addW2 t b af.toArray ws.toArray n d2 dd kv bF j8 (by simpa using aI) (by simpa using hw) (by rw[abe,abe];exact hsz)) ⟨av,kJ,?_⟩
  rw[e];exact h2 hw
noncomputable def bN(n d:Nat):Option Int->Nat
 |none=>d
 |some v=>if v<0 then(v+(n:Int)).toNat else min v.toNat n
def w8(n d:Nat)(hd:d<=n)(o:Option Int):bN n d o<=n:=by
 cases o with
 |none=>exact hd
 |some v =>
  show(if v<0 then(v+(n:Int)).toNat else min v.toNat n)<=n
  by_cases aI:v<0
  .rw[if_pos aI];omega
  .rw[if_neg aI];exact Nat.min_le_right _ _
def DW(v:Int)(n d:Nat):(if v<0 then max (v+(n:Int)) 0 else min v (n:Int))=((bN n d (some v):Nat):Int):=by
 show(if v<0 then max (v+(n:Int)) 0 else min v (n:Int))=(((if v<0 then(v+(n:Int)).toNat else min v.toNat n):Nat):Int)
 by_cases aI:v<0
 .simp only[if_pos aI];omega
 .simp only[if_neg aI];omega
def K5(lo ai:Option Int)(n:Nat):Builtin.Slice.sliceAdjust lo ai 1 (n:Int)=(((bN n 0 lo:Nat):Int),((bN n n ai:Nat):Int)):=by
 have J:¬((1:Int)<0):=by omega
 unfold Builtin.Slice.sliceAdjust;simp only[J,abw];refine Prod.ext ?_ ?_
 .cases lo with
  |none=>rfl
  |some v=>exact DW v n 0
 .cases ai with
  |none=>rfl
  |some v=>exact DW v n n
def Va(i j:Nat):Builtin.Slice.slicePlaces (i:Int) (j:Int) 1=j-i:=by
 unfold Builtin.Slice.slicePlaces;have J:(1:Int)>0:=by omega
 simp only[J,abY,Int.ediv_one]
 split<;>omega
def Jl{v:Value}{o:Option Int}{Q:Option Int->Shared->Prop}(p:IsPart v o)(h:Q o s):wpAny (model prog w) A (Builtin.Slice.slicePartIndex v) Q E s:=by
 cases p with
 |none=>exact slicePart_none h
 |int i t=>exact slicePart_int h
def Jk{bF:Addr}{fM fN:Value}{lo ai:Option Int}{n:Nat}{Q:Int×Int×Nat->Shared->Prop}(ae:s.heap.IsSliceOf bF fM fN .none)(b0:IsPart fM lo)(pu:IsPart fN ai)(h:Q (((bN n 0 lo:Nat):Int),1,bN n n ai-bN n 0 lo) s):wpAny (model prog w) A (Builtin.Slice.sliceApplied (.ref bF) (pure (n:Int))) Q E s:=by
 obtain⟨os,o1,h6,kI⟩:=id ae;unfold Builtin.Slice.sliceApplied Builtin.Slice.sliceFields;refine aa5 (aa5 (acC o1 kI (x:=fM) rfl (aa5 (acC o1 kI (x:=fN) rfl (aa5 (acC o1 kI (x:=.none) rfl (aa7 ?_)))))));refine aa5 (slicePart_none ?_);show wpAny _ _ (if ((1:Int)==0)=true then _ else _) _ _ s;rw[if_neg (by decide)];refine aa5 (Jl b0 (aa5 (Jl pu (aa5 (aa7 ?_)))));show wpAny _ _ (match Builtin.Slice.sliceAdjust lo ai 1 (n:Int) with|(lo,ai)=>pure (lo,(1:Int),Builtin.Slice.slicePlaces lo ai 1)) _ _ s;rw[K5 lo ai n];show wpAny _ _ (pure (((bN n 0 lo:Nat):Int),(1:Int),Builtin.Slice.slicePlaces ((bN n 0 lo:Nat):Int) ((bN n n ai:Nat):Int) 1)) _ _ s;rw[Va];exact aa7 h
def U8(xs:Array Value)(i k:Nat):((List.range k).filterMap λ(m:Nat)=>xs[((i:Int)+(m:Int)*1).toNat]?).toArray=((xs.toList.drop i).take k).toArray:=by
 have e:(λ(m:Nat)=>xs[((i:Int)+(m:Int)*1).toNat]?)=λm=>xs[i+m]?:=by
  funext m;have:((i:Int)+(m:Int)*1).toNat=i+m:=(by omega);rw[this]
 rw[e];have:=pick_run xs i k;rw[List.filterMap_map]at this;have e2:((λx=>xs[x]?) ∘ λx=>i+x)=λm=>xs[i+m]?:=rfl
 rw[e2]at this;rw[this]
def P5{t bF:Addr}{items:Array Value}{fM fN:Value}{lo ai:Option Int}{Q:Value->Shared->Prop}(ay:IsTup s.heap t items)(ae:s.heap.IsSliceOf bF fM fN .none)(b0:IsPart fM lo)(pu:IsPart fN ai)(hw:¬(bN items.size 0 lo=0/\bN items.size items.size ai=items.size))(h:Q (.ref s.heap.objs.size) { s with heap:=s.heap.push { cls:=.type "tuple",data:=.seq ((items.toList.drop (bN items.size 0 lo)).take (bN items.size items.size ai-bN items.size 0 lo)).toArray } })(hsz:items.size<=sizeLine):wpAny (model prog w) A (getItem (.ref t) (.ref bF)) Q E s:=by
 have vV:sizeOk (.seq ((items.toList.drop (bN items.size 0 lo)).take (bN items.size items.size ai-bN items.size 0 lo)).toArray):=by
  show((items.toList.drop (bN items.size 0 lo)).take (bN items.size items.size ai-bN items.size 0 lo)).toArray.size<=sizeLine;rw[abe,acL,acM,Array.length_toList];omega
 have aF:bN items.size items.size ai<=items.size:=w8 _ _ (abb _) ai;obtain⟨os,o1,h6,kI⟩:=id ae;have z3:s.TypeIs (.ref bF) "slice":=⟨os,o1,h6⟩;unfold getItem
 try with_reducible refine acf ?_
 first|refine aa5 (aa7 ?_)|skip
 refine aa5 (wpAny_sequenceKey ay.typeIs (by decide) ?_);refine aa5 (acb (name:=Str.ofString "__getitem__") ay.typeIs abX
  (ab5 abX ay.typeIs entry_tuple_getitem ?_ (args_tuple_getitem _ _)))
 show wpAny _ _ (Builtin.Tuple.tupleItemsOf (.ref t)>>=_) _ _ s;refine aa5 (tupleItemsOf_ ay ?_);refine aa5 (ac7 z3 ?_);rw[if_pos (by decide)];refine aa5 (Jk ae b0 pu ?_);have i6:¬((((bN items.size 0 lo:Nat):Int)==0&&(1:Int)==1&&(bN items.size items.size ai-bN items.size 0 lo)==items.size)=true):=by
  intro q;rw[aa6,aa6]at q;have aM:((bN items.size 0 lo:Nat):Int)=0:=eq_of_beq q.1.1;have a7:bN items.size items.size ai-bN items.size 0 lo=items.size:=eq_of_beq q.2;exact hw ⟨by omega,by omega⟩
 show wpAny _ _ (if (((bN items.size 0 lo:Nat):Int)==0&&(1:Int)==1&&(bN items.size items.size ai-bN items.size 0 lo)==items.size)=true then _ else _) _ _ s;rw[if_neg i6,U8]
 first
  |exact aa5 (m:=Builtin.Tuple.tupleExact _) (abE (aa7 ⟨_,rfl,aa7 h⟩) vV)
  |exact aa5 (m:=Builtin.Tuple.tupleExact _) (abE (aa5 (aa7 (aa7 ⟨_,rfl,aa7 h⟩))) vV)
  |exact aa5 (aa5 (m:=Builtin.Tuple.tupleExact _) (abE (aa7 (aa7 ⟨_,rfl,aa7 h⟩)) vV))
  |exact aa5 (aa5 (m:=Builtin.Tuple.tupleExact _) (abE (aa7 ⟨_,rfl,aa7 h⟩) vV))
end
end c2
namespace bu
open PySem PySem.Spec PyProof.Rows
noncomputable abbrev p6:=St->aB->(Option Int->aB->Prop)->Prop
def kl(X:aU)(e:Option Expr)(t:p6):Prop :=
 ∀(pins:List (Addr×Obj))(s:Shared)(σ:St)(H:aB)(Q:Option Int->aB->Prop),Inv X pins σ H s->t σ H Q ->
  wpAny (model X.prog X.w) X.A (evalPart e X.env) (λu s'=>∃o ao,Inv X pins σ ao s'/\IsPart u o/\Q o ao) X.b9 s
noncomputable def Yc:p6:=λ_ H Q=>Q none H
noncomputable def Yf(t:TE):p6:=λσ H Q=>t σ H λx H1=>∃i,x=.int i/\Q (some i) H1
def intsAre_of{ns:List Int}:∀{us:List Value},Vals (ns.map V.int) us->IntsAre us ns:=by
 induction ns with
 |nil=>intro us r;rw[ac8]at r;cases r;exact .nil
 |cons n ns aD =>
  intro us r;rw[List.map_cons]at r;cases r with
  |cons aH aX =>
   obtain⟨t,e⟩:=aH;subst e;exact .cons n t (aD aX)
section
variable{X:aU}{e:Expr}{eM:TE}{lo ai:Option Expr}{iM xo:p6}{pos p2:Pos}
def Vd:kl X none Yc:=by
 intro pins s σ H Q I h;rw[evalPart_none];exact aa7 ⟨none,H,I,.none,h⟩
def Ve(h:aO X e eM):kl X (some e) (Yf eM):=by
 intro pins s σ H Q I hw;rw[evalPart_some];refine bR (h pins s σ H _ I hw) λu s1 ⟨x,H1,aY,aH,aM⟩=>?_
 obtain⟨i,rfl,q⟩:=aM;obtain⟨t,rfl⟩:=aH;exact⟨some i,H1,aY,.int i t,q⟩
def rP(X:aU)(r:V->Option Int->Option Int->aB->dn->Prop):Prop :=
 ∀(pins:List (Addr×Obj))(s:Shared)(σ:St)(H:aB)(x:V)(v fM fN:Value)(lo ai:Option Int)(bF:Addr)(Q:dn),Inv X pins σ H s->RelV x v->s.heap.IsSliceOf bF fM fN .none->IsPart fM lo->IsPart fN ai->r x lo ai H Q ->
  ∃T id,typeLookup (.type T) "__getitem__"=pure (some (.builtin id))/\s.TypeIs v T/\wpAny (model X.prog X.w) X.A (getItem v (.ref bF)) (eN X pins σ Q) X.b9 s
noncomputable def Yi(r:V->Option Int->Option Int->aB->dn->Prop)(eM:TE)(iM xo:p6):TE:=λσ H Q=>eM σ H λx H1=>iM σ H1 λl aR=>xo σ aR λu bj=>r x l u bj Q
def UR{r:V->Option Int->Option Int->aB->dn->Prop}(aV:rP X r)(he:aO X e eM)(ax:kl X lo iM)(bc:kl X ai xo):aO X (.Subscript e (.Slice lo ai none p2) pos) (Yi r eM iM xo):=by
 intro pins s σ H Q I h;refine Subscript_ (bR (he pins s σ H _ I h) λv s1 ⟨x,H1,aY,aH,aM⟩=>?_);refine wpAny_Slice (bR (ax pins s1 σ H1 _ aY aM) λfM s2 ⟨l,aR,cb,b0,a7⟩=>bR (bc pins s2 σ aR _ cb a7) λfN s3 ⟨u,bj,er,pu,bU⟩=>?_);rw[evalPart_none];refine aa7 ?_;have gn:Inv X pins σ bj { s3 with heap:=s3.heap.push { cls:=.type "slice",data:=.fields #[fM,fN,.none] } }:=er.kept (t':=s3.toks) λb bP q=>aa8 _ q
 obtain⟨T,id,cu,ay,aQ⟩:=aV pins { s3 with heap:=s3.heap.push { cls:=.type "slice",data:=.fields #[fM,fN,.none] } } σ bj x v fM fN l u s3.heap.objs.size Q gn aH (Heap.IsSliceOf.new ..) b0 pu bU;show wpAny (model X.prog X.w) X.A (subscriptTail e (.Slice lo ai none p2) v (.ref s3.heap.objs.size)) (eN X pins σ Q) X.b9 { s3 with heap:=s3.heap.push { cls:=.type "slice",data:=.fields #[fM,fN,.none] } };exact tail_any (ops:=[.ref s3.heap.objs.size,v]) ay cu aQ (by with_unfolding_all rfl)
noncomputable def lD(xs:List V)(lo ai:Option Int):List V:=(xs.drop (c2.bN xs.length 0 lo)).take (c2.bN xs.length xs.length ai-c2.bN xs.length 0 lo)
def D5(xs:List V)(lo ai:Option Int):(lD xs lo ai).length<=xs.length:=by
 unfold lD;rw[acL,acM];omega
noncomputable def VL(K:W.Frag):V->Option Int->Option Int->aB->dn->Prop:=λx lo ai H Q=>∃a xs,x=.ref a/\fq K H a xs /\
 ¬(c2.bN xs.length 0 lo=0/\c2.bN xs.length xs.length ai=xs.length)/\∀p,H p=none->Q (.ref p) (upd H p (.tup (lD xs lo ai)))
def Xu:rP X (VL X.K):=by
 intro pins s σ H x v fM fN lo ai bF Q I bf ae b0 pu h;obtain⟨a,xs,rfl,ak,hw,q⟩:=h;cases bf;obtain⟨its,r,ay,hz⟩:=I.tuple ak;have hlen:its.toArray.size=xs.length:=by rw[abe];exact r.length.symm
 refine⟨"tuple",_,abX.lookup,ay.typeIs,?_⟩;refine c2.P5 ay ae b0 pu (by rw[hlen];exact hw) ?_ (by rw[hlen];exact hz);rw[hlen];refine⟨.ref s.heap.objs.size,_,I.laid (t':=s.toks) (o:=.tup (lD xs lo ai)) (λb bP q=>aa8 _ q) (abb _) ?_,rfl,q _ (I.bz.fresh (abb _))⟩;exact⟨ab2 (D5 xs lo ai) hz,_,(r.drop (c2.bN xs.length 0 lo)).take (c2.bN xs.length xs.length ai-c2.bN xs.length 0 lo),IsTup.new _ _⟩
noncomputable def VH(K:W.Frag):hh:=λx y H Q=>∃a b ns ms,x=.ref a/\y=.ref b/\fq K H a (ns.map V.int)/\fq K H b (ms.map V.int)/\Q (.aP (c2.lexLt ns ms)) H
def Up(bc:X.A.units<cLine):d0 X (compareOp .Lt) (VH X.K):=by
 intro pins s σ H x y v u Q I bf bL h;obtain⟨a,b,ns,ms,rfl,rfl,aA,aa,q⟩:=h;cases bf;cases bL;obtain⟨its,aH,p1,_⟩:=I.tuple aA;obtain⟨ho,aX,p2,_⟩:=I.tuple aa;have eR:IntsAre its.toArray.toList ns:=intsAre_of aH;have gO:IntsAre ho.toArray.toList ms:=intsAre_of aX;exact c2.G1 p1 p2 eR gO bc ⟨.aP (c2.lexLt ns ms),H,I,rfl,q⟩
end
end bu
namespace bu
open PySem PySem.Spec PyProof.Rows
noncomputable def hM(n:Nat)(i:Int):Option Nat:=if 0<=i then(if i<n then some i.toNat else none) else if -(n:Int)<=i then some (i+n).toNat else none
def ox{α:Type}(xs:List α)(i:Int):Option α:=(hM xs.length i).bind λj=>xs[j]?
def Gs{n:Nat}{i:Int}{j:Nat}(h:hM n i=some j):seqIndex? i n=some j/\j<n/\-(n:Int)<=i/\i<n:=by
 unfold hM at h
 by_cases h0:0<=i
 .rw[if_pos h0]at h
  by_cases J:i<n
  .rw[if_pos J]at h;have e:i.toNat=j:=abI h;exact⟨by rw[seqIndex_of h0 J,e],by omega,by omega,J⟩
  .rw[if_neg J]at h;cases h
 .rw[if_neg h0]at h
  by_cases J:-(n:Int)<=i
  .rw[if_pos J]at h;have e:(i+n).toNat=j:=abI h;exact⟨by rw[seqIndex_neg (by omega) J,e],by omega,J,by omega⟩
  .rw[if_neg J]at h;cases h
def yg{α:Type}{xs:List α}{i:Int}{v:α}(h:ox xs i=some v):∃j,seqIndex? i xs.length=some j/\xs[j]?=some v/\j<xs.length/\-(xs.length:Int)<=i/\i<xs.length:=by
 unfold ox at h;cases e:hM xs.length i with
 |none=>rw[e]at h;cases h
 |some j =>
  rw[e]at h;obtain⟨J,h2,h3,h4⟩:=Gs e;exact⟨j,J,h,h2,h3,h4⟩
def x6(b:Expr):Prop:=∀o i,subscripted b false o i=operate [o,i] (getItem o i)
def lx(X:aU)(r:hh):Prop :=
 ∀(value slice:Expr)(pins:List (Addr×Obj))(s:Shared)(σ:St)(H:aB)(x y:V)(v u:Value)(Q:dn),Inv X pins σ H s->RelV x v->RelV y u->r x y H Q ->
  subscripted slice false v u=operate [v,u] (getItem v u)->wpAny (model X.prog X.w) X.A (subscriptTail value slice v u) (eN X pins σ Q) X.b9 s
def C2(X:aU)(id:String)(r:V->List V->aB->dn->Prop):Prop :=
 ∀(pins:List (Addr×Obj))(s:Shared)(σ:St)(H:aB)(x:V)(xs:List V)(v:Value)(us:List Value)(Q:dn),Inv X pins σ H s->RelV x v->Vals xs us->r x xs H Q ->
  wpAny (model X.prog X.w) X.A (call (.builtin id) (v::us)) (eN X pins σ Q) X.b9 s
section
variable{X:aU}{a b:Expr}{dt du:TE}{pos:Pos}
def lx.or{r b3:hh}(h:lx X r)(h':lx X b3):lx X (λx y H Q=>r x y H Q\/b3 x y H Q):=by
 intro value slice pins s σ H x y v u Q I bf bL q ae;rcases q with q|q
 .exact h value slice pins s σ H x y v u Q I bf bL q ae
 .exact h' value slice pins s σ H x y v u Q I bf bL q ae
def UP{r:hh}(aV:lx X r)(aA:aO X a dt)(aa:aO X b du)(ae:x6 b):aO X (.Subscript a b pos) (uv r dt du):=by
 intro pins s σ H Q I h;exact Subscript_ (yX aA aa I h λv u s2 x y aR cb bf bL q=>aV a b pins s2 σ aR x y v u Q cb bf bL q (ae _ _))
noncomputable def Ie(K:W.Frag):hh:=λx y H Q=>∃p xs i v,x=.ref p/\y=.int i/\d1 K H p xs/\ox xs i=some v/\Q v H
noncomputable def Ih(K:W.Frag):hh:=λx y H Q=>∃p xs i v,x=.ref p/\y=.int i/\fq K H p xs/\ox xs i=some v/\Q v H
noncomputable def Ig:hh:=λx y H Q=>∃z i c,x=.str z/\y=.int i/\z.length<=sizeLine/\ox z.cps.toList i=some c/\Q (.str ⟨#[c]⟩) H
def Sj:lx X (Ie X.K):=by
 intro value slice pins s σ H x y v u Q I bf bL h ae;obtain⟨p,xs,i,z,rfl,rfl,aE,he,q⟩:=h;cases bf;obtain⟨t,rfl⟩:=bL;obtain⟨its,r,b0,hz⟩:=I.list aE;obtain⟨j,J,h2,h3,h4,h5⟩:=yg he;obtain⟨w,vt,iq⟩:=r.get h2;have ax:=r.length;have az:=tI;have fin:eN X pins σ Q w s:=⟨z,H,I,iq,q⟩
 by_cases h0:0<=i
 .have aF:i.toNat=j:=by
   rw[seqIndex_of h0 h5]at J;exact abI J
  exact item_listR b0.isList h0 (by omega) (by rw[aF];simpa using vt) fin ae
 .have aF:(i+(its.toArray.size:Int)).toNat=j:=by
   rw[seqIndex_neg (by omega) h4]at J;rw[abe,<- ax];exact abI J
  exact subscriptTail_builtinR (x:=w) b0.isList.typeIs slot_list_getitem.lookup
   (wpAny_getItem_list_neg (Q:=λr s'=>r=w/\eN X pins σ Q r s') b0.isList (by omega) (by rw[abe]<;>omega) (by omega) (by rw[aF];simpa using vt) ⟨rfl,fin⟩) ae
def Sn:lx X (Ih X.K):=by
 intro value slice pins s σ H x y v u Q I bf bL h ae;obtain⟨p,xs,i,z,rfl,rfl,aE,he,q⟩:=h;cases bf;obtain⟨t,rfl⟩:=bL;obtain⟨its,r,b0,hz⟩:=I.tuple aE;obtain⟨j,J,h2,h3,h4,h5⟩:=yg he;obtain⟨w,vt,iq⟩:=r.get h2;have ax:=r.length;have az:=tI;have fin:eN X pins σ Q w s:=⟨z,H,I,iq,q⟩;exact subscriptTail_builtinR (x:=w) b0.typeIs slot_tuple_getitem.lookup
  (getItem_tuple (j:=j) (Q:=λr s'=>r=w/\eN X pins σ Q r s') b0 (by omega) (by omega) (by rw[abe,<- ax];exact J) (by simpa using vt) ⟨rfl,fin⟩) ae
def Sm:lx X Ig:=by
 intro value slice pins s σ H x y v u Q I bf bL h ae;obtain⟨z,i,c,rfl,rfl,hz,he,q⟩:=h;obtain⟨t,rfl⟩:=bf;obtain⟨t',rfl⟩:=bL;obtain⟨j,J,h2,h3,h4,h5⟩:=yg he;have ax:z.cps.toList.length=z.length:=by simp[Str.length]
 rw[ax]at J h4 h5;have az:=tI;exact tail_any (typeIs_str s z t) slot_str_getitem.lookup (getItem_str (c:=c) (by
  have e1:decide (i < -(2 ^ 63:Int))=false:=decide_eq_false (by omega);have e2:decide (i>=2 ^ 63)=false:=decide_eq_false (by omega);rw[e1,e2,Bool.or_false]) (by rw[J];simpa using h2) ⟨.str ⟨#[c]⟩,H,I.tok _,⟨_,rfl⟩,q⟩) ae
noncomputable def VG(K:W.Frag):hh:=λx y H Q=>Ie K x y H Q\/Ih K x y H Q\/Ig x y H Q
def Sl:lx X (VG X.K):=Sj.or (Sn.or Sm)
def Ti(its:List Value)(n j:Nat)(u:Value):Obj.mapSeq (·.setIfInBounds j u) { cls:=.type "list",data:=.seq its.toArray n }={ cls:=.type "list",data:=.seq (its.set j u).toArray n }:=by
 simp[Obj.mapSeq]
theorem Inv.lst{pins:List (Addr×Obj)}{σ:St}{H:aB}{s:Shared}{p:Addr}{xs:List V}(I:Inv X pins σ H s)(h:H p=some (.lst xs)):
  ∃(its:List Value)(n:Nat),Vals xs its/\s.heap.get? p=some { cls:=.type "list",data:=.seq its.toArray n }/\xs.length<=sizeLine:=by
 obtain⟨z,its,n,r,e⟩:=I.bz p _ h;exact⟨its,n,r,e,z⟩
def Inv.Td{pins:List (Addr×Obj)}{σ:St}{H:aB}{s:Shared}{p:Addr}{xs ys:List V}{its its':List Value}{n b7:Nat}{f:Obj->Obj}(I:Inv X pins σ H s)(h:H p=some (.lst xs))(av:s.heap.get? p=some { cls:=.type "list",data:=.seq its.toArray n })(hf:f { cls:=.type "list",data:=.seq its.toArray n }={ cls:=.type "list",data:=.seq its'.toArray b7 })(r:Vals ys its')(hz:ys.length<=sizeLine)(t:Nat):
  Inv X pins σ (upd H p (.lst ys)) { s with heap:=s.heap.update p f,toks:=t }:=by
 have e:(s.heap.update p f).get? p=some { cls:=.type "list",data:=.seq its'.toArray b7 }:=by
  rw[abA f av (by rw[hf]<;>rfl),hf]
 refine I.write (x:=p) (e:=p) (by rw[h];trivial) (.inl rfl) (λb u aa q=>(abu _ _ (abW aa)).trans q) ⟨_,e⟩ ?_;exact⟨hz,its',b7,r,e⟩
noncomputable def VI:V->V->V->aB->(aB->Prop)->Prop:=λo i v H Q=>∃p xs k j,o=.ref p/\i=.int k/\H p=some (.lst xs)/\hM xs.length k=some j/\Q (upd H p (.lst (xs.set j v)))
def set_list:KX X VI:=by
 intro pins s σ H o i v mc kO u Q I V7 BY bI h;obtain⟨p,xs,k,j,rfl,rfl,au,aF,q⟩:=h;cases V7;obtain⟨t,rfl⟩:=BY;obtain⟨its,n,r,av,hz⟩:=I.lst au;obtain⟨J,h2,h3,h4⟩:=Gs aF;have ax:=r.length;have az:=tI;have d8:Inv X pins σ (upd H p (.lst (xs.set j v))) { s with heap:=s.heap.update p (Obj.mapSeq (·.setIfInBounds j u)) } :=
  I.Td au av (Ti its n j u) (r.set bI j) (by rw[acH];exact hz) s.toks
 by_cases h0:0<=k
 .have aw:k.toNat=j:=by
   rw[seqIndex_of h0 h4]at J;exact abI J
  exact PySem.W.ki_setAt av h0 (by omega) (by rw[abe,<- ax];exact h4) (by rw[aw];exact⟨_,d8,q⟩)
 .have aw:(k+(its.toArray.size:Int)).toNat=j:=by
   rw[seqIndex_neg (by omega) h3]at J;rw[abe,<- ax];exact abI J
  exact PySem.W.ki_setBack av (by omega) (by rw[abe,<- ax];exact h3) (by omega) (by rw[aw];exact⟨_,d8,q⟩)
def Xw(lo ai:Option Int)(n:Nat):(sliceBounds lo ai none n).1=((c2.bN n 0 lo:Nat):Int)/\(sliceBounds lo ai none n).2.1=((c2.bN n n ai:Nat):Int)/\(sliceBounds lo ai none n).2.2=1:=by
 refine⟨?_,?_,rfl⟩
 .cases lo with
  |none=>simp[sliceBounds,c2.bN]
  |some i =>
   simp only[sliceBounds,c2.bN,Option.getD_none,show(1:Int)>0 by decide,abY]
   by_cases h:i<0
   .simp only[h,abY]<;>omega
   .simp only[h,abw]<;>omega
 .cases ai with
  |none=>simp[sliceBounds,c2.bN]
  |some i =>
   simp only[sliceBounds,c2.bN,Option.getD_none,show(1:Int)>0 by decide,abY]
   by_cases h:i<0
   .simp only[h,abY]<;>omega
   .simp only[h,abw]<;>omega
def Xv(its:List Value)(lo ai:Option Int):slicePick its.toArray lo ai none=((its.drop (c2.bN its.length 0 lo)).take (c2.bN its.length its.length ai-c2.bN its.length 0 lo)).toArray:=by
 obtain⟨J,h2,h3⟩:=Xw lo ai its.toArray.size;unfold slicePick;rw[J,h2,h3];simp only[sliceRange_one,pick_run,abe]<;>rfl
noncomputable def VK(K:W.Frag):V->Option Int->Option Int->aB->dn->Prop:=λx lo ai H Q=>∃a xs,x=.ref a/\d1 K H a xs/\∀p,H p=none->Q (.ref p) (upd H p (.lst (lD xs lo ai)))
def Xs:rP X (VK X.K):=by
 intro pins s σ H x v fM fN lo ai bF Q I bf ae b0 pu h;obtain⟨a,xs,rfl,ak,q⟩:=h;cases bf;obtain⟨its,r,ay,hz⟩:=I.list ak;have hlen:=r.length;refine⟨"list",_,slot_list_getitem.lookup,ay.isList.typeIs,?_⟩;refine wpAny_getItem_list_slice ay.isList ae b0 pu .none (by simp) ?_ (by rw[abe]<;>omega);rw[Xv,<- hlen];refine⟨.ref s.heap.objs.size,_,I.laid (t':=s.toks) (o:=.lst (lD xs lo ai)) (λb bP q=>aa8 _ q) (abb _) ?_,rfl,q _ (I.bz.fresh (abb _))⟩;exact⟨ab2 (D5 xs lo ai) hz,_,0,(r.drop (c2.bN xs.length 0 lo)).take (c2.bN xs.length xs.length ai-c2.bN xs.length 0 lo),abf _ rfl⟩
def DG:gS X (.builtin "len") (λxs H Q=>∃p ys,xs=[.ref p]/\(d1 X.K H p ys\/fq X.K H p ys)/\Q (.int ys.length) H):=by
 intro pins s σ H xs us Q I r h;obtain⟨p,ys,rfl,aE,q⟩:=h;obtain⟨u,rfl,bf⟩:=vals1 r;cases bf;have az:=tI;rcases aE with aE|aE
 .obtain⟨its,b3,b0,hz⟩:=I.list aE;have hlen:=b3.length;exact Calls.call_len_list b0.isList (by simp only[abe]<;>omega) ⟨.int ys.length,H,I.tok _,⟨s.toks+1,by rw[abe,hlen]⟩,q⟩
 .obtain⟨its,b3,b0,hz⟩:=I.tuple aE;have hlen:=b3.length;exact len_tuple b0 (by simp only[abe]<;>omega) ⟨.int ys.length,H,I.tok _,⟨s.toks+1,by rw[abe,hlen]⟩,q⟩
def DH:gS X (.type "list") (λxs H Q=>∃p ys,xs=[.ref p]/\(d1 X.K H p ys\/fq X.K H p ys)/\∀l,H l=none->Q (.ref l) (upd H l (.lst ys))):=by
 intro pins s σ H xs us Q I r h;obtain⟨p,ys,rfl,aE,q⟩:=h;obtain⟨u,rfl,bf⟩:=vals1 r;cases bf;have fin:∀(its:List Value),Vals ys its->ys.length<=sizeLine->∀(h':Heap)(cW:Nat),(∀b bJ,s.heap.get? b=some bJ->h'.get? b=some bJ) ->
   h'.get? s.heap.objs.size=some { cls:=.type "list",dict:=none,data:=.seq its.toArray cW,slots:=#[] }->eN X pins σ Q (.ref s.heap.objs.size) { s with heap:=h' }:=λits b3 hz h' cW gP e =>
  ⟨.ref s.heap.objs.size,_,I.laid (t':=s.toks) gP (abb _) (show dX X.prog X.w _ h' _ (.lst ys) from⟨hz,its,cW,b3,e⟩),rfl,q _ (I.bz.fresh (abb _))⟩
 rcases aE with aE|aE
 .obtain⟨its,b3,b0,hz⟩:=I.list aE;have hlen:=b3.length;obtain⟨o,av,ag,n,hd⟩:=b0.isList;exact call_list_seq p (.inl rfl) av ag hd (λh' cW gP e=>fin its b3 hz h' cW gP e) (by simp only[abe]<;>omega)
 .obtain⟨its,b3,b0,hz⟩:=I.tuple aE;have hlen:=b3.length;obtain⟨o,av,ag,n,hd⟩:=b0;exact call_list_seq p (.inr rfl) av ag hd (λh' cW gP e=>fin its b3 hz h' cW gP e) (by simp only[abe]<;>omega)
def DJ:gS X (.type "tuple") (λxs H Q=>∃p ys,xs=[.ref p]/\((d1 X.K H p ys/\∀l,H l=none->Q (.ref l) (upd H l (.tup ys)))\/(fq X.K H p ys/\Q (.ref p) H))):=by
 intro pins s σ H xs us Q I r h;obtain⟨p,ys,rfl,h⟩:=h;obtain⟨u,rfl,bf⟩:=vals1 r;cases bf;rcases h with⟨aE,q⟩|⟨aE,q⟩
 .obtain⟨its,b3,b0,hz⟩:=I.list aE;have hlen:=b3.length;refine call_tuple_list b0.isList (λh' gP=>?_) (by simp only[abe]<;>omega);have aY:Inv X pins σ H { s with heap:=h' }:=I.kept (t':=s.toks) gP;have cb:Inv X pins σ (upd H h'.objs.size (.tup ys)) { s with heap:=h'.push { cls:=.type "tuple",data:=.seq its.toArray } } :=
   aY.laid (t':=s.toks) (λb o e=>aa8 _ e) (abb _) (show dX X.prog X.w _ _ _ (.tup ys) from⟨hz,its,b3,IsTup.new _ _⟩)
  exact⟨.ref h'.objs.size,_,cb,rfl,q _ (aY.bz.fresh (abb _))⟩
 .obtain⟨its,b3,b0,hz⟩:=I.tuple aE;exact call_tuple_same b0 ⟨.ref p,H,I,rfl,q⟩
def Cz(K:W.Frag)(T:String)(x:V)(H:aB):Prop:=match x with
 |.str _=>T="str"
 |.int _=>T="int"
 |.ref p=>(T="list"/\∃xs,d1 K H p xs)\/(T="tuple"/\∃o,K.lookup p=some o/\o.cls=.type "tuple"/\o.dict=none) \/
   (T="dict"/\((∃ah,H p=some (.dQ ah))\/∃ah,H p=some (.da ah)))\/(T="set"/\∃S n,H p=some (.set S n))
 |_=>False
def Ka{pins:List (Addr×Obj)}{σ:St}{H:aB}{s:Shared}{T:String}{x:V}{v:Value}(I:Inv X pins σ H s)(r:RelV x v)(ty:Cz X.K T x H):
  s.TypeIs v T/\∀a,v=.ref a->∃bP,s.heap.get? a=some bP/\bP.dict=none:=by
 cases x with
 |str z =>
  obtain⟨t,rfl⟩:=r;cases (show T="str" from ty);exact⟨typeIs_str s z t,λ_ e=>nomatch e⟩
 |int i =>
  obtain⟨t,rfl⟩:=r;cases (show T="int" from ty);exact⟨typeIs_int s i t,λ_ e=>nomatch e⟩
 |ref p =>
  cases r;rcases ty with⟨rfl,xs,aE⟩|⟨rfl,o,aw,ag,hd⟩|⟨rfl,aw⟩|⟨rfl,S,n,aw⟩
  .obtain⟨its,_,b0,_⟩:=I.list aE;refine⟨b0.isList.typeIs,λa e=>?_⟩;cases e;obtain⟨o,n,e,c,hd,_⟩:=b0;exact⟨o,e,hd⟩
  .refine⟨⟨o,I.o6 p o aw,ag⟩,λa e=>?_⟩;cases e;exact⟨o,I.o6 _ o aw,hd⟩
  .have z:∃o,s.heap.get? p=some o/\o.ExactDict:=by
    rcases aw with⟨ah,aw⟩|⟨ah,aw⟩
    .obtain⟨_,_,_,_,o,_,_,e,ex,_⟩:=I.bz p _ aw;exact⟨o,e,ex⟩
    .obtain⟨_,_,_,_,o,_,_,e,ex,_⟩:=I.bz p _ aw;exact⟨o,e,ex⟩
   obtain⟨o,e,ex⟩:=z;refine⟨⟨o,e,ex.1⟩,λa e2=>?_⟩;cases e2;exact⟨o,e,ex.2.1⟩
  .obtain⟨o,_,_,_,e,ex,_⟩:=I.bz p _ aw;refine⟨⟨o,e,ex.1⟩,λa e2=>?_⟩;cases e2;exact⟨o,e,ex.2.1⟩
 |_=>exact False.elim ty
noncomputable def JG(K:W.Frag)(T:String)(r:V->List V->aB->dn->Prop)(to:TE):TE:=λσ H Q=>to σ H λx H1=>Cz K T x H1/\r x [] H1 Q
noncomputable def XZ(K:W.Frag)(T:String)(r:V->List V->aB->dn->Prop)(to:TE)(t:gX):TE:=λσ H Q=>to σ H λx H1=>Cz K T x H1/\t σ H1 λxs aR=>r x xs aR Q
variable{o e:Expr}{aj:List Expr}{to:TE}{t:gX}{name:Str}{apos e8:Pos}{T id:String}{r:V->List V->aB->dn->Prop}
def UI(wW:PlainAttrs T)(slot:Slot T name id)(jZ:typeOf (.builtin id)=pure (.type "method_descriptor"))(hm:C2 X id r)(av:aO X o to)(sR:attributeBase o name X.env (eval o X.env)=eval o X.env:=by rfl)(i4:(apos.endLine==e8.line)=true:=by rfl):aO X (.Call (.Attribute o name apos) [] [] e8) (JG X.K T r to):=by
 intro pins s σ H Q I h;refine wpAny_Call_method0_late sR i4 (bR (av pins s σ H _ I h) λv s1 ⟨x,H1,aY,aH,ty,aM⟩=>?_);obtain⟨J,h2⟩:=Ka aY aH ty;exact⟨T,id,wW,slot,jZ,J,h2,adN rfl (PySem.evalArgs_none (hm pins s1 σ H1 x [] v [] Q aY aH .nil aM))⟩
def By(wW:PlainAttrs T)(slot:Slot T name id)(jZ:typeOf (.builtin id)=pure (.type "method_descriptor"))(hm:C2 X id r)(av:aO X o to)(aA:fZ X (e::aj) t)(sR:attributeBase o name X.env (eval o X.env)=eval o X.env:=by rfl)(QA:((backTo e8 (starEach (e::aj) X.env)).all (λx=>!x.1)&&(backToKw e8 (keywordEach [] X.env)).all (λx=>x.1.isSome)
   && decide ((e::aj).length+([]:List Keyword).length+(if ([]:List Keyword).isEmpty then 0 else 1)<30))=true:=by rfl)(i4:(apos.endLine==e8.line)=true:=by rfl)(ae:starEach (e::aj) X.env=(false,eval e X.env)::starEach aj X.env:=by rfl)(Rn:(backTo e8 (starEach aj X.env)).any (·.1)=false:=by rfl):
  aO X (.Call (.Attribute o name apos) (e::aj) [] e8) (XZ X.K T r to t):=by
 intro pins s σ H Q I h;refine wpAny_Call_method_late sR QA i4 rfl (bR (av pins s σ H _ I h) λv s1 ⟨x,H1,aY,aH,ty,aM⟩=>?_);obtain⟨J,h2⟩:=Ka aY aH ty;refine⟨T,id,wW,slot,jZ,J,h2,?_⟩;have iA:=aA e8 pins s1 σ H1 _ aY aM;rw[ae]at iA ⊢;refine adN (by show(false||(backTo e8 (starEach aj X.env)).any (·.1))=false;rw[Rn]<;>rfl) (aeg ?_);exact bR iA λus s2 ⟨af,aR,cb,aX,a7⟩=>hm pins s2 σ aR x af v us Q cb aH aX a7
end
end bu
namespace bu
open PySem PySem.Spec PyProof.Rows
def uR(X:aU)(id:String)(r:V->List V->aB->dn->Prop):Prop :=
 ∀(pins:List (Addr×Obj))(s:Shared)(σ:St)(H:aB)(x:V)(xs:List V)(v:Value)(us:List Value)(Q:dn),Inv X pins σ H s->RelV x v->Vals xs us->r x xs H Q ->
  wpAny (model X.prog X.w) X.A (call (.builtin id) (v::us)) (eN X pins σ Q) X.b9 s
def Vals.one:∀{x:V}{us:List Value},Vals [x] us->∃u,us=[u]/\RelV x u
 |_,_,.cons r .nil=>⟨_,rfl,r⟩
def Vals.zero:∀{us:List Value},Vals [] us->us=[]
 |_,.nil=>rfl
theorem Vals.dropLast{xs:List V}{us:List Value}(h:Vals xs us):Vals xs.dropLast us.dropLast:=by
 induction h with
 |nil=>exact .nil
 |cons r t aD =>
  cases t with
  |nil=>exact .nil
  |cons q t'=>exact .cons r aD
def Ov{α:Type}(l:List α):l.eraseIdx (l.length-1)=l.dropLast:=by
 induction l with
 |nil=>rfl
 |cons a r aD =>
  cases r with
  |nil=>rfl
  |cons b r =>
   have e:(a::b::r).length-1=((b::r).length-1)+1:=by
    have J:(a::b::r).length=r.length+2:=rfl;have h2:(b::r).length=r.length+1:=rfl;omega
   rw[e,List.eraseIdx_cons_succ,aD]
   all_goals rfl
section
variable{X:aU}{pins:List (Addr×Obj)}{σ:St}{H:aB}{s:Shared}{l b:Addr}{xs ys zs:List V}
def Inv.Bb{its its':List Value}{n:Nat}{f:Array Value->Array Value}{t':Nat}(I:Inv X pins σ H s)(eH:H l=some (.lst xs))(e:s.heap.get? l=some { cls:=.type "list",data:=.seq its.toArray n })(hf:f its.toArray=its'.toArray)(aI:Vals ys its')(hz:ys.length<=sizeLine):
  Inv X pins σ (upd H l (.lst ys)) { s with heap:=s.heap.update l (Obj.mapSeq f),toks:=t' }:=by
 have q:=PySem.IsL.update e f;rw[hf]at q;refine I.write (x:=l) (e:=l) (by rw[eH];exact trivial) (.inl rfl) (λf7 u aa bc=>(abu s.heap (Obj.mapSeq f) (abW aa)).trans bc) ⟨_,q⟩ ?_;exact⟨hz,its',_,aI,q⟩
def Inv.GX{its:List Value}{t':Nat}(I:Inv X pins σ H s)(aI:Vals ys its)(hz:ys.length<=sizeLine):
  Inv X pins σ (upd H s.heap.objs.size (.lst ys)) { s with heap:=s.heap.push { cls:=.type "list",data:=.seq its.toArray },toks:=t' } :=
 I.laid (λ_ _ q=>aa8 _ q) (abb _) ⟨hz,its,0,aI,abf _ rfl⟩
theorem Inv.fresh(I:Inv X pins σ H s):H s.heap.objs.size=none:=I.bz.fresh (abb _)
def Inv.Bc(I:Inv X pins σ H s)(eH:H l=some (.lst xs)):xs.length<=sizeLine/\∃(its:List Value)(n:Nat),Vals xs its/\xs.length=its.length/\s.heap.get? l=some { cls:=.type "list",data:=.seq its.toArray n }:=by
 obtain⟨z,its,n,r,e⟩:=I.bz l _ eH;exact⟨z,its,n,r,r.length,e⟩
def TZ{n:Nat}(h:n<=sizeLine):Builtin.List.listTooLong n=false:=by
 unfold Builtin.List.listTooLong;exact decide_eq_false (by omega)
end
section
variable{X:aU}
noncomputable def VE:V->List V->aB->dn->Prop:=λx af H Q=>∃l xs y,x=.ref l/\af=[y]/\H l=some (.lst xs)/\xs.length<sizeLine/\Q .dT (upd H l (.lst (xs++[y])))
def Hg:uR X "list.append" VE:=by
 intro pins s σ H x af v us Q I bf bI h;obtain⟨l,xs,y,rfl,rfl,eH,hz,q⟩:=h;cases bf;obtain⟨u,rfl,cm⟩:=bI.one;obtain⟨z,its,n,r,ax,e⟩:=I.Bc eH;refine call_meets F.slot_list_append ⟨_,e,rfl⟩ F.entry_list_append (F.args_list_append_2 _ _) (PySem.list_append l its.toArray n u (by rw[abe];omega)) ⟨e,?_⟩;refine⟨.dT,_,I.Bb (its':=its++[u]) eH e (by simp) (r.append (.cons cm .nil)) ?_,rfl,q⟩;rw[List.length_append,List.length_singleton];omega
noncomputable def Ii:V->List V->aB->dn->Prop:=λx af H Q=>∃l xs y,x=.ref l/\af=[]/\H l=some (.lst xs)/\xs[xs.length-1]?=some y/\Q y (upd H l (.lst xs.dropLast))
def TL:uR X "list.pop" Ii:=by
 intro pins s σ H x af v us Q I bf bI h;obtain⟨l,xs,y,rfl,rfl,eH,aN,q⟩:=h;cases bf;have RG:=bI.zero;subst RG;obtain⟨z,its,n,r,ax,e⟩:=I.Bc eH;obtain⟨u,bc,cm⟩:=r.get aN;have RL:its.toArray[its.toArray.size-1]?=some u:=by
  show its.toArray[its.length-1]?=some u;rw[<- abO,<- ax];exact bc
 refine call_meets F.slot_list_pop ⟨_,e,rfl⟩ F.entry_list_pop (F.args_list_pop_1 _) (MeetsSeq.list_pop_last l its.toArray n u RL (by rw[abe];omega)) ⟨e,?_⟩;refine⟨y,_,I.Bb (its':=its.dropLast) eH e ?_ r.dropLast ?_,cm,q⟩
 .show its.toArray.eraseIdxIfInBounds (its.toArray.size-1)=its.dropLast.toArray;rw[abe,List.eraseIdxIfInBounds_toArray,Ov]
 .rw[List.length_dropLast];omega
end
section
variable{prog:Program}{w:World}{A:Around}{E:Value->Shared->Prop}{s:Shared}
end
section
variable{X:aU}
end
end bu
namespace CU
open PySem PySem.W PySem.Calls PyProof.Rows
def R4{P:Params}{h:Heap}:∀(ns:List Int)(af:List Value),WellAll P h af (ns.map WData.int)->IntsAre af ns:=by
 intro ns
 induction ns with
 |nil =>
  intro af w;rw[ac8]at w;cases w;exact .nil
 |cons n ns aD =>
  intro af w;rw[List.map_cons]at w;cases w with
  |cons a b =>
   cases a;exact .cons _ _ (aD _ b)
def W9{l:OpenLaw}{n:Nat}(az:l.most=some n){P:Params}{h:Heap}{args:List WData}{vals:List Value}(vT:l.row.toRowW.claim.pre args=true)(ti:WellAll P h vals args):
  ∃a af ns,vals=[Value.ref a]/\args=[WData.list (ns.map WData.int)]/\h.get? a=some { cls:=.type "list",data:=.seq af.toArray }/\IntsAre af ns/\ns.length<=n:=by
 have kM:WShape.hasAll [] args [.list .int]=true:=(pre_splitW vT).1;have ag:l.pre.holds [] { args:=args }=true:=(pre_splitW vT).2;obtain⟨d,r,rfl,J,h2⟩:=hasAllW_cons kM;obtain rfl:=hasAllW_nil h2;obtain⟨xs,rfl,h3⟩:=hasW_list J;obtain⟨ns,rfl⟩:=items_int h3;have hlen:ns.length<=n:=by
  unfold OpenLaw.pre at ag;have h4:(WTm.not (.lt (.lit (.int (n:Int))) (.len (.arg 0)))).holds [] { args:=[.list (ns.map .int)] }=true:=by
   have h4:=(holds_andW ag).1;rw[az]at h4;exact h4
  have h5:=condW_of h4 (w_not (w_lt w_lit (w_len_list (w_arg rfl))));rw[List.length_map]at h5;refine aeG λq=>?_
  have cU:(n:Int)<((ns.length:Nat):Int):=by omega
  first
   |(rw[decide_eq_true cU]at h5;exact absurd h5 (by decide))
   |(simp at h5;omega)
 cases ti with
 |cons jg kb =>
  cases kb;cases jg with
  |list av fH=>exact⟨_,_,ns,rfl,rfl,av,R4 ns _ fH,hlen⟩
def Vf(l:OpenLaw)(args:List WData):l.row.toRowW.claim.post args (.bool true) args=true :=
 postW_of (r:=l.row.toRowW) (X:=(true==true))
  (show WShape.has [] (.bool true) .bool=true by first|rfl|decide|simp[WShape.has,WShape.arms,WShape.armsAll])
  (show(WTm.eq .res (.lit (.bool true))).value [] { args:=args,res:=some (.bool true),after:=args }=some (.bool (true==true)) from w_eq_bool (w_res rfl) w_lit) rfl
def LI{l:OpenLaw}{n:Nat}{q:Program}{loose:List Str}{dq:(Str->Option Value)->Heap->Prop}{oo:World->Heap->Prop}{d:DefRec}(az:l.most=some n)(sV:d.params.defaults=[])(call:∀(w:World)(eL cC:Shared)(aS jz:Str->Option Value)(bC:Addr)(o:Obj)(pm cd doc:Value)(a:Addr)(af:List Value)(ns:List Int),
   Ground q loose [] dq w eL aS jz cC.heap->oo w cC.heap ->
   cC.heap.get? bC=some o->o.data=.func (docDef d.name d.params d.body d.scope pm cd doc)->cC.heap.CodeRec cd d.name->aS d.name=some (.ref bC) ->
   cC.heap.get? a=some { cls:=.type "list",data:=.seq af.toArray }->IntsAre af ns->ns.length<=n->cC.gens=#[] ->
   codeAny (model l.prog w) callerA (.call (.ref bC) ⟨[.ref a],[]⟩) (λr s'=>r=.ok (.ret (.bool true))/\OldK cC.heap s'.heap/\s'.os=cC.os/\AllBare s'.gens) cC):
  WalkO q loose dq oo l.row.toRowW d [] (λf af=>PySem.call f af):=by
 intro w eL cC aS jz G Y bC o pm cd doc vc c3 av hd lN eG s9 aQ args vals as vT FW aar ti aah;obtain rfl:vc=.none:=Dflts.none eG sV;obtain rfl:c3=.none:=Dflts.noKw eG;obtain⟨a,af,ns,rfl,rfl,AA,hints,hlen⟩:=W9 az vT ti;refine enter_call (aep (call w eL cC aS jz bC o pm cd doc a af ns G Y av (fd_plain hd) lN s9 AA hints hlen aQ) λr s' aE=>?_);obtain⟨rfl,h2,h3,h4⟩:=aE;exact⟨.inl ⟨.bool true,.bool true,[],rfl,λ_=>rfl,.bool true,Vf l _,λ_=>⟨List.Pairwise.nil,λ_ hm=>(nomatch hm)⟩⟩,h2,h3,h4⟩
section
variable{prog:Program}{w:World}{A:Around}{E:Value->Shared->Prop}{s:Shared}{K:Frag}
end
end CU
namespace bu
open PySem PySem.Spec PyProof.Rows
theorem Kq:∀{af:List Value}{ns:List Int},IntsAre af ns->Vals (ns.map V.int) af
 |_,_,.nil=>.nil
 |_,_,.cons n t h=>.cons ⟨t,rfl⟩ (Kq h)
def x4(H:aB):Prop:=∀b,H b=none\/∃o xs,H b=some (.dk o (.lst xs))
def SK{P:Program}{w:World}{K:W.Frag}{aS jz:Str->Option Value}{CX:jK}{k:Nat}{bC a:Addr}{fd:FuncData}{x:Str}{sp:mK}{cC:Shared}{af:List Value}{ns:List Int}(iQ:K.In cC.heap)(ny:cC.heap.Ns mainGlobals aS)(aa:cC.heap.Ns builtinsNs jz)(iC:∀x:Str,x≠"__name__"->jz x=bootBuiltins x)(QY:cC.heap.NoLimit)(aQ:cC.gens=#[])(aA:cC.heap.get? a=some { cls:=.type "list",data:=.seq af.toArray })(ai:IntsAre af ns)(ax:ns.length<=sizeLine)(aV:gq k callerA)(F:∀base:Heap,K.In base->base.Ns mainGlobals aS->ki P w K aS base CX k bC fd [x] sp)(z9:∀(s:Shared)(u:Value),BindsTo s fd ⟨[u],[]⟩ [(x,u)])(qE:∀H:aB,x4 H->d1 K H a (ns.map V.int)->sp [.ref a] H (λv _=>v=.aP true) λ_ _ _=>False)(zW:∀H e s',CX [] H cC (λ_ _ _=>False) e s'->False):
  codeAny (model P w) callerA (.call (.ref bC) ⟨[.ref a],[]⟩) (λr s'=>r=.ok (.ret (.bool true))/\OldK cC.heap s'.heap/\s'.os=cC.os/\AllBare s'.gens) cC:=by
 have bI:=Kq ai;have SW:=ai.length;have core:∀H:aB,x4 H->d1 K H a (ns.map V.int)->d7 P w H cC.heap->(∀b,H b≠none->b=a)->(H a≠none->K.lookup a=none) ->
   codeAny (model P w) callerA (.call (.ref bC) ⟨[.ref a],[]⟩) (λr s'=>r=.ok (.ret (.bool true))/\OldK cC.heap s'.heap/\s'.os=cC.os/\AllBare s'.gens) cC:=by
  intro H en a6 bz iA hn;have Du:∀{b:Addr}{o:Obj},cC.heap.get? b=some o->H b=none->(lP cC.heap H).get? b=some o:=λe n=>QH e n
  have tT:∀{b:Addr}{o:Obj}{aj:Array DictEntry}{aZ:Nat},cC.heap.get? b=some o->o.data=.dict aj aZ->H b=none:=λ{b o aj aZ} e d=>by
   cases q:H b with
   |none=>rfl
   |some u =>
    have bq:b=a:=iA b (by rw[q];simp);subst bq;rw[aA]at e;cases e;have d':Data.seq af.toArray _=Data.dict aj aZ:=d;cases d'
  have wI:∀{b:Addr}{m:Str->Option Value},cC.heap.Ns b m->(lP cC.heap H).Ns b m:=λ{b m} ⟨o,aj,aZ,e,d,r⟩=>⟨o,aj,aZ,Du e (tT e d),d,r⟩;have Fx:K.In (lP cC.heap H):=λb o e=>Du (iQ b o e) (by
   cases q:H b with
   |none=>rfl
   |some u =>
    have bq:b=a:=iA b (by rw[q];simp);subst bq;rw[hn (by rw[q];simp)]at e;cases e)
  have ft:Mod K aS (lP cC.heap H):=⟨Fx,wI ny,⟨jz,wI aa,iC⟩,let ⟨Tr,J,h2⟩:=QY;⟨Tr,wI J,h2⟩⟩;have e0:uM P w K aS (lP cC.heap H) callerA [] cC H:=⟨rfl,ft,λb o e=>Ud e,Nat.le_of_eq (QI _ _),trivial,λb aa=>absurd (show b∈([]:List Addr) from aa) (by simp),bz,.of_eq aQ⟩;refine aep ((F _ Fx (wI ny)).run callerA [] cC H ⟨[.ref a],[]⟩ [.ref a] [.ref a] _ _ aV e0 (z9 cC (.ref a)) (.cons rfl .nil) (qE H en a6)) λr s' h=>?_
  cases r with
  |error e=>exact(zW H e s' h).elim
  |ok eQ =>
   cases eQ with
   |next=>exact False.elim h
   |brk=>exact False.elim h
   |cont=>exact False.elim h
   |ret u =>
    obtain⟨v,ao,os,bare,un,AB,b3,q⟩:=h;have cU:v=.aP true:=q;subst cU;obtain rfl:u=Value.bool true:=b3;refine⟨rfl,OldK.of_keep λb o e=>?_,os,bare⟩;cases q:H b with
    |none=>exact un.keep b o e q (by intro z;exact absurd (show b∈([]:List Addr) from z) (by simp)) (by simp)
    |some u =>
     rcases en b with z|⟨bP,xs,z⟩
     .rw[q]at z;cases z
     .have bE:=un.iZ b bP _ z;obtain⟨e1,_⟩:=bz b _ z;obtain⟨e2,_⟩:=AB b _ bE;rw[e]at e1;cases e1;exact e2
 cases aw:K.lookup a with
 |some o =>
  have e:=iQ a o aw;rw[aA]at e;cases e;refine core (λ_=>none) (λ_=>.inl rfl) (.inr ⟨_,af.toArray,_,aw,rfl,rfl,rfl,by rw[abe,SW];exact ax,by simpa using bI⟩) (λb u z=>by have kd:(none:Option eW)=some u:=z;cases kd) (λb z=>absurd rfl z) λz=>absurd rfl z
 |none =>
  refine core (λb=>if b=a then some (.dk { cls:=.type "list",data:=.seq af.toArray } (.lst (ns.map V.int))) else none) (λb=>?_) (.inl (.inr ⟨{ cls:=.type "list",data:=.seq af.toArray },if_pos rfl⟩)) (λb u z=>?_) (λb z=>?_) λ_=>aw
  .by_cases aa:b=a
   .exact .inr ⟨_,_,if_pos aa⟩
   .exact .inl (if_neg aa)
  .by_cases aa:b=a
   .have kd:=(if_pos aa).symm.trans z;cases kd;subst aa;exact⟨aA,by rw[List.length_map];exact ax,af,_,bI,aA⟩
   .have kd:=(if_neg aa).symm.trans z;cases kd
  .by_cases aa:b=a
   .exact aa
   .exact absurd (if_neg aa) z
end bu
namespace bu
open PySem PySem.Spec PyProof.Rows
noncomputable abbrev uQ{K:W.Frag}{h:Heap}(_:K.In h):W.Frag:=K
def Zp{l:PySem.W.OpenLaw}{n k:Nat}{q:Program}{loose:List Str}{dq:(Str->Option Value)->Heap->Prop}{oo:World->Heap->Prop}{d:DefRec}{K:Params->W.Frag}{CX:World->jK}{sp:World->mK}{x:Str}(az:l.most=some n)(Q7:n<=sizeLine)(sV:d.params.defaults=[])(aV:gq k callerA)(gM:∀(w:World)(h:Heap),oo w h->(K w.params).In h)(F:∀(w:World)(aS:Str->Option Value)(bC:Addr)(h:Heap),(K w.params).In h->h.Ns mainGlobals aS->aS d.name=some (.ref bC) ->
   ∃fd:FuncData,(∀(s:Shared)(u:Value),BindsTo s fd ⟨[u],[]⟩ [(x,u)]) /\
    ∀base:Heap,(K w.params).In base->base.Ns mainGlobals aS->ki l.prog w (K w.params) aS base (CX w) k bC fd [x] (sp w))(qE:∀(w:World)(H:aB)(a:Addr)(ns:List Int),ns.length<=n->x4 H->d1 (K w.params) H a (ns.map V.int)->sp w [.ref a] H (λv _=>v=.aP true) λ_ _ _=>False)(zW:∀(w:World)(H:aB)(s:Shared)(e:Value)(s':Shared),CX w [] H s (λ_ _ _=>False) e s'->False):
  PySem.W.WalkO q loose dq oo l.row.toRowW d [] (λf af=>PySem.call f af):=by
 refine CU.LI az sV λw eL cC aS jz bC o pm cd doc a af ns G Y av hd lN s9 AA hints hlen aQ=>?_
 have iQ:=gM w _ Y;obtain⟨fd,aa,z0⟩:=F w aS bC _ iQ G.T.g s9;exact SK iQ G.T.g G.T.b G.T.builtins G.T.nolimit aQ AA hints (ab2 hlen Q7) aV z0 aa (λH en a6=>qE w H a ns hlen en a6) λH e s'=>zW w H cC e s'
end bu
namespace bu
open PySem PySem.Spec PyProof.Rows
noncomputable def hG(s:Stmt):Arguments:=match s with
 |.FunctionDef _ a _ _ _ _ _ _ _ _=>a
 |_=>{ posonlyargs:=[],args:=[],vararg:=none,kwonlyargs:=[],kw_defaults:=[],kwarg:=none,defaults:=[] }
noncomputable def lF(s:Stmt):List Stmt:=match s with
 |.FunctionDef _ _ b _ _ _ _ _ _ _=>b
 |_=>[]
noncomputable def hH(s:Stmt):Scope:=match s with
 |.FunctionDef _ _ _ _ _ _ sc _ _ _=>sc
 |_=>{ kind:=.function,names:=[],isGenerator:=false,isCoroutine:=false }
structure rE(K:W.Frag)(x qual:Str)(st:Stmt)(f:Addr)(fd:FuncData):Prop where
 ex:∃(fS:Value)(bb:Option Addr)(c3 doc pm:Value)(an:Option Addr)(dY ct:Value)(fT:Array (Option Value)),
  fd=W.fnOf x qual (hG st) (lF st) (hH st) .none c3 doc pm an dY ct/\K.lookup f=some ⟨fS,bb,.func fd,fT⟩/\W.codeIn K dY qual=true
 gP:W.keepIn K (.ref f)=true
section
variable{P:Program}{w:World}{K:W.Frag}{aS:Str->Option Value}{base:Heap}
def rE.binds{x qual:Str}{st:Stmt}{f:Addr}{fd:FuncData}{aJ:List Str}(F:rE K x qual st f fd)(h:∀(c3 doc pm:Value)(an:Option Addr)(dY ct:Value)(us:List Value),us.length=aJ.length->bindArgs (W.fnOf x qual (hG st) (lF st) (hH st) .none c3 doc pm an dY ct) ⟨us,[]⟩=pure (aJ.zip us)):Binds K fd aJ []:=by
 obtain⟨fS,bb,c3,doc,pm,an,dY,ct,fT,rfl,lk,lN⟩:=F.ex;exact .all (h c3 doc pm an dY ct)
def Fd{x qual:Str}{st:Stmt}{f:Addr}{fS:Value}{bb an:Option Addr}{fT:Array (Option Value)}{c3 doc pm dY ct:Value}(l:K.lookup f=some ⟨fS,bb,.func (W.fnOf x qual (hG st) (lF st) (hH st) .none c3 doc pm an dY ct),fT⟩)(c:W.codeIn K dY qual=true)(k:W.keepIn K (.ref f)=true):rE K x qual st f (W.fnOf x qual (hG st) (lF st) (hH st) .none c3 doc pm an dY ct):=⟨⟨fS,bb,c3,doc,pm,an,dY,ct,fT,rfl,l,c⟩,k⟩
end
section
variable{X:aU}
end
def bw(H ao:aB):Prop:=∀b o,H b=some o->ao b=some o
def bw.refl(H:aB):bw H H:=λ_ _ h=>h
def bw.trans{H H1 aR:aB}(a:bw H H1)(b:bw H1 aR):bw H aR:=λc o h=>b c o (a c o h)
def bw.free{H ao:aB}(e:bw H ao){l:Addr}(h:ao l=Option.none):H l=Option.none:=by
 cases q:H l with
 |none=>rfl
 |some o =>
  rw[e l o q]at h;cases h
end bu
end
section
set_option Elab.async false
set_option linter.all false
set_option maxRecDepth 100000
namespace bu
open PySem PySem.Spec PyProof.Rows
section
variable{κ:Type}[DecidableEq κ]
noncomputable def g9(ah:List (κ×V))(k:κ):Option V:=(ah.find? λcx=>decide (cx.1=k)).map (·.2)
noncomputable def putK(ah:List (κ×V))(k:κ)(v:V):List (κ×V) :=
 if (ah.any λcx=>decide (cx.1=k))=true then ah.map (λcx=>if cx.1=k then(cx.1,v) else cx) else ah++[(k,v)]
def CN{p:κ×V}{r:List (κ×V)}{k:κ}(e:p.1=k):g9 (p::r) k=some p.2:=by simp[g9,List.find?_cons,e]
def CM{p:κ×V}{r:List (κ×V)}{k:κ}(e:¬p.1=k):g9 (p::r) k=g9 r k:=by simp[g9,List.find?_cons,e]
theorem Kp(k:κ):∀ah:List (κ×V),(ah.any λcx=>decide (cx.1=k))=(g9 ah k).isSome
 |[]=>rfl
 |p::r=>by
  rw[List.any_cons]
  by_cases e:p.1=k
  .simp only[CN e,decide_eq_true e,Bool.true_or,Option.isSome_some]
  .rw[CM e,decide_eq_false e,Bool.false_or];exact Kp k r
def A5(ah:List (κ×V))(k:κ)(v:V):(putK ah k v).length<=ah.length+1:=by
 unfold putK
 split
 .rw[List.length_map];omega
 .rw[List.length_append,List.length_cons,List.length_nil];omega
def iR.R7{o:Option V}{u:Option Value}(r:iR o u):o.isSome=u.isSome:=by
 cases o with
 |none=>cases u with
  |none=>rfl
  |some _=>exact(show False from r).elim
 |some _=>cases u with
  |none=>exact(show False from r).elim
  |some _=>rfl
theorem iR.getD{o:Option V}{u:Option Value}{d:V}{d':Value}(r:iR o u)(dE:RelV d d'):RelV (o.getD d) (u.getD d'):=by
 cases o with
 |none=>cases u with
  |none=>exact dE
  |some _=>exact(show False from r).elim
 |some _=>cases u with
  |none=>exact(show False from r).elim
  |some _=>exact r
def eO.val{ah:List (κ×V)}{af:List (κ×Value)}(r:eO ah af)(k:κ):iR (g9 ah k) (valueAt af k):=by
 unfold eO at r
 induction r with
 |nil=>exact True.intro
 |@cons p q aJ gC h t aD =>
  obtain⟨J,h2⟩:=h
  by_cases e:p.1=k
  .have bq:q.1=k:=J.symm.trans e;have b:valueAt (q::gC) k=some q.2:=(by simp[valueAt,List.find?_cons,bq]);rw[CN e,b];exact h2
  .have bq:¬q.1=k:=λz=>e (J.trans z)
   have b:valueAt (q::gC) k=valueAt gC k:=(by simp[valueAt,List.find?_cons,bq]);rw[CM e,b];exact aD
theorem eO.any{ah:List (κ×V)}{af:List (κ×Value)}(r:eO ah af)(k:κ):(ah.any λcx=>decide (cx.1=k))=af.any λcx=>decide (cx.1=k):=by
 unfold eO at r
 induction r with
 |nil=>rfl
 |cons h t aD=>rw[List.any_cons,List.any_cons,aD,h.1]
def eO.BV{ah:List (κ×V)}{af:List (κ×Value)}(r:eO ah af)(k:κ){y:V}{u:Value}(bL:RelV y u):
  eO (ah.map λcx=>if cx.1=k then(cx.1,y) else cx) (af.map λcx=>if cx.1=k then(cx.1,u) else cx):=by
 unfold eO at r ⊢
 induction r with
 |nil=>exact .nil
 |@cons p q aJ gC h t aD =>
  rw[List.map_cons,List.map_cons];refine .cons ?_ aD;obtain⟨J,h2⟩:=h
  by_cases e:p.1=k
  .rw[if_pos e,if_pos (J.symm.trans e)];exact⟨J,bL⟩
  .rw[if_neg e,if_neg (λz=>e (J.trans z))];exact⟨J,h2⟩
def eO.put{ah:List (κ×V)}{af:List (κ×Value)}(r:eO ah af)(k:κ){y:V}{u:Value}(bL:RelV y u):eO (putK ah k y) (stored af k u):=by
 unfold putK stored;rw[r.any k]
 by_cases e:(af.any λcx=>decide (cx.1=k))=true
 .rw[if_pos e,if_pos e];exact r.BV k bL
 .rw[if_neg e,if_neg e];exact Paired.snoc r ⟨rfl,bL⟩
theorem eO.length{ah:List (κ×V)}{af:List (κ×Value)}(r:eO ah af):ah.length=af.length:=Paired.length r
end
def tB{P:Program}{w:World}{k:Key}{u:Value}(r:RelV (c3 k) u):(g6 P w).is k u=true:=by
 cases k with
 |inl i=>obtain⟨t,e⟩:=(show ∃t,u=Value.int i t from r);subst e;exact Tw P w i t
 |inr x=>obtain⟨t,e⟩:=(show ∃t,u=Value.str x t from r);subst e;exact Tx P w x t
theorem tA{P:Program}{w:World}:∀{ar:List Key}{us:List Value},Vals (ar.map c3) us->ItemsAre (g6 P w) ar us
 |[],_,r=>by rw[ac8]at r;cases r;exact .nil
 |k::ar,_,r=>by
  rw[List.map_cons]at r;cases r with
  |cons h t=>exact .cons (tB h) (tA t)
noncomputable abbrev KT(H:aB):List (List Key×V)->List (List Key×Addr×Value)->Prop:=Paired λp q=>p.1=q.1/\H q.2.1=some (.tup (p.1.map c3))/\RelV p.2 q.2.2
def KT.val{H:aB}{ah:List (List Key×V)}{xs:List (List Key×Addr×Value)}(r:KT H ah xs)(k:List Key):iR (g9 ah k) ((atKey xs k).map (·.2)):=by
 induction r with
 |nil=>exact True.intro
 |@cons p q aJ gC h t aD =>
  obtain⟨J,_,h2⟩:=h
  by_cases e:p.1=k
  .have bq:q.1=k:=J.symm.trans e;have b:atKey (q::gC) k=some q.2:=(by simp[atKey,List.find?_cons,bq]);rw[CN e,b];exact h2
  .have bq:¬q.1=k:=λz=>e (J.trans z)
   have b:atKey (q::gC) k=atKey gC k:=(by simp[atKey,List.find?_cons,bq]);rw[CM e,b];exact aD
def KT.BV{H:aB}{ah:List (List Key×V)}{xs:List (List Key×Addr×Value)}(r:KT H ah xs)(k:List Key){y:V}{u:Value}(bL:RelV y u):
  KT H (ah.map λcx=>if cx.1=k then(cx.1,y) else cx) (xs.map (putAt k u)):=by
 induction r with
 |nil=>exact .nil
 |@cons p q aJ gC h t aD =>
  rw[List.map_cons,List.map_cons];refine .cons ?_ aD;obtain⟨J,h2,h3⟩:=h;unfold putAt
  by_cases e:p.1=k
  .rw[if_pos e,if_pos (J.symm.trans e)];exact⟨J,h2,bL⟩
  .rw[if_neg e,if_neg (λz=>e (J.trans z))];exact⟨J,h2,h3⟩
def KT.put{H:aB}{ah:List (List Key×V)}{xs:List (List Key×Addr×Value)}(r:KT H ah xs)(k:List Key){b:Addr}{y:V}{u:Value}(aa:H b=some (.tup (k.map c3)))(bL:RelV y u):
  KT H (putK ah k y) (storedH xs k b u):=by
 have e:(ah.any λcx=>decide (cx.1=k))=(atKey xs k).isSome:=by
  rw[Kp,(r.val k).R7,Option.isSome_map]
 unfold putK storedH;rw[e]
 by_cases q:(atKey xs k).isSome=true
 .rw[if_pos q,if_pos q];exact r.BV k bL
 .rw[if_neg q,if_neg q];exact Paired.snoc r ⟨rfl,aa,bL⟩
def KT.keeps{H ao:aB}{ah:List (List Key×V)}{xs:List (List Key×Addr×Value)}(r:KT H ah xs)(ay:∀b ys,H b=some (.tup ys)->ao b=some (.tup ys)):KT ao ah xs :=
 Paired.Be r λ_ _ z=>⟨z.1,ay _ _ z.2.1,z.2.2⟩
section
variable{P:Program}{w:World}{H:aB}{h:Heap}{a:Addr}
def Im{u:eW}(ok:d7 P w H h)(e:gW H a u):dX P w H h a u:=e.ok ok
def sh{ah:List (Key×V)}(ok:d7 P w H h)(e:gW H a (.dQ ah)):ah.length<=sizeLine/\(a==sysModules)=false/\∃af,eO ah af/\h.DictOf (g6 P w) a af :=
 show dX P w H h a (.dQ ah) from Im ok e
def Eh{ah:List (Key×V)}(ok:d7 P w H h)(e:H a=some (.dQ ah)):ah.length<=sizeLine/\(a==sysModules)=false/\∃af,eO ah af/\h.DictOf (g6 P w) a af:=sh ok (.inl e)
def wi{ar:List Key}(ok:d7 P w H h)(e:H a=some (.tup (ar.map c3))):(tupleKind (g6 P w)).is h ar a:=by
 obtain⟨_,its,r,o,J,h2,n,h3⟩:=(show dX P w H h a (.tup (ar.map c3)) from ok a _ e);exact⟨o,its.toArray,n,J,h2,h3,by simpa using tA r⟩
def sl{ah:List (List Key×V)}(ok:d7 P w H h)(e:gW H a (.da ah)):ah.length<=sizeLine/\(a==sysModules)=false /\
  ∃xs,KT H ah xs/\h.DictOfH (tupleKind (g6 P w)) a xs:=by
 obtain⟨z,y,xs,r,o,aj,aZ,J,h2,h3,h4,h5⟩:=(show dX P w H h a (.da ah) from Im ok e);refine⟨z,y,xs,r,o,aj,aZ,J,h2,h3,h4,λx ak=>?_,h5⟩;have all:∀{l:List (List Key×V)}{m:List (List Key×Addr×Value)},KT H l m->∀x∈m,(tupleKind (g6 P w)).is h x.1 x.2.1:=by
  intro l m q
  induction q with
  |nil=>intro x ak;exact nomatch ak
  |@cons p q aJ gC aE t aD =>
   intro x ak;rcases aa9.mp ak with e|ak
   .subst e;exact wi ok (by rw[<- aE.1];exact aE.2.1)
   .exact aD x ak
 exact all r x ak
def N6{ah:List (List Key×V)}(ok:d7 P w H h)(e:H a=some (.da ah)):ah.length<=sizeLine/\(a==sysModules)=false /\
  ∃xs,KT H ah xs/\h.DictOfH (tupleKind (g6 P w)) a xs:=sl ok (.inl e)
end
def mB(H:aB)(a:Addr)(y:V)(r:Option V):Prop :=
 (∃ah k,gW H a (.dQ ah)/\y=c3 k/\r=g9 ah k)\/∃ah k b,gW H a (.da ah)/\y=.ref b/\H b=some (.tup (k.map c3))/\r=g9 ah k
def iP(H:aB)(a:Addr)(y v:V)(ao:aB):Prop :=
 (∃ah k,H a=some (.dQ ah)/\y=c3 k/\ah.length<sizeLine/\ao=upd H a (.dQ (putK ah k v))) \/
 ∃ah k b,H a=some (.da ah)/\y=.ref b/\H b=some (.tup (k.map c3))/\ah.length<sizeLine/\ao=upd H a (.da (putK ah k v))
def mB.t{H:aB}{a b:Addr}{ah:List (List Key×V)}{k:List Key}(e:H a=some (.da ah))(eF:H b=some (.tup (k.map c3))):mB H a (.ref b) (g9 ah k):=.inr ⟨ah,k,b,.inl e,rfl,eF,rfl⟩
theorem iP.k{H:aB}{a:Addr}{ah:List (Key×V)}{k:Key}{v:V}(e:H a=some (.dQ ah))(ax:ah.length<sizeLine):iP H a (c3 k) v (upd H a (.dQ (putK ah k v))):=.inl ⟨ah,k,e,rfl,ax,rfl⟩
def iP.t{H:aB}{a b:Addr}{ah:List (List Key×V)}{k:List Key}{v:V}(e:H a=some (.da ah))(eF:H b=some (.tup (k.map c3)))(ax:ah.length<sizeLine):
  iP H a (.ref b) v (upd H a (.da (putK ah k v))):=.inr ⟨ah,k,b,e,rfl,eF,ax,rfl⟩
section
variable{X:aU}{pins:List (Addr×Obj)}{σ:St}{H:aB}{s:Shared}{a:Addr}{y v:V}{u r:Value}{o:Option V}{A:Around}{E:Value->Shared->Prop}
def Inv.big(I:Inv X pins σ H s):sysModules<s.heap.objs.size:=by
 have h:mainGlobals<s.heap.objs.size:=(I.mod.glob.keeps I.hE).lt;exact Nat.lt_trans (by decide) h
def NL{Q:Value->Shared->Prop}(bc:A.units+1<cLine)(I:Inv X pins σ H s)(g:mB H a y (some v))(bL:RelV y u)(h:∀fm s',Inv X pins σ H s'->RelV v fm->Q fm s'):
  wpAny (model X.prog X.w) A (getItem (.ref a) u) Q E s:=by
 rcases g with⟨ah,k,e,f9,l⟩|⟨ah,k,b,e,f9,eF,l⟩
 .subst f9;obtain⟨z,hd,af,rel,dd⟩:=sh I.bz e;obtain⟨fm,hw,iq⟩:=iR.some_of (v:=v) (o:=valueAt af k) (by rw[l];exact rel.val k);exact wpAny_getItem_of (tB bL) dd.mapOf hw (h fm _ (I.tok _) iq)
 .subst f9;cases (show u=Value.ref b from bL);obtain⟨z,hd,xs,rel,dd⟩:=sl I.bz e;obtain⟨fm,hw,iq⟩:=iR.some_of (v:=v) (o:=(atKey xs k).map (·.2)) (by rw[l];exact rel.val k);obtain⟨p,au,Rl⟩:=Option.map_eq_some_iff.mp hw;refine wpAny_getItem_heap (aeq bc) (wi I.bz eF) dd au ?_;rw[Rl];exact h fm _ (I.tok _) iq
def zl{h':Heap}{t':Nat}{bP:eW}(I:Inv X pins σ H s)(mu:rK (H a))(ae:Heap.SameBut a s.heap h')(he:∃q,h'.get? a=some q)(new:dX X.prog X.w (upd H a bP) h' a bP):
  Inv X pins σ (upd H a bP) { s with heap:=h',toks:=t' } :=
 I.write (x:=a) (e:=a) mu (.inl rfl) (λb q aa z=>(ae.2 b aa).trans z) he new
def Eg{P:Program}{w:World}{ao:aB}{h':Heap}{ah:List (Key×V)}{af:List (Key×Value)}(z:ah.length<=sizeLine)(hd:(a==sysModules)=false)(rel:eO ah af)(dd:h'.DictOf (g6 P w) a af):
  dX P w ao h' a (.dQ ah):=⟨z,hd,af,rel,dd⟩
def NO{ao:aB}{Q:Unit->Shared->Prop}(bc:A.units+1<cLine)(I:Inv X pins σ H s)(g:iP H a y v ao)(bL:RelV y u)(bI:RelV v r)(h:∀s',Inv X pins σ ao s'->Q () s'):
  wpAny (model X.prog X.w) A (setItem (.ref a) u r) Q E s:=by
 rcases g with⟨ah,k,e,f9,l,sq⟩|⟨ah,k,b,e,f9,eF,l,sq⟩
 .subst f9 sq;obtain⟨z,hd,af,rel,dd⟩:=Eh I.bz e;have hz:af.length<=sizeLine:=(by rw[<- rel.length];exact z);have ax:(putK ah k v).length<=sizeLine:=(by have:=A5 ah k v;omega);refine wpAny_setItem_pairs (hsz:=hz) (tB bL) dd λh' mZ ae=>h _ ?_
  have he:∃q,h'.get? a=some q:=let ⟨q,_,_,aE,_⟩:=mZ;⟨q,aE⟩
  exact zl I (by rw[e];exact True.intro) ae he (Eg ax hd (rel.put k bI) mZ)
 .subst f9 sq;cases (show u=Value.ref b from bL);obtain⟨z,hd,xs,rel,dd⟩:=N6 I.bz e;have hz:xs.length<=sizeLine:=(by rw[<- Paired.length rel];exact z);have ax:(putK ah k v).length<=sizeLine:=(by have:=A5 ah k v;omega);refine wpAny_setItem_heap (hsz:=hz) (aeq bc) (wi I.bz eF) dd λh' mZ ae=>h _ ?_
  obtain⟨q,aj,aZ,aE,h2,h3,h4,_,h5⟩:=mZ;refine zl I (by rw[e];exact True.intro) ae ⟨q,aE⟩ ⟨ax,hd,_,(rel.put k eF bI).keeps λc ys gZ=>?_,q,aj,aZ,aE,h2,h3,h4,h5⟩;rw[cG (TP gZ e (λz=>nomatch z))];exact gZ
end
section
variable{X:aU}{pins:List (Addr×Obj)}{σ:St}{H:aB}{s:Shared}{a:Addr}{ah:List (Key×V)}{k:Key}{u:Value}{A:Around}{E:Value->Shared->Prop}
end
def C5(i:Expr):Prop:=∀mc kO,subscripted i false mc kO=operate [mc,kO] (getItem mc kO)
def XS{prog:Program}{w:World}{A:Around}{E:Value->Shared->Prop}{s:Shared}{env:Env}{value slice:Expr}{pos:Pos}{T id:String}{Q:Value->Shared->Prop}(ax:typeLookup (.type T) "__getitem__"=pure (some (.builtin id)))(ae:C5 slice)(h:wpAny (model prog w) A (eval value env) (λo cC=>wpAny (model prog w) A (eval slice env) (λi gF=>gF.TypeIs o T/\wpAny (model prog w) A (getItem o i) Q E gF) E cC) E s):
  wpAny (model prog w) A (eval (.Subscript value slice pos) env) Q E s:=by
 refine Subscript_ (abV h (λo cC hL=>abV hL (λi gF tp=>?_) λ_ _ x=>x) λ_ _ x=>x);obtain⟨cu,tp⟩:=tp;unfold subscriptTail;refine aa5 ?_;rw[getitemInPython_of_ne cu.not_modules];refine aa5 (aeQ cu ax ?_);have fin:wpAny (model prog w) A (subscripted slice false o i) (λr rk=>wpAny (model prog w) A (letTemporaryGo value o r>>=λ_=>pure r) Q E rk) E gF:=by
  rw[ae o i];exact wpAny_operating (abV tp (λr rk v7=>aa5 (wpAny_letTemporaryGo (aa7 v7))) λ_ _ x=>x)
 first
  |exact aa7 (aa5 fin)
  |exact aa5 (aa7 (aa5 fin))
  |exact aa5 fin
def NW{X:aU}{pins:List (Addr×Obj)}{σ:St}{H:aB}{s:Shared}{a:Addr}{y:V}{o:Option V}(I:Inv X pins σ H s)(g:mB H a y o):s.TypeIs (.ref a) "dict":=by
 rcases g with⟨ah,k,e,_,_⟩|⟨ah,k,b,e,_,_,_⟩
 .obtain⟨_,_,af,_,dd⟩:=sh I.bz e;exact dd.typeIs
 .obtain⟨_,_,xs,_,dd⟩:=sl I.bz e;exact dd.typeIs
noncomputable def xm(jf ty:TE):TE:=λσ H Q=>jf σ H λx H1=>ty σ H1 λy aR=>∃a v,x=.ref a/\mB aR a y (some v)/\Q v aR
noncomputable def Wk(jf ty lg:TE):gr:=λD σ H=>lg σ H λv H1=>jf σ H1 λx aR=>ty σ aR λy bj=>∃a fD,x=.ref a/\iP bj a y v fD/\D.br σ fD
section
variable{X:aU}{o i e value:Expr}{pos pos' Y1:Pos}{jf ty lg:TE}
def UL(bc:X.A.units+1<cLine)(av:aO X o jf)(ai:aO X i ty)(ae:C5 i):aO X (.Subscript o i pos) (xm jf ty):=by
 intro pins s σ H Q I h;refine XS PySem.F.slot_dict_getitem.lookup ae (bR (av pins s σ H _ I h) λu s1 ⟨x,H1,aY,bf,aM⟩=>bR (ai pins s1 σ H1 _ aY aM) λkO s2 ⟨y,aR,cb,bL,a,v,ex,g,a7⟩=>?_);subst ex;obtain rfl:u=Value.ref a:=bf;exact⟨NW cb g,NL bc cb g bL λfm s3 er iq=>⟨v,aR,er,iq,a7⟩⟩
def Vq(bc:X.A.units+1<cLine)(av:aO X o jf)(ai:aO X i ty)(aI:aO X value lg)(ae:swapsWith value (some (.Subscript o i pos')) pos.line X.env=pure false):
  c9 X (.Assign [.Subscript o i pos'] value pos) (Wk jf ty lg):=by
 intro pins s σ H D I h;refine wpAny_Assign_Subscript (bR (aI pins s σ H _ I h) λr s1 ⟨v,H1,aY,bI,aM⟩=>bR (av pins s1 σ H1 _ aY aM) λu s2 ⟨x,aR,cb,bf,a7⟩=>bR (ai pins s2 σ aR _ cb a7) λkO s3 ⟨y,bj,er,bL,a,fD,ex,g,bU⟩=>?_) ae;subst ex;obtain rfl:u=Value.ref a:=bf;exact NO bc er g bL bI λs4 gn=>⟨σ,fD,gn,bU⟩
end
def Ee{P:Program}{w:World}{H:aB}(h:Heap)(aa:sysModules<h.objs.size):dX P w H (h.push { cls:=.type "dict",data:=.dict #[] }) h.objs.size (.dQ []) :=
 ⟨abz _,abH.mpr (abW (abp aa)),[],.nil,Heap.DictOf.new h⟩
def N5{P:Program}{w:World}{H:aB}(h:Heap)(aa:sysModules<h.objs.size):dX P w H (h.push { cls:=.type "dict",data:=.dict #[] }) h.objs.size (.da []) :=
 ⟨abz _,abH.mpr (abW (abp aa)),[],.nil,_,#[],0,abf _ rfl,⟨rfl,rfl,rfl⟩,rfl,rfl,ac4⟩
noncomputable def X2:TE:=λ_ H Q=>∀p,H p=none->Q (.ref p) (upd H p (.dQ []))
noncomputable def X3:TE:=λ_ H Q=>∀p,H p=none->Q (.ref p) (upd H p (.da []))
section
variable{X:aU}{pos:Pos}
def HQ:aO X (.Dict [] [] pos) X2:=λpins s σ H Q I h =>
 wpAny_Dict_empty ⟨.ref s.heap.objs.size,_,I.laid (a:=s.heap.objs.size) (o:=.dQ []) (t':=s.toks) (λ_ _ q=>aa8 _ q) (abb _) (Ee s.heap I.big),rfl,h _ (I.bz.fresh (abb _))⟩
def HR:aO X (.Dict [] [] pos) X3:=λpins s σ H Q I h =>
 wpAny_Dict_empty ⟨.ref s.heap.objs.size,_,I.laid (a:=s.heap.objs.size) (o:=.da []) (t':=s.toks) (λ_ _ q=>aa8 _ q) (abb _) (N5 s.heap I.big),rfl,h _ (I.bz.fresh (abb _))⟩
end
noncomputable def Co:List (TE×TE)->St->aB->(List (V×V)->aB->Prop)->Prop
 |[],_,H,Q=>Q [] H
 |(tk,lg)::r,σ,H,Q=>tk σ H λx H1=>lg σ H1 λy aR=>Co r σ aR λaJ bj=>Q ((x,y)::aJ) bj
noncomputable abbrev C9:List (V×V)->List (Value×Value)->Prop:=Paired λp q=>RelV p.1 q.1/\RelV p.2 q.2
def uT(X:aU)(pos:Pos)(keys:List (Option Expr))(values:List Expr)(ml:List (TE×TE)):Prop :=
 ∀(pins:List (Addr×Obj))(s:Shared)(σ:St)(H:aB)(Q:List (V×V)->aB->Prop),Inv X pins σ H s->Co ml σ H Q ->
  wpAny (model X.prog X.w) X.A (evalPairs (pairTrees keys values X.env pos)) (λaf s'=>∃aJ ao,Inv X pins σ ao s'/\C9 aJ af/\Q aJ ao) X.b9 s
def Vh{X:aU}{pos:Pos}:uT X pos [] [] []:=λpins s σ H Q I h=>pairTrees_nil_walk ⟨[],H,I,.nil,h⟩
def Vg{X:aU}{pos:Pos}{k v:Expr}{ar:List (Option Expr)}{af:List Expr}{tk lg:TE}{ml:List (TE×TE)}(aw:aO X k tk)(aI:aO X v lg)(aV:uT X pos ar af ml):
  uT X pos (some k::ar) (v::af) ((tk,lg)::ml):=λpins s σ H Q I h =>
 pairTrees_cons_walk (bR (aw pins s σ H _ I h) λu s1 ⟨x,H1,aY,bf,aM⟩=>bR (aI pins s1 σ H1 _ aY aM) λkb s2 ⟨y,aR,cb,bL,a7⟩ =>
  bR (aV pins s2 σ aR _ cb a7) λws s3 ⟨aJ,bj,er,rel,bU⟩=>⟨(x,y)::aJ,bj,er,.cons ⟨bf,bL⟩ rel,bU⟩)
noncomputable def qU(ah more:List (Key×V)):List (Key×V):=more.foldl (λacc cx=>putK acc cx.1 cx.2) ah
def eO.merge:∀{more:List (Key×V)}{rs:List (Key×Value)}{ah:List (Key×V)}{af:List (Key×Value)},eO more rs->eO ah af->eO (qU ah more) (merged af rs):=by
 intro more rs ah af r;unfold eO at r
 induction r generalizing ah af with
 |nil=>intro q;exact q
 |@cons p q aJ gC h t aD =>
  intro fA;have e:eO (putK ah p.1 p.2) (stored af q.1 q.2):=by
   have:=fA.put p.1 h.2;rw[<- h.1];exact this
  exact aD e
theorem GG:∀(more ah:List (Key×V)),(qU ah more).length<=ah.length+more.length
 |[],ah=>by show ah.length<=ah.length+0;omega
 |p::r,ah=>by
  have J:=GG r (putK ah p.1 p.2);have h2:=A5 ah p.1 p.2;show(qU (putK ah p.1 p.2) r).length<=_;rw[List.length_cons];omega
theorem DK{P:Program}{w:World}:∀{ah:List (Key×V)}{ws:List (Value×Value)},C9 (ah.map λcx=>(c3 cx.1,cx.2)) ws->∃rs,Carries (g6 P w) ws rs/\eO ah rs
 |[],_,r=>by rw[ac8]at r;cases r;exact⟨[],True.intro,.nil⟩
 |p::ah,_,r=>by
  rw[List.map_cons]at r;cases r with
  |@cons a b as bs h t =>
   obtain⟨rs,c,q⟩:=DK (P:=P) (w:=w) t;obtain⟨b1,b2⟩:=b;exact⟨(p.1,b2)::rs,⟨tB h.1,rfl,c⟩,.cons ⟨rfl,h.2⟩ q⟩
noncomputable def X4(ml:List (TE×TE)):TE:=λσ H Q=>∀p,H p=none->Co ml σ (upd H p (.dQ [])) λaJ aR=>aR p=some (.dQ [])/\∃ah:List (Key×V),aJ=ah.map (λcx=>(c3 cx.1,cx.2))/\ah.length<=15/\Q (.ref p) (upd aR p (.dQ (qU [] ah)))
def UN{X:aU}{pos:Pos}{keys:List (Option Expr)}{values:List Expr}{ml:List (TE×TE)}(h:uT X pos keys values ml)(fH:keys.all (·.isSome)=true)(ax:keys.length=values.length)(h0:keys≠[])(Qf:keys.length<=15):aO X (.Dict keys values pos) (X4 ml):=by
 intro pins s σ H Q I q;have az:=I.bz.fresh (abb s.heap.objs.size);have aY:=I.laid (a:=s.heap.objs.size) (o:=.dQ []) (h':=s.heap.push { cls:=.type "dict",data:=.dict #[] }) (t':=s.toks) (λ_ _ q=>aa8 _ q) (abb _) (Ee s.heap I.big);refine wpAny_Dict_walk (knd:=g6 X.prog X.w) fH ax h0 Qf (bR (h pins _ σ _ _ aY (q _ az)) λws s2 ⟨aJ,aR,cb,rel,e,ah,aZ,lk,a7⟩=>?_);subst aZ;obtain⟨rs,c,gi⟩:=DK (P:=X.prog) (w:=X.w) rel;obtain⟨z,hd,aa2,fA,dd⟩:=Eh cb.bz e;cases fA;refine⟨rs,c,dd,λh' mZ ae=>⟨.ref s.heap.objs.size,_,?_,rfl,a7⟩⟩;have hz:(qU [] ah).length<=sizeLine:=by
  have J:=GG ah [];rw[List.length_nil]at J;rw[sizeLine_eq];omega
 have he:∃q,h'.get? s.heap.objs.size=some q:=let ⟨q,_,_,aE,_⟩:=mZ;⟨q,aE⟩
 exact zl cb (by rw[e];exact True.intro) ae he (Eg hz hd (gi.merge .nil) mZ)
structure ZL(X:aU)(o:Expr)(m:Str)(apos:Pos)(e:Expr)(e8:Pos):Prop where
 base:attributeBase o m X.env (eval o X.env)=eval o X.env
 zF:((backTo e8 (starEach [e] X.env)).all (λx=>!x.1)&&(backToKw e8 (keywordEach [] X.env)).all (λx=>x.1.isSome)
  && decide (([e]:List Expr).length+([]:List Keyword).length+(if ([]:List Keyword).isEmpty then 0 else 1)<30))=true
 line:(apos.endLine==e8.line)=true
 trees:backTo e8 (starEach [e] X.env)=[(false,eval e X.env)]
structure M2(X:aU)(o:Expr)(m:Str)(apos:Pos)(e f:Expr)(e8:Pos):Prop where
 base:attributeBase o m X.env (eval o X.env)=eval o X.env
 zF:((backTo e8 (starEach [e,f] X.env)).all (λx=>!x.1)&&(backToKw e8 (keywordEach [] X.env)).all (λx=>x.1.isSome)
  && decide (([e,f]:List Expr).length+([]:List Keyword).length+(if ([]:List Keyword).isEmpty then 0 else 1)<30))=true
 line:(apos.endLine==e8.line)=true
 trees:backTo e8 (starEach [e,f] X.env)=[(false,eval e X.env),(false,eval f X.env)]
def CZ(H:aB)(a:Addr):Prop:=(∃ah,gW H a (.dQ ah))\/∃ah,gW H a (.da ah)
def R6{X:aU}{pins:List (Addr×Obj)}{σ:St}{H:aB}{s:Shared}{a:Addr}(I:Inv X pins σ H s)(d:CZ H a):
  s.TypeIs (.ref a) "dict"/\(∀b,Value.ref a=.ref b->∃bP,s.heap.get? b=some bP/\bP.dict=none)/\(a==sysModules)=false:=by
 rcases d with⟨ah,e⟩|⟨ah,e⟩
 .obtain⟨_,hd,af,_,dd⟩:=sh I.bz e;refine⟨dd.typeIs,λb q=>?_,hd⟩;cases q;obtain⟨bP,_,_,J,h2,_⟩:=dd;exact⟨bP,J,h2.2.1⟩
 .obtain⟨_,hd,xs,_,dd⟩:=sl I.bz e;refine⟨dd.typeIs,λb q=>?_,hd⟩;cases q;obtain⟨bP,_,_,J,h2,_⟩:=dd;exact⟨bP,J,h2.2.1⟩
section
variable{X:aU}{pins:List (Addr×Obj)}{σ:St}{H:aB}{s:Shared}{a:Addr}{y d:V}{u r:Value}{o:Option V}{A:Around}{E:Value->Shared->Prop}
def NK{Q:Value->Shared->Prop}(bc:A.units+1<cLine)(I:Inv X pins σ H s)(g:mB H a y o)(bL:RelV y u)(dE:RelV d r)(h:∀fm s',Inv X pins σ H s'->RelV (o.getD d) fm->Q fm s'):
  wpAny (model X.prog X.w) A (call (.builtin "dict.get") [.ref a,u,r]) Q E s:=by
 rcases g with⟨ah,k,e,f9,l⟩|⟨ah,k,b,e,f9,eF,l⟩
 .subst f9;obtain⟨z,hd,af,rel,dd⟩:=sh I.bz e;refine call_meetsIn adX dd.typeIs aeO (aeH _ _ _) (meets_dict_get_default (g6 X.prog X.w) a (tB bL) hd r) ⟨_,dd.mapOf,h _ _ (I.tok _) ?_⟩;rw[l];exact(rel.val k).getD dE
 .subst f9;cases (show u=Value.ref b from bL);obtain⟨z,hd,xs,rel,dd⟩:=sl I.bz e;refine call_meetsIn adX dd.typeIs aeO (aeH _ _ _) (meetsH_dict_get_default (tupleKind (g6 X.prog X.w)) a b hd r) ⟨aeq bc,k,xs,wi I.bz eF,dd,h _ _ (I.tok _) ?_⟩;rw[l];exact(rel.val k).getD dE
end
noncomputable def X1(jf ty xt:TE):TE:=λσ H Q=>jf σ H λx H1=>∃a,x=.ref a/\CZ H1 a/\ty σ H1 λy aR=>xt σ aR λz bj=>∃o,mB bj a y o/\Q (o.getD z) bj
section
variable{X:aU}{o e f:Expr}{apos e8:Pos}{jf ty xt:TE}
def UM(bc:X.A.units+1<cLine)(av:aO X o jf)(he:aO X e ty)(hf:aO X f xt)(m:M2 X o "get" apos e f e8):aO X (.Call (.Attribute o "get" apos) [e,f] [] e8) (X1 jf ty xt):=by
 intro pins s σ H Q I h;refine wpAny_Call_method m.base m.zF m.line PySem.F.plainAttrs_dict adX PySem.F.type_dict_get (bR (av pins s σ H _ I h) λu s1 ⟨x,H1,aY,bf,a,ex,d,aM⟩=>?_);subst ex;obtain rfl:u=Value.ref a:=bf;obtain⟨t1,dZ,_⟩:=R6 aY d;refine⟨t1,dZ,?_⟩;rw[m.trees];refine adN rfl (aeg (acP (bR (he pins s1 σ H1 _ aY aM) λkO s2 ⟨y,aR,cb,bL,a7⟩ =>
  acP (bR (hf pins s2 σ aR _ cb a7) λZ7 s3 ⟨z,bj,er,Wh,mc,g,bU⟩=>adl ?_))))
 exact NK bc er g bL Wh λfm s4 gn iq=>⟨_,bj,gn,iq,bU⟩
end
section
variable{X:aU}{pins:List (Addr×Obj)}{σ:St}{H:aB}{s:Shared}{a:Addr}{ah:List (Key×V)}{A:Around}{E:Value->Shared->Prop}
end
section
variable{X:aU}{pins:List (Addr×Obj)}{σ:St}{H:aB}{s:Shared}{a:Addr}{y:V}{u:Value}{A:Around}{E:Value->Shared->Prop}
end
end bu
end
set_option autoImplicit true
set_option linter.all false
set_option maxRecDepth 100000
set_option maxHeartbeats 8000000
local macro_rules|`(tactic|lia)=>`(tactic|first | decide | assumption | exact Nat.le_trans (by assumption) (by decide) | exact Nat.lt_succ_of_le (by assumption) | exact Nat.le_of_succ_le_succ (by assumption) | exact Nat.le_succ_of_le (by assumption) | exact Nat.le_of_lt (by assumption) | exact Nat.not_le.mp (by assumption) | exact Nat.not_lt.mp (by assumption) | exact Int.le_trans (by assumption) (by decide)|lia -verbose)
local macro_rules|`(⋯)=>`(by lia)
local macro_rules|`(∅)=>`(by decide)
section
namespace Den
open PySem
inductive R(α:Type) where
 |ok (a:α)
 |exc (c:Nat)
 |bad
def R.bind{α β:Type}:R α->(α->R β)->R β
 |.ok a,f=>f a
 |.exc c,_=>.exc c
 |.bad,_=>.bad
noncomputable instance:Monad R where
 pure:=R.ok
 bind:=R.bind
def ba{α:Type}{a b:α}(h:a=b):a=b:=h
@[simp] theorem R.il {α β:Type} (a) (f:α->R β):(R.ok a>>=f)=f a:=ba rfl
@[simp] theorem R.O6 {α β:Type} (c) (f:α->R β):(R.exc c>>=f)=R.exc c:=ba rfl
@[simp] theorem R.ZW {α β:Type} (f:α->R β):(R.bad>>=f)=R.bad:=ba rfl
@[simp] theorem R.aaT {α:Type} (a):(pure a:R α)=R.ok a:=rfl
inductive D where
 |dT
 |aP (b:Bool)
 |int (i:Int)
 |str (x:Str)
 |tup (xs:List D)
 |lst (xs:List D)
 |bY (ah:List (List Int×Int))
 |bH (ah:List (Int×Int×Int))
 |cN (ah:List (List Int×List (List Int)))
 |hJ (c:Nat)
mutual
noncomputable def fs:D->D->Bool
 |.dT,.dT=>true
 |.aP a,.aP b=>a==b
 |.aP a,.int j=>(if a then 1 else 0)==j
 |.int i,.aP b=>i==(if b then 1 else 0)
 |.int i,.int j=>i==j
 |.str x,.str y=>x==y
 |.tup xs,.tup ys=>iX xs ys
 |.lst xs,.lst ys=>iX xs ys
 |_,_=>false
noncomputable def iX:List D->List D->Bool
 |[],[]=>true
 |x::xs,y::ys=>fs x y&&iX xs ys
 |_,_=>false
end
mutual
noncomputable def i8:D->D->Option Bool
 |.int i,.int j=>some (decide (i<j))
 |.tup xs,.tup ys=>jx xs ys
 |_,_=>none
noncomputable def jx:List D->List D->Option Bool
 |[],[]=>some false
 |[],_::_=>some true
 |_::_,[]=>some false
 |x::xs,y::ys=>if fs x y then jx xs ys else i8 x y
end
noncomputable def fJ:Nat->D->Bool
 |0,.int _=>true
 |n+1,.tup xs=>xs.all (fJ n)
 |_,_=>false
noncomputable def qI(x:D):List D->List D
 |[]=>[x]
 |y::ys=>if i8 y x=some true then y::qI x ys else x::y::ys
noncomputable def hq:List D->List D
 |[]=>[]
 |x::xs=>qI x (hq xs)
noncomputable def lE:List D->List D
 |[]=>[]
 |x::xs=>if xs.any (fs x) then lE xs else x::lE xs
noncomputable def nE:D->Bool
 |.tup (x::xs)=>fJ 0 x&&xs.all (fJ 0)
 |_=>false
noncomputable def nD:D->Bool
 |.tup (x::xs)=>nE x&&xs.all nE
 |_=>false
noncomputable def ih(xs:List D):Bool:=xs.all (fJ 0)||xs.all nE
noncomputable def SZ:Nat:=16777216
noncomputable def hc:Int:=18446744073709551616
noncomputable def sorted(xs:List D):R D:=if (ih xs||xs.all nD)&&xs.length<=63 then .ok (.lst (hq xs)) else .bad
noncomputable def eK(xs:List D):R D:=if ih xs&&(lE xs).length<=63 then .ok (.lst (hq (lE xs))) else .bad
inductive Op where
 |add|sub|mul|fdiv|mod|and|xor
inductive rD where
 |eq|ne|lt|gt|mem|jd
noncomputable def ot(i j:Int):R D:=if 0<=i then(if 0<=j then .ok (.int (i.toNat &&& j.toNat:Nat)) else .ok (.int (i-(i.toNat &&& (-j-1).toNat:Nat)))) else .bad
noncomputable def uD(i j:Int):R D:=if 0<=i/\0<=j then .ok (.int (i.toNat ^^^ j.toNat:Nat)) else .bad
noncomputable def ec:Op->D->D->R D
 |.and,.int i,.int j=>ot i j
 |.xor,.int i,.int j=>uD i j
 |.add,.int i,.int j=>.ok (.int (i+j))
 |.add,.tup xs,.tup ys=>if xs.length+ys.length<=SZ then .ok (.tup (xs++ys)) else .bad
 |.add,.lst xs,.lst ys=>if xs.length+ys.length<=SZ then .ok (.lst (xs++ys)) else .bad
 |.sub,.int i,.int j=>.ok (.int (i-j))
 |.mul,.int i,.int j=>if (-hc<i/\i<hc)\/(-hc<j/\j<hc) then .ok (.int (i*j)) else .bad
 |.fdiv,.int i,.int j=>if 0<j/\j<1073741824 then .ok (.int (i / j)) else .bad
 |.mod,.int i,.int j=>if 0<j then .ok (.int (i%j)) else .bad
 |_,_,_=>.bad
noncomputable def ik:R Bool->R Bool
 |.ok b=>.ok (!b)
 |.exc c=>.exc c
 |.bad=>.bad
noncomputable def cL:Nat->D->Bool
 |_,.dT=>true
 |_,.aP _=>true
 |_,.int _=>true
 |_,.str x=>x.cps.all (· < 0x110000)
 |n+1,.tup xs=>xs.all (cL n)
 |n+1,.lst xs=>xs.all (cL n)
 |_,_=>false
noncomputable def fG(x y:D):R Bool:=if cL 60 x&&cL 60 y then .ok (fs x y) else .bad
noncomputable def memD(x:D)(xs:List D):Bool:=xs.any λy=>fs y x
noncomputable def hO(x:D)(ys:List D):R Bool:=if cL 60 x&&ys.all (cL 60) then .ok (memD x ys) else .bad
noncomputable def Bp:Option Bool->R Bool
 |some b=>.ok b
 |none=>.bad
noncomputable def wq(x y:D):R Bool:=if (fJ 0 x&&fJ 0 y)||(fJ 1 x&&fJ 1 y) then Bp (i8 x y) else .bad
noncomputable def fF:rD->D->D->R Bool
 |.eq,x,y=>fG x y
 |.ne,x,y=>ik (fG x y)
 |.lt,x,y=>wq x y
 |.gt,.int i,.int j=>.ok (decide (j<i))
 |.mem,x,.tup ys=>hO x ys
 |.mem,x,.lst ys=>hO x ys
 |.jd,x,.tup ys=>ik (hO x ys)
 |.jd,x,.lst ys=>ik (hO x ys)
 |_,_,_=>.bad
noncomputable def hM(n:Nat)(i:Int):Option Nat:=if 0<=i then(if i<n then some i.toNat else none) else(if 0<=i+n then some (i+n).toNat else none)
def iz{α:Type}(xs:List α)(i:Int):Option α:=(hM xs.length i).bind (xs[·]?)
noncomputable def fw:D->D->R D
 |.tup xs,.int i=>match iz xs i with|some d=>.ok d|none=>.bad
 |.lst xs,.int i=>match iz xs i with|some d=>.ok d|none=>.bad
 |_,_=>.bad
noncomputable def bN(n d:Nat):Option Int->Nat
 |none=>d
 |some i=>if i<0 then(if i+n<0 then 0 else(i+n).toNat) else(if (n:Int)<i then n else i.toNat)
def cut{α:Type}(xs:List α)(lo ai:Option Int):List α:=(xs.drop (bN xs.length 0 lo)).take (bN xs.length xs.length ai-bN xs.length 0 lo)
noncomputable def k4(d:D)(lo ai:Option Int):R D:=match d with
 |.tup xs=>.ok (.tup (cut xs lo ai))
 |.lst xs=>.ok (.lst (cut xs lo ai))
 |_=>.bad
noncomputable def kP:D->R D
 |.tup xs=>.ok (.int xs.length)
 |.lst xs=>.ok (.int xs.length)
 |_=>.bad
inductive Ty where
 |int|bool|str|tuple|cls (c:Nat)
noncomputable abbrev ko:=Nat->List Nat
noncomputable def aay(up:ko)(d:D):Ty->R Bool
 |.int=>.ok (match d with|.int _=>true|.aP _=>true|_=>false)
 |.bool=>.ok (match d with|.aP _=>true|_=>false)
 |.str=>.ok (match d with|.str _=>true|_=>false)
 |.tuple=>.ok (match d with|.tup _=>true|_=>false)
 |.cls c=>match d with|.hJ k=>.ok ((up k).contains c)|_=>.bad
noncomputable def eg:D->R (List D)
 |.tup xs=>.ok xs
 |.lst xs=>.ok xs
 |_=>.bad
noncomputable def eT(lo ai:Int):List D:=(List.range (ai-lo).toNat).map λk=>.int (lo+(k:Nat))
noncomputable def pC(i:Int):Bool:=decide (-4611686018427387904<=i/\i<4611686018427387904)
noncomputable def kZ(i j:Int):R (List D):=if pC i&&pC j&&decide ((j-i).toNat<=1000000) then .ok (eT i j) else .bad
inductive es where
 |len|sorted|eK|sum|max|all|any
mutual
inductive E where
 |var (i:Nat)
 |lit (d:D)
 |tup (a:A)
 |lst (a:A)
 |bin (op:Op) (a b:E)
 |not (a:E)
 |neg (a:E)
 |cmp (op:rD) (a b:E)
 |and (a b:E)
 |idx (a b:E)
 |slice (a:E) (lo ai:O)
 |call (f:Nat) (a:A)
 |prim (p:es) (a:E)
 |tupI (s:I)
 |kS (s:I)
 |comp (elt:E) (k:Nat) (s:I) (c:O)
 |gY (i j:Nat)
 |kR (i j:Nat)
 |oE (i j:Nat)
 |qh (i j:Nat)
 |qi
inductive A where
 |nil
 |cons (e:E) (a:A)
inductive O where
 |none
 |some (e:E)
inductive I where
 |seq (e:E)
 |ff (a:E)
 |lG (i:Nat)
end
noncomputable abbrev bx:=List (Option D)
noncomputable abbrev fo:=Nat->List D->R D
noncomputable def gI:Nat->D->R (List (Option D))
 |0,d=>.ok [some d]
 |k,.tup xs=>if xs.length=k then .ok (xs.map some) else .bad
 |_,_=>.bad
noncomputable def cY(f:D->R (Option D)):List D->R (List D)
 |[]=>.ok []
 |d::ds=>f d>>=λo=>cY f ds>>=λr=>match o with|some x=>.ok (x::r)|none=>.ok r
def l9{α:Type}:R α->R α
 |.exc _=>.bad
 |r=>r
noncomputable def ix:List D->Option (List Bool)
 |[]=>some []
 |.aP b::xs=>(ix xs).map (b::·)
 |_=>none
noncomputable def mP(xs:List D):R Bool:=match ix xs with
 |some bs=>.ok (bs.all id)
 |none=>.bad
noncomputable def mQ(xs:List D):R Bool:=match ix xs with
 |some bs=>.ok (bs.any id)
 |none=>.bad
noncomputable def intsOf:List D->Option (List Int)
 |[]=>some []
 |.int i::xs=>(intsOf xs).map (i::·)
 |_=>none
noncomputable def qR:D->R (List D)
 |.lst xs=>.ok xs
 |_=>.bad
noncomputable def k9(xs:List D):R D:=match intsOf xs with
 |some ns=>.ok (.int ns.sum)
 |none=>.bad
noncomputable def kT(xs:List D):R D:=match intsOf xs with
 |some (n::ns)=>.ok (.int (ns.foldl (λm x=>if x>m then x else m) n))
 |_=>.bad
noncomputable def kV(up:ko):es->D->R D
 |.len,d=>kP d
 |.sorted,d=>eg d>>=λxs=>sorted xs
 |.eK,d=>eg d>>=λxs=>eK xs
 |.sum,d=>qR d>>=λxs=>k9 xs
 |.max,d=>qR d>>=λxs=>kT xs
 |.all,d=>eg d>>=λxs=>mP xs>>=λb=>.ok (.aP b)
 |.any,d=>eg d>>=λxs=>mQ xs>>=λb=>.ok (.aP b)
noncomputable def pR(ah:List (List Int×Int))(k:List Int):Option Int:=(ah.find? λp=>decide (p.1=k)).map (·.2)
noncomputable def putN(ah:List (List Int×Int))(k:List Int)(n:Int):List (List Int×Int):=if (ah.any λp=>decide (p.1=k))=true then ah.map (λp=>if p.1=k then(p.1,n) else p) else ah++[(k,n)]
noncomputable def pE(r:Int×Int):D:=.tup [.int r.1,.int r.2]
noncomputable def n4(ah:List (Int×Int×Int))(k:Int):Option (Int×Int):=(ah.find? λp=>decide (p.1=k)).map (·.2)
noncomputable def me(ah:List (Int×Int×Int))(k:Int)(r:Int×Int):List (Int×Int×Int):=if (ah.any λp=>decide (p.1=k))=true then ah.map (λp=>if p.1=k then(p.1,r) else p) else ah++[(k,r)]
noncomputable def ku:Option (Option D)->Option (List (List Int×Int))
 |some (some (.bY ah))=>some ah
 |_=>none
noncomputable def jn:Option (Option D)->Option (List (Int×Int×Int))
 |some (some (.bH ah))=>some ah
 |_=>none
noncomputable def rowOf:D->Option (Int×Int)
 |.tup ds=>(match intsOf ds with|some [a,b]=>some (a,b)|_=>none)
 |_=>none
noncomputable def intD:D->Option Int
 |.int i=>some i
 |_=>none
noncomputable def fX:D->Option (List Int)
 |.tup ds=>intsOf ds
 |_=>none
def ew{α:Type}(f:D->Option α):Option (Option D)->Option α
 |some (some d)=>f d
 |_=>none
noncomputable def fQ(cs:List (List Int)):D:=.tup (cs.map λc=>.tup (c.map .int))
noncomputable def pQ:List D->Option (List (List Int))
 |[]=>some []
 |x::xs=>(match fX x,pQ xs with|some k,some ar=>some (k::ar)|_,_=>none)
noncomputable def qe:D->Option (List (List Int))
 |.tup xs=>pQ xs
 |_=>none
noncomputable def hv(ah:List (List Int×List (List Int)))(k:List Int):Option (List (List Int)):=(ah.find? λp=>decide (p.1=k)).map (·.2)
noncomputable def nW(ah:List (List Int×List (List Int)))(k:List Int)(r:List (List Int)):List (List Int×List (List Int)):=if (ah.any λp=>decide (p.1=k))=true then ah.map (λp=>if p.1=k then(p.1,r) else p) else ah++[(k,r)]
noncomputable def ks:Option (Option D)->Option (List (List Int×List (List Int)))
 |some (some (.cN ah))=>some ah
 |_=>none
noncomputable def zm(o p:Option (Option D)):R D:=match ks o,ew fX p with
 |some ah,some k=>(match hv ah k with|some cs=>.ok (fQ cs)|none=>.bad)
 |_,_=>.bad
noncomputable def kx(o p:Option (Option D)):R D:=match ku o,ew fX p with
 |some ah,some k=>(match pR ah k with|some n=>.ok (.int n)|none=>.bad)
 |_,_=>(match jn o,ew intD p with|some ah,some k=>(match n4 ah k with|some r=>.ok (pE r)|none=>.bad)|_,_=>zm o p)
noncomputable def vf(o p:Option (Option D))(d:D):R D:=match ks o,ew fX p,qe d with
 |some ah,some k,some cs=>if ah.length<1000 then .ok (.cN (nW ah k cs)) else .bad
 |_,_,_=>.bad
noncomputable def oJ(o p:Option (Option D))(d:D):R D:=match ku o,ew fX p,intD d with
 |some ah,some k,some n=>if ah.length<1000 then .ok (.bY (putN ah k n)) else .bad
 |_,_,_=>(match jn o,ew intD p,rowOf d with|some ah,some k,some r=>if ah.length<1000 then .ok (.bH (me ah k r)) else .bad|_,_,_=>vf o p d)
noncomputable def si(p q:Option (Option D)):R D:=match ew intD p,ew rowOf q with
 |some k,some r=>.ok (.bH [(k,r)])
 |_,_=>.bad
noncomputable def zp(o:Option (Option D)):R (List D):=match ks o with
 |some ah=>.ok (ah.map λp=>.tup (p.1.map .int))
 |none=>.bad
noncomputable def oF(o:Option (Option D)):R (List D):=match ku o with
 |some ah=>.ok (ah.map λp=>.tup (p.1.map .int))
 |none=>(match jn o with|some ah=>.ok (ah.map λp=>.int p.1)|none=>zp o)
noncomputable def qg(o p:Option (Option D)):R D:=match ks o,ew fX p with
 |some ah,some k=>.ok (fQ ((hv ah k).getD []))
 |_,_=>.bad
noncomputable def wa:D->Option (List Int)
 |.lst xs=>intsOf xs
 |_=>none
noncomputable def qP(o p:Option (Option D)):R D:=match ew wa o,ew intD p with
 |some ar,some k=>if k∈ar/\ar.length<=1000 then .ok (.int (ar.idxOf k:Nat)) else .bad
 |_,_=>.bad
noncomputable def wo:Option (Option D)->R D
 |some (some (.lst ds))=>.ok (.lst ds)
 |_=>.bad
noncomputable def sg:Option (Option D)->R D
 |some (some (.bY ah))=>.ok (.bY ah)
 |some (some (.bH ah))=>.ok (.bH ah)
 |_=>.bad
noncomputable def f6:D->R Bool
 |.aP b=>.ok b
 |_=>.bad
noncomputable def iU:D->R Int
 |.int i=>.ok i
 |_=>.bad
noncomputable def zR:Option (Option D)->R D
 |some (some d)=>.ok d
 |_=>.bad
structure eX where
 up:ko
 cs:List D
section
variable(pg:eX)(Φ:fo)
mutual
noncomputable def ev (ρ:bx):E->R D
 |.var i=>zR ρ[i]?
 |.lit d=>.ok d
 |.tup a=>hY ρ a>>=λds=>.ok (.tup ds)
 |.lst a=>hY ρ a>>=λds=>.ok (.lst ds)
 |.bin op a b=>ev ρ a>>=λx=>ev ρ b>>=λy=>ec op x y
 |.neg a=>ev ρ a>>=λx=>iU x>>=λi=>.ok (.int (-i))
 |.not a=>ev ρ a>>=λx=>f6 x>>=λb=>.ok (.aP (!b))
 |.cmp op a b=>ev ρ a>>=λx=>ev ρ b>>=λy=>fF op x y>>=λc=>.ok (.aP c)
 |.and a b=>ev ρ a>>=λx=>f6 x>>=λk=>if k then ev ρ b else .ok (.aP false)
 |.idx a b=>ev ρ a>>=λx=>ev ρ b>>=λy=>fw x y
 |.slice a lo ai=>ev ρ a>>=λx=>nc ρ lo>>=λl=>nc ρ ai>>=λh=>k4 x l h
 |.call f a=>hY ρ a>>=λds=>Φ f ds
 |.prim p a=>ev ρ a>>=λx=>kV pg.up p x
 |.tupI s=>hI ρ s>>=λds=>.ok (.tup ds)
 |.kS s=>hI ρ s>>=λds=>.ok (.lst ds)
 |.gY i j=>kx ρ[i]? ρ[j]?
 |.kR i j=>qP ρ[i]? ρ[j]?
 |.oE i j=>qg ρ[i]? ρ[j]?
 |.qh i j=>si ρ[i]? ρ[j]?
 |.qi=>.ok (.bH [])
 |.comp e k s c=>hI ρ s>>=λds=>l9 (cY (λd=>gI k d>>=λaf=>m9 (ρ++af) c>>=λb=>if b then ev (ρ++af) e>>=λy=>.ok (some y) else .ok none) ds)>>=λys=>.ok (.lst ys)
noncomputable def hY (ρ:bx):A->R (List D)
 |.nil=>.ok []
 |.cons e a=>ev ρ e>>=λx=>hY ρ a>>=λxs=>.ok (x::xs)
noncomputable def nc (ρ:bx):O->R (Option Int)
 |.none=>.ok none
 |.some e=>ev ρ e>>=λx=>iU x>>=λi=>.ok (some i)
noncomputable def m9 (ρ:bx):O->R Bool
 |.none=>.ok true
 |.some e=>ev ρ e>>=λx=>f6 x
noncomputable def hI (ρ:bx):I->R (List D)
 |.seq e=>ev ρ e>>=λx=>eg x
 |.ff a=>ev ρ a>>=λx=>iU x>>=λi=>kZ 0 i
 |.lG i=>oF ρ[i]?
end
end
structure aR where
 j:Nat
 i:Nat
 ar:List Nat
 k5:Nat
 eI:Nat
noncomputable def vW(up:ko)(ar:List Nat)(k5 eI:Nat):Bool:=(up 1).contains k5&&((up 1).contains eI&&!(ar.map λk=>(up 1).contains k).any id)
noncomputable def jc:Str:="none"
mutual
inductive S where
 |asg (i:Nat) (e:E)
 |app (i:Nat) (e:E)
 |oG (i:Nat)
 |pB (i:Nat)
 |q8 (i:Nat)
 |oI (i:Nat)
 |iy (i j:Nat) (e:E)
 |oH (i:Nat)
 |rt (c:E) (b:B)
 |pG (i:Nat) (e:E)
 |pop (i:Nat)
 |q9 (i:Nat) (e:E)
 |stop
 |raise (c:Nat)
 |pO (i:Nat) (e:E) (k:Nat) (h:aR)
 |ext (i:Nat) (e:E)
 |ret (e:E)
 |iff (c:E) (a b:B)
 |fc (k:Nat) (ts:List Nat) (s:I) (b:B)
inductive B where
 |nil
 |cons (s:S) (b:B)
end
inductive ep where
 |br (ρ:bx)
 |cP (d:D)
noncomputable def mg:List Nat->List (Option D)->bx->bx
 |i::is,v::af,ρ=>mg is af (ρ.set i v)
 |_,_,ρ=>ρ
noncomputable def forL(f:D->bx->R ep):List D->bx->R ep
 |[],ρ=>.ok (.br ρ)
 |d::ds,ρ=>f d ρ>>=λr=>match r with
  |.br bK=>forL f ds bK
  |.cP x=>.ok (.cP x)
noncomputable def lh(c:bx->R Bool)(f:bx->R ep):Nat->bx->R ep
 |0,_=>.bad
 |n+1,ρ=>c ρ>>=λk=>if k then(f ρ>>=λr=>match r with
  |.br bK=>lh c f n bK
  |.cP x=>.ok (.cP x)) else .ok (.br ρ)
noncomputable def u4:Option (Option D)->R Unit
 |some (some (.cN _))=>.ok ()
 |_=>.bad
noncomputable def ui:Option (Option D)->D->R D
 |some (some (.lst (_::xs))),d=>.ok (.lst (d::xs))
 |_,_=>.bad
noncomputable def wZ:Option (Option D)->R D
 |some (some (.lst (x::xs)))=>.ok (.lst (x::xs).dropLast)
 |_=>.bad
noncomputable def jq(pg:eX)(c k:Nat)(h:aR):R ep:=if c==1&&((pg.up c).contains k&&vW pg.up h.ar h.k5 h.eI) then .ok (.cP (.str jc)) else .bad
noncomputable def J5:R ep->(Nat->R ep)->R ep
 |.ok r,_=>.ok r
 |.exc c,f=>f c
 |.bad,_=>.bad
noncomputable def rT:Option (Option D)->D->R D
 |some (some (.lst xs)),d=>if xs.length<SZ then .ok (.lst (xs++[d])) else .bad
 |_,_=>.bad
noncomputable def ql:Option (Option D)->D->R D
 |some (some (.lst xs)),.lst ys=>if xs.length+ys.length<=SZ then .ok (.lst (xs++ys)) else .bad
 |some (some (.lst xs)),.tup ys=>if xs.length+ys.length<=SZ then .ok (.lst (xs++ys)) else .bad
 |_,_=>.bad
noncomputable def mU:Option (Option D)->R Unit
 |some (some (.lst _))=>.ok ()
 |_=>.bad
section
variable(pg:eX)(Φ:fo)
mutual
noncomputable def ex (ρ:bx):S->R ep
 |.asg i e=>ev pg Φ ρ e>>=λd=>.ok (.br (ρ.set i (some d)))
 |.app i e=>mU ρ[i]?>>=λ_=>ev pg Φ ρ e>>=λd=>rT ρ[i]? d>>=λx=>.ok (.br (ρ.set i (some x)))
 |.ret e=>ev pg Φ ρ e>>=λd=>.ok (.cP d)
 |.pB i=>wo ρ[i]?>>=λd=>.ok (.cP d)
 |.q8 i=>sg ρ[i]?>>=λd=>.ok (.cP d)
 |.oG i=>.ok (.br (ρ.set i (some (.bY []))))
 |.oI i=>.ok (.br (ρ.set i (some (.bH []))))
 |.iy i j e=>ev pg Φ ρ e>>=λd=>oJ ρ[i]? ρ[j]? d>>=λx=>.ok (.br (ρ.set i (some x)))
 |.oH i=>.ok (.br (ρ.set i (some (.cN []))))
 |.rt c b=>lh (λbK=>ev pg Φ bK c>>=λx=>f6 x) (λbK=>eP bK b) 200 ρ
 |.pG i e=>ev pg Φ ρ e>>=λd=>ui ρ[i]? d>>=λx=>.ok (.br (ρ.set i (some x)))
 |.pop i=>wZ ρ[i]?>>=λx=>.ok (.br (ρ.set i (some x)))
 |.q9 i e=>u4 ρ[i]?>>=λ_=>ev pg Φ ρ e>>=λd=>.ok (.cP d)
 |.stop=>.bad
 |.raise c=>.exc c
 |.pO i e k h=>J5 (ev pg Φ ρ e>>=λd=>.ok (.br (ρ.set i (some d)))) λc=>jq pg c k h
 |.ext i e=>mU ρ[i]?>>=λ_=>ev pg Φ ρ e>>=λd=>ql ρ[i]? d>>=λx=>.ok (.br (ρ.set i (some x)))
 |.iff c a b=>ev pg Φ ρ c>>=λx=>f6 x>>=λk=>if k then eP ρ a else eP ρ b
 |.fc k ts s b=>hI pg Φ ρ s>>=λds=>forL (λd bK=>gI k d>>=λaf=>eP (mg ts af bK) b) ds ρ
noncomputable def eP (ρ:bx):B->R ep
 |.nil=>.ok (.br ρ)
 |.cons s b=>ex ρ s>>=λr=>match r with
  |.br bK=>eP bK b
  |.cP d=>.ok (.cP d)
end
end
structure lu where
 np:Nat
 nl:Nat
 body:B
noncomputable def start(fd:lu)(ds:List D):bx:=ds.map some++List.replicate fd.nl none
noncomputable def sy:R ep->R D
 |.ok (.cP d)=>.ok d
 |.ok (.br _)=>.ok .dT
 |.exc c=>.exc c
 |.bad=>.bad
noncomputable def cV(pg:eX)(Φ:fo)(fd:lu)(ds:List D):R D:=if ds.length=fd.np then sy (eP pg Φ (start fd ds) fd.body) else .bad
noncomputable def run(pg:eX)(fds:List lu):Nat->fo
 |0=>λ_ _=>.bad
 |n+1=>λf ds=>match fds[f]? with
  |some fd=>cV pg (run pg fds n) fd ds
  |none=>.bad
def ub(pg:eX)(fds:List lu)(n f:Nat)(ds:List D):run pg fds (n+1) f ds=(match fds[f]? with|some fd=>cV pg (run pg fds n) fd ds|none=>.bad):=rfl
structure Gt where
 fns:List Str
 cls:List Str
 sI:List Str
structure dy where
 N:List Str
 sc:Scope
 mu:List Nat
noncomputable def jI(sc:Scope)(x:Str):Bool:=sc.names.lookup x==some .local||sc.names.lookup x==some .cell||sc.names.lookup x==some .free
noncomputable def j2(sc:Scope)(x:Str):Bool:=sc.names.lookup x==some .local||sc.names.lookup x==some .cell
noncomputable def kB(sc:Scope)(x:Str):Bool:=sc.names.lookup x==some .globalImplicit
noncomputable def okN(x:Str):Bool:=!(x==("__debug__":Str))&&!(x==("__classdict__":Str))&&!(x==("__name__":Str))
noncomputable def HI:Op->Operator->Bool
 |.add,.Add=>true|.sub,.Sub=>true|.mul,.Mult=>true|.fdiv,.FloorDiv=>true|.mod,.Mod=>true|.and,.BitAnd=>true|.xor,.BitXor=>true
 |_,_=>false
noncomputable def DY:rD->CmpOp->Bool
 |.mem,.In=>true|.jd,.NotIn=>true|.eq,.Eq=>true|.ne,.NotEq=>true|.lt,.Lt=>true|.gt,.Gt=>true 
 |_,_=>false
noncomputable def litOk:D->Const->Bool
 |.dT,.none=>true
 |.aP a,.bool b=>a==b
 |.int i,.int j=>i==j
 |.str x,.str y=>x==y
 |_,_=>false
noncomputable def tyName:Ty->Str
 |.int=>"int"|.bool=>"bool"|.str=>"str"|.tuple=>"tuple"|.cls _=>""
noncomputable def tZ:es->Str
 |.len=>"len"|.sorted=>"sorted"|.sum=>"sum"|.max=>"max"|.all=>"all"|.any=>"any"|_=>""
noncomputable def t2:es->Bool
 |.len=>true|.sorted=>true|.sum=>true|.max=>true|.all=>true|.any=>true|_=>false
noncomputable def nameOf:Expr->Option Str
 |.Name x _=>some x
 |_=>none
noncomputable def namesOf:List Expr->Option (List Str)
 |[]=>some []
 |e::aj=>match nameOf e,namesOf aj with|some x,some xs=>some (x::xs)|_,_=>none
noncomputable def fl:Nat->Expr->Option (List Str)
 |0,.Name x _=>some [x]
 |k+1,.Tuple aj _ _=>match namesOf aj with|some xs=>if xs.length=k+1 then some xs else none|none=>none
 |_,_=>none
noncomputable def mask(N xs:List Str):List Str:=N.map λn=>if xs.contains n then(((".":Str))++n) else n
noncomputable def nU:I->Bool:=λ_=>false
noncomputable def xe:I->Bool
 |.seq _=>true
 |.ff _=>true
 |_=>false
noncomputable def wF:Expr->Bool
 |.ListComp ..=>false
 |_=>true
noncomputable def fE(g:Gt)(sc:Scope)(x:Str):Bool:=kB sc x&&!(g.fns.contains x)&&!(g.cls.contains x)&&!(g.sI.contains x)
noncomputable def gk:Expr->Option Str
 |.Name x _=>some x
 |_=>none
noncomputable def uy:Expr->Option Const
 |.Constant c _ _=>some c
 |_=>none
noncomputable def CJ:Expr->Option (List Expr)
 |.Tuple aj _ _=>some aj
 |_=>none
noncomputable def CI:Expr->Option (List Expr)
 |.List aj _=>some aj
 |_=>none
noncomputable def CE:Expr->Option (Expr×Operator×Expr)
 |.BinOp x o y _=>some (x,o,y)
 |_=>none
noncomputable def xD:Expr->Option (UnaryOp×Expr)
 |.UnaryOp o x _=>some (o,x)
 |_=>none
noncomputable def Kg:Expr->Option (Expr×List CmpOp×List Expr)
 |.Compare x os ys _=>some (x,os,ys)
 |_=>none
noncomputable def vBool:Expr->Option (BoolOp×List Expr×Pos)
 |.BoolOp o aj p=>some (o,aj,p)
 |_=>none
noncomputable def uz:Expr->Option (Expr×Expr)
 |.Subscript x y _=>some (x,y)
 |_=>none
noncomputable def Kl:Expr->Option (Option Expr×Option Expr×Option Expr)
 |.Slice l h t _=>some (l,h,t)
 |_=>none
noncomputable def ux:Expr->Option (Expr×List Expr×List Keyword)
 |.Call f aj ar _=>some (f,aj,ar)
 |_=>none
noncomputable def jH(x:Expr):Option (Str×List Expr):=match ux x with
 |some (f,aj,[])=>(match gk f with|some y=>some (y,aj)|none=>none)
 |_=>none
noncomputable def xx:Expr->Option (Expr×Str×Pos)
 |.Attribute o n p=>some (o,n,p)
 |_=>none
noncomputable def Kh:Expr->Option (Expr×List Comprehension×Scope)
 |.ListComp x nj sc _=>some (x,nj,sc)
 |_=>none
noncomputable def tyB(g:Gt)(ct:dy)(n:Str):Ty->Bool
 |.cls c=>kB ct.sc n&&okN n&&(if c=1000 then n==("ValueError":Str)&&fE g ct.sc n else g.cls[c]?==some n)
 |t=>n==tyName t&&fE g ct.sc n
noncomputable def xF(g:Gt)(ct:dy)(x:Str)(e:Expr):Option Expr:=match jH e with
 |some (y,[a])=>if x==("sorted":Str)&&fE g ct.sc x&&y==("set":Str)&&fE g ct.sc y then some a else none
 |_=>none
noncomputable def Ks(g:Gt)(ct:dy)(x:Str)(p:es)(aj:List Expr):Option Expr:=match p with
 |.eK=>(match aj with|[e]=>xF g ct x e|_=>none)
 |p=>(match aj with|[e]=>if t2 p&&x==tZ p&&fE g ct.sc x then some e else none|_=>none)
noncomputable def r1(ct:dy)(sc:Scope)(xs:List Str):Bool:=decide (sc.kind=.function)&&sc.names.all (λy=>y.2 != .cell)&&sc.names.all (λy=>y.2 != .local||sc.names.lookup y.1==some .local)
 && xs.all (λy=>sc.names.lookup y==some .local&&okN y)&&decide xs.Nodup&&sc.names.all (λy=>y.2 != .local||xs.contains y.1||y.1==(".0":Str))
 && sc.names.all (λy=>y.2 != .free||(ct.sc.names.lookup y.1==some .cell||ct.sc.names.lookup y.1==some .free))&&((mask ct.N xs).zip ct.N).all (λp=>p.1==p.2||sc.names.lookup p.1==none)&&decide (mask ct.N xs++xs).Nodup&&!((mask ct.N xs++xs).contains (".0":Str))
noncomputable def wc:Expr->Bool
 |.Dict [] [] _=>true
 |_=>false
noncomputable def CG:Expr->Option (Str×Str)
 |.Dict [some (.Name n _)] [.Name k _] _=>some (n,k)
 |_=>none
noncomputable def rS(ct:dy)(i:Nat)(n:Str):Bool:=ct.N[i]?==some n&&jI ct.sc n&&okN n
noncomputable def nL(ct:dy)(i:Nat)(n:Str):Bool:=ct.N[i]?==some n&&jI ct.sc n&&okN n&&ct.mu.contains i
noncomputable def nV(ct:dy)(i:Nat)(n:Str):Bool:=ct.N[i]?==some n&&jI ct.sc n&&okN n&&!ct.mu.contains i
noncomputable def xB(z:Expr):Option (Str×Str):=match uz z with
 |some (x,y)=>(match gk x,gk y with|some n,some k=>some (n,k)|_,_=>none)
 |none=>none
noncomputable def xw(z:Expr):Option (Str×Str×Pos×Expr):=match ux z with
 |some (f,[y],[])=>(match xx f with
  |some (o,n,ap)=>(match gk o with|some x=>some (x,n,ap,y)|none=>none)
  |none=>none)
 |_=>none
noncomputable def CH(z:Expr):Option (Str×Str×Pos):=match ux z with
 |some (f,[k,o],[])=>(match xx f with
  |some (d,n,ap)=>(match gk d,gk k,CJ o with|some x,some y,some []=>if n==("get":Str) then some (x,y,ap) else none|_,_,_=>none)
  |none=>none)
 |_=>none
section
variable(g:Gt)
mutual
noncomputable def cc (ct:dy) (v:Bool):E->Expr->Bool
 |.var i,z=>(match gk z with|some x=>ct.N[i]?==some x&&jI ct.sc x&&okN x&&(v||!ct.mu.contains i)|none=>false)
 |.lit d,z=>(match uy z with|some c=>litOk d c|none=>false)
 |.tup a,z=>(match CJ z with|some aj=>mV ct a aj&&decide (aj.length<=1000)|none=>false)
 |.lst a,z=>(match CI z with|some aj=>mV ct a aj&&decide (aj.length<=1000)|none=>false)
 |.bin op a b,z=>(match CE z with|some (x,o,y)=>HI op o&&cc ct true a x&&cc ct true b y|none=>false)
 |.neg a,z=>(match xD z with|some (.USub,x)=>cc ct true a x|_=>false)
 |.not a,z=>(match xD z with|some (.Not,x)=>cc ct true a x|_=>false)
 |.cmp op a b,z=>(match Kg z with|some (x,[o],[y])=>DY op o&&cc ct true a x&&cc ct true b y|_=>false)
 |.and a b,z=>(match vBool z with|some (.And,[x,y],_)=>cc ct true a x&&cc ct v b y|some (.And,x::y::w::r,p)=>cc ct true a x&&cc ct v b (.BoolOp .And (y::w::r) p)|_=>false)
 |.idx a b,z=>(match uz z with|some (x,y)=>cc ct true a x&&cc ct true b y|none=>false)
 |.slice a lo ai,z=>(match uz z with|some (x,y)=>(match Kl y with|some (l,h,none)=>cc ct true a x&&r8 ct lo l&&r8 ct ai h|_=>false)|none=>false)
 |.call f a,z=>(match jH z with|some (x,aj)=>g.fns[f]?==some x&&kB ct.sc x&&okN x&&!aj.isEmpty&&mV ct a aj|none=>false)
 |.prim p a,z=>(match jH z with|some (x,aj)=>(match Ks g ct x p aj with|some e=>cc ct true a e|none=>false)|none=>false)
 |.tupI s,z=>(match jH z with|some (x,[e])=>x==("tuple":Str)&&fE g ct.sc x&&xe s&&hi ct true s e|_=>false)
 |.kS s,z=>(match jH z with|some (x,[e])=>x==("list":Str)&&fE g ct.sc x&&xe s&&hi ct true s e|_=>false)
 |.comp e k s c,z=>(match Kh z with
   |some (x,[⟨t,it,ifs,0⟩],sc)=>(match fl k t with
    |some xs=>(!nU s||k==2)&&r1 ct sc xs&&hi ct true s it&&cc ⟨mask ct.N xs++xs,sc,ct.mu⟩ false e x&&oC ⟨mask ct.N xs++xs,sc,ct.mu⟩ c ifs
    |none=>false)
   |_=>false)
 |.gY i j,z=>(match xB z with|some (n,k)=>rS ct i n&&nV ct j k|none=>false)
 |.oE i j,z=>(match CH z with|some (x,y,ap)=>nL ct i x&&nV ct j y&&(ap.endLine==z.pos.line)|none=>false)
 |.kR i j,z=>(match xw z with|some (x,n,ap,y)=>(match gk y with|some k=>n==("index":Str)&&(ap.endLine==z.pos.line)&&rS ct i x&&rS ct j k|none=>false)|none=>false)
 |.qh i j,z=>(match CG z with|some (n,k)=>nV ct i n&&nV ct j k|none=>false)
 |.qi,z=>wc z
noncomputable def mV (ct:dy):A->List Expr->Bool
 |.nil,[]=>true
 |.cons e a,x::xs=>cc ct false e x&&mV ct a xs
 |_,_=>false
noncomputable def r8 (ct:dy):O->Option Expr->Bool
 |.none,none=>true
 |.some e,some x=>cc ct true e x
 |_,_=>false
noncomputable def oC (ct:dy):O->List Expr->Bool
 |.none,[]=>true
 |.some e,[x]=>cc ct true e x
 |_,_=>false
noncomputable def hi (ct:dy) (v:Bool):I->Expr->Bool
 |.seq e,z=>cc ct v e z
 |.ff a,z=>(match jH z with|some (x,[y])=>x==("range":Str)&&fE g ct.sc x&&cc ct true a y|_=>false)
 |.lG i,z=>(match gk z with|some n=>nV ct i n|none=>false)
end
noncomputable def kA:E->Bool
 |.lst _=>true
 |.comp ..=>true
 |.bin .add _ _=>true
 |.prim .sorted _=>true
 |.prim .eK _=>true
 |.kS _=>true
 |_=>false
noncomputable def qf(ct:dy):List Nat->List Str->Bool
 |[],[]=>true
 |i::is,x::xs=>ct.N[i]?==some x&&j2 ct.sc x&&okN x&&!ct.mu.contains i&&qf ct is xs
 |_,_=>false
noncomputable def n1:Stmt->Option (List Expr×Expr)
 |.Assign ts y _=>some (ts,y)
 |_=>none
noncomputable def Cm:Stmt->Option Expr
 |.Expr y _=>some y
 |_=>none
noncomputable def n2:Stmt->Option (Option Expr)
 |.Return y _=>some y
 |_=>none
noncomputable def Cn:Stmt->Option (Expr×List Stmt×List Stmt)
 |.If t x y _=>some (t,x,y)
 |_=>none
noncomputable def xn:Stmt->Option (Expr×Expr×List Stmt×List Stmt)
 |.For t it x y _=>some (t,it,x,y)
 |_=>none
noncomputable def Cp:Stmt->Option Expr
 |.Raise (some y) none _=>some y
 |_=>none
noncomputable def JO:Stmt->Option (List Stmt×List ExceptHandler×List Stmt×List Stmt)
 |.Try a h e f _=>some (a,h,e,f)
 |_=>none
noncomputable def Zi:ExceptHandler->Option Expr×Option Str×List Stmt
 |.ExceptHandler t n b _=>(t,n,b)
noncomputable def u5(ct:dy)(i:Nat)(e:E)(z:Stmt):Bool:=match n1 z with
 |some ([t],y)=>(match gk t with|some x=>ct.N[i]?==some x&&j2 ct.sc x&&okN x&&(!ct.mu.contains i||kA e)&&cc g ct false e y|none=>false)
 |_=>false
noncomputable def u7(ct:dy)(i:Nat)(e:E)(nm:Str)(z:Stmt):Bool:=match Cm z with
 |some c=>(match xw c with|some (x,n,ap,y)=>(ap.endLine==c.pos.line)&&ct.N[i]?==some x&&jI ct.sc x&&okN x&&ct.mu.contains i&&n==nm&&cc g ct false e y|none=>false)
 |none=>false
noncomputable def lB(ct:dy)(i:Nat)(z:Stmt):Bool:=match n1 z with
 |some ([t],y)=>(match gk t with|some x=>ct.N[i]?==some x&&j2 ct.sc x&&okN x&&ct.mu.contains i&&wc y|none=>false)
 |_=>false
noncomputable def y4(ct:dy)(i j:Nat)(e:E)(z:Stmt):Bool:=match n1 z with
 |some ([t],v)=>(match xB t with|some (x,y)=>nL ct i x&&nV ct j y&&wF v&&cc g ct false e v|none=>false)
 |_=>false
noncomputable def JP:Stmt->Option (Expr×List Stmt×List Stmt)
 |.While t x y _=>some (t,x,y)
 |_=>none
noncomputable def za(ct:dy)(i:Nat)(e:E)(z:Stmt):Bool:=match n1 z with
 |some ([t],v)=>(match uz t with
  |some (x,y)=>(match gk x,uy y with|some n,some (.int k)=>k==0&&nL ct i n&&wF v&&cc g ct false e v|_,_=>false)
  |none=>false)
 |_=>false
noncomputable def y7(ct:dy)(i:Nat)(z:Stmt):Bool:=match Cm z with
 |some c=>(match ux c with
  |some (f,[],[])=>(match xx f with
   |some (o,n,ap)=>(match gk o with|some x=>n==("pop":Str)&&(ap.endLine==c.pos.line)&&nL ct i x|none=>false)
   |none=>false)
  |_=>false)
 |none=>false
noncomputable def y9(ct:dy)(i:Nat)(e:E)(z:Stmt):Bool:=match n2 z with
 |some (some y)=>ct.mu.contains i&&cc g ⟨ct.N,ct.sc,ct.mu.filter λj=>!(j==i)⟩ false e y
 |_=>false
noncomputable def y8(ct:dy)(c:Nat)(z:Stmt):Bool:=match Cp z with
 |some y=>(match jH y with
  |some (x,[a])=>(match uy a with|some (.str _)=>c==1&&g.cls[c]?==some x&&kB ct.sc x&&okN x|_=>false)
  |_=>false)
 |none=>false
noncomputable def r7(ct:dy)(n:Str)(k:Nat)(z:Expr):Bool:=match jH z with
 |some (x,[e,d])=>(match gk e,gk d with|some y,some t=>x==("isinstance":Str)&&fE g ct.sc x&&y==n&&tyB g ct t (.cls k)&&(k==1000||decide (k<g.cls.length))|_,_=>false)
 |_=>false
noncomputable def u6(ct:dy)(n:Str):List Nat->List Expr->Bool
 |[],[]=>true
 |k::ar,z::zs=>r7 g ct n k z&&u6 ct n ar zs
 |_,_=>false
noncomputable def y3(ct:dy)(k:Nat)(t:Expr):Bool:=match gk t with
 |some x=>g.cls[k]?==some x&&kB ct.sc x&&okN x
 |none=>false
noncomputable def Gn(y:Expr):Bool:=match uy y with
 |some (.str b)=>b==jc
 |_=>false
noncomputable def y5(ct:dy)(j i:Nat)(n:Str)(ar:List Nat)(k5 eI:Nat)(t1 dZ:Stmt):Bool:=match n1 t1 with
 |some ([dv],l)=>(match gk dv with
  |some x=>(match CI l with
   |some zs=>(match n2 dZ with
    |some (some r)=>(match CE r with
     |some (q,.Mult,v)=>(match jH v with
      |some (qp,[y])=>(match vBool y with
       |some (.And,[fB,hu,mm],_)=>(match xD mm with
        |some (.Not,w)=>(match jH w with
         |some (f,[c])=>ct.N[i]?==some x&&ct.sc.names.lookup x==some .local&&okN x&&i != j&&u6 g ct n ar zs&&r7 g ct n k5 fB&&r7 g ct n eI hu&&f==("any":Str)&&fE g ct.sc f&&gk c==some x&&decide (ar.length<=1000)&&Gn q&&qp==("int":Str)&&fE g ct.sc qp
         |_=>false)
        |_=>false)
       |_=>false)
      |_=>false)
     |_=>false)
    |_=>false)
   |none=>false)
  |none=>false)
 |_=>false
noncomputable def y6(ct:dy)(h:aR)(n:Option Str)(st:List Stmt):Bool:=match n with
 |some n=>ct.N[h.j]?==some n&&ct.sc.names.lookup n==some .local&&okN n&&(match st with|[t1,dZ]=>y5 g ct h.j h.i n h.ar h.k5 h.eI t1 dZ|_=>false)
 |none=>false
noncomputable def DR(ct:dy)(k:Nat)(h:aR)(q:Option Expr×Option Str×List Stmt):Bool:=match q.1 with
 |some t=>y3 g ct k t&&y6 g ct h q.2.1 q.2.2
 |none=>false
noncomputable def zb(ct:dy)(i:Nat)(e:E)(k:Nat)(h:aR)(z:Stmt):Bool:=match JO z with
 |some ([a],[hd],[],[])=>u5 g ct i e a&&decide (k<2)&&DR g ct k h (Zi hd)
 |_=>false
mutual
noncomputable def lC (ct:dy):S->Stmt->Bool
 |.asg i e,z=>u5 g ct i e z
 |.app i e,z=>u7 g ct i e "append" z
 |.ret e,z=>(match n2 z with|some (some y)=>cc g ct false e y|_=>false)
 |.pB i,z=>(match n2 z with|some (some y)=>(match gk y with|some x=>nL ct i x|none=>false)|_=>false)
 |.q8 i,z=>(match n2 z with|some (some y)=>(match gk y with|some x=>nL ct i x|none=>false)|_=>false)
 |.iff c a b,z=>(match Cn z with|some (t,x,y)=>cc g ct true c t&&jT ct a x&&jT ct b y|none=>false)
 |.fc k ts s b,z=>(match xn z with|some (t,it,x,[])=>(match fl k t with|some xs=>(!nU s||k==2)&&qf ct ts xs&&decide ts.Nodup&&hi g ct false s it&&jT ct b x|none=>false)|_=>false)
 |.oG i,z=>lB ct i z
 |.oI i,z=>lB ct i z
 |.iy i j e,z=>y4 g ct i j e z
 |.oH i,z=>lB ct i z
 |.rt c b,z=>(match JP z with|some (t,x,[])=>cc g ct true c t&&jT ct b x|_=>false)
 |.pG i e,z=>za g ct i e z
 |.pop i,z=>y7 ct i z
 |.q9 i e,z=>y9 g ct i e z
 |.stop,_=>true
 |.raise c,z=>y8 g ct c z
 |.pO i e k h,z=>zb g ct i e k h z
 |.ext i e,z=>u7 g ct i e "extend" z
noncomputable def jT (ct:dy):B->List Stmt->Bool
 |.nil,[]=>true
 |.cons s b,x::xs=>lC ct s x&&jT ct b xs
 |_,_=>false
end
mutual
noncomputable def TM:S->List Nat
 |.app j _=>[j]
 |.oG j=>[j]
 |.oI j=>[j]
 |.iy j _ _=>[j]
 |.oH j=>[j]
 |.rt _ b=>j6 b
 |.pG j _=>[j]
 |.pop j=>[j]
 |.ext j _=>[j]
 |.iff _ a b=>j6 a++j6 b
 |.fc _ _ _ b=>j6 b
 |_=>[]
noncomputable def j6:B->List Nat
 |.nil=>[]
 |.cons s b=>TM s++j6 b
end
noncomputable def mW(N:List Str)(fd:lu):Stmt->Bool
 |.FunctionDef name args body [] none [] sc none bind _ =>
   decide (sc.kind=.function)&&!sc.isCoroutine&&!sc.isGenerator&&decide N.Nodup&&N.length==fd.np+fd.nl
   && (args.args.map (·.arg))==N.take fd.np&&args.posonlyargs.isEmpty&&args.vararg.isNone&&args.kwonlyargs.isEmpty&&args.kwarg.isNone&&args.defaults.isEmpty&&args.kw_defaults.isEmpty
   && (N.take fd.np).all (λx=>j2 sc x)&&sc.names.all (λy=>y.2 != .free)
   && (j6 fd.body).all (λi=>decide (fd.np<=i)&&decide (i<N.length))&&jT g ⟨N,sc,j6 fd.body⟩ fd.body body
 |_=>false
end
end Den
end
section
namespace aW
open PySem Den
noncomputable def yP :B:=.cons (.ret (.comp (.bin .add (.slice (.var 0) (.none) (.some (.var 1))) (.slice (.var 0) (.some (.bin .add (.var 1) (.lit (.int 1)))) (.none))) 0 (.ff (.prim .len (.var 0))) (.some (.cmp .gt (.prim .len (.var 0)) (.lit (.int 1)))))) (.nil)
noncomputable def yH :B:=.cons (.ret (.prim .all (.comp (.cmp .mem (.var 2) (.var 1)) 0 (.seq (.var 0)) (.none)))) (.nil)
noncomputable def yI(Pm:Nat):B:=.cons (.ret (.prim .any (.comp (.call Pm (.cons (.var 0) (.cons (.var 2) (.nil)))) 0 (.seq (.var 1)) (.none)))) (.nil)
noncomputable def yR(Pn:Nat):B:=.cons (.asg 1 (.prim .eK (.var 0))) (.cons (.asg 2 (.lst (.nil))) (.cons (.fc 0 [3] (.seq (.var 1)) (.cons (.asg 4 (.comp (.var 5) 0 (.seq (.var 1)) (.some (.cmp .gt (.prim .len (.var 5)) (.prim .len (.var 3)))))) (.cons (.iff (.not (.call Pn (.cons (.var 3) (.cons (.var 4) (.nil))))) (.cons (.app 2 (.var 3)) (.nil)) (.nil)) (.nil)))) (.cons (.ret (.tupI (.seq (.var 2)))) (.nil))))
noncomputable def ym :B:=.cons (.asg 1 (.lst (.nil))) (.cons (.fc 0 [2] (.seq (.var 0)) (.cons (.asg 1 (.bin .add (.bin .add (.var 1) (.lst (.cons (.tup (.cons (.var 2) (.nil))) (.nil)))) (.comp (.bin .add (.var 3) (.tup (.cons (.var 2) (.nil)))) 0 (.seq (.var 1)) (.none)))) (.nil))) (.cons (.ret (.var 1)) (.nil)))
noncomputable def yo(Pj:Nat):B:=.cons (.asg 1 (.lst (.nil))) (.cons (.fc 0 [2] (.seq (.idx (.var 0) (.lit (.int 1)))) (.cons (.ext 1 (.call Pj (.cons (.var 2) (.nil)))) (.nil))) (.cons (.ret (.prim .eK (.var 1))) (.nil)))
noncomputable def yl(zD:Nat):B:=.cons (.ret (.tupI (.seq (.comp (.var 2) 0 (.seq (.call zD (.cons (.var 0) (.nil)))) (.some (.cmp .eq (.bin .sub (.prim .len (.var 2)) (.lit (.int 1))) (.var 1))))))) (.nil)
noncomputable def yL(Pz:Nat):B:=.cons (.iff (.cmp .eq (.prim .len (.var 0)) (.lit (.int 0))) (.cons (.stop) (.nil)) (.nil)) (.cons (.asg 1 (.lst (.nil))) (.cons (.fc 0 [2] (.seq (.var 0)) (.cons (.ext 1 (.var 2)) (.nil))) (.cons (.asg 3 (.prim .eK (.var 1))) (.cons (.ret (.tup (.cons (.prim .len (.var 3)) (.cons (.call Pz (.cons (.comp (.tupI (.seq (.comp (.kR 3 5) 0 (.seq (.var 4)) (.none)))) 0 (.seq (.var 0)) (.none)) (.nil))) (.nil))))) (.nil)))))
noncomputable def yp(zD:Nat)(sD:Nat):B:=.cons (.oH 1) (.cons (.fc 0 [2] (.seq (.call zD (.cons (.var 0) (.nil)))) (.cons (.fc 0 [3] (.seq (.call sD (.cons (.var 2) (.nil)))) (.cons (.iy 1 3 (.bin .add (.oE 1 3) (.tup (.cons (.var 2) (.nil))))) (.nil))) (.nil))) (.cons (.q9 1 (.tupI (.seq (.prim .sorted (.comp (.tup (.cons (.var 4) (.cons (.idx (.gY 1 4) (.lit (.int 0))) (.nil)))) 0 (.lG 1) (.some (.cmp .eq (.prim .len (.gY 1 4)) (.lit (.int 1))))))))) (.nil)))
noncomputable def yS(Pq:Nat)(sD:Nat):B:=.cons (.asg 2 (.comp (.var 3) 0 (.seq (.idx (.var 0) (.lit (.int 1)))) (.some (.cmp .ne (.var 3) (.idx (.var 1) (.lit (.int 1))))))) (.cons (.ret (.call Pq (.cons (.bin .add (.var 2) (.comp (.var 3) 0 (.seq (.call sD (.cons (.idx (.var 1) (.lit (.int 1))) (.nil)))) (.some (.cmp .ne (.var 3) (.idx (.var 1) (.lit (.int 0))))))) (.nil)))) (.nil))
noncomputable def rZ(zE:Nat)(PA:Nat)(y1:Nat):B:=.cons (.fc 0 [2] (.seq (.call zE (.cons (.var 0) (.nil)))) (.cons (.iff (.cmp .eq (.idx (.var 2) (.lit (.int 0))) (.var 1)) (.cons (.ret (.call PA (.cons (.var 0) (.cons (.var 2) (.nil))))) (.nil)) (.nil)) (.nil))) (.cons (.raise y1) (.nil))
noncomputable def yK(Ph:Nat):B:=.cons (.oG 2) (.cons (.asg 3 (.lit (.int 1))) (.cons (.fc 0 [4] (.seq (.call Ph (.cons (.var 0) (.cons (.var 1) (.nil))))) (.cons (.iy 2 4 (.var 3)) (.cons (.asg 3 (.bin .mul (.var 3) (.lit (.int 2)))) (.nil)))) (.cons (.q8 2) (.nil))))
noncomputable def yk :B:=.cons (.ret (.prim .sum (.comp (.gY 1 2) 0 (.seq (.var 0)) (.none)))) (.nil)
noncomputable def yn :B:=.cons (.ret (.tupI (.seq (.comp (.var 2) 0 (.lG 1) (.some (.cmp .ne (.bin .and (.var 0) (.gY 1 2)) (.lit (.int 0)))))))) (.nil)
noncomputable def yN(Pg:Nat)(sD:Nat)(vx:Nat):B:=.cons (.asg 2 (.call vx (.cons (.var 0) (.cons (.bin .sub (.var 1) (.lit (.int 1))) (.nil))))) (.cons (.asg 3 (.call vx (.cons (.var 0) (.cons (.var 1) (.nil))))) (.cons (.ret (.comp (.tup (.cons (.call Pg (.cons (.call sD (.cons (.var 4) (.nil))) (.cons (.var 2) (.nil)))) (.cons (.gY 3 4) (.nil)))) 0 (.lG 3) (.none))) (.nil)))
noncomputable def yQ :B:=.cons (.ret (.tup (.cons (.bin .xor (.idx (.var 0) (.lit (.int 0))) (.idx (.var 1) (.lit (.int 0)))) (.cons (.bin .xor (.idx (.var 0) (.lit (.int 1))) (.idx (.var 1) (.lit (.int 1)))) (.nil))))) (.nil)
noncomputable def yM(Pw:Nat):B:=.cons (.fc 0 [2] (.lG 1) (.cons (.iff (.cmp .ne (.bin .and (.idx (.var 0) (.lit (.int 0))) (.var 2)) (.lit (.int 0))) (.cons (.asg 0 (.call Pw (.cons (.var 0) (.cons (.gY 1 2) (.nil))))) (.nil)) (.nil)) (.nil))) (.cons (.ret (.var 0)) (.nil))
noncomputable def yJ :B:=.cons (.ret (.bin .and (.var 0) (.neg (.var 0)))) (.nil)
noncomputable def u1(qm:Nat)(Po:Nat):B:=.cons (.asg 2 (.call qm (.cons (.var 1) (.cons (.var 0) (.nil))))) (.cons (.iff (.cmp .eq (.idx (.var 2) (.lit (.int 0))) (.lit (.int 0))) (.cons (.ret (.var 0)) (.nil)) (.nil)) (.cons (.asg 3 (.call Po (.cons (.idx (.var 2) (.lit (.int 0))) (.nil)))) (.cons (.oI 4) (.cons (.fc 0 [5] (.lG 0) (.cons (.iy 4 5 (.call qm (.cons (.gY 0 5) (.cons (.qh 3 2) (.nil))))) (.nil))) (.cons (.iy 4 3 (.var 2)) (.cons (.q8 4) (.nil)))))))
noncomputable def yj(sC:Nat):B:=.cons (.asg 1 (.qi)) (.cons (.fc 0 [2] (.seq (.var 0)) (.cons (.asg 1 (.call sC (.cons (.var 1) (.cons (.var 2) (.nil))))) (.nil))) (.cons (.ret (.var 1)) (.nil)))
noncomputable def yr(sC:Nat)(qm:Nat):B:=.cons (.asg 1 (.qi)) (.cons (.asg 2 (.lst (.nil))) (.cons (.fc 0 [3] (.seq (.var 0)) (.cons (.asg 4 (.call qm (.cons (.var 3) (.cons (.var 1) (.nil))))) (.cons (.iff (.cmp .eq (.idx (.var 4) (.lit (.int 0))) (.lit (.int 0))) (.cons (.app 2 (.idx (.var 4) (.lit (.int 1)))) (.nil)) (.nil)) (.cons (.asg 1 (.call sC (.cons (.var 1) (.cons (.var 3) (.nil))))) (.nil))))) (.cons (.pB 2) (.nil))))
noncomputable def yO(Pl:Nat)(EP:Nat)(qm:Nat)(sC:Nat)(Pk:Nat)(vx:Nat)(Pf:Nat):B:=.cons (.asg 2 (.call Pf (.cons (.call EP (.cons (.var 0) (.cons (.bin .add (.var 1) (.lit (.int 1))) (.nil)))) (.nil)))) (.cons (.asg 3 (.call vx (.cons (.var 0) (.cons (.var 1) (.nil))))) (.cons (.asg 4 (.lst (.nil))) (.cons (.fc 0 [5] (.seq (.call Pl (.cons (.call EP (.cons (.var 0) (.cons (.var 1) (.nil)))) (.nil)))) (.cons (.asg 6 (.tup (.cons (.var 5) (.cons (.lit (.int 0)) (.nil))))) (.cons (.iff (.cmp .ne (.idx (.call qm (.cons (.var 6) (.cons (.var 2) (.nil)))) (.lit (.int 0))) (.lit (.int 0))) (.cons (.app 4 (.call Pk (.cons (.var 5) (.cons (.var 3) (.nil))))) (.cons (.asg 2 (.call sC (.cons (.var 2) (.cons (.var 6) (.nil))))) (.nil))) (.nil)) (.nil)))) (.cons (.ret (.tupI (.seq (.prim .sorted (.var 4))))) (.nil)))))
noncomputable def yq(Pr:Nat):B:=.cons (.asg 1 (.prim .max (.comp (.prim .len (.var 2)) 0 (.seq (.idx (.var 0) (.lit (.int 1)))) (.none)))) (.cons (.ret (.tupI (.seq (.comp (.prim .len (.call Pr (.cons (.var 0) (.cons (.var 2) (.nil))))) 0 (.ff (.var 1)) (.none))))) (.nil))
noncomputable def yt :B:=.cons (.iff (.cmp .lt (.var 1) (.prim .len (.var 0))) (.cons (.ret (.idx (.var 0) (.var 1))) (.nil)) (.nil)) (.cons (.ret (.lit (.int 0))) (.nil))
noncomputable def yB(PB:Nat):B:=.cons (.asg 2 (.bin .mod (.bin .mul (.bin .add (.bin .add (.call PB (.cons (.var 0) (.cons (.var 1) (.nil)))) (.bin .mul (.lit (.int 7919)) (.var 1))) (.lit (.int 1))) (.lit (.int 48271))) (.lit (.int 2147483647)))) (.cons (.ret (.bin .mod (.bin .add (.bin .add (.bin .mul (.var 2) (.var 2)) (.bin .mul (.lit (.int 7)) (.var 2))) (.var 1)) (.lit (.int 2147483629)))) (.nil))
noncomputable def yv :B:=.cons (.asg 2 (.bin .mod (.bin .mul (.bin .add (.bin .add (.var 0) (.bin .mul (.lit (.int 104729)) (.var 1))) (.lit (.int 17))) (.lit (.int 69621))) (.lit (.int 2147483647)))) (.cons (.ret (.bin .mod (.bin .add (.bin .add (.bin .mul (.var 2) (.var 2)) (.bin .mul (.lit (.int 3)) (.var 2))) (.var 1)) (.lit (.int 2147483629)))) (.nil))
noncomputable def yA :B:=.cons (.ret (.cmp .eq (.comp (.var 2) 0 (.seq (.var 0)) (.some (.cmp .jd (.var 2) (.var 1)))) (.lst (.nil)))) (.nil)
noncomputable def yG(zG:Nat):B:=.cons (.asg 1 (.lst (.nil))) (.cons (.fc 0 [2] (.seq (.prim .eK (.var 0))) (.cons (.iff (.cmp .eq (.comp (.var 3) 0 (.seq (.var 0)) (.some (.and (.cmp .ne (.var 2) (.var 3)) (.call zG (.cons (.var 2) (.cons (.var 3) (.nil))))))) (.lst (.nil))) (.cons (.app 1 (.var 2)) (.nil)) (.nil)) (.nil))) (.cons (.ret (.tupI (.seq (.var 1)))) (.nil)))
noncomputable def qb(sG:Nat):B:=.cons (.iff (.cmp .eq (.var 1) (.lit (.int 0))) (.cons (.ret (.lst (.cons (.tup (.nil)) (.nil)))) (.nil)) (.nil)) (.cons (.asg 2 (.lst (.nil))) (.cons (.fc 0 [3] (.ff (.prim .len (.var 0))) (.cons (.asg 2 (.bin .add (.var 2) (.comp (.bin .add (.tup (.cons (.idx (.var 0) (.var 3)) (.nil))) (.var 4)) 0 (.seq (.call sG (.cons (.slice (.var 0) (.some (.bin .add (.var 3) (.lit (.int 1)))) (.none)) (.cons (.bin .sub (.var 1) (.lit (.int 1))) (.nil))))) (.none)))) (.nil))) (.cons (.ret (.var 2)) (.nil))))
noncomputable def yF(ES:Nat):B:=.cons (.asg 2 (.comp (.tup (.cons (.var 6) (.nil))) 0 (.ff (.var 1)) (.none))) (.cons (.fc 0 [3] (.ff (.bin .mod (.var 0) (.lit (.int 9)))) (.cons (.asg 4 (.call ES (.cons (.var 0) (.cons (.var 3) (.nil))))) (.cons (.asg 5 (.tupI (.seq (.comp (.var 6) 0 (.ff (.var 1)) (.some (.cmp .lt (.bin .mod (.call ES (.cons (.var 4) (.cons (.var 6) (.nil)))) (.lit (.int 5))) (.bin .add (.lit (.int 2)) (.bin .mod (.var 4) (.lit (.int 2)))))))))) (.cons (.iff (.cmp .ne (.var 5) (.tup (.nil))) (.cons (.app 2 (.var 5)) (.nil)) (.nil)) (.nil))))) (.cons (.pB 2) (.nil)))
noncomputable def yC(zM:Nat)(sG:Nat)(PU:Nat):B:=.cons (.asg 2 (.bin .add (.lit (.int 1)) (.bin .mod (.var 0) (.var 1)))) (.cons (.asg 3 (.bin .mod (.bin .fdiv (.var 0) (.lit (.int 12))) (.lit (.int 8)))) (.cons (.iff (.cmp .eq (.var 3) (.lit (.int 0))) (.cons (.asg 4 (.call sG (.cons (.tupI (.ff (.var 2))) (.cons (.bin .add (.lit (.int 1)) (.bin .mod (.bin .fdiv (.var 0) (.lit (.int 96))) (.var 2))) (.nil))))) (.nil)) (.cons (.iff (.and (.cmp .eq (.var 3) (.lit (.int 1))) (.cmp .gt (.var 1) (.lit (.int 5)))) (.cons (.asg 2 (.lit (.int 6))) (.cons (.asg 4 (.comp (.tup (.cons (.lit (.int 0)) (.cons (.bin .add (.lit (.int 1)) (.var 5)) (.cons (.bin .add (.lit (.int 1)) (.bin .mod (.bin .add (.var 5) (.lit (.int 1))) (.lit (.int 5)))) (.nil))))) 0 (.ff (.lit (.int 5))) (.none))) (.cons (.asg 4 (.bin .add (.var 4) (.comp (.tup (.cons (.bin .add (.lit (.int 1)) (.var 5)) (.cons (.bin .add (.lit (.int 1)) (.bin .mod (.bin .add (.var 5) (.lit (.int 1))) (.lit (.int 5)))) (.cons (.bin .add (.lit (.int 1)) (.bin .mod (.bin .add (.var 5) (.lit (.int 3))) (.lit (.int 5)))) (.nil))))) 0 (.ff (.lit (.int 5))) (.none)))) (.nil)))) (.cons (.iff (.and (.cmp .eq (.var 3) (.lit (.int 2))) (.cmp .gt (.var 1) (.lit (.int 6)))) (.cons (.asg 2 (.lit (.int 7))) (.cons (.asg 4 (.comp (.tup (.cons (.var 5) (.cons (.bin .mod (.bin .add (.var 5) (.lit (.int 1))) (.lit (.int 7))) (.cons (.bin .mod (.bin .add (.var 5) (.lit (.int 3))) (.lit (.int 7))) (.nil))))) 0 (.ff (.lit (.int 7))) (.none))) (.cons (.asg 4 (.bin .add (.var 4) (.comp (.tup (.cons (.var 5) (.cons (.bin .mod (.bin .add (.var 5) (.lit (.int 2))) (.lit (.int 7))) (.cons (.bin .mod (.bin .add (.var 5) (.lit (.int 3))) (.lit (.int 7))) (.nil))))) 0 (.ff (.lit (.int 7))) (.none)))) (.nil)))) (.cons (.asg 4 (.call PU (.cons (.bin .fdiv (.var 0) (.lit (.int 96))) (.cons (.var 2) (.nil))))) (.nil))) (.nil))) (.nil))) (.cons (.ret (.tup (.cons (.var 2) (.cons (.call zM (.cons (.comp (.tupI (.seq (.prim .sorted (.var 5)))) 0 (.seq (.var 4)) (.none)) (.nil))) (.nil))))) (.nil))))
noncomputable def yu(sG:Nat):B:=.cons (.asg 2 (.lst (.nil))) (.cons (.fc 0 [3] (.seq (.idx (.var 0) (.lit (.int 1)))) (.cons (.asg 2 (.bin .add (.var 2) (.call sG (.cons (.var 3) (.cons (.bin .add (.var 1) (.lit (.int 1))) (.nil)))))) (.nil))) (.cons (.ret (.prim .eK (.var 2))) (.nil)))
noncomputable def yy :B:=.cons (.ret (.prim .max (.comp (.prim .len (.var 1)) 0 (.seq (.idx (.var 0) (.lit (.int 1)))) (.none)))) (.nil)
noncomputable def yw(PE:Nat)(PC:Nat):B:=.cons (.asg 1 (.lst (.nil))) (.cons (.fc 0 [2] (.ff (.call PE (.cons (.var 0) (.nil)))) (.cons (.asg 1 (.bin .add (.var 1) (.call PC (.cons (.var 0) (.cons (.var 2) (.nil)))))) (.nil))) (.cons (.ret (.var 1)) (.nil)))
noncomputable def yD(zM:Nat):B:=.cons (.asg 1 (.lst (.nil))) (.cons (.fc 0 [2] (.seq (.var 0)) (.cons (.asg 1 (.bin .add (.var 1) (.kS (.seq (.var 2))))) (.nil))) (.cons (.asg 1 (.prim .eK (.var 1))) (.cons (.ret (.tup (.cons (.prim .len (.var 1)) (.cons (.call zM (.cons (.comp (.tupI (.seq (.comp (.kR 1 4) 0 (.seq (.var 3)) (.none)))) 0 (.seq (.var 0)) (.none)) (.nil))) (.nil))))) (.nil))))
noncomputable def yx(zG:Nat)(sE:Nat):B:=.cons (.asg 1 (.call sE (.cons (.var 0) (.nil)))) (.cons (.asg 2 (.lst (.nil))) (.cons (.fc 0 [3] (.seq (.var 1)) (.cons (.asg 4 (.comp (.var 5) 0 (.seq (.var 1)) (.some (.and (.cmp .ne (.var 3) (.var 5)) (.call zG (.cons (.var 3) (.cons (.var 5) (.nil)))))))) (.cons (.iff (.cmp .eq (.prim .len (.var 4)) (.lit (.int 1))) (.cons (.app 2 (.tup (.cons (.var 3) (.cons (.idx (.var 4) (.lit (.int 0))) (.nil))))) (.nil)) (.nil)) (.nil)))) (.cons (.ret (.tupI (.seq (.prim .sorted (.var 2))))) (.nil))))
noncomputable def yE(PL:Nat)(sE:Nat):B:=.cons (.ret (.call PL (.cons (.comp (.var 2) 0 (.seq (.call sE (.cons (.var 0) (.nil)))) (.some (.cmp .jd (.var 2) (.var 1)))) (.nil)))) (.nil)
noncomputable def yz :B:=.cons (.asg 1 (.kS (.seq (.var 0)))) (.cons (.pG 1 (.bin .sub (.idx (.var 1) (.lit (.int 0))) (.lit (.int 1)))) (.cons (.rt (.and (.cmp .ne (.var 1) (.lst (.nil))) (.cmp .eq (.idx (.var 1) (.neg (.lit (.int 1)))) (.lit (.int 0)))) (.cons (.pop 1) (.nil))) (.cons (.pB 1) (.nil))))
noncomputable def rY(Px:Nat)(L9:Nat)(L6:Nat)(L8:Nat)(L7:Nat)(L5:Nat)(y1:Nat):B:=.cons (.pO 2 (.call Px (.cons (.var 0) (.cons (.var 1) (.nil)))) y1 ⟨3,4,[L9,L6,L8,L7],L5,1000⟩) (.cons (.ret (.var 2)) (.nil))
noncomputable def qa(EY:Nat)(EO:Nat)(PM:Nat)(Fc:Nat)(zI:Nat)(sE:Nat)(zE:Nat)(PD:Nat)(PK:Nat):B:=.cons (.asg 1 (.call PK (.cons (.call zI (.cons (.var 0) (.cons (.lit (.int 0)) (.nil)))) (.cons (.lit (.int 5)) (.nil))))) (.cons (.asg 2 (.call PD (.cons (.var 1) (.nil)))) (.cons (.iff (.cmp .ne (.call zE (.cons (.var 1) (.nil))) (.var 2)) (.cons (.ret (.lit (.aP false))) (.nil)) (.nil)) (.cons (.asg 3 (.call sE (.cons (.var 1) (.nil)))) (.cons (.asg 4 (.idx (.var 3) (.bin .mod (.call zI (.cons (.var 0) (.cons (.lit (.int 1)) (.nil)))) (.prim .len (.var 3))))) (.cons (.iff (.and (.cmp .jd (.var 4) (.comp (.idx (.var 7) (.lit (.int 0))) 0 (.seq (.var 2)) (.none))) (.cmp .ne (.call Fc (.cons (.var 1) (.cons (.var 4) (.nil)))) (.lit (.str (Str.ofString "none"))))) (.cons (.ret (.lit (.aP false))) (.nil)) (.nil)) (.cons (.iff (.cmp .eq (.var 2) (.tup (.nil))) (.cons (.ret (.lit (.aP true))) (.nil)) (.nil)) (.cons (.asg 5 (.idx (.var 2) (.bin .mod (.call zI (.cons (.var 0) (.cons (.lit (.int 2)) (.nil)))) (.prim .len (.var 2))))) (.cons (.asg 6 (.call Fc (.cons (.var 1) (.cons (.idx (.var 5) (.lit (.int 0))) (.nil))))) (.cons (.ret (.and (.cmp .eq (.var 6) (.call PM (.cons (.var 1) (.cons (.var 5) (.nil))))) (.cmp .eq (.call EY (.cons (.call EO (.cons (.var 6) (.nil))) (.nil))) (.call EY (.cons (.call EO (.cons (.var 1) (.nil))) (.nil)))))) (.nil))))))))))
end aW
end
section
namespace eZ
open PySem Den
noncomputable def fds:List lu:=[
 ⟨1,0,aW.yP⟩,
 ⟨2,0,aW.yH⟩,
 ⟨2,0,aW.yI 1⟩,
 ⟨1,4,aW.yR 2⟩,
 ⟨1,2,aW.ym⟩,
 ⟨1,2,aW.yo 4⟩,
 ⟨2,0,aW.yl 5⟩,
 ⟨1,3,aW.yL 3⟩,
 ⟨1,3,aW.yp 5 0⟩,
 ⟨2,1,aW.yS 7 0⟩,
 ⟨2,1,aW.rZ 8 9 1⟩,
 ⟨2,3,aW.yK 6⟩,
 ⟨2,0,aW.yk⟩,
 ⟨2,0,aW.yn⟩,
 ⟨2,2,aW.yN 12 0 11⟩,
 ⟨2,0,aW.yQ⟩,
 ⟨2,1,aW.yM 15⟩,
 ⟨1,0,aW.yJ⟩,
 ⟨2,4,aW.u1 16 17⟩,
 ⟨1,2,aW.yj 18⟩,
 ⟨1,4,aW.yr 18 16⟩,
 ⟨2,5,aW.yO 20 14 16 18 13 11 19⟩,
 ⟨1,1,aW.yq 21⟩,
 ⟨2,0,aW.yt⟩,
 ⟨2,1,aW.yB 23⟩,
 ⟨2,1,aW.yv⟩,
 ⟨2,0,aW.yA⟩,
 ⟨1,2,aW.yG 26⟩,
 ⟨2,2,aW.qb 28⟩,
 ⟨2,4,aW.yF 25⟩,
 ⟨2,3,aW.yC 27 28 29⟩,
 ⟨2,2,aW.yu 28⟩,
 ⟨1,0,aW.yy⟩,
 ⟨1,2,aW.yw 32 31⟩,
 ⟨1,2,aW.yD 27⟩,
 ⟨1,4,aW.yx 26 33⟩,
 ⟨2,0,aW.yE 34 33⟩,
 ⟨1,1,aW.yz⟩,
 ⟨2,3,aW.rY 10 3 2 4 5 0 1⟩,
 ⟨1,6,aW.qa 37 22 36 38 24 33 8 35 30⟩]
noncomputable def cs:List D:=[]
noncomputable def up:ko:=λc=>match c with|0=>[0,1000]|1=>[1,0,1000]|2=>[2,0,1000]|3=>[3,0,1000]|4=>[4,0,1000]|5=>[5,0,1000]|_=>[]
noncomputable def pg:eX:=⟨up,cs⟩
noncomputable def Ht:List (List Str):=[
 (["cell"]:List Str),
 (["cell","other"]:List Str),
 (["cell","others"]:List Str),
 (["some","distinct","tops","cell","longer"]:List Str),
 (["top","found","corner"]:List Str),
 (["net","found","top"]:List Str),
 (["net","height"]:List Str),
 (["some","met","cell","left"]:List Str),
 (["net","above","cell","side"]:List Str),
 (["net","pair","rest"]:List Str),
 (["net","cell","pair"]:List Str),
 (["net","height","found","bit","cell"]:List Str),
 (["chain","marked"]:List Str),
 (["bits","marked"]:List Str),
 (["net","height","lower","own"]:List Str),
 (["one","other"]:List Str),
 (["row","basis","pivot"]:List Str),
 (["bits"]:List Str),
 (["basis","row","left","pivot","wider","other"]:List Str),
 (["rows","basis","row"]:List Str),
 (["rows","basis","found","row","left"]:List Str),
 (["net","height","reached","marked","found","bits","row"]:List Str),
 (["net","highest"]:List Str),
 (["_law_script","_law_k"]:List Str),
 (["_law_script","_law_k","_law_drawn_here"]:List Str),
 (["_law_number","_law_k","_law_drawn_here"]:List Str),
 (["_law_cell","_law_other"]:List Str),
 (["_law_some_here","_law_found","_law_cell"]:List Str),
 (["_law_cell","_law_size","_law_found","_law_at"]:List Str),
 (["_law_number","_law_many","_law_found","_law_k","_law_drawn_here","_law_cell"]:List Str),
 (["_law_number","_law_most","_law_many","_law_kind","_law_some_here"]:List Str),
 (["_law_net_here","_law_height","_law_found","_law_top"]:List Str),
 (["_law_net_here"]:List Str),
 (["_law_net_here","_law_found","_law_height"]:List Str),
 (["_law_some_here","_law_corners","_law_cell"]:List Str),
 (["_law_net_here","_law_every_here","_law_found","_law_cell","_law_some_here"]:List Str),
 (["_law_net_here","_law_pair"]:List Str),
 (["_law_some_here","_law_found"]:List Str),
 (["_law_net_here","_law_cell","_law_found","e","_law_some_here"]:List Str),
 (["_law_script","_law_net_here","_law_due","_law_every_here","_law_cell","_law_pair","_law_found"]:List Str)]
noncomputable def gt:Gt:=⟨[("sides":Str),("lies_in":Str),("lies_in_one":Str),("uppermost":Str),("cells_within":Str),("every_cell":Str),("cells_of_height":Str),("numbered_anew":Str),("free_cells":Str),("without_pair":Str),("taken_off":Str),("marks":Str),("bits_of":Str),("chain_of":Str),("rim_rows":Str),("sum_of_rows":Str),("reduced":Str),("lowest_bit":Str),("grown":Str),("basis_of":Str),("idle_parts":Str),("rounds_about":Str),("holes":Str),("_law_cell_at":Str),("_law_mixed":Str),("_law_drawn":Str),("_law_lies":Str),("_law_tops":Str),("_law_parts":Str),("_law_some":Str),("_law_net":Str),("_law_cells":Str),("_law_high":Str),("_law_every":Str),("_law_numbered":Str),("_law_free":Str),("_law_off":Str),("_law_less":Str),("_law_told":Str),("law":Str)],["HoleError","NotFree","NoNet","NoText","NoRound","NoRoom"],[]⟩
end eZ
end
section
namespace Den
section
variable{pg:eX}{Φ:fo}{ρ:bx}
noncomputable def yb(pg:eX)(Φ:fo)(ρ:bx)(r:R D)(b:E):R D:=r>>=λx=>f6 x>>=λk=>if k then ev pg Φ ρ b else .ok (.aP false)
noncomputable def B4(pg:eX)(Φ:fo)(r:R ep)(b:B):R ep:=r>>=λx=>match x with
 |.br bK=>eP pg Φ bK b
 |.cP d=>.ok (.cP d)
noncomputable def AP(pg:eX)(Φ:fo)(ρ:bx)(r:R D)(a b:B):R ep:=r>>=λx=>f6 x>>=λk=>if k then eP pg Φ ρ a else eP pg Φ ρ b
noncomputable def turn(pg:eX)(Φ:fo)(k:Nat)(ts:List Nat)(b:B)(d:D)(ρ:bx):R ep:=gI k d>>=λaf=>eP pg Φ (mg ts af ρ) b
noncomputable def elem(pg:eX)(Φ:fo)(ρ:bx)(e:E)(k:Nat)(c:O)(d:D):R (Option D):=gI k d>>=λaf=>m9 pg Φ (ρ++af) c>>=λb=>if b then ev pg Φ (ρ++af) e>>=λy=>.ok (some y) else .ok none
def vq(i:Nat){d:D}(h:ρ[i]?=some (some d)):ev pg Φ ρ (.var i)=.ok d:=acp zR h
def vp(i:Nat):ev pg Φ ρ (.var i)=zR ρ[i]?:=ba rfl
def OM{d:D}{r:bx}:ev pg Φ (some d::r) (.var 0)=.ok d:=ba rfl
def ON{o:Option D}{r:bx}{i:Nat}:ev pg Φ (o::r) (.var (i+1))=ev pg Φ r (.var i):=ba rfl
def EG(d:D):ev pg Φ ρ (.lit d)=.ok d:=ba rfl
def OL(a:A):ev pg Φ ρ (.tup a)=hY pg Φ ρ a>>=λds=>.ok (.tup ds):=ba rfl
def OH(a:A):ev pg Φ ρ (.lst a)=hY pg Φ ρ a>>=λds=>.ok (.lst ds):=ba rfl
def OC(op:Op)(a b:E):ev pg Φ ρ (.bin op a b)=ev pg Φ ρ a>>=λx=>ev pg Φ ρ b>>=λy=>ec op x y:=ba rfl
def EJ(a:E):ev pg Φ ρ (.neg a)=ev pg Φ ρ a>>=λx=>iU x>>=λi=>.ok (.int (-i)):=ba rfl
def sA(i:Nat):hI pg Φ ρ (.lG i)=oF ρ[i]?:=ba rfl
def OI(a:E):ev pg Φ ρ (.not a)=ev pg Φ ρ a>>=λx=>f6 x>>=λb=>.ok (.aP (!b)):=ba rfl
def ED(op:rD)(a b:E):ev pg Φ ρ (.cmp op a b)=ev pg Φ ρ a>>=λx=>ev pg Φ ρ b>>=λy=>fF op x y>>=λc=>.ok (.aP c):=ba rfl
def OB(a b:E):ev pg Φ ρ (.and a b)=yb pg Φ ρ (ev pg Φ ρ a) b:=ba rfl
def OG(a b:E):ev pg Φ ρ (.idx a b)=ev pg Φ ρ a>>=λx=>ev pg Φ ρ b>>=λy=>fw x y:=ba rfl
def OK(a:E)(lo ai:O):ev pg Φ ρ (.slice a lo ai)=ev pg Φ ρ a>>=λx=>nc pg Φ ρ lo>>=λl=>nc pg Φ ρ ai>>=λh=>k4 x l h:=ba rfl
def OD(f:Nat)(a:A):ev pg Φ ρ (.call f a)=hY pg Φ ρ a>>=λds=>Φ f ds:=ba rfl
def OJ(p:es)(a:E):ev pg Φ ρ (.prim p a)=ev pg Φ ρ a>>=λx=>kV pg.up p x:=ba rfl
def zB(s:I):ev pg Φ ρ (.tupI s)=hI pg Φ ρ s>>=λds=>.ok (.tup ds):=ba rfl
def EI(s:I):ev pg Φ ρ (.kS s)=hI pg Φ ρ s>>=λds=>.ok (.lst ds):=ba rfl
def EE(e:E)(k:Nat)(s:I)(c:O):ev pg Φ ρ (.comp e k s c)=hI pg Φ ρ s>>=λds=>l9 (cY (elem pg Φ ρ e k c) ds)>>=λys=>.ok (.lst ys):=ba rfl
def wG{α:Type}(a:α):l9 (.ok a)=.ok a:=ba rfl
def EA:hY pg Φ ρ .nil=.ok []:=ba rfl
def Ez(e:E)(a:A):hY pg Φ ρ (.cons e a)=ev pg Φ ρ e>>=λx=>hY pg Φ ρ a>>=λxs=>.ok (x::xs):=ba rfl
def Oz:nc pg Φ ρ .none=.ok none:=ba rfl
def OA(e:E):nc pg Φ ρ (.some e)=ev pg Φ ρ e>>=λx=>iU x>>=λi=>.ok (some i):=ba rfl
def EB:m9 pg Φ ρ .none=.ok true:=ba rfl
def EC(e:E):m9 pg Φ ρ (.some e)=ev pg Φ ρ e>>=λx=>f6 x:=ba rfl
def vo(e:E):hI pg Φ ρ (.seq e)=ev pg Φ ρ e>>=λx=>eg x:=ba rfl
def Oy(a:E):hI pg Φ ρ (.ff a)=ev pg Φ ρ a>>=λx=>iU x>>=λi=>kZ 0 i:=ba rfl
def Dp(b:Bool):f6 (.aP b)=.ok b:=ba rfl
def LB(i:Int):iU (.int i)=.ok i:=ba rfl
def Xe(xs:List D):eg (.tup xs)=.ok xs:=ba rfl
def I7(xs:List D):eg (.lst xs)=.ok xs:=ba rfl
def LP(d:D):gI 0 d=.ok [some d]:=ba rfl
def Ld(b:E):yb pg Φ ρ (.ok (.aP true)) b=ev pg Φ ρ b:=ba rfl
def Lc(b:E):yb pg Φ ρ (.ok (.aP false)) b=.ok (.aP false):=ba rfl
def OT:eP pg Φ ρ .nil=.ok (.br ρ):=ba rfl
def OS(s:S)(b:B):eP pg Φ ρ (.cons s b)=B4 pg Φ (ex pg Φ ρ s) b:=ba rfl
def Xb(b:B):B4 pg Φ (.ok (.br ρ)) b=eP pg Φ ρ b:=ba rfl
def Xc(d:D)(b:B):B4 pg Φ (.ok (.cP d)) b=.ok (.cP d):=ba rfl
def EK(i:Nat)(e:E):ex pg Φ ρ (.asg i e)=ev pg Φ ρ e>>=λd=>.ok (.br (ρ.set i (some d))):=ba rfl
noncomputable def Cx(pg:eX)(r:R ep)(k:Nat)(h:aR):R ep:=J5 r λc=>jq pg c k h
def zC(i:Nat)(e:E)(k:Nat)(h:aR):ex pg Φ ρ (.pO i e k h)=Cx pg (ex pg Φ ρ (.asg i e)) k h:=ba rfl
def J4(x:ep)(k:Nat)(h:aR):Cx pg (.ok x) k h=.ok x:=ba rfl
def J3(c k:Nat)(h:aR):Cx pg (.exc c) k h=jq pg c k h:=ba rfl
def OU(i:Nat)(e:E):ex pg Φ ρ (.app i e)=mU ρ[i]?>>=λ_=>ev pg Φ ρ e>>=λd=>rT ρ[i]? d>>=λx=>.ok (.br (ρ.set i (some x))):=ba rfl
def O2(i:Nat):ex pg Φ ρ (.pB i)=wo ρ[i]?>>=λd=>.ok (.cP d):=ba rfl
def Tc(ds:List D):wo (some (some (.lst ds)))=.ok (.lst ds):=ba rfl
def O1(e:E):ex pg Φ ρ (.ret e)=ev pg Φ ρ e>>=λd=>.ok (.cP d):=ba rfl
def OZ(c:E)(a b:B):ex pg Φ ρ (.iff c a b)=AP pg Φ ρ (ev pg Φ ρ c) a b:=ba rfl
def R1(a b:B):AP pg Φ ρ (.ok (.aP true)) a b=eP pg Φ ρ a:=ba rfl
def R0(a b:B):AP pg Φ ρ (.ok (.aP false)) a b=eP pg Φ ρ b:=ba rfl
def OY(k:Nat)(ts:List Nat)(s:I)(b:B):ex pg Φ ρ (.fc k ts s b)=hI pg Φ ρ s>>=λds=>forL (turn pg Φ k ts b) ds ρ:=ba rfl
def Wc{nl:Nat}{b:B}(x:D):cV pg Φ ⟨1,nl,b⟩ [x]=sy (eP pg Φ (some x::List.replicate nl none) b):=ba rfl
def Wd{nl:Nat}{b:B}(x y:D):cV pg Φ ⟨2,nl,b⟩ [x,y]=sy (eP pg Φ (some x::some y::List.replicate nl none) b):=ba rfl
def Of(d:D):sy (.ok (.cP d))=.ok d:=ba rfl
def Vm(up:ko)(d:D):kV up .len d=kP d:=ba rfl
def Vn(up:ko)(d:D):kV up .sorted d=eg d>>=λxs=>sorted xs:=ba rfl
def Vo(up:ko)(d:D):kV up .eK d=eg d>>=λxs=>eK xs:=ba rfl
def Vk(up:ko)(d:D):kV up .all d=eg d>>=λxs=>mP xs>>=λb=>.ok (.aP b):=ba rfl
def Vl(up:ko)(d:D):kV up .any d=eg d>>=λxs=>mQ xs>>=λb=>.ok (.aP b):=ba rfl
def wm(xs:List D):kP (.tup xs)=.ok (.int xs.length):=ba rfl
def SY(xs:List D):kP (.lst xs)=.ok (.int xs.length):=ba rfl
def DZ(x y:D):fF .eq x y=fG x y:=ba rfl
def zg(x y:D):fF .ne x y=ik (fG x y):=ba rfl
def D0(x y:D):fF .lt x y=wq x y:=ba rfl
def cmp_gt(i j:Int):fF .gt (.int i) (.int j)=.ok (decide (j<i)):=ba rfl
def ME(x:D)(ys:List D):fF .mem x (.tup ys)=hO x ys:=ba rfl
def MG(x:D)(ys:List D):fF .jd x (.tup ys)=ik (hO x ys):=ba rfl
def MF(x:D)(ys:List D):fF .jd x (.lst ys)=ik (hO x ys):=ba rfl
def Th(i j:Int):wq (.int i) (.int j)=.ok (decide (i<j)):=ba rfl
def Hy(b:Bool):ik (.ok b)=.ok (!b):=ba rfl
def Oq(i j:Int):fG (.int i) (.int j)=.ok (i==j):=ba rfl
def zy{x y:D}(h:cL 60 x=true)(h':cL 60 y=true):fG x y=.ok (fs x y):=by simp only[fG,h,h',aeE,abY]
def add_int(i j:Int):ec .add (.int i) (.int j)=.ok (.int (i+j)):=ba rfl
def sub_int(i j:Int):ec .sub (.int i) (.int j)=.ok (.int (i-j)):=ba rfl
def rR(xs ys:List D):ec .add (.tup xs) (.tup ys)=if xs.length+ys.length<=SZ then .ok (.tup (xs++ys)) else .bad:=ba rfl
def mO(xs ys:List D):ec .add (.lst xs) (.lst ys)=if xs.length+ys.length<=SZ then .ok (.lst (xs++ys)) else .bad:=ba rfl
def mul_int(i j:Int):ec .mul (.int i) (.int j)=if (-hc<i/\i<hc)\/(-hc<j/\j<hc) then .ok (.int (i*j)) else .bad:=ba rfl
def ER(i j:Int):ec .fdiv (.int i) (.int j)=if 0<j/\j<1073741824 then .ok (.int (i / j)) else .bad:=ba rfl
def mod_int(i j:Int):ec .mod (.int i) (.int j)=if 0<j then .ok (.int (i%j)) else .bad:=ba rfl
def AO(xs:List D)(i:Int):fw (.tup xs) (.int i)=(match iz xs i with|some d=>.ok d|none=>.bad):=ba rfl
def tr(xs:List D)(i:Int):fw (.lst xs) (.int i)=(match iz xs i with|some d=>.ok d|none=>.bad):=ba rfl
def xf(xs:List D)(lo ai:Option Int):k4 (.tup xs) lo ai=.ok (.tup (cut xs lo ai)):=ba rfl
def Jm(xs:List D)(lo ai:Option Int):k4 (.lst xs) lo ai=.ok (.lst (cut xs lo ai)):=ba rfl
def y2(xs:List D):mU (some (some (.lst xs)))=.ok ():=ba rfl
def uX(xs:List D)(d:D):rT (some (some (.lst xs))) d=if xs.length<SZ then .ok (.lst (xs++[d])) else .bad:=ba rfl
def Xh{o v:Option D}{r:bx}:(o::r:bx).set 0 v=v::r:=ba rfl
def Xk{o v:Option D}{r:bx}{i:Nat}:(o::r:bx).set (i+1) v=o::r.set i v:=ba rfl
def PY{o:Option D}{r:bx}:(o::r:bx)[0]?=some o:=ba rfl
def P6{o:Option D}{r:bx}{i:Nat}:(o::r:bx)[i+1]?=r[i]?:=ba rfl
def VV{α:Type}(x:α):List.replicate 0 x=[]:=ba rfl
def VW{α:Type}(n:Nat)(x:α):List.replicate (n+1) x=x::List.replicate n x:=ba rfl
def Y5(i:Nat)(b:B)(d:D):turn pg Φ 0 [i] b d ρ=eP pg Φ (ρ.set i (some d)) b:=ba rfl
def m7(e:E)(c:O)(d:D):elem pg Φ ρ e 0 c d=m9 pg Φ (ρ++[some d]) c>>=λb=>if b then ev pg Φ (ρ++[some d]) e>>=λy=>.ok (some y) else .ok none:=ba rfl
end
end Den
end
section
def Den.DNA:=And.intro (And.intro (And.intro (And.intro (And.intro (And.intro (@Den.OM) (@Den.ON)) (And.intro (@Den.EG) (And.intro (@Den.OL) (@Den.OH)))) (And.intro (And.intro (@Den.OC) (And.intro (@Den.OI) (@Den.ED))) (And.intro (@Den.OB) (And.intro (@Den.OG) (@Den.OK))))) (And.intro (And.intro (And.intro (@Den.OD) (@Den.OJ)) (And.intro (@Den.zB) (And.intro (@Den.EI) (@Den.EE)))) (And.intro (And.intro (@Den.wG) (And.intro (@Den.EA) (@Den.Ez))) (And.intro (@Den.Oz) (And.intro (@Den.OA) (@Den.EB)))))) (And.intro (And.intro (And.intro (And.intro (@Den.EC) (@Den.vo)) (And.intro (@Den.Oy) (And.intro (@Den.Dp) (@Den.LB)))) (And.intro (And.intro (@Den.Xe) (And.intro (@Den.I7) (@Den.LP))) (And.intro (@Den.Ld) (And.intro (@Den.Lc) (@Den.OT))))) (And.intro (And.intro (And.intro (@Den.OS) (And.intro (@Den.Xb) (@Den.Xc))) (And.intro (@Den.EK) (And.intro (@Den.OU) (@Den.y2)))) (And.intro (And.intro (@Den.O1) (And.intro (@Den.O2) (@Den.Tc))) (And.intro (@Den.OZ) (And.intro (@Den.R1) (@Den.R0))))))) (And.intro (And.intro (And.intro (And.intro (And.intro (@Den.OY) (@Den.Wc)) (And.intro (@Den.Wd) (And.intro (@Den.Of) (@Den.Vm)))) (And.intro (And.intro (@Den.Vn) (And.intro (@Den.Vo) (@Den.Vk))) (And.intro (@Den.Vl) (And.intro (@Den.wm) (@Den.SY))))) (And.intro (And.intro (And.intro (@Den.DZ) (@Den.zg)) (And.intro (@Den.D0) (And.intro (@Den.cmp_gt) (@Den.ME)))) (And.intro (And.intro (@Den.MG) (And.intro (@Den.MF) (@Den.Th))) (And.intro (@Den.Hy) (And.intro (@Den.Oq) (@Den.add_int)))))) (And.intro (And.intro (And.intro (And.intro (@Den.sub_int) (@Den.xf)) (And.intro (@Den.Jm) (And.intro (@Den.Xh) (@Den.Xk)))) (And.intro (And.intro (@Den.PY) (And.intro (@Den.P6) (@Den.VV))) (And.intro (@Den.VW) (And.intro (@Den.Y5) (@Den.m7))))) (And.intro (And.intro (And.intro (@Den.R.il) (And.intro (@Den.R.O6) (@acr.{0}))) (And.intro (@List.nil_append.{0}) (And.intro (@List.length_cons.{0}) (@List.length_nil.{0})))) (And.intro (And.intro (@acU) (And.intro (@abY.{1}) (@acw))) (And.intro (@aer) (And.intro (@aba) (@abw.{1})))))))
end
local macro_rules | `(tactic| simp![$xs,*] $[$l]?) => `(tactic| simp only [Den.DNA, Nat.reduceAdd, $xs,*] $[$l]?)
local macro_rules | `(tactic| simp! $[$l:location]?) => `(tactic| simp only [Den.DNA, Nat.reduceAdd] $[$l]?)
section
namespace bg
open Den
theorem D2:∀{ds:List D},(∀d∈ds,f d=.ok (g d))->cY f ds=.ok (ds.filterMap g)
 |[],_=>rfl
 |d::ds,h=>by
  have J:=h d List.mem_cons_self;have h2:=D2 (f:=f) (g:=g) (ds:=ds) λx ak=>h x (List.mem_cons_of_mem _ ak)
  unfold cY;rw[J];simp only[R.il];rw[h2];simp only[R.il,List.filterMap_cons];cases g d<;>rfl
theorem yY{α:Type}(p):∀xs:List α,ix (xs.map λx=>.aP (p x))=some (xs.map p)
 |[]=>rfl
 |x::xs=>by simp only[List.map_cons,ix,yY p xs,Option.map_some]
def K8{α:Type}(p)(xs:List α):mP (xs.map λx=>.aP (p x))=.ok (xs.all p):=by
 unfold mP;rw[yY];simp only[List.all_map];rfl
def Lf{α:Type}(p)(xs:List α):mQ (xs.map λx=>.aP (p x))=.ok (xs.any p):=by
 unfold mQ;rw[yY];simp only[List.any_map];rfl
theorem E5{α:Type}{f:α->D}(I:List α->bx->Prop)(all):∀(xs pre:List α)(ρ:bx),all=pre++xs->I pre ρ ->
  (∀pre x post ρ,all=pre++x::post->I pre ρ->∃bK,g (f x) ρ=.ok (.br bK)/\I (pre++[x]) bK)->∃bK,forL g (xs.map f) ρ=.ok (.br bK)/\I all bK
 |[],pre,ρ,e,h,_=>⟨ρ,rfl,by rw[e];simpa using h⟩
 |x::xs,pre,ρ,e,h,ae=>by
  obtain⟨ZI,e1,eR⟩:=ae pre x xs ρ e h;obtain⟨ke,e2,gO⟩:=E5 I all xs (pre++[x]) ZI (by rw[e];simp) eR ae;refine⟨ke,?_,gO⟩;simp only[List.map_cons,forL,e1,R.il];exact e2
def gK{α:Type}{f:α->D}(I:List α->bx->Prop)(xs)(ρ)(h:I [] ρ)(ae:∀pre x post ρ,xs=pre++x::post->I pre ρ->∃bK,g (f x) ρ=.ok (.br bK)/\I (pre++[x]) bK):∃bK,forL g (xs.map f) ρ=.ok (.br bK)/\I xs bK :=
 E5 I xs xs [] ρ rfl h ae
noncomputable def aq(c:List Int):D:=.tup (c.map .int)
theorem zv:∀a b:List Int,iX (a.map .int) (b.map .int)=decide (a=b)
 |[],[]=>rfl
 |[],_::_=>rfl
 |_::_,[]=>rfl
 |x::a,y::b=>by
  show(x==y&&iX (a.map .int) (b.map .int))=_;rw[zv a b]
  by_cases J:x=y
  .subst J;by_cases h2:a=b<;>simp[h2]
  .simp[J]
def m8(a b):fs (aq a) (aq b)=decide (a=b):=zv a b
theorem zu:∀a b:List (List Int),iX (a.map aq) (b.map aq)=decide (a=b)
 |[],[]=>rfl
 |[],_::_=>rfl
 |_::_,[]=>rfl
 |x::a,y::b=>by
  show(fs (aq x) (aq y)&&iX (a.map aq) (b.map aq))=_;rw[m8,zu a b]
  by_cases J:x=y
  .subst J;by_cases h2:a=b<;>simp[h2]
  .simp[J]
noncomputable def lexLt:List Int->List Int->Bool
 |[],[]=>false
 |[],_::_=>true
 |_::_,[]=>false
 |x::xs,y::ys=>if x=y then lexLt xs ys else decide (x<y)
theorem tJ:∀a b:List Int,jx (a.map .int) (b.map .int)=some (lexLt a b)
 |[],[]=>rfl
 |[],_::_=>rfl
 |_::_,[]=>rfl
 |x::a,y::b=>by
  show(if (x==y)=true then jx (a.map .int) (b.map .int) else some (decide (x<y)))=some (if x=y then lexLt a b else decide (x<y));rw[tJ a b]
  by_cases h:x=y<;>simp[h]
def pb(a b):i8 (aq a) (aq b)=some (lexLt a b):=tJ a b
def Tt(x)(xs:List Int):memD (.int x) (xs.map .int)=decide (x∈xs):=by
 unfold memD
 induction xs with
 |nil=>simp
 |cons y ys aD =>
  rw[List.map_cons,List.any_cons,aD];show(y==x||_)=_
  by_cases h:y=x
  .subst h;simp
  .have:¬x=y:=λe=>h e.symm
   simp[h,this]
def Ts(c)(cs:List (List Int)):memD (aq c) (cs.map aq)=decide (c∈cs):=by
 unfold memD
 induction cs with
 |nil=>simp
 |cons y ys aD =>
  simp only[List.map_cons,List.any_cons,aD,m8,aa9]
  by_cases h:y=c
  .subst h;simp
  .have:¬c=y:=λe=>h e.symm
   simp[h,this]
theorem qO:∀a:List Int,lexLt a a=false
 |[]=>rfl
 |x::a=>by simp[lexLt,qO a]
theorem tH:∀{a b c:List Int},lexLt a b=true->lexLt b c=true->lexLt a c=true
 |[],[],_,h,_=>by simp[lexLt]at h
 |[],_::_,[],_,h=>by simp[lexLt]at h
 |[],_::_,_::_,_,_=>rfl
 |_::_,[],_,h,_=>by simp[lexLt]at h
 |_::_,_::_,[],_,h=>by simp[lexLt]at h
 |x::a,y::b,z::c,J,h2=>by
  simp only[lexLt]at *
  split at J<;>split at h2
  .rename_i e1 e2;subst e1;subst e2;rw[if_pos rfl];exact tH J h2
  .rename_i e1 e2;subst e1;rw[if_neg e2];exact h2
  .rename_i e1 e2;subst e2;rw[if_neg e1];exact J
  .rename_i e1 e2;simp only[abl]at J h2;rw[if_neg ⋯];simp;lia
theorem tG:∀a b:List Int,a≠b->lexLt a b=true\/lexLt b a=true
 |[],[],h=>absurd rfl h
 |[],_::_,_=>.inl rfl
 |_::_,[],_=>.inr rfl
 |x::a,y::b,h=>by
  simp only[lexLt]
  by_cases e:x=y
  .subst e;have h':a≠b:=λe=>h (by rw[e])
   simpa using tG a b h'
  .have bq:¬y=x:=λz=>e z.symm
   rw[if_neg e,if_neg bq];simp only[abl];lia
section
variable{α:Type}
noncomputable def ins(lt:α->α->Bool)(x:α):List α->List α
 |[]=>[x]
 |y::ys=>if lt y x=true then y::ins lt x ys else x::y::ys
noncomputable def cF(lt:α->α->Bool):List α->List α
 |[]=>[]
 |x::xs=>ins lt x (cF lt xs)
noncomputable def cT[DecidableEq α]:List α->List α
 |[]=>[]
 |x::xs=>if x∈xs then cT xs else x::cT xs
variable{lt:α->α->Bool}
theorem Gj(h:∀a b,i8 (f a) (f b)=some (lt a b))(x):∀ys:List α,qI (f x) (ys.map f)=(ins lt x ys).map f
 |[]=>rfl
 |y::ys=>by
  simp only[List.map_cons,qI,ins,h,ab0]
  split
  .simp[Gj h x ys]
  .rfl
theorem k6(h:∀a b,i8 (f a) (f b)=some (lt a b)):∀xs:List α,hq (xs.map f)=(cF lt xs).map f
 |[]=>rfl
 |x::xs=>by simp only[List.map_cons,hq,cF,k6 h xs,Gj h]
theorem sf[DecidableEq α](h:∀a b,fs (f a) (f b)=decide (a=b)):∀xs:List α,lE (xs.map f)=(cT xs).map f
 |[]=>rfl
 |x::xs=>by
  have e:(xs.map f).any (fs (f x))=decide (x∈xs):=by
   rw[List.any_map]
   induction xs with
   |nil=>simp
   |cons y ys aD=>simp only[List.any_cons,aD,Function.comp,h,aa9];by_cases q:x=y<;>simp[q]
  simp only[List.map_cons,lE,cT,e,sf h xs,abl]
  split<;>rfl
theorem wx(x z):∀ys:List α,z∈ins lt x ys<->z=x\/z∈ys
 |[]=>by simp[ins]
 |y::ys=>by
  unfold ins
  split
  .simp only[aa9,wx x z ys];constructor
   .rintro(h|h|h)
    .exact .inr (.inl h)
    .exact .inl h
    .exact .inr (.inr h)
   .rintro(h|h|h)
    .exact .inr (.inl h)
    .exact .inl h
    .exact .inr (.inr h)
  .simp
theorem ja(z):∀xs:List α,z∈cF lt xs<->z∈xs
 |[]=>by simp[cF]
 |x::xs=>by unfold cF;rw[wx,ja z xs];simp
theorem GD(x):∀ys:List α,(ins lt x ys).length=ys.length+1
 |[]=>rfl
 |y::ys=>by unfold ins;split<;>simp[GD x ys]
theorem nH:∀xs:List α,(cF lt xs).length=xs.length
 |[]=>rfl
 |x::xs=>by unfold cF;rw[GD,nH xs];simp
theorem j4[DecidableEq α](z):∀xs:List α,z∈cT xs<->z∈xs
 |[]=>by simp[cT]
 |x::xs=>by
  unfold cT
  split
  .rename_i h;rw[j4 z xs,aa9];exact⟨.inr,λq=>q.elim (λe=>e▸h) id⟩
  .simp[j4 z xs]
theorem nQ[DecidableEq α]:∀xs:List α,(cT xs).Nodup
 |[]=>ac4
 |x::xs=>by
  unfold cT
  split
  .exact nQ xs
  .rename_i h;exact abv.mpr ⟨λq=>h ((j4 x xs).mp q),nQ xs⟩
structure gU(lt:α->α->Bool):Prop where
 gf:∀a,lt a a=false
 fL:∀{a b c},lt a b=true->lt b c=true->lt a c=true
 conn:∀a b,a≠b->lt a b=true\/lt b a=true
def cQ(lt:α->α->Bool)(xs:List α):Prop:=xs.Pairwise λa b=>lt a b=true
theorem Dr(L:gU lt)(x):∀{ys:List α},cQ lt ys->x∉ys->cQ lt (ins lt x ys)
 |[],_,_=>acF _ _
 |y::ys,h,ak=>by
  obtain⟨J,h2⟩:=aby.mp h;have tm:x≠y:=λe=>ak (by simp[e])
  unfold ins
  split
  .rename_i q;refine aby.mpr ⟨λz hz=>?_,Dr L x h2 λq=>ak (List.mem_cons_of_mem _ q)⟩;rcases(wx x z ys).mp hz with e|e
   .subst e;exact q
   .exact J z e
  .rename_i q;have cU:lt x y=true:=(L.conn x y tm).resolve_right q;refine aby.mpr ⟨λz hz=>?_,h⟩;rcases aa9.mp hz with e|e
   .subst e;exact cU
   .exact L.fL cU (J z e)
theorem kq(L:gU lt):∀{xs:List α},xs.Nodup->cQ lt (cF lt xs)
 |[],_=>List.Pairwise.nil
 |x::xs,h=>Dr L x (kq L (abv.mp h).2) λq=>(abv.mp h).1 ((ja x xs).mp q)
def cQ.nodup(L:gU lt)(h:cQ lt xs):xs.Nodup:=acj (λ{a b} q e=>by subst e;rw[L.gf]at q;cases q) h
theorem kp(L:gU lt):∀{xs ys:List α},cQ lt xs->cQ lt ys->(∀z,z∈xs<->z∈ys)->xs=ys
 |[],[],_,_,_=>rfl
 |[],y::_,_,_,h=>absurd ((h y).mpr List.mem_cons_self) (by simp)
 |x::_,[],_,_,h=>absurd ((h x).mp List.mem_cons_self) (by simp)
 |x::xs,y::ys,ak,aN,h=>by
  obtain⟨aT,cg⟩:=aby.mp ak;obtain⟨rx,uF⟩:=aby.mp aN;have e:x=y:=by
   rcases aa9.mp ((h x).mp List.mem_cons_self) with e|e
   .exact e
   .rcases aa9.mp ((h y).mpr List.mem_cons_self) with bq|bq
    .exact bq.symm
    .have a:=rx x e;have b:=aT y bq;have:=L.fL a b;rw[L.gf]at this;cases this
  subst e;have br:x∉xs:=λq=>by have:=aT x q;rw[L.gf]at this;cases this
  have T6:x∉ys:=λq=>by have:=rx x q;rw[L.gf]at this;cases this
  rw[kp L cg uF λz=>?_];constructor
  .intro hz;rcases aa9.mp ((h z).mp (List.mem_cons_of_mem _ hz)) with e|e
   .subst e;exact absurd hz br
   .exact e
  .intro hz;rcases aa9.mp ((h z).mpr (List.mem_cons_of_mem _ hz)) with e|e
   .subst e;exact absurd hz T6
   .exact e
def XF(L:gU lt)(h:cQ lt xs):cF lt xs=xs:=kp L (kq L (h.nodup L)) h λz=>ja z xs
theorem ve[DecidableEq α]:∀xs:List α,(cT xs).length<=xs.length
 |[]=>abb _
 |x::xs=>by unfold cT;have:=ve xs;split<;>simp<;>lia
theorem hQ[DecidableEq α]:∀{xs ys:List α},xs.Nodup->(∀z∈xs,z∈ys)->xs.length<=ys.length
 |[],_,_,_=>abz _
 |x::xs,ys,h,ae=>by
  obtain⟨J,h2⟩:=abv.mp h;have ak:=ae x List.mem_cons_self;have:=hQ (xs:=xs) (ys:=ys.erase x) h2 λz hz=>by
   have dJ:z≠x:=λe=>J (e▸hz)
   exact(List.mem_erase_of_ne dJ).mpr (ae z (List.mem_cons_of_mem _ hz))
  rw[adC ak]at this;have au:0<ys.length:=adO ak;simp only[List.length_cons];lia
end
def kQ:gU lexLt:=⟨qO,tH,tG⟩
noncomputable def ltI(a b:Int):Bool:=decide (a<b)
def i7:gU ltI:=⟨λa=>by simp[ltI],λJ h2=>by simp[ltI]at *;lia,λa b h=>by simp[ltI];lia⟩
def wt(is:List Int):(is.map D.int).all (fJ 0)=true:=by simp[List.all_map,fJ]
def va{cs:List (List Int)}(az:∀c∈cs,c≠[]):(cs.map aq).all nE=true:=by
 rw[List.all_map,abB];intro c ag;cases c with
 |nil=>exact absurd rfl (az [] ag)
 |cons x c=>show(fJ 0 (.int x)&&(c.map D.int).all (fJ 0))=true;rw[wt];rfl
def XB{cs:List Int}(h:cs.length<=63):sorted (cs.map .int)=.ok (.lst ((cF ltI cs).map .int)):=by
 unfold sorted ih;rw[wt];simp[k6 (f:=D.int) (lt:=ltI) λa b=>rfl,h]
def xj{cs:List (List Int)}(az:∀c∈cs,c≠[])(h:(cT cs).length<=63):eK (cs.map aq)=.ok (.lst ((cF lexLt (cT cs)).map aq)):=by
 unfold eK ih;rw[va az,sf m8,k6 (lt:=lexLt) pb];simp[h]
def Oo(a b):fs (.int a) (.int b)=decide (a=b):=Bool.beq_eq_decide_eq a b
def Jx{cs:List Int}(h:(cT cs).length<=63):eK (cs.map .int)=.ok (.lst ((cF ltI (cT cs)).map .int)):=by
 unfold eK ih;rw[wt,sf (f:=D.int) Oo,k6 (f:=D.int) (lt:=ltI) λa b=>rfl];simp[h]
def Er(a b):fs (.int a) (.int b)=decide (a=b):=Bool.beq_eq_decide_eq a b
def uk(n)(i):cL n (.int i)=true:=by cases n<;>rfl
def B6(n)(c:List Int):(c.map D.int).all (cL n)=true:=by simp[List.all_map,uk]
def xa(n)(c):cL (n+1) (aq c)=true:=B6 n c
def xb(n)(cs:List (List Int)):(cs.map aq).all (cL (n+1))=true:=by simp[List.all_map,xa]
def Ha(x)(c:List Int):hO (.int x) (c.map .int)=.ok (decide (x∈c)):=by
 unfold hO;rw[uk,B6,Tt];rfl
def tL(c)(cs:List (List Int)):hO (aq c) (cs.map aq)=.ok (decide (c∈cs)):=by
 unfold hO;rw[xa,xb,Ts];rfl
def oM(a b):fG (aq a) (aq b)=.ok (decide (a=b)):=by unfold fG;rw[xa,xa,m8];rfl
def zx(a b:List Int):fG (.lst (a.map .int)) (.lst (b.map .int))=.ok (decide (a=b)):=by
 have h:∀a:List Int,cL 60 (.lst (a.map .int))=true:=λa=>B6 59 a
 unfold fG;rw[h,h];exact acp R.ok (zv a b)
def Et(h:ys.all (cL 59)=true):fG (.lst ys) (.lst [])=.ok ys.isEmpty:=by
 have J:cL 60 (.lst ys)=true:=h;have h2:cL 60 (.lst [])=true:=rfl;unfold fG;rw[J,h2];cases ys<;>rfl
def Ew(h:ys.all (cL 59)=true):fG (.tup ys) (.tup [])=.ok ys.isEmpty:=by
 have J:cL 60 (.tup ys)=true:=h;have h2:cL 60 (.tup [])=true:=rfl;unfold fG;rw[J,h2];cases ys<;>rfl
section
variable{α:Type}{lt:α->α->Bool}
def p7(lt:α->α->Bool)(xs:List α):Prop:=xs.Pairwise λa b=>lt b a=false
theorem tX(x):∀ys:List α,(ins lt x ys).Perm (x::ys)
 |[]=>List.Perm.refl _
 |y::ys=>by
  unfold ins
  split
  .exact(List.Perm.cons y (tX x ys)).trans (List.Perm.swap x y ys)
  .exact List.Perm.refl _
theorem wX:∀xs:List α,(cF lt xs).Perm xs
 |[]=>List.Perm.refl _
 |x::xs=>(tX x (cF lt xs)).trans (List.Perm.cons x (wX xs))
def GV(L:gU lt){a b:α}(h:lt a b=true):lt b a=false:=by
 cases q:lt b a with
 |false=>rfl
 |true=>have:=L.fL h q;rw[L.gf]at this;cases this
def GU(L:gU lt){a b c:α}(J:lt b a=false)(h2:lt c b=false):lt c a=false:=by
 cases q:lt c a with
 |false=>rfl
 |true =>
  by_cases e:a=b
  .subst e;rw[h2]at q;cases q
  .rcases L.conn a b e with w|w
   .have:=L.fL q w;rw[h2]at this;cases this
   .rw[J]at w;cases w
theorem Kt(L:gU lt)(x):∀{ys:List α},p7 lt ys->p7 lt (ins lt x ys)
 |[],_=>acF _ _
 |y::ys,h=>by
  obtain⟨J,h2⟩:=aby.mp h;unfold ins
  split
  .rename_i c;refine aby.mpr ⟨λz hz=>?_,Kt L x h2⟩;rcases(wx x z ys).mp hz with rfl|hz
   .exact GV L c
   .exact J z hz
  .rename_i c;refine aby.mpr ⟨λz hz=>?_,h⟩;have c:lt y x=false:=(by simpa using c);rcases aa9.mp hz with rfl|hz
   .exact c
   .exact GU L c (J z hz)
theorem Ku(L:gU lt):∀xs:List α,p7 lt (cF lt xs)
 |[]=>.nil
 |x::xs=>Kt L x (Ku L xs)
theorem Kv(L:gU lt):∀{xs ys:List α},p7 lt xs->p7 lt ys->xs.Perm ys->xs=ys
 |[],ys,_,_,p=>(List.Perm.nil_eq p)
 |x::xs,[],_,_,p=>by have:=p.length_eq;simp at this
 |x::xs,y::ys,ak,aN,p=>by
  obtain⟨aT,cg⟩:=aby.mp ak;obtain⟨rx,uF⟩:=aby.mp aN;have e:x=y:=by
   apply ach;intro ne;have tm:y∈xs:=by
    rcases aa9.mp (p.mem_iff.mpr List.mem_cons_self) with q|q
    .exact absurd q.symm ne
    .exact q
   have tn:x∈ys:=by
    rcases aa9.mp (p.mem_iff.mp List.mem_cons_self) with q|q
    .exact absurd q ne
    .exact q
   rcases L.conn x y ne with w|w
   .rw[rx x tn]at w;cases w
   .rw[aT y tm]at w;cases w
  subst e;rw[Kv L cg uF (List.Perm.cons_inv p)]
end
end bg
end
section
namespace gT
def xor_swap(x y a:Nat):(x ^^^ a) ^^^ y=(x ^^^ y) ^^^ a:=by rw[ab6,ae3 a y,<- ab6]
def ZE(x y a:Nat):(x ^^^ a) ^^^ (y ^^^ a)=x ^^^ y:=by rw[xor_swap,<- ab6,ab6,acV,adq]
def mq(x a:Nat):(x ^^^ a) ^^^ a=x:=by rw[ab6,acV,adq]
noncomputable def sp:List Nat->Nat->Prop
 |[],x=>x=0
 |a::L,x=>sp L x\/sp L (x ^^^ a)
theorem uq:∀L,sp L 0
 |[]=>rfl
 |_::L=>.inl (uq L)
theorem je:∀{L:List Nat}{x y:Nat},sp L x->sp L y->sp L (x ^^^ y)
 |[],x,y,J,h2=>by cases J;cases h2;rfl
 |a::L,x,y,J,h2=>by
  rcases J with J|J<;>rcases h2 with h2|h2
  .exact .inl (je J h2)
  .exact .inr (by rw[ab6];exact je J h2)
  .exact .inr (by rw[<- xor_swap];exact je J h2)
  .exact .inl (by rw[<- ZE x y a];exact je J h2)
theorem fW:∀{L:List Nat}{a:Nat},a∈L->sp L a
 |b::L,a,h=>by
  rcases aa9.mp h with rfl|h
  .exact .inr (by rw[acV];exact uq L)
  .exact .inl (fW h)
theorem hr:∀{L:List Nat}{x:Nat},(∀a∈L,sp M a)->sp L x->sp M x
 |[],x,_,h=>by cases h;exact uq M
 |a::L,x,ae,h=>by
  have ed:∀b∈L,sp M b:=λb aa=>ae b (List.mem_cons_of_mem _ aa)
  rcases h with h|h
  .exact hr ed h
  .have:=je (hr ed h) (ae a List.mem_cons_self);rwa[mq]at this
theorem uo{k:Nat}:∀{L:List Nat}{x:Nat},(∀a∈L,a.testBit k=false)->sp L x->x.testBit k=false
 |[],x,_,h=>by cases h;exact ads k
 |a::L,x,ae,h=>by
  have ed:∀b∈L,b.testBit k=false:=λb aa=>ae b (List.mem_cons_of_mem _ aa)
  rcases h with h|h
  .exact uo ed h
  .have:=uo ed h;rwa[acg,ae a List.mem_cons_self,aeY]at this
theorem Cc:∀{L:List Nat}{x:Nat},(∀a∈L,a<2 ^ n)->sp L x->x<2 ^ n
 |[],x,_,h=>by cases h;exact aeR n
 |a::L,x,ae,h=>by
  have ed:∀b∈L,b<2 ^ n:=λb aa=>ae b (List.mem_cons_of_mem _ aa)
  rcases h with h|h
  .exact Cc ed h
  .have:=acQ (Cc ed h) (ae a List.mem_cons_self);rwa[mq]at this
noncomputable abbrev Row:=Nat×Nat
noncomputable abbrev c1:=List (Nat×Row)
noncomputable def rws(B:c1):List Nat:=B.map λe=>e.2.1
noncomputable def one(r:Row)(e:Nat×Row):Row:=if r.1.testBit e.1=true then(r.1 ^^^ e.2.1,r.2 ^^^ e.2.2) else r
noncomputable def red(B:c1)(r:Row):Row:=B.foldl one r
def t9(e)(B:c1)(r):red (e::B) r=red B (one r e):=rfl
structure dz(B:c1):Prop where
 ap:B.Pairwise λe f=>e.2.1.testBit f.1=false/\f.2.1.testBit e.1=false
 lo:∀e∈B,e.2.1.testBit e.1=true/\∀j,j<e.1->e.2.1.testBit j=false
structure jh(B:c1):Prop where
 ap:B.Pairwise λe f=>f.2.1.testBit e.1=false
 lo:∀e∈B,e.2.1.testBit e.1=true
def jh.tail{B:c1}(h:jh (e::B)):jh B:=⟨(aby.mp h.ap).2,λf hf=>h.lo f (List.mem_cons_of_mem _ hf)⟩
def dz.e1{B:c1}(h:dz B):jh B:=⟨h.ap.imp λq=>q.2,λe he=>(h.lo e he).1⟩
theorem dz.nil:dz []:=⟨.nil,λ_ h=>nomatch h⟩
def dz.tail{B:c1}(h:dz (e::B)):dz B:=⟨(aby.mp h.ap).2,λf hf=>h.lo f (List.mem_cons_of_mem _ hf)⟩
theorem It{k:Nat}:∀{B:c1}{r:Row},(∀f∈B,f.2.1.testBit k=false)->(red B r).1.testBit k=r.1.testBit k
 |[],r,_=>rfl
 |e::B,r,h=>by
  rw[t9,It λf hf=>h f (List.mem_cons_of_mem _ hf)];unfold one
  split
  .rw[acg,h e List.mem_cons_self,aeY]
  .rfl
theorem BR:∀{B:c1}{r:Row},jh B->∀e∈B,(red B r).1.testBit e.1=false
 |f::B,r,h,e,he=>by
  obtain⟨J,h2⟩:=aby.mp h.ap;rw[t9];rcases aa9.mp he with rfl|he
  .rw[It λg aQ=>J g aQ];unfold one
   split
   .rename_i q;rw[acg,q,h.lo e List.mem_cons_self];rfl
   .rename_i q;simpa using q
  .exact BR h.tail e he
theorem BS:∀{B:c1}{r:Row},sp (rws B) (r.1 ^^^ (red B r).1)
 |[],r=>acV _
 |e::B,r=>by
  have aD:=BS (B:=B) (r:=one r e);rw[t9];unfold one at aD ⊢
  split
  .rename_i q;rw[if_pos q]at aD;exact .inr (by rw[<- xor_swap];exact aD)
  .rename_i q;rw[if_neg q]at aD;exact .inl aD
theorem En:∀{B:c1}{x:Nat},jh B->sp (rws B) x->(∀e∈B,x.testBit e.1=false)->x=0
 |[],x,_,h,_=>h
 |e::B,x,h,ae,aa=>by
  obtain⟨J,h2⟩:=aby.mp h.ap;rcases ae with ae|ae
  .exact En h.tail ae λf hf=>aa f (List.mem_cons_of_mem _ hf)
  .exfalso;have:=uo (k:=e.1) (λa aA=>by obtain⟨f,hf,rfl⟩:=List.mem_map.mp aA;exact J f hf) ae;rw[acg,aa e List.mem_cons_self,h.lo e List.mem_cons_self]at this;cases this
def VS{B:c1}(h:jh B):(red B r).1=0<->sp (rws B) r.1:=by
 have J:=BS (B:=B) (r:=r);constructor
 .intro z;rwa[z,adq]at J
 .intro z;have h2:=je J z;rw[xor_swap,acV,adt]at h2;exact En h h2 (BR h)
def w3{B:c1}(h:dz B):(red B r).1=0<->sp (rws B) r.1:=VS h.e1
theorem Ba : ∀ {C : c1} {x k : Nat}, dz C -> sp (rws C) x -> x.testBit k = true -> (∀ j, j < k -> x.testBit j = false) -> ∃ f ∈ C, f.1 = k
  | [], x, k, _, h, aw, _ => by cases h; rw [ads] at aw; cases aw
  | f :: C, x, k, h, ae, aw, aF => by
    obtain ⟨J, h2⟩ := aby.mp h.ap
    rcases ae with ae | ae
    · obtain ⟨g, a, b⟩ := Ba h.tail ae aw aF
      exact ⟨g, List.mem_cons_of_mem _ a, b⟩
    · have aa := uo (k := f.1) (fun a aA => by obtain ⟨g, aQ, rfl⟩ := List.mem_map.mp aA; exact (J g aQ).2) ae
      obtain ⟨l1, l2⟩ := h.lo f List.mem_cons_self
      rw [acg, l1] at aa
      have ak : x.testBit f.1 = true := by cases q : x.testBit f.1 <;> rw [q] at aa <;> first | rfl | cases aa
      by_cases c : f.1 = k
      · exact ⟨f, List.mem_cons_self, c⟩
      · have bM : k < f.1 := by
          rcases adP k f.1 with q | q | q
          · exact q
          · exact absurd q.symm c
          · rw [aF f.1 q] at ak; cases ak
        obtain ⟨g, a, b⟩ := Ba h.tail ae (k := k) (by rw [acg, aw, l2 k bM]; rfl) fun j q => by rw [acg, aF j q, l2 j ⋯]; rfl
        exact ⟨g, List.mem_cons_of_mem _ a, b⟩
def sr{B:c1}(h:dz B):(B.map (·.1)).Nodup:=by
 rw[abk,abK];refine abN (λ{e f} he hf q z=>?_) h.ap;have:=(h.lo f hf).1;rw[<- z,q.2]at this;cases this
def vk{B C:c1}(d3:dz B)(dU:dz C)(h:∀x,sp (rws B) x->sp (rws C) x):B.length<=C.length:=by
 have:=bg.hQ (sr d3) (ys:=C.map (·.1)) λz hz=>by
  obtain⟨e,he,rfl⟩:=List.mem_map.mp hz;obtain⟨f,hf,q⟩:=Ba dU (h _ (fW (List.mem_map.mpr ⟨e,he,rfl⟩))) (d3.lo e he).1 (d3.lo e he).2;exact List.mem_map.mpr ⟨f,hf,q⟩
 simpa using this
noncomputable def qQ:Nat->Nat->Nat
 |0,_=>0
 |f+1,n=>if n%2=1 then 0 else qQ f (n / 2)+1
noncomputable def lo(n:Nat):Nat:=qQ n n
theorem GZ:∀(f n:Nat),0<n->n<=f->n.testBit (qQ f n)=true/\(∀j,j<qQ f n->n.testBit j=false)/\n-(n &&& (n-1))=2 ^ qQ f n/\(n &&& (n-1))<=n
 |0,n,h,h2=>by lia
 |f+1,n,h,h2=>by
  rw[qQ]
  by_cases c:n%2=1
  .rw[if_pos c];refine⟨by rw[ad3];simp[c],λj aF=>⋯,?_,Nat.and_le_left⟩;have e1:(n &&& (n-1)) / 2=n / 2:=(by rw[ael,show(n-1) / 2=n / 2 by lia,Nat.and_self]);have e2:(n &&& (n-1))%2=0:=by
    have:=@ac9 n (n-1);rcases abg (n &&& (n-1)) with q|q
    .exact q
    .have:=(this.mp q).2;lia
   show n-(n &&& (n-1))=1;lia
  .rw[if_neg c];obtain⟨eR,gO,j1,qG⟩:=GZ f (n / 2) ⋯ ⋯;refine⟨by rw[ad4];exact eR,λj aF=>?_,?_,Nat.and_le_left⟩
   .cases j with
    |zero=>rw[ad3];simp[c]
    |succ j=>rw[ad4];exact gO j ⋯
   .have e1:(n &&& (n-1)) / 2=n / 2 &&& (n / 2-1):=(by rw[ael,show(n-1) / 2=n / 2-1 by lia]);have e2:(n &&& (n-1))%2=0:=by
     have:=@ac9 n (n-1);rcases abg (n &&& (n-1)) with q|q
     .exact q
     .have:=(this.mp q).1;lia
    rw[Nat.pow_succ];rw[<- e1]at j1 qG;lia
def GY(n)(h:0<n):n.testBit (lo n)=true/\(∀j,j<lo n->n.testBit j=false)/\n-(n &&& (n-1))=2 ^ lo n/\(n &&& (n-1))<=n:=GZ n n h (abb _)
noncomputable def grow(B:c1)(r:Row):c1:=if (red B r).1=0 then B else B.map (λe=>(e.1,one e.2 (lo (red B r).1,red B r)))++[(lo (red B r).1,red B r)]
def sM {B : c1} (h : dz B) (r) : dz (grow B r) := by
  unfold grow
  split
  · exact h
  · rename_i ax
    have aa := BR (r := r) h.e1
    generalize red B r = l at ax aa
    obtain ⟨l1, l2, -, -⟩ := GY l.1 ⋯
    generalize lo l.1 = k at l1 l2
    have on : ∀ (e : Nat × Row) j, (one e.2 (k, l)).1.testBit j = (e.2.1.testBit j ^^ (e.2.1.testBit k && l.1.testBit j)) := fun e j => by
      unfold one
      by_cases q : e.2.1.testBit k = true
      · rw [if_pos q, acg, q, Bool.true_and]
      · rw [if_neg q]
        have q : e.2.1.testBit k = false := by simpa using q
        rw [q, adL, aeY]
    refine ⟨List.pairwise_append.mpr ⟨?_, acF _ _, fun e he f hf => ?_⟩, fun e he => ?_⟩
    · rw [abK]
      refine abN (fun {e f} he hf q => ?_) h.ap
      dsimp only
      rw [on, on, q.1, q.2, aa e he, aa f hf, Bool.and_false, Bool.and_false]
      exact ⟨rfl, rfl⟩
    · obtain ⟨bq, gd, rfl⟩ := List.mem_map.mp he
      obtain rfl := abm.mp hf
      dsimp only
      rw [on, l1, aa bq gd, Bool.and_true, Bool.xor_self]
      exact ⟨rfl, rfl⟩
    · rcases abq.mp he with he | he
      · obtain ⟨bq, gd, rfl⟩ := List.mem_map.mp he
        dsimp only
        obtain ⟨bO, bE⟩ := h.lo bq gd
        refine ⟨by rw [on, bO, aa bq gd, Bool.and_false]; rfl, fun j aF => ?_⟩
        rw [on, bE j aF]
        by_cases q : bq.2.1.testBit k = true
        · have : bq.1 < k := by
            rcases adP bq.1 k with w | w | w
            · exact w
            · have := aa bq gd; rw [w, l1] at this; cases this
            · rw [bE k w] at q; cases q
          rw [l2 j ⋯, Bool.and_false]; rfl
        · have q : bq.2.1.testBit k = false := by simpa using q
          rw [q]; rfl
      · obtain rfl := abm.mp he
        exact ⟨l1, l2⟩
def Fm{B:c1}(h:dz B)(r)(x):sp (rws (grow B r)) x<->sp (r.1::rws B) x:=by
 have h0:=BS (B:=B) (r:=r);unfold grow
 split
 .rename_i z;rw[z,adq]at h0;exact⟨.inl,hr λa aA=>by rcases aa9.mp aA with rfl|aA;exact h0;exact fW aA⟩
 .generalize red B r=l at h0;generalize lo l.1=k;have ax:∀{M:List Nat},sp M l.1->(∀e∈B,sp M (one e.2 (k,l)).1)->∀a∈rws B,sp M a:=λ{M} J h2 a aA=>by
   obtain⟨e,he,rfl⟩:=List.mem_map.mp aA;have:=h2 e he;unfold one at this
   split at this
   .have:=je this J;rwa[mq]at this
   .exact this
  constructor
  .refine hr λa aA=>?_
   have tO:sp (r.1::rws B) l.1:=by
    have J:sp (r.1::rws B) (r.1 ^^^ l.1):=.inl h0;have:=je J (fW (L:=r.1::rws B) List.mem_cons_self);rwa[xor_swap,acV,adt]at this
   unfold rws at aA;rw[List.map_append,List.map_map]at aA;rcases abq.mp aA with aA|aA
   .obtain⟨e,he,rfl⟩:=List.mem_map.mp aA;have G9:sp (r.1::rws B) e.2.1:=.inl (fW (List.mem_map.mpr ⟨e,he,rfl⟩));show sp _ (one e.2 (k,l)).1;unfold one
    split
    .exact je G9 tO
    .exact G9
   .obtain rfl:a=l.1:=(by simpa using aA);exact tO
  .have tO:sp (rws (B.map (λe=>(e.1,one e.2 (k,l)))++[(k,l)])) l.1:=fW (by unfold rws;simp);have G6:=ax tO λe he=>fW (by unfold rws;rw[List.map_append,List.map_map];exact List.mem_append_left _ (List.mem_map.mpr ⟨e,he,rfl⟩))
   refine hr λa aA=>?_
   rcases aa9.mp aA with rfl|aA
   .have:=je (hr G6 h0) tO;rwa[mq]at this
   .exact G6 a aA
def sN(B)(r):(grow B r).length=B.length+if (red B r).1=0 then 0 else 1:=by
 unfold grow
 split<;>simp
noncomputable def dI(B:c1)(rs:List Row):c1:=rs.foldl grow B
theorem i1:∀{rs:List Row}{B:c1},dz B->dz (dI B rs)
 |[],_,h=>h
 |r::rs,_,h=>i1 (rs:=rs) (sM h r)
theorem sL:∀{rs:List Row}{B:c1},dz B->∀x,sp (rws (dI B rs)) x<->sp (rs.map (·.1)++rws B) x
 |[],_,h,x=>Iff.rfl
 |r::rs,B,h,x=>by
  show sp (rws (dI (grow B r) rs)) x<->_;rw[sL (sM h r) x];have g:=Fm h r;constructor
  .refine hr λa aA=>?_
   rcases abq.mp aA with aA|aA
   .exact fW (by rw[List.map_cons];exact List.mem_cons_of_mem _ (List.mem_append_left _ aA))
   .refine hr (λb aa=>?_) ((g a).mp (fW aA));refine fW ?_;rw[List.map_cons];rcases aa9.mp aa with rfl|aa
    .exact List.mem_cons_self
    .exact List.mem_cons_of_mem _ (abn _ aa)
  .refine hr λa aA=>?_
   have aS:∀b,b∈r.1::rws B->sp (rs.map (·.1)++rws (grow B r)) b:=λb aa=>hr (λc ag=>fW (abn _ ag)) ((g b).mpr (fW aa))
   rw[List.map_cons,acr]at aA;rcases aa9.mp aA with rfl|aA
   .exact aS _ List.mem_cons_self
   .rcases abq.mp aA with aA|aA
    .exact fW (List.mem_append_left _ aA)
    .exact aS a (List.mem_cons_of_mem _ aA)
end gT
end
section
namespace gT
noncomputable def bd:List Nat->Nat->Nat
 |[],_=>0
 |a::as,z=>(if z%2=1 then a else 0) ^^^ bd as (z / 2)
def ZA(a b c d:Nat):(a ^^^ b) ^^^ (c ^^^ d)=(a ^^^ c) ^^^ (b ^^^ d):=by rw[ab6,<- ab6 b c d,ae3 b c,ab6 c b d,<- ab6]
theorem mS:∀(as:List Nat)(x y:Nat),bd as (x ^^^ y)=bd as x ^^^ bd as y
 |[],_,_=>(acV 0).symm
 |a::as,x,y=>by
  show(if (x ^^^ y)%2=1 then a else 0) ^^^ bd as ((x ^^^ y) / 2)=((if x%2=1 then a else 0) ^^^ bd as (x / 2)) ^^^ ((if y%2=1 then a else 0) ^^^ bd as (y / 2));rw[aeS,mS as,ZA];congr 1;have:=@adQ x y
  by_cases J:x%2=1<;>by_cases h2:y%2=1<;>simp[J,h2,this]
theorem yU:∀(as:List Nat)(a z:Nat),bd (as++[a]) z=bd as z ^^^ (if z.testBit as.length=true then a else 0)
 |[],a,z=>by
  show(if z%2=1 then a else 0) ^^^ 0=0 ^^^ _;rw[adq,adt,List.length_nil,ad3];simp
 |b::as,a,z=>by
  show(if z%2=1 then b else 0) ^^^ bd (as++[a]) (z / 2)=((if z%2=1 then b else 0) ^^^ bd as (z / 2)) ^^^ _;rw[yU as a,List.length_cons,ad4,ab6]
theorem Dv:∀(as:List Nat)(z:Nat),(∀j,j<as.length->z.testBit j=false)->bd as z=0
 |[],_,_=>rfl
 |a::as,z,h=>by
  have h0:=h 0 (by simp);rw[ad3]at h0;show(if z%2=1 then a else 0) ^^^ bd as (z / 2)=0;rw[if_neg (by simpa using h0),Dv as (z / 2) λj aF=>by rw[<- ad4];exact h (j+1) (by simpa using aF)];rfl
def Dx(as)(a):bd (as++[a]) (2 ^ as.length)=a:=by
 rw[yU,Dv as _ λj aF=>by rw[ady];simp;lia,acY,if_pos rfl,adt]
def lz(as)(a)(h:z<2 ^ as.length):bd (as++[a]) z=bd as z:=by
 rw[yU,acx h];simp
def zj(h:z<2 ^ (n+1)):(z.testBit n=false/\z<2 ^ n)\/(z.testBit n=true/\∀u,u<2 ^ (n+1)->u.testBit n=true->z ^^^ u<2 ^ n):=by
 have key:∀y,y<2 ^ (n+1)->y.testBit n=false->y<2 ^ n:=λy aN az=>by
  refine Nat.lt_pow_two_of_testBit y λi ai=>?_
  rcases aeP n i with q|q
  .exact acx (abr aN (abT ∅ q))
  .rw[show i=n by lia];exact az
 cases q:z.testBit n with
 |false=>exact .inl ⟨rfl,key z h q⟩
 |true=>exact .inr ⟨rfl,λu bc aa=>key _ (acQ h bc) (by rw[acg,q,aa];rfl)⟩
theorem Ir:∀{B:c1}{r:Row},(∀e∈B,bd as e.2.2=e.2.1)->bd as r.2=r.1->bd as (red B r).2=(red B r).1
 |[],r,_,h=>h
 |e::B,r,d3,h=>by
  rw[t9];refine Ir (λf hf=>d3 f (List.mem_cons_of_mem _ hf)) ?_;unfold one
  split
  .show bd as (r.2 ^^^ e.2.2)=r.1 ^^^ e.2.1;rw[mS,h,d3 e List.mem_cons_self]
  .exact h
theorem Iu:∀{B:c1}{r:Row},(∀e∈B,e.2.2<2 ^ n)->∃u,u<2 ^ n/\(red B r).2=r.2 ^^^ u
 |[],r,_=>⟨0,aeR n,(adq _).symm⟩
 |e::B,r,d3=>by
  obtain⟨u,J,h2⟩:=Iu (B:=B) (r:=one r e) λf hf=>d3 f (List.mem_cons_of_mem _ hf)
  rw[t9,h2];unfold one
  split
  .exact⟨e.2.2 ^^^ u,acQ (d3 e List.mem_cons_self) J,by rw[<- ab6]⟩
  .exact⟨u,J,rfl⟩
noncomputable def step(st:c1×List Nat)(r:Row):c1×List Nat:=(grow st.1 r,if (red st.1 r).1=0 then st.2++[(red st.1 r).2] else st.2)
noncomputable def eB(rs:List Row):c1×List Nat:=rs.foldl step ([],[])
noncomputable def ef(as:List Nat):List Row:=as.zipIdx.map λp=>(p.1,2 ^ p.2)
def TB(as)(a):ef (as++[a])=ef as++[(a,2 ^ as.length)]:=by
 unfold ef;rw[List.zipIdx_append,List.map_append];simp
def Gg(rs)(r):eB (rs++[r])=step (eB rs) r:=by unfold eB;rw[List.foldl_append];rfl
noncomputable def bare(b:Nat):Row:=(b,0)
structure St(as:List Nat)(B:c1)(F:List Nat):Prop where
 vj:dz B
 qc:∀e∈B,bd as e.2.2=e.2.1/\e.2.2<2 ^ as.length
 len:B.length+F.length=as.length
 jr:∀b∈F,b<2 ^ as.length
 nul:∀b∈F,bd as b=0
 fin:(dI [] (F.map bare)).length=F.length
 wh:∀z,z<2 ^ as.length->bd as z=0->sp F z
 tv:∀z,z<2 ^ as.length->sp (rws B) (bd as z)
def xh:sp (rws (dI [] (F.map bare))) x<->sp F x:=by
 rw[sL dz.nil,List.map_map];have e:F.map ((λx:Row=>x.1) ∘ bare)=F:=by
  have:((λx:Row=>x.1) ∘ bare)=id:=rfl;rw[this,aeh]
 rw[e];show sp (F++[]) x<->_;rw[acm]
def snoc_ind{P:List Nat->Prop}(h0:P [])(J:∀as a,P as->P (as++[a]))(as):P as:=by
 have key:∀n (as:List Nat),as.length=n->P as:=by
  intro n
  induction n with
  |zero=>intro as h;rw[ac6 h];exact h0
  |succ n aD =>
   intro as h;rcases List.eq_nil_or_concat as with rfl|⟨l,a,rfl⟩
   .cases h
   .rw[List.concat_eq_append]at h ⊢;exact J l a (aD l (by simpa using h))
 exact key _ as rfl
def JA (as) : St as (eB (ef as)).1 (eB (ef as)).2 := by
  refine snoc_ind (P := fun as => St as (eB (ef as)).1 (eB (ef as)).2) ?_ ?_ as
  · show St [] [] []
    refine ⟨dz.nil, (fun _ h => nomatch h), rfl, (fun _ h => nomatch h), (fun _ h => nomatch h), rfl, fun z h _ => ?_, fun _ _ => rfl⟩
    have h : z < 1 := h
    show z = 0
    lia
  · intro as a aD
    rw [TB, Gg]
    generalize (eB (ef as)) = st at aD
    obtain ⟨B, F⟩ := st
    dsimp only at aD
    unfold step
    dsimp only
    have aa : ∀ e ∈ B, bd (as ++ [a]) e.2.2 = e.2.1 := fun e he => by rw [lz as a (aD.qc e he).2]; exact (aD.qc e he).1
    have l1 := Ir (r := (a, 2 ^ as.length)) aa (Dx as a)
    obtain ⟨u, bc, l2⟩ := Iu (B := B) (r := (a, 2 ^ as.length)) fun e he => (aD.qc e he).2
    have hz := w3 (r := (a, 2 ^ as.length)) aD.vj
    have aQ := sN B (a, 2 ^ as.length)
    have eS : (as ++ [a]).length = as.length + 1 := by simp
    have up : ∀ {z}, z < 2 ^ as.length -> z < 2 ^ (as ++ [a]).length := fun {z} h => by rw [eS, Nat.pow_succ]; lia
    have tt : (2 : Nat) ^ as.length < 2 ^ (as ++ [a]).length := by rw [eS]; exact ado ∅ (acN _)
    have l3 : (red B (a, 2 ^ as.length)).2 < 2 ^ (as ++ [a]).length := by rw [l2]; exact acQ tt (up bc)
    have l4 : (red B (a, 2 ^ as.length)).2.testBit as.length = true := by
      rw [l2, acg]
      show ((2 ^ as.length).testBit as.length ^^ u.testBit as.length) = true
      rw [acY, acx bc]; rfl
    have top : ∀ {z}, z < 2 ^ (as ++ [a]).length -> z.testBit as.length = true -> bd (as ++ [a]) z = bd as (z ^^^ 2 ^ as.length) ^^^ a /\ z ^^^ 2 ^ as.length < 2 ^ as.length := fun {z} h q => by
      have bM : z ^^^ 2 ^ as.length < 2 ^ as.length := by
        rcases zj (n := as.length) (by rw [<- eS]; exact h) with ⟨w, _⟩ | ⟨_, w⟩
        · rw [q] at w; cases w
        · exact w _ (by rw [<- eS]; exact tt) (acY)
      refine ⟨?_, bM⟩
      rw [<- lz as a bM, mS, Dx, mq]
    have low : ∀ {z}, z < 2 ^ (as ++ [a]).length -> z.testBit as.length = false -> z < 2 ^ as.length := fun {z} h q => by
      rcases zj (n := as.length) (by rw [<- eS]; exact h) with ⟨_, w⟩ | ⟨w, _⟩
      · exact w
      · rw [q] at w; cases w
    generalize ax : red B (a, 2 ^ as.length) = l at l1 l2 l3 l4 hz aQ
    by_cases c : l.1 = 0
    · have Al : grow B (a, 2 ^ as.length) = B := by unfold grow; rw [ax, if_pos c]
      rw [if_pos c, Al]
      refine ⟨aD.vj, fun e he => ⟨aa e he, up (aD.qc e he).2⟩, by rw [List.length_append, eS]; have := aD.len; simp; lia, fun b gb => ?_, fun b gb => ?_, ?_, fun z h0 J => ?_, fun z h0 => ?_⟩
      · rcases abq.mp gb with h | h
        · exact up (aD.jr b h)
        · rw [abm.mp h]; exact l3
      · rcases abq.mp gb with h | h
        · rw [lz as a (aD.jr b h)]; exact aD.nul b h
        · rw [abm.mp h, l1, c]
      · rw [List.map_append]
        show (dI [] (F.map bare ++ [bare l.2])).length = _
        unfold dI
        rw [List.foldl_append]
        show (grow (dI [] (F.map bare)) (bare l.2)).length = _
        rw [sN, aD.fin, List.length_append, if_neg]
        · rfl
        · intro w
          have := Cc aD.jr (xh.mp ((w3 (i1 dz.nil)).mp w))
          have this : l.2 < 2 ^ as.length := this
          rw [acx this] at l4; cases l4
      · cases q : z.testBit as.length with
        | false =>
          have := aD.wh z (low h0 q) (by rw [<- lz as a (low h0 q)]; exact J)
          exact hr (fun b aa => fW (List.mem_append_left _ aa)) this
        | true =>
          have h2 : z ^^^ l.2 < 2 ^ as.length := by
            rcases zj (n := as.length) (by rw [<- eS]; exact h0) with ⟨w, _⟩ | ⟨_, w⟩
            · rw [q] at w; cases w
            · exact w _ (by rw [<- eS]; exact l3) l4
          have h3 := aD.wh _ h2 (by rw [<- lz as a h2, mS, J, l1, c]; rfl)
          have h4 : sp (F ++ [l.2]) (z ^^^ l.2) := hr (fun b aa => fW (List.mem_append_left _ aa)) h3
          have := je h4 (fW (abn F List.mem_cons_self))
          rwa [mq] at this
      · cases q : z.testBit as.length with
        | false => rw [lz as a (low h0 q)]; exact aD.tv z (low h0 q)
        | true =>
          obtain ⟨t1, dZ⟩ := top h0 q
          rw [t1]
          exact je (aD.tv _ dZ) (hz.mp c)
    · have Al : ∀ e ∈ grow B (a, 2 ^ as.length), bd (as ++ [a]) e.2.2 = e.2.1 /\ e.2.2 < 2 ^ (as ++ [a]).length := fun e he => by
        unfold grow at he
        rw [ax, if_neg c] at he
        rcases abq.mp he with he | he
        · obtain ⟨f, hf, rfl⟩ := List.mem_map.mp he
          dsimp only
          unfold one
          split
          · exact ⟨by rw [mS, aa f hf, l1], acQ (up (aD.qc f hf).2) l3⟩
          · exact ⟨aa f hf, up (aD.qc f hf).2⟩
        · rw [abm.mp he]; exact ⟨l1, l3⟩
      rw [if_neg c]
      rw [if_neg c] at aQ
      refine ⟨sM aD.vj _, Al, by rw [aQ, eS]; have := aD.len; lia, fun b gb => up (aD.jr b gb), fun b gb => by rw [lz as a (aD.jr b gb)]; exact aD.nul b gb, aD.fin, fun z h0 J => ?_, fun z h0 => ?_⟩
      · cases q : z.testBit as.length with
        | false => exact aD.wh z (low h0 q) (by rw [<- lz as a (low h0 q)]; exact J)
        | true =>
          exfalso
          obtain ⟨t1, dZ⟩ := top h0 q
          rw [J] at t1
          have : bd as (z ^^^ 2 ^ as.length) = a := by
            have w : 0 ^^^ a = (bd as (z ^^^ 2 ^ as.length) ^^^ a) ^^^ a := acp (· ^^^ a) t1
            rw [mq, adt] at w
            exact w.symm
          exact c (hz.mpr (by have h5 := aD.tv _ dZ; rw [this] at h5; exact h5))
      · rw [Fm aD.vj]
        cases q : z.testBit as.length with
        | false => rw [lz as a (low h0 q)]; exact .inl (aD.tv z (low h0 q))
        | true =>
          obtain ⟨t1, dZ⟩ := top h0 q
          rw [t1]
          exact .inr (by rw [mq]; exact aD.tv _ dZ)
noncomputable def tell(st:c1×List Nat)(b:Nat):c1×List Nat:=(grow st.1 (bare b),if (red st.1 (bare b)).1=0 then st.2 else st.2++[b])
theorem JZ:∀(F:List Nat)(B:c1)(G:List Nat),(F.foldl tell (B,G)).2.length+B.length=(dI B (F.map bare)).length+G.length
 |[],B,G=>Nat.add_comm _ _
 |b::F,B,G=>by
  show(F.foldl tell (tell (B,G) b)).2.length+B.length=(dI (grow B (bare b)) (F.map bare)).length+G.length;have h:=JZ F (grow B (bare b)) (if (red B (bare b)).1=0 then G else G++[b]);have h2:=sN B (bare b);have Ox:tell (B,G) b=(grow B (bare b),if (red B (bare b)).1=0 then G else G++[b]):=rfl;rw[Ox]
  by_cases c:(red B (bare b)).1=0
  .rw[if_pos c]at h h2 ⊢;lia
  .rw[if_neg c]at h h2 ⊢;rw[List.length_append]at h;simp at h;lia
def V8(as)(rs)(h:∀r∈rs,r.1<2 ^ as.length/\bd as r.1=0):
  ((eB (ef as)).2.foldl tell (dI [] rs,[])).2.length+(dI [] rs).length=(eB (ef as)).2.length:=by
 have st:=JA as;generalize (eB (ef as)).2=F at st;rw[JZ];have e1:=i1 (rs:=rs) dz.nil;have e2:=i1 (rs:=F.map bare) e1;have e3:=i1 (rs:=F.map bare) dz.nil;have s1:∀x,sp (rws (dI (dI [] rs) (F.map bare))) x<->sp F x:=λx=>by
  rw[sL e1,List.map_map,show F.map ((λx:Row=>x.1) ∘ bare)=F from aeh F];refine⟨hr λa aA=>?_,hr λa aA=>fW (List.mem_append_left _ aA)⟩;rcases abq.mp aA with aA|aA
  .exact fW aA
  .have:=(sL (rs:=rs) dz.nil a).mp (fW aA);refine hr (λb aa=>?_) this;rw[show rws []=[] from rfl,acm]at aa;obtain⟨r,aV,rfl⟩:=List.mem_map.mp aa;exact st.wh _ (h r aV).1 (h r aV).2
 have eR:=vk e2 e3 λx ak=>xh.mpr ((s1 x).mp ak)
 have gO:=vk e3 e2 λx ak=>(s1 x).mpr (xh.mp ak)
 have:=st.fin;simp only[List.length_nil];lia
end gT
end
section
namespace gT
def CR:∀x y:Nat,(x ^^^ y)+2*(x &&& y)=x+y:=by
 intro x
 induction x using Nat.strongRecOn with
 |ind x aD =>
  intro y
  by_cases h:x=0
  .subst h;simp
  .have J:=aD (x / 2) ⋯ (y / 2);have e1:(x ^^^ y) / 2=x / 2 ^^^ y / 2:=aeS;have e2:(x &&& y) / 2=x / 2 &&& y / 2:=ael;have e3:(x ^^^ y)%2=(x%2+y%2)%2:=by
    have:=@adQ x y;rcases abg x with a|a<;>rcases abg y with b|b<;>rcases abg (x ^^^ y) with c|c<;>simp[a,b,c]at this ⊢
   have e4:(x &&& y)%2=(x%2)*(y%2):=by
    have:=@ac9 x y;rcases abg x with a|a<;>rcases abg y with b|b<;>rcases abg (x &&& y) with c|c<;>simp[a,b,c]at this ⊢
   rw[<- e1,<- e2]at J;revert J e3 e4;generalize x ^^^ y=p;generalize x &&& y=q;intro J e3 e4;rcases abg x with a|a<;>rcases abg y with b|b<;>rw[a,b]at e3 e4<;>lia
noncomputable def eV:List Nat->Nat
 |[]=>0
 |a::as=>a ^^^ eV as
theorem xM(j):∀L:List Nat,(eV L).testBit j=decide ((L.countP λa=>a.testBit j)%2=1)
 |[]=>by simp[eV]
 |a::L=>by
  rw[eV,acg,xM j L,ad5];cases a.testBit j with
  |false=>simp
  |true =>
   simp only[abY,Bool.true_xor];rcases abg (L.countP λa=>a.testBit j) with h|h
   .rw[h,show(List.countP (λa=>a.testBit j) L+1)%2=1 by lia];rfl
   .rw[h,show(List.countP (λa=>a.testBit j) L+1)%2=0 by lia];rfl
theorem yV:∀as:List Nat,bd as 0=0
 |[]=>rfl
 |a::as=>by show(if 0%2=1 then a else 0) ^^^ bd as (0 / 2)=0;rw[if_neg ∅,Nat.zero_div,yV as];rfl
theorem Dw:∀(as:List Nat)(j:Nat),bd as (2 ^ j)=as.getD j 0
 |[],j=>by simp[bd]
 |a::as,0=>by
  show(if 1%2=1 then a else 0) ^^^ bd as (1 / 2)=a;rw[if_pos ∅,show 1 / 2=0 by decide,yV,adq]
 |a::as,j+1=>by
  show(if 2 ^ (j+1)%2=1 then a else 0) ^^^ bd as (2 ^ (j+1) / 2)=(a::as).getD (j+1) 0;have J:2 ^ (j+1)%2=0:=(by rw[Nat.pow_succ];lia);have h2:2 ^ (j+1) / 2=2 ^ j:=(by rw[Nat.pow_succ];lia);rw[if_neg ⋯,h2,Dw as j,adt];rfl
theorem Dy(as):∀L:List Nat,bd as (eV L)=eV (L.map (bd as))
 |[]=>yV as
 |a::L=>by rw[eV,mS,Dy as L,List.map_cons,eV]
section
variable{α:Type}[DecidableEq α]
noncomputable abbrev cp(U:List α)(x:α):Nat:=U.idxOf x
def we{x:α}(h:x∈U):cp U x<U.length:=abP h
def Gu{U:List α}(dS:U.Nodup)(h:i<U.length):cp U U[i]=i:=dS.idxOf_getElem i h
noncomputable def c6(U xs:List α):Nat:=eV (xs.map λx=>2 ^ cp U x)
def wB{U:List α}(j)(aF:j<U.length)(ak:xs.Nodup)(dS:U.Nodup):(c6 U xs).testBit j=decide (U[j]∈xs):=by
 unfold c6;rw[xM,adF];have e:xs.countP ((λa=>a.testBit j) ∘ λx=>2 ^ U.idxOf x)=xs.countP λx=>x==U[j]:=by
  refine adm λx ak=>?_
  simp only[Function.comp,ady,abl,abG];constructor
  .intro h;have:U[U.idxOf x]'⋯=x:=ace ⋯;rw[<- this];congr 1
  .intro h;rw[h];exact dS.idxOf_getElem j aF
 have MH:∀{xs:List α}(y:α),xs.Nodup->xs.countP (λx=>x==y)=if y∈xs then 1 else 0:=λ{xs} y=>by
  induction xs with
  |nil=>intro _;rfl
  |cons x xs aD =>
   intro az;obtain⟨eS,d2⟩:=abv.mp az;rw[ad5,aD d2]
   by_cases q:x=y
   .subst q;simp[eS]
   .simp[q,abW q]
 rw[e,MH _ ak]
 by_cases h:U[j]∈xs
 .rw[if_pos h,decide_eq_true h];rfl
 .rw[if_neg h,decide_eq_false h];rfl
theorem Bi:∀{xs:List α},(∀x∈xs,x∈U)->c6 U xs<2 ^ U.length
 |[],_=>aeR _
 |x::xs,h=>by
  show 2 ^ U.idxOf x ^^^ c6 U xs<2 ^ U.length;refine acQ (ado ∅ (abP (h x List.mem_cons_self))) (Bi λy aN=>h y (List.mem_cons_of_mem _ aN))
theorem Hf(dS:U.Nodup):∀{xs:List α},xs.Nodup->(∀x∈xs,x∈U)->(xs.map λx=>((2 ^ cp U x:Nat):Int)).sum=(c6 U xs:Int)
 |[],_,_=>rfl
 |x::xs,ak,h=>by
  obtain⟨J,h2⟩:=abv.mp ak;have RK:=h x List.mem_cons_self;have bM:=abP RK;rw[List.map_cons,List.sum_cons,Hf dS h2 λy aN=>h y (List.mem_cons_of_mem _ aN)];show _=((2 ^ cp U x ^^^ c6 U xs:Nat):Int);have aa:(c6 U xs).testBit (cp U x)=false:=(by rw[wB _ bM h2 dS,ace bM,decide_eq_false J]);have aA:2 ^ cp U x &&& c6 U xs=0:=by
   apply aei;intro i;rw[aeT,ady,ads]
   by_cases q:cp U x=i
   .rw[<- q,aa];simp
   .simp[q]
  have:=CR (2 ^ cp U x) (c6 U xs);rw[aA]at this;lia
def r0{c:List α}(ag:∀x∈c,x∈U):bd (U.map h) (c6 U c)=eV (c.map h):=by
 show bd _ (eV (c.map λx=>2 ^ cp U x))=_;rw[Dy,List.map_map];refine acp eV (abM λx ak=>?_);have bM:=abP (ag x ak);show bd _ (2 ^ U.idxOf x)=_;rw[Dw,List.getD,abj,abc bM,ace bM];rfl
def Zy{V:List α}{sd:α->List α}{c:List α}(z4:V.Nodup)(ae:∀x∈c,(sd x).Nodup)(aF:j<V.length):(eV (c.map λx=>c6 V (sd x))).testBit j=decide ((c.countP λx=>decide (V[j]∈sd x))%2=1):=by
 rw[xM,adF];have e2:c.countP ((λa=>a.testBit j) ∘ λx=>c6 V (sd x))=c.countP λx=>decide (V[j]∈sd x):=by
  refine adm λx ak=>?_
  show(c6 V (sd x)).testBit j=true<->_;rw[wB j aF (ae x ak) z4]
 rw[e2]
def Iz{U V:List α}{sd:α->List α}(z4:V.Nodup)(ag:∀x∈c,x∈U)(ae:∀x∈c,(sd x).Nodup/\∀y∈sd x,y∈V)(h2:∀y,(c.countP λx=>decide (y∈sd x))%2=0):
  bd (U.map λx=>c6 V (sd x)) (c6 U c)=0:=by
 rw[r0 ag];apply aei;intro j;rw[ads]
 by_cases aF:j<V.length
 .rw[Zy z4 (λx ak=>(ae x ak).1) aF,h2];rfl
 .rw[xM,adF];have e2:c.countP ((λa=>a.testBit j) ∘ λx=>c6 V (sd x))=0:=by
   rw[aen];intro x ak;show ¬(c6 V (sd x)).testBit j=true;rw[acx (abr (Bi (ae x ak).2) (abT ∅ (aeG aF)))];simp
  rw[e2];rfl
def TG(dS:U.Nodup)(ak:xs.Nodup){x:α}(h:x∈xs)(bc:x∈U):¬(c6 U xs).testBit (cp U x)=false:=λz=>by
 have bM:=abP bc;have:=wB _ bM ak dS;rw[z,ace bM]at this;exact of_decide_eq_false this.symm h
def TH(dS:U.Nodup)(ak:xs.Nodup){x:α}(h:x∉xs)(bc:x∈U):(c6 U xs).testBit (cp U x)=false:=by
 have bM:=abP bc;have:=wB _ bM ak dS;rw[this,ace bM];exact decide_eq_false h
end
end gT
end
section
namespace gT
noncomputable def gD(as:List Nat):Nat:=(dI [] (as.map bare)).length
def yT(L:List Nat):(L.map bare).map (λx:Row=>x.1)=L:=by rw[List.map_map];exact aeh L
def Fj(h:∀x,sp (rs.map (·.1)) x<->sp (gC.map (·.1)) x):(dI [] rs).length=(dI [] gC).length:=by
 have e:∀(rs:List Row) x,sp (rws (dI [] rs)) x<->sp (rs.map (·.1)) x:=λrs x=>by
  rw[sL dz.nil,show rws []=[] from rfl,acm]
 have eR:=vk (i1 (rs:=rs) dz.nil) (i1 (rs:=gC) dz.nil) λx ak=>(e gC x).mpr ((h x).mp ((e rs x).mp ak))
 have gO:=vk (i1 (rs:=gC) dz.nil) (i1 (rs:=rs) dz.nil) λx ak=>(e rs x).mpr ((h x).mpr ((e gC x).mp ak))
 lia
def V6(rs):(dI [] rs).length=gD (rs.map (·.1)):=Fj λx=>by rw[yT]
def V4{as bs:List Nat}(h:∀x,sp as x<->sp bs x):gD as=gD bs:=Fj λx=>by rw[yT,yT];exact h x
def IG{as bs:List Nat}(h:∀x,x∈as<->x∈bs):gD as=gD bs:=V4 λ_=>⟨hr λa aA=>fW ((h a).mp aA),hr λa aA=>fW ((h a).mpr aA)⟩
def w5(as)(a):(sp as a->gD (as++[a])=gD as)/\(¬sp as a->gD (as++[a])=gD as+1):=by
 have e:dI [] ((as++[a]).map bare)=grow (dI [] (as.map bare)) (bare a):=by unfold dI;rw[List.map_append,List.foldl_append];rfl
 have z:=w3 (B:=dI [] (as.map bare)) (r:=bare a) (i1 dz.nil);have z:(red (dI [] (as.map bare)) (bare a)).1=0<->sp as a:=z.trans xh;unfold gD;rw[e,sN];exact⟨λh=>by rw[if_pos (z.mpr h)];rfl,λh=>by rw[if_neg λq=>h (z.mp q)]⟩
def x1(eo:Nat->Nat):Prop:=∀x y,eo (x ^^^ y)=eo x ^^^ eo y
theorem xi(h:x1 eo):∀{L:List Nat}{x:Nat},sp L x->sp (L.map eo) (eo x)
 |[],x,e=>by
  cases e;have:=h 0 0;rw[acV,acV]at this;exact this
 |a::L,x,e=>e.elim (λe=>.inl (xi h e)) λe=>.inr (by rw[<- h];exact xi h e)
def V5(J:x1 eo)(h2:x1 ψ):∀as:List Nat,(∀a∈as,ψ (eo a)=a)->gD (as.map eo)=gD as:=by
 intro as;refine snoc_ind (P:=λas=>(∀a∈as,ψ (eo a)=a)->gD (as.map eo)=gD as) (λ_=>rfl) (λas a aD aa=>?_) as;have aD:=aD λb q=>aa b (List.mem_append_left _ q)
 rw[List.map_append,adH];obtain⟨l1,l2⟩:=w5 as a;obtain⟨aH,aX⟩:=w5 (as.map eo) (eo a)
 by_cases q:sp as a
 .rw[l1 q,aH (xi J q),aD]
 .rw[l2 q,aX λz=>q ?_,aD];have:=xi h2 z;rw[List.map_map,aa a (by simp),show as.map (ψ ∘ eo)=as from(abM λb q=>aa b (List.mem_append_left _ q)).trans (aeh as)]at this;exact this
def Zz{as bs:List Nat}(h:as.Perm bs):eV as=eV bs:=by
 induction h with
 |nil=>rfl
 |cons a _ aD=>rw[eV,eV,aD]
 |swap a b L=>rw[eV,eV,eV,eV,<- ab6,<- ab6,ae3 b a]
 |trans _ _ J h2=>exact J.trans h2
theorem KD:∀{L:List Nat},(∀a∈L,sp M a)->sp M (eV L)
 |[],_=>uq M
 |a::L,h=>je (h a List.mem_cons_self) (KD λb q=>h b (List.mem_cons_of_mem _ q))
def V3{α β n8:Type}[DecidableEq α][DecidableEq β]{U:List n8}{V:List α}{V':List β}{sd:n8->List α}(f)(g:β->α)(h:∀c∈U,∀y∈sd c,y∈V/\f y∈V'/\g (f y)=y):gD (U.map λc=>c6 V' ((sd c).map f))=gD (U.map λc=>c6 V (sd c)):=by
 have e:(U.map λc=>c6 V' ((sd c).map f))=(U.map λc=>c6 V (sd c)).map (bd (V.map λy=>2 ^ cp V' (f y))):=by
  rw[List.map_map];refine abM λc ag=>?_
  show _=bd _ (c6 V (sd c));rw[r0 λy aN=>(h c ag y aN).1];unfold c6;rw[List.map_map];rfl
 rw[e];refine V5 (ψ:=bd (V'.map λz=>2 ^ cp V (g z))) (mS _) (mS _) _ λa aA=>?_
 obtain⟨c,ag,rfl⟩:=List.mem_map.mp aA;rw[r0 λy aN=>(h c ag y aN).1];have e2:eV ((sd c).map λy=>2 ^ cp V' (f y))=c6 V' ((sd c).map f):=by unfold c6;rw[List.map_map];rfl
 rw[e2,r0 λz hz=>by obtain⟨y,aN,rfl⟩:=List.mem_map.mp hz;exact(h c ag y aN).2.1,List.map_map];unfold c6;exact acp eV (abM λy aN=>by show 2 ^ cp V (g (f y))=_;rw[(h c ag y aN).2.2])
end gT
end
section
namespace f5
open PySem PySem.SetTable
def mJ(xs:Array Nat):Prop:=∀(i j a b:Nat),i<j->xs[i]?=some a->xs[j]?=some b->a<b
def x2(xs:Array Nat)(j p:Nat):Prop:=∀(q a:Nat),q<p->xs[q]?=some a->a<j
def xV(xs:Array Nat)(j p:Nat):Prop:=∀(q a:Nat),p<=q->xs[q]?=some a->j<=a
theorem zS(aV:mJ xs)(j):∀(fuel lo ai:Nat),ai-lo<=fuel->lo<=ai->ai<=xs.size->x2 xs j lo->xV xs j ai ->
  below.go xs j fuel lo ai<=xs.size/\x2 xs j (below.go xs j fuel lo ai)/\xV xs j (below.go xs j fuel lo ai)
 |0,lo,ai,J,h2,h3,ax,bZ=>by
  have e:lo=ai:=⋯;subst e;exact⟨h3,ax,bZ⟩
 |fuel+1,lo,ai,J,h2,h3,ax,bZ=>by
  unfold below.go
  by_cases bM:lo<ai
  .rw[if_pos bM];have hm:(lo+ai) / 2<xs.size:=⋯;have aQ:xs[(lo+ai) / 2]?=some xs[(lo+ai) / 2]:=abh hm;have hd:xs.getD ((lo+ai) / 2) j=xs[(lo+ai) / 2]:=(by simp[Array.getD,hm]);simp only[hd]
   by_cases ag:xs[(lo+ai) / 2]<j
   .rw[if_pos ag];refine zS aV j fuel _ _ ⋯ ⋯ h3 ?_ bZ;intro q a aE aA
    by_cases e:q=(lo+ai) / 2
    .subst e;rw[aQ]at aA;cases aA;exact ag
    .have:=aV q ((lo+ai) / 2) a _ ⋯ aA aQ;lia
   .rw[if_neg ag];refine zS aV j fuel _ _ ⋯ ⋯ ⋯ ax ?_;intro q a aE aA
    by_cases e:q=(lo+ai) / 2
    .subst e;rw[aQ]at aA;cases aA;lia
    .have:=aV ((lo+ai) / 2) q _ a ⋯ aQ aA;lia
  .rw[if_neg bM];have e:lo=ai:=⋯;subst e;exact⟨h3,ax,bZ⟩
def yW(aV:mJ xs)(j):below xs j<=xs.size/\x2 xs j (below xs j)/\xV xs j (below xs j):=by
 unfold below;refine zS aV j _ _ _ ⋯ ⋯ ⋯ (λq a aE _=>⋯) (λq a aE aA=>?_);have:=(abD.mp aA).1;lia
def below_at(aV:mJ xs)(h:xs[i]?=some j):below xs j=i:=by
 obtain⟨J,h2,h3⟩:=yW aV j
 by_cases cR:i<below xs j
 .exact absurd (h2 i j cR h) (acv _)
 .by_cases b4:below xs j=i
  .exact b4
  .have ai:=(abD.mp h).1;have aQ:xs[below xs j]?=some (xs[below xs j]'⋯):=abh ⋯;have a:=h3 _ _ (abb _) aQ;have b:=aV (below xs j) i _ _ ⋯ aQ h;lia
def pH{t:SetTable}(aV:mJ t.place)(h:t.place[i]?=some j):t.slot j=.live i:=by
 unfold slot;rw[below_at aV h];simp[h]
def Xx{t:SetTable}(hd:t.dummies=#[])(h:∀i:Nat,t.place[i]?≠some j):t.slot j=.empty:=by
 unfold slot has;have h0:(t.place[below t.place j]?==some j)=false:=by
  rw[abH];exact h _
 simp only[h0,hd];simp
noncomputable def iv(m:Nat)(p:Probe):Probe :=
 if p.more>0 then { p with j:=p.j+1,more:=p.more-1 } else
 { p with j:=(leap m p.i p.perturb).1,more:=runEnd m (leap m p.i p.perturb).1-(leap m p.i p.perturb).1,i:=(leap m p.i p.perturb).1,perturb:=(leap m p.i p.perturb).2 }
def K6(t:SetTable)(p):t.advance p=iv t.mask p:=rfl
noncomputable def R2(m:Nat)(h:Int):Probe:={ j:=bits h%(m+1),more:=runEnd m (bits h%(m+1))-bits h%(m+1),i:=bits h%(m+1),perturb:=bits h,dummy:=none }
noncomputable def pr(m:Nat)(h:Int):Nat->Probe
 |0=>R2 m h
 |n+1=>iv m (pr m h n)
noncomputable def cB(m:Nat)(h:Int)(n:Nat):Nat:=(pr m h n).j
theorem H6(m)(h):∀n,(pr m h n).dummy=none
 |0=>rfl
 |n+1=>by
  have aD:=H6 m h n;show(iv m (pr m h n)).dummy=none;unfold iv
  split<;>exact aD
def w6(h:i<=m):runEnd m i<=m/\i<=runEnd m i/\runEnd m i<=i+9:=by
 unfold runEnd;split<;>lia
def GB(m i p):(leap m i p).1<=m:=by
 unfold leap;have:(i*5+1+p / 32)%(m+1)<m+1:=ae1 _ ⋯;show(i*5+1+p / 32)%(m+1)<=m;lia
theorem H7(m)(h):∀n,(pr m h n).j+(pr m h n).more<=m
 |0=>by
  have:bits h%(m+1)<m+1:=ae1 _ ⋯;have:=w6 (m:=m) (i:=bits h%(m+1)) ⋯;show bits h%(m+1)+(runEnd m (bits h%(m+1))-bits h%(m+1))<=m;lia
 |n+1=>by
  have aD:=H7 m h n;show(iv m (pr m h n)).j+(iv m (pr m h n)).more<=m;unfold iv
  split
  .show(pr m h n).j+1+((pr m h n).more-1)<=m;lia
  .have:=GB m (pr m h n).i (pr m h n).perturb;have:=w6 this;show(leap m (pr m h n).i (pr m h n).perturb).1+(runEnd m (leap m (pr m h n).i (pr m h n).perturb).1-(leap m (pr m h n).i (pr m h n).perturb).1)<=m;lia
def Cd(m)(h)(n):cB m h n<=m:=by have:=H7 m h n;unfold cB;lia
noncomputable def run(m:Nat)(h:Int):Nat->Nat×Nat
 |0=>(bits h%(m+1),bits h)
 |r+1=>leap m (run m h r).1 (run m h r).2
def B0(m)(h):∀r,(run m h r).1<=m
 |0=>by have:bits h%(m+1)<m+1:=ae1 _ ⋯;show bits h%(m+1)<=m;lia
 |r+1=>GB _ _ _
noncomputable def st(m:Nat)(h:Int)(r d:Nat):Probe:={ j:=(run m h r).1+d,more:=runEnd m (run m h r).1-(run m h r).1-d,i:=(run m h r).1,perturb:=(run m h r).2,dummy:=none }
noncomputable def len(m:Nat)(h:Int)(r:Nat):Nat:=runEnd m (run m h r).1-(run m h r).1
def SX(m)(h)(r):len m h r<=9:=by have:=w6 (B0 m h r);unfold len;lia
def Dd(hd:d<len m h r):iv m (st m h r d)=st m h r (d+1):=by
 unfold iv;have:(st m h r d).more>0:=by show runEnd m (run m h r).1-(run m h r).1-d>0;unfold len at hd;lia
 rw[if_pos this];show Probe.mk _ _ _ _ _=Probe.mk _ _ _ _ _;congr 1
def K7:iv m (st m h r (len m h r))=st m h (r+1) 0:=by
 unfold iv;have:¬(st m h r (len m h r)).more>0:=by show ¬(runEnd m (run m h r).1-(run m h r).1-len m h r>0);unfold len;lia
 rw[if_neg this];rfl
theorem yi(m)(h):∀r:Nat,∃n,n<=10*r/\pr m h n=st m h r 0/\∀k,k<n->∃b3 d',b3<r/\d'<=len m h b3/\pr m h k=st m h b3 d'
 |0=>⟨0,abb _,rfl,λk aw=>absurd aw (Nat.not_lt_zero k)⟩
 |r+1=>by
  obtain⟨n,az,e,aw⟩:=yi m h r;have walk:∀d,d<=len m h r->pr m h (n+d)=st m h r d:=by
   intro d
   induction d with
   |zero=>intro _;exact e
   |succ d aD =>
    intro hd;show iv m (pr m h (n+d))=_;rw[aD ⋯];exact Dd ⋯
  have ax:=SX m h r;refine⟨n+len m h r+1,⋯,?_,λk fv=>?_⟩
  .show iv m (pr m h (n+len m h r))=_;rw[walk _ (abb _)];exact K7
  .by_cases c:k<n
   .obtain⟨b3,d',a,b,c⟩:=aw k c;exact⟨b3,d',⋯,b,c⟩
   .refine⟨r,k-n,⋯,⋯,?_⟩;have:=walk (k-n) ⋯;rw[show n+(k-n)=k by lia]at this;exact this
def LH(m)(h)(r d)(hd:d<=len m h r):∃n,n<=10*r+d/\pr m h n=st m h r d/\∀k,k<n->∃b3 d',d'<=len m h b3/\(b3<r\/(b3=r/\d'<d))/\pr m h k=st m h b3 d':=by
 obtain⟨n,az,e,aw⟩:=yi m h r;have walk:∀d,d<=len m h r->pr m h (n+d)=st m h r d:=by
  intro d
  induction d with
  |zero=>intro _;exact e
  |succ d aD =>
   intro hd;show iv m (pr m h (n+d))=_;rw[aD ⋯];exact Dd ⋯
 refine⟨n+d,⋯,walk d hd,λk fv=>?_⟩
 by_cases c:k<n
 .obtain⟨b3,d',a,b,c⟩:=aw k c;exact⟨b3,d',b,.inl a,c⟩
 .refine⟨r,k-n,⋯,.inr ⟨rfl,⋯⟩,?_⟩;have:=walk (k-n) ⋯;rw[show n+(k-n)=k by lia]at this;exact this
def LS(h):bits h<2 ^ 64:=by
 unfold bits;have J:=aeU h (show(2 ^ 64:Int)≠0 by decide);have h2:=aes h (show(0:Int)<2 ^ 64 by decide);have e:((2:Int) ^ 64)=18446744073709551616:=by decide
 rw[e]at J h2 ⊢;lia
theorem HY(m)(h):∀r,(run m h r).2=bits h / 32 ^ r
 |0=>by simp[run]
 |r+1=>by
  show(run m h r).2 / 32=_;rw[HY m h r,Nat.div_div_eq_div_mul,Nat.pow_succ]
def U2(m)(h)(r)(aV:13<=r):(run m h r).2=0:=by
 rw[HY];refine Nat.div_eq_of_lt (abr (LS h) (ab2 (show 2 ^ 64<=32 ^ 13 by decide) (abT ∅ aV)))
noncomputable def g7(m:Nat):Nat->Nat->Nat
 |0,i=>i
 |n+1,i=>(g7 m n i*5+1)%(m+1)
theorem IQ(m)(h):∀n,(run m h (13+n)).1=g7 m n (run m h 13).1
 |0=>rfl
 |n+1=>by
  show(leap m (run m h (13+n)).1 (run m h (13+n)).2).1=_;rw[IQ m h n,U2 m h (13+n) ⋯];rfl
noncomputable def wR(m:Nat):Nat->Nat->List Nat
 |0,_=>[]
 |n+1,i=>i::wR m n ((i*5+1)%(m+1))
theorem HK(m):∀n i,g7 m n ((i*5+1)%(m+1))=g7 m (n+1) i
 |0,i=>rfl
 |n+1,i=>by
  show(g7 m n ((i*5+1)%(m+1))*5+1)%(m+1)=(g7 m (n+1) i*5+1)%(m+1);rw[HK m n i]
theorem wU(m):∀a b i,g7 m (a+b) i=g7 m b (g7 m a i)
 |a,0,i=>rfl
 |a,b+1,i=>by
  show(g7 m (a+b) i*5+1)%(m+1)=_;rw[wU m a b i];rfl
theorem Hb(m):∀n i j,j∈wR m n i->∃k,k<n/\g7 m k i=j
 |0,i,j,h=>by simp[wR]at h
 |n+1,i,j,h=>by
  rcases aa9.mp h with e|h
  .exact⟨0,⋯,e.symm⟩
  .obtain⟨k,aw,e⟩:=Hb m n _ j h;exact⟨k+1,⋯,by rw[<- HK];exact e⟩
def gV(m:Nat):Prop:=m=7\/m=31\/m=127\/m=511
noncomputable def sa(m:Nat):Bool:=(List.range (m+1)).all λj=>(wR m (m+1) 0).contains j
def MT:sa 7=true:=by decide +kernel
def MR:sa 31=true:=by decide +kernel
def MQ:sa 127=true:=by decide +kernel
def MS:sa 511=true:=by decide +kernel
def UX:g7 511 512 0=0:=by decide +kernel
def UY:g7 7 8 0=0:=by decide +kernel
def UW:g7 31 32 0=0:=by decide +kernel
def UU:g7 127 128 0=0:=by decide +kernel
def gV.hF(h:gV m):sa m=true/\g7 m (m+1) 0=0:=by
 rcases h with rfl|rfl|rfl|rfl
 .exact⟨MT,UY⟩
 .exact⟨MR,UW⟩
 .exact⟨MQ,UU⟩
 .exact⟨MS,UX⟩
def gV.Io(h:gV m)(aF:j<=m):∃k,k<m+1/\g7 m k 0=j:=by
 have:=abB.mp h.hF.1 j (List.mem_range.mpr ⋯);exact Hb m (m+1) 0 j (by simpa using this)
def gV.reach(h:gV m)(ai:i<=m)(aF:j<=m):∃k,k<m+1/\g7 m k i=j:=by
 obtain⟨a,aA,bo⟩:=h.Io ai;obtain⟨b,aa,eF⟩:=h.Io aF
 by_cases c:a<=b
 .refine⟨b-a,⋯,?_⟩;rw[<- bo,<- wU,show a+(b-a)=b by lia];exact eF
 .refine⟨m+1-a+b,⋯,?_⟩;rw[<- bo,<- wU,show a+(m+1-a+b)=(m+1)+b by lia,wU,h.hF.2];exact eF
def gV.met(hm:gV m)(h)(aF:j<=m):∃r,r<m+14/\(run m h r).1=j:=by
 obtain⟨k,aw,e⟩:=hm.reach (B0 m h 13) aF;exact⟨13+k,⋯,by rw[IQ];exact e⟩
def gV.Tv(hm:gV m)(h)(aF:j<=m):∃n,n<10*turns m/\cB m h n=j:=by
 obtain⟨r,aV,e⟩:=hm.met h aF;obtain⟨n,az,lL,_⟩:=yi m h r;refine⟨n,by unfold turns;lia,?_⟩;unfold cB;rw[lL];show(run m h r).1+0=j;lia
def least{P:Nat->Prop}(n)(h:P n):∃k,k<=n/\P k/\∀q,q<k->¬P q:=by
 induction n using Nat.strongRecOn with
 |ind n aD =>
  by_cases c:∃q,q<n/\P q
  .obtain⟨q,aE,au⟩:=c;obtain⟨k,a,b,d⟩:=aD q aE au;exact⟨k,⋯,b,d⟩
  .exact⟨n,abb _,h,λq aE au=>c ⟨q,aE,au⟩⟩
def hole(aV:mJ xs)(ae:xs.size<=m):∃j,j<=m/\∀i:Nat,xs[i]?≠some j:=by
 by_cases c:∃j,j<=m/\∀i:Nat,xs[i]?≠some j
 .exact c
 .exfalso;have all:∀j,j<=m->∃i:Nat,xs[i]?=some j:=λj aF=>by
   by_cases cW:∃i:Nat,xs[i]?=some j
   .exact cW
   .exact absurd ⟨j,aF,λi e=>cW ⟨i,e⟩⟩ c
  have ge:∀j,j<=m->∀i:Nat,xs[i]?=some j->j<=i:=by
   intro j
   induction j with
   |zero=>intro _ i _;lia
   |succ j aD =>
    intro aF i ai;obtain⟨cw,fu⟩:=all j ⋯;have:=aD ⋯ cw fu
    by_cases cR:i<cw
    .have:=aV i cw _ _ cR ai fu;lia
    .by_cases b4:i=cw
     .subst b4;rw[ai]at fu;injection fu with e;lia
     .omega
  obtain⟨i,ai⟩:=all m (abb _);have J:=ge m (abb _) i ai;have h2:=(abD.mp ai).1;lia
def EV{t:SetTable}(hm:gV t.mask)(aV:mJ t.place)(hd:t.dummies=#[])(ae:t.place.size<=t.mask)(h):
  ∃N,N<10*turns t.mask/\t.slot (cB t.mask h N)=.empty/\(∀i:Nat,t.place[i]?≠some (cB t.mask h N))/\∀k,k<N->∃i:Nat,t.place[i]?=some (cB t.mask h k):=by
 obtain⟨j,aF,az⟩:=hole aV ae;obtain⟨n,FY,e⟩:=hm.Tv h aF;obtain⟨N,J,h2,h3⟩:=least (P:=λn=>∀i:Nat,t.place[i]?≠some (cB t.mask h n)) n (by rw[e];exact az);refine⟨N,⋯,Xx hd h2,h2,λk aw=>?_⟩
 by_cases c:∃i:Nat,t.place[i]?=some (cB t.mask h k)
 .exact c
 .exact absurd (λi e=>c ⟨i,e⟩) (h3 k aw)
theorem BJ(aV:mJ t.place)(he:t.slot (cB t.mask h N)=.empty)(ax:∀k,k<N->∃i:Nat,t.place[i]?=some (cB t.mask h k)):
  ∀(fuel n:Nat),n<=N->N-n<fuel ->
   (∃k i,n<=k/\k<N/\t.place[i]?=some (cB t.mask h k)/\hashAt i=h/\(∀di,n<=di->di<k->∀cw:Nat,t.place[cw]?=some (cB t.mask h di)->hashAt cw≠h)/\probe.go t hashAt h fuel (pr t.mask h n)=some (.candidate (cB t.mask h k) i (pr t.mask h (k+1))))
   \/ ((∀di,n<=di->di<N->∀cw:Nat,t.place[cw]?=some (cB t.mask h di)->hashAt cw≠h)/\probe.go t hashAt h fuel (pr t.mask h n)=some (.empty (cB t.mask h N) none))
 |0,n,J,h2=>by lia
 |fuel+1,n,J,h2=>by
  unfold probe.go
  by_cases c:n=N
  .subst c;have e:t.slot (pr t.mask h n).j=.empty:=he;rw[e];refine .inr ⟨λdi a b=>⋯,?_⟩;show some (Met.empty _ (pr t.mask h n).dummy)=_;rw[H6];rfl
  .obtain⟨i,ai⟩:=ax n ⋯;have e:t.slot (pr t.mask h n).j=.live i:=pH aV ai;rw[e]
   by_cases q:hashAt i=h
   .refine .inl ⟨n,i,abb _,⋯,ai,q,λdi a b=>⋯,?_⟩;simp only[q,beq_self_eq_true,abY];rfl
   .have cU:(hashAt i==h)=false:=(by rw[abH];exact q);simp only[cU,aba,abw];have ne:∀cw:Nat,t.place[cw]?=some (cB t.mask h n)->hashAt cw≠h:=λcw fu=>by
     have bq:=pH aV fu;rw[pH aV ai]at bq;injection bq with bq;rw[<- bq];exact q
    rw[K6];show(∃k i,_/\_/\_/\_/\_/\probe.go t hashAt h fuel (pr t.mask h (n+1))=_)\/(_/\probe.go t hashAt h fuel (pr t.mask h (n+1))=_);rcases BJ aV he ax fuel (n+1) ⋯ ⋯ with⟨k,eR,a,b,d,e1,f,g⟩|⟨f,g⟩
    .refine .inl ⟨k,eR,⋯,b,d,e1,λdi p1 p2 cw p3=>?_,g⟩
     by_cases cW:di=n
     .subst cW;exact ne cw p3
     .exact f di ⋯ p2 cw p3
    .refine .inr ⟨λdi p1 p2 cw p3=>?_,g⟩
     by_cases cW:di=n
     .subst cW;exact ne cw p3
     .exact f di ⋯ p2 cw p3
def AS{α:Type}(xs)(p)(x:α)(au:p<=xs.size)(i):
  (insertAt xs p x)[i]?=if i<p then xs[i]? else if i=p then some x else xs[i-1]?:=by
 unfold insertAt;rw[Array.getElem?_append,Array.getElem?_push,Array.getElem?_extract,Array.getElem?_extract,Array.size_push,aet];have e:min p xs.size-0=p:=by lia
 rw[e,acU]
 by_cases cR:i<p
 .simp only[if_pos (show i<p+1 by lia),if_neg (show ¬i=p by lia),if_pos cR]
 .by_cases b4:i=p
  .simp only[if_pos (show i<p+1 by lia),if_neg cR,if_pos b4]
  .simp only[if_neg (show ¬i<p+1 by lia),if_neg cR,if_neg b4,Nat.min_self];have e2:min p xs.size=p:=by lia
   by_cases fk:i-(p+1)<xs.size-p
   .rw[if_pos fk];congr 1;lia
   .rw[if_neg fk];rw[ada ⋯]
def qJ{α:Type}(xs)(p)(x:α)(au:p<=xs.size):(insertAt xs p x).size=xs.size+1:=by
 unfold insertAt;rw[aeA,Array.size_push,aet,aet];lia
def Gk{α:Type}(xs)(p)(x:α)(au:p<=xs.size):(insertAt xs p x).toList.Perm (x::xs.toList):=by
 have e:(insertAt xs p x).toList=xs.toList.take p++x::xs.toList.drop p:=by
  unfold insertAt;simp[List.extract_eq_drop_take];rw[acK (by simp)]
 rw[e];refine(List.perm_middle).trans (List.Perm.cons x ?_);rw[adY]
structure Tab{α:Type}(aj:Array (Int×α))(t:SetTable):Prop where
 iI:mJ t.place
 le:∀i j:Nat,t.place[i]?=some j->j<=t.mask
 gR:t.place.size=aj.size
 sj:t.dummies=#[]
 c6:gV t.mask
 full:t.place.size<=t.mask
 path:∀(i j:Nat)(e:Int×α),t.place[i]?=some j->aj[i]?=some e->∃n,cB t.mask e.1 n=j/\∀k,k<n->∃cw:Nat,t.place[cw]?=some (cB t.mask e.1 k)
section
variable{α:Type}{aj:Array (Int×α)}{t:SetTable}
theorem Tab.fill(T:Tab aj t):t.fill=aj.size:=by unfold SetTable.fill;rw[T.sj,T.gR];simp
def Tab.met(T:Tab aj t)(he:∀i:Nat,t.place[i]?≠some (cB t.mask h N)){i:Nat}(ai:aj[i]?=some e)(bZ:e.1=h):∃k,k<N/\t.place[i]?=some (cB t.mask h k):=by
 have ae:=(abD.mp ai).1;rw[<- T.gR]at ae;have au:t.place[i]?=some t.place[i]:=abh ae;obtain⟨n,az,av⟩:=T.path i _ e au ai;subst bZ;refine⟨n,?_,by rw[az];exact au⟩
 by_cases c:n<N
 .exact c
 .exfalso
  by_cases b4:n=N
  .subst b4;exact he i (by rw[az];exact au)
  .obtain⟨cw,fu⟩:=av N ⋯;exact he cw fu
theorem Tab.put(T:Tab aj t)(he:∀i:Nat,t.place[i]?≠some (cB t.mask h N))(ax:∀k,k<N->∃i:Nat,t.place[i]?=some (cB t.mask h k))(hf:t.place.size+1<=t.mask):
  Tab (insertAt aj (t.put (cB t.mask h N)).2 (h,x)) (t.put (cB t.mask h N)).1/\(t.put (cB t.mask h N)).2<=aj.size/\(t.put (cB t.mask h N)).1.mask=t.mask/\(t.put (cB t.mask h N)).1.plain=t.plain/\(t.put (cB t.mask h N)).1.led=t.led
   /\ (t.put (cB t.mask h N)).1.place.size=aj.size+1:=by
 obtain⟨b1,b2,cX⟩:=yW T.iI (cB t.mask h N);generalize aF:cB t.mask h N=j at he b1 b2 cX ⊢;have hd:has t.dummies j=false:=by unfold has;rw[T.sj];simp
 have e1:t.put j=({ t with place:=insertAt t.place (below t.place j) j },below t.place j):=by
  unfold SetTable.put;simp only[hd];rfl
 rw[e1];generalize below t.place j=p at b1 b2 cX;have r2:p<=aj.size:=by rw[<- T.gR];exact b1
 have pg:=AS t.place p j b1;have sv:=AS aj p (h,x) r2;have LJ:∀(q a:Nat),p<=q->t.place[q]?=some a->j<a:=λq a aE aA=>by
  have:=cX q a aE aA;have:j≠a:=λe=>he q (by rw[e];exact aA)
  lia
 have mem:∀v i:Nat,t.place[i]?=some v->∃cw:Nat,(insertAt t.place p j)[cw]?=some v:=λv i ai=>by
  by_cases c:i<p
  .exact⟨i,by rw[pg,if_pos c];exact ai⟩
  .exact⟨i+1,by rw[pg,if_neg (show ¬i+1<p by lia),if_neg (show ¬i+1=p by lia)];exact ai⟩
 refine⟨⟨?_,?_,?_,T.sj,T.c6,?_,?_⟩,r2,rfl,rfl,rfl,?_⟩
 .intro i cw a b QL aA aa;dsimp only at aA aa;rw[pg]at aA aa
  by_cases cR:i<p
  .rw[if_pos cR]at aA
   by_cases b4:cw<p
   .rw[if_pos b4]at aa;exact T.iI i cw a b QL aA aa
   .rw[if_neg b4]at aa
    by_cases fk:cw=p
    .rw[if_pos fk]at aa;injection aa with aa;subst aa;exact b2 i a cR aA
    .rw[if_neg fk]at aa;exact T.iI i (cw-1) a b ⋯ aA aa
  .rw[if_neg cR]at aA;rw[if_neg (show ¬cw<p by lia),if_neg (show ¬cw=p by lia)]at aa
   by_cases fk:i=p
   .rw[if_pos fk]at aA;injection aA with aA;subst aA;exact LJ (cw-1) b ⋯ aa
   .rw[if_neg fk]at aA;exact T.iI (i-1) (cw-1) a b ⋯ aA aa
 .intro i v aI;dsimp only at aI ⊢;rw[pg]at aI
  split at aI
  .exact T.le _ _ aI
  .split at aI
   .injection aI with aI;rw[<- aI,<- aF];exact Cd _ _ _
   .exact T.le _ _ aI
 .show(insertAt t.place p j).size=(insertAt aj p (h,x)).size;rw[qJ _ _ _ b1,qJ _ _ _ r2,T.gR]
 .show(insertAt t.place p j).size<=t.mask;rw[qJ _ _ _ b1];exact hf
 .intro i v e aI h7;dsimp only at aI ⊢;rw[pg]at aI;rw[sv]at h7;have old:∀tq:Nat,t.place[tq]?=some v->aj[tq]?=some e->∃n,cB t.mask e.1 n=v/\∀k,k<n->∃cw:Nat,(insertAt t.place p j)[cw]?=some (cB t.mask e.1 k):=λtq a b=>by
   obtain⟨n,az,av⟩:=T.path tq v e a b;exact⟨n,az,λk aw=>let ⟨cw,fu⟩:=av k aw;mem _ _ fu⟩
  by_cases cR:i<p
  .rw[if_pos cR]at aI h7;exact old i aI h7
  .rw[if_neg cR]at aI h7
   by_cases b4:i=p
   .rw[if_pos b4]at aI h7;injection aI with aI;injection h7 with h7;subst h7;exact⟨N,by rw[aF];exact aI,λk aw=>let ⟨cw,fu⟩:=ax k aw;mem _ _ fu⟩
   .rw[if_neg b4]at aI h7;exact old _ aI h7
 .show(insertAt t.place p j).size=aj.size+1;rw[qJ _ _ _ b1,T.gR]
end
theorem Bm:∀(k:Nat)(l:List Nat),l.Nodup->(∀x∈l,x<k)->l.length<=k
 |0,l,_,h=>by
  cases l with
  |nil=>simp
  |cons a r=>exact absurd (h a List.mem_cons_self) (Nat.not_lt_zero a)
 |k+1,l,c4,h=>by
  by_cases c:k∈l
  .have J:=Bm k (l.erase k) (c4.erase k) λx ak=>by
    have:=(c4.mem_erase_iff).mp ak;have:=h x this.2;lia
   rw[adC c]at J;lia
  .have:=Bm k l c4 λx ak=>by
    have:=h x ak;have:x≠k:=λe=>c (e▸ak)
    lia
   lia
def mH(cv:Array (Option Nat))(j:Nat):Prop:=∃q,cv[j]?=some (some q)
theorem vA(hz:cv.size=m+1):∀(fuel r:Nat),(∃fA,r<=fA/\fA<r+fuel/\cv[(run m h fA).1]?=some none) ->
  (∀b3 d,d<=len m h b3->b3<r->mH cv ((run m h b3).1+d)) ->
  ∃aH bQ,bQ<=len m h aH/\layClean.free m cv fuel (run m h r).1 (run m h r).2=some ((run m h aH).1+bQ)/\cv[(run m h aH).1+bQ]?=some none/\∀b3 d,d<=len m h b3->(b3<aH\/(b3=aH/\d<bQ))->mH cv ((run m h b3).1+d)
 |0,r,⟨fA,a,b,_⟩,_=>by lia
 |fuel+1,r,⟨fA,a,b,c⟩,aa=>by
  unfold layClean.free;have aas:=w6 (B0 m h r);have get:∀d,d<=len m h r->∃o,cv[(run m h r).1+d]?=some o/\cv.getD ((run m h r).1+d) (some 0)=o:=λd hd=>by
   unfold len at hd;have bM:(run m h r).1+d<cv.size:=(by rw[hz];lia);exact⟨cv[(run m h r).1+d],abh bM,by simp[Array.getD,bM]⟩
  cases hf:(List.range (runEnd m (run m h r).1+1-(run m h r).1)).find? λk=>(cv.getD ((run m h r).1+k) (some 0)).isNone with
  |some k =>
   obtain⟨J,h2,h3⟩:=List.find?_range_eq_some.mp hf;have aw:k<=len m h r:=(by have:=List.mem_range.mp h2;unfold len;lia);refine⟨r,k,aw,rfl,?_,λb3 d hd bM=>?_⟩
   .obtain⟨o,e1,e2⟩:=get k aw;rw[e2]at J;rw[e1];cases o with
    |none=>rfl
    |some _=>simp at J
   .rcases bM with bM|⟨rfl,bM⟩
    .exact aa b3 d hd bM
    .obtain⟨o,e1,e2⟩:=get d hd;have:=h3 d bM;rw[e2]at this;cases o with
     |none=>simp at this
     |some q=>exact⟨q,e1⟩
  |none =>
   have az:=List.find?_range_eq_none.mp hf;have full:∀d,d<=len m h r->mH cv ((run m h r).1+d):=λd hd=>by
    obtain⟨o,e1,e2⟩:=get d hd;have:=az d (by unfold len at hd;lia);rw[e2]at this;cases o with
    |none=>simp at this
    |some q=>exact⟨q,e1⟩
   have aaM:fA≠r:=λe=>by
    subst e;obtain⟨q,aE⟩:=full 0 (abz _);rw[Nat.add_zero,c]at aE;cases aE
   show ∃aH bQ,_/\layClean.free m cv fuel (run m h (r+1)).1 (run m h (r+1)).2=_/\_;refine vA hz fuel (r+1) ⟨fA,⋯,⋯,c⟩ λb3 d hd bM=>?_
   by_cases e:b3=r
   .subst e;exact full d hd
   .exact aa b3 d hd ⋯
structure Own(m:Nat)(ae:List Int)(cv:Array (Option Nat)):Prop where
 size:cv.size=m+1
 lt:∀j q:Nat,cv[j]?=some (some q)->q<ae.length
 inj:∀j lY q:Nat,cv[j]?=some (some q)->cv[lY]?=some (some q)->j=lY
 all:∀(q:Nat)(h:Int),ae[q]?=some h->∃n,cv[cB m h n]?=some (some q)/\∀k,k<n->mH cv (cB m h k)
def Own.hole(O:Own m ae cv)(ax:ae.length<=m):∃j,j<=m/\cv[j]?=some none:=by
 by_cases c:∃j,j<=m/\cv[j]?=some none
 .exact c
 .exfalso;have fS:∀j,j<=m->mH cv j:=λj aF=>by
   have aQ:cv[j]?=some (cv[j]'(by rw[O.size];lia)):=abh (by rw[O.size];lia);cases e:cv[j]'(by rw[O.size];lia) with
   |none=>exact absurd ⟨j,aF,by rw[aQ,e]⟩ c
   |some q=>exact⟨q,by rw[aQ,e]⟩
  have J:=Bm ae.length ((List.range (m+1)).map λj=>(cv.getD j none).getD 0) ?_ ?_
  .simp at J;lia
  .have key:∀j,j<=m->cv[j]?=some (some ((cv.getD j none).getD 0)):=λj aF=>by
    obtain⟨q,aE⟩:=fS j aF;have:cv.getD j none=some q:=(by rw[ab8,aE];rfl);rw[this];exact aE
   rw[List.Nodup,abK];refine abN ?_ (List.nodup_range (n:=m+1));intro a b aA aa nq e;have tC:=key a (by have:=List.mem_range.mp aA;lia);have o7:=key b (by have:=List.mem_range.mp aa;lia);rw[<- e]at o7;exact nq (O.inj a b _ tC o7)
  .intro x ak;obtain⟨j,aF,e⟩:=List.mem_map.mp ak;obtain⟨q,aE⟩:=fS j (by have:=List.mem_range.mp aF;lia);have:cv.getD j none=some q:=(by rw[ab8,aE];rfl);rw[this]at e;have bq:q=x:=e;rw[<- bq];exact O.lt j q aE
def Own.step(hm:gV m)(O:Own m ae cv)(ax:ae.length<=m)(h):
  ∃j,layClean.free m cv (turns m) (bits h%(m+1)) (bits h)=some j/\Own m (ae++[h]) (cv.setIfInBounds j (some ae.length)):=by
 obtain⟨nF,QN,e0⟩:=O.hole ax;obtain⟨fA,aaq,Ot⟩:=hm.met h QN;obtain⟨aH,bQ,kH,vl,lL,Rf⟩:=vA (h:=h) O.size (turns m) 0 ⟨fA,abz _,by unfold turns;lia,by rw[Ot];exact e0⟩ (λb3 d _ bM=>absurd bM (Nat.not_lt_zero _));obtain⟨n,_,az,aw⟩:=LH m h aH bQ kH;have Ow:cB m h n=(run m h aH).1+bQ:=by unfold cB;rw[az];rfl
 rw[<- Ow]at vl lL;have Ua:∀k,k<n->mH cv (cB m h k):=λk fv=>by
  obtain⟨b3,d',a,b,c⟩:=aw k fv;unfold cB;rw[c];exact Rf b3 d' a b
 refine⟨cB m h n,vl,?_,?_,?_,?_⟩
 .rw[Array.size_setIfInBounds];exact O.size
 .intro j q aE;rw[ab3]at aE;rw[List.length_append,List.length_singleton]
  split at aE
  .split at aE
   .injection aE with aE;injection aE with aE;lia
   .cases aE
  .have:=O.lt j q aE;lia
 .intro j lY q a b;rw[ab3]at a b
  split at a
  .rename_i e1
   split at b
   .rename_i e2;rw[<- e1,<- e2]
   .split at a
    .injection a with a;injection a with a;have:=O.lt lY q b;lia
    .cases a
  .split at b
   .split at b
    .injection b with b;injection b with b;have:=O.lt j q a;lia
    .cases b
   .exact O.inj j lY q a b
 .intro q h' aE;have mono:∀j,mH cv j->mH (cv.setIfInBounds (cB m h n) (some ae.length)) j:=λj ⟨cU,lS⟩=>by
   by_cases c:cB m h n=j
   .refine⟨ae.length,?_⟩;rw[ab3,if_pos c,if_pos (by rw[O.size];have:=Cd m h n;lia)]
   .exact⟨cU,by rw[ab3,if_neg c];exact lS⟩
  by_cases c:q<ae.length
  .rw[abo c]at aE;obtain⟨b7,a,b⟩:=O.all q h' aE;refine⟨b7,?_,λk fv=>mono _ (b k fv)⟩;rw[ab3,if_neg]
   .exact a
   .intro e;rw[<- e,lL]at a;cases a
  .have lS:=(abt.mp aE).1;rw[List.length_append,List.length_singleton]at lS;have e:q=ae.length:=⋯;subst e;rw[abF (abb _),ae4]at aE;simp at aE;subst aE;refine⟨n,?_,λk fv=>mono _ (Ua k fv)⟩;rw[ab3,if_pos rfl,if_pos (by rw[O.size];have:=Cd m h n;lia)]
def Uw(m):Own m [] (Array.replicate (m+1) none):=by
 have no:∀j q:Nat,(Array.replicate (m+1) (none:Option Nat))[j]?≠some (some q):=λj q aE=>by
  rw[Array.getElem?_replicate]at aE
  split at aE<;>cases aE
 exact⟨by simp,λj q aE=>absurd aE (no j q),λj lY q aE=>absurd aE (no j q),λq h aE=>by simp at aE⟩
def SV (hm : gV m) (ae) (ax : ae.size <= m) : ∃ cv, layClean m ae = some cv /\ Own m ae.toList cv := by
  unfold layClean
  rw [<- Array.foldl_toList]
  have main : ∀ (rest done : List Int) (cv : Array (Option Nat)), Own m done cv -> (done ++ rest).length <= m ->
      ∃ wV, rest.foldl (fun (acc : Option (Array (Option Nat) × Nat)) h => do
        let (owner, k) <- acc
        let j <- layClean.free m owner (turns m) (bits h % (m + 1)) (bits h)
        pure (owner.setIfInBounds j (some k), k + 1)) (some (cv, done.length)) = some (wV, (done ++ rest).length) /\ Own m (done ++ rest) wV := by
    intro rest
    induction rest with
    | nil => intro done cv O _; exact ⟨cv, by simp, by simpa using O⟩
    | cons h r aD =>
      intro done cv O hlen
      rw [List.length_append, List.length_cons] at hlen
      obtain ⟨j, vl, KU⟩ := O.step hm ⋯ h
      have := aD (done ++ [h]) _ KU (by simp; lia)
      rw [acW] at this
      simp only [List.singleton_append, List.length_append, List.length_cons, List.length_nil, acU] at this
      obtain ⟨wV, e, KV⟩ := this
      refine ⟨wV, ?_, KV⟩
      rw [List.foldl_cons]
      simp only [Option.bind_eq_bind, Option.bind_some, vl, Option.pure_def] at e ⊢
      rw [e]
      simp only [List.length_append, List.length_cons]
  obtain ⟨cv, e, O⟩ := main ae.toList [] (Array.replicate (m + 1) none) (Uw m) (by simpa using ax)
  refine ⟨cv, ?_, by simpa using O⟩
  simp only [List.length_nil] at e
  rw [e]; rfl
theorem zH{α β:Type}(f:α->Option β):∀(l:List α),(∀x∈l,(f x).isSome=true)->∀i:Nat,(l.filterMap f)[i]?=l[i]?.bind f
 |[],_,i=>by simp
 |x::r,h,i=>by
  have ak:=h x List.mem_cons_self;cases e:f x with
  |none=>rw[e]at ak;cases ak
  |some y =>
   rw[List.filterMap_cons,e];cases i with
   |zero=>simp[e]
   |succ i =>
    simp only[List.getElem?_cons_succ];exact zH f r (λz hz=>h z (List.mem_cons_of_mem _ hz)) i
theorem E2{α β:Type}(f:α->Option β):∀(l:List α),(∀x∈l,(f x).isSome=true)->(l.filterMap f).length=l.length
 |[],_=>rfl
 |x::r,h=>by
  have ak:=h x List.mem_cons_self;cases e:f x with
  |none=>rw[e]at ak;cases ak
  |some y=>rw[List.filterMap_cons,e,List.length_cons,List.length_cons,E2 f r λz hz=>h z (List.mem_cons_of_mem _ hz)]
def GA{α:Type}(hm:gV m)(aj:Array (Int×α))(ax:aj.size<=m)(f tP)(led b0):
  ∃t' order,laid m f tP led b0 (aj.map (·.1))=some (t',order)/\t'.mask=m/\t'.led=led/\t'.plain=b0/\(order.filterMap (aj[·]?)).size=aj.size/\Tab (order.filterMap (aj[·]?)) t'/\(order.filterMap (aj[·]?)).toList.Perm aj.toList/\order.toList.Perm (List.range aj.size):=by
 obtain⟨cv,e,O⟩:=SV hm (aj.map (·.1)) (by simpa using ax);have hlen:(aj.map (·.1)).toList.length=aj.size:=by simp
 generalize ed:(List.range (m+1)).filterMap (λj=>(cv.getD j none).map (j,·))=L;have pf:∀j q,(j,q)∈L<->cv[j]?=some (some q):=λj q=>by
  rw[<- ed,adG];constructor
  .rintro⟨lY,Aq,bq⟩;cases h0:cv.getD lY none with
   |none=>rw[h0]at bq;cases bq
   |some cU =>
    rw[h0]at bq;injection bq with bq;injection bq with e1 e2;subst e1;subst e2;rw[ab8]at h0;cases J:cv[lY]? with
    |none=>rw[J]at h0;cases h0
    |some o=>rw[J]at h0;exact acp some h0
  .intro h;refine⟨j,List.mem_range.mpr ?_,?_⟩
   .have:=(abD.mp h).1;rw[O.size]at this;exact this
   .rw[ab8,h];rfl
 have rise:L.Pairwise (λa b=>a.1<b.1):=by
  rw[<- ed];refine List.Pairwise.filterMap _ ?_ (adb (n:=m+1));intro a p8 bM b aa f7 gb;cases h0:cv.getD a none with
  |none=>rw[h0]at aa;cases aa
  |some q =>
   cases J:cv.getD p8 none with
   |none=>rw[J]at gb;cases gb
   |some cU =>
    rw[h0]at aa;rw[J]at gb;cases aa;cases gb;exact bM
 have lt:∀p∈L,p.2<aj.size:=λp au=>by
  have:=O.lt p.1 p.2 ((pf p.1 p.2).mp au);rw[hlen]at this;exact this
 have TO:(L.map (·.2)).Nodup:=by
  rw[List.Nodup,abK];refine abN ?_ rise;intro a b aA aa nq bq;have:=O.inj a.1 b.1 a.2 ((pf _ _).mp aA) (by rw[bq];exact(pf _ _).mp aa);lia
 have BD:(L.map (·.2)).Perm (List.range aj.size):=by
  refine(List.perm_ext_iff_of_nodup TO List.nodup_range).mpr λq=>?_
  rw[List.mem_range,List.mem_map];constructor
  .rintro⟨p,au,rfl⟩;exact lt p au
  .intro aE;obtain⟨n,a,_⟩:=O.all q (aj[q].1) (by rw[abO,Array.getElem?_map,abh aE];rfl);exact⟨(_,q),(pf _ _).mpr a,rfl⟩
 have A2:L.length=aj.size:=by have:=BD.length_eq;simpa using this
 have HF:∀q∈L.map (·.2),(aj[q]?).isSome=true:=λq aE=>by
  obtain⟨p,au,rfl⟩:=List.mem_map.mp aE;rw[abh (lt p au)];rfl
 have Uj:∀q∈List.range aj.size,(aj[q]?).isSome=true:=λq aE=>by
  rw[abh (List.mem_range.mp aE)];rfl
 have zA:((L.map (·.2)).toArray.filterMap (aj[·]?)).toList=(L.map (·.2)).filterMap (aj[·]?):=by simp
 have P2:∀(i:Nat),((L.map (·.2)).toArray.filterMap (aj[·]?))[i]?=(L[i]?).bind λp=>aj[p.2]?:=by
  intro i;rw[<- abO,zA,zH _ _ HF,abj];cases L[i]?<;>rfl
 have Jj:((L.map (·.2)).toArray.filterMap (aj[·]?)).size=aj.size:=by
  rw[<- Array.length_toList,zA,E2 _ _ HF,List.length_map,A2]
 have UZ:((L.map (·.2)).toArray.filterMap (aj[·]?)).toList.Perm aj.toList:=by
  rw[zA];refine(BD.filterMap (aj[·]?)).trans (List.Perm.of_eq ?_);refine acG λi=>?_
  rw[zH _ _ Uj]
  by_cases c:i<aj.size
  .rw[ac1 c];simp
  .rw[abC (by simpa using c),abC (by simpa using c)];rfl
 refine⟨{ mask:=m,place:=(L.map (·.1)).toArray,dummies:=#[],finger:=f,led,moves:=tP,plain:=b0 },(L.map (·.2)).toArray,?_,rfl,rfl,rfl,Jj,⟨?_,?_,?_,rfl,hm,?_,?_⟩,UZ,by simpa using BD⟩
 .unfold laid;rw[e];simp only[Option.bind_eq_bind,Option.bind_some,Option.pure_def,ed]
 .intro i j a b Ao aA aa;simp only[adj,abj]at aA aa;cases bo:L[i]? with
  |none=>rw[bo]at aA;cases aA
  |some wW =>
   cases eF:L[j]? with
   |none=>rw[eF]at aa;cases aa
   |some aaQ =>
    rw[bo]at aA;rw[eF]at aa;cases aA;cases aa;obtain⟨J,e1⟩:=abt.mp bo;obtain⟨h2,e2⟩:=abt.mp eF;have:=acR.mp rise i j J h2 Ao;rw[e1,e2]at this;exact this
 .intro i j ai;simp only[adj,abj]at ai;cases lI:L[i]? with
  |none=>rw[lI]at ai;cases ai
  |some p =>
   rw[lI]at ai;cases ai;have:=(pf p.1 p.2).mp (acq lI);have:=(abD.mp this).1;rw[O.size]at this;show p.1<=m;lia
 .show(L.map (·.1)).toArray.size=_;rw[Jj];simp[A2]
 .show(L.map (·.1)).toArray.size<=m;simp[A2];exact ax
 .intro i j bq ai he;simp only[adj,abj]at ai;rw[P2]at he;cases lI:L[i]? with
  |none=>rw[lI]at ai;cases ai
  |some p =>
   rw[lI]at ai he;cases ai;have au:=(pf p.1 p.2).mp (acq lI);have gd:aj[p.2]?=some bq:=he;obtain⟨n,a,b⟩:=O.all p.2 bq.1 (by rw[abO,Array.getElem?_map,gd];rfl);refine⟨n,O.inj _ _ _ a au,λk aw=>?_⟩;obtain⟨cU,lS⟩:=b k aw;obtain⟨cw,fu,Od⟩:=List.mem_iff_getElem.mp ((pf _ _).mpr lS);refine⟨cw,?_⟩;show(L.map (·.1)).toArray[cw]?=_;simp only[adj,abj];rw[abc fu,Od];rfl
end f5
end
section
namespace Pv
open PySem f5 PySem.SetTable
section
variable{prog:Program}{w:World}{A:Around}{E:Value->Shared->Prop}{s:Shared}
def hC(prog:Program)(w:World)(h:Heap)(ar:List Int)(b:Addr):Prop:=IsTupleKey (intKind prog w) h ar b
noncomputable def fI(prog:Program)(w:World)(ar:List Int):Int:=tupleKeyHash (intKind prog w) ar
def lr(prog:Program)(w:World)(h:Heap)(e:Int×Value)(ar:List Int):Prop:=∃b,e.2=.ref b/\e.1=fI prog w ar/\hC prog w h ar b
def hC.kept(x:hC prog w h ar b)(k:∀o,h.get? b=some o->h'.get? b=some o):hC prog w h' ar b :=
 let ⟨o,items,n,av,r⟩:=x;⟨o,items,n,k o av,r⟩
def hC.ne{aj aZ t}(x:hC prog w h ar b)(av:h.get? a=some o)(hd:o.data=.set aj aZ t):b≠a:=by
 rintro rfl;obtain⟨bJ,items,n,d4,_,gc,_⟩:=x;rw[av]at d4;cases d4;rw[hd]at gc;cases gc
def DV(aw:hC prog w s.heap ar a)(h:Q false s):wpAny M A (ofAClassStatement 8 (.ref a)) Q E s:=by
 have cu:s.TypeIs (.ref a) "tuple":=IsTupleKey.typeIs aw;obtain⟨o,items,n,av,_,hd,ai⟩:=aw;unfold ofAClassStatement;refine aa5 (ac7 cu ?_);dsimp only;rw[if_pos (by rfl)];refine aa5 (aa7 ?_);simp only[acw,aba,abw];refine aa5 (wpAny_seqItems av hd ?_);dsimp only;refine aa5 ?_;rw[<- Array.forIn_toList];refine ad2 _ (λrest r s'=>r.1=none/\s'=s/\∀v∈rest,carriedByValue v=true) _ ?_ ?_ _ _ ⟨rfl,rfl,ai.byValue⟩
 .rintro v rest r s' ⟨aV,rfl,fH⟩;have aI:=fH v List.mem_cons_self;have e:ofAClassStatement 7 v=pure false:=by
   cases v with
   |ref b=>simp[carriedByValue]at aI
   |_=>unfold ofAClassStatement;rfl
  rw[e];refine aa5 (aa7 ?_);simp only[aba,abw];exact aa7 ⟨rfl,rfl,λu th=>fH u (List.mem_cons_of_mem _ th)⟩
 .rintro⟨aH,aX⟩ s' ⟨aV,rfl,_⟩;simp only at aV;subst aV;exact aa7 h
def Xa{stored:List Value}(aw:hC prog w s.heap ar b)(ae:∀v∈stored,∃c cE,v=.ref c/\hC prog w s.heap cE c)(h:Q false s):
  wpAny (model prog w) A (searchCouldBeSeen (.ref b) stored) Q E s:=by
 unfold searchCouldBeSeen;refine aa5 ?_;refine ad2 _ (λrest r s'=>r.1=none/\s'=s/\∀v∈rest,∃c cE,v=.ref c/\hC prog w s.heap cE c) _ ?_ ?_ _ _ ⟨rfl,rfl,ae⟩
 .rintro v rest r s' ⟨aV,rfl,fH⟩;obtain⟨c,cE,rfl,ag⟩:=fH v List.mem_cons_self;have kL:∀v∈rest,∃c cE,v=.ref c/\hC prog w s'.heap cE c:=λu th=>fH u (List.mem_cons_of_mem _ th)
  dsimp only
  split
  .exact aa7 ⟨rfl,rfl,kL⟩
  .refine aa5 (wpAny_eqIsQuiet_tuple aw ?_);simp only[acw,aba,abw];refine aa5 (wpAny_eqIsQuiet_tuple ag ?_);simp only[acw,aba,abw];refine aa5 (DV aw ?_);simp only[aba,abw];refine aa5 (DV ag ?_);simp only[aba,abw];exact aa7 ⟨rfl,rfl,kL⟩
 .rintro⟨aH,aX⟩ s' ⟨aV,rfl,_⟩;simp only at aV;subst aV;exact aa7 h
def L3(aw:hC prog w s.heap ar a)(h:Q true s):wpAny (model prog w) A (hashByValue 8 (.ref a)) Q E s:=by
 have cu:s.TypeIs (.ref a) "tuple":=IsTupleKey.typeIs aw;obtain⟨o,items,n,av,_,hd,ai⟩:=aw;unfold hashByValue;refine aa5 (aeQ cu F.slot_tuple_hash.lookup ?_);dsimp only;refine aa5 (wpAny_seqItems av hd ?_);refine aa5 ?_;show wpAny _ _ (forIn items _ _) _ _ s;rw[<- Array.forIn_toList];have fH:∀v∈items.toList,∃i t,v=Value.int i t:=by
  clear hd av;generalize items.toList=l at ai
  induction ai with
  |nil=>intro v aI;simp at aI
  |@cons k rq cE af J _ aD =>
   intro v aI;rcases aa9.mp aI with rfl|aI
   .obtain⟨t,e⟩:=aey J;exact⟨_,t,e⟩
   .exact aD v aI
 refine ad2 _ (λrest r s'=>r.1=none/\s'=s/\∀v∈rest,∃i t,v=Value.int i t) _ ?_ ?_ _ _ ⟨rfl,rfl,fH⟩
 .rintro v rest r s' ⟨aV,rfl,fH⟩;obtain⟨i,t,rfl⟩:=fH v List.mem_cons_self;have e:hashByValue 7 (Value.int i t)=pure true:=(by unfold hashByValue;rfl);rw[e];refine aa5 (aa7 ?_);simp only[acw,aba,abw];exact aa7 ⟨rfl,rfl,λu th=>fH u (List.mem_cons_of_mem _ th)⟩
 .rintro⟨aH,aX⟩ s' ⟨aV,rfl,_⟩;simp only at aV;subst aV;exact aa7 h
theorem Tab.fits{aj:Array (Int×Value)}(T:Tab aj t):t.fits aj.size=true:=by
 unfold SetTable.fits;have J:=T.gR;have h2:=T.fill;have h3:=T.full;simp only[aa6,abG,abl];exact⟨J,by rw[h2,<- J];exact h3⟩
def Tab.PX{aj:Array (Int×Value)}(T:Tab aj t):t.gaveWay=false:=by
 unfold SetTable.gaveWay;rcases T.c6 with e|e|e|e<;>rw[e]<;>rfl
theorem I6 (bc : A.units < cLine)
    (av : s.heap.get? a = some o) (hd : o.data = .set aj aZ t) (T : Tab aj t) (au : Paired (lr prog w s.heap) aj.toList c0) (aw : hC prog w s.heap ar b)
    (aG : N < 10 * turns t.mask) (he : t.slot (cB t.mask (fI prog w ar) N) = .empty) (i3 : ∀ i : Nat, t.place[i]? ≠ some (cB t.mask (fI prog w ar) N)) (ax : ∀ k, k < N -> ∃ i : Nat, t.place[i]? = some (cB t.mask (fI prog w ar) k))
    (hf : ar ∉ c0 -> R (.free (cB t.mask (fI prog w ar) N) false) s) (ay : ar ∈ c0 -> ∀ r, R (.there r) s) :
    ∀ (fuel n : Nat) (xk : Option Probe), n <= N -> N - n < fuel -> xk.getD (t.probeStart (fI prog w ar)) = pr t.mask (fI prog w ar) n ->
      (∀ k, k < n -> ∀ (i : Nat) (e : Int × Value), t.place[i]? = some (cB t.mask (fI prog w ar) k) -> aj[i]? = some e -> ¬ lr prog w s.heap e ar) ->
      wpAny (model prog w) A (setSearchFrom a (.ref b) (fI prog w ar) uV fuel xk) R E s
  | 0, n, xk, J, h2, _, _ => by lia
  | fuel + 1, n, xk, J, h2, cK, i6 => by
    unfold setSearchFrom
    refine aa5 (ab9 av hd (Tab.fits T) ?_)
    dsimp only
    rw [Tab.PX T]
    simp only [aba, abw]
    rw [cK]
    have vH : ∀ (i : Nat) (e : Int × Value), aj[i]? = some e -> (fun i => (aj[i]?.map (·.1)).getD 0) i = e.1 := fun i e h => by simp [h]
    generalize aC : t.probe _ (fI prog w ar) (pr t.mask (fI prog w ar) n) = X
    have mem_of : ∀ (i : Nat) (e : Int × Value), aj[i]? = some e -> ∃ cE, cE ∈ c0 /\ lr prog w s.heap e cE := fun i e h => by
      have hm : e ∈ aj.toList := by rw [<- abO] at h; exact acq h
      clear vH i6 i3 ax he ay hf
      generalize aj.toList = l at au hm
      induction au with
      | nil => simp at hm
      | cons J _ aD =>
        rcases aa9.mp hm with rfl | hm
        · exact ⟨_, List.mem_cons_self, J⟩
        · obtain ⟨cE, a1, a2⟩ := aD hm
          exact ⟨cE, List.mem_cons_of_mem _ a1, a2⟩
    rcases BJ (h := fI prog w ar) (hashAt := fun i => (aj[i]?.map (·.1)).getD 0) T.iI he ax (10 * turns t.mask) n J ⋯ with ⟨k, i, b1, b2, cX, eE, hD, rX⟩ | ⟨hD, rX⟩
    · have u0 : X = _ := aC.symm.trans rX
      rw [u0]
      dsimp only
      have ai : i < aj.size := by rw [<- T.gR]; exact (abD.mp cX).1
      have qv : aj[i]? = some aj[i] := abh ai
      obtain ⟨cE, Av, c, gZ, sx, ag⟩ := mem_of i _ qv
      have rest : wpAny (model prog w) A (do
          let some (_, y) := aj[i]? | unsupported "internal:set-entry"
          let equal <- holding [y] (eqBool y (.ref b))
          let (oN, _, t') <- setState a
          if uV && equal then return SetFound.there none
          let some same := t'.sameMemory t.moves t.mask | unsupported "set.changed-during-lookup:is-the-new-block-at-the-old-address"
          let XP <- match (if same then t'.slot (cB t.mask (fI prog w ar) k) else .empty) with
            | .live cw => match oN[cw]? with
              | some (_, xN) => do pure (if <- isSame xN y then some cw else none)
              | none => pure none
            | _ => pure none
          match XP with
          | none => rule "set.search.anew"; setSearchFrom a (.ref b) (fI prog w ar) uV fuel none
          | some cw => if equal then return SetFound.there (some cw) else setSearchFrom a (.ref b) (fI prog w ar) uV fuel (some (pr t.mask (fI prog w ar) (k + 1)))) R E s := by
        rw [qv]
        generalize h7 : aj[i] = ev at gZ sx qv
        obtain ⟨Z2, Z3⟩ := ev
        dsimp only at gZ sx ⊢
        subst gZ
        refine aa5 (acf (wpAny_eqBool_tuple bc ag aw ?_))
        refine aa5 (ab9 av hd (Tab.fits T) ?_)
        dsimp only
        have same : t.sameMemory t.moves t.mask = some true := by unfold SetTable.sameMemory; simp
        by_cases q : cE = ar
        · subst q
          simp only [adK, Bool.and_true]
          cases uV
          · simp only [aba, abw]
            rw [same]
            dsimp only
            rw [if_pos rfl, pH T.iI cX]
            dsimp only
            rw [qv]
            dsimp only
            refine aa5 (wpAny_isSame_ref_self (aa5 (aa7 ?_)))
            rw [if_pos rfl]
            dsimp only
            first | exact aa7 (ay Av _) | (rw [if_pos trivial]; exact aa7 (ay Av _))
          · simp only [abY]
            exact aa7 (ay Av _)
        · simp only [decide_eq_false q, Bool.and_false, aba, abw]
          rw [same]
          dsimp only
          rw [if_pos rfl, pH T.iI cX]
          dsimp only
          rw [qv]
          dsimp only
          refine aa5 (wpAny_isSame_ref_self (aa5 (aa7 ?_)))
          rw [if_pos rfl]
          dsimp only
          refine I6 bc av hd T au aw aG he i3 ax hf ay fuel (k + 1) _ ⋯ ⋯ rfl fun di fv cw bq o2 gd ak => ?_
          by_cases cR : di < n
          · exact i6 di cR cw bq o2 gd ak
          · by_cases b4 : di = k
            · subst b4
              have e1 : cw = i := by
                have := pH T.iI o2
                rw [pH T.iI cX] at this
                injection this with this
                exact this.symm
              subst e1
              rw [qv] at gd
              cases gd
              obtain ⟨cW, Oa, _, cD⟩ := ak
              cases Oa
              exact q (IsTupleKey.inj ag cD)
            · obtain ⟨_, _, Oc, _⟩ := ak
              exact hD di ⋯ ⋯ cw o2 ((vH cw bq gd).trans Oc)
      cases iE : t.led
      · simp only [aer, abY]
        refine aa5 (Xa aw (fun v aI => ?_) ?_)
        · obtain ⟨e, gd, rfl⟩ := List.mem_map.mp aI
          have hm : e ∈ aj.toList := by
            rw [Array.toList_filter] at gd
            exact (abi.mp gd).1
          obtain ⟨j, aF⟩ := List.mem_iff_getElem?.mp hm
          obtain ⟨SH, _, b4, e2, _, h2⟩ := mem_of j e (by rw [<- abO]; exact aF)
          exact ⟨b4, SH, e2, h2⟩
        · simp only [aba, abw]
          exact rest
      · simp only [acw, aba, abw]
        exact rest
    · have u0 : X = _ := aC.symm.trans rX
      rw [u0]
      dsimp only
      refine aa7 (hf fun ee => ?_)
      obtain ⟨e, hm, ak⟩ : ∃ e ∈ aj.toList, lr prog w s.heap e ar := by
        clear vH i6 i3 ax he ay hf mem_of hD rX u0
        generalize aj.toList = l at au
        induction au with
        | nil => simp at ee
        | @cons bq cE _ _ J _ aD =>
          rcases aa9.mp ee with rfl | ee
          · exact ⟨bq, List.mem_cons_self, J⟩
          · obtain ⟨e, a1, a2⟩ := aD ee
            exact ⟨e, List.mem_cons_of_mem _ a1, a2⟩
      obtain ⟨j, aF⟩ := List.mem_iff_getElem?.mp hm
      rw [abO] at aF
      obtain ⟨_, _, sx, _⟩ := id ak
      obtain ⟨k, jt, As⟩ := T.met i3 aF sx
      by_cases c : k < n
      · exact i6 k c j e As aF ak
      · exact hD k ⋯ jt j As ((vH j e aF).trans sx)
def pZ(M:Value->Prop)(prog:Program)(w:World)(h:Heap)(a:Addr)(c0:List (List Int)):Prop :=
 ∃o aj aZ t,h.get? a=some o/\o.ExactSet/\o.data=.set aj aZ t/\Tab aj t/\aj.size*5<t.mask*3/\t.plain=true/\(t.led=true<->w.params.followText "set-order"=false)/\Paired (λe ar=>lr prog w h e ar/\M e.2) aj.toList c0/\c0.Nodup
def Paired.perm{α β:Type}{F:α->β->Prop}{l1 l2:List α}(p:l1.Perm l2):∀{ar:List β},Paired F l2 ar->∃cE,cE.Perm ar/\Paired F l1 cE:=by
 induction p with
 |nil=>intro ar h;cases h;exact⟨[],.refl _,.nil⟩
 |cons x _ aD =>
  intro ar h;cases h with
  |cons J t =>
   obtain⟨cE,md,h'⟩:=aD t;exact⟨_::cE,md.cons _,.cons J h'⟩
 |swap x y l =>
  intro ar h;cases h with
  |cons J t =>
   cases t with
   |cons h2 t=>exact⟨_::_::_,List.Perm.swap _ _ _,.cons h2 (.cons J t)⟩
 |trans _ _ AQ AR =>
  intro ar h;obtain⟨k1,p1,J⟩:=AR h;obtain⟨k2,p2,h2⟩:=AQ J;exact⟨k2,p2.trans p1,h2⟩
theorem Paired.len{α β:Type}{F:α->β->Prop}:∀{l:List α}{ar:List β},Paired F l ar->l.length=ar.length
 |_,_,.nil=>rfl
 |_,_,.cons _ t=>by simp[Paired.len t]
theorem Paired.mp{α β:Type}{F G:α->β->Prop}(f:∀a b,F a b->G a b):∀{l:List α}{ar:List β},Paired F l ar->Paired G l ar
 |_,_,.nil=>.nil
 |_,_,.cons h t=>.cons (f _ _ h) (Paired.mp f t)
def K4(bc:A.units<cLine)(a6:pZ M prog w s.heap a c0)(aw:hC prog w s.heap ar b)(ft:M (.ref b))(te:c0.length<256)(h:∀h' iF r,Heap.SameBut a s.heap h'->pZ M prog w h' a iF->iF.Perm (if ar∈c0 then c0 else ar::c0)->Q r { s with heap:=h' }):
  wpAny (model prog w) A (setAddHashed a (.ref b) (fI prog w ar)) Q E s:=by
 obtain⟨o,aj,aZ,t,av,hex,hd,T,i5,dV,iE,au,lQ⟩:=a6;obtain⟨N,aG,he,i3,ax⟩:=EV T.c6 T.iI T.sj T.full (fI prog w ar);have hlen:aj.size=c0.length:=by have:=Paired.len au;simpa using this
 unfold setAddHashed setAddHashedIn;refine acf (aa5 (ab9 av hd (Tab.fits T) ?_));dsimp only;have Qu:byScan (.ref b) aj=false:=by unfold byScan;simp[Value.scannable]
 rw[Qu];simp only[aba,abw];refine aa5 ?_;unfold setSearch;refine I6 bc av hd T (Paired.mp (λ_ _ x=>x.1) au) aw aG he i3 ax (λlR=>?_) (λee r=>?_) 100000 0 none (abz _) ?_ rfl (λk fv=>absurd fv (Nat.not_lt_zero k))
 .-- it is new
  dsimp only;have Ah:t.place.size+1<=t.mask:=by
   rw[T.gR];rcases T.c6 with e|e|e|e<;>rw[e]at i5 ⊢<;>lia
  obtain⟨iu,b1,b2,cX,eE,hD⟩:=T.put (x:=Value.ref b) i3 ax Ah;refine aa5 (ab9 av hd (Tab.fits T) ?_);dsimp only;generalize ea:t.put (cB t.mask (fI prog w ar) N)=P at iu b1 b2 cX eE hD;obtain⟨t1,p1⟩:=P;dsimp only at iu b1 b2 cX eE hD ⊢;rw[cX,dV];simp only[abY];refine aa5 (L3 aw ?_);simp only[abY];have o3:=Gk aj p1 (fI prog w ar,Value.ref b) b1;have qF:(insertAt aj p1 (fI prog w ar,Value.ref b)).size=aj.size+1:=qJ _ _ _ b1;have Ae:Paired (λe ar=>lr prog w s.heap e ar/\M e.2) ((fI prog w ar,Value.ref b)::aj.toList) (ar::c0):=.cons ⟨⟨b,rfl,rfl,aw⟩,ft⟩ au;obtain⟨tE,aM,a7⟩:=Paired.perm o3 Ae;have tc:tE.Nodup:=(aM.nodup_iff).mpr (abv.mpr ⟨lR,lQ⟩);generalize Qy:insertAt aj p1 (fI prog w ar,Value.ref b)=cA at iu o3 qF a7;refine aa5 (adR av hd ?_ (by rw[qF];have:sizeLine=2 ^ 40\/True:=.inr trivial;rw[sizeLine_eq];lia));have h8:(s.heap.update a (Obj.putSet cA t1)).get? a=some { o with data:=.set cA (aZ+1) t1 }:=by
   have:=abA (Obj.putSet cA t1) av (by rw[ad6 cA t1 hd];rfl);rw[ad6 cA t1 hd]at this;exact this
  have qC:=abZ s.heap a (Obj.putSet cA t1);have move:∀{h':Heap},Heap.SameBut a s.heap h'->∀(e:Int×Value)(cE:List Int),(lr prog w s.heap e cE/\M e.2)->(lr prog w h' e cE/\M e.2):=λ{h'} ae e cE ⟨⟨c,e1,e2,e3⟩,e4⟩ =>
   ⟨⟨c,e1,e2,e3.kept λbJ d4=>(ae.2 c (e3.ne av hd)).trans d4⟩,e4⟩
  have goal:∀h' iF,Heap.SameBut a s.heap h'->pZ M prog w h' a iF->iF.Perm (ar::c0)->Q true { s with heap:=h' }:=λh' iF bO bE dx=>h h' iF true bO bE (by rw[if_neg lR];exact dx)
  have sW:t1.fill=cA.size:=iu.fill
  by_cases jY:t1.tooFull=true
  .simp only[jY,aer,aeE,abY];have z8:∃m,gV m/\sizeAbove (grown cA.size)-1=m/\cA.size*5<m*3/\sizeAbove (grown cA.size)<=512:=by
    unfold SetTable.tooFull at jY;rw[sW,b2]at jY;have gN:cA.size*5>=t.mask*3:=(by simpa using jY);rcases T.c6 with e|e|e|e
    .rw[e]at gN i5;have:cA.size=5:=⋯;rw[this];exact⟨31,.inr (.inl rfl),∅,∅,∅⟩
    .rw[e]at gN i5;have:cA.size=19:=⋯;rw[this];exact⟨127,.inr (.inr (.inl rfl)),∅,∅,∅⟩
    .rw[e]at gN i5;have:cA.size=77:=⋯;rw[this];exact⟨511,.inr (.inr (.inr rfl)),∅,∅,∅⟩
    .rw[e]at gN i5;lia
   obtain⟨m,hm,Aw,s8,Q2⟩:=z8;refine aa5 ?_;unfold setRelay;refine aa5 (ab9 h8 rfl (Tab.fits iu) ?_);dsimp only;rw[<- qF];have Rz:¬sizeAbove (grown cA.size)>sizeLine:=(by rw[sizeLine_eq];lia);rw[if_neg Rz];obtain⟨dZ,order,cR,b4,fk,qd,jS,lA,r3,_⟩:=GA (α:=Value) hm cA (by
    rcases hm with e|e|e|e<;>rw[e]at s8 ⊢<;>lia) t1.finger (t1.movedTo m) t1.led t1.plain
   have AG:t1.relaid (cA.map (·.1)) (grown cA.size)=some (dZ,order):=by
    unfold SetTable.relaid;rw[Aw];exact cR
   refine aa5 ?_;rw[AG];show wpAny (model prog w) A (if ((order.filterMap (cA[·]?)).size != cA.size)=true then _ else pure (order.filterMap (cA[·]?),dZ)) _ E _;rw[if_neg (by rw[jS];simp)];refine aa7 ?_;dsimp only;refine adR h8 rfl ?_ (by rw[jS,sizeLine_eq];lia);obtain⟨A1,bU,cO⟩:=Paired.perm r3 a7;have sY:((s.heap.update a (Obj.putSet cA t1)).update a (Obj.putSet (order.filterMap (cA[·]?)) dZ)).get? a=some { o with data:=.set (order.filterMap (cA[·]?)) (aZ+1+1) dZ }:=by
    have:=abA (Obj.putSet (order.filterMap (cA[·]?)) dZ) h8 (by rw[ad6 _ dZ rfl];rfl);rw[ad6 _ dZ rfl]at this;exact this
   have vU:=qC.trans (abZ _ a (Obj.putSet (order.filterMap (cA[·]?)) dZ));refine aa7 (goal _ A1 vU ⟨_,_,_,dZ,sY,hex,rfl,lA,by rw[jS,b4];exact s8,by rw[qd,cX];exact dV,by rw[fk,eE];exact iE,Paired.mp (move vU) cO,(bU.nodup_iff).mpr tc⟩ (bU.trans aM))
  .have gN:t1.tooFull=false:=(by simpa using jY);simp only[gN,Bool.and_false,aba,abw];refine aa7 (goal _ tE qC ⟨_,_,_,t1,h8,hex,rfl,iu,?_,by rw[cX];exact dV,by rw[eE];exact iE,Paired.mp (move qC) a7,tc⟩ aM);unfold SetTable.tooFull at gN;rw[sW]at gN;have:¬cA.size*5>=t1.mask*3:=(by simpa using gN);lia
 .dsimp only;exact aa7 (h s.heap c0 false (aeB a s.heap) ⟨o,aj,aZ,t,av,hex,hd,T,i5,dV,iE,au,lQ⟩ (by rw[if_pos ee]))
 .have:turns t.mask<=526:=(by unfold turns;rcases T.c6 with e|e|e|e<;>rw[e]<;>lia);lia
def Xj(bc:A.units<cLine)(a6:pZ M prog w s.heap a c0)(aw:hC prog w s.heap ar b)(ft:M (.ref b))(te:c0.length<256)(h:∀h' tk iF r,s.toks<=tk->Heap.SameBut a s.heap h'->pZ M prog w h' a iF->iF.Perm (if ar∈c0 then c0 else ar::c0)->Q r { s with heap:=h',toks:=tk }):
  wpAny (model prog w) A (setAdd a (.ref b)) Q E s:=by
 unfold setAdd;refine acf (aa5 (wpAny_pyHash_tuple bc aw ?_));exact K4 (s:={ s with toks:=_ }) bc a6 aw ft te λh' iF r bO bE dx=>h h' _ iF r (Nat.le_add_right _ _) bO bE dx
def lq(e:Int×Value)(k:Int):Prop:=e.1=hashInt k/\∃t,e.2=.int k t
def pY(w:World)(h:Heap)(a:Addr)(ar:List Int):Prop :=
 ∃o aj aZ t,h.get? a=some o/\o.ExactSet/\o.data=.set aj aZ t/\Tab aj t/\aj.size*5<t.mask*3/\t.plain=true/\(t.led=true<->w.params.followText "set-order"=false)/\Paired lq aj.toList ar/\ar.Nodup
def tx(prog)(w)(i)(t):(intKind prog w).is i (.int i t)=true:=by show Value.isInt i (.int i t)=true;simp[Value.isInt]
def lq.elems(au:Paired lq aj ar):ElemsOf (intKind prog w) aj:=by
 intro e he
 induction au with
 |nil=>simp at he
 |@cons bq k _ _ J _ aD =>
  rcases aa9.mp he with rfl|he
  .obtain⟨h2,t,e2⟩:=J;refine⟨⟨k,?_,h2⟩,?_⟩
   .rw[e2];exact tx _ _ _ _
   .rw[e2];rfl
  .exact aD he
def lq.find(au:Paired lq aj ar)(k):(aj.findIdx? λe=>(intKind prog w).is k e.2).isSome=true<->k∈ar:=by
 induction au with
 |nil=>simp
 |@cons bq di _ _ J _ aD =>
  obtain⟨_,t,e2⟩:=J;have hd:(intKind prog w).is k bq.2=decide (k=di):=by
   rw[e2];exact KeyKind.is_eq_decide (tx prog w di t) k
  rw[List.findIdx?_cons,hd]
  by_cases c:k=di
  .subst c;simp
  .simp only[decide_eq_false c];simp only[aba,abw,Option.isSome_map];rw[aD];simp[c]
def K2(a6:pY w s.heap a ar)(te:ar.length<256)(h:∀h' cE r,Heap.SameBut a s.heap h'->pY w h' a cE->cE.Perm (if k∈ar then ar else k::ar)->Q r { s with heap:=h' }):
  wpAny (model prog w) A (setAddHashed a (.int k tk) (hashInt k)) Q E s:=by
 obtain⟨o,aj,aZ,t,av,hex,hd,T,i5,dV,iE,au,lQ⟩:=a6;obtain⟨N,aG,he,i3,ax⟩:=EV T.c6 T.iI T.sj T.full (hashInt k);have hlen:aj.size=ar.length:=by have:=Paired.len au;simpa using this
 have lO:ElemsOf (intKind prog w) aj.toList:=lq.elems au;have Rw:aj.size<scanBound:=by unfold scanBound;lia
 unfold setAddHashed setAddHashedIn;refine acf (aa5 (ab9 av hd (Tab.fits T) ?_));dsimp only;rw[byScan_of (knd:=intKind prog w) (x:=.int k tk) rfl Rw lO];simp only[abY];unfold setAddByScan;refine aa5 ?_;refine aa5 (ad7 ?_);refine aa5 (wpAny_setScan_of (knd:=intKind prog w) (k:=k) (tx _ _ _ _) av hd (Tab.fits T) lO ?_);have vM:=lq.find (prog:=prog) (w:=w) au k;cases aV:List.findIdx? (λe=>(intKind prog w).is k e.2) aj.toList with
 |some j =>
  dsimp only;rw[aV]at vM;have ee:k∈ar:=vM.mp rfl;refine aa7 (aa7 ?_);exact h s.heap ar _ (aeB a s.heap) ⟨o,aj,aZ,t,av,hex,hd,T,i5,dV,iE,au,lQ⟩ (by rw[if_pos ee])
 |none =>
  dsimp only;rw[aV]at vM;have lR:k∉ar:=λz=>by have:=vM.mpr z;cases this
  have Ah:t.place.size+1<=t.mask:=by
   rw[T.gR];rcases T.c6 with e|e|e|e<;>rw[e]at i5 ⊢<;>lia
  obtain⟨iu,b1,b2,cX,eE,hD⟩:=T.put (x:=Value.int k tk) i3 ax Ah;have nu:t.freeSlot (hashInt k)=some (cB t.mask (hashInt k) N,false):=by
   unfold SetTable.freeSlot;rcases BJ (h:=hashInt k) (hashAt:=λ_=>hashInt k+1) T.iI he ax (10*turns t.mask) 0 (abz _) ⋯ with⟨_,_,_,_,_,z,_⟩|⟨_,z⟩
   .exact absurd z ⋯
   .have kd:t.probe (λ_=>hashInt k+1) (hashInt k) (t.probeStart (hashInt k))=_:=z;rw[kd];rfl
  have FW:layNew t aj (hashInt k) (.int k tk)=(insertAt aj (t.put (cB t.mask (hashInt k) N)).2 (hashInt k,.int k tk),(t.put (cB t.mask (hashInt k) N)).1,false,false):=by
   unfold layNew;rw[nu];dsimp only;have Aj:=Tab.fits iu;generalize t.put (cB t.mask (hashInt k) N)=P at iu b1 Aj;obtain⟨t1,p1⟩:=P;dsimp only at Aj ⊢;unfold SetTable.orStandIn;rw[Aj];rfl
  rw[FW];dsimp only;generalize ea:t.put (cB t.mask (hashInt k) N)=P at iu b1 b2 cX eE hD;obtain⟨t1,p1⟩:=P;dsimp only at iu b1 b2 cX eE hD ⊢;refine aa5 (aa7 ?_);rw[cX,dV];simp only[abY];rw[show hashByValue 8 (Value.int k tk)=pure true from by unfold hashByValue;rfl];refine aa5 (aa7 ?_);simp only[abY];have o3:=Gk aj p1 (hashInt k,Value.int k tk) b1;have qF:(insertAt aj p1 (hashInt k,Value.int k tk)).size=aj.size+1:=qJ _ _ _ b1;have Ae:Paired lq ((hashInt k,Value.int k tk)::aj.toList) (k::ar):=.cons ⟨rfl,_,rfl⟩ au;obtain⟨tE,aM,a7⟩:=Paired.perm o3 Ae;have tc:tE.Nodup:=(aM.nodup_iff).mpr (abv.mpr ⟨lR,lQ⟩);generalize Qy:insertAt aj p1 (hashInt k,Value.int k tk)=cA at iu o3 qF a7;refine aa5 (adR av hd ?_ (by rw[qF,sizeLine_eq];lia));have h8:(s.heap.update a (Obj.putSet cA t1)).get? a=some { o with data:=.set cA (aZ+1) t1 }:=by
   have:=abA (Obj.putSet cA t1) av (by rw[ad6 cA t1 hd];rfl);rw[ad6 cA t1 hd]at this;exact this
  have qC:=abZ s.heap a (Obj.putSet cA t1);have goal:∀h' cE,Heap.SameBut a s.heap h'->pY w h' a cE->cE.Perm (k::ar)->Q true { s with heap:=h' }:=λh' cE bO bE dx=>h h' cE true bO bE (by rw[if_neg lR];exact dx)
  have sW:t1.fill=cA.size:=iu.fill
  by_cases jY:t1.tooFull=true
  .simp only[jY,aer,aeE,abY];have z8:∃m,gV m/\sizeAbove (grown cA.size)-1=m/\cA.size*5<m*3/\sizeAbove (grown cA.size)<=512:=by
    unfold SetTable.tooFull at jY;rw[sW,b2]at jY;have gN:cA.size*5>=t.mask*3:=(by simpa using jY);rcases T.c6 with e|e|e|e
    .rw[e]at gN i5;have:cA.size=5:=⋯;rw[this];exact⟨31,.inr (.inl rfl),∅,∅,∅⟩
    .rw[e]at gN i5;have:cA.size=19:=⋯;rw[this];exact⟨127,.inr (.inr (.inl rfl)),∅,∅,∅⟩
    .rw[e]at gN i5;have:cA.size=77:=⋯;rw[this];exact⟨511,.inr (.inr (.inr rfl)),∅,∅,∅⟩
    .rw[e]at gN i5;lia
   obtain⟨m,hm,Aw,s8,Q2⟩:=z8;obtain⟨dZ,order,cR,b4,fk,qd,jS,lA,r3,L4⟩:=GA (α:=Value) hm cA (by
    rcases hm with e|e|e|e<;>rw[e]at s8 ⊢<;>lia) t1.finger (t1.movedTo m) t1.led t1.plain
   have AG:t1.relaid (cA.map (·.1)) (grown cA.size)=some (dZ,order):=by
    unfold SetTable.relaid;rw[Aw];exact cR
   have fH:relayAll t1 cA (grown cA.size)=(order.filterMap (cA[·]?),dZ,false):=by
    unfold relayAll;rw[AG];dsimp only;have J:coversAll order cA.size=true:=(by unfold coversAll;exact List.isPerm_iff.mpr L4);rw[J,Tab.fits lA];rfl
   rw[fH];dsimp only;refine aa5 (aa7 ?_);refine aa5 (adR h8 rfl ?_ (by rw[jS,sizeLine_eq];lia));obtain⟨A1,bU,cO⟩:=Paired.perm r3 a7;have sY:((s.heap.update a (Obj.putSet cA t1)).update a (Obj.putSet (order.filterMap (cA[·]?)) dZ)).get? a=some { o with data:=.set (order.filterMap (cA[·]?)) (aZ+1+1) dZ }:=by
    have:=abA (Obj.putSet (order.filterMap (cA[·]?)) dZ) h8 (by rw[ad6 _ dZ rfl];rfl);rw[ad6 _ dZ rfl]at this;exact this
   have vU:=qC.trans (abZ _ a (Obj.putSet (order.filterMap (cA[·]?)) dZ));exact aa7 (aa7 (goal _ A1 vU ⟨_,_,_,dZ,sY,hex,rfl,lA,by rw[jS,b4];exact s8,by rw[qd,cX];exact dV,by rw[fk,eE];exact iE,cO,(bU.nodup_iff).mpr tc⟩ (bU.trans aM)))
  .have gN:t1.tooFull=false:=(by simpa using jY);simp only[gN,Bool.and_false,aba,abw];refine aa7 (aa7 (goal _ tE qC ⟨_,_,_,t1,h8,hex,rfl,iu,?_,by rw[cX];exact dV,by rw[eE];exact iE,a7,tc⟩ aM));unfold SetTable.tooFull at gN;rw[sW]at gN;have:¬cA.size*5>=t1.mask*3:=(by simpa using gN);lia
def Xi(a6:pY w s.heap a ar)(te:ar.length<256)(h:∀h' rn cE r,s.toks<=rn->Heap.SameBut a s.heap h'->pY w h' a cE->cE.Perm (if k∈ar then ar else k::ar)->Q r { s with heap:=h',toks:=rn }):
  wpAny (model prog w) A (setAdd a (.int k tk)) Q E s:=by
 unfold setAdd;refine acf (aa5 ((intKind prog w).pyHash (k:=k) (tx _ _ _ _) ?_));exact K2 (s:={ s with toks:=s.toks+1 }) a6 te λh' iF r bO bE dx=>h h' _ iF r (Nat.le_succ _) bO bE dx
end
end Pv
end
section
namespace Pv
open PySem PySem.Spec PyProof.Rows f5 PySem.SetTable
section
variable{prog:Program}{w:World}
structure uU(prog:Program)(w:World)(κ:Type)[DecidableEq κ] where
 Row:Heap->Value->κ->Prop
 Set:Heap->Addr->List κ->Prop
 fresh:∀(h:Heap)(a:Addr),h.get? a=some { cls:=.type "set",dict:=none,data:=.set #[] 0 (.fresh 0 0 (!w.params.followText "set-order")) }->Set h a []
 moved:∀{h h':Heap}{a:Addr}{ar:List κ},Set h a ar->(∀o,h.get? a=some o->h'.get? a=some o)->(∀b o,h.get? b=some o->o.cls=.type "tuple"->h'.get? b=some o)->Set h' a ar
 BZ:∀{h h':Heap}{v:Value}{k:κ},Row h v k->(∀b o,h.get? b=some o->o.cls=.type "tuple"->h'.get? b=some o)->Row h' v k
 Bn:∀{h:Heap}{a:Addr}{ar:List κ},Set h a ar->∀o,h.get? a=some o->o.cls≠.type "tuple"
 add:∀{A:Around}{E:Value->Shared->Prop}{s:Shared}{a:Addr}{v:Value}{k:κ}{ar:List κ}{Q:Bool->Shared->Prop},A.units<cLine->Set s.heap a ar->Row s.heap v k->ar.length<256 ->
  (∀h' tk cE r,s.toks<=tk->Heap.SameBut a s.heap h'->Set h' a cE->cE.Perm (if k∈ar then ar else k::ar)->Q r { s with heap:=h',toks:=tk })->wpAny (model prog w) A (setAdd a v) Q E s
section
variable{κ:Type}[DecidableEq κ]
noncomputable def met(ar:List κ):Nat->List κ
 |0=>[]
 |i+1=>match ar[i]? with
  |some k=>if k∈met ar i then met ar i else k::met ar i
  |none=>met ar i
theorem wz(ar:List κ):∀(i:Nat),i<=ar.length->∀k,k∈met ar i<->k∈ar.take i
 |0,_,k=>by simp[met]
 |i+1,ai,k=>by
  have aD:=wz ar i ⋯ k;have aQ:ar[i]?=some ar[i]:=abc ⋯;have e:ar.take (i+1)=ar.take i++[ar[i]]:=(by rw[List.take_succ,aQ];rfl);unfold met;rw[aQ,e,abq,<- aD,abm];dsimp only
  split
  .rename_i c;constructor
   .exact .inl
   .rintro(h|h)
    .exact h
    .rw[h];exact c
  .rw[aa9];exact⟨λh=>h.symm,λh=>h.symm⟩
theorem tN(ar:List κ):∀i,(met ar i).Nodup
 |0=>ac4
 |i+1=>by
  unfold met
  split
  .split
   .exact tN ar i
   .rename_i c;exact abv.mpr ⟨c,tN ar i⟩
  .exact tN ar i
def U0{gA:List κ}(h:l.Perm m)(h':gA.Perm (if k∈l then l else k::l)):gA.Perm (if k∈m then m else k::m):=by
 by_cases c:k∈l
 .rw[if_pos c]at h';rw[if_pos (h.mem_iff.mp c)];exact h'.trans h
 .rw[if_neg c]at h';rw[if_neg (λz=>c (h.mem_iff.mpr z))];exact h'.trans (h.cons k)
def Zd{St:Nat->Shared->Prop}(K:uU prog w κ)(W:WalksS prog w A.in1 I bD wr G n P St)(S)(qt:S∉bD)(bc:A.in1.units<cLine)(c0)(h0)(F9:∀i s,St i s->∀b∈wr,∀o,s.heap.get? b=some o->o.cls≠.type "tuple")(nB:∀i v,P i v->∃k,c0[i]?=some k/\K.Row h0 v k)(aa:∀i,i<n->(met c0 i).length<256):
  ∀(k i:Nat)(s:Shared),n-i=k->i<=n->St i s->(∀b o,h0.get? b=some o->o.cls=.type "tuple"->s.heap.get? b=some o)->(∃l,K.Set s.heap S l/\l.Perm (met c0 i)) ->
   (∀s' l,Moved (S::wr) G s s'->K.Set s'.heap S l->l.Perm (met c0 n)->R (.ok (.ret .none)) s') ->
   codeAny (model prog w) A (.builtin "set.update.loop" ⟨[.ref S,.ref I],[]⟩) R s:=by
 have FC:S∉wr:=λh=>qt (W.sub _ h)
 have gy:∀b∈wr,b∈S::wr:=λb aa=>List.mem_cons_of_mem _ aa
 intro k
 induction k with
 |zero =>
  intro i s aw ai cK FU ⟨l,a6,ax⟩ hR;have ee:i=n:=⋯;subst ee;refine ab4 adz ?_;rw[acs acJ _];show wpAny _ A.in1 (pyNext (.ref I)>>=_) _ _ s;refine aa5 (W.done s _ _ cK λs' hm=>?_);show wpAny _ A.in1 (ret Value.none) _ _ s';exact aa7 (hR s' l (hm.mono gy) (K.moved a6 (λo e=>hm.heap S o FC e) λb o e ag=>hm.heap b o (λAb=>F9 _ s cK b Ab o e ag) e) ax)
 |succ k aD =>
  intro i s aw ai cK FU ⟨l,a6,ax⟩ hR;have bM:i<n:=⋯;refine ab4 adz ?_;rw[acs acJ _];show wpAny _ A.in1 (pyNext (.ref I)>>=_) _ _ s;refine aa5 (W.item i s _ _ bM cK λv s' ea RE hm=>?_);obtain⟨key,QR,vI⟩:=nB i v ea;have tk:∀b o,s.heap.get? b=some o->o.cls=.type "tuple"->s'.heap.get? b=some o:=λb o e ag=>hm.heap b o (λAb=>F9 _ s cK b Ab o e ag) e
  have kF:K.Set s'.heap S l:=K.moved a6 (λo e=>hm.heap S o FC e) tk;have FV:∀b o,h0.get? b=some o->o.cls=.type "tuple"->s'.heap.get? b=some o:=λb o e ag=>tk b o (FU b o e ag) ag
  have fv:K.Row s'.heap v key:=K.BZ vI FV;show wpAny _ A.in1 (holding [v] (setAdd S v)>>=_) _ _ s';refine aa5 (acf (K.add bc kF fv (by rw[ax.length_eq];exact aa i bM) λh' rn gA r lp bO bE dx=>?_));have Az:∀b o,s'.heap.get? b=some o->o.cls=.type "tuple"->b≠S:=λb o e ag=>by
   rintro rfl;exact K.Bn kF o e ag
  refine aa7 ⟨aee acJ _,aD (i+1) _ ⋯ bM (W.frame _ s' _ _ RE lp λb aa o e=>?_) (λb o e ag=>?_) ⟨gA,bE,?_⟩ λud SI Q1 Qm QU=>?_⟩
  .rw[bO.2 b (λh:b=S=>qt (by rw[<- h];exact aa))];exact e
  .have bq:=FV b o e ag;show h'.get? b=some o;rw[bO.2 b (Az b o bq ag)];exact bq
  .unfold met;rw[QR];exact U0 ax dx
  .refine hR ud SI (Moved.trans W.gtrans ((hm.mono gy).then_heap lp λb o aa e=>?_) Q1) Qm QU;rw[bO.2 b (λh:b=S=>aa (by rw[h];exact List.mem_cons_self))];exact e
end
def rf(a)(h:Q₁ (.ref s.heap.objs.size) { s with heap:=s.heap.push { cls:=.type "set",dict:=none,data:=.set #[] 0 (.fresh 0 0 (!w.params.followText "set-order")) } }):
  codeAny (model prog w) A (.call (.builtin "set.__new__") ⟨[.type "set",a],[]⟩) (wants Q₁ E) s:=by
 refine codeAny_of_tree ?_;show wpAny _ A.in1 (do checkBuiltinCall "set.__new__" ⟨[.type "set",a],[]⟩;again (.builtin "set.__new__" ⟨[.type "set",a],[]⟩)) _ _ s;refine aa5 (aeZ (F.newCall_set_1 a) (aa7 ⟨aee F.plain_set_new _,ab4 F.entry_set_new ?_⟩));rw[acs F.plain_set_new _];unfold Builtin.«set.__new__» Builtin.Frozenset.newClass;have gy:=sub_set_self;obtain⟨au,g,d,tk,os⟩:=s;dsimp only
 wp_walk
 refine adu (aa7 ?_);dsimp only;simp only[newObj];refine aa5 (wpAny_alloc (aa7 ?_));exact aa7 h
def JX(led):Tab (α:=Value) #[] (SetTable.fresh 0 0 led):=by
 refine⟨λi j a b _ h=>?_,λi j h=>?_,rfl,rfl,.inl rfl,abz _,λi j e h=>?_⟩
 .simp[SetTable.fresh]at h
 .simp[SetTable.fresh]at h
 .simp[SetTable.fresh]at h
theorem HN{α β:Type}{F:α->β->Prop}:∀{l:List α}{ar:List β},Paired F l ar->∀(i:Nat)(v:α),l[i]?=some v->∃k,ar[i]?=some k/\F v k
 |_,_,.nil,i,v,h=>by simp at h
 |_,_,.cons J t,0,v,h=>by simp at h;subst h;exact⟨_,rfl,J⟩
 |_,_,.cons J t,i+1,v,h=>by
  have:=HN t i v (by simpa using h);simpa using this
def Zq(bZ:A.handled=none)(cu:T="list"\/T="tuple")(kK:h.get? l=some { cls:=.type T,dict:=bb,data:=.seq items nl,slots:=fT }):
  ∃(wN:Obj)(St:Nat->Heap->Prop),wN.cls≠.type "tuple"/\(∀(fC:Around)(E:Value->Shared->Prop)(s:Shared)(Q:Value->Shared->Prop),s.heap=h->Q (.ref h.objs.size) { s with heap:=h.push wN }->wpAny (model prog w) fC (pyIter (.ref l)) Q E s) /\
   Walks prog w A h.objs.size [h.objs.size,l] [h.objs.size] items.size (λi v=>items[i]?=some v) St/\St 0 (h.push wN)/\∀i h',St i h'->∀o,h'.get? h.objs.size=some o->o.cls≠.type "tuple":=by
 have bM:l<h.objs.size:=abd kK;rcases cu with rfl|rfl
 .have ax:h.IsList l items:=⟨_,kK,rfl,nl,rfl⟩;refine⟨{ cls:=.type "list_iterator",data:=.fields #[.ref l,.int 0 0] },_,by show Value.type _≠Value.type _;decide,λfC E s Q e q=>?_,Walks.list bZ h.objs.size l (abp bM) items,⟨⟨_,abf _ rfl,rfl,rfl⟩,ax.push _⟩,λi h' st o e=>?_⟩
  .subst e;exact adS ax q
  .obtain⟨⟨bJ,bq,c,_⟩,_⟩:=st;rw[e]at bq;cases bq;rw[c];decide
 .have ax:h.IsTuple l items:=⟨_,kK,rfl,nl,rfl⟩;refine⟨{ cls:=.type "tuple_iterator",data:=.fields #[.ref l,.int 0 0] },_,by show Value.type _≠Value.type _;decide,λfC E s Q e q=>?_,Walks.tuple bZ h.objs.size l (abp bM) items,⟨⟨_,abf _ rfl,rfl,rfl⟩,⟨_,aa8 _ kK,rfl,nl,rfl⟩⟩,λi h' st o e=>?_⟩
  .subst e;exact aeu ax q
  .obtain⟨⟨bJ,bq,c,_⟩,_⟩:=st;rw[e]at bq;cases bq;rw[c];decide
def DI {κ : Type} [DecidableEq κ] (K : uU prog w κ) {s : Shared} {c0 : List κ} (cu : T = "list" \/ T = "tuple")
    (bZ : A.handled = none) (bc : A.units + 64 < cLine) (kK : s.heap.get? l = some { cls := .type T, dict := bb, data := .seq items nl, slots := fT }) (ai : Paired (K.Row s.heap) items.toList c0) (aa : ∀ i, i < c0.length -> (met c0 i).length < 256)
    (h : ∀ (h' : Heap) (tk : Nat) (r : List κ), K.Set h' s.heap.objs.size r -> r.Perm (met c0 c0.length) ->
      (∀ b o, b < s.heap.objs.size -> s.heap.get? b = some o -> h'.get? b = some o) -> Q (.ref s.heap.objs.size) { s with heap := h', toks := tk }) :
    wpAny (model prog w) A (call (.type "set") [.ref l]) Q E s := by
  obtain ⟨c, iM, aan⟩ := ade.mro
  have aal := ade.made
  have gy := ade.sub
  refine wpAny_call (codeAny_of_tree ?_)
  show wpAny _ _ (callAny (.type "set") _) _ _ _
  refine aa7 ⟨aev _ (by decide +kernel), ab4 F.entry_type_call ?_⟩
  rw [Around.under_plain (weight_type_call_type "set" [.ref l] []) rfl]
  have J := ade.notType
  have h2 := ade.canCreate
  have aab := F.typeCall_set_1 (.ref l)
  repeat (any_goals (first | assumption | wp_step))
  refine aep (rf (.ref l) (E := E) (Q₁ := fun obj cC => ∃ led : Bool, led = (!w.params.followText "set-order") /\ obj = .ref s.heap.objs.size /\ cC = { s with heap := s.heap.push { cls := .type "set", dict := none, data := .set #[] 0 (.fresh 0 0 led) } }) ⟨_, rfl, rfl, rfl⟩) fun r cC aV => ?_
  cases r with
  | error e => exact aV
  | ok eQ =>
    cases eQ with
    | ret obj =>
      obtain ⟨led, iE, rfl, rfl⟩ := aV
      have a6 : (s.heap.push { cls := .type "set", dict := none, data := .set #[] 0 (.fresh 0 0 led) }).get? s.heap.objs.size = some { cls := .type "set", dict := none, data := .set #[] 0 (.fresh 0 0 led) } := abf _ rfl
      have Qo : Shared.TypeIs { s with heap := s.heap.push { cls := .type "set", dict := none, data := .set #[] 0 (.fresh 0 0 led) } } (.ref s.heap.objs.size) "set" := ⟨_, a6, rfl⟩
      have aag := ade.init.lookup
      have aaa := ade.init.bind (.ref s.heap.objs.size)
      repeat (any_goals (first | assumption | wp_step))
      refine aep (aej (R := wants (fun r gF => r = .none /\ ∃ h' tk gE, gF = { s with heap := h', toks := tk } /\ K.Set h' s.heap.objs.size gE /\ gE.Perm (met c0 c0.length) /\
          (∀ b o, b < s.heap.objs.size -> s.heap.get? b = some o -> h'.get? b = some o)) E) ade.init.plain F.entry_set_init (check_set_init_1 Qo ?_)) fun Wi gF AH => ?_
      · have Rh : (s.heap.push { cls := .type "set", dict := none, data := .set #[] 0 (.fresh 0 0 led) }).get? l = some { cls := .type T, dict := bb, data := .seq items nl, slots := fT } := aa8 _ kK
        have aau : isSubtype (.type T) (.type "set") = pure false := by rcases cu with rfl | rfl; exact F.sub_list_set; exact F.sub_tuple_set
        have aat : isSubtype (.type T) (.type "frozenset") = pure false := by rcases cu with rfl | rfl; exact F.sub_list_frozenset; exact F.sub_tuple_frozenset
        have dJ : (Value.type T == Value.type "dict") = false := by rcases cu with rfl | rfl <;> decide
        have QD : A.in1.in1.in1.handled = none := by simp [bZ]
        obtain ⟨wN, St, aap, hit, W, st0, Az⟩ := Zq (prog := prog) (w := w) QD cu Rh
        unfold Builtin.«set.__init__» noKeywords Builtin.Frozenset.updateFrom
        generalize Ql : pyIter = ir
        wp_walk
        subst Ql
        refine hit _ _ _ _ rfl ?_
        refine aa5 (adT ?_)
        have QV : l < s.heap.objs.size := abd kK
        have qt : s.heap.objs.size ∉ [(s.heap.push { cls := .type "set", dict := none, data := .set #[] 0 (.fresh 0 0 led) }).objs.size, l] := by
          rw [Heap.size_push]; simp only [aa9, abm, aeI, or_false, not_or]
          exact ⟨abp (acN _), ae2 QV⟩
        have hlen : items.size = c0.length := by have := Paired.len ai; simpa using this
        refine Zd K (W.toS) s.heap.objs.size qt ?hu2 c0 s.heap (fun i s' st b aa o e => ?nt) (fun i v aI => ?val) (fun i fu => aa i ⋯) (items.size - 0) 0 _ ⋯ (abz _)
          st0 (fun b o e _ => aa8 _ (aa8 _ e)) ⟨[], ?hS0, .refl _⟩ ?hR
        case hu2 => first | (show A.units + 1 + 1 + 1 + 1 < cLine; lia) | (show A.units + 1 + 1 + 1 < cLine; lia) | (simp [Around.in1]; lia)
        case nt =>
          rw [abm] at aa
          subst aa
          exact Az i _ st o e
        case val => exact HN ai i v (by rw [abO]; exact aI)
        case hS0 =>
          refine K.fresh _ _ ?_
          rw [<- iE]
          exact aa8 _ a6
        case hR =>
          intro s' gE hm kF o3
          obtain ⟨h', g', d', rn, tW⟩ := s'
          have sv : g' = s.gens := hm.gens
          have su : d' = s.drawn := hm.drawn
          have zr : tW = s.os := hm.os
          subst sv; subst su; subst zr
          show wpAny _ _ _ _ _ _
          refine aa7 ?_
          show wpAny _ _ (ret Value.none) _ _ _
          refine aa7 ⟨rfl, h', rn, gE, rfl, kF, by rw [<- hlen]; exact o3, fun b o aa e => ?_⟩
          have g0 : b ≠ s.heap.objs.size := abp aa
          have z7 : b ≠ (s.heap.push { cls := .type "set", dict := none, data := .set #[] 0 (.fresh 0 0 led) }).objs.size := by
            rw [Heap.size_push]; exact abp (Nat.lt_succ_of_lt aa)
          exact hm.heap b o (by simp only [aa9, abm, aeI, or_false, not_or]; exact ⟨g0, z7⟩) (aa8 _ (aa8 _ e))
      · cases Wi with
        | error e => exact AH
        | ok PG =>
          cases PG with
          | ret r =>
            obtain ⟨rfl, h', tk, gE, rfl, kF, Ro, fv⟩ := AH
            repeat (any_goals (first | assumption | wp_step))
            exact h _ _ gE kF Ro fv
          | _ => exact AH.elim
    | _ => exact aV.elim
end
section
noncomputable def Gw(M:Value->Prop)(prog)(w):uU prog w (List Int) where
 Row:=λh v ar=>∃b,v=.ref b/\hC prog w h ar b/\M v
 Set:=pZ M prog w
 fresh:=λh a e=>⟨_,#[],0,_,e,⟨rfl,rfl,rfl⟩,rfl,JX _,by show 0*5<7*3;decide,rfl,by show(!w.params.followText "set-order")=true<->_;simp,.nil,ac4⟩
 moved:=λ{h h' a c0} x tC k=>by
  obtain⟨o,aj,aZ,t,av,aH,aX,eJ,ip,jC,t7,BN,t8⟩:=x;refine⟨o,aj,aZ,t,tC _ av,aH,aX,eJ,ip,jC,t7,Paired.mp (λe ar ⟨⟨b,e1,e2,e3⟩,e4⟩=>⟨⟨b,e1,e2,?_⟩,e4⟩) BN,t8⟩;obtain⟨bP,items,n,J,h2,h3⟩:=e3;exact⟨bP,items,n,k b bP J h2,h2,h3⟩
 BZ:=λx k=>by
  obtain⟨b,e,⟨bP,items,m,bO,bE,dx⟩,hV⟩:=x;exact⟨b,e,⟨bP,items,m,k b bP bO bE,bE,dx⟩,hV⟩
 Bn:=λx o e=>by
  obtain⟨bJ,_,_,_,d4,hex,_⟩:=x;rw[e]at d4;cases d4;rw[hex.1];decide
 add:=λ{A E s a v k ar Q} bc a6 aV ax h=>by
  obtain⟨b,rfl,aw,ft⟩:=aV;refine Xj bc a6 aw ft ax λh' tk cE r lp bO bE dx=>h h' tk cE r lp bO bE ?_
  by_cases c:k∈ar
  .rw[if_pos c]at dx ⊢;exact dx
  .rw[if_neg c]at dx ⊢;exact dx
noncomputable def So(prog)(w):uU prog w Int where
 Row:=λ_ v k=>∃t,v=.int k t
 Set:=pY w
 fresh:=λh a e=>⟨_,#[],0,_,e,⟨rfl,rfl,rfl⟩,rfl,JX _,by show 0*5<7*3;decide,rfl,by show(!w.params.followText "set-order")=true<->_;simp,.nil,ac4⟩
 moved:=λ{h h' a c0} x tC k=>by
  obtain⟨o,aj,aZ,t,av,r⟩:=x;exact⟨o,aj,aZ,t,tC _ av,r⟩
 BZ:=λx _=>x
 Bn:=λx o e=>by
  obtain⟨bJ,_,_,_,d4,hex,_⟩:=x;rw[e]at d4;cases d4;rw[hex.1];decide
 add:=λ{A E s a v k ar Q} bc a6 aV ax h=>by
  obtain⟨t,rfl⟩:=aV;refine Xi a6 ax λh' tk cE r lp bO bE dx=>h h' tk cE r lp bO bE ?_
  by_cases c:k∈ar
  .rw[if_pos c]at dx ⊢;exact dx
  .rw[if_neg c]at dx ⊢;exact dx
end
def ri:Slot "set_iterator" "__next__" "set_iterator.__next__" :=
 .of (owner:="set_iterator") (n:="__next__") (by rw[aeV,adZ];kernel_rfl) (by decide +kernel) (by decide +kernel) (by decide +kernel)
  (by first|exact .inl (by decide +kernel)|exact .inr (by decide +kernel)) (by rw[aew];kernel_rfl)
def Ep:entryFor table "set_iterator.__next__"=some Builtin.«set_iterator.__next__»:=entryFor_of_tree (by kernel_rfl)
def HL:Manifest.owners.lookup (String.ofList ['r','o','t','a','r','e','t','i','_','t','e','s'].reverse)=some Manifest.sig_set_iterator:=by kernel_rfl
def Dk(a):argsOk "set_iterator.__next__" ⟨[a],[]⟩:=by
 unfold argsOk;rw[signature?_of (id:="set_iterator.__next__") (n:=['_','_','t','x','e','n','_','_']) (o:=['r','o','t','a','r','e','t','i','_','t','e','s']) (by kernel_rfl) HL];kernel_rfl
def Jo:Slot "set_iterator" "__iter__" "set_iterator.__iter__" :=
 .of (owner:="set_iterator") (n:="__iter__") (by rw[aeV,adZ];kernel_rfl) (by decide +kernel) (by decide +kernel) (by decide +kernel)
  (by first|exact .inl (by decide +kernel)|exact .inr (by decide +kernel)) (by rw[aew];kernel_rfl)
def Lk(a):argsOk "set_iterator.__iter__" ⟨[a],[]⟩:=by
 unfold argsOk;rw[signature?_of (id:="set_iterator.__iter__") (n:=['_','_','r','e','t','i','_','_']) (o:=['r','o','t','a','r','e','t','i','_','t','e','s']) (by kernel_rfl) HL];kernel_rfl
def Jn:Slot "set" "__iter__" "set.__iter__" :=
 .of (owner:="set") (n:="__iter__") (by rw[aeV,adZ];kernel_rfl) (by decide +kernel) (by decide +kernel) (by decide +kernel)
  (by first|exact .inl (by decide +kernel)|exact .inr (by decide +kernel)) (by rw[aew];kernel_rfl)
def Lj(a):argsOk "set.__iter__" ⟨[a],[]⟩:=by
 unfold argsOk;rw[signature?_of (id:="set.__iter__") (n:=['_','_','r','e','t','i','_','_']) (o:=['t','e','s']) (by kernel_rfl) PySem.F.owner_set];kernel_rfl
def Oh:entryFor table "set.__iter__"=some Builtin.«frozenset.__iter__»:=entryFor_alias (id':="frozenset.__iter__") (by kernel_rfl) rfl (by decide +kernel) (by kernel_rfl)
def Oi:entryFor table "set_iterator.__iter__"=some Builtin.«dict_keyiterator.__iter__»:=entryFor_alias (id':="dict_keyiterator.__iter__") (by kernel_rfl) rfl (by decide +kernel) (by kernel_rfl)
theorem Ey{α:Type}:∀(l:List α)(i:Nat)(h:i<l.length),(l[i]::l.eraseIdx i).Perm l
 |x::r,0,_=>by simp
 |x::r,i+1,h=>by
  simp only[List.getElem_cons_succ,List.eraseIdx_cons_succ];exact(List.Perm.swap _ _ _).trans ((Ey r i (by simpa using h)).cons x)
theorem H3{α:Type}(next):∀(fuel k:Nat)(left:List α)(out:Array α),left.length<=fuel->(pickOrder.go next fuel k left out).toList.Perm (out.toList++left)
 |0,k,left,out,h=>by
  have:left=[]:=List.length_eq_zero_iff.mp ⋯;subst this;simp[pickOrder.go]
 |fuel+1,k,left,out,h=>by
  unfold pickOrder.go;cases left with
  |nil=>simp
  |cons x r =>
   have bM:next k%(x::r).length<(x::r).length:=ae1 _ (by simp)
   have aQ:(x::r)[next k%(x::r).length]?=some (x::r)[next k%(x::r).length]:=abc bM;rw[aQ];refine(H3 next fuel (k+1) _ _ (by rw[List.length_eraseIdx_of_lt bM];simp only[List.length_cons]at h ⊢;lia)).trans ?_;rw[Array.toList_push,acW];exact List.Perm.append_left _ (Ey _ _ bM)
def U9{α:Type}(next)(xs:Array α):(pickOrder next xs).toList.Perm xs.toList:=by
 unfold pickOrder;have:=H3 next xs.size 0 xs.toList #[] (by simp)
 simpa using this
section
variable{prog:Program}{w:World}
structure om(w:World)(o:Obj)(aj:Array (Int×Value))(aZ:Nat)(t:SetTable):Prop where
 ex:o.ExactSet
 data:o.data=.set aj aZ t
 tab:Tab aj t
 plain:t.plain=true
 led:t.led=true<->w.params.followText "set-order"=false
noncomputable def gB(w:World)(a:Addr)(aj:Array (Int×Value))(aZ:Nat):Array (Int×Value):=if w.params.followText "set-order"=true then pickOrder (w.params.setOrder a aZ) aj else aj
def q1(w)(a)(aj)(aZ):(gB w a aj aZ).toList.Perm aj.toList:=by
 unfold gB;split
 .exact U9 _ _
 .exact .refl _
noncomputable def slotAt(w:World)(t:SetTable)(i:Nat):Nat:=if w.params.followText "set-order"=true then 0 else match i with
 |0=>0
 |j+1=>t.place.getD j 0+1
def od(h:Heap)(it a:Addr)(slot i n aZ:Nat):Prop:=∃o,h.get? it=some o/\o.cls=.type "set_iterator"/\o.data=.fields #[.int slot 0,.int i 0,.ref a,.int n 0,.int aZ 0]
def od.typeIs{s:Shared}{slot i n aZ:Nat}(h:od s.heap it a slot i n aZ):s.TypeIs (.ref it) "set_iterator":=let ⟨o,av,ag,_⟩:=h;⟨o,av,ag⟩
def LN{aj:Array (Int×Value)}(T:Tab aj t)(hw:w.params.followText "set-order"=false)(ai:i<=aj.size):below t.place (slotAt w t i)=i:=by
 unfold slotAt;rw[if_neg (by rw[hw];decide)];obtain⟨J,h2,h3⟩:=yW T.iI (match i with|0=>0|j+1=>t.place.getD j 0+1);rw[T.gR]at J;cases i with
 |zero =>
  dsimp only at J h2 h3
  by_cases c:below t.place 0=0
  .exact c
  .exfalso;have bM:0<t.place.size:=(by rw[T.gR];lia);have:=h2 0 _ ⋯ (abh bM);lia
 |succ j =>
  have aF:j<t.place.size:=(by rw[T.gR];lia);have aQ:t.place[j]?=some t.place[j]:=abh aF;have hd:t.place.getD j 0=t.place[j]:=(by simp[Array.getD,aF]);dsimp only at J h2 h3 ⊢;rw[hd]at J h2 h3 ⊢
  by_cases cR:below t.place (t.place[j]+1)<=j
  .exfalso;have:=h3 j _ cR aQ;lia
  .by_cases b4:j+1<below t.place (t.place[j]+1)
   .exfalso;have QO:j+1<t.place.size:=(by rw[T.gR];lia);have h8:t.place[j+1]?=some t.place[j+1]:=abh QO;have a1:=h2 (j+1) _ b4 h8;have a2:=T.iI j (j+1) _ _ ⋯ aQ h8;lia
   .omega
def I8(av:s.heap.get? a=some o)(O:om w o aj aZ t)(ai:i<=aj.size)(h:Q ((gB w a aj aZ)[i]?.map λe=>(e.2,slotAt w t (i+1))) s):wpAny (model prog w) A (setNext a (slotAt w t i) i aZ) Q E s:=by
 unfold setNext;refine aa5 (ab9 av O.data (Tab.fits O.tab) ?_);dsimp only;unfold setsByText;refine aa5 (aa5 (adu (aa7 ?_)));cases hw:w.params.followText "set-order" with
 |true =>
  have gz:(model prog w).w.params.followText "set-order"=true:=hw;simp only[gz,abY];simp only[acX,aba,abw];refine aa5 ?_;unfold setWalk;refine aa5 (ab9 av O.data (Tab.fits O.tab) ?_);unfold setsByText;refine aa5 (aa5 (adu (aa7 ?_)));simp only[gz,abY];refine aa5 (adu (aa7 ?_));have e1:gB w a aj aZ=pickOrder (w.params.setOrder a aZ) aj:=(by unfold gB;rw[if_pos hw]);have e2:∀i,slotAt w t i=0:=λi=>by unfold slotAt;rw[if_pos hw]
  rw[e1]at h;refine aa7 ?_;simp only[e2]at h ⊢;exact h
 |false =>
  have gz:(model prog w).w.params.followText "set-order"=false:=hw;simp only[gz,aba,abw];have Ag:(!t.plain&&decide (aj.size>1))=false:=(by rw[O.plain];rfl);show wpAny (model prog w) A (if (!t.plain&&decide (aj.size>1))=true then _ else _) Q E s;rw[Ag];simp only[aba,abw];have QW:t.led=true:=O.led.mpr hw;refine aa5 ?_;show wpAny (model prog w) A (if (!t.led&&!aj.isEmpty)=true then _ else pure ()) _ E s;rw[QW];simp only[acw,adL,aba,abw];refine aa7 ?_;rw[LN O.tab hw ai];have e1:gB w a aj aZ=aj:=(by unfold gB;rw[if_neg (by rw[hw];decide)]);rw[e1]at h;refine aa7 ?_
  by_cases c:i<aj.size
  .have g1:aj[i]?=some aj[i]:=abh c;have au:i<t.place.size:=(by rw[O.tab.gR];exact c);have g2:t.place[i]?=some t.place[i]:=abh au;rw[g1]at h ⊢;rw[g2];have e3:slotAt w t (i+1)=t.place[i]+1:=(by unfold slotAt;rw[if_neg (by rw[hw];decide)];simp[Array.getD,au]);rw[e3]at h;exact h
  .have g1:aj[i]?=none:=ada ⋯;rw[g1]at h ⊢;exact h
def next_item(av:s.heap.get? a=some o)(O:om w o aj aZ t)(hit:od s.heap it a (slotAt w t i) i aj.size aZ)(ak:(gB w a aj aZ)[i]?=some x)(dh:∀h',od h' it a (slotAt w t (i+1)) (i+1) aj.size aZ->Heap.SameBut it s.heap h'->Q (some x.2) { s with heap:=h' }):wpAny (model prog w) A (pyNext (.ref it)) Q E s:=by
 obtain⟨ps,nz,Ac,iD⟩:=id hit;have hsz:(gB w a aj aZ).size=aj.size:=by have:=(q1 w a aj aZ).length_eq;simpa using this
 have ai:i<=aj.size:=by rw[<- hsz];exact adp (abD.mp ak).1
 have dJ:it≠a:=by
  rintro rfl;rw[av]at nz;cases nz;rw[O.data]at iD;cases iD
 unfold pyNext;refine aa5 (adD (acb (name:=Str.ofString "__next__") hit.typeIs ri
  (ab5 ri hit.typeIs Ep ?_ (Dk _))))
 unfold Builtin.«set_iterator.__next__»;refine aa5 (m:=slotArgs _ _ _) (aa7 ?_);refine aa5 (aex nz iD ?_);dsimp only;refine aa5 (aeo av O.data (Tab.fits O.tab) ?_);simp only[acX,aba,abw];simp only[Int.toNat_natCast];refine aa5 (I8 av O ai ?_);rw[ak];simp only[Option.map_some];have h8:=abA (Obj.mapFields (·.setIfInBounds 0 (rawInt (slotAt w t (i+1):Nat)))) nz (by obtain⟨c,d,sk,bF⟩:=ps;simp only at iD;subst iD;rfl);refine aa5 (ack nz iD (by simp) ?_);have kH:(Obj.mapFields (·.setIfInBounds 0 (rawInt (slotAt w t (i+1):Nat))) ps).data=.fields #[.int (slotAt w t (i+1):Nat) 0,.int i 0,.ref a,.int aj.size 0,.int aZ 0]:=by
  obtain⟨c,d,sk,bF⟩:=ps;simp only at iD;subst iD;rfl
 have vJ:(Obj.mapFields (·.setIfInBounds 0 (rawInt (slotAt w t (i+1):Nat))) ps).cls=.type "set_iterator":=by
  obtain⟨c,d,sk,bF⟩:=ps;simp only at iD Ac;subst iD;exact Ac
 generalize Obj.mapFields (·.setIfInBounds 0 (rawInt (slotAt w t (i+1):Nat))) ps=hS at h8 kH vJ;refine aa5 (ack h8 kH (by simp) ?_);have sY:=abA (Obj.mapFields (·.setIfInBounds 1 (rawInt ((i:Int)+1)))) h8 (by obtain⟨c,d,sk,bF⟩:=hS;simp only at kH;subst kH;rfl);refine aa7 ?_;refine⟨_,rfl,aa7 ?_⟩;refine dh _ ⟨_,sY,?_,?_⟩ ((abZ ..).trans (abZ ..))
 .obtain⟨c,d,sk,bF⟩:=hS;simp only at kH vJ;subst kH;exact vJ
 .obtain⟨c,d,sk,bF⟩:=hS;simp only at kH vJ;subst kH;rfl
def next_end(bZ:A.handled=none)(av:s.heap.get? a=some o)(O:om w o aj aZ t)(hit:od s.heap it a (slotAt w t aj.size) aj.size aj.size aZ)(dh:∀h',Heap.ExtBut it s.heap h'->Q none { s with heap:=h' }):wpAny (model prog w) A (pyNext (.ref it)) Q E s:=by
 obtain⟨ps,nz,Ac,iD⟩:=id hit;have hsz:(gB w a aj aZ).size=aj.size:=by have:=(q1 w a aj aZ).length_eq;simpa using this
 unfold pyNext;refine aa5 (adD (acb (name:=Str.ofString "__next__") hit.typeIs ri
  (ab5 ri hit.typeIs Ep ?_ (Dk _))))
 unfold Builtin.«set_iterator.__next__»;refine aa5 (m:=slotArgs _ _ _) (aa7 ?_);refine aa5 (aex nz iD ?_);dsimp only;refine aa5 (aeo av O.data (Tab.fits O.tab) ?_);simp only[acX,aba,abw];simp only[Int.toNat_natCast];refine aa5 (I8 av O (abb _) ?_);rw[ada ⋯];simp only[Option.map_none];refine aa5 (ack nz iD (by simp) ?_);show wpAny _ _ (newExc (.type "StopIteration") []>>=_) _ _ _;refine aa5 ?_;simp only[newExc,newTuple];refine aa5 (abE ?_ (by size_fits));refine aa5 (m:=firstArgMember _ _) (aeZ (a:=Value.none) (by first|rfl|(simp only[firstArgMember];rfl)) ?_);refine abE ?_ (by size_fits);simp only[raiseNew];refine aa5 (wpAny_handled ?_);rw[show A.in1.handled=none from bZ];refine aa5 (aa7 (wpAny_throw ?_));refine aa5 (ad8 (T:="StopIteration") (b:=true) ⟨_,abf _ rfl,rfl⟩ isSubtype_stop ?_);exact aa7 (dh _ (((abZ ..).extBut.push _).push _))
def Sg{slot i n aZ:Nat}(hit:od s.heap it a slot i n aZ)(h:Q (.ref it) s):wpAny (model prog w) A (pyIter (.ref it)) Q E s:=by
 refine aeC hit.typeIs Jo (ab5 Jo hit.typeIs Oi ?_ (Lk _));show wpAny _ _ (ret (.ref it)) _ _ s;exact aa7 ⟨_,rfl,"set_iterator",_,hit.typeIs,ri.lookup,h⟩
def Sh(av:s.heap.get? a=some o)(O:om w o aj aZ t)(dh:Q (.ref s.heap.objs.size) { s with heap:=s.heap.push { cls:=.type "set_iterator",data:=.fields #[.int 0 0,.int 0 0,.ref a,.int aj.size 0,.int aZ 0] } }):wpAny (model prog w) A (pyIter (.ref a)) Q E s:=by
 have cu:s.TypeIs (.ref a) "set":=⟨o,av,O.ex.1⟩;refine aeC cu Jn (ab5 Jn cu Oh ?_ (Lj _));unfold Builtin.«frozenset.__iter__» Builtin.Frozenset.slot0 slotArgs;simp only[List.isEmpty_nil,acw,aba,↓reduceIte,bind_assoc,List.length_nil,acX];unfold Builtin.Frozenset.addrOf Builtin.Frozenset.sizeOf;simp only[pure_bind,bind_assoc];refine aa5 (aeo av O.data (Tab.fits O.tab) ?_);unfold setDrawn;simp only[bind_assoc];refine aa5 (ab9 av O.data (Tab.fits O.tab) ?_);unfold setsByText;simp only[bind_assoc];refine aa5 (adu ?_);simp only[pure_bind];have Ag:∀b:Bool,(!b&&(!t.plain&&decide (aj.size>1)))=false:=λb=>by rw[O.plain];simp
 show wpAny (model prog w) A.in1 (if (!(model prog w).w.params.followText "set-order"&&(!t.plain&&decide (aj.size>1)))=true then _ else _) _ _ s;rw[Ag];simp only[aba,abw,pure_bind];unfold setEpoch;simp only[bind_assoc,pure_bind];refine aa5 (ab9 av O.data (Tab.fits O.tab) ?_);dsimp only;refine aa5 (abE (aa7 ⟨_,rfl,"set_iterator",_,⟨_,abf _ rfl,rfl⟩,ri.lookup,?_⟩));exact dh
def Zs(bZ:A.handled=none)(dJ:a≠I)(O:om w o aj aZ t):
  Walks prog w A I [I,a] [I] aj.size (λi v=>∃x,(gB w a aj aZ)[i]?=some x/\v=x.2) (λi h=>od h I a (slotAt w t i) i aj.size aZ/\h.get? a=some o) where
 sub:=λb aa=>by simp at aa;simp[aa]
 frame:=λi h h' st aw=>⟨let ⟨bJ,e,r⟩:=st.1;⟨bJ,aw I (by simp) bJ e,r⟩,aw a (by simp) o st.2⟩
 item:=λi s Q E ai st dh=>by
  have hsz:(gB w a aj aZ).size=aj.size:=(by have:=(q1 w a aj aZ).length_eq;simpa using this);have ak:(gB w a aj aZ)[i]?=some (gB w a aj aZ)[i]:=abh ⋯;exact next_item st.2 O st.1 ak λh' bh dM=>dh _ h' s.toks ⟨_,ak,rfl⟩ ⟨bh,(dM.2 a dJ).trans st.2⟩ λb bJ aa e=>dM.extBut b bJ (λh=>aa (by simp[h])) e
 done:=λs Q E st dh=>next_end bZ st.2 O st.1 λh' he=>dh h' s.toks λb bJ aa e=>he b bJ (λh=>aa (by simp[h])) e
 self:=λi s Q E st dh=>Sg st.1 dh
def QM(cu:s.TypeIs (.ref r) "set")(h:Q false s):wpAny (model prog w) A (Builtin.List.listLengthHint (.ref r)) Q E s:=by
 unfold Builtin.List.listLengthHint;refine aa5 (aeQ cu PySem.F.slot_set_len.lookup ?_);generalize FO:("set.__len__":String)=RV
 wp_delta
 rw[show splitId RV=some ("set","__len__") from by subst FO;decide +kernel];subst FO;refine aa5 (ad8 (T:="set") (b:=true) cu (by rw[aew];kernel_rfl) ?_);refine wpAny_ite_split (λnq=>absurd nq ∅) (λ_=>?_);refine wpAny_ite_split (λ_=>?_) (λnq=>absurd (by decide +kernel) nq);refine aa5 (ac7 cu ?_);exact aa7 h
end
end Pv
end
section
namespace Pv
open PySem PySem.Spec PyProof.Rows PySem.W
section
def NF(ae:(d==sysModules)=false)(av:s.heap.get? d=some bb)(ak:bb.ExactDict)(hd:bb.data=.dict aj aZ)(dh:Q (.ref s.heap.objs.size) { s with heap:=s.heap.push { cls:=.type "dict_keyiterator",data:=.fields #[.ref d,.int 0 0,.int aj.size 0,.int aZ 0] } }):wpAny (model prog w) A (pyIter (.ref d)) Q E s:=by
 have cu:s.TypeIs (.ref d) "dict":=⟨bb,av,ak.1⟩;refine aeC cu F.slot_dict_iter (ab5 F.slot_dict_iter cu F.entry_dict_iter ?_ (F.args_dict_iter_1 _));unfold Builtin.«dict.__iter__»;refine aa5 ?_;unfold Builtin.Dict.dictSlotNone;refine aa5 (wpAny_notOrdered_dict cu ?_);show wpAny _ _ (pure (Value.ref d)) _ _ s;refine aa7 ?_;show wpAny _ _ (Builtin.Dict.showsAll d>>=_) _ _ s;unfold Builtin.Dict.showsAll;rw[if_neg (by rw[ae];exact acd)];refine aa5 (aa7 ?_);refine aa5 (aeD av hd ?_);refine aa5 (aeW av hd ?_);refine aa5 (abE (aa7 ⟨_,rfl,"dict_keyiterator",_,⟨_,abf _ rfl,rfl⟩,acn.lookup,?_⟩));simpa[rawInt] using dh
def NG(hit:s.heap.IsKeyIter it d i aj.size aZ)(td:s.heap.get? d=some bb)(sU:bb.data=.dict aj aZ)(bM:i<aj.size)(dh:∀h',h'.IsKeyIter it d (i+1) aj.size aZ->Heap.SameBut it s.heap h'->Q (some aj[i].key) { s with heap:=h' }):wpAny (model prog w) A (pyNext (.ref it)) Q E s:=by
 obtain⟨o,av,ag,hd⟩:=id hit;unfold pyNext;refine aa5 (adD (acb (name:=Str.ofString "__next__") hit.typeIs acn
  (ab5 acn hit.typeIs aek ?_ (ad9 _))))
 refine aa5 (aa7 ?_);refine aa5 ?_;refine aa5 ?_
 first|refine aa5 (acD hit.typeIs (aa7 ?_))|refine aa5 (acZ hit.typeIs (aa7 ?_))
 refine aa5 (aex av hd ?_);simp only[show Builtin.Dict_items.ownsTuple "dict_keyiterator"=false by decide,aba,abw];show wpAny _ _ (if (Value.ref d==Value.none)=true then _ else _) _ _ s;rw[if_neg (show ¬((Value.ref d==Value.none)=true) from acd)];refine aa5 (aa7 ?_);refine aa5 (aeD td sU ?_);rw[if_neg (by simp)];refine aa5 (aa7 ?_);refine aa5 (aeW td sU ?_);rw[if_neg (by simp)];refine aa7 ?_;simp only[show ¬((i:Int)<0) from by lia,abw,Int.toNat_natCast,abh bM];refine aa5 ?_
 first|refine aa5 (acD hit.typeIs (aa7 ?_))|refine aa5 (acZ hit.typeIs (aa7 ?_))
 refine aa5 (wpAny_isOneOf_keyiter hit.typeIs ?_);show wpAny _ _ (setField (.ref it) 1 (rawInt ((i:Int)+1))>>=_) _ _ s;refine aa5 (ack av hd (by simp) ?_);have FQ:(s.heap.update it (Obj.mapFields (·.setIfInBounds 1 (rawInt ((i:Int)+1))))).IsKeyIter it d (i+1) aj.size aZ :=
  ⟨_,abA _ av (adk (acB hd _)),(Obj.cls_mapFields ..).trans ag,by rw[acB hd];simp[rawInt]⟩
 refine aa5 (acf ?_);refine aa5 (wpAny_isOneOf_keyiter (s:={ s with heap:=s.heap.update it (Obj.mapFields (·.setIfInBounds 1 (rawInt ((i:Int)+1)))) }) FQ.typeIs ?_);show wpAny _ _ (pure aj[i].key) _ _ _;exact aa7 (aa7 ⟨_,rfl,aa7 (dh _ FQ (abZ ..))⟩)
def ND(bZ:A.handled=none)(hit:s.heap.IsKeyIter it d aj.size aj.size aZ)(td:s.heap.get? d=some bb)(sU:bb.data=.dict aj aZ)(dh:∀h',Heap.ExtBut it s.heap h'->Q none { s with heap:=h' }):wpAny (model prog w) A (pyNext (.ref it)) Q E s:=by
 obtain⟨o,av,ag,hd⟩:=id hit;unfold pyNext;refine aa5 (adD (acb (name:=Str.ofString "__next__") hit.typeIs acn
  (ab5 acn hit.typeIs aek ?_ (ad9 _))))
 refine aa5 (aa7 ?_);refine aa5 ?_;refine aa5 ?_
 first|refine aa5 (acD hit.typeIs (aa7 ?_))|refine aa5 (acZ hit.typeIs (aa7 ?_))
 refine aa5 (aex av hd ?_);simp only[show Builtin.Dict_items.ownsTuple "dict_keyiterator"=false by decide,aba,abw];show wpAny _ _ (if (Value.ref d==Value.none)=true then _ else _) _ _ s;rw[if_neg (show ¬((Value.ref d==Value.none)=true) from acd)];refine aa5 (aa7 ?_);refine aa5 (aeD td sU ?_);rw[if_neg (by simp)];refine aa5 (aa7 ?_);refine aa5 (aeW td sU ?_);rw[if_neg (by simp)];refine aa7 ?_;simp only[show ¬((aj.size:Int)<0) from by lia,abw,Int.toNat_natCast,ada (abb aj.size)];refine aa5 ?_
 first|refine aa5 (acD hit.typeIs (aa7 ?_))|refine aa5 (acZ hit.typeIs (aa7 ?_))
 show wpAny _ _ (setField (.ref it) 0 .none>>=_) _ _ s;refine aa5 (ack av hd (by simp) ?_);show wpAny _ _ (newExc (.type "StopIteration") []>>=_) _ _ _;refine aa5 ?_;simp only[newExc,newTuple];refine aa5 (abE ?_ (by size_fits));refine aa5 (m:=firstArgMember _ _) (aeZ (a:=Value.none) (by first|rfl|(simp only[firstArgMember];rfl)) ?_);refine abE ?_ (by size_fits);simp only[raiseNew];refine aa5 (wpAny_handled ?_);rw[show A.in1.handled=none from bZ];refine aa5 (aa7 (wpAny_throw ?_));refine aa5 (ad8 (T:="StopIteration") (b:=true) ⟨_,abf _ rfl,rfl⟩ isSubtype_stop ?_);exact aa7 (dh _ (((abZ ..).extBut.push _).push _))
end
section
end
end Pv
end
section
namespace Pv
open PySem PySem.Spec PyProof.Rows f5 PySem.SetTable
section
def MM (ax : s.heap.IsTuple l af.toArray)
    (h : Q af { s with heap := (s.heap.push (seqObj "list" #[] 0)).update s.heap.objs.size (Obj.mapSeq (· ++ af.toArray)) }) (hsz : af.length <= sizeLine) :
    wpAny (model prog w) A (collect (.ref l)) Q E s := by
  obtain ⟨o, av, ag, n, hd⟩ := id ax
  unfold collect
  refine aa5 (adT (ab4 entry_proto_collect' ?_))
  show wpAny _ _ (do again (.builtin "list.__iadd__" ⟨[<- newList [], .ref l], []⟩)) _ _ s
  refine aa5 (wpAny_newList (aa7 ⟨aev _ (by decide +kernel), ab4 entry_list_iadd' ?_⟩))
  show wpAny _ _ (Builtin.List.listExtendWith (.ref s.heap.objs.size) (.ref l) (.ref s.heap.objs.size)) _ _ { s with heap := s.heap.push (seqObj "list" #[] 0) }
  unfold Builtin.List.listExtendWith
  have d4 : (s.heap.push (seqObj "list" #[] 0)).get? l = some o := aa8 _ av
  refine aa5 (ac7 (T := "tuple") ⟨o, d4, ag⟩ ?_)
  have ay : (Value.type "tuple" == Value.type "tuple") = true := by rfl
  rw [if_pos (by rw [ay]; simp)]
  refine aa5 (listItems_at d4 hd ?_)
  refine aa5 (listItems_at (xs := #[]) (n := 0) (abf _ rfl) rfl ?_)
  rw [if_neg (by simp)]
  refine aa5 (listUpdate_at (xs := #[]) (n := 0) (abf _ rfl) rfl ?_ (abz _) (by show (#[] ++ af.toArray).size <= sizeLine + 1; simp only [aeA, abe, List.length_nil]; lia))
  refine aa7 ?_
  show wpAny (model prog w) A (do
      let o <- load s.heap.objs.size
      match o.data with
      | .seq xs _ => pure xs.toList
      | _ => unsupported "internal:collect") Q E { s with heap := (s.heap.push (seqObj "list" #[] 0)).update s.heap.objs.size (Obj.mapSeq (· ++ af.toArray)) }
  refine aa5 (wpAny_load (get?_update_seq (abf _ rfl) _) ?_)
  show wpAny _ _ (pure ((#[] : Array Value) ++ af.toArray).toList) Q E _
  rw [show ((#[] : Array Value) ++ af.toArray).toList = af by simp]
  exact aa7 h
def uN(s s':Shared):Prop:=(∀b o,s.heap.get? b=some o->s'.heap.get? b=some o)/\s'.gens=s.gens/\s'.drawn=s.drawn/\s'.os=s.os
def MK{n:Nat}(bZ:A.handled=none)(aV:IsRange s.heap r a b c t u v)(RA:Builtin.Range.small a b c=true)(az:Builtin.Range.rangeSize a b c=n)(hlen:n<=2 ^ 24)(dh:∀s' acc,uN s s'->ItemsOf (λi v=>∃t,v=.int (a+i*c) t) acc n->Q acc.toList s'):wpAny (model prog w) A (collect (.ref r)) Q E s:=by
 unfold collect;refine aa5 (adT (ab4 F.entry_proto_collect ?_));rw[acs F.plain_proto_collect _];show wpAny _ A.in1 (newList []>>=λl=>again (.builtin "list.__iadd__" ⟨[l,.ref r],[]⟩)) _ _ s;refine aa5 (abE ?_);refine aa7 ⟨aee adU _,ab4 F.entry_list_iadd ?_⟩;rw[acs adU _];show wpAny _ A.in1 (Builtin.List.listExtendWith (.ref s.heap.objs.size) (.ref r) (.ref s.heap.objs.size)) _ _ _;have a6:(s.heap.push { cls:=.type "list",data:=.seq ([]:List Value).toArray }).get? s.heap.objs.size=some { cls:=.type "list",data:=.seq ([]:List Value).toArray }:=abf _ rfl;refine wpAny_extend_range (A:=A) (R:=wants _ E) (s:={ s with heap:=s.heap.push { cls:=.type "list",data:=.seq ([]:List Value).toArray } }) bZ (aa8 _ aV) RA az hlen s.heap.objs.size (.ref s.heap.objs.size) 0 a6 λh' tk x8 cW aw kF iB=>?_
 show wpAny _ A (load s.heap.objs.size>>=_) _ _ _;refine aa5 (wpAny_load kF ?_);exact aa7 (dh _ x8 ⟨λb o e=>aw b o (abp (abd e)) (aa8 _ e),rfl,rfl,rfl⟩ iB)
def ML(bZ:A.handled=none)(av:s.heap.get? a=some o)(O:om w o aj aZ t)(az:aj.size<=sizeLine)(dh:∀s' acc,uN s s'->ItemsOf (λi v=>∃x,(gB w a aj aZ)[i]?=some x/\v=x.2) acc aj.size->Q acc.toList s'):wpAny (model prog w) A (collect (.ref a)) Q E s:=by
 have bM:a<s.heap.objs.size:=abd av;unfold collect;refine aa5 (adT (ab4 F.entry_proto_collect ?_));rw[acs F.plain_proto_collect _];show wpAny _ A.in1 (newList []>>=λl=>again (.builtin "list.__iadd__" ⟨[l,.ref a],[]⟩)) _ _ s;refine aa5 (abE ?_);refine aa7 ⟨aee adU _,ab4 F.entry_list_iadd ?_⟩;rw[acs adU _];show wpAny _ A.in1 (Builtin.List.listExtendWith (.ref s.heap.objs.size) (.ref a) (.ref s.heap.objs.size)) _ _ _;unfold Builtin.List.listExtendWith;have oZ:(s.heap.push { cls:=.type "list",data:=.seq ([]:List Value).toArray }).get? a=some o:=aa8 _ av;refine aa5 (ac7 (T:="set") ⟨o,oZ,O.ex.1⟩ ?_);have J:Builtin.List.listSameRef (.ref s.heap.objs.size) (.ref a)=false:=by
  have dJ:s.heap.objs.size≠a:=abW (abp bM);simp[Builtin.List.listSameRef,dJ]
 have h2:(Value.type "set"==Value.type "list")=false:=by decide
 have h3:(Value.type "set"==Value.type "tuple")=false:=by decide
 simp only[J,h2,h3,Bool.or_false,aba,abw];refine aa5 (Sh (s:={ s with heap:=s.heap.push { cls:=.type "list",data:=.seq ([]:List Value).toArray } }) oZ O ?_);generalize eH:s.heap.push { cls:=.type "list",data:=.seq ([]:List Value).toArray }=H at *;have z1:H.objs.size=s.heap.objs.size+1:=by rw[<- eH,Heap.size_push]
 have QZ:a<H.objs.size:=by rw[z1];exact Nat.lt_succ_of_lt bM
 refine aa5 (acf (QM ⟨o,aa8 _ oZ,O.ex.1⟩ ?_));rw[if_pos ∅];have dJ:a≠H.objs.size:=abp QZ;have Fz:s.heap.objs.size≠H.objs.size:=by rw[z1];exact abp (acN _)
 have FA:s.heap.objs.size≠a:=abW (abp bM);have qt:s.heap.objs.size∉[H.objs.size,a]:=λhm=>by
  rcases aa9.mp hm with e|e
  .exact Fz e
  .exact FA (abm.mp e)
 generalize vG:H.push { cls:=.type "set_iterator",data:=.fields #[.int 0 0,.int 0 0,.ref a,.int aj.size 0,.int aZ 0] }=dD;have a6:dD.get? s.heap.objs.size=some { cls:=.type "list",data:=.seq ([]:List Value).toArray }:=vG▸aa8 _ (eH▸abf _ rfl);have Rd:dD.get? a=some o:=vG▸aa8 _ oZ;have QE:dD.get? H.objs.size=some { cls:=.type "set_iterator",data:=.fields #[.int 0 0,.int 0 0,.ref a,.int aj.size 0,.int aZ 0] }:=vG▸abf _ rfl;have QC:A.in1.handled=none:=bZ;have st0:slotAt w t 0=0:=by unfold slotAt;split<;>rfl
 refine aa5 (ad7 ?_);refine aa5 ?_;show wpAny _ A.in1 (updateSeq s.heap.objs.size (·.push .none)>>=λ_=>updateSeq s.heap.objs.size (·.pop)) _ _ _;refine aa5 (aem a6 rfl ?_);have FD:=abA (Obj.mapSeq (·.push Value.none)) a6 rfl;refine aem FD rfl ?_;have Qn:=abA (Obj.mapSeq (·.pop)) FD rfl;have Bw:∀b bP,b≠s.heap.objs.size->dD.get? b=some bP->((dD.update s.heap.objs.size (Obj.mapSeq (·.push Value.none))).update s.heap.objs.size (Obj.mapSeq (·.pop))).get? b=some bP :=
  λb bP aa e=>(abu _ _ (abW aa)).trans ((abu _ _ (abW aa)).trans e)
 refine aa7 ⟨aee F.plain_extend_loop _,codeAny_extend_loopS (Zs (prog:=prog) (A:=A.in1) QC dJ O).toS az _ qt _ aj.size 0 _ _ _ rfl (abz _) ⟨⟨_,Bw _ _ (abW Fz) QE,rfl,by rw[st0];rfl⟩,Bw _ _ (abW FA) Rd⟩ Qn (ItemsOf.nil _) λs' x8 cW hm kF iB=>?_⟩;show wpAny _ A (load s.heap.objs.size>>=_) _ _ s';refine aa5 (wpAny_load kF ?_);refine aa7 (dh s' x8 ⟨λb bP e=>hm.heap b bP (λaa=>?_) (Bw b bP (abp (abd e)) (vG▸aa8 _ (eH▸aa8 _ e))),hm.gens,hm.drawn,hm.os⟩ iB);have vP:=abd e;rcases aa9.mp aa with h|h
 .rw[h]at vP;exact acv _ vP
 .rw[abm.mp h,z1]at vP;exact absurd vP (Nat.not_lt.mpr (Nat.le_succ _))
end
end Pv
end
section
namespace Tm
open PySem PyProof.Rows
section
variable{M:Model}{A:Around}{E:Value->Shared->Prop}{s:Shared}{left:Bool}{key:Keyed}{arr:Array Keyed}{b n h:Nat}{p:Nat->Bool}{st:SortSt}{Q:Option Nat->SortSt->Prop}
end
structure hB(M:Model)(A:Around)(E:Value->Shared->Prop)(s:Shared)(κ:SortKind)(S:Keyed->Prop)(lt:Keyed->Keyed->Bool):Prop where
 ask:∀(x y:Keyed)(st:SortSt)(Q:Option Bool->SortSt->Prop),S x->S y->kindOf st=κ->Q (some (lt x y)) st->wpS M A E s (lt' x y) Q st
 ow:∀x y,S x->S y->lt x y=true->lt y x=false
 fL:∀x y z,S x->S y->S z->lt y x=false->lt z y=false->lt z x=false
abbrev le(lt:Keyed->Keyed->Bool)(x y:Keyed):Prop:=lt y x=false
section
variable{M:Model}{A:Around}{E:Value->Shared->Prop}{s:Shared}{κ:SortKind}{S:Keyed->Prop}{lt:Keyed->Keyed->Bool}{a b:Array Keyed}{st bh:SortSt}
def Eo(h:i<a.size)(q:Q a[i] st):wpS M A E s (elem' a i) Q st:=by
 rw[elem'_eq,abh h];exact acu q
def p0(lt:Keyed->Keyed->Bool)(a:Array Keyed)(i n:Nat):Prop:=∀x y (ak:x<a.size) (aN:y<a.size),i<=x->x<=y->y<i+n->le lt a[x] a[y]
end
structure ZN(lt:Keyed->Keyed->Bool)(a b r:List Keyed)(i j:Nat):Prop where
 perm:(r++(a.drop i++b.drop j)).Perm (a++b)
 cy:(r++a.drop i).Pairwise (le lt)
 eD:(r++b.drop j).Pairwise (le lt)
section
end
section
variable{M:Model}{A:Around}{E:Value->Shared->Prop}{s:Shared}{κ:SortKind}{S:Keyed->Prop}{lt:Keyed->Keyed->Bool}{a b r:Array Keyed}{st0 st:SortSt}{i j aS ca DL N:Nat}
structure Pre(S:Keyed->Prop)(lt:Keyed->Keyed->Bool)(a b:Array Keyed):Prop where
 uf:∀x (ak:x<a.size),S a[x]
 dM:∀x (ak:x<b.size),S b[x]
 T9:p0 lt a 0 a.size
 bP:p0 lt b 0 b.size
 last:∀y∈b.toList,∀x,a.toList[a.toList.length-1]?=some x->le lt y x
end
section
def lj{A:Around}{s:Shared}{st:SortSt}{α:Type}{c:Prop}[Decidable c]{t e:StateT SortSt Sem α}{Q:α->SortSt->Prop}(J:c->wpS M A E s t Q st)(h2:¬c->wpS M A E s e Q st):wpS M A E s (if c then t else e) Q st:=by
 by_cases h:c
 .rw[if_pos h];exact J h
 .rw[if_neg h];exact h2 h
def XH(h:p0 lt a 0 a.size):a.toList.Pairwise (le lt):=by
 rw[acR];intro x y ak aN tm;rw[Array.length_toList]at ak aN;exact h x y ak aN (abz _) (adp tm) ⋯
end
structure ZM(lt:Keyed->Keyed->Bool)(a b t:List Keyed)(i j:Nat):Prop where
 perm:(a.take i++b.take j++t).Perm (a++b)
 dt:(a.take i++t).Pairwise (le lt)
 du:(b.take j++t).Pairwise (le lt)
section
end
section
variable{M:Model}{A:Around}{E:Value->Shared->Prop}{s:Shared}{κ:SortKind}{S:Keyed->Prop}{lt:Keyed->Keyed->Bool}{a b r:Array Keyed}{st0 st:SortSt}{i j aS ca DL N:Nat}
structure ZT(S:Keyed->Prop)(lt:Keyed->Keyed->Bool)(a b:Array Keyed):Prop where
 uf:∀x (ak:x<a.size),S a[x]
 dM:∀x (ak:x<b.size),S b[x]
 T9:p0 lt a 0 a.size
 bP:p0 lt b 0 b.size
 first:∀x∈b.toList.take 1,∀y∈a.toList,le lt x y
end
section
variable{M:Model}{A:Around}{E:Value->Shared->Prop}{s:Shared}{κ:SortKind}{S:Keyed->Prop}{lt:Keyed->Keyed->Bool}{a b r:Array Keyed}{st0 st:SortSt}{i j aS ca DL N:Nat}
end
section
def hB.gf(O:hB M A E s κ S lt)(h:S x):lt x x=false:=by
 cases e:lt x x with
 |false=>rfl
 |true=>exact(O.ow x x h h e▸e).symm▸rfl
end
noncomputable abbrev at_(c:Array Keyed)(x:Nat):Keyed:=c.getD x (Value.none,Value.none)
def rV(h:x<c.size):at_ c x=c[x]:=by
 show c.getD x _=_;unfold Array.getD;rw[dif_pos h];rfl
def p9(h:c[x]?=d[y]?):at_ c x=at_ d y:=by
 show c.getD x _=d.getD y _;rw[ab8,ab8,h]
def jR(aF:j<=c.size)(k):at_ (mirror c i j ((j-i) / 2)) k=if i<=k/\k<j then at_ c (i+j-1-k) else at_ c k:=by
 have h:=getElem?_mirror (i:=i) aF ((j-i) / 2) ⋯ k
 by_cases cR:(i<=k/\k<i+(j-i) / 2)\/(j-(j-i) / 2<=k/\k<j)
 .rw[if_pos cR]at h;rw[if_pos ⋯];exact p9 h
 .rw[if_neg cR]at h
  by_cases b4:i<=k/\k<j
  .rw[if_pos b4];have:i+j-1-k=k:=⋯;rw[this];exact p9 h
  .rw[if_neg b4];exact p9 h
def yh(aw:k<c.size)(hd:d<=k)(x):at_ (bubble c k d) x=if x=k-d then at_ c k else if k-d<x/\x<=k then at_ c (x-1) else at_ c x:=by
 have h:=getElem?_bubble aw d hd x
 by_cases cR:x=k-d
 .rw[if_pos cR]at h ⊢;exact p9 h
 .rw[if_neg cR]at h ⊢
  by_cases b4:k-d<x/\x<=k
  .rw[if_pos b4]at h ⊢;exact p9 h
  .rw[if_neg b4]at h ⊢;exact p9 h
def fh(lt:Keyed->Keyed->Bool)(c:Array Keyed)(l n:Nat):Prop:=∀x y,l<=x->x<=y->y<l+n->le lt (at_ c x) (at_ c y)
def Dec(lt:Keyed->Keyed->Bool)(c:Array Keyed)(l n:Nat):Prop:=∀x y,l<=x->x<=y->y<l+n->le lt (at_ c y) (at_ c x)
structure d9(c d:Array Keyed)(l h:Nat):Prop where
 size:d.size=c.size
 perm:d.toList.Perm c.toList
 out:∀k,(k<l\/h<=k)->at_ d k=at_ c k
theorem d9.refl(c)(l h):d9 c c l h:=⟨rfl,.refl _,λ_ _=>rfl⟩
theorem d9.trans(x:d9 c d l h)(y:d9 d e l h):d9 c e l h:=⟨y.size.trans x.size,y.perm.trans x.perm,λk q=>(y.out k q).trans (x.out k q)⟩
def d9.mono(x:d9 c d l h)(a:gA<=l)(b:h<=h'):d9 c d gA h':=⟨x.size,x.perm,λk q=>x.out k ⋯⟩
def d9.rev(aF:j<=c.size):d9 c (mirror c i j ((j-i) / 2)) i j :=
 ⟨mirror_size ..,Array.perm_iff_toList_perm.mp (mirror_perm ..),λk q=>by rw[jR aF,if_neg ⋯]⟩
def d9.L1(aw:k<c.size)(hd:d<=k):d9 c (bubble c k d) (k-d) (k+1) :=
 ⟨bubble_size ..,Array.perm_iff_toList_perm.mp (bubble_perm ..),λx q=>by rw[yh aw hd,if_neg ⋯,if_neg ⋯]⟩
section
variable{M:Model}{A:Around}{E:Value->Shared->Prop}{s:Shared}{κ:SortKind}{S:Keyed->Prop}{lt:Keyed->Keyed->Bool}{st bh:SortSt}{c d:Array Keyed}{l h n:Nat}
abbrev fO(S:Keyed->Prop)(c:Array Keyed):Prop:=∀x∈c.toList,S x
theorem fO.at_(h:fO S c){x:Nat}(ak:x<c.size):S (at_ c x):=by rw[rV ak];exact h _ (by simp)
def fO.perm(h:fO S c)(p:d.toList.Perm c.toList):fO S d:=λx ak=>h x (p.mem_iff.mp ak)
def rU(O:hB M A E s κ S lt)(aw:kindOf st=κ)(a6:fO S (arrOf st))(ai:i<(arrOf st).size)(aF:j<(arrOf st).size)(q:Q (some (lt (at_ (arrOf st) i) (at_ (arrOf st) j))) st):wpS M A E s (ltAt' i j) Q st:=by
 rw[ltAt'_eq];refine abQ (wpS_get ?_);show wpS _ _ _ _ (do let x <- elem' (arrOf st) i;let y <- elem' (arrOf st) j;lt' x y) Q st;refine abQ (Eo ai (abQ (Eo aF ?_)));rw[rV ai,rV aF]at q;exact O.ask _ _ _ _ (a6 _ (by simp)) (a6 _ (by simp)) aw q
def fh.snoc(O:hB M A E s κ S lt)(a6:fO S c)(az:l+n<c.size)(h0:0<n)(h:fh lt c l n)(q:le lt (at_ c (l+n-1)) (at_ c (l+n))):fh lt c l (n+1):=by
 intro x y J h2 h3
 by_cases e:y=l+n
 .subst e
  by_cases e2:x=l+n
  .subst e2;exact O.gf (a6.at_ az)
  .exact O.fL _ _ _ (a6.at_ ⋯) (a6.at_ ⋯) (a6.at_ az) (h x (l+n-1) J ⋯ ⋯) q
 .exact h x y J h2 ⋯
def Dec.snoc(O:hB M A E s κ S lt)(a6:fO S c)(az:l+n<c.size)(h0:0<n)(h:Dec lt c l n)(q:le lt (at_ c (l+n)) (at_ c (l+n-1))):Dec lt c l (n+1):=by
 intro x y J h2 h3
 by_cases e:y=l+n
 .subst e
  by_cases e2:x=l+n
  .subst e2;exact O.gf (a6.at_ az)
  .exact O.fL _ _ _ (a6.at_ az) (a6.at_ ⋯) (a6.at_ ⋯) q (h x (l+n-1) J ⋯ ⋯)
 .exact h x y J h2 ⋯
def fh.one(O:hB M A E s κ S lt)(a6:fO S c)(az:l<c.size):fh lt c l 1:=λx y J h2 h3=>by
 obtain rfl:x=l:=by lia
 obtain rfl:y=x:=by lia
 exact O.gf (a6.at_ az)
def Dec.rev(h:Dec lt c l n)(az:l+n<=c.size):fh lt (mirror c l (l+n) ((l+n-l) / 2)) l n:=by
 intro x y J h2 h3;rw[jR az,jR az,if_pos ⋯,if_pos ⋯];exact h _ _ ⋯ ⋯ ⋯
def fh.cF(h:fh lt c l n):p0 lt c l n:=λx y ak aN J h2 h3=>by
 have:=h x y J h2 h3;rw[rV ak,rV aN]at this;exact this
end
noncomputable def iM(l z jB:Nat):StateT SortSt Sem (Option Nat):=do
 reverseSlice' l (l+jB)
 let mut n:=jB
 for _ in [n:z] do
  let some q <- ltAt' (l+n) (l+n-1)|return none
  if q then break
  n:=n+1
 return some n
noncomputable def m1(l z jB:Nat):StateT SortSt Sem (Option Nat):=do
 rule "list.sort.descending-run"
 let mut n:=jB+1
 let mut e:=0
 for _ in [n:z] do
  let some q <- ltAt' (l+n) (l+n-1)|return none
  if q then
   if e>0 then reverseSlice' (l+n-(e+1)) (l+n)
   e:=0
  else
   let some g <- ltAt' (l+n-1) (l+n)|return none
   if g then break
   e:=e+1
  n:=n+1
 if e>0 then reverseSlice' (l+n-(e+1)) (l+n)
 iM l z n
def MU(l z:Nat):countRun' l z=(do
 let mut n:=1
 for _ in [1:z] do
  let some q <- ltAt' (l+n) (l+n-1)|return none
  if q then break
  n:=n+1
 if n==z then return some n
 if n>1 then
  let some g <- ltAt' l (l+n-1)|return none
  if g then return some n
  reverseSlice' l (l+n)
 m1 l z n):=by
 rw[countRun'_eq];unfold m1 iM;rfl
def kn(st bh:SortSt):Prop:=kindOf bh=kindOf st/\pendingOf bh=pendingOf st/\failedOf bh=failedOf st
section
variable{M:Model}{A:Around}{E:Value->Shared->Prop}{s:Shared}{κ:SortKind}{S:Keyed->Prop}{lt:Keyed->Keyed->Bool}{st st0:SortSt}{l z n jB:Nat}
def rL(lt:Keyed->Keyed->Bool)(l z:Nat)(st0:SortSt)(o:Option Nat)(bh:SortSt):Prop:=∃m,o=some m/\1<=m/\m<=z/\kn st0 bh/\d9 (arrOf st0) (arrOf bh) l (l+z)/\fh lt (arrOf bh) l m
def Dt(O:hB M A E s κ S lt)(aw:kindOf st=κ)(a6:fO S (arrOf st))(hz:l+z<=(arrOf st).size)(J:1<=jB)(az:jB<=z)(h:fh lt (arrOf st) l jB){Q:Option (Option Nat)×Nat->SortSt->Prop}(aE:∀n,jB<=n->n<=z->fh lt (arrOf st) l n->(n=z\/lt (at_ (arrOf st) (l+n)) (at_ (arrOf st) (l+n-1))=true)->Q (none,n) st):wpS M A E s (forIn [jB:z] ((none:Option (Option Nat)),jB) λx __s=>do
   let __x <- ltAt' (l+__s.snd) (l+__s.snd-1)
   match __x with
    |some q=>if q=true then pure (ForInStep.done (none,__s.snd)) else pure (ForInStep.yield (none,__s.snd+1))
    |x=>pure (ForInStep.done (some none,__s.snd))) Q st:=by
 refine adV (I:=λx (c:Option (Option Nat)×Nat) bh=>bh=st/\c.1=none/\c.2=x/\jB<=x/\x<=z/\fh lt (arrOf st) l x) ?step ?fin ⟨rfl,rfl,rfl,abb _,az,h⟩
 case fin =>
  rintro⟨o,n⟩ bh ⟨rfl,rfl,rfl,k1,k2,k3⟩;rw[aea az]at k3 ⊢;exact aE z az (abb _) k3 (.inl rfl)
 case step =>
  rintro x ⟨o,n⟩ bh _ ak ⟨rfl,rfl,e,k1,k2,k3⟩;dsimp only at e ⊢;subst e;refine abQ (rU O aw a6 ⋯ ⋯ ?_);cases e:lt (at_ (arrOf bh) (l+n)) (at_ (arrOf bh) (l+n-1)) with
  |true=>dsimp only;rw[if_pos rfl];exact acu (aE n k1 k2 k3 (.inr e))
  |false=>dsimp only;rw[if_neg (by simp)];exact acu ⟨rfl,rfl,rfl,⋯,⋯,k3.snoc O a6 ⋯ ⋯ e⟩
def J1(O:hB M A E s κ S lt)(oY:kindOf st0=κ)(hS0:fO S (arrOf st0))(ae:kn st0 st)(au:d9 (arrOf st0) (arrOf st) l (l+z))(hz:l+z<=(arrOf st0).size)(J:1<=n)(az:n<=z)(h:Dec lt (arrOf st) l n):wpS M A E s (iM l z n) (rL lt l z st0) st:=by
 unfold iM;rw[aeb];refine abQ (aec ?_);have j0:l+z<=(arrOf st).size:=by rw[au.size];exact hz
 generalize e1:setArr st (mirror (arrOf st) l (l+n) ((l+n-l) / 2))=dW;have a1:arrOf dW=mirror (arrOf st) l (l+n) ((l+n-l) / 2):=by rw[<- e1]
 have s1:kn st0 dW:=by rw[<- e1];exact ae
 have p1:d9 (arrOf st0) (arrOf dW) l (l+z):=by rw[a1];exact au.trans ((d9.rev ⋯).mono (abb _) ⋯)
 have eR:fh lt (arrOf dW) l n:=by rw[a1];exact h.rev ⋯
 refine abQ (Dt O (s1.1.trans oY) (hS0.perm p1.perm) (by rw[p1.size];exact hz) J az eR λm k1 k2 k3 _=>?_);exact acu ⟨m,rfl,⋯,k2,s1,p1,k3⟩
def LW(O:hB M A E s κ S lt)(a6:fO S c)(az:l+n<=c.size)(he:e+1<=n)(h:Dec lt c l n)(aa:∀x y,l+n-(e+1)<=x->x<l+n->l+n-(e+1)<=y->y<l+n->le lt (at_ c x) (at_ c y)):
  Dec lt (mirror c (l+n-(e+1)) (l+n) ((l+n-(l+n-(e+1))) / 2)) l n:=by
 intro x y J h2 h3;rw[jR az,jR az]
 by_cases zk:l+n-(e+1)<=x
 .rw[if_pos ⋯,if_pos ⋯];exact aa _ _ ⋯ ⋯ ⋯ ⋯
 .rw[if_neg (show ¬(l+n-(e+1)<=x/\x<l+n) by lia)]
  by_cases vb:l+n-(e+1)<=y
  .rw[if_pos ⋯];exact h _ _ J ⋯ ⋯
  .rw[if_neg ⋯];exact h _ _ J h2 h3
structure mC(lt:Keyed->Keyed->Bool)(S:Keyed->Prop)(l z:Nat)(st0 st:SortSt)(n e:Nat):Prop where
 ss:kn st0 st
 fe:d9 (arrOf st0) (arrOf st) l (l+z)
 dec:Dec lt (arrOf st) l n
 len:e+1<=n
 wJ:n<=z
 eq:∀x y,l+n-(e+1)<=x->x<l+n->l+n-(e+1)<=y->y<l+n->le lt (at_ (arrOf st) x) (at_ (arrOf st) y)
def mC.turn(O:hB M A E s κ S lt)(hS0:fO S (arrOf st0))(hz:l+z<=(arrOf st0).size)(h:mC lt S l z st0 st n e):mC lt S l z st0 (setArr st (mirror (arrOf st) (l+n-(e+1)) (l+n) ((l+n-(l+n-(e+1))) / 2))) n 0:=by
 have J:=h.len;have h2:=h.wJ;have j0:l+n<=(arrOf st).size:=by rw[h.fe.size];lia
 refine⟨h.ss,h.fe.trans ((d9.rev j0).mono ⋯ ⋯),LW O (hS0.perm h.fe.perm) j0 J h.dec h.eq,⋯,h.wJ,λx y k1 k2 k3 b6=>?_⟩;have ex:x=l+n-1:=by lia
 have f9:y=l+n-1:=by lia
 subst ex f9;have fe:d9 (arrOf st0) (mirror (arrOf st) (l+n-(e+1)) (l+n) ((l+n-(l+n-(e+1))) / 2)) l (l+z):=h.fe.trans ((d9.rev j0).mono ⋯ ⋯);exact O.gf ((hS0.perm fe.perm).at_ (by rw[fe.size];lia))
def Ei(O:hB M A E s κ S lt)(oY:kindOf st0=κ)(hS0:fO S (arrOf st0))(ae:kn st0 st)(au:d9 (arrOf st0) (arrOf st) l (l+z))(hz:l+z<=(arrOf st0).size)(az:n<z)(h:Dec lt (arrOf st) l (n+1)):wpS M A E s (m1 l z n) (rL lt l z st0) st:=by
 unfold m1;refine abQ (wpS_lift (ad7 ⟨rfl,?_⟩));have jW:mC lt S l z st0 st (n+1) 0:=by
  refine⟨ae,au,h,⋯,az,λx y k1 k2 k3 b6=>?_⟩;have ex:x=l+n:=⋯;have f9:y=l+n:=⋯;subst ex f9;exact O.gf ((hS0.perm au.perm).at_ (by rw[au.size];lia))
 refine abQ (wpS_mono (adV (I:=λx (c:Option (Option Nat)×Nat×Nat) bh=>c.1=none/\c.2.1=x/\mC lt S l z st0 bh x c.2.2) (Q:=λ(c:Option (Option Nat)×Nat×Nat) bh=>c.1=none/\mC lt S l z st0 bh c.2.1 c.2.2) ?step ?fin ⟨rfl,rfl,jW⟩) ?post)
 case fin =>
  rintro⟨o,b7,e⟩ bh ⟨rfl,rfl,D⟩;exact⟨rfl,D⟩
 case post =>
  rintro⟨o,b7,e⟩ bh ⟨rfl,D⟩;dsimp only at D ⊢;refine lj (λ_=>?_) λ_=>?_
  .rw[aeb];have jM:=D.turn O hS0 hz;exact abQ (aec (J1 O oY hS0 jM.ss jM.fe hz (by have:=jM.len;lia) jM.wJ jM.dec))
  .exact J1 O oY hS0 D.ss D.fe hz (by have:=D.len;lia) D.wJ D.dec
 case step =>
  rintro x ⟨o,b7,e⟩ dW Ga ak ⟨rfl,e1,D⟩;dsimp only at e1 D ⊢;subst e1;have J:=D.len;have j0:l+z<=(arrOf dW).size:=(by rw[D.fe.size];exact hz);have eA:=hS0.perm D.fe.perm;have jt:=D.ss.1.trans oY;refine abQ (rU O jt eA ⋯ ⋯ ?_);cases e2:lt (at_ (arrOf dW) (l+b7)) (at_ (arrOf dW) (l+b7-1)) with
  |true =>
   dsimp only;rw[if_pos rfl];have next:∀hs,mC lt S l z st0 hs b7 0->le lt (at_ (arrOf hs) (l+b7)) (at_ (arrOf hs) (l+b7-1))->mC lt S l z st0 hs (b7+1) 0:=λhs jM q=>by
    have Gb:l+z<=(arrOf hs).size:=(by rw[jM.fe.size];exact hz);have Fy:=hS0.perm jM.fe.perm;refine⟨jM.ss,jM.fe,jM.dec.snoc O Fy ⋯ ⋯ q,⋯,⋯,λx y k1 k2 k3 b6=>?_⟩;have ex:x=l+b7:=⋯;have f9:y=l+b7:=⋯;subst ex f9;exact O.gf (Fy.at_ ⋯)
   have q5:=O.ow _ _ (eA.at_ ⋯) (eA.at_ ⋯) e2;refine lj (λc=>?_) λc=>?_
   .rw[aeb];refine abQ (aec (acu ⟨rfl,rfl,next _ (D.turn O hS0 hz) ?_⟩));show le lt (at_ (mirror (arrOf dW) (l+b7-(e+1)) (l+b7) ((l+b7-(l+b7-(e+1))) / 2)) (l+b7)) (at_ (mirror (arrOf dW) (l+b7-(e+1)) (l+b7) ((l+b7-(l+b7-(e+1))) / 2)) (l+b7-1));rw[jR ⋯,jR ⋯,if_neg ⋯,if_pos ⋯];exact O.fL _ _ _ (eA.at_ ⋯) (eA.at_ ⋯) (eA.at_ ⋯) q5 (D.eq _ _ ⋯ ⋯ ⋯ ⋯)
   .have e0:e=0:=⋯;subst e0;exact acu ⟨rfl,rfl,next dW D q5⟩
  |false =>
   dsimp only;rw[if_neg (by simp)];refine abQ (rU O jt eA ⋯ ⋯ ?_);cases e3:lt (at_ (arrOf dW) (l+b7-1)) (at_ (arrOf dW) (l+b7)) with
   |true=>dsimp only;rw[if_pos rfl];exact acu ⟨rfl,D⟩
   |false =>
    dsimp only;rw[if_neg (by simp)];refine acu ⟨rfl,rfl,D.ss,D.fe,D.dec.snoc O eA ⋯ ⋯ e3,by show e+1+1<=b7+1;lia,⋯,λx y k1 k2 k3 b6=>?_⟩;have k1:l+(b7+1)-(e+1+1)<=x:=k1;have k3:l+(b7+1)-(e+1+1)<=y:=k3;have tt:∀u,l+b7-(e+1)<=u->u<l+b7->le lt (at_ (arrOf dW) u) (at_ (arrOf dW) (l+b7))/\le lt (at_ (arrOf dW) (l+b7)) (at_ (arrOf dW) u):=λu fB hu =>
     ⟨O.fL _ _ _ (eA.at_ ⋯) (eA.at_ ⋯) (eA.at_ ⋯) (D.eq u (l+b7-1) fB hu ⋯ ⋯) e2,O.fL _ _ _ (eA.at_ ⋯) (eA.at_ ⋯) (eA.at_ ⋯) e3 (D.eq (l+b7-1) u ⋯ ⋯ fB hu)⟩
    by_cases zk:x=l+b7
    .by_cases vb:y=l+b7
     .subst zk vb;exact O.gf (eA.at_ ⋯)
     .subst zk;exact(tt y ⋯ ⋯).2
    .by_cases vb:y=l+b7
     .subst vb;exact(tt x ⋯ ⋯).1
     .exact D.eq x y ⋯ ⋯ ⋯ ⋯
def MV(O:hB M A E s κ S lt)(aw:kindOf st=κ)(a6:fO S (arrOf st))(hz:l+z<=(arrOf st).size)(J:1<=z):wpS M A E s (countRun' l z) (rL lt l z st) st:=by
 rw[MU];refine abQ (Dt O aw a6 hz (abb 1) J (fh.one O a6 ⋯) λn k1 k2 k3 b6=>?_);dsimp only;refine lj (λc=>?_) λc=>?_
 .exact acu ⟨n,rfl,k1,k2,⟨rfl,rfl,rfl⟩,.refl ..,k3⟩
 .have c:¬n=z:=(by simpa using c);have q:=O.ow _ _ (a6.at_ ⋯) (a6.at_ ⋯) (b6.resolve_left c);refine lj (λb4=>?_) λb4=>?_
  .refine abQ (rU O aw a6 ⋯ ⋯ ?_);cases e:lt (at_ (arrOf st) l) (at_ (arrOf st) (l+n-1)) with
   |true=>dsimp only;rw[if_pos rfl];exact acu ⟨n,rfl,k1,k2,⟨rfl,rfl,rfl⟩,.refl ..,k3⟩
   |false =>
    dsimp only;rw[if_neg (by simp),aeb];refine abQ (aec ?_);have j0:l+n<=(arrOf st).size:=⋯;have fe:d9 (arrOf st) (mirror (arrOf st) l (l+n) ((l+n-l) / 2)) l (l+z):=(d9.rev j0).mono (abb _) ⋯;have De:∀x y,l<=x->x<l+n->l<=y->y<l+n->le lt (at_ (arrOf st) x) (at_ (arrOf st) y):=λx y fB hu mm Za =>
     O.fL _ _ _ (a6.at_ ⋯) (a6.at_ ⋯) (a6.at_ ⋯) (k3 x (l+n-1) fB ⋯ ⋯)
      (O.fL _ _ _ (a6.at_ ⋯) (a6.at_ ⋯) (a6.at_ ⋯) e (k3 l y (abb _) mm Za))
    refine Ei (st0:=st) O aw a6 ⟨rfl,rfl,rfl⟩ fe hz ⋯ ?_;show Dec lt (mirror (arrOf st) l (l+n) ((l+n-l) / 2)) l (n+1);have jW:Dec lt (mirror (arrOf st) l (l+n) ((l+n-l) / 2)) l n:=λx y fB hu mm=>by
     rw[jR j0,jR j0,if_pos ⋯,if_pos ⋯];exact De _ _ ⋯ ⋯ ⋯ ⋯
    refine jW.snoc O (a6.perm fe.perm) (by rw[fe.size];lia) ⋯ ?_;rw[jR j0,jR j0,if_neg ⋯,if_pos ⋯];exact O.fL _ _ _ (a6.at_ ⋯) (a6.at_ ⋯) (a6.at_ ⋯) q (De _ _ ⋯ ⋯ ⋯ ⋯)
  .have eS:n=1:=⋯;subst eS;refine Ei (st0:=st) O aw a6 ⟨rfl,rfl,rfl⟩ (.refl ..) hz ⋯ ?_;have jW:Dec lt (arrOf st) l 1:=λx y fB hu mm=>by
    obtain rfl:x=l:=⋯;obtain rfl:y=x:=⋯;exact O.gf (a6.at_ ⋯)
   exact jW.snoc O a6 ⋯ ⋯ q
end
section
def L2(O:hB M A E s κ S lt)(a6:fO S c)(aw:l+k<c.size)(au:p<=k)(h:fh lt c l k)(J:∀x,x<p->le lt (at_ c (l+x)) (at_ c (l+k)))(h2:∀x,p<=x->x<k->le lt (at_ c (l+k)) (at_ c (l+x))):fh lt (bubble c (l+k) (k-p)) l (k+1):=by
 intro x y fB hu mm;have e:l+k-(k-p)=l+p:=by lia
 rw[yh aw ⋯,yh aw ⋯,e];have g1:∀u,l<=u->u<l+p->le lt (at_ c u) (at_ c (l+k)):=λu a b=>by have:=J (u-l) ⋯;rwa[show l+(u-l)=u by lia]at this
 have g2:∀u,l+p<=u->u<l+k->le lt (at_ c (l+k)) (at_ c u):=λu a b=>by have:=h2 (u-l) ⋯ ⋯;rwa[show l+(u-l)=u by lia]at this
 by_cases a:x=l+p
 .rw[if_pos a]
  by_cases b:y=l+p
  .rw[if_pos b];exact O.gf (a6.at_ aw)
  .rw[if_neg b,if_pos ⋯];exact g2 _ ⋯ ⋯
 .rw[if_neg a]
  by_cases a2:l+p<x
  .rw[if_pos ⋯,if_neg ⋯,if_pos ⋯];exact h _ _ ⋯ ⋯ ⋯
  .rw[if_neg ⋯]
   by_cases b:y=l+p
   .rw[if_pos b];exact g1 _ fB ⋯
   .rw[if_neg b]
    by_cases b2:l+p<y
    .rw[if_pos ⋯];exact h _ _ fB ⋯ ⋯
    .rw[if_neg ⋯];exact h _ _ fB hu ⋯
def L0{A:Around}{s:Shared}{S:Keyed->Prop}{st:SortSt}(O:hB M A E s κ S lt)(oY:kindOf st=κ)(hS0:fO S (arrOf st))(hz:l+n<=(arrOf st).size)(J:1<=ok)(az:ok<=n)(h:fh lt (arrOf st) l ok)(aE:∀bh,kn st bh->d9 (arrOf st) (arrOf bh) l (l+n)->fh lt (arrOf bh) l n->Q true bh):wpS M A E s (binarySort' l n ok) Q st:=by
 rw[binarySort'_eq];rw[Nat.max_eq_left J];refine abQ (wpS_mono (adV (I:=λk (c:Option Bool×Unit) bh=>c=(none,())/\k<=n/\kn st bh/\d9 (arrOf st) (arrOf bh) l (l+n)/\fh lt (arrOf bh) l k)
  (Q:=λ(c:Option Bool×Unit) bh=>c=(none,())/\kn st bh/\d9 (arrOf st) (arrOf bh) l (l+n)/\fh lt (arrOf bh) l n) ?step ?fin ⟨rfl,az,⟨rfl,rfl,rfl⟩,.refl ..,h⟩) ?post)
 case fin =>
  rintro c bh ⟨rfl,k1,k2,k3,b6⟩;rw[aea az]at b6;exact⟨rfl,k2,k3,b6⟩
 case post =>
  rintro c bh ⟨rfl,k2,k3,b6⟩;exact acu (aE bh k2 k3 b6)
 case step =>
  rintro k c dW jt As ⟨rfl,aM,a7,bU,cO⟩;have aaw:l+n<=(arrOf dW).size:=(by rw[bU.size];exact hz);have eA:=hS0.perm bU.perm;have d5:=a7.1.trans oY;refine abQ (wpS_mono (adV (I:=λx (c:Option Bool×Nat×Nat) bh=>bh=dW/\c.1=none/\c.2.1<=c.2.2/\c.2.2<=k/\(∀x,x<c.2.1->le lt (at_ (arrOf dW) (l+x)) (at_ (arrOf dW) (l+k)))/\(∀x,c.2.2<=x->x<k->le lt (at_ (arrOf dW) (l+k)) (at_ (arrOf dW) (l+x)))/\c.2.2-c.2.1+x<=k)
   (Q:=λ(c:Option Bool×Nat×Nat) bh=>bh=dW/\c.1=none/\c.2.1<=k/\(∀x,x<c.2.1->le lt (at_ (arrOf dW) (l+x)) (at_ (arrOf dW) (l+k)))/\∀x,c.2.1<=x->x<k->le lt (at_ (arrOf dW) (l+k)) (at_ (arrOf dW) (l+x))) ?step2 ?fin2
   ⟨rfl,rfl,abz _,abb _,λx ak=>absurd ak (Nat.not_lt_zero _),λx fB hu=>absurd hu (by dsimp only at fB;lia),by show k-0+0<=k;lia⟩) ?post2)
  case fin2 =>
   rintro⟨o,a,b⟩ bh ⟨rfl,rfl,aH,aX,eJ,ip,jC⟩;dsimp only at aH aX eJ ip jC;rw[aea (abz _)]at jC;have e:a=b:=⋯;subst e;exact⟨rfl,rfl,aX,eJ,ip⟩
  case step2 =>
   rintro x ⟨o,a,b⟩ bh _ ak ⟨rfl,rfl,aH,aX,eJ,ip,jC⟩;dsimp only at aH aX eJ ip jC ⊢;refine lj (λc=>?_) λc=>?_
   .have e:a=b:=⋯;subst e;exact acu ⟨rfl,rfl,aX,eJ,ip⟩
   .have hm:(a+b) / 2<b:=⋯;have Q0:a<=(a+b) / 2:=⋯;refine abQ (rU O d5 eA ⋯ ⋯ ?_);cases e:lt (at_ (arrOf bh) (l+k)) (at_ (arrOf bh) (l+(a+b) / 2)) with
    |true =>
     dsimp only;rw[if_pos rfl];refine acu ⟨rfl,rfl,Q0,by dsimp only;lia,eJ,λy fB hu=>?_,by dsimp only;lia⟩;exact O.fL _ _ _ (eA.at_ ⋯) (eA.at_ ⋯) (eA.at_ ⋯) (O.ow _ _ (eA.at_ ⋯) (eA.at_ ⋯) e) (cO _ _ ⋯ (by dsimp only at fB;lia) ⋯)
    |false =>
     dsimp only;rw[if_neg (by simp)];refine acu ⟨rfl,rfl,by dsimp only;lia,aX,λy fB=>?_,ip,by dsimp only;lia⟩;exact O.fL _ _ _ (eA.at_ (by dsimp only at fB;lia)) (eA.at_ ⋯) (eA.at_ ⋯) (cO _ _ ⋯ (by dsimp only at fB;lia) ⋯) e
  case post2 =>
   rintro⟨o,p,b⟩ bh ⟨rfl,rfl,aX,eJ,ip⟩;dsimp only at aX eJ ip ⊢;rw[moveDown'_eq];refine abQ (aec (acu ⟨rfl,⋯,a7,?_,?_⟩))
   .show d9 (arrOf st) (bubble (arrOf bh) (l+k) (l+k-(l+p))) l (l+n);exact bU.trans ((d9.L1 ⋯ ⋯).mono ⋯ ⋯)
   .show fh lt (bubble (arrOf bh) (l+k) (l+k-(l+p))) l (k+1);rw[show l+k-(l+p)=k-p by lia];exact L2 O eA ⋯ aX cO eJ ip
end
section
def Wf{A:Around}{s:Shared}{S:Keyed->Prop}{st:SortSt}(O:hB M A E s κ S lt)(aw:kindOf st=κ)(hf:failedOf st=none)(au:pendingOf st=#[])(a6:fO S (arrOf st))(h2:2<=(arrOf st).size)(zU:(arrOf st).size<64)(aE:∀bh,failedOf bh=none->(arrOf bh).toList.Perm (arrOf st).toList->(arrOf bh).toList.Pairwise (le lt)->Q () bh):wpS M A E s sortRuns' Q st:=by
 rw[sortRuns'_eq];refine abQ (wpS_get ?_);dsimp only;generalize Q4:minRun' (arrOf st).size (arrOf st).size 0=He;have Q5:He=(arrOf st).size:=by
  rw[<- Q4];obtain⟨f,Qz⟩:∃f,(arrOf st).size=f+1:=⟨(arrOf st).size-1,⋯⟩;rw[Qz,minRun'_succ,if_pos ⋯]
 generalize aG:(arrOf st).size=N at h2 zU Q5 ⊢;refine abQ (wpS_mono (adV (I:=λx (c:Option Unit×Nat) bh=>c.1=none/\failedOf bh=none/\d9 (arrOf st) (arrOf bh) 0 N/\((x=0/\c.2=0/\kindOf bh=κ/\pendingOf bh=#[])\/(c.2=N/\(pendingOf bh).size<=1/\fh lt (arrOf bh) 0 N)))
  (Q:=λ(c:Option Unit×Nat) bh=>c.1=none/\failedOf bh=none/\d9 (arrOf st) (arrOf bh) 0 N/\(pendingOf bh).size<=1/\fh lt (arrOf bh) 0 N) ?step ?fin ⟨rfl,hf,.refl ..,.inl ⟨rfl,rfl,aw,au⟩⟩) ?post)
 case fin =>
  rintro c bh ⟨aM,a7,bU,cO⟩;rw[aea (abz _)]at cO;rcases cO with⟨z,_⟩|⟨_,fK,kW⟩
  .omega
  .exact⟨aM,a7,bU,fK,kW⟩
 case step =>
  rintro x ⟨o,lo⟩ dW _ ak ⟨rfl,k2,k3,b6⟩;rcases b6 with⟨rfl,rfl,d5,eI⟩|⟨b6,k5,eI⟩
  .have eA:=a6.perm k3.perm;have hsz:(arrOf dW).size=N:=k3.size.trans aG;refine lj (λc=>absurd c ⋯) λc=>?_
   refine abQ (wpS_mono (MV (l:=0) (z:=N-0) O d5 eA (by rw[hsz];lia) ⋯) ?_);rintro o hs ⟨m,rfl,pd,m2,s2,p2,gO⟩;have tail:∀hU,kn dW hU->d9 (arrOf dW) (arrOf hU) 0 (0+(N-0))->fh lt (arrOf hU) 0 N->∀mi,kindOf mi=kindOf hU->failedOf mi=failedOf hU->arrOf mi=arrOf hU->pendingOf mi=#[(0,N,0)]->failedOf mi=none/\d9 (arrOf st) (arrOf mi) 0 N/\(pendingOf mi).size<=1/\fh lt (arrOf mi) 0 N:=λhU s3 p3 j1 mi e1 e2 e3 e4=>by
    rw[e2,e3,e4];exact⟨s3.2.2.trans k2,k3.trans (p3.mono (abb _) ⋯),abb _,j1⟩
   refine lj (λb4=>?b1) λb4=>?b2
   case b1 =>
    refine abQ (wpS_lift (ad7 ⟨rfl,?_⟩));refine abQ (L0 O (s2.1.trans d5) (eA.perm p2.perm) (by rw[p2.size,hsz];lia) pd ⋯ gO λhU s3 p3 j1=>?_);refine lj (λh=>nomatch h) λ_=>?_
    refine abQ (wpS_get ?_);have B1:kn dW hU:=⟨s3.1.trans s2.1,s3.2.1.trans s2.2.1,s3.2.2.trans s2.2.2⟩;have Q3:min (N-0) He=N:=⋯;rw[Q3]at j1 p3 ⊢;rw[B1.2.1.trans eI];have t:=tail hU B1 (p2.trans (p3.mono (abb _) ⋯)) j1 (setPending hU ((pendingOf hU).push (0,N,0))) rfl rfl rfl (by show(pendingOf hU).push _=_;rw[B1.2.1.trans eI];rfl);exact abQ (aec (acu ⟨rfl,t.1,t.2.1,.inr ⟨acU N,t.2.2⟩⟩))
   case b2 =>
    refine abQ (wpS_get ?_);have hm:m=N:=⋯;subst hm;rw[s2.2.1.trans eI];have t:=tail hs s2 p2 gO (setPending hs ((pendingOf hs).push (0,m,0))) rfl rfl rfl (by show(pendingOf hs).push _=_;rw[s2.2.1.trans eI];rfl);exact abQ (aec (acu ⟨rfl,t.1,t.2.1,.inr ⟨acU m,t.2.2⟩⟩))
  .refine lj (λc=>acu ⟨rfl,k2,k3,k5,eI⟩) λc=>absurd (Nat.le_of_eq b6.symm) c
 case post =>
  rintro⟨o,lo⟩ dW ⟨rfl,k2,k3,k5,eI⟩;refine abQ (wpS_mono (adV (I:=λx (c:Option Unit×Unit) bh=>c=(none,())/\bh=dW) (Q:=λ(c:Option Unit×Unit) bh=>c=(none,())/\bh=dW) ?step2 ?fin2 ⟨rfl,rfl⟩) ?post2)
  case fin2=>exact λc bh h=>h
  case step2 =>
   rintro y c bh _ aN ⟨rfl,rfl⟩;refine abQ (wpS_get ?_);exact lj (λ_=>acu ⟨rfl,rfl⟩) λh=>absurd k5 h
  case post2 =>
   rintro c bh ⟨rfl,rfl⟩;refine acu (aE bh k2 k3.perm (XH ?_));rw[show(arrOf bh).size=N from k3.size.trans aG];exact eI.cF
end
end Tm
end
section
namespace Tm
open PySem PySem.W PyProof.Rows PySem.Calls
def U1{α β:Type}(f){gA m:List β}(h:gA.Perm m):∀l:List α,m=l.map f->∃p:List α,p.Perm l/\gA=p.map f:=by
 induction h with
 |nil=>intro l e;cases l with
  |nil=>exact⟨[],.refl _,rfl⟩
  |cons=>cases e
 |cons x _ aD =>
  intro l e;cases l with
  |nil=>cases e
  |cons y l =>
   rw[List.map_cons]at e;injection e with e1 e2;obtain⟨p,J,h2⟩:=aD l e2;exact⟨y::p,J.cons y,by rw[List.map_cons,e1,h2]⟩
 |swap x y m =>
  intro l e
  match l,e with
  |u::v::l,e =>
   rw[List.map_cons,List.map_cons]at e;injection e with e1 e2;injection e2 with e2 e3;exact⟨v::u::l,.swap u v l,by rw[List.map_cons,List.map_cons,e1,e2,e3]⟩
 |trans _ _ AQ AR =>
  intro l e;obtain⟨p,J,h2⟩:=AR l e;obtain⟨q,h3,h4⟩:=AQ p h2;exact⟨q,h3.trans J,h4⟩
structure Ord(lt:Nat->Nat->Bool):Prop where
 gf:∀x,lt x x=false
 fL:∀x y z,lt y x=false->lt z y=false->lt z x=false
 ow:∀x y,lt x y=true->lt y x=false
section
noncomputable abbrev pr(af:List Value)(i:Nat):Keyed:=(af.getD i Value.none,af.getD i Value.none)
def ZG(af):(af.toArray.zip af.toArray).toList=(List.range af.length).map (pr af):=by
 apply acG;intro i;rw[abj]
 by_cases h:i<af.length
 .rw[ac1 h];simp[List.getElem?_zip_eq_some,List.getD,abc h]
 .rw[abC (by simpa using h),abC (by simpa using h)];rfl
def Ta(O:Ord lt)(aI:∀i j,i<af.length->j<af.length->af.getD i Value.none=af.getD j Value.none->∀k,lt i k=lt j k/\lt k i=lt k j)(av:s.heap.get? a=some (seqObj "list" af.toArray n))(Qd:af.length<64)(aw:2<=af.length->∀(h':Heap),(∀b o,b≠a->s.heap.get? b=some o->h'.get? b=some o)->∀Q:SortKind->Shared->Prop,Q κ { s with heap:=h' }->wpAny (model prog w) A (keyKind' af.toArray) Q E { s with heap:=h' })(ag:2<=af.length->∀(h':Heap),(∀b o,b≠a->s.heap.get? b=some o->h'.get? b=some o)->∀(i j:Nat)(C:Bool->Shared->Prop),i<af.length->j<af.length->C (lt i j) { s with heap:=h' }->kas_ask prog w A κ af i j C { s with heap:=h' })(h:∀p:List Nat,p.Perm (List.range af.length)->p.Pairwise (λi j=>lt j i=false)->∀(h':Heap)(c:Nat),(∀b o,b≠a->s.heap.get? b=some o->h'.get? b=some o)->h'.get? a=some (seqObj "list" (p.map λi=>af.getD i Value.none).toArray c)->P (.done (.ret .none)) { s with heap:=h' }):
  wpAny (model prog w) A (Builtin.«list.sort» ⟨[.ref a],[]⟩) P E s:=by
 rw[list_sort_plain];have aA:a<s.heap.objs.size:=abd av;refine aa5 (listItems_at av rfl ?_);refine aa5 (listUpdate_at av rfl ?_ (by rw[abe,sizeLine_eq];lia) (abz _));obtain⟨e1,oZ⟩:∃e1,(s.heap.update a (Obj.mapSeq λ_=>(#[]:Array Value))).get? a=some (seqObj "list" #[] e1):=⟨_,get?_update_seq av λ_=>#[]⟩;refine aa5 (seqEpoch_at oZ rfl ?_);refine aa5 (wpAny_newTuple ?_ (by show af.length<=_;rw[sizeLine_eq];lia));refine aa5 (wpAny_newList ?_ (abz _));refine acf ?_;have qB:(((s.heap.update a (Obj.mapSeq λ_=>(#[]:Array Value))).push (seqObj "tuple" af.toArray 0)).push (seqObj "list" #[] 0)).get? a=some (seqObj "list" #[] e1):=aa8 _ (aa8 _ oZ);have keep:∀b o,b≠a->s.heap.get? b=some o->(((s.heap.update a (Obj.mapSeq λ_=>(#[]:Array Value))).push (seqObj "tuple" af.toArray 0)).push (seqObj "list" #[] 0)).get? b=some o:=λb o aa q =>
  aa8 _ (aa8 _ ((abu _ _ (abW aa)).trans q))
 show wpAny (model prog w) A _ P E { s with heap:=((s.heap.update a (Obj.mapSeq λ_=>(#[]:Array Value))).push (seqObj "tuple" af.toArray 0)).push (seqObj "list" #[] 0) };generalize ((s.heap.update a (Obj.mapSeq λ_=>(#[]:Array Value))).push (seqObj "tuple" af.toArray 0)).push (seqObj "list" #[] 0)=J at qB keep;dsimp only;have fin:∀p:List Nat,p.Perm (List.range af.length)->p.Pairwise (λi j=>lt j i=false)->P (.done (.ret .none)) { s with heap:=J.update a (Obj.mapSeq λ_=>(p.map λi=>af.getD i Value.none).toArray) }:=λp au ae=>by
  obtain⟨b4,i2⟩:∃b4,(J.update a (Obj.mapSeq λ_=>(p.map λi=>af.getD i Value.none).toArray)).get? a=some (seqObj "list" (p.map λi=>af.getD i Value.none).toArray b4):=⟨_,get?_update_seq qB λ_=>(p.map λi=>af.getD i Value.none).toArray⟩;exact h p au ae _ b4 (λb o aa q=>(abu _ _ (abW aa)).trans (keep b o aa q)) i2
 have hz:=ZG af
 by_cases h2:af.toArray.size<2
 .rw[if_pos h2,if_pos h2];refine aa5 (aa7 ?_);rw[StateT.run_pure];refine aa5 (aa7 ?_);dsimp only;refine aa5 (seqEpoch_at qB rfl ?_);have e3:(arrOf (SortSt.mk' general' (af.toArray.zip af.toArray) #[] 7 none)).map (·.2)=((List.range af.length).map λi=>af.getD i Value.none).toArray:=by
   show(af.toArray.zip af.toArray).map (·.2)=_;apply Array.toList_inj.mp;rw[Array.toList_map,hz,List.map_map];rfl
  rw[e3];refine aa5 (listUpdate_at qB rfl ?_ (abz _) (by rw[abe,List.length_map,List.length_range,sizeLine_eq];lia));simp only[acX,aba,abw];refine aa7 (fin _ (.refl _) ?_);have hl:af.length<2:=by simpa using h2
  match af,hl with
  |[],_=>exact List.Pairwise.nil
  |[_],_=>exact acF _ _
 .rw[if_neg h2,if_neg h2];have hl:2<=af.length:=(by simp at h2;exact h2);refine aa5 (aw hl J keep _ ?_);have cp:∀x:Keyed,∃i,(∃i,i<af.length/\x=pr af i)->i<af.length/\x=pr af i:=λx=>by
   by_cases c:∃i,i<af.length/\x=pr af i
   .obtain⟨i,ai⟩:=c;exact⟨i,λ_=>ai⟩
   .exact⟨0,λq=>absurd q c⟩
  obtain⟨idx,vO⟩:∃idx:Keyed->Nat,∀x,(∃i,i<af.length/\x=pr af i)->idx x<af.length/\x=pr af (idx x):=⟨λx=>(cp x).choose,λx=>(cp x).choose_spec⟩;have Or:hB (model prog w) A E { s with heap:=J } κ (λx=>∃i,i<af.length/\x=pr af i) (λx y=>lt (idx x) (idx y)):=by
   refine⟨λx y st Q ak aN Au q=>?_,λx y _ _ q=>O.ow _ _ q,λx y z _ _ _ aM a7=>O.fL _ _ _ aM a7⟩;obtain⟨eR,ex⟩:=vO x ak;obtain⟨AX,f9⟩:=vO y aN;rw[lt'_eq];refine abQ (wpS_get ?_);refine abQ (wpS_lift (adD ?_));have:=ag hl J keep (idx x) (idx y) (λb s'=>s'={ s with heap:=J }/\b=lt (idx x) (idx y)) eR AX ⟨rfl,rfl⟩;unfold kas_ask at this;have e1:af.getD (idx x) Value.none=x.1:=(acp Prod.fst ex).symm;have e2:af.getD (idx y) Value.none=y.1:=(acp Prod.fst f9).symm;rw[e1,e2]at this;rw[Au];refine abV this (λb s' ⟨ae,aa⟩=>⟨ae,?_⟩) λ_ _ z=>z.elim
   subst aa;exact acu q
  have run:=Wf (st:=SortSt.mk' κ (af.toArray.zip af.toArray) #[] 7 none) (Q:=λ_ bh=>failedOf bh=none/\∃p:List Nat,p.Perm (List.range af.length)/\p.Pairwise (λi j=>lt j i=false)/\(arrOf bh).toList=p.map (pr af)) Or rfl rfl rfl
   (λx ak=>by
    have ak:x∈(af.toArray.zip af.toArray).toList:=ak;rw[hz]at ak;obtain⟨i,ai,rfl⟩:=List.mem_map.mp ak;exact⟨i,List.mem_range.mp ai,rfl⟩) (by show 2<=(af.toArray.zip af.toArray).size;rw[<- Array.length_toList,hz];simpa using hl) (by show(af.toArray.zip af.toArray).size<64;rw[<- Array.length_toList,hz];simpa using Qd) λbh aH aX eJ=>by
     have aX:(arrOf bh).toList.Perm (af.toArray.zip af.toArray).toList:=aX;rw[hz]at aX;obtain⟨p,p1,p2⟩:=U1 (pr af) aX _ rfl;refine⟨aH,p,p1,?_,p2⟩;rw[p2,abK]at eJ;refine abN (λ{i j} ai aF q=>?_) eJ;have ai:=List.mem_range.mp (p1.mem_iff.mp ai);have aF:=List.mem_range.mp (p1.mem_iff.mp aF);obtain⟨eR,lI⟩:=vO (pr af i) ⟨i,ai,rfl⟩;obtain⟨AX,lJ⟩:=vO (pr af j) ⟨j,aF,rfl⟩;have q:lt (idx (pr af j)) (idx (pr af i))=false:=q;rw[(aI j (idx (pr af j)) aF AX (acp Prod.fst lJ) i).1,(aI i (idx (pr af i)) ai eR (acp Prod.fst lI) _).2];exact q
  refine aa5 (abV run ?_ λ_ _ e=>e);rintro⟨⟨⟩,bh⟩ s' ⟨rfl,hf,p,p1,p2,p3⟩;have Rj:(arrOf bh).map (·.2)=(p.map λi=>af.getD i Value.none).toArray:=by
   apply Array.toList_inj.mp;rw[Array.toList_map,p3,List.map_map];rfl
  rw[Rj];refine aa5 (seqEpoch_at qB rfl ?_);refine aa5 (listUpdate_at qB rfl ?_ (abz _) (by rw[abe,List.length_map,p1.length_eq,List.length_range,sizeLine_eq];lia));rw[hf];simp only[acX,aba,abw];exact aa7 (fin p p1 p2)
end
end Tm
end
section
namespace fi
open PySem PySem.W PyProof.Rows PySem.Calls
section
def ltI{κ:Type}(lt:κ->κ->Bool)(z:κ)(ar:List κ)(i j:Nat):Bool:=lt (ar.getD i z) (ar.getD j z)
def Bv{κ:Type}{lt:κ->κ->Bool}(L:bg.gU lt)(z)(ar):Tm.Ord (ltI lt z ar) where
 gf:=λx=>L.gf _
 fL:=λx y z J h2=>bg.GU L J h2
 ow:=λx y h=>bg.GV L h
def P1{κ:Type}(z:κ)(ar):(List.range ar.length).map (λi=>ar.getD i z)=ar:=by
 apply acG;intro i;rw[abj]
 by_cases h:i<ar.length
 .rw[ac1 h];simp[List.getD,h]
 .rw[abC (by simpa using h),abC (by simpa using h)];rfl
def XC{κ:Type}{lt:κ->κ->Bool}(L:bg.gU lt)(z)(ar){p:List Nat}(J:p.Perm (List.range ar.length))(h2:p.Pairwise (λi j=>ltI lt z ar j i=false)):(p.map λi=>ar.getD i z)=bg.cF lt ar:=by
 refine bg.Kv L ?_ (bg.Ku L ar) ?_
 .unfold bg.p7;rw[abK];exact h2
 .refine((J.map λi=>ar.getD i z).trans ?_).trans (bg.wX ar).symm;rw[P1]
def Bs{κ:Type}{lt:κ->κ->Bool}{z:κ}{ar:List κ}{af:List Value}(h:∀i j,i<af.length->j<af.length->af.getD i Value.none=af.getD j Value.none->ar.getD i z=ar.getD j z):
  ∀i j,i<af.length->j<af.length->af.getD i Value.none=af.getD j Value.none->∀k,ltI lt z ar i k=ltI lt z ar j k/\ltI lt z ar k i=ltI lt z ar k j:=λi j ai aF e k=>by
 unfold ltI;rw[h i j ai aF e];exact⟨rfl,rfl⟩
theorem ints_get:∀{af:List Value}{ns:List Int}(h:IntsAre af ns)(i:Nat),i<af.length->∃t,af.getD i Value.none=.int (ns.getD i 0) t
 |_,_,.nil,i,h=>by simp at h
 |_,_,.cons n t _,0,_=>⟨t,rfl⟩
 |_,_,.cons n t r,i+1,h=>by
  obtain⟨u,e⟩:=ints_get r i (by simpa using h);exact⟨u,by simpa[List.getD] using e⟩
theorem AV:∀{af:List Value}{ns:List Int}(h:IntsAre af ns),ns.length=af.length
 |_,_,.nil=>rfl
 |_,_,.cons n t r=>by simp[AV r]
def Sv(h:IntsAre af ns):∀i j,i<af.length->j<af.length->af.getD i Value.none=af.getD j Value.none->ns.getD i 0=ns.getD j 0:=λi j ai aF e=>by
 obtain⟨t,e1⟩:=ints_get h i ai;obtain⟨u,e2⟩:=ints_get h j aF;rw[e1,e2]at e;injection e
def LD(bV:IntsAre af ns)(i j)(C)(ai:i<af.length)(aF:j<af.length)(h:C (ltI bg.ltI 0 ns i j) s):kas_ask prog w A oneType' af i j C s:=by
 obtain⟨t,e1⟩:=ints_get bV i ai;obtain⟨u,e2⟩:=ints_get bV j aF;unfold kas_ask;rw[e1,e2];exact kat_lt_int h
def SE(bV:IntsAre af ns)(h2:2<=af.length)(h:Q oneType' s):wpAny (model prog w) A (keyKind' af.toArray) Q E s:=by
 obtain⟨xG,xH,rest,rfl⟩:∃xG xH rest,af=xG::xH::rest:=by
  match af,h2 with
  |xG::xH::rest,_=>exact⟨xG,xH,rest,rfl⟩
 rw[keyKind_ints bV];exact aa7 h
noncomputable def gs(h:Heap):List Value->List (List Int)->Prop
 |[],[]=>True
 |v::af,k::ar=>(∃a o xs n,v=.ref a/\h.get? a=some o/\o.cls=.type "tuple"/\o.data=.seq xs n/\IntsAre xs.toList k/\k≠[])/\gs h af ar
 |_,_=>False
theorem gs.kept(k:∀b o,h.get? b=some o->h'.get? b=some o):∀{af:List Value}{ar:List (List Int)},gs h af ar->gs h' af ar
 |[],[],_=>trivial
 |v::af,x::ar,⟨⟨a,o,xs,n,e,av,r⟩,t⟩=>⟨⟨a,o,xs,n,e,k a o av,r⟩,t.kept k⟩
theorem gs.len:∀{af:List Value}{ar:List (List Int)},gs h af ar->ar.length=af.length
 |[],[],_=>rfl
 |v::af,x::ar,⟨_,t⟩=>by simp[t.len]
theorem gs.get:∀{af:List Value}{ar:List (List Int)},gs h af ar->∀i,i<af.length->∃a o xs n,af.getD i Value.none=.ref a/\h.get? a=some o/\o.cls=.type "tuple"/\o.data=.seq xs n/\IntsAre xs.toList (ar.getD i [])/\ar.getD i []≠[]
 |[],[],_,i,ai=>by simp at ai
 |v::af,x::ar,⟨q,t⟩,0,_=>q
 |v::af,x::ar,⟨q,t⟩,i+1,ai=>by
  have:=t.get i (by simpa using ai);simpa[List.getD] using this
def Gm(h:IntsAre us xs):∀{ys:List Int},IntsAre us ys->xs=ys:=by
 induction h with
 |nil=>intro ys q;cases q;rfl
 |cons n t _ aD =>
  intro ys q;cases q with
  |cons _ _ q=>rw[aD q]
def SA(H:gs h af ar):∀i j,i<af.length->j<af.length->af.getD i Value.none=af.getD j Value.none->ar.getD i []=ar.getD j []:=λi j ai aF e=>by
 obtain⟨a,o,xs,n,e1,aM,_,a7,bU,_⟩:=H.get i ai;obtain⟨p8,bJ,uE,b7,e2,q6,_,px,BM,_⟩:=H.get j aF;rw[e1,e2]at e;injection e with e;subst e;rw[aM]at q6;cases q6;rw[a7]at px;cases px;exact Gm bU BM
theorem gs.tD : ∀ {af : List Value} {ar : List (List Int)}, gs h af ar -> ∃ bp : List Value, KatTups h af bp /\ bp.length = af.length /\ ∀ v ∈ bp, ∃ i t, v = Value.int i t
  | [], [], _ => ⟨[], KatTups.nil, rfl, by simp⟩
  | v :: af, x :: ar, ⟨⟨a, o, xs, n, e, av, ag, hd, bV, dJ⟩, t⟩ => by
    subst e
    obtain ⟨bp, J, h2, h3⟩ := t.tD
    obtain ⟨i, u, hf⟩ : ∃ i u, xs[0]? = some (Value.int i u) := by
      cases q : xs.toList with
      | nil => rw [q] at bV; cases bV; exact absurd rfl dJ
      | cons y ys =>
        rw [q] at bV
        cases bV with
        | cons n t r => exact ⟨n, t, by have : xs.toList[0]? = some (Value.int n t) := by rw [q]; rfl
                                        simpa using this⟩
    refine ⟨Value.int i u :: bp, KatTups.cons av ag hd hf J, by simp [h2], fun z hz => ?_⟩
    rcases aa9.mp hz with rfl | hz
    · exact ⟨i, u, rfl⟩
    · exact h3 z hz
noncomputable def o8(fin:Bool):List Int->List Int->Bool
 |x::xs,y::ys=>if x=y then o8 fin xs ys else decide (x<y)
 |_,_=>fin
theorem GN:∀(xs ys:List Int),o8 (decide (xs.length<ys.length)) xs ys=bg.lexLt xs ys
 |[],[]=>rfl
 |[],_::_=>rfl
 |_::_,[]=>rfl
 |x::xs,y::ys=>by
  have e:decide ((x::xs).length<(y::ys).length)=decide (xs.length<ys.length):=(by simp);rw[e];simp only[o8,bg.lexLt,GN xs ys]
theorem Gx:∀{us af:List Value}{xs ys:List Int}(i:Nat),IntsAre us xs->IntsAre af ys->Q (o8 fin xs ys) s->KatLex prog w A true fin Q (us.zip af) i s
 |_,_,_,_,i,.nil,_,h=>by simpa[o8] using kat_nil (prog:=prog) (w:=w) (A:=A) (b:=true) (i:=i) h
 |_,_,_,_,i,.cons x t r,.nil,h=>by simpa[o8] using kat_nil (prog:=prog) (w:=w) (A:=A) (b:=true) (i:=i) h
 |_,_,_,_,i,.cons x t r,.cons y u q,h=>by
  refine kat_cons (wpAny_eqBool_int ?_);simp only[o8]at h
  by_cases e:x=y
  .subst e;rw[if_pos rfl]at h;rw[show(x==x)=true by simp];exact kat_yes (Gx (i+1) r q h)
  .rw[if_neg e]at h;rw[show(x==y)=false by simpa using e];refine kat_no ?_;cases aa:(true&&i==0) with
   |true=>exact oneLt_int h
   |false=>exact kat_one _ _ (lt_int (show W.BoolBack Q (Value.bool (decide (x<y))) s from h))
def LF(cu:gs s.heap af ar)(i j)(C)(ai:i<af.length)(aF:j<af.length)(h:C (ltI bg.lexLt [] ar i j) s):kas_ask prog w A (tuples' true) af i j C s:=by
 obtain⟨a,o,xs,n,e1,av,ag,hd,bV,_⟩:=cu.get i ai;obtain⟨b,bJ,ys,b7,e2,d4,cD,gc,kD,_⟩:=cu.get j aF;unfold kas_ask;rw[e1,e2];refine kat_lt av hd d4 gc (Gx 0 bV kD ?_);have l1:(ar.getD i []).length=xs.size:=by rw[AV bV,Array.length_toList]
 have l2:(ar.getD j []).length=ys.size:=by rw[AV kD,Array.length_toList]
 rw[<- l1,<- l2,GN];exact h
def SF(cu:gs s.heap af ar)(h2:2<=af.length)(h:Q (tuples' true) s):wpAny (model prog w) A (keyKind' af.toArray) Q E s:=by
 obtain⟨bp,k1,k2,k3⟩:=cu.tD;refine kat_kind (T:=Value.type "int") k1 ⋯ (λv aI=>?_) ∅ (by rw[show(Value.type "int" != Value.type "tuple")=true by decide];exact h);obtain⟨i,t,rfl⟩:=k3 v aI;exact Looks.of_pure rfl
end
end fi
end
section
namespace bg
noncomputable def fR:List (List Int)->List (List Int)->Bool
 |[],[]=>false
 |[],_::_=>true
 |_::_,[]=>false
 |x::xs,y::ys=>if x=y then fR xs ys else lexLt x y
theorem GJ:∀a,fR a a=false
 |[]=>rfl
 |x::a=>by simp[fR,GJ a]
theorem GI:∀a b,a≠b->fR a b=true\/fR b a=true
 |[],[],h=>absurd rfl h
 |[],_::_,_=>.inl rfl
 |_::_,[],_=>.inr rfl
 |x::a,y::b,h=>by
  simp only[fR]
  by_cases e:x=y
  .subst e;simp only[abY];exact GI a b λz=>h (by rw[z])
  .rw[if_neg e,if_neg (abW e)];exact tG x y e
theorem GK:∀{a b c},fR a b=true->fR b c=true->fR a c=true
 |[],[],_,h,_=>by simp[fR]at h
 |[],_::_,[],_,h=>by simp[fR]at h
 |[],_::_,_::_,_,_=>rfl
 |_::_,[],_,h,_=>by simp[fR]at h
 |_::_,_::_,[],_,h=>by simp[fR]at h
 |x::a,y::b,z::c,J,h2=>by
  simp only[fR]at *
  by_cases e:x=y
  .subst e;rw[if_pos rfl]at J
   by_cases e2:x=z
   .subst e2;rw[if_pos rfl]at h2 ⊢;exact GK J h2
   .rw[if_neg e2]at h2 ⊢;exact h2
  .rw[if_neg e]at J
   by_cases e2:y=z
   .subst e2;rw[if_neg e];exact J
   .rw[if_neg e2]at h2;have t:=tH J h2
    by_cases e3:x=z
    .subst e3;rw[qO]at t;cases t
    .rw[if_neg e3];exact t
def GS:gU fR:=⟨GJ,GK,GI⟩
noncomputable def r5(c:List (List Int)):Den.D:=.tup (c.map aq)
theorem G0:∀a b:List (List Int),Den.jx (a.map aq) (b.map aq)=some (fR a b)
 |[],[]=>rfl
 |[],_::_=>rfl
 |_::_,[]=>rfl
 |x::a,y::b=>by
  rw[show Den.jx ((x::a).map aq) ((y::b).map aq)=if Den.fs (aq x) (aq y)=true then Den.jx (a.map aq) (b.map aq) else Den.i8 (aq x) (aq y) from rfl,G0 a b,pb,m8];simp only[fR]
  by_cases h:x=y<;>simp[h]
def Tf(a b):Den.i8 (r5 a) (r5 b)=some (fR a b):=G0 a b
end bg
namespace fi
open PySem PySem.W PyProof.Rows PySem.Calls
noncomputable def iS(h:Heap):List Value->List (List (List Int))->Prop
 |[],[]=>True
 |v::af,k::ar=>(∃a o xs n,v=.ref a/\h.get? a=some o/\o.cls=.type "tuple"/\o.data=.seq xs n/\gs h xs.toList k/\k≠[])/\iS h af ar
 |_,_=>False
theorem iS.kept(k:∀b o,h.get? b=some o->h'.get? b=some o):∀{af:List Value}{ar:List (List (List Int))},iS h af ar->iS h' af ar
 |[],[],_=>trivial
 |v::af,x::ar,⟨⟨a,o,xs,n,e,av,ag,hd,bV,dJ⟩,t⟩=>⟨⟨a,o,xs,n,e,k _ _ av,ag,hd,bV.kept k,dJ⟩,t.kept k⟩
 |[],_::_,h=>h.elim
 |_::_,[],h=>h.elim
theorem iS.get:∀{af:List Value}{ar:List (List (List Int))},iS h af ar->∀i,i<af.length->∃a o xs n,af.getD i Value.none=.ref a/\h.get? a=some o/\o.cls=.type "tuple"/\o.data=.seq xs n/\gs h xs.toList (ar.getD i [])/\ar.getD i []≠[]
 |[],[],_,i,ai=>by simp at ai
 |v::af,x::ar,⟨t,r⟩,0,_=>by simpa[List.getD] using t
 |v::af,x::ar,⟨t,r⟩,i+1,ai=>by simpa[List.getD] using iS.get r i (by simpa using ai)
 |[],_::_,h,_,_=>h.elim
 |_::_,[],h,_,_=>h.elim
theorem J8:∀{af:List Value}{xs ys:List (List Int)},gs h af xs->gs h af ys->xs=ys
 |[],[],[],_,_=>rfl
 |v::af,x::xs,y::ys,⟨⟨a,o,us,n,e,av,ag,hd,bV,_⟩,t⟩,⟨⟨p8,bJ,aaY,b7,bq,d4,cD,gc,kD,_⟩,t'⟩=>by
  subst e;cases bq;rw[av]at d4;cases d4;rw[hd]at gc;cases gc;rw[Gm bV kD,J8 t t']
 |[],_::_,_,h,_=>h.elim
 |[],[],_::_,_,h=>h.elim
 |_::_,[],_,h,_=>h.elim
 |_::_,_::_,[],_,h=>h.elim
def SD(H:iS h af ar):∀i j,i<af.length->j<af.length->af.getD i Value.none=af.getD j Value.none->ar.getD i []=ar.getD j []:=λi j ai aF e=>by
 obtain⟨a,o,xs,n,aM,q5,_,a7,bU,_⟩:=H.get i ai;obtain⟨p8,bJ,uE,b7,q6,Ic,_,px,BM,_⟩:=H.get j aF;rw[aM,q6]at e;cases e;rw[q5]at Ic;cases Ic;rw[a7]at px;cases px;exact J8 bU BM
theorem iS.tD : ∀ {af : List Value} {ar : List (List (List Int))}, iS h af ar -> ∃ bp : List Value, KatTups h af bp /\ bp.length = af.length /\ ∀ v ∈ bp, ∃ a o, v = Value.ref a /\ h.get? a = some o /\ o.cls = .type "tuple"
  | [], [], _ => ⟨[], KatTups.nil, rfl, by simp⟩
  | v :: af, x :: ar, ⟨⟨a, o, xs, n, e, av, ag, hd, bV, dJ⟩, t⟩ => by
    subst e
    obtain ⟨bp, J, h2, h3⟩ := t.tD
    obtain ⟨b, bJ, hf, aa, Qt⟩ : ∃ b bJ, xs[0]? = some (Value.ref b) /\ h.get? b = some bJ /\ bJ.cls = .type "tuple" := by
      cases q : xs.toList with
      | nil =>
        rw [q] at bV
        cases x with
        | nil => exact absurd rfl dJ
        | cons _ _ => exact bV.elim
      | cons y ys =>
        rw [q] at bV
        cases x with
        | nil => exact bV.elim
        | cons k x =>
          obtain ⟨⟨b, bJ, us, b7, e1, e2, e3, _⟩, _⟩ := bV
          exact ⟨b, bJ, by have : xs.toList[0]? = some (Value.ref b) := by rw [q, e1]; rfl
                           simpa using this, e2, e3⟩
    refine ⟨Value.ref b :: bp, KatTups.cons av ag hd hf J, by simp [h2], fun z hz => ?_⟩
    rcases aa9.mp hz with rfl | hz
    · exact ⟨b, bJ, rfl, aa, Qt⟩
    · exact h3 z hz
  | [], _ :: _, h => h.elim
  | _ :: _, [], h => h.elim
section
noncomputable def o9(fin:Bool):List (List Int)->List (List Int)->Bool
 |x::xs,y::ys=>if x=y then o9 fin xs ys else bg.lexLt x y
 |_,_=>fin
theorem GL:∀(xs ys:List (List Int)),o9 (decide (xs.length<ys.length)) xs ys=bg.fR xs ys
 |[],[]=>rfl
 |[],_::_=>rfl
 |_::_,[]=>rfl
 |x::xs,y::ys=>by
  have e:decide ((x::xs).length<(y::ys).length)=decide (xs.length<ys.length):=(by simp);rw[e];simp only[o9,bg.fR,GL xs ys]
theorem GO:∀a b:List Int,c2.lexLt a b=bg.lexLt a b
 |[],[]=>rfl
 |[],_::_=>rfl
 |_::_,[]=>rfl
 |x::a,y::b=>by simp only[c2.lexLt,bg.lexLt,GO a b]
noncomputable def t5(k:List Int):PyData:=.tuple (k.map .int)
theorem BQ:∀{us:List Value}{k:List Int},IntsAre us k->ReadsAll h us (k.map .int) []
 |_,_,.nil=>.nil
 |_,_,.cons n t r=>.cons (as:=[]) (.int n t) (BQ r)
theorem Ex:∀a b:List Int,PyData.eqvAll (a.map .int) (b.map .int)=decide (a=b)
 |[],[]=>rfl
 |[],_::_=>rfl
 |_::_,[]=>rfl
 |x::a,y::b=>by
  rw[List.map_cons,List.map_cons,PyData.eqvAll,Ex a b,PyData.eqv]
  by_cases h:x=y<;>simp[h]
theorem wj:∀a:List Int,PyData.canLayAll0 (a.map .int)=true/\PyData.depthAll (a.map .int)=0
 |[]=>⟨rfl,rfl⟩
 |x::a=>by
  obtain⟨J,h2⟩:=wj a;exact⟨by rw[List.map_cons,PyData.canLayAll0,J];rfl,by rw[List.map_cons];show max (PyData.depth (.int x)) (PyData.depthAll (a.map .int))=0;rw[h2];rfl⟩
theorem Gy(bc:A.units+2<cLine):∀{us af:List Value}{xs ys:List (List Int)}(i:Nat),gs s.heap us xs->gs s.heap af ys->Q (o9 fin xs ys) s->KatLex prog w A false fin Q (us.zip af) i s
 |[],_,[],_,i,_,_,h=>by simpa[o9] using kat_nil (prog:=prog) (w:=w) (A:=A) (b:=false) (i:=i) h
 |_::_,[],_::_,[],i,_,_,h=>by simpa[o9] using kat_nil (prog:=prog) (w:=w) (A:=A) (b:=false) (i:=i) h
 |u::us,v::af,x::xs,y::ys,i,⟨⟨a,o,as,n,e,av,ag,hd,bV,_⟩,t⟩,⟨⟨b,bJ,bs,b7,bq,d4,cD,gc,kD,_⟩,t'⟩,h=>by
  subst e bq;have aH:Reads s.heap (.ref a) (t5 x) []:=.tuple av ag hd (BQ bV);have aX:Reads s.heap (.ref b) (t5 y) []:=.tuple d4 cD gc (BQ kD);have dep:∀k:List Int,(t5 k).depth=1:=λk=>by show PyData.depthAll (k.map .int)+1=1;rw[(wj k).2]
  have eq:=SeqAt.eqAt_reads _ _ A s _ _ _ _ aH aX (show PyData.canLayAll0 (x.map .int)=true from(wj x).1) (show PyData.canLayAll0 (y.map .int)=true from(wj y).1) (by rw[dep,dep];show A.units+1<cLine;lia);rw[show PyData.eqv (t5 x) (t5 y)=decide (x=y) from Ex x y]at eq;refine kat_cons (eq prog w _ _ ?_);simp only[o9]at h
  by_cases e:x=y
  .rw[if_pos e]at h;rw[decide_eq_true e];exact kat_yes (Gy bc (i+1) t t' h)
  .rw[if_neg e]at h;rw[decide_eq_false e];refine kat_no (kat_one _ _ ?_);have p1:s.heap.IsTuple a as:=⟨o,av,ag,n,hd⟩;have p2:s.heap.IsTuple b bs:=⟨bJ,d4,cD,b7,gc⟩;exact c2.G1 p1 p2 bV kD ⋯ (by rw[GO];exact h)
 |[],_,_::_,_,_,h,_,_=>h.elim
 |_::_,_,[],_,_,h,_,_=>h.elim
 |_::_,[],_::_,_::_,_,_,h,_=>h.elim
 |_::_,_::_,_::_,[],_,_,h,_=>h.elim
def LG(bc:A.units+2<cLine)(cu:iS s.heap af ar)(i j)(C)(ai:i<af.length)(aF:j<af.length)(h:C (ltI bg.fR [] ar i j) s):kas_ask prog w A (tuples' false) af i j C s:=by
 obtain⟨a,o,xs,n,e1,av,ag,hd,bV,_⟩:=cu.get i ai;obtain⟨b,bJ,ys,b7,e2,d4,cD,gc,kD,_⟩:=cu.get j aF;unfold kas_ask;rw[e1,e2];refine kat_lt av hd d4 gc (Gy bc 0 bV kD ?_);have l1:(ar.getD i []).length=xs.size:=by rw[bV.len,Array.length_toList]
 have l2:(ar.getD j []).length=ys.size:=by rw[kD.len,Array.length_toList]
 rw[<- l1,<- l2,GL];exact h
def SG(cu:iS s.heap af ar)(h2:2<=af.length)(h:Q (tuples' false) s):wpAny (model prog w) A (keyKind' af.toArray) Q E s:=by
 obtain⟨bp,k1,k2,k3⟩:=cu.tD;refine kat_kind (T:=Value.type "tuple") k1 ⋯ (λv aI=>?_) ∅ (by rw[show(Value.type "tuple" != Value.type "tuple")=false by decide];exact h);obtain⟨a,o,rfl,av,ag⟩:=k3 v aI;rw[<- ag];exact(Looks.ld av).andThen .now
end
end fi
end
section
namespace es
open Den bg
variable{pg:eX}{Φ:fo}
noncomputable def aaz:D->Bool
 |.int _=>true
 |_=>false
section
variable{α:Type}{lt:α->α->Bool}
def w8{n d k:Nat}(h:k<=n):bN n d (some (k:Int))=k:=by
 have J:¬((k:Int)<0):=by lia
 have h2:¬((n:Int)<(k:Int)):=by lia
 simp only[bN,if_neg J,if_neg h2];lia
def IS{n d k:Nat}(h:n<k):bN n d (some (k:Int))=n:=by
 have J:¬((k:Int)<0):=by lia
 have h2:((n:Int)<(k:Int)):=by lia
 simp only[bN,if_neg J,if_pos h2]
def D7{β:Type}(xs:List β)(k:Nat):cut xs (some (k:Int)) none=xs.drop k:=by
 unfold cut
 by_cases h:k<=xs.length
 .rw[w8 h];show List.take (xs.length-k) (xs.drop k)=_;rw[acK (by simp)]
 .rw[IS ⋯,List.drop_of_length_le (abb _),List.drop_of_length_le ⋯];simp
def MX{β:Type}(xs:List β)(k:Nat):cut xs none (some (k:Int))=xs.take k:=by
 unfold cut
 by_cases h:k<=xs.length
 .rw[w8 h];simp[bN]
 .rw[IS ⋯];simp only[bN,List.drop_zero,Nat.sub_zero];rw[acK (abb _),acK ⋯]
end
def IsCell(m:Int)(c:List Int):Prop:=c≠[]/\(∀x∈c,0<=x/\x<m)/\cQ ltI c
noncomputable instance (m:Int) (c:List Int):Decidable (IsCell m c):=by unfold IsCell cQ;infer_instance
def P0{α:Type}(x:α)(xs):iz (x::xs) (-1)=(x::xs).getLast?:=by
 have e:hM (x::xs).length (-1)=some xs.length:=by
  unfold hM;have J:¬((0:Int)<=-1):=∅;have h2:(0:Int)<=-1+((x::xs).length:Nat):=(by simp only[List.length_cons];lia);rw[if_neg J,if_pos h2];simp only[List.length_cons];congr 1;lia
 unfold iz;rw[e];simp[List.getLast?_eq_getElem?]
def vC{α:Type}(xs:List α)(k:Nat):iz xs (k:Int)=xs[k]?:=by
 unfold iz hM;rw[if_pos ⋯]
 by_cases h:k<xs.length
 .rw[if_pos ⋯];simp
 .rw[if_neg ⋯];simp;lia
def PZ{α:Type}(x:α)(xs):iz (x::xs) 0=some x:=by have:=vC (x::xs) 0;simpa using this
def getLast?_map{α β:Type}(f:α->β)(xs:List α):(xs.map f).getLast?=xs.getLast?.map f:=by simp
noncomputable def lies(c o:List Int):Bool:=c.all λx=>decide (x∈o)
def nI:lies c o=true<->∀x∈c,x∈o:=by simp[lies]
def MN{c:List Int}(h:∀x∈c,g (.int x)=.ok (some (p x))):cY g (c.map .int)=.ok (c.map p):=by
 rw[D2 (g:=λd=>match d with|.int x=>some (p x)|_=>none)]
 .congr 1
  induction c with
  |nil=>rfl
  |cons x c aD=>simp[aD λy aN=>h y (List.mem_cons_of_mem _ aN)]
 .intro d hd;obtain⟨x,ak,rfl⟩:=List.mem_map.mp hd;exact h x ak
def PI{α β:Type}(f:α->β)(xs:List α):xs.filterMap (λx=>some (f x))=xs.map f:=by
 induction xs with
 |nil=>rfl
 |cons x xs aD=>simp
def PH{α β:Type}(q:α->Bool)(f:α->β)(xs:List α):xs.filterMap (λx=>if q x then some (f x) else none)=(xs.filter q).map f:=by
 induction xs with
 |nil=>rfl
 |cons x xs aD=>cases h:q x<;>simp[h,aD]
noncomputable def cZ(m:Int):List Int:=(List.range m.toNat).map λ(k:Nat)=>(k:Int)
def w2(m):eT 0 m=(cZ m).map .int:=by
 unfold eT cZ;rw[List.map_map];have:(m-0).toNat=m.toNat:=by lia
 rw[this];apply abM;intro k _;simp
def pj:x∈cZ m<->0<=x/\x<m:=by
 unfold cZ;rw[List.mem_map];constructor
 .rintro⟨k,aw,rfl⟩;have:=List.mem_range.mp aw;lia
 .rintro⟨J,h2⟩;exact⟨x.toNat,List.mem_range.mpr ⋯,⋯⟩
noncomputable def hF(m:Int)(ts:List (List Int)):Bool:=(cZ m).all λk=>ts.any (lies [k])
def u9:hF m ts=true<->∀x,0<=x->x<m->∃t∈ts,x∈t:=by
 unfold hF;simp only[abB,adv,nI,pj,abm,forall_eq];exact⟨λh x a b=>h x ⟨a,b⟩,λh x ab=>h x ab.1 ab.2⟩
def IC(h:-1000<=m)(h':m<=1000):pC m=true:=by unfold pC;simp;lia
def pD(J:-1000<=i)(h2:i<=1000)(h3:-1000<=j)(h4:j<=1000):kZ i j=.ok (eT i j):=by
 have h5:(j-i).toNat<=1000000:=by lia
 unfold kZ;rw[IC J h2,IC h3 h4,decide_eq_true h5];rfl
def EU{α:Type}{p:α->Bool}{c:α}(pre)(h:p c=true):(pre++[c]).filter p=pre.filter p++[c]:=by rw[adI];simp[h]
def ET{α:Type}{p:α->Bool}{c:α}(pre)(h:p c=false):(pre++[c]).filter p=pre.filter p:=by rw[adI];simp[h]
noncomputable def d6(cs:List (List Int)):List (List Int):=(cF lexLt (cT cs)).filter λc=>!((cF lexLt (cT cs)).filter λo=>decide (c.length<o.length)).any (lies c)
def gH:SZ=16777216:=rfl
noncomputable def a9(m:Int)(ts:List (List Int)):D:=.tup [.int m,.tup (ts.map aq)]
def zF(d:D):Prop:=∀m ts,d=a9 m ts->(∀c∈ts,IsCell m c)->(cT ts).length<=63
end es
end
section
namespace cH
open Den bg es
variable{pg:eX}{Φ:fo}
mutual
theorem Xm:∀(n:Nat)(d:D),cL n d=true->cL (n+1) d=true
 |n,.dT,_=>rfl
 |n,.aP _,_=>rfl
 |n,.int _,_=>rfl
 |0,.str _,h=>h
 |n+1,.str _,h=>h
 |0,.tup _,h=>by cases h
 |n+1,.tup xs,h=>B8 n xs h
 |0,.lst _,h=>by cases h
 |n+1,.lst xs,h=>B8 n xs h
 |0,.bY _,h=>by cases h
 |0,.bH _,h=>by cases h
 |0,.cN _,h=>by cases h
 |n+1,.cN _,h=>by cases h
 |n+1,.bY _,h=>by cases h
 |n+1,.bH _,h=>by cases h
 |0,.hJ _,h=>by cases h
 |n+1,.hJ _,h=>by cases h
theorem B8:∀(n:Nat)(xs:List D),xs.all (cL n)=true->xs.all (cL (n+1))=true
 |_,[],_=>rfl
 |n,x::xs,h=>by
  simp only[List.all_cons,aa6]at h ⊢;exact⟨Xm n x h.1,B8 n xs h.2⟩
end
def RX{c:List Int}{k:Nat}(h:c[k]?=some x):fw (.tup (c.map .int)) (.int (k:Int))=.ok (.int x):=by
 rw[AO,vC,abj,h];rfl
end cH
end
section
namespace cH
open Den bg es
def D1{α:Type}{p:α->Option D}{f:α->D}{ar:List α}(h:∀k∈ar,g (f k)=.ok (p k)):cY g (ar.map f)=.ok (ar.filterMap p):=by
 induction ar with
 |nil=>rfl
 |cons c cs aD =>
  simp only[List.map_cons,cY,h c List.mem_cons_self,R.il,aD λy aN=>h y (List.mem_cons_of_mem _ aN),List.filterMap_cons];cases p c<;>rfl
def jV{α:Type}{q:α->Bool}{h:α->D}{f:α->D}{ar:List α}(e:∀k∈ar,g (f k)=.ok (if q k then some (h k) else none)):cY g (ar.map f)=.ok ((ar.filter q).map h):=by
 rw[D1 e,PH]
def iW{α:Type}{h:α->D}{f:α->D}{ar:List α}(e:∀k∈ar,g (f k)=.ok (some (h k))):cY g (ar.map f)=.ok (ar.map h):=by
 rw[D1 (p:=λk=>some (h k)) e,PI]
def pF(c):eg (aq c)=.ok (c.map .int):=rfl
def E1{α:Type}(q)(xs:List α):(xs.filter q).isEmpty=xs.all λx=>!q x:=by
 induction xs with
 |nil=>rfl
 |cons x xs aD=>cases h:q x<;>simp[h,aD]
def wA{α β:Type}(f:α->β)(xs:List α):(xs.map f).isEmpty=xs.isEmpty:=by cases xs<;>rfl
def SP(c o):cV pg Φ ⟨2,0,aW.yA⟩ [aq c,aq o]=.ok (.aP (lies c o)):=by
 have e1:cY (elem pg Φ [some (aq c),some (aq o)] (.var 2) 0 (.some (.cmp .jd (.var 2) (.var 1)))) (c.map .int)=.ok ((c.filter λx=>!decide (x∈o)).map .int):=jV λx _=>by
  simp!;unfold aq;simp![Ha];cases decide (x∈o)<;>simp!
 simp![aW.yA,pF,e1,Et (ys:=(c.filter λx=>!decide (x∈o)).map .int) (by simp[List.all_map,uk]),wA,E1,lies,Bool.not_not]
noncomputable def nK(cs:List (List Int)):List (List Int):=(cF lexLt (cT cs)).filter λc=>cs.all λo=>!(!decide (c=o)&&lies c o)
def SU(hf:∀c o:List Int,Φ f [aq c,aq o]=.ok (.aP (lies c o))){cs:List (List Int)}(hd:eg d=.ok (cs.map aq))(az:∀c∈cs,c≠[])(gL:(cT cs).length<=63):
  cV pg Φ ⟨1,2,aW.yG f⟩ [d]=.ok (.tup ((nK cs).map aq)):=by
 simp![aW.yG,hd,xj az gL];have hlen:(cF lexLt (cT cs)).length<=63:=by rw[nH];exact gL
 unfold nK;generalize cF lexLt (cT cs)=ds at *;obtain⟨bK,e,x,he⟩:=gK (f:=aq) (g:=turn pg Φ 0 [2] (.cons (.iff (.cmp .eq (.comp (.var 3) 0 (.seq (.var 0)) (.some (.and (.cmp .ne (.var 2) (.var 3)) (.call f (.cons (.var 2) (.cons (.var 3) (.nil))))))) (.lst (.nil))) (.cons (.app 1 (.var 2)) (.nil)) (.nil)) (.nil)))
  (λaJ ρ=>∃(x:Option D),ρ=[some d,some (.lst ((aJ.filter λc=>cs.all λo=>!(!decide (c=o)&&lies c o)).map aq)),x])
  ds [some d,some (.lst []),none] ⟨none,rfl⟩ (λpre c post ρ au ⟨x,bV⟩=>by
   subst bV;have e1:∀z,cY (elem pg Φ [some d,z,some (aq c)] (.var 3) 0 (.some (.and (.cmp .ne (.var 2) (.var 3)) (.call f (.cons (.var 2) (.cons (.var 3) (.nil))))))) (cs.map aq)=.ok ((cs.filter λo=>!decide (c=o)&&lies c o).map aq):=λz=>jV λo _=>by
    simp![oM,hf];cases decide (c=o)<;>simp![hf,adL,Bool.true_and];cases lies c o<;>simp!
   have ax:((pre.filter λc=>cs.all λo=>!(!decide (c=o)&&lies c o)).map aq).length<SZ:=by
    have J:=abJ (λc=>cs.all λo=>!(!decide (c=o)&&lies c o)) pre;have h2:pre.length<=ds.length:=(by rw[au];simp);rw[List.length_map,gH];lia
   simp![hd,e1,Et (xb 58 _),wA,E1];cases q:(cs.all λo=>!(!decide (c=o)&&lies c o))
   .refine⟨_,by simp!;rfl,some (aq c),?_⟩;rw[ET pre (by rw[q])]
   .refine⟨_,by simp![uX,if_pos ax];rfl,some (aq c),?_⟩;rw[EU pre (by rw[q]),List.map_append];rfl)
 rw[e,he];simp!
def uY(ag:cQ ltI c)(av:cQ ltI o)(h:∀x∈c,x∈o)(ne:c≠o):c.length<o.length:=by
 have J:c.length<=o.length:=hQ (ag.nodup i7) h;rcases aeP c.length o.length with q|q
 .exact q
 .exfalso;apply ne;refine kp i7 ag av λz=>⟨h z,λhz=>?_⟩
  by_cases Gd:z∈c
  .exact Gd
  .exfalso;have:(z::c).length<=o.length:=hQ (abv.mpr ⟨Gd,ag.nodup i7⟩) λw hw=>by
    rcases aa9.mp hw with rfl|hw
    .exact hz
    .exact h w hw
   simp at this;lia
def G2{cs:List (List Int)}(h:∀c∈cs,cQ ltI c):nK cs=d6 cs:=by
 unfold nK d6;apply List.filter_congr;intro c ag;have hm:∀z,z∈cF lexLt (cT cs)<->z∈cs:=λz=>by rw[ja,j4]
 have ag:=(hm c).mp ag;rw[Bool.eq_iff_iff];simp only[abB,abU,Bool.and_eq_false_iff,Bool.not_eq_false',abl,List.any_eq_false,abi,hm];constructor
 .intro q o ⟨av,ax⟩;rcases q o av with rfl|q
  .omega
  .rw[q];exact acd
 .intro q o av
  by_cases e:c=o
  .exact .inl e
  .refine .inr ?_;cases z:lies c o with
   |false=>rfl
   |true=>exact absurd z (q o ⟨av,uY (h c ag) (h o av) (nI.mp z) e⟩)
def oB(h:IsCell m c):c.length<=m.toNat:=by
 have:c.length<=(cZ m).length:=hQ (h.2.2.nodup i7) λz hz=>pj.mpr (h.2.1 z hz)
 simpa[cZ] using this
theorem EX{k:Nat}:∀{ts:List (List Int)},(∀c∈ts,c.length<=k)->ts.flatten.length<=ts.length*k
 |[],_=>by simp
 |t::ts,h=>by
  have:=EX (ts:=ts) λc ag=>h c (List.mem_cons_of_mem _ ag)
  have J:=h t List.mem_cons_self;simp only[List.flatten_cons,List.length_append,List.length_cons,Nat.succ_mul];lia
def wb(h:m<=6):(cZ m).length<=6:=by unfold cZ;simp;lia
noncomputable def c7:Nat->List Int->List (List Int)
 |0,_=>[[]]
 |_+1,[]=>[]
 |s+1,x::r=>(c7 s r).map (x::·)++c7 (s+1) r
theorem tM:∀(s:Nat)(c z:List Int),z∈c7 s c<->z.length=s/\z.Sublist c
 |0,c,z=>by
  simp only[c7,abm,List.length_eq_zero_iff];exact⟨λh=>⟨h,by subst h;exact adw _⟩,λh=>h.1⟩
 |s+1,[],z=>by
  simp only[c7,aeI,aed,false_iff];rintro⟨J,h2⟩;subst h2;simp at J
 |s+1,x::r,z=>by
  simp only[c7,abq,List.mem_map,tM s r,tM (s+1) r,List.sublist_cons_iff];constructor
  .rintro(⟨y,⟨J,h2⟩,rfl⟩|⟨J,h2⟩)
   .exact⟨by simp[J],.inr ⟨y,rfl,h2⟩⟩
   .exact⟨J,.inl h2⟩
  .rintro⟨J,h2|⟨y,rfl,h2⟩⟩
   .exact .inr ⟨J,h2⟩
   .exact .inl ⟨y,⟨by simpa using J,h2⟩,rfl⟩
theorem tF:∀(s:Nat)(c:List Int),(c7 s c).length<=2 ^ c.length
 |0,c=>by simp only[c7,List.length_singleton];exact Nat.one_le_two_pow
 |s+1,[]=>by simp[c7]
 |s+1,x::r=>by
  have J:=tF s r;have h2:=tF (s+1) r;simp only[c7,List.length_append,List.length_map,List.length_cons,Nat.pow_succ];lia
noncomputable def cf:Nat->Nat->Nat
 |0,_=>1
 |_+1,0=>0
 |s+1,n+1=>cf s n+cf (s+1) n
theorem BK:∀(s:Nat)(c:List Int),(c7 s c).length=cf s c.length
 |0,c=>by simp[c7,cf]
 |s+1,[]=>by simp[c7,cf]
 |s+1,x::r=>by simp only[c7,List.length_append,List.length_map,List.length_cons,cf,BK s r,BK (s+1) r]
theorem BG:∀{s n:Nat},n<s->cf s n=0
 |0,_,h=>by lia
 |s+1,0,_=>rfl
 |s+1,n+1,h=>by simp only[cf,BG (s:=s) (n:=n) ⋯,BG (s:=s+1) (n:=n) ⋯]
def Vc{s n:Nat}(h:n<=6):cf s n<=20:=by
 rcases aeP n s with q|q
 .rw[BG q];lia
 .have:∀n:Fin 7,∀s:Fin 7,cf s.val n.val<=20:=∅;exact this ⟨n,⋯⟩ ⟨s,⋯⟩
theorem H9:∀(s:Nat)(c:List Int),c7 (s+1) c=(List.range c.length).flatMap λk=>(c7 s (c.drop (k+1))).map (c.getD k 0::·)
 |s,[]=>rfl
 |s,x::r=>by
  rw[List.length_cons,adW,List.flatMap_cons,List.flatMap_map];show _=(c7 s r).map (x::·)++(List.range r.length).flatMap λk=>(c7 s (r.drop (k+1))).map (r.getD k 0::·)
  rw[<- H9 s r];rfl
def RY{c:List Int}{k:Nat}(h:k<c.length):fw (.tup (c.map .int)) (.int (k:Int))=.ok (.int (c.getD k 0)):=RX (by rw[abc h];simp[List.getD,abc h])
def w1(n:Nat):eT 0 (n:Int)=(List.range n).map λ(k:Nat)=>D.int (k:Int):=by
 unfold eT;have:((n:Int)-0).toNat=n:=by lia
 rw[this];apply abM;intro k _;congr 1;lia
theorem vy{α β:Type}{f:α->List β}{k:Nat}:∀{xs:List α},(∀x∈xs,(f x).length<=k)->(xs.flatMap f).length<=xs.length*k
 |[],_=>by simp
 |x::xs,h=>by
  have:=vy (f:=f) (xs:=xs) λc ag=>h c (List.mem_cons_of_mem _ ag)
  have J:=h x List.mem_cons_self;simp only[List.flatMap_cons,List.length_append,List.length_cons,Nat.succ_mul];lia
def UC(c):cV pg Φ ⟨2,2,aW.qb f⟩ [aq c,.int 0]=.ok (.lst ((c7 0 c).map aq)):=by
 have e:fG (.int 0) (.int 0)=.ok true:=rfl;simp![aW.qb,e,c7];rfl
def UD{s:Nat}(ag:c.length<=8)(hf:∀cW:List Int,cW.length<=8->Φ f [aq cW,.int (s:Int)]=.ok (.lst ((c7 s cW).map aq))):cV pg Φ ⟨2,2,aW.qb f⟩ [aq c,.int ((s:Int)+1)]=.ok (.lst ((c7 (s+1) c).map aq)):=by
 have h0:((s:Int)+1==0)=false:=by rw[abH];lia
 have J:kP (aq c)=.ok (.int (c.length:Int)):=by unfold aq;rw[wm,List.length_map]
 simp![aW.qb,h0,J,pD (i:=0) (j:=(c.length:Int)) ⋯ ⋯ ⋯ ⋯,w1];have oz:∀ar:List Nat,ar.length<=8->(ar.flatMap λk=>(c7 s (c.drop (k+1))).map (c.getD k 0::·)).length<=2048:=λar aw=>by
  have:=vy (f:=λk=>(c7 s (c.drop (k+1))).map (c.getD k 0::·)) (k:=256) (xs:=ar) λk _=>by
   have h2:=tF s (c.drop (k+1));have h3:(c.drop (k+1)).length<=8:=(by rw[acM];lia);have h4:2 ^ (c.drop (k+1)).length<=2 ^ 8:=abT ∅ h3;rw[List.length_map];lia
  lia
 obtain⟨bK,e,x,he⟩:=gK (f:=λk:Nat=>D.int (k:Int)) (g:=turn pg Φ 0 [3] (.cons (.asg 2 (.bin .add (.var 2) (.comp (.bin .add (.tup (.cons (.idx (.var 0) (.var 3)) (.nil))) (.var 4)) 0 (.seq (.call f (.cons (.slice (.var 0) (.some (.bin .add (.var 3) (.lit (.int 1)))) (.none)) (.cons (.bin .sub (.var 1) (.lit (.int 1))) (.nil))))) (.none)))) (.nil)))
  (λaJ ρ=>∃(x:Option D),ρ=[some (aq c),some (.int ((s:Int)+1)),some (.lst ((aJ.flatMap λk=>(c7 s (c.drop (k+1))).map (c.getD k 0::·)).map aq)),x])
  (List.range c.length) [some (aq c),some (.int ((s:Int)+1)),some (.lst []),none] ⟨none,rfl⟩ (λpre k post ρ au ⟨x,bV⟩=>by
   subst bV;have aw:k<c.length:=by
    have:k∈List.range c.length:=(by rw[au];simp);exact List.mem_range.mp this
   have dV:pre.length+1<=c.length:=by
    have:(List.range c.length).length=(pre++k::post).length:=(by rw[au]);simp at this;lia
   have ae:k4 (aq c) (some ((k:Int)+1)) none=.ok (aq (c.drop (k+1))):=by
    unfold aq;rw[xf];have:((k:Int)+1)=((k+1:Nat):Int):=⋯;rw[this,D7,List.map_drop]
   have gy:(s:Int)+1-1=(s:Int):=⋯;have hd:(c.drop (k+1)).length<=8:=(by rw[acM];lia);have e1:∀a b,cY (elem pg Φ [some (aq c),a,b,some (D.int (k:Int))] (.bin .add (.tup (.cons (.idx (.var 0) (.var 3)) (.nil))) (.var 4)) 0 .none) ((c7 s (c.drop (k+1))).map aq)=.ok ((c7 s (c.drop (k+1))).map λz=>aq (c.getD k 0::z)):=λa b=>iW λz hz=>by
    have hz:=(tM _ _ _).mp hz;have aax:=hz.2.length_le;have eR:=RY aw;have ax:[D.int (c.getD k 0)].length+(z.map D.int).length<=SZ:=(by rw[List.length_map,gH];simp only[List.length_singleton];lia);simp!;unfold aq;simp![eR,rR];rw[if_pos (by simpa using ax)];rfl
   have hlen:((pre.flatMap λk=>(c7 s (c.drop (k+1))).map (c.getD k 0::·)).map aq).length+((c7 s (c.drop (k+1))).map λz=>aq (c.getD k 0::z)).length<=SZ:=by
    have J:=oz pre ⋯;have h2:=tF s (c.drop (k+1));have h4:2 ^ (c.drop (k+1)).length<=2 ^ 8:=abT ∅ hd;rw[List.length_map,List.length_map,gH];lia
   refine⟨_,by simp![ae,gy,hf _ hd,e1,mO,if_pos hlen];rfl,some (.int (k:Int)),?_⟩;simp[ac2])
 rw[e,he,<- H9];simp!
theorem HO{fds:List lu}(hf:fds[f]?=some ⟨2,2,aW.qb f⟩):∀(s n:Nat)(c:List Int),s<n->c.length<=8->run pg fds n f [aq c,.int (s:Int)]=.ok (.lst ((c7 s c).map aq))
 |0,0,c,h,_=>by lia
 |s+1,0,c,h,_=>by lia
 |0,n+1,c,_,_=>by rw[ub,hf];exact UC c
 |s+1,n+1,c,h,ag=>by
  rw[ub,hf];have:((s+1:Nat):Int)=(s:Int)+1:=⋯;rw[this];exact UD ag λcW cD=>HO hf s n cW ⋯ cD
theorem ov:∀{o c:List Int},cQ ltI c->cQ ltI o->(∀x∈c,x∈o)->c.Sublist o
 |[],[],_,_,_=>adw _
 |[],x::c,_,_,h=>by have:=h x List.mem_cons_self;simp at this
 |y::o,[],_,_,_=>adw _
 |y::o,x::c,ag,av,h=>by
  obtain⟨cR,b4⟩:=aby.mp ag;obtain⟨hS,eC⟩:=aby.mp av
  by_cases e:x=y
  .subst e;refine List.Sublist.cons_cons x (ov b4 eC λz hz=>?_);rcases aa9.mp (h z (List.mem_cons_of_mem _ hz)) with q|q
   .have:=cR z hz;subst q;simp[ltI]at this
   .exact q
  .have ak:x∈o:=by
    rcases aa9.mp (h x List.mem_cons_self) with q|q
    .exact absurd q e
    .exact q
   have tn:=hS x ak;refine List.Sublist.cons y (ov ag eC λz hz=>?_);rcases aa9.mp (h z hz) with q|q
   .exfalso;subst q;rcases aa9.mp hz with w|w
    .exact e w.symm
    .have:=cR z w;simp[ltI]at this tn;lia
   .exact q
noncomputable def mT(ts:List (List Int))(h:Nat):List (List Int):=cF lexLt (cT (ts.flatMap (c7 (h+1))))
def Tu:z∈mT ts h<->z.length=h+1/\∃t∈ts,z.Sublist t:=by
 unfold mT;rw[ja,j4,acO];simp only[tM];exact⟨λ⟨t,a,b,c⟩=>⟨b,t,a,c⟩,λ⟨b,t,a,c⟩=>⟨t,a,b,c⟩⟩
def LC(ts)(h):cQ lexLt (mT ts h):=kq kQ (nQ _)
def Ds(m):cQ ltI (cZ m):=by
 unfold cZ cQ;rw[abK];exact acj (λ{a b}(q:a<b)=>by simp[ltI];lia) adb
def Mm(h:IsCell m c):c.Sublist (cZ m):=ov h.2.2 (Ds m) λx ak=>pj.mpr (h.2.1 x ak)
def SM{f h:Nat}(hf:∀c:List Int,c.length<=8->Φ f [aq c,.int ((h:Int)+1)]=.ok (.lst ((c7 (h+1) c).map aq)))(ay:∀t∈ts,t.length<=8)(ax:ts.length<=63)(gL:(mT ts h).length<=63):
  cV pg Φ ⟨2,2,aW.yu f⟩ [a9 m ts,.int (h:Int)]=.ok (.lst ((mT ts h).map aq)):=by
 have ai:fw (a9 m ts) (.int 1)=.ok (.tup (ts.map aq)):=rfl;simp![aW.yu,ai];have oz:∀ar:List (List Int),ar.length<=63->(∀t∈ar,t.length<=8)->(ar.flatMap (c7 (h+1))).length<=65280:=λar aw cJ=>by
  have:=vy (f:=c7 (h+1)) (k:=256) (xs:=ar) λt o4=>by
   have h2:=tF (h+1) t;have h4:2 ^ t.length<=2 ^ 8:=abT ∅ (cJ t o4);lia
  lia
 obtain⟨bK,e,x,he⟩:=gK (f:=aq) (g:=turn pg Φ 0 [3] (.cons (.asg 2 (.bin .add (.var 2) (.call f (.cons (.var 3) (.cons (.bin .add (.var 1) (.lit (.int 1))) (.nil)))))) (.nil)))
  (λaJ ρ=>∃(x:Option D),ρ=[some (a9 m ts),some (.int (h:Int)),some (.lst ((aJ.flatMap (c7 (h+1))).map aq)),x])
  ts [some (a9 m ts),some (.int (h:Int)),some (.lst []),none] ⟨none,rfl⟩ (λpre t post ρ au ⟨x,bV⟩=>by
   subst bV;have tg:t∈ts:=(by rw[au];simp);have dV:pre.length+1<=ts.length:=(by rw[au];simp);have J:=oz pre ⋯ λt o4=>ay t (by rw[au];simp[o4])
   have h2:=oz [t] (by simp) λz hz=>by simp at hz;subst hz;exact ay z tg
   have hlen:((pre.flatMap (c7 (h+1))).map aq).length+((c7 (h+1) t).map aq).length<=SZ:=by
    simp at h2;rw[List.length_map,List.length_map,gH];lia
   refine⟨_,by simp![hf t (ay t tg),mO,if_pos hlen];rfl,some (aq t),?_⟩;simp[ac2])
 rw[e,he];have az:∀c∈ts.flatMap (c7 (h+1)),c≠[]:=λc ag=>by
  obtain⟨t,_,ag⟩:=acO.mp ag;intro z;subst z;have:=((tM _ _ _).mp ag).1;simp at this
 have:(cT (ts.flatMap (c7 (h+1)))).length<=63:=by unfold mT at gL;rw[nH]at gL;exact gL
 simp![xj az this,mT]
noncomputable def Kb:D->Int
 |.int i=>i
 |_=>0
def l8(i j)(h:(-hc<i/\i<hc)\/(-hc<j/\j<hc)):ec .mul (.int i) (.int j)=.ok (.int (i*j)):=by rw[mul_int,if_pos h]
def hP(i j)(h:0<j):ec .mod (.int i) (.int j)=.ok (.int (i%j)):=by rw[mod_int,if_pos h]
def qn(i j)(h:0<j)(h':j<1073741824):ec .fdiv (.int i) (.int j)=.ok (.int (i / j)):=by rw[ER,if_pos ⟨h,h'⟩]
def kh:hc=18446744073709551616:=rfl
noncomputable def og:Int:=2147483629
def C4:og=2147483629:=rfl
def lK(a){b:Int}(h:0<b):0<=a%b/\a%b<b:=⟨aeU a ⋯,aes a h⟩
def N1(i k):∃r:Int,0<=r/\r<og/\cV pg Φ ⟨2,1,aW.yv⟩ [.int i,.int k]=.ok (.int r):=by
 have b1:=lK ((i+104729*k+17)*69621) (b:=2147483647) ∅;refine⟨((i+104729*k+17)*69621%2147483647*((i+104729*k+17)*69621%2147483647)+3*((i+104729*k+17)*69621%2147483647)+k)%2147483629,?_,?_,by
  simp![aW.yv,l8 104729 k (.inl (by rw[kh];lia)),l8 _ 69621 (.inr (by rw[kh];lia)),hP _ 2147483647 ∅,hP _ 2147483629 ∅,
   l8 ((i+104729*k+17)*69621%2147483647) ((i+104729*k+17)*69621%2147483647) (.inl (by rw[kh];lia)),l8 3 ((i+104729*k+17)*69621%2147483647) (.inl (by rw[kh];lia))]⟩
 .exact(lK _ ∅).1
 .rw[C4];exact(lK _ ∅).2
def Ml(is:List Int)(k:Nat):cV pg Φ ⟨2,0,aW.yt⟩ [.lst (is.map .int),.int (k:Int)]=.ok (.int (is.getD k 0)):=by
 simp![aW.yt,List.length_map]
 by_cases h:k<is.length
 .have h':(k:Int)<(is.length:Int):=⋯;have e:fw (.lst (is.map D.int)) (.int (k:Int))=.ok (.int (is.getD k 0)):=by
   rw[tr,vC,abj,abc h];simp[List.getD,abc h]
  simp![decide_eq_true h',e]
 .have h':¬(k:Int)<(is.length:Int):=⋯;have e:is.getD k 0=0:=(by simp[List.getD,abC (aeG h)]);simp![decide_eq_false h',e]
def Tz{is:List Int}(hf:∀k:Nat,Φ f [.lst (is.map .int),.int (k:Int)]=.ok (.int (is.getD k 0)))(k:Nat):∃r:Int,0<=r/\r<og/\cV pg Φ ⟨2,1,aW.yB f⟩ [.lst (is.map .int),.int (k:Int)]=.ok (.int r):=by
 have b1:=lK ((is.getD k 0+7919*(k:Int)+1)*48271) (b:=2147483647) ∅;refine⟨((is.getD k 0+7919*(k:Int)+1)*48271%2147483647*((is.getD k 0+7919*(k:Int)+1)*48271%2147483647)+7*((is.getD k 0+7919*(k:Int)+1)*48271%2147483647)+(k:Int))%2147483629,?_,?_,by
  simp![aW.yB,hf,l8 7919 (k:Int) (.inl (by rw[kh];lia)),l8 _ 48271 (.inr (by rw[kh];lia)),hP _ 2147483647 ∅,hP _ 2147483629 ∅,
   l8 ((is.getD k 0+7919*(k:Int)+1)*48271%2147483647) ((is.getD k 0+7919*(k:Int)+1)*48271%2147483647) (.inl (by rw[kh];lia)),l8 7 ((is.getD k 0+7919*(k:Int)+1)*48271%2147483647) (.inl (by rw[kh];lia))]⟩
 .exact(lK _ ∅).1
 .rw[C4];exact(lK _ ∅).2
def XA(hf:∀i k:Int,∃r:Int,0<=r/\r<og/\Φ f [.int i,.int k]=.ok (.int r))(i m)(J:1<=m)(cJ:m<=6):
  ∃cs:List (List Int),cV pg Φ ⟨2,4,aW.yF f⟩ [.int i,.int m]=.ok (.lst (cs.map aq))/\(∀c∈cs,IsCell m c)/\hF m cs=true/\cs.length<=16:=by
 have aV:=pD (i:=0) (j:=m) ⋯ ⋯ ⋯ ⋯;have LK:=lK i (b:=9) ∅;have Rq:=pD (i:=0) (j:=i%9) ⋯ ⋯ ⋯ ⋯;have oK:eT 0 (i%9)=(cZ (i%9)).map .int:=w2 _;have e0:cY (elem pg Φ [some (.int i),some (.int m),none,none,none,none] (.tup (.cons (.var 6) (.nil))) 0 .none) ((cZ m).map .int)=.ok ((cZ m).map λk=>aq [k]):=iW λk _=>by
  simp!;rfl
 simp![aW.yF,aV,w2,e0,hP i 9 ∅,Rq];have h0:∀k∈cZ m,IsCell m [k]:=λk aw=>⟨by simp,by simpa using pj.mp aw,acF _ _⟩
 obtain⟨bK,e,cs,x,y,z,he,ag,ax⟩:=gK (f:=D.int) (g:=turn pg Φ 0 [3] (.cons (.asg 4 (.call f (.cons (.var 0) (.cons (.var 3) (.nil))))) (.cons (.asg 5 (.tupI (.seq (.comp (.var 6) 0 (.ff (.var 1)) (.some (.cmp .lt (.bin .mod (.call f (.cons (.var 4) (.cons (.var 6) (.nil)))) (.lit (.int 5))) (.bin .add (.lit (.int 2)) (.bin .mod (.var 4) (.lit (.int 2)))))))))) (.cons (.iff (.cmp .ne (.var 5) (.tup (.nil))) (.cons (.app 2 (.var 5)) (.nil)) (.nil)) (.nil)))))
  (λaJ ρ=>∃(cs:List (List Int))(x y z:Option D),ρ=[some (.int i),some (.int m),some (.lst (((cZ m).map λk=>[k]).map aq++cs.map aq)),x,y,z]/\(∀c∈cs,IsCell m c)/\cs.length<=aJ.length)
  (cZ (i%9)) [some (.int i),some (.int m),some (.lst ((cZ m).map λk=>aq [k])),none,none,none] ⟨[],none,none,none,by simp[Function.comp_def],by simp,by simp⟩ (λpre k post ρ au ⟨cs,x,y,z,bV,ag,ax⟩=>by
   subst bV;obtain⟨r,aH,aX,Rp⟩:=hf i k;have ex:∃q:Int->Bool,∀x y z,cY (elem pg Φ [some (.int i),some (.int m),x,y,some (.int r),z] (.var 6) 0 (.some (.cmp .lt (.bin .mod (.call f (.cons (.var 4) (.cons (.var 6) (.nil)))) (.lit (.int 5))) (.bin .add (.lit (.int 2)) (.bin .mod (.var 4) (.lit (.int 2))))))) ((cZ m).map .int)=.ok (((cZ m).filter q).map .int):=by
    obtain⟨g,aQ⟩:∃g:Int->Int,∀k,Φ f [.int r,.int k]=.ok (.int (g k)):=⟨λk=>Classical.choose (hf r k),λk=>(Classical.choose_spec (hf r k)).2.2⟩;refine⟨λk=>decide (g k%5<2+r%2),λx y z=>jV λk _=>?_⟩;have ae:=aQ k;simp![ae,hP _ 5 ∅,hP _ 2 ∅]
    split<;>rfl
   obtain⟨q,aE⟩:=ex;have gy:((cZ m).filter q).Sublist (cZ m):=aci;simp![Rp,aV,w2,aE];have az:fG (.tup (((cZ m).filter q).map .int)) (.tup [])=.ok ((cZ m).filter q).isEmpty:=by
    rw[Ew (by simp[List.all_map,uk]),wA]
   simp![az];have dV:pre.length+1<=9:=by
    have J:(cZ (i%9)).length=(pre++k::post).length:=(by rw[<- au]);have h2:(cZ (i%9)).length<=9:=(by unfold cZ;simp;lia);simp at J;lia
   cases F2:((cZ m).filter q).isEmpty
   .have dJ:(cZ m).filter q≠[]:=(by intro z;rw[z]at F2;cases F2);have oV:IsCell m ((cZ m).filter q):=⟨dJ,λx ak=>pj.mp (gy.subset ak),abx gy (Ds m)⟩;have hlen:(((cZ m).map λk=>[k]).map aq++cs.map aq).length<SZ:=by
     have:=wb cJ;simp only[List.length_append,List.length_map,gH];lia
    refine⟨_,by simp![uX,if_pos hlen];rfl,cs++[(cZ m).filter q],_,_,_,by simp only[List.map_append,acW];rfl,λc cD=>?_,by simp;lia⟩;rcases abq.mp cD with w|w
    .exact ag c w
    .simp at w;subst w;exact oV
   .exact⟨_,by simp!;rfl,cs,_,_,_,rfl,ag,by simp;lia⟩)
 rw[e,he];simp!;refine⟨((cZ m).map λk=>[k])++cs,by rw[List.map_append],λc cD=>?_,?_,?_⟩
 .rcases abq.mp cD with w|w
  .obtain⟨k,aw,rfl⟩:=List.mem_map.mp w;exact h0 k aw
  .exact ag c w
 .rw[u9];intro x a b;exact⟨[x],by simp[pj];exact .inl ⟨a,b⟩,by simp⟩
 .have:=wb cJ;have h2:(cZ (i%9)).length<=8:=(by unfold cZ;simp;lia);simp only[List.length_append,List.length_map];lia
def jA{cs:List (List Int)}:c∈d6 cs<->c∈cs/\∀o∈cs,c.length<o.length->¬lies c o=true:=by
 unfold d6;simp only[abi,ja,j4,abU,List.any_eq_false,abl,and_imp]
def uZ(cs):cQ lexLt (d6 cs):=abx aci (kq kQ (nQ _))
def Ze(cs):d6 (d6 cs)=d6 cs:=by
 refine kp kQ (uZ _) (uZ _) λz=>?_
 rw[jA];refine⟨λh=>h.1,λh=>⟨h,λo av ax=>(jA.mp h).2 o (jA.mp av).1 ax⟩⟩
theorem CA{cs:List (List Int)}(h:∀c∈cs,IsCell m c):∀(n:Nat)(c:List Int),c∈cs->m.toNat<=c.length+n->∃t∈d6 cs,∀x∈c,x∈t
 |0,c,ag,az=>⟨c,jA.mpr ⟨ag,λo av ax=>by have:=oB (h o av);lia⟩,λ_ ak=>ak⟩
 |n+1,c,ag,az=>by
  by_cases q:∀o∈cs,c.length<o.length->¬lies c o=true
  .exact⟨c,jA.mpr ⟨ag,q⟩,λ_ ak=>ak⟩
  .obtain⟨o,av,ax,ae⟩:∃o,o∈cs/\c.length<o.length/\lies c o=true:=by
    apply ach;intro z;exact q λo av ax ae=>z ⟨o,av,ax,ae⟩
   obtain⟨t,ay,Ru⟩:=CA h n o av ⋯;exact⟨t,ay,λx ak=>Ru x (nI.mp ae x ak)⟩
structure Net(m:Int)(ts:List (List Int)):Prop where
 lo:1<=m
 ai:m<=6
 cell:∀c∈ts,IsCell m c
 top:ts=d6 ts
 hF:hF m ts=true
def Hp{cs:List (List Int)}(J:1<=m)(cJ:m<=6)(ag:∀c∈cs,IsCell m c)(aI:hF m cs=true):Net m (d6 cs) where
 lo:=J
 ai:=cJ
 cell:=λc h=>ag c (jA.mp h).1
 top:=(Ze cs).symm
 hF:=by
  rw[u9]at aI ⊢;intro x a b;obtain⟨c,h,ak⟩:=aI x a b;obtain⟨t,ay,ae⟩:=CA ag m.toNat c h ⋯;exact⟨t,ay,ae x ak⟩
def Kd(cs):(d6 cs).length<=cs.length:=by
 unfold d6;have J:=abJ (λc=>!((cF lexLt (cT cs)).filter λo=>decide (c.length<o.length)).any (lies c)) (cF lexLt (cT cs));have h2:=ve cs;rw[nH]at J;lia
def Hq{cs:List (List Int)}(hf:∀cs:List (List Int),(∀c∈cs,c≠[])->(cT cs).length<=63->Φ i0 [.lst (cs.map aq)]=.ok (.tup ((nK cs).map aq)))(J:1<=m)(cJ:m<=6)(ax:cs.length<=20)(Qg:∀c∈cs,c.length<=63)(ag:∀c∈cs,IsCell m (cF ltI c))(aI:hF m (cs.map (cF ltI))=true):
  ∃ts,sy (eP pg Φ [some a,some b,some (.int m),some c,some (.lst (cs.map aq))] (.cons (.ret (.tup (.cons (.var 2) (.cons (.call i0 (.cons (.comp (.tupI (.seq (.prim .sorted (.var 5)))) 0 (.seq (.var 4)) (.none)) (.nil))) (.nil))))) (.nil)))=.ok (a9 m ts)/\Net m ts/\ts.length<=20:=by
 have h6:∀c∈cs.map (cF ltI),IsCell m c:=λc cD=>by obtain⟨o,av,rfl⟩:=List.mem_map.mp cD;exact ag o av
 refine⟨d6 (cs.map (cF ltI)),?_,Hp J cJ h6 aI,by have:=Kd (cs.map (cF ltI));rw[List.length_map]at this;lia⟩;have e1:cY (elem pg Φ [some a,some b,some (.int m),some c,some (.lst (cs.map aq))] (.tupI (.seq (.prim .sorted (.var 5)))) 0 .none) (cs.map aq)=.ok (cs.map λc=>aq (cF ltI c)):=iW λc cD=>by
  simp![pF,XB (Qg c cD)];rfl
 have e2:(cs.map λc=>aq (cF ltI c))=(cs.map (cF ltI)).map aq:=by rw[List.map_map];rfl
 have gL:(cT (cs.map (cF ltI))).length<=63:=by have:=ve (cs.map (cF ltI));rw[List.length_map]at this;lia
 simp![e1,e2,hf _ (λc cD=>(h6 c cD).1) gL,G2 (λc cD=>(h6 c cD).2.2)];rfl
def Ce(h:IsCell m c):cF ltI c=c:=XF i7 h.2.2
def Jw{cs:List (List Int)}(h:∀c∈cs,IsCell m c):cs.map (cF ltI)=cs:=by
 conv=>rhs;rw[<- aeh cs]
 exact abM λc ag=>Ce (h c ag)
noncomputable def DO:Bool:=(List.range 7).all λm=>(List.range 7).all λs=>(decide (s=0)||decide (m<s))||((c7 s (cZ (m:Int))).all (λc=>decide (IsCell (m:Int) c))&&hF (m:Int) (c7 s (cZ (m:Int))))
def y2:DO=true:=by decide +kernel
def Lb{s:Nat}(J:1<=m)(el:m<=6)(ae:1<=s)(F4:(s:Int)<=m):(∀c∈c7 s (cZ m),IsCell m c)/\hF m (c7 s (cZ m))=true:=by
 have h:=y2;unfold DO at h;rw[abB]at h;have h:=h m.toNat (List.mem_range.mpr ⋯);rw[abB]at h;have h:=h s (List.mem_range.mpr ⋯);have e:((m.toNat:Nat):Int)=m:=by lia
 rw[e]at h;have eS:¬s=0:=by lia
 have d2:¬m.toNat<s:=by lia
 simp only[decide_eq_false eS,decide_eq_false d2,Bool.or_self,Bool.false_or,aa6,abB,abl]at h;exact h
noncomputable def bt(c:List Int):List (List Int):=if 1<c.length then(List.range c.length).map λk=>c.take k++c.drop (k+1) else []
noncomputable def bX(a b:List (List Int)):List (List Int):=cF lexLt (cT (a.filter (λx=>!decide (x∈b))++b.filter λx=>!decide (x∈a)))
def yf(h:cQ lexLt xs):xs.Nodup:=acj (λ{a b} h e=>by subst e;rw[kQ.gf]at h;cases h) h
def iw(h:cQ ltI xs):xs.Nodup:=acj (λ{a b} h e=>by subst e;rw[i7.gf]at h;cases h) h
noncomputable def cnt(e:List Int)(cs:List (List Int)):Nat:=cs.countP λc=>decide (e∈bt c)
theorem wX{α:Type}(lt):∀xs:List α,(cF lt xs).Perm xs
 |[]=>.nil
 |x::xs=>(tX lt x (cF lt xs)).trans ((wX lt xs).cons x)
 where tX {α:Type} (lt:α->α->Bool) (x:α):∀ys:List α,(ins lt x ys).Perm (x::ys)
  |[]=>.refl _
  |y::ys=>by
   unfold ins
   split
   .exact((tX lt x ys).cons y).trans (List.Perm.swap x y ys)
   .exact .refl _
def tY{α:Type}[DecidableEq α]{xs ys:List α}(ak:xs.Nodup)(aN:ys.Nodup)(h:∀z,z∈xs<->z∈ys):xs.Perm ys:=(List.perm_ext_iff_of_nodup ak aN).mpr h
def fV(h:cQ ltI c):e∈bt c<->1<c.length/\e.length+1=c.length/\e.Sublist c:=by
 unfold bt;constructor
 .intro he
  split at he
  .rename_i ax;obtain⟨k,aw,rfl⟩:=List.mem_map.mp he;have aw:=List.mem_range.mp aw;refine⟨ax,by rw[List.length_append,acL,acM];lia,?_⟩
   conv=>rhs;rw[<- adY k c]
   refine List.Sublist.append (adn _) ?_;rw[acS aw];exact List.sublist_cons_self _ _
  .cases he
 .rintro⟨ax,J,ae⟩;rw[if_pos ax];refine List.mem_map.mpr ?_;have key:∀{e c:List Int},e.Sublist c->e.length+1=c.length->∃k,k<c.length/\c.take k++c.drop (k+1)=e:=by
   intro e c ae
   induction ae with
   |slnil=>intro z;cases z
   |@cons e c x ae aD =>
    intro z;have:e.length=c.length:=(by simpa using z);exact⟨0,by simp,by simpa using (ae.eq_of_length this).symm⟩
   |@cons_cons e c x ae aD =>
    intro z;obtain⟨k,aw,oL⟩:=aD (by simpa using z);exact⟨k+1,by simpa using aw,by simp[oL]⟩
  obtain⟨k,aw,oL⟩:=key ae J;exact⟨k,List.mem_range.mpr aw,oL⟩
def rh(h:cQ ltI c)(he:e∈bt c):cQ ltI e:=abx ((fV h).mp he).2.2 h
def Ou(ag:cQ ltI c)(he:cQ ltI e)(ae:e.Sublist c){k:Nat}(aw:k<c.length):e.Sublist (c.take k++c.drop (k+1))<->c[k]∉e:=by
 have az:=iw ag;have hd:(c.take k++c[k]::c.drop (k+1))=c:=by rw[<- acS aw,adY]
 rw[<- hd]at az;have vQ:∀x,x∈c<->x=c[k]\/x∈c.take k++c.drop (k+1):=λx=>by
  conv=>lhs;rw[<- hd]
  simp only[abq,aa9];constructor
  .rintro(h|h|h)
   .exact .inr (.inl h)
   .exact .inl h
   .exact .inr (.inr h)
  .rintro(h|h|h)
   .exact .inr (.inl h)
   .exact .inl h
   .exact .inr (.inr h)
 have i6:c[k]∉c.take k++c.drop (k+1):=λz=>by
  have:=List.perm_middle.nodup_iff.mp az;exact(abv.mp this).1 z
 have gy:(c.take k++c.drop (k+1)).Sublist c:=by
  conv=>rhs;rw[<- hd]
  exact List.Sublist.append (adn _) (List.sublist_cons_self _ _)
 constructor
 .exact λz w=>i6 (z.subset w)
 .exact λz=>ov he (abx gy ag) λx ak=>((vQ x).mp (ae.subset ak)).elim (λe=>absurd (e▸ak) z) id
theorem GF{α:Type}(p):∀c:List α,c.length=c.countP p+c.countP (λx=>!p x)
 |[]=>rfl
 |x::c=>by
  rw[List.length_cons,GF p c,ad5,ad5];cases p x<;>simp<;>lia
def D4{α:Type}[DecidableEq α]{c e:List α}(ag:c.Nodup)(he:e.Nodup)(ae:∀x∈e,x∈c):c.countP (λx=>!decide (x∈e))+e.length=c.length:=by
 have J:(c.filter λx=>decide (x∈e)).Perm e:=tY (ag.filter _) he λz=>by
  rw[abi];simp only[abl];exact⟨λh=>h.2,λh=>⟨ae z h,h⟩⟩
 have h2:c.length=(c.filter λx=>decide (x∈e)).length+(c.filter λx=>!decide (x∈e)).length:=by
  rw[<- aco,<- aco];exact GF (λx=>decide (x∈e)) c
 rw[J.length_eq]at h2;rw[aco];lia
def zi(ag:cQ ltI c)(e):cnt e (bt c)=0\/cnt e (bt c)=2:=by
 by_cases ax:1<c.length
 .by_cases ae:e.Sublist c/\e.length+2=c.length/\2<c.length
  .obtain⟨ae,h2,h3⟩:=ae;have he:cQ ltI e:=abx ae ag;right;have e1:cnt e (bt c)=c.countP λx=>!decide (x∈e):=by
    unfold cnt;rw[show bt c=(List.range c.length).map (λk=>c.take k++c.drop (k+1)) from if_pos ax,adF];have:c=(List.range c.length).map λk=>c.getD k 0:=by
     apply List.ext_getElem
     .simp
     .intro i J h2;simp[List.getD,J]
    conv=>rhs;rw[this]
    rw[adF];refine adm λk aw=>?_
    have aw:=List.mem_range.mp aw;have AJ:cQ ltI (c.take k++c.drop (k+1)):=rh ag (by unfold bt;rw[if_pos ax];exact List.mem_map.mpr ⟨k,List.mem_range.mpr aw,rfl⟩);have hlen:(c.take k++c.drop (k+1)).length+1=c.length:=(by rw[List.length_append,acL,acM];lia);simp only[Function.comp,abl,abU,aeJ];rw[fV AJ,Ou ag he ae aw];have:c.getD k 0=c[k]:=(by simp[List.getD,aw]);rw[this];exact⟨λz=>z.2.2,λz=>⟨⋯,⋯,z⟩⟩
   rw[e1];have:=D4 (iw ag) (iw he) λx ak=>ae.subset ak
   lia
  .left;unfold cnt;rw[aen];intro d hd;simp only[abl];intro z;obtain⟨_,b2,cX⟩:=(fV ag).mp hd;obtain⟨a1,a2,a3⟩:=(fV (rh ag hd)).mp z;exact ae ⟨a3.trans cX,⋯,⋯⟩
 .left;unfold cnt bt;rw[if_neg ax];rfl
def mh(ag:cQ ltI c):(bt c).Nodup:=by
 unfold bt
 split
 .rw[abk,abK];refine abN (λ{i j} ai aF (Ao:i<j) e=>?_) adb;have aF:=List.mem_range.mp aF;have ai:i<c.length:=List.mem_range.mp ai;have J:(c.take i++c.drop (i+1))[i]?=c[i+1]?:=by
   rw[abF (by simp;lia),List.getElem?_drop];congr 1;simp;lia
  have h2:(c.take j++c.drop (j+1))[i]?=c[i]?:=by
   rw[abo (by simp;lia),List.getElem?_take_of_lt Ao]
  rw[e,h2]at J;rw[abc ai,abc (by lia:i+1<c.length)]at J;have:=acR.mp ag i (i+1) ai ⋯ ⋯;injection J with J;rw[J,i7.gf]at this;cases this
 .exact ac4
end cH
end
section
namespace cH
open Den bg es gT
def oO(i j):ev pg Φ ρ (.gY i j)=kx ρ[i]? ρ[j]?:=ba rfl
def OF(i j):ev pg Φ ρ (.qh i j)=si ρ[i]? ρ[j]?:=ba rfl
def EF:ev pg Φ ρ .qi=.ok (.bH []):=ba rfl
def OV(i):ex pg Φ ρ (.oG i)=.ok (.br (ρ.set i (some (.bY [])))):=ba rfl
def OX(i):ex pg Φ ρ (.oI i)=.ok (.br (ρ.set i (some (.bH [])))):=ba rfl
def vu(i j)(e):ex pg Φ ρ (.iy i j e)=ev pg Φ ρ e>>=λd=>oJ ρ[i]? ρ[j]? d>>=λx=>.ok (.br (ρ.set i (some x))):=ba rfl
def EL(i)(e):ex pg Φ ρ (.ext i e)=mU ρ[i]?>>=λ_=>ev pg Φ ρ e>>=λd=>ql ρ[i]? d>>=λx=>.ok (.br (ρ.set i (some x))):=ba rfl
def EM(i):ex pg Φ ρ (.q8 i)=sg ρ[i]?>>=λd=>.ok (.cP d):=ba rfl
def Vp(up)(xs):kV up .sum (.lst xs)=k9 xs:=ba rfl
def H8(up)(xs):kV up .max (.lst xs)=kT xs:=ba rfl
def qN(c):kP (aq c)=.ok (.int (c.length:Int)):=by unfold aq;rw[wm,List.length_map]
def Xn{c:List Int}(h:c.length<=1000)(k:Nat):ec .add (.tup (cut (c.map D.int) none (some (k:Int)))) (.tup (cut (c.map D.int) (some ((k:Int)+1)) none))=.ok (aq (c.take k++c.drop (k+1))):=by
 have e:((k:Int)+1)=((k+1:Nat):Int):=by lia
 rw[e,MX,D7,rR,if_pos]
 .unfold aq;rw[List.map_append,List.map_take,List.map_drop]
 .rw[acL,acM,List.length_map,gH];lia
def Xo(c)(h:c.length<=1000):cV pg Φ ⟨1,0,aW.yP⟩ [aq c]=.ok (.lst ((bt c).map aq)):=by
 have e1:cY (elem pg Φ [some (aq c)] (.bin .add (.slice (.var 0) (.none) (.some (.var 1))) (.slice (.var 0) (.some (.bin .add (.var 1) (.lit (.int 1)))) (.none))) 0 (.some (.cmp .gt (.prim .len (.var 0)) (.lit (.int 1))))) ((List.range c.length).map λ(k:Nat)=>D.int (k:Int))=.ok (((List.range c.length).filter λ_=>decide (1<c.length)).map λk=>aq (c.take k++c.drop (k+1))):=jV λk _=>by
  have ae:∀lo ai,k4 (aq c) lo ai=.ok (.tup (cut (c.map D.int) lo ai)):=λlo ai=>rfl
  simp![qN,ae,Xn h]
  by_cases q:1<c.length
  .have cU:(1:Int)<(c.length:Int):=⋯;simp only[decide_eq_true q,decide_eq_true cU,abY]
  .have cU:¬(1:Int)<(c.length:Int):=⋯;simp only[decide_eq_false q,decide_eq_false cU,aba,abw]
 simp![aW.yP,qN,pD (i:=0) (j:=(c.length:Int)) ⋯ ⋯ ⋯ ⋯,w1,e1];congr 2;unfold bt
 by_cases q:1<c.length
 .rw[if_pos q,decide_eq_true q,List.filter_eq_self.mpr λ_ _=>rfl,List.map_map];rfl
 .rw[if_neg q,decide_eq_false q,List.filter_eq_nil_iff.mpr λ_ _=>∅];rfl
noncomputable def ey(t:List Int):List (List Int):=t.foldl (λf x=>f++[[x]]++f.map (·++[x])) []
def cw_snoc(t)(x):ey (t++[x])=ey t++[[x]]++(ey t).map (·++[x]):=by unfold ey;rw[List.foldl_append];rfl
def Jr{P:List Int->Prop}(h0:P [])(J:∀as a,P as->P (as++[a]))(as):P as:=by
 have key:∀n (as:List Int),as.length=n->P as:=by
  intro n
  induction n with
  |zero=>intro as h;rw[ac6 h];exact h0
  |succ n aD =>
   intro as h;rcases List.eq_nil_or_concat as with rfl|⟨l,a,rfl⟩
   .cases h
   .rw[List.concat_eq_append]at h ⊢;exact J l a (aD l (by simpa using h))
 exact key _ as rfl
def sub_snoc{z t:List Int}:z.Sublist (t++[x])<->z.Sublist t\/∃y,z=y++[x]/\y.Sublist t:=by
 rw[List.sublist_append_iff];constructor
 .rintro⟨a,b,rfl,J,h2⟩;have aa:b=[]\/b=[x]:=by
   cases h2 with
   |cons _ h=>exact .inl (aed.mp h)
   |cons_cons _ h=>exact .inr (by rw[aed.mp h])
  rcases aa with rfl|rfl
  .exact .inl (by simpa using J)
  .exact .inr ⟨a,rfl,J⟩
 .rintro(h|⟨y,rfl,h⟩)
  .exact⟨z,[],by simp,h,adw _⟩
  .exact⟨y,[x],rfl,h,adn _⟩
def qS(t):∀z,z∈ey t<->z≠[]/\z.Sublist t:=by
 refine Jr (P:=λt=>∀z,z∈ey t<->z≠[]/\z.Sublist t) (λz=>?_) (λt x aD z=>?_) t
 .constructor
  .intro h;cases h
  .rintro⟨J,h2⟩;exact absurd (aed.mp h2) J
 .rw[cw_snoc,abq,abq,abm,List.mem_map,sub_snoc,aD];constructor
  .rintro((⟨J,h2⟩|rfl)|⟨y,aN,rfl⟩)
   .exact⟨J,.inl h2⟩
   .exact⟨by simp,.inr ⟨[],rfl,adw _⟩⟩
   .exact⟨by simp,.inr ⟨y,rfl,((aD y).mp aN).2⟩⟩
  .rintro⟨J,h2|⟨y,rfl,h2⟩⟩
   .exact .inl (.inl ⟨J,h2⟩)
   .by_cases aN:y=[]
    .subst aN;exact .inl (.inr rfl)
    .exact .inr ⟨y,(aD y).mpr ⟨aN,h2⟩,rfl⟩
def A3(t):(ey t).length+1=2 ^ t.length:=by
 refine Jr (P:=λt=>(ey t).length+1=2 ^ t.length) rfl (λt x aD=>?_) t;rw[cw_snoc,List.length_append,List.length_append,List.length_append,List.length_map,List.length_singleton,List.length_singleton,Nat.pow_succ];lia
noncomputable def bT(ts:List (List Int)):List (List Int):=cF lexLt (cT (ts.flatMap ey))
def i9:z∈bT ts<->z≠[]/\∃t∈ts,z.Sublist t:=by
 unfold bT;rw[ja,j4,acO];constructor
 .rintro⟨t,J,h2⟩;exact⟨((qS t z).mp h2).1,t,J,((qS t z).mp h2).2⟩
 .rintro⟨h0,t,J,h2⟩;exact⟨t,J,(qS t z).mpr ⟨h0,h2⟩⟩
def ye(ts):cQ lexLt (bT ts):=kq kQ (nQ _)
noncomputable def cl(ts:List (List Int))(n:Nat):List (List Int):=(bT ts).filter λc=>decide (c.length=n)
def fx:z∈cl ts n<->z.length=n/\z≠[]/\∃t∈ts,z.Sublist t:=by
 unfold cl;rw[abi,i9];simp only[abl];exact⟨λh=>⟨h.2,h.1⟩,λh=>⟨h.2,h.1⟩⟩
def Dq(ts)(n):cQ lexLt (cl ts n):=abx aci (ye ts)
def iV(ts)(n):(cl ts n).Nodup:=yf (Dq ts n)
def DU(ts)(h):mT ts h=cl ts (h+1):=kp kQ (LC ts h) (Dq ts _) λz=>by
 rw[Tu,fx];exact⟨λ⟨J,h2⟩=>⟨J,by rintro rfl;simp at J,h2⟩,λ⟨J,_,h2⟩=>⟨J,h2⟩⟩
def qk(cJ:m<=6)(ay:∀t∈ts,IsCell m t):(bT ts).length<=63:=by
 have J:(bT ts).length<=(ey (cZ m)).length:=hQ (yf (ye ts)) λz hz=>by
  obtain⟨h0,t,J,h2⟩:=i9.mp hz;exact(qS _ z).mpr ⟨h0,h2.trans (Mm (ay t J))⟩
 have h2:=A3 (cZ m);have h3:=wb cJ;have h4:2 ^ (cZ m).length<=2 ^ 6:=abT ∅ h3;lia
def r9(cJ:m<=6)(ay:∀t∈ts,IsCell m t)(n):(cl ts n).length<=63:=ab2 (abJ _ _) (qk cJ ay)
def hj(ay:∀t∈ts,IsCell m t)(hz:z∈cl ts n):cQ ltI z:=by
 obtain⟨_,_,t,J,h2⟩:=fx.mp hz;exact abx h2 (ay t J).2.2
def jU(ay:∀t∈ts,IsCell m t)(hz:z∈cl ts n)(he:e∈bt z):e∈cl ts (n-1):=by
 obtain⟨J,h2,h3⟩:=(fV (hj ay hz)).mp he;obtain⟨h4,h5,t,el,gx⟩:=fx.mp hz;exact fx.mpr ⟨⋯,by rintro rfl;simp at h2;lia,t,el,h3.trans gx⟩
def Zt(c)(cJ:c.length<=8):cV pg Φ ⟨1,2,aW.ym⟩ [aq c]=.ok (.lst ((ey c).map aq)):=by
 simp![aW.ym,pF];obtain⟨bK,e,x,he⟩:=gK (f:=D.int) (g:=turn pg Φ 0 [2] (.cons (.asg 1 (.bin .add (.bin .add (.var 1) (.lst (.cons (.tup (.cons (.var 2) (.nil))) (.nil)))) (.comp (.bin .add (.var 3) (.tup (.cons (.var 2) (.nil)))) 0 (.seq (.var 1)) (.none)))) (.nil)))
  (λaJ ρ=>∃(x:Option D),ρ=[some (aq c),some (.lst ((ey aJ).map aq)),x])
  c [some (aq c),some (.lst []),none] ⟨none,rfl⟩ (λpre k post ρ au ⟨x,bV⟩=>by
   subst bV;have dV:pre.length+1<=c.length:=(by rw[au];simp);have J:=A3 pre;have h2:2 ^ pre.length<=2 ^ 8:=abT ∅ ⋯;have e1:cY (elem pg Φ [some (aq c),some (.lst ((ey pre).map aq)),some (.int k)] (.bin .add (.var 3) (.tup (.cons (.var 2) (.nil)))) 0 .none) ((ey pre).map aq)=.ok ((ey pre).map λz=>aq (z++[k])):=iW λz hz=>by
    have hz:=((qS pre z).mp hz).2.length_le;have:ec .add (aq z) (.tup [.int k])=.ok (aq (z++[k])):=by
     unfold aq;rw[rR,if_pos (by rw[List.length_map,gH];simp;lia),List.map_append];rfl
    simp![this]
   have a1:ec .add (.lst ((ey pre).map aq)) (.lst [.tup [.int k]])=.ok (.lst ((ey pre++[[k]]).map aq)):=by
    rw[mO,if_pos (by rw[List.length_map,gH];simp;lia),List.map_append];rfl
   have a2:ec .add (.lst ((ey pre++[[k]]).map aq)) (.lst ((ey pre).map λz=>aq (z++[k])))=.ok (.lst ((ey (pre++[k])).map aq)):=by
    rw[mO,if_pos (by rw[List.length_map,List.length_map,List.length_append,gH];simp;lia),cw_snoc];simp only[List.map_append,List.map_map];rfl
   refine⟨_,by simp![a1,e1,a2],some (.int k),rfl⟩)
 rw[e,he];simp!
def O9(xs ys):ql (some (some (.lst xs))) (.lst ys)=if xs.length+ys.length<=SZ then .ok (.lst (xs++ys)) else .bad:=ba rfl
def OO(hf:∀c:List Int,c.length<=8->Φ f [aq c]=.ok (.lst ((ey c).map aq)))(ay:∀t∈ts,t.length<=8)(ax:ts.length<=63)(zT:(bT ts).length<=63):
  cV pg Φ ⟨1,2,aW.yo f⟩ [a9 m ts]=.ok (.lst ((bT ts).map aq)):=by
 have ai:fw (a9 m ts) (.int 1)=.ok (.tup (ts.map aq)):=rfl;simp![aW.yo,ai];have oz:∀ar:List (List Int),ar.length<=63->(∀t∈ar,t.length<=8)->(ar.flatMap ey).length<=65280:=λar aw cJ=>by
  have:=vy (f:=ey) (k:=256) (xs:=ar) λt o4=>by
   have h2:=A3 t;have h4:2 ^ t.length<=2 ^ 8:=abT ∅ (cJ t o4);lia
  lia
 obtain⟨bK,e,x,he⟩:=gK (f:=aq) (g:=turn pg Φ 0 [2] (.cons (.ext 1 (.call f (.cons (.var 2) (.nil)))) (.nil)))
  (λaJ ρ=>∃(x:Option D),ρ=[some (a9 m ts),some (.lst ((aJ.flatMap ey).map aq)),x])
  ts [some (a9 m ts),some (.lst []),none] ⟨none,rfl⟩ (λpre t post ρ au ⟨x,bV⟩=>by
   subst bV;have tg:t∈ts:=(by rw[au];simp);have dV:pre.length+1<=ts.length:=(by rw[au];simp);have J:=oz pre ⋯ λt o4=>ay t (by rw[au];simp[o4])
   have h2:=oz [t] (by simp) λz hz=>by simp at hz;subst hz;exact ay z tg
   have hlen:((pre.flatMap ey).map aq).length+((ey t).map aq).length<=SZ:=by
    simp at h2;rw[List.length_map,List.length_map,gH];lia
   refine⟨_,by simp![EL,hf t (ay t tg),O9,if_pos hlen];rfl,some (aq t),?_⟩;simp[ac2])
 rw[e,he];have az:∀c∈ts.flatMap ey,c≠[]:=λc ag=>by
  obtain⟨t,_,ag⟩:=acO.mp ag;exact((qS _ _).mp ag).1
 have:(cT (ts.flatMap ey)).length<=63:=by unfold bT at zT;rw[nH]at zT;exact zT
 simp![xj az this,bT]
def MI(n:Nat)(hf:Φ f [a9 m ts]=.ok (.lst ((bT ts).map aq))):cV pg Φ ⟨2,0,aW.yl f⟩ [a9 m ts,.int ((n:Int)-1)]=.ok (.tup ((cl ts n).map aq)):=by
 have e1:cY (elem pg Φ [some (a9 m ts),some (.int ((n:Int)-1))] (.var 2) 0 (.some (.cmp .eq (.bin .sub (.prim .len (.var 2)) (.lit (.int 1))) (.var 1)))) ((bT ts).map aq)=.ok (((bT ts).filter λc=>decide (c.length=n)).map aq):=jV λc _=>by
  simp![qN]
  by_cases q:c.length=n
  .rw[decide_eq_true q,abG.mpr (show(c.length:Int)-1=(n:Int)-1 by lia)];rfl
  .rw[decide_eq_false q,abH.mpr (show(c.length:Int)-1≠(n:Int)-1 by lia)];rfl
 simp![aW.yl,hf,e1];rfl
noncomputable def mk(U:List (List Int)):List (List Int×Int):=U.zipIdx.map λp=>(p.1,((2 ^ p.2:Nat):Int))
def TF(U)(c):mk (U++[c])=mk U++[(c,((2 ^ U.length:Nat):Int))]:=by unfold mk;rw[List.zipIdx_append,List.map_append];simp
def Bh(U):(mk U).map (·.1)=U:=by
 unfold mk;rw[List.map_map];show U.zipIdx.map (λp=>p.1)=U;exact List.zipIdx_map_fst 0 U
def TC(U):(mk U).length=U.length:=by have:=acp List.length (Bh U);simpa using this
def idx_map{α β:Type}[DecidableEq α]{U:List α}(dS:U.Nodup)(g:α->Nat->β):U.map (λc=>g c (cp U c))=U.zipIdx.map λp=>g p.1 p.2:=by
 apply acG;intro i;rw[abj,abj,List.getElem?_zipIdx]
 by_cases h:i<U.length
 .rw[abc h];simp only[Option.map_some,dS.idxOf_getElem i h,acU]
 .rw[abC ⋯];rfl
def Zl(dS:U.Nodup)(ag:c∈U):pR (mk U) c=some ((2 ^ cp U c:Nat):Int):=by
 unfold mk;rw[<- idx_map dS λc i=>(c,((2 ^ i:Nat):Int))];unfold pR;rw[List.find?_map];have:U.find? ((λp:List Int×Int=>decide (p.1=c)) ∘ λc=>(c,((2 ^ cp U c:Nat):Int)))=some c:=by
  have key:∀V:List (List Int),c∈V->V.find? ((λp:List Int×Int=>decide (p.1=c)) ∘ λc=>(c,((2 ^ cp U c:Nat):Int)))=some c:=λV=>by
   induction V with
   |nil=>intro h;cases h
   |cons v V aD =>
    intro h;rw[List.find?_cons]
    by_cases q:v=c
    .subst q;simp
    .rw[show((λp:List Int×Int=>decide (p.1=c)) ∘ λc=>(c,((2 ^ cp U c:Nat):Int))) v=false by simp[q]];exact aD ((aa9.mp h).resolve_left (abW q))
  exact key U ag
 rw[this];rfl
def pP(c):fX (aq c)=some c:=by
 show intsOf (c.map .int)=some c
 induction c with
 |nil=>rfl
 |cons x c aD=>rw[List.map_cons,intsOf,aD];rfl
def N3(ah)(c)(n)(h:ah.length<1000)(ag:c∉ah.map (·.1)):oJ (some (some (.bY ah))) (some (some (aq c))) (.int n)=.ok (.bY (ah++[(c,n)])):=by
 have e:putN ah c n=ah++[(c,n)]:=by
  unfold putN;rw[if_neg];intro z;obtain⟨p,au,q⟩:=adv.mp z;exact ag (List.mem_map.mpr ⟨p,au,by simpa using q⟩)
 show(match some ah,fX (aq c),some n with
  |some ah,some k,some n=>if ah.length<1000 then R.ok (D.bY (putN ah k n)) else .bad
  |_,_,_=>_)=_
 rw[pP];dsimp only;rw[if_pos h,e]
def zo(dS:U.Nodup)(ag:c∈U):kx (some (some (.bY (mk U)))) (some (some (aq c)))=.ok (.int ((2 ^ cp U c:Nat):Int)):=by
 show(match some (mk U),fX (aq c) with
  |some ah,some k=>(match pR ah k with|some n=>R.ok (D.int n)|none=>.bad)
  |_,_=>_)=_
 rw[pP];dsimp only;rw[Zl dS ag]
def Ed(U):oF (some (some (.bY (mk U))))=.ok (U.map aq):=by
 show R.ok ((mk U).map λp=>D.tup (p.1.map .int))=_;have:((mk U).map λp=>D.tup (p.1.map .int))=((mk U).map (·.1)).map aq:=by rw[List.map_map];rfl
 rw[this,Bh]
def NU(ah):sg (some (some (.bY ah)))=.ok (.bY ah):=ba rfl
def NV(ah):sg (some (some (.bH ah)))=.ok (.bH ah):=ba rfl
def To(n:Nat)(hf:Φ f [a9 m ts,.int ((n:Int)-1)]=.ok (.tup ((cl ts n).map aq)))(ax:(cl ts n).length<=63):cV pg Φ ⟨2,3,aW.yK f⟩ [a9 m ts,.int ((n:Int)-1)]=.ok (.bY (mk (cl ts n))):=by
 simp![aW.yK,OV,hf];have dS:=iV ts n;obtain⟨bK,e,x,he⟩:=gK (f:=aq) (g:=turn pg Φ 0 [4] (.cons (.iy 2 4 (.var 3)) (.cons (.asg 3 (.bin .mul (.var 3) (.lit (.int 2)))) (.nil))))
  (λaJ ρ=>∃(x:Option D),ρ=[some (a9 m ts),some (.int ((n:Int)-1)),some (.bY (mk aJ)),some (.int ((2 ^ aJ.length:Nat):Int)),x])
  (cl ts n) [some (a9 m ts),some (.int ((n:Int)-1)),some (.bY []),some (.int 1),none] ⟨none,rfl⟩ (λpre c post ρ au ⟨x,bV⟩=>by
   subst bV;have dV:pre.length+1<=(cl ts n).length:=(by rw[au];simp);have ag:c∉(mk pre).map (·.1):=by
    rw[Bh];intro z;rw[au]at dS;exact(acy.mp dS).2.2 c z c List.mem_cons_self rfl
   have ae:=N3 (mk pre) c ((2 ^ pre.length:Nat):Int) (by rw[TC];lia) ag;have hm:ec .mul (.int ((2 ^ pre.length:Nat):Int)) (.int 2)=.ok (.int ((2 ^ (pre++[c]).length:Nat):Int)):=by
    rw[l8 _ _ (.inr ⟨by rw[kh];lia,by rw[kh];lia⟩),List.length_append,List.length_singleton,Nat.pow_succ];rfl
   refine⟨_,by simp![vu,ae,hm];rfl,some (aq c),?_⟩;rw[TF])
 rw[e,he];simp![EM,NU]
def AU(is):intsOf (is.map .int)=some is:=pP is
def XT{U xs:List (List Int)}(dS:U.Nodup)(ak:xs.Nodup)(h:∀x∈xs,x∈U):k9 (xs.map λx=>D.int ((2 ^ cp U x:Nat):Int))=.ok (.int (c6 U xs:Int)):=by
 have:=AU (xs.map λx=>((2 ^ cp U x:Nat):Int));rw[List.map_map]at this;unfold k9;rw[show(xs.map λx=>D.int ((2 ^ cp U x:Nat):Int))=xs.map (D.int ∘ λx=>((2 ^ cp U x:Nat):Int)) from rfl,this];dsimp only;rw[Hf dS ak h]
def LU(dS:U.Nodup)(ak:xs.Nodup)(h:∀x∈xs,x∈U):cV pg Φ ⟨2,0,aW.yk⟩ [.lst (xs.map aq),.bY (mk U)]=.ok (.int (c6 U xs:Int)):=by
 have e1:cY (elem pg Φ [some (.lst (xs.map aq)),some (.bY (mk U))] (.gY 1 2) 0 .none) (xs.map aq)=.ok (xs.map λx=>D.int ((2 ^ cp U x:Nat):Int)):=iW λx ak=>by
  simp![oO,zo dS (h x ak)]
 simp![aW.yk,e1,Vp,XT dS ak h]
def yc(a b:Nat):ec .and (.int (a:Int)) (.int (b:Int))=.ok (.int ((a &&& b:Nat):Int)):=by
 show ot (a:Int) (b:Int)=_;unfold ot;rw[if_pos (adf a),if_pos (adf b)];rfl
def ZC(a b:Nat):ec .xor (.int (a:Int)) (.int (b:Int))=.ok (.int ((a ^^^ b:Nat):Int)):=by
 show uD (a:Int) (b:Int)=_;unfold uD;rw[if_pos ⟨adf a,adf b⟩];rfl
def Dg(a k):((a &&& 2 ^ k:Nat):Int)=0<->a.testBit k=false:=by
 have key:a &&& 2 ^ k=0<->a.testBit k=false:=by
  constructor
  .intro h;have:=acp (λz=>z.testBit k) h;simpa[aeT,acY] using this
  .intro h;apply aei;intro i;rw[aeT,ady,ads]
   by_cases q:k=i
   .rw[<- q,h];rfl
   .simp[q]
 rw[<- key];lia
def Ho(a k):fF .ne (.int ((a &&& 2 ^ k:Nat):Int)) (.int 0)=.ok (a.testBit k):=by
 show ik (.ok (((a &&& 2 ^ k:Nat):Int)==0))=_;cases q:a.testBit k with
 |false=>rw[abG.mpr ((Dg a k).mpr q)];rfl
 |true=>rw[abH.mpr λz=>by rw[(Dg a k).mp z]at q;cases q];rfl
def Mp(dS:U.Nodup)(b:Nat):cV pg Φ ⟨2,0,aW.yn⟩ [.int (b:Int),.bY (mk U)]=.ok (.tup ((U.filter λc=>b.testBit (cp U c)).map aq)):=by
 have e1:cY (elem pg Φ [some (.int (b:Int)),some (.bY (mk U))] (.var 2) 0 (.some (.cmp .ne (.bin .and (.var 0) (.gY 1 2)) (.lit (.int 0))))) (U.map aq)=.ok ((U.filter λc=>b.testBit (cp U c)).map aq):=jV λc ag=>by
  have:=Ho b (cp U c);simp![oO,zo dS ag,yc];have h2:ik (.ok (((b &&& 2 ^ cp U c:Nat):Int)==0))=.ok (b.testBit (cp U c)):=this;rw[show ik (.ok (((b &&& 2 ^ cp U c:Nat):Int)==0))=R.ok (!(((b &&& 2 ^ cp U c:Nat):Int)==0)) from rfl]at h2;injection h2 with h2;rw[h2];cases b.testBit (cp U c)<;>rfl
 simp![aW.yn,sA,Ed,e1]
noncomputable def b5(r:Row):D:=.tup [.int (r.1:Int),.int (r.2:Int)]
noncomputable def eU(ts:List (List Int))(n:Nat):List Nat:=(cl ts n).map λc=>c6 (cl ts (n-1)) (bt c)
def V1{dR bp qq:Nat}(n:Nat)(ay:∀t∈ts,IsCell m t)(cJ:m<=6)(hm:∀n:Nat,Φ qq [a9 m ts,.int ((n:Int)-1)]=.ok (.bY (mk (cl ts n))))(ae:∀c:List Int,c.length<=1000->Φ bp [aq c]=.ok (.lst ((bt c).map aq)))(aa:∀U xs:List (List Int),U.Nodup->xs.Nodup->(∀x∈xs,x∈U)->Φ dR [.lst (xs.map aq),.bY (mk U)]=.ok (.int (c6 U xs:Int))):
  cV pg Φ ⟨2,2,aW.yN dR bp qq⟩ [a9 m ts,.int (n:Int)]=.ok (.lst ((ef (eU ts (n+1))).map b5)):=by
 have dS:=iV ts (n+1);have pd:=hm n;have m2:Φ qq [a9 m ts,.int (n:Int)]=.ok (.bY (mk (cl ts (n+1)))):=by
  have:=hm (n+1);rwa[show(((n+1:Nat):Int)-1)=(n:Int) by lia]at this
 have e1:cY (elem pg Φ [some (a9 m ts),some (.int (n:Int)),some (.bY (mk (cl ts n))),some (.bY (mk (cl ts (n+1))))] (.tup (.cons (.call dR (.cons (.call bp (.cons (.var 4) (.nil))) (.cons (.var 2) (.nil)))) (.cons (.gY 3 4) (.nil)))) 0 .none) ((cl ts (n+1)).map aq)=.ok ((cl ts (n+1)).map λc=>b5 (c6 (cl ts n) (bt c),2 ^ cp (cl ts (n+1)) c)):=iW λc ag=>by
  have vK:=hj ay ag;have hlen:c.length<=1000:=by
   obtain⟨_,_,t,J,h2⟩:=fx.mp ag;have:=h2.length_le;have:=oB (ay t J);lia
  simp![oO,ae c hlen,aa (cl ts n) (bt c) (iV ts n) (mh vK) (λe he=>jU ay ag he),zo dS ag];rfl
 have e2:(ef (eU ts (n+1))).map b5=(cl ts (n+1)).map λc=>b5 (c6 (cl ts n) (bt c),2 ^ cp (cl ts (n+1)) c):=by
  rw[idx_map dS λc i=>b5 (c6 (cl ts n) (bt c),2 ^ i)];unfold ef eU;rw[List.zipIdx_map,List.map_map,List.map_map];rfl
 simp![aW.yN,pd,m2,sA,Ed,e1,e2]
def lX(r):fw (b5 r) (.int 0)=.ok (.int (r.1:Int)):=rfl
def Gr(r):fw (b5 r) (.int 1)=.ok (.int (r.2:Int)):=rfl
def XW(r q):cV pg Φ ⟨2,0,aW.yQ⟩ [b5 r,b5 q]=.ok (b5 (r.1 ^^^ q.1,r.2 ^^^ q.2)):=by
 simp![aW.yQ,lX,Gr,ZC];rfl
noncomputable def df(B:c1):List (Int×Int×Int):=B.map λe=>(((2 ^ e.1:Nat):Int),(e.2.1:Int),(e.2.2:Int))
def H5(h:a≠b):((2 ^ a:Nat):Int)≠((2 ^ b:Nat):Int):=λz=>by
 have z:2 ^ a=2 ^ b:=Int.ofNat.inj z;rcases adP a b with q|q|q
 .have:=ado (show 1<2 by decide) q;lia
 .exact h q
 .have:=ado (show 1<2 by decide) q;lia
theorem Ko : ∀ {B : c1}, (B.map (·.1)).Nodup -> ∀ e ∈ B, n4 (df B) ((2 ^ e.1 : Nat) : Int) = some ((e.2.1 : Int), (e.2.2 : Int))
  | f :: B, h, e, he => by
    obtain ⟨J, h2⟩ := abv.mp h
    unfold n4 df
    rw [List.map_cons, List.find?_cons]
    dsimp only
    by_cases q : f.1 = e.1
    · have : f = e := by
        rcases aa9.mp he with z | z
        · exact z.symm
        · exact absurd (List.mem_map.mpr ⟨e, z, q.symm⟩) J
      subst this
      rw [decide_eq_true rfl]
      rfl
    · rw [decide_eq_false (H5 q)]
      exact Ko h2 e ((aa9.mp he).resolve_left fun z => q (by rw [z]))
def Ec{B:c1}(h:(B.map (·.1)).Nodup)(he:e∈B):kx (some (some (.bH (df B)))) (some (some (.int ((2 ^ e.1:Nat):Int))))=.ok (b5 e.2):=by
 show(match some (df B),some ((2 ^ e.1:Nat):Int) with
  |some ah,some k=>(match n4 ah k with|some r=>R.ok (pE r)|none=>.bad)
  |_,_=>R.bad)=_
 dsimp only;rw[Ko h e he];rfl
def Ef(B):oF (some (some (.bH (df B))))=.ok (B.map λe=>D.int ((2 ^ e.1:Nat):Int)):=by
 show R.ok ((df B).map λp=>D.int p.1)=_;unfold df;rw[List.map_map];rfl
def VR(B)(e)(r):red (B++[e]) r=one (red B r) e:=by unfold red;rw[List.foldl_append];rfl
def VT(hf:∀r q:Row,Φ f [b5 r,b5 q]=.ok (b5 (r.1 ^^^ q.1,r.2 ^^^ q.2))){B:c1}(h:(B.map (·.1)).Nodup)(r):cV pg Φ ⟨2,1,aW.yM f⟩ [b5 r,.bH (df B)]=.ok (b5 (red B r)):=by
 simp![aW.yM,sA,Ef];obtain⟨bK,e,x,he⟩:=gK (f:=λe:Nat×Row=>D.int ((2 ^ e.1:Nat):Int)) (g:=turn pg Φ 0 [2] (.cons (.iff (.cmp .ne (.bin .and (.idx (.var 0) (.lit (.int 0))) (.var 2)) (.lit (.int 0))) (.cons (.asg 0 (.call f (.cons (.var 0) (.cons (.gY 1 2) (.nil))))) (.nil)) (.nil)) (.nil)))
  (λaJ ρ=>∃(x:Option D),ρ=[some (b5 (red aJ r)),some (.bH (df B)),x])
  B [some (b5 r),some (.bH (df B)),none] ⟨none,rfl⟩ (λpre e post ρ au ⟨x,bV⟩=>by
   subst bV;have i3:e∈B:=(by rw[au];simp);have az:=Ho (red pre r).1 e.1;have az:ik (.ok ((((red pre r).1 &&& 2 ^ e.1:Nat):Int)==0))=.ok ((red pre r).1.testBit e.1):=az;rw[VR];unfold one;cases q:(red pre r).1.testBit e.1 with
   |true =>
    rw[q]at az;refine⟨_,by simp![lX,yc,az,oO,Ec h i3,hf],some (.int ((2 ^ e.1:Nat):Int)),rfl⟩
   |false =>
    rw[q]at az;refine⟨_,by simp![lX,yc,az],some (.int ((2 ^ e.1:Nat):Int)),rfl⟩)
 rw[e,he];simp!
def Tb(n:Nat)(h:0<n):cV pg Φ ⟨1,0,aW.yJ⟩ [.int (n:Int)]=.ok (.int ((2 ^ lo n:Nat):Int)):=by
 have e:ec .and (.int (n:Int)) (.int (-(n:Int)))=.ok (.int ((2 ^ lo n:Nat):Int)):=by
  show ot (n:Int) (-(n:Int))=_;unfold ot;rw[if_pos (adf n),if_neg ⋯];obtain⟨_,_,h3,h4⟩:=GY n h;have h5:(-(-(n:Int))-1).toNat=n-1:=⋯;rw[h5,Int.toNat_natCast];congr 2;lia
 simp![aW.yJ,EJ,e]
def Ej(ah)(k)(r)(h:ah.length<1000)(ag:k∉ah.map (·.1)):oJ (some (some (.bH ah))) (some (some (.int k))) (b5 r)=.ok (.bH (ah++[(k,(r.1:Int),(r.2:Int))])):=by
 have e:me ah k ((r.1:Int),(r.2:Int))=ah++[(k,(r.1:Int),(r.2:Int))]:=by
  unfold me;rw[if_neg];intro z;obtain⟨p,au,q⟩:=adv.mp z;exact ag (List.mem_map.mpr ⟨p,au,by simpa using q⟩)
 show(if ah.length<1000 then R.ok (D.bH (me ah k ((r.1:Int),(r.2:Int)))) else .bad)=_;rw[if_pos h,e]
def N0(k)(r):si (some (some (.int ((2 ^ k:Nat):Int)))) (some (some (b5 r)))=.ok (.bH (df [(k,r)])):=rfl
def D8(B){k:Nat}(h:k∉B.map (·.1)):((2 ^ k:Nat):Int)∉(df B).map (·.1):=λz=>by
 unfold df at z;rw[List.map_map]at z;obtain⟨e,he,q⟩:=List.mem_map.mp z;exact H5 (λw=>h (List.mem_map.mpr ⟨e,he,w⟩)) q
def Qb{fr eQ:Nat}(aV:∀(B:c1)(r:Row),(B.map (·.1)).Nodup->Φ fr [b5 r,.bH (df B)]=.ok (b5 (red B r)))(ax:∀n:Nat,0<n->Φ eQ [.int (n:Int)]=.ok (.int ((2 ^ lo n:Nat):Int))){B:c1}(h:dz B)(d3:B.length<900)(r):
  cV pg Φ ⟨2,4,aW.u1 fr eQ⟩ [.bH (df B),b5 r]=.ok (.bH (df (grow B r))):=by
 have az:=sr h;have aQ:=sM h r
 by_cases c:(red B r).1=0
 .have hz:(((red B r).1:Int)==0)=true:=(by rw[c];rfl);simp![aW.u1,aV B r az,lX,hz];unfold grow;rw[if_pos c]
 .have hz:(((red B r).1:Int)==0)=false:=abH.mpr ⋯;have aw:=ax (red B r).1 ⋯;have oL:grow B r=B.map (λe=>(e.1,one e.2 (lo (red B r).1,red B r)))++[(lo (red B r).1,red B r)]:=(by unfold grow;rw[if_neg c]);rw[oL]at aQ ⊢;have vR:=sr aQ;simp![aW.u1,aV B r az,lX,hz,aw,OX,sA,Ef];generalize red B r=l at vR;generalize lo l.1=k at vR;have Fo:((B.map λe=>(e.1,one e.2 (k,l))).map (·.1))=B.map (·.1):=(by rw[List.map_map];rfl);have QQ:k∉B.map (·.1):=by
   rw[List.map_append,Fo]at vR;exact λz=>(acy.mp vR).2.2 k z k (by simp) rfl
  obtain⟨bK,e,x,he⟩:=gK (f:=λe:Nat×Row=>D.int ((2 ^ e.1:Nat):Int)) (g:=turn pg Φ 0 [5] (.cons (.iy 4 5 (.call fr (.cons (.gY 0 5) (.cons (.qh 3 2) (.nil))))) (.nil)))
   (λaJ ρ=>∃(x:Option D),ρ=[some (.bH (df B)),some (b5 r),some (b5 l),some (.int ((2 ^ k:Nat):Int)),some (.bH (df (aJ.map λe=>(e.1,one e.2 (k,l))))),x])
   B [some (.bH (df B)),some (b5 r),some (b5 l),some (.int ((2 ^ k:Nat):Int)),some (.bH []),none] ⟨none,rfl⟩ (λpre e post ρ au ⟨x,bV⟩=>by
    subst bV;have i3:e∈B:=(by rw[au];simp);have dV:pre.length+1<=B.length:=(by rw[au];simp);have J:=aV [(k,l)] e.2 (by simp);have J:Φ fr [b5 e.2,.bH (df [(k,l)])]=.ok (b5 (one e.2 (k,l))):=J;have dJ:e.1∉(pre.map λe=>(e.1,one e.2 (k,l))).map (·.1):=by
     rw[List.map_map];intro z;have z:e.1∈pre.map (·.1):=z;rw[au,List.map_append,List.map_cons]at az;exact(acy.mp az).2.2 e.1 z e.1 List.mem_cons_self rfl
    have h2:=Ej (df (pre.map λe=>(e.1,one e.2 (k,l)))) ((2 ^ e.1:Nat):Int) (one e.2 (k,l)) (by unfold df;simp;lia) (D8 _ dJ);refine⟨_,by simp![vu,oO,OF,Ec az i3,N0,J,h2];rfl,some (.int ((2 ^ e.1:Nat):Int)),?_⟩;unfold df;simp only[List.map_append,List.map_cons,ac8])
  rw[e,he];have h3:=Ej (df (B.map λe=>(e.1,one e.2 (k,l)))) ((2 ^ k:Nat):Int) l (by unfold df;simp;lia) (D8 _ (by rw[Fo];exact QQ));simp![vu,h3,EM,NV];unfold df;simp only[List.map_append,List.map_cons,ac8]
def Qa(B)(rs)(r):dI B (rs++[r])=grow (dI B rs) r:=by unfold dI;rw[List.foldl_append];rfl
def Fl(B)(r):(grow B r).length<=B.length+1:=by rw[sN];split<;>lia
theorem vE:∀(rs:List Row)(B:c1),(dI B rs).length<=B.length+rs.length
 |[],B=>abb _
 |r::rs,B=>by
  have J:=vE rs (grow B r);have h2:=Fl B r;show(dI (grow B r) rs).length<=_;rw[List.length_cons];lia
def AN(rs):(eB rs).1=dI [] rs:=by
 have key:∀(rs:List Row)(st:c1×List Nat),(rs.foldl step st).1=dI st.1 rs:=λrs=>by
  induction rs with
  |nil=>intro st;rfl
  |cons r rs aD=>intro st;exact aD (step st r)
 exact key rs ([],[])
def Gf(rs):(eB rs).2.length<=rs.length:=by
 have key:∀(rs:List Row)(st:c1×List Nat),(rs.foldl step st).2.length<=st.2.length+rs.length:=λrs=>by
  induction rs with
  |nil=>intro st;exact abb _
  |cons r rs aD =>
   intro st;have J:=aD (step st r);have h2:(step st r).2.length<=st.2.length+1:=(by unfold step;dsimp only;split<;>simp);show(rs.foldl step (step st r)).2.length<=_;rw[List.length_cons];lia
 have:=key rs ([],[]);simp only[List.length_nil,acU]at this;exact this
def LM(aQ:∀(B:c1)(r:Row),dz B->B.length<900->Φ kz [.bH (df B),b5 r]=.ok (.bH (df (grow B r))))(ax:rs.length<=63):cV pg Φ ⟨1,2,aW.yj kz⟩ [.lst (rs.map b5)]=.ok (.bH (df (dI [] rs))):=by
 simp![aW.yj,EF];obtain⟨bK,e,x,he⟩:=gK (f:=b5) (g:=turn pg Φ 0 [2] (.cons (.asg 1 (.call kz (.cons (.var 1) (.cons (.var 2) (.nil))))) (.nil)))
  (λaJ ρ=>∃(x:Option D),ρ=[some (.lst (rs.map b5)),some (.bH (df (dI [] aJ))),x])
  rs [some (.lst (rs.map b5)),some (.bH []),none] ⟨none,rfl⟩ (λpre r post ρ au ⟨x,bV⟩=>by
   subst bV;have dV:pre.length+1<=rs.length:=(by rw[au];simp);have J:=vE pre [];have h2:=aQ (dI [] pre) r (i1 dz.nil) (by simp at J;lia);rw[Qa];refine⟨_,by simp![h2],some (b5 r),rfl⟩)
 rw[e,he];simp!
def uW(xs)(d)(h:xs.length<SZ):rT (some (some (.lst xs))) d=.ok (.lst (xs++[d])):=by rw[uX,if_pos h]
def RW{kz fr:Nat}(aQ:∀(B:c1)(r:Row),dz B->B.length<900->Φ kz [.bH (df B),b5 r]=.ok (.bH (df (grow B r))))(aV:∀(B:c1)(r:Row),(B.map (·.1)).Nodup->Φ fr [b5 r,.bH (df B)]=.ok (b5 (red B r)))(ax:rs.length<=63):
  cV pg Φ ⟨1,4,aW.yr kz fr⟩ [.lst (rs.map b5)]=.ok (.lst ((eB rs).2.map λb:Nat=>D.int (b:Int))):=by
 simp![aW.yr,EF];obtain⟨bK,e,x,y,he⟩:=gK (f:=b5) (g:=turn pg Φ 0 [3] (.cons (.asg 4 (.call fr (.cons (.var 3) (.cons (.var 1) (.nil))))) (.cons (.iff (.cmp .eq (.idx (.var 4) (.lit (.int 0))) (.lit (.int 0))) (.cons (.app 2 (.idx (.var 4) (.lit (.int 1)))) (.nil)) (.nil)) (.cons (.asg 1 (.call kz (.cons (.var 1) (.cons (.var 3) (.nil))))) (.nil)))))
  (λaJ ρ=>∃(x y:Option D),ρ=[some (.lst (rs.map b5)),some (.bH (df (eB aJ).1)),some (.lst ((eB aJ).2.map λb:Nat=>D.int (b:Int))),x,y])
  rs [some (.lst (rs.map b5)),some (.bH []),some (.lst []),none,none] ⟨none,none,rfl⟩ (λpre r post ρ au ⟨x,y,bV⟩=>by
   subst bV;have dV:pre.length+1<=rs.length:=(by rw[au];simp);have J:=vE pre [];have h4:=Gf pre;have h1:dz (eB pre).1:=(by rw[AN];exact i1 dz.nil);have h2:=aQ (eB pre).1 r h1 (by rw[AN];simp at J;lia);have h3:=aV (eB pre).1 r (sr h1);rw[Gg];unfold step;dsimp only
   by_cases c:(red (eB pre).1 r).1=0
   .have hz:(((red (eB pre).1 r).1:Int)==0)=true:=(by rw[c];rfl);have h5:=uW ((eB pre).2.map λb:Nat=>D.int (b:Int)) (.int ((red (eB pre).1 r).2:Int)) (by rw[List.length_map,gH];lia);rw[if_pos c];refine⟨_,by simp![h3,lX,Gr,hz,h5,h2];rfl,some (b5 r),some (b5 (red (eB pre).1 r)),?_⟩;rw[List.map_append];rfl
   .have hz:(((red (eB pre).1 r).1:Int)==0)=false:=abH.mpr ⋯;rw[if_neg c];refine⟨_,by simp![h3,lX,hz,h2],some (b5 r),some (b5 (red (eB pre).1 r)),rfl⟩)
 rw[e,he];simp!
noncomputable def hX(U:List (List Int))(b:Nat):D:=.tup ((U.filter λc=>b.testBit (cp U c)).map aq)
theorem Js{α:Type}(f):∀xs:List α,∃ys:List α,ys.Perm xs/\hq (xs.map f)=ys.map f
 |[]=>⟨[],.nil,rfl⟩
 |x::xs=>by
  have ins:∀ys:List α,∃zs:List α,zs.Perm (x::ys)/\qI (f x) (ys.map f)=zs.map f:=λys=>by
   induction ys with
   |nil=>exact⟨[x],.refl _,rfl⟩
   |cons y ys aD =>
    rw[List.map_cons,qI]
    split
    .obtain⟨zs,p,e⟩:=aD;exact⟨y::zs,(p.cons y).trans (List.Perm.swap x y ys),by rw[e];rfl⟩
    .exact⟨x::y::ys,.refl _,rfl⟩
  obtain⟨ys,p,e⟩:=Js f xs;obtain⟨zs,p2,e2⟩:=ins ys;exact⟨zs,p2.trans (p.cons x),by rw[List.map_cons,hq,e,e2]⟩
def Mo(dS:U.Nodup)(az:∀c∈U,c≠[])(h0:b≠0)(aa:b<2 ^ U.length):nD (hX U b)=true:=by
 obtain⟨i,ai⟩:∃i,b.testBit i=true:=Nat.exists_testBit_of_ne_zero h0;have bM:i<U.length:=by
  rcases aeP i U.length with q|q
  .exact q
  .rw[acx (abr aa (abT ∅ q))]at ai;cases ai
 have hm:U[i]∈U.filter λc=>b.testBit (cp U c):=abi.mpr ⟨aeK bM,by rw[Gu dS bM];exact ai⟩
 have ag:∀c∈U.filter λc=>b.testBit (cp U c),c≠[]:=λc h=>az c (abi.mp h).1
 unfold hX;generalize (U.filter λc=>b.testBit (cp U c))=cs at hm ag;cases cs with
 |nil=>cases hm
 |cons c cs =>
  have:=va ag;exact this
def uc(ts)(n):(eU ts n).length=(cl ts n).length:=by unfold eU;rw[List.length_map]
def Hd(as):(ef as).length=as.length:=by unfold ef;simp
def LL(n)(ay:∀t∈ts,IsCell m t):∀r∈ef (eU ts (n+2)),r.1<2 ^ (eU ts (n+1)).length/\bd (eU ts (n+1)) r.1=0:=by
 intro r aV;obtain⟨p,au,rfl⟩:=List.mem_map.mp aV;have Rk:p.1∈eU ts (n+2):=List.fst_mem_of_mem_zipIdx au;obtain⟨c,ag,e⟩:=List.mem_map.mp Rk;dsimp only;rw[<- e,uc];have vK:=hj ay ag;have ee:∀x∈bt c,x∈cl ts (n+1):=λx ak=>jU ay ag ak
 refine⟨Bi ee,Iz (iV ts n) ee (λx ak=>⟨mh (rh vK ak),λy aN=>jU ay (ee x ak) aN⟩) λy=>?_⟩;have z:=zi vK y;refine(acp (· % 2) (?e:_=cnt y (bt c))).trans ?_
 case e=>exact adm λx _=>by simp only[abl]
 lia
structure Told(ts:List (List Int))(n:Nat)(G:List Nat):Prop where
 len:G.length+(dI [] (ef (eU ts (n+2)))).length+(dI [] (ef (eU ts (n+1)))).length=(cl ts (n+1)).length
def TA(as):(ef as).map (·.1)=as:=by
 unfold ef;rw[List.map_map];exact List.zipIdx_map_fst 0 as
def V9{qp zL fr kz dA qq dR:Nat}(n:Nat)(ay:∀t∈ts,IsCell m t)(cJ:m<=6)(ai:∀rs:List Row,rs.length<=63->Φ qp [.lst (rs.map b5)]=.ok (.lst ((eB rs).2.map λb:Nat=>D.int (b:Int))))(F3:∀n:Nat,Φ zL [a9 m ts,.int (n:Int)]=.ok (.lst ((ef (eU ts (n+1))).map b5)))(aV:∀(B:c1)(r:Row),(B.map (·.1)).Nodup->Φ fr [b5 r,.bH (df B)]=.ok (b5 (red B r)))(aQ:∀(B:c1)(r:Row),dz B->B.length<900->Φ kz [.bH (df B),b5 r]=.ok (.bH (df (grow B r))))(ag:∀(U:List (List Int))(b:Nat),U.Nodup->Φ dA [.int (b:Int),.bY (mk U)]=.ok (hX U b))(hm:Φ qq [a9 m ts,.int (n:Int)]=.ok (.bY (mk (cl ts (n+1)))))(aa:∀rs:List Row,rs.length<=63->Φ dR [.lst (rs.map b5)]=.ok (.bH (df (dI [] rs)))):
  ∃G:List Nat,cV pg Φ ⟨2,5,aW.yO qp zL fr kz dA qq dR⟩ [a9 m ts,.int (n:Int)]=.ok (.tup (G.map (hX (cl ts (n+1)))))/\Told ts n G:=by
 have l1:(ef (eU ts (n+1))).length<=63:=by rw[Hd,uc];exact r9 cJ ay _
 have l2:(ef (eU ts (n+2))).length<=63:=by rw[Hd,uc];exact r9 cJ ay _
 have aH:=F3 n;have aX:Φ zL [a9 m ts,.int ((n:Int)+1)]=.ok (.lst ((ef (eU ts (n+2))).map b5)):=F3 (n+1);have eR:=ai _ l1;have b1:=aa _ l2;have dS:=iV ts (n+1);have st:=JA (eU ts (n+1));have ua:=V8 (eU ts (n+1)) _ (LL n ay);have z0:=Gf (ef (eU ts (n+1)));have bF:=st.len;rw[AN,uc]at bF;have B5:=st.jr;rw[uc]at B5;have vI:=vE (ef (eU ts (n+2))) [];simp only[List.length_nil,acU]at vI;have Ft:=i1 (rs:=ef (eU ts (n+2))) dz.nil;simp![aW.yO,aH,aX,eR,b1,hm];generalize (eB (ef (eU ts (n+1)))).2=F at ua bF B5 z0;generalize Qh:dI [] (ef (eU ts (n+2)))=hb at ua vI Ft;obtain⟨bK,e,x,y,J,h2,h3,h4,he⟩:=gK (f:=λb:Nat=>D.int (b:Int)) (g:=turn pg Φ 0 [5] (.cons (.asg 6 (.tup (.cons (.var 5) (.cons (.lit (.int 0)) (.nil))))) (.cons (.iff (.cmp .ne (.idx (.call fr (.cons (.var 6) (.cons (.var 2) (.nil)))) (.lit (.int 0))) (.lit (.int 0))) (.cons (.app 4 (.call dA (.cons (.var 5) (.cons (.var 3) (.nil))))) (.cons (.asg 2 (.call kz (.cons (.var 2) (.cons (.var 6) (.nil))))) (.nil))) (.nil)) (.nil))))
  (λaJ ρ=>∃(x y:Option D),dz (aJ.foldl tell (hb,[])).1/\(aJ.foldl tell (hb,[])).1.length<=hb.length+aJ.length/\(aJ.foldl tell (hb,[])).2.length<=aJ.length/\(∀b∈(aJ.foldl tell (hb,[])).2,b≠0/\b<2 ^ (cl ts (n+1)).length) /\
   ρ=[some (a9 m ts),some (.int (n:Int)),some (.bH (df (aJ.foldl tell (hb,[])).1)),some (.bY (mk (cl ts (n+1)))),some (.lst ((aJ.foldl tell (hb,[])).2.map (hX (cl ts (n+1))))),x,y])
  F [some (a9 m ts),some (.int (n:Int)),some (.bH (df hb)),some (.bY (mk (cl ts (n+1)))),some (.lst []),none,none] ⟨none,none,Ft,abb _,abb _,(λ_ h=>nomatch h),rfl⟩ (λpre b post ρ au ⟨x,y,J,h2,h3,h4,bV⟩=>by
   subst bV;have Qs:b∈F:=(by rw[au];simp);have dV:pre.length+1<=F.length:=(by rw[au];simp);rw[List.foldl_append];show ∃bK,_/\∃x y,dz (tell (pre.foldl tell (hb,[])) b).1/\(tell (pre.foldl tell (hb,[])) b).1.length<=hb.length+(pre++[b]).length/\(tell (pre.foldl tell (hb,[])) b).2.length<=(pre++[b]).length/\(∀z∈(tell (pre.foldl tell (hb,[])) b).2,z≠0/\z<2 ^ (cl ts (n+1)).length)/\bK=[some (a9 m ts),some (.int (n:Int)),some (.bH (df (tell (pre.foldl tell (hb,[])) b).1)),some (.bY (mk (cl ts (n+1)))),some (.lst ((tell (pre.foldl tell (hb,[])) b).2.map (hX (cl ts (n+1))))),x,y];generalize pre.foldl tell (hb,[])=w at J h2 h3 h4;obtain⟨B,G⟩:=w;dsimp only at J h2 h3 h4;have g1:=sM J (bare b);have g2:=Fl B (bare b);have g3:=aV B (bare b) (sr J);have oS:=aQ B (bare b) J ⋯;have PV:=ag (cl ts (n+1)) b dS;have eF:D.tup [.int (b:Int),.int 0]=b5 (bare b):=rfl;have ZH:=w3 (r:=bare b) J;unfold tell;dsimp only
   by_cases c:(red B (bare b)).1=0
   .have hz:(((red B (bare b)).1:Int)==0)=true:=(by rw[c];rfl);have sv:grow B (bare b)=B:=(by unfold grow;rw[if_pos c]);rw[if_pos c,sv];refine⟨_,by simp![eF,g3,lX,hz],some (.int (b:Int)),some (b5 (bare b)),J,by rw[List.length_append];lia,by rw[List.length_append];lia,h4,rfl⟩
   .have hz:(((red B (bare b)).1:Int)==0)=false:=abH.mpr ⋯;have h5:=uW (G.map (hX (cl ts (n+1)))) (hX (cl ts (n+1)) b) (by rw[List.length_map,gH];lia);rw[if_neg c];refine⟨_,by simp![eF,g3,lX,hz,PV,h5,oS];rfl,some (.int (b:Int)),some (b5 (bare b)),g1,by rw[List.length_append,List.length_singleton];lia,by rw[List.length_append,List.length_append];simp;lia,λz hz=>?_,?_⟩
    .rcases abq.mp hz with hz|hz
     .exact h4 z hz
     .rw[abm.mp hz];exact⟨λe=>c (ZH.mpr (by rw[e];exact uq _)),B5 b Qs⟩
    .rw[List.map_append];rfl)
 rw[e,he];generalize t1:(F.foldl tell (hb,[])).2=N at ua h3 h4;have qu:(N.map (hX (cl ts (n+1)))).all nD=true:=by
  rw[List.all_map,abB];exact λb aa=>Mo dS (λc ag=>(fx.mp ag).2.1) (h4 b aa).1 (h4 b aa).2
 obtain⟨G,p,N8⟩:=Js (hX (cl ts (n+1))) N;have ae:Den.sorted (N.map (hX (cl ts (n+1))))=.ok (.lst (G.map (hX (cl ts (n+1))))):=by
  unfold Den.sorted;rw[qu,adx,Bool.true_and,if_pos,N8];rw[List.length_map,abl];lia
 refine⟨G,by simp![t1,ae],⟨?_⟩⟩;rw[p.length_eq,Qh];lia
noncomputable def nn(ts:List (List Int))(k:Nat):Nat:=(cl ts (k+1)).length
noncomputable def gi(ts:List (List Int))(k:Nat):Nat:=gD (eU ts (k+1))
noncomputable def dE(ts:List (List Int))(k:Nat):Nat:=nn ts k-gi ts (k+1)-gi ts k
def IB(ts)(k):(dI [] (ef (eU ts (k+1)))).length=gi ts k:=by
 unfold gi;rw[V6,TA]
def Told.sum(h:Told ts n G):dE ts n=G.length/\dE ts n+gi ts (n+1)+gi ts n=nn ts n:=by
 have:=h.len;rw[IB,IB]at this;have this:G.length+gi ts (n+1)+gi ts n=nn ts n:=this;unfold dE;lia
def Jh(ρ)(c):bt (c.map ρ)=(bt c).map (List.map ρ):=by
 unfold bt;rw[List.length_map]
 split
 .rw[List.map_map];refine abM λk _=>?_
  simp only[Function.comp,List.map_append,List.map_take,List.map_drop]
 .rfl
structure Move(ts ts':List (List Int))(s t:List Int)(ρ n8:Int->Int):Prop where
 fwd:∀n z,z∈cl ts n->z≠s->z≠t->z.map ρ∈cl ts' n/\(z.map ρ).map n8=z
 bwd:∀n z,z∈cl ts' n->∃y∈cl ts n,y≠s/\y≠t/\z=y.map ρ
structure eb(ts:List (List Int))(s t:List Int):Prop where
 gj:t∈cl ts t.length
 bt:s∈bt t
 one:∀d,d∈cl ts (s.length+1)->s∈cH.bt d->d=t
noncomputable def ig(ts:List (List Int))(s t:List Int)(n:Nat):List (List Int):=(cl ts n).filter λc=>!decide (c=s)&&!decide (c=t)
def l7{s t z:List Int}:z∈ig ts s t n<->z∈cl ts n/\z≠s/\z≠t:=by
 unfold ig;rw[abi];simp
section
def eb.len(h:eb ts s t)(ay:∀t∈ts,IsCell m t):s.length+1=t.length/\1<t.length:=by
 obtain⟨a,b,_⟩:=(fV (hj ay h.gj)).mp h.bt;exact⟨b,a⟩
def eb.sin(h:eb ts s t)(ay:∀t∈ts,IsCell m t):s∈cl ts s.length:=by
 have:=jU ay h.gj h.bt;rwa[<- (h.len ay).1]at this
def eb.top(h:eb ts s t)(ay:∀t∈ts,IsCell m t)(hd:d∈cl ts n):t∉cH.bt d:=λz=>by
 obtain⟨l1,l2⟩:=h.len ay;have Af:=hj ay hd;obtain⟨_,bW,_⟩:=(fV Af).mp z;have ZZ:=(fx.mp hd).1;have b4:cnt s (cH.bt d)=2:=by
  rcases zi Af s with q|q
  .unfold cnt at q;rw[aen]at q;exact absurd (decide_eq_true h.bt) (q t z)
  .exact q
 have cR:cnt s (cH.bt d)<=1:=by
  unfold cnt;rw[aco];have:((cH.bt d).filter λc=>decide (s∈cH.bt c)).length<=[t].length:=hQ ((mh Af).filter _) λe he=>by
   obtain⟨e1,e2⟩:=abi.mp he;have ee:=jU ay hd e1;rw[show n-1=s.length+1 by lia]at ee;exact abm.mpr (h.one e ee (aca e2))
  exact this
 lia
def eb.side(h:eb ts s t)(ay:∀t∈ts,IsCell m t)(ag:c∈ig ts s t n)(aN:y∈cH.bt c):y∈ig ts s t (n-1):=by
 obtain⟨cR,b4,fk⟩:=l7.mp ag;have ee:=jU ay cR aN;refine l7.mpr ⟨ee,λe=>?_,λe=>?_⟩
 .subst e;obtain⟨_,b,_⟩:=(fV (hj ay cR)).mp aN;have:c∈cl ts (y.length+1):=(by rw[b,(fx.mp cR).1];exact cR);exact fk (h.one c this aN)
 .subst e;exact h.top ay cR aN
def GR(h:Move ts ts' s t ρ n8)(n):((ig ts s t n).map (List.map ρ)).Perm (cl ts' n):=by
 refine tY ?_ (iV ts' n) λz=>⟨λq=>?_,λq=>?_⟩
 .rw[abk,abK];refine abN (λ{a b} aA aa (q:a≠b) e=>q ?_) (abk.mp ((iV ts n).filter _));obtain⟨a1,a2,a3⟩:=l7.mp aA;obtain⟨b1,b2,cX⟩:=l7.mp aa;rw[<- (h.fwd n a a1 a2 a3).2,e,(h.fwd n b b1 b2 cX).2]
 .obtain⟨y,aN,rfl⟩:=List.mem_map.mp q;obtain⟨a1,a2,a3⟩:=l7.mp aN;exact(h.fwd n y a1 a2 a3).1
 .obtain⟨y,J,h2,h3,rfl⟩:=h.bwd n z q;exact List.mem_map.mpr ⟨y,l7.mpr ⟨J,h2,h3⟩,rfl⟩
noncomputable def col(ts:List (List Int))(n:Nat)(c:List Int):Nat:=c6 (cl ts n) (cH.bt c)
def V2(h:Move ts ts' s t ρ n8)(f:eb ts s t)(ay:∀t∈ts,IsCell m t)(n):gi ts' n=gD ((ig ts s t (n+1)).map (col ts n)):=by
 have e:=V3 (U:=ig ts s t (n+1)) (V:=cl ts n) (V':=cl ts' n) (sd:=cH.bt) (List.map ρ) (List.map n8) λc ag y aN=>by
  obtain⟨a1,a2,a3⟩:=l7.mp (f.side ay ag aN);exact⟨a1,h.fwd n y a1 a2 a3⟩
 unfold col;rw[<- e];unfold gi;refine IG λx=>?_
 unfold eU;rw[show n+1-1=n from rfl,List.mem_map,List.mem_map];have p:=GR h (n+1);constructor
 .rintro⟨z,hz,rfl⟩;obtain⟨c,ag,rfl⟩:=List.mem_map.mp (p.symm.subset hz);exact⟨c,ag,by rw[Jh]⟩
 .rintro⟨c,ag,rfl⟩;exact⟨c.map ρ,p.subset (List.mem_map.mpr ⟨c,ag,rfl⟩),by rw[Jh]⟩
def split_len(x)(n)(ak:x∈cl ts n)(au:p x=false)(h:∀c∈cl ts n,c≠x->p c=true):(cl ts n).Perm ((cl ts n).filter p++[x]):=by
 refine tY (iV ts n) (acy.mpr ⟨(iV ts n).filter _,by simp,λa aA b aa e=>?_⟩) λz=>?_
 .rw[abm]at aa;subst e;subst aa;rw[(abi.mp aA).2]at au;cases au
 .rw[abq,abi,abm];constructor
  .intro hz
   by_cases q:z=x
   .exact .inr q
   .exact .inl ⟨hz,h z hz q⟩
  .rintro(⟨a,_⟩|rfl)
   .exact a
   .exact ak
def IA (f : eb ts s t) (ay : ∀ t ∈ ts, IsCell m t) (n) : gi ts n = gD ((ig ts s t (n + 1)).map (col ts n)) + (if n + 1 = t.length then 1 else 0) /\ nn ts n = (ig ts s t (n + 1)).length + (if n + 1 = t.length then 1 else 0) + (if n + 1 = s.length then 1 else 0) := by
  obtain ⟨l1, l2⟩ := f.len ay
  have e0 : eU ts (n + 1) = (cl ts (n + 1)).map (col ts n) := rfl
  have ne : s ≠ t := fun e => by rw [e] at l1; lia
  have go : ∀ {x : List Int}, (x = s \/ x = t) -> n + 1 = x.length -> (cl ts (n + 1)).Perm (ig ts s t (n + 1) ++ [x]) := fun {x} ak ax => by
    refine split_len x (n + 1) (by rcases ak with rfl | rfl; rw [ax]; exact f.sin ay; rw [ax]; exact f.gj) (by rcases ak with rfl | rfl <;> simp) fun c ag FJ => ?_
    have dB := (fx.mp ag).1
    have eS : c ≠ s := fun e => by subst e; rcases ak with rfl | rfl; exact FJ rfl; lia
    have d2 : c ≠ t := fun e => by subst e; rcases ak with rfl | rfl; lia; exact FJ rfl
    simp [eS, d2]
  have cols : ∀ {x : List Int}, (cl ts (n + 1)).Perm (ig ts s t (n + 1) ++ [x]) -> gi ts n = gD ((ig ts s t (n + 1)).map (col ts n) ++ [col ts n x]) := fun {x} p => by
    unfold gi
    rw [e0]
    refine IG fun z => ?_
    have := (p.map (col ts n)).mem_iff (a := z)
    rw [List.map_append] at this
    exact this
  by_cases cR : n + 1 = t.length
  · have b4 : ¬ n + 1 = s.length := by lia
    have p := go (.inr rfl) cR
    rw [if_pos cR, if_neg b4, cols p]
    refine ⟨(w5 _ _).2 fun z => ?_, by unfold nn; rw [p.length_eq, List.length_append]; rfl⟩
    have ae : s ∈ cl ts n := by rw [show n = s.length by lia]; exact f.sin ay
    have bM := abP ae
    have aa := uo (k := cp (cl ts n) s) (fun a aA => ?_) z
    · exact TG (iV ts n) (mh (hj ay f.gj)) f.bt ae aa
    · obtain ⟨c, ag, rfl⟩ := List.mem_map.mp aA
      obtain ⟨a1, a2, a3⟩ := l7.mp ag
      exact TH (iV ts n) (mh (hj ay a1)) (fun q => a3 (f.one c (by rw [show s.length + 1 = n + 1 by lia]; exact a1) q)) ae
  · by_cases b4 : n + 1 = s.length
    · have p := go (.inl rfl) b4
      rw [if_neg cR, if_pos b4, cols p]
      refine ⟨(w5 _ _).1 ?_, by unfold nn; rw [p.length_eq, List.length_append]; rfl⟩
      have kN := hj ay f.gj
      have ee : ∀ x ∈ cH.bt t, x ∈ cl ts (n + 1) := fun x ak => by
        have := jU ay f.gj ak
        rwa [show t.length - 1 = n + 1 by lia] at this
      have gE := Iz (U := cl ts (n + 1)) (V := cl ts n) (sd := cH.bt) (c := cH.bt t) (iV ts n) ee (fun x ak => ⟨mh (rh kN ak), fun y aN => jU ay (ee x ak) aN⟩) fun y => by
        have z := zi kN y
        refine (acp (· % 2) (?e : _ = cnt y (cH.bt t))).trans ?_
        case e => exact adm fun x _ => by simp only [abl]
        lia
      rw [r0 ee, Zz ((List.perm_cons_erase f.bt).map _)] at gE
      have gE : col ts n s ^^^ eV (((cH.bt t).erase s).map (col ts n)) = 0 := gE
      have e1 : col ts n s = eV (((cH.bt t).erase s).map (col ts n)) := by
        have := acp (· ^^^ eV (((cH.bt t).erase s).map (col ts n))) gE
        rwa [mq, adt] at this
      rw [e1]
      refine KD fun a aA => ?_
      obtain ⟨y, aN, rfl⟩ := List.mem_map.mp aA
      have J := (mh kN).mem_erase_iff.mp aN
      exact fW (List.mem_map.mpr ⟨y, l7.mpr ⟨ee y J.2, J.1, fun e => by have := (fx.mp (ee y J.2)).1; rw [e] at this; lia⟩, rfl⟩)
    · have e : ig ts s t (n + 1) = cl ts (n + 1) := by
        unfold ig
        rw [List.filter_eq_self]
        intro c ag
        have := (fx.mp ag).1
        have eS : c ≠ s := fun e => by subst e; lia
        have d2 : c ≠ t := fun e => by subst e; lia
        simp [eS, d2]
      rw [if_neg cR, if_neg b4, e]
      exact ⟨rfl, rfl⟩
def MJ(h:Move ts ts' s t ρ n8)(f:eb ts s t)(ay:∀t∈ts,IsCell m t)(s1:∀n,dE ts n+gi ts (n+1)+gi ts n=nn ts n)(s2:∀n,dE ts' n+gi ts' (n+1)+gi ts' n=nn ts' n)(n):dE ts' n=dE ts n:=by
 obtain⟨l1,l2⟩:=f.len ay;have a1:=s1 n;have a2:=s2 n;obtain⟨b1,b2⟩:=IA f ay n;obtain⟨cX,_⟩:=IA f ay (n+1);rw[<- V2 h f ay]at b1 cX;have eE:nn ts' n=(ig ts s t (n+1)).length:=by
  have:=(GR h (n+1)).length_eq;rw[List.length_map]at this;exact this.symm
 rw[<- eE]at b2
 by_cases cR:n+1=t.length
 .have b4:¬n+1=s.length:=⋯;have fk:¬n+1+1=t.length:=⋯;rw[if_pos cR]at b1 b2;rw[if_neg b4]at b2;rw[if_neg fk]at cX;lia
 .rw[if_neg cR]at b1 b2
  by_cases b4:n+1=s.length
  .have fk:n+1+1=t.length:=⋯;rw[if_pos b4]at b2;rw[if_pos fk]at cX;lia
  .have fk:¬n+1+1=t.length:=⋯;rw[if_neg b4]at b2;rw[if_neg fk]at cX;lia
end
section
variable{m:Int}{ts:List (List Int)}{s t:List Int}
def Bt{s o:List Int}(av:cQ ltI o)(ae:s.Sublist o)(ak:x∈o)(lV:x∉s):∃e:List Int,e.Sublist o/\s.Sublist e/\e.length=s.length+1/\∀z,z∈e<->z=x\/z∈s:=by
 have hm:∀z,z∈o.filter (λz=>decide (z=x)||decide (z∈s))<->z=x\/z∈s:=λz=>by
  rw[abi,acI,abl,abl];refine⟨λh=>h.2,λh=>⟨?_,h⟩⟩;rcases h with rfl|h
  .exact ak
  .exact ae.subset h
 have F6:cQ ltI s:=abx ae av;have qx:cQ ltI (o.filter λz=>decide (z=x)||decide (z∈s)):=abx aci av;refine⟨_,aci,ov F6 qx λz hz=>(hm z).mpr (.inr hz),?_,hm⟩;have p:(o.filter λz=>decide (z=x)||decide (z∈s)).Perm (x::s):=tY (iw qx) (abv.mpr ⟨lV,iw F6⟩) λz=>by rw[hm,aa9]
 rw[p.length_eq,List.length_cons]
def J9{s o:List Int}(av:cQ ltI o)(ae:s.Sublist o)(ax:s.length+2<=o.length):∃x y,x≠y/\x∈o/\y∈o/\x∉s/\y∉s:=by
 have J:=D4 (iw av) (iw (abx ae av)) λx ak=>ae.subset ak
 rw[aco]at J;have az:=(iw av).filter λx=>!decide (x∈s)
 have hm:∀z∈o.filter (λx=>!decide (x∈s)),z∈o/\z∉s:=λz hz=>by
  have:=abi.mp hz;exact⟨this.1,by simpa using this.2⟩
 generalize o.filter (λx=>!decide (x∈s))=w at J az hm
 match w,J,az,hm with
 |x::y::r,_,az,hm =>
  have a:=hm x List.mem_cons_self;have b:=hm y (List.mem_cons_of_mem _ List.mem_cons_self);exact⟨x,y,λe=>(abv.mp az).1 (by rw[e];exact List.mem_cons_self),a.1,b.1,a.2,b.2⟩
 |[_],J,_,_=>simp at J;lia
 |[],J,_,_=>simp at J;lia
def e7(ay:∀t∈ts,IsCell m t)(hz:z∈bT ts):cQ ltI z/\z≠[]/\z∈cl ts z.length:=by
 obtain⟨J,t,h2,h3⟩:=i9.mp hz;exact⟨abx h3 (ay t h2).2.2,J,fx.mpr ⟨rfl,J,t,h2,h3⟩⟩
def iY(hz:z∈cl ts n):z∈bT ts:=by
 obtain⟨_,J,h2⟩:=fx.mp hz;exact i9.mpr ⟨J,h2⟩
def vs(hz:z∈bT ts)(ae:y.Sublist z)(aN:y≠[]):y∈bT ts:=by
 obtain⟨_,t,h2,h3⟩:=i9.mp hz;exact i9.mpr ⟨aN,t,h2,ae.trans h3⟩
def eb.sup(h:eb ts s t)(ay:∀t∈ts,IsCell m t){o:List Int}(av:o∈bT ts)(ae:s.Sublist o)(ne:s≠o):o=t:=by
 obtain⟨a,_,c⟩:=e7 ay av;obtain⟨_,tf,_⟩:=fx.mp (h.sin ay);have nA:1<=s.length:=by cases s with|nil=>exact absurd rfl tf|cons _ _=>simp
 have bM:s.length<o.length:=uY (abx ae a) a (λx ak=>ae.subset ak) ne;have key:∀e:List Int,e∈bT ts->s.Sublist e->e.length=s.length+1->e=t:=λe he Rx ax=>by
  obtain⟨e1,e2,e3⟩:=e7 ay he;rw[ax]at e3;exact h.one e e3 ((fV e1).mpr ⟨⋯,ax.symm,Rx⟩)
 by_cases ax:o.length=s.length+1
 .exact key o av ae ax
 .exfalso;obtain⟨x,y,KG,ak,aN,lV,v3⟩:=J9 a ae ⋯;obtain⟨e1,p1,p2,p3,p4⟩:=Bt a ae ak lV;obtain⟨e2,aM,a7,bU,cO⟩:=Bt a ae aN v3;have k1:=key e1 (vs av p1 (by rintro rfl;simp at p3)) p2 p3;have k2:=key e2 (vs av aM (by rintro rfl;simp at bU)) a7 bU;have:x∈e2:=(by rw[k2,<- k1];exact(p4 x).mpr (.inl rfl));rcases(cO x).mp this with z|z
  .exact KG z
  .exact lV z
def PQ(ay:∀t∈ts,IsCell m t)(ae:s∈bT ts)(J:t∈bT ts)(h2:s.Sublist t)(h3:s≠t)(h:∀o∈bT ts,s.Sublist o->s≠o->o=t):eb ts s t:=by
 obtain⟨a,b,c⟩:=e7 ay J;obtain⟨_,tf,_⟩:=e7 ay ae;have nA:1<=s.length:=by cases s with|nil=>exact absurd rfl tf|cons _ _=>simp
 have bM:s.length<t.length:=uY (abx h2 a) a (λx ak=>h2.subset ak) h3;have ax:t.length=s.length+1:=by
  apply ach;intro q;obtain⟨x,y,KG,ak,aN,lV,v3⟩:=J9 a h2 ⋯;obtain⟨e1,p1,p2,p3,p4⟩:=Bt a h2 ak lV;have:=h e1 (vs J p1 (by rintro rfl;simp at p3)) p2 λe=>by rw[<- e]at p3;lia
  rw[this]at p3;lia
 refine⟨c,(fV a).mpr ⟨⋯,ax.symm,h2⟩,λd hd AJ=>?_⟩;obtain⟨_,_,gy⟩:=(fV (hj ay hd)).mp AJ;exact h d (iY hd) gy λe=>by have:=(fx.mp hd).1;rw[<- e]at this;lia
noncomputable abbrev ei:=List Int×List Int
noncomputable def ck(p:ei):D:=.tup [aq p.1,aq p.2]
noncomputable def jy(p q:ei):Bool:=if p.1=q.1 then lexLt p.2 q.2 else lexLt p.1 q.1
def A9:gU jy:=by
 refine⟨λa=>by simp[jy,qO],λ{a b c} J h2=>?_,λa b h=>?_⟩
 .unfold jy at *
  by_cases e1:a.1=b.1
  .by_cases e2:b.1=c.1
   .rw[if_pos e1]at J;rw[if_pos e2]at h2;rw[if_pos (e1.trans e2)];exact tH J h2
   .rw[if_neg e2]at h2;rw[e1,if_neg e2];exact h2
  .rw[if_neg e1]at J
   by_cases e2:b.1=c.1
   .rw[<- e2,if_neg e1];exact J
   .rw[if_neg e2]at h2;have:=tH J h2;rw[if_neg]
    .exact this
    .intro z;rw[z,qO]at this;cases this
 .unfold jy
  by_cases e1:a.1=b.1
  .have:a.2≠b.2:=λe=>h (Prod.ext e1 e)
   rw[if_pos e1,if_pos e1.symm];exact tG _ _ this
  .rw[if_neg e1,if_neg (abW e1)];exact tG _ _ e1
def Tg(p q):i8 (ck p) (ck q)=some (jy p q):=by
 show jx [aq p.1,aq p.2] [aq q.1,aq q.2]=_;show(if fs (aq p.1) (aq q.1)=true then jx [aq p.2] [aq q.2] else i8 (aq p.1) (aq q.1))=_;rw[m8,pb];unfold jy
 by_cases e:p.1=q.1
 .rw[decide_eq_true e,if_pos rfl,if_pos e];show(if fs (aq p.2) (aq q.2)=true then some false else i8 (aq p.2) (aq q.2))=_;rw[m8,pb]
  by_cases e2:p.2=q.2
  .rw[decide_eq_true e2,if_pos rfl,e2,qO]
  .rw[decide_eq_false e2,if_neg ∅]
 .rw[decide_eq_false e,if_neg ∅,if_neg e]
def Jt(az:∀p∈aJ,p.1≠[]/\p.2≠[])(h:aJ.length<=63):Den.sorted (aJ.map ck)=.ok (.lst ((cF jy aJ).map ck)):=by
 have ag:(aJ.map ck).all nD=true:=by
  rw[List.all_map,abB];intro p au;have:=va (cs:=[p.1,p.2]) λc ag=>by
   rcases aa9.mp ag with rfl|ag
   .exact(az p au).1
   .rw[abm.mp ag];exact(az p au).2
  have this:(nE (aq p.1)&&(nE (aq p.2)&&true))=true:=this;exact this
 unfold Den.sorted;rw[ag,adx,Bool.true_and,if_pos,k6 (lt:=jy) Tg];rw[List.length_map,abl];exact h
def XG(au:aJ.Nodup)(aE:gC.Nodup)(h:∀z,z∈aJ<->z∈gC):cF jy aJ=cF jy gC:=kp A9 (kq A9 au) (kq A9 aE) λz=>by rw[ja,ja,h]
def HG{α:Type}{xs:List α}(az:xs.Nodup){t:α}(J:t∈xs)(h2:∀o∈xs,o=t):xs=[t]:=by
 match xs,az,J,h2 with
 |[x],_,J,_=>rw[abm.mp J]
 |x::y::r,az,_,h2 =>
  have a:=h2 x List.mem_cons_self;have b:=h2 y (List.mem_cons_of_mem _ List.mem_cons_self);exact absurd (by rw[a,b];exact List.mem_cons_self) (abv.mp az).1
def oP(ts):(bT ts).Nodup:=yf (ye ts)
noncomputable def oR(E:List (List Int)):List ei:=E.filterMap λc=>match E.filter λo=>!decide (c=o)&&lies c o with|[d]=>some (c,d)|_=>none
noncomputable def dg(ts:List (List Int)):List ei:=cF jy (oR (bT ts))
def Dc{E:List (List Int)}(h1:E.Nodup)(hm:∀z,z∈E<->z∈bT ts)(ay:∀t∈ts,IsCell m t)(ae:s∈bT ts):E.filter (λo=>!decide (s=o)&&lies s o)=[t]<->eb ts s t:=by
 have hm:∀o,o∈E.filter (λo=>!decide (s=o)&&lies s o)<->o∈bT ts/\s≠o/\s.Sublist o:=λo=>by
  rw[abi,hm,aa6,abU,aeJ,nI];constructor
  .rintro⟨a,b,c⟩;exact⟨a,b,ov (e7 ay ae).1 (e7 ay a).1 c⟩
  .rintro⟨a,b,c⟩;exact⟨a,b,λx ak=>c.subset ak⟩
 constructor
 .intro e;rw[e]at hm;obtain⟨a,b,c⟩:=(hm t).mp (by simp);exact PQ ay ae a c b λo J h2 h3=>by simpa using (hm o).mpr ⟨J,h3,h2⟩
 .intro h;obtain⟨a,b,c⟩:=(fV (hj ay h.gj)).mp h.bt;exact HG (h1.filter _) ((hm t).mpr ⟨iY h.gj,λe=>by rw[e]at b;lia,c⟩) λo av=>h.sup ay ((hm o).mp av).1 ((hm o).mp av).2.2 ((hm o).mp av).2.1
theorem eb.bT(h:eb ts s t)(ay:∀t∈ts,IsCell m t):s∈bT ts/\t∈cH.bT ts:=⟨iY (h.sin ay),iY h.gj⟩
def Bf{E:List (List Int)}(h1:E.Nodup)(hm:∀z,z∈E<->z∈bT ts)(ay:∀t∈ts,IsCell m t)(p):p∈oR E<->eb ts p.1 p.2:=by
 unfold oR;rw[adG];constructor
 .rintro⟨c,ag,e⟩
  split at e
  .rename_i d q;cases e;exact(Dc h1 hm ay ((hm c).mp ag)).mp q
  .cases e
 .intro h;refine⟨p.1,(hm _).mpr (h.bT ay).1,?_⟩;rw[(Dc h1 hm ay (h.bT ay).1).mpr h]
def E0{E:List (List Int)}(h1:E.Nodup):(oR E).Nodup:=by
 unfold oR;rw[abk,List.pairwise_filterMap];refine acj (λ{a b} h p au q aE e=>h ?_) (abk.mp h1);have key:∀{c:List Int}{p:ei},(match E.filter λo=>!decide (c=o)&&lies c o with|[d]=>some (c,d)|_=>none)=some p->c=p.1:=λ{c p} z=>by
  split at z
  .cases z;rfl
  .cases z
 rw[key au,key aE,e]
def ph(ay:∀t∈ts,IsCell m t)(p):p∈dg ts<->eb ts p.1 p.2:=by
 unfold dg;rw[ja,Bf (oP ts) (λ_=>Iff.rfl) ay]
def Fb(ay:∀t∈ts,IsCell m t)(az:aJ.Nodup)(h:∀p,p∈aJ<->eb ts p.1 p.2):cF jy aJ=dg ts:=XG az (E0 (oP ts)) λz=>by rw[h,Bf (oP ts) (λ_=>Iff.rfl) ay]
end
noncomputable def lf(cs:List (List Int)):List Int:=cF ltI (cT cs.flatten)
noncomputable def gh(L:List Int)(x:Int):Int:=(cp L x:Nat)
noncomputable def sH(L:List Int)(i:Int):Int:=L.getD i.toNat 0
noncomputable def nb(cs:List (List Int)):List (List Int):=cs.map (List.map (gh (lf cs)))
def j5{cs:List (List Int)}:x∈lf cs<->∃c∈cs,x∈c:=by unfold lf;rw[ja,j4,List.mem_flatten]
def ou(cs):cQ ltI (lf cs):=kq i7 (nQ _)
def GP{A B:List (List Int)}(J:∀a∈A,a∈B)(h2:∀b∈B,∃a∈A,∀x∈b,x∈a):lf A=lf B:=kp i7 (ou A) (ou B) λz=>by
 rw[j5,j5];exact⟨λ⟨c,a,b⟩=>⟨c,J c a,b⟩,λ⟨c,a,b⟩=>let ⟨d,e,f⟩:=h2 c a;⟨d,e,f z b⟩⟩
def Kc{A B:List (List Int)}(iA:∀a∈A,a∈B)(d3:∀b∈B,∃a∈A,∀x∈b,x∈a)(aA:∀b∈B,cQ ltI b):d6 A=d6 B:=kp kQ (uZ A) (uZ B) λz=>by
 rw[jA,jA];constructor
 .rintro⟨J,h2⟩;refine⟨iA z J,λo av ax ae=>?_⟩;obtain⟨a,h3,h4⟩:=d3 o av;have:o.length<=a.length:=hQ (iw (aA o av)) h4;exact h2 a h3 ⋯ (nI.mpr λx ak=>h4 x (nI.mp ae x ak))
 .rintro⟨J,h2⟩;refine⟨?_,λo av=>h2 o (iA o av)⟩;obtain⟨a,h3,h4⟩:=d3 z J
  by_cases e:z=a
  .rw[e];exact h3
  .exact absurd (nI.mpr h4) (h2 a (iA a h3) (uY (aA z J) (aA a (iA a h3)) h4 e))
def VZ(h:x∈L):sH L (gh L x)=x:=by
 have bM:=we h;unfold sH gh;rw[Int.toNat_natCast,List.getD,abc bM];exact ace bM
def VY(h:x∈L):0<=gh L x/\gh L x<(L.length:Int):=by
 have:=we h;unfold gh;lia
def V0(ed:cQ ltI L)(aA:a∈L)(aa:b∈L)(h:a<b):gh L a<gh L b:=by
 have J:=we aA;have h2:=we aa;have e1:L[cp L a]=a:=ace J;have e2:L[cp L b]=b:=ace h2;unfold gh;rcases adP (cp L a) (cp L b) with q|q|q
 .omega
 .exfalso;have:L[cp L a]=L[cp L b]:=(by congr 1);lia
 .exfalso;have:=acR.mp ed _ _ h2 J q;rw[e1,e2]at this;simp[ltI]at this;lia
def BX(ed:cQ ltI L)(ag:cQ ltI c)(h:∀x∈c,x∈L):cQ ltI (c.map (gh L)):=by
 unfold cQ;rw[abK];refine abN (λ{a b} aA aa q=>?_) ag;have q:a<b:=by simpa[ltI] using q
 have:=V0 ed (h a aA) (h b aa) q;simpa[ltI] using this
section
variable{m:Int}{ts:List (List Int)}{s t:List Int}
noncomputable def c8(ts:List (List Int))(s t:List Int):List (List Int):=(bT ts).filter λc=>!decide (c=s)&&!decide (c=t)
def g5:z∈c8 ts s t<->z∈bT ts/\z≠s/\z≠t:=by
 unfold c8;rw[abi];simp
def Ji(aA:cQ ltI t)(ax:1<t.length)(ak:x∈t):∃e∈bt t,∀z,z∈e<->z∈t/\z≠x:=by
 have hm:∀z,z∈t.filter (λz=>!decide (z=x))<->z∈t/\z≠x:=λz=>by rw[abi];simp
 have qx:cQ ltI (t.filter λz=>!decide (z=x)):=abx aci aA;refine⟨_,(fV aA).mpr ⟨ax,?_,aci⟩,hm⟩;have p:(x::t.filter λz=>!decide (z=x)).Perm t:=tY (abv.mpr ⟨λz=>((hm x).mp z).2 rfl,iw qx⟩) (iw aA) λz=>by
  rw[aa9,hm];constructor
  .rintro(rfl|h)
   .exact ak
   .exact h.1
  .intro h
   by_cases e:z=x
   .exact .inl e
   .exact .inr ⟨h,e⟩
 have:=p.length_eq;rw[List.length_cons]at this;exact this
def IM(f:eb ts s t)(ay:∀t∈ts,IsCell m t):∃e∈bt t,e≠s/\e∈c8 ts s t:=by
 obtain⟨l1,l2⟩:=f.len ay;have aA:=hj ay f.gj;obtain⟨_,_,gy⟩:=(fV aA).mp f.bt;obtain⟨tf,_⟩:=(fx.mp (f.sin ay)).2;cases ae:s with
 |nil=>exact absurd ae tf
 |cons x r =>
  have ak:x∈t:=gy.subset (by rw[ae];exact List.mem_cons_self);obtain⟨e,J,h2⟩:=Ji aA l2 ak;have FL:e≠x::r:=λz=>((h2 x).mp (by rw[z];exact List.mem_cons_self)).2 rfl
  refine⟨e,J,FL,g5.mpr ⟨iY (jU ay f.gj J),FL,λz=>?_⟩⟩;have:=((fV aA).mp J).2.1;rw[z]at this;lia
def ra(ay:∀t∈ts,IsCell m t)(hz:z∈c8 ts s t):cQ ltI z:=(e7 ay (g5.mp hz).1).1
def Wb(f:eb ts s t)(ay:∀t∈ts,IsCell m t)(hz:z∈c8 ts s t)(ae:y.Sublist z)(aN:y≠[]):y∈c8 ts s t:=by
 obtain⟨bO,bE,dx⟩:=g5.mp hz;obtain⟨_,_,cK⟩:=(fV (hj ay f.gj)).mp f.bt;refine g5.mpr ⟨vs bO ae aN,λe=>?_,λe=>?_⟩
 .rw[e]at ae;exact dx (f.sup ay bO ae (abW bE))
 .rw[e]at ae;exact dx (f.sup ay bO (cK.trans ae) (abW bE))
def wC(ay:∀t∈ts,IsCell m t){cs:List (List Int)}(h:∀c∈cs,cQ ltI c/\c≠[]):∀c∈nb cs,IsCell ((lf cs).length:Int) c:=λc ag=>by
 obtain⟨z,hz,rfl⟩:=List.mem_map.mp ag;have ee:∀x∈z,x∈lf cs:=λx ak=>j5.mpr ⟨z,hz,ak⟩
 refine⟨λe=>(h z hz).2 (List.map_eq_nil_iff.mp e),λx ak=>?_,BX (ou cs) (h z hz).1 ee⟩;obtain⟨y,aN,rfl⟩:=List.mem_map.mp ak;exact VY (ee y aN)
def HE(f:eb ts s t)(ay:∀t∈ts,IsCell m t)(cJ:m<=6):Net ((lf (c8 ts s t)).length:Int) (d6 (nb (c8 ts s t))):=by
 have ag:=wC ay (cs:=c8 ts s t) λc ag=>⟨ra ay ag,(e7 ay (g5.mp ag).1).2.1⟩
 refine Hp ?_ ?_ ag (u9.mpr λx x0 aT=>?_)
 .obtain⟨e,_,_,he⟩:=IM f ay;cases q:e with
  |nil=>exact absurd q (e7 ay (g5.mp he).1).2.1
  |cons y r =>
   have:=adO (j5.mpr ⟨e,he,by rw[q];exact List.mem_cons_self⟩);lia
 .have:(lf (c8 ts s t)).length<=(cZ m).length:=hQ (iw (ou _)) λz hz=>by
   obtain⟨c,J,h2⟩:=j5.mp hz;obtain⟨_,u,h3,h4⟩:=i9.mp (g5.mp J).1;exact pj.mpr ((ay u h3).2.1 z (h4.subset h2))
  have:=wb cJ;lia
 .have bM:x.toNat<(lf (c8 ts s t)).length:=⋯;obtain⟨c,J,h2⟩:=j5.mp (aeK bM);refine⟨c.map (gh (lf (c8 ts s t))),List.mem_map.mpr ⟨c,J,rfl⟩,List.mem_map.mpr ⟨_,h2,?_⟩⟩;unfold gh;rw[Gu (iw (ou _)) bM];lia
def HD(f:eb ts s t)(ay:∀t∈ts,IsCell m t):Move ts (d6 (nb (c8 ts s t))) s t (gh (lf (c8 ts s t))) (sH (lf (c8 ts s t))):=by
 have ag:=wC ay (cs:=c8 ts s t) λc ag=>⟨ra ay ag,(e7 ay (g5.mp ag).1).2.1⟩
 refine⟨λn z hz J h2=>?_,λn z hz=>?_⟩
 .have aV:z∈c8 ts s t:=g5.mpr ⟨iY hz,J,h2⟩;have az:z.map (gh (lf (c8 ts s t)))∈nb (c8 ts s t):=List.mem_map.mpr ⟨z,aV,rfl⟩;obtain⟨u,h3,h4⟩:=CA ag _ _ az (Nat.le_add_left _ _);have bc:=ag u (jA.mp h3).1;refine⟨fx.mpr ⟨by rw[List.length_map];exact(fx.mp hz).1,(ag _ az).1,u,h3,ov (ag _ az).2.2 bc.2.2 h4⟩,?_⟩;rw[List.map_map];exact(abM λx ak=>VZ (j5.mpr ⟨z,aV,ak⟩)).trans (aeh z)
 .obtain⟨J,h2,u,h3,h4⟩:=fx.mp hz;obtain⟨c,h5,rfl⟩:=List.mem_map.mp (jA.mp h3).1;obtain⟨y,el,rfl⟩:=List.sublist_map_iff.mp h4;rw[List.length_map]at J;have aN:y≠[]:=λe=>h2 (by rw[e];rfl)
  obtain⟨rx,uF,ZF⟩:=g5.mp (Wb f ay h5 el aN);have:=(e7 ay rx).2.2;rw[J]at this;exact⟨y,this,uF,ZF,rfl⟩
def Uh(f:eb ts s t)(ay:∀t∈ts,IsCell m t):(bT (d6 (nb (c8 ts s t)))).length<(bT ts).length:=by
 have tP:=HD f ay;have ag:=wC ay (cs:=c8 ts s t) λc ag=>⟨ra ay ag,(e7 ay (g5.mp ag).1).2.1⟩
 have cD:∀c∈d6 (nb (c8 ts s t)),IsCell ((lf (c8 ts s t)).length:Int) c:=λc h=>ag c (jA.mp h).1
 have ae:=(f.bT ay).1;have key:∀z∈bT (d6 (nb (c8 ts s t))),∃y∈bT ts,y≠s/\z=y.map (gh (lf (c8 ts s t)))/\z.map (sH (lf (c8 ts s t)))=y:=λz hz=>by
  obtain⟨y,J,h2,h3,h4⟩:=tP.bwd z.length z (e7 cD hz).2.2;exact⟨y,iY J,h2,h4,by rw[h4];exact(tP.fwd _ y J h2 h3).2⟩
 have:=hQ (xs:=(bT (d6 (nb (c8 ts s t)))).map (List.map (sH (lf (c8 ts s t))))) (ys:=(bT ts).erase s) (by
  rw[abk,abK];refine abN (λ{a b} aA aa (q:a≠b) e=>q ?_) (abk.mp (oP _));obtain⟨y,_,_,J,h2⟩:=key a aA;obtain⟨w,_,_,h3,h4⟩:=key b aa;rw[J,h3,<- h2,<- h4,e]) λz hz=>by
   obtain⟨w,hw,rfl⟩:=List.mem_map.mp hz;obtain⟨y,J,h2,_,h4⟩:=key w hw;rw[h4];exact(oP ts).mem_erase_iff.mpr ⟨h2,J⟩
 rw[List.length_map,adC ae]at this;have:=adO ae;lia
noncomputable def iG(ts:List (List Int))(s t:List Int):List (List Int):=ts.filter (λc=>!decide (c=t))++(bt t).filter λc=>!decide (c=s)
def BI(aG:Net m ts)(f:eb ts s t):∀a∈iG ts s t,a∈c8 ts s t:=λa aA=>by
 have ay:=aG.cell;obtain⟨l1,l2⟩:=f.len ay;rcases abq.mp aA with h|h
 .obtain⟨J,h2⟩:=abi.mp h;have h2:a≠t:=(by simpa using h2);have h7:a∈bT ts:=i9.mpr ⟨(ay a J).1,a,J,adn a⟩;refine g5.mpr ⟨h7,λe=>?_,h2⟩;obtain⟨_,_,u,h3,h4⟩:=fx.mp f.gj;have h5:=h4.length_le;rw[aG.top]at J;obtain⟨_,_,cK⟩:=(fV (hj ay f.gj)).mp f.bt;refine(jA.mp J).2 u h3 (by rw[e];lia) (nI.mpr λx ak=>?_);rw[e]at ak;exact h4.subset (cK.subset ak)
 .obtain⟨J,h2⟩:=abi.mp h;have h2:a≠s:=(by simpa using h2);refine g5.mpr ⟨iY (jU ay f.gj J),h2,λe=>?_⟩;have:=((fV (hj ay f.gj)).mp J).2.1;rw[e]at this;lia
def BH(aG:Net m ts)(f:eb ts s t):∀b∈c8 ts s t,∃a∈iG ts s t,∀x∈b,x∈a:=λb aa=>by
 have ay:=aG.cell;obtain⟨l1,l2⟩:=f.len ay;have kN:=hj ay f.gj;obtain⟨b1,b2,cX⟩:=g5.mp aa;obtain⟨_,u,h3,h4⟩:=i9.mp b1
 by_cases e:u=t
 .rw[e]at h4;have go:∀x,x∈t->x∉b->(∀e∈bt t,(∀z,z∈e<->z∈t/\z≠x)->e≠s)->∃a∈iG ts s t,∀x∈b,x∈a:=λx ak vZ ny=>by
   obtain⟨d,bQ,bW⟩:=Ji kN l2 ak;refine⟨d,abn _ (abi.mpr ⟨bQ,by simp[ny d bQ bW]⟩),λz hz=>(bW z).mpr ⟨h4.subset hz,λq=>vZ (q▸hz)⟩⟩
  have miss:∀{c:List Int},cQ ltI c->b≠c->(∀z∈b,z∈c)->∃x∈c,x∉b:=λ{c} ag dJ gy=>by
   apply ach;intro q;exact dJ (kp i7 (ra ay aa) ag λz=>⟨gy z,λhz=>ach λw=>q ⟨z,hz,w⟩⟩)
  obtain⟨x,ak,vZ⟩:=miss kN cX λz hz=>h4.subset hz
  by_cases lV:x∈s
  .exact go x ak vZ λe _ he q=>((he x).mp (by rw[q];exact lV)).2 rfl
  .-- s is J0 side without x
   have gy:∀z∈b,z∈s:=λz hz=>by
    apply ach;intro w;have RO:=h4.subset hz;have Ry:=(fV kN).mp f.bt;have:(x::z::s).length<=t.length:=hQ (abv.mpr ⟨λq=>(aa9.mp q).elim (λq=>vZ (q▸hz)) lV,abv.mpr ⟨w,iw (rh kN f.bt)⟩⟩) λy aN=>by
     rcases aa9.mp aN with rfl|aN
     .exact ak
     .rcases aa9.mp aN with rfl|aN
      .exact RO
      .exact Ry.2.2.subset aN
    simp at this;lia
   obtain⟨y,aN,RM⟩:=miss (rh kN f.bt) b2 gy;exact go y (((fV kN).mp f.bt).2.2.subset aN) RM λe _ he q=>((he y).mp (by rw[q];exact aN)).2 rfl
 .exact⟨u,List.mem_append_left _ (abi.mpr ⟨h3,by simp[e]⟩),λx ak=>h4.subset ak⟩
def Vi(aG:Net m ts)(f:eb ts s t):lf (iG ts s t)=lf (c8 ts s t)/\d6 (nb (iG ts s t))=d6 (nb (c8 ts s t)):=by
 have e:=GP (BI aG f) (BH aG f);refine⟨e,?_⟩;unfold nb;rw[e];refine Kc (λa aA=>?_) (λb aa=>?_) λb aa=>?_
 .obtain⟨c,ag,rfl⟩:=List.mem_map.mp aA;exact List.mem_map.mpr ⟨c,BI aG f c ag,rfl⟩
 .obtain⟨c,ag,rfl⟩:=List.mem_map.mp aa;obtain⟨a,J,h2⟩:=BH aG f c ag;refine⟨a.map _,List.mem_map.mpr ⟨a,J,rfl⟩,λx ak=>?_⟩;obtain⟨y,aN,rfl⟩:=List.mem_map.mp ak;exact List.mem_map.mpr ⟨y,h2 y aN,rfl⟩
 .obtain⟨c,ag,rfl⟩:=List.mem_map.mp aa;exact BX (ou _) (ra aG.cell ag) λx ak=>j5.mpr ⟨c,ag,ak⟩
end
def EH(i j):ev pg Φ ρ (.kR i j)=qP ρ[i]? ρ[j]?:=ba rfl
def OE(i j):ev pg Φ ρ (.oE i j)=qg ρ[i]? ρ[j]?:=ba rfl
def OW(i):ex pg Φ ρ (.oH i)=.ok (.br (ρ.set i (some (.cN [])))):=ba rfl
def O3(i)(e):ex pg Φ ρ (.q9 i e)=u4 ρ[i]?>>=λ_=>ev pg Φ ρ e>>=λd=>.ok (.cP d):=ba rfl
def Mq(ah):u4 (some (some (.cN ah)))=.ok ():=ba rfl
def O4(i)(e):ex pg Φ ρ (.pG i e)=ev pg Φ ρ e>>=λd=>ui ρ[i]? d>>=λx=>.ok (.br (ρ.set i (some x))):=ba rfl
def O0(i):ex pg Φ ρ (.pop i)=wZ ρ[i]?>>=λx=>.ok (.br (ρ.set i (some x))):=ba rfl
def O5(c)(b):ex pg Φ ρ (.rt c b)=lh (λbK=>ev pg Φ bK c>>=λx=>f6 x) (λbK=>eP pg Φ bK b) 200 ρ:=ba rfl
def S6(c o):cV pg Φ ⟨2,0,aW.yH⟩ [aq c,aq o]=.ok (.aP (lies c o)):=by
 have e1:cY (elem pg Φ [some (aq c),some (aq o)] (.cmp .mem (.var 2) (.var 1)) 0 .none) (c.map .int)=.ok (c.map λx=>.aP (decide (x∈o))):=MN λx _=>by
  simp!;unfold aq;simp![Ha]
 simp![aW.yH,pF,e1,K8,lies]
def S7(hf:∀c o:List Int,Φ f [aq c,aq o]=.ok (.aP (lies c o)))(c)(os:List (List Int)):cV pg Φ ⟨2,0,aW.yI f⟩ [aq c,.lst (os.map aq)]=.ok (.aP (os.any (lies c))):=by
 have e1:cY (elem pg Φ [some (aq c),some (.lst (os.map aq))] (.call f (.cons (.var 0) (.cons (.var 2) .nil))) 0 .none) (os.map aq)=.ok (os.map λo=>.aP (lies c o)):=iW λo _=>by simp![hf]
 simp![aW.yI,e1,Lf]
def Zf(hf:∀(c:List Int)(os:List (List Int)),Φ f [aq c,.lst (os.map aq)]=.ok (.aP (os.any (lies c)))){cs:List (List Int)}(az:∀c∈cs,c≠[])(Fn:(cT cs).length<=63):
  cV pg Φ ⟨1,4,aW.yR f⟩ [.lst (cs.map aq)]=.ok (.tup ((d6 cs).map aq)):=by
 simp![aW.yR,xj az Fn];have hlen:(cF lexLt (cT cs)).length<=63:=by rw[nH];exact Fn
 unfold d6;generalize cF lexLt (cT cs)=ds at *;generalize D.lst (cs.map aq)=d;obtain⟨bK,e,x,y,he⟩:=gK (f:=aq) (g:=turn pg Φ 0 [3] (.cons (.asg 4 (.comp (.var 5) 0 (.seq (.var 1)) (.some (.cmp .gt (.prim .len (.var 5)) (.prim .len (.var 3)))))) (.cons (.iff (.not (.call f (.cons (.var 3) (.cons (.var 4) .nil)))) (.cons (.app 2 (.var 3)) .nil) .nil) .nil)))
  (λaJ ρ=>∃(x y:Option D),ρ=[some d,some (.lst (ds.map aq)),some (.lst ((aJ.filter λc=>!(ds.filter λo=>decide (c.length<o.length)).any (lies c)).map aq)),x,y])
  ds [some d,some (.lst (ds.map aq)),some (.lst []),none,none] ⟨none,none,rfl⟩ (λpre c post ρ au ⟨x,y,bV⟩=>by
   subst bV;have dV:pre.length+1<=ds.length:=(by rw[au];simp);have e1:∀z,cY (elem pg Φ [some d,some (.lst (ds.map aq)),z,some (aq c),y] (.var 5) 0 (.some (.cmp .gt (.prim .len (.var 5)) (.prim .len (.var 3))))) (ds.map aq)=.ok ((ds.filter λo=>decide (c.length<o.length)).map aq):=λz=>jV λo _=>by
    simp![qN]
    by_cases q:c.length<o.length
    .have cU:(c.length:Int)<(o.length:Int):=⋯;simp only[decide_eq_true q,decide_eq_true cU,abY]
    .have cU:¬(c.length:Int)<(o.length:Int):=⋯;simp only[decide_eq_false q,decide_eq_false cU,aba,abw]
   have sX:=abJ (λc:List Int=>!(ds.filter λo=>decide (c.length<o.length)).any (lies c)) pre;cases q:(ds.filter λo=>decide (c.length<o.length)).any (lies c) with
   |true =>
    refine⟨_,by simp![e1,hf,q];rfl,some (aq c),_,by rw[ET pre (by rw[q];rfl)]⟩
   |false =>
    have h5:=uW ((pre.filter λc=>!(ds.filter λo=>decide (c.length<o.length)).any (lies c)).map aq) (aq c) (by rw[List.length_map,gH];lia);refine⟨_,by simp![e1,hf,q,h5];rfl,some (aq c),_,by rw[EU pre (by rw[q];rfl),List.map_append];rfl⟩)
 rw[e,he];simp!
def Pb(xs ys):ql (some (some (.lst xs))) (.tup ys)=if xs.length+ys.length<=SZ then .ok (.lst (xs++ys)) else .bad:=ba rfl
def GW(ax:L.length<=1000)(h:x∈L):qP (some (some (.lst (L.map .int)))) (some (some (.int x)))=.ok (.int (gh L x)):=by
 show(match intsOf (L.map .int),some x with
  |some ar,some k=>if k∈ar/\ar.length<=1000 then R.ok (D.int (ar.idxOf k:Nat)) else .bad
  |_,_=>.bad)=_
 rw[AU];dsimp only;rw[if_pos ⟨h,ax⟩];rfl
def EW{cs:List (List Int)}(cJ:∀c∈cs,c.length<=8)(ax:cs.length<=1000):cs.flatten.length<=8000:=by
 have:=EX cJ;lia
def HB{cs:List (List Int)}(ax:(lf cs).length<=63)(h:∀c∈cs,∀x∈c,elem pg Φ (ρ++[some (aq c)]) e 0 .none (.int x)=.ok (some (.int (gh (lf cs) x)))):cY (elem pg Φ ρ (.tupI (.seq (.comp e 0 (.seq (.var ρ.length)) .none))) 0 .none) (cs.map aq)=.ok ((nb cs).map aq):=by
 have:(nb cs).map aq=cs.map λc=>aq (c.map (gh (lf cs))):=by unfold nb;rw[List.map_map];rfl
 rw[this];refine iW λc ag=>?_
 have e1:cY (elem pg Φ (ρ++[some (aq c)]) e 0 .none) (c.map .int)=.ok (c.map λx=>D.int (gh (lf cs) x)):=iW (h c ag);have e2:ev pg Φ (ρ++[some (aq c)]) (.var ρ.length)=.ok (aq c):=vq _ (by rw[abF (abb _),ae4];rfl);have e3:D.tup (c.map λx=>D.int (gh (lf cs) x))=aq (c.map (gh (lf cs))):=by unfold aq;rw[List.map_map];rfl
 rw[m7,EB];simp only[R.il,abY,zB,vo,EE,e2,pF,e1,wG,I7,e3]
def T4(hf:∀cs:List (List Int),(∀c∈cs,c≠[])->(cT cs).length<=63->Φ f [.lst (cs.map aq)]=.ok (.tup ((d6 cs).map aq))){cs:List (List Int)}(dJ:cs≠[])(ag:∀c∈cs,c≠[])(cJ:∀c∈cs,c.length<=8)(ax:cs.length<=63+63)(J:(lf cs).length<=63)(h2:(cT (nb cs)).length<=63):
  cV pg Φ ⟨1,3,aW.yL f⟩ [.lst (cs.map aq)]=.ok (a9 (lf cs).length (d6 (nb cs))):=by
 have hz:((cs.length:Int)==0)=false:=abH.mpr (by have:=adA.mpr dJ;lia);have aa:=EW cJ ⋯;simp![aW.yL,List.length_map,hz];obtain⟨bK,e,x,he⟩:=gK (f:=aq) (g:=turn pg Φ 0 [2] (.cons (.ext 1 (.var 2)) (.nil)))
  (λaJ ρ=>∃(x:Option D),ρ=[some (.lst (cs.map aq)),some (.lst (aJ.flatten.map .int)),x,none])
  cs [some (.lst (cs.map aq)),some (.lst []),none,none] ⟨none,rfl⟩ (λpre c post ρ au ⟨x,bV⟩=>by
   subst bV;have hlen:(pre.flatten.map D.int).length+(c.map D.int).length<=SZ:=by
    have:pre.flatten.length+c.length<=cs.flatten.length:=(by rw[au];simp);rw[List.length_map,List.length_map,gH];lia
   have he:ql (some (some (.lst (pre.flatten.map .int)))) (aq c)=.ok (.lst ((pre++[c]).flatten.map .int)):=by
    unfold aq;rw[Pb,if_pos hlen,<- List.map_append];simp
   refine⟨_,by simp![EL,he],some (aq c),rfl⟩)
 have hd:(cT cs.flatten).length<=63:=by unfold lf at J;rw[nH]at J;exact J
 have ae:eK (cs.flatten.map .int)=.ok (.lst ((lf cs).map .int)):=Jx hd;have az:∀c∈nb cs,c≠[]:=λc cD=>by
  obtain⟨z,hz,rfl⟩:=List.mem_map.mp cD;exact λq=>ag z hz (List.map_eq_nil_iff.mp q)
 have e2:=HB (pg:=pg) (Φ:=Φ) (cs:=cs) (ρ:=[some (.lst (cs.map aq)),some (.lst (cs.flatten.map .int)),x,some (.lst ((lf cs).map .int))]) (e:=.kR 3 5) J λc cD y aN=>by
  rw[acr,acr,acr,acr,List.nil_append,m7];simp![EH,GW (by lia:(lf cs).length<=1000) (j5.mpr ⟨c,cD,aN⟩)]
 have e2:cY (elem pg Φ [some (.lst (cs.map aq)),some (.lst (cs.flatten.map .int)),x,some (.lst ((lf cs).map .int))] (.tupI (.seq (.comp (.kR 3 5) 0 (.seq (.var 4)) .none))) 0 .none) (cs.map aq)=.ok ((nb cs).map aq):=e2;rw[e,he];simp![ae,List.length_map,e2,hf _ az h2];rfl
def RZ(p):fw (ck p) (.int 0)=.ok (aq p.1):=rfl
def Gh(p):fw (ck p) (.int 1)=.ok (aq p.2):=rfl
def Hn(cs:List (List Int))(c)(ai:ρ.length=i)(h:∀z,ev pg Φ (ρ++[some z]) e=.ok (aq c)):cY (elem pg Φ ρ (.var i) 0 (.some (.cmp .ne (.var i) e))) (cs.map aq)=.ok ((cs.filter λz=>!decide (z=c)).map aq):=jV λz _=>by
 have e1:ev pg Φ (ρ++[some (aq z)]) (.var i)=.ok (aq z):=vq _ (by rw[abF ⋯,<- ai,ae4];rfl);rw[m7,EC,ED,e1,h];simp only[R.il,zg,oM,Hy,Dp];cases decide (z=c)<;>rfl
def Zu{fn bp:Nat}(ae:Φ bp [aq p.2]=.ok (.lst ((bt p.2).map aq)))(az:Φ fn [.lst ((iG ts p.1 p.2).map aq)]=.ok d)(ax:ts.length<=63)(h2:p.2.length<=8):cV pg Φ ⟨2,1,aW.yS fn bp⟩ [a9 m ts,ck p]=.ok d:=by
 have ai:fw (a9 m ts) (.int 1)=.ok (.tup (ts.map aq)):=rfl;have e1:=Hn (pg:=pg) (Φ:=Φ) (ρ:=[some (a9 m ts),some (ck p),none]) ts p.2 (e:=.idx (.var 1) (.lit (.int 1))) (i:=3) rfl λz=>by simp![Gh]
 have e2:=Hn (pg:=pg) (Φ:=Φ) (ρ:=[some (a9 m ts),some (ck p),some (.lst ((ts.filter λz=>!decide (z=p.2)).map aq))]) (bt p.2) p.1 (e:=.idx (.var 1) (.lit (.int 0))) (i:=3) rfl λz=>by simp![RZ]
 have aA:ec .add (.lst ((ts.filter λz=>!decide (z=p.2)).map aq)) (.lst (((bt p.2).filter λz=>!decide (z=p.1)).map aq))=.ok (.lst ((iG ts p.1 p.2).map aq)):=by
  have l1:=abJ (λz=>!decide (z=p.2)) ts;have l2:=abJ (λz=>!decide (z=p.1)) (bt p.2);have l3:(bt p.2).length<=p.2.length:=(by unfold bt;split<;>simp);rw[mO,if_pos (by rw[List.length_map,List.length_map,gH];lia),<- List.map_append];rfl
 simp![aW.yS,ai,e1,Gh,ae,e2,aA,az]
noncomputable abbrev kk:=List (List Int×List (List Int))
structure rz(ah:kk)(aJ:List ei):Prop where
 c4:(ah.map (·.1)).Nodup
 af:∀q∈ah,q.2=(aJ.filter λp=>decide (p.1=q.1)).map (·.2)
 ms:∀k,k∈ah.map (·.1)<->k∈aJ.map (·.1)
def Kn{ah:kk}{k:List Int}(h:k∉ah.map (·.1)):hv ah k=none:=by
 unfold hv;rw[List.find?_eq_none.mpr]
 .rfl
 .intro p au z;exact h (List.mem_map.mpr ⟨p,au,aca z⟩)
def CL{ah:kk}(az:(ah.map (·.1)).Nodup)(h:q∈ah):hv ah q.1=some q.2:=by
 induction ah with
 |nil=>cases h
 |cons p ah aD =>
  obtain⟨eS,d2⟩:=abv.mp az;unfold hv;rw[List.find?_cons];rcases aa9.mp h with rfl|h
  .rw[decide_eq_true rfl];rfl
  .rw[decide_eq_false λe=>eS (List.mem_map.mpr ⟨q,h,e.symm⟩)];exact aD d2 h
def K1(t:rz ah aJ)(k c):rz (nW ah k ((hv ah k).getD []++[c])) (aJ++[(k,c)]):=by
 have eQ:∀z:List Int,((aJ++[(k,c)]).filter λp=>decide (p.1=z)).map (·.2)=(aJ.filter λp=>decide (p.1=z)).map (·.2)++if k=z then [c] else []:=λz=>by
  rw[adI,List.map_append];congr 1
  by_cases q:k=z
  .simp[q]
  .simp[q]
 unfold nW
 by_cases h:k∈ah.map (·.1)
 .obtain⟨p,au,e⟩:=List.mem_map.mp h;have aI:=CL t.c4 au;rw[e]at aI;rw[if_pos (adv.mpr ⟨p,au,decide_eq_true e⟩),aI];have e1:((ah.map λmd=>if md.1=k then(md.1,(some p.2).getD []++[c]) else md).map (·.1))=ah.map (·.1):=by
   rw[List.map_map];refine abM λp _=>?_
   simp only[Function.comp]
   split<;>rfl
  refine⟨by rw[e1];exact t.c4,λq aE=>?_,λz=>?_⟩
  .obtain⟨o,av,rfl⟩:=List.mem_map.mp aE
   by_cases w:o.1=k
   .rw[if_pos w,eQ,if_pos w.symm];have:=t.af p au;rw[e]at this;show p.2++[c]=_;rw[this,w]
   .rw[if_neg w,eQ,if_neg λz=>w z.symm,acm];exact t.af o av
  .rw[e1,t.ms,List.map_append,abq];refine⟨.inl,λw=>w.elim id λw=>?_⟩;rw[adH,abm]at w;rw[w];exact(t.ms k).mp h
 .have:¬(ah.any λp=>decide (p.1=k))=true:=λz=>by
   obtain⟨p,au,e⟩:=adv.mp z;exact h (List.mem_map.mpr ⟨p,au,aca e⟩)
  rw[if_neg this,Kn h];have aw:k∉aJ.map (·.1):=λz=>h ((t.ms k).mpr z)
  refine⟨?_,λq aE=>?_,λz=>?_⟩
  .rw[List.map_append];refine acy.mpr ⟨t.c4,by simp,λx ak y aN e=>?_⟩;rw[adH,abm]at aN;subst e;subst aN;exact h ak
  .rw[eQ];rcases abq.mp aE with aE|aE
   .rw[if_neg λe=>h (List.mem_map.mpr ⟨q,aE,e.symm⟩),acm];exact t.af q aE
   .rw[abm.mp aE,if_pos rfl];have:aJ.filter (λp=>decide (p.1=k))=[]:=List.filter_eq_nil_iff.mpr λp au w=>aw (List.mem_map.mpr ⟨p,au,aca w⟩)
    show []++[c]=_;rw[this];rfl
  .rw[List.map_append,List.map_append,abq,abq,t.ms];rfl
def Mk(cs):qe (fQ cs)=some cs:=by
 show pQ (cs.map aq)=some cs
 induction cs with
 |nil=>rfl
 |cons c cs aD=>rw[List.map_cons,pQ,pP,aD]
def NS(ah:kk)(k):qg (some (some (.cN ah))) (some (some (aq k)))=.ok (fQ ((hv ah k).getD [])):=by
 show(match some ah,fX (aq k) with
  |some ah,some k=>R.ok (fQ ((hv ah k).getD []))
  |_,_=>.bad)=_
 rw[pP]
def N4{ah:kk}{k:List Int}{cs:List (List Int)}(h:ah.length<1000):oJ (some (some (.cN ah))) (some (some (aq k))) (fQ cs)=.ok (.cN (nW ah k cs)):=by
 show(match some ah,fX (aq k),qe (fQ cs) with
  |some ah,some k,some cs=>if ah.length<1000 then R.ok (D.cN (nW ah k cs)) else .bad
  |_,_,_=>.bad)=_
 rw[pP,Mk];exact if_pos h
def NT{ah:kk}{k:List Int}{cs:List (List Int)}(h:hv ah k=some cs):kx (some (some (.cN ah))) (some (some (aq k)))=.ok (fQ cs):=by
 show(match some ah,fX (aq k) with
  |some ah,some k=>(match hv ah k with|some cs=>R.ok (fQ cs)|none=>.bad)
  |_,_=>.bad)=_
 rw[pP];dsimp only;rw[h]
def NX(ah:kk):oF (some (some (.cN ah)))=.ok (ah.map λq=>aq q.1):=ba rfl
noncomputable def fz(cs:List (List Int)):List ei:=cs.flatMap λc=>(bt c).map λk=>(k,c)
def K3(as bs)(h:as.length+bs.length<=1000):ec .add (fQ as) (fQ bs)=.ok (fQ (as++bs)):=by
 unfold fQ;rw[rR,if_pos (by rw[List.length_map,List.length_map,gH];lia),List.map_append]
def vA{fb bp:Nat}(ay:∀t∈ts,IsCell m t)(cJ:m<=6)(he:Φ fb [a9 m ts]=.ok (.lst ((bT ts).map aq)))(ae:∀c:List Int,c.length<=1000->Φ bp [aq c]=.ok (.lst ((bt c).map aq))):
  cV pg Φ ⟨1,3,aW.yp fb bp⟩ [a9 m ts]=.ok (.tup ((dg ts).map ck)):=by
 have h7:=qk cJ ay;simp![aW.yp,OW,he];have short:∀{ah:kk}{aJ:List ei},rz ah aJ->(∀p∈aJ,p.1∈bT ts)->ah.length<=63:=λt h=>by
  have:=hQ t.c4 (ys:=bT ts) λz hz=>by
   obtain⟨p,au,rfl⟩:=List.mem_map.mp ((t.ms z).mp hz);exact h p au
  rw[List.length_map]at this;lia
 have sin:∀{c k:List Int},c∈bT ts->k∈bt c->k∈bT ts:=λ{c k} ag aw=>iY (jU ay (e7 ay ag).2.2 aw);have pin:∀{cs:List (List Int)},(∀c∈cs,c∈bT ts)->∀p∈fz cs,p.1∈bT ts/\p.2∈cs/\p.1∈bt p.2:=λ{cs} h p au=>by
  obtain⟨c,J,h2⟩:=acO.mp au;obtain⟨k,h3,rfl⟩:=List.mem_map.mp h2;exact⟨sin (h c J) h3,J,h3⟩
 obtain⟨bK,e,ah,x,y,gd,iT⟩:=gK (f:=aq) (g:=turn pg Φ 0 [2] (.cons (.fc 0 [3] (.seq (.call bp (.cons (.var 2) (.nil)))) (.cons (.iy 1 3 (.bin .add (.oE 1 3) (.tup (.cons (.var 2) (.nil))))) (.nil))) (.nil)))
  (λaJ ρ=>∃(ah:kk)(x y:Option D),ρ=[some (a9 m ts),some (.cN ah),x,y]/\rz ah (fz aJ))
  (bT ts) [some (a9 m ts),some (.cN []),none,none] ⟨[],none,none,rfl,⟨ac4,λ_ h=>by simp at h,λ_=>by simp[fz]⟩⟩ (λpre c post ρ au ⟨ah,x,y,bV,iT⟩=>by
   subst bV;have sT:c∈bT ts:=(by rw[au];simp);have AF:∀z∈pre,z∈bT ts:=λz hz=>by rw[au];simp[hz]
   have s7:c.length<=1000:=by
    obtain⟨_,u,h3,h4⟩:=i9.mp sT;have:=h4.length_le;have:=oB (ay u h3);lia
   have dV:pre.length+1<=(bT ts).length:=(by rw[au];simp);obtain⟨bK,e,aaH,xN,gd,K0⟩:=gK (f:=aq) (g:=turn pg Φ 0 [3] (.cons (.iy 1 3 (.bin .add (.oE 1 3) (.tup (.cons (.var 2) (.nil))))) (.nil)))
    (λaJ ρ=>∃(ah:kk)(y:Option D),ρ=[some (a9 m ts),some (.cN ah),some (aq c),y]/\rz ah (fz pre++aJ.map λk=>(k,c)))
    (bt c) [some (a9 m ts),some (.cN ah),some (aq c),y] ⟨ah,y,rfl,by rw[ac8,acm];exact iT⟩ (λpr k po ρ aE ⟨ah,y,bV,iT⟩=>by
     subst bV;have QT:∀z∈pr,z∈bt c:=λz hz=>by rw[aE];simp[hz]
     have ax:ah.length<1000:=by
      have:=short iT λp o2=>by
       rcases abq.mp o2 with w|w
       .exact(pin AF p w).1
       .obtain⟨z,hz,rfl⟩:=List.mem_map.mp w;exact sin sT (QT z hz)
      lia
     have aI:((hv ah k).getD []).length<=63:=by
      by_cases w:k∈ah.map (·.1)
      .obtain⟨q,lS,e⟩:=List.mem_map.mp w;have J:=CL iT.c4 lS;rw[e]at J;rw[J];show q.2.length<=63;have:q.2.Nodup:=by
        rw[iT.af q lS,abk,abK];have c4:(fz pre++pr.map λk=>(k,c)).Nodup:=by
         have full:(fz (pre++[c])).Nodup:=by
          have:(fz (bT ts)).Nodup:=by
           unfold fz;rw[abk,List.pairwise_flatMap];refine⟨λa aA=>?_,acj (λ{a b} nq p au q aE e=>?_) (abk.mp (oP ts))⟩
           .rw[abK];exact acj (λ{u v} w z=>w (Prod.mk.inj z).1) (abk.mp (mh (e7 ay aA).1))
           .obtain⟨u,_,rfl⟩:=List.mem_map.mp au;obtain⟨v,_,rfl⟩:=List.mem_map.mp aE;exact nq (Prod.mk.inj e).2
          rw[au]at this;have e:fz (pre++c::post)=fz (pre++[c])++fz post:=(by unfold fz;simp);rw[e]at this;exact(acy.mp this).1
         have e:fz (pre++[c])=fz pre++(pr.map λk=>(k,c))++(k::po).map λk=>(k,c):=by
          have e0:fz (pre++[c])=fz pre++(bt c).map λk=>(k,c):=by unfold fz;simp
          rw[e0,aE,List.map_append,acW]
         rw[e]at full;exact(acy.mp full).1
        refine abN (λ{a b} aA aa w z=>w (Prod.ext ?_ z)) (abk.mp (c4.filter _));rw[aca (abi.mp aA).2,aca (abi.mp aa).2]
       have:=hQ this (ys:=bT ts) λz hz=>by
        rw[iT.af q lS]at hz;obtain⟨p,o2,rfl⟩:=List.mem_map.mp hz;rcases abq.mp (abi.mp o2).1 with w|w
        .exact AF _ (pin AF p w).2.1
        .obtain⟨z,_,rfl⟩:=List.mem_map.mp w;exact sT
       lia
      .rw[Kn w];exact abz _
     have qu:D.tup [aq c]=fQ [c]:=rfl;refine⟨_,by simp![vu,OE,NS,qu,K3 _ _ (show((hv ah k).getD []).length+[c].length<=1000 by simp;lia),N4 ax];rfl,_,_,rfl,?_⟩;rw[List.map_append,<- acW];exact K1 iT k c)
   refine⟨_,by simp![ae c s7,e,gd];rfl,_,_,_,rfl,?_⟩;have:fz (pre++[c])=fz pre++(bt c).map λk=>(k,c):=by unfold fz;simp
   rw[this];exact K0)
 rw[e,gd];have nB:∀q∈ah,q.2=(bT ts).filter λc=>decide (q.1∈bt c):=λq aE=>by
  rw[iT.af q aE];have key:∀cs:List (List Int),(∀c∈cs,c∈bT ts)->((fz cs).filter λp=>decide (p.1=q.1)).map (·.2)=cs.filter λc=>decide (q.1∈bt c):=λcs=>by
   induction cs with
   |nil=>intro _;rfl
   |cons c cs aD =>
    intro h6;have aD:=aD λz hz=>h6 z (List.mem_cons_of_mem _ hz)
    have e1:fz (c::cs)=((bt c).map λk=>(k,c))++fz cs:=(by unfold fz;rw[List.flatMap_cons]);rw[e1,adI,List.map_append,aD,List.filter_cons];have e2:(((bt c).map λk=>(k,c)).filter λp:ei=>decide (p.1=q.1)).map (·.2)=if q.1∈bt c then [c] else []:=by
     have az:=mh (e7 ay (h6 c List.mem_cons_self)).1;generalize bt c=L at az
     induction L with
     |nil=>simp
     |cons k L tu =>
      obtain⟨eS,d2⟩:=abv.mp az;have tu:=tu d2;rw[List.map_cons,List.filter_cons]
      by_cases w:k=q.1
      .have:q.1∉L:=w▸eS;rw[if_neg this]at tu;simp only[w,adK,abY,List.map_cons,tu,aa9,true_or]
      .have fm:¬q.1=k:=λz=>w z.symm
       simp only[w,decide_false,aba,abw,tu,aa9,fm,false_or]
    rw[e2]
    by_cases w:q.1∈bt c
    .rw[if_pos w,decide_eq_true w,if_pos rfl];rfl
    .rw[if_neg w,decide_eq_false w,if_neg ∅];rfl
  exact key (bT ts) λ_ h=>h
 have hlen:ah.length<=63:=short iT λp au=>(pin (λ_ h=>h) p au).1
 have e1:cY (elem pg Φ [some (a9 m ts),some (.cN ah),x,y] (.tup (.cons (.var 4) (.cons (.idx (.gY 1 4) (.lit (.int 0))) (.nil)))) 0 (.some (.cmp .eq (.prim .len (.gY 1 4)) (.lit (.int 1))))) (ah.map λq=>aq q.1)=.ok ((ah.filter λq=>decide (q.2.length=1)).map λq=>ck (q.1,q.2.headD [])):=jV λq aE=>by
  have aQ:=NT (CL iT.c4 aE);have ax:kP (fQ q.2)=.ok (.int (q.2.length:Int)):=(by unfold fQ;rw[wm,List.length_map]);rw[m7]
  by_cases w:q.2.length=1
  .have fm:((q.2.length:Int)==1)=true:=(by rw[w];rfl);obtain⟨d,hd⟩:=adg.mp w;have ai:fw (fQ q.2) (.int 0)=.ok (aq (q.2.headD [])):=(by rw[hd];rfl);simp![oO,aQ,ax,fm,ai,decide_eq_true w];rfl
  .have fm:((q.2.length:Int)==1)=false:=abH.mpr ⋯;simp![oO,aQ,ax,fm,decide_eq_false w]
 have e2:((ah.filter λq=>decide (q.2.length=1)).map λq=>ck (q.1,q.2.headD []))=((ah.filter λq=>decide (q.2.length=1)).map λq=>((q.1,q.2.headD []):ei)).map ck:=by rw[List.map_map];rfl
 have vQ:∀p:ei,(p∈(ah.filter λq=>decide (q.2.length=1)).map λq=>((q.1,q.2.headD []):ei))<->eb ts p.1 p.2:=λp=>by
  rw[List.mem_map];constructor
  .rintro⟨q,aE,rfl⟩;obtain⟨J,h2⟩:=abi.mp aE;obtain⟨d,hd⟩:=adg.mp (aca h2);have aI:=nB q J;rw[hd]at aI ⊢;have hm:∀o,o∈bT ts/\q.1∈bt o<->o=d:=λo=>by
    have:o∈(bT ts).filter (λc=>decide (q.1∈bt c))<->o=d:=(by rw[<- aI];simp);rw[<- this,abi,abl]
   obtain⟨a,b⟩:=(hm d).mpr rfl;exact⟨(e7 ay a).2.2,b,λo av RB=>(hm o).mp ⟨iY av,RB⟩⟩
  .intro f;have aw:p.1∈ah.map (·.1):=(iT.ms p.1).mpr (List.mem_map.mpr ⟨(p.1,p.2),acO.mpr ⟨p.2,iY f.gj,List.mem_map.mpr ⟨p.1,f.bt,rfl⟩⟩,rfl⟩);obtain⟨q,aE,e⟩:=List.mem_map.mp aw;have aI:=nB q aE;rw[e]at aI;have J:q.2=[p.2]:=by
    rw[aI];refine HG ((oP ts).filter _) (abi.mpr ⟨iY f.gj,decide_eq_true f.bt⟩) λo av=>?_
    obtain⟨hS,eC⟩:=abi.mp av;have eC:=aca eC;have:=(e7 ay hS).2.2;rw[<- ((fV (e7 ay hS).1).mp eC).2.1]at this;exact f.one o this eC
   refine⟨q,abi.mpr ⟨aE,by rw[J];rfl⟩,?_⟩;rw[J,e];rfl
 have lQ:((ah.filter λq=>decide (q.2.length=1)).map λq=>((q.1,q.2.headD []):ei)).Nodup:=by
  rw[abk,abK];have:=abk.mp iT.c4;rw[abK]at this;exact abx aci (acj (λw z=>w (Prod.mk.inj z).1) this)
 have dJ:∀p∈(ah.filter λq=>decide (q.2.length=1)).map λq=>((q.1,q.2.headD []):ei),p.1≠[]/\p.2≠[]:=λp au=>by
  have f:=(vQ p).mp au;exact⟨(e7 ay (f.bT ay).1).2.1,(e7 ay (f.bT ay).2).2.1⟩
 have sX:((ah.filter λq=>decide (q.2.length=1)).map λq=>((q.1,q.2.headD []):ei)).length<=63:=by
  have:=abJ (λq:List Int×List (List Int)=>decide (q.2.length=1)) ah;rw[List.length_map];lia
 simp![O3,Mq,sA,NX,e1,e2,Jt dJ sX,Fb ay lQ vQ]
def TR{i0 bD bp:Nat}(ay:∀cs:List (List Int),(∀c∈cs,c≠[])->(cT cs).length<=63->Φ i0 [.lst (cs.map aq)]=.ok (.tup ((nK cs).map aq)))(au:∀(s:Nat)(c:List Int),s<=8->c.length<=8->Φ bD [aq c,.int (s:Int)]=.ok (.lst ((c7 s c).map aq)))(ae:∀i m:Int,1<=m->m<=6->∃cs:List (List Int),Φ bp [.int i,.int m]=.ok (.lst (cs.map aq))/\(∀c∈cs,IsCell m c)/\hF m cs=true/\cs.length<=16)(i)(h0:0<=i):
  ∃m ts,cV pg Φ ⟨2,3,aW.yC i0 bD bp⟩ [.int i,.int 5]=.ok (a9 m ts)/\Net m ts/\m<=5/\ts.length<=20:=by
 have rX:=lK i (b:=5) ∅;have bQ:decide ((5:Int)<5)=false:=rfl;have bW:decide ((6:Int)<5)=false:=rfl;simp![aW.yC,hP i 5 ∅,qn i 12 ∅ ∅,hP _ 8 ∅];cases k0:(i / 12%8==0)
 .obtain⟨cs,e,ag,aI,ax⟩:=ae (i / 96) (1+i%5) ⋯ ⋯;obtain⟨ts,e2,az,qy⟩:=Hq (pg:=pg) (Φ:=Φ) (cs:=cs) (m:=1+i%5) (a:=.int i) (b:=.int 5) (c:=.int (i / 12%8)) ay ⋯ ⋯ ⋯ (λc cD=>by have:=oB (ag c cD);lia) (λc cD=>by rw[Ce (ag c cD)];exact ag c cD) (by rw[Jw ag];exact aI);refine⟨1+i%5,ts,?_,az,⋯,qy⟩;rw[<- e2];cases k1:(i / 12%8==1)
  .cases k2:(i / 12%8==2)
   .simp![k1,k2,qn i 96 ∅ ∅,e]
   .simp![k1,k2,bW,qn i 96 ∅ ∅,e]
  .cases k2:(i / 12%8==2)
   .simp![k1,k2,bQ,qn i 96 ∅ ∅,e]
   .simp![k1,k2,bQ,bW,qn i 96 ∅ ∅,e]
 .have LK:=lK (i / 96) (b:=1+i%5) ⋯;obtain⟨s,nA⟩:∃s:Nat,(s:Int)=1+i / 96%(1+i%5):=⟨(1+i / 96%(1+i%5)).toNat,⋯⟩;obtain⟨ag,aI⟩:=Lb (m:=1+i%5) (s:=s) ⋯ ⋯ ⋯ ⋯;have s6:(cZ (1+i%5)).length<=6:=(by unfold cZ;simp;lia);have qA:(c7 s (cZ (1+i%5))).length<=20:=(by rw[BK];exact Vc s6);obtain⟨ts,e2,az,qy⟩:=Hq (pg:=pg) (Φ:=Φ) (cs:=c7 s (cZ (1+i%5))) (m:=1+i%5) (a:=.int i) (b:=.int 5) (c:=.int (i / 12%8)) ay ⋯ ⋯ qA (λc cD=>by have:=oB (ag c cD);lia) (λc cD=>by rw[Ce (ag c cD)];exact ag c cD) (by rw[Jw ag];exact aI);refine⟨1+i%5,ts,?_,az,⋯,qy⟩;rw[<- e2];have F1:=au s (cZ (1+i%5)) ⋯ ⋯;unfold aq at F1;simp![qn i 96 ∅ ∅,hP (i / 96) (1+i%5) ⋯,<- nA,pD (i:=0) (j:=1+i%5) ⋯ ⋯ ⋯ ⋯,w2,F1];rfl
noncomputable def pk(m:Nat)(ns:List Nat):Nat:=ns.foldl (λm x=>if x>m then x else m) m
theorem Hj:∀(ns:List Nat)(m:Nat),m<=pk m ns/\∀n∈ns,n<=pk m ns
 |[],m=>⟨abb _,λ_ h=>nomatch h⟩
 |x::ns,m=>by
  show m<=pk (if x>m then x else m) ns/\_;obtain⟨J,h2⟩:=Hj ns (if x>m then x else m);refine⟨by split at J<;>split<;>lia,λn az=>?_⟩;rcases aa9.mp az with rfl|az
  .show n<=pk (if n>m then n else m) ns
   split at J<;>split<;>lia
  .exact h2 n az
theorem Hh{k:Nat}:∀(ns:List Nat)(m:Nat),m<=k->(∀n∈ns,n<=k)->pk m ns<=k
 |[],m,h,_=>h
 |x::ns,m,h,az=>Hh ns _ (by dsimp only;split;exact az x List.mem_cons_self;exact h) λn h'=>az n (List.mem_cons_of_mem _ h')
theorem Hi:∀(ns:List Nat)(m:Nat),(ns.map λn:Nat=>(n:Int)).foldl (λm x=>if x>m then x else m) (m:Int)=(pk m ns:Int)
 |[],m=>rfl
 |x::ns,m=>by
  rw[List.map_cons,List.foldl_cons];have:(if (x:Int)>(m:Int) then(x:Int) else(m:Int))=((if x>m then x else m:Nat):Int):=by
   by_cases q:x>m
   .rw[if_pos q,if_pos ⋯]
   .rw[if_neg q,if_neg ⋯]
  rw[this];exact Hi ns _
noncomputable def ai:List (List Int)->Nat
 |[]=>0
 |t::ts=>pk t.length (ts.map (·.length))
def Am:∀t∈ts,t.length<=ai ts:=by
 cases ts with
 |nil=>intro t h;cases h
 |cons a ts =>
  intro t h;obtain⟨J,h2⟩:=Hj (ts.map (·.length)) a.length;rcases aa9.mp h with rfl|h
  .exact J
  .exact h2 _ (List.mem_map.mpr ⟨t,h,rfl⟩)
def QG{k:Nat}(h:∀t∈ts,t.length<=k):ai ts<=k:=by
 cases ts with
 |nil=>exact abz _
 |cons a ts=>exact Hh _ _ (h a List.mem_cons_self) λn az=>by obtain⟨t,ay,rfl⟩:=List.mem_map.mp az;exact h t (List.mem_cons_of_mem _ ay)
def G7(h:ts≠[]):kT (ts.map λt=>D.int (t.length:Int))=.ok (.int (ai ts:Int)):=by
 cases ts with
 |nil=>exact absurd rfl h
 |cons a ts =>
  have e:((a::ts).map λt=>D.int (t.length:Int))=((a::ts).map λt=>(t.length:Int)).map D.int:=(by rw[List.map_map];rfl);unfold kT;rw[e,AU];show R.ok (D.int ((ts.map λt=>(t.length:Int)).foldl (λm x=>if x>m then x else m) (a.length:Int)))=_;have e2:(ts.map λt=>(t.length:Int))=(ts.map (·.length)).map λn:Nat=>(n:Int):=by rw[List.map_map];rfl
  rw[e2,Hi];rfl
def QK(h:ts≠[]):cV pg Φ ⟨1,0,aW.yy⟩ [a9 m ts]=.ok (.int (ai ts:Int)):=by
 have fu:fw (a9 m ts) (.int 1)=.ok (.tup (ts.map aq)):=rfl;have e1:cY (elem pg Φ [some (a9 m ts)] (.prim .len (.var 1)) 0 .none) (ts.map aq)=.ok (ts.map λt=>D.int (t.length:Int)):=iW λt _=>by simp![qN]
 simp![aW.yy,fu,e1,H8,G7 h]
def Ri(h:ts≠[])(cJ:ai ts<=8)(hf:∀n:Nat,∃G:List Nat,Φ f [a9 m ts,.int (n:Int)]=.ok (.tup (G.map (hX (cl ts (n+1)))))/\Told ts n G):cV pg Φ ⟨1,1,aW.yq f⟩ [a9 m ts]=.ok (.tup ((List.range (ai ts)).map λk=>D.int (dE ts k:Int))):=by
 have fu:fw (a9 m ts) (.int 1)=.ok (.tup (ts.map aq)):=rfl;have e1:cY (elem pg Φ [some (a9 m ts),none] (.prim .len (.var 2)) 0 .none) (ts.map aq)=.ok (ts.map λt=>D.int (t.length:Int)):=iW λt _=>by simp![qN]
 have e2:cY (elem pg Φ [some (a9 m ts),some (.int (ai ts:Int))] (.prim .len (.call f (.cons (.var 0) (.cons (.var 2) (.nil))))) 0 .none) ((List.range (ai ts)).map λk:Nat=>D.int (k:Int))=.ok ((List.range (ai ts)).map λk=>D.int (dE ts k:Int)):=iW λk _=>by
  obtain⟨G,a,b⟩:=hf k;simp![a,b.sum.1,List.length_map]
 simp![aW.yq,fu,e1,H8,G7 h,pD (i:=0) (j:=(ai ts:Int)) ⋯ ⋯ ⋯ ⋯,w1,e2]
def wD(h:Net m ts):ts≠[]:=λe=>by
 subst e;obtain⟨t,ay,_⟩:=u9.mp h.hF 0 (Int.le_refl 0) (by have:=h.lo;lia);cases ay
def Bl(h:Net m ts):ai ts<=8:=QG λt ay=>by
 have:=oB (h.cell t ay);have:=h.ai;lia
def Il{k:Nat}(h:ai ts<=k):dE ts k=0:=by
 have:cl ts (k+1)=[]:=by
  rw[List.eq_nil_iff_forall_not_mem];intro z hz;obtain⟨J,_,t,h2,h3⟩:=fx.mp hz;have:=Am t h2;have:=h3.length_le;lia
 unfold dE nn;rw[this];simp
noncomputable def dC(ts:List (List Int)):List (List Int):=(List.range (ai ts)).flatMap λh=>cl ts (h+1)
def wy(z):z∈dC ts<->z∈bT ts:=by
 unfold dC;rw[acO];constructor
 .rintro⟨h,_,hz⟩;exact iY hz
 .intro hz;obtain⟨J,t,h2,h3⟩:=i9.mp hz;have h4:=Am t h2;have h5:=h3.length_le;have el:1<=z.length:=by cases z with|nil=>exact absurd rfl J|cons _ _=>simp
  refine⟨z.length-1,List.mem_range.mpr ⋯,fx.mpr ⟨⋯,J,t,h2,h3⟩⟩
def A8(ts):(dC ts).Nodup:=by
 unfold dC;rw[abk,List.pairwise_flatMap];refine⟨λa _=>abk.mp (iV ts (a+1)),acj (λ{a b}(h:a<b) x ak y aN e=>?_) adb⟩;have J:=(fx.mp ak).1;have h2:=(fx.mp aN).1;rw[e]at J;lia
def A7(cJ:m<=6)(ay:∀t∈ts,IsCell m t):(dC ts).length<=63:=ab2 (hQ (A8 ts) λz hz=>(wy z).mp hz) (qk cJ ay)
def SN(ay:∀t∈ts,IsCell m t)(cJ:m<=6)(aae:ai ts<=8)(bZ:Φ nh [a9 m ts]=.ok (.int (ai ts:Int)))(ag:∀k:Nat,k<=7->Φ dA [a9 m ts,.int (k:Int)]=.ok (.lst ((cl ts (k+1)).map aq))):
  cV pg Φ ⟨1,2,aW.yw nh dA⟩ [a9 m ts]=.ok (.lst ((dC ts).map aq)):=by
 simp![aW.yw,bZ,pD (i:=0) (j:=(ai ts:Int)) ⋯ ⋯ ⋯ ⋯,w1];obtain⟨bK,e,x,he⟩:=gK (f:=λk:Nat=>D.int (k:Int)) (g:=turn pg Φ 0 [2] (.cons (.asg 1 (.bin .add (.var 1) (.call dA (.cons (.var 0) (.cons (.var 2) (.nil)))))) (.nil)))
  (λaJ ρ=>∃(x:Option D),ρ=[some (a9 m ts),some (.lst ((aJ.flatMap λh=>cl ts (h+1)).map aq)),x])
  (List.range (ai ts)) [some (a9 m ts),some (.lst []),none] ⟨none,rfl⟩ (λpre k post ρ au ⟨x,bV⟩=>by
   subst bV;have aw:k<ai ts:=List.mem_range.mp (by rw[au];simp);have hlen:((pre.flatMap λh=>cl ts (h+1)).map aq).length+((cl ts (k+1)).map aq).length<=SZ:=by
    have J:=A7 cJ ay;unfold dC at J;rw[au,ac2,List.length_append]at J;have h2:=r9 cJ ay (k+1);rw[List.length_map,List.length_map,gH];lia
   refine⟨_,by simp![ag k ⋯,mO,if_pos hlen];rfl,some (.int (k:Int)),?_⟩;simp[ac2])
 rw[e,he];simp![dC]
def SQ(hf:∀cs:List (List Int),(∀c∈cs,c≠[])->(cT cs).length<=63->Φ f [.lst (cs.map aq)]=.ok (.tup ((nK cs).map aq))){cs:List (List Int)}(ag:∀c∈cs,cQ ltI c/\c≠[])(cJ:∀c∈cs,c.length<=8)(ax:cs.length<=63)(J:(lf cs).length<=63):
  cV pg Φ ⟨1,2,aW.yD f⟩ [.lst (cs.map aq)]=.ok (a9 (lf cs).length (d6 (nb cs))):=by
 have aa:=EW cJ ⋯;simp![aW.yD];obtain⟨bK,e,x,he⟩:=gK (f:=aq) (g:=turn pg Φ 0 [2] (.cons (.asg 1 (.bin .add (.var 1) (.kS (.seq (.var 2))))) (.nil)))
  (λaJ ρ=>∃(x:Option D),ρ=[some (.lst (cs.map aq)),some (.lst (aJ.flatten.map .int)),x])
  cs [some (.lst (cs.map aq)),some (.lst []),none] ⟨none,rfl⟩ (λpre c post ρ au ⟨x,bV⟩=>by
   subst bV;have hlen:(pre.flatten.map D.int).length+(c.map D.int).length<=SZ:=by
    have:pre.flatten.length+c.length<=cs.flatten.length:=(by rw[au];simp);rw[List.length_map,List.length_map,gH];lia
   have he:ec .add (.lst (pre.flatten.map .int)) (.lst (c.map .int))=.ok (.lst ((pre++[c]).flatten.map .int)):=by
    rw[mO,if_pos hlen,<- List.map_append];simp
   refine⟨_,by simp![pF,he],some (aq c),rfl⟩)
 have hd:(cT cs.flatten).length<=63:=by unfold lf at J;rw[nH]at J;exact J
 have ae:eK (cs.flatten.map .int)=.ok (.lst ((lf cs).map .int)):=Jx hd;have oV:=wC (m:=0) (ts:=[]) (λt h=>by cases h) (cs:=cs) ag;have h2:(cT (nb cs)).length<=63:=by have:=ve (nb cs);unfold nb at this ⊢;rw[List.length_map]at this;lia
 have e2:=HB (pg:=pg) (Φ:=Φ) (cs:=cs) (ρ:=[some (.lst (cs.map aq)),some (.lst ((lf cs).map .int)),x]) (e:=.kR 1 4) J λc cD y aN=>by
  rw[acr,acr,acr,List.nil_append,m7];simp![EH,GW (by lia:(lf cs).length<=1000) (j5.mpr ⟨c,cD,aN⟩)]
 have e2:cY (elem pg Φ [some (.lst (cs.map aq)),some (.lst ((lf cs).map .int)),x] (.tupI (.seq (.comp (.kR 1 4) 0 (.seq (.var 3)) .none))) 0 .none) (cs.map aq)=.ok ((nb cs).map aq):=e2;rw[e,he];simp![ae,List.length_map,e2,hf _ (λc cD=>(oV c cD).1) h2,G2 λc cD=>(oV c cD).2.2];rfl
def SO(ay:∀t∈ts,IsCell m t)(cJ:m<=6)(ax:∀c o:List Int,Φ eQ [aq c,aq o]=.ok (.aP (lies c o)))(he:Φ fb [a9 m ts]=.ok (.lst ((dC ts).map aq))):cV pg Φ ⟨1,4,aW.yx eQ fb⟩ [a9 m ts]=.ok (.tup ((dg ts).map ck)):=by
 have QX:=A7 cJ ay;have Hc:=Bf (A8 ts) wy ay;simp![aW.yx,he];obtain⟨bK,e,x,y,gd⟩:=gK (f:=aq) (g:=turn pg Φ 0 [3] (.cons (.asg 4 (.comp (.var 5) 0 (.seq (.var 1)) (.some (.and (.cmp .ne (.var 3) (.var 5)) (.call eQ (.cons (.var 3) (.cons (.var 5) (.nil)))))))) (.cons (.iff (.cmp .eq (.prim .len (.var 4)) (.lit (.int 1))) (.cons (.app 2 (.tup (.cons (.var 3) (.cons (.idx (.var 4) (.lit (.int 0))) (.nil))))) (.nil)) (.nil)) (.nil))))
  (λaJ ρ=>∃(x y:Option D),ρ=[some (a9 m ts),some (.lst ((dC ts).map aq)),some (.lst ((aJ.filterMap λc=>match (dC ts).filter λo=>!decide (c=o)&&lies c o with|[d]=>some ((c,d):ei)|_=>none).map ck)),x,y])
  (dC ts) [some (a9 m ts),some (.lst ((dC ts).map aq)),some (.lst []),none,none] ⟨none,none,rfl⟩ (λpre c post ρ au ⟨x,y,bV⟩=>by
   subst bV;have dV:pre.length+1<=(dC ts).length:=(by rw[au];simp);have e1:∀z,cY (elem pg Φ [some (a9 m ts),some (.lst ((dC ts).map aq)),z,some (aq c),y] (.var 5) 0 (.some (.and (.cmp .ne (.var 3) (.var 5)) (.call eQ (.cons (.var 3) (.cons (.var 5) (.nil))))))) ((dC ts).map aq)=.ok (((dC ts).filter λo=>!decide (c=o)&&lies c o).map aq):=λz=>jV λo _=>by
    rw[m7]
    by_cases q:c=o
    .simp![oM,decide_eq_true q,adL]
    .simp![oM,decide_eq_false q,ax,Bool.true_and];cases lies c o<;>rfl
   have sX:=List.length_filterMap_le (λc=>match (dC ts).filter λo=>!decide (c=o)&&lies c o with|[d]=>some ((c,d):ei)|_=>none) pre;rw[List.filterMap_append,List.map_append];generalize ed:(dC ts).filter (λo=>!decide (c=o)&&lies c o)=L at e1
   by_cases w:L.length=1
   .obtain⟨d,rfl⟩:=adg.mp w;have hz:((([d].map aq).length:Int)==1)=true:=rfl;have ai:fw (.lst ([d].map aq)) (.int 0)=.ok (aq d):=rfl;have h5:=uW ((pre.filterMap λc=>match (dC ts).filter λo=>!decide (c=o)&&lies c o with|[d]=>some ((c,d):ei)|_=>none).map ck) (.tup [aq c,aq d]) (by rw[List.length_map,gH];lia);refine⟨_,by simp![e1,hz,ai,h5];rfl,some (aq c),some (.lst ([d].map aq)),?_⟩;rw[List.filterMap_cons,ed];rfl
   .have hz:(((L.map aq).length:Int)==1)=false:=abH.mpr (by rw[List.length_map];lia);refine⟨_,by simp![e1,hz];rfl,some (aq c),some (.lst (L.map aq)),?_⟩;rw[List.filterMap_cons,ed]
    match L,w with
    |[],_=>simp
    |_::_::_,_=>simp
    |[_],w=>exact absurd rfl w)
 rw[e,gd];have az:∀p∈oR (dC ts),p.1≠[]/\p.2≠[]:=λp au=>by
  have f:=(Hc p).mp au;exact⟨(e7 ay (f.bT ay).1).2.1,(e7 ay (f.bT ay).2).2.1⟩
 have sX:(oR (dC ts)).length<=63:=ab2 (List.length_filterMap_le _ _) QX;have ae:=Jt az sX;rw[Fb ay (E0 (A8 ts)) Hc]at ae;have ae:Den.sorted (((dC ts).filterMap λc=>match (dC ts).filter λo=>!decide (c=o)&&lies c o with|[d]=>some ((c,d):ei)|_=>none).map ck)=_:=ae;simp![ae]
def SS(he:Φ fb [a9 m ts]=.ok (.lst ((dC ts).map aq)))(az:Φ fn [.lst (((dC ts).filter λc=>!decide (c∈[p.1,p.2])).map aq)]=.ok d):cV pg Φ ⟨2,0,aW.yE fn fb⟩ [a9 m ts,ck p]=.ok d:=by
 have e1:cY (elem pg Φ [some (a9 m ts),some (ck p)] (.var 2) 0 (.some (.cmp .jd (.var 2) (.var 1)))) ((dC ts).map aq)=.ok (((dC ts).filter λc=>!decide (c∈[p.1,p.2])).map aq):=jV λc _=>by
  have hm:fF .jd (aq c) (ck p)=.ok (!decide (c∈[p.1,p.2])):=by
   show ik (hO (aq c) ([p.1,p.2].map aq))=_;rw[tL];rfl
  rw[m7];simp![hm];cases decide (c∈[p.1,p.2])<;>rfl
 simp![aW.yE,he,e1,az]
noncomputable abbrev jj:=Int×List (List Int)
noncomputable def off(ts:List (List Int))(p:ei):jj:=(((lf (c8 ts p.1 p.2)).length:Int),d6 (nb (c8 ts p.1 p.2)))
structure Good(N:jj):Prop where
 dr:Net N.1 N.2
 len:N.2.length<=63
def Ug(h:Good N)(au:p∈dg N.2):Good (off N.2 p)/\(bT (off N.2 p).2).length<(bT N.2).length:=by
 have ay:=h.dr.cell;have f:=(ph ay p).mp au;refine⟨⟨HE f ay h.dr.ai,?_⟩,Uh f ay⟩;have J:=Kd (nb (c8 N.2 p.1 p.2));have h2:(c8 N.2 p.1 p.2).length<=(bT N.2).length:=abJ _ _;have h3:=qk h.dr.ai ay;have h4:(nb (c8 N.2 p.1 p.2)).length=(c8 N.2 p.1 p.2).length:=List.length_map _;show(d6 (nb (c8 N.2 p.1 p.2))).length<=63;lia
theorem E7{st:Option D->bx}{res:ei->D}:∀(aJ:List ei)(x:Option D){p:ei},(∀p∈aJ,∀x,g (ck p) (st x)=if p.1=c then .ok (.cP (res p)) else .ok (.br (st (some (ck p)))))->p∈aJ->p.1=c->(∀q∈aJ,q.1=c->q=p)->forL g (aJ.map ck) (st x)=.ok (.cP (res p))
 |[],_,_,_,h,_,_=>nomatch h
 |q::aJ,x,p,aQ,h,ag,bc=>by
  rw[List.map_cons,forL,aQ q List.mem_cons_self x]
  by_cases e:q.1=c
  .rw[if_pos e,bc q List.mem_cons_self e];rfl
  .rw[if_neg e,R.il];rcases aa9.mp h with rfl|h
   .exact absurd ag e
   .exact E7 aJ _ (λp au=>aQ p (List.mem_cons_of_mem _ au)) h ag λq aE=>bc q (List.mem_cons_of_mem _ aE)
theorem E6{st:Option D->bx}:∀(aJ:List ei)(x:Option D),(∀p∈aJ,∀x,g (ck p) (st x)=.ok (.br (st (some (ck p)))))->∃y,forL g (aJ.map ck) (st x)=.ok (.br (st y))
 |[],x,_=>⟨x,rfl⟩
 |q::aJ,x,aQ=>by
  obtain⟨y,e⟩:=E6 aJ (some (ck q)) λp au=>aQ p (List.mem_cons_of_mem _ au)
  exact⟨y,by rw[List.map_cons,forL,aQ q List.mem_cons_self x,R.il];exact e⟩
def qL(p):fw (ck p) (.int 0)=.ok (aq p.1):=rfl
def YS{N:jj}(J:Φ qo [a9 N.1 N.2]=.ok (.tup ((dg N.2).map ck)))(h2:Φ vB [a9 N.1 N.2,ck p]=.ok (a9 (off N.2 p).1 (off N.2 p).2))(au:p∈dg N.2)(bc:∀q∈dg N.2,q.1=p.1->q=p):
  cV pg Φ ⟨2,1,aW.rZ qo vB 1⟩ [a9 N.1 N.2,aq p.1]=.ok (a9 (off N.2 p).1 (off N.2 p).2):=by
 have hf:=E7 (g:=turn pg Φ 0 [2] (.cons (.iff (.cmp .eq (.idx (.var 2) (.lit (.int 0))) (.var 1)) (.cons (.ret (.call vB (.cons (.var 0) (.cons (.var 2) (.nil))))) (.nil)) (.nil)) (.nil))) (st:=λx=>[some (a9 N.1 N.2),some (aq p.1),x]) (c:=p.1) (res:=λ_=>a9 (off N.2 p).1 (off N.2 p).2) (dg N.2) none (λq aE x=>by
  by_cases e:q.1=p.1
  .rw[if_pos e,bc q aE e];simp![qL,oM,adK,h2]
  .rw[if_neg e];simp![qL,oM,decide_eq_false e]) au rfl bc
 simp![aW.rZ,J];rw[hf];rfl
def YR{N:jj}(J:Φ qo [a9 N.1 N.2]=.ok (.tup ((dg N.2).map ck)))(bc:∀q∈dg N.2,q.1≠c):
  cV pg Φ ⟨2,1,aW.rZ qo vB 1⟩ [a9 N.1 N.2,aq c]=.exc 1:=by
 obtain⟨y,hf⟩:=E6 (g:=turn pg Φ 0 [2] (.cons (.iff (.cmp .eq (.idx (.var 2) (.lit (.int 0))) (.var 1)) (.cons (.ret (.call vB (.cons (.var 0) (.cons (.var 2) (.nil))))) (.nil)) (.nil)) (.nil))) (st:=λx=>[some (a9 N.1 N.2),some (aq c),x]) (dg N.2) none λq aE x=>by
  simp![qL,oM,decide_eq_false (bc q aE)]
 simp![aW.rZ,J];rw[hf];rfl
def Y0(h:Φ i0 [a,b]=.ok d):cV pg Φ ⟨2,3,aW.rY i0 cR b4 fk qd jS lA⟩ [a,b]=.ok d:=by
 simp![aW.rY,zC,h,J4]
def YZ(h:Φ i0 [a,b]=.exc 1)(he:∀i j:Nat,jq pg 1 lA ⟨i,j,[cR,b4,fk,qd],jS,1000⟩=.ok (.cP (.str jc))):cV pg Φ ⟨2,3,aW.rY i0 cR b4 fk qd jS lA⟩ [a,b]=.ok (.str jc):=by
 simp![aW.rY,zC,h,J3,he]
noncomputable def rj:Nat->List Int->List Int
 |0,xs=>xs
 |n+1,xs=>if xs.getLast?=some 0 then rj n xs.dropLast else xs
noncomputable def k8(xs:List Int):List Int:=rj xs.length xs
def XR(xs):k8 (xs++[0])=k8 xs:=by
 unfold k8;rw[List.length_append];show rj (xs.length+1) (xs++[0])=_;rw[rj,if_pos (by simp),List.dropLast_concat]
theorem Ci(f):∀k,(∀j,n<=j->f j=0)->k8 ((List.range (n+k)).map f)=k8 ((List.range n).map f)
 |0,_=>rfl
 |k+1,h=>by
  rw[<- Nat.add_assoc,List.range_succ,List.map_append,adH,h (n+k) ⋯,XR,Ci f k h]
theorem Kw(st:List Int->bx)(ag:∀xs,c (st xs)=.ok (decide (xs.getLast?=some 0)))(hf:∀xs,xs≠[]->f (st xs)=.ok (.br (st xs.dropLast))):∀(n k:Nat)(xs:List Int),xs.length=k->k<n->lh c f n (st xs)=.ok (.br (st (rj k xs)))
 |0,_,_,_,h=>by lia
 |n+1,0,xs,e,_=>by
  rw[ac6 e,lh,ag];rfl
 |n+1,k+1,xs,e,h=>by
  rw[lh,ag,rj]
  by_cases q:xs.getLast?=some 0
  .rw[if_pos q,decide_eq_true q];simp only[R.il,abY,hf xs (λz=>by rw[z]at e;cases e)];exact Kw st ag hf n k xs.dropLast (by rw[List.length_dropLast];lia) ⋯
  .rw[if_neg q,decide_eq_false q];rfl
def S1(ax:ae.length<100):cV pg Φ ⟨1,1,aW.yz⟩ [aq (h::ae)]=.ok (.lst ((k8 ((h-1)::ae)).map .int)):=by
 have hw:=Kw (c:=λbK=>ev pg Φ bK (.and (.cmp .ne (.var 1) (.lst (.nil))) (.cmp .eq (.idx (.var 1) (.neg (.lit (.int 1)))) (.lit (.int 0))))>>=λx=>f6 x) (f:=λbK=>eP pg Φ bK (.cons (.pop 1) (.nil)))
  (λxs=>[some (aq (h::ae)),some (.lst (xs.map .int))]) (λxs=>by
   have e1:=zx xs [];have e1:fG (.lst (xs.map .int)) (.lst [])=.ok (decide (xs=[])):=e1;cases xs with
   |nil=>simp![e1,adK];rfl
   |cons x xs =>
    have aQ:fw (.lst ((x::xs).map .int)) (.int (-1))=.ok (.int ((x::xs).getLastD 0)):=by
     rw[tr,List.map_cons,P0,<- List.map_cons,getLast?_map];rw[List.getLast?_cons,List.getLastD_cons,List.getLastD_eq_getLast?];rfl
    have jW:decide ((x::xs)=[])=false:=(by simp);simp![EJ,e1,jW,aQ];rw[List.getLast?_cons,List.getLastD_cons];congr 1;rw[Bool.eq_iff_iff];simp) (λxs ak=>by
   have au:wZ (some (some (.lst (xs.map .int))))=.ok (.lst (xs.dropLast.map .int)):=by
    rw[List.map_dropLast];cases xs with
    |nil=>exact absurd rfl ak
    |cons x xs=>rfl
   simp![O0,au]) 200 ((h-1)::ae).length ((h-1)::ae) rfl (by rw[List.length_cons];lia)
 have aQ:fw (.lst ((h::ae).map .int)) (.int 0)=.ok (.int h):=by rw[tr,List.map_cons,PZ]
 have lT:ui (some (some (.lst ((h::ae).map .int)))) (.int (h-1))=.ok (.lst (((h-1)::ae).map .int)):=rfl;rw[<- O5]at hw;simp![aW.yz,pF,aQ,O4,lT,hw];rfl
def Jg(aJ:List ei):(aJ.map ck).all (cL 59)=true:=by
 rw[List.all_map,abB];intro p _;have:=xb 57 [p.1,p.2];exact this
def Eu(m)(ts):fG (a9 m ts) (a9 m ts)=.ok true:=by
 have h:cL 60 (a9 m ts)=true:=by
  show(cL 59 (.int m)&&(cL 59 (.tup (ts.map aq))&&true))=true;have:cL 59 (.tup (ts.map aq))=true:=xb 57 ts;rw[this];rfl
 rw[zy h h];show R.ok ((m==m)&&(iX (ts.map aq) (ts.map aq)&&true))=_;rw[zu];simp
noncomputable def j3(ts:List (List Int))(k:Nat):Int:=(dE ts k:Int)-if k=0 then 1 else 0
noncomputable def pa(ts:List (List Int)):List Int:=k8 ((List.range (ai ts)).map (j3 ts))
def An(h:Good N):1<=ai N.2:=by
 have J:=wD h.dr
 match aG:N.2,J with
 |t::ts,_ =>
  have ay:t∈N.2:=(by rw[aG];exact List.mem_cons_self);have h2:=Am t ay;have h3:=(h.dr.cell t ay).1;have h4:1<=t.length:=by cases t with|nil=>exact absurd rfl h3|cons _ _=>simp
  rw[aG]at h2;lia
def Te(J:1<=ai ts)(h2:1<=ai ts')(h:∀k,dE ts' k=dE ts k):pa ts'=pa ts:=by
 have e:j3 ts'=j3 ts:=by funext k;unfold j3;rw[h]
 unfold pa;rw[e];have a:=Ci (j3 ts) (n:=ai ts) (ai ts') λj aF=>by unfold j3;rw[Il aF,if_neg ⋯];rfl
 have b:=Ci (j3 ts) (n:=ai ts') (ai ts) λj aF=>by unfold j3;rw[<- h,Il aF,if_neg ⋯];rfl
 rw[<- a,<- b,Nat.add_comm]
def GH{Φ:fo}(hf:∀(h:Int)(ae:List Int),ae.length<100->Φ f [aq (h::ae)]=.ok (.lst ((k8 ((h-1)::ae)).map .int)))(h:Good N):Φ f [.tup ((List.range (ai N.2)).map λk=>D.int (dE N.2 k:Int))]=.ok (.lst ((pa N.2).map .int)):=by
 have J:=An h;have cJ:=Bl h.dr;unfold pa;obtain⟨n,az⟩:∃n,ai N.2=n+1:=⟨ai N.2-1,⋯⟩;rw[az,adW];have:=hf (dE N.2 0:Int) ((List.range n).map λk=>(dE N.2 (k+1):Int)) (by rw[List.length_map,List.length_range];lia);have e1:D.tup ((0::(List.range n).map Nat.succ).map λk=>D.int (dE N.2 k:Int))=aq ((dE N.2 0:Int)::(List.range n).map λk=>(dE N.2 (k+1):Int)):=by
  unfold aq;rw[List.map_cons,List.map_cons,List.map_map,List.map_map];rfl
 have e2:(0::(List.range n).map Nat.succ).map (j3 N.2)=((dE N.2 0:Int)-1)::(List.range n).map λk=>(dE N.2 (k+1):Int):=by
  rw[List.map_cons,List.map_map];refine List.cons_eq_cons.mpr ⟨rfl,abM λk _=>?_⟩;show j3 N.2 (k+1)=_;unfold j3;rw[if_neg ⋯,ae5]
 rw[e1,e2,this]
theorem Es:∀aJ:List ei,iX (aJ.map ck) (aJ.map ck)=true
 |[]=>rfl
 |p::aJ=>by
  have h:fs (ck p) (ck p)=true:=by
   show iX ([p.1,p.2].map aq) ([p.1,p.2].map aq)=true;rw[zu];simp
  rw[List.map_cons];show(fs (ck p) (ck p)&&iX (aJ.map ck) (aJ.map ck))=true;rw[h,Es aJ];rfl
def vn(aJ:List ei):fG (.tup (aJ.map ck)) (.tup (aJ.map ck))=.ok true:=by
 have h:cL 60 (.tup (aJ.map ck))=true:=Jg aJ;rw[zy h h];exact acp R.ok (Es aJ)
def Gv{α:Type}(f:α->D){L:List α}(h:L≠[])(r):∃x∈L,iz (L.map f) (r%(L.length:Int))=some (f x):=by
 have ax:0<(L.length:Int):=by have:=adA.mpr h;lia
 have J:=aeU r (Int.ne_of_gt ax);have h2:=aes r ax;obtain⟨k,aw⟩:∃k:Nat,r%(L.length:Int)=(k:Int):=⟨(r%(L.length:Int)).toNat,⋯⟩;rw[aw]at h2 ⊢;have h3:k<L.length:=by lia
 rw[vC,abj,abc h3];exact⟨L[k],aeK h3,rfl⟩
def SJ{is:List Int}(hm:∀k:Nat,∃r:Int,0<=r/\r<og/\Φ vz [.lst (is.map .int),.int (k:Int)]=.ok (.int r))(az:∀i:Int,0<=i->∃m ts,Φ fn [.int i,.int 5]=.ok (a9 m ts)/\Net m ts/\m<=5/\ts.length<=20)(J:∀N:jj,Good N->Φ EZ [a9 N.1 N.2]=.ok (.tup ((dg N.2).map ck)))(h2:∀(N:jj)(p:ei),Good N->p∈dg N.2->Φ E4 [a9 N.1 N.2,ck p]=.ok (a9 (off N.2 p).1 (off N.2 p).2))(h3:∀N:jj,Good N->Φ qo [a9 N.1 N.2]=.ok (.tup ((dg N.2).map ck)))(h4:∀N:jj,Good N->Φ fb [a9 N.1 N.2]=.ok (.lst ((dC N.2).map aq)))(h5:∀N:jj,Good N->Φ nh [a9 N.1 N.2]=.ok (.tup ((List.range (ai N.2)).map λk=>D.int (dE N.2 k:Int))))(el:∀(h:Int)(ae:List Int),ae.length<100->Φ eQ [aq (h::ae)]=.ok (.lst ((k8 ((h-1)::ae)).map .int)))(gx:∀(N:jj)(p:ei),Good N->p∈dg N.2->Φ i0 [a9 N.1 N.2,aq p.1]=.ok (a9 (off N.2 p).1 (off N.2 p).2))(cJ:∀(N:jj)(c:List Int),Good N->(∀q∈dg N.2,q.1≠c)->Φ i0 [a9 N.1 N.2,aq c]=.ok (.str jc))(F7:∀N:jj,Good N->∀n,dE N.2 n+gi N.2 (n+1)+gi N.2 n=nn N.2 n):cV pg Φ ⟨1,6,aW.qa eQ nh E4 i0 vz fb qo EZ fn⟩ [.lst (is.map .int)]=.ok (.aP true):=by
 obtain⟨r,fA,-,e0⟩:=hm 0;obtain⟨aH,-,-,qj⟩:=hm 1;obtain⟨aX,-,-,vg⟩:=hm 2;have e0:Φ vz [.lst (is.map .int),.int 0]=.ok (.int r):=e0;have qj:Φ vz [.lst (is.map .int),.int 1]=.ok (.int aH):=qj;have vg:Φ vz [.lst (is.map .int),.int 2]=.ok (.int aX):=vg;obtain⟨m,ts,e1,aG,aak,ax⟩:=az r fA;have g:Good (m,ts):=⟨aG,by show ts.length<=63;lia⟩;have e2:Φ EZ [a9 m ts]=.ok (.tup ((dg ts).map ck)):=J _ g;have e3:Φ qo [a9 m ts]=.ok (.tup ((dg ts).map ck)):=h3 _ g;have e4:Φ fb [a9 m ts]=.ok (.lst ((dC ts).map aq)):=h4 _ g;have h9:dC ts≠[]:=λz=>by
  obtain⟨t,ay⟩:=List.exists_mem_of_ne_nil ts (wD aG);have:t∈dC ts:=(wy t).mpr (i9.mpr ⟨(aG.cell t ay).1,t,ay,adn t⟩);rw[z]at this;cases this
 obtain⟨c,ag,gZ⟩:=Gv aq h9 aH;have qA:0<((dC ts).length:Int):=by have:=adA.mpr h9;lia
 have aM:cY (elem pg Φ [some (.lst (is.map .int)),some (a9 m ts),some (.tup ((dg ts).map ck)),some (.lst ((dC ts).map aq)),some (aq c),none,none] (.idx (.var 7) (.lit (.int 0))) 0 .none) ((dg ts).map ck)=.ok ((dg ts).map λp=>aq p.1):=iW λp _=>by
  simp![qL]
 have a7:((dg ts).map λp=>aq p.1)=((dg ts).map (·.1)).map aq:=by rw[List.map_map];rfl
 have bU:fG (.str jc) (.str (PySem.Str.ofString "none"))=.ok true:=by
  have ae:cL 60 (.str jc)=true:=(by decide +kernel);have aa:fs (.str jc) (.str (PySem.Str.ofString "none"))=true:=(by decide +kernel);have F4:cL 60 (.str (PySem.Str.ofString "none"))=true:=(by decide +kernel);rw[zy ae F4,aa]
 have cO:((dg ts).map ck).length=(dg ts).length:=List.length_map _;have fK:((dC ts).map aq).length=(dC ts).length:=List.length_map _;have gZ:fw (.lst ((dC ts).map aq)) (.int (aH%((dC ts).length:Int)))=.ok (aq c):=by rw[tr,gZ]
 have m6:decide (c∈(dg ts).map (·.1))=false->Φ i0 [a9 m ts,aq c]=.ok (.str jc):=λak=>by
  refine cJ (m,ts) c g λq aE e=>?_
  have:c∈(dg ts).map (·.1):=List.mem_map.mpr ⟨q,aE,e⟩;rw[decide_eq_true this]at ak;cases ak
 have lH:=Ew (Jg (dg ts));rw[wA]at lH;cases hz:(dg ts).isEmpty with
 |true =>
  rw[hz]at lH;cases hd:decide (c∈(dg ts).map (·.1)) with
  |true=>simp![aW.qa,e0,e1,e2,e3,vn,e4,qj,fK,hP _ _ qA,gZ,aM,a7,tL,hd,lH]
  |false =>
   have m6:=m6 hd;simp![aW.qa,e0,e1,e2,e3,vn,e4,qj,fK,hP _ _ qA,gZ,aM,a7,tL,hd,lH,m6,bU]
 |false =>
  rw[hz]at lH;have dJ:dg ts≠[]:=λz=>by rw[z]at hz;cases hz
  have vN:0<((dg ts).length:Int):=(by have:=adA.mpr dJ;lia);obtain⟨p,au,aZ⟩:=Gv ck dJ aX;have aZ:fw (.tup ((dg ts).map ck)) (.int (aX%((dg ts).length:Int)))=.ok (ck p):=(by rw[AO,aZ]);have oK:Φ i0 [a9 m ts,aq p.1]=.ok (a9 (off ts p).1 (off ts p).2):=gx (m,ts) p g au;have vh:Φ E4 [a9 m ts,ck p]=.ok (a9 (off ts p).1 (off ts p).2):=h2 (m,ts) p g au;obtain⟨g1,-⟩:=Ug g au;have vi:=h5 _ g1;have Ek:Φ nh [a9 m ts]=.ok (.tup ((List.range (ai ts)).map λk=>D.int (dE ts k:Int))):=h5 _ g;have sm:=GH el g1;have El:Φ eQ [.tup ((List.range (ai ts)).map λk=>D.int (dE ts k:Int))]=.ok (.lst ((pa ts).map .int)):=GH el g;have dB:=MJ (ts':=(off ts p).2) (HD ((ph aG.cell p).mp au) aG.cell) ((ph aG.cell p).mp au) aG.cell (F7 (m,ts) g) (F7 (off ts p) g1);rw[Te (An g) (An g1) dB]at sm;have vi:Φ nh [a9 (off ts p).1 (off ts p).2]=_:=vi;have sm:Φ eQ [.tup ((List.range (ai (off ts p).2)).map λk=>D.int (dE (off ts p).2 k:Int))]=.ok (.lst ((pa ts).map .int)):=sm;generalize off ts p=N at *;cases hd:decide (c∈(dg ts).map (·.1)) with
  |true=>simp![aW.qa,e0,e1,e2,e3,vn,e4,qj,vg,cO,fK,hP _ _ qA,hP _ _ vN,gZ,aM,a7,tL,hd,lH,aZ,qL,oK,vh,Eu,vi,Ek,sm,El,zx,adK]
  |false =>
   have m6:=m6 hd;simp![aW.qa,e0,e1,e2,e3,vn,e4,qj,vg,cO,fK,hP _ _ qA,hP _ _ vN,gZ,aM,a7,tL,hd,lH,m6,bU,aZ,qL,oK,vh,Eu,vi,Ek,sm,El,zx,adK]
end cH
end
section
namespace ek
open PySem
noncomputable def fr(l:List Env):List Addr:=l.filterMap (·.frame)
def gu(cls:Nat->Option Addr)(c:Nat)(e:Value)(l:List Addr)(h:Heap):Prop :=
 ∃bo C dK af,e=.ref bo/\cls c=some C/\h.get? bo=some dK/\dK.cls=.ref C/\dK.data=.fields af/\af[2]?=some .none /\
  ((l=[bo]/\af[1]?=some .none)\/∃T j7 ts,l=[bo,T]/\af[1]?=some (.ref T)/\T≠bo/\h.get? T=some j7/\j7.data=.fields ts/\ts[3]?=some .none)
def YV{s:Shared}(ax:s.heap.FunFrames base l)(he:s.heap.get? a=some o)(hd:o.data=.fields af):a∉fr l:=λhm=>by
 obtain⟨_,bJ,q,az⟩:=ax.mem hm;rw[he]at q;cases q;exact az af hd
def entry(nr:A.frames=some (env::outer))(ax:s.heap.FunFrames base (env::outer))(hf:env.frame=some L)(he:s.heap.get? bo=some dK)(hd:dK.data=.fields af)(hz:1<af.size)(k:∀h' T j7 ts,h'.get? bo=some (dK.mapFields (·.setIfInBounds 1 (.ref T)))->T≠bo->s.heap.get? T=none->h'.get? T=some j7->j7.data=.fields ts->3<ts.size ->
   (∀b o,s.heap.get? b=some o->b≠bo->b∉fr (env::outer)->h'.get? b=some o)->(∀b o,s.heap.get? b=some o->b≠bo->∃bF,h'.get? b=some { o with slots:=bF })->Q () { s with heap:=h' }):
  wpAny M A (do let a <- frameOf env;let b0 <- entryPlaceOf L br;let b <- EntryCells.newEntry head a .none (rawInt L) .none b0;setField (.ref bo) 1 b) Q E s:=by
 refine aa5 (wpAny_frameOf_fun nr ax hf λg1 ⟨bO,bE,dx⟩=>aa5 (wpAny_entryPlaceOf λb0 dV=>?_));unfold EntryCells.newEntry newFields;have e1:g1.get? bo=some dK:=(bE bo (YV ax he hd)).trans he;have ne:g1.objs.size≠bo:=ae2 (abd e1);refine aa5 (abE (ack (aa8 _ e1) hd hz (k _ g1.objs.size _ _ (abA _ (aa8 _ e1) (adk (acB hd _))) ne ?_ ((abu _ _ ne.symm).trans (abf g1 rfl)) rfl ?_ (λb o q aa az=>?_) λb o q aa=>?_)) (dV.sizeOk5 _ _ _ _ _))
 .cases q:s.heap.get? g1.objs.size with
  |none=>rfl
  |some o=>exact absurd (abd q) (by rw[bO];exact acv _)
 .simp
 .rw[abu _ _ (abW aa)];exact aa8 _ ((bE b az).trans q)
 .obtain⟨bF,cU⟩:=dx b o q;exact⟨bF,by rw[abu _ _ (abW aa)];exact aa8 _ cU⟩
def note(nr:A.frames=some (env::outer))(ax:s.heap.FunFrames base (env::outer))(hf:env.frame=some L)(ak:gu cls c e l s.heap)(k:∀h' gA,gu cls c e gA h'->(∀a∈gA,a∈l\/s.heap.get? a=none)->(∀b o,s.heap.get? b=some o->b∉l->b∉fr (env::outer)->h'.get? b=some o) ->
   (∀b o,s.heap.get? b=some o->b∈fr (env::outer)->∃bF,h'.get? b=some { o with slots:=bF })->Q () { s with heap:=h' }):
  wpAny M A (noteFrame e env) (λ_ s2=>wpAny M A (setFlight e none) Q E s2) E s:=by
 obtain⟨bo,C,dK,af,rfl,ag,he,dB,hd,h2,aV⟩:=ak;have hz:1<af.size:=Nat.lt_trans ∅ (abD.mp h2).1;have fin:∀{h0 J:Heap}{T:Addr}{j7:Obj}{ts:Array Value},(∀b o,s.heap.get? b=some o->b∉l->h0.get? b=some o)->bo∈l->J.get? bo=some (dK.mapFields (·.setIfInBounds 1 (.ref T)))->T≠bo->s.heap.get? T=none->J.get? T=some j7->j7.data=.fields ts->3<ts.size ->
   (∀b o,h0.get? b=some o->b≠bo->b∉fr (env::outer)->J.get? b=some o)->(∀b o,h0.get? b=some o->b≠bo->∃bF,J.get? b=some { o with slots:=bF })->(∀b,b∈l->∀o,s.heap.get? b=some o->∃ws,o.data=.fields ws)->wpAny M A (setFlight (.ref bo) none) Q E { s with heap:=J }:=by
  intro h0 J T j7 ts k0 lO aM a7 bU cO fK kW iH t6 VB;have bQ:=acB hd (·.setIfInBounds 1 (Value.ref T));have v1:(af.setIfInBounds 1 (Value.ref T))[1]?=some (Value.ref T):=(by simp[hz]);have v2:(af.setIfInBounds 1 (Value.ref T))[2]?=some Value.none:=(by rw[Array.getElem?_setIfInBounds_ne ∅];exact h2);have nl:∀b o,s.heap.get? b=some o->b∈fr (env::outer)->b∉l:=λb o q aa hm=>by
   obtain⟨_,bJ,cU,az⟩:=ax.mem aa;rw[q]at cU;cases cU;obtain⟨ws,hw⟩:=VB b hm o q;exact az ws hw
  have Hk:∀b o,s.heap.get? b=some o->b≠T:=λb o q z=>by rw[z,bU]at q;cases q
  have nR:∀b,b≠T->(J.update T (Obj.mapFields (·.setIfInBounds 3 ((none:Option Addr).elim Value.none λf=>rawInt f)))).get? b=J.get? b:=λb aa=>abu _ _ (abW aa)
  unfold setFlight;refine aa5 (acC aM bQ v1 ?_);rw[if_pos (show(Value.ref T != Value.none)=true from by simp)];refine ack cO fK kW (k _ [bo,T] ⟨bo,C,_,_,rfl,ag,(nR bo (abW a7)).trans aM,(Obj.cls_mapFields _ _).trans dB,bQ,v2,.inr ⟨T,_,_,rfl,v1,a7,abA _ cO (adk (acB fK _)),acB fK _,by simp[kW]⟩⟩ (λa aA=>?_) (λb o q aa az=>?_) λb o q aa=>?_)
  .rcases aa9.mp aA with rfl|aA
   .exact .inl lO
   .obtain rfl:a=T:=(by simpa using aA);exact .inr bU
  .exact(nR b (Hk b o q)).trans (iH b o (k0 b o q aa) (λz=>aa (by rw[z];exact lO)) az)
  .have hm:=nl b o q aa;obtain⟨bF,z⟩:=t6 b o (k0 b o q hm) λz=>hm (by rw[z];exact lO)
   exact⟨bF,(nR b (Hk b o q)).trans z⟩
 unfold noteFrame;simp only[hf];rcases aV with⟨rfl,J⟩|⟨T,j7,ts,rfl,J,z2,cu,oW,h3⟩
 .refine aa5 (acC he hd J ?_);rw[if_neg ∅];refine entry nr ax hf he hd hz λh' mL T8 ts' aM a7 bU cO fK kW iH t6=>fin (h0:=s.heap) (λb o q _=>q) (by simp) aM a7 bU cO fK kW iH t6 λb aa o q=>?_
  obtain rfl:b=bo:=(by simpa using aa);rw[he]at q;cases q;exact⟨af,hd⟩
 .refine aa5 (acC he hd J ?_);rw[if_pos (show(Value.ref T != Value.none)=true from by simp)];refine aa5 (acC cu oW h3 ?_);rw[if_neg (show ¬((Value.none==rawInt L)=true) from by simp[rawInt])];refine aa5 (ack cu oW (abD.mp h3).1 ?_);have nR:∀b,b≠T->(s.heap.update T (Obj.mapFields (·.setIfInBounds 3 Value.none))).get? b=s.heap.get? b:=λb aa=>abu _ _ (abW aa)
  have VQ:∀b,b∈[bo,T]->∀o,s.heap.get? b=some o->∃ws,o.data=.fields ws:=λb aa o q=>by
   rcases aa9.mp aa with rfl|aa
   .rw[he]at q;cases q;exact⟨af,hd⟩
   .obtain rfl:b=T:=(by simpa using aa);rw[cu]at q;cases q;exact⟨ts,oW⟩
  have qy:(s.heap.update T (Obj.mapFields (·.setIfInBounds 3 Value.none))).FunFrames base (env::outer):=ax.of_keeps λb o q az=>⟨o,(nR b λz=>by rw[z,cu]at q;cases q;exact az ts oW).trans q,rfl⟩
  have Qp:∀mL,(s.heap.update T (Obj.mapFields (·.setIfInBounds 3 Value.none))).get? mL=none->s.heap.get? mL=none:=λmL q=>by
   by_cases z:mL=T
   .subst z;rw[abA _ cu (adk (acB oW _))]at q;cases q
   .rw[nR mL z]at q;exact q
  exact entry (s:={ s with heap:=s.heap.update T (Obj.mapFields (·.setIfInBounds 3 Value.none)) }) nr qy hf ((nR bo (abW z2)).trans he) hd hz λh' mL T8 ts' aM a7 bU cO fK kW iH t6 =>
   fin (h0:=s.heap.update T (Obj.mapFields (·.setIfInBounds 3 Value.none))) (λb o q aa=>(nR b λz=>aa (by simp[z])).trans q) (by simp) aM a7 (Qp mL bU) cO fK kW iH t6 VQ
def leave(nr:A.frames=some (env::outer))(ax:s.heap.FunFrames base (env::outer))(hf:env.frame=some L)(ak:gu cls c e l s.heap)(k:∀h' gA,gu cls c e gA h'->(∀a∈gA,a∈l\/s.heap.get? a=none)->(∀b o,s.heap.get? b=some o->b∉l->b∉fr (env::outer)->h'.get? b=some o) ->
   (∀b o,s.heap.get? b=some o->b∈fr (env::outer)->∃bF,h'.get? b=some { o with slots:=bF })->Q () { s with heap:=h' }):
  wpAny M A (leaving env e) Q E s:=by
 unfold leaving;exact aa5 (note nr ax hf ak k)
def PF(ak:gu cls c e l s.heap)(k:∀(h':Heap)(gA:List Addr),(∀a∈gA,a∈l/\e≠.ref a)->(∀b o,s.heap.get? b=some o->b∉gA->h'.get? b=some o)->Q () { s with heap:=h' }):wpAny M A (setFlight e none) Q E s:=by
 obtain⟨bo,C,dK,af,rfl,ag,he,dB,hd,h0,aV⟩:=ak;rcases aV with⟨rfl,J⟩|⟨T,j7,ts,rfl,J,z2,cu,oW,h3⟩
 .unfold setFlight;refine aa5 (acC he hd J ?_);rw[if_neg ∅];exact aa7 (k s.heap [] (λ_ z=>nomatch z) λb o q _=>q)
 .unfold setFlight;refine aa5 (acC he hd J ?_);rw[if_pos (show(Value.ref T != Value.none)=true from by simp)];refine ack cu oW (abD.mp h3).1 (k _ [T] (λa aA=>?_) λb o q aa=>?_)
  .obtain rfl:a=T:=(by simpa using aA);exact⟨by simp,λz=>z2 (Value.ref.inj z).symm⟩
  .rw[abu _ _ (λz=>aa (by simp[z]))];exact q
def made(ag:cls c=some C)(hm:Heap.MadeExcOf h h' e (.ref C) args):gu cls c (.ref e) [e] h':=by
 obtain⟨t,he,_,_⟩:=hm.there;exact⟨e,C,_,_,rfl,ag,he,rfl,rfl,rfl,.inl ⟨rfl,rfl⟩⟩
section
def Gp(ak:s.heap.get? x=some hT)(dB:hT.cls=.ref C)(dU:s.heap.get? C=some (excClassObj nm q C N bs bm hdct sn sub ab col dd k0 k1 k2 k3 k5 newId))(jZ:∀{fC:Around}{dO:Value->Shared->Prop}{fP},dO (.type "type") s->wpAny (model prog w) fC (typeOf c) dO fP s)(Ap:∀{fC:Around}{dO:Bool->Shared->Prop}{fP},dO true s->wpAny (model prog w) fC (isType c) dO fP s)(hm:(Value.ref C::bm).contains c=true)(h:Q (.done (.ret (.bool true))) s):wpAny (model prog w) A (Builtin.«isinstance.nested» ⟨[.ref x,c,.int dep tk],[]⟩) Q E s:=by
 obtain⟨h0,g,d,tt,os⟩:=s;have rJ:∀{fC:Around}{dO:Value->Shared->Prop}{fP},dO (.ref C) ⟨h0,g,d,tt,os⟩->wpAny (model prog w) fC (typeOf (.ref x)) dO fP ⟨h0,g,d,tt,os⟩:=λ{fC dO fP} z=>by
  unfold typeOf
  repeat (first|(with_reducible refine ab1 ak ?_;rw[dB])|wp_step)
  exact z
 unfold Builtin.«isinstance.nested»;refine aa5 (rJ ?_)
 by_cases he:(Value.ref C==c)=true
 .rw[if_pos he];show wpAny (model prog w) A (pure _) Q E _;exact aa7 h
 .rw[if_neg he];refine aa5 (jZ ?_);rw[if_pos ∅]
  k_delta "plainIsInstance"
  refine aa5 (aa5 (Ap ?_));simp only[acw,aba,abw];refine aa5 ?_;unfold isInstance;refine aa5 (rJ ?_);refine acz dU ?_;rw[hm];simp only[abY]
  first
   |exact aa7 h
   |exact aa7 (aa7 h)
   |exact aa5 (aa7 (aa7 h))
def R9(ak:s.heap.get? x=some hT)(dB:hT.cls=.ref C)(dU:s.heap.get? C=some (excClassObj nm q C N bs bm hdct sn sub ab col dd k0 k1 k2 k3 k5 newId))(eG:s.heap.get? D=some ma)(zY:ma.cls=.type "type")(zZ:∃cd,ma.data=.cls cd)(hm:(Value.ref C::bm).contains (.ref D)=true)(h:Q (.bool true) s):wpAny (model prog w) A (call (.builtin "isinstance") [.ref x,.ref D]) Q E s:=by
 refine aeX (S:=λ_ R s=>(s.heap.get? x=some hT/\s.heap.get? C=some (excClassObj nm q C N bs bm hdct sn sub ab col dd k0 k1 k2 k3 k5 newId)/\s.heap.get? D=some ma)/\R (.ok (.ret (.bool true))) s)
  (λ_ _ _ _ _ ae=>aeL (Gp ae.1.1 dB ae.1.2.1 (λ{fC dO fP} z=>?_) (λ{fC dO fP} z=>?_) hm ae.2) (by intro q;cases q)) ⟨⟨ak,dU,eG⟩,h⟩
 .have eG:=ae.1.2.2;rename_i s';obtain⟨h0,g,d,tt,os⟩:=s';unfold typeOf
  repeat (first|(with_reducible refine ab1 eG ?_;rw[zY])|wp_step)
  exact z
 .have eG:=ae.1.2.2;obtain⟨fS,bb,Ub,fT⟩:=ma;obtain⟨cd,rfl⟩:=zZ;unfold isType loadHead;exact aa5 (wpAny_loadPart eG (aa7 z))
def Sa(ak:s.heap.get? x=some hT)(dB:hT.cls=.ref C)(dU:s.heap.get? C=some (excClassObj nm q C N bs bm hdct sn sub ab col dd k0 k1 k2 k3 k5 newId))(jZ:typeOf (.type T)=pure (.type "type"))(hm:bm.contains (.type T)=true)(h:Q (.bool true) s):wpAny (model prog w) A (call (.builtin "isinstance") [.ref x,.type T]) Q E s:=by
 refine aeX (S:=λ_ R s=>(s.heap.get? x=some hT/\s.heap.get? C=some (excClassObj nm q C N bs bm hdct sn sub ab col dd k0 k1 k2 k3 k5 newId))/\R (.ok (.ret (.bool true))) s)
  (λ_ _ _ _ _ ae=>aeL (Gp ae.1.1 dB ae.1.2 (λ{fC dO fP} z=>?_) (λ{fC dO fP} z=>?_) (by rw[adh,hm,adx]) ae.2) (by intro q;cases q)) ⟨⟨ak,dU⟩,h⟩
 .rw[jZ];exact aa7 z
 .exact aa7 z
end
end ek
end
section
namespace ek
open PySem PySem.W
section
variable{prog:Program}{w:World}{A:Around}{E:Value->Shared->Prop}{h:Heap}{g:Array GenState}{d:Drawn}{t:Nat}{os:OsState}{a:Addr}{o:Obj}{K:Frag}{nm q:Str}{C N:Addr}{bs bm:List Value}{hdct:Bool}{sn:List Str}{sub:List Value}{ab:Bool}{col:Option Bool}{dd:Option Addr}{k0 k1 k2 k3 k5:Option Value}{newId:String}
def Tp(dU:h.get? C=some (excClassObj nm q C N bs bm hdct sn sub ab col dd k0 k1 k2 k3 k5 newId))(eG:h.get? D=some (excClassObj aaO cU D dN LZ DD aac aaX Cj ZU ZY mZ aaB aaC aaD aaE aaF aaN))(he:h.get? e=some dK)(Ad:dK.cls=.ref C)(sR:DD.contains (.type "BaseException")=true)(hm:(Value.ref C::bm).contains (.ref D)=true)(aE:Q true ⟨h,g,d,t,os⟩):wpAny M A (excMatches (.ref e) (.ref D)) Q E ⟨h,g,d,t,os⟩:=by
 have sS:(Value.ref D::DD).contains (.type "BaseException")=true:=by rw[adh,sR,adx]
 have f:=tc_notTuple;unfold excMatches
 repeat (first|(with_reducible refine ab1 he ?_;rw[Ad])|with_reducible refine ab1 eG ?_|(with_reducible refine acz eG ?_;rw[sS])|(with_reducible refine acz dU ?_;rw[hm])|wp_step)
 exact aE
def MC(dU:h.get? C=some (excClassObj nm q C N bs bm hdct sn sub ab col dd k0 k1 k2 k3 k5 newId))(en:bm.contains (.type "object")=true)(ak:h.get? a=some o)(ag:o.cls=.ref C)(aE:R (.ok (.ret (.ref C))) ⟨h,g,d,t,os⟩):
  codeAny (model prog w) A (.call (.builtin "getset_descriptor.__get__") ⟨[.builtin "object.__class__",.ref a,.ref C],[]⟩) R ⟨h,g,d,t,os⟩:=by
 have FE:(⟨h,g,d,t,os⟩:Shared).TypeIs (.builtin "object.__class__") "getset_descriptor":=ad0;have sS:(Value.ref C::bm).contains (.type (".".intercalate ("object.__class__".cutAt '.').dropLast))=true:=by
  rw[F.owner_object_class,adh,en,adx]
 refine aej F.slot_gs_get.plain F.entry_gs_get (F.slot_gs_get.check _ _ _ _ _ _ _ _ FE (F.args_gs_get _ _ _) ?_)
 repeat (any_goals (first|assumption|(with_reducible refine ab1 ak ?_;rw[ag])|(with_reducible refine acz dU ?_;rw[sS])|wp_step))
 refine⟨aev _ (by decide +kernel),ab4 F.entry_object_class ?_⟩
 repeat (any_goals (first|assumption|(with_reducible refine ab1 ak ?_;rw[ag])|wp_step))
def MA(dU:h.get? C=some (excClassObj nm q C N bs bm hdct sn sub ab col dd k0 k1 k2 k3 k5 newId))(d3:bm.contains (.type "BaseException")=true)(ak:h.get? a=some o)(ag:o.cls=.ref C)(aE:Q () ⟨h,g,d,t,os⟩):wpAny M A (checkBuiltinCall "BaseException.__getattribute__" ⟨[.ref a,TN],[]⟩) Q E ⟨h,g,d,t,os⟩:=by
 have aw:builtinKind "BaseException.__getattribute__"=some .slot:=by decide +kernel
 have RD:splitId "BaseException.__getattribute__"=some ("BaseException","__getattribute__"):=by decide +kernel
 have sS:(Value.ref C::bm).contains (.type "BaseException")=true:=by rw[adh,d3,adx]
 have aA:=F.args_bexc_ga (.ref a) TN;simp only[checkBuiltinCall,aw,RD];refine aa5 ?_
 .unfold isInstance
  repeat (first|(with_reducible refine ab1 ak ?_;rw[ag])|(with_reducible refine acz dU ?_;rw[sS])|wp_step)
  exact aE
def MB(X:K.In h)(J:findIn K (.ref C) "__class__"=some (some (.builtin "object.__class__")))(dU:h.get? C=some (excClassObj nm q C N bs bm hdct sn sub ab col dd k0 k1 k2 k3 k5 newId))(en:bm.contains (.type "object")=true)(ak:h.get? a=some o)(ag:o.cls=.ref C)(aE:Q (.done (.ret (.ref C))) ⟨h,g,d,t,os⟩):
  wpAny (model prog w) A (Builtin.«object.__getattribute__» ⟨[.ref a,.str "__class__" tk],[]⟩) Q E ⟨h,g,d,t,os⟩:=by
 have FE:(⟨h,g,d,t,os⟩:Shared).TypeIs (.builtin "object.__class__") "getset_descriptor":=ad0;have fa:=ad0;have Z5:=F.slot_gs_get.lookup;have Z6:=F.slot_gs_set.lookup;have KR:=looks_findIn (M:=model prog w) X J
 repeat (any_goals (first|assumption|(with_reducible refine ab1 ak ?_;rw[ag])|with_reducible refine Looks.at KR ?_|wp_step))
 refine MC dU en ak ag ?_
 repeat (any_goals (first|assumption|wp_step))
def Mz(X:K.In h)(J:findIn K (.ref C) "__class__"=some (some (.builtin "object.__class__")))(h2:findIn K (.ref C) "__getattribute__"=some (some (.builtin "BaseException.__getattribute__")))(h3:findIn K (.ref C) "__getattr__"=some none)(dU:h.get? C=some (excClassObj nm q C N bs bm hdct sn sub ab col dd k0 k1 k2 k3 k5 newId))(en:bm.contains (.type "object")=true)(d3:bm.contains (.type "BaseException")=true)(ak:h.get? a=some o)(ag:o.cls=.ref C)(aE:Q (.ref C) ⟨h,g,d,t,os⟩):wpAny (model prog w) A (getAttrBy (.ref a) (.str "__class__" tk) false) Q E ⟨h,g,d,t,os⟩:=by
 have e9:=F.excAttr_ValueError.ga.bind (.ref a);have tj:(Value.builtin "BaseException.__getattribute__"==Value.builtin "object.__getattribute__")=false:=by decide +kernel
 have vY:(onTheHeap (Value.ref C)&&Value.builtin "BaseException.__getattribute__"==Value.builtin "object.__getattribute__")=false:=by rw[tj];rfl
 have bu:=looks_findIn (M:=model prog w) X h2;have KS:=looks_findIn (M:=model prog w) X h3
 repeat (any_goals (first|assumption|(with_reducible refine ab1 ak ?_;rw[ag])|with_reducible refine Looks.at bu ?_|with_reducible refine Looks.at KS ?_|wp_step))
 refine aej F.excAttr_ValueError.ga.plain F.entry_bexc_ga (MA dU d3 ak ag (MB X J dU en ak ag ?_))
 repeat (any_goals (first|assumption|wp_step))
def My(X:K.In h)(J:findIn K (.ref C) "__class__"=some (some (.builtin "object.__class__")))(h2:findIn K (.ref C) "__getattribute__"=some (some (.builtin "BaseException.__getattribute__")))(h3:findIn K (.ref C) "__getattr__"=some none)(dU:h.get? C=some (excClassObj nm q C N bs bm hdct sn sub ab col dd k0 k1 k2 k3 k5 newId))(en:bm.contains (.type "object")=true)(d3:bm.contains (.type "BaseException")=true)(ak:h.get? a=some o)(ag:o.cls=.ref C)(aE:Q (some (.ref C)) ⟨h,g,d,t+1,os⟩):wpAny (model prog w) A (getAttr? (.ref a) "__class__") Q E ⟨h,g,d,t,os⟩:=by
 unfold getAttr? getAttrBy?
 repeat (any_goals (first|assumption|with_reducible apply Mz X J h2 h3 dU en d3 ak ag|wp_step))
structure Plain(K:Frag)(C:Addr)(bm:List Value):Prop where
 a1:findIn K (.ref C) "__class__"=some (some (.builtin "object.__class__"))
 a2:findIn K (.ref C) "__getattribute__"=some (some (.builtin "BaseException.__getattribute__"))
 a3:findIn K (.ref C) "__getattr__"=some none
 en:bm.contains (.type "object")=true
 d3:bm.contains (.type "BaseException")=true
def TQ(X:K.In h)(P:Plain K C bm)(dU:h.get? C=some (excClassObj nm q C N bs bm hdct sn sub ab col dd k0 k1 k2 k3 k5 newId))(ak:h.get? a=some o)(ag:o.cls=.ref C)(jZ:∀{fC:Around}{dO:Value->Shared->Prop}{fP},dO (.type "type") ⟨h,g,d,t,os⟩->wpAny (model prog w) fC (typeOf c) dO fP ⟨h,g,d,t,os⟩)(Ap:∀{fC:Around}{dO:Bool->Shared->Prop}{fP},dO true ⟨h,g,d,t,os⟩->wpAny (model prog w) fC (isType c) dO fP ⟨h,g,d,t,os⟩)(hm:(Value.ref C::bm).contains c=false)(aE:Q (.done (.ret (.bool false))) ⟨h,g,d,t+1,os⟩):wpAny (model prog w) A (Builtin.«isinstance.nested» ⟨[.ref a,c,.int dep tk],[]⟩) Q E ⟨h,g,d,t,os⟩:=by
 have rJ:∀{fC:Around}{dO:Value->Shared->Prop}{fP},dO (.ref C) ⟨h,g,d,t,os⟩->wpAny (model prog w) fC (typeOf (.ref a)) dO fP ⟨h,g,d,t,os⟩:=λ{fC dO fP} z=>by
  unfold typeOf
  repeat (first|(with_reducible refine ab1 ak ?_;rw[ag])|wp_step)
  exact z
 have he:¬(Value.ref C==c)=true:=λz=>by
  rw[adh]at hm;have:=abG.mp z;subst this;simp at hm
 unfold Builtin.«isinstance.nested»;refine aa5 (rJ ?_);rw[if_neg he];refine aa5 (jZ ?_);rw[if_pos ∅]
 k_delta "plainIsInstance"
 refine aa5 (aa5 (Ap ?_));simp only[acw,aba,abw];refine aa5 ?_;unfold isInstance;refine aa5 (rJ ?_);refine acz dU ?_;rw[hm];simp only[aba,abw];refine aa5 (My X P.a1 P.a2 P.a3 dU P.en P.d3 ak ag ?_);refine aa5 ?_;unfold isType loadHead;refine aa5 (wpAny_loadPart dU (aa7 ?_));simp only[excClassObj,acw,aba,abw];refine aa5 (ad7 ?_);refine acz dU ?_;rw[hm]
 first
  |exact aa7 aE
  |exact aa7 (aa7 aE)
  |exact aa5 (aa7 (aa7 aE))
def R8(X:K.In s.heap)(P:Plain K C bm)(ak:s.heap.get? x=some hT)(dB:hT.cls=.ref C)(dU:s.heap.get? C=some (excClassObj nm q C N bs bm hdct sn sub ab col dd k0 k1 k2 k3 k5 newId))(eG:s.heap.get? D=some ma)(zY:ma.cls=.type "type")(zZ:∃cd,ma.data=.cls cd)(hm:(Value.ref C::bm).contains (.ref D)=false)(h:Q (.bool false) { s with toks:=s.toks+1 }):wpAny (model prog w) A (call (.builtin "isinstance") [.ref x,.ref D]) Q E s:=by
 refine aeX (S:=λ_ R s=>(K.In s.heap/\s.heap.get? x=some hT/\s.heap.get? C=some (excClassObj nm q C N bs bm hdct sn sub ab col dd k0 k1 k2 k3 k5 newId)/\s.heap.get? D=some ma)/\R (.ok (.ret (.bool false))) { s with toks:=s.toks+1 })
  (λ_ _ _ _ s' ae=>aeL ?_ (by intro q;cases q)) ⟨⟨X,ak,dU,eG⟩,h⟩
 obtain⟨h0,g,d,tt,os⟩:=s';refine TQ ae.1.1 P ae.1.2.2.1 ae.1.2.1 dB (λ{fC dO fP} z=>?_) (λ{fC dO fP} z=>?_) hm ae.2
 .have eG:=ae.1.2.2.2;unfold typeOf
  repeat (first|(with_reducible refine ab1 eG ?_;rw[zY])|wp_step)
  exact z
 .have eG:=ae.1.2.2.2;obtain⟨fS,bb,Ub,fT⟩:=ma;obtain⟨cd,rfl⟩:=zZ;unfold isType loadHead;exact aa5 (wpAny_loadPart eG (aa7 z))
end
end ek
end
section
namespace ek
open PySem
def Oj:entryFor table "proto.unchain"=some Builtin.«proto.unchain»:=entryFor_of_tree (by kernel_rfl)
section
def Og(bZ:A.handled=some (.ref x))(ak:s.heap.get? x=some hT)(AL:hT.data=.fields af)(tj:af[2]?=some .none)(tl:x≠nF)(hit:s.heap.IsListIter nF l i)(ax:s.heap.IsList l items)(az:items[i]?=none)(dh:∀h',(∀b o,b≠nF->s.heap.get? b=some o->h'.get? b=some o)->Q none { s with heap:=h' }):wpAny (model prog w) A (pyNext (.ref nF)) Q E s:=by
 obtain⟨o,fB,mm,hu⟩:=id hit;obtain⟨mc,v1,_,aaZ,v2⟩:=ax;unfold pyNext;refine aa5 (adD (acb (name:=Str.ofString "__next__") hit.typeIs slot_listiter_next (ab5 slot_listiter_next hit.typeIs entry_listiter_next ?_ (args_listiter_next _))));show wpAny _ _ (field (.ref nF) 0>>=_) _ _ s;refine aa5 (acC fB hu (x:=.ref l) rfl ?_);show wpAny _ _ (if (Value.ref l==Value.none)=true then _ else _) _ _ s;rw[if_neg (show ¬((Value.ref l==Value.none)=true) by simp)];refine aa5 (acC fB hu (x:=.int i 0) rfl (aa5 (wpAny_seqItems v1 v2 ?_)));simp only[Int.toNat_natCast,az];refine aa5 (ad7 (aa5 (ack fB hu (by simp) (aa5 ?_))));simp only[newExc,newTuple];refine aa5 (abE (aa5 (m:=firstArgMember _ _) (aeZ (a:=Value.none) (by first|rfl|(simp only[firstArgMember];rfl)) (abE ?_ (by size_fits)))) (by size_fits));simp only[raiseNew];refine aa5 (wpAny_handled ?_);rw[show A.in1.handled=some (.ref x) from bZ];have aaJ:x<s.heap.objs.size:=abd ak;generalize bc:s.heap.update nF (Obj.mapFields λx=>x.setIfInBounds 0 Value.none)=h0;have lp:h0.objs.size=s.heap.objs.size:=by rw[<- bc];exact(abZ ..).1
 have k0:∀b o,b≠nF->s.heap.get? b=some o->h0.get? b=some o:=λb o nb q=>by rw[<- bc];exact(abu _ _ (abW nb)).trans q
 generalize au:h0.push { cls:=Value.type "tuple",data:=Data.seq #[] }=J;have k1:∀b o,b≠nF->s.heap.get? b=some o->J.get? b=some o:=λb o nb q=>by rw[<- au];exact aa8 _ (k0 b o nb q)
 have br:x≠J.objs.size:=abp (abd (k1 x hT tl ak));dsimp only;rw[if_pos (show(Value.ref x != Value.ref J.objs.size)=true by simp[br])];refine aa5 (acf (adT (ab4 Oj ?_)));show wpAny _ _ (field (.ref x) 2>>=_) _ _ _;refine aa5 (acC (aa8 _ (k1 x hT tl ak)) AL tj ?_);rw[if_pos ∅];refine aa7 ?_;show wpAny _ _ (updateField J.objs.size 2 (.ref x)>>=_) _ _ _;refine aa5 (ack (a:=J.objs.size) (i:=2) (x:=.ref x) (abf J rfl) rfl (by simp;lia) (wpAny_throw ?_));refine aa5 (ad8 (T:="StopIteration") (b:=true) ⟨_,abA _ (abf J rfl) rfl,rfl⟩ isSubtype_stop ?_);refine aa7 (dh _ λb o nb q=>?_);have:=k1 b o nb q;rw[abu _ _ (abW (abp (abd this)))];exact aa8 _ this
def Zr(bZ:A.handled=some (.ref x))(AL:hT.data=.fields af)(tj:af[2]?=some .none)(I rW)(dJ:rW≠I)(tl:x≠I)(items):
  Walks prog w A I [I,rW,x] [I] items.size (λi v=>items[i]?=some v) (λi h=>(h.IsListIter I rW i/\h.IsList rW items)/\h.get? x=some hT) where
 sub:=λc ag=>by simp at ag;simp[ag]
 frame:=λ_ _ _ st aw=>⟨⟨st.1.1.at λo e=>aw I (by simp) o e,st.1.2.at λo e=>aw rW (by simp) o e⟩,aw x (by simp) _ st.2⟩
 item:=λi s Q E ai st dh=>wpAny_pyNext_list_item st.1.1 st.1.2 (x:=items[i]) (by simp[ai]) λh' a b =>
  dh _ h' s.toks (by simp[ai]) ⟨⟨a,st.1.2.extBut b.extBut dJ⟩,b.extBut x _ tl st.2⟩ λc o ag e=>b.extBut c o (λh=>ag (by simp[h])) e
 done:=λs Q E st dh=>Og bZ st.2 AL tj tl st.1.1 st.1.2 (by simp) λh' q=>dh h' s.toks λb o aa e=>q b o (λh=>aa (by simp[h])) e
 self:=λ_ _ _ _ st dh=>wpAny_pyIter_listiter st.1.1 dh
end
end ek
end
section
namespace bB
open PySem PySem.Spec PyProof.Rows bu
noncomputable abbrev D:=Den.D
noncomputable abbrev bx:=Den.bx
noncomputable abbrev cn:=Den.R
noncomputable abbrev de:=List (Option V)
def cq{α:Type}(r:cn α)(Q:α->Prop)(E:Nat->Prop):Prop:=match r with
 |.ok a=>Q a
 |.exc c=>E c
 |.bad=>False
def bS{α β:Type}{r:cn α}{f:α->cn β}{Q:β->Prop}:cq (r>>=f) Q E<->cq r (λa=>cq (f a) Q E) E:=by
 cases r<;>exact Iff.rfl
def cz{α:Type}{r:cn α}{Q dO:α->Prop}(h:cq r Q E)(aE:∀a,Q a->dO a)(he:∀c,E c->fP c):cq r dO fP:=by
 cases r with
 |ok a=>exact aE a h
 |exc c=>exact he c h
 |bad=>exact h
noncomputable def hk(ah:List (List Int×Int)):List (List Key×V):=ah.map λp=>(p.1.map Sum.inl,V.int p.2)
noncomputable def eu(G:aB):List (Int×Int×Int)->List (Key×V)->Prop
 |[],ys=>ys=[]
 |p::aJ,ys=>∃b r,ys=(Sum.inl p.1,.ref b)::r/\G b=some (.tup [.int p.2.1,.int p.2.2])/\eu G aJ r
theorem eu.mono(s:bw G aL):∀{aJ:List (Int×Int×Int)}{ys:List (Key×V)},eu G aJ ys->eu aL aJ ys
 |[],_,h=>h
 |p::aJ,_,⟨b,r,e,J,h2⟩=>⟨b,r,e,s _ _ J,h2.mono s⟩
noncomputable def iO(G:aB):List (List Int)->List V->Prop
 |[],xs=>xs=[]
 |c::cs,xs=>∃b r,xs=.ref b::r/\G b=some (.tup (c.map V.int))/\iO G cs r
theorem iO.mono(s:bw G aL):∀{cs:List (List Int)}{xs:List V},iO G cs xs->iO aL cs xs
 |[],_,h=>h
 |c::cs,_,⟨b,r,e,J,h2⟩=>⟨b,r,e,s _ _ J,h2.mono s⟩
noncomputable def et(G:aB):List (List Int×List (List Int))->List (List Key×V)->Prop
 |[],ys=>ys=[]
 |p::aJ,ys=>∃b xs r,ys=(p.1.map Sum.inl,.ref b)::r/\G b=some (.tup xs)/\iO G p.2 xs/\et G aJ r
theorem et.mono(s:bw G aL):∀{aJ:List (List Int×List (List Int))}{ys:List (List Key×V)},et G aJ ys->et aL aJ ys
 |[],_,h=>h
 |p::aJ,_,⟨b,xs,r,e,J,h2,h3⟩=>⟨b,xs,r,e,s _ _ J,h2.mono s,h3.mono s⟩
mutual
noncomputable def Rep (K:W.Frag) (G:aB):D->V->Prop
 |.dT,v=>v=.dT
 |.aP b,v=>v=.aP b
 |.int i,v=>v=.int i
 |.str x,v=>v=.str x
 |.tup ds,v=>∃a xs,v=.ref a/\G a=some (.tup xs)/\bA K G ds xs
 |.lst ds,v=>∃a xs,v=.ref a/\d1 K G a xs/\bA K G ds xs
 |.bY ah,v=>∃a bb,v=.ref a/\G a=some (.dk bb (.da (hk ah)))
 |.bH ah,v=>∃a bb ys,v=.ref a/\G a=some (.dk bb (.dQ ys))/\eu G ah ys
 |.cN ah,v=>∃a bb ys,v=.ref a/\G a=some (.dk bb (.da ys))/\et G ah ys
 |.hJ _,_=>False
noncomputable def bA (K:W.Frag) (G:aB):List D->List V->Prop
 |[],xs=>xs=[]
 |d::ds,xs=>∃v r,xs=v::r/\Rep K G d v/\bA K G ds r
end
section
variable{K:W.Frag}{G aL H ao:aB}
def Jv(s:bw G aL)(h:fq K G a xs):fq K aL a xs:=by
 rcases h with(h|⟨o,h⟩)|h
 .exact .inl (.inl (s _ _ h))
 .exact .inl (.inr ⟨o,s _ _ h⟩)
 .exact .inr h
def iJ(s:bw G aL)(h:G a=some (.tup xs)):fq K aL a xs:=.inl (.inl (s _ _ h))
def k7(s:bw G aL)(h:d1 K G a xs):d1 K aL a xs:=by
 rcases h with(h|⟨o,h⟩)|h
 .exact .inl (.inl (s _ _ h))
 .exact .inl (.inr ⟨o,s _ _ h⟩)
 .exact .inr h
def BP(s:bw G aL)(h:gW G a u):gW aL a u:=by
 rcases h with h|⟨o,h⟩
 .exact .inl (s _ _ h)
 .exact .inr ⟨o,s _ _ h⟩
mutual
theorem Rep.mono (s:bw G aL):∀{d:D}{v:V},Rep K G d v->Rep K aL d v
 |.dT,_,h=>h
 |.aP _,_,h=>h
 |.int _,_,h=>h
 |.str _,_,h=>h
 |.tup ds,_,⟨a,xs,e,h,r⟩=>⟨a,xs,e,s _ _ h,bA.mono s r⟩
 |.lst ds,_,⟨a,xs,e,h,r⟩=>⟨a,xs,e,k7 s h,bA.mono s r⟩
 |.bY _,_,⟨a,bb,e,h⟩=>⟨a,bb,e,s _ _ h⟩
 |.bH _,_,⟨a,bb,ys,e,h,r⟩=>⟨a,bb,ys,e,s _ _ h,r.mono s⟩
 |.cN _,_,⟨a,bb,ys,e,h,r⟩=>⟨a,bb,ys,e,s _ _ h,r.mono s⟩
 |.hJ _,_,h=>h
theorem bA.mono (s:bw G aL):∀{ds:List D}{xs:List V},bA K G ds xs->bA K aL ds xs
 |[],_,h=>h
 |d::ds,_,⟨v,r,e,J,h2⟩=>⟨v,r,e,Rep.mono s J,bA.mono s h2⟩
end
theorem bA.length:∀{ds:List D}{xs:List V},bA K G ds xs->ds.length=xs.length
 |[],_,h=>by cases h;rfl
 |d::ds,_,⟨v,r,e,J,h2⟩=>by subst e;simp[bA.length h2]
theorem bA.append:∀{ds aj:List D}{xs ys:List V},bA K G ds xs->bA K G aj ys->bA K G (ds++aj) (xs++ys)
 |[],_,_,_,h,q=>by cases h;exact q
 |d::ds,_,_,_,⟨v,r,e,J,h2⟩,q=>by subst e;exact⟨v,r++_,rfl,J,bA.append h2 q⟩
theorem bA.get:∀{ds:List D}{xs:List V}{i:Nat}{d:D},bA K G ds xs->ds[i]?=some d->∃v,xs[i]?=some v/\Rep K G d v
 |[],_,_,_,h,e=>by simp at e
 |d::ds,_,0,_,⟨v,r,e,J,h2⟩,q=>by subst e;simp at q;subst q;exact⟨v,rfl,J⟩
 |d::ds,_,i+1,_,⟨v,r,e,J,h2⟩,q=>by subst e;simpa using bA.get h2 (by simpa using q)
theorem bA.drop:∀{ds:List D}{xs:List V}(n:Nat),bA K G ds xs->bA K G (ds.drop n) (xs.drop n)
 |_,_,0,h=>by simpa using h
 |[],_,n+1,h=>by cases h;simp[bA]
 |d::ds,_,n+1,⟨v,r,e,J,h2⟩=>by subst e;simpa using bA.drop n h2
theorem bA.take:∀{ds:List D}{xs:List V}(n:Nat),bA K G ds xs->bA K G (ds.take n) (xs.take n)
 |_,_,0,h=>by simp[bA]
 |[],_,n+1,h=>by cases h;simp[bA]
 |d::ds,_,n+1,⟨v,r,e,J,h2⟩=>by subst e;exact⟨v,r.take n,by simp,J,bA.take n h2⟩
def bA.snoc(h:bA K G ds xs)(q:Rep K G d v):bA K G (ds++[d]) (xs++[v]):=h.append ⟨v,[],rfl,q,rfl⟩
noncomputable def View(K:W.Frag)(G H:aB):D->V->Prop
 |.bY ah,v=>∃a,v=.ref a/\gW H a (.da (hk ah))
 |.bH ah,v=>∃a ys,v=.ref a/\gW H a (.dQ ys)/\eu G ah ys
 |.cN ah,v=>∃a ys,v=.ref a/\gW H a (.da ys)/\et G ah ys
 |.lst ds,v=>∃a xs,v=.ref a/\d1 K H a xs/\bA K G ds xs
 |d,v=>Rep K G d v
def Rep.view(s:bw G H):∀{d:D}{v:V},Rep K G d v->View K G H d v
 |.lst ds,_,⟨a,xs,e,h,r⟩=>⟨a,xs,e,k7 s h,r⟩
 |.dT,_,h=>h
 |.aP _,_,h=>h
 |.int _,_,h=>h
 |.str _,_,h=>h
 |.tup _,_,h=>h
 |.bY _,_,⟨a,bb,e,h⟩=>⟨a,e,.inr ⟨bb,s _ _ h⟩⟩
 |.bH _,_,⟨a,bb,ys,e,h,r⟩=>⟨a,ys,e,.inr ⟨bb,s _ _ h⟩,r⟩
 |.cN _,_,⟨a,bb,ys,e,h,r⟩=>⟨a,ys,e,.inr ⟨bb,s _ _ h⟩,r⟩
 |.hJ _,_,h=>h
structure Ext(G H aL ao:aB):Prop where
 g:bw G aL
 h:bw H ao
 sub:bw aL ao
 new:∀a,G a=none->H a≠none->aL a=none
 dw:∀b xs,ao b=some (.tup xs)->H b=some (.tup xs)\/aL b=some (.tup xs)
theorem Ext.refl(s:bw G H):Ext G H G H:=⟨bw.refl G,bw.refl H,s,λ_ h _=>h,λ_ _ h=>.inl h⟩
theorem Ext.trans(x:Ext G H aK H1)(y:Ext aK H1 aL ao):Ext G H aL ao :=
 ⟨x.g.trans y.g,x.h.trans y.h,y.sub,λa J h2=>y.new a (x.new a J h2) (λz=>by
  cases q:H a with
  |none=>exact h2 q
  |some o=>rw[x.h a o q]at z;cases z),λb xs z=>(y.dw b xs z).elim (λz=>(x.dw b xs z).imp id λz=>y.g _ _ z) .inr⟩
def fU(h:H a=none):bw H (upd H a o):=λb u e=>by rw[cG (nN e h)];exact e
def View.ext(x:Ext G H aK H1):∀{d:D}{v:V},View K G H d v->View K aK H1 d v
 |.lst ds,_,⟨a,xs,e,h,r⟩=>⟨a,xs,e,k7 x.h h,r.mono x.g⟩
 |.dT,_,h=>h
 |.aP _,_,h=>h
 |.int _,_,h=>h
 |.str _,_,h=>h
 |.tup _,_,h=>Rep.mono (K:=K) x.g h
 |.bY _,_,⟨a,e,h⟩=>⟨a,e,BP x.h h⟩
 |.bH _,_,⟨a,ys,e,h,r⟩=>⟨a,ys,e,BP x.h h,r.mono x.g⟩
 |.cN _,_,⟨a,ys,e,h,r⟩=>⟨a,ys,e,BP x.h h,r.mono x.g⟩
 |.hJ _,_,h=>h
def Ext.own(s:bw G H)(h:H a=none)(av:∀xs,o≠.tup xs):Ext G H G (upd H a o):=⟨bw.refl G,fU h,s.trans (fU h),λ_ J _=>J,λb xs e=>by
 by_cases q:b=a
 .subst q;rw[dm]at e;cases e;exact absurd rfl (av xs)
 .rw[cG q]at e;exact .inl e⟩
def Ext.put(s:bw G H)(h:H a=none):Ext G H (upd G a o) (upd H a o):=by
 have kC:G a=none:=s.free h;refine⟨fU kC,fU h,λb u e=>?_,λb J h2=>?_,λb xs e=>?_⟩
 .by_cases q:b=a
  .subst q;rw[dm]at e ⊢;exact e
  .rw[cG q]at e ⊢;exact s b u e
 .rw[cG (λq=>h2 (by rw[q];exact h))];exact J
 .by_cases q:b=a
  .subst q;rw[dm]at e ⊢;exact .inr e
  .rw[cG q]at e;exact .inl e
end
inductive fp where
 |view|val|fresh
noncomputable def cI(K:W.Frag)(H aL ao:aB):fp->D->V->Prop
 |.view,d,v=>View K aL ao d v
 |.val,d,v=>Rep K aL d v
 |.fresh,.lst ds,v=>∃a xs,v=.ref a/\ao a=some (.lst xs)/\H a=none/\aL a=none/\bA K aL ds xs
 |.fresh,.bY _,_=>False
 |.fresh,.bH _,_=>False
 |.fresh,.cN _,_=>False
 |.fresh,d,v=>Rep K aL d v
noncomputable def g4:D->Bool
 |.lst _=>true
 |.bY _=>true
 |.bH _=>true
 |.cN _=>true
 |_=>false
noncomputable def jO(K:W.Frag)(G:aB):D->eW->Prop
 |.lst ds,o=>∃xs,o=.lst xs/\bA K G ds xs
 |.bY ah,o=>o=.da (hk ah)
 |.bH ah,o=>∃ys,o=.dQ ys/\eu G ah ys
 |.cN ah,o=>∃ys,o=.da ys/\et G ah ys
 |_,_=>False
theorem jO.mono{K:W.Frag}(s:bw G aL):∀{d:D}{o:eW},jO K G d o->jO K aL d o
 |.lst _,_,⟨xs,e,r⟩=>⟨xs,e,r.mono s⟩
 |.bY _,_,h=>h
 |.bH _,_,⟨ys,e,r⟩=>⟨ys,e,r.mono s⟩
 |.cN _,_,⟨ys,e,r⟩=>⟨ys,e,r.mono s⟩
 |.dT,_,h=>h
 |.aP _,_,h=>h
 |.int _,_,h=>h
 |.str _,_,h=>h
 |.tup _,_,h=>h
 |.hJ _,_,h=>h
structure ej(K:W.Frag)(mu:List Nat)(G H:aB)(ρ:bx)(σ:de):Prop where
 len:ρ.length=σ.length
 sub:bw G H
 val:∀(i:Nat)(d:D),ρ[i]?=some (some d)->i∉mu->∃v,σ[i]?=some (some v)/\Rep K G d v
 own:∀(i:Nat)(d:D),ρ[i]?=some (some d)->i∈mu->g4 d=false->∃v,σ[i]?=some (some v)/\Rep K G d v
 lst:∀(i:Nat)(d:D),ρ[i]?=some (some d)->i∈mu->g4 d=true->∃a o,σ[i]?=some (some (V.ref a))/\H a=some o/\G a=none/\jO K G d o
 dw:∀b xs,H b=some (.tup xs)->G b=some (.tup xs)
 apart:∀(i j:Nat)(d e:D)(a b:Addr),ρ[i]?=some (some d)->ρ[j]?=some (some e)->g4 d=true->g4 e=true->i∈mu->j∈mu->i≠j->σ[i]?=some (some (V.ref a))->σ[j]?=some (some (V.ref b))->a≠b
def ej.ext{K:W.Frag}(h:ej K mu G H ρ σ)(x:Ext G H aL ao):ej K mu aL ao ρ σ where
 len:=h.len
 sub:=x.sub
 val:=λi d e hm=>let ⟨v,a,b⟩:=h.val i d e hm;⟨v,a,b.mono x.g⟩
 own:=λi d e hm ax=>let ⟨v,a,b⟩:=h.own i d e hm ax;⟨v,a,b.mono x.g⟩
 lst:=λi d e hm ax=>let ⟨a,o,J,h2,h3,h4⟩:=h.lst i d e hm ax;⟨a,o,J,x.h _ _ h2,x.new a h3 (by rw[h2];exact λz=>nomatch z),h4.mono x.g⟩
 dw:=λb xs z=>(x.dw b xs z).elim (λz=>x.g _ _ (h.dw b xs z)) id
 apart:=h.apart
theorem ej.view{K:W.Frag}(h:ej K mu G H ρ σ){i:Nat}{d:D}(e:ρ[i]?=some (some d)):∃v,σ[i]?=some (some v)/\View K G H d v:=by
 by_cases hm:i∈mu
 .cases hd:g4 d with
  |false=>obtain⟨v,J,h2⟩:=h.own i _ e hm hd;exact⟨v,J,h2.view h.sub⟩
  |true =>
   obtain⟨a,o,J,h2,h3,h4⟩:=h.lst i d e hm hd;cases d with
   |lst ds=>obtain⟨xs,rfl,r⟩:=h4;exact⟨_,J,a,xs,rfl,.inl (.inl h2),r⟩
   |bY ah=>cases h4;exact⟨_,J,a,rfl,.inl h2⟩
   |bH ah=>obtain⟨ys,rfl,r⟩:=h4;exact⟨_,J,a,ys,rfl,.inl h2,r⟩
   |cN ah=>obtain⟨ys,rfl,r⟩:=h4;exact⟨_,J,a,ys,rfl,.inl h2,r⟩
   |_=>cases hd
 .obtain⟨v,J,h2⟩:=h.val i d e hm;exact⟨v,J,h2.view h.sub⟩
noncomputable abbrev dq:=Nat->Value->List Addr->Heap->Prop
def hA(X:aU)(pins:List (Addr×Obj))(H:aB)(a:Addr):Prop :=
 H a=none/\(a∈X.ex\/X.eL.heap.get? a=none)/\a≠X.env.locals/\(∀x c,X.env.cells.lookup x=some c->c≠a)/\∀p∈X.cf++pins,p.1≠a
def hA.of{σ:de}(I:Inv X pins σ H s)(h:s.heap.get? a=none)(h':ao a=none):hA X pins ao a:=by
 have no:∀{b:Addr}{o:Obj},s.heap.get? b=some o->b≠a:=λq z=>by rw[z,h]at q;cases q
 refine⟨h',?_,λz=>?_,λx c q=>?_,λp q=>no (I.pin p q).1⟩
 .by_cases ak:a∈X.ex
  .exact .inl ak
  .refine .inr ?_;cases q:X.eL.heap.get? a with
   |none=>rfl
   |some o=>obtain⟨bJ,e⟩:=I.base.there a o q ak;rw[h]at e;cases e
 .obtain⟨m,⟨o,_,_,av,_⟩,_⟩:=I.loc;exact no av z.symm
 .obtain⟨v,o,av,_⟩:=I.cell x c q;exact no av
def eY(xp:dq)(X:aU)(c:Nat)(H:aB):Prop:=∀(pins:List (Addr×Obj))(σ:de)(ao:aB)(s':Shared)(e:Value)(l:List Addr),Inv X pins σ ao s'->bw H ao->(∀a∈l,hA X pins ao a)->xp c e l s'.heap->X.b9 e s'
def eY.mono(h:eY xp X c H)(s:bw H ao):eY xp X c ao:=λpins σ aR s' e l I q n x=>h pins σ aR s' e l I (s.trans q) n x
noncomputable def bG(xp:dq)(X:aU)(mu:List Nat)(m:fp)(f:bx->cn D):TE:=λσ H Q =>
 ∃G ρ,ej X.K mu G H ρ σ/\cq (f ρ) (λd=>∀v aL ao,Ext G H aL ao->cI X.K H aL ao m d v->Q v ao) (λc=>eY xp X c H)
theorem cI.view{K:W.Frag}(s:bw aL ao):∀{m:fp}{d:D}{v:V},cI K H aL ao m d v->View K aL ao d v
 |.view,_,_,h=>h
 |.val,_,_,h=>Rep.view s h
 |.fresh,.lst ds,_,⟨a,xs,e,J,_,_,r⟩=>⟨a,xs,e,.inl (.inl J),r⟩
 |.fresh,.dT,_,h=>h
 |.fresh,.aP _,_,h=>h
 |.fresh,.int _,_,h=>h
 |.fresh,.str _,_,h=>h
 |.fresh,.tup _,_,h=>h
 |.fresh,.bY _,_,h=>h.elim
 |.fresh,.bH _,_,h=>h.elim
 |.fresh,.cN _,_,h=>h.elim
 |.fresh,.hJ _,_,h=>h
theorem aO.val(h:aO X e (bG xp X mu .fresh f)):aO X e (bG xp X mu .val f):=by
 intro pins s σ H Q I ⟨G,ρ,ae,hw⟩;refine h pins s σ H Q I ⟨G,ρ,ae,cz hw (λd k v aL ao x r=>?_) λ_ q=>q⟩;cases d with
 |lst ds =>
  obtain⟨a,xs,rfl,J,h2,h3,h4⟩:=r;refine k _ (upd aL a (.lst xs)) ao ⟨x.g.trans (fU h3),x.h,λb o q=>?_,λb aM a7=>?_,λb xs q=>(x.dw b xs q).imp id λz=>fU h3 _ _ z⟩ ⟨a,xs,rfl,.inl (.inl dm),h4.mono (fU h3)⟩
  .by_cases aa:b=a
   .subst aa;rw[dm]at q;rw[J];exact q
   .rw[cG aa]at q;exact x.sub b o q
  .rw[cG (λz=>a7 (by rw[z];exact h2))];exact x.new b aM a7
 |bY _=>exact r.elim
 |bH _=>exact r.elim
 |cN _=>exact r.elim
 |_=>exact k v aL ao x r
theorem aO.view(h:aO X e (bG xp X mu m f)):aO X e (bG xp X mu .view f):=by
 intro pins s σ H Q I ⟨G,ρ,ae,hw⟩;exact h pins s σ H Q I ⟨G,ρ,ae,cz hw (λd k v aL ao x r=>k v aL ao x (r.view x.sub)) λ_ q=>q⟩
section
def I4(aG:X.N[i]?=some x)(aI:e6 X.env.scope x)(J:(x==("__debug__":Str))=false)(h2:(x==("__classdict__":Str))=false):aO X (.Name x p) (bG xp X mu .view λρ=>Den.ev pg Φ ρ (.var i)):=by
 intro pins s σ H Q I ⟨G,ρ,ae,hw⟩;dsimp only at hw;cases e:ρ[i]? with
 |none=>rw[Den.vp,e]at hw;exact hw.elim
 |some o =>
  cases o with
  |none=>rw[Den.vp,e]at hw;exact hw.elim
  |some d =>
   rw[Den.vq i e]at hw;obtain⟨v,a,b⟩:=ae.view e;exact gg aG aI J h2 pins s σ H Q I ⟨v,a,hw v G H (Ext.refl ae.sub) b⟩
def W6(hm:i∉mu)(aG:X.N[i]?=some x)(aI:e6 X.env.scope x)(J:(x==("__debug__":Str))=false)(h2:(x==("__classdict__":Str))=false):aO X (.Name x p) (bG xp X mu .val λρ=>Den.ev pg Φ ρ (.var i)):=by
 intro pins s σ H Q I ⟨G,ρ,ae,hw⟩;dsimp only at hw;cases e:ρ[i]? with
 |none=>rw[Den.vp,e]at hw;exact hw.elim
 |some o =>
  cases o with
  |none=>rw[Den.vp,e]at hw;exact hw.elim
  |some d =>
   rw[Den.vq i e]at hw;obtain⟨v,a,b⟩:=ae.val i d e hm;exact gg aG aI J h2 pins s σ H Q I ⟨v,a,hw v G H (Ext.refl ae.sub) b⟩
def IZ{d:D}(h:Den.litOk d c=true):aO X (.Constant c j p) (bG xp X mu m λρ=>Den.ev pg Φ ρ (.lit d)):=by
 intro pins s σ H Q I ⟨G,ρ,ae,hw⟩;dsimp only at hw;rw[Den.EG]at hw;have fin:∀v,cI X.K H G H m d v->Q v H:=λv r=>hw v G H (Ext.refl ae.sub) r
 cases d with
 |dT=>cases c<;>simp[Den.litOk]at h;exact UQ pins s σ H Q I (fin _ (by cases m<;>rfl))
 |aP b =>
  cases c<;>simp[Den.litOk]at h;subst h;exact UG pins s σ H Q I (fin _ (by cases m<;>rfl))
 |int i =>
  cases c<;>simp[Den.litOk]at h;subst h;exact HS pins s σ H Q I (fin _ (by cases m<;>rfl))
 |str x =>
  cases c<;>simp[Den.litOk]at h;subst h;exact BC pins s σ H Q I (fin _ (by cases m<;>rfl))
 |_=>cases c<;>simp[Den.litOk]at h
noncomputable def mf(K:W.Frag)(g:D->D->cn D):hh:=λx y H Q=>∃G bk dj,bw G H/\View K G H bk x/\View K G H dj y/\cq (g bk dj) (λd=>∀v aL ao,Ext G H aL ao->cI K H aL ao .fresh d v->Q v ao) (λ_=>False)
def cI.old{K:W.Frag}(s:bw H H1):∀{m:fp}{d:D}{v:V},cI K H1 aL ao m d v->cI K H aL ao m d v
 |.view,_,_,h=>h
 |.val,_,_,h=>h
 |.fresh,.lst ds,_,⟨a,xs,e,J,h2,h3,r⟩=>⟨a,xs,e,J,s.free h2,h3,r⟩
 |.fresh,.dT,_,h=>h
 |.fresh,.aP _,_,h=>h
 |.fresh,.int _,_,h=>h
 |.fresh,.str _,_,h=>h
 |.fresh,.tup _,_,h=>h
 |.fresh,.bY _,_,h=>h
 |.fresh,.bH _,_,h=>h
 |.fresh,.cN _,_,h=>h
 |.fresh,.hJ _,_,h=>h
def Wn(aQ:∀x y c,g x y≠.exc c)(av:d0 X (binaryOp op) (mf X.K g))(aA:aO X a (bG xp X mu .view bC))(aa:aO X b (bG xp X mu .view dR)):
  aO X (.BinOp a op b pos) (bG xp X mu .fresh λρ=>bC ρ>>=λx=>dR ρ>>=λy=>g x y):=by
 intro pins s σ H Q I ⟨G,ρ,ae,hw⟩;refine HX av aA aa pins s σ H Q I ?_;refine⟨G,ρ,ae,cz (bS.mp hw) (λbk k v aK H1 aT aH=>?_) λ_ q=>q⟩;refine⟨aK,ρ,ae.ext aT,cz (bS.mp k) (λdj k2 v2 cM aR cg aX=>?_) λ_ q=>q.mono aT.h⟩;refine⟨cM,bk,dj,cg.sub,View.ext cg aH,aX,?_⟩;cases q:g bk dj with
 |ok d =>
  rw[q]at k2;exact λCC ob bj iN eJ=>k2 CC ob bj ((aT.trans cg).trans iN) (eJ.old (aT.h.trans cg.h))
 |exc c=>exact absurd q (aQ _ _ _)
 |bad=>rw[q]at k2;exact k2
def ni{K:W.Frag}{Q:dn}(ae:bw G H)(k:∀v aL ao,Ext G H aL ao->cI K H aL ao .fresh d v->Q v ao)(r:cI K H G H .fresh d v):Q v H:=k v G H (Ext.refl ae) r
def NP:d0 X (binaryOp .Sub) (mf X.K (Den.ec .sub)):=by
 intro pins s σ H x y v u Q I bf bL ⟨G,bk,dj,ae,b8,eh,hw⟩;cases bk<;>cases dj<;>first|exact hw.elim|skip
 exact Ut pins s σ H x y v u Q I bf bL ⟨_,_,b8,eh,ni ae hw rfl⟩
def NM:d0 X (binaryOp .Mod) (mf X.K (Den.ec .mod)):=by
 intro pins s σ H x y v u Q I bf bL ⟨G,bk,dj,ae,b8,eh,hw⟩;cases bk<;>cases dj<;>first|exact hw.elim|skip
 rename_i i j;rw[Den.mod_int]at hw
 by_cases h:0<j
 .rw[if_pos h]at hw;exact Uq pins s σ H x y v u Q I bf bL ⟨_,_,b8,eh,h,ni ae hw rfl⟩
 .rw[if_neg h]at hw;exact hw.elim
def NJ:d0 X (binaryOp .FloorDiv) (mf X.K (Den.ec .fdiv)):=by
 intro pins s σ H x y v u Q I bf bL ⟨G,bk,dj,ae,b8,eh,hw⟩;cases bk<;>cases dj<;>first|exact hw.elim|skip
 rename_i i j;rw[Den.ER]at hw
 by_cases h:0<j/\j<1073741824
 .rw[if_pos h]at hw;exact Um pins s σ H x y v u Q I bf bL ⟨_,_,b8,eh,h,ni ae hw rfl⟩
 .rw[if_neg h]at hw;exact hw.elim
end
mutual
noncomputable def toPy:D->PyData
 |.dT=>.none
 |.aP b=>.bool b
 |.int i=>.int i
 |.str x=>.str x
 |.tup xs=>.tuple (ht xs)
 |.lst xs=>.list (ht xs)
 |.bY _=>.dict []
 |.bH _=>.dict []
 |.cN _=>.dict []
 |.hJ _=>.dict []
noncomputable def ht:List D->List PyData
 |[]=>[]
 |d::ds=>toPy d::ht ds
end
mutual
theorem sz:∀a b:D,PyData.eqv (toPy a) (toPy b)=Den.fs a b
 |.dT,b=>by cases b<;>rfl
 |.aP _,b=>by cases b<;>rfl
 |.int _,b=>by cases b<;>rfl
 |.str _,b=>by cases b<;>rfl
 |.tup xs,b=>by
  cases b with
  |tup ys=>exact zz xs ys
  |_=>rfl
 |.lst xs,b=>by
  cases b with
  |lst ys=>exact zz xs ys
  |_=>rfl
 |.bY _,b=>by cases b<;>rfl
 |.bH _,b=>by cases b<;>rfl
 |.cN _,b=>by cases b<;>rfl
 |.hJ _,b=>by cases b<;>rfl
theorem zz:∀a b:List D,PyData.eqvAll (ht a) (ht b)=Den.iX a b
 |[],[]=>rfl
 |[],_::_=>rfl
 |_::_,[]=>rfl
 |x::xs,y::ys=>by simp only[ht,PyData.eqvAll,Den.iX,sz x y,zz xs ys]
end
mutual
theorem rg:∀(n:Nat)(d:D),Den.cL n d=true->(toPy d).canLay0=true/\(toPy d).depth<=n
 |n,.dT,_=>⟨rfl,abz _⟩
 |n,.aP _,_=>⟨rfl,abz _⟩
 |n,.int _,_=>⟨rfl,abz _⟩
 |0,.str x,h=>⟨h,abz _⟩
 |n+1,.str x,h=>⟨h,abz _⟩
 |0,.tup _,h=>by cases h
 |n+1,.tup xs,h=>by
  obtain⟨a,b⟩:=B7 n xs h;exact⟨a,by show PyData.depthAll (ht xs)+1<=n+1;lia⟩
 |0,.lst _,h=>by cases h
 |n+1,.lst xs,h=>by
  obtain⟨a,b⟩:=B7 n xs h;exact⟨a,by show PyData.depthAll (ht xs)+1<=n+1;lia⟩
 |0,.bY _,h=>by cases h
 |n+1,.bY _,h=>by cases h
 |0,.bH _,h=>by cases h
 |0,.cN _,h=>by cases h
 |n+1,.cN _,h=>by cases h
 |n+1,.bH _,h=>by cases h
 |0,.hJ _,h=>by cases h
 |n+1,.hJ _,h=>by cases h
theorem B7:∀(n:Nat)(ds:List D),ds.all (Den.cL n)=true->PyData.canLayAll0 (ht ds)=true/\PyData.depthAll (ht ds)<=n
 |n,[],_=>⟨rfl,abz _⟩
 |n,d::ds,h=>by
  simp only[List.all_cons,aa6]at h;obtain⟨a,b⟩:=rg n d h.1;obtain⟨p8,f7⟩:=B7 n ds h.2;refine⟨by simp only[ht,PyData.canLayAll0,a,p8,aeE],?_⟩;show max (PyData.depth (toPy d)) (PyData.depthAll (ht ds))<=n;lia
end
def xc{d:D}(h:Den.cL 60 d=true):SeqAt.shaped (toPy d)=true:=by
 obtain⟨a,b⟩:=rg 60 d h;unfold SeqAt.shaped;rw[a,Bool.true_and];exact decide_eq_true ⋯
section
variable{xp:dq}{X:aU}{mu:List Nat}{pg:Den.eX}{Φ:Den.fo}{pins:List (Addr×Obj)}{σ:de}{G H:aB}{s:Shared}
mutual
theorem Iq (I:Inv X pins σ H s) (ae:bw G H):∀(n:Nat){d:D}{v:V}{u:Value},Den.cL n d=true->Rep X.K G d v->RelV v u->∃as,Reads s.heap u (toPy d) as
 |_,.dT,_,_,_,h,r=>by cases h;cases r;exact⟨_,.none⟩
 |_,.aP b,_,_,_,h,r=>by cases h;cases r;exact⟨_,.bool b⟩
 |_,.int i,_,_,_,h,r=>by cases h;obtain⟨t,rfl⟩:=r;exact⟨_,.int i t⟩
 |_,.str x,_,_,_,h,r=>by cases h;obtain⟨t,rfl⟩:=r;exact⟨_,.str x t⟩
 |0,.tup ds,_,_,z,_,_=>by cases z
 |n+1,.tup ds,_,_,z,⟨a,xs,e,h,q⟩,r=>by
  subst e;cases r;obtain⟨its,bI,⟨o,av,ag,b7,hd⟩,_⟩:=I.tuple (iJ ae h);obtain⟨as,cy⟩:=pA I ae n z q bI;exact⟨as,.tuple av ag hd (by simpa using cy)⟩
 |0,.lst ds,_,_,z,_,_=>by cases z
 |n+1,.lst ds,_,_,z,⟨a,xs,e,h,q⟩,r=>by
  subst e;cases r;obtain⟨its,bI,⟨o,b7,av,ag,_,hd⟩,_⟩:=I.list (k7 ae h);obtain⟨as,cy⟩:=pA I ae n z q bI;exact⟨a::as,.list av ag hd (by simpa using cy)⟩
 |0,.bY _,_,_,z,_,_=>by cases z
 |n+1,.bY _,_,_,z,_,_=>by cases z
 |0,.bH _,_,_,z,_,_=>by cases z
 |0,.cN _,_,_,z,_,_=>by cases z
 |n+1,.cN _,_,_,z,_,_=>by cases z
 |n+1,.bH _,_,_,z,_,_=>by cases z
 |_,.hJ _,_,_,_,h,_=>h.elim
theorem pA (I:Inv X pins σ H s) (ae:bw G H):∀(n:Nat){ds:List D}{xs:List V}{us:List Value},ds.all (Den.cL n)=true->bA X.K G ds xs->Vals xs us->∃as,ReadsAll s.heap us (ht ds) as
 |_,[],_,_,_,h,r=>by cases h;cases r;exact⟨_,.nil⟩
 |n,d::ds,_,_,z,⟨v,t,e,J,h2⟩,r=>by
  subst e;simp only[List.all_cons,aa6]at z;cases r with
  |cons aH aX =>
   obtain⟨as,cy⟩:=Iq I ae n z.1 J aH;obtain⟨bs,eD⟩:=pA I ae n z.2 h2 aX;exact⟨as++bs,.cons cy eD⟩
end
def pz(I:Inv X pins σ H s)(ae:bw G H)(h:View X.K G H d v)(r:RelV v u)(kM:Den.cL 60 d=true):∃as,Reads s.heap u (toPy d) as:=by
 cases d with
 |bY ah=>cases kM
 |bH ah=>cases kM
 |cN ah=>cases kM
 |lst ds =>
  obtain⟨a,xs,rfl,h,q⟩:=h;cases r;obtain⟨its,bI,⟨o,n,av,ag,_,hd⟩,_⟩:=I.list h;obtain⟨as,cy⟩:=pA I ae 59 kM q bI;exact⟨a::as,.list av ag hd (by simpa using cy)⟩
 |_=>exact Iq I ae 60 kM h r
noncomputable def kX(K:W.Frag)(g:D->D->cn Bool):hh:=λx y H Q=>∃G bk dj,bw G H/\View K G H bk x/\View K G H dj y/\cq (g bk dj) (λb=>Q (.aP b) H) (λ_=>False)
def KA{r:cn Bool}:cq (Den.ik r) Q E<->cq r (λb=>Q (!b)) E:=by cases r<;>exact Iff.rfl
def Ky{x y:D}(h:cq (Den.fG x y) Q E):Den.cL 60 x=true/\Den.cL 60 y=true/\Q (Den.fs x y):=by
 unfold Den.fG at h;cases q:(Den.cL 60 x&&Den.cL 60 y) with
 |false=>rw[q]at h;exact h.elim
 |true =>
  rw[q]at h;simp only[aa6]at q;exact⟨q.1,q.2,h⟩
def Ma(bc:X.A.units+64<cLine):d0 X (compareOp .Eq) (kX X.K (Den.fF .eq)):=by
 intro pins s σ H x y v u Q I bf bL ⟨G,bk,dj,ae,b8,eh,hw⟩;rw[Den.DZ]at hw;obtain⟨J,h2,q⟩:=Ky hw;obtain⟨as,cy⟩:=pz I ae b8 bf J;obtain⟨bs,eD⟩:=pz I ae eh bL h2;refine eq_dataH cy eD (xc J) (xc h2) bc ?_;rw[sz];exact⟨.aP _,H,I,rfl,q⟩
def Me(bc:X.A.units+64<cLine):d0 X (compareOp .NotEq) (kX X.K (Den.fF .ne)):=by
 intro pins s σ H x y v u Q I bf bL ⟨G,bk,dj,ae,b8,eh,hw⟩;rw[Den.zg]at hw;obtain⟨J,h2,q⟩:=Ky (KA.mp hw);obtain⟨as,cy⟩:=pz I ae b8 bf J;obtain⟨bs,eD⟩:=pz I ae eh bL h2;refine ne_dataH cy eD (xc J) (xc h2) bc ?_;rw[sz];exact⟨.aP _,H,I,rfl,q⟩
end
section
open Classical in
def ky (h:Heap) (bk:D) (y:Value):Bool:=decide (∃(d:D)(as:List Addr),Reads h y (toPy d) as/\Den.cL 60 d=true/\Den.fs d bk=true)
open Classical in
theorem zw (r:Reads h y (toPy d) as) (hd:Den.cL 60 d=true):ky h bk y=Den.fs d bk:=by
 unfold ky;cases q:Den.fs d bk with
 |true=>exact decide_eq_true ⟨d,as,r,hd,q⟩
 |false =>
  refine decide_eq_false ?_;rintro⟨d',ZV,b3,gc,cU⟩;have e:=SeqAt.Reads.unique _ _ _ _ _ (rg 60 d hd).1 r b3;rw[<- sz]at q cU;rw[e,cU]at q;cases q
theorem yd:∀{ds:List D}{us:List Value}{as:List Addr},ReadsAll h us (ht ds) as->ds.all (Den.cL 60)=true->us.any (ky h bk)=ds.any λd=>Den.fs d bk
 |[],_,_,r,_=>by cases r;rfl
 |d::ds,_,_,r,hd=>by
  cases r with
  |cons aH aX =>
   simp only[List.all_cons,aa6]at hd;simp only[List.any_cons,zw aH hd.1,yd aX hd.2]
theorem vm{X:aU}(bc:X.A.units+64<cLine)(bf:Reads s.heap v (toPy bk) bs)(ak:Den.cL 60 bk=true):∀{ds:List D}{us:List Value}{as:List Addr},ReadsAll s.heap us (ht ds) as->ds.all (Den.cL 60)=true->∀y,y∈us->SeqAt.EqAt X.A.in1 s y v (ky s.heap bk y)
 |[],_,_,r,_,y,aN=>by cases r;simp at aN
 |d::ds,_,_,r,hd,y,aN=>by
  cases r with
  |cons aH aX =>
   simp only[List.all_cons,aa6]at hd;rcases aa9.mp aN with rfl|aN
   .rw[zw aH hd.1,<- sz];refine SeqAt.eqAt_reads _ _ _ _ _ _ _ _ aH bf (rg 60 _ hd.1).1 (rg 60 _ ak).1 ?_;have J:=(rg 60 _ hd.1).2;show X.A.units+1+_<cLine;have:min (toPy d).depth (toPy bk).depth<=60:=ab2 (Nat.min_le_left _ _) J;lia
   .exact vm bc bf ak aX hd.2 y aN
def Kz{x:D}{ys:List D}(h:cq (Den.hO x ys) Q E):Den.cL 60 x=true/\ys.all (Den.cL 60)=true/\Q (Den.memD x ys):=by
 unfold Den.hO at h;cases q:(Den.cL 60 x&&ys.all (Den.cL 60)) with
 |false=>rw[q]at h;exact h.elim
 |true =>
  rw[q]at h;simp only[aa6]at q;exact⟨q.1,q.2,h⟩
def Gi{pins:List (Addr×Obj)}{σ:de}{s:Shared}{ys:List D}(I:Inv X pins σ H s)(ae:bw G H)(h:View X.K G H (.tup ys) y\/View X.K G H (.lst ys) y)(r:RelV y u)(kM:ys.all (Den.cL 60)=true):
  ∃(a:Addr)(its:List Value)(as:List Addr),u=.ref a/\ReadsAll s.heap its (ht ys) as/\(s.heap.IsTuple a its.toArray\/s.heap.IsList a its.toArray):=by
 rcases h with⟨a,xs,rfl,h,q⟩|⟨a,xs,rfl,h,q⟩
 .cases r;obtain⟨its,bI,⟨o,av,ag,n,hd⟩,_⟩:=I.tuple (iJ ae h);obtain⟨as,cy⟩:=pA I ae 60 kM q bI;exact⟨a,its,as,rfl,cy,.inl ⟨o,av,ag,n,hd⟩⟩
 .cases r;obtain⟨its,bI,⟨o,n,av,ag,_,hd⟩,_⟩:=I.list h;obtain⟨as,cy⟩:=pA I ae 60 kM q bI;exact⟨a,its,as,rfl,cy,.inr ⟨o,av,ag,n,hd⟩⟩
def Mc(bc:X.A.units+64<cLine):d0 X (compareOp .In) (kX X.K (Den.fF .mem)):=by
 intro pins s σ H x y v u Q I bf bL ⟨G,bk,dj,ae,b8,eh,hw⟩;have key:∀ys,(View X.K G H (.tup ys) y\/View X.K G H (.lst ys) y)->cq (Den.hO bk ys) (λb=>Q (.aP b) H) (λ_=>False)->wpAny (model X.prog X.w) X.A (compareOp .In v u) (eN X pins σ Q) X.b9 s:=by
  intro ys aN hw;obtain⟨J,h2,q⟩:=Kz hw;obtain⟨bs,eD⟩:=pz I ae b8 bf J;obtain⟨a,its,as,rfl,cy,av⟩:=Gi I ae aN bL h2;have e:its.toArray.any (ky s.heap bk)=Den.memD bk ys:=(by rw[List.any_toArray];exact yd cy h2);have he:∀z,z∈its.toArray->SeqAt.EqAt X.A.in1 s z v (ky s.heap bk z):=λz hz=>vm bc eD J cy h2 z (by simpa using hz)
  rcases av with av|av
  .exact SeqAt.in_tupleAt _ av he (by rw[e];exact⟨.aP _,H,I,rfl,q⟩)
  .exact SeqAt.in_listAt _ av he (by rw[e];exact⟨.aP _,H,I,rfl,q⟩)
 cases dj with
 |tup ys=>exact key ys (.inl eh) hw
 |lst ys=>exact key ys (.inr eh) hw
 |_=>cases bk<;>exact hw.elim
def Mf(bc:X.A.units+64<cLine):d0 X (compareOp .NotIn) (kX X.K (Den.fF .jd)):=by
 intro pins s σ H x y v u Q I bf bL ⟨G,bk,dj,ae,b8,eh,hw⟩;have key:∀ys,(View X.K G H (.tup ys) y\/View X.K G H (.lst ys) y)->cq (Den.ik (Den.hO bk ys)) (λb=>Q (.aP b) H) (λ_=>False)->wpAny (model X.prog X.w) X.A (compareOp .NotIn v u) (eN X pins σ Q) X.b9 s:=by
  intro ys aN hw;obtain⟨J,h2,q⟩:=Kz (KA.mp hw);obtain⟨bs,eD⟩:=pz I ae b8 bf J;obtain⟨a,its,as,rfl,cy,av⟩:=Gi I ae aN bL h2;have e:its.toArray.any (ky s.heap bk)=Den.memD bk ys:=(by rw[List.any_toArray];exact yd cy h2);have he:∀z,z∈its.toArray->SeqAt.EqAt X.A.in1 s z v (ky s.heap bk z):=λz hz=>vm bc eD J cy h2 z (by simpa using hz)
  rcases av with av|av
  .exact SeqAt.notIn_tupleAt _ av he (by rw[e];exact⟨.aP _,H,I,rfl,q⟩)
  .exact SeqAt.notIn_listAt _ av he (by rw[e];exact⟨.aP _,H,I,rfl,q⟩)
 cases dj with
 |tup ys=>exact key ys (.inl eh) hw
 |lst ys=>exact key ys (.inr eh) hw
 |_=>cases bk<;>exact hw.elim
end
section
variable{xp:dq}{X:aU}{mu:List Nat}{m:fp}{bC dR dA:bx->cn D}{a b c:Expr}{pos:Pos}
def Bd{d:D}(h:Den.fJ 0 d=true):∃i,d=.int i:=by
 cases d with
 |int i=>exact⟨i,rfl⟩
 |_=>cases h
theorem wu:∀{ds:List D},ds.all (Den.fJ 0)=true->∃ns:List Int,ds=ns.map Den.D.int
 |[],_=>⟨[],rfl⟩
 |d::ds,h=>by
  simp only[List.all_cons,aa6]at h;obtain⟨i,rfl⟩:=Bd h.1;obtain⟨ns,rfl⟩:=wu h.2;exact⟨i::ns,rfl⟩
def G3{d:D}(h:Den.fJ 1 d=true):∃ns:List Int,d=.tup (ns.map Den.D.int):=by
 cases d with
 |tup ds=>obtain⟨ns,rfl⟩:=wu h;exact⟨ns,rfl⟩
 |_=>cases h
theorem jD{K:W.Frag}:∀{ns:List Int}{xs:List V},bA K G (ns.map Den.D.int) xs->xs=ns.map V.int
 |[],_,h=>h
 |n::ns,_,⟨v,r,e,J,h2⟩=>by
  subst e;have J:v=.int n:=J;rw[J,jD h2];rfl
theorem tJ:∀a b:List Int,Den.jx (a.map Den.D.int) (b.map Den.D.int)=some (c2.lexLt a b)
 |[],[]=>rfl
 |[],_::_=>rfl
 |_::_,[]=>rfl
 |x::a,y::b=>by
  rw[show Den.jx ((x::a).map Den.D.int) ((y::b).map Den.D.int)=if (x==y)=true then Den.jx (a.map .int) (b.map .int) else some (decide (x<y)) from rfl,tJ a b];simp only[c2.lexLt]
  by_cases h:x=y<;>simp[h]
def Md(bc:X.A.units+64<cLine):d0 X (compareOp .Lt) (kX X.K (Den.fF .lt)):=by
 intro pins s σ H x y v u Q I bf bL ⟨G,bk,dj,ae,b8,eh,hw⟩;rw[Den.D0]at hw;unfold Den.wq at hw;cases q:((Den.fJ 0 bk&&Den.fJ 0 dj)||(Den.fJ 1 bk&&Den.fJ 1 dj)) with
 |false=>rw[q]at hw;exact hw.elim
 |true =>
  rw[q]at hw;simp only[abY]at hw;simp only[acI,aa6]at q;rcases q with⟨J,h2⟩|⟨J,h2⟩
  .obtain⟨i,rfl⟩:=Bd J;obtain⟨j,rfl⟩:=Bd h2;exact Uo pins s σ H x y v u Q I bf bL ⟨i,j,b8,eh,hw⟩
  .obtain⟨ns,rfl⟩:=G3 J;obtain⟨ms,rfl⟩:=G3 h2;obtain⟨a,xs,e1,k1,aH⟩:=b8;obtain⟨b,ys,e2,k2,aX⟩:=eh;rw[jD aH]at k1;rw[jD aX]at k2;refine Up ⋯ pins s σ H x y v u Q I bf bL ⟨a,b,ns,ms,e1,e2,iJ ae k1,iJ ae k2,?_⟩;simp only[Den.i8,tJ,Den.Bp]at hw;exact hw
def Mb:d0 X (compareOp .Gt) (kX X.K (Den.fF .gt)):=by
 intro pins s σ H x y v u Q I bf bL ⟨G,bk,dj,ae,b8,eh,hw⟩;cases bk<;>cases dj<;>first|exact hw.elim|skip
 exact Un pins s σ H x y v u Q I bf bL ⟨_,_,b8,eh,hw⟩
theorem cI.aP{K:W.Frag}{b:Bool}:cI K H aL ao m (.aP b) (.aP b):=by cases m<;>rfl
theorem cI.int{K:W.Frag}:cI K H aL ao m (.int i) (.int i):=by cases m<;>rfl
def cI.Bq{K:W.Frag}{b:Bool}(h:cI K H aL ao m (.aP b) v):v=.aP b:=by cases m<;>exact h
def cI.wO{K:W.Frag}(h:cI K H aL ao m (.int i) v):v=.int i:=by cases m<;>exact h
noncomputable def zh(o:Den.rD)(bC dR:bx->cn D):bx->cn D:=λρ=>bC ρ>>=λx=>dR ρ>>=λy=>Den.fF o x y>>=λk=>.ok (.aP k)
def pl{α:Type}:cn α->Bool
 |.exc _=>false
 |_=>true
def Hu{α:Type}{r:cn α}(h:pl r=true)(c):r≠.exc c:=λe=>by rw[e]at h;cases h
def nO{α:Type}{p:Prop}[Decidable p]{a b:cn α}(aA:pl a=true)(aa:pl b=true):pl (if p then a else b)=true:=by by_cases h:p<;>simp[h,aA,aa]
def Hv(h:pl r=true):pl (Den.ik r)=true:=by cases r<;>first|rfl|exact h
def TU(o):pl (Den.Bp o)=true:=by cases o<;>rfl
def MD(o)(x y:D)(c):Den.fF o x y≠.exc c:=by
 refine Hu ?_ c;cases o with
 |eq=>exact nO rfl rfl
 |ne=>exact Hv (nO rfl rfl)
 |lt=>exact nO (TU _) rfl
 |mem=>cases y<;>first|rfl|exact nO rfl rfl
 |jd=>cases y<;>first|rfl|exact Hv (nO rfl rfl)
 |gt=>cases x<;>cases y<;>rfl
def uB{α:Type}{r:cn α}{Q:α->Prop}(h:cq r Q E)(az:∀c,r≠.exc c):cq r Q fP:=by
 cases r with
 |ok a=>exact h
 |exc c=>exact absurd rfl (az c)
 |bad=>exact h
def JQ{σ:de}(h:bG xp X mu m (zh o bC dR) σ H Q):uv (kX X.K (Den.fF o)) (bG xp X mu .view bC) (bG xp X mu .view dR) σ H Q:=by
 obtain⟨G,ρ,ae,hw⟩:=h;refine⟨G,ρ,ae,cz (bS.mp hw) (λbk k v aK H1 aT aH=>?_) λ_ q=>q⟩;refine⟨aK,ρ,ae.ext aT,cz (bS.mp k) (λdj k2 v2 cM aR cg aX=>?_) λ_ q=>q.mono aT.h⟩;refine⟨cM,bk,dj,cg.sub,View.ext cg aH,aX,?_⟩;exact cz (uB (bS.mp k2) (λc=>MD o bk dj c)) (λk q=>q (.aP k) cM aR (aT.trans cg) cI.aP) λ_ q=>q
def Wr(av:d0 X (compareOp op) (kX X.K (Den.fF o)))(aA:aO X a (bG xp X mu .view bC))(aa:aO X b (bG xp X mu .view dR))(hm:behindInMarks op b=false):
  aO X (.Compare a [op] [b] pos) (bG xp X mu m (zh o bC dR)):=λpins s σ H Q I h=>UK av aA aa hm pins s σ H Q I (JQ h)
noncomputable def iL(xp:dq)(X:aU)(mu:List Nat)(f:bx->cn D):TT:=λσ H Q =>
 ∃G ρ,ej X.K mu G H ρ σ/\cq (f ρ>>=Den.f6) (λb=>∀aL ao,Ext G H aL ao->Q b ao) (λc=>eY xp X c H)
def JN{σ:de}(h:iL xp X mu f σ H Q):bG xp X mu .view f σ H (λx ao=>∃k,x=.aP k/\Q k ao):=by
 obtain⟨G,ρ,ae,hw⟩:=h;refine⟨G,ρ,ae,cz (bS.mp hw) (λd k v aL ao x r=>?_) λ_ q=>q⟩;cases d with
 |aP b=>exact⟨b,cI.Bq r,k aL ao x⟩
 |_=>exact k.elim
def Ws(av:d0 X (compareOp op) (kX X.K (Den.fF o)))(aA:aO X a (bG xp X mu .view bC))(aa:aO X b (bG xp X mu .view dR))(hm:behindInMarks op b=false):
  gp X (.Compare a [op] [b] pos) (iL xp X mu (zh o bC dR)):=λpins s σ H Q I h=>Vw av aA aa hm pins s σ H Q I (JQ (JN h))
def nY(h:aO X a (bG xp X mu .view f))(he:∀whole,isTrue a X.env whole=(do let v <- whole;standAt a.pos;holding [v] (truthy v))):gp X a (iL xp X mu f):=λpins s σ H Q I hw=>Vy h he pins s σ H Q I (JN hw)
noncomputable def Dh(bC dR:bx->cn D):bx->cn D:=λρ=>bC ρ>>=λx=>Den.f6 x>>=λk=>if k then dR ρ else .ok (.aP false)
noncomputable def Hz(bC:bx->cn D):bx->cn D:=λρ=>bC ρ>>=λx=>Den.f6 x>>=λk=>.ok (.aP (!k))
def cI.back{K:W.Frag}(s:bw H H1)(h:cI K H1 aL ao m d v):cI K H aL ao m d v:=cI.old s h
def IT{rest:List Expr}(aA:aO X a (bG xp X mu .view bC))(aa:aO X (.BoolOp .And (b::rest) pos) (bG xp X mu m dR)):aO X (.BoolOp .And (a::b::rest) pos) (bG xp X mu m (Dh bC dR)):=by
 intro pins s σ H Q I ⟨G,ρ,ae,hw⟩;refine Bx aA aa pins s σ H Q I ?_;refine⟨G,ρ,ae,cz (bS.mp hw) (λbk k v aK H1 aT aH=>?_) λ_ q=>q⟩;cases bk with
 |aP b =>
  refine⟨b,cI.Bq aH,?_⟩;cases b with
  |true =>
   simp only[abY];exact⟨aK,ρ,ae.ext aT,cz k (λd q v2 cM aR cg aX=>q v2 cM aR (aT.trans cg) (cI.back aT.h aX)) λ_ q=>q.mono aT.h⟩
  |false =>
   simp only[aba,abw];exact k (.aP false) aK H1 aT cI.aP
 |_=>exact k.elim
def WN(aA:aO X a (bG xp X mu .view bC)):aO X (.UnaryOp .Not a pos) (bG xp X mu m (Hz bC)):=by
 intro pins s σ H Q I ⟨G,ρ,ae,hw⟩;refine HV aA pins s σ H Q I ?_;refine⟨G,ρ,ae,cz (bS.mp hw) (λbk k v aK H1 aT aH=>?_) λ_ q=>q⟩;cases bk with
 |aP b=>exact⟨b,cI.Bq aH,k (.aP (!b)) aK H1 aT cI.aP⟩
 |_=>exact k.elim
def IU{rest:List Expr}(aA:gp X a (iL xp X mu bC))(aa:mI X (.BoolOp .And (b::rest) pos) (iL xp X mu dR)):mI X (.BoolOp .And (a::b::rest) pos) (iL xp X mu (Dh bC dR)):=by
 intro xI pins s σ H Q I ⟨G,ρ,ae,hw⟩;refine Vz aA aa xI pins s σ H Q I ?_;refine⟨G,ρ,ae,?_⟩;refine bS.mpr (cz (bS.mp (bS.mp hw)) (λbk k=>cz (bS.mp k) (λb k2 aK H1 aT=>?_) λ_ q=>q) λ_ q=>q);cases b with
 |true =>
  simp only[abY]at k2 ⊢;exact⟨aK,ρ,ae.ext aT,cz (bS.mpr k2) (λd q cM aR cg=>q cM aR (aT.trans cg)) λ_ q=>q.mono aT.h⟩
 |false =>
  simp only[aba,abw]at k2 ⊢;exact k2 aK H1 aT
def WO(aA:gp X a (iL xp X mu bC)):gp X (.UnaryOp .Not a pos) (iL xp X mu (Hz bC)):=by
 intro pins s σ H Q I ⟨G,ρ,ae,hw⟩;refine Vx aA pins s σ H Q I ?_;refine⟨G,ρ,ae,?_⟩;exact bS.mpr (cz (bS.mp (bS.mp hw)) (λbk k=>cz (bS.mp k) (λb k2 aK H1 aT=>k2 aK H1 aT) λ_ q=>q) λ_ q=>q)
end
section
variable{xp:dq}{X:aU}{mu:List Nat}{m:fp}{bC dR dA:bx->cn D}{a b c:Expr}{pos:Pos}{pins:List (Addr×Obj)}{σ:de}{G H:aB}{s:Shared}
def Hr(I:Inv X pins σ H s)(ae:bw G H)(r:Vals xs its)(q:bA X.K G ds xs)(hz:xs.length<=sizeLine)(k:∀v aL ao,Ext G H aL ao->Rep X.K aL (.tup ds) v->Q v ao):eN X pins σ Q (.ref s.heap.objs.size) { s with heap:=s.heap.push { cls:=.type "tuple",data:=.seq its.toArray } }:=by
 refine⟨.ref s.heap.objs.size,_,I.laid (t':=s.toks) (o:=.tup xs) (λb bP q=>aa8 _ q) (abb _) ⟨hz,its,r,IsTup.new _ _⟩,rfl,?_⟩;exact k _ (upd G s.heap.objs.size (.tup xs)) _ (Ext.put ae I.fresh) ⟨_,xs,rfl,dm,q.mono (fU (ae.free I.fresh))⟩
def TS(I:Inv X pins σ H s)(ae:bw G H)(r:Vals xs its)(q:bA X.K G ds xs)(hz:xs.length<=sizeLine)(k:∀v aL ao,Ext G H aL ao->cI X.K H aL ao .fresh (.lst ds) v->Q v ao):eN X pins σ Q (.ref s.heap.objs.size) { s with heap:=s.heap.push { cls:=.type "list",data:=.seq its.toArray } }:=by
 refine⟨.ref s.heap.objs.size,_,I.GX (t':=s.toks) r hz,rfl,?_⟩;exact k _ G _ (Ext.own ae I.fresh λ_ z=>nomatch z) ⟨_,xs,rfl,dm,I.fresh,ae.free I.fresh,q⟩
def mn{ds:List D}(h:View X.K G H (.lst ds) v):∃a xs,v=.ref a/\d1 X.K H a xs/\bA X.K G ds xs:=h
def n5(ae:bw G H){ds:List D}(h:View X.K G H (.tup ds) v):∃a xs,v=.ref a/\fq X.K H a xs/\bA X.K G ds xs:=by
 obtain⟨a,xs,e,k,r⟩:=h;exact⟨a,xs,e,iJ ae k,r⟩
def rO:Den.SZ=sizeLine:=by rw[sizeLine_eq];rfl
def NH:d0 X (binaryOp .Add) (mf X.K (Den.ec .add)):=by
 intro pins s σ H x y v u Q I bf bL ⟨G,bk,dj,ae,b8,eh,hw⟩;cases bk with
 |int i =>
  cases dj with
  |int j=>exact Ul pins s σ H x y v u Q I bf bL ⟨_,_,b8,eh,ni ae hw rfl⟩
  |_=>exact hw.elim
 |tup ds =>
  cases dj with
  |tup aj =>
   rw[Den.rR]at hw
   by_cases h:ds.length+aj.length<=Den.SZ
   .rw[if_pos h]at hw;obtain⟨l,xs,rfl,k1,aH⟩:=n5 ae b8;obtain⟨b,ys,rfl,k2,aX⟩:=n5 ae eh;cases bf;cases bL;obtain⟨its,jg,p1,_⟩:=I.tuple k1;obtain⟨ho,kb,p2,_⟩:=I.tuple k2;have hz:xs.length+ys.length<=sizeLine:=by rw[<- aH.length,<- aX.length,<- rO];exact h
    by_cases e0:its=[]
    .-- J0 left one is empty
     subst e0;have:ds=[]:=by
      have J:=aH.length;have h2:=jg.length;simp at h2;rw[h2]at J;simp at J;exact J
     subst this;obtain⟨⟨cls,dd,data,bF⟩,av,ag,n,hd⟩:=id p1;obtain⟨⟨ze,kv,data2,j8⟩,kJ,i2,d2,hd2⟩:=id p2;simp only at ag hd i2 hd2;subst ag hd i2 hd2;refine aeN ⟨_,av,rfl⟩ ⟨_,kJ,rfl⟩ aeF seq_tuple_add adM adJ (adB _ _)
      (tuple_addW0 l b _ ho.toArray n d2 dd kv bF j8 rfl) ⟨av,kJ,?_⟩
     exact⟨.ref b,H,I,rfl,hw _ G H (Ext.refl ae) eh⟩
    .refine c2.Mi p1 p2 e0 (λz=>?_) (λz=>?_) (by rw[<- jg.length,<- kb.length];exact hz)
     .have:aj=[]:=by
       have J:=aX.length;have h2:=kb.length;rw[z]at h2;simp at h2;rw[h2]at J;simp at J;exact J
      subst this;rw[acm]at hw;exact⟨.ref l,H,I,rfl,hw _ G H (Ext.refl ae) b8⟩
     .exact Hr I ae (jg.append kb) (aH.append aX) (by rw[List.length_append];exact hz) hw
   .rw[if_neg h]at hw;exact hw.elim
  |_=>exact hw.elim
 |lst ds =>
  cases dj with
  |lst aj =>
   rw[Den.mO]at hw
   by_cases h:ds.length+aj.length<=Den.SZ
   .rw[if_pos h]at hw;obtain⟨l,xs,rfl,k1,aH⟩:=mn b8;obtain⟨b,ys,rfl,k2,aX⟩:=mn eh;cases bf;cases bL;obtain⟨its,jg,⟨hS,n,e1,ag,iD,hd⟩,_⟩:=I.list k1;obtain⟨ho,kb,⟨eC,d2,e2,i2,aad,hd2⟩,_⟩:=I.list k2;have hz:xs.length+ys.length<=sizeLine:=(by rw[<- aH.length,<- aX.length,<- rO];exact h);obtain⟨cls,dd,data,bF⟩:=hS;obtain⟨ze,kv,data2,j8⟩:=eC;simp only at ag hd i2 hd2;subst ag hd i2 hd2;refine aeN ⟨_,e1,rfl⟩ ⟨_,e2,rfl⟩ noFill_list_add seq_list_add F.slot_list_add F.entry_list_add (F.args_list_add_2 _ _)
     (list_addW l b its.toArray ho.toArray n d2 dd kv bF j8 (by rw[abe,abe,<- jg.length,<- kb.length];exact hz)) ⟨e1,e2,?_⟩
    have bo:its.toArray++ho.toArray=(its++ho).toArray:=(by simp);rw[bo];exact TS I ae (jg.append kb) (aH.append aX) (by rw[List.length_append];exact hz) hw
   .rw[if_neg h]at hw;exact hw.elim
  |_=>exact hw.elim
 |_=>cases dj<;>exact hw.elim
end
end bB
end
section
namespace bB
open PySem PySem.Spec PyProof.Rows bu PySem.MeetsSeq
section
def NN:d0 X (binaryOp .Mult) (mf X.K (Den.ec .mul)):=by
 intro pins s σ H x y v u Q I bf bL ⟨G,bk,dj,ae,b8,eh,hw⟩;cases bk with
 |int i =>
  cases dj with
  |int j =>
   rw[Den.mul_int]at hw
   by_cases h:(-Den.hc<i/\i<Den.hc)\/(-Den.hc<j/\j<Den.hc)
   .rw[if_pos h]at hw;exact Ur pins s σ H x y v u Q I bf bL ⟨_,_,b8,eh,h,ni ae hw rfl⟩
   .rw[if_neg h]at hw;exact hw.elim
  |_=>exact hw.elim
 |_=>cases dj<;>exact hw.elim
end
end bB
end
section
namespace bB
open PySem PySem.Spec PyProof.Rows bu
section
variable{xp:dq}{X:aU}{mu:List Nat}{m:fp}{f bC dR dA:bx->cn D}{bp:bx->cn (List D)}{a b c e:Expr}{aj:List Expr}{pos:Pos}{pins:List (Addr×Obj)}{σ:de}{G H:aB}{s:Shared}
def I0(aA:aO X a (bG xp X mu .view bC)):aO X (.UnaryOp .USub a pos) (bG xp X mu m λρ=>bC ρ>>=λx=>Den.iU x>>=λi=>.ok (.int (-i))):=by
 intro pins s σ H Q I ⟨G,ρ,ae,hw⟩;refine UT Zc aA pins s σ H Q I ?_;refine⟨G,ρ,ae,cz (bS.mp hw) (λbk k v aK H1 aT aH=>?_) λ_ q=>q⟩;cases bk with
 |int i=>exact⟨i,cI.wO aH,k (.int (-i)) aK H1 aT cI.int⟩
 |_=>exact k.elim
noncomputable def n0(xp:dq)(X:aU)(mu:List Nat)(f:bx->cn (List D)):gX:=λσ H Q =>
 ∃G ρ,ej X.K mu G H ρ σ/\cq (f ρ) (λds=>∀af aL ao,Ext G H aL ao->bA X.K aL ds af->Q af ao) (λc=>eY xp X c H)
def I1:fZ X [] (n0 xp X mu λ_=>.ok []):=by
 intro p pins s σ H Q I ⟨G,ρ,ae,hw⟩;exact pv p pins s σ H Q I (hw [] G H (Ext.refl ae.sub) rfl)
def Wt(he:aO X e (bG xp X mu .val f))(aV:fZ X aj (n0 xp X mu bp))(cK:starEach (e::aj) X.env=(false,eval e X.env)::starEach aj X.env):fZ X (e::aj) (n0 xp X mu λρ=>f ρ>>=λx=>bp ρ>>=λxs=>.ok (x::xs)):=by
 intro p pins s σ H Q I ⟨G,ρ,ae,hw⟩;refine nS he aV cK p pins s σ H Q I ?_;refine⟨G,ρ,ae,cz (bS.mp hw) (λbk k v aK H1 aT aH=>?_) λ_ q=>q⟩;refine⟨aK,ρ,ae.ext aT,cz (bS.mp k) (λds k2 af cM aR cg aX=>?_) λ_ q=>q.mono aT.h⟩;exact k2 (v::af) cM aR (aT.trans cg) ⟨v,af,rfl,Rep.mono cg.g aH,aX⟩
def I3(h:fZ X aj (n0 xp X mu bp))(ax:∀ρ ds,bp ρ=.ok ds->ds.length<=sizeLine):aO X (.Tuple aj j pos) (bG xp X mu .val λρ=>bp ρ>>=λds=>.ok (.tup ds)):=by
 intro pins s σ H Q I ⟨G,ρ,ae,hw⟩;refine US h pins s σ H Q I ?_;refine⟨G,ρ,ae,?_⟩;have hw:=bS.mp hw;cases q:bp ρ with
 |ok ds =>
  rw[q]at hw;intro af aK H1 aT aH;refine⟨by rw[<- aH.length];exact ax ρ ds q,λp au=>?_⟩;exact hw (.ref p) (upd aK p (.tup af)) _ (aT.trans (Ext.put aT.sub au)) ⟨p,af,rfl,dm,aH.mono (fU (aT.sub.free au))⟩
 |exc c=>rw[q]at hw;exact hw
 |bad=>rw[q]at hw;exact hw
def WK(h:fZ X aj (n0 xp X mu bp))(ax:∀ρ ds,bp ρ=.ok ds->ds.length<=sizeLine):aO X (.List aj pos) (bG xp X mu .fresh λρ=>bp ρ>>=λds=>.ok (.lst ds)):=by
 intro pins s σ H Q I ⟨G,ρ,ae,hw⟩;refine HT h pins s σ H Q I ?_;refine⟨G,ρ,ae,?_⟩;have hw:=bS.mp hw;cases q:bp ρ with
 |ok ds =>
  rw[q]at hw;intro af aK H1 aT aH;refine⟨by rw[<- aH.length];exact ax ρ ds q,λp au=>?_⟩;exact hw (.ref p) aK _ (aT.trans (Ext.own aT.sub au λ_ z=>nomatch z)) ⟨p,af,rfl,dm,aT.h.free au,aT.sub.free au,aH⟩
 |exc c=>rw[q]at hw;exact hw
 |bad=>rw[q]at hw;exact hw
def Si(n)(i):Den.hM n i=bu.hM n i:=by
 unfold Den.hM bu.hM
 by_cases h:0<=i
 .rw[if_pos h,if_pos h]
 .rw[if_neg h,if_neg h]
  by_cases q:0<=i+(n:Int)
  .rw[if_pos q,if_pos ⋯]
  .rw[if_neg q,if_neg ⋯]
def Fi{K:W.Frag}(r:bA K G ds xs)(h:Den.iz ds i=some d):∃v,ox xs i=some v/\Rep K G d v:=by
 unfold Den.iz at h;rw[Si,r.length]at h;unfold ox;cases q:bu.hM xs.length i with
 |none=>rw[q]at h;cases h
 |some j =>
  rw[q]at h;obtain⟨v,e,z⟩:=r.get (i:=j) h;exact⟨v,e,z⟩
def WG(aA:aO X a (bG xp X mu .view bC))(aa:aO X b (bG xp X mu .view dR))(au:x6 b):aO X (.Subscript a b pos) (bG xp X mu .val λρ=>bC ρ>>=λx=>dR ρ>>=λy=>Den.fw x y):=by
 intro pins s σ H Q I ⟨G,ρ,ae,hw⟩;refine UP Sl aA aa au pins s σ H Q I ?_;refine⟨G,ρ,ae,cz (bS.mp hw) (λbk k v aK H1 aT aH=>?_) λ_ q=>q⟩;refine⟨aK,ρ,ae.ext aT,cz (bS.mp k) (λdj k2 v2 cM aR cg aX=>?_) λ_ q=>q.mono aT.h⟩;have aH:=View.ext cg aH;cases bk with
 |lst ds =>
  cases dj with
  |int i =>
   simp only[Den.tr]at k2;cases q:Den.iz ds i with
   |none=>rw[q]at k2;exact k2.elim
   |some d =>
    rw[q]at k2;obtain⟨l,xs,rfl,e,r⟩:=mn aH;obtain⟨w,e2,iq⟩:=Fi r q;exact .inl ⟨l,xs,i,w,rfl,aX,e,e2,k2 w cM aR (aT.trans cg) iq⟩
  |_=>exact k2.elim
 |tup ds =>
  cases dj with
  |int i =>
   simp only[Den.AO]at k2;cases q:Den.iz ds i with
   |none=>rw[q]at k2;exact k2.elim
   |some d =>
    rw[q]at k2;obtain⟨l,xs,rfl,e,r⟩:=n5 cg.sub aH;obtain⟨w,e2,iq⟩:=Fi r q;exact .inr (.inl ⟨l,xs,i,w,rfl,aX,e,e2,k2 w cM aR (aT.trans cg) iq⟩)
  |_=>exact k2.elim
 |_=>cases dj<;>exact k2.elim
noncomputable def kY(K:W.Frag)(m:fp)(g:D->cn D):List V->aB->dn->Prop:=λxs H Q=>∃G x d,xs=[x]/\bw G H/\View K G H d x/\cq (g d) (λd'=>∀v aL ao,Ext G H aL ao->cI K H aL ao m d' v->Q v ao) (λ_=>False)
def nT(he:aO X e eM)(cK:starEach [e] X.env=[(false,eval e X.env)]):fZ X [e] (JI eM JM):=nS he pv cK
def rd{id:String}(aQ:∀d c,g d≠.exc c)(ag:gS X (.builtin id) (kY X.K m g))(Ak:fg X x)(hm:X.aS x=none)(aI:bootBuiltins x=some (.builtin id))(aA:aO X e (bG xp X mu .view f))(az:x≠"__name__")(jX:(x==("__debug__":Str))=false)(cK:starEach [e] X.env=[(false,eval e X.env)]):aO X (.Call (.Name x p) [e] [] pos) (bG xp X mu m λρ=>f ρ>>=λd=>g d):=by
 intro pins s σ H Q I ⟨G,ρ,ae,hw⟩;refine Bz ag Ak hm aI (nT aA cK) az jX cK rfl pins s σ H Q I ?_;refine⟨G,ρ,ae,cz (bS.mp hw) (λbk k v aK H1 aT aH=>?_) λ_ q=>q⟩;refine⟨aK,v,bk,rfl,aT.sub,aH,?_⟩;exact cz (uB k (aQ bk)) (λd q v2 cM aR cg aX=>q v2 cM aR (aT.trans cg) (aX.old aT.h)) λ_ q=>q
def IX(aQ:∀d c,g d≠.exc c)(ag:gS X (.type T) (kY X.K m g))(Ak:fg X x)(hm:X.aS x=none)(aI:bootBuiltins x=some (.type T))(aA:aO X e (bG xp X mu .view f))(az:x≠"__name__")(jX:(x==("__debug__":Str))=false)(cK:starEach [e] X.env=[(false,eval e X.env)]):aO X (.Call (.Name x p) [e] [] pos) (bG xp X mu m λρ=>f ρ>>=λd=>g d):=by
 intro pins s σ H Q I ⟨G,ρ,ae,hw⟩;refine HP ag Ak hm aI (nT aA cK) az jX cK rfl pins s σ H Q I ?_;refine⟨G,ρ,ae,cz (bS.mp hw) (λbk k v aK H1 aT aH=>?_) λ_ q=>q⟩;refine⟨aK,v,bk,rfl,aT.sub,aH,?_⟩;exact cz (uB k (aQ bk)) (λd q v2 cM aR cg aX=>q v2 cM aR (aT.trans cg) (aX.old aT.h)) λ_ q=>q
def f_len:gS X (.builtin "len") (kY X.K m Den.kP):=by
 intro pins s σ H xs us Q I r ⟨G,x,d,ex,ae,b8,hw⟩;subst ex;cases d with
 |tup ds =>
  obtain⟨a,ys,rfl,k,q⟩:=n5 ae b8;refine DG pins s σ H _ us Q I r ⟨a,ys,rfl,.inr k,?_⟩;rw[<- q.length];exact hw _ G H (Ext.refl ae) cI.int
 |lst ds =>
  obtain⟨a,ys,rfl,k,q⟩:=mn b8;refine DG pins s σ H _ us Q I r ⟨a,ys,rfl,.inl k,?_⟩;rw[<- q.length];exact hw _ G H (Ext.refl ae) cI.int
 |_=>exact hw.elim
def f_list:gS X (.type "list") (kY X.K .fresh λd=>Den.eg d>>=λds=>.ok (.lst ds)):=by
 intro pins s σ H xs us Q I r ⟨G,x,d,ex,ae,b8,hw⟩;subst ex;cases d with
 |tup ds =>
  obtain⟨a,ys,rfl,k,q⟩:=n5 ae b8;exact DH pins s σ H _ us Q I r ⟨a,ys,rfl,.inr k,λl ax=>hw _ G _ (Ext.own ae ax λ_ z=>nomatch z) ⟨l,ys,rfl,dm,ax,ae.free ax,q⟩⟩
 |lst ds =>
  obtain⟨a,ys,rfl,k,q⟩:=mn b8;exact DH pins s σ H _ us Q I r ⟨a,ys,rfl,.inl k,λl ax=>hw _ G _ (Ext.own ae ax λ_ z=>nomatch z) ⟨l,ys,rfl,dm,ax,ae.free ax,q⟩⟩
 |_=>exact hw.elim
def Py:gS X (.type "tuple") (kY X.K .val λd=>Den.eg d>>=λds=>.ok (.tup ds)):=by
 intro pins s σ H xs us Q I r ⟨G,x,d,ex,ae,b8,hw⟩;subst ex;cases d with
 |tup ds =>
  obtain⟨a,ys,rfl,k,q⟩:=n5 ae b8;exact DJ pins s σ H _ us Q I r ⟨a,ys,rfl,.inr ⟨k,hw _ G H (Ext.refl ae) b8⟩⟩
 |lst ds =>
  obtain⟨a,ys,rfl,k,q⟩:=mn b8;exact DJ pins s σ H _ us Q I r ⟨a,ys,rfl,.inl ⟨k,λl ax=>hw _ (upd G l (.tup ys)) _ (Ext.put ae ax) ⟨l,ys,rfl,dm,q.mono (fU (ae.free ax))⟩⟩⟩
 |_=>exact hw.elim
end
def VP{σ:de}(I:Inv X pins σ H s)(h:(∃ys,gW H a (.dQ ys))\/∃ys,gW H a (.da ys)):∃o,s.heap.get? a=some o/\o.cls=.type "dict":=by
 rcases h with⟨ys,h|⟨bb,h⟩⟩|⟨ys,h|⟨bb,h⟩⟩
 .obtain⟨_,_,_,_,o,_,_,e,x,_⟩:=(show dX X.prog X.w H s.heap a (.dQ ys) from I.bz a _ h);exact⟨o,e,x.1⟩
 .obtain⟨_,_,_,_,_,o,_,_,e,x,_⟩:=(show dX X.prog X.w H s.heap a (.dk bb (.dQ ys)) from I.bz a _ h);exact⟨o,e,x.1⟩
 .obtain⟨_,_,_,_,o,_,_,e,x,_⟩:=(show dX X.prog X.w H s.heap a (.da ys) from I.bz a _ h);exact⟨o,e,x.1⟩
 .obtain⟨_,_,_,_,_,o,_,_,e,x,_⟩:=(show dX X.prog X.w H s.heap a (.dk bb (.da ys)) from I.bz a _ h);exact⟨o,e,x.1⟩
section
variable{xp:dq}{X:aU}{mu:List Nat}{m:fp}{f bC dR dA:bx->cn D}{bp:bx->cn (List D)}{a b c e:Expr}{aj:List Expr}{pos:Pos}{pins:List (Addr×Obj)}{σ:de}{G H:aB}{s:Shared}
end
noncomputable def jL(P:Program)(w:World)(xp:dq):jK:=λouter H s E e s' =>
 ∃(c:Nat)(ao:aB)(l:List Addr),s'.os=s.os/\AllBare s'.gens/\fj (gv outer) [] H ao s.heap s'.heap/\d7 P w ao s'.heap/\bw H ao/\(∀a∈l,s.heap.get? a=none/\ao a=none)/\xp c e l s'.heap/\E (.int c 0) none ao
noncomputable def pI(K:W.Frag)(eo:List D->cn D)(n:Nat):mK:=λaf H Q E =>
 af.length=n/\∃G ds,bw G H/\(∀b xs,H b=some (.tup xs)->G b=some (.tup xs))/\bA K G ds af/\cq (eo ds) (λd=>∀v aL ao,Ext G H aL ao->Rep K aL d v->Q v ao) (λc=>∀ao,bw H ao->E (.int c 0) none ao)
section
variable{xp:dq}{X:aU}{mu:List Nat}{m:fp}{f bC dR dA:bx->cn D}{bp:bx->cn (List D)}{a b c e:Expr}{aj:List Expr}{pos:Pos}{pins:List (Addr×Obj)}{σ:de}{G H:aB}{s:Shared}
noncomputable def Em(xp:dq)(X:aU):jl:=λu _ ao=>∀c:Nat,u=.int c 0->eY xp X c ao
def UE:Passes (jL X.prog X.w xp) X (Em xp X):=by
 intro pins σ H s e s' I ⟨c,ao,l,os,bare,un,bz,bX,az,ak,h1⟩;have d8:Inv X pins σ ao s':=I.DF os un bz bare (λb z=>absurd z (by simp));exact h1 c rfl pins σ ao s' e l d8 (bw.refl _) (λa aA=>.of I (az a aA).1 (az a aA).2) ak
end
section
variable{prog:Program}{w:World}{A:Around}{R:Result->Shared->Prop}{s:Shared}
def MO{elt target iter:Expr}{ifs:List Expr}{scope:Scope}{pos:Pos}{it acc:Value}{env:Env}(I:Nat->Shared->Prop)(turn:∀n s,I n s->wpAny (model prog w) A (pyNext it) (λr cC=>match r with
   |none=>R (.ok .next) cC
   |some v=>wpAny (model prog w) A (letOwnedTupleGo target it v) (λ_ JB=>wpAny (model prog w) A (assign target env v) (λ_ gF =>
     wpAny (model prog w) A (forIn ifs true λc r=>if r=true then do let ok <- isTrue c env (eval c env);pure (ForInStep.yield ok) else pure (ForInStep.yield r)) (λok rk =>
      if ok=true then wpAny (model prog w) A (eval elt env) (λx JC =>
       wpAny (model prog w) A (call (.builtin "list.append") [acc,x]) (λ_ JD=>∃m,m<n/\I m JD) (λ_ _=>False) JC) (λ_ _=>False) rk
      else ∃m,m<n/\I m rk) (λ_ _=>False) gF) (λ_ _=>False) JB) (λ_ _=>False) cC) (λ_ _=>False) s)(n:Nat)(h:I n s):
  codeAny (model prog w) A (.compLoop (.ListComp elt [⟨target,iter,ifs,0⟩] scope pos) 0 it acc env) R s:=by
 have up:∀{α:Type}{t:Sem α}{Q:α->Shared->Prop}{E:Value->Shared->Prop}{s:Shared},wpAny (model prog w) A t Q (λ_ _=>False) s->wpAny (model prog w) A t Q E s:=λh=>abV h (λ_ _ q=>q) λ_ _ z=>z.elim
 refine codeAny_loop rfl I (λn s bV=>?_) n h;show wpAny _ A ((compTurn (.ListComp elt [⟨target,iter,ifs,0⟩] scope pos) 0 it acc env).onRaise (λx=>do noteFrame x env;theTreesLotGoes x)) _ _ s;refine wpAny_noted ?_;rw[compTurn_list];refine aa5 (wpAny_standAt (aa5 (abV (turn n s bV) (λr cC hL=>?_) λ_ _ z=>z.elim)));cases r with
 |none=>exact aa7 hL
 |some v =>
  refine aa5 (abV hL (λ_ JB RR=>?_) λ_ _ z=>z.elim);refine aa5 (abV RR (λ_ gF tp=>aa5 (abV tp (λok rk v7=>?_) λ_ _ z=>z.elim)) λ_ _ z=>z.elim);cases ok with
  |false=>exact aa7 ⟨rfl,v7⟩
  |true =>
   refine aa5 (aa5 (abV v7 (λx JC RS=>aa5 (abV RS (λ_ JD RT=>?_) λ_ _ z=>z.elim)) λ_ _ z=>z.elim));exact aa7 (aa7 ⟨rfl,RT⟩)
end
noncomputable def gJ(env:Env):List (Str×NameKind)->List (Str×Addr)->List (Str×Addr)
 |[],cs=>cs
 |(n,k)::r,cs=>if k==.free then gJ env r ((n,(env.cells.lookup n).getD 0)::cs) else gJ env r cs
def Mw(h:∀x∈scope.names,x.2=.free->∃c,env.cells.lookup x.1=some c):closureFor scope env=pure (gJ env scope.names []):=by
 have key:∀(l:List (Str×NameKind))(cs:List (Str×Addr)),(∀x∈l,x.2=.free->∃c,env.cells.lookup x.1=some c) ->
   (forIn l cs λ(x:Str×NameKind)(r:List (Str×Addr))=>(match x with
    |(name,kind)=>if (kind==NameKind.free)=true then do let a <- cellOf env name;pure (ForInStep.yield ((name,a)::r)) else pure (ForInStep.yield r):Sem (ForInStep (List (Str×Addr)))))=(pure (gJ env l cs):Sem _):=by
  intro l
  induction l with
  |nil=>intro cs _;rfl
  |cons x l aD =>
   intro cs ak;obtain⟨n,k⟩:=x;simp only[List.forIn_cons,gJ];cases q:(k==NameKind.free) with
   |false =>
    simp only[aba,abw,pure_bind];exact aD cs λy aN=>ak y (List.mem_cons_of_mem _ aN)
   |true =>
    have aw:k=.free:=(by simpa using q);obtain⟨c,e⟩:=ak (n,k) List.mem_cons_self aw;simp only at e;simp only[abY,cellOf,e,pure_bind,Option.getD_some];exact aD _ λy aN=>ak y (List.mem_cons_of_mem _ aN)
 unfold closureFor;have:=key scope.names [] h;simp only[bind_pure];exact this
theorem zd:∀(l:List (Str×NameKind))(cs:List (Str×Addr)),(gJ env l cs).lookup x=some c->cs.lookup x=some c\/(∃y∈l,y.1=x/\y.2=.free/\c=(env.cells.lookup x).getD 0)
 |[],cs,h=>.inl h
 |(n,k)::r,cs,h=>by
  unfold gJ at h;cases q:(k==NameKind.free) with
  |false =>
   rw[q]at h;rcases zd r cs h with J|⟨y,aN,J⟩
   .exact .inl J
   .exact .inr ⟨y,List.mem_cons_of_mem _ aN,J⟩
  |true =>
   rw[q]at h;have aw:k=.free:=(by simpa using q);rcases zd r _ h with J|⟨y,aN,J⟩
   .rw[abL]at J;cases z:(x==n) with
    |false=>rw[z]at J;exact .inl J
    |true =>
     rw[z]at J;have e:x=n:=(by simpa using z);subst e;exact .inr ⟨(x,k),List.mem_cons_self,rfl,aw,(abI J).symm⟩
   .exact .inr ⟨y,List.mem_cons_of_mem _ aN,J⟩
theorem zc:∀(l:List (Str×NameKind))(cs:List (Str×Addr)),((∃y∈l,y.1=x/\y.2=.free)\/(cs.lookup x).isSome=true)->((gJ env l cs).lookup x).isSome=true
 |[],cs,h=>by
  rcases h with⟨y,aN,_⟩|h
  .simp at aN
  .exact h
 |(n,k)::r,cs,h=>by
  unfold gJ;cases q:(k==NameKind.free) with
  |false =>
   refine zc r cs ?_;rcases h with⟨y,aN,J,h2⟩|h
   .rcases aa9.mp aN with e|aN
    .subst e;simp only at h2;rw[h2]at q;cases q
    .exact .inl ⟨y,aN,J,h2⟩
   .exact .inr h
  |true =>
   refine zc r _ ?_;rcases h with⟨y,aN,J,h2⟩|h
   .rcases aa9.mp aN with e|aN
    .subst e;simp only at J;subst J;exact .inr (by simp)
    .exact .inl ⟨y,aN,J,h2⟩
   .refine .inr ?_;rw[abL];cases z:(x==n)
    .exact h
    .rfl
theorem nJ{env:Env}{x:Str}:∀{names:List (Str×NameKind)}{k:NameKind},(names.map λ(n,k)=>if (k==NameKind.free&&env.scope.kind==.function&&env.kindOf n==some .cell) then(n,NameKind.cell) else(n,k)).lookup x=some k ->
  names.lookup x=some k\/(names.lookup x=some .free/\k=.cell)
 |[],_,h=>by simp at h
 |(n,j)::r,k,h=>by
  have h:List.lookup x ((if (j==NameKind.free&&env.scope.kind==.function&&env.kindOf n==some .cell)=true then(n,NameKind.cell) else(n,j))::(r.map λ(n,k)=>if (k==NameKind.free&&env.scope.kind==.function&&env.kindOf n==some .cell) then(n,NameKind.cell) else(n,k)))=some k:=h;rw[abL];cases ak:x==n with
  |true =>
   by_cases ag:(j==NameKind.free&&env.scope.kind==.function&&env.kindOf n==some .cell)=true
   .rw[if_pos ag,abL]at h;simp only[ak]at h;have aF:j=.free:=(by simp only[aa6,abG]at ag;exact ag.1.1);exact .inr ⟨by rw[aF],(abI h).symm⟩
   .rw[if_neg ag,abL]at h;simp only[ak]at h;exact .inl h
  |false =>
   by_cases ag:(j==NameKind.free&&env.scope.kind==.function&&env.kindOf n==some .cell)=true
   .rw[if_pos ag,abL]at h;simp only[ak]at h;exact nJ h
   .rw[if_neg ag,abL]at h;simp only[ak]at h;exact nJ h
theorem w4{env:Env}{x:Str}{k:NameKind}:∀{names:List (Str×NameKind)},names.lookup x=some k->k≠.free->(names.map λ(n,k)=>if (k==NameKind.free&&env.scope.kind==.function&&env.kindOf n==some .cell) then(n,NameKind.cell) else(n,k)).lookup x=some k
 |[],h,_=>by simp at h
 |(n,j)::r,h,aw=>by
  show List.lookup x ((if (j==NameKind.free&&env.scope.kind==.function&&env.kindOf n==some .cell)=true then(n,NameKind.cell) else(n,j))::_)=_;rw[abL]at h;cases ak:x==n with
  |true =>
   simp only[ak]at h;have aF:j=k:=abI h;subst aF;have ag:¬(j==NameKind.free&&env.scope.kind==.function&&env.kindOf n==some .cell)=true:=by
    intro z;simp only[aa6,abG]at z;exact aw z.1.1
   rw[if_neg ag,abL];simp only[ak]
  |false =>
   simp only[ak]at h;have aD:=w4 (env:=env) h aw
   by_cases ag:(j==NameKind.free&&env.scope.kind==.function&&env.kindOf n==some .cell)=true
   .rw[if_pos ag,abL];simp only[ak];exact aD
   .rw[if_neg ag,abL];simp only[ak];exact aD
theorem BU{env:Env}{x:Str}:∀{names:List (Str×NameKind)},names.lookup x=some .free->(names.map λ(n,k)=>if (k==NameKind.free&&env.scope.kind==.function&&env.kindOf n==some .cell) then(n,NameKind.cell) else(n,k)).lookup x=some .cell\/(names.map λ(n,k)=>if (k==NameKind.free&&env.scope.kind==.function&&env.kindOf n==some .cell) then(n,NameKind.cell) else(n,k)).lookup x=some .free
 |[],h=>by simp at h
 |(n,j)::r,h=>by
  show List.lookup x ((if (j==NameKind.free&&env.scope.kind==.function&&env.kindOf n==some .cell)=true then(n,NameKind.cell) else(n,j))::_)=_\/List.lookup x ((if (j==NameKind.free&&env.scope.kind==.function&&env.kindOf n==some .cell)=true then(n,NameKind.cell) else(n,j))::_)=_;rw[abL]at h;cases ak:x==n with
  |true =>
   simp only[ak]at h
   by_cases ag:(j==NameKind.free&&env.scope.kind==.function&&env.kindOf n==some .cell)=true
   .rw[if_pos ag,abL];simp[ak]
   .rw[if_neg ag,abL];simp only[ak];exact .inr h
  |false =>
   simp only[ak]at h;have aD:=BU (env:=env) h
   by_cases ag:(j==NameKind.free&&env.scope.kind==.function&&env.kindOf n==some .cell)=true
   .rw[if_pos ag,abL];simp only[ak];exact aD
   .rw[if_neg ag,abL];simp only[ak];exact aD
noncomputable def oy(X:aU)(Mn:Env)(dN:List Str)(s3:Shared)(bj:aB)(bD:List Addr)(pins:List (Addr×Obj)):aU :=
 { X with N:=dN,eL:=s3,rH:=bj,env:=Mn,outer:=X.stack,ex:=bD,fn:=λ_=>false,cf:=X.cf++pins,b9:=λ_ _=>False }
structure pV(X:aU)(scope:Scope)(xs:List Str)(dN:List Str):Prop where
 kind:scope.kind=.function
 nP:∀y∈scope.names,y.2≠.cell
 names:∀y∈scope.names,y.2=.local->scope.names.lookup y.1=some .local
 loc:∀y,scope.names.lookup y=some .local->y∈xs\/y=(".0":Str)
 fl:∀y∈xs,scope.names.lookup y=some .local
 fr:∀y∈scope.names,y.2=.free->X.env.scope.names.lookup y.1=some .cell\/X.env.scope.names.lookup y.1=some .free
 len:dN.length=X.N.length+xs.length
 old:∀(i:Nat) y,i<X.N.length->dN[i]?=some y->(scope.names.lookup y).isSome=true->X.N[i]?=some y/\y∉xs/\y≠(".0":Str)
 new:∀(j:Nat),dN[X.N.length+j]?=xs[j]?
 c4:dN.Nodup
section
def LX{pins:List (Addr×Obj)}{σ:de}{s:Shared}{scope:Scope}{hL:Heap}(I:Inv X pins σ H s)(hf:∀b∈bD,kj X pins H b)(av:∀b∈bD,∃o,s.heap.get? b=some o)(B:pV X scope xs dN)(ny:hL.Ns s.heap.objs.size (λ_=>none))(aw:∀b o,s.heap.get? b=some o->hL.get? b=some o):
  Inv (oy X (compEnvC scope (gJ X.env scope.names []) s.heap.objs.size X.env) dN s H bD pins) [] (σ++List.replicate xs.length none) H { s with heap:=hL,toks:=tk }:=by
 have look:∀y c,(gJ X.env scope.names []).lookup y=some c->X.env.cells.lookup y=some c:=λy c e=>by
  rcases zd _ _ e with h|⟨z,hz,e1,e2,e3⟩
  .simp at h
  .have:=B.fr z hz e2;rw[e1]at this;obtain⟨cW,cD⟩:=I.ok.has y (by rcases this with q|q;exact .inl q;exact .inr q);rw[cD]at e3;simp at e3;rw[cD,e3]
 have has:∀y,scope.names.lookup y=some .free->∃c,(gJ X.env scope.names []).lookup y=some c:=λy e =>
  Option.isSome_iff_exists.mp (zc _ _ (.inl ⟨(y,.free),abS e,rfl,rfl⟩))
 have ZX:∀y c,X.env.cells.lookup y=some c->c<s.heap.objs.size:=λy c e=>by
  obtain⟨v,q⟩:=I.cell y c e;exact q.lt
 have Hx:∀b,b<s.heap.objs.size->b≠s.heap.objs.size:=λb aa=>abp aa
 refine⟨⟨I.ok.mod,B.kind,I.ok.glob,I.ok.blt,abb _,λy z c e1 e2=>I.ok.inj y z c (look y c e1) (look z c e2),λy aN=>?_,λy c q _=>Bool.noConfusion q,I.ok.hd,I.ok.frames,.inl rfl,λb aa=>?_,I.bs,ab2 I.ok.oA I.gR,λb o e aa=>?_,λb aa z7=>?_,I.stack,I.Cg⟩,
  rfl,I.bare,fj.kept aw,⟨_,ny,λi y v e1 e2 e3=>?_⟩,λy c e=>?_,I.fresh,λy c e=>I.hK y c (look y c e),λp au=>?_,I.bz.kept aw,?_⟩
 .-- has
  have aN:(relabel scope X.env).names.lookup y=some .cell\/(relabel scope X.env).names.lookup y=some .free:=aN;have:scope.names.lookup y=some .free:=by
   rcases aN with q|q
   .rcases nJ q with z|z
    .exact absurd rfl (B.nP _ (abS z))
    .exact z.1
   .rcases nJ q with z|z
    .exact z
    .exact z.1
  exact has y this
 .-- vv
  obtain⟨f0,f1,f2,e9,f4,fa⟩:=hf b aa;obtain⟨o,av⟩:=av b aa;exact⟨Hx b (abd av),λy c e=>f4 y c (look y c e)⟩
 .-- qY
  obtain⟨f0,f1,f2,e9,f4,fa⟩:=hf b aa;rcases e9 with q|q
  .exact I.ok.qY b o e q
  .have:=abd (I.ok.bs b o e).1;exact absurd (abr this q) (acv _)
 .-- oQ
  obtain⟨f0,f1,f2,e9,f4,fa⟩:=hf b aa;rcases aa9.mp (I.pK b z7) with q|q
  .exact f1 q
  .exact f2 q
 .-- J0 names
  have ai:i<σ.length:=by
   by_cases ai:i<σ.length
   .exact ai
   .rw[abF ⋯,ac3]at e2
    split at e2<;>cases e2
  rw[abo ai]at e2;have QF:i<X.N.length:=(by rw[<- I.len];exact ai);have e3:e6 (relabel scope X.env) y:=e3;have RC:(scope.names.lookup y).isSome=true:=by
   rcases e3 with q|q|q
   all_goals
    rcases nJ q with z|z
    .rw[z];rfl
    .rw[z.1];rfl
  obtain⟨N9,ak,h0⟩:=B.old i y QF e1 RC;have nu:scope.names.lookup y=some .free:=by
   rcases e3 with q|q|q
   .rcases nJ q with z|z
    .rcases B.loc y z with w|w
     .exact absurd w ak
     .exact absurd w h0
    .exact z.1
   .rcases nJ q with z|z
    .exact absurd rfl (B.nP _ (abS z))
    .exact z.1
   .rcases nJ q with z|z
    .exact z
    .exact z.1
  have aC:=B.fr (y,.free) (abS nu) rfl;obtain⟨m,az,ax⟩:=I.loc;obtain⟨u,r,l⟩:=ax i y v N9 e2 (by rcases aC with q|q;exact .inr (.inl q);exact .inr (.inr q));refine⟨u,r,.inr ⟨?_,?_⟩⟩
  .exact BU nu
  .rcases l with⟨k,_⟩|⟨_,c,gZ,z⟩
   .exfalso;have k:X.env.scope.names.lookup y=some .local:=k;simp only at aC;rcases aC with q|q<;>rw[k]at q<;>cases q
   .obtain⟨cW,cD⟩:=has y nu;have e:cW=c:=(by have:=look y cW cD;rw[gZ]at this;exact(abI this).symm);subst e;obtain⟨o,J,h2⟩:=z;exact⟨cW,cD,o,aw _ _ J,h2⟩
 .-- cells
  obtain⟨v,o,J,h2⟩:=I.cell y c (look y c e);exact⟨v,o,aw _ _ J,h2⟩
 .-- pins
  have au:p∈X.cf++pins:=(by simpa[oy] using au);obtain⟨e,n,ne,jb,d⟩:=I.pin p au;refine⟨aw _ _ e,n,Hx _ (abd e),λaa=>?_,d⟩;rcases aa9.mp (I.pK p.1 aa) with q|q
  .exact ne q
  .exact jb q
 .show _=dN.length;rw[List.length_append,adi,B.len,I.len]
end
noncomputable def nZ:List Nat->List V->de->de
 |i::is,v::af,σ=>nZ is af (σ.set i (some v))
 |_,_,σ=>σ
noncomputable def zP:List Nat->mM
 |[]=>Fg
 |i::is=>Fe (zO i) (zP is)
theorem Ff:∀(ts:List Nat)(af:List V)(σ:de)(H:aB)(Q:de->aB->Prop),af.length=ts.length->Q (nZ ts af σ) H->zP ts af σ H Q
 |[],[],σ,H,Q,_,q=>⟨rfl,q⟩
 |[],_::_,_,_,_,h,_=>by simp at h
 |_::_,[],_,_,_,h,_=>by simp at h
 |i::is,v::af,σ,H,Q,h,q=>⟨v,af,rfl,Ff is af _ H Q (by simpa using h) q⟩
noncomputable def zN(K:W.Frag)(k:Nat)(ts:List Nat):ly:=λv σ H Q=>∃G d,bw G H/\Rep K G d v/\cq (Den.gI k d) (λos=>∀(ws:List D)(af:List V),os=ws.map some->bA K G ws af->Q (nZ ts af σ) H) (λ_=>False)
section
theorem H2(aG:X.N.Nodup):∀(ts:List Nat)(ys:List Str)(aj:List Expr),Den.namesOf aj=some ys->ts.length=ys.length->(∀(j i:Nat) y,ts[j]?=some i->ys[j]?=some y->X.N[i]?=some y/\Loc X.env.scope y/\(X.fn y=true\/X.env.scope.names.lookup y=some .local)) ->
  rM X aj (zP ts)/\(assignEach aj X.env).length=ts.length/\(assignEach aj X.env).findIdx? (·.1)=none
 |ts,ys,[],h,ax,_=>by
  simp only[Den.namesOf,ab0]at h;subst h;have:ts=[]:=(by simpa using ax);subst this;exact⟨U5,rfl,rfl⟩
 |ts,ys,e::aj,h,ax,ak=>by
  simp only[Den.namesOf]at h;cases e with
  |Name x p =>
   cases q:Den.namesOf aj with
   |none=>simp only[Den.nameOf,q]at h;cases h
   |some zs =>
    simp only[Den.nameOf,q,ab0]at h;subst h;cases ts with
    |nil=>simp at ax
    |cons i is =>
     obtain⟨a,b,c⟩:=ak 0 i x rfl rfl;obtain⟨J,h2,h3⟩:=H2 aG is zs aj q (by simpa using ax) λj i y e1 e2=>ak (j+1) i y (by simpa using e1) (by simpa using e2)
     refine⟨U4 (HZ aG a b c) J rfl,?_,?_⟩
     .show(assignEach aj X.env).length+1=is.length+1;rw[h2]
     .show((false,assign (.Name x p) X.env)::assignEach aj X.env).findIdx? (·.1)=none;rw[List.findIdx?_cons];simp only[aba,abw];rw[h3];rfl
  |_=>simp only[Den.nameOf]at h;cases h
def H0(ag:X.calm=true)(aG:X.N.Nodup)(ay:Den.fl k target=some ys)(ax:ts.length=ys.length)(ak:∀(j i:Nat) y,ts[j]?=some i->ys[j]?=some y->X.N[i]?=some y/\Loc X.env.scope y/\(X.fn y=true\/X.env.scope.names.lookup y=some .local)):oi X target (zN X.K k ts):=by
 cases k with
 |zero =>
  cases target with
  |Name x p =>
   simp only[Den.fl,ab0]at ay;subst ay;obtain⟨i,rfl⟩:∃i,ts=[i]:=by
    match ts,ax with
    |[i],_=>exact⟨i,rfl⟩
   obtain⟨a,b,c⟩:=ak 0 i x rfl rfl;intro pins s σ H v u Q I r ⟨G,d,ae,dE,hw⟩;refine HZ aG a b c pins s σ H v u Q I r ?_;exact hw [d] [v] rfl ⟨v,[],rfl,dE,rfl⟩
  |_=>simp only[Den.fl]at ay;cases ay
 |succ k =>
  cases target with
  |Tuple aj j p =>
   simp only[Den.fl]at ay;cases q:Den.namesOf aj with
   |none=>rw[q]at ay;cases ay
   |some zs =>
    rw[q]at ay;simp only at ay
    by_cases hz:zs.length=k+1
    .rw[if_pos hz]at ay;simp only[ab0]at ay;subst ay;obtain⟨J,h2,h3⟩:=H2 aG ts zs aj q ax ak;intro pins s σ H v u Q I r ⟨G,d,ae,dE,hw⟩;refine U3 (n:=ts.length) ag J h2 h3 pins s σ H v u Q I r ?_;cases d with
     |tup ds =>
      obtain⟨a,xs,e,ic,IL⟩:=dE;have aa:Den.gI (k+1) (.tup ds)=if ds.length=k+1 then .ok (ds.map some) else .bad:=rfl;rw[aa]at hw
      by_cases hd:ds.length=k+1
      .rw[if_pos hd]at hw;have FX:xs.length=ts.length:=(by rw[<- IL.length,hd,ax,hz]);exact⟨a,xs,e,iJ ae ic,FX,Ff ts xs σ H Q FX (hw ds xs rfl IL)⟩
      .rw[if_neg hd]at hw;exact hw.elim
     |_=>exact hw.elim
    .rw[if_neg hz]at ay;cases ay
  |_=>simp only[Den.fl]at ay;cases ay
end
structure oe(K:W.Frag)(P:aB->aB->Prop)(dD:jN)(ds:List D):Prop where
 go:∀(i:Nat) aK H1,P aK H1->i<ds.length->dD.go i H1
 ll:∀(i:Nat) aK H1 x aR d,P aK H1->bw aK H1->ds[i]?=some d->dD.ll i H1 x aR->∃cM,Ext aK H1 cM aR/\Rep K cM d x
 stop:∀aK H1,P aK H1->dD.stop ds.length H1
noncomputable def rN(m:fp)(G H:aB):aB->aB->Prop:=λaK H1=>bw G aK/\(match m with|.view=>bw H H1|_=>bw aK H1)
noncomputable def la(xp:dq)(X:aU)(mu:List Nat)(m:fp)(f:bx->cn (List D)):TI:=λσ H R =>
 ∃G ρ,ej X.K mu G H ρ σ/\cq (f ρ) (λds=>∀dD aL ao,Ext G H aL ao->oe X.K (rN m aL ao) dD ds->ds.length<=16777216->R dD ao) (λc=>eY xp X c H)
def wG{α:Type}{r:cn α}{Q:α->Prop}(h:cq (Den.l9 r) Q E):∃a,r=.ok a/\Q a:=by
 cases r with
 |ok a=>exact⟨a,rfl,h⟩
 |exc c=>exact h.elim
 |bad=>exact h.elim
def ej.more{K:W.Frag}(h:ej K mu G H ρ σ)(ia:∀i∈mu,i<ρ.length)(r:bA K G ws af):ej K mu G H (ρ++ws.map some) (σ++af.map some) where
 len:=by rw[List.length_append,List.length_append,h.len,List.length_map,List.length_map,r.length]
 sub:=h.sub
 val:=λi d e hm=>by
  by_cases ai:i<ρ.length
  .rw[abo ai]at e;obtain⟨v,a,b⟩:=h.val i d e hm;exact⟨v,by rw[abo (by rw[<- h.len];exact ai)];exact a,b⟩
  .rw[abF ⋯,abj]at e;cases q:ws[i-ρ.length]? with
   |none=>rw[q]at e;cases e
   |some w =>
    rw[q]at e;simp only[Option.map_some,ab0]at e;subst e;obtain⟨v,a,b⟩:=r.get q;exact⟨v,by rw[abF (by rw[<- h.len];lia),abj,<- h.len,a];rfl,b⟩
 own:=λi d e hm ax=>by
  have ai:=ia i hm;rw[abo ai]at e;obtain⟨v,a,b⟩:=h.own i d e hm ax;exact⟨v,by rw[abo (by rw[<- h.len];exact ai)];exact a,b⟩
 lst:=λi d e hm ax=>by
  have ai:=ia i hm;rw[abo ai]at e;obtain⟨a,o,J,h2⟩:=h.lst i d e hm ax;exact⟨a,o,by rw[abo (by rw[<- h.len];exact ai)];exact J,h2⟩
 dw:=h.dw
 apart:=λi j ds aj a b e1 e2 bQ bW ai aF ne J h2=>by
  have fu:=ia i ai;have Aq:=ia j aF;rw[abo fu]at e1;rw[abo Aq]at e2;rw[abo (by rw[<- h.len];exact fu)]at J;rw[abo (by rw[<- h.len];exact Aq)]at h2;exact h.apart i j ds aj a b e1 e2 bQ bW ai aF ne J h2
theorem I9:∀(af:List V)(σ:de)(gG:de)(n:Nat),n=σ.length->gG.length=af.length->nZ (List.range' n af.length) af (σ++gG)=σ++af.map some
 |[],σ,gG,n,az,ay=>by
  have:gG=[]:=(by simpa using ay);subst this;rfl
 |v::af,σ,gG,n,az,ay=>by
  cases gG with
  |nil=>simp at ay
  |cons t gG =>
   rw[List.length_cons,List.range'_succ,nZ];have e:(σ++t::gG).set n (some v)=(σ++[some v])++gG:=by
    rw[List.set_append_right _ _ ⋯,az];simp
   rw[e,I9 af (σ++[some v]) gG (n+1) (by simp[az]) (by simpa using ay)];simp
section
noncomputable def jo(k:Nat)(dA:bx->cn Bool)(fb:bx->cn D)(ρ:bx)(d:D):cn (Option D):=Den.gI k d>>=λaf=>dA (ρ++af)>>=λb=>if b then fb (ρ++af)>>=λy=>.ok (some y) else .ok none
noncomputable def hg(X:aU)(scope:Scope)(dN:List Str)(s3:Shared)(bj:aB)(bD:List Addr)(pins:List (Addr×Obj)):aU:=oy X (compEnvC scope (gJ X.env scope.names []) s3.heap.objs.size X.env) dN s3 bj bD pins
def LQ{d:D}{os:List (Option D)}(h:Den.gI k d=.ok os):∃ws:List D,os=ws.map some:=by
 cases k with
 |zero=>cases h;exact⟨[d],rfl⟩
 |succ k =>
  cases d with
  |tup ds =>
   have aa:Den.gI (k+1) (.tup ds)=if ds.length=k+1 then .ok (ds.map some) else .bad:=rfl;rw[aa]at h
   by_cases hd:ds.length=k+1
   .rw[if_pos hd]at h;cases h;exact⟨ds,rfl⟩
   .rw[if_neg hd]at h;cases h
  |_=>cases h
end
section
variable{xp:dq}{X:aU}{mu:List Nat}{nf:bx->cn (List D)}{fb:bx->cn D}{dA:bx->cn Bool}{elt target iter:Expr}{ifs:List Expr}{scope:Scope}{pos:Pos}{xs dN:List Str}{k:Nat}
def rQ(xp:dq)(X:aU)(mu:List Nat)(scope:Scope)(dN:List Str)(ifs:List Expr)(dA:bx->cn Bool):Prop :=
 (ifs=[]/\dA=λ_=>.ok true)\/∃(c:Expr)(vw:bx->cn D),ifs=[c]/\(dA=λρ=>vw ρ>>=Den.f6)/\∀s3 bj bD pins,gp (hg X scope dN s3 bj bD pins) c (iL xp (hg X scope dN s3 bj bD pins) mu vw)
def YU(ay:rQ xp X mu scope dN ifs dA){σ:de}(I:Inv (hg X scope dN s3 bj bD pp) pins σ H s)(ae:ej X.K mu G H ρ σ)(aa:dA ρ=.ok b)(aE:∀s' aL ao,Inv (hg X scope dN s3 bj bD pp) pins σ ao s'->Ext G H aL ao->Q b s'):
  wpAny (model X.prog X.w) X.A (forIn ifs true λc r=>if r=true then do let ok <- isTrue c (hg X scope dN s3 bj bD pp).env (eval c (hg X scope dN s3 bj bD pp).env);pure (ForInStep.yield ok) else pure (ForInStep.yield r)) Q (λ_ _=>False) s:=by
 rcases ay with⟨rfl,rfl⟩|⟨c,vw,rfl,rfl,h⟩
 .cases aa;exact wpAny_tests_nil (aE s G H I (Ext.refl ae.sub))
 .refine wpAny_tests_one (abV (h s3 bj bD pp pins s σ H (λf7 ao=>f7=b/\∃aL,Ext G H aL ao) I ⟨G,ρ,ae,?_⟩) (λf7 s' ⟨ao,d8,e,aL,x⟩=>?_) λ_ _ z=>z)
  .have aa:(vw ρ>>=Den.f6)=.ok b:=aa;rw[aa];exact λaL ao x=>⟨rfl,aL,x⟩
  .subst e;exact aE s' aL ao d8 x
def LR{d:D}{os:List (Option D)}(aw:Den.fl k target=some xs)(h:Den.gI k d=.ok os):os.length=xs.length:=by
 cases k with
 |zero =>
  cases h;cases target with
  |Name x p=>simp only[Den.fl,ab0]at aw;subst aw;rfl
  |_=>simp only[Den.fl]at aw;cases aw
 |succ k =>
  have ak:xs.length=k+1:=by
   cases target with
   |Tuple aj j p =>
    simp only[Den.fl]at aw;cases q:Den.namesOf aj with
    |none=>rw[q]at aw;cases aw
    |some zs =>
     rw[q]at aw;simp only at aw
     by_cases hz:zs.length=k+1
     .rw[if_pos hz]at aw;cases aw;exact hz
     .rw[if_neg hz]at aw;cases aw
   |_=>simp only[Den.fl]at aw;cases aw
  cases d with
  |tup ds =>
   have aa:Den.gI (k+1) (.tup ds)=if ds.length=k+1 then .ok (ds.map some) else .bad:=rfl;rw[aa]at h
   by_cases hd:ds.length=k+1
   .rw[if_pos hd]at h;cases h;rw[List.length_map,hd,ak]
   .rw[if_neg hd]at h;cases h
  |_=>cases h
def Tj{a b:List D}(h:a.map some=b.map some):a=b:=by
 induction a generalizing b with
 |nil=>cases b with|nil=>rfl|cons _ _=>simp at h
 |cons x a aD=>cases b with
  |nil=>simp at h
  |cons y b=>simp only[List.map_cons,List.cons.injEq,ab0]at h;rw[h.1,aD h.2]
def CV(X:aU)(pins:List (Addr×Obj))(σ:de)(G H:aB)(use:Option (Value->Sem Unit))(Qc:Value->Shared->Prop)(ys:List D):Prop :=
 ∀(s4:Shared)(ao aL:aB)(C dc:Addr)(m4:Str->Option Value),Ext G H aL ao->cI X.K H aL ao .fresh (.lst ys) (.ref dc)->s4.heap.Ns C m4->kj X pins ao C->(∀h',Heap.SameBut C s4.heap h'->Inv X pins σ ao { s4 with heap:=h' }) ->
  compPost (model X.prog X.w) X.A X.b9 use Qc (.ref dc) C (.ok .next) s4
structure KJ(X Y:aU)(f:D->cn (Option D))(g8:Nat->Heap->Prop)(bD:List Addr)(ds ys:List D)(xs:List Str)(σ:de)(cM aR:aB)(dc:Addr)(n:Nat)(s':Shared)(i:Nat)(gG:de)(ao aL:aB)(mr rest:List D)(hW:List V):Prop where
 J:n=ds.length-i
 h2:i<=ds.length
 h3:gG.length=xs.length
 h4:Inv Y [] (σ++gG) ao s'
 h5:g8 i s'.heap
 el:∀b∈bD,ao b=none
 gx:Ext cM aR aL ao
 cJ:ao dc=some (.lst hW)
 nk:aL dc=none
 qs:bA X.K aL mr hW
 vF:mr.length<=i
 gw:Den.cY f (ds.drop i)=.ok rest
 Z8:ys=mr++rest
def Oe{d:D}{r rest:List D}(h:Den.cY (jo k dA fb ρ) (d::r)=.ok rest):∃(ws:List D)(b:Bool)(q7:List D),Den.gI k d=.ok (ws.map some)/\dA (ρ++ws.map some)=.ok b /\
  Den.cY (jo k dA fb ρ) r=.ok q7/\((b=false/\rest=q7)\/∃y,b=true/\fb (ρ++ws.map some)=.ok y/\rest=y::q7):=by
 simp only[Den.cY]at h;cases aM:jo k dA fb ρ d with
 |exc c=>rw[aM]at h;cases h
 |bad=>rw[aM]at h;cases h
 |ok o =>
 rw[aM]at h;simp only[Den.R.il]at h;cases a7:Den.cY (jo k dA fb ρ) r with
 |exc c=>rw[a7]at h;cases h
 |bad=>rw[a7]at h;cases h
 |ok q7 =>
 rw[a7]at h;simp only[Den.R.il]at h;unfold jo at aM;cases bU:Den.gI k d with
 |exc c=>rw[bU]at aM;cases aM
 |bad=>rw[bU]at aM;cases aM
 |ok os =>
 rw[bU]at aM;simp only[Den.R.il]at aM;obtain⟨ws,rfl⟩:=LQ bU;cases cO:dA (ρ++ws.map some) with
 |exc c=>rw[cO]at aM;cases aM
 |bad=>rw[cO]at aM;cases aM
 |ok b =>
 rw[cO]at aM;simp only[Den.R.il]at aM;cases b with
 |false=>cases aM;cases h;exact⟨ws,false,_,rfl,cO,rfl,.inl ⟨rfl,rfl⟩⟩
 |true =>
  simp only[abY]at aM;cases fK:fb (ρ++ws.map some) with
  |exc c=>rw[fK]at aM;cases aM
  |bad=>rw[fK]at aM;cases aM
  |ok y =>
  rw[fK]at aM;cases aM;cases h;exact⟨ws,true,_,rfl,cO,rfl,.inr ⟨y,rfl,fK,rfl⟩⟩
def D3 (ag : X.calm = true) (ia : ∀ i ∈ mu, i < X.N.length) (B : pV X scope xs dN) (aw : Den.fl k target = some xs) (lT : ∀ x, foldedSetIterable iter X.env x = pure x)
    (ai : ir X target iter (la xp X mu .view nf)) (he : ∀ s3 bj bD pins, aO (hg X scope dN s3 bj bD pins) elt (bG xp (hg X scope dN s3 bj bD pins) mu .val fb)) (ay : rQ xp X mu scope dN ifs dA)
    {σ : de} (I : Inv X pins σ H s) (ae : ej X.K mu G H ρ σ)
    (hw : cq (nf ρ >>= fun ds => Den.l9 (Den.cY (jo k dA fb ρ) ds)) (CV X pins σ G H use Qc) (fun c => eY xp X c H)) :
    wpAny (model X.prog X.w) X.A (comprehension (.ListComp elt [⟨target, iter, ifs, 0⟩] scope pos) scope X.env pos' (newList []) false (eval iter X.env) use) Qc X.b9 s := by
  have Qw : closureFor scope X.env = pure (gJ X.env scope.names []) := Mw fun x ak e => by
    have := B.fr x ak e
    exact I.ok.has x.1 (by rcases this with q | q; exact .inl q; exact .inr q)
  refine wpAny_comprehension_free (use := use) rfl lT Qw B.kind B.names ?_
  refine bR (ai pins s σ H (fun dD ao => ∃ aL ds ys, Ext G H aL ao /\ oe X.K (rN .view aL ao) dD ds /\ ds.length <= 16777216 /\ Den.cY (jo k dA fb ρ) ds = .ok ys /\ CV X pins σ G H use Qc ys) I
    ⟨G, ρ, ae, cz (bS.mp hw) (fun ds ic dD aL ao x lW hz => ?_) fun _ q => q⟩) fun v s1 J => bR J fun AW s2 h2 => ?_
  · obtain ⟨ys, e, q⟩ := wG ic
    exact ⟨aL, ds, ys, x, lW, hz, e, q⟩
  obtain ⟨it, bD, g8, dD, aR, rfl, cb, T, hs, f2, cM, ds, ys, cg, lW, hz, v3, fin⟩ := h2
  refine abE (wpAny_newFunctionEnv B.nP (by intro y aN; simp at aN) (fun hL Ay AI => ?_) B.kind)
  dsimp only at Ay AI ⊢
  have er : Inv X pins σ (upd aR s2.heap.objs.size (.lst [])) { s2 with heap := s2.heap.push { cls := .type "list", data := .seq ([] : List Value).toArray } } := cb.GX (t' := s2.toks) (ys := []) (its := []) .nil (abz _)
  generalize F5 : ({ s2 with heap := s2.heap.push { cls := .type "list", data := .seq ([] : List Value).toArray } } : Shared) = s3 at er
  have FN : s3.heap = s2.heap.push { cls := .type "list", data := .seq ([] : List Value).toArray } := by rw [<- F5]
  rw [<- FN] at Ay AI ⊢
  generalize Fs : s2.heap.objs.size = dc at *
  have sO : aR dc = none := by rw [<- Fs]; exact cb.fresh
  have QB : ∀ b ∈ bD, b ≠ dc := fun b aa z => by
    obtain ⟨o, e, _⟩ := T.obj _ _ hs b aa
    have := abd e
    rw [z, <- Fs] at this
    exact absurd this (acv _)
  have FT : ∀ b o, s2.heap.get? b = some o -> s3.heap.get? b = some o := fun b o e => by rw [FN]; exact aa8 _ e
  have cK : ({ heap := hL, gens := s2.gens, drawn := s2.drawn, toks := s2.toks + ([] : List (Str × Value)).length, os := s2.os } : Shared) = { s3 with heap := hL, toks := s2.toks } := by rw [<- F5]; rfl
  rw [cK]
  show codeAny (model X.prog X.w) X.A (Code.compStart (elt.ListComp [{ target := target, iter := iter, ifs := ifs, is_async := 0 }] scope pos) 0 (Value.ref it) (Value.ref dc) (compEnvC scope (gJ X.env scope.names []) s3.heap.objs.size X.env))
    (compPost (model X.prog X.w) X.A X.b9 use Qc (Value.ref dc) s3.heap.objs.size) { s3 with heap := hL, toks := s2.toks }
  have ny : hL.Ns s3.heap.objs.size (fun _ => none) := by simpa using Ay
  have jt : ∀ b o, s3.heap.get? b = some o -> hL.get? b = some o := fun b o e => AI.extBut b o (abp (abd e)) (aa8 _ e)
  have vL : ∀ b ∈ bD, kj X pins (upd aR dc (.lst [])) b := fun b aa => ⟨by rw [cG (QB b aa)]; exact (f2 b aa).1, (f2 b aa).2⟩
  have Rc : ∀ b ∈ bD, ∃ o, s3.heap.get? b = some o := fun b aa => by
    obtain ⟨o, e, _⟩ := T.obj _ _ hs b aa
    exact ⟨o, FT b o e⟩
  have uP := LX (tk := s2.toks) er vL Rc B ny jt
  generalize gM : oy X (compEnvC scope (gJ X.env scope.names []) s3.heap.objs.size X.env) dN s3 (upd aR dc (.lst [])) bD pins = Y at uP
  have Z1 : Y = hg X scope dN s3 (upd aR dc (.lst [])) bD pins := gM.symm
  have Jy : g8 0 hL := T.keep _ _ _ hs fun b aa o e => jt b o (FT b o e)
  have xg : ej X.K mu cM aR ρ σ := ae.ext cg
  have Q6 : ∀ i ∈ mu, i < ρ.length := fun i ai => by rw [ae.len, I.len]; exact ia i ai
  have aao : ∀ (i : Nat) (d : D), i ∈ mu -> g4 d = true -> ρ[i]? = some (some d) -> σ[i]? ≠ some (some (V.ref dc)) := fun i d ai ax e z => by
    obtain ⟨a, af, J, h2, _⟩ := xg.lst i d e ai ax
    rw [J] at z
    injection z with z
    injection z with z
    injection z with z
    rw [z, sO] at h2; cases h2
  have zJ : ∀ {ao : aB}, (∀ b ∈ bD, ao b = none) -> ∀ b ∈ bD, kj Y [] ao b := fun az b aa => by
    obtain ⟨f0, f1, Pc, e9, f4, fa⟩ := vL b aa
    obtain ⟨e1, e2⟩ := uP.ok.vv b (by rw [<- gM]; exact aa)
    refine ⟨az b aa, e1, uP.ok.oQ b (by rw [<- gM]; exact aa), .inl (by rw [<- gM]; exact aa), e2, fun p au => ?_⟩
    rw [<- gM] at au
    exact fa p (by simpa [oy] using au)
  have loop : codeAny (model X.prog X.w) X.A (.compLoop (.ListComp elt [⟨target, iter, ifs, 0⟩] scope pos) 0 (.ref it) (.ref dc) (compEnvC scope (gJ X.env scope.names []) s3.heap.objs.size X.env))
      (compPost (model X.prog X.w) X.A X.b9 use Qc (Value.ref dc) s3.heap.objs.size) { s3 with heap := hL, toks := s2.toks } := by
    refine MO (fun n s' => ∃ (i : Nat) (gG : de) (ao aL : aB) (mr rest : List D) (hW : List V), KJ X Y (jo k dA fb ρ) g8 bD ds ys xs σ cM aR dc n s' i gG ao aL mr rest hW) ?_ ds.length
      ⟨0, List.replicate xs.length none, _, cM, [], ys, [], by simp, abz _, by simp, uP, Jy, fun b aa => (vL b aa).1, Ext.own cg.sub sO (fun _ z => nomatch z), dm, cg.sub.free sO, rfl, abb _, by simpa using v3, rfl⟩
    rintro n s' ⟨i, gG, ao, aL, mr, rest, hW, rfl, s6, RQ, d8, bh, E8, n6, eG, Fu, BO, aaj, kL, v5⟩
    have oT : rN .view cM aR aL ao := ⟨n6.g, n6.h⟩
    have FH : Y.calm = true := by rw [<- gM]; exact ag
    have z5 : Y.prog = X.prog := by rw [<- gM]; rfl
    have z6 : Y.w = X.w := by rw [<- gM]; rfl
    have FG : Y.K = X.K := by rw [<- gM]; rfl
    have FF : Y.A = X.A := by rw [<- gM]; rfl
    have Z9 : Y.b9 = fun _ _ => False := by rw [<- gM]; rfl
    by_cases bM : i < ds.length
    · have hd : ds[i]? = some ds[i] := abc bM
      generalize ds[i] = d at hd
      have Qx : ds.drop i = d :: ds.drop (i + 1) := by
        have := abt.mp hd
        obtain ⟨J, h2⟩ := this
        rw [<- h2]; exact acS J
      rw [Qx] at kL
      have item := T.item Y z5 z6 FG FH i [] s' (σ ++ gG) ao (fun _ _ => False) d8 (zJ E8) bh (lW.go i aL ao oT bM)
      rw [FF] at item
      refine bR item fun r s4 ⟨u, aV, h4⟩ => ?_
      subst aV
      refine bR h4 fun _ s5 ⟨x, mE, mF, jC, CS, mj, zK⟩ => ?_
      obtain ⟨rF, kc, dE⟩ := lW.ll i aL ao x mE d oT n6.sub hd CS
      have xW := mF.pinned (zJ zK) (T.obj _ _ mj)
      obtain ⟨ws, b, q7, bU, cO, a7, aa⟩ := Oe kL
      have ti : ws.length = xs.length := by have := LR aw bU; simpa using this
      subst gM
      have aQ : oi (oy X (compEnvC scope (gJ X.env scope.names []) s3.heap.objs.size X.env) dN s3 (upd aR dc (.lst [])) bD pins) target (zN X.K k (List.range' X.N.length xs.length)) := by
        refine H0 (X := oy X (compEnvC scope (gJ X.env scope.names []) s3.heap.objs.size X.env) dN s3 (upd aR dc (.lst [])) bD pins) ag B.c4 aw (by simp) fun j cw y e1 e2 => ?_
        rw [List.getElem?_range' (abt.mp e2).1] at e1
        have aN : y ∈ xs := acq e2
        have qz : (relabel scope X.env).names.lookup y = some .local := w4 (B.fl y aN) ∅
        cases e1
        refine ⟨?_, .inl qz, .inr qz⟩
        show dN[X.N.length + 1 * j]? = some y
        rw [Nat.one_mul, B.new j]; exact e2
      refine bR (aQ _ s5 (σ ++ gG) mE x u (fun uI ji => ∃ af : List V, uI = σ ++ af.map some /\ af.length = xs.length /\ ji = mE /\ bA X.K rF ws af) xW jC ⟨rF, d, kc.sub, dE, ?_⟩) fun _ rb ⟨uI, ji, pW, af, so, F8, sq, rws⟩ => ?_
      · rw [bU]
        intro aa3 af e r
        have e := Tj e
        subst e
        have ax : af.length = xs.length := by rw [<- r.length, ti]
        refine ⟨af, ?_, ax, rfl, r⟩
        rw [<- ax]
        exact I9 af σ gG X.N.length (I.len.symm) (by rw [RQ, ax])
      subst so
      subst sq
      have CQ : Ext cM aR rF ji := n6.trans kc
      have Jq : ej X.K mu rF ji (ρ ++ ws.map some) (σ ++ af.map some) := (xg.ext CQ).more Q6 rws
      have Fq : ji dc = some (.lst hW) := kc.h _ _ eG
      have Qj : rF dc = none := kc.new dc Fu (by rw [eG]; exact fun z => nomatch z)
      refine YU ay pW Jq cO fun ue rG hx hy n7 => ?_
      have zX : hx dc = some (.lst hW) := n7.h _ _ Fq
      have Fv : rG dc = none := n7.new dc Qj (by rw [Fq]; exact fun z => nomatch z)
      have Ik : bA X.K rG mr hW := (BO.mono kc.g).mono n7.g
      rcases aa with ⟨rfl, rfl⟩ | ⟨y, rfl, fK, rfl⟩
      · simp only [aba, abw]
        refine ⟨ds.length - (i + 1), by lia, i + 1, af.map some, hx, rG, mr, rest, hW, rfl, by lia, by rw [List.length_map]; exact F8, hy.rp, T.keep _ _ _ mj fun b aa o e => (hy.pin (b, o) (abn _ (abn _ (qT aa e)))).1, fun b aa => ?_, CQ.trans n7, zX, Fv, Ik, by lia, a7, v5⟩
        obtain ⟨bP, e, _⟩ := T.obj _ _ mj b aa
        exact (hy.pin (b, bP) (abn _ (abn _ (qT aa e)))).2.1
      · simp only [abY]
        refine bR (he s3 (upd aR dc (.lst [])) bD pins _ ue (σ ++ af.map some) hx (fun v oc => ∃ mD, Ext rG hx mD oc /\ Rep X.K mD y v) hy ⟨rG, ρ ++ ws.map some, Jq.ext n7, by rw [fK]; exact fun v mD oc rv t8 => ⟨mD, rv, t8⟩⟩) fun u8 Wj ⟨xv, oc, KP, t8, mD, rv, VU⟩ => ?_
        have Qi : oc dc = some (.lst hW) := rv.h _ _ zX
        have Fw : mD dc = none := rv.new dc Fv (by rw [zX]; exact fun z => nomatch z)
        have hlen : hW.length < sizeLine := by rw [<- BO.length, sizeLine_eq]; lia
        refine bR (Hg (X := hg X scope dN s3 (upd aR dc (.lst [])) bD pins) _ Wj (σ ++ af.map some) oc (.ref dc) [xv] (.ref dc) [u8] (fun _ CW => CW = upd oc dc (.lst (hW ++ [xv]))) KP rfl (.cons t8 .nil) ⟨dc, hW, xv, rfl, rfl, Qi, hlen, rfl⟩) fun _ aaV ⟨_, CW, xX, _, oK⟩ => ?_
        subst oK
        have uC : Ext cM aR mD oc := (CQ.trans n7).trans rv
        refine ⟨ds.length - (i + 1), by lia, i + 1, af.map some, _, mD, mr ++ [y], q7, hW ++ [xv], rfl, by lia, by rw [List.length_map]; exact F8, xX.rp, T.keep _ _ _ mj fun b aa o e => (xX.pin (b, o) (abn _ (abn _ (qT aa e)))).1, fun b aa => ?_,
          ⟨uC.g, fun b o e => ?_, fun b o e => ?_, uC.new, fun b xs e => uC.dw b xs (by
            by_cases q : b = dc
            · subst q; rw [dm] at e; cases e
            · rw [cG q] at e; exact e)⟩, dm, Fw, (Ik.mono rv.g).snoc VU, by rw [List.length_append, List.length_singleton]; lia, a7, by rw [v5, acW]; rfl⟩
        · obtain ⟨bP, e, _⟩ := T.obj _ _ mj b aa
          exact (xX.pin (b, bP) (abn _ (abn _ (qT aa e)))).2.1
        · rw [cG (nN e sO)]; exact uC.h b o e
        · rw [cG (nN e Fw)]; exact uC.sub b o e
    · have QJ : i = ds.length := by lia
      subst QJ
      have aV : rest = [] := by
        rw [List.drop_length] at kL
        simp only [Den.cY] at kL
        cases kL; rfl
      subst aV
      rw [acm] at v5
      subst v5
      have done := T.done Y z5 z6 FG FH ds.length [] s' (σ ++ gG) ao (fun _ _ => False) d8 (zJ E8) bh (lW.stop aL ao oT)
      rw [FF] at done
      refine bR done fun r s4 ⟨aV, gn⟩ => ?_
      subst aV
      obtain ⟨m4, FZ, _⟩ := gn.loc
      have zq : Y.env.locals = s3.heap.objs.size := by rw [<- gM]; rfl
      rw [zq] at FZ
      refine fin s4 ao aL s3.heap.objs.size dc m4 (cg.trans n6) ⟨dc, hW, rfl, eG, cg.h.free sO, Fu, BO⟩ FZ (er.sF (abb _) (by have := gn.free; rw [zq] at this; exact this)) fun h' dM => ?_
      have Fp : ao s3.heap.objs.size = none := by have := gn.free; rw [zq] at this; exact this
      have un : fj (gv X.stack) bD (upd aR dc (.lst [])) ao s3.heap s4.heap := by have := gn.base; rw [<- gM] at this; exact this
      have nM : ∀ b o, s3.heap.get? b = some o -> b ≠ s3.heap.objs.size := fun b o e => abp (abd e)
      have Zb : fj (gv X.stack) bD (upd aR dc (.lst [])) ao s3.heap h' :=
        ⟨fun b o e n aa ak => (dM.2 b (nM b o e)).trans (un.keep b o e n aa ak), fun b o e n aa ak => by obtain ⟨bF, q⟩ := un.slot b o e n aa ak; exact ⟨bF, (dM.2 b (nM b o e)).trans q⟩, un.free,
          fun b o e ak => by obtain ⟨bJ, q⟩ := un.there b o e ak; exact ⟨bJ, (dM.2 b (nM b o e)).trans q⟩, un.jG, un.iZ, un.jF⟩
      have AB : d7 X.prog X.w ao h' := fun b o e => by
        have q := gn.bz b o e
        rw [z5, z6] at q
        refine q.jE (fun c v cD q => (dM.2 c ?_).trans q) (fun _ q => q) fun _ _ q => q
        rcases cD with z | z
        · rw [z]; rintro rfl; rw [Fp] at e; cases e
        · rintro rfl; rw [Fp] at z; cases z
      have Uv : s4.os = s3.os := by have := gn.os; rw [<- gM] at this; exact this
      have KQ : Inv X pins σ ao { s4 with heap := h' } := er.DF (s' := { s4 with heap := h' }) Uv Zb AB gn.bare fun b aa => by
        obtain ⟨f0, f1, Pc, e9, f4, fa⟩ := vL b aa
        exact ⟨e9, f1, f4, fa⟩
      exact KQ
  refine codeAny_compStart_list loop (T.self _ _ _ _ _ Jy loop)
def B2(ag:X.calm=true)(ia:∀i∈mu,i<X.N.length)(B:pV X scope xs dN)(aw:Den.fl k target=some xs)(lT:∀x,foldedSetIterable iter X.env x=pure x)(ai:ir X target iter (la xp X mu .view nf))(he:∀s3 bj bD pins,aO (hg X scope dN s3 bj bD pins) elt (bG xp (hg X scope dN s3 bj bD pins) mu .val fb))(ay:rQ xp X mu scope dN ifs dA):
  aO X (.ListComp elt [⟨target,iter,ifs,0⟩] scope pos) (bG xp X mu .fresh λρ=>nf ρ>>=λds=>Den.l9 (Den.cY (jo k dA fb ρ) ds)>>=λys=>.ok (.lst ys)):=by
 intro pins s σ H Q I ⟨G,ρ,ae,hw⟩;rw[eval_ListComp];refine D3 ag ia B aw lT ai he ay I ae (use:=none) (Qc:=eN X pins σ Q) ?_;have hw:=bS.mp hw;refine bS.mpr (cz hw (λds k1=>?_) λ_ q=>q);refine cz (bS.mp k1) (λys k2 s4 ao aL C dc m4 x r az hf inv=>?_) λ_ q=>q
 exact⟨m4,az,λh' dM=>⟨.ref dc,ao,inv h' dM,rfl,k2 _ aL ao x r⟩⟩
end
section
def U7(ax:aO X l iM):ir X dv l (λσ H R=>iM σ H λx H1=>∃a xs,x=.ref a/\((d1 X.K H1 a xs/\(xs.length<=sizeLine->R (xY X.K a) H1))\/(fq X.K H1 a xs/\(xs.length<=sizeLine->R (xZ X.K a) H1)))):=by
 intro pins s σ H R I h;refine bR (ax pins s σ H _ I h) λv s1 ⟨x,H1,aY,aH,aM⟩=>?_
 obtain⟨a,xs,e,⟨aE,q⟩|⟨aE,q⟩⟩:=aM
 .subst e;cases aH;obtain⟨its,bI,p,hz⟩:=aY.list aE;refine adS p.isList ?_;refine⟨s1.heap.objs.size,[s1.heap.objs.size],_,_,H1,rfl,aY.kept (t':=s1.toks) λb o e=>aa8 _ e,Y7 a _,⟨_,abf _ rfl,rfl,rfl⟩,λb aa=>?_,q hz⟩;have e:b=s1.heap.objs.size:=(by simpa using aa);subst e;exact aY.sF (abb _) (aY.bz.fresh (abb _))
 .subst e;cases aH;obtain⟨its,bI,p,hz⟩:=aY.tuple aE;refine aeu (show s1.heap.IsTuple a its.toArray from p) ?_;refine⟨s1.heap.objs.size,[s1.heap.objs.size],_,_,H1,rfl,aY.kept (t':=s1.toks) λb o e=>aa8 _ e,Y9 a _,⟨_,abf _ rfl,rfl,rfl⟩,λb aa=>?_,q hz⟩;have e:b=s1.heap.objs.size:=(by simpa using aa);subst e;exact aY.sF (abb _) (aY.bz.fresh (abb _))
def Gq{K:W.Frag}{a:Addr}(ea:∀aK H1,P aK H1->bw G aK/\d1 K H1 a xs)(r:bA K G ds xs):oe K P (xY K a) ds where
 go:=λi aK H1 h ai=>by
  obtain⟨_,q⟩:=ea aK H1 h;have ak:i<xs.length:=(by rw[<- r.length];exact ai);exact⟨xs,xs[i],q,abc ak⟩
 ll:=λi aK H1 x aR d h ae hd ⟨e,y⟩=>by
  obtain⟨g,q⟩:=ea aK H1 h;subst e;obtain⟨v,J,h2⟩:=r.get hd;have:=y xs q;rw[J]at this;cases this;exact⟨aK,Ext.refl ae,h2.mono g⟩
 stop:=λaK H1 h=>⟨xs,(ea aK H1 h).2,by rw[r.length];exact abb _⟩
def Se{K:W.Frag}{a:Addr}(ea:∀aK H1,P aK H1->bw G aK/\fq K H1 a xs)(r:bA K G ds xs):oe K P (xZ K a) ds where
 go:=λi aK H1 h ai=>by
  obtain⟨_,q⟩:=ea aK H1 h;have ak:i<xs.length:=(by rw[<- r.length];exact ai);exact⟨xs,xs[i],q,abc ak⟩
 ll:=λi aK H1 x aR d h ae hd ⟨e,y⟩=>by
  obtain⟨g,q⟩:=ea aK H1 h;subst e;obtain⟨v,J,h2⟩:=r.get hd;have:=y xs q;rw[J]at this;cases this;exact⟨aK,Ext.refl ae,h2.mono g⟩
 stop:=λaK H1 h=>⟨xs,(ea aK H1 h).2,by rw[r.length];exact abb _⟩
def A4{K:W.Frag}(r:bA K G ds xs)(h:xs.length<=sizeLine):ds.length<=16777216:=by rw[r.length,<- sizeLine_eq];exact h
def WI(hm:m=.view\/m=.val)(ax:aO X l (bG xp X mu m f)):ir X dv l (la xp X mu m λρ=>f ρ>>=λd=>Den.eg d):=by
 intro pins s σ H R I ⟨G,ρ,ae,hw⟩;refine U7 ax pins s σ H R I ?_;refine⟨G,ρ,ae,cz (bS.mp hw) (λd k v aK H1 aT aH=>?_) λ_ q=>q⟩;cases d with
 |lst ds =>
  rcases hm with rfl|rfl
  .obtain⟨a,xs,rfl,ic,r⟩:=mn (X:=X) aH;exact⟨a,xs,rfl,.inl ⟨ic,λhz=>k _ aK H1 aT (Gq (G:=aK) (λcM aR ⟨J,h2⟩=>⟨J,k7 h2 ic⟩) r) (A4 r hz)⟩⟩
  .obtain⟨a,xs,rfl,ic,r⟩:=aH;exact⟨a,xs,rfl,.inl ⟨k7 aT.sub ic,λhz=>k _ aK H1 aT (Gq (G:=aK) (λcM aR ⟨J,h2⟩=>⟨J,k7 h2 (k7 J ic)⟩) r) (A4 r hz)⟩⟩
 |tup ds =>
  have aH:Rep X.K aK (.tup ds) v:=(by rcases hm with rfl|rfl<;>exact aH);obtain⟨a,xs,rfl,ic,r⟩:=aH;refine⟨a,xs,rfl,.inr ⟨iJ aT.sub ic,λhz=>k _ aK H1 aT (Se (G:=aK) (λcM aR ⟨J,h2⟩=>?_) r) (A4 r hz)⟩⟩;rcases hm with rfl|rfl
  .exact⟨J,Jv h2 (iJ aT.sub ic)⟩
  .exact⟨J,Jv h2 (iJ J ic)⟩
 |_=>exact k.elim
def Sd{K:W.Frag}{lo ai:Int}:oe K P (rI lo (ai-lo).toNat) (Den.eT lo ai) where
 go:=λi aK H1 _ bM=>by
  show i<(ai-lo).toNat;unfold Den.eT at bM;simpa using bM
 ll:=λi aK H1 x aR d _ ae hd ⟨e,y⟩=>by
  subst e;unfold Den.eT at hd;rw[abj]at hd;cases q:(List.range (ai-lo).toNat)[i]? with
  |none=>rw[q]at hd;cases hd
  |some k =>
   rw[q]at hd;have aw:k=i:=by
    have:=abt.mp q;obtain⟨_,e⟩:=this;rw[<- e];simp
   subst aw;cases hd;exact⟨aK,Ext.refl ae,y⟩
 stop:=λaK H1 _=>by
  show(ai-lo).toNat<=_;unfold Den.eT;simp
def IF{Q:List D->Prop}(h:cq (Den.kZ i j) Q E):(-(2 ^ 62)<=i/\i<2 ^ 62/\-(2 ^ 62)<=j/\j<2 ^ 62)/\(Den.eT i j).length<=16777216/\Q (Den.eT i j):=by
 unfold Den.kZ at h;cases q:(Den.pC i&&Den.pC j&&decide ((j-i).toNat<=1000000)) with
 |false=>rw[q]at h;exact h.elim
 |true =>
  rw[q]at h;simp only[aa6,Den.pC,abl]at q;obtain⟨⟨⟨a1,a2⟩,a3,a4⟩,a5⟩:=q;refine⟨⟨⋯,⋯,⋯,⋯⟩,?_,h⟩;unfold Den.eT;rw[List.length_map,List.length_range];lia
def WX{x:Str}(ak:x="range")(aQ:fg X x)(hm:X.aS x=none)(aA:aO X a (bG xp X mu .view bC))(cK:starEach [a] X.env=[(false,eval a X.env)]):
  ir X dv (.Call (.Name x p) [a] [] pos) (la xp X mu m λρ=>bC ρ>>=λd=>Den.iU d>>=λi=>Den.kZ 0 i):=by
 subst ak;intro pins s σ H R I ⟨G,ρ,ae,hw⟩;refine U6 aQ hm (nT aA cK) cK pins s σ H R I ?_;refine⟨G,ρ,ae,cz (bS.mp hw) (λd k v aK H1 aT aH=>?_) λ_ q=>q⟩;have k:=bS.mp k;cases d with
 |int i =>
  obtain⟨⟨_,_,b1,b2⟩,hz,q⟩:=IF k;refine⟨i,by rw[cI.wO aH],b1,b2,?_⟩;have:=q (rI 0 (i-0).toNat) aK H1 aT Sd hz;rw[ae5]at this;exact this
 |_=>exact k.elim
end
section
variable{xp:dq}{X:aU}{mu:List Nat}{m:fp}{f bC dR:bx->cn D}{l a b dv:Expr}{pos p:Pos}{pins:List (Addr×Obj)}{σ:de}{G H:aB}{s:Shared}
theorem yZ{K:W.Frag}:∀{ds:List D}{bs:List Bool}{xs:List V},Den.ix ds=some bs->bA K G ds xs->xs=bs.map V.aP
 |[],bs,xs,h,r=>by cases h;exact r
 |d::ds,bs,xs,h,⟨v,t,e,aH,aX⟩=>by
  subst e;cases d with
  |aP b =>
   simp only[Den.ix]at h;cases q:Den.ix ds with
   |none=>rw[q]at h;cases h
   |some cs =>
    rw[q]at h;simp only[Option.map_some,ab0]at h;subst h;have aH:v=.aP b:=aH;rw[aH,yZ q aX];rfl
  |_=>simp only[Den.ix]at h;cases h
theorem xE:∀{bs:List Bool}{us:List Value},Vals (bs.map V.aP) us->us=bs.map Value.bool
 |[],_,r=>by cases r;rfl
 |b::bs,_,r=>by
  cases r with
  |cons aH aX=>rw[xE aX,(show _=Value.bool b from aH)];rfl
def DE(ag:X.calm=true)(I:Inv X pins σ H s){a:Addr}{bs:List Bool}(h:d1 X.K H a (bs.map V.aP)\/fq X.K H a (bs.map V.aP)){Q:Value->Shared->Prop}{r:List Nat->(Nat->Bool)->Bool}(aE:∀h' tk,Inv X pins σ H { s with heap:=h',toks:=tk }->Q (.bool (r (List.range bs.length) λi=>bs.getD i false)) { s with heap:=h',toks:=tk }):
  wpAny (model X.prog X.w) X.A.in1 (pyIter (.ref a)) (λit gF=>∃I bD wr n P St fL,it=.ref I/\Walks X.prog X.w X.A.in1 I bD wr n P St/\St 0 gF.heap/\TruthOf X.prog X.w X.A.in1 P fL /\
   ∀h' tk,(∀b o,b∉wr->gF.heap.get? b=some o->h'.get? b=some o)->Q (.bool (r (List.range n) fL)) { gF with heap:=h',toks:=tk }) X.b9 s:=by
 have bZ:X.A.in1.handled=none:=I.ok.hd ag;have J2:∀its:List Value,its=bs.map Value.bool->TruthOf X.prog X.w X.A.in1 (λi v=>its.toArray[i]?=some v) λi=>bs.getD i false:=by
  intro its e i v s Q E aI dh;subst e;have aI:(bs.map Value.bool)[i]?=some v:=(by simpa using aI);rw[abj]at aI;cases q:bs[i]? with
  |none=>rw[q]at aI;cases aI
  |some b =>
   rw[q]at aI;cases aI;refine acE ?_;have:bs.getD i false=b:=(by simp[List.getD,q]);have dh:Q (bs.getD i false) s:=dh;rw[this]at dh;exact dh
 rcases h with h|h
 .obtain⟨its,bI,b0,hz⟩:=I.list h;have e:=xE bI;have ax:its.toArray.size=bs.length:=(by rw[abe,e,List.length_map]);refine adS b0.isList ?_;have dJ:a≠s.heap.objs.size:=(by obtain⟨o,n,av,_⟩:=b0;exact abp (abd av));refine⟨s.heap.objs.size,_,_,_,_,_,λi=>bs.getD i false,rfl,Walks.list bZ _ a dJ its.toArray,⟨⟨_,abf _ rfl,rfl,rfl⟩,(let ⟨o,av,r⟩:=b0.isList;⟨o,aa8 _ av,r⟩)⟩,J2 its e,λh' tk aw=>?_⟩;rw[ax];refine aE h' tk (I.kept λb o e=>aw b o (by simp;exact abp (abd e)) (aa8 _ e))
 .obtain⟨its,bI,b0,hz⟩:=I.tuple h;have e:=xE bI;have ax:its.toArray.size=bs.length:=(by rw[abe,e,List.length_map]);refine aeu (show s.heap.IsTuple a its.toArray from b0) ?_;have dJ:a≠s.heap.objs.size:=(by obtain⟨o,av,_⟩:=b0;exact abp (abd av));refine⟨s.heap.objs.size,_,_,_,_,_,λi=>bs.getD i false,rfl,Walks.tuple bZ _ a dJ its.toArray,⟨⟨_,abf _ rfl,rfl,rfl⟩,(let ⟨o,av,r⟩:=b0;⟨o,aa8 _ av,r⟩)⟩,J2 its e,λh' tk aw=>?_⟩;rw[ax];refine aE h' tk (I.kept λb o e=>aw b o (by simp;exact abp (abd e)) (aa8 _ e))
def range_getD(bs):(List.range bs.length).map (λi=>bs.getD i false)=bs:=by
 apply acG;intro i;rw[abj]
 by_cases h:i<bs.length
 .rw[ac1 h];simp[List.getD,h]
 .rw[abC (by simpa using h),abC (by simpa using h)];rfl
def all_range(bs:List Bool):(List.range bs.length).all (λi=>bs.getD i false)=bs.all id:=by
 conv=>rhs;rw[<- range_getD bs]
 rw[List.all_map];rfl
def any_range(bs:List Bool):(List.range bs.length).any (λi=>bs.getD i false)=bs.any id:=by
 conv=>rhs;rw[<- range_getD bs]
 rw[List.any_map];rfl
def w9(ae:bw G H)(b8:View X.K G H d x){Q:List D->Prop}(h:cq (Den.eg d) Q E):∃ds a xs,x=.ref a/\(d1 X.K H a xs\/fq X.K H a xs)/\bA X.K G ds xs/\Q ds:=by
 cases d with
 |tup ds =>
  obtain⟨a,ys,rfl,k,q⟩:=n5 ae b8;exact⟨ds,a,ys,rfl,.inr k,q,h⟩
 |lst ds =>
  obtain⟨a,ys,rfl,k,q⟩:=mn b8;exact⟨ds,a,ys,rfl,.inl k,q,h⟩
 |_=>exact h.elim
def Kx{ds:List D}{Q:Bool->Prop}{E:Nat->Prop}{r:List Bool->Bool}(h:cq (match Den.ix ds with|some bs=>Den.R.ok (r bs)|none=>.bad) Q E):∃bs,Den.ix ds=some bs/\Q (r bs):=by
 cases q:Den.ix ds with
 |none=>rw[q]at h;exact h.elim
 |some bs=>rw[q]at h;exact⟨bs,rfl,h⟩
def Pd(ag:X.calm=true):gS X (.builtin "all") (kY X.K m λd=>Den.eg d>>=λxs=>Den.mP xs>>=λb=>.ok (.aP b)):=by
 intro pins s σ H xs us Q I r ⟨G,x,d,ex,ae,b8,hw⟩;subst ex;obtain⟨u,rfl,bf⟩:=vals1 r;obtain⟨ds,a,ys,rfl,aE,rs,hw⟩:=w9 ae b8 (bS.mp hw);obtain⟨bs,e,hw⟩:=Kx (r:=λbs=>bs.all id) (bS.mp hw);rw[yZ e rs]at aE;cases bf;refine call_all_walk (DE ag I aE (r:=λl t=>l.all t) λh' tk d8=>?_);rw[all_range];exact⟨.aP _,H,d8,rfl,hw _ G H (Ext.refl ae) cI.aP⟩
def Pe(ag:X.calm=true):gS X (.builtin "any") (kY X.K m λd=>Den.eg d>>=λxs=>Den.mQ xs>>=λb=>.ok (.aP b)):=by
 intro pins s σ H xs us Q I r ⟨G,x,d,ex,ae,b8,hw⟩;subst ex;obtain⟨u,rfl,bf⟩:=vals1 r;obtain⟨ds,a,ys,rfl,aE,rs,hw⟩:=w9 ae b8 (bS.mp hw);obtain⟨bs,e,hw⟩:=Kx (r:=λbs=>bs.any id) (bS.mp hw);rw[yZ e rs]at aE;cases bf;refine call_any_walk (DE ag I aE (r:=λl t=>l.any t) λh' tk d8=>?_);rw[any_range];exact⟨.aP _,H,d8,rfl,hw _ G H (Ext.refl ae) cI.aP⟩
end
section
def P4{lo ai:Option Int}(ay:IsTup s.heap t items)(ae:s.heap.IsSliceOf bF fM fN .none)(b0:IsPart fM lo)(pu:IsPart fN ai)(hw:c2.bN items.size 0 lo=0/\c2.bN items.size items.size ai=items.size)(h:Q (.ref t) s):wpAny (model prog w) A (getItem (.ref t) (.ref bF)) Q E s:=by
 obtain⟨os,o1,h6,kI⟩:=id ae;have z3:s.TypeIs (.ref bF) "slice":=⟨os,o1,h6⟩;unfold getItem
 try with_reducible refine acf ?_
 first|refine aa5 (aa7 ?_)|skip
 refine aa5 (wpAny_sequenceKey ay.typeIs ∅ ?_);refine aa5 (acb (name:=Str.ofString "__getitem__") ay.typeIs abX
  (ab5 abX ay.typeIs entry_tuple_getitem ?_ (args_tuple_getitem _ _)))
 show wpAny _ _ (Builtin.Tuple.tupleItemsOf (.ref t)>>=_) _ _ s;refine aa5 (PyProof.Rows.tupleItemsOf_ ay ?_);refine aa5 (ac7 z3 ?_);rw[if_pos ∅];refine aa5 (c2.Jk ae b0 pu ?_);have RN:(((c2.bN items.size 0 lo:Nat):Int)==0&&(1:Int)==1&&(c2.bN items.size items.size ai-c2.bN items.size 0 lo)==items.size)=true:=by
  rw[hw.1,hw.2];simp
 show wpAny _ _ (if (((c2.bN items.size 0 lo:Nat):Int)==0&&(1:Int)==1&&(c2.bN items.size items.size ai-c2.bN items.size 0 lo)==items.size)=true then _ else _) _ _ s;rw[if_pos RN];unfold Builtin.Tuple.tupleIsExact;refine aa5 (aa5 (ac7 ay.typeIs (aa7 ?_)));rw[if_pos ∅];refine aa5 (ad7 (aa7 ⟨_,rfl,aa7 h⟩))
end
section
variable{xp:dq}{X:aU}{mu:List Nat}{m:fp}{f bC dR:bx->cn D}{eQ nh:bx->cn (Option Int)}{a b dv:Expr}{lo ai:Option Expr}{pos p p2:Pos}{pins:List (Addr×Obj)}{σ:de}{G H:aB}{s:Shared}
def w7(n d)(o):Den.bN n d o=c2.bN n d o:=by
 cases o with
 |none=>rfl
 |some i =>
  simp only[Den.bN,c2.bN]
  by_cases h:i<0
  .rw[if_pos h,if_pos h];split<;>lia
  .rw[if_neg h,if_neg h];split<;>lia
def D6{K:W.Frag}(r:bA K G ds xs)(lo ai):bA K G (Den.cut ds lo ai) (lD xs lo ai):=by
 unfold Den.cut lD;rw[w7,w7,r.length];exact(r.drop _).take _
noncomputable def rm(xp:dq)(X:aU)(mu:List Nat)(f:bx->cn (Option Int)):p6:=λσ H Q =>
 ∃G ρ,ej X.K mu G H ρ σ/\cq (f ρ) (λo=>∀aL ao,Ext G H aL ao->Q o ao) (λc=>eY xp X c H)
def WM:kl X none (rm xp X mu λ_=>.ok none):=by
 intro pins s σ H Q I ⟨G,ρ,ae,hw⟩;exact Vd pins s σ H Q I (hw G H (Ext.refl ae.sub))
def WQ(aA:aO X a (bG xp X mu .view bC)):kl X (some a) (rm xp X mu λρ=>bC ρ>>=λx=>Den.iU x>>=λi=>.ok (some i)):=by
 intro pins s σ H Q I ⟨G,ρ,ae,hw⟩;refine Ve aA pins s σ H Q I ?_;refine⟨G,ρ,ae,cz (bS.mp hw) (λd k v aK H1 aT aH=>?_) λ_ q=>q⟩;cases d with
 |int i=>exact⟨i,cI.wO aH,k aK H1 aT⟩
 |_=>exact k.elim
noncomputable def VJ(K:W.Frag):V->Option Int->Option Int->aB->dn->Prop:=λx lo ai H Q =>
 ∃G d,bw G H/\View K G H d x/\cq (Den.k4 d lo ai) (λd'=>∀v aL ao,Ext G H aL ao->cI K H aL ao .fresh d' v->Q v ao) (λ_=>False)
def Xr:rP X (λx lo ai H Q=>∃a xs,x=.ref a/\fq X.K H a xs/\(c2.bN xs.length 0 lo=0/\c2.bN xs.length xs.length ai=xs.length)/\Q (.ref a) H):=by
 intro pins s σ H x v fM fN lo ai bF Q I bf ae b0 pu h;obtain⟨a,xs,rfl,ak,hw,q⟩:=h;cases bf;obtain⟨its,r,ay,hz⟩:=I.tuple ak;have hlen:its.toArray.size=xs.length:=by rw[abe];exact r.length.symm
 refine⟨"tuple",_,abX.lookup,ay.typeIs,?_⟩;exact P4 ay ae b0 pu (by rw[hlen];exact hw) ⟨.ref a,H,I,rfl,q⟩
def MW{ds:List D}{lo ai:Option Int}(h:c2.bN ds.length 0 lo=0/\c2.bN ds.length ds.length ai=ds.length):Den.cut ds lo ai=ds:=by
 unfold Den.cut;rw[w7,w7,h.1,h.2];simp
def Xq:rP X (VJ X.K):=by
 intro pins s σ H x v fM fN lo ai bF Q I bf ae b0 pu ⟨G,d,qD,b8,hw⟩;cases d with
 |tup ds =>
  obtain⟨a,xs,rfl,k,r⟩:=n5 qD b8
  by_cases fH:c2.bN xs.length 0 lo=0/\c2.bN xs.length xs.length ai=xs.length
  .refine Xr pins s σ H _ v fM fN lo ai bF Q I bf ae b0 pu ⟨a,xs,rfl,k,fH,?_⟩;rw[Den.xf,MW (by rw[r.length];exact fH)]at hw;exact hw _ G H (Ext.refl qD) b8
  .refine Xu pins s σ H _ v fM fN lo ai bF Q I bf ae b0 pu ⟨a,xs,rfl,k,fH,λp au=>?_⟩;rw[Den.xf]at hw;exact hw _ (upd G p (.tup (lD xs lo ai))) _ (Ext.put qD au) ⟨p,_,rfl,dm,(D6 r lo ai).mono (fU (qD.free au))⟩
 |lst ds =>
  obtain⟨a,xs,rfl,k,r⟩:=mn b8;refine Xs pins s σ H _ v fM fN lo ai bF Q I bf ae b0 pu ⟨a,xs,rfl,k,λp au=>?_⟩;rw[Den.Jm]at hw;exact hw _ G _ (Ext.own qD au λ_ z=>nomatch z) ⟨p,_,rfl,dm,au,qD.free au,D6 r lo ai⟩
 |_=>exact hw.elim
def Xt{d:D}{lo ai:Option Int}:Den.k4 d lo ai≠.exc c:=by cases d<;>simp[Den.k4]
def W0(aA:aO X a (bG xp X mu .view bC))(ax:kl X lo (rm xp X mu eQ))(bZ:kl X ai (rm xp X mu nh)):
  aO X (.Subscript a (.Slice lo ai none p2) pos) (bG xp X mu .fresh λρ=>bC ρ>>=λx=>eQ ρ>>=λl=>nh ρ>>=λh=>Den.k4 x l h):=by
 intro pins s σ H Q I ⟨G,ρ,ae,hw⟩;refine UR Xq aA ax bZ pins s σ H Q I ?_;refine⟨G,ρ,ae,cz (bS.mp hw) (λbk ie v aK H1 aT aH=>?_) λ_ q=>q⟩;refine⟨aK,ρ,ae.ext aT,cz (bS.mp ie) (λl k cM aR cg=>?_) λ_ q=>q.mono aT.h⟩;refine⟨cM,ρ,(ae.ext aT).ext cg,cz (bS.mp k) (λh k2 ob bj iN=>?_) λ_ q=>(q.mono aT.h).mono cg.h⟩;refine⟨ob,bk,iN.sub,View.ext iN (View.ext cg aH),?_⟩;exact cz (uB k2 (λc=>Xt)) (λd q v4 KN fD pT ip=>q v4 KN fD (((aT.trans cg).trans iN).trans pT) (((ip.old iN.h).old cg.h).old aT.h)) λ_ q=>q
end
section
def C7(prog:Program)(w:World)(A:Around)(af:List Value)(s1:Shared)(Q:Value->Shared->Prop):Prop :=
 ∃(κ:SortKind)(lt:Nat->Nat->Bool),Tm.Ord lt/\(∀i j,i<af.length->j<af.length->af.getD i Value.none=af.getD j Value.none->∀k,lt i k=lt j k/\lt k i=lt k j)/\af.length<64 /\
   (2<=af.length->∀(h':Heap),(∀b o,s1.heap.get? b=some o->h'.get? b=some o)->∀dO:SortKind->Shared->Prop,dO κ { s1 with heap:=h' }->wpAny (model prog w) A (keyKind' af.toArray) dO (λ_ _=>False) { s1 with heap:=h' }) /\
   (2<=af.length->∀(h':Heap),(∀b o,s1.heap.get? b=some o->h'.get? b=some o)->∀(i j:Nat)(C:Bool->Shared->Prop),i<af.length->j<af.length->C (lt i j) { s1 with heap:=h' }->PySem.W.kas_ask prog w A κ af i j C { s1 with heap:=h' }) /\
   ∀p:List Nat,p.Perm (List.range af.length)->p.Pairwise (λi j=>lt j i=false)->∀(h':Heap)(c:Nat),(∀b o,s1.heap.get? b=some o->h'.get? b=some o)->h'.get? s1.heap.objs.size=some (seqObj "list" (p.map λi=>af.getD i Value.none).toArray c)->Q (.ref s1.heap.objs.size) { s1 with heap:=h' }
def Cb(ag:wpAny (model prog w) A.in1 (collect src) (λaf s1=>C7 prog w A.in1.in1 af s1 Q) (λ_ _=>False) s):wpAny (model prog w) A (call (.builtin "sorted") [src]) Q E s:=by
 refine Calls.call_function_entry kind_sorted plain_sorted entry_sorted (args_sorted1 _) ?_;unfold Builtin.«sorted»;refine aa5 (m:=checkCount "sorted" 1 1 _) (aa7 ?_);refine aa5 (abV ag (λaf s1 ak=>?_) λ_ _ z=>z.elim);obtain⟨κ,lt,en,aI,zU,aw,sT,aE⟩:=ak;refine aa5 (wpAny_newList ?_ (by rw[sizeLine_eq];lia));have vS:(s1.heap.push (seqObj "list" af.toArray 0)).get? s1.heap.objs.size=some (seqObj "list" af.toArray 0):=abf _ rfl;have keep:∀{h':Heap},(∀b o,b≠s1.heap.objs.size->(s1.heap.push (seqObj "list" af.toArray 0)).get? b=some o->h'.get? b=some o)->∀b o,s1.heap.get? b=some o->h'.get? b=some o:=λfv b o q =>
  fv b o (abp (abd q)) (aa8 _ q)
 show wpAny _ _ _ _ _ { s1 with heap:=s1.heap.push (seqObj "list" af.toArray 0) };refine aa5 (acf (ab5 slot_list_sort ⟨_,vS,rfl⟩ entry_list_sort ?body (args_list_sort _)))
 case body =>
  refine Tm.Ta (s:={ s1 with heap:=s1.heap.push (seqObj "list" af.toArray 0) }) (κ:=κ) (lt:=lt) en aI vS zU (λh2 h' k dO q=>?_) (λh2 h' k=>sT h2 h' (keep k)) λp p1 p2 h' c k aQ=>?_
  .exact abV (aw h2 h' (keep k) dO q) (λ_ _ z=>z) λ_ _ z=>z.elim
  .exact⟨_,rfl,aa7 ⟨_,rfl,aE p p1 p2 h' c (keep k) aQ⟩⟩
end
noncomputable abbrev j9(c:List Int):D:=bg.aq c
def ints_of{ds:List D}(h:ds.all (Den.fJ 0)=true):∃ns:List Int,ds=ns.map Den.D.int:=wu h
theorem xr:∀{ds:List D},ds.all Den.nE=true->∃ar:List (List Int),ds=ar.map j9/\∀k∈ar,k≠[]
 |[],_=>⟨[],rfl,by simp⟩
 |d::ds,h=>by
  simp only[List.all_cons,aa6]at h;obtain⟨ar,rfl,aw⟩:=xr h.2;cases d with
  |tup xs =>
   cases xs with
   |nil=>cases h.1
   |cons x xs =>
    have J:(Den.fJ 0 x&&xs.all (Den.fJ 0))=true:=h.1;have J:(x::xs).all (Den.fJ 0)=true:=J;obtain⟨ns,e⟩:=wu J;refine⟨ns::ar,by rw[e];rfl,λk fv=>?_⟩;rcases aa9.mp fv with rfl|fv
    .rintro rfl;cases e
    .exact aw k fv
  |_=>cases h.1
section
theorem Cy{pins:List (Addr×Obj)}{σ:de}{s:Shared}(I:Inv X pins σ H s)(ae:bw G H):∀{ar:List (List Int)}{xs:List V}{us:List Value},(∀k∈ar,k≠[])->bA X.K G (ar.map j9) xs->Vals xs us->fi.gs s.heap us ar
 |[],_,_,_,r,v=>by cases r;cases v;exact trivial
 |k::ar,_,_,az,⟨x,t,e,aH,aX⟩,v=>by
  subst e;cases v with
  |cons v1 v2 =>
   obtain⟨a,ys,rfl,h,q⟩:=aH;cases v1;obtain⟨its,bI,⟨o,av,ag,n,hd⟩,_⟩:=I.tuple (iJ ae h);rw[jD q]at bI;exact⟨⟨a,o,its.toArray,n,rfl,av,ag,hd,by simpa using intsAre_of bI,az k List.mem_cons_self⟩,Cy I ae (λz hz=>az z (List.mem_cons_of_mem _ hz)) aX v2⟩
theorem DM:∀{ds:List D},ds.all Den.nD=true->∃cs:List (List (List Int)),ds=cs.map bg.r5/\(∀c∈cs,c≠[])/\∀c∈cs,∀k∈c,k≠[]
 |[],_=>⟨[],rfl,by simp,by simp⟩
 |d::ds,h=>by
  simp only[List.all_cons,aa6]at h;obtain⟨cs,rfl,J,h2⟩:=DM h.2;cases d with
  |tup xs =>
   cases xs with
   |nil=>cases h.1
   |cons x xs =>
    have h3:(x::xs).all Den.nE=true:=h.1;obtain⟨c,e,h4⟩:=xr h3;refine⟨c::cs,by rw[e];rfl,λk aw=>?_,λk aw=>?_⟩
    .rcases aa9.mp aw with rfl|aw
     .rintro rfl;cases e
     .exact J k aw
    .rcases aa9.mp aw with rfl|aw
     .exact h4
     .exact h2 k aw
  |_=>cases h.1
theorem J6{pins:List (Addr×Obj)}{σ:de}{s:Shared}(I:Inv X pins σ H s)(ae:bw G H):∀{cs:List (List (List Int))}{xs:List V}{us:List Value},(∀c∈cs,c≠[])->(∀c∈cs,∀k∈c,k≠[])->bA X.K G (cs.map bg.r5) xs->Vals xs us->fi.iS s.heap us cs
 |[],_,_,_,_,r,v=>by cases r;cases v;exact trivial
 |c::cs,_,_,az,hm,⟨x,t,e,aH,aX⟩,v=>by
  subst e;cases v with
  |cons v1 v2 =>
   obtain⟨a,ys,rfl,h,q⟩:=aH;cases v1;obtain⟨its,bI,⟨o,av,ag,n,hd⟩,_⟩:=I.tuple (iJ ae h);exact⟨⟨a,o,its.toArray,n,rfl,av,ag,hd,by simpa using Cy I ae (hm c List.mem_cons_self) q bI,az c List.mem_cons_self⟩,J6 I ae (λz hz=>az z (List.mem_cons_of_mem _ hz)) (λz hz=>hm z (List.mem_cons_of_mem _ hz)) aX v2⟩
theorem Iw{K:W.Frag}(r:bA K G ds xs)(v:Vals xs us):∀{p:List Nat},(∀i∈p,i<ds.length) ->
  ∃ys,bA K G (p.map λi=>ds.getD i .dT) ys/\Vals ys (p.map λi=>us.getD i Value.none)
 |[],_=>⟨[],rfl,.nil⟩
 |i::p,h=>by
  obtain⟨ys,J,h2⟩:=Iw r v (p:=p) λj aF=>h j (List.mem_cons_of_mem _ aF)
  have ai:=h i List.mem_cons_self;have e:ds[i]?=some (ds.getD i .dT):=(by rw[abc ai];simp[List.getD,abc ai]);obtain⟨y,k1,k2⟩:=r.get e;obtain⟨u,k3,b6⟩:=v.get k1;have e2:us.getD i Value.none=u:=(by simp[List.getD,k3]);exact⟨y::ys,⟨y,ys,rfl,k2,J⟩,by rw[List.map_cons,e2];exact .cons b6 h2⟩
def BW{K:W.Frag}{κ:Type}{f:κ->D}{lt:κ->κ->Bool}(L:bg.gU lt)(hf:∀a b,Den.i8 (f a) (f b)=some (lt a b))(z){ar:List κ}(r:bA K G (ar.map f) xs)(v:Vals xs us){p:List Nat}(J:p.Perm (List.range us.length))(h2:p.Pairwise (λi j=>fi.ltI lt z ar j i=false)):
  ∃ys,bA K G (Den.hq (ar.map f)) ys/\Vals ys (p.map λi=>us.getD i Value.none):=by
 have ax:us.length=ar.length:=by rw[<- v.length,<- r.length,List.length_map]
 rw[ax]at J;rw[bg.k6 hf,<- fi.XC L z ar J h2,List.map_map];obtain⟨ys,k1,k2⟩:=Iw r v (p:=p) λi ai=>by
  have:=J.mem_iff.mp ai;rw[List.length_map];simpa using this
 refine⟨ys,?_,k2⟩;have e:(p.map λi=>(ar.map f).getD i .dT)=p.map (f ∘ λi=>ar.getD i z):=by
  apply abM;intro i ai;have ai:i<ar.length:=(by simpa using J.mem_iff.mp ai);simp[List.getD,abj,abc ai]
 rw[<- e];exact k1
def Ca{pins:List (Addr×Obj)}{σ:de}{s:Shared}(bZ:X.A.handled=none)(bc:X.A.units+64<cLine)(I:Inv X pins σ H s)(ae:bw G H)(r:bA X.K G ds xs)(v:Vals xs us)(h9:(Den.ih ds||ds.all Den.nD)=true)(gL:ds.length<=63)(k:∀v aL ao,Ext G H aL ao->cI X.K H aL ao .fresh (.lst (Den.hq ds)) v->Q v ao):C7 X.prog X.w X.A.in1.in1 us s (eN X pins σ Q):=by
 have hlen:us.length=ds.length:=by rw[<- v.length,<- r.length]
 have fin:∀{out:List Value}{ys:List V}(h':Heap)(c:Nat),bA X.K G (Den.hq ds) ys->Vals ys out->out.length=us.length->(∀b o,s.heap.get? b=some o->h'.get? b=some o)->h'.get? s.heap.objs.size=some (seqObj "list" out.toArray c)->eN X pins σ Q (.ref s.heap.objs.size) { s with heap:=h' }:=λ{out ys} h' c gE Kr av aw aQ=>by
  refine⟨.ref s.heap.objs.size,_,I.laid (t':=s.toks) (o:=.lst ys) aw (abb _) ⟨by rw[Kr.length,av,hlen,sizeLine_eq];lia,out,c,Kr,aQ⟩,rfl,?_⟩;exact k _ G _ (Ext.own ae I.fresh λ_ z=>nomatch z) ⟨_,ys,rfl,dm,I.fresh,ae.free I.fresh,gE⟩
 have A6:∀{p:List Nat},p.Perm (List.range us.length)->(p.map λi=>us.getD i Value.none).length=us.length:=λh=>by rw[List.length_map,h.length_eq,List.length_range]
 unfold Den.ih at h9;rw[acI,acI]at h9;rcases h9 with(h|h)|h
 .obtain⟨ns,rfl⟩:=ints_of h;have bV:IntsAre us ns:=(by rw[jD r]at v;exact intsAre_of v);refine⟨oneType',fi.ltI bg.ltI 0 ns,fi.Bv bg.i7 0 ns,fi.Bs (fi.Sv bV),⋯,λh2 h' _ dO q=>fi.SE bV h2 q,λh2 h' _ i j C ai aF q=>fi.LD bV i j C ai aF q,λp p1 p2 h' c aw aQ=>?_⟩;obtain⟨ys,k1,k2⟩:=BW bg.i7 (f:=Den.D.int) (λ_ _=>rfl) 0 r v p1 p2;exact fin h' c k1 k2 (A6 p1) aw aQ
 .obtain⟨ar,rfl,dJ⟩:=xr h;have cu:=Cy I ae dJ r v;refine⟨tuples' true,fi.ltI bg.lexLt [] ar,fi.Bv bg.kQ [] ar,fi.Bs (fi.SA cu),⋯,λh2 h' k dO q=>fi.SF (s:={ s with heap:=h' }) (cu.kept k) h2 q,λh2 h' k i j C ai aF q=>fi.LF (s:={ s with heap:=h' }) (cu.kept k) i j C ai aF q,λp p1 p2 h' c aw aQ=>?_⟩;obtain⟨ys,k1,k2⟩:=BW bg.kQ (f:=j9) (λa b=>bg.pb a b) [] r v p1 p2;exact fin h' c k1 k2 (A6 p1) aw aQ
 .obtain⟨ar,rfl,dJ,Rb⟩:=DM h;have cu:=J6 I ae dJ Rb r v;refine⟨tuples' false,fi.ltI bg.fR [] ar,fi.Bv bg.GS [] ar,fi.Bs (fi.SD cu),⋯,λh2 h' k dO q=>fi.SG (s:={ s with heap:=h' }) (cu.kept k) h2 q,λh2 h' k i j C ai aF q=>fi.LG (s:={ s with heap:=h' }) (by show X.A.units+1+1+2<cLine;lia) (cu.kept k) i j C ai aF q,λp p1 p2 h' c aw aQ=>?_⟩;obtain⟨ys,k1,k2⟩:=BW bg.GS (f:=bg.r5) (λa b=>bg.Tf a b) [] r v p1 p2;exact fin h' c k1 k2 (A6 p1) aw aQ
end
section
def Zv{ds:List D}{Q:D->Prop}(h:cq (Den.sorted ds) Q E):(Den.ih ds||ds.all Den.nD)=true/\ds.length<=63/\Q (.lst (Den.hq ds)):=by
 unfold Den.sorted at h;cases q:((Den.ih ds||ds.all Den.nD)&&decide (ds.length<=63)) with
 |false=>rw[q]at h;exact h.elim
 |true =>
  rw[q]at h;rw[aa6,abl]at q;exact⟨q.1,q.2,h⟩
def Pt(ag:X.calm=true)(bc:X.A.units+64<cLine):gS X (.builtin "sorted") (kY X.K .fresh λd=>Den.eg d>>=λxs=>Den.sorted xs):=by
 intro pins s σ H xs us Q I r ⟨G,x,d,ex,ae,b8,hw⟩;subst ex;obtain⟨u,rfl,bf⟩:=vals1 r;obtain⟨ds,a,ys,rfl,aE,rs,hw⟩:=w9 ae b8 (bS.mp hw);obtain⟨h9,gL,hw⟩:=Zv hw;have bZ:X.A.handled=none:=I.ok.hd ag;cases bf;rcases aE with aE|aE
 .obtain⟨its,bI,b0,hz⟩:=I.list aE;refine Cb (collect_list b0.isList ?_ (by rw[<- bI.length];exact hz));have aY:Inv X pins σ H { s with heap:=(s.heap.push (seqObj "list" #[] 0)).update s.heap.objs.size (Obj.mapSeq (·++its.toArray)) }:=I.kept (t':=s.toks) λb o q=>(abu _ _ (abW (abp (abd q)))).trans (aa8 _ q)
  exact Ca bZ bc aY ae rs bI h9 gL hw
 .obtain⟨its,bI,b0,hz⟩:=I.tuple aE;refine Cb (Pv.MM (show s.heap.IsTuple a its.toArray from b0) ?_ (by rw[<- bI.length];exact hz));have aY:Inv X pins σ H { s with heap:=(s.heap.push (seqObj "list" #[] 0)).update s.heap.objs.size (Obj.mapSeq (·++its.toArray)) }:=I.kept (t':=s.toks) λb o q=>(abu _ _ (abW (abp (abd q)))).trans (aa8 _ q)
  exact Ca bZ bc aY ae rs bI h9 gL hw
end
structure dP(K:W.Frag)(mu:List Nat)(bl a8 G H:aB)(ρ:bx)(σ:de):Prop where
 bX:ej K mu G H ρ σ
 ext:Ext bl a8 G H
 own:∀(i:Nat)(d:D)(a:Addr),ρ[i]?=some (some d)->g4 d=true->i∈mu->σ[i]?=some (some (V.ref a))->a8 a=none
noncomputable def hZ(K:W.Frag)(mu:List Nat)(bl a8:aB)(T:Ends):Den.ep->Prop
 |.br ρ=>∀σ G H,dP K mu bl a8 G H ρ σ->T.br σ H
 |.cP d=>∀v G H,Ext bl a8 G H->Rep K G d v->T.cP v H
noncomputable def c5(xp:dq)(X:aU)(mu:List Nat)(f:bx->cn Den.ep):gr:=λT σ H =>
 ∃bl a8 G ρ,dP X.K mu bl a8 G H ρ σ/\cq (f ρ) (hZ X.K mu bl a8 T) (λc=>eY xp X c a8)
def ez{α:Type}{l:List α}{a:α}(h:i≠j):(l.set i a)[j]?=l[j]?:=aef h
def get_eq{α:Type}{l:List α}{a b:α}(h:(l.set i a)[i]?=some b):i<l.length/\b=a:=by
 rw[List.getElem?_set_self']at h;cases q:l[i]? with
 |none=>rw[q]at h;cases h
 |some c=>rw[q]at h;exact⟨(abt.mp q).1,(abI h).symm⟩
def ug{α:Type}{l:List α}{a:α}(h:i<l.length):(l.set i a)[i]?=some a:=by simp[h]
section
variable{K:W.Frag}{mu:List Nat}{bl a8 G H aL ao:aB}{ρ:bx}{σ:de}{i:Nat}{d:D}{v:V}
def ej.uh(h:ej K mu G H ρ σ)(hm:i∉mu)(r:Rep K G d v):ej K mu G H (ρ.set i (some d)) (σ.set i (some v)) where
 len:=by rw[acH,acH];exact h.len
 sub:=h.sub
 val:=λj e q aF=>by
  by_cases c:i=j
  .subst c;obtain⟨J,h2⟩:=get_eq q;cases h2;exact⟨v,ug (by rw[<- h.len];exact J),r⟩
  .rw[ez c]at q ⊢;exact h.val j e q aF
 own:=λj e q aF ax=>by
  have c:i≠j:=λz=>hm (z▸aF)
  rw[ez c]at q ⊢;exact h.own j e q aF ax
 lst:=λj e q aF ax=>by
  have c:i≠j:=λz=>hm (z▸aF)
  rw[ez c]at q;obtain⟨a,o,J,h2⟩:=h.lst j e q aF ax;exact⟨a,o,by rw[ez c];exact J,h2⟩
 dw:=h.dw
 apart:=λj k d e a b aM a7 bQ bW aF aw ne e1 e2=>by
  have c:i≠j:=λz=>hm (z▸aF)
  have cW:i≠k:=λz=>hm (z▸aw)
  rw[ez c]at aM e1;rw[ez cW]at a7 e2;exact h.apart j k d e a b aM a7 bQ bW aF aw ne e1 e2
def ej.set_own(h:ej K mu G H ρ σ)(hm:i∈mu)(ax:g4 d=false)(r:Rep K G d v):ej K mu G H (ρ.set i (some d)) (σ.set i (some v)) where
 len:=by rw[acH,acH];exact h.len
 sub:=h.sub
 val:=λj e q aF=>by
  have c:i≠j:=λz=>aF (z▸hm)
  rw[ez c]at q ⊢;exact h.val j e q aF
 own:=λj e q aF hle=>by
  by_cases c:i=j
  .subst c;obtain⟨J,h2⟩:=get_eq q;cases h2;exact⟨v,ug (by rw[<- h.len];exact J),r⟩
  .rw[ez c]at q ⊢;exact h.own j e q aF hle
 lst:=λj e q aF hle=>by
  by_cases c:i=j
  .subst c;obtain⟨J,h2⟩:=get_eq q;cases h2;rw[ax]at hle;cases hle
  .rw[ez c]at q;obtain⟨a,o,J,h2⟩:=h.lst j e q aF hle;exact⟨a,o,by rw[ez c];exact J,h2⟩
 dw:=h.dw
 apart:=λj k d e a b aM a7 bQ bW aF aw ne e1 e2=>by
  have c:i≠j:=λz=>by subst z;obtain⟨J,h2⟩:=get_eq aM;cases h2;rw[ax]at bQ;cases bQ
  have cW:i≠k:=λz=>by subst z;obtain⟨J,h2⟩:=get_eq a7;cases h2;rw[ax]at bW;cases bW
  rw[ez c]at aM e1;rw[ez cW]at a7 e2;exact h.apart j k d e a b aM a7 bQ bW aF aw ne e1 e2
def ej.Xl(h:ej K mu G H ρ σ)(hm:i∈mu)(ft:g4 d=true)(eH:H a=some o)(kC:G a=none)(r:jO K G d o)(az:∀(j:Nat)(e:D),j≠i->j∈mu->g4 e=true->ρ[j]?=some (some e)->σ[j]?≠some (some (V.ref a))):ej K mu G H (ρ.set i (some d)) (σ.set i (some (.ref a))) where
 len:=by rw[acH,acH];exact h.len
 sub:=h.sub
 val:=λj e q aF=>by
  have c:i≠j:=λz=>aF (z▸hm)
  rw[ez c]at q ⊢;exact h.val j e q aF
 own:=λj e q aF hle=>by
  by_cases c:i=j
  .subst c;obtain⟨J,h2⟩:=get_eq q;cases h2;rw[ft]at hle;cases hle
  .rw[ez c]at q ⊢;exact h.own j e q aF hle
 lst:=λj e q aF hle=>by
  by_cases c:i=j
  .subst c;obtain⟨J,h2⟩:=get_eq q;cases h2;exact⟨a,o,ug (by rw[<- h.len];exact J),eH,kC,r⟩
  .rw[ez c]at q;obtain⟨b,bJ,J,h2⟩:=h.lst j e q aF hle;exact⟨b,bJ,by rw[ez c];exact J,h2⟩
 dw:=h.dw
 apart:=λj k e f b f7 aM a7 bQ bW aF aw ne e1 e2=>by
  by_cases c:i=j
  .subst c;have cW:i≠k:=ne;obtain⟨J,h2⟩:=get_eq e1;cases h2;rw[ez cW]at a7 e2;intro z;exact az k f (abW cW) aw bW a7 (by rw[z];exact e2)
  .by_cases cW:i=k
   .subst cW;obtain⟨J,h2⟩:=get_eq e2;cases h2;rw[ez c]at aM e1;intro z;exact az j e (abW c) aF bQ aM (by rw[<- z];exact e1)
   .rw[ez c]at aM e1;rw[ez cW]at a7 e2;exact h.apart j k e f b f7 aM a7 bQ bW aF aw ne e1 e2
def jO.nt:∀{d:D},jO K G d o->∀xs,o≠.tup xs
 |.lst _,⟨_,e,_⟩,_,z=>by rw[e]at z;cases z
 |.bY _,e,_,z=>by rw[show o=_ from e]at z;cases z
 |.bH _,⟨_,e,_⟩,_,z=>by rw[e]at z;cases z
 |.cN _,⟨_,e,_⟩,_,z=>by rw[e]at z;cases z
def dP.step(h:dP K mu bl a8 G H ρ σ)(x:Ext G H aL ao):dP K mu bl a8 aL ao ρ σ:=⟨h.bX.ext x,h.ext.trans x,h.own⟩
theorem dP.uh(h:dP K mu bl a8 G H ρ σ)(hm:i∉mu)(r:Rep K G d v):dP K mu bl a8 G H (ρ.set i (some d)) (σ.set i (some v)) :=
 ⟨h.bX.uh hm r,h.ext,λj e a q ft aF z=>by
  have c:i≠j:=λz=>hm (z▸aF)
  rw[ez c]at q z;exact h.own j e a q ft aF z⟩
def dP.rf(h:dP K mu bl a8 G H ρ σ)(x:Ext G H aL ao)(hm:i∈mu)(ft:g4 d=true)(J:ao a=some o)(h2:H a=none)(h3:aL a=none)(r:jO K aL d o):dP K mu bl a8 aL ao (ρ.set i (some d)) (σ.set i (some (.ref a))):=by
 have h':=h.step x;refine⟨h'.bX.Xl hm ft J h3 r λj e aF Ar he q z=>?_,h'.ext,λj e b q he aF z=>?_⟩
 .obtain⟨b,bJ,k1,k2,k3,b6⟩:=h.bX.lst j e q Ar he;rw[k1]at z;cases z;rw[h2]at k2;cases k2
 .by_cases c:i=j
  .subst c;obtain⟨_,w⟩:=get_eq z;cases w;exact h.ext.h.free h2
  .rw[ez c]at q z;exact h.own j e b q he aF z
def dP.Jb(h:dP K mu bl a8 G H ρ σ)(x:Ext G H aL ao)(hm:i∈mu)(r:cI K H aL ao .fresh d v):dP K mu bl a8 aL ao (ρ.set i (some d)) (σ.set i (some v)):=by
 have go:g4 d=false->Rep K aL d v->dP K mu bl a8 aL ao (ρ.set i (some d)) (σ.set i (some v)):=λft r=>by
  refine⟨(h.step x).bX.set_own hm ft r,(h.step x).ext,λj e b q he aF z=>?_⟩
  by_cases c:i=j
  .subst c;obtain⟨_,w⟩:=get_eq q;cases w;rw[ft]at he;cases he
  .rw[ez c]at q z;exact h.own j e b q he aF z
 cases d with
 |lst ds =>
  obtain⟨a,xs,rfl,J,h2,h3,h4⟩:=r;exact h.rf x hm rfl J h2 h3 ⟨xs,rfl,h4⟩
 |bY ah=>exact r.elim
 |bH ah=>exact r.elim
 |cN ah=>exact r.elim
 |_=>exact go rfl r
def dP.write (h : dP K mu bl a8 G H ρ σ) (hm : i ∈ mu) (q : ρ[i]? = some (some d)) (hd : g4 d = true) (he : g4 e = true) (z : σ[i]? = some (some (V.ref a))) (kC : G a = none) (r : jO K G e bJ) :
    dP K mu bl a8 G (upd H a bJ) (ρ.set i (some e)) σ := by
  have h0 : a8 a = none := h.own i d a q hd hm z
  have ai : i < ρ.length := (abt.mp q).1
  have other : ∀ (j : Nat) (f : D), j ≠ i -> j ∈ mu -> g4 f = true -> ρ[j]? = some (some f) -> σ[j]? ≠ some (some (V.ref a)) := fun j f aF Ar hf VC lJ => h.bX.apart j i f d a a VC q hf hd Ar hm aF lJ z rfl
  have Cj : bw G (upd H a bJ) := fun b o z => by
    have : b ≠ a := fun w => by rw [w, kC] at z; cases z
    rw [cG this]; exact h.bX.sub b o z
  have Jp : ej K mu G (upd H a bJ) (ρ.set i (some e)) σ := by
    refine ⟨by rw [acH]; exact h.bX.len, Cj, fun j f cU aF => ?_, fun j f cU aF ax => ?_, fun j f cU aF ax => ?_, fun b xs w => ?_, fun j k f g b f7 aM a7 bQ bW aF aw ne e1 e2 => ?_⟩
    · have c : i ≠ j := fun z => aF (z ▸ hm)
      rw [ez c] at cU; exact h.bX.val j f cU aF
    · by_cases c : i = j
      · subst c
        obtain ⟨_, w⟩ := get_eq cU
        cases w
        rw [he] at ax; cases ax
      · rw [ez c] at cU; exact h.bX.own j f cU aF ax
    · by_cases c : i = j
      · subst c
        obtain ⟨_, w⟩ := get_eq cU
        cases w
        exact ⟨a, bJ, z, dm, kC, r⟩
      · rw [ez c] at cU
        obtain ⟨b, bP, k1, k2, k3, b6⟩ := h.bX.lst j f cU aF ax
        have : b ≠ a := fun w => other j f (abW c) aF ax cU (by rw [k1, w])
        exact ⟨b, bP, k1, by rw [cG this]; exact k2, k3, b6⟩
    · by_cases c : b = a
      · subst c; rw [dm] at w; cases w; exact absurd rfl (r.nt xs)
      · rw [cG c] at w; exact h.bX.dw b xs w
    · have full : ∀ (k : Nat) (g : D), g4 g = true -> (ρ.set i (some e))[k]? = some (some g) -> ∃ g', g4 g' = true /\ ρ[k]? = some (some g') := fun k g aQ z => by
        by_cases c : i = k
        · subst c; exact ⟨d, hd, q⟩
        · rw [ez c] at z; exact ⟨g, aQ, z⟩
      obtain ⟨nd, pd, q6⟩ := full j f bQ aM
      obtain ⟨g', m2, px⟩ := full k g bW a7
      exact h.bX.apart j k nd g' b f7 q6 px pd m2 aF aw ne e1 e2
  refine ⟨Jp, ⟨h.ext.g, fun b o z => ?_, Cj, h.ext.new, fun b xs w => .inr (Jp.dw b xs w)⟩, fun j f b cU hf aF lJ => ?_⟩
  · have : b ≠ a := fun w => by rw [w, h0] at z; cases z
    rw [cG this]; exact h.ext.h b o z
  · by_cases c : i = j
    · subst c; rw [z] at lJ; cases lJ; exact h0
    · rw [ez c] at cU; exact h.own j f b cU hf aF lJ
end
section
variable{xp:dq}{X:aU}{mu:List Nat}{m:fp}{f bC dR dA:bx->cn D}{g g1 g2:bx->cn Den.ep}{a b c e dv:Expr}{aj:List Expr}{pos p1 p2 p3 p4:Pos}{st:Stmt}{uu uf dM:List Stmt}{i:Nat}{x:Str}
def IV(hm:i∉mu)(aG:X.N.Nodup)(ai:X.N[i]?=some x)(ak:Loc X.env.scope x)(he:aO X e (bG xp X mu .val f))(ae:swapsWith e (some (.Name x p1)) pos.line X.env=pure false)(hf:X.fn x=true\/X.env.scope.names.lookup x=some .local):
  c9 X (.Assign [.Name x p1] e pos) (c5 xp X mu λρ=>f ρ>>=λd=>.ok (.br (ρ.set i (some d)))):=by
 intro pins s σ H T I ⟨bl,a8,G,ρ,aa,hw⟩;refine q4 aG ai ak he ae hf pins s σ H T I ?_;refine⟨G,ρ,aa.bX,cz (bS.mp hw) (λd k v aK H1 aT aH=>?_) λ_ q=>q.mono aa.ext.h⟩;exact k _ aK H1 ((aa.step aT).uh hm aH)
def IW(hm:i∈mu)(aG:X.N.Nodup)(ai:X.N[i]?=some x)(ak:Loc X.env.scope x)(he:aO X e (bG xp X mu .fresh f))(ae:swapsWith e (some (.Name x p1)) pos.line X.env=pure false)(hf:X.fn x=true\/X.env.scope.names.lookup x=some .local):
  c9 X (.Assign [.Name x p1] e pos) (c5 xp X mu λρ=>f ρ>>=λd=>.ok (.br (ρ.set i (some d)))):=by
 intro pins s σ H T I ⟨bl,a8,G,ρ,aa,hw⟩;refine q4 aG ai ak he ae hf pins s σ H T I ?_;refine⟨G,ρ,aa.bX,cz (bS.mp hw) (λd k v aK H1 aT aH=>?_) λ_ q=>q.mono aa.ext.h⟩;exact k _ aK H1 (aa.Jb aT hm aH)
def WT(he:aO X e (bG xp X mu .val f)):c9 X (.Return (some e) pos) (c5 xp X mu λρ=>f ρ>>=λd=>.ok (.cP d)):=by
 intro pins s σ H T I ⟨bl,a8,G,ρ,aa,hw⟩;refine t4 he pins s σ H T I ?_;refine⟨G,ρ,aa.bX,cz (bS.mp hw) (λd k v aK H1 aT aH=>?_) λ_ q=>q.mono aa.ext.h⟩;exact k v aK H1 (aa.ext.trans aT) aH
def WV(hm:i∈mu)(aG:X.N[i]?=some x)(aI:e6 X.env.scope x)(J:(x==("__debug__":Str))=false)(h2:(x==("__classdict__":Str))=false):
  c9 X (.Return (some (.Name x p1)) pos) (c5 xp X mu λρ=>Den.wo ρ[i]?>>=λd=>.ok (.cP d)):=by
 intro pins s σ H T I ⟨bl,a8,G,ρ,aa,hw⟩;refine t4 (gg aG aI J h2) pins s σ H T I ?_;dsimp only at hw;have key:∀ds,ρ[i]?=some (some (.lst ds))->hZ X.K mu bl a8 T (.cP (.lst ds))->lb i σ H T.cP:=λds q hw=>by
  obtain⟨a,o,k1,k2,k3,xs,rfl,b6⟩:=aa.bX.lst i (.lst ds) q hm rfl;refine⟨_,k1,?_⟩;have h0:a8 a=none:=aa.own i (.lst ds) a q rfl hm k1;refine hw _ (upd G a (.lst xs)) H ⟨aa.ext.g.trans (fU k3),aa.ext.h,λb o z=>?_,λb bO bE=>?_,λb xs z=>.inr (fU k3 _ _ (aa.bX.dw b xs z))⟩ ⟨a,xs,rfl,.inl (.inl dm),b6.mono (fU k3)⟩
  .by_cases c:b=a
   .subst c;rw[dm]at z;rw[k2];exact z
   .rw[cG c]at z;exact aa.bX.sub b o z
  .have:b≠a:=λw=>bE (by rw[w];exact h0)
   rw[cG this];exact aa.ext.new b bO bE
 cases q:ρ[i]? with
 |none=>rw[q]at hw;exact hw.elim
 |some o =>
  cases o with
  |none=>rw[q]at hw;exact hw.elim
  |some d =>
   rw[q]at hw;cases d with
   |lst ds=>exact key ds q hw
   |_=>exact hw.elim
noncomputable def Xg(g1 g2:bx->cn Den.ep):bx->cn Den.ep:=λρ=>g1 ρ>>=λr=>match r with
 |.br bK=>g2 bK
 |.cP d=>.ok (.cP d)
def W2:f3 X [] (c5 xp X mu λρ=>.ok (.br ρ)):=by
 intro pins s σ H T I ⟨bl,a8,G,ρ,aa,hw⟩;exact Vv pins s σ H T I (hw σ G H aa)
def WY(J:c9 X st (c5 xp X mu g1))(h2:f3 X uu (c5 xp X mu g2)):f3 X (st::uu) (c5 xp X mu (Xg g1 g2)):=by
 intro pins s σ H T I ⟨bl,a8,G,ρ,aa,hw⟩;refine Ia J h2 pins s σ H T I ?_;refine⟨bl,a8,G,ρ,aa,cz (bS.mp hw) (λr k=>?_) λ_ q=>q⟩;cases r with
 |br bK=>exact λcj aL ao gb=>⟨bl,a8,aL,bK,gb,k⟩
 |cP d=>exact k
def WH(ag:gp X c (iL xp X mu dA))(aA:f3 X uf (c5 xp X mu g1))(aa:f3 X dM (c5 xp X mu g2)):c9 X (.If c uf dM pos) (c5 xp X mu λρ=>dA ρ>>=λx=>Den.f6 x>>=λk=>if k then g1 ρ else g2 ρ):=by
 intro pins s σ H T I ⟨bl,a8,G,ρ,iC,hw⟩;refine Vs ag aA aa pins s σ H T I ?_;refine⟨G,ρ,iC.bX,?_⟩;refine bS.mpr (cz (bS.mp hw) (λd k=>cz (bS.mp k) (λdi q aK H1 aT=>?_) λ_ q=>q.mono iC.ext.h) λ_ q=>q.mono iC.ext.h);cases di with
 |true=>simp only[abY]at q ⊢;exact⟨bl,a8,aK,ρ,iC.step aT,q⟩
 |false=>simp only[aba,abw]at q ⊢;exact⟨bl,a8,aK,ρ,iC.step aT,q⟩
end
theorem tA:∀{af:List Value}{k:List Int},IntsAre af k->ItemsAre (intKind prog w) k af
 |_,_,.nil=>.nil
 |_,_,.cons n t r=>.cons (Pv.tx prog w n t) (tA r)
theorem Di:∀{k:List Int}{af:List Value},ItemsAre (intKind prog w) k af->IntsAre af k
 |_,_,.nil=>.nil
 |_,_,.cons h r=>by
  obtain⟨t,rfl⟩:=aey h;exact .cons _ t (Di r)
theorem Gl:∀{af:List Value}{a b:List Int},IntsAre af a->IntsAre af b->a=b
 |_,_,_,.nil,.nil=>rfl
 |_,_,_,.cons n t r,.cons _ _ q=>by rw[Gl r q]
def Bg{κ:Type}[DecidableEq κ](ar:List κ)(h:i<=ar.length):(Pv.met ar i).length<=(bg.cT ar).length :=
 bg.hQ (Pv.tN ar i) λz hz=>(bg.j4 z ar).mpr (List.mem_of_mem_take ((Pv.wz ar i h z).mp hz))
def Jd{κ:Type}[DecidableEq κ]{lt:κ->κ->Bool}(L:bg.gU lt){cE r c0:List κ}(J:cE.Perm r)(h2:r.Perm (Pv.met c0 c0.length)):bg.cF lt cE=bg.cF lt (bg.cT c0):=by
 have h:=J.trans h2;have c4:cE.Nodup:=h.nodup_iff.mpr (Pv.tN c0 _);refine bg.kp L (bg.kq L c4) (bg.kq L (bg.nQ c0)) λz=>?_
 rw[bg.ja,bg.ja,bg.j4,h.mem_iff,Pv.wz c0 _ (abb _),List.take_length]
def Jc{κ:Type}[DecidableEq κ]{cE r c0:List κ}(J:cE.Perm r)(h2:r.Perm (Pv.met c0 c0.length)):cE.length<=(bg.cT c0).length:=by
 rw[(J.trans h2).length_eq];exact Bg c0 (abb _)
def Sf(h:ItemsOf P acc l.length)(ea:∀i v,P i v->l[i]?=some v):acc.toList=l:=by
 obtain⟨J,h2⟩:=h;apply acG;intro i
 by_cases ai:i<l.length
 .have fu:i<acc.size:=⋯;have e:acc[i]?=some acc[i]:=abh fu;have:=ea i _ (h2 i _ e);rw[this];simpa using e
 .rw[abC (by simp;lia),abC ⋯]
section
variable{X:aU}{pins:List (Addr×Obj)}{σ:de}{G H:aB}{s:Shared}
def x3(K:W.Frag)(G:aB)(v:Value):Prop:=∃b k,v=.ref b/\Rep K G (j9 k) (V.ref b)
theorem IK(I:Inv X pins σ H s)(ae:bw G H):∀{ar:List (List Int)}{xs:List V}{us:List Value},bA X.K G (ar.map j9) xs->Vals xs us->Paired ((Pv.Gw (x3 X.K G) X.prog X.w).Row s.heap) us ar
 |[],_,_,r,v=>by cases r;cases v;exact .nil
 |k::ar,_,_,⟨x,t,e,aH,aX⟩,v=>by
  subst e;cases v with
  |cons v1 v2 =>
   obtain⟨a,ys,rfl,h,q⟩:=id aH;cases v1;obtain⟨its,bI,⟨o,av,ag,n,hd⟩,_⟩:=I.tuple (iJ ae h);rw[jD q]at bI;exact .cons ⟨a,rfl,⟨o,its.toArray,n,av,ag,hd,tA (by simpa using intsAre_of bI)⟩,a,k,rfl,aH⟩ (IK I ae aX v2)
theorem IJ:∀{ns:List Int}{us:List Value},IntsAre us ns->Paired (λv (k:Int)=>∃t,v=Value.int k t) us ns
 |_,_,.nil=>.nil
 |_,_,.cons n t r=>.cons ⟨t,rfl⟩ (IJ r)
theorem Je(I:Inv X pins σ H s)(ae:bw G H):∀{aj:List (Int×Value)}{ar:List (List Int)},Paired (λe k=>Pv.lr X.prog X.w s.heap e k/\x3 X.K G e.2) aj ar->∃xs,bA X.K G (ar.map j9) xs/\Vals xs (aj.map (·.2))
 |_,_,.nil=>⟨[],rfl,.nil⟩
 |e::aj,k::ar,.cons ⟨⟨b,e1,_,o,items,n,av,ag,hd,aw⟩,f7,di,e2,r⟩ t=>by
  obtain⟨xs,aH,aX⟩:=Je I ae t;rw[e1]at e2;injection e2 with e2;subst e2;have Au:di=k:=by
   obtain⟨a,ys,bo,h,q⟩:=id r;cases bo;obtain⟨its,bI,⟨bJ,d4,_,b7,gc⟩,_⟩:=I.tuple (iJ ae h);rw[av]at d4;cases d4;rw[hd]at gc;injection gc with bQ _;rw[jD q]at bI;have J:=intsAre_of bI;have h2:=Di aw;rw[bQ]at h2;exact Gl (by simpa using J) (by simpa using h2)
  subst Au;exact⟨V.ref b::xs,⟨_,_,rfl,r,aH⟩,by rw[List.map_cons,e1];exact .cons rfl aX⟩
theorem Jf{K:W.Frag}:∀{aj:List (Int×Value)}{ar:List Int},Paired Pv.lq aj ar->∃xs,bA K G (ar.map Den.D.int) xs/\Vals xs (aj.map (·.2))
 |_,_,.nil=>⟨[],rfl,.nil⟩
 |e::aj,k::ar,.cons ⟨_,t,e1⟩ iM=>by
  obtain⟨xs,aH,aX⟩:=Jf (K:=K) iM;exact⟨V.int k::xs,⟨_,_,rfl,rfl,aH⟩,by rw[List.map_cons,e1];exact .cons ⟨t,rfl⟩ aX⟩
end
section
variable{xp:dq}{X:aU}{mu:List Nat}{m:fp}{f:bx->cn D}{e:Expr}{pos pos' p md:Pos}{x y:Str}{pins:List (Addr×Obj)}{σ:de}{G H:aB}{s:Shared}
def Zw{ds:List D}{Q:D->Prop}(h:cq (Den.eK ds) Q E):Den.ih ds=true/\(Den.lE ds).length<=63/\Q (.lst (Den.hq (Den.lE ds))):=by
 unfold Den.eK at h;cases q:(Den.ih ds&&decide ((Den.lE ds).length<=63)) with
 |false=>rw[q]at h;exact h.elim
 |true =>
  rw[q]at h;simp only[aa6,abl]at q;exact⟨q.1,q.2,h⟩
def Inv.grown(I:Inv X pins σ H s)(g:Pv.uN s s'):Inv X pins σ H s':=by
 obtain⟨h',g',d',rn,tW⟩:=s';obtain⟨k,e1,e2,e3⟩:=g;have e1:g'=s.gens:=e1;have e2:d'=s.drawn:=e2;have e3:tW=s.os:=e3;subst e1 e2 e3;exact I.kept k
def Ju(bZ:X.A.handled=none)(bc:X.A.units+64<cLine)(I:Inv X pins σ H s)(ae:bw G H)(av:s.heap.get? a=some o)(O:Pv.om X.w o aj aZ t)(r:bA X.K G ds xs)(v:Vals xs ((Pv.gB X.w a aj aZ).toList.map (·.2)))(h9:Den.ih ds=true)(gL:ds.length<=63)(k:∀v aL ao,Ext G H aL ao->cI X.K H aL ao .fresh (.lst (Den.hq ds)) v->Q v ao):wpAny (model X.prog X.w) X.A (call (.builtin "sorted") [.ref a]) (eN X pins σ Q) X.b9 s:=by
 have hsz:(Pv.gB X.w a aj aZ).size=aj.size:=by have:=(Pv.q1 X.w a aj aZ).length_eq;simpa using this
 have ax:aj.size<=63:=by
  have J:=v.length;have h2:=r.length;simp only[List.length_map,Array.length_toList]at J;lia
 refine Cb (Pv.ML (A:=X.A.in1) bZ av O (by rw[sizeLine_eq];lia) λs' acc g iB=>?_);have e:acc.toList=(Pv.gB X.w a aj aZ).toList.map (·.2):=by
  refine Sf (P:=λi v=>∃x,(Pv.gB X.w a aj aZ)[i]?=some x/\v=x.2) (l:=(Pv.gB X.w a aj aZ).toList.map (·.2)) (by simpa[hsz] using iB) λi v aI=>?_
  obtain⟨z,J,h2⟩:=aI;rw[abj,abO,J,h2];rfl
 rw[e];exact Ca bZ bc (Inv.grown I g) ae r v (by rw[h9];rfl) gL k
def Zx(ag:X.calm=true)(bc:X.A.units+64<cLine)(I:Inv X pins σ H s)(ae:bw G H)(b8:View X.K G H d z)(bf:RelV z u)(hw:cq (Den.eg d>>=λxs=>Den.eK xs) (λd'=>∀v aL ao,Ext G H aL ao->cI X.K H aL ao .fresh d' v->Q v ao) (λ_=>False)):
  wpAny (model X.prog X.w) X.A (call (.type "set") [u]) (λw s1=>wpAny (model X.prog X.w) X.A (call (.builtin "sorted") [w]) (eN X pins σ Q) X.b9 s1) X.b9 s:=by
 obtain⟨ds,a,ys,rfl,aE,rs,hw⟩:=w9 ae b8 (bS.mp hw);obtain⟨h9,gL,hw⟩:=Zw hw;have bZ:X.A.handled=none:=I.ok.hd ag;cases bf;obtain⟨its,bI,T,bb,fT,nl,cu,kK⟩:∃(its:List Value),Vals ys its/\∃T bb fT nl,(T="list"\/T="tuple")/\s.heap.get? a=some { cls:=.type T,dict:=bb,data:=.seq its.toArray nl,slots:=fT }:=by
  rcases aE with aE|aE
  .obtain⟨its,bI,⟨⟨cls,dd,data,bF⟩,n,av,J,_,h3⟩,_⟩:=I.list aE;simp only at J h3;subst J h3;exact⟨its,bI,"list",dd,bF,n,.inl rfl,av⟩
  .obtain⟨its,bI,⟨⟨cls,dd,data,bF⟩,av,J,n,h3⟩,_⟩:=I.tuple aE;simp only at J h3;subst J h3;exact⟨its,bI,"tuple",dd,bF,n,.inr rfl,av⟩
 have keep:∀{h':Heap}{tk:Nat},(∀b o,b<s.heap.objs.size->s.heap.get? b=some o->h'.get? b=some o)->Inv X pins σ H { s with heap:=h',toks:=tk }:=λaw=>I.kept λb o q=>aw b o (abd q) q
 unfold Den.ih at h9;rw[acI]at h9;rcases h9 with h|h
 .obtain⟨ns,rfl⟩:=ints_of h;have bV:IntsAre its ns:=(by rw[jD rs]at bI;exact intsAre_of bI);rw[bg.sf (f:=Den.D.int) bg.Er]at gL hw;rw[List.length_map]at gL;refine Pv.DI (Pv.So X.prog X.w) cu bZ bc kK (show Paired (λv (k:Int)=>∃t,v=Value.int k t) its.toArray.toList ns from by simpa using IJ bV) (λi ai=>by have:=Bg ns (adp ai);lia) λh' tk r a6 au aw=>?_
  obtain⟨o,aj,aZ,t,av,hex,hd,f5,_,dV,iE,AD,lQ⟩:=a6;obtain⟨cE,aM,a7⟩:=Pv.Paired.perm (Pv.q1 X.w s.heap.objs.size aj aZ) AD;obtain⟨xs,aH,aX⟩:=Jf (K:=X.K) (G:=G) a7;have e:Den.hq (cE.map Den.D.int)=Den.hq ((bg.cT ns).map Den.D.int):=by
   rw[bg.k6 (f:=Den.D.int) (lt:=bg.ltI) λ_ _=>rfl,bg.k6 (f:=Den.D.int) (lt:=bg.ltI) λ_ _=>rfl,Jd bg.i7 aM au]
  refine Ju (s:={ s with heap:=h',toks:=tk }) bZ bc (keep aw) ae av ⟨hex,hd,f5,dV,iE⟩ aH aX ?_ ?_ (by rw[e];exact hw)
  .unfold Den.ih;rw[bg.wt];rfl
  .rw[List.length_map];have:=Jc aM au;lia
 .obtain⟨ar,rfl,dJ⟩:=xr h;rw[bg.sf (f:=j9) bg.m8]at gL hw;rw[List.length_map]at gL;refine Pv.DI (Pv.Gw (x3 X.K G) X.prog X.w) cu bZ bc kK (by simpa using IK I ae rs bI) (λi ai=>by have:=Bg ar (adp ai);lia) λh' tk r a6 au aw=>?_
  obtain⟨o,aj,aZ,t,av,hex,hd,f5,_,dV,iE,AD,lQ⟩:=a6;obtain⟨cE,aM,a7⟩:=Pv.Paired.perm (Pv.q1 X.w s.heap.objs.size aj aZ) AD;have cb:Inv X pins σ H { s with heap:=h',toks:=tk }:=keep aw;obtain⟨xs,aH,aX⟩:=Je cb ae a7;have e:Den.hq (cE.map j9)=Den.hq ((bg.cT ar).map j9):=by
   rw[bg.k6 (f:=j9) (lt:=bg.lexLt) bg.pb,bg.k6 (f:=j9) (lt:=bg.lexLt) bg.pb,Jd bg.kQ aM au]
  refine Ju (s:={ s with heap:=h',toks:=tk }) bZ bc cb ae av ⟨hex,hd,f5,dV,iE⟩ aH aX ?_ ?_ (by rw[e];exact hw)
  .unfold Den.ih;rw[bg.va λc ag=>dJ c ?_,adx];have:=((aM.trans au).mem_iff).mp ag;exact List.mem_of_mem_take ((Pv.wz ar _ (abb _) c).mp this)
  .rw[List.length_map];have:=Jc aM au;lia
def W3(ag:X.calm=true)(bc:X.A.units+64<cLine)(ak:x="sorted")(aN:y="set")(nv:fg X x)(ta:X.aS x=none)(sZ:fg X y)(tb:X.aS y=none)(aA:aO X e (bG xp X mu .view f))(cK:starEach [e] X.env=[(false,eval e X.env)]):
  aO X (.Call (.Name x p) [.Call (.Name y md) [e] [] pos'] [] pos) (bG xp X mu .fresh λρ=>f ρ>>=λd=>Den.eg d>>=λxs=>Den.eK xs):=by
 subst ak aN;intro pins s σ H Q I ⟨G,ρ,ae,hw⟩;refine acA (l6 I nv ta (u:=.builtin "sorted") (by kernel_rfl) ?_);refine ad1 ?_ rfl rfl;show wpAny _ _ (spliced ((false,eval (.Call (.Name "set" md) [e] [] pos') X.env)::[])) _ _ s;refine acP ?_;refine acA (l6 I sZ tb (u:=.type "set") (by kernel_rfl) ?_);refine ab7 (bR (nT aA cK pos' pins s σ H (λaf H1=>∃v d aK,af=[v]/\Ext G H aK H1/\View X.K aK H1 d v/\cq (Den.eg d>>=λxs=>Den.eK xs) (λd'=>∀v aL ao,Ext aK H1 aL ao->cI X.K H1 aL ao .fresh d' v->Q v ao) (λ_=>False)) I
  ⟨G,ρ,ae,cz (bS.mp hw) (λd k v aK H1 aT aH=>?_) λ_ q=>q⟩) λus s1 ⟨af,H1,aY,aH,aM⟩=>?_) cK rfl
 .refine⟨v,d,aK,rfl,aT,aH,?_⟩;refine cz (uB k λc=>?_) (λd' q rq cM aR cg aX=>q rq cM aR (aT.trans cg) (aX.old aT.h)) λ_ q=>q
  intro z;cases hd:Den.eg d with
  |ok ds=>rw[hd]at z;have z:Den.eK ds=.exc c:=z;unfold Den.eK at z;split at z<;>cases z
  |exc cW=>cases d<;>cases hd
  |bad=>rw[hd]at z;cases z
 .obtain⟨v,d,aK,e1,aT,b8,gz⟩:=aM;subst e1;obtain⟨u,rfl,bf⟩:=vals1 aH;refine bR (Zx ag bc aY aT.sub b8 bf gz) λw s2 h2=>?_
  exact adl h2
end
section
variable{xp:dq}{X:aU}{mu:List Nat}{m:fp}{f bC dR:bx->cn D}{a b e dv:Expr}{pos p p2 p3 p4:Pos}{pins:List (Addr×Obj)}{σ:de}{G H:aB}{s:Shared}{x:Str}
def Zm (lo) : ∀ {n : Nat} {l : List Value}, l.length = n -> (∀ (i : Nat) v, l[i]? = some v -> ∃ t, v = .int (lo + i * 1) t) -> Vals ((List.range n).map fun (k : Nat) => V.int (lo + (k : Nat))) l := by
  intro n l ax h
  subst ax
  induction l generalizing lo with
  | nil => exact .nil
  | cons v l aD =>
    rw [List.length_cons, adW, List.map_cons, List.map_map]
    refine .cons ?_ ?_
    · obtain ⟨t, e⟩ := h 0 v rfl
      exact ⟨t, by rw [e]; simp⟩
    · have := aD (lo + 1) fun i w hw => by
        obtain ⟨t, e⟩ := h (i + 1) w (by simpa using hw)
        exact ⟨t, by rw [e]; congr 1; push_cast; lia⟩
      have e2 : ((fun (k : Nat) => V.int (lo + (k : Nat))) ∘ Nat.succ) = fun (k : Nat) => V.int (lo + 1 + (k : Nat)) := by
        funext k; simp only [Function.comp]; congr 1; push_cast; lia
      rw [e2]; exact this
theorem Iy{K:W.Frag}(lo):∀(l:List Nat),bA K G (l.map λ(k:Nat)=>Den.D.int (lo+(k:Nat))) (l.map λ(k:Nat)=>V.int (lo+(k:Nat)))
 |[]=>rfl
 |k::l=>⟨_,_,rfl,rfl,Iy lo l⟩
def KC(aQ:fg X "range")(hm:X.aS "range"=none)(aA:aO X a (bG xp X mu .view bC))(cK:starEach [a] X.env=[(false,eval a X.env)])(I:Inv X pins σ H s)(ae:ej X.K mu G H ρ σ){Q:List D->Prop}(hw:cq (bC ρ>>=λd=>Den.iU d>>=λi=>Den.kZ 0 i) Q (λc=>eY xp X c H))(k:∀(s1:Shared)(aK H1:aB)(n:Int)(r:Addr)(t u v:Tok)(h':Heap)(tk:Nat),Inv X pins σ H1 s1->Ext G H aK H1->Q (Den.eT 0 n)->(-(2 ^ 62)<=n/\n<2 ^ 62/\(Den.eT 0 n).length<=16777216)->Inv X pins σ H1 { s1 with heap:=h',toks:=tk }->IsRange h' r 0 n 1 t u v->R (.ref r) { s1 with heap:=h',toks:=tk }):
  wpAny (model X.prog X.w) X.A (eval (.Call (.Name "range" p) [a] [] pos) X.env) R X.b9 s:=by
 refine Call_ (l6 I aQ hm boot_range (ab7 (bR (nT aA cK pos pins s σ H (λaf H1=>∃n aK,af=[.int n]/\Ext G H aK H1/\Q (Den.eT 0 n)/\(-(2 ^ 62)<=n/\n<2 ^ 62/\(Den.eT 0 n).length<=16777216)) I
  ⟨G,ρ,ae,cz (bS.mp hw) (λd q v aK H1 aT aH=>?_) λ_ q=>q⟩) λus s1 ⟨af,H1,aY,aH,n,aK,e1,aT,aE,aa⟩=>?_) cK rfl))
 .have q:=bS.mp q;cases d with
  |int i =>
   obtain⟨⟨_,_,b1,b2⟩,hz,q⟩:=IF q;exact⟨i,aK,by rw[cI.wO aH],aT,q,b1,b2,hz⟩
  |_=>exact q.elim
 .subst e1;obtain⟨u,rfl,cm⟩:=vals1 aH;obtain⟨t,rfl⟩:=cm;refine call_range_1 ?_;exact k s1 aK H1 n _ _ _ _ _ _ aY aT aE aa (aY.kept λb o e=>aa8 _ e) (IsRange.new ..)
def ID(n):Builtin.Range.rangeSize 0 n 1=((Den.eT 0 n).length:Int):=by
 unfold Den.eT;rw[List.length_map,List.length_range,rangeSize_one]
 split<;>lia
def VM(n):(Den.eT 0 n).length=n.toNat:=by unfold Den.eT;rw[List.length_map,List.length_range];congr 1;lia
def IE(h:ItemsOf (λi v=>∃t,v=.int (0+i*1) t) acc (Den.eT 0 n).length):∃xs,bA X.K G (Den.eT 0 n) xs/\Vals xs acc.toList:=by
 have ax:acc.toList.length=n.toNat:=by rw[Array.length_toList,h.1,VM]
 have v:=Zm 0 ax λi v aI=>h.2 i v (by simpa using aI)
 have e:Den.eT 0 n=(List.range n.toNat).map λ(k:Nat)=>Den.D.int (0+(k:Nat)):=by
  unfold Den.eT;rw[ae5]
 exact⟨_,by rw[e];exact Iy 0 _,v⟩
def W5{y:Str}(ag:X.calm=true)(ak:x="range")(aN:y="tuple")(nv:fg X x)(ta:X.aS x=none)(sZ:fg X y)(tb:X.aS y=none)(aA:aO X a (bG xp X mu .view bC))(cK:starEach [a] X.env=[(false,eval a X.env)]):
  aO X (.Call (.Name y p2) [.Call (.Name x p) [a] [] pos] [] p3) (bG xp X mu .val λρ=>(bC ρ>>=λd=>Den.iU d>>=λi=>Den.kZ 0 i)>>=λds=>.ok (.tup ds)):=by
 subst ak aN;intro pins s σ H Q I ⟨G,ρ,ae,hw⟩;refine acA (l6 I sZ tb (u:=.type "tuple") (by kernel_rfl) ?_);refine ab7 ?_ rfl rfl;show wpAny _ _ (spliced ((false,eval (.Call (.Name "range" p) [a] [] pos) X.env)::[])) _ _ s;refine acP ?_;refine KC nv ta aA cK I ae (bS.mp hw) λs1 aK H1 n r t u v h' tk aY aT aE aa cb aV=>adl ?_
 have bZ:X.A.handled=none:=cb.ok.hd ag;have az:=ID n;have meets:Meets (Builtin.«tuple.__new__» ⟨[.type "tuple",.ref r],[]⟩) (λA R s'=>A.handled=none/\IsRange s'.heap r 0 n 1 t u v /\
   ∀(s2:Shared)(acc:Array Value),Pv.uN s' s2->ItemsOf (λi v=>∃t,v=.int (0+i*1) t) acc (Den.eT 0 n).length->R (.ok (.ret (.ref s2.heap.objs.size))) { s2 with heap:=s2.heap.push { cls:=.type "tuple",data:=.seq acc } }) :=
  .of_wp λprog w A R s' h=>by
   obtain⟨J,h2,h3⟩:=h;have gy:=sub_tuple_self;have aaf:=init_tuple_lookup;have aam:=madeHere_tuple;have cu:s'.TypeIs (.ref r) "range":=⟨_,h2,rfl⟩;have h4:A.in1.handled=none:=J
   wp_walk using ac7 cu,Pv.MK (A:=A.in1) h4 h2 (small_one ⋯ ⋯ aa.1 aa.2.1) az aa.2.2
   intro s2 acc g iB;have e:acc.toList.toArray=acc:=(by simp);refine aa5 (m:=Builtin.Tuple.tupleExact acc.toList.toArray) (abE (aa7 ⟨_,rfl,?_⟩) (show acc.toList.toArray.size<=sizeLine by rw[e,iB.1,sizeLine_eq];exact aa.2.2));rw[e];exact h3 s2 acc g iB
 refine callType_new F.called_tuple ∅ (F.typeCall_tuple_1 _) (F.newCall_tuple_1 _) (λobj=>F.args_object_init_2 obj _) F.entry_tuple_new meets ⟨bZ,aV,λs2 acc g iB=>⟨⟨_,abf _ rfl,rfl⟩,?_⟩⟩;obtain⟨xs,k1,k2⟩:=IE (X:=X) (G:=aK) iB;have er:=Inv.grown cb g;have e:acc=acc.toList.toArray:=by simp
 rw[e];exact Hr er aT.sub k2 k1 (by rw[k2.length,Array.length_toList,iB.1,sizeLine_eq];exact aa.2.2) λv aL ao cg aX=>aE v aL ao (aT.trans cg) aX
def WL{y:Str}(ag:X.calm=true)(ak:x="range")(aN:y="list")(nv:fg X x)(ta:X.aS x=none)(sZ:fg X y)(tb:X.aS y=none)(aA:aO X a (bG xp X mu .view bC))(cK:starEach [a] X.env=[(false,eval a X.env)]):
  aO X (.Call (.Name y p2) [.Call (.Name x p) [a] [] pos] [] p3) (bG xp X mu .fresh λρ=>(bC ρ>>=λd=>Den.iU d>>=λi=>Den.kZ 0 i)>>=λds=>.ok (.lst ds)):=by
 subst ak aN;intro pins s σ H Q I ⟨G,ρ,ae,hw⟩;refine acA (l6 I sZ tb (u:=.type "list") (by kernel_rfl) ?_);refine ab7 ?_ rfl rfl;show wpAny _ _ (spliced ((false,eval (.Call (.Name "range" p) [a] [] pos) X.env)::[])) _ _ s;refine acP ?_;refine KC nv ta aA cK I ae (bS.mp hw) λs1 aK H1 n r t u v h' tk aY aT aE aa cb aV=>adl ?_
 have bZ:X.A.handled=none:=cb.ok.hd ag;have az:=ID n;refine call_list_range bZ aV (small_one ⋯ ⋯ aa.1 aa.2.1) az aa.2.2 λh2 YW acc c aw aQ iB=>?_
 obtain⟨xs,k1,k2⟩:=IE (X:=X) (G:=aK) iB;have e:acc=acc.toList.toArray:=by simp
 rw[e]at aQ;refine⟨.ref h'.objs.size,_,cb.laid (t':=YW) (o:=.lst xs) aw (abb _) ⟨by rw[k2.length,Array.length_toList,iB.1,sizeLine_eq];exact aa.2.2,acc.toList,c,k2,aQ⟩,rfl,?_⟩;have fr:H1 h'.objs.size=none:=cb.fresh;exact aE _ aK _ (aT.trans (Ext.own aT.sub fr λ_ z=>nomatch z)) ⟨_,xs,rfl,dm,aT.h.free fr,aT.sub.free fr,k1⟩
end
section
variable{X:aU}{pins:List (Addr×Obj)}{σ:de}{G H:aB}{s:Shared}{h':Heap}
end
def CR:∀x y:Nat,(x ^^^ y)+2*(x &&& y)=x+y:=by
 intro x
 induction x using Nat.strongRecOn with
 |ind x aD =>
  intro y
  by_cases h:x=0
  .subst h;simp
  .have J:=aD (x / 2) ⋯ (y / 2);have e1:(x ^^^ y) / 2=x / 2 ^^^ y / 2:=aeS;have e2:(x &&& y) / 2=x / 2 &&& y / 2:=ael;have e3:(x ^^^ y)%2=(x%2+y%2)%2:=by
    have:=@adQ x y;rcases abg x with a|a<;>rcases abg y with b|b<;>rcases abg (x ^^^ y) with c|c<;>simp[a,b,c]at this ⊢
   have e4:(x &&& y)%2=(x%2)*(y%2):=by
    have:=@ac9 x y;rcases abg x with a|a<;>rcases abg y with b|b<;>rcases abg (x &&& y) with c|c<;>simp[a,b,c]at this ⊢
   rw[<- e1,<- e2]at J;revert J e3 e4;generalize x ^^^ y=p;generalize x &&& y=q;intro J e3 e4;rcases abg x with a|a<;>rcases abg y with b|b<;>rw[a,b]at e3 e4<;>lia
def Df(ai:0<=i)(aF:0<=j):Builtin.bitAnd i j=((i.toNat &&& j.toNat:Nat):Int):=by
 unfold Builtin.bitAnd;rw[decide_eq_true ai,decide_eq_true aF]
def Le(ai:0<=i)(aF:¬0<=j):Builtin.bitAnd i j=i-((i.toNat &&& (-j-1).toNat:Nat):Int):=by
 unfold Builtin.bitAnd;rw[decide_eq_true ai,decide_eq_false aF];rfl
def ZD(ai:0<=i)(aF:0<=j):Builtin.bitXor i j=((i.toNat ^^^ j.toNat:Nat):Int):=by
 rw[bitXor_and,Df ai aF];have:=CR i.toNat j.toNat;lia
section
variable{xp:dq}{X:aU}{mu:List Nat}{m:fp}{f bC dR dA:bx->cn D}{a b c e:Expr}{pos:Pos}{pins:List (Addr×Obj)}{σ:de}{G H:aB}{s:Shared}
def NI:d0 X (binaryOp .BitAnd) (mf X.K (Den.ec .and)):=by
 intro pins s σ H x y v u Q I bf bL ⟨G,bk,dj,ae,b8,eh,hw⟩;cases bk<;>cases dj<;>first|exact hw.elim|skip
 rename_i i j;have hw:cq (Den.ot i j) _ _:=hw;unfold Den.ot at hw
 by_cases h:0<=i
 .rw[if_pos h]at hw
  by_cases h2:0<=j
  .rw[if_pos h2]at hw;exact HJ pins s σ H x y v u Q I bf bL ⟨_,_,b8,eh,by dsimp only;rw[Df h h2];exact ni ae hw rfl⟩
  .rw[if_neg h2]at hw;exact HJ pins s σ H x y v u Q I bf bL ⟨_,_,b8,eh,by dsimp only;rw[Le h h2];exact ni ae hw rfl⟩
 .rw[if_neg h]at hw;exact hw.elim
def NQ:d0 X (binaryOp .BitXor) (mf X.K (Den.ec .xor)):=by
 intro pins s σ H x y v u Q I bf bL ⟨G,bk,dj,ae,b8,eh,hw⟩;cases bk<;>cases dj<;>first|exact hw.elim|skip
 rename_i i j;have hw:cq (Den.uD i j) _ _:=hw;unfold Den.uD at hw
 by_cases h:0<=i/\0<=j
 .rw[if_pos h]at hw;exact Uu pins s σ H x y v u Q I bf bL ⟨_,_,b8,eh,by dsimp only;rw[ZD h.1 h.2];exact ni ae hw rfl⟩
 .rw[if_neg h]at hw;exact hw.elim
theorem qK:∀{ds:List D}{k:List Int},Den.intsOf ds=some k->ds=k.map .int
 |[],_,h=>by cases h;rfl
 |.int i::ds,k,h=>by
  cases q:Den.intsOf ds with
  |none=>simp[Den.intsOf,q]at h
  |some di =>
   simp only[Den.intsOf,q,Option.map_some,ab0]at h;subst h;rw[qK q];rfl
 |.dT::_,_,h=>by cases h
 |.aP _::_,_,h=>by cases h
 |.str _::_,_,h=>by cases h
 |.tup _::_,_,h=>by cases h
 |.lst _::_,_,h=>by cases h
 |.bY _::_,_,h=>by cases h
 |.bH _::_,_,h=>by cases h
 |.cN _::_,_,h=>by cases h
 |.hJ _::_,_,h=>by cases h
def ints_list(I:Inv X pins σ H s){K:W.Frag}(ae:bw G H)(b8:View X.K G H (.lst (ns.map .int)) z)(bf:RelV z u):∃(a:Addr)(xs:Array (Int×Tok)),u=.ref a/\s.heap.IsList a (intItems xs)/\xs.toList.map (·.1)=ns:=by
 obtain⟨a,ys,rfl,aE,rs⟩:=b8;cases bf;rw[jD rs]at aE;obtain⟨its,bI,b0,hz⟩:=I.list aE;have ai:IntsAre its ns:=intsAre_of bI;obtain⟨xs,ex⟩:=ai.allInts.items;refine⟨a,xs,rfl,by rw[<- ex];exact b0.isList,?_⟩;rw[<- nums_intItems,<- ex];exact ai.numsOf
def Pu(ag:X.calm=true):gS X (.builtin "sum") (kY X.K m λd=>Den.qR d>>=λxs=>Den.k9 xs):=by
 intro pins s σ H xs us Q I r ⟨G,z,d,ex,ae,b8,hw⟩;subst ex;obtain⟨u,rfl,bf⟩:=vals1 r;cases d with
 |lst ds =>
  have jv:cq (Den.k9 ds) _ _:=hw;clear hw;unfold Den.k9 at jv;cases q:Den.intsOf ds with
  |none=>rw[q]at jv;exact jv.elim
  |some ns =>
   rw[q]at jv;cases qK q;obtain⟨a,xs,rfl,ax,lL⟩:=ints_list (K:=X.K) I ae b8 bf;refine sum_intListG (I.ok.hd ag) ax λh' tk t' aw=>?_
   refine⟨.int ns.sum,H,I.kept aw,⟨t',?_⟩,jv _ G H (Ext.refl ae) cI.int⟩;rw[preSum_eq,acK (by simp),lL]
 |_=>exact hw.elim
theorem Dj(g:Nat->Int):∀k,g (argBest (λi j=>decide (g i>g j)) k)=((List.range k).map λi=>g (i+1)).foldl (λm x=>if x>m then x else m) (g 0)
 |0=>rfl
 |k+1=>by
  rw[List.range_succ,List.map_append,List.foldl_append,<- Dj g k];show g (if decide (g (k+1)>g (argBest (λi j=>decide (g i>g j)) k))=true then k+1 else argBest (λi j=>decide (g i>g j)) k)=_;simp only[List.map_cons,ac8,List.foldl_cons,List.foldl_nil]
  by_cases h:g (k+1)>g (argBest (λi j=>decide (g i>g j)) k)
  .rw[if_pos (decide_eq_true h),if_pos h]
  .rw[if_neg (by simpa using h),if_neg h]
def T3(xs)(n)(ns)(h:xs.toList.map (·.1)=n::ns):numAt xs 0=n/\(List.range (xs.size-1)).map (λi=>numAt xs (i+1))=ns:=by
 have aQ:∀i,numAt xs i=((n::ns)[i]?).getD 0:=λi=>by
  unfold numAt;rw[<- h,abj,abO]
 have hz:xs.size=ns.length+1:=by
  have:=acp List.length h;simpa using this
 refine⟨by rw[aQ];rfl,?_⟩;rw[hz,Nat.add_sub_cancel];apply acG;intro i;rw[abj]
 by_cases ai:i<ns.length
 .rw[ac1 ai,Option.map_some,aQ,List.getElem?_cons_succ,abc ai];rfl
 .rw[abC (by simpa using ai),abC (by simpa using ai)];rfl
def Pp(ag:X.calm=true):gS X (.builtin "max") (kY X.K m λd=>Den.qR d>>=λxs=>Den.kT xs):=by
 intro pins s σ H xs us Q I r ⟨G,z,d,ex,ae,b8,hw⟩;subst ex;obtain⟨u,rfl,bf⟩:=vals1 r;cases d with
 |lst ds =>
  have jv:cq (Den.kT ds) _ _:=hw;clear hw;unfold Den.kT at jv;cases q:Den.intsOf ds with
  |none=>rw[q]at jv;exact jv.elim
  |some ns =>
   rw[q]at jv;cases ns with
   |nil=>exact jv.elim
   |cons n ns =>
    cases qK q;obtain⟨a,xs,rfl,ax,lL⟩:=ints_list (K:=X.K) I ae b8 bf;obtain⟨e0,e1⟩:=T3 xs n ns lL;have hz:0<xs.size:=by
     have:=acp List.length lL;simp at this;lia
    refine max_intList (I.ok.hd ag) ax hz λv h' tk aI aw=>?_
    obtain⟨t,rfl⟩:=intItems_at aI;refine⟨.int (ns.foldl (λm x=>if x>m then x else m) n),H,I.kept aw,⟨t,?_⟩,jv _ G H (Ext.refl ae) cI.int⟩;rw[Dj (numAt xs),e0,e1]
 |_=>exact hw.elim
end
section
variable{xp:dq}{X:aU}{mu:List Nat}{m:fp}{f:bx->cn D}{e dv iter:Expr}{pos p1 p4 ap dG:Pos}{i:Nat}{x n:Str}{uu:List Stmt}
def DP{o:Option (Option D)}(h:cq (Den.mU o) Q E):∃ds,o=some (some (.lst ds))/\Q ():=by
 cases o with
 |none=>exact h.elim
 |some o =>
  cases o with
  |none=>exact h.elim
  |some d =>
   cases d with
   |lst ds=>exact⟨ds,rfl,h⟩
   |_=>exact h.elim
def Ai(cK:starEach [e] X.env=[(false,eval e X.env)]):((backTo dG (starEach [e] X.env)).all (λx=>!x.1)&&(backToKw dG (keywordEach [] X.env)).all (λx=>x.1.isSome)&&decide ([e].length+([]:List Keyword).length+(if ([]:List Keyword).isEmpty then 0 else 1)<30))=true:=by
 rw[cK];rfl
def Wl(hm:i∈mu)(az:n="append")(aG:X.N[i]?=some x)(aI:e6 X.env.scope x)(J:(x==("__debug__":Str))=false)(h2:(x==("__classdict__":Str))=false)(i4:(ap.endLine==dG.line)=true)(he:aO X e (bG xp X mu .val f))(cK:starEach [e] X.env=[(false,eval e X.env)]):
  c9 X (.Expr (.Call (.Attribute (.Name x p1) n ap) [e] [] dG) p4) (c5 xp X mu λρ=>Den.mU ρ[i]?>>=λ_=>f ρ>>=λd=>Den.rT ρ[i]? d>>=λy=>.ok (.br (ρ.set i (some y)))):=by
 subst az;intro pins s σ H T I ⟨bl,a8,G,ρ,aa,hw⟩;refine BL (By ac5 PySem.F.slot_list_append PySem.F.type_list_append Hg (gg aG aI J h2) (nT he cK) rfl (Ai cK) i4 cK rfl) rfl pins s σ H T I ?_;obtain⟨ds,q,hw⟩:=DP (bS.mp hw);obtain⟨a,o,k1,k2,k3,xs,rfl,b6⟩:=aa.bX.lst i (.lst ds) q hm rfl;refine⟨_,k1,.inl ⟨rfl,xs,d1.of k2⟩,?_⟩;refine⟨G,ρ,aa.bX,cz (bS.mp hw) (λd k v aK H1 aT aH=>?_) λ_ z=>z.mono aa.ext.h⟩;have g0:=aa.step aT;rw[q,Den.uX]at k;have k:=bS.mp k
 by_cases hz:ds.length<Den.SZ
 .rw[if_pos hz]at k;have sQ:H1 a=some (.lst xs):=aT.h _ _ k2;have sP:aK a=none:=aT.new a k3 (by rw[k2];exact λz=>nomatch z);refine⟨a,xs,v,rfl,rfl,sQ,by rw[<- b6.length,<- rO];exact hz,?_⟩;exact k σ aK _ (g0.write (d:=.lst ds) (e:=.lst (ds++[d])) hm q rfl rfl k1 sP ⟨_,rfl,(b6.mono aT.g).snoc aH⟩)
 .rw[if_neg hz]at k;exact k.elim
noncomputable def hN(aK a8:aB):aB:=λa=>match aK a with
 |some o=>some o
 |none=>a8 a
def nG(h:aK a=some o):hN aK a8 a=some o:=by unfold hN;rw[h]
def jw(h:aK a=none):hN aK a8 a=a8 a:=by unfold hN;rw[h]
variable{K:W.Frag}{bl a8 aK H1 G H:aB}{ρ:bx}{σ:de}
def I5(x:Ext bl a8 aK H1):bw a8 (hN aK a8):=λa o h=>by
 cases q:aK a with
 |none=>rw[jw q];exact h
 |some bJ =>
  rw[nG q];have e1:=x.sub a bJ q;have e2:=x.h a o h;rw[e1]at e2;exact e2
def Pa(x:Ext bl a8 aK H1)(y:Ext bl a8 G H)(s:bw aK G):Ext aK (hN aK a8) G H where
 g:=s
 h:=λa o e=>by
  cases q:aK a with
  |some bJ=>rw[nG q]at e;cases e;exact y.sub a o (s a o q)
  |none=>rw[jw q]at e;exact y.h a o e
 sub:=y.sub
 new:=λa e1 e2=>by
  rw[jw e1]at e2;refine y.new a ?_ e2;cases q:bl a with
  |none=>rfl
  |some o=>rw[x.g a o q]at e1;cases e1
 dw:=λb xs z=>(y.dw b xs z).elim (λw=>.inl (by
  cases q:aK b with
  |none=>rw[jw q];exact w
  |some o=>rw[nG q];rw[y.sub b o (s b o q)]at z;exact z)) .inr
def EN(x:Ext bl a8 aK H1)(y:Ext aK (hN aK a8) G H):Ext bl a8 G H where
 g:=x.g.trans y.g
 h:=(I5 x).trans y.h
 sub:=y.sub
 new:=λa e1 e2=>by
  have q:=x.new a e1 e2;exact y.new a q (by rw[jw q];exact e2)
 dw:=λb xs z=>(y.dw b xs z).elim (λw=>by
  cases q:aK b with
  |none=>rw[jw q]at w;exact .inl w
  |some o=>rw[nG q]at w;exact .inr (y.g _ _ (q.trans w))) .inr
def dP.re(x:Ext bl a8 aK H1)(h:dP K mu bl a8 G H ρ σ)(s:bw aK G):dP K mu aK (hN aK a8) G H ρ σ:=by
 refine⟨h.bX,Pa x h.ext s,λi ds a q ft ai e=>?_⟩;obtain⟨b,xs,k1,k2,k3,b6⟩:=h.bX.lst i ds q ai ft;rw[k1]at e;cases e;have:aK a=none:=by
  cases z:aK a with
  |none=>rfl
  |some o=>rw[s a o z]at k3;cases k3
 rw[jw this];exact h.own i ds a q ft ai k1
def dP.back(x:Ext bl a8 aK H1)(h:dP K mu aK (hN aK a8) G H ρ σ):dP K mu bl a8 G H ρ σ:=by
 refine⟨h.bX,EN x h.ext,λi ds a q ft ai e=>?_⟩;have:=h.own i ds a q ft ai e;cases z:aK a with
 |some o=>rw[nG z]at this;cases this
 |none=>rw[jw z]at this;exact this
theorem dP.Ja:∀{ts:List Nat}{ws:List D}{af:List V}{ρ:bx}{σ:de},(∀t∈ts,t∉mu)->dP K mu bl a8 G H ρ σ->bA K G ws af->dP K mu bl a8 G H (Den.mg ts (ws.map some) ρ) (nZ ts af σ)
 |[],ws,af,ρ,σ,_,h,r=>by simpa[Den.mg,nZ] using h
 |t::ts,[],af,ρ,σ,_,h,r=>by cases r;simpa[Den.mg,nZ] using h
 |t::ts,w::ws,af,ρ,σ,ay,h,⟨v,r,e,aH,aX⟩=>by
  subst e;exact dP.Ja (ts:=ts) (λz hz=>ay z (List.mem_cons_of_mem _ hz)) (h.uh (ay t List.mem_cons_self) aH) aX
def PN(g:D->bx->cn Den.ep)(d:D)(ds:List D)(ρ:bx):Den.forL g (d::ds) ρ=g d ρ>>=λr=>match r with
  |.br bK=>Den.forL g ds bK
  |.cP x=>.ok (.cP x):=rfl
def WD(au:PassesOwn (model X.prog X.w) X.A X.env X.b9)(ag:X.calm=true)(RF:∀t∈ts,t∉mu)(ai:ir X dv iter (la xp X mu .val nf))(aQ:oi X dv (zN X.K k ts))(aa:f3 X uu (c5 xp X mu zQ))(ae:∀z,foldedSetIterable iter X.env z=pure z):c9 X (.For dv iter uu [] pos) (c5 xp X mu λρ=>nf ρ>>=λds=>Den.forL (λd bK=>Den.gI k d>>=λaf=>zQ (Den.mg ts af bK)) ds ρ):=by
 intro pins s σ H T I ⟨bl,a8,G,ρ,iC,hw⟩;refine Vr au ag ai aQ aa ae pins s σ H T I ?_;refine⟨G,ρ,iC.bX,cz (bS.mp hw) (λds ic dD aK H1 aT lW hz=>?_) λ_ q=>q.mono iC.ext.h⟩;have xJ:Ext bl a8 aK H1:=iC.ext.trans aT;have Xp:=I5 xJ;refine⟨λj m cj ao=>j+m=ds.length/\∃aL bK,dP X.K mu aK (hN aK a8) aL ao bK cj/\cq (Den.forL (λd bK=>Den.gI k d>>=λaf=>zQ (Den.mg ts af bK)) (ds.drop j) bK) (hZ X.K mu bl a8 T) (λc=>eY xp X c a8),
  ⟨ds.length,⋯,aK,ρ,dP.re xJ (iC.step aT) (bw.refl _),by simpa using ic⟩,?_⟩
 rintro j m cj ao ⟨aF,aL,bK,dM,gz⟩;have oT:rN .val aK H1 aL ao:=⟨dM.ext.g,dM.bX.sub⟩
 by_cases bM:j<ds.length
 .refine .inr ⟨lW.go j aL ao oT bM,λn9 aR=>(j+1)+(m-1)=ds.length/\∃cM ke,dP X.K mu aK (hN aK a8) cM aR ke n9/\cq (Den.forL (λd bK=>Den.gI k d>>=λaf=>zQ (Den.mg ts af bK)) (ds.drop (j+1)) ke) (hZ X.K mu bl a8 T) (λc=>eY xp X c a8),
   λn9 aR h2=>⟨m-1,⋯,h2⟩,λv aR aN=>?_⟩
  have hd:ds[j]?=some ds[j]:=abc bM;obtain⟨cM,cg,dE⟩:=lW.ll j aL ao v aR ds[j] oT dM.bX.sub hd aN;have B3:=dM.step cg;have Ob:ds.drop j=ds[j]::ds.drop (j+1):=acS bM;rw[Ob,PN]at gz;have gz:=bS.mp (bS.mp gz);refine⟨cM,ds[j],cg.sub,dE,?_⟩;cases q:Den.gI k ds[j] with
  |bad=>rw[q]at gz;exact gz
  |exc c =>
   exfalso;cases k with
   |zero=>cases q
   |succ k =>
    cases gc:ds[j] with
    |tup zs =>
     rw[gc]at q;have Qv:Den.gI (k+1) (.tup zs)=if zs.length=k+1 then .ok (zs.map some) else .bad:=rfl;rw[Qv]at q
     split at q<;>cases q
    |_=>rw[gc]at q;cases q
  |ok os =>
   rw[q]at gz;intro ws af zr Wg;subst zr;refine⟨aK,hN aK a8,cM,_,dP.Ja RF B3 Wg,cz gz (λr Gz=>?_) λc z=>z.mono Xp⟩;cases r with
   |br ke=>exact λjJ ob bj W8=>⟨⋯,ob,ke,W8,Gz⟩
   |cP d=>exact λCC ob bj iN eJ=>Gz CC ob bj (EN xJ iN) eJ
 .have lJ:j=ds.length:=⋯;subst lJ;refine .inl ⟨lW.stop aL ao oT,?_⟩;rw[List.drop_length]at gz;exact gz cj aL ao (dP.back xJ dM)
end
def qH(a k:List Int):decide (a.map (Sum.inl (β:=Str))=k.map Sum.inl)=decide (a=k):=by
 by_cases h:a=k
 .simp[h]
 .have:a.map (Sum.inl (β:=Str))≠k.map Sum.inl:=λz=>h ((List.map_inj_right (λa b=>aez)).mp z)
  simp[h,this]
def NZ(ah)(k):g9 (hk ah) (k.map Sum.inl)=(Den.pR ah k).map V.int:=by
 induction ah with
 |nil=>rfl
 |cons p ah aD =>
  unfold g9 Den.pR hk at aD ⊢;rw[List.map_cons,List.find?_cons,List.find?_cons];dsimp only;rw[qH]
  by_cases h:p.1=k
  .simp[h]
  .simp only[decide_eq_false h];exact aD
def NY(ah)(k)(n):putK (hk ah) (k.map Sum.inl) (V.int n)=hk (Den.putN ah k n):=by
 have e1:((hk ah).any λcx=>decide (cx.1=k.map Sum.inl))=ah.any λp=>decide (p.1=k):=by
  induction ah with
  |nil=>rfl
  |cons p ah aD=>unfold hk at aD ⊢;rw[List.map_cons,List.any_cons,List.any_cons,aD,qH]
 have e2:(hk ah).map (λcx=>if cx.1=k.map Sum.inl then(cx.1,V.int n) else cx)=hk (ah.map λp=>if p.1=k then(p.1,n) else p):=by
  unfold hk;rw[List.map_map,List.map_map];refine abM λp _=>?_
  have:=qH p.1 k
  by_cases h:p.1=k
  .simp[h]
  .have h':¬p.1.map (Sum.inl (β:=Str))=k.map Sum.inl:=(by simpa[h] using this);simp[h,h']
 unfold putK Den.putN;rw[e1]
 split
 .exact e2
 .unfold hk;rw[List.map_append];rfl
def AY(k:List Int):(k.map (Sum.inl (β:=Str))).map c3=k.map V.int:=by rw[List.map_map];rfl
def se{o:Option (Option D)}(h:Den.ku o=some ah):o=some (some (.bY ah)):=by
 unfold Den.ku at h
 split at h
 .cases h;rfl
 .cases h
def vd{o:Option (Option D)}(h:Den.jn o=some ah):o=some (some (.bH ah)):=by
 unfold Den.jn at h
 split at h
 .cases h;rfl
 .cases h
def jQ{α:Type}{f:D->Option α}{o:Option (Option D)}{a:α}(h:Den.ew f o=some a):∃d,o=some (some d)/\f d=some a:=by
 unfold Den.ew at h
 split at h
 .exact⟨_,rfl,h⟩
 .cases h
def tw{d:D}(h:Den.intD d=some i):d=.int i:=by
 unfold Den.intD at h
 split at h
 .cases h;rfl
 .cases h
def ro{d:D}(h:Den.fX d=some k):d=.tup (k.map .int):=by
 unfold Den.fX at h
 split at h
 .rw[qK h]
 .cases h
def IH{d:D}(h:Den.rowOf d=some r):d=Den.pE r:=by
 unfold Den.rowOf at h
 split at h
 .split at h
  .rename_i e;cases h;rw[qK e];rfl
  .cases h
 .cases h
def sb{o:Option (Option D)}(h:Den.ks o=some ah):o=some (some (.cN ah)):=by
 unfold Den.ks at h
 split at h
 .cases h;rfl
 .cases h
theorem J7:∀{xs:List D}{ar:List (List Int)},Den.pQ xs=some ar->xs=ar.map λk=>.tup (k.map .int)
 |[],ar,h=>by cases h;rfl
 |x::xs,ar,h=>by
  unfold Den.pQ at h;cases e1:Den.fX x with
  |none=>rw[e1]at h;cases h
  |some k =>
   cases e2:Den.pQ xs with
   |none=>rw[e1,e2]at h;cases h
   |some cE =>
    rw[e1,e2]at h;cases h;rw[ro e1,J7 e2];rfl
def Mj{d:D}(h:Den.qe d=some cs):d=Den.fQ cs:=by
 unfold Den.qe at h
 split at h
 .rw[J7 h];rfl
 .cases h
theorem ints_rep{K:W.Frag}:∀ns:List Int,bA K G (ns.map Den.D.int) (ns.map V.int)
 |[]=>rfl
 |n::ns=>⟨.int n,ns.map V.int,rfl,rfl,ints_rep ns⟩
theorem DX{K:W.Frag}:∀{cs:List (List Int)}{xs:List V},bA K G (cs.map λc=>.tup (c.map .int)) xs->iO G cs xs
 |[],_,h=>h
 |c::cs,_,⟨v,r,e,⟨a,ys,e2,J,h2⟩,h3⟩=>by subst e e2;rw[jD h2]at J;exact⟨a,r,rfl,J,DX h3⟩
theorem zf{K:W.Frag}:∀{cs:List (List Int)}{xs:List V},iO G cs xs->bA K G (cs.map λc=>.tup (c.map .int)) xs
 |[],_,h=>h
 |c::cs,_,⟨b,r,e,J,h2⟩=>⟨_,r,e,⟨b,_,rfl,J,ints_rep c⟩,zf h2⟩
section
variable{G:aB}
theorem et.val:∀{ah:List (List Int×List (List Int))}{ys:List (List Key×V)},et G ah ys->∀k:List Int,(Den.hv ah k=none/\g9 ys (k.map Sum.inl)=none)\/∃cs b xs,Den.hv ah k=some cs/\g9 ys (k.map Sum.inl)=some (.ref b)/\G b=some (.tup xs)/\iO G cs xs
 |[],_,h,k=>by cases h;exact .inl ⟨rfl,rfl⟩
 |p::ah,_,⟨b,xs,t,e,J,h2,h3⟩,k=>by
  subst e;unfold Den.hv g9;rw[List.find?_cons,List.find?_cons];dsimp only;rw[qH]
  by_cases c:p.1=k
  .rw[decide_eq_true c];exact .inr ⟨p.2,b,xs,rfl,rfl,J,h2⟩
  .rw[decide_eq_false c];exact et.val h3 k
theorem et.any:∀{ah:List (List Int×List (List Int))}{ys:List (List Key×V)},et G ah ys->∀k:List Int,(ys.any λcx=>decide (cx.1=k.map Sum.inl))=ah.any λp=>decide (p.1=k)
 |[],_,h,k=>by cases h;rfl
 |p::ah,_,⟨b,xs,t,e,J,h2,h3⟩,k=>by
  subst e;rw[List.any_cons,List.any_cons,et.any h3 k,qH]
theorem et.map{k:List Int}(aa:G b=some (.tup xs))(ag:iO G cs xs):∀{ah:List (List Int×List (List Int))}{ys:List (List Key×V)},et G ah ys->et G (ah.map λp=>if p.1=k then(p.1,cs) else p) (ys.map λcx=>if cx.1=k.map Sum.inl then(cx.1,.ref b) else cx)
 |[],_,h=>by cases h;rfl
 |p::ah,_,⟨f7,uE,t,e,J,h2,h3⟩=>by
  subst e;rw[List.map_cons,List.map_cons];have hd:=qH p.1 k
  by_cases c:p.1=k
  .rw[if_pos c,if_pos (by rw[c])];exact⟨b,xs,_,rfl,aa,ag,et.map aa ag h3⟩
  .rw[if_neg c,if_neg (by simpa[c] using hd)];exact⟨f7,uE,_,rfl,J,h2,et.map aa ag h3⟩
theorem et.snoc(aa:G b=some (.tup xs))(ag:iO G q.2 xs):∀{ah:List (List Int×List (List Int))}{ys:List (List Key×V)},et G ah ys->et G (ah++[q]) (ys++[(q.1.map Sum.inl,.ref b)])
 |[],_,h=>by cases h;exact⟨b,xs,[],rfl,aa,ag,rfl⟩
 |p::ah,_,⟨f7,uE,t,e,J,h2,h3⟩=>by subst e;exact⟨f7,uE,_,rfl,J,h2,et.snoc aa ag h3⟩
def et.put(h:et G ah ys)(k)(aa:G b=some (.tup xs))(ag:iO G cs xs):et G (Den.nW ah k cs) (putK ys (k.map Sum.inl) (.ref b)):=by
 unfold Den.nW putK;rw[h.any k]
 split
 .exact h.map aa ag
 .exact h.snoc (q:=(k,cs)) aa ag
theorem et.len:∀{ah:List (List Int×List (List Int))}{ys:List (List Key×V)},et G ah ys->ys.length=ah.length
 |[],_,h=>by cases h;rfl
 |p::ah,_,⟨b,xs,t,e,J,h2,h3⟩=>by subst e;rw[List.length_cons,List.length_cons,et.len h3]
end
section
variable{G:aB}
theorem eu.val:∀{ah:List (Int×Int×Int)}{ys:List (Key×V)},eu G ah ys->∀{k:Int}{r:Int×Int},Den.n4 ah k=some r->∃b,g9 ys (Sum.inl k)=some (.ref b)/\G b=some (.tup [.int r.1,.int r.2])
 |[],_,_,k,r,e=>by cases e
 |p::ah,_,⟨b,t,e,J,h2⟩,k,r,q=>by
  subst e;unfold Den.n4 at q;unfold g9;rw[List.find?_cons]at q ⊢
  by_cases c:p.1=k
  .simp only[c,adK,Option.map_some,ab0]at q ⊢;subst q;exact⟨b,rfl,J⟩
  .have cW:¬(Sum.inl p.1:Key)=Sum.inl k:=λz=>c (aez z)
   simp only[c,cW,decide_false]at q ⊢;exact eu.val h2 q
theorem eu.any:∀{ah:List (Int×Int×Int)}{ys:List (Key×V)},eu G ah ys->∀k:Int,(ys.any λcx=>decide (cx.1=Sum.inl k))=ah.any λp=>decide (p.1=k)
 |[],_,h,k=>by cases h;rfl
 |p::ah,_,⟨b,t,e,J,h2⟩,k=>by
  subst e;rw[List.any_cons,List.any_cons,eu.any h2 k];congr 1
  by_cases c:p.1=k
  .simp[c]
  .have cW:¬(Sum.inl p.1:Key)=Sum.inl k:=λz=>c (aez z)
   simp[c,cW]
theorem eu.map(aa:G b=some (.tup [.int r.1,.int r.2])):∀{ah:List (Int×Int×Int)}{ys:List (Key×V)},eu G ah ys->eu G (ah.map λp=>if p.1=k then(p.1,r) else p) (ys.map λcx=>if cx.1=Sum.inl k then(cx.1,.ref b) else cx)
 |[],_,h=>by cases h;rfl
 |p::ah,_,⟨f7,t,e,J,h2⟩=>by
  subst e;rw[List.map_cons,List.map_cons]
  by_cases c:p.1=k
  .rw[if_pos c,if_pos (by rw[c])];exact⟨b,_,rfl,aa,eu.map aa h2⟩
  .rw[if_neg c,if_neg λz=>c (aez z)];exact⟨f7,_,rfl,J,eu.map aa h2⟩
theorem eu.snoc(aa:G b=some (.tup [.int q.2.1,.int q.2.2])):∀{ah:List (Int×Int×Int)}{ys:List (Key×V)},eu G ah ys->eu G (ah++[q]) (ys++[(Sum.inl q.1,.ref b)])
 |[],_,h=>by cases h;exact⟨b,[],rfl,aa,rfl⟩
 |p::ah,_,⟨f7,t,e,J,h2⟩=>by subst e;exact⟨f7,_,rfl,J,eu.snoc aa h2⟩
def eu.put(h:eu G ah ys)(k)(aa:G b=some (.tup [.int r.1,.int r.2])):eu G (Den.me ah k r) (putK ys (Sum.inl k) (.ref b)):=by
 unfold Den.me putK;rw[h.any k]
 split
 .exact h.map aa
 .exact h.snoc (q:=(k,r)) aa
theorem eu.len:∀{ah:List (Int×Int×Int)}{ys:List (Key×V)},eu G ah ys->ys.length=ah.length
 |[],_,h=>by cases h;rfl
 |p::ah,_,⟨b,t,e,J,h2⟩=>by subst e;rw[List.length_cons,List.length_cons,eu.len h2]
def II{K:W.Frag}(h:Rep K G (Den.pE r) v):∃b,v=.ref b/\G b=some (.tup [.int r.1,.int r.2]):=by
 obtain⟨b,xs,e,J,h2⟩:=h;rw[jD (ns:=[r.1,r.2]) h2]at J;exact⟨b,e,J⟩
def Wa{K:W.Frag}(h:G b=some (.tup [.int r.1,.int r.2])):Rep K G (Den.pE r) (.ref b):=⟨b,_,rfl,h,.int r.1,_,rfl,rfl,.int r.2,_,rfl,rfl,rfl⟩
end
section
variable{X:aU}{pins:List (Addr×Obj)}{σ:de}{G H:aB}{s:Shared}
def freeze(I:Inv X pins σ H s)(bo:H a=some u)(bc:(∃ys,u=.dQ ys)\/∃ys,u=.da ys):∃bb,Inv X pins σ (upd H a (.dk bb u)) s:=by
 obtain⟨bb,av,_⟩:=VP I (a:=a) (by rcases bc with⟨ys,rfl⟩|⟨ys,rfl⟩;exact .inl ⟨ys,.inl bo⟩;exact .inr ⟨ys,.inl bo⟩);have ne:∀{b:Addr},H b=none->b≠a:=λq z=>by rw[z,bo]at q;cases q
 have nt:∀{b:Addr}{v:eW},H b=some v->(∀ys,v≠.dQ ys)->(∀ys,v≠.da ys)->b≠a:=λq J h2 z=>by
  rw[z,bo]at q;cases q;rcases bc with⟨ys,e⟩|⟨ys,e⟩
  .exact J ys e
  .exact h2 ys e
 have jE:∀{b:Addr}{v:eW},dX X.prog X.w H s.heap b v->dX X.prog X.w (upd H a (.dk bb u)) s.heap b v:=λq=>q.jE (λ_ _ _ z=>z)
  (λc z=>by rw[cG (nt z (λ_ w=>nomatch w) λ_ w=>nomatch w)];exact z) λc xs z=>by rw[cG (nt z (λ_ w=>nomatch w) λ_ w=>nomatch w)];exact z
 refine⟨bb,I.ok,I.os,I.bare,⟨I.base.keep,I.base.slot,λb o e n ak=>?_,I.base.there,λb xs e=>?_,λb o v e=>?_,λb aJ e=>?_⟩,I.loc,I.cell,?_,λx c e=>?_,λp au=>?_,λb v e=>?_,I.len⟩
 .have q:=I.base.free b o e n ak;rw[cG (ne q)];exact q
 .have q:=I.base.jG b xs e;rw[cG (nt q (λ_ w=>nomatch w) λ_ w=>nomatch w)];exact q
 .have q:=I.base.iZ b o v e;rw[cG (nt q (λ_ w=>nomatch w) λ_ w=>nomatch w)];exact q
 .obtain⟨more,q⟩:=I.base.jF b aJ e;exact⟨more,by rw[cG (nt q (λ_ w=>nomatch w) λ_ w=>nomatch w)];exact q⟩
 .rw[cG (ne I.free)];exact I.free
 .rw[cG (ne (I.hK x c e))];exact I.hK x c e
 .obtain⟨bO,bE,dx⟩:=I.pin p au;exact⟨bO,by rw[cG (ne bE)];exact bE,dx⟩
 .by_cases c:b=a
  .subst c;rw[dm]at e;cases e;exact⟨av,jE (I.bz b u bo)⟩
  .rw[cG c]at e;exact jE (I.bz b v e)
def BA(h:aO X e eM):aO X e (λσ H Q=>eM σ H λv H1=>∃a u,v=.ref a/\H1 a=some u/\((∃ys,u=.dQ ys)\/∃ys,u=.da ys)/\∀bb,Q v (upd H1 a (.dk bb u))):=by
 intro pins s σ H Q I q;refine abV (h pins s σ H _ I q) (λw s1 ⟨v,H1,aY,bI,a,u,e,bo,bc,k⟩=>?_) λ_ _ z=>z
 obtain⟨bb,cb⟩:=freeze aY bo bc;exact⟨v,_,cb,bI,k bb⟩
end
section
variable{xp:dq}{X:aU}{mu:List Nat}{m:fp}{f:bx->cn D}{val:Expr}{pos p1 p2 p3 p4 kU:Pos}{i j:Nat}{x y:Str}{pins:List (Addr×Obj)}{σ:de}{G H:aB}{s:Shared}{ρ:bx}
def O7(ae:bw G H)(au:H a=none)(av:∀xs,bJ≠.tup xs):Ext G H (upd G a bJ) (upd (upd H a o) a bJ):=by rw[CB];exact Ext.put ae au
def Wx(hm:i∈mu)(aG:X.N.Nodup)(ai:X.N[i]?=some x)(ak:Loc X.env.scope x)(hf:X.fn x=true\/X.env.scope.names.lookup x=some .local):c9 X (.Assign [.Name x p1] (.Dict [] [] kU) pos) (c5 xp X mu λρ=>.ok (.br (ρ.set i (some (.bY []))))):=by
 intro pins s σ H T I ⟨bl,a8,G,ρ,aa,hw⟩;refine q4 aG ai ak HR rfl hf pins s σ H T I ?_;intro p au;exact hw _ G _ (aa.rf (Ext.own aa.bX.sub au λ_ z=>nomatch z) hm rfl dm au (aa.bX.sub.free au) rfl)
def Wz(hm:i∈mu)(aG:X.N.Nodup)(ai:X.N[i]?=some x)(ak:Loc X.env.scope x)(hf:X.fn x=true\/X.env.scope.names.lookup x=some .local):c9 X (.Assign [.Name x p1] (.Dict [] [] kU) pos) (c5 xp X mu λρ=>.ok (.br (ρ.set i (some (.bH []))))):=by
 intro pins s σ H T I ⟨bl,a8,G,ρ,aa,hw⟩;refine q4 aG ai ak HQ rfl hf pins s σ H T I ?_;intro p au;exact hw _ G _ (aa.rf (Ext.own aa.bX.sub au λ_ z=>nomatch z) hm rfl dm au (aa.bX.sub.free au) ⟨[],rfl,rfl⟩)
def Wy(hm:i∈mu)(aG:X.N.Nodup)(ai:X.N[i]?=some x)(ak:Loc X.env.scope x)(hf:X.fn x=true\/X.env.scope.names.lookup x=some .local):c9 X (.Assign [.Name x p1] (.Dict [] [] kU) pos) (c5 xp X mu λρ=>.ok (.br (ρ.set i (some (.cN []))))):=by
 intro pins s σ H T I ⟨bl,a8,G,ρ,aa,hw⟩;refine q4 aG ai ak HR rfl hf pins s σ H T I ?_;intro p au;exact hw _ G _ (aa.rf (Ext.own aa.bX.sub au λ_ z=>nomatch z) hm rfl dm au (aa.bX.sub.free au) ⟨[],rfl,rfl⟩)
def WA:aO X (.Dict [] [] kU) (bG xp X mu .val λ_=>.ok (.bH [])):=by
 intro pins s σ H Q I ⟨G,ρ,ae,hw⟩;refine BA HQ pins s σ H Q I λp au=>⟨p,_,rfl,dm,.inl ⟨_,rfl⟩,λbb=>?_⟩
 exact hw (.ref p) _ _ (O7 ae.sub au λ_ z=>nomatch z) ⟨p,bb,[],rfl,dm,rfl⟩
def um(ae:ej X.K mu G H ρ σ)(hm:j∉mu){k:List Int}(h:ρ[j]?=some (some (.tup (k.map .int)))):∃b,σ[j]?=some (some (V.ref b))/\H b=some (.tup ((k.map (Sum.inl (β:=Str))).map c3)):=by
 obtain⟨v,J,b,ys,rfl,h2,h3⟩:=ae.val j _ h hm;rw[jD h3]at h2;exact⟨b,J,by rw[AY];exact ae.sub _ _ h2⟩
def Ww(ai:i∉mu)(aF:j∉mu)(aG:X.N[i]?=some x)(aI:e6 X.env.scope x)(J:(x==("__debug__":Str))=false)(h2:(x==("__classdict__":Str))=false)(kE:X.N[j]?=some y)(lU:e6 X.env.scope y)(lM:(y==("__debug__":Str))=false)(hl:(y==("__classdict__":Str))=false):aO X (.Dict [some (.Name x p1)] [.Name y p2] pos) (bG xp X mu .val λρ=>Den.si ρ[i]? ρ[j]?):=by
 intro pins s σ H Q I ⟨G,ρ,ae,hw⟩;dsimp only at hw;unfold Den.si at hw;cases e1:Den.ew Den.intD ρ[i]? with
 |none=>rw[e1]at hw;exact hw.elim
 |some k =>
  cases e2:Den.ew Den.rowOf ρ[j]? with
  |none=>rw[e1,e2]at hw;exact hw.elim
  |some r =>
   rw[e1,e2]at hw;obtain⟨bQ,aM,a7⟩:=jQ e1;obtain⟨bW,bU,cO⟩:=jQ e2;cases tw a7;cases IH cO;obtain⟨v1,k1,bO⟩:=ae.val i _ aM ai;have bO:v1=.int k:=bO;subst bO;obtain⟨v2,k2,bE⟩:=ae.val j _ bU aF;obtain⟨b,rfl,aa⟩:=II bE;refine BA (UN (Vg (gg aG aI J h2) (gg kE lU lM hl) Vh) rfl rfl (λz=>nomatch z) (by simp)) pins s σ H Q I λp au=>?_
   refine⟨_,k1,_,k2,dm,[(Sum.inl k,.ref b)],rfl,by simp,p,_,rfl,dm,.inl ⟨_,rfl⟩,λbb=>?_⟩;have kC:=ae.sub.free au;refine hw (.ref p) (upd G p (.dk bb (.dQ (qU [] [(Sum.inl k,.ref b)])))) _ (by rw[CB,CB];exact Ext.put ae.sub au) ⟨p,bb,_,rfl,dm,b,[],rfl,fU kC _ _ aa,rfl⟩
def Wu(bc:X.A.units+64<cLine)(aF:j∉mu)(aG:X.N[i]?=some x)(aI:e6 X.env.scope x)(J:(x==("__debug__":Str))=false)(h2:(x==("__classdict__":Str))=false)(kE:X.N[j]?=some y)(lU:e6 X.env.scope y)(lM:(y==("__debug__":Str))=false)(hl:(y==("__classdict__":Str))=false):aO X (.Subscript (.Name x p1) (.Name y p2) pos) (bG xp X mu m λρ=>Den.kx ρ[i]? ρ[j]?):=by
 intro pins s σ H Q I ⟨G,ρ,ae,hw⟩;refine UL ⋯ (gg aG aI J h2) (gg kE lU lM hl) (λ_ _=>rfl) pins s σ H Q I ?_;dsimp only at hw;have Su:∀ah k,Den.ku ρ[i]?=some ah->Den.ew Den.fX ρ[j]?=some k->xm (lb i) (lb j) σ H Q:=λah k e1 e2=>by
  rw[Den.kx,e1,e2]at hw;dsimp only at hw;obtain⟨v,k1,a,rfl,k2⟩:=ae.view (se e1);obtain⟨bW,bU,cO⟩:=jQ e2;cases ro cO;obtain⟨b,b6,k5⟩:=um ae aF bU;cases e3:Den.pR ah k with
  |none=>rw[e3]at hw;exact hw.elim
  |some n =>
   rw[e3]at hw;refine⟨_,k1,_,b6,a,.int n,rfl,.inr ⟨_,_,b,k2,rfl,k5,by rw[NZ,e3];rfl⟩,hw _ G H (Ext.refl ae.sub) (by cases m<;>rfl)⟩
 have Sq:∀ah k,Den.jn ρ[i]?=some ah->Den.ew Den.intD ρ[j]?=some k->cq (match Den.n4 ah k with|some r=>.ok (Den.pE r)|none=>.bad) (λd=>∀v aL ao,Ext G H aL ao->cI X.K H aL ao m d v->Q v ao) (λc=>eY xp X c H)->xm (lb i) (lb j) σ H Q:=λah k e1 e2 hw=>by
  obtain⟨v,k1,a,ys,rfl,k2,k3⟩:=ae.view (vd e1);obtain⟨bW,bU,cO⟩:=jQ e2;cases tw cO;obtain⟨v2,b6,bE⟩:=ae.val j _ bU aF;have bE:v2=.int k:=bE;subst bE;cases e3:Den.n4 ah k with
  |none=>rw[e3]at hw;exact hw.elim
  |some r =>
   rw[e3]at hw;obtain⟨b,g1,g2⟩:=k3.val e3;refine⟨_,k1,_,b6,a,.ref b,rfl,.inl ⟨ys,Sum.inl k,k2,rfl,g1.symm⟩,hw _ G H (Ext.refl ae.sub) ?_⟩;have:=Wa (K:=X.K) g2;cases m<;>exact this
 have AZ:cq (Den.zm ρ[i]? ρ[j]?) (λd=>∀v aL ao,Ext G H aL ao->cI X.K H aL ao m d v->Q v ao) (λc=>eY xp X c H)->xm (lb i) (lb j) σ H Q:=λhw=>by
  unfold Den.zm at hw;cases e1:Den.ks ρ[i]? with
  |none=>rw[e1]at hw;exact hw.elim
  |some ah =>
   cases e2:Den.ew Den.fX ρ[j]? with
   |none=>rw[e1,e2]at hw;exact hw.elim
   |some k =>
    rw[e1,e2]at hw;dsimp only at hw;obtain⟨v,k1,a,ys,rfl,k2,k3⟩:=ae.view (sb e1);obtain⟨bW,bU,cO⟩:=jQ e2;cases ro cO;obtain⟨b,b6,k5⟩:=um ae aF bU;rcases k3.val k with⟨z,_⟩|⟨cs,c,xs,bO,bE,dx,hV⟩
    .rw[z]at hw;exact hw.elim
    .rw[bO]at hw;refine⟨_,k1,_,b6,a,.ref c,rfl,.inr ⟨_,_,b,k2,rfl,k5,bE.symm⟩,hw _ G H (Ext.refl ae.sub) ?_⟩;have:Rep X.K G (Den.fQ cs) (.ref c):=⟨c,xs,rfl,dx,zf hV⟩;cases m<;>exact this
 cases e1:Den.ku ρ[i]? with
 |some ah =>
  cases e2:Den.ew Den.fX ρ[j]? with
  |some k=>exact Su ah k e1 e2
  |none =>
   rw[Den.kx,e1,e2]at hw;have:Den.jn ρ[i]?=none:=(by rw[se e1];rfl);rw[this]at hw;exact AZ hw
 |none =>
  rw[Den.kx,e1]at hw;dsimp only at hw;cases e3:Den.jn ρ[i]? with
  |none=>rw[e3]at hw;exact AZ hw
  |some ah =>
   cases e4:Den.ew Den.intD ρ[j]? with
   |none=>rw[e3,e4]at hw;exact AZ hw
   |some k=>rw[e3,e4]at hw;exact Sq ah k e3 e4 hw
def WB(bc:X.A.units+64<cLine)(hm:i∈mu)(aF:j∉mu)(aG:X.N[i]?=some x)(aI:e6 X.env.scope x)(J:(x==("__debug__":Str))=false)(h2:(x==("__classdict__":Str))=false)(kE:X.N[j]?=some y)(lU:e6 X.env.scope y)(lM:(y==("__debug__":Str))=false)(hl:(y==("__classdict__":Str))=false)(he:aO X val (bG xp X mu .val f))(ju:swapsWith val (some (.Subscript (.Name x p1) (.Name y p2) p3)) pos.line X.env=pure false):
  c9 X (.Assign [.Subscript (.Name x p1) (.Name y p2) p3] val pos) (c5 xp X mu λρ=>f ρ>>=λd=>Den.oJ ρ[i]? ρ[j]? d>>=λz=>.ok (.br (ρ.set i (some z)))):=by
 intro pins s σ H T I ⟨bl,a8,G,ρ,aa,hw⟩;refine Vq ⋯ (gg aG aI J h2) (gg kE lU lM hl) he ju pins s σ H T I ?_;refine⟨G,ρ,aa.bX,cz (bS.mp hw) (λd k v aK H1 aT aH=>?_) λ_ z=>z.mono aa.ext.h⟩;have g0:=aa.step aT;have k:=bS.mp k;have P9:∀ah d5 n,Den.ku ρ[i]?=some ah->Den.ew Den.fX ρ[j]?=some d5->d=.int n->ah.length<1000->hZ X.K mu bl a8 T (.br (ρ.set i (some (.bY (Den.putN ah d5 n)))))->∃w,σ[i]?=some (some w)/\∃u,σ[j]?=some (some u)/\∃a fD,w=.ref a/\iP H1 a u v fD/\T.br σ fD:=λah d5 n e1 e2 su hz q=>by
  subst su;have aH:v=.int n:=aH;subst aH;obtain⟨a,o,k1,k2,k3,b6⟩:=g0.bX.lst i _ (se e1) hm rfl;cases b6;obtain⟨bW,bU,cO⟩:=jQ e2;cases ro cO;obtain⟨b,k5,eI⟩:=um g0.bX aF bU;refine⟨_,k1,_,k5,a,_,rfl,iP.t k2 eI (by unfold hk;rw[List.length_map,sizeLine_eq];lia),?_⟩;rw[NY];exact q σ aK _ (g0.write (d:=.bY ah) (e:=.bY (Den.putN ah d5 n)) hm (se e1) rfl rfl k1 k3 rfl)
 have P8:∀ah d5 r,Den.jn ρ[i]?=some ah->Den.ew Den.intD ρ[j]?=some d5->d=Den.pE r->ah.length<1000->hZ X.K mu bl a8 T (.br (ρ.set i (some (.bH (Den.me ah d5 r)))))->∃w,σ[i]?=some (some w)/\∃u,σ[j]?=some (some u)/\∃a fD,w=.ref a/\iP H1 a u v fD/\T.br σ fD:=λah d5 r e1 e2 su hz q=>by
  subst su;obtain⟨c,rfl,ag⟩:=II aH;obtain⟨a,o,k1,k2,k3,ys,rfl,b6⟩:=g0.bX.lst i _ (vd e1) hm rfl;obtain⟨bW,bU,cO⟩:=jQ e2;cases tw cO;obtain⟨v2,k5,bE⟩:=g0.bX.val j _ bU aF;have bE:v2=.int d5:=bE;subst bE;refine⟨_,k1,_,k5,a,_,rfl,iP.k (k:=Sum.inl d5) k2 (by rw[b6.len,sizeLine_eq];lia),?_⟩;exact q σ aK _ (g0.write (d:=.bH ah) (e:=.bH (Den.me ah d5 r)) hm (vd e1) rfl rfl k1 k3 ⟨_,rfl,b6.put d5 ag⟩)
 have Cv:cq (Den.vf ρ[i]? ρ[j]? d) (λz=>cq (.ok (Den.ep.br (ρ.set i (some z)))) (hZ X.K mu bl a8 T) (λc=>eY xp X c a8)) (λc=>eY xp X c a8)->∃w,σ[i]?=some (some w)/\∃u,σ[j]?=some (some u)/\∃a fD,w=.ref a/\iP H1 a u v fD/\T.br σ fD:=λie=>by
  unfold Den.vf at ie;cases e1:Den.ks ρ[i]? with
  |none=>rw[e1]at ie;exact ie.elim
  |some ah =>
   cases e2:Den.ew Den.fX ρ[j]? with
   |none=>rw[e1,e2]at ie;exact ie.elim
   |some d5 =>
    cases e3:Den.qe d with
    |none=>rw[e1,e2,e3]at ie;exact ie.elim
    |some cs =>
     rw[e1,e2,e3]at ie;dsimp only at ie
     by_cases hz:ah.length<1000
     .rw[if_pos hz]at ie;cases Mj e3;obtain⟨c,xs,rfl,ag,aV⟩:=aH;obtain⟨a,o,k1,k2,k3,ys,rfl,b6⟩:=g0.bX.lst i _ (sb e1) hm rfl;obtain⟨bW,bU,cO⟩:=jQ e2;cases ro cO;obtain⟨b,k5,eI⟩:=um g0.bX aF bU;refine⟨_,k1,_,k5,a,_,rfl,iP.t k2 eI (by rw[b6.len,sizeLine_eq];lia),?_⟩;exact ie σ aK _ (g0.write (d:=.cN ah) (e:=.cN (Den.nW ah d5 cs)) hm (sb e1) rfl rfl k1 k3 ⟨_,rfl,b6.put d5 ag (DX aV)⟩)
     .rw[if_neg hz]at ie;exact ie.elim
 have second:cq (match Den.jn ρ[i]?,Den.ew Den.intD ρ[j]?,Den.rowOf d with|some ah,some k,some r=>if ah.length<1000 then .ok (Den.D.bH (Den.me ah k r)) else .bad|_,_,_=>Den.vf ρ[i]? ρ[j]? d) (λz=>cq (.ok (Den.ep.br (ρ.set i (some z)))) (hZ X.K mu bl a8 T) (λc=>eY xp X c a8)) (λc=>eY xp X c a8)->∃w,σ[i]?=some (some w)/\∃u,σ[j]?=some (some u)/\∃a fD,w=.ref a/\iP H1 a u v fD/\T.br σ fD:=λk=>by
  cases e1:Den.jn ρ[i]? with
  |none=>rw[e1]at k;exact Cv k
  |some ah =>
   cases e2:Den.ew Den.intD ρ[j]? with
   |none=>rw[e1,e2]at k;exact Cv k
   |some d5 =>
    cases e3:Den.rowOf d with
    |none=>rw[e1,e2,e3]at k;exact Cv k
    |some r =>
     rw[e1,e2,e3]at k;dsimp only at k
     by_cases hz:ah.length<1000
     .rw[if_pos hz]at k;exact P8 ah d5 r e1 e2 (IH e3) hz k
     .rw[if_neg hz]at k;exact k.elim
 unfold Den.oJ at k;cases e1:Den.ku ρ[i]? with
 |none=>rw[e1]at k;exact second k
 |some ah =>
  cases e2:Den.ew Den.fX ρ[j]? with
  |none=>rw[e1,e2]at k;exact second k
  |some d5 =>
   cases e3:Den.intD d with
   |none=>rw[e1,e2,e3]at k;exact second k
   |some n =>
    rw[e1,e2,e3]at k;dsimp only at k
    by_cases hz:ah.length<1000
    .rw[if_pos hz]at k;exact P9 ah d5 n e1 e2 (tw e3) hz k
    .rw[if_neg hz]at k;exact k.elim
def WU(hm:i∈mu)(aG:X.N[i]?=some x)(aI:e6 X.env.scope x)(J:(x==("__debug__":Str))=false)(h2:(x==("__classdict__":Str))=false):
  c9 X (.Return (some (.Name x p1)) pos) (c5 xp X mu λρ=>Den.sg ρ[i]?>>=λd=>.ok (.cP d)):=by
 intro pins s σ H T I ⟨bl,a8,G,ρ,aa,hw⟩;refine t4 (BA (gg aG aI J h2)) pins s σ H T I ?_;dsimp only at hw;have key:∀d,ρ[i]?=some (some d)->g4 d=true->(∀o,jO X.K G d o->(∃ys,o=.dQ ys)\/∃ys,o=.da ys)->(∀a o bb,jO X.K G d o->G a=none->Rep X.K (upd G a (.dk bb o)) d (.ref a))->hZ X.K mu bl a8 T (.cP d)->lb i σ H (λv H1=>∃a u,v=.ref a/\H1 a=some u/\((∃ys,u=.dQ ys)\/∃ys,u=.da ys)/\∀bb,T.cP v (upd H1 a (.dk bb u))):=λd q ft av aV hw=>by
  obtain⟨a,o,k1,k2,k3,b6⟩:=aa.bX.lst i d q hm ft;have h0:a8 a=none:=aa.own i d a q ft hm k1;have aw:=av o b6;have nt:∀xs,o≠.tup xs:=λxs z=>by rcases aw with⟨_,e⟩|⟨_,e⟩<;>rw[e]at z<;>cases z
  refine⟨_,k1,a,o,rfl,k2,aw,λbb=>?_⟩;refine hw _ (upd G a (.dk bb o)) (upd H a (.dk bb o)) ⟨aa.ext.g.trans (fU k3),λb v z=>?_,λb v z=>?_,λb bO bE=>?_,λb xs z=>.inr ?_⟩ (aV a o bb b6 k3)
  .have:b≠a:=λw=>by rw[w,h0]at z;cases z
   rw[cG this];exact aa.ext.h b v z
  .by_cases c:b=a
   .subst c;rw[dm]at z ⊢;exact z
   .rw[cG c]at z ⊢;exact aa.bX.sub b v z
  .have:b≠a:=λw=>bE (by rw[w];exact h0)
   rw[cG this];exact aa.ext.new b bO bE
  .have c:b≠a:=λw=>by rw[w,dm]at z;cases z
   rw[cG c]at z ⊢;exact aa.bX.dw b xs z
 cases q:ρ[i]? with
 |none=>rw[q]at hw;exact hw.elim
 |some o =>
  cases o with
  |none=>rw[q]at hw;exact hw.elim
  |some d =>
   rw[q]at hw;cases d with
   |bY ah=>exact key _ q rfl (λo e=>.inr ⟨_,e⟩) (λa o bb e g=>by cases e;exact⟨a,bb,rfl,dm⟩) hw
   |bH ah=>exact key _ q rfl (λo ⟨ys,e,_⟩=>.inl ⟨ys,e⟩) (λa o bb ⟨ys,e,r⟩ g=>by subst e;exact⟨a,bb,ys,rfl,dm,r.mono (fU g)⟩) hw
   |_=>exact hw.elim
end
noncomputable def C1(d:Addr)(o:eW)(ar:List V):jN :=
 ⟨λi H=>H d=some o/\i<ar.length,λi H v ao=>ao=H/\ar[i]?=some v,λi H=>H d=some o/\ar.length=i⟩
def Y6{K:W.Frag}(d it)(hd:bb.data=.dict aj aZ)(aI:Vals ar (aj.toList.map (·.key))):
  Turn P w K dv (C1 d (.dk bb u) ar) [it] it (λi h=>h.IsKeyIter it d i aj.size aZ) where
 mem:=by simp
 obj:=λi h st b aa=>by
  have e:b=it:=(by simpa using aa);subst e;obtain⟨o,e,c,d⟩:=st;exact⟨o,e,λv z=>by rw[d]at z;cases z⟩
 keep:=λi h h' st k=>st.at λo e=>k it (by simp) o e
 item:=by
  intro X ea hw hn ag i pins s σ H E I hf st aQ;subst ea hw hn;obtain⟨aE,ai⟩:=aQ;have av:s.heap.get? d=some bb:=(show dX X.prog X.w H s.heap d (.dk bb u) from I.bz d _ aE).1;have ax:ar.length=aj.size:=(by rw[aI.length,List.length_map,Array.length_toList]);have ak:ar[i]?=some ar[i]:=abc ai;obtain⟨v,k1,k2⟩:=aI.get ak;obtain⟨f0,f1,f2,e9,f4,fa⟩:=hf it (by simp);have bM:i<aj.size:=⋯;refine Pv.NG st av hd bM λh' bh dM=>?_
  have aY:Inv X pins σ H { s with heap:=h' }:=I.turned (t':=s.toks) (λb o aa e=>(dM.2 b aa).trans e) f0 f1 e9 f4 fa;have oL:aj[i].key=v:=by
   rw[abj,abO,abh bM]at k1;exact abI k1
  obtain⟨o,e,c,dd⟩:=id bh;exact⟨_,rfl,vD (s:={ s with heap:=h' }) e c dd ∅ ⟨ar[i],H,aY,by rw[oL];exact k2,⟨rfl,ak⟩,bh,λb aa=>(hf b aa).1⟩⟩
 done:=by
  intro X ea hw hn ag i pins s σ H E I hf st aQ;subst ea hw hn;obtain⟨aE,ai⟩:=aQ;have av:s.heap.get? d=some bb:=(show dX X.prog X.w H s.heap d (.dk bb u) from I.bz d _ aE).1;have ax:ar.length=aj.size:=(by rw[aI.length,List.length_map,Array.length_toList]);obtain⟨f0,f1,f2,e9,f4,fa⟩:=hf it (by simp);subst ai;rw[ax]at st;exact Pv.ND (I.ok.hd ag) st av hd λh' eF=>⟨rfl,I.turned (t':=s.toks) (λb o aa e=>eF b o aa e) f0 f1 e9 f4 fa⟩
 self:=λ_ _ _ _ _ st h=>wpAny_pyIter_keyiter st h
def Sb{K:W.Frag}(ea:∀aK H1,P aK H1->bw G aK/\H1 d=some o)(r:bA K G ds ar):oe K P (C1 d o ar) ds where
 go:=λi aK H1 h ai=>⟨(ea aK H1 h).2,by rw[<- r.length];exact ai⟩
 ll:=λi aK H1 x aR d h ae hd ⟨e,y⟩=>by
  obtain⟨g,q⟩:=ea aK H1 h;subst e;obtain⟨v,J,h2⟩:=r.get hd;rw[J]at y;cases y;exact⟨aK,Ext.refl ae,h2.mono g⟩
 stop:=λaK H1 h=>⟨(ea aK H1 h).2,r.length.symm⟩
section
theorem Eb{G H:aB}(dw:∀b xs,H b=some (.tup xs)->G b=some (.tup xs)){K:W.Frag}:∀{ah:List (List Int×Int)}{xs:List (List Key×Addr×Value)},Paired (λ(p:List Key×V)(q:List Key×Addr×Value)=>p.1=q.1/\H q.2.1=some (.tup (p.1.map c3))/\RelV p.2 q.2.2) (hk ah) xs ->
  bA K G (ah.map λp=>.tup (p.1.map .int)) (xs.map λq=>V.ref q.2.1)
 |[],_,h=>by cases h;rfl
 |p::ah,_,h=>by
  cases h with
  |@cons _ q _ xs J h2 =>
   refine⟨V.ref q.2.1,_,rfl,⟨q.2.1,p.1.map V.int,rfl,dw _ _ ?_,?_⟩,Eb dw h2⟩
   .have:=J.2.1;dsimp only at this;rw[AY]at this;exact this
   .exact ints_rep p.1
theorem D9{G H:aB}(dw:∀b xs,H b=some (.tup xs)->G b=some (.tup xs)){K:W.Frag}:∀{ah:List (List Int×List (List Int))}{ys:List (List Key×V)}{xs:List (List Key×Addr×Value)},et G ah ys->Paired (λ(p:List Key×V)(q:List Key×Addr×Value)=>p.1=q.1/\H q.2.1=some (.tup (p.1.map c3))/\RelV p.2 q.2.2) ys xs ->
  bA K G (ah.map λp=>.tup (p.1.map .int)) (xs.map λq=>V.ref q.2.1)
 |[],_,_,J,h=>by cases J;cases h;rfl
 |p::ah,_,_,⟨b,us,t,e,aH,aX,eJ⟩,h=>by
  subst e;cases h with
  |@cons _ q _ xs J h2 =>
   refine⟨V.ref q.2.1,_,rfl,⟨q.2.1,p.1.map V.int,rfl,dw _ _ ?_,ints_rep p.1⟩,D9 dw eJ h2⟩;have:=J.2.1;dsimp only at this;rw[AY]at this;exact this
theorem CO:∀xs:List (List Key×Addr×Value),Vals (xs.map λq=>V.ref q.2.1) (xs.map λq=>Value.ref q.2.1)
 |[]=>.nil
 |q::xs=>.cons (show RelV (V.ref q.2.1) (Value.ref q.2.1) from rfl) (CO xs)
end
theorem Ea{K:W.Frag}:∀{ah:List (Int×Int×Int)}{ys:List (Key×V)}{af:List (Key×Value)}{aj:List DictEntry},eu G ah ys->eO ys af->Pairs (g6 P w) aj af ->
  bA K G (ah.map λp=>.int p.1) (ah.map λp=>V.int p.1)/\Vals (ah.map λp=>V.int p.1) (aj.map (·.key))
 |[],_,_,_,J,h2,h3=>by cases J;cases h2;cases h3;exact⟨rfl,.nil⟩
 |p::ah,_,_,_,⟨b,t,e,aM,a7⟩,h2,h3=>by
  subst e;cases h2 with
  |@cons _ q _ aa1 bO bE =>
   cases h3 with
   |@cons e0 _ oN _ k1 k2 k3 =>
    obtain⟨aH,aX⟩:=Ea (K:=K) a7 bE k3;have bO:=bO.1;dsimp only at bO;rw[<- bO]at k1;refine⟨⟨.int p.1,_,rfl,rfl,aH⟩,.cons ?_ aX⟩;have k1:Value.isInt p.1 e0.key=true:=k1;cases aw:e0.key with
    |int i t=>rw[aw]at k1;exact⟨t,by show e0.key=_;rw[aw,(show i=p.1 by simpa[Value.isInt] using k1)]⟩
    |_=>rw[aw]at k1;cases k1
section
def WE(hm:m=.view\/m=.val)(ai:i∉mu)(aG:X.N[i]?=some x)(aI:e6 X.env.scope x)(J:(x==("__debug__":Str))=false)(h2:(x==("__classdict__":Str))=false):ir X dv (.Name x p1) (la xp X mu m λρ=>Den.oF ρ[i]?):=by
 intro pins s σ H R I ⟨G,ρ,ae,hw⟩;dsimp only at hw;have go:∀{d:Addr}{bb:Obj}{u:eW}{ar:List V}{ds:List D}{aj:Array DictEntry}{aZ:Nat},σ[i]?=some (some (.ref d))->G d=some (.dk bb u)->(d==sysModules)=false->bb.ExactDict->bb.data=.dict aj aZ->bA X.K G ds ar->Vals ar (aj.toList.map (·.key))->ds.length<=16777216 ->
   (∀dD aL ao,Ext G H aL ao->oe X.K (rN m aL ao) dD ds->ds.length<=16777216->R dD ao)->wpAny (model X.prog X.w) X.A (eval (.Name x p1) X.env) (λv s1=>wpAny (model X.prog X.w) X.A (pyIter v) (x5 X pins σ dv R) X.b9 s1) X.b9 s:=λ{d bb u ar ds aj aZ} k1 k2 k3 b6 k5 eI wg ax k=>by
  refine bR (gg aG aI J h2 pins s σ H (λv H1=>v=.ref d/\H1=H) I ⟨_,k1,rfl,rfl⟩) λv s1 ⟨w,H1,aY,aH,e1,e2⟩=>?_
  subst e1 e2;cases aH;have eH:=ae.sub _ _ k2;have av:s1.heap.get? d=some bb:=(show dX X.prog X.w H1 s1.heap d (.dk bb u) from aY.bz d _ eH).1;refine Pv.NF k3 av b6 k5 ?_;refine⟨s1.heap.objs.size,[s1.heap.objs.size],_,_,H1,rfl,aY.kept (t':=s1.toks) λb o e=>aa8 _ e,Y6 (u:=u) d _ k5 wg,⟨_,abf _ rfl,rfl,rfl⟩,λb aa=>?_,k _ G H1 (Ext.refl ae.sub) (Sb (G:=G) (o:=.dk bb u) (λaK aR ⟨bO,bE⟩=>⟨bO,?_⟩) eI) ax⟩
  .have e:b=s1.heap.objs.size:=(by simpa using aa);subst e;exact aY.sF (abb _) (aY.bz.fresh (abb _))
  .rcases hm with rfl|rfl
   .exact bE _ _ eH
   .exact bE _ _ (bO _ _ k2)
 unfold Den.oF at hw;cases e1:Den.ku ρ[i]? with
 |some ah =>
  rw[e1]at hw;obtain⟨v,k1,a,bb,rfl,k2⟩:=ae.val i _ (se e1) ai;obtain⟨av,bO,bE,xs,dx,o,aj,aZ,hV,uG,uH,xO,CT⟩:=(show dX X.prog X.w H s.heap a (.dk bb (.da (hk ah))) from I.bz a _ (ae.sub _ _ k2));rw[av]at hV;cases hV;have aV:=Eb (K:=X.K) ae.dw dx;refine go k1 k2 bE uG uH aV (by rw[xO,List.map_map];exact CO xs) ?_ hw;rw[List.length_map];unfold hk at bO;rw[List.length_map,sizeLine_eq]at bO;exact bO
 |none =>
  rw[e1]at hw;dsimp only at hw;cases e2:Den.jn ρ[i]? with
  |none =>
   rw[e2]at hw;have hw:cq (Den.zp ρ[i]?) _ _:=hw;unfold Den.zp at hw;cases e3:Den.ks ρ[i]? with
   |none=>rw[e3]at hw;exact hw.elim
   |some ah =>
    rw[e3]at hw;obtain⟨v,k1,a,bb,ys,rfl,k2,k3⟩:=ae.val i _ (sb e3) ai;obtain⟨av,bO,bE,xs,dx,o,aj,aZ,hV,uG,uH,xO,CT⟩:=(show dX X.prog X.w H s.heap a (.dk bb (.da ys)) from I.bz a _ (ae.sub _ _ k2));rw[av]at hV;cases hV;have aV:=D9 (K:=X.K) ae.dw k3 dx;refine go k1 k2 bE uG uH aV (by rw[xO,List.map_map];exact CO xs) ?_ hw;rw[List.length_map,<- k3.len];rw[sizeLine_eq]at bO;exact bO
  |some ah =>
   rw[e2]at hw;obtain⟨v,k1,a,bb,ys,rfl,k2,k3⟩:=ae.val i _ (vd e2) ai;obtain⟨av,bO,bE,af,dx,o,aj,aZ,hV,uG,uH,xO,CT,aa4⟩:=(show dX X.prog X.w H s.heap a (.dk bb (.dQ ys)) from I.bz a _ (ae.sub _ _ k2));rw[av]at hV;cases hV;obtain⟨aH,aX⟩:=Ea (K:=X.K) k3 dx CT;refine go k1 k2 bE uG uH aH aX ?_ hw;rw[List.length_map,<- k3.len];rw[sizeLine_eq]at bO;exact bO
end
section
def S8(ag:eC.cls=.type "list"\/eC.cls=.type "tuple")(hd:eC.data=.seq ib d2)(aai:¬(!items.isEmpty&&Builtin.List.listTooLong (items.size+ib.size))=true)(hz:items.size<=sizeLine)(Gb:items.size+ib.size<=sizeLine+1):
  Meets (Builtin.«list.extend» ⟨[.ref l,.ref b],[]⟩) λ_ R s=>s.heap.get? l=some { cls:=.type "list",dict:=none,data:=.seq items n,slots:=#[] }/\s.heap.get? b=some eC /\
   R (.ok (.ret Value.none)) { s with heap:=s.heap.update l (Obj.mapSeq λx=>x++ib),toks:=s.toks }:=by
 refine .of_wp λprog w A R s h=>?_
 obtain⟨au,g,d,tk,os⟩:=s;obtain⟨b4,bW,Z0,j8⟩:=eC;cases hd;obtain⟨e1,e2,h⟩:=h;have f1:=AutoSeq1.idx_int;have f2:=AutoSeq1.sub_list_list;have e9:=AutoSeq1.sub_list_tuple;have f4:=AutoSeq1.sub_tuple_tuple;have fa:=AutoSeq1.sub_tuple_list;have Ge:(items++ib).size<=sizeLine+1:=by rw[aeA];exact Gb
 rcases ag with ag|ag
 .cases ag
  wp_walk using (aem e1 rfl (hz:=hz) (_hz':=Ge)),ac0 e1,ac0 e2
  exact⟨_,rfl,h⟩
 .cases ag
  wp_walk using (aem e1 rfl (hz:=hz) (_hz':=Ge)),ac0 e1,ac0 e2
  exact⟨_,rfl,h⟩
noncomputable def VF(K:W.Frag):V->List V->aB->dn->Prop:=λx af H Q=>∃l b xs zs,x=.ref l/\af=[.ref b]/\H l=some (.lst xs)/\(d1 K H b zs\/fq K H b zs)/\xs.length+zs.length<=sizeLine/\Q .dT (upd H l (.lst (xs++zs)))
def TJ:uR X "list.extend" (VF X.K):=by
 intro pins s σ H x af v us Q I bf bI h;obtain⟨l,b,xs,zs,rfl,rfl,eH,d3,hz,q⟩:=h;cases bf;obtain⟨u,rfl,cm⟩:=bI.one;cases cm;obtain⟨z,its,n,r,ax,e⟩:=I.Bc eH;obtain⟨ho,eC,d2,aX,e2,b4,bW⟩:∃ho eC d2,Vals zs ho/\s.heap.get? b=some eC/\(eC.cls=.type "list"\/eC.cls=.type "tuple")/\eC.data=.seq ho.toArray d2:=by
  rcases d3 with d3|d3
  .obtain⟨ho,aX,⟨eC,d2,e2,b4,_,bW⟩,_⟩:=I.list d3;exact⟨ho,eC,d2,aX,e2,.inl b4,bW⟩
  .obtain⟨ho,aX,⟨eC,e2,b4,d2,bW⟩,_⟩:=I.tuple d3;exact⟨ho,eC,d2,aX,e2,.inr b4,bW⟩
 have qy:=aX.length;have hsz:its.toArray.size+ho.toArray.size<=sizeLine:=by rw[abe,abe];lia
 refine call_meets F.slot_list_extend ⟨_,e,rfl⟩ F.entry_list_extend (F.args_list_extend_2 _ _) (S8 b4 bW (by rw[TZ hsz,Bool.and_false];exact acd) (by rw[abe];lia) ⋯) ⟨e,e2,?_⟩;refine⟨.dT,_,I.Bb (its':=its++ho) eH e (by simp) (r.append aX) ?_,rfl,q⟩;rw[List.length_append];lia
def WC{xp:dq}{f:bx->cn D}{p1 p4 ap dG:Pos}{x n:Str}(hm:i∈mu)(az:n="extend")(aG:X.N[i]?=some x)(aI:e6 X.env.scope x)(J:(x==("__debug__":Str))=false)(h2:(x==("__classdict__":Str))=false)(i4:(ap.endLine==dG.line)=true)(he:aO X e (bG xp X mu .val f))(cK:starEach [e] X.env=[(false,eval e X.env)]):
  c9 X (.Expr (.Call (.Attribute (.Name x p1) n ap) [e] [] dG) p4) (c5 xp X mu λρ=>Den.mU ρ[i]?>>=λ_=>f ρ>>=λd=>Den.ql ρ[i]? d>>=λy=>.ok (.br (ρ.set i (some y)))):=by
 subst az;intro pins s σ H T I ⟨bl,a8,G,ρ,aa,hw⟩;refine BL (By ac5 PySem.F.slot_list_extend PySem.F.type_list_extend TJ (gg aG aI J h2) (nT he cK) rfl (Ai cK) i4 cK rfl) rfl pins s σ H T I ?_;obtain⟨ds,q,hw⟩:=DP (bS.mp hw);obtain⟨a,o,k1,k2,k3,xs,rfl,b6⟩:=aa.bX.lst i (.lst ds) q hm rfl;refine⟨_,k1,.inl ⟨rfl,xs,d1.of k2⟩,?_⟩;refine⟨G,ρ,aa.bX,cz (bS.mp hw) (λd k v aK H1 aT aH=>?_) λ_ z=>z.mono aa.ext.h⟩;have g0:=aa.step aT;rw[q]at k;cases d with
 |lst aj =>
  have k:cq ((if ds.length+aj.length<=Den.SZ then Den.R.ok (Den.D.lst (ds++aj)) else .bad)>>=λy=>.ok (Den.ep.br (ρ.set i (some y)))) _ _:=k;have k:=bS.mp k
  by_cases hz:ds.length+aj.length<=Den.SZ
  .rw[if_pos hz]at k;obtain⟨b,zs,rfl,a6,hR⟩:=aH;have sQ:H1 a=some (.lst xs):=aT.h _ _ k2;have sP:aK a=none:=aT.new a k3 (by rw[k2];exact λz=>nomatch z);refine⟨a,b,xs,zs,rfl,rfl,sQ,(.inl (k7 aT.sub a6)),by rw[<- b6.length,<- hR.length,<- rO];exact hz,?_⟩;exact k σ aK _ (g0.write (d:=.lst ds) (e:=.lst (ds++aj)) hm q rfl rfl k1 sP ⟨_,rfl,(b6.mono aT.g).append hR⟩)
  .rw[if_neg hz]at k;exact k.elim
 |tup aj =>
  have k:cq ((if ds.length+aj.length<=Den.SZ then Den.R.ok (Den.D.lst (ds++aj)) else .bad)>>=λy=>.ok (Den.ep.br (ρ.set i (some y)))) _ _:=k;have k:=bS.mp k
  by_cases hz:ds.length+aj.length<=Den.SZ
  .rw[if_pos hz]at k;obtain⟨b,zs,rfl,a6,hR⟩:=aH;have sQ:H1 a=some (.lst xs):=aT.h _ _ k2;have sP:aK a=none:=aT.new a k3 (by rw[k2];exact λz=>nomatch z);refine⟨a,b,xs,zs,rfl,rfl,sQ,(.inr (iJ aT.sub a6)),by rw[<- b6.length,<- hR.length,<- rO];exact hz,?_⟩;exact k σ aK _ (g0.write (d:=.lst ds) (e:=.lst (ds++aj)) hm q rfl rfl k1 sP ⟨_,rfl,(b6.mono aT.g).append hR⟩)
  .rw[if_neg hz]at k;exact k.elim
 |_=>exact k.elim
end
def R3{d:D}(h:Den.wa d=some ar):d=.lst (ar.map .int):=by
 unfold Den.wa at h
 split at h
 .rw[qK h]
 .cases h
theorem Ip:∀{ds:List D}{us:List Value}{as:List Addr},ReadsAll h us (ht ds) as->∀(m:Nat)(hm:m<us.length),∃d bs,ds[m]?=some d/\Reads h us[m] (toPy d) bs
 |[],_,_,r,m,hm=>by cases r;simp at hm
 |d::ds,_,_,r,m,hm=>by
  cases r with
  |cons aH aX =>
   cases m with
   |zero=>exact⟨d,_,rfl,aH⟩
   |succ m =>
    obtain⟨d',bs,e1,e2⟩:=Ip aX m (by simpa using hm);exact⟨d',bs,by simpa using e1,e2⟩
def xd(k):Den.cL 60 (.int k)=true:=bg.uk 60 k
section
def TK(bc:X.A.units+64<cLine):uR X "list.index" (λx af H Q=>∃(G:aB)(l:Addr)(v:V)(xs:List V)(ar:List Int)(k:Int),bw G H/\x=.ref l/\af=[v]/\d1 X.K H l xs/\bA X.K G (ar.map .int) xs/\View X.K G H (.int k) v/\k∈ar/\ar.length<=1000/\Q (.int (ar.idxOf k:Nat)) H):=by
 intro pins s σ H x af v us Q I bf bI h;obtain⟨G,l,w,xs,ar,k,ae,rfl,rfl,aE,aV,aI,aw,hlen,q⟩:=h;cases bf;obtain⟨u,rfl,cm⟩:=bI.one;obtain⟨its,jg,⟨⟨cls,dd,data,bF⟩,c,av,ag,_,hd⟩,_⟩:=I.list aE;simp only at ag hd;subst ag hd;have fH:(ar.map Den.D.int).all (Den.cL 60)=true:=by rw[List.all_map,abB];exact λk _=>xd k
 obtain⟨as,cy⟩:=pA I ae 60 fH aV jg;obtain⟨bs,eD⟩:=pz I ae aI cm (xd k);have ax:its.length=ar.length:=by rw[<- jg.length,<- aV.length,List.length_map]
 have key:∀m (hm:m<its.length),ky s.heap (.int k) its[m]=decide (ar[m]'⋯=k):=λm hm=>by
  obtain⟨d,LZ,e1,e2⟩:=Ip cy m hm;rw[abj,abc ⋯]at e1;cases e1;rw[zw e2 (xd _)];exact bg.Er _ _
 have aF:=abP aw;refine call_meets F.slot_list_index ⟨_,av,rfl⟩ F.entry_list_index (F.args_list_index_2 _ _) (SeqAt.list_indexAt l its.toArray c dd bF u (ky s.heap (.int k)) (ar.idxOf k) (by rw[abe];lia) ⋯ ?_ ?_) ⟨av,λz hz=>vm bc eD (xd k) cy fH z (by simpa using hz),?_⟩
 .have:=key (ar.idxOf k) ⋯;simp only[List.getElem_toArray];rw[this,ace aF];simp
 .intro ij hm h2;have:=key ij (by simpa using hm);simp only[List.getElem_toArray];rw[this];refine decide_eq_false λe=>?_
  have:=List.not_of_lt_findIdx (p:=(·==k)) (xs:=ar) h2;simp[e]at this
 .exact⟨.int _,H,I.kept (t':=_) λb o e=>e,⟨_,rfl⟩,q⟩
def WJ{X:aU}{m:fp}{i j:Nat}{x y n:Str}(bc:X.A.units+64<cLine)(az:n="index")(i4:(ap.endLine==dG.line)=true)(aG:X.N[i]?=some x)(aI:e6 X.env.scope x)(J:(x==("__debug__":Str))=false)(h2:(x==("__classdict__":Str))=false)(kE:X.N[j]?=some y)(lU:e6 X.env.scope y)(lM:(y==("__debug__":Str))=false)(hl:(y==("__classdict__":Str))=false):aO X (.Call (.Attribute (.Name x p1) n ap) [.Name y p2] [] dG) (bG xp X mu m λρ=>Den.qP ρ[i]? ρ[j]?):=by
 subst az;intro pins s σ H Q I ⟨G,ρ,ae,hw⟩;dsimp only at hw;unfold Den.qP at hw;cases e1:Den.ew Den.wa ρ[i]? with
 |none=>rw[e1]at hw;exact hw.elim
 |some ar =>
  cases e2:Den.ew Den.intD ρ[j]? with
  |none=>rw[e1,e2]at hw;exact hw.elim
  |some k =>
   rw[e1,e2]at hw;dsimp only at hw
   by_cases hz:k∈ar/\ar.length<=1000
   .rw[if_pos hz]at hw;obtain⟨bQ,aM,a7⟩:=jQ e1;cases R3 a7;obtain⟨bW,bU,cO⟩:=jQ e2;cases tw cO;obtain⟨v1,k1,a,xs,rfl,k2,k3⟩:=ae.view aM;obtain⟨v2,b6,k5⟩:=ae.view bU;refine By ac5 PySem.F.slot_list_index PySem.F.type_list_index (TK bc) (gg aG aI J h2) (nT (gg kE lU lM hl) rfl) rfl (Ai rfl) i4 rfl rfl pins s σ H Q I ?_;exact⟨_,k1,.inl ⟨rfl,xs,k2⟩,_,b6,G,a,v2,xs,ar,k,ae.sub,rfl,rfl,k2,k3,k5,hz.1,hz.2,hw _ G H (Ext.refl ae.sub) (by cases m<;>rfl)⟩
   .rw[if_neg hz]at hw;exact hw.elim
end
section
variable{xp:dq}{X:aU}{mu:List Nat}{m:fp}{f dA:bx->cn D}{e val c:Expr}{body:List Stmt}{pos p1 p2 p3 p4 ap dG:Pos}{i j:Nat}{x y n:Str}
def Wv(bc:X.A.units+64<cLine)(hm:i∈mu)(aF:j∉mu)(aG:X.N[i]?=some x)(aI:e6 X.env.scope x)(J:(x==("__debug__":Str))=false)(h2:(x==("__classdict__":Str))=false)(kE:X.N[j]?=some y)(lU:e6 X.env.scope y)(lM:(y==("__debug__":Str))=false)(hl:(y==("__classdict__":Str))=false)(i4:(ap.endLine==dG.line)=true):
  aO X (.Call (.Attribute (.Name x p1) "get" ap) [.Name y p2,.Tuple [] k p3] [] dG) (bG xp X mu m λρ=>Den.qg ρ[i]? ρ[j]?):=by
 intro pins s σ H Q I ⟨G,ρ,ae,hw⟩;refine UM ⋯ (gg aG aI J h2) (gg kE lU lM hl) (I3 (xp:=xp) (mu:=mu) I1 λ_ _ e=>by cases e;exact abz _) ⟨rfl,rfl,i4,rfl⟩ pins s σ H Q I ?_;dsimp only at hw;unfold Den.qg at hw;cases e1:Den.ks ρ[i]? with
 |none=>rw[e1]at hw;exact hw.elim
 |some ah =>
  cases e2:Den.ew Den.fX ρ[j]? with
  |none=>rw[e1,e2]at hw;exact hw.elim
  |some k =>
   rw[e1,e2]at hw;obtain⟨a,o,k1,k2,k3,ys,rfl,b6⟩:=ae.lst i _ (sb e1) hm rfl;obtain⟨bW,bU,cO⟩:=jQ e2;cases ro cO;obtain⟨b,k5,eI⟩:=um ae aF bU;refine⟨_,k1,a,rfl,.inr ⟨_,.inl k2⟩,_,k5,G,ρ,ae,?_⟩;show ∀v aL ao,Ext G H aL ao->Rep X.K aL (.tup []) v->_;intro v aL ao x r;refine⟨_,mB.t (x.h _ _ k2) (x.h _ _ eI),?_⟩;have hw:∀v aL ao,Ext G H aL ao->cI X.K H aL ao m (Den.fQ ((Den.hv ah k).getD [])) v->Q v ao:=hw;rcases b6.val k with⟨bO,bE⟩|⟨cs,c,xs,bO,bE,dx,hV⟩
   .rw[bE];refine hw _ aL ao x ?_;rw[bO];have r:Rep X.K aL (Den.fQ []) v:=r;cases m<;>exact r
   .rw[bE];refine hw _ aL ao x ?_;rw[bO];have r:Rep X.K aL (Den.fQ cs) (.ref c):=⟨c,xs,rfl,x.g _ _ dx,zf (hV.mono x.g)⟩;cases m<;>exact r
def WW(hm:i∈mu)(he:aO X e (bG xp X (mu.filter λj=>!(j==i)) .val f)):c9 X (.Return (some e) pos) (c5 xp X mu λρ=>Den.u4 ρ[i]?>>=λ_=>f ρ>>=λd=>.ok (.cP d)):=by
 intro pins s σ H T I ⟨bl,a8,G,ρ,aa,hw⟩;have mem:∀{j:Nat},(j∈mu.filter λj=>!(j==i))<->j∈mu/\j≠i:=λ{j}=>by rw[abi];simp
 have key:∀ah,ρ[i]?=some (some (.cN ah))->cq (f ρ>>=λd=>.ok (.cP d)) (hZ X.K mu bl a8 T) (λc=>eY xp X c a8)->wpAny (model X.prog X.w) X.A (exec (.Return (some e) pos) X.env) (oj X pins T) X.b9 s:=λah q hw=>by
  obtain⟨a,o,k1,k2,k3,ys,rfl,b6⟩:=aa.bX.lst i (.cN ah) q hm rfl;have h0:a8 a=none:=aa.own i (.cN ah) a q rfl hm k1;obtain⟨bb,cb⟩:=freeze I k2 (.inr ⟨ys,rfl⟩);have uj:bw G (upd G a (.dk bb (.da ys))):=fU k3;have sub:bw (upd G a (.dk bb (.da ys))) (upd H a (.dk bb (.da ys))):=λb v z=>by
   by_cases c:b=a
   .subst c;rw[dm]at z ⊢;exact z
   .rw[cG c]at z ⊢;exact aa.bX.sub b v z
  have dw:∀b xs,upd H a (.dk bb (.da ys)) b=some (.tup xs)->upd G a (.dk bb (.da ys)) b=some (.tup xs):=λb xs z=>by
   have c:b≠a:=λw=>by rw[w,dm]at z;cases z
   rw[cG c]at z ⊢;exact aa.bX.dw b xs z
  have xg:ej X.K (mu.filter λj=>!(j==i)) (upd G a (.dk bb (.da ys))) (upd H a (.dk bb (.da ys))) ρ σ:=by
   refine⟨aa.bX.len,sub,λj d e aF=>?_,λj d e aF ax=>?_,λj d e aF ax=>?_,dw,λj k d e b f7 aM a7 bQ bW aF aw=>aa.bX.apart j k d e b f7 aM a7 bQ bW (mem.mp aF).1 (mem.mp aw).1⟩
   .by_cases c:j=i
    .subst c;rw[q]at e;cases e;exact⟨_,k1,a,bb,ys,rfl,dm,b6.mono uj⟩
    .obtain⟨v,bO,bE⟩:=aa.bX.val j d e λw=>aF (mem.mpr ⟨w,c⟩)
     exact⟨v,bO,bE.mono uj⟩
   .obtain⟨v,bO,bE⟩:=aa.bX.own j d e (mem.mp aF).1 ax;exact⟨v,bO,bE.mono uj⟩
   .obtain⟨b,o,bO,bE,dx,hV⟩:=aa.bX.lst j d e (mem.mp aF).1 ax;have c:b≠a:=aa.bX.apart j i d (.cN ah) b a e q ax rfl (mem.mp aF).1 hm (mem.mp aF).2 bO k1;exact⟨b,o,bO,by rw[cG c];exact bE,by rw[cG c];exact dx,hV.mono uj⟩
  have ext:Ext bl a8 (upd G a (.dk bb (.da ys))) (upd H a (.dk bb (.da ys))):=by
   refine⟨aa.ext.g.trans uj,λb v z=>?_,sub,λb bO bE=>?_,λb xs z=>.inr (dw b xs z)⟩
   .have:b≠a:=λw=>by rw[w,h0]at z;cases z
    rw[cG this];exact aa.ext.h b v z
   .have:b≠a:=λw=>bE (by rw[w];exact h0)
    rw[cG this];exact aa.ext.new b bO bE
  refine t4 he pins s σ _ T cb ⟨_,ρ,xg,cz (bS.mp hw) (λd k v aK H1 aT aH=>?_) λ_ z=>z.mono ext.h⟩;exact k v aK H1 (ext.trans aT) aH
 dsimp only at hw;cases q:ρ[i]? with
 |none=>rw[q]at hw;exact hw.elim
 |some o =>
  cases o with
  |none=>rw[q]at hw;exact hw.elim
  |some d =>
   rw[q]at hw;cases d with
   |cN ah=>exact key ah q hw
   |_=>exact hw.elim
def W7(au:PassesOwn (model X.prog X.w) X.A X.env X.b9)(ag:gp X c (iL xp X mu dA))(aa:f3 X body (c5 xp X mu dR))(n):c9 X (.While c body [] pos) (c5 xp X mu λρ=>Den.lh (λbK=>dA bK>>=λx=>Den.f6 x) dR n ρ):=by
 intro pins s σ H T I ⟨bl,a8,G,ρ,iC,hw⟩;refine Vt au ag aa pins s σ H T I ?_;refine⟨λm cj ao=>∃aL bK,dP X.K mu bl a8 aL ao bK cj/\cq (Den.lh (λbK=>dA bK>>=λx=>Den.f6 x) dR m bK) (hZ X.K mu bl a8 T) (λc=>eY xp X c a8),⟨n,G,ρ,iC,hw⟩,?_⟩;rintro m cj ao ⟨aL,bK,dM,gz⟩;cases m with
 |zero=>exact gz.elim
 |succ m =>
  rw[Den.lh]at gz;refine⟨aL,bK,dM.bX,cz (bS.mp gz) (λk q aK H1 aT=>?_) λ_ z=>z.mono dM.ext.h⟩;cases k with
  |false =>
   rw[if_neg ∅]at q ⊢;exact q cj aK H1 (dM.step aT)
  |true =>
   rw[if_pos rfl]at q ⊢;refine⟨λn9 aR=>∃cM ke,dP X.K mu bl a8 cM aR ke n9/\cq (Den.lh (λbK=>dA bK>>=λx=>Den.f6 x) dR m ke) (hZ X.K mu bl a8 T) (λc=>eY xp X c a8),λn9 aR h=>⟨m,acN m,h⟩,bl,a8,aK,bK,dM.step aT,cz (bS.mp q) (λr d5=>?_) λ_ z=>z⟩;cases r with
   |br ke=>exact λn9 cM aR B3=>⟨cM,ke,B3,d5⟩
   |cP d=>exact d5
def WZ(hm:i∈mu)(aG:X.N[i]?=some x)(aI:e6 X.env.scope x)(J:(x==("__debug__":Str))=false)(h2:(x==("__classdict__":Str))=false)(he:aO X val (bG xp X mu .val f))(ju:swapsWith val (some (.Subscript (.Name x p1) (.Constant (.int 0) k p2) p3)) pos.line X.env=pure false):
  c9 X (.Assign [.Subscript (.Name x p1) (.Constant (.int 0) k p2) p3] val pos) (c5 xp X mu λρ=>f ρ>>=λd=>Den.ui ρ[i]? d>>=λz=>.ok (.br (ρ.set i (some z)))):=by
 intro pins s σ H T I ⟨bl,a8,G,ρ,aa,hw⟩;refine wpAny_Assign_Subscript (bR (he pins s σ H (λv H1=>∃a xs ds d aK,σ[i]?=some (some (.ref a))/\ρ[i]?=some (some (.lst ds))/\H1 a=some (.lst xs)/\aK a=none/\bA X.K aK ds xs/\Rep X.K aK d v/\dP X.K mu bl a8 aK H1 ρ σ/\cq (Den.ui ρ[i]? d>>=λz=>.ok (Den.ep.br (ρ.set i (some z)))) (hZ X.K mu bl a8 T) (λc=>eY xp X c a8)) I ?_) λr s1 ⟨v,H1,aY,bI,a,xs,ds,d,aK,k1,q,k2,k3,b6,k5,dM,d5⟩=>?_) ju
 .refine⟨G,ρ,aa.bX,cz (bS.mp hw) (λd k v aK H1 aT aH=>?_) λ_ z=>z.mono aa.ext.h⟩;have dM:=aa.step aT;cases q:ρ[i]? with
  |none=>rw[q]at k;exact k.elim
  |some o =>
   cases o with
   |none=>rw[q]at k;exact k.elim
   |some d' =>
    cases d' with
    |lst ds =>
     obtain⟨a,o,k1,k2,k3,xs,rfl,b6⟩:=dM.bX.lst i (.lst ds) q hm rfl;exact⟨a,xs,ds,d,aK,k1,rfl,k2,k3,b6,aH,dM,by rw[q]at k;exact k⟩
    |_=>rw[q]at k;exact k.elim
 .refine bR (gg aG aI J h2 pins s1 σ H1 (λw aR=>w=.ref a/\aR=H1) aY ⟨_,k1,rfl,rfl⟩) λu s2 ⟨w,aR,cb,aX,e1,e2⟩=>?_
  subst e1 e2;refine bR (HS pins s2 σ aR (λw bj=>w=.int 0/\bj=aR) cb ⟨rfl,rfl⟩) λmm s3 ⟨w,bj,er,eJ,e1,e2⟩=>?_
  subst e1 e2;rw[q]at d5;cases ds with
  |nil=>exact d5.elim
  |cons jW ds =>
   obtain⟨v0,fA,e,eI,wg⟩:=b6;subst e;refine abV (set_list pins s3 σ bj (.ref a) (.int 0) v _ _ _ (λfD=>fD=upd bj a (.lst (v::fA))) er aX eJ bI ⟨a,_,0,0,rfl,rfl,k2,by unfold hM;rw[if_pos (Int.le_refl 0),if_pos (by rw[List.length_cons];lia)];rfl,rfl⟩) (λ_ s4 ⟨fD,gn,e4⟩=>?_) λ_ _ z=>z
   subst e4;refine⟨σ,_,gn,?_⟩;exact d5 σ aK _ (dM.write (d:=.lst (jW::ds)) (e:=.lst (d::ds)) hm q rfl rfl k1 k3 ⟨_,rfl,v,fA,rfl,k5,wg⟩)
theorem bA.dropLast{K:W.Frag}(h:bA K G ds xs):bA K G ds.dropLast xs.dropLast:=by
 rw[List.dropLast_eq_take,List.dropLast_eq_take,<- h.length];exact h.take _
def s_pop(hm:i∈mu)(az:n="pop")(aG:X.N[i]?=some x)(aI:e6 X.env.scope x)(J:(x==("__debug__":Str))=false)(h2:(x==("__classdict__":Str))=false)(i4:(ap.endLine==dG.line)=true):
  c9 X (.Expr (.Call (.Attribute (.Name x p1) n ap) [] [] dG) p4) (c5 xp X mu λρ=>Den.wZ ρ[i]?>>=λy=>.ok (.br (ρ.set i (some y)))):=by
 subst az;intro pins s σ H T I ⟨bl,a8,G,ρ,aa,hw⟩;refine BL (UI ac5 PySem.F.slot_list_pop PySem.F.type_list_pop TL (gg aG aI J h2) rfl i4) rfl pins s σ H T I ?_;dsimp only at hw;have key:∀d ds,ρ[i]?=some (some (.lst (d::ds)))->hZ X.K mu bl a8 T (.br (ρ.set i (some (.lst (d::ds).dropLast))))->JJ (JG X.K "list" Ii (lb i)) T σ H:=λd ds q hw=>by
  obtain⟨a,o,k1,k2,k3,xs,rfl,b6⟩:=aa.bX.lst i _ q hm rfl;obtain⟨v0,fA,e,eI,wg⟩:=id b6;subst e;have bM:(v0::fA).length-1<(v0::fA).length:=(by simp);refine⟨_,k1,.inl ⟨rfl,_,d1.of k2⟩,a,v0::fA,_,rfl,rfl,k2,abc bM,?_⟩;exact hw σ G _ (aa.write (d:=.lst (d::ds)) (e:=.lst (d::ds).dropLast) hm q rfl rfl k1 k3 ⟨_,rfl,bA.dropLast b6⟩)
 cases q:ρ[i]? with
 |none=>rw[q]at hw;exact hw.elim
 |some o =>
  cases o with
  |none=>rw[q]at hw;exact hw.elim
  |some d =>
   rw[q]at hw;cases d with
   |lst ds =>
    cases ds with
    |nil=>exact hw.elim
    |cons d ds=>exact key d ds q hw
   |_=>exact hw.elim
def W4{st:Stmt}:c9 X st (c5 xp X mu λ_=>.bad):=λ_ _ _ _ _ _ ⟨_,_,_,_,_,hw⟩=>hw.elim
end
def PR{K:W.Frag}(x:Ext G H aL ao)(r:cI K H aL ao .fresh d v):∃cM,Ext G H cM ao/\Rep K cM d v:=by
 cases d with
 |lst ds =>
  obtain⟨a,xs,rfl,J,h2,h3,h4⟩:=r;refine⟨upd aL a (.lst xs),⟨x.g.trans (fU h3),x.h,λb o q=>?_,λb aM a7=>?_,λb xs q=>(x.dw b xs q).imp id λz=>fU h3 _ _ z⟩,a,xs,rfl,.inl (.inl dm),h4.mono (fU h3)⟩
  .by_cases aa:b=a
   .subst aa;rw[dm]at q;rw[J];exact q
   .rw[cG aa]at q;exact x.sub b o q
  .rw[cG (λz=>a7 (by rw[z];exact h2))];exact x.new b aM a7
 |bY _=>exact r.elim
 |bH _=>exact r.elim
 |cN _=>exact r.elim
 |_=>exact⟨aL,x,r⟩
section
def Wm(ag:X.calm=true)(ia:∀i∈mu,i<X.N.length)(B:pV X scope xs dN)(aw:Den.fl k target=some xs)(lT:∀x,foldedSetIterable iter X.env x=pure x)(ai:ir X target iter (la xp X mu .view nf))(he:∀s3 bj bD pins,aO (hg X scope dN s3 bj bD pins) elt (bG xp (hg X scope dN s3 bj bD pins) mu .val fb))(ay:rQ xp X mu scope dN ifs dA)(aG:X.N.Nodup)(aN:X.N[i]?=some y)(ak:Loc X.env.scope y)(hf:X.fn y=true\/X.env.scope.names.lookup y=some .local):
  c9 X (.Assign [.Name y p1] (.ListComp elt [⟨target,iter,ifs,0⟩] scope pos) p4) (c5 xp X mu λρ=>(nf ρ>>=λds=>Den.l9 (Den.cY (jo k dA fb ρ) ds)>>=λys=>.ok (.lst ys))>>=λd=>.ok (.br (ρ.set i (some d)))):=by
 have ju:∃b:Bool,swapsWith (.ListComp elt [⟨target,iter,ifs,0⟩] scope pos) (some (.Name y p1)) p4.line X.env=pure b:=⟨_,rfl⟩;obtain⟨b,ju⟩:=ju;cases b with
 |false =>
  by_cases hm:i∈mu
  .exact IW hm aG aN ak (B2 ag ia B aw lT ai he ay) ju hf
  .exact IV hm aG aN ak (aO.val (B2 ag ia B aw lT ai he ay)) ju hf
 |true =>
  intro pins s σ H T I ⟨bl,a8,G,ρ,aa,hw⟩;rw[exec_Assign_Name_used _ _ _ _ ju];refine aa5 (wpAny_standAt (aa5 ?_));show wpAny _ X.A (do let _ <- comprehension (.ListComp elt [⟨target,iter,ifs,0⟩] scope pos) scope X.env _ (newList []) false (eval iter X.env) (some (assign (.Name y p1) X.env))) _ _ s;refine aa5 (abV (D3 ag ia B aw lT ai he ay I aa.bX (use:=some (assign (.Name y p1) X.env)) (Qc:=λ_ s'=>oj X pins T .next s') ?_) (λ_ s' aE=>aa7 (aa7 aE)) λ_ _ e=>e);have hw:=bS.mp (bS.mp hw);refine bS.mpr (cz hw (λds k1=>?_) λ_ q=>q.mono aa.ext.h);refine cz (bS.mp k1) (λys k2 s4 ao aL C dc m4 x r az vN inv=>?_) λ_ q=>q.mono aa.ext.h
  have gn:Inv X pins σ ao s4:=inv s4.heap (aeB _ _);obtain⟨tU,aj,aZ,av,aV⟩:=id az;have Ra:∀v,tU.data≠.cell v:=λv z=>by
   have:=aV.1;rw[z]at this;cases this
  obtain⟨f0,f1,f2,e9,f4,fa⟩:=vN;have KO:Inv X (pins++[(C,tU)]) σ ao s4:=gn.BF λp au=>by
   rcases abq.mp au with z|z
   .exact gn.pin p (abn _ z)
   .have z:=abm.mp z;subst z;exact⟨av,f0,f1,f2,Ra⟩
  show wpAny _ X.A (assign (.Name y p1) X.env (.ref dc)) _ _ s4;refine wpAny_assign_Name (xl KO aG aN ak (v:=.ref dc) rfl (λs5 mF=>?_) hf);have h5:s5.heap.get? C=some tU:=(mF.pin (C,tU) (abn _ (abn _ (abm.mpr rfl)))).1;refine⟨m4,⟨tU,aj,aZ,h5,aV⟩,λh' dM=>⟨σ.set i (some (.ref dc)),ao,?_,?_⟩⟩
  .exact(mF.rp).turned (t':=s5.toks) (λb o aa e=>(dM.2 b aa).trans e) f0 f1 e9 f4 fa
  .by_cases hm:i∈mu
   .exact k2 _ aL ao (aa.Jb x hm r)
   .obtain⟨cM,cg,aX⟩:=PR x r;exact k2 _ cM ao ((aa.step cg).uh hm aX)
end
noncomputable def nice:Expr->Bool
 |.Starred ..=>false
 |.Set ..=>false
 |.SetComp ..=>false
 |.DictComp ..=>false
 |.Slice ..=>false
 |_=>true
def nn{α:Type}{a:α}{p:Prop}(h:none=some a):p:=nomatch h
def fY(h:Den.gk x=some y):∃p,x=.Name y p:=by
 cases x with
 |Name z p=>cases h;exact⟨p,rfl⟩
 |_=>exact nn h
def xA(h:Den.uy x=some c):∃k p,x=.Constant c k p:=by
 cases x with
 |Constant z k p=>cases h;exact⟨k,p,rfl⟩
 |_=>exact nn h
def Km(h:Den.CJ x=some aj):∃k p,x=.Tuple aj k p:=by
 cases x with
 |Tuple z k p=>cases h;exact⟨k,p,rfl⟩
 |_=>exact nn h
def Kj(h:Den.CI x=some aj):∃p,x=.List aj p:=by
 cases x with
 |List z p=>cases h;exact⟨p,rfl⟩
 |_=>exact nn h
def Kf(h:Den.CE x=some (a,o,b)):∃p,x=.BinOp a o b p:=by
 cases x with
 |BinOp l o r p=>cases h;exact⟨p,rfl⟩
 |_=>exact nn h
def CK(h:Den.xD x=some (o,a)):∃p,x=.UnaryOp o a p:=by
 cases x with
 |UnaryOp o r p=>cases h;exact⟨p,rfl⟩
 |_=>exact nn h
def Zg{os:List CmpOp}(h:Den.Kg x=some (a,os,ys)):∃p,x=.Compare a os ys p:=by
 cases x with
 |Compare l o r p=>cases h;exact⟨p,rfl⟩
 |_=>exact nn h
def CF(h:Den.vBool x=some (o,aj,p)):x=.BoolOp o aj p:=by
 cases x with
 |BoolOp o aj p=>cases h;rfl
 |_=>exact nn h
def xC(h:Den.uz x=some (a,b)):∃p,x=.Subscript a b p:=by
 cases x with
 |Subscript l r p=>cases h;exact⟨p,rfl⟩
 |_=>exact nn h
def Zk(h:Den.Kl x=some (a,b,c)):∃p,x=.Slice a b c p:=by
 cases x with
 |Slice l r t p=>cases h;exact⟨p,rfl⟩
 |_=>exact nn h
def xy(h:Den.ux x=some (f,aj,ar)):∃p,x=.Call f aj ar p:=by
 cases x with
 |Call l r t p=>cases h;exact⟨p,rfl⟩
 |_=>exact nn h
def ka(h:Den.jH x=some (y,aj)):∃p q,x=.Call (.Name y p) aj [] q:=by
 unfold Den.jH at h
 split at h
 .rename_i f oN e1;obtain⟨q,rfl⟩:=xy e1
  split at h
  .rename_i z e2;obtain⟨p,rfl⟩:=fY e2;cases h;exact⟨p,q,rfl⟩
  .cases h
 .cases h
def Ki(h:Den.Kh x=some (a,nj,sc)):∃p,x=.ListComp a nj sc p:=by
 cases x with
 |ListComp l r t p=>cases h;exact⟨p,rfl⟩
 |_=>exact nn h
def hp(h:Den.cc g ct v e x=true):nice x=true:=by
 cases az:nice x with
 |true=>rfl
 |false =>
  exfalso;cases x<;>first|(cases az;done)|skip
  all_goals (cases e<;>exact acd h)
def ur(h:nice e=true):starEach (e::aj) env=(false,eval e env)::starEach aj env:=by
 cases e<;>first|rfl|cases h
def iK(h:nice e=true):starEach [e] env=[(false,eval e env)]:=ur h
def Vb(h:∀e∈aj,nice e=true):(backTo pos (starEach aj env)).any (·.1)=false:=by
 induction aj with
 |nil=>rfl
 |cons e aj aD =>
  rw[ur (h e List.mem_cons_self)];show(false||(backTo pos (starEach aj env)).any (·.1))=false;rw[aD λz hz=>h z (List.mem_cons_of_mem _ hz)];rfl
def Sk(h:nice b=true):x6 b:=by
 intro o i;cases b<;>first|rfl|cases h
def set_plain(h:nice b=true):∀x,foldedSetIterable b env x=pure x:=by
 intro x;cases b<;>first|rfl|cases h
def Tn(h:nice b=true):behindInMarks op b=false:=by
 cases b<;>first|rfl|cases h
def Ck(h:nice e=true)(ag:Den.wF e=true):swapsWith e t n env=pure false:=by
 cases e<;>first|rfl|(cases ag;done)|(cases h;done)
noncomputable def rA:List Str:=["len","isinstance","int","bool","str","tuple","list","sorted","set","range","sum","max","all","any"]
structure f5(P:Program)(w:World)(K:W.Frag)(aS:Str->Option Value)(base:Heap)(xp:dq)(k:Nat)(g:Den.Gt)(pg:Den.eX)(Φ:Den.fo):Prop where
 fn:∀(f:Nat)(x:Str),g.fns[f]?=some x->∃bC fd aJ,aS x=some (.ref bC)/\W.keepIn K (.ref bC)=true/\Binds K fd aJ []/\ki P w K aS base (jL P w xp) k bC fd aJ (pI K (Φ f) aJ.length)/\∀ds,ds.length≠aJ.length->Φ f ds=.bad
 blt:∀x:Str,x∈rA->aS x=none
 sI:∀(j:Nat)(x:Str)(d:D),g.sI[j]?=some x->pg.cs[j]?=some d->∃v u,aS x=some u/\RelV v u/\∀G,Rep K G d v
structure dp(xp:dq)(k:Nat)(g:Den.Gt)(pg:Den.eX)(Φ:Den.fo)(X:aU)(ct:Den.dy):Prop where
 du:f5 X.prog X.w X.K X.aS X.base xp k g pg Φ
 room:gq k X.A
 units:X.A.units+64<cLine
 calm:X.calm=true
 nm:X.N=ct.N
 c4:ct.N.Nodup
 mu:∀i∈ct.mu,i<ct.N.length
 lc:∀x,ct.sc.names.lookup x=some .local->X.env.scope.names.lookup x=some .local
 r6:∀x,(ct.sc.names.lookup x=some .cell\/ct.sc.names.lookup x=some .free)->(X.env.scope.names.lookup x=some .cell\/X.env.scope.names.lookup x=some .free)
 gl:∀x,ct.sc.names.lookup x=some .globalImplicit->X.env.kindOf x=some .globalImplicit
section
def dp.ha(h:dp xp k g pg Φ X ct)(q:Den.jI ct.sc x=true):e6 X.env.scope x:=by
 unfold Den.jI at q;simp only[acI,abG]at q;rcases q with(q|q)|q
 .exact .inl (h.lc x q)
 .exact .inr (h.r6 x (.inl q))
 .exact .inr (h.r6 x (.inr q))
def dp.sJ(h:dp xp k g pg Φ X ct)(q:Den.kB ct.sc x=true):fg X x:=by
 unfold Den.kB at q;exact h.gl x (by simpa using q)
def fy(h:Den.okN x=true):(x==("__debug__":Str))=false/\(x==("__classdict__":Str))=false/\x≠"__name__":=by
 unfold Den.okN at h;simp only[aa6,abU]at h;exact⟨h.1.1,h.1.2,λz=>by rw[z]at h;exact absurd h.2 ∅⟩
theorem dp.blt(h:dp xp k g pg Φ X ct)(q:Den.fE g ct.sc x=true)(az:x∈rA):fg X x/\X.aS x=none:=by
 unfold Den.fE at q;simp only[aa6,abU]at q;exact⟨h.sJ q.1.1.1,h.du.blt x az⟩
end
noncomputable def pe(v:Bool):fp:=if v then .view else .val
structure Res(xp:dq)(X:aU)(mu:List Nat)(v fr:Bool)(x:Expr)(f:bx->cn D):Prop where
 fe:aO X x (bG xp X mu (pe v) f)
 fresh:fr=true->aO X x (bG xp X mu .fresh f)
 pt:gp X x (iL xp X mu f)
 pw:(∃op aj p,x=.BoolOp op aj p)->mI X x (iL xp X mu f)
section
theorem Res.view(h:Res xp X mu v fr x f):aO X x (bG xp X mu .view f):=aO.view h.fe
theorem Res.val(h:Res xp X mu false fr x f):aO X x (bG xp X mu .val f):=h.fe
def HU(h:aO X x (bG xp X mu .val f)):aO X x (bG xp X mu (pe v) f):=by
 cases v with
 |true=>exact aO.view h
 |false=>exact h
def Res.q0(h:aO X x (bG xp X mu .val f))(ay:∀whole,isTrue x X.env whole=(do let v <- whole;standAt x.pos;holding [v] (truthy v)))(aa:∀op aj p,x≠.BoolOp op aj p)(hf:fr=false):Res xp X mu v fr x f :=
 ⟨HU h,λz=>(by rw[hf]at z;cases z),nY (aO.view h) ay,λ⟨op,aj,p,e⟩=>absurd e (aa op aj p)⟩
def Res.pq(h:aO X x (bG xp X mu .fresh f))(ay:∀whole,isTrue x X.env whole=(do let v <- whole;standAt x.pos;holding [v] (truthy v)))(aa:∀op aj p,x≠.BoolOp op aj p):Res xp X mu v fr x f :=
 ⟨HU (aO.val h),λ_=>h,nY (aO.view h) ay,λ⟨op,aj,p,e⟩=>absurd e (aa op aj p)⟩
def Res.pn(h:∀m,aO X x (bG xp X mu m f))(ay:gp X x (iL xp X mu f))(aa:∀op aj p,x≠.BoolOp op aj p):Res xp X mu v fr x f :=
 ⟨h _,λ_=>h _,ay,λ⟨op,aj,p,e⟩=>absurd e (aa op aj p)⟩
end
def tK(N xs):(Den.mask N xs).length=N.length:=by unfold Den.mask;rw[List.length_map]
structure rB(ct:Den.dy)(scope:Scope)(xs:List Str):Prop where
 kind:scope.kind=.function
 nP:∀y∈scope.names,y.2≠.cell
 names:∀y∈scope.names,y.2=.local->scope.names.lookup y.1=some .local
 fl:∀y∈xs,scope.names.lookup y=some .local
 loc:∀y∈scope.names,y.2=.local->y.1∈xs\/y.1=(".0":Str)
 fr:∀y∈scope.names,y.2=.free->ct.sc.names.lookup y.1=some .cell\/ct.sc.names.lookup y.1=some .free
 same:∀p∈(Den.mask ct.N xs).zip ct.N,p.1=p.2\/scope.names.lookup p.1=none
 c4:(Den.mask ct.N xs++xs).Nodup
 dot:(".0":Str)∉Den.mask ct.N xs++xs
section
def rB.block(aC:dp xp k g pg Φ X ct)(b:rB ct scope xs):pV X scope xs (Den.mask ct.N xs++xs) where
 kind:=b.kind
 nP:=b.nP
 names:=b.names
 loc:=λy h=>b.loc (y,.local) (abS h) rfl
 fl:=b.fl
 fr:=λy aN e=>aC.r6 y.1 (b.fr y aN e)
 len:=by rw[List.length_append,tK,aC.nm]
 old:=λi y ai e ae=>by
  rw[aC.nm]at ai ⊢;rw[abo (by rw[tK];exact ai)]at e;have hz:((Den.mask ct.N xs).zip ct.N)[i]?=some (y,ct.N[i]):=by
   rw[List.getElem?_zip_eq_some];exact⟨e,abc ai⟩
  have hm:=b.same _ (acq hz);have aN:y∈Den.mask ct.N xs:=acq e;rcases hm with hm|hm
  .refine⟨by have hm:y=ct.N[i]:=hm;rw[abc ai,<- hm],λak=>?_,λz=>b.dot (List.mem_append_left _ (z▸aN))⟩;exact(acy.mp b.c4).2.2 y aN y ak rfl
  .simp only at hm;rw[hm]at ae;cases ae
 new:=λj=>by
  rw[aC.nm,abF (by rw[tK];lia),tK];congr 1;lia
 c4:=b.c4
def rB.ok(aC:dp xp k g pg Φ X ct)(b:rB ct scope xs)(s3)(bj)(bD)(pins):dp xp k g pg Φ (hg X scope (Den.mask ct.N xs++xs) s3 bj bD pins) ⟨Den.mask ct.N xs++xs,scope,ct.mu⟩ where
 du:=aC.du
 room:=aC.room
 units:=aC.units
 calm:=aC.calm
 nm:=rfl
 c4:=b.c4
 mu:=λi ai=>by
  have:=aC.mu i ai;show i<(Den.mask ct.N xs++xs).length;rw[List.length_append,tK];lia
 lc:=λx h=>w4 h ∅
 r6:=λx h=>by
  rcases h with h|h
  .exact absurd rfl (b.nP _ (abS h))
  .exact BU h
 gl:=λx h=>w4 h ∅
end
def LV(h:Den.r1 ct sc xs=true):rB ct sc xs:=by
 unfold Den.r1 at h;rw[aa6,aa6,aa6,aa6,aa6,aa6,aa6,aa6,aa6]at h;obtain⟨⟨⟨⟨⟨⟨⟨⟨⟨J,h2⟩,h3⟩,h4⟩,_⟩,h5⟩,el⟩,gx⟩,cJ⟩,nk⟩:=h;exact {
  kind:=aca J
  nP:=λy aN=>by simpa using abB.mp h2 y aN
  names:=λy aN e=>by
   have:=abB.mp h3 y aN;rw[e]at this;simpa using this
  fl:=λy aN=>by
   have:=abB.mp h4 y aN;simp only[aa6,abG]at this;exact this.1
  loc:=λy aN e=>by
   have:=abB.mp h5 y aN;rw[e]at this;simpa using this
  fr:=λy aN e=>by
   have:=abB.mp el y aN;rw[e]at this;simpa using this
  same:=λp au=>by
   have:=abB.mp gx p au;simpa using this
  c4:=aca cJ
  dot:=by simpa using nk }
section
def Wq(F:ki X.prog X.w X.K X.aS X.base (jL X.prog X.w xp) k fn fd aJ (pI X.K eo aJ.length))(aV:gq k X.A)(aQ:fg X x)(hm:X.aS x=some (.ref fn))(aw:W.keepIn X.K (.ref fn)=true)(aa:Binds X.K fd aJ [])(aA:fZ X (e::aj) (n0 xp X mu bp))(ax:∀ds,ds.length≠aJ.length->eo ds=.bad)(jX:(x==("__debug__":Str))=false)(he:starEach (e::aj) X.env=(false,eval e X.env)::starEach aj X.env)(dV:(backTo pos (starEach aj X.env)).any (·.1)=false):
  aO X (.Call (.Name x p) (e::aj) [] pos) (bG xp X mu .val λρ=>bp ρ>>=λds=>eo ds):=by
 intro pins s σ H Q I ⟨G,ρ,ae,hw⟩;refine UJ (dvs:=[]) (ds:=[]) (E:=Em xp X) F aV aQ hm aw aa .nil UE aA jX he dV pins s σ H Q I ?_;have hw:=bS.mp hw;refine⟨G,ρ,ae,?_⟩;cases q:bp ρ with
 |ok ds =>
  rw[q]at hw;intro af aK H1 aT aH;rw[acm]
  by_cases hlen:ds.length=aJ.length
  .refine⟨by rw[<- aH.length];exact hlen,aK,ds,aT.sub,(ae.ext aT).dw,aH,?_⟩;refine cz hw (λd k v cM aR cg aX=>k v cM aR (aT.trans cg) aX) λc z aR h2 cW gZ=>?_
   injection gZ with gZ _;have:c=cW:=⋯;subst this;exact(z.mono aT.h).mono h2
  .have hw:cq (eo ds) _ _:=hw;rw[ax ds hlen]at hw;exact hw.elim
 |exc c=>rw[q]at hw;exact hw
 |bad=>rw[q]at hw;exact hw
end
section
def LO(o)(x y:D)(c):Den.ec o x y≠.exc c:=by
 refine Hu ?_ c;cases o<;>cases x<;>first|rfl|(cases y<;>first|rfl|exact nO rfl rfl|exact nO (nO rfl rfl) rfl)
def S0(d:D)(c):Den.kP d≠.exc c:=by
 intro h;cases d<;>simp only[Den.kP]at h<;>first|(cases h;done)|(split at h<;>cases h)
def XD(d:D)(c):(Den.eg d>>=λxs=>Den.sorted xs)≠.exc c:=by
 intro h;have key:∀xs:List D,Den.sorted xs≠.exc c:=λxs h=>by
  unfold Den.sorted at h
  split at h<;>cases h
 cases d with
 |tup xs=>exact key xs h
 |lst xs=>exact key xs h
 |_=>cases h
def Xd(d:D)(c):(Den.eg d>>=λxs=>Den.R.ok (Den.D.lst xs))≠.exc c:=by
 intro h;cases d<;>cases h
def Xf(d:D)(c):(Den.eg d>>=λxs=>Den.R.ok (Den.D.tup xs))≠.exc c:=by
 intro h;cases d<;>cases h
def La(d:D)(c):(Den.eg d>>=λxs=>Den.mP xs>>=λb=>Den.R.ok (Den.D.aP b))≠.exc c:=by
 intro h;have key:∀xs:List D,(Den.mP xs>>=λb=>Den.R.ok (Den.D.aP b))≠.exc c:=λxs h=>by
  unfold Den.mP at h;cases q:Den.ix xs<;>rw[q]at h<;>cases h
 cases d with
 |tup xs=>exact key xs h
 |lst xs=>exact key xs h
 |_=>cases h
def Lh(d:D)(c):(Den.eg d>>=λxs=>Den.mQ xs>>=λb=>Den.R.ok (Den.D.aP b))≠.exc c:=by
 intro h;have key:∀xs:List D,(Den.mQ xs>>=λb=>Den.R.ok (Den.D.aP b))≠.exc c:=λxs h=>by
  unfold Den.mQ at h;cases q:Den.ix xs<;>rw[q]at h<;>cases h
 cases d with
 |tup xs=>exact key xs h
 |lst xs=>exact key xs h
 |_=>cases h
def XU(d:D)(c):(Den.qR d>>=λxs=>Den.k9 xs)≠.exc c:=by
 intro h;cases d with
 |lst xs =>
  have h:Den.k9 xs=.exc c:=h;unfold Den.k9 at h
  split at h<;>cases h
 |_=>cases h
def Tq(d:D)(c):(Den.qR d>>=λxs=>Den.kT xs)≠.exc c:=by
 intro h;cases d with
 |lst xs =>
  have h:Den.kT xs=.exc c:=h;unfold Den.kT at h
  split at h<;>cases h
 |_=>cases h
def jm{x y:Str}(h:(x==y)=true):x=y:=by simpa using h
def WR{m:fp}(aC:dp xp k g pg Φ X ct)(au:Den.t2 p=true)(ak:x=Den.tZ p)(aa:Den.fE g ct.sc x=true)(aA:aO X e (bG xp X mu .view f))(az:nice e=true):
  aO X (.Call (.Name x q) [e] [] pos) (bG xp X mu .fresh λρ=>f ρ>>=λd=>Den.kV pg.up p d):=by
 cases p with
 |len =>
  subst ak;obtain⟨J,h2⟩:=aC.blt aa ∅;exact rd (m:=.fresh) S0 f_len J h2 (by kernel_rfl) aA ∅ ∅ (iK az)
 |sorted =>
  subst ak;obtain⟨J,h2⟩:=aC.blt aa ∅;exact rd (m:=.fresh) XD (Pt aC.calm aC.units) J h2 (by kernel_rfl) aA ∅ ∅ (iK az)
 |sum =>
  subst ak;obtain⟨J,h2⟩:=aC.blt aa ∅;exact rd (m:=.fresh) XU (Pu aC.calm) J h2 (by kernel_rfl) aA ∅ ∅ (iK az)
 |max =>
  subst ak;obtain⟨J,h2⟩:=aC.blt aa ∅;exact rd (m:=.fresh) Tq (Pp aC.calm) J h2 (by kernel_rfl) aA ∅ ∅ (iK az)
 |all =>
  subst ak;obtain⟨J,h2⟩:=aC.blt aa ∅;exact rd (m:=.fresh) La (Pd aC.calm) J h2 (by kernel_rfl) aA ∅ ∅ (iK az)
 |any =>
  subst ak;obtain⟨J,h2⟩:=aC.blt aa ∅;exact rd (m:=.fresh) Lh (Pe aC.calm) J h2 (by kernel_rfl) aA ∅ ∅ (iK az)
 |eK=>cases au
def IY(aC:dp xp k g pg Φ X ct)(h:Den.DY o op=true):d0 X (compareOp op) (kX X.K (Den.fF o)):=by
 cases o<;>cases op<;>first|(cases h;done)|skip
 .exact Ma aC.units
 .exact Me aC.units
 .exact Md aC.units
 .exact Mb
 .exact Mc aC.units
 .exact Mf aC.units
def Wo(h:Den.HI o op=true):d0 X (binaryOp op) (mf X.K (Den.ec o)):=by
 cases o<;>cases op<;>first|(cases h;done)|skip
 .exact NH
 .exact NP
 .exact NN
 .exact NJ
 .exact NM
 .exact NI
 .exact NQ
def boot_isinstance:bootBuiltins "isinstance"=some (.builtin "isinstance"):=by kernel_rfl
end
section
variable{xp:dq}{k:Nat}{g:Den.Gt}{pg:Den.eX}{Φ:Den.fo}
variable(xp k g pg Φ) in
structure kg (n:Nat):Prop where
 e:∀(e:Den.E)(x:Expr)(ct:Den.dy)(v:Bool)(X:aU),sizeOf e<n->dp xp k g pg Φ X ct->Den.cc g ct v e x=true->Res xp X ct.mu v (Den.kA e) x (λρ=>Den.ev pg Φ ρ e)
 a:∀(a:Den.A)(aj:List Expr)(ct:Den.dy)(X:aU),sizeOf a<n->dp xp k g pg Φ X ct->Den.mV g ct a aj=true->fZ X aj (n0 xp X ct.mu λρ=>Den.hY pg Φ ρ a)/\(∀e∈aj,nice e=true)/\∀ρ ds,Den.hY pg Φ ρ a=.ok ds->ds.length=aj.length
 o:∀(o:Den.O)(x:Option Expr)(ct:Den.dy)(X:aU),sizeOf o<n->dp xp k g pg Φ X ct->Den.r8 g ct o x=true->kl X x (rm xp X ct.mu λρ=>Den.nc pg Φ ρ o)
 i:∀(s:Den.I)(x:Expr)(ct:Den.dy)(v:Bool)(X:aU)(dv:Expr),sizeOf s<n->dp xp k g pg Φ X ct->Den.hi g ct v s x=true->(Den.nU s=true->∃elts j p,dv=.Tuple elts j p)->ir X dv x (la xp X ct.mu (pe v) λρ=>Den.hI pg Φ ρ s)/\nice x=true
def G8(v):pe v=.view\/pe v=.val:=by cases v<;>simp[pe]
def LA(aC:dp xp k g pg Φ X ct)(h:(ct.N[i]?==some x&&Den.jI ct.sc x&&Den.okN x&&(v||!ct.mu.contains i))=true):Res xp X ct.mu v (Den.kA (.var i)) (.Name x p) (λρ=>Den.ev pg Φ ρ (.var i)):=by
 simp only[aa6,abG,acI,abU]at h;obtain⟨⟨⟨J,h2⟩,h3⟩,h4⟩:=h;obtain⟨bQ,bW,oD⟩:=fy h3;have aG:X.N[i]?=some x:=by rw[aC.nm];exact J
 have aI:=aC.ha h2;refine⟨?_,λz=>(by cases z),nY (I4 aG aI bQ bW) λ_=>rfl,λ⟨_,_,_,z⟩=>(by cases z)⟩;cases v with
 |true=>exact I4 aG aI bQ bW
 |false =>
  rcases h4 with h4|h4
  .cases h4
  .exact W6 (λz=>by rw[abR.mpr z]at h4;cases h4) aG aI bQ bW
def Lm(aD:kg xp k g pg Φ n)(aC:dp xp k g pg Φ X ct)(ae:sizeOf a<n)(h:(g.fns[f]?==some x&&Den.kB ct.sc x&&Den.okN x&&!aj.isEmpty&&Den.mV g ct a aj)=true):
  Res xp X ct.mu v (Den.kA (.call f a)) (.Call (.Name x p) aj [] pos) (λρ=>Den.ev pg Φ ρ (.call f a)):=by
 simp only[aa6,abG,abU]at h;obtain⟨⟨⟨⟨J,h2⟩,h3⟩,h4⟩,h5⟩:=h;obtain⟨bQ,bW,oD⟩:=fy h3;obtain⟨p1,p2,p3⟩:=aD.a a aj ct X ae aC h5;obtain⟨bC,fd,aJ,e1,e2,e3,e4,e5⟩:=aC.du.fn f x J;cases aj with
 |nil=>cases h4
 |cons e aj =>
  exact Res.q0 (Wq e4 aC.room (aC.sJ h2) e1 e2 e3 p1 e5 bQ (ur (p2 e List.mem_cons_self)) (Vb λz hz=>p2 z (List.mem_cons_of_mem _ hz))) (λ_=>rfl) (λ_ _ _ z=>by cases z) rfl
def DT(h:Den.hi g ct v (.ff a) x=true):∃m p y pos,x=.Call (.Name m p) [y] [] pos/\m="range"/\Den.fE g ct.sc m=true/\Den.cc g ct true a y=true:=by
 rw[Den.hi]at h
 split at h
 .rename_i m y e1;obtain⟨p,pos,rfl⟩:=ka e1;simp only[aa6]at h;exact⟨m,p,y,pos,rfl,jm h.1.1,h.1.2,h.2⟩
 .cases h
def Ls(aD:kg xp k g pg Φ n){v:Bool}(aC:dp xp k g pg Φ X ct)(ae:sizeOf s<=n)(h:(x==("tuple":Str)&&Den.fE g ct.sc x&&Den.xe s&&Den.hi g ct true s e)=true):
  aO X (.Call (.Name x p) [e] [] pos) (bG xp X ct.mu .val λρ=>Den.ev pg Φ ρ (.tupI s)):=by
 simp only[aa6]at h;obtain⟨⟨⟨J,h2⟩,h3⟩,h4⟩:=h;have J:=jm J;subst J;obtain⟨g1,g2⟩:=aC.blt h2 ∅;cases s with
 |seq a =>
  rw[Den.hi]at h4;have r:=aD.e a e ct true X (by simp at ae;lia) aC h4;have e1:(λρ=>Den.ev pg Φ ρ (.tupI (.seq a)))=λρ=>Den.ev pg Φ ρ a>>=λd=>Den.eg d>>=λds=>.ok (.tup ds):=funext λρ=>by
   rw[Den.zB,Den.vo];cases Den.ev pg Φ ρ a<;>rfl
  rw[e1];exact IX (m:=.val) Xf Py g1 g2 (by kernel_rfl) r.view ∅ ∅ (iK (hp h4))
 |ff a =>
  obtain⟨m,aM,y,a7,rfl,k1,k2,k3⟩:=DT h4;obtain⟨g3,oS⟩:=aC.blt k2 (by rw[k1];decide);have r:=aD.e a y ct true X (by simp at ae;lia) aC k3;exact W5 aC.calm k1 rfl g3 oS g1 g2 r.view (iK (hp k3))
 |_=>cases h3
def Lr(aD:kg xp k g pg Φ n){v:Bool}(aC:dp xp k g pg Φ X ct)(ae:sizeOf s<=n)(h:(x==("list":Str)&&Den.fE g ct.sc x&&Den.xe s&&Den.hi g ct true s e)=true):
  aO X (.Call (.Name x p) [e] [] pos) (bG xp X ct.mu .fresh λρ=>Den.ev pg Φ ρ (.kS s)):=by
 simp only[aa6]at h;obtain⟨⟨⟨J,h2⟩,h3⟩,h4⟩:=h;have J:=jm J;subst J;obtain⟨g1,g2⟩:=aC.blt h2 ∅;cases s with
 |seq a =>
  rw[Den.hi]at h4;have r:=aD.e a e ct true X (by simp at ae;lia) aC h4;have e1:(λρ=>Den.ev pg Φ ρ (.kS (.seq a)))=λρ=>Den.ev pg Φ ρ a>>=λd=>Den.eg d>>=λds=>.ok (.lst ds):=funext λρ=>by
   rw[Den.EI,Den.vo];cases Den.ev pg Φ ρ a<;>rfl
  rw[e1];exact IX (m:=.fresh) Xd f_list g1 g2 (by kernel_rfl) r.view ∅ ∅ (iK (hp h4))
 |ff a =>
  obtain⟨m,aM,y,a7,rfl,k1,k2,k3⟩:=DT h4;obtain⟨g3,oS⟩:=aC.blt k2 (by rw[k1];decide);have r:=aD.e a y ct true X (by simp at ae;lia) aC k3;exact WL aC.calm k1 rfl g3 oS g1 g2 r.view (iK (hp k3))
 |_=>cases h3
def Dm(aD:kg xp k g pg Φ n)(aC:dp xp k g pg Φ X ct)(ae:sizeOf e<n/\sizeOf s<n/\sizeOf c<n){pos:Pos}(aw:Den.fl j t=some xs)(h:((!Den.nU s||j==2)&&Den.r1 ct sc xs&&Den.hi g ct true s it&&Den.cc g ⟨Den.mask ct.N xs++xs,sc,ct.mu⟩ false e x&&Den.oC g ⟨Den.mask ct.N xs++xs,sc,ct.mu⟩ c ifs)=true):
  pV X sc xs (Den.mask ct.N xs++xs)/\(∀z,foldedSetIterable it X.env z=pure z)/\ir X t it (la xp X ct.mu .view λρ=>Den.hI pg Φ ρ s)/\(∀s3 bj bD pins,aO (hg X sc (Den.mask ct.N xs++xs) s3 bj bD pins) x (bG xp (hg X sc (Den.mask ct.N xs++xs) s3 bj bD pins) ct.mu .val λρ=>Den.ev pg Φ ρ e)) /\
   rQ xp X ct.mu sc (Den.mask ct.N xs++xs) ifs (λρ=>Den.m9 pg Φ ρ c)/\(λρ=>Den.ev pg Φ ρ (.comp e j s c))=λρ=>Den.hI pg Φ ρ s>>=λds=>Den.l9 (Den.cY (jo j (λρ=>Den.m9 pg Φ ρ c) (λρ=>Den.ev pg Φ ρ e) ρ) ds)>>=λys=>.ok (.lst ys):=by
 simp only[aa6]at h;obtain⟨⟨⟨⟨h0,J⟩,qs⟩,vF⟩,gw⟩:=h;have B:=LV J;have AE:Den.nU s=true->∃elts j p,t=.Tuple elts j p:=λau=>by
  rw[au]at h0;have aF:j=2:=(by simpa using h0);subst aF;cases t with
  |Tuple elts j p=>exact⟨elts,j,p,rfl⟩
  |_=>simp only[Den.fl]at aw;cases aw
 obtain⟨eR,gO⟩:=aD.i s it ct true X t ae.2.1 aC qs AE;refine⟨B.block aC,set_plain gO,eR,λs3 bj bD pins=>(aD.e e x _ false _ ae.1 (B.ok aC s3 bj bD pins) vF).fe,?_,rfl⟩;cases c with
 |none =>
  cases ifs with
  |nil=>exact .inl ⟨rfl,rfl⟩
  |cons _ _=>unfold Den.oC at gw;cases gw
 |some e2 =>
  match ifs,gw with
  |[],gw=>unfold Den.oC at gw;cases gw
  |[cg],gw =>
   refine .inr ⟨cg,λρ=>Den.ev pg Φ ρ e2,rfl,rfl,λs3 bj bD pins=>?_⟩;have gw:Den.cc g ⟨Den.mask ct.N xs++xs,sc,ct.mu⟩ true e2 cg=true:=(by unfold Den.oC at gw;exact gw);exact(aD.e e2 cg _ true _ (by have:=ae.2.2;simp at this;lia) (B.ok aC s3 bj bD pins) gw).pt
  |_::_::_,gw=>unfold Den.oC at gw;cases gw
end
section
variable{xp:dq}{k:Nat}{g:Den.Gt}{pg:Den.eX}{Φ:Den.fo}{n:Nat}
def GC{aj:List Expr}(h:aj.length<=1000):aj.length<=sizeLine:=by rw[sizeLine_eq];lia
def Zn(h:Den.xF g ct x a=some e):∃y p q,a=.Call (.Name y p) [e] [] q/\(x==("sorted":Str))=true/\Den.fE g ct.sc x=true/\(y==("set":Str))=true/\Den.fE g ct.sc y=true:=by
 unfold Den.xF at h
 split at h
 .rename_i y b e2;obtain⟨py,p1,rfl⟩:=ka e2
  split at h
  .rename_i ag;cases h;simp only[aa6]at ag;exact⟨y,py,p1,rfl,ag.1.1.1,ag.1.1.2,ag.1.2,ag.2⟩
  .cases h
 .cases h
def rr{ct:Den.dy}{x:Str}{q:Den.es}{aj:List Expr}{e:Expr}(h:(match aj with|[e]=>if Den.t2 q&&x==Den.tZ q&&Den.fE g ct.sc x then some e else none|_=>none)=some e):aj=[e]/\Den.t2 q=true/\(x==Den.tZ q)=true/\Den.fE g ct.sc x=true:=by
 match aj,h with
 |[a],h =>
  simp only at h
  split at h
  .rename_i ag;cases h;simp only[aa6]at ag;exact⟨rfl,ag.1.1,ag.1.2,ag.2⟩
  .cases h
def Lv(aD:kg xp k g pg Φ n)(aC:dp xp k g pg Φ X ct)(ae:sizeOf a<n)(aI:Den.Ks g ct x pr aj=some e)(h:Den.cc g ct true a e=true):
  Res xp X ct.mu v (Den.kA (.prim pr a)) (.Call (.Name x p) aj [] pos) (λρ=>Den.ev pg Φ ρ (.prim pr a)):=by
 have one:∀{q:Den.es},aj=[e]/\Den.t2 q=true/\(x==Den.tZ q)=true/\Den.fE g ct.sc x=true->Res xp X ct.mu v (Den.kA (.prim q a)) (.Call (.Name x p) aj [] pos) (λρ=>Den.ev pg Φ ρ (.prim q a)):=λ{q} ⟨h0,J,h2,h3⟩=>by
  subst h0;have cy:=aD.e a e ct true X ae aC h;exact Res.pq (WR (m:=.fresh) aC J (jm h2) h3 cy.view (hp h)) (λ_=>rfl) (λ_ _ _ z=>by cases z)
 cases pr with
 |eK =>
  match aj,aI with
  |[bq],aI =>
   have aI:Den.xF g ct x bq=some e:=aI;obtain⟨y,p1,p2,rfl,J,h2,h3,h4⟩:=Zn aI;obtain⟨g1,g2⟩:=aC.blt h2 (by rw[jm J];decide);obtain⟨g3,oS⟩:=aC.blt h4 (by rw[jm h3];decide);have cy:=aD.e a e ct true X ae aC h;exact Res.pq (W3 aC.calm aC.units (jm J) (jm h3) g1 g2 g3 oS cy.view (iK (hp h))) (λ_=>rfl) (λ_ _ _ z=>by cases z)
 |len=>exact one (rr aI)
 |sorted=>exact one (rr aI)
 |sum=>exact one (rr aI)
 |max=>exact one (rr aI)
 |all=>exact one (rr aI)
 |any=>exact one (rr aI)
def Kk{n k:Str}(h:Den.xB z=some (n,k)):∃p1 p2 pos,z=.Subscript (.Name n p1) (.Name k p2) pos:=by
 unfold Den.xB at h
 split at h
 .rename_i x y e1;obtain⟨pos,rfl⟩:=xC e1
  split at h
  .rename_i b7 di e2 e3;cases h;obtain⟨p1,rfl⟩:=fY e2;obtain⟨p2,rfl⟩:=fY e3;exact⟨p1,p2,pos,rfl⟩
  .cases h
 .cases h
def Zh{n k:Str}(h:Den.CG z=some (n,k)):∃p1 p2 pos,z=.Dict [some (.Name n p1)] [.Name k p2] pos:=by
 unfold Den.CG at h
 split at h
 .cases h;exact⟨_,_,_,rfl⟩
 .cases h
def wd(h:Den.wc z=true):∃kU,z=.Dict [] [] kU:=by
 unfold Den.wc at h
 split at h
 .exact⟨_,rfl⟩
 .cases h
def qW{n:Str}(h:Den.nL ct i n=true):ct.N[i]?=some n/\Den.jI ct.sc n=true/\Den.okN n=true/\i∈ct.mu:=by
 unfold Den.nL at h;simp only[aa6,abG]at h;exact⟨h.1.1.1,h.1.1.2,h.1.2,abR.mp h.2⟩
def q3{n:Str}(h:Den.nV ct i n=true):ct.N[i]?=some n/\Den.jI ct.sc n=true/\Den.okN n=true/\i∉ct.mu:=by
 unfold Den.nV at h;simp only[aa6,abG,abU]at h;exact⟨h.1.1.1,h.1.1.2,h.1.2,λz=>by rw[abR.mpr z]at h;cases h.2⟩
def ya{n:Str}(h:Den.rS ct i n=true):ct.N[i]?=some n/\Den.jI ct.sc n=true/\Den.okN n=true:=by
 unfold Den.rS at h;simp only[aa6,abG]at h;exact⟨h.1.1,h.1.2,h.2⟩
def CD{n:Str}(h:Den.xx x=some (o,n,p)):x=.Attribute o n p:=by
 cases x with
 |Attribute o n p=>cases h;rfl
 |_=>exact nn h
def Ke{x n:Str}(h:Den.xw z=some (x,n,ap,y)):∃p dG,z=.Call (.Attribute (.Name x p) n ap) [y] [] dG:=by
 unfold Den.xw at h
 split at h
 .rename_i f xN e1;obtain⟨dG,rfl⟩:=xy e1
  split at h
  .rename_i o b7 Li e2;obtain rfl:=CD e2
   split at h
   .rename_i n6 e3;obtain⟨p,rfl⟩:=fY e3;cases h;exact⟨p,dG,rfl⟩
   .cases h
  .cases h
 .cases h
def Zj(h:Den.CH z=some (x,y,ap)):∃p1 p2 c p3 dG,z=.Call (.Attribute (.Name x p1) "get" ap) [.Name y p2,.Tuple [] c p3] [] dG:=by
 unfold Den.CH at h
 split at h
 .rename_i f k o e1;obtain⟨dG,rfl⟩:=xy e1
  split at h
  .rename_i d n Li e2;obtain rfl:=CD e2
   split at h
   .rename_i n6 xN e3 e4 e5
    split at h
    .rename_i so;cases h;obtain⟨p1,rfl⟩:=fY e3;obtain⟨p2,rfl⟩:=fY e4;obtain⟨c,p3,rfl⟩:=Km e5;obtain rfl:=jm so;exact⟨p1,p2,c,p3,dG,rfl⟩
    .cases h
   .cases h
  .cases h
 .cases h
def XM(aD:kg xp k g pg Φ n)(e)(x)(ct)(v)(X)(ae:sizeOf e<n+1)(aC:dp xp k g pg Φ X ct)(h:Den.cc g ct v e x=true):Res xp X ct.mu v (Den.kA e) x (λρ=>Den.ev pg Φ ρ e):=by
 cases e with
 |var i =>
  rw[Den.cc]at h
  split at h
  .rename_i y e1;obtain⟨p,rfl⟩:=fY e1;exact LA aC h
  .cases h
 |lit d =>
  rw[Den.cc]at h
  split at h
  .rename_i c e1;obtain⟨d5,p,rfl⟩:=xA e1;exact Res.pn (λm=>IZ h) (nY (IZ h) λ_=>rfl) λ_ _ _ z=>by cases z
  .cases h
 |tup a =>
  rw[Den.cc]at h
  split at h
  .rename_i aj e1;obtain⟨j,p,rfl⟩:=Km e1;simp only[aa6,abl]at h;obtain⟨p1,p2,p3⟩:=aD.a a aj ct X (by simp at ae;lia) aC h.1;exact Res.q0 (I3 p1 λρ ds q=>by rw[p3 ρ ds q];exact GC h.2) (λ_=>rfl) (λ_ _ _ z=>by cases z) rfl
  .cases h
 |lst a =>
  rw[Den.cc]at h
  split at h
  .rename_i aj e1;obtain⟨p,rfl⟩:=Kj e1;simp only[aa6,abl]at h;obtain⟨p1,p2,p3⟩:=aD.a a aj ct X (by simp at ae;lia) aC h.1;exact Res.pq (WK p1 λρ ds q=>by rw[p3 ρ ds q];exact GC h.2) (λ_=>rfl) (λ_ _ _ z=>by cases z)
  .cases h
 |bin op a b =>
  rw[Den.cc]at h
  split at h
  .rename_i x o y e1;obtain⟨p,rfl⟩:=Kf e1;simp only[aa6]at h;have cy:=aD.e a x ct true X (by simp at ae;lia) aC h.1.2;have eD:=aD.e b y ct true X (by simp at ae;lia) aC h.2;exact Res.pq (Wn (LO op) (Wo h.1.1) cy.view eD.view) (λ_=>rfl) (λ_ _ _ z=>by cases z)
  .cases h
 |not a =>
  rw[Den.cc]at h
  split at h
  .rename_i x e1;obtain⟨p,rfl⟩:=CK e1;have cy:=aD.e a x ct true X (by simp at ae;lia) aC h;exact Res.pn (λm=>WN cy.view) (WO cy.pt) λ_ _ _ z=>by cases z
  .cases h
 |cmp op a b =>
  rw[Den.cc]at h
  split at h
  .rename_i x o y e1;obtain⟨p,rfl⟩:=Zg e1;simp only[aa6]at h;have cy:=aD.e a x ct true X (by simp at ae;lia) aC h.1.2;have eD:=aD.e b y ct true X (by simp at ae;lia) aC h.2;have hm:=Tn (op:=o) (hp h.2);exact Res.pn (λm=>Wr (IY aC h.1.1) cy.view eD.view hm) (Ws (IY aC h.1.1) cy.view eD.view hm) λ_ _ _ z=>by cases z
  .cases h
 |and a b =>
  rw[Den.cc]at h
  split at h
  .rename_i x y p e1;obtain rfl:=CF e1;simp only[aa6]at h;have cy:=aD.e a x ct true X (by simp at ae;lia) aC h.1;have eD:=aD.e b y ct v X (by simp at ae;lia) aC h.2;have pw:=IU (pos:=p) cy.pt (VA eD.pt);exact⟨IT cy.view (HW eD.fe),λz=>(by cases z),pw.pt,λ_=>pw⟩
  .rename_i x y z r p e1;obtain rfl:=CF e1;simp only[aa6]at h;have cy:=aD.e a x ct true X (by simp at ae;lia) aC h.1;have eD:=aD.e b _ ct v X (by simp at ae;lia) aC h.2;have pw:=IU (pos:=p) cy.pt (eD.pw ⟨_,_,_,rfl⟩);exact⟨IT cy.view eD.fe,λz=>(by cases z),pw.pt,λ_=>pw⟩
  .cases h
 |idx a b =>
  rw[Den.cc]at h
  split at h
  .rename_i x y e1;obtain⟨p,rfl⟩:=xC e1;simp only[aa6]at h;have cy:=aD.e a x ct true X (by simp at ae;lia) aC h.1;have eD:=aD.e b y ct true X (by simp at ae;lia) aC h.2;exact Res.q0 (WG cy.view eD.view (Sk (hp h.2))) (λ_=>rfl) (λ_ _ _ z=>by cases z) rfl
  .cases h
 |slice a lo ai =>
  rw[Den.cc]at h
  split at h
  .rename_i x y e1;obtain⟨p,rfl⟩:=xC e1
   split at h
   .rename_i l u e2;obtain⟨md,rfl⟩:=Zk e2;simp only[aa6]at h;have cy:=aD.e a x ct true X (by simp at ae;lia) aC h.1.1;have ua:=aD.o lo l ct X (by simp at ae;lia) aC h.1.2;have VX:=aD.o ai u ct X (by simp at ae;lia) aC h.2;exact Res.pq (W0 cy.view ua VX) (λ_=>rfl) (λ_ _ _ z=>by cases z)
   .cases h
  .cases h
 |call f a =>
  rw[Den.cc]at h
  split at h
  .rename_i x aj e1;obtain⟨p,q,rfl⟩:=ka e1;exact Lm aD aC (by simp at ae;lia) h
  .cases h
 |prim pr a =>
  rw[Den.cc]at h
  split at h
  .rename_i x aj e1;obtain⟨p,q,rfl⟩:=ka e1
   split at h
   .rename_i e e2;exact Lv aD aC (by simp at ae;lia) e2 h
   .cases h
  .cases h
 |gY i j =>
  rw[Den.cc]at h
  split at h
  .rename_i b7 di e1;obtain⟨p1,p2,pos,rfl⟩:=Kk e1;rw[aa6]at h;obtain⟨a1,a2,a3⟩:=ya h.1;obtain⟨b1,b2,cX,eE⟩:=q3 h.2;obtain⟨bQ,bW,_⟩:=fy a3;obtain⟨f1,f2,_⟩:=fy cX;have au:∀m,aO X (.Subscript (.Name b7 p1) (.Name di p2) pos) (bG xp X ct.mu m λρ=>Den.kx ρ[i]? ρ[j]?):=λm=>Wu aC.units eE (by rw[aC.nm];exact a1) (aC.ha a2) bQ bW (by rw[aC.nm];exact b1) (aC.ha b2) f1 f2
   exact Res.pn au (nY (au .view) λ_=>rfl) λ_ _ _ z=>by cases z
  .cases h
 |oE i j =>
  rw[Den.cc]at h
  split at h
  .rename_i x y ap e1;obtain⟨p1,p2,c,p3,dG,rfl⟩:=Zj e1;simp only[aa6,abG]at h;obtain⟨⟨J,h2⟩,h3⟩:=h;obtain⟨a1,a2,a3,a4⟩:=qW J;obtain⟨b1,b2,cX,eE⟩:=q3 h2;obtain⟨bQ,bW,_⟩:=fy a3;obtain⟨f1,f2,_⟩:=fy cX;have h3:ap.endLine=dG.line:=h3;have au:∀m,aO X (.Call (.Attribute (.Name x p1) "get" ap) [.Name y p2,.Tuple [] c p3] [] dG) (bG xp X ct.mu m λρ=>Den.qg ρ[i]? ρ[j]?):=λm=>Wv aC.units a4 eE (by rw[aC.nm];exact a1) (aC.ha a2) bQ bW (by rw[aC.nm];exact b1) (aC.ha b2) f1 f2 (by simpa using h3)
   exact Res.pn au (nY (au .view) λ_=>rfl) λ_ _ _ z=>by cases z
  .cases h
 |kR i j =>
  rw[Den.cc]at h
  split at h
  .rename_i x b7 ap y e1;obtain⟨p1,dG,rfl⟩:=Ke e1
   split at h
   .rename_i di e2;obtain⟨p2,rfl⟩:=fY e2;simp only[aa6]at h;obtain⟨⟨⟨J,h2⟩,h3⟩,h4⟩:=h;obtain⟨a1,a2,a3⟩:=ya h3;obtain⟨b1,b2,cX⟩:=ya h4;obtain⟨bQ,bW,_⟩:=fy a3;obtain⟨f1,f2,_⟩:=fy cX;have au:∀m,aO X (.Call (.Attribute (.Name x p1) b7 ap) [.Name di p2] [] dG) (bG xp X ct.mu m λρ=>Den.qP ρ[i]? ρ[j]?):=λm=>WJ aC.units (jm J) h2 (by rw[aC.nm];exact a1) (aC.ha a2) bQ bW (by rw[aC.nm];exact b1) (aC.ha b2) f1 f2
    exact Res.pn au (nY (au .view) λ_=>rfl) λ_ _ _ z=>by cases z
   .cases h
  .cases h
 |qh i j =>
  rw[Den.cc]at h
  split at h
  .rename_i b7 di e1;obtain⟨p1,p2,pos,rfl⟩:=Zh e1;rw[aa6]at h;obtain⟨a1,a2,a3,a4⟩:=q3 h.1;obtain⟨b1,b2,cX,eE⟩:=q3 h.2;obtain⟨bQ,bW,_⟩:=fy a3;obtain⟨f1,f2,_⟩:=fy cX;exact Res.q0 (Ww a4 eE (by rw[aC.nm];exact a1) (aC.ha a2) bQ bW (by rw[aC.nm];exact b1) (aC.ha b2) f1 f2) (λ_=>rfl) (λ_ _ _ z=>by cases z) rfl
  .cases h
 |qi =>
  rw[Den.cc]at h;obtain⟨kU,rfl⟩:=wd h;exact Res.q0 WA (λ_=>rfl) (λ_ _ _ z=>by cases z) rfl
 |neg a =>
  rw[Den.cc]at h
  split at h
  .rename_i x e1;obtain⟨p,rfl⟩:=CK e1;have cy:=aD.e a x ct true X (by simp at ae;lia) aC h;exact Res.pn (λm=>I0 cy.view) (nY (I0 cy.view) λ_=>rfl) λ_ _ _ z=>by cases z
  .cases h
 |tupI s =>
  rw[Den.cc]at h
  split at h
  .rename_i x e e1;obtain⟨p,q,rfl⟩:=ka e1;exact Res.q0 (Ls (v:=v) aD aC (by simp at ae;lia) h) (λ_=>rfl) (λ_ _ _ z=>by cases z) rfl
  .cases h
 |kS s =>
  rw[Den.cc]at h
  split at h
  .rename_i x e e1;obtain⟨p,q,rfl⟩:=ka e1;exact Res.pq (Lr (v:=v) aD aC (by simp at ae;lia) h) (λ_=>rfl) (λ_ _ _ z=>by cases z)
  .cases h
 |comp e j s c =>
  rw[Den.cc]at h
  split at h
  .rename_i x t it ifs sc e1;obtain⟨p,rfl⟩:=Ki e1
   split at h
   .rename_i xs aw;obtain⟨B,eR,gO,j1,qG,v8⟩:=Dm (pos:=p) aD aC (by simp at ae;lia) aw h;rw[v8];exact Res.pq (B2 aC.calm (by rw[aC.nm];exact aC.mu) B aw eR gO j1 qG) (λ_=>rfl) (λ_ _ _ z=>by cases z)
   .cases h
  .cases h
def XJ(aD:kg xp k g pg Φ n)(a)(aj)(ct)(X)(ae:sizeOf a<n+1)(aC:dp xp k g pg Φ X ct)(h:Den.mV g ct a aj=true):fZ X aj (n0 xp X ct.mu λρ=>Den.hY pg Φ ρ a)/\(∀e∈aj,nice e=true)/\∀ρ ds,Den.hY pg Φ ρ a=.ok ds->ds.length=aj.length:=by
 unfold Den.mV at h
 split at h
 .exact⟨I1,by simp,λρ ds q=>by rw[Den.EA]at q;cases q;rfl⟩
 .rename_i e a x xs;simp only[aa6]at h;have re:=aD.e e x ct false X (by simp at ae;lia) aC h.1;obtain⟨p1,p2,p3⟩:=aD.a a xs ct X (by simp at ae;lia) aC h.2;refine⟨Wt re.val p1 (ur (hp h.1)),λz hz=>?_,λρ ds q=>?_⟩
  .rcases aa9.mp hz with rfl|hz
   .exact hp h.1
   .exact p2 z hz
  .rw[Den.Ez]at q;cases aM:Den.ev pg Φ ρ e with
   |ok d =>
    rw[aM]at q;simp only[Den.R.il]at q;cases a7:Den.hY pg Φ ρ a with
    |ok N2=>rw[a7]at q;cases q;simp[p3 ρ N2 a7]
    |exc c=>rw[a7]at q;cases q
    |bad=>rw[a7]at q;cases q
   |exc c=>rw[aM]at q;cases q
   |bad=>rw[aM]at q;cases q
 .cases h
def XN(aD:kg xp k g pg Φ n)(o)(x)(ct)(X)(ae:sizeOf o<n+1)(aC:dp xp k g pg Φ X ct)(h:Den.r8 g ct o x=true):kl X x (rm xp X ct.mu λρ=>Den.nc pg Φ ρ o):=by
 unfold Den.r8 at h
 split at h
 .exact WM
 .rename_i e x;exact WQ (aD.e e x ct true X (by simp at ae;lia) aC h).view
 .cases h
def stepI(aD:kg xp k g pg Φ n)(s)(x)(ct)(v)(X)(dv)(ae:sizeOf s<n+1)(aC:dp xp k g pg Φ X ct)(h:Den.hi g ct v s x=true)(au:Den.nU s=true->∃elts j p,dv=.Tuple elts j p):
  ir X dv x (la xp X ct.mu (pe v) λρ=>Den.hI pg Φ ρ s)/\nice x=true:=by
 cases s with
 |seq e =>
  rw[Den.hi]at h;exact⟨WI (G8 v) (aD.e e x ct v X (by simp at ae;lia) aC h).fe,hp h⟩
 |ff a =>
  rw[Den.hi]at h
  split at h
  .rename_i x y e1;obtain⟨aaU,p,rfl⟩:=ka e1;simp only[aa6]at h;obtain⟨⟨J,h2⟩,h3⟩:=h;obtain⟨g1,g2⟩:=aC.blt h2 (by rw[jm J];decide);have cy:=aD.e a y ct true X (by simp at ae;lia) aC h3;exact⟨WX (jm J) g1 g2 cy.view (iK (hp h3)),rfl⟩
  .cases h
 |lG i =>
  rw[Den.hi]at h
  split at h
  .rename_i b7 e1;obtain⟨p,rfl⟩:=fY e1;obtain⟨a1,a2,a3,a4⟩:=q3 h;obtain⟨bQ,bW,_⟩:=fy a3;exact⟨WE (G8 v) a4 (by rw[aC.nm];exact a1) (aC.ha a2) bQ bW,rfl⟩
  .cases h
theorem oq:∀n,kg xp k g pg Φ n
 |0=>⟨λ_ _ _ _ _ h=>⋯,λ_ _ _ _ h=>⋯,λ_ _ _ _ h=>⋯,λ_ _ _ _ _ _ h=>⋯⟩
 |n+1=>⟨XM (oq n),XJ (oq n),XN (oq n),stepI (oq n)⟩
def mb(aC:dp xp k g pg Φ X ct)(h:Den.cc g ct v e x=true):Res xp X ct.mu v (Den.kA e) x (λρ=>Den.ev pg Φ ρ e):=(oq (sizeOf e+1)).e e x ct v X (acN _) aC h
end
def Uk(x:dX P w H h a o):∃u,h.get? a=some u:=by
 cases o with
 |lst xs=>obtain⟨_,_,_,_,e⟩:=x;exact⟨_,e⟩
 |tup xs=>obtain⟨_,_,_,o,e,_⟩:=x;exact⟨_,e⟩
 |dQ ah=>obtain⟨_,_,_,_,o,_,_,e,_⟩:=x;exact⟨_,e⟩
 |da ah=>obtain⟨_,_,_,_,o,_,_,e,_⟩:=x;exact⟨_,e⟩
 |set S n=>obtain⟨o,_,_,_,e,_⟩:=x;exact⟨_,e⟩
 |ins C bk bp=>obtain⟨_,_,_,e,_⟩:=x;exact⟨_,e⟩
 |own y=>exact x
 |xK bp=>obtain⟨_,⟨_,_,_,e,_⟩,_⟩:=x;exact⟨_,e⟩
 |ff lo ai=>obtain⟨_,_,_,e⟩:=x;exact⟨_,e⟩
 |dk bP u=>obtain⟨e,_⟩:=x;exact⟨_,e⟩
 |n3 aJ=>exact⟨_,x⟩
 |met f y=>exact⟨_,x⟩
 |ext eo=>exact x.2.1
def Br(x:d7 P w H h)(e:h.get? a=none):H a=none:=by
 cases q:H a with
 |none=>rfl
 |some o=>obtain⟨u,z⟩:=Uk (x a o q);rw[e]at z;cases z
section
def Bo{pins:List (Addr×Obj)}{σ:de}{s:Shared}{l:List Addr}(I:Inv X pins σ H s)(nw:∀a∈l,hA X pins H a)(keep:∀b o,s.heap.get? b=some o->b∉l->b∉gv X.stack->h'.get? b=some o)(slot:∀b o,s.heap.get? b=some o->b∈gv X.stack->∃bF,h'.get? b=some { o with slots:=bF }):Inv X pins σ H { s with heap:=h',toks:=t' }:=by
 have any:∀b o,s.heap.get? b=some o->b∉l->∃bF,h'.get? b=some { o with slots:=bF }:=λb o e n=>by
  by_cases aa:b∈gv X.stack
  .exact slot b o e aa
  .exact⟨o.slots,keep b o e n aa⟩
 have old:∀b o,X.eL.heap.get? b=some o->b∉X.ex->b∉l:=λb o e ak aa=>by
  rcases(nw b aa).2.1 with z|z
  .exact ak z
  .rw[e]at z;cases z
 have T1:∀b o,X.eL.heap.get? b=some o->b∉X.bp->b∉gv X.stack:=λb o e aa q=>by
  rcases aa9.mp (I.pK b q) with z|z
  .exact absurd (abr (abd e) I.ok.above) (by rw[z];exact acv _)
  .exact aa z
 have cellK:∀x c,X.env.cells.lookup x=some c->∀v,s.heap.IsCell c v->h'.IsCell c v:=λx c e v ⟨o,av,hd⟩=>by
  obtain⟨bF,q⟩:=any c o av λz=>(nw c z).2.2.2.1 x c e rfl
  exact⟨_,q,hd⟩
 refine⟨I.ok,I.os,I.bare,⟨λb o e n aa ak=>?_,λb o e n aa ak=>?_,I.base.free,λb o e ak=>?_,I.base.jG,I.base.iZ,I.base.jF⟩,?_,λx c e=>?_,I.free,I.hK,λp au=>?_,λa o e=>?_,I.len⟩
 .exact keep b o (I.base.keep b o e n aa ak) (old b o e ak) (T1 b o e aa)
 .obtain⟨bF,e1⟩:=I.base.slot b o e n aa ak;obtain⟨B9,e2⟩:=any b _ e1 (old b o e ak);exact⟨B9,e2⟩
 .obtain⟨bJ,e1⟩:=I.base.there b o e ak;obtain⟨bF,e2⟩:=any b bJ e1 (old b o e ak);exact⟨_,e2⟩
 .obtain⟨m,⟨o,aj,aZ,av,hd,r⟩,ax⟩:=I.loc;obtain⟨bF,e⟩:=any _ o av λz=>(nw _ z).2.2.1 rfl
  refine⟨m,⟨_,aj,aZ,e,hd,r⟩,λi x v e1 e2 e3=>?_⟩;obtain⟨u,r,q⟩:=ax i x v e1 e2 e3;refine⟨u,r,?_⟩;rcases q with q|⟨k,c,e,z⟩
  .exact .inl q
  .exact .inr ⟨k,c,e,cellK x c e _ z⟩
 .obtain⟨v,z⟩:=I.cell x c e;exact⟨v,cellK x c e v z⟩
 .obtain⟨e,n,ne,jb,d⟩:=I.pin p au;exact⟨keep p.1 p.2 e (λz=>(nw _ z).2.2.2.2 p au rfl) (λz=>(aa9.mp (I.pK _ z)).elim ne jb),n,ne,jb,d⟩
 .refine(I.bz a o e).jE (λb u aa q=>?_) (λ_ q=>q) λ_ _ q=>q
  have eH:H b≠none:=by
   rcases aa with z|z
   .rw[z,e];exact λy=>nomatch y
   .rw[z];exact λy=>nomatch y
  exact keep b u q (λz=>eH (nw b z).1) λz=>eH (I.Cg b z)
end
noncomputable def u3:List Value:=[.type "ValueError",.type "Exception",.type "BaseException",.type "object"]
structure pX(aS:Str->Option Value)(base:Heap)(cl:Nat->Option Addr)(c:Nat)(x:Str)(C:Addr):Prop where
 at_:cl c=some C
 aS:aS x=some (.ref C)
 bP:∃(newId:String)(bm:List Value)(N:Addr)(nm q:Str)(bs:List Value)(hdct:Bool)(sn:List Str)(sub:List Value)(ab:Bool)(col:Option Bool)(dd:Option Addr)(k0 k1 k2 k3 k5:Option Value),
  base.get? C=some (excClassObj nm q C N bs bm hdct sn sub ab col dd k0 k1 k2 k3 k5 newId)/\bm.contains (.type "BaseException")=true
structure oh(K:W.Frag)(base:Heap)(cl:Nat->Option Addr)(up:Nat->List Nat)(C:Addr):Prop where
 at_:cl 1=some C
 pS:(up 1).contains 1000=true
 bP:∃(newId rC v9:String)(u2 bm:List Value)(N:Addr)(nm q:Str)(bs:List Value)(hdct:Bool)(sn:List Str)(sub:List Value)(ab:Bool)(col:Option Bool)(dd:Option Addr)(k0 k1 k2 k3 k5:Option Value)(mN:Str->Option Value),
  ExcBaseFacts rC newId v9 u2/\u3.contains (.type rC)=true/\base.get? C=some (excClassObj nm q C N bs bm hdct sn sub ab col dd k0 k1 k2 k3 k5 newId)/\base.Ns N mN/\mN "__init__"=none/\OwnTail base u3 bm/\ek.Plain K C bm /\
  ∀k D,cl k=some D->(Value.ref C::bm).contains (.ref D)=(up 1).contains k
section
variable{X:aU}{pins:List (Addr×Obj)}{σ:de}{H:aB}{s:Shared}{h':Heap}{l:List Addr}{cl:Nat->Option Addr}{up:Nat->List Nat}{x n:Str}{C:Addr}{mu:List Nat}{np p e8 pos:Pos}
def WS(uS:pX X.aS X.base cl 1 x C)(O:oh X.K X.base cl up C)(ag:X.calm=true)(aQ:fg X x)(hd:(x==("__debug__":Str))=false):
  c9 X (.Raise (some (.Call (.Name x np) [.Constant (.str t) j p] [] e8)) none pos) (c5 (ek.gu cl) X mu λ_=>.exc 1):=by
 intro pins s σ H T I ⟨bl,a8,G,ρ,aa,hw⟩;obtain⟨newId,rC,v9,u2,bm,N,nm,q,bs,hdct,sn,sub,ab,col,dd,k0,k1,k2,k3,k5,mN,fo,zV,dU,aG,lR,Tl,_⟩:=O.bP;refine wpAny_Raise_call_subU (C:=C) (nm:=nm) (q:=q) (N:=N) (bs:=bs) (bm:=bm) (hdct:=hdct) (sn:=sn) (sub:=sub) (ab:=ab) (col:=col) (dd:=dd) (k0:=k0) (k1:=k1) (k2:=k2) (k3:=k3) (k5:=k5)
  fo zV F.excBase_ValueError (mN:=mN) (Tl.hasType rfl) (I.ok.hd ag) rfl lR (wk I aQ uS.aS ⟨rfl,?_⟩ hd)
 have aA:=(nS BC pv:fZ X [.Constant (.str t) j p] _) e8 pins s σ H (λaf H1=>af.length=1/\H1=H) I ⟨rfl,rfl⟩;refine aeg (bR aA λus s2 ⟨af,H1,aY,r,e⟩=>⟨rfl,by show us.length<=sizeLine;rw[<- r.length,e.1];decide,aY.hE _ _ dU,aG.keeps aY.hE,Tl.keeps aY.hE,λh' bo hm=>?_⟩)
 .obtain⟨_,rfl⟩:=e;exact hw pins σ H1 { s2 with heap:=h' } (.ref bo) [bo] (aY.kept (t':=s2.toks) hm.keeps) aa.ext.h (λa aA=>by
   obtain rfl:a=bo:=(by simpa using aA);exact .of aY hm.new (Br aY.bz hm.new)) (ek.made O.at_ hm)
noncomputable def X6(j:Nat)(bo:Addr)(v:V):TE:=λσ H Q=>σ[j]?=some (some (.ref bo))/\∀bj,bw H bj->Q v bj
noncomputable def X7(j:Nat)(bo:Addr)(af:List V):gX:=λσ H Q=>σ[j]?=some (some (.ref bo))/\∀bj,bw H bj->Q af bj
noncomputable def JL(j:Nat)(bo:Addr)(v:V):gr:=λT σ H=>σ[j]?=some (some (.ref bo))/\∀bj,bw H bj->T.cP v bj
def C0(aS:Str->Option Value)(base:Heap)(cl:Nat->Option Addr)(up:Nat->List Nat)(v:V)(b:Bool):Prop:=(v=.ty "ValueError"/\b=true)\/∃k y D,v=.ref D/\pX aS base cl k y D/\b=(up 1).contains k
def Mh(O:oh X.K X.base cl up C)(au:(bo,dK)∈X.cf)(dB:dK.cls=.ref C):
  gS X (.builtin "isinstance") (λxs H Q=>∃v b,xs=[.ref bo,v]/\C0 X.aS X.base cl up v b/\Q (.aP b) H):=by
 intro pins s σ H xs us Q I r ⟨v,b,ex,aI,q⟩;subst ex;obtain⟨u,xu,rfl,cm,IP⟩:=vals2 r;cases cm;have he:=(I.pin (bo,dK) (List.mem_append_left _ au)).1;obtain⟨newId,rC,v9,u2,bm,N,nm,cU,bs,hdct,sn,sub,ab,col,dd,k0,k1,k2,k3,k5,mN,fo,zV,dU,aG,lR,Tl,P,aa⟩:=O.bP;have dU:=I.hE _ _ dU;rcases aI with⟨rfl,rfl⟩|⟨k,y,D,rfl,jk,rfl⟩
 .cases IP;exact ek.Sa he dB dU (by kernel_rfl) (Tl.hasType rfl) ⟨.aP true,H,I,rfl,q⟩
 .cases IP;obtain⟨_,_,_,_,_,_,_,_,_,_,_,_,_,_,_,_,_,eG,_⟩:=jk.bP;have eG:=I.hE _ _ eG;have hm:=aa k D jk.at_;cases e:(up 1).contains k with
  |true =>
   rw[e]at hm q;exact ek.R9 he dB dU eG rfl ⟨_,rfl⟩ hm ⟨.aP true,H,I,rfl,q⟩
  |false =>
   rw[e]at hm q;exact ek.R8 I.o6 P he dB dU eG rfl ⟨_,rfl⟩ hm ⟨.aP false,H,I.tok _,rfl,q⟩
def Y2{bs:List Bool}:TruthOf P w A (λi v=>(bs.map Value.bool).toArray[i]?=some v) λi=>bs.getD i false:=by
 intro i v s Q E aI dh;have aI:(bs.map Value.bool)[i]?=some v:=by simpa using aI
 rw[abj]at aI;cases q:bs[i]? with
 |none=>rw[q]at aI;cases aI
 |some b =>
  rw[q]at aI;cases aI;refine acE ?_;have:bs.getD i false=b:=(by simp[List.getD,q]);have dh:Q (bs.getD i false) s:=dh;rw[this]at dh;exact dh
def Lg(au:(bo,dK)∈X.cf)(iA:X.A.handled=some (.ref bo))(hd:dK.data=.fields af)(h2:af[2]?=some .none):
  gS X (.builtin "any") (λxs H Q=>∃(a:Addr)(bs:List Bool),xs=[.ref a]/\d1 X.K H a (bs.map V.aP)/\Q (.aP (bs.any id)) H):=by
 intro pins s σ H xs us Q I r ⟨a,bs,ex,h,q⟩;subst ex;obtain⟨u,rfl,bf⟩:=vals1 r;cases bf;have he:=(I.pin (bo,dK) (List.mem_append_left _ au)).1;obtain⟨its,bI,b0,hz⟩:=I.list h;obtain rfl:=xE bI;have ax:(bs.map Value.bool).toArray.size=bs.length:=by rw[abe,List.length_map]
 have ne:a≠s.heap.objs.size:=by obtain⟨o,n,av,_⟩:=b0;exact abp (abd av)
 have br:bo≠s.heap.objs.size:=abp (abd he);refine call_any_walk (adS b0.isList ⟨s.heap.objs.size,_,_,_,_,_,λi=>bs.getD i false,rfl,ek.Zr (A:=X.A.in1) iA hd h2 _ a ne br (bs.map Value.bool).toArray,⟨⟨⟨_,abf _ rfl,rfl,rfl⟩,(let ⟨o,av,r⟩:=b0.isList;⟨o,aa8 _ av,r⟩)⟩,aa8 _ he⟩,Y2,λh' tk aw=>?_⟩);rw[ax,any_range];exact⟨.aP _,H,I.kept λb o e=>aw b o (by simp;exact abp (abd e)) (aa8 _ e),rfl,q⟩
variable{g:Den.Gt}{ct:Den.dy}
structure xU(X:aU)(g:Den.Gt)(ct:Den.dy)(cl:Nat->Option Addr):Prop where
 gl:∀x,Den.kB ct.sc x=true->fg X x
 aP:∀x,Den.fE g ct.sc x=true->x∈rA->fg X x/\X.aS x=none
 pS:X.aS "ValueError"=none
 own:∀(c:Nat)(x:Str),g.cls[c]?=some x->∃C,pX X.aS X.base cl c x C
def BB(O:oh X.K X.base cl up C)(en:xU X g ct cl)(au:(bo,dK)∈X.cf)(dB:dK.cls=.ref C)(aF:X.N[j]?=some n)(aI:e6 X.env.scope n)(nx:Den.okN n=true)(h:Den.r7 g ct n k z=true):aO X z (X6 j bo (.aP ((up 1).contains k)))/\nice z=true:=by
 unfold Den.r7 at h
 split at h
 .rename_i f e d e1;obtain⟨bD,dG,rfl⟩:=ka e1
  split at h
  .rename_i y t e2 e3;obtain⟨p1,rfl⟩:=fY e2;obtain⟨p2,rfl⟩:=fY e3;simp only[aa6,abG]at h;obtain⟨⟨⟨⟨rfl,h2⟩,rfl⟩,h4⟩,h5⟩:=h;obtain⟨b1,b2⟩:=en.aP _ h2 ∅;obtain⟨bQ,bW,oD⟩:=fy nx;have jZ:∃v,aO X (.Name t p2) (pM v)/\C0 X.aS X.base cl up v ((up 1).contains k):=by
    simp only[Den.tyB,aa6]at h4;obtain⟨⟨g1,g2⟩,g3⟩:=h4;obtain⟨t1,dZ,t3⟩:=fy g2
    by_cases fv:k=1000
    .rw[if_pos fv]at g3;simp only[aa6,abG]at g3;obtain⟨rfl,_⟩:=g3;subst fv;exact⟨.ty "ValueError",UH (en.gl _ g1) en.pS (by kernel_rfl) rfl,.inl ⟨rfl,O.pS⟩⟩
    .rw[if_neg fv]at g3;obtain⟨D,jk⟩:=en.own k t (by simpa using g3);exact⟨.ref D,UO (en.gl _ g1) jk.aS rfl t1,.inr ⟨k,t,D,rfl,jk,rfl⟩⟩
   obtain⟨v,Rm,ak⟩:=jZ;refine⟨λpins s σ H Q I ⟨aM,a7⟩=>?_,rfl⟩;refine Bz (Mh O au dB) b1 b2 boot_isinstance (nS (gg aF aI bQ bW) (nS Rm pv)) ∅ ∅ rfl rfl pins s σ H Q I ?_;exact⟨_,aM,v,_,rfl,ak,a7 H (bw.refl H)⟩
  .cases h
 .cases h
theorem HM(O:oh X.K X.base cl up C)(en:xU X g ct cl)(au:(bo,dK)∈X.cf)(dB:dK.cls=.ref C)(aF:X.N[j]?=some n)(aI:e6 X.env.scope n)(nx:Den.okN n=true):
  ∀{ar:List Nat}{zs:List Expr},Den.u6 g ct n ar zs=true->fZ X zs (X7 j bo (ar.map λk=>V.aP ((up 1).contains k)))
 |[],[],_=>λpos pins s σ H Q I ⟨aM,a7⟩=>pv pos pins s σ H Q I (a7 H (bw.refl H))
 |[],_::_,h=>by cases h
 |_::_,[],h=>by cases h
 |k::ar,z::zs,h=>by
  simp only[Den.u6,aa6]at h;obtain⟨r,az⟩:=BB O en au dB aF aI nx h.1;have aX:=HM O en au dB aF aI nx h.2;intro pos pins s σ H Q I ⟨aM,a7⟩;exact nS r aX (ur az) pos pins s σ H Q I ⟨aM,λbj s3=>⟨aM,λfD s4=>a7 fD (s3.trans s4)⟩⟩
end
section
variable{X:aU}{pins:List (Addr×Obj)}{σ:de}{H:aB}{s:Shared}{h':Heap}{l:List Addr}{cl:Nat->Option Addr}{up:Nat->List Nat}{c:Nat}{x n:Str}{C:Addr}{mu:List Nat}{np p e8 pos:Pos}
def PO(I:Inv X pins σ H s)(az:h'.Ns X.env.locals m)(ae:Heap.SameBut X.env.locals s.heap h'):Inv X pins (List.replicate X.N.length none) H { s with heap:=h',toks:=t' }:=by
 have old:∀b o,X.eL.heap.get? b=some o->b≠X.env.locals:=λb o e=>abp (abr (abd e) I.ok.above)
 have gP:∀b o,b≠X.env.locals->s.heap.get? b=some o->h'.get? b=some o:=λb o nb e=>by rw[ae.2 b nb];exact e
 refine⟨I.ok,I.os,I.bare,⟨λb o e n aa ak=>?_,λb o e n aa ak=>?_,I.base.free,λb o e ak=>?_,I.base.jG,I.base.iZ,I.base.jF⟩,⟨m,az,λi x v e1 e2 e3=>?_⟩,λx c e=>?_,I.free,I.hK,λp au=>?_,λa o e=>?_,by simp⟩
 .exact gP b o (old b o e) (I.base.keep b o e n aa ak)
 .obtain⟨bF,e1⟩:=I.base.slot b o e n aa ak;exact⟨bF,gP b _ (old b o e) e1⟩
 .obtain⟨bJ,e1⟩:=I.base.there b o e ak;exact⟨bJ,gP b bJ (old b o e) e1⟩
 .rw[ac3]at e2
  split at e2<;>cases e2
 .obtain⟨v,o,av,hd⟩:=I.cell x c e;exact⟨v,o,gP c o (I.mX x c e) av,hd⟩
 .obtain⟨e,n,ne,jb,d⟩:=I.pin p au;exact⟨gP _ _ ne e,n,ne,jb,d⟩
 .refine(I.bz a o e).jE (λb u aa q=>gP b u (λz=>?_) q) (λ_ q=>q) λ_ _ q=>q
  have hf:=I.free;rw[<- z]at hf;rcases aa with w|w
  .rw[w,e]at hf;cases hf
  .rw[w]at hf;cases hf
noncomputable abbrev o5(X:aU)(e:Value)(cf:List (Addr×Obj)):aU:={ X with A:=X.A.mark (some e),calm:=false,cf:=cf,b9:=λ_ _=>False }
noncomputable abbrev nC(X:aU)(cf:List (Addr×Obj))(E:Value->Shared->Prop):aU:={ X with cf:=cf,b9:=E }
def YX(I:Inv X pins σ H s)(au:∀p∈cf,s.heap.get? p.1=some p.2/\H p.1=none/\p.1≠X.env.locals/\p.1∉X.bp/\∀v,p.2.data≠.cell v):Inv (o5 X e cf) [] σ H s :=
 ⟨⟨I.ok.mod,I.ok.kind,I.ok.glob,I.ok.blt,I.ok.above,I.ok.inj,I.ok.has,I.ok.r4,(λz=>nomatch z),I.ok.frames,I.ok.pJ,I.ok.vv,I.ok.bs,I.ok.oA,I.ok.qY,I.ok.oQ,I.ok.js,I.ok.qr⟩,I.os,I.bare,I.base,I.loc,I.cell,I.free,I.hK,λp q=>au p (by simpa using q),I.bz,I.len⟩
def Uc(aC:X.Ok)(I:Inv (o5 X e cf) aJ σ H s)(au:∀p∈X.cf++pins,p∈cf):Inv X pins σ H s :=
 ⟨aC,I.os,I.bare,I.base,I.loc,I.cell,I.free,I.hK,λp q=>I.pin p (List.mem_append_left _ (au p q)),I.bz,I.len⟩
def YY(I:Inv X pins σ H s)(au:∀p∈cf,p∈X.cf++pins):Inv (nC X cf E) [] σ H s :=
 ⟨⟨I.ok.mod,I.ok.kind,I.ok.glob,I.ok.blt,I.ok.above,I.ok.inj,I.ok.has,I.ok.r4,I.ok.hd,I.ok.frames,I.ok.pJ,I.ok.vv,I.ok.bs,I.ok.oA,I.ok.qY,I.ok.oQ,I.ok.js,I.ok.qr⟩,I.os,I.bare,I.base,I.loc,I.cell,I.free,I.hK,λp q=>I.pin p (au p (by simpa using q)),I.bz,I.len⟩
def tV(aC:X.Ok)(I:Inv (nC X cf E) aJ σ H s)(au:∀p∈X.cf++pins,p∈cf):Inv X pins σ H s :=
 ⟨aC,I.os,I.bare,I.base,I.loc,I.cell,I.free,I.hK,λp q=>I.pin p (List.mem_append_left _ (au p q)),I.bz,I.len⟩
def hA.wH(I:Inv X pins σ H s)(h:hA X pins H a):a∉X.bp:=λaa=>by
 rcases h.2.1 with z|z
 .exact I.ok.oQ a z aa
 .obtain⟨_,o,av,_⟩:=I.ok.js.mem aa;rw[z]at av;cases av
def hA.TY(I:Inv X pins σ H s)(h:hA X pins H a):a∉gv X.stack:=λaa=>by
 rcases aa9.mp (I.pK a aa) with z|z
 .exact h.2.2.1 z
 .exact hA.wH I h z
def CY(X:aU)(cl:Nat->Option Addr)(ae:List ExceptHandler)(bv:Str):Prop:=∀(pins:List (Addr×Obj))(s:Shared)(σ:de)(H:aB)(T:Ends)(ev:Value)(l:List Addr),Inv X pins σ H s->(∀a∈l,hA X pins H a)->ek.gu cl 1 ev l s.heap->(∀bj,bw H bj->T.cP (.str bv) bj) ->
 wpAny (model X.prog X.w) X.A (handleBy ev X.env ae) (oj X pins T) X.b9 s
def H4(I:Inv X pins σ H s)(Bk:hA X pins H bo)(hd:dK.data=.fields af)(he:s.heap.get? bo=some dK):Inv (o5 X (.ref bo) (X.cf++pins++[(bo,dK)])) [] σ H s:=YX I λp au=>by
 rcases abq.mp au with au|au
 .exact I.pin p au
 .obtain rfl:p=(bo,dK):=(by simpa using au);exact⟨he,Bk.1,Bk.2.2.1,hA.wH I Bk,λv=>by show dK.data≠_;rw[hd];exact λz=>nomatch z⟩
section
variable{k:Nat}{D:Addr}{mR:Stmt}{st:List Stmt}{au:Pos}{bv:Str}(O:oh X.K X.base cl up C)(jk:pX X.aS X.base cl k x D)(aw:(up 1).contains k=true)(nv:fg X x)(FK:(x==("__debug__":Str))=false)
include O jk aw nv FK
def Qr(aG:X.N.Nodup)(aF:X.N[j]?=some n)(az:X.env.scope.names.lookup n=some .local)(h1:∀(bo:Addr)(dK:Obj)(af:Array Value)(cf:List (Addr×Obj)),dK.cls=.ref C->dK.data=.fields af->af[2]?=some .none->(bo,dK)∈cf->f3 (o5 X (.ref bo) cf) (mR::st) (JL j bo (.str bv))):CY X cl [.ExceptHandler (some (.Name x np)) (some n) (mR::st) au] bv:=by
 intro pins s σ H T ev l I nw ak fin;have Ga:=ak;obtain⟨bo,xP,dK,af,rfl,ag,he,dB,hd,h2,aV⟩:=ak;have lO:bo∈l:=by rcases aV with⟨rfl,_⟩|⟨T,_,_,rfl,_⟩<;>simp
 obtain rfl:xP=C:=abI (ag.symm.trans O.at_);obtain⟨newId,rC,v9,u2,bm,N,nm,q,bs,hdct,sn,sub,ab,col,dd,k0,k1,k2,k3,k5,mN,fo,zV,dU,kE,lR,Tl,_,aa⟩:=O.bP;obtain⟨_,_,_,_,_,_,_,_,_,_,_,_,_,_,_,_,_,eG,d3⟩:=jk.bP;refine wpAny_handleBy_cons (codeAny_handlers_test (wk (X:=o5 X (.ref bo) (X.cf++pins++[(bo,dK)])) (H4 I (nw bo lO) hd he) nv jk.aS ?_ FK)) (by intro q;cases q);obtain⟨bZ,P7,N7,tk,os⟩:=s;refine ek.Tp (I.hE _ _ dU) (I.hE _ _ eG) he dB d3 ((aa k D jk.at_).trans aw) (codeAny_handlers_suite_as (ek.PF Ga λJ l1 s7 jt=>?_));have er:Inv X pins σ H { heap:=J,gens:=P7,drawn:=N7,toks:=tk,os:=os }:=Bo (t':=tk) I (l:=l1) (λa aA=>nw a (s7 a aA).1) (λb o q aa _=>jt b o q aa) λb o q aa=>⟨o.slots,jt b o q λz=>hA.TY I (nw b (s7 b z).1) aa⟩
 refine xl (X:=o5 X (.ref bo) (X.cf++pins++[(bo,dK)])) (H4 er (nw bo lO) hd (jt bo dK he λz=>(s7 bo z).2 rfl)) aG aF (.inl az) (v:=.ref bo) rfl (λs5 mF=>?_) (.inr az);refine abV (h1 bo dK af _ dB hd h2 (by simp) [] s5 _ H { br:=λ_ _=>False,cP:=λv bj=>v=.str bv/\bw H bj } mF ⟨?_,λbj z=>⟨rfl,z⟩⟩) (λf rb q=>?_) λ_ _ z=>z.elim
 .have QP:j<σ.length:=(by rw[I.len];exact(abt.mp aF).1);exact ug QP
 .cases f with
  |ret u =>
   obtain⟨v,uI,ji,pW,t7,rfl,Xy⟩:=q;obtain⟨m,Q8,_⟩:=id pW.loc;refine wpAny_nameGoes (env:=X.env) (m:=m) az Q8 (by rw[I.ok.kind];rfl) λgx aaL Q9 Rv=>?_
   exact⟨.str bv,_,ji,PO (Uc I.ok pW λp au=>List.mem_append_left _ au) Q9 Rv,t7,fin ji Xy⟩
  |next=>obtain⟨_,_,_,z⟩:=q;exact z.elim
  |brk=>obtain⟨_,_,_,z⟩:=q;exact z.elim
  |cont=>obtain⟨_,_,_,z⟩:=q;exact z.elim
end
noncomputable def qX(bl a8 bj:aB):aB:=λb=>match bl b with
 |some o=>some o
 |none=>match a8 b,bj b with
  |none,some (.tup xs)=>some (.tup xs)
  |_,_=>none
def O8(J:bw a8 bj)(h2:bw bl bj):Ext bl a8 (qX bl a8 bj) bj:=by
 refine⟨λb o e=>by unfold qX;rw[e],J,λb o e=>?_,λb bO bE=>?_,λb xs e=>?_⟩
 .unfold qX at e;cases q:bl b with
  |some bJ=>rw[q]at e;cases e;exact h2 b _ q
  |none =>
   rw[q]at e;dsimp only at e
   split at e
   .rename_i xs _ bU;cases e;exact bU
   .cases e
 .unfold qX;rw[bO];dsimp only
  split
  .rename_i q _;exact absurd q bE
  .rfl
 .cases q:a8 b with
  |some o=>have:=J b o q;rw[e]at this;cases this;exact .inl rfl
  |none =>
   refine .inr ?_;unfold qX;cases a7:bl b with
   |some o=>have:=h2 b o a7;rw[e]at this;cases this;rfl
   |none=>rw[q,e]
def I2(cK:X.stack=X.env::X.outer/\X.env.frame=some X.env.locals)(Aa:∀(cf:List (Addr×Obj))(E:Value->Shared->Prop),c9 (nC X cf E) a (c5 (ek.gu cl) (nC X cf E) mu λρ=>Den.ex pg Φ ρ (.asg cp e)))(i6:∀c,c≠1->Den.jq pg c k0 bZ=.bad)(eH:Den.jq pg 1 k0 bZ=.bad\/Den.jq pg 1 k0 bZ=.ok (.cP (.str bv))/\CY X cl [h0] bv):
  c9 X (.Try [a] [h0] [] [] pos) (c5 (ek.gu cl) X mu λρ=>Den.ex pg Φ ρ (.pO cp e k0 bZ)):=by
 intro pins s σ H T I ⟨bl,a8,G,ρ,aa,hw⟩;refine wpAny_Try_except ?_;have go:∀(aK H1:aB)(jh:Value->Shared->Prop),dP X.K mu aK H1 G H ρ σ->cq (Den.ex pg Φ ρ (.asg cp e)) (hZ X.K mu aK H1 T) (λc=>eY (ek.gu cl) (nC X (X.cf++pins) jh) c H1) ->
   wpAny (model X.prog X.w) X.A (execs [a] X.env) (λf s1=>match f with|.next=>wpAny (model X.prog X.w) X.A (execs [] X.env) (oj X pins T) X.b9 s1|f=>oj X pins T f s1) jh s:=λaK H1 jh g0 RI=>by
  refine abV (Ib (Aa (X.cf++pins) jh) [] s σ H T (YY I λ_ z=>z) ⟨aK,H1,G,ρ,g0,RI⟩) (λf s1 q=>?_) λ_ _ q=>q
  cases f with
  |next=>obtain⟨cj,ao,d8,q⟩:=q;exact adE ⟨cj,ao,tV I.ok d8 λ_ z=>z,q⟩
  |ret u=>obtain⟨v,cj,ao,d8,r,q⟩:=q;exact⟨v,cj,ao,tV I.ok d8 λ_ z=>z,r,q⟩
  |brk=>obtain⟨cj,ao,d8,q⟩:=q;exact⟨cj,ao,tV I.ok d8 λ_ z=>z,q⟩
  |cont=>obtain⟨cj,ao,d8,q⟩:=q;exact⟨cj,ao,tV I.ok d8 λ_ z=>z,q⟩
 dsimp only at hw;rw[Den.zC]at hw;cases q:Den.ex pg Φ ρ (.asg cp e) with
 |ok r =>
  rw[q,Den.J4]at hw;exact go bl a8 _ aa (by rw[q];exact hw)
 |bad=>rw[q]at hw;exact hw.elim
 |exc c =>
  rw[q,Den.J3]at hw
  by_cases FI:c=1
  .subst FI;rcases eH with nB|⟨nB,eH⟩
   .rw[nB]at hw;exact hw.elim
   rw[nB]at hw;have kC:bw bl (hN bl a8):=λb o e=>nG e
   have Qk:bw a8 (hN bl a8):=λb o e=>by
    cases z:bl b with
    |none=>rw[jw z];exact e
    |some bJ =>
     have e1:=aa.ext.sub b bJ (aa.ext.g b bJ z);rw[aa.ext.h b o e]at e1;cases e1;exact nG z
   have gb:dP X.K mu bl (hN bl a8) G H ρ σ:=by
    refine⟨aa.bX,⟨aa.ext.g,λb o e=>?_,aa.ext.sub,λb bO bE=>?_,λb xs e=>.inr (aa.bX.dw b xs e)⟩,λcw ds b bO lp bE dx=>?_⟩
    .cases z:bl b with
     |none=>rw[jw z]at e;exact aa.ext.h b o e
     |some bJ=>rw[nG z]at e;cases e;exact aa.ext.sub b _ (aa.ext.g b _ z)
    .rw[jw bO]at bE;exact aa.ext.new b bO bE
    .obtain⟨f7,xs,k1,k2,k3,b6⟩:=aa.bX.lst cw ds bO bE lp;rw[k1]at dx;cases dx;rw[jw (aa.ext.g.free k3)];exact aa.own cw ds _ bO lp bE k1
   refine go bl (hN bl a8) _ gb ?_;rw[q];intro BE cj ao s' ev l aY bX nw ak;have d8:Inv X pins cj ao s':=tV I.ok aY λ_ z=>z
   have HC:∀a∈l,hA X pins ao a:=λa aA=>⟨(nw a aA).1,(nw a aA).2.1,(nw a aA).2.2.1,(nw a aA).2.2.2.1,λp au=>(nw a aA).2.2.2.2 p (List.mem_append_left _ au)⟩
   have e1:ek.fr (X.env::X.outer)=gv X.stack:=(by rw[cK.1];rfl);refine ek.note (base:=X.base) (outer:=X.outer) (by rw[d8.ok.frames,cK.1]) (by rw[<- cK.1];exact d8.stack) cK.2 ak λJ l1 vY Ax aw nA=>?_
   rw[e1]at aw nA;have cb:Inv X pins cj ao { s' with heap:=J }:=Bo (t':=s'.toks) d8 HC aw nA;have T5:∀a∈l1,hA X pins ao a:=λa aA=>(Ax a aA).elim (HC a) λz=>.of d8 z (Br d8.bz z)
   exact eH pins _ cj ao T ev l1 cb T5 vY λbj s3=>hw (.str bv) (qX bl a8 bj) bj (O8 ((Qk.trans bX).trans s3) ((kC.trans bX).trans s3)) rfl
  .rw[i6 c FI]at hw;exact hw.elim
end
def pL(h:Den.n1 x=some (ts,y)):∃p,x=.Assign ts y p:=by
 cases x with
 |Assign a b p=>cases h;exact⟨p,rfl⟩
 |_=>exact nn h
def JK(h:Den.Cm x=some y):∃p,x=.Expr y p:=by
 cases x with
 |Expr a p=>cases h;exact⟨p,rfl⟩
 |_=>exact nn h
def uw(h:Den.n2 x=some y):∃p,x=.Return y p:=by
 cases x with
 |Return a p=>cases h;exact⟨p,rfl⟩
 |_=>exact nn h
def X9(h:Den.Cn x=some (t,a,b)):∃p,x=.If t a b p:=by
 cases x with
 |If t a b p=>cases h;exact⟨p,rfl⟩
 |_=>exact nn h
def X5(h:Den.xn x=some (t,it,a,b)):∃p,x=.For t it a b p:=by
 cases x with
 |For t it a b p=>cases h;exact⟨p,rfl⟩
 |_=>exact nn h
structure mA(xp:dq)(g:Den.Gt)(pg:Den.eX)(K:W.Frag)(aS:Str->Option Value)(base:Heap):Prop where
 ex:∃cl C,xp=ek.gu cl/\(∀(c:Nat)(x:Str),g.cls[c]?=some x->∃C,pX aS base cl c x C)/\oh K base cl pg.up C
 lo:∀k,k<2->(pg.up 1).contains k=true
 pS:aS "ValueError"=none
structure km(xp:dq)(g:Den.Gt)(pg:Den.eX)(X:aU)(ct:Den.dy):Prop where
 cls:mA xp g pg X.K X.aS X.base
 pJ:X.stack=X.env::X.outer/\X.env.frame=some X.env.locals
 loc:∀x,Den.j2 ct.sc x=true->Loc X.env.scope x
 fn:∀x,X.fn x=true
 pass:PassesOwn (model X.prog X.w) X.A X.env X.b9
section
variable{xp:dq}{k:Nat}{g:Den.Gt}{pg:Den.eX}{Φ:Den.fo}
def Mt(h:Den.cc g ct v e (.ListComp x nj sc pos)=true):∃bq j s c t it ifs xs,e=.comp bq j s c/\nj=[⟨t,it,ifs,0⟩]/\Den.fl j t=some xs /\
  ((!Den.nU s||j==2)&&Den.r1 ct sc xs&&Den.hi g ct true s it&&Den.cc g ⟨Den.mask ct.N xs++xs,sc,ct.mu⟩ false bq x&&Den.oC g ⟨Den.mask ct.N xs++xs,sc,ct.mu⟩ c ifs)=true:=by
 cases e with
 |comp bq j s c =>
  rw[Den.cc]at h
  split at h
  .rename_i n6 t it ifs aaW e1;obtain⟨p,e2⟩:=Ki e1;cases e2
   split at h
   .rename_i xs aw;exact⟨bq,j,s,c,t,it,ifs,xs,rfl,rfl,aw,h⟩
   .cases h
  .cases h
 |_=>exact(acd h).elim
def MP(x):(∃y nj sc pos,x=.ListComp y nj sc pos)\/Den.wF x=true:=by
 cases x<;>first|exact .inr rfl|exact .inl ⟨_,_,_,_,rfl⟩
def Ll (aC : dp xp k g pg Φ X ct) (qz : ∀ x, Den.j2 ct.sc x = true -> Loc X.env.scope x) (oX : ∀ x, X.fn x = true) (h : (ct.N[i]? == some x && Den.j2 ct.sc x && Den.okN x && (!ct.mu.contains i || Den.kA e) && Den.cc g ct false e y) = true) :
    c9 X (.Assign [.Name x p] y pos) (c5 xp X ct.mu fun ρ => Den.ex pg Φ ρ (.asg i e)) := by
  simp only [aa6, abG, acI, abU] at h
  obtain ⟨⟨⟨⟨J, h2⟩, h3⟩, h4⟩, h5⟩ := h
  have aG : X.N.Nodup := by rw [aC.nm]; exact aC.c4
  have ai : X.N[i]? = some x := by rw [aC.nm]; exact J
  have ak := qz x h2
  have hf : X.fn x = true \/ X.env.scope.names.lookup x = some .local := .inl (oX x)
  rcases MP y with ⟨z, nj, sc, pos', rfl⟩ | ag
  · obtain ⟨bq, j, s, c, t, it, ifs, xs, rfl, rfl, aw, bZ⟩ := Mt h5
    obtain ⟨B, eR, gO, j1, qG, v8⟩ := Dm (pos := pos') (oq (xp := xp) (k := k) (pg := pg) (Φ := Φ) (sizeOf (Den.E.comp bq j s c))) aC (by simp only [Den.E.comp.sizeOf_spec]; lia) aw bZ
    have e1 : (fun ρ => Den.ex pg Φ ρ (.asg i (.comp bq j s c))) = fun ρ => (Den.hI pg Φ ρ s >>= fun ds => Den.l9 (Den.cY (jo j (fun ρ => Den.m9 pg Φ ρ c) (fun ρ => Den.ev pg Φ ρ bq) ρ) ds) >>= fun ys => .ok (.lst ys)) >>= fun d => .ok (.br (ρ.set i (some d))) := by
      funext ρ
      have := congrFun v8 ρ
      rw [Den.EK]
      rw [this]
    rw [e1]
    exact Wm aC.calm (by rw [aC.nm]; exact aC.mu) B aw eR gO j1 qG aG ai ak hf
  · have r := mb aC h5
    have ju := Ck (t := some (.Name x p)) (n := pos.line) (env := X.env) (hp h5) ag
    by_cases hm : i ∈ ct.mu
    · have nr : Den.kA e = true := by
        rcases h4 with h4 | h4
        · rw [abR.mpr hm] at h4; cases h4
        · exact h4
      exact IW hm aG ai ak (r.fresh nr) ju hf
    · exact IV hm aG ai ak r.val ju hf
def Dl(aC:dp xp k g pg Φ X ct)(qz:∀x,Den.j2 ct.sc x=true->Loc X.env.scope x)(oX:∀x,X.fn x=true){st:Stmt}(h:Den.u5 g ct i e st=true):
  c9 X st (c5 xp X ct.mu λρ=>Den.ex pg Φ ρ (.asg i e)):=by
 unfold Den.u5 at h
 split at h
 .rename_i t y e1;obtain⟨pos,rfl⟩:=pL e1
  split at h
  .rename_i x e2;obtain⟨p,rfl⟩:=fY e2;exact Ll aC qz oX h
  .cases h
 .cases h
def Dn{st:Stmt}(h:Den.u7 g ct i e nm st=true):∃x n ap y p1 dG p4,st=.Expr (.Call (.Attribute (.Name x p1) n ap) [y] [] dG) p4/\(ap.endLine==dG.line)=true/\ct.N[i]?=some x/\Den.jI ct.sc x=true/\Den.okN x=true/\i∈ct.mu/\n=nm/\Den.cc g ct false e y=true:=by
 unfold Den.u7 at h
 split at h
 .rename_i c e1;obtain⟨pos,rfl⟩:=JK e1
  split at h
  .rename_i x n ap y e2;obtain⟨p1,dG,rfl⟩:=Ke e2;simp only[aa6,abG]at h;obtain⟨⟨⟨⟨⟨⟨h0,J⟩,h2⟩,h3⟩,h4⟩,h5⟩,el⟩:=h;have h0:ap.endLine=dG.line:=h0;exact⟨x,n,ap,y,p1,dG,pos,rfl,by simpa using h0,J,h2,h3,abR.mp h4,h5,el⟩
  .cases h
 .cases h
def Yg(h:Den.Cp x=some y):∃p,x=.Raise (some y) none p:=by
 unfold Den.Cp at h
 split at h
 .cases h;exact⟨_,rfl⟩
 .cases h
def Yk(q:Den.JO x=some (a,h,e,f)):∃p,x=.Try a h e f p:=by
 cases x with
 |Try a h e f p=>cases q;exact⟨p,rfl⟩
 |_=>exact nn q
def Lw(aC:dp xp k g pg Φ X ct)(a6:km xp g pg X ct){st:Stmt}(h:Den.y8 g ct c st=true):c9 X st (c5 xp X ct.mu λρ=>Den.ex pg Φ ρ (.raise c)):=by
 unfold Den.y8 at h
 split at h
 .rename_i y e1;obtain⟨pos,rfl⟩:=Yg e1
  split at h
  .rename_i x a e2;obtain⟨np,dG,rfl⟩:=ka e2
   split at h
   .rename_i t e3;obtain⟨j,p,rfl⟩:=xA e3;simp only[aa6,abG]at h;obtain⟨⟨⟨rfl,J⟩,h2⟩,h3⟩:=h;obtain⟨cl,C,rfl,dB,O⟩:=a6.cls.ex;obtain⟨xP,uS⟩:=dB 1 x J;obtain rfl:xP=C:=abI (uS.at_.symm.trans O.at_);exact WS uS O aC.calm (aC.sJ h2) (fy h3).1
   .cases h
  .cases h
 .cases h
def Us:d0 X (binaryOp .Mult) (λx y H Q=>∃z,x=.str z/\y=.int 1/\Q (.str z) H):=by
 intro pins s σ H x y v u Q I bf bL ⟨z,ex,f9,q⟩;subst ex f9;obtain⟨t,rfl⟩:=bf;obtain⟨dZ,rfl⟩:=bL;refine P.mul_str ∅ (λ_ z=>nomatch z) (λ_ z=>nomatch z) ?_;exact⟨.str z,H,I,⟨_,rfl⟩,q⟩
def Vu(O:oh X.K X.base cl up C)(en:xU X g ct cl)(au:(bo,dK)∈X.cf)(dB:dK.cls=.ref C)(hd:dK.data=.fields af)(h2:af[2]?=some .none)(iA:X.A.handled=some (.ref bo))(nm:X.N=ct.N)(c4:X.N.Nodup)(lc:∀x,ct.sc.names.lookup x=some .local->X.env.scope.names.lookup x=some .local)(aF:X.N[j]?=some n)(az:X.env.scope.names.lookup n=some .local)(nx:Den.okN n=true)(h:Den.y5 g ct j i n ar k5 eI t1 dZ=true)(aE:Den.vW up ar k5 eI=true):
  i≠j/\i<X.N.length/\f3 X [t1,dZ] (JL j bo (.str Den.jc)):=by
 unfold Den.y5 at h
 split at h
 .rename_i dv l e1;obtain⟨p1,rfl⟩:=pL e1
  split at h
  .rename_i x e2;obtain⟨p2,rfl⟩:=fY e2
   split at h
   .rename_i zs e3;obtain⟨p3,rfl⟩:=Kj e3
    split at h
    .rename_i gE e4;obtain⟨p4,rfl⟩:=uw e4
     split at h
     .rename_i q v m6;obtain⟨aaP,rfl⟩:=Kf m6
      split at h
      .rename_i qp y oK;obtain⟨Ux,Uy,rfl⟩:=ka oK
       split at h
       .rename_i fB hu mm r2 e5;obtain rfl:=CF e5
        split at h
        .rename_i w so;obtain⟨p5,rfl⟩:=CK so
         split at h
         .rename_i f c lH;obtain⟨Uz,UA,rfl⟩:=ka lH;simp only[aa6,abG,bne_iff_ne,abl]at h;obtain⟨⟨⟨⟨⟨⟨⟨⟨⟨⟨⟨⟨⟨J,hl⟩,h3⟩,h4⟩,h5⟩,el⟩,gx⟩,rfl⟩,nk⟩,qs⟩,vF⟩,gw⟩,rfl⟩,Qe⟩:=h;obtain⟨UB,rfl⟩:=fY qs;unfold Den.Gn at gw
          split at gw
          case h_2=>cases gw
          rename_i LY vh;obtain⟨aaA,aaR,rfl⟩:=xA vh;obtain rfl:LY=Den.jc:=(by simpa using gw);have aI:e6 X.env.scope n:=.inl az;have AM:=lc x hl;rw[<- nm]at J;have s6:i<X.N.length:=(abt.mp J).1;obtain⟨bQ,bW,oD⟩:=fy h3;obtain⟨b1,b2⟩:=en.aP _ nk ∅;obtain⟨cX,eE⟩:=en.aP _ Qe ∅;have fA:=HM O en au dB aF aI nx h5;obtain⟨jC,m5⟩:=BB O en au dB aF aI nx el;obtain⟨t7,aaK⟩:=BB O en au dB aF aI nx gx;have cy:=Bz (pos:=UA) (p:=Uz) (Lg au iA hd h2) b1 b2 (show bootBuiltins "any"=some (.builtin "any") by kernel_rfl) (nS (gg (pos:=UB) J (.inl AM) bQ bW) pv) ∅ ∅ rfl rfl;have BY:=HP (pos:=Uy) (p:=Ux) Mg cX eE (show bootBuiltins "int"=some (.type "int") by kernel_rfl) (nS (Bx (pos:=r2) jC (Bx t7 (HW (HV (pos:=p5) cy)))) pv) ∅ ∅ rfl rfl;unfold Den.vW at aE;simp only[aa6]at aE;obtain⟨jS,lA,r3⟩:=aE;refine⟨h4,s6,λpins s σ H T I ⟨aM,a7⟩=>?_⟩;refine Ia (q4 c4 J (.inl AM) (HT fA) rfl (.inr AM)) (Ib (t4 (HX Us BC BY))) pins s σ H T I ?_;refine⟨aM,λbj s3=>⟨by rw[List.length_map];exact ab2 vF ∅,λp np=>?_⟩⟩;have RP:i<σ.length:=(by rw[I.len];exact s6);have g2:(σ.set i (some (V.ref p)))[j]?=some (some (V.ref bo)):=(by rw[ez h4];exact aM);have g3:(σ.set i (some (V.ref p)))[i]?=some (some (V.ref p)):=ug RP;have s4:=s3.trans (fU (o:=.lst (ar.map λk=>V.aP ((up 1).contains k))) np);refine⟨g2,λmE s5=>⟨_,rfl,?_⟩⟩;have a6:d1 X.K mE p ((ar.map λk=>(up 1).contains k).map V.aP):=d1.of (by rw[List.map_map];exact s5 _ _ dm);rw[jS,if_pos rfl];refine⟨g2,λji rb=>⟨_,rfl,?_⟩⟩;rw[lA,if_pos rfl];refine⟨_,g3,p,_,rfl,k7 rb a6,_,rfl,.inr ⟨_,rfl,_,rfl,?_,a7 ji ((s4.trans s5).trans rb)⟩⟩;rw[r3];rfl
         .cases h
        .cases h
       .cases h
      .cases h
     .cases h
    .cases h
   .cases h
  .cases h
 .cases h
def Mr(h:Den.y3 g ct di t=true):∃x np,t=.Name x np/\g.cls[di]?=some x/\Den.kB ct.sc x=true/\Den.okN x=true:=by
 unfold Den.y3 at h
 split at h
 .rename_i x e1;obtain⟨np,rfl⟩:=fY e1;simp only[aa6,abG]at h;exact⟨x,np,rfl,h.1.1,h.1.2,h.2⟩
 .cases h
def Lz(aC:dp xp k g pg Φ X ct)(a6:km xp g pg X ct){st:Stmt}(h:Den.zb g ct i e di bZ st=true):c9 X st (c5 xp X ct.mu λρ=>Den.ex pg Φ ρ (.pO i e di bZ)):=by
 unfold Den.zb at h
 split at h
 .rename_i a hd e3;obtain⟨pos,rfl⟩:=Yk e3;simp only[aa6,abl]at h;obtain⟨⟨h2,h3⟩,h4⟩:=h;obtain⟨cl,C,rfl,dB,O⟩:=a6.cls.ex;have aw:=a6.cls.lo di h3;have B:∀(cf:List (Addr×Obj))(E:Value->Shared->Prop),c9 (nC X cf E) a (c5 (ek.gu cl) (nC X cf E) ct.mu λρ=>Den.ex pg Φ ρ (.asg i e)):=λcf E=>Dl (X:=nC X cf E) ⟨aC.du,aC.room,aC.units,aC.calm,aC.nm,aC.c4,aC.mu,aC.lc,aC.r6,aC.gl⟩ a6.loc a6.fn h2
  have c4:X.N.Nodup:=(by rw[aC.nm];exact aC.c4);have i6:∀c,c≠1->Den.jq pg c di bZ=.bad:=λc ag=>by unfold Den.jq;rw[beq_false_of_ne ag];rfl
  cases aE:Den.vW pg.up bZ.ar bZ.k5 bZ.eI with
  |false=>exact I2 (bv:=Den.jc) a6.pJ B i6 (.inl (by unfold Den.jq;rw[aE,Bool.and_false,Bool.and_false];rfl))
  |true =>
   have aI:Den.jq pg 1 di bZ=.ok (.cP (.str Den.jc)):=(by unfold Den.jq;rw[aw,aE];rfl);obtain⟨t,nm,body,au⟩:=hd;unfold Den.DR at h4
   split at h4
   .rename_i t' e5;have e5:t=some t':=e5;subst e5;simp only[aa6]at h4;obtain⟨h5,el⟩:=h4;obtain⟨x,np,rfl,gx,cJ,nk⟩:=Mr h5;obtain⟨D,jk⟩:=dB di x gx;replace el:Den.y6 g ct bZ nm body=true:=el;unfold Den.y6 at el
    split at el
    .rename_i n;simp only[aa6,abG]at el;obtain⟨⟨⟨eS,d2⟩,tQ⟩,Bj⟩:=el
     split at Bj
     .rename_i t1 dZ;have az:=aC.lc n d2;rw[<- aC.nm]at eS;exact I2 a6.pJ B i6 (.inr ⟨aI,Qr O jk aw (aC.sJ cJ) (fy nk).1 c4 eS az λbo dK af cf aM a7 bU cO=>(Vu (X:=o5 X (.ref bo) cf) (g:=g) (ct:=ct) O ⟨λx q=>aC.sJ q,λx q hm=>aC.blt q hm,a6.cls.pS,dB⟩ cO aM a7 bU rfl aC.nm c4 aC.lc eS az tQ Bj aE).2.2⟩)
     .cases Bj
    .cases el
   .cases h4
 .cases h
theorem DS:∀{ts:List Nat}{xs:List Str},Den.qf ct ts xs=true->ts.length=xs.length/\(∀t∈ts,t∉ct.mu)/\∀(j i:Nat) y,ts[j]?=some i->xs[j]?=some y->ct.N[i]?=some y/\Den.j2 ct.sc y=true
 |[],[],_=>⟨rfl,by simp,λj i y e=>by simp at e⟩
 |[],_::_,h=>by unfold Den.qf at h;cases h
 |_::_,[],h=>by unfold Den.qf at h;cases h
 |t::ts,x::xs,h=>by
  unfold Den.qf at h;simp only[aa6,abG,abU]at h;obtain⟨⟨⟨⟨J,h2⟩,h3⟩,h4⟩,h5⟩:=h;obtain⟨aH,aX,eJ⟩:=DS h5;refine⟨by simp[aH],λz hz=>?_,λj i y e1 e2=>?_⟩
  .rcases aa9.mp hz with rfl|hz
   .intro w;rw[abR.mpr w]at h4;cases h4
   .exact aX z hz
  .cases j with
   |zero=>simp at e1 e2;subst e1 e2;exact⟨J,h2⟩
   |succ j=>exact eJ j i y (by simpa using e1) (by simpa using e2)
variable(xp k g pg Φ) in
structure fO (n:Nat):Prop where
 s:∀(s:Den.S)(st:Stmt)(ct:Den.dy)(X:aU),sizeOf s<n->dp xp k g pg Φ X ct->km xp g pg X ct->Den.lC g ct s st=true->c9 X st (c5 xp X ct.mu λρ=>Den.ex pg Φ ρ s)
 b:∀(b:Den.B)(st:List Stmt)(ct:Den.dy)(X:aU),sizeOf b<n->dp xp k g pg Φ X ct->km xp g pg X ct->Den.jT g ct b st=true->f3 X st (c5 xp X ct.mu λρ=>Den.eP pg Φ ρ b)
variable{n:Nat}
def Ln(aC:dp xp k g pg Φ X ct)(a6:km xp g pg X ct){st:Stmt}(h:Den.lB ct i st=true):c9 X st (c5 xp X ct.mu λρ=>Den.ex pg Φ ρ (.oG i)):=by
 unfold Den.lB at h
 split at h
 .rename_i t y e1;obtain⟨pos,rfl⟩:=pL e1
  split at h
  .rename_i x e2;obtain⟨p1,rfl⟩:=fY e2;simp only[aa6,abG]at h;obtain⟨⟨⟨⟨J,h2⟩,h3⟩,h4⟩,h5⟩:=h;obtain⟨kU,rfl⟩:=wd h5;exact Wx (abR.mp h4) (by rw[aC.nm];exact aC.c4) (by rw[aC.nm];exact J) (a6.loc x h2) (.inl (a6.fn x))
  .cases h
 .cases h
def Lp(aC:dp xp k g pg Φ X ct)(a6:km xp g pg X ct){st:Stmt}(h:Den.lB ct i st=true):c9 X st (c5 xp X ct.mu λρ=>Den.ex pg Φ ρ (.oI i)):=by
 unfold Den.lB at h
 split at h
 .rename_i t y e1;obtain⟨pos,rfl⟩:=pL e1
  split at h
  .rename_i x e2;obtain⟨p1,rfl⟩:=fY e2;simp only[aa6,abG]at h;obtain⟨⟨⟨⟨J,h2⟩,h3⟩,h4⟩,h5⟩:=h;obtain⟨kU,rfl⟩:=wd h5;exact Wz (abR.mp h4) (by rw[aC.nm];exact aC.c4) (by rw[aC.nm];exact J) (a6.loc x h2) (.inl (a6.fn x))
  .cases h
 .cases h
def Lq(aC:dp xp k g pg Φ X ct){st:Stmt}(h:Den.y4 g ct i j e st=true):c9 X st (c5 xp X ct.mu λρ=>Den.ex pg Φ ρ (.iy i j e)):=by
 unfold Den.y4 at h
 split at h
 .rename_i t v e1;obtain⟨pos,rfl⟩:=pL e1
  split at h
  .rename_i x y e2;obtain⟨p1,p2,p3,rfl⟩:=Kk e2;simp only[aa6]at h;obtain⟨⟨⟨J,h2⟩,h3⟩,h4⟩:=h;obtain⟨a1,a2,a3,a4⟩:=qW J;obtain⟨b1,b2,cX,eE⟩:=q3 h2;obtain⟨bQ,bW,_⟩:=fy a3;obtain⟨f1,f2,_⟩:=fy cX;exact WB aC.units a4 eE (by rw[aC.nm];exact a1) (aC.ha a2) bQ bW (by rw[aC.nm];exact b1) (aC.ha b2) f1 f2 (mb aC h4).val (Ck (hp h4) h3)
  .cases h
 .cases h
def Lo(aC:dp xp k g pg Φ X ct)(a6:km xp g pg X ct){st:Stmt}(h:Den.lB ct i st=true):c9 X st (c5 xp X ct.mu λρ=>Den.ex pg Φ ρ (.oH i)):=by
 unfold Den.lB at h
 split at h
 .rename_i t y e1;obtain⟨pos,rfl⟩:=pL e1
  split at h
  .rename_i x e2;obtain⟨p1,rfl⟩:=fY e2;simp only[aa6,abG]at h;obtain⟨⟨⟨⟨J,h2⟩,h3⟩,h4⟩,h5⟩:=h;obtain⟨kU,rfl⟩:=wd h5;exact Wy (abR.mp h4) (by rw[aC.nm];exact aC.c4) (by rw[aC.nm];exact J) (a6.loc x h2) (.inl (a6.fn x))
  .cases h
 .cases h
def Yo(h:Den.JP x=some (t,a,b)):∃p,x=.While t a b p:=by
 cases x with
 |While t a b p=>cases h;exact⟨p,rfl⟩
 |_=>exact nn h
def Ly(aC:dp xp k g pg Φ X ct){st:Stmt}(h:Den.za g ct i e st=true):c9 X st (c5 xp X ct.mu λρ=>Den.ex pg Φ ρ (.pG i e)):=by
 unfold Den.za at h
 split at h
 .rename_i t v e1;obtain⟨pos,rfl⟩:=pL e1
  split at h
  .rename_i x y e2;obtain⟨p3,rfl⟩:=xC e2
   split at h
   .rename_i b7 di e3 e4;obtain⟨p1,rfl⟩:=fY e3;obtain⟨c,p2,rfl⟩:=xA e4;simp only[aa6,abG]at h;obtain⟨⟨⟨h0,J⟩,h3⟩,h4⟩:=h;subst h0;obtain⟨a1,a2,a3,a4⟩:=qW J;obtain⟨bQ,bW,_⟩:=fy a3;exact WZ a4 (by rw[aC.nm];exact a1) (aC.ha a2) bQ bW (mb aC h4).val (Ck (hp h4) h3)
   .cases h
  .cases h
 .cases h
def Lu(aC:dp xp k g pg Φ X ct){st:Stmt}(h:Den.y7 ct i st=true):c9 X st (c5 xp X ct.mu λρ=>Den.ex pg Φ ρ (.pop i)):=by
 unfold Den.y7 at h
 split at h
 .rename_i c e1;obtain⟨p4,rfl⟩:=JK e1
  split at h
  .rename_i nd e2;obtain⟨dG,rfl⟩:=xy e2
   split at h
   .rename_i o b7 ap e3;obtain rfl:=CD e3
    split at h
    .rename_i x e4;obtain⟨p1,rfl⟩:=fY e4;simp only[aa6,abG]at h;obtain⟨⟨h0,J⟩,h2⟩:=h;obtain⟨a1,a2,a3,a4⟩:=qW h2;obtain⟨bQ,bW,_⟩:=fy a3;have J:ap.endLine=dG.line:=J;exact s_pop a4 h0 (by rw[aC.nm];exact a1) (aC.ha a2) bQ bW (by simpa using J)
    .cases h
   .cases h
  .cases h
 .cases h
def Lx(aC:dp xp k g pg Φ X ct){st:Stmt}(h:Den.y9 g ct i e st=true):c9 X st (c5 xp X ct.mu λρ=>Den.ex pg Φ ρ (.q9 i e)):=by
 unfold Den.y9 at h
 split at h
 .rename_i y e1;obtain⟨pos,rfl⟩:=uw e1;simp only[aa6]at h;have Qq:dp xp k g pg Φ X ⟨ct.N,ct.sc,ct.mu.filter λj=>!(j==i)⟩:={ aC with mu:=λj aF=>aC.mu j (abi.mp aF).1 };exact WW (abR.mp h.1) (mb Qq h.2).val
 .cases h
def XO(aD:fO xp k g pg Φ n)(s)(st)(ct)(X)(ae:sizeOf s<n+1)(aC:dp xp k g pg Φ X ct)(a6:km xp g pg X ct)(h:Den.lC g ct s st=true):c9 X st (c5 xp X ct.mu λρ=>Den.ex pg Φ ρ s):=by
 cases s with
 |asg i e=>exact Dl aC a6.loc a6.fn h
 |app i e =>
  obtain⟨x,n,ap,y,p1,dG,p4,rfl,J,h2,h3,h4,h5,el,gx⟩:=Dn (nm:="append") h;obtain⟨bQ,bW,oD⟩:=fy h4;exact Wl h5 el (by rw[aC.nm];exact h2) (aC.ha h3) bQ bW J (mb aC gx).val (iK (hp gx))
 |ret e =>
  rw[Den.lC]at h
  split at h
  .rename_i y e1;obtain⟨pos,rfl⟩:=uw e1;exact WT (mb aC h).val
  .cases h
 |pB i =>
  rw[Den.lC]at h
  split at h
  .rename_i y e1;obtain⟨pos,rfl⟩:=uw e1
   split at h
   .rename_i x e2;obtain⟨p1,rfl⟩:=fY e2;obtain⟨a1,a2,a3,a4⟩:=qW h;obtain⟨bQ,bW,_⟩:=fy a3;exact WV a4 (by rw[aC.nm];exact a1) (aC.ha a2) bQ bW
   .cases h
  .cases h
 |q8 i =>
  rw[Den.lC]at h
  split at h
  .rename_i y e1;obtain⟨pos,rfl⟩:=uw e1
   split at h
   .rename_i x e2;obtain⟨p1,rfl⟩:=fY e2;obtain⟨a1,a2,a3,a4⟩:=qW h;obtain⟨bQ,bW,_⟩:=fy a3;exact WU a4 (by rw[aC.nm];exact a1) (aC.ha a2) bQ bW
   .cases h
  .cases h
 |oG i=>exact Ln aC a6 h
 |oI i=>exact Lp aC a6 h
 |iy i j e=>exact Lq aC h
 |oH i=>exact Lo aC a6 h
 |pG i e=>exact Ly aC h
 |pop i=>exact Lu aC h
 |q9 i e=>exact Lx aC h
 |stop=>exact W4
 |raise c=>exact Lw aC a6 h
 |pO i e di bZ=>exact Lz aC a6 h
 |rt c b =>
  rw[Den.lC]at h
  split at h
  .rename_i t x e1;obtain⟨pos,rfl⟩:=Yo e1;simp only[aa6]at h;exact W7 a6.pass (mb aC h.1).pt (aD.b b x ct X (by simp at ae;lia) aC a6 h.2) 200
  .cases h
 |ext i e =>
  obtain⟨x,n,ap,y,p1,dG,p4,rfl,J,h2,h3,h4,h5,el,gx⟩:=Dn (nm:="extend") h;obtain⟨bQ,bW,oD⟩:=fy h4;exact WC h5 el (by rw[aC.nm];exact h2) (aC.ha h3) bQ bW J (mb aC gx).val (iK (hp gx))
 |iff c a b =>
  rw[Den.lC]at h
  split at h
  .rename_i t x y e1;obtain⟨pos,rfl⟩:=X9 e1;simp only[aa6]at h;have cy:=aD.b a x ct X (by simp at ae;lia) aC a6 h.1.2;have eD:=aD.b b y ct X (by simp at ae;lia) aC a6 h.2;exact WH (mb aC h.1.1).pt cy eD
  .cases h
 |fc j ts s b =>
  rw[Den.lC]at h
  split at h
  .rename_i t it x e1;obtain⟨pos,rfl⟩:=X5 e1
   split at h
   .rename_i xs aw;simp only[aa6]at h;obtain⟨⟨⟨⟨h0,J⟩,_⟩,h3⟩,h4⟩:=h;obtain⟨cR,b4,fk⟩:=DS J;have aG:X.N.Nodup:=(by rw[aC.nm];exact aC.c4);have AE:Den.nU s=true->∃elts j p,t=.Tuple elts j p:=λau=>by
     rw[au]at h0;have aF:j=2:=(by simpa using h0);subst aF;cases t with
     |Tuple elts j p=>exact⟨elts,j,p,rfl⟩
     |_=>simp only[Den.fl]at aw;cases aw
    have aQ:=H0 aC.calm aG aw cR λj i y e1 e2=>by
     obtain⟨bO,bE⟩:=fk j i y e1 e2;exact⟨by rw[aC.nm];exact bO,a6.loc y bE,.inl (a6.fn y)⟩
    obtain⟨eR,gO⟩:=(oq (xp:=xp) (k:=k) (g:=g) (pg:=pg) (Φ:=Φ) (sizeOf s+1)).i s it ct false X t (acN _) aC h3 AE;have eD:=aD.b b x ct X (by simp at ae;lia) aC a6 h4;exact WD a6.pass aC.calm b4 eR aQ eD (set_plain gO)
   .cases h
  .cases h
def XK(aD:fO xp k g pg Φ n)(b)(st)(ct)(X)(ae:sizeOf b<n+1)(aC:dp xp k g pg Φ X ct)(a6:km xp g pg X ct)(h:Den.jT g ct b st=true):f3 X st (c5 xp X ct.mu λρ=>Den.eP pg Φ ρ b):=by
 unfold Den.jT at h
 split at h
 .exact W2
 .rename_i s b x xs;simp only[aa6]at h;have aH:=aD.s s x ct X (by simp at ae;lia) aC a6 h.1;have aX:=aD.b b xs ct X (by simp at ae;lia) aC a6 h.2;exact WY aH aX
 .cases h
theorem x9:∀n,fO xp k g pg Φ n
 |0=>⟨λ_ _ _ _ h=>⋯,λ_ _ _ _ h=>⋯⟩
 |n+1=>⟨XO (x9 n),XK (x9 n)⟩
def Ui{st:List Stmt}(aC:dp xp k g pg Φ X ct)(a6:km xp g pg X ct)(h:Den.jT g ct b st=true):f3 X st (c5 xp X ct.mu λρ=>Den.eP pg Φ ρ b):=(x9 (sizeOf b+1)).b b st ct X (acN _) aC a6 h
end
def Jz{ds:List D}{i:Nat}{d:D}(h:(Den.start fd ds)[i]?=some (some d)):ds[i]?=some d/\i<ds.length:=by
 unfold Den.start at h
 by_cases ai:i<ds.length
 .rw[abo (by simpa using ai),abj]at h;refine⟨?_,ai⟩;cases e:ds[i]? with
  |none=>rw[e]at h;cases h
  |some a=>rw[e]at h;cases h;rfl
 .rw[abF (by simpa using ai),ac3]at h
  split at h<;>cases h
def XI{i:Nat}(h:af[i]?=some v):(bu.start N af)[i]?=some (some v):=by
 have ai:=(abt.mp h).1;unfold bu.start;rw[abo (by simpa using ai),abj,h];rfl
def Xz{K:W.Frag}(ae:bw G H)(dw:∀b xs,H b=some (.tup xs)->G b=some (.tup xs))(r:bA K G ds af)(az:N.length=fd.np+fd.nl)(ax:ds.length=fd.np)(hm:∀i∈mu,fd.np<=i):
  dP K mu G H G H (Den.start fd ds) (bu.start N af):=by
 have no:∀{i:Nat}{d:D},(Den.start fd ds)[i]?=some (some d)->i∈mu->False:=λh q=>by
  have:=(Jz h).2;have:=hm _ q;lia
 refine⟨⟨?_,ae,λi d h _=>?_,λi d h q=>(no h q).elim,λi d h q=>(no h q).elim,dw,λi j d e a b h _ _ _ q=>(no h q).elim⟩,Ext.refl ae,λi d a h _ q=>(no h q).elim⟩
 .unfold Den.start bu.start;rw[List.length_append,List.length_append,List.length_map,List.length_map,adi,adi,<- r.length];lia
 .obtain⟨v,J,h2⟩:=r.get (Jz h).1;exact⟨v,XI J,h2⟩
def uK(K:W.Frag)(aS:Str->Option Value)(g:Den.Gt)(fds:List Den.lu)(f:Nat)(x:Str):Prop :=
 ∃fd N st bC ng,fds[f]?=some fd/\Den.mW g N fd st=true/\aS x=some (.ref bC)/\bu.rE K x x st bC ng/\Binds K ng ((hG st).args.map (·.arg)) []
section
variable{P:Program}{w:World}{K:W.Frag}{aS:Str->Option Value}{base:Heap}{xp:dq}{g:Den.Gt}{pg:Den.eX}{fds:List Den.lu}
def DQ{st:Stmt}(h:Den.mW g N fd st=true):((hG st).args.map (·.arg)).length=fd.np/\xT N ((hG st).args.map (·.arg)) (hH st)/\N.length=fd.np+fd.nl/\(∀i∈Den.j6 fd.body,fd.np<=i/\i<N.length) /\
  Den.jT g ⟨N,hH st,Den.j6 fd.body⟩ fd.body (lF st)=true:=by
 unfold Den.mW at h
 split at h
 .rename_i name args body sc bind pos;simp only[aa6,abG,abU,abB,bne_iff_ne,ne_eq,abl]at h;obtain⟨⟨⟨⟨⟨⟨⟨⟨⟨⟨⟨⟨⟨⟨⟨J,h2⟩,h3⟩,h4⟩,h5⟩,el⟩,_⟩,_⟩,_⟩,_⟩,_⟩,_⟩,gx⟩,cJ⟩,nk⟩,qs⟩:=h;have ax:(args.args.map (·.arg)).length=fd.np:=(by rw[el,acL];lia);refine⟨ax,⟨J,h2,h3,h4,?_,λx ak=>?_,cJ⟩,h5,nk,qs⟩
  .show N.take (args.args.map (·.arg)).length=args.args.map (·.arg);rw[ax,el]
  .have ak:x∈args.args.map (·.arg):=ak;rw[el]at ak;have:=gx x ak;unfold Den.j2 at this;have this:sc.names.lookup x=some .local\/sc.names.lookup x=some .cell:=(by simpa using this);exact this
 .cases h
def E3(dB:mA xp g pg K aS base)(T:f5 P w K aS base xp n g pg (Den.run pg fds n)){st:Stmt}(e:fds[f]?=some fd)(cS:Den.mW g N fd st=true)(F:bu.rE K x x st bC ng):
  ki P w K aS base (jL P w xp) (n+1) bC ng ((hG st).args.map (·.arg)) (pI K (Den.run pg fds (n+1) f) ((hG st).args.map (·.arg)).length):=by
 obtain⟨ax,S,aG,ia,d3⟩:=DQ cS;have Rt:∀ds,Den.run pg fds (n+1) f ds=Den.cV pg (Den.run pg fds n) fd ds:=λds=>by rw[Den.ub,e]
 obtain⟨fS,bb,c3,doc,pm,an,dY,ct,fT,rfl,lk,lN⟩:=F.ex;refine PJ lk lN S (λaf H Q E h=>h.1) λA outer s H af Q E aV ⟨aI,G,ds,ae,dw,r,hw⟩=>?_
 have kI:ds.length=fd.np:=by rw[r.length,aI,ax]
 rw[Rt]at hw;unfold Den.cV at hw;rw[if_pos kI]at hw;refine⟨c5 xp (mY (jL P w xp) P w K aS base N x (hH st) bC dY A outer s H E) (Den.j6 fd.body) λρ=>Den.eP pg (Den.run pg fds n) ρ fd.body,?_,?_⟩
 .refine Ui (ct:=⟨N,hH st,Den.j6 fd.body⟩) (k:=n) (g:=g) (Φ:=Den.run pg fds n) ⟨T,aV,aV.units,rfl,rfl,S.c4,λi ai=>(ia i ai).2,λx h=>h,λx h=>h,λx h=>h⟩ ⟨dB,⟨rfl,rfl⟩,λx h=>?_,λ_=>rfl,PassesOwn.leaving⟩ d3;unfold Den.j2 at h;have h:(hH st).names.lookup x=some .local\/(hH st).names.lookup x=some .cell:=(by simpa using h);exact h
 .refine⟨G,H,G,Den.start fd ds,Xz ae dw r aG kI λi ai=>(ia i ai).1,?_⟩;show cq (Den.eP pg (Den.run pg fds n) (Den.start fd ds) fd.body) _ _;generalize Den.eP pg (Den.run pg fds n) (Den.start fd ds) fd.body=gE at hw ⊢;have hR:∀c:Nat,(∀ao,bw H ao->E (.int c 0) none ao)->eY xp (mY (jL P w xp) P w K aS base N x (hH st) bC dY A outer s H E) c H:=λc h1 pins σ ao s' e l I bX nw ak=>by
   obtain⟨cl,_,rfl,_⟩:=dB.ex;refine ek.leave (base:=base) (outer:=outer) I.ok.frames I.stack rfl ak λJ l1 vY Ax aw nA=>?_
   have cb:Inv _ pins σ ao { s' with heap:=J }:=Bo (t':=s'.toks) I nw aw nA;refine⟨c,ao,l1,I.os,I.bare,cb.base,cb.bz,bX,λa aA=>?_,vY,h1 ao bX⟩;have d2:hA (mY (jL P w (ek.gu cl)) P w K aS base N x (hH st) bC dY A outer s H E) pins ao a:=(Ax a aA).elim (nw a) λz=>.of I z (Br I.bz z)
   exact⟨d2.2.1.elim (λz=>nomatch z) id,d2.1⟩
  cases gE with
  |bad=>exact hw.elim
  |exc c=>exact hR c hw
  |ok eQ =>
   cases eQ with
   |br ρ=>exact λσ aL ao dM=>hw .dT aL ao dM.ext rfl
   |cP d=>exact λv aL ao ext rep=>hw v aL ao ext rep
def YT(dB:mA xp g pg K aS base)(T:f5 P w K aS base xp n g pg (Den.run pg fds n))(hd:∀f x,g.fns[f]?=some x->uK K aS g fds f x):f5 P w K aS base xp (n+1) g pg (Den.run pg fds (n+1)):=by
 refine⟨λf x ak=>?_,T.blt,T.sI⟩;obtain⟨fd,N,st,bC,ng,e,cS,hm,F,aa⟩:=hd f x ak;obtain⟨ax,_⟩:=DQ cS;exact⟨bC,ng,_,hm,F.gP,aa,E3 dB T e cS F,λds kI=>by rw[Den.ub,e];unfold Den.cV;exact if_neg (by rw[<- ax];exact kI)⟩
theorem JY(dB:mA xp g pg K aS base)(hd:∀f x,g.fns[f]?=some x->uK K aS g fds f x)(aa:∀x:Str,x∈rA->aS x=none)(aQ:∀(j:Nat)(x:Str)(d:D),g.sI[j]?=some x->pg.cs[j]?=some d->∃v u,aS x=some u/\RelV v u/\∀G,Rep K G d v):
  ∀n,f5 P w K aS base xp n g pg (Den.run pg fds n)
 |0=>⟨λf x ak=>by
   obtain⟨fd,N,st,bC,ng,e,cS,hm,F,aa⟩:=hd f x ak;exact⟨bC,ng,_,hm,F.gP,aa,⟨λaf H Q E h=>h.1,λA outer s H args us af Q E _ _ _ _ ⟨_,_,_,_,_,_,h⟩=>h.elim⟩,λ_ _=>rfl⟩,aa,aQ⟩
 |n+1=>YT dB (JY dB hd aa aQ n) hd
end
noncomputable def pU(Q:Nat->Str->Prop):Nat->List Str->Prop
 |_,[]=>True
 |n,x::xs=>Q n x/\pU Q (n+1) xs
theorem pU.get:∀{xs:List Str}{n f:Nat}{x:Str},pU Q n xs->xs[f]?=some x->Q (n+f) x
 |[],_,_,_,_,h=>by simp at h
 |y::xs,n,0,x,q,h=>by simp at h;subst h;exact q.1
 |y::xs,n,f+1,x,q,h=>by
  have:=pU.get (n:=n+1) (f:=f) q.2 (by simpa using h);rwa[Nat.add_right_comm,Nat.add_assoc]at this
def OP{us:List Value}(h:us.length=1):∃a,us=[a]:=adg.mp h
def OQ{us:List Value}(h:us.length=2):∃a b,us=[a,b]:=by
 match us,h with
 |[a,b],_=>exact⟨a,b,rfl⟩
def OR{us:List Value}(h:us.length=3):∃a b c,us=[a,b,c]:=by
 match us,h with
 |[a,b,c],_=>exact⟨a,b,c,rfl⟩
noncomputable def AllB(K:W.Frag):List Str->Prop
 |[]=>True
 |x::xs=>W.nsIn K mainGlobals x=some none/\AllB K xs
theorem AllB.get{K:W.Frag}(X:K.In h)(G:h.Ns mainGlobals aS):∀{xs:List Str},AllB K xs->∀x∈xs,aS x=none
 |[],_,x,ak=>by simp at ak
 |y::ys,q,x,ak=>by
  rcases aa9.mp ak with rfl|ak
  .exact PySem.W.mg_none_of X G q.1
  .exact AllB.get X G q.2 x ak
def uL(K:W.Frag)(x:Str)(st:Stmt):Prop :=
 ∃(f:Addr)(fS:Value)(bb:Option Addr)(c3 doc pm:Value)(an:Option Addr)(dY ct:Value)(fT:Array (Option Value)),W.nsIn K mainGlobals x=some (some (.ref f)) /\
  K.lookup f=some ⟨fS,bb,.func (W.fnOf x x (hG st) (lF st) (hH st) .none c3 doc pm an dY ct),fT⟩/\W.codeIn K dY x=true/\W.keepIn K (.ref f)=true
def NR{K:W.Frag}{st:Stmt}{c3 doc pm:Value}(a:W.nsIn K mainGlobals x=some (some (.ref f)))(l:K.lookup f=some ⟨fS,bb,.func (W.fnOf x x (hG st) (lF st) (hH st) .none c3 doc pm an dY ct),fT⟩)(c:W.codeIn K dY x=true)(k:W.keepIn K (.ref f)=true):uL K x st:=⟨f,fS,bb,c3,doc,pm,an,dY,ct,fT,a,l,c,k⟩
def dH{K:W.Frag}{st:Stmt}(X:K.In h)(G:h.Ns mainGlobals aS)(d:uL K x st)(hf:fds[j]?=some fd)(cS:Den.mW g N fd st=true)(aa:∀(c3 doc pm:Value)(an:Option Addr)(dY ct:Value)(us:List Value),us.length=((hG st).args.map (·.arg)).length->bindArgs (W.fnOf x x (hG st) (lF st) (hH st) .none c3 doc pm an dY ct) ⟨us,[]⟩=pure (((hG st).args.map (·.arg)).zip us)):uK K aS g fds j x:=by
 obtain⟨f,fS,bb,c3,doc,pm,an,dY,ct,fT,a,l,c,k⟩:=d;have F:=Fd l c k;exact⟨fd,N,st,f,_,hf,cS,ae0 X G a,F,F.binds aa⟩
theorem Iv{K:W.Frag}:∀ns:List Int,bA K G (ns.map Den.D.int) (ns.map V.int)
 |[]=>rfl
 |n::ns=>⟨.int n,ns.map V.int,rfl,rfl,Iv ns⟩
def XE{K:W.Frag}{ns:List Int}(a6:d1 K H a (ns.map V.int))(ay:eo [.lst (ns.map .int)]=.ok (.aP true)):pI K eo 1 [.ref a] H (λv _=>v=.aP true) λ_ _ _=>False:=by
 refine⟨rfl,H,[.lst (ns.map .int)],bw.refl H,λ_ _ z=>z,⟨.ref a,[],rfl,⟨a,_,rfl,a6,Iv ns⟩,rfl⟩,?_⟩;rw[ay];exact λv aL ao _ r=>r
def MY:jL P w xp outer H s (λ_ _ _=>False) e s'->False:=λ⟨_,_,_,_,_,_,_,_,_,_,h⟩=>h
noncomputable def kr(K:W.Frag)(g:Den.Gt)(c:Nat):Option Addr:=match g.cls[c]? with
 |some x=>(match W.nsIn K mainGlobals x with|some (some (.ref C))=>some C|_=>none)
 |none=>none
def Mv{K:W.Frag}(h:g.cls[c]?=some x)(e:W.nsIn K mainGlobals x=some (some (.ref C))):kr K g c=some C:=by
 unfold kr;rw[h];dsimp only;rw[e]
def mG(o:Obj)(C N:Addr)(bm:List Value)(newId:String):Prop:=∃(nm q:Str)(bs:List Value)(hdct:Bool)(sn:List Str)(sub:List Value)(ab:Bool)(col:Option Bool)(dd:Option Addr)(k0 k1 k2 k3 k5:Option Value),o=excClassObj nm q C N bs bm hdct sn sub ab col dd k0 k1 k2 k3 k5 newId
def oa(K:W.Frag)(x:Str)(C:Addr)(bm:List Value):Prop:=∃o N i,W.nsIn K mainGlobals x=some (some (.ref C))/\K.lookup C=some o/\mG o C N bm i/\bm.contains (.type "BaseException")=true
def xS(K:W.Frag)(x:Str)(C:Addr)(bm:List Value):Prop:=∃o N,W.nsIn K mainGlobals x=some (some (.ref C))/\K.lookup C=some o/\mG o C N bm "ValueError.__new__"/\PySem.W.nsOkIn K N=true/\W.nsIn K N "__init__"=some none/\PySem.W.tailIn K u3 bm=true/\ek.Plain K C bm
def uJ(K:W.Frag)(x0 aT cg iN pT kc:Str):Prop:=∃mv gm mw mx my mz mR b1 b2 cX eE hD,(oa K x0 mv mR/\xS K aT gm b1/\oa K cg mw b2/\oa K iN mx cX/\oa K pT my eE/\oa K kc mz hD) /\
 (Value.ref gm::b1).contains (.ref mv)=true/\(Value.ref gm::b1).contains (.ref mw)=false/\(Value.ref gm::b1).contains (.ref mx)=false/\(Value.ref gm::b1).contains (.ref my)=false/\(Value.ref gm::b1).contains (.ref mz)=false
def Mu{K:W.Frag}(a0:W.nsIn K mainGlobals x0=some (some (.ref mv)))(l0:K.lookup mv=some o0)(e0:mG o0 mv ZO mR tq)(h0:mR.contains (.type "BaseException")=true)(a1:W.nsIn K mainGlobals aT=some (some (.ref gm)))(l1:K.lookup gm=some hS)(e1:mG hS gm C3 b1 "ValueError.__new__")(a2:W.nsIn K mainGlobals cg=some (some (.ref mw)))(l2:K.lookup mw=some eC)(e2:mG eC mw ZP b2 gO)(h2:b2.contains (.type "BaseException")=true)(a3:W.nsIn K mainGlobals iN=some (some (.ref mx)))(l3:K.lookup mx=some wK)(e3:mG wK mx ZQ cX j1)(h3:cX.contains (.type "BaseException")=true)(a4:W.nsIn K mainGlobals pT=some (some (.ref my)))(l4:K.lookup my=some wL)(e4:mG wL my ZR eE qG)(h4:eE.contains (.type "BaseException")=true)(a5:W.nsIn K mainGlobals kc=some (some (.ref mz)))(l5:K.lookup mz=some wM)(e5:mG wM mz ZS hD v8)(h5:hD.contains (.type "BaseException")=true)(n:PySem.W.nsOkIn K C3=true)(i:W.nsIn K C3 "__init__"=some none)(t:PySem.W.tailIn K u3 b1=true)(p1:PySem.W.findIn K (.ref gm) "__class__"=some (some (.builtin "object.__class__")))(p2:PySem.W.findIn K (.ref gm) "__getattribute__"=some (some (.builtin "BaseException.__getattribute__")))(p3:PySem.W.findIn K (.ref gm) "__getattr__"=some none)(p4:b1.contains (.type "object")=true)(p5:b1.contains (.type "BaseException")=true)(m0:(Value.ref gm::b1).contains (.ref mv)=true)(m2:(Value.ref gm::b1).contains (.ref mw)=false)(m3:(Value.ref gm::b1).contains (.ref mx)=false)(m4:(Value.ref gm::b1).contains (.ref my)=false)(m5:(Value.ref gm::b1).contains (.ref mz)=false):uJ K x0 aT cg iN pT kc :=
 ⟨mv,gm,mw,mx,my,mz,mR,b1,b2,cX,eE,hD,⟨⟨_,_,_,a0,l0,e0,h0⟩,⟨_,_,a1,l1,e1,n,i,t,⟨p1,p2,p3,p4,p5⟩⟩,⟨_,_,_,a2,l2,e2,h2⟩,⟨_,_,_,a3,l3,e3,h3⟩,⟨_,_,_,a4,l4,e4,h4⟩,⟨_,_,_,a5,l5,e5,h5⟩⟩,m0,m2,m3,m4,m5⟩
section
variable{K:W.Frag}{h:Heap}{aS:Str->Option Value}{g:Den.Gt}{pg:Den.eX}{c:Nat}{x:Str}{C:Addr}{bm:List Value}
def q2(X:K.In h)(G:h.Ns mainGlobals aS)(aQ:g.cls[c]?=some x)(q:oa K x C bm):pX aS h (kr K g) c x C:=by
 obtain⟨o,N,i,a,l,⟨nm,q,bs,hdct,sn,sub,ab,col,dd,k0,k1,k2,k3,k5,rfl⟩,aa⟩:=q;exact⟨Mv aQ a,ae0 X G a,_,_,_,_,_,_,_,_,_,_,_,_,_,_,_,_,_,X _ _ l,aa⟩
def xS.s(q:xS K x C bm):oa K x C bm:=by
 obtain⟨o,N,a,l,e,n,i,t,P⟩:=q;exact⟨o,N,_,a,l,e,P.d3⟩
def Mx(X:K.In h)(G:h.Ns mainGlobals aS)(aQ:g.cls=[x0,aT,cg,iN,pT,kc])(aI:W.nsIn K mainGlobals "ValueError"=some none)(q:uJ K x0 aT cg iN pT kc)(bc:pg.up 1=[1,0,1000]):mA (ek.gu (kr K g)) g pg K aS h:=by
 obtain⟨mv,gm,mw,mx,my,mz,mR,b1,b2,cX,eE,hD,⟨q5,aM,a7,bU,cO,fK⟩,m0,m2,m3,m4,m5⟩:=q;have o0:=q2 (c:=0) X G (by rw[aQ];rfl) q5;have hS:=q2 (c:=1) X G (by rw[aQ];rfl) aM.s;have eC:=q2 (c:=2) X G (by rw[aQ];rfl) a7;have wK:=q2 (c:=3) X G (by rw[aQ];rfl) bU;have wL:=q2 (c:=4) X G (by rw[aQ];rfl) cO;have wM:=q2 (c:=5) X G (by rw[aQ];rfl) fK;refine⟨⟨_,gm,rfl,λc z e=>?_,hS.at_,by rw[bc];rfl,?_⟩,λk aw=>?_,PySem.W.mg_none_of X G aI⟩
 .rw[aQ]at e
  match c,e with
  |0,e=>cases e;exact⟨_,o0⟩
  |1,e=>cases e;exact⟨_,hS⟩
  |2,e=>cases e;exact⟨_,eC⟩
  |3,e=>cases e;exact⟨_,wK⟩
  |4,e=>cases e;exact⟨_,wL⟩
  |5,e=>cases e;exact⟨_,wM⟩
  |n+6,e=>cases e
 .obtain⟨o,N,a,l,⟨nm,q,bs,hdct,sn,sub,ab,col,dd,k0,k1,k2,k3,k5,rfl⟩,n,i,t,P⟩:=aM;refine⟨_,_,_,_,b1,N,nm,q,bs,hdct,sn,sub,ab,col,dd,k0,k1,k2,k3,k5,_,F.excBase_ValueError,rfl,X _ _ l,.of_isNs (PySem.W.isNs_of_in X n),PySem.W.nsMap_none_of_in X n i,PySem.W.tail_of_in X t,P,λk D e=>?_⟩;rw[bc]
  match k,e with
  |0,e=>cases o0.at_.symm.trans e;exact m0
  |1,e=>cases hS.at_.symm.trans e;simp
  |2,e=>cases eC.at_.symm.trans e;exact m2
  |3,e=>cases wK.at_.symm.trans e;exact m3
  |4,e=>cases wL.at_.symm.trans e;exact m4
  |5,e=>cases wM.at_.symm.trans e;exact m5
  |n+6,e=>unfold kr at e;rw[aQ]at e;cases e
 .rw[bc]
  match k,aw with
  |0,_=>rfl
  |1,_=>rfl
end
def SR{l:PySem.W.OpenLaw}{K:W.Frag}{st:Stmt}(X:K.In h)(G:h.Ns mainGlobals aS)(qx:aS "law"=some (.ref bC))(dl:uL K "law" st)(hf:fds[f]?=some fd)(cS:Den.mW g N fd st=true)(ak:(hG st).args.map (·.arg)=[x])(z9:∀(c3 doc pm:Value)(an:Option Addr)(dY ct:Value)(s:Shared)(u:Value),BindsTo s (W.fnOf "law" "law" (hG st) (lF st) (hH st) .none c3 doc pm an dY ct) ⟨[u],[]⟩ [(x,u)])(T:∀base:Heap,K.In base->base.Ns mainGlobals aS->mA xp g pg K aS base/\f5 l.prog w K aS base xp n g pg (Den.run pg fds n)):
  ∃fd:FuncData,(∀(s:Shared)(u:Value),BindsTo s fd ⟨[u],[]⟩ [(x,u)])/\∀base:Heap,K.In base->base.Ns mainGlobals aS->ki l.prog w K aS base (jL l.prog w xp) (n+1) bC fd [x] (pI K (Den.run pg fds (n+1) f) 1):=by
 obtain⟨nd,fS,bb,c3,doc,pm,an,dY,ct,fT,a,gA,c,k⟩:=dl;have e:=qx.symm.trans (ae0 X G a);cases e;refine⟨_,z9 c3 doc pm an dY ct,λbase o7 nb=>?_⟩;have F:=Fd gA c k;have:=E3 (T base o7 nb).1 (T base o7 nb).2 (f:=f) hf cS F;rw[ak]at this;exact this
def walk{l:PySem.W.OpenLaw}{dq:(Str->Option Value)->Heap->Prop}{K:Params->W.Frag}(az:l.most=some 63)(sV:d.params.defaults=[])(aV:n<=40)(ay:∀ns:List Int,Den.run pg fds n f [.lst (ns.map .int)]=.ok (.aP true))(gM:∀(w:World)(h:Heap),oo w h->(K w.params).In h)(F:∀(w:World)(aS:Str->Option Value)(bC:Addr)(h:Heap),(K w.params).In h->h.Ns mainGlobals aS->aS d.name=some (.ref bC) ->
   ∃fd:FuncData,(∀(s:Shared)(u:Value),BindsTo s fd ⟨[u],[]⟩ [(x,u)])/\∀base:Heap,(K w.params).In base->base.Ns mainGlobals aS->ki l.prog w (K w.params) aS base (jL l.prog w (ek.gu (kr (K w.params) g))) n bC fd [x] (pI (K w.params) (Den.run pg fds n f) 1)):
  PySem.W.WalkO q loose dq oo l.row.toRowW d [] (λf af=>PySem.call f af) :=
 bu.Zp (n:=63) (k:=n) (x:=x) (CX:=λw=>jL l.prog w (ek.gu (kr (K w.params) g))) (sp:=λw=>pI (K w.params) (Den.run pg fds n f) 1) az ∅ sV (gq.mono (⟨rfl,∅,∅⟩:gq 40 callerA) aV) gM F (λw H a ns _ _ a6=>XE a6 (ay ns)) λ_ _ _ _ _ z=>MY z
end bB
end
section
namespace C6
open Den bg es cH gT eZ
def dF(h:fds[f]?=some fd)(n)(ds):run pg fds (n+1) f ds=cV pg (run pg fds n) fd ds:=by rw[ub,h]
noncomputable abbrev cm(n:Nat):fo:=run pg fds n
def Cu(n)(c)(h:c.length<=1000):cm (n+1) 0 [aq c]=.ok (.lst ((bt c).map aq)):=(dF (f:=0) rfl n _).trans (Xo c h)
def YC(n)(c o):cm (n+1) 1 [aq c,aq o]=.ok (.aP (lies c o)):=(dF (f:=1) rfl n _).trans (S6 c o)
def YJ(n)(c)(os:List (List Int)):cm (n+2) 2 [aq c,.lst (os.map aq)]=.ok (.aP (os.any (lies c))):=(dF (f:=2) rfl _ _).trans (S7 (YC n) c os)
def YO(n)(cs)(az:∀c∈cs,c≠[])(h:(cT cs).length<=63):cm (n+3) 3 [.lst (cs.map aq)]=.ok (.tup ((d6 cs).map aq)):=(dF (f:=3) rfl _ _).trans (Zf (YJ n) az h)
def YP(n)(c)(h:c.length<=8):cm (n+1) 4 [aq c]=.ok (.lst ((ey c).map aq)):=(dF (f:=4) rfl n _).trans (Zt c h)
def Cw(aG:Good N):∀t∈N.2,t.length<=8:=λt ay=>by have:=oB (aG.dr.cell t ay);have:=aG.dr.ai;lia
def JR(n)(N)(aG:Good N):cm (n+2) 5 [a9 N.1 N.2]=.ok (.lst ((bT N.2).map aq)):=(dF (f:=5) rfl _ _).trans (OO (YP n) (Cw aG) aG.len (qk aG.dr.ai aG.dr.cell))
def Yt(n)(N)(aG:Good N)(k:Nat):cm (n+3) 6 [a9 N.1 N.2,.int ((k:Int)-1)]=.ok (.tup ((cl N.2 k).map aq)):=(dF (f:=6) rfl _ _).trans (MI k (JR n N aG))
def vr(aG:Good N)(hz:z∈bT N.2):z.length<=8:=by
 obtain⟨_,t,J,h2⟩:=i9.mp hz;have:=h2.length_le;have:=Cw aG t J;lia
def Vj(aG:Good N){p:ei}(f:eb N.2 p.1 p.2):iG N.2 p.1 p.2≠[]:=λe=>by
 obtain⟨a,J,h2,h3⟩:=IM f aG.dr.cell;obtain⟨b,aa,_⟩:=BH aG.dr f a h3;rw[e]at aa;cases aa
def GQ(aG:Good N){p:ei}(f:eb N.2 p.1 p.2):(lf (c8 N.2 p.1 p.2)).length<=63:=by
 have:=(HE f aG.dr.cell aG.dr.ai).ai;lia
def YI(n)(N)(aG:Good N)(p)(f:eb N.2 p.1 p.2):cm (n+4) 7 [.lst ((iG N.2 p.1 p.2).map aq)]=.ok (a9 (off N.2 p).1 (off N.2 p).2):=by
 obtain⟨e1,e2⟩:=Vi aG.dr f;have ee:=BI aG.dr f;have ay:=aG.dr.cell;have h7:=qk aG.dr.ai ay;have aV:(c8 N.2 p.1 p.2).length<=(bT N.2).length:=abJ _ _;have cJ:∀c∈iG N.2 p.1 p.2,c.length<=8:=λc ag=>vr aG (g5.mp (ee c ag)).1
 have ax:(iG N.2 p.1 p.2).length<=63+63:=by
  unfold iG;have l1:=abJ (λz=>!decide (z=p.2)) N.2;have l2:=abJ (λz=>!decide (z=p.1)) (bt p.2);have l3:(bt p.2).length<=p.2.length:=(by unfold bt;split<;>simp);have l4:=vr aG (f.bT ay).2;have l5:=aG.len;rw[List.length_append];lia
 have hd:(cT (nb (iG N.2 p.1 p.2))).length<=63:=by
  have:=hQ (nQ (nb (iG N.2 p.1 p.2))) (ys:=nb (c8 N.2 p.1 p.2)) λz hz=>by
   obtain⟨c,ag,e⟩:=List.mem_map.mp ((j4 _ _).mp hz);rw[e1]at e;exact List.mem_map.mpr ⟨c,ee c ag,e⟩
  have e3:(nb (c8 N.2 p.1 p.2)).length=(c8 N.2 p.1 p.2).length:=List.length_map _;lia
 have:=T4 (pg:=pg) (Φ:=cm (n+3)) (YO n) (Vj aG f) (λc ag=>(e7 ay (g5.mp (ee c ag)).1).2.1) cJ ax (by rw[e1];exact GQ aG f) hd;rw[e1,e2]at this;exact(dF (f:=7) rfl _ _).trans this
def Cq(n)(N)(aG:Good N):cm (n+3) 8 [a9 N.1 N.2]=.ok (.tup ((dg N.2).map ck)):=(dF (f:=8) rfl _ _).trans (vA aG.dr.cell aG.dr.ai (JR n N aG) (Cu (n+1)))
def YQ(n)(N)(p)(aG:Good N)(au:p∈dg N.2):cm (n+5) 9 [a9 N.1 N.2,ck p]=.ok (a9 (off N.2 p).1 (off N.2 p).2):=by
 have f:=(ph aG.dr.cell p).mp au;have cJ:=vr aG (f.bT aG.dr.cell).2;exact(dF (f:=9) rfl _ _).trans (Zu (Cu (n+3) p.2 ⋯) (YI n N aG p f) aG.len cJ)
def PS(aG:Good N)(au:p∈dg N.2)(aE:q∈dg N.2)(e:q.1=p.1):q=p:=by
 have f:=(ph aG.dr.cell p).mp au;have nd:=(ph aG.dr.cell q).mp aE;have ax:q.2.length=p.1.length+1:=by
  have:=((fV (hj aG.dr.cell nd.gj)).mp nd.bt).2.1;rw[<- e];lia
 have h:=f.one q.2 (by have:=nd.gj;rwa[ax]at this) (by have:=nd.bt;rwa[e]at this);exact Prod.ext e h
def YN(n)(N)(p)(aG:Good N)(au:p∈dg N.2):cm (n+6) 10 [a9 N.1 N.2,aq p.1]=.ok (a9 (off N.2 p).1 (off N.2 p).2):=(dF (f:=10) rfl _ _).trans (YS (Cq (n+2) N aG) (YQ n N p aG au) au λq aE e=>PS aG au aE e)
def YH(n)(N)(c)(aG:Good N)(ag:∀q∈dg N.2,q.1≠c):cm (n+6) 10 [a9 N.1 N.2,aq c]=.exc 1:=(dF (f:=10) rfl _ _).trans (YR (Cq (n+2) N aG) ag)
def JT(n)(N)(aG:Good N)(k:Nat):cm (n+4) 11 [a9 N.1 N.2,.int ((k:Int)-1)]=.ok (.bY (mk (cl N.2 k))):=(dF (f:=11) rfl _ _).trans (To k (Yt n N aG k) (r9 aG.dr.ai aG.dr.cell k))
def Yr(n)(U xs)(dS:U.Nodup)(ak:xs.Nodup)(h:∀x∈xs,x∈U):cm (n+1) 12 [.lst (xs.map aq),.bY (mk U)]=.ok (.int (c6 U xs:Int)):=(dF (f:=12) rfl _ _).trans (LU dS ak h)
def Ys(n)(U)(b:Nat)(dS:U.Nodup):cm (n+1) 13 [.int (b:Int),.bY (mk U)]=.ok (hX U b):=(dF (f:=13) rfl _ _).trans (Mp dS b)
def YK(n)(N)(aG:Good N)(k:Nat):cm (n+5) 14 [a9 N.1 N.2,.int (k:Int)]=.ok (.lst ((ef (eU N.2 (k+1))).map b5)):=(dF (f:=14) rfl _ _).trans (V1 k aG.dr.cell aG.dr.ai (JT n N aG) (Cu (n+3)) (Yr (n+3)))
def YM(n)(r q):cm (n+1) 15 [b5 r,b5 q]=.ok (b5 (r.1 ^^^ q.1,r.2 ^^^ q.2)):=(dF (f:=15) rfl _ _).trans (XW r q)
def Ct(n)(B)(r)(h:(B.map (·.1)).Nodup):cm (n+2) 16 [b5 r,.bH (df B)]=.ok (b5 (red B r)):=(dF (f:=16) rfl _ _).trans (VT (YM n) h r)
def YF(n k:Nat)(h:0<k):cm (n+1) 17 [.int (k:Int)]=.ok (.int ((2 ^ lo k:Nat):Int)):=(dF (f:=17) rfl _ _).trans (Tb k h)
def Cr(n)(B)(r)(h:dz B)(d3:B.length<900):cm (n+3) 18 [.bH (df B),b5 r]=.ok (.bH (df (grow B r))):=(dF (f:=18) rfl _ _).trans (Qb (Ct n) (YF (n+1)) h d3 r)
def Yq(n)(rs)(h:rs.length<=63):cm (n+4) 19 [.lst (rs.map b5)]=.ok (.bH (df (dI [] rs))):=(dF (f:=19) rfl _ _).trans (LM (Cr n) h)
def Yx(n)(rs)(h:rs.length<=63):cm (n+4) 20 [.lst (rs.map b5)]=.ok (.lst ((eB rs).2.map λb:Nat=>D.int (b:Int))):=(dF (f:=20) rfl _ _).trans (RW (Cr n) (Ct (n+1)) h)
def JV(n)(N)(k:Nat)(aG:Good N):∃G:List Nat,cm (n+6) 21 [a9 N.1 N.2,.int (k:Int)]=.ok (.tup (G.map (hX (cl N.2 (k+1)))))/\Told N.2 k G:=by
 have hm:cm (n+5) 11 [a9 N.1 N.2,.int (k:Int)]=.ok (.bY (mk (cl N.2 (k+1)))):=by
  have:=JT (n+1) N aG (k+1);rwa[show(((k+1:Nat):Int)-1)=(k:Int) by lia]at this
 obtain⟨ds,a,b⟩:=V9 (pg:=pg) (Φ:=cm (n+5)) k aG.dr.cell aG.dr.ai (Yx (n+1)) (YK n N aG) (Ct (n+3)) (Cr (n+2)) (Ys (n+4)) hm (Yq (n+1));exact⟨ds,(dF (f:=21) rfl _ _).trans a,b⟩
def Yw(n)(N)(aG:Good N):cm (n+7) 22 [a9 N.1 N.2]=.ok (.tup ((List.range (ai N.2)).map λk=>D.int (dE N.2 k:Int))):=(dF (f:=22) rfl _ _).trans (Ri (wD aG.dr) (Bl aG.dr) λk=>JV n N k aG)
def Yp(n)(is:List Int)(k:Nat):cm (n+1) 23 [.lst (is.map .int),.int (k:Int)]=.ok (.int (is.getD k 0)):=(dF (f:=23) rfl _ _).trans (Ml is k)
def YG(n)(is:List Int)(k:Nat):∃r:Int,0<=r/\r<og/\cm (n+2) 24 [.lst (is.map .int),.int (k:Int)]=.ok (.int r):=by
 obtain⟨r,a,b,e⟩:=Tz (pg:=pg) (Yp n is) k;exact⟨r,a,b,(dF (f:=24) rfl _ _).trans e⟩
def Yu(n)(i k):∃r:Int,0<=r/\r<og/\cm (n+1) 25 [.int i,.int k]=.ok (.int r):=by
 obtain⟨r,a,b,e⟩:=N1 (pg:=pg) (Φ:=cm n) i k;exact⟨r,a,b,(dF (f:=25) rfl _ _).trans e⟩
def JS(n)(c o):cm (n+1) 26 [aq c,aq o]=.ok (.aP (lies c o)):=(dF (f:=26) rfl n _).trans (SP c o)
def JW(n)(ts)(az:∀c∈ts,c≠[])(h:(cT ts).length<=63):cm (n+2) 27 [.lst (ts.map aq)]=.ok (.tup ((nK ts).map aq)):=(dF (f:=27) rfl _ _).trans (SU (JS n) rfl az h)
def JU(n s:Nat)(c)(ae:s<=8)(ag:c.length<=8):cm (n+9) 28 [aq c,.int (s:Int)]=.ok (.lst ((c7 s c).map aq)):=HO (fds:=fds) (f:=28) rfl s (n+9) c ⋯ ag
def YL(n)(i m)(J:1<=m)(cJ:m<=6):∃cs:List (List Int),cm (n+2) 29 [.int i,.int m]=.ok (.lst (cs.map aq))/\(∀c∈cs,IsCell m c)/\hF m cs=true/\cs.length<=16:=by
 obtain⟨cs,e,r⟩:=XA (pg:=pg) (Yu n) i m J cJ;exact⟨cs,(dF (f:=29) rfl _ _).trans e,r⟩
def YD(n)(i)(h0:0<=i):∃m ts,cm (n+10) 30 [.int i,.int 5]=.ok (a9 m ts)/\Net m ts/\m<=5/\ts.length<=20:=by
 obtain⟨m,ts,e,r⟩:=TR (pg:=pg) (Φ:=cm (n+9)) (JW (n+7)) (JU n) (YL (n+7)) i h0;exact⟨m,ts,(dF (f:=30) rfl _ _).trans e,r⟩
def Yz(n)(N)(aG:Good N)(h:Nat)(gx:h<=7):cm (n+10) 31 [a9 N.1 N.2,.int (h:Int)]=.ok (.lst ((cl N.2 (h+1)).map aq)):=by
 rw[<- DU];exact(dF (f:=31) rfl _ _).trans (SM (λc ag=>JU n (h+1) c ⋯ ag) (Cw aG) aG.len (by rw[DU];exact r9 aG.dr.ai aG.dr.cell _))
def Yv(n)(N)(aG:Good N):cm (n+1) 32 [a9 N.1 N.2]=.ok (.int (ai N.2:Int)):=(dF (f:=32) rfl _ _).trans (QK (wD aG.dr))
def Cs(n)(N)(aG:Good N):cm (n+11) 33 [a9 N.1 N.2]=.ok (.lst ((dC N.2).map aq)):=(dF (f:=33) rfl _ _).trans (SN aG.dr.cell aG.dr.ai (Bl aG.dr) (Yv (n+9) N aG) λk aw=>Yz n N aG k aw)
def YB(n)(N)(aG:Good N):cm (n+12) 35 [a9 N.1 N.2]=.ok (.tup ((dg N.2).map ck)):=(dF (f:=35) rfl _ _).trans (SO aG.dr.cell aG.dr.ai (JS (n+10)) (Cs n N aG))
def YE(n)(N)(p)(aG:Good N)(au:p∈dg N.2):cm (n+12) 36 [a9 N.1 N.2,ck p]=.ok (a9 (off N.2 p).1 (off N.2 p).2):=by
 have ay:=aG.dr.cell;have f:=(ph ay p).mp au;have hm:∀c,c∈(dC N.2).filter (λc=>!decide (c∈[p.1,p.2]))<->c∈c8 N.2 p.1 p.2:=λc=>by
  rw[abi,wy,g5];simp
 have ax:((dC N.2).filter λc=>!decide (c∈[p.1,p.2])).length<=63:=ab2 (abJ _ _) (A7 aG.dr.ai ay);refine(dF (f:=36) rfl _ _).trans (SS (Cs n N aG) ?_);generalize (dC N.2).filter (λc=>!decide (c∈[p.1,p.2]))=cs at hm ax;have e1:lf cs=lf (c8 N.2 p.1 p.2):=GP (λa aA=>(hm a).mp aA) λb aa=>⟨b,(hm b).mpr aa,λ_ h=>h⟩
 have e2:d6 (nb cs)=d6 (nb (c8 N.2 p.1 p.2)):=by
  unfold nb;rw[e1];refine Kc (λa aA=>?_) (λb aa=>?_) λb aa=>?_
  .obtain⟨c,ag,rfl⟩:=List.mem_map.mp aA;exact List.mem_map.mpr ⟨c,(hm c).mp ag,rfl⟩
  .obtain⟨c,ag,rfl⟩:=List.mem_map.mp aa;exact⟨_,List.mem_map.mpr ⟨c,(hm c).mpr ag,rfl⟩,λ_ h=>h⟩
  .obtain⟨c,ag,rfl⟩:=List.mem_map.mp aa;exact BX (ou _) (ra ay ag) λx ak=>j5.mpr ⟨c,ag,ak⟩
 have h6:∀c∈cs,c∈bT N.2:=λc ag=>(g5.mp ((hm c).mp ag)).1
 have:=SQ (pg:=pg) (Φ:=cm (n+10)) (JW (n+8)) (λc ag=>⟨(e7 ay (h6 c ag)).1,(e7 ay (h6 c ag)).2.1⟩) (λc ag=>vr aG (h6 c ag)) ax (by rw[e1];exact GQ aG f);rw[e1,e2]at this;exact(dF (f:=34) rfl _ _).trans this
def YA(n)(h)(ae)(ax:ae.length<100):cm (n+1) 37 [aq (h::ae)]=.ok (.lst ((k8 ((h-1)::ae)).map .int)):=(dF (f:=37) rfl _ _).trans (S1 ax)
def Yy(is:List Int):run pg fds 21 39 [.lst (is.map .int)]=.ok (.aP true) :=
 (dF (f:=39) rfl _ _).trans (SJ (YG 18 is) (YD 10) (YB 8) (YE 8) (Cq 17) (Cs 9) (Yw 13) (YA 19) (λN p aG au=>(dF (f:=38) rfl 19 _).trans (Y0 (YN 13 N p aG au))) (λN c aG ag=>(dF (f:=38) rfl 19 _).trans (YZ (YH 13 N c aG ag) λ_ _=>rfl)) λN aG n=>by
  obtain⟨G,_,b⟩:=JV 0 N n aG;exact b.sum.2)
end C6
end
section
set_option Elab.async false
namespace uO
open PySem PySem.Spec PyProof.Rows bu bB
noncomputable def cp:List Nat:=[1,10,11,12,13,14,15,17,18,19,20,22,23,24,25,26,27,28,29,30,31,33,34,36,37,38,39,40,41,42,43,44,45,46,47,48,49,50,51,52]
noncomputable def st(j:Nat):Stmt:=PySem.Challenge.pw_holeyard_k30_whole_taken_off.main.body.getD (cp.getD j 0) (.Pass ⟨0,0,0,0⟩)
def Ms:((List.range 40).all λj=>Den.mW eZ.gt (eZ.Ht.getD j []) (eZ.fds.getD j ⟨0,0,.nil⟩) (st j))=true:=by decide +kernel
def cS(j:Nat)(h:j<40):Den.mW eZ.gt (eZ.Ht.getD j []) (eZ.fds.getD j ⟨0,0,.nil⟩) (st j)=true:=abB.mp Ms j (List.mem_range.mpr h)
structure Txt(K:W.Frag):Prop where
 ds:pU (λj x=>uL K x (st j)) 0 eZ.gt.fns
 aP:AllB K rA
 pS:W.nsIn K mainGlobals "ValueError"=some none
 cl:uJ K "HoleError" "NotFree" "NoNet" "NoText" "NoRound" "NoRoom"
section
variable{K:W.Frag}{h:Heap}{aS:Str->Option Value}
theorem fns(X:K.In h)(G:h.Ns mainGlobals aS)(t:Txt K):pU (uK K aS eZ.gt eZ.fds) 0 eZ.gt.fns:=by
 obtain⟨jW,bQ,bW,oD,Nx,Ny,Nz,NA,NB,NC,MZ,M0,M1,M3,M4,M5,M6,M7,M8,M9,Na,Nb,Nc,Nd,Nf,Ng,Nh,Ni,Nj,Nk,Nl,Nm,Nn,Np,Nq,Nr,Nt,Nu,Nv,Nw,-⟩:=t.ds;refine⟨dH X G jW rfl (cS 0 ∅) ?_,dH X G bQ rfl (cS 1 ∅) ?_,dH X G bW rfl (cS 2 ∅) ?_,dH X G oD rfl (cS 3 ∅) ?_,dH X G Nx rfl (cS 4 ∅) ?_,dH X G Ny rfl (cS 5 ∅) ?_,dH X G Nz rfl (cS 6 ∅) ?_,dH X G NA rfl (cS 7 ∅) ?_,dH X G NB rfl (cS 8 ∅) ?_,dH X G NC rfl (cS 9 ∅) ?_,dH X G MZ rfl (cS 10 ∅) ?_,dH X G M0 rfl (cS 11 ∅) ?_,dH X G M1 rfl (cS 12 ∅) ?_,dH X G M3 rfl (cS 13 ∅) ?_,dH X G M4 rfl (cS 14 ∅) ?_,dH X G M5 rfl (cS 15 ∅) ?_,dH X G M6 rfl (cS 16 ∅) ?_,dH X G M7 rfl (cS 17 ∅) ?_,dH X G M8 rfl (cS 18 ∅) ?_,dH X G M9 rfl (cS 19 ∅) ?_,dH X G Na rfl (cS 20 ∅) ?_,dH X G Nb rfl (cS 21 ∅) ?_,dH X G Nc rfl (cS 22 ∅) ?_,dH X G Nd rfl (cS 23 ∅) ?_,dH X G Nf rfl (cS 24 ∅) ?_,dH X G Ng rfl (cS 25 ∅) ?_,dH X G Nh rfl (cS 26 ∅) ?_,dH X G Ni rfl (cS 27 ∅) ?_,dH X G Nj rfl (cS 28 ∅) ?_,dH X G Nk rfl (cS 29 ∅) ?_,dH X G Nl rfl (cS 30 ∅) ?_,dH X G Nm rfl (cS 31 ∅) ?_,dH X G Nn rfl (cS 32 ∅) ?_,dH X G Np rfl (cS 33 ∅) ?_,dH X G Nq rfl (cS 34 ∅) ?_,dH X G Nr rfl (cS 35 ∅) ?_,dH X G Nt rfl (cS 36 ∅) ?_,dH X G Nu rfl (cS 37 ∅) ?_,dH X G Nv rfl (cS 38 ∅) ?_,dH X G Nw rfl (cS 39 ∅) ?_,trivial⟩<;>intro _ _ _ _ _ _ us ax<;>first|(obtain⟨_,rfl⟩:=OP ax;rfl)|(obtain⟨_,_,rfl⟩:=OQ ax;rfl)|(obtain⟨_,_,_,rfl⟩:=OR ax;rfl)
def du{P:Program}{w:World}(X:K.In h)(G:h.Ns mainGlobals aS)(t:Txt K)(base:Heap)(o7:K.In base)(nb:base.Ns mainGlobals aS):mA (ek.gu (kr K eZ.gt)) eZ.gt eZ.pg K aS base/\f5 P w K aS base (ek.gu (kr K eZ.gt)) 20 eZ.gt eZ.pg (Den.run eZ.pg eZ.fds 20):=by
 have ag:mA (ek.gu (kr K eZ.gt)) eZ.gt eZ.pg K aS base:=Mx o7 nb rfl t.pS t.cl rfl;exact⟨ag,JY ag (λf x e=>by have:=(fns X G t).get e;rwa[acU]at this) (AllB.get X G t.aP) (λj x d e1 e2=>by cases e1) _⟩
end
end uO
noncomputable def PySem.W.Fast.tw1836227221669840580:=PySem.Challenge.pw_holeyard_k30_whole_taken_off
theorem PySem.W.Fast.te1836227221669840580:PySem.Challenge.pw_holeyard_k30_whole_taken_off=PySem.W.Fast.tw1836227221669840580:=rfl
namespace PySem.W.Fast
noncomputable def tw10021757280866960468:=()
noncomputable def tw10167496226073436952:=()
noncomputable def tw10306406726319719043:=()
noncomputable def tw10425442219558546802:=()
noncomputable def tw10467060204809075409:=()
noncomputable def tw10480298427527701169:=()
noncomputable def tw10526968980102647220:=()
noncomputable def tw10547336057511743950:=()
noncomputable def tw10578055853485739172:=()
noncomputable def tw11260229899519202013:=()
noncomputable def tw11279721921728247111:=()
noncomputable def tw11371503821768061409:=()
noncomputable def tw11926623333709161675:=()
noncomputable def tw12314568208616989589:=()
noncomputable def tw12674658814955923752:=()
noncomputable def tw12766172269467618962:=()
noncomputable def tw12871507751395525167:=()
noncomputable def tw128752052207109208:=()
noncomputable def tw1293715848083774725:=()
noncomputable def tw13200253688155612081:=()
noncomputable def tw13279683339908540296:=()
noncomputable def tw13410420845828010959:=()
noncomputable def tw13568701840689681209:=()
noncomputable def tw13663266318244432872:=()
noncomputable def tw13671702850126131267:=()
noncomputable def tw13819515947863549494:=()
noncomputable def tw13874825955766733525:=()
noncomputable def tw13879999483640407512:=()
noncomputable def tw14062411275898284286:=()
noncomputable def tw143866236177351064:=()
noncomputable def tw14439024326591573862:=()
noncomputable def tw14749748258922624095:=()
noncomputable def tw1479067870247805473:=()
noncomputable def tw14831526428784434465:=()
noncomputable def tw14956443810171961232:=()
noncomputable def tw15105434591923731023:=()
noncomputable def tw15270262994294561220:=()
noncomputable def tw15327547681374558767:=()
noncomputable def tw15343522371196851342:=()
noncomputable def tw15567174258043717903:=()
noncomputable def tw15715116510007139347:=()
noncomputable def tw15875713818453061284:=()
noncomputable def tw15970976159570439903:=()
noncomputable def tw16021043073177539105:=()
noncomputable def tw16497715379592626917:=()
noncomputable def tw1666085641376074672:=()
noncomputable def tw16719145091857244530:=()
noncomputable def tw167910231674292094:=()
noncomputable def tw16916706929434920590:=()
noncomputable def tw16934221585718679304:=()
noncomputable def tw16935901720348532877:=()
noncomputable def tw17248082443194073074:=()
noncomputable def tw17287448197475338588:=()
noncomputable def tw17311865355233383404:=()
noncomputable def tw17339750031146091171:=()
noncomputable def tw17364943479262082967:=()
noncomputable def tw1746599948958456979:=()
noncomputable def tw17965765319369714322:=()
noncomputable def tw17993676805809307992:=()
noncomputable def tw18036092125109584125:=()
noncomputable def tw18097883163087957566:=()
noncomputable def tw182920412080888388:=()
noncomputable def tw1862080773843188855:=()
noncomputable def tw1978460962388413621:=()
noncomputable def tw2013109978959559901:=()
noncomputable def tw2219036624716280629:=()
noncomputable def tw2594593548443544715:=()
noncomputable def tw2599154051898790354:=()
noncomputable def tw2728921568693063673:=()
noncomputable def tw2869926767840370839:=()
noncomputable def tw2876162377266887037:=()
noncomputable def tw3031625815018113367:=()
noncomputable def tw3056629781369807828:=()
noncomputable def tw3187873445335203943:=()
noncomputable def tw3267697359232578775:=()
noncomputable def tw3331250326288811593:=()
noncomputable def tw3340702344491140890:=()
noncomputable def tw3347773355193769499:=()
noncomputable def tw3406395804462752429:=()
noncomputable def tw3595840521777733402:=()
noncomputable def tw3689166008694027001:=()
noncomputable def tw404819015255814075:=()
noncomputable def tw4099472760792773229:=()
noncomputable def tw4241259047504721415:=()
noncomputable def tw4318486116544225886:=()
noncomputable def tw4363196445217455572:=()
noncomputable def tw4468757594258532600:=()
noncomputable def tw4602148824430946718:=()
noncomputable def tw4649218324981806234:=()
noncomputable def tw4677804174030753391:=()
noncomputable def tw4840540347054542322:=()
noncomputable def tw4871326347515784883:=()
noncomputable def tw5405995061257455403:=()
noncomputable def tw5441603981336471346:=()
noncomputable def tw5511789586076738861:=()
noncomputable def tw5672205174330722412:=()
noncomputable def tw570340790534697859:=()
noncomputable def tw5764489103321578809:=()
noncomputable def tw5808555195009951279:=()
noncomputable def tw5890643470686988854:=()
noncomputable def tw6005655418297670410:=()
noncomputable def tw6113046256632385279:=()
noncomputable def tw6132669512612690693:=()
noncomputable def tw6197970432913983730:=()
noncomputable def tw6253508370256039793:=()
noncomputable def tw6286809410002493232:=()
noncomputable def tw6763970285870217523:=()
noncomputable def tw679888676354616094:=()
noncomputable def tw6801564261260925158:=()
noncomputable def tw6870114734383296218:=()
noncomputable def tw7111267372671108419:=()
noncomputable def tw730598147747127288:=()
noncomputable def tw7383157539233309851:=()
noncomputable def tw7585824848419144403:=()
noncomputable def tw7754280187090450754:=()
noncomputable def tw789883343085651660:=()
noncomputable def tw8010308929146355783:=()
noncomputable def tw8052506194913776156:=()
noncomputable def tw8065326484829445287:=()
noncomputable def tw8322818616438388302:=()
noncomputable def tw8436329124469439071:=()
noncomputable def tw8555456782436948179:=()
noncomputable def tw8560463568248699365:=()
noncomputable def tw8628905231676770171:=()
noncomputable def tw8754089203689600844:=()
noncomputable def tw88501538012312966:=()
noncomputable def tw9071672882817892857:=()
noncomputable def tw910900671066133932:=()
noncomputable def tw9364957179760344244:=()
noncomputable def tw9422700596156297770:=()
noncomputable def tw9550462337444843392:=()
noncomputable def tw9632341158010376710:=()
noncomputable def tw9645390706437376089:=()
noncomputable def tw967489411207235889:=()
noncomputable def tw9698963955398263745:=()
noncomputable def tw983527129078107122:=()
noncomputable def tw9865774624305425092:=()
noncomputable def tw9873099316049606200:=()
noncomputable def tw9913290305307255799:=()
noncomputable def tw850948038093528872:=()
noncomputable def tw10683788276932279091:=()
noncomputable def tw5970116970657255581:=()
noncomputable def tw551797914775363210:=()
noncomputable def tw12479094618739828900:=()
noncomputable def tw2767897970234919364:=()
noncomputable def tw888438864611117734:=()
noncomputable def tw16993806288749698438:=()
noncomputable def tw2689579894508702568:=()
noncomputable def tw13297483795206802032:=()
noncomputable def tw7060876914501654329:=()
noncomputable def tw3173823293148094781:=()
noncomputable def tw8251667176531357275:=()
noncomputable def tw1542358674007234811:=()
noncomputable def tw18010355056930573215:=()
noncomputable def tw14037960463177086209:=()
noncomputable def tw15797647829526835117:=()
noncomputable def tw14379879401649837414:=()
noncomputable def tw15343208470950797647:=()
noncomputable def tw18283231159801587926:=()
noncomputable def tw10429317813448148942:=()
noncomputable def tw12685707229159259606:=()
noncomputable def tw6911229798130433871:=()
noncomputable def tw17690018371394282641:=()
noncomputable def tw18197231603742188569:=()
noncomputable def tw2257055302690960612:=()
noncomputable def tw12482827067998383515:=()
noncomputable def tw11024769132797924214:=()
noncomputable def tw6284534666142569309:=()
noncomputable def tw8607507244251035021:=()
noncomputable def tw9036590120947396402:=()
noncomputable def tw14861050184485843966:=()
noncomputable def tw15548961114689877388:=()
noncomputable def tw14045569872271685:=()
noncomputable def tw7996823476118986587:=()
noncomputable def tw16949198328282857752:=()
noncomputable def tw9157849447301270293:=()
noncomputable def tw2174370564170396613:=()
noncomputable def tw14284167861468694375:=()
noncomputable def tw17220857340976004208:=()
noncomputable def tw5985391355592002534:=()
noncomputable def tw2253644518351015861:=()
noncomputable def tw12959686768288436120:=()
noncomputable def tw10508043950445200907:=()
noncomputable def tw8910040108954472497:=()
noncomputable def tw15834329448223433708:=()
noncomputable def tw7880736380725384696:=()
noncomputable def tw9878091944463610508:=()
noncomputable def tw15514399214795285453:=()
noncomputable def tw16851881580813624152:=()
noncomputable def tw5444559161724105196:=()
noncomputable def tw13326354309932631997:=()
noncomputable def tw14031165301998694177:=()
noncomputable def tw11878983509313984900:=()
noncomputable def tw13834904560838711631:=()
noncomputable def tw12507192962870749091:=()
noncomputable def tw17918585714728917936:=()
noncomputable def tw16422434016211888221:=()
noncomputable def tw13256432686183918647:=()
noncomputable def tw9201865809863950781:=()
noncomputable def tw11219841981733332483:=()
end PySem.W.Fast
open PySem PySem.W PyProof.Rows
set_option maxRecDepth 100000 in
set_option maxHeartbeats 0 in
theorem PySem.Challenge.cw_holeyard_k30_whole_taken_off_holds : PySem.Challenge.rw_holeyard_k30_whole_taken_off.Holds := by
 w_on;o_law;k_head;(case hw=>w_witness2)
 k_fill
 refine bB.walk (g:=eZ.gt) (l:=PySem.Challenge.rw_holeyard_k30_whole_taken_off) (pg:=eZ.pg) (fds:=eZ.fds) (n:=21) (f:=39) (x:="_law_script") rfl rfl ∅ C6.Yy (λw h Y=>PySem.W.kIn_of Y) ?F
 case F =>
  intro w aS bC h iQ G s9;have cl:bB.uJ (bu.uQ iQ) "HoleError" "NotFree" "NoNet" "NoText" "NoRound" "NoRoom":=by
   dsimp only[bu.uQ];refine' bB.Mu ?a0 ?l0 ?e0 ?h0 ?a1 ?l1 ?e1 ?a2 ?l2 ?e2 ?h2 ?a3 ?l3 ?e3 ?h3 ?a4 ?l4 ?e4 ?h4 ?a5 ?l5 ?e5 ?h5 ?n ?i ?t ?p1 ?p2 ?p3 ?p4 ?p5 ?m0 ?m2 ?m3 ?m4 ?m5
   (case a0=>k_is);(case l0=>k_is);(case e0=>exact⟨_,_,_,_,_,_,_,_,_,_,_,_,_,_,rfl⟩);(case h0=>rfl);(case a1=>k_is);(case l1=>k_is);(case e1=>exact⟨_,_,_,_,_,_,_,_,_,_,_,_,_,_,rfl⟩);(case a2=>k_is);(case l2=>k_is);(case e2=>exact⟨_,_,_,_,_,_,_,_,_,_,_,_,_,_,rfl⟩);(case h2=>rfl);(case a3=>k_is);(case l3=>k_is);(case e3=>exact⟨_,_,_,_,_,_,_,_,_,_,_,_,_,_,rfl⟩);(case h3=>rfl);(case a4=>k_is);(case l4=>k_is);(case e4=>exact⟨_,_,_,_,_,_,_,_,_,_,_,_,_,_,rfl⟩);(case h4=>rfl);(case a5=>k_is);(case l5=>k_is);(case e5=>exact⟨_,_,_,_,_,_,_,_,_,_,_,_,_,_,rfl⟩);(case h5=>rfl);(case n=>kernel_rfl);(case i=>k_is);(case t=>kernel_rfl);(case p1=>k_is);(case p2=>k_is);(case p3=>k_is);(case p4=>rfl);(case p5=>rfl);(case m0=>rfl);(case m2=>rfl);(case m3=>rfl);(case m4=>rfl);(case m5=>rfl)
  have t:uO.Txt (bu.uQ iQ):=by
   refine⟨⟨?_,?_,?_,?_,?_,?_,?_,?_,?_,?_,?_,?_,?_,?_,?_,?_,?_,?_,?_,?_,?_,?_,?_,?_,?_,?_,?_,?_,?_,?_,?_,?_,?_,?_,?_,?_,?_,?_,?_,?_,trivial⟩,⟨?_,?_,?_,?_,?_,?_,?_,?_,?_,?_,?_,?_,?_,?_,trivial⟩,?_,cl⟩<;>dsimp only[bu.uQ]<;>first|(refine' bB.NR ?a ?l ?c ?k;(case a=>k_is);(case l=>k_is);(case c=>k_is);(case k=>k_is))|k_is
  exact bB.SR iQ G s9 (t.ds.get (f:=39) rfl) rfl (uO.cS 39 ∅) rfl (λ_ _ _ _ _ _ s u=>.of_eq rfl) (uO.du iQ G t)
end
end
