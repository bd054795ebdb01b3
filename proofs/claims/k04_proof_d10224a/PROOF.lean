import PyProof.Rows.All
import Wide.All
import OpenK.AllK
import Wide.FinOn
import Lean
import PyProof.EqAt
import PyProof.EqKinds
import PyProof.TupleCall
import PySem.Value
import PySem.Sem
import PySem.SetTable
import PyProof.TupleKey
import PyProof.SetKind
import PyProof.DictKinds
import PyProof.IsRules
import PyProof.CompMap
import PyProof.Rows.SetFrom
import PyProof.WalksMore
import PyProof.FactsAll.subtypes_4
import PyProof.FactsAll.set
import PyProof.Seq
import PyProof.Walks
import PyProof.CollectStr
import PyProof.ListRange
import PyProof.Rows.SortShell
import KE.KSortAsk
import KE.KSortTup
import PyProof.ZipIter
import PyProof.TupleIter
import PyProof.StationsW
import PyProof.RulesAs
import PyProof.ExcClass3
import PyProof.IsInstance
import OpenK.KMore
import PyProof.EnumMake
import PyProof.EnumFor
import PyProof.EnumStmt
import PyProof.ExcBaseAll.ValueError
import PySem.Challenge.RW_holeyard_k04_cells_of_nets
section
set_option Elab.async false
set_option linter.all false
set_option maxRecDepth 100000
namespace L2
open PySem PySem.Spec PyProof.Rows
abbrev Key:=Sum Int Str
def keyIs:Key->Value->Bool
 | .inl k,v=>Value.isInt k v
 | .inr x,v=>Value.isStrOf x v
def keyH (w:World):Key->Int
 | .inl k=>hashInt k
 | .inr x=>hashStr w x
theorem keyIs_shape:∀ {k:Key} {v:Value},keyIs k v=true->(∃ i t,k=Sum.inl i/\v=Value.int i t)\/(∃ x t,k=Sum.inr x/\v=Value.str x t)
 | .inl i,v,h=>by
  obtain ⟨t,e⟩:=Value.isInt_shape (k:=i) (v:=v) h
  exact .inl ⟨i,t,rfl,e⟩
 | .inr x,v,h=>by
  obtain ⟨t,e⟩:=Value.isStrOf_shape (x:=x) (v:=v) h
  exact .inr ⟨x,t,rfl,e⟩
theorem key_ll (a b:Int):decide ((Sum.inl a:Key)=Sum.inl b)=(a==b):=by
 by_cases e:a=b
 ·subst e;simp
 ·have h:¬ (Sum.inl a:Key)=Sum.inl b:=fun q=>e (Sum.inl.inj q)
  rw [decide_eq_false h]
  exact (beq_eq_false_iff_ne.mpr e).symm
theorem key_rr (a b:Str):decide ((Sum.inr a:Key)=Sum.inr b)=decide (a=b):=by
 by_cases e:a=b
 ·subst e;simp
 ·have h:¬ (Sum.inr a:Key)=Sum.inr b:=fun q=>e (Sum.inr.inj q)
  rw [decide_eq_false h,decide_eq_false e]
theorem key_lr (a:Int) (b:Str):decide ((Sum.inl a:Key)=Sum.inr b)=false:=decide_eq_false (fun q=>nomatch q)
theorem key_rl (a:Str) (b:Int):decide ((Sum.inr a:Key)=Sum.inl b)=false:=decide_eq_false (fun q=>nomatch q)
def mixKind (prog:Program) (w:World):PySem.KeyKind prog w Key where
 is:=keyIs
 hash:=keyH w
 inj:=fun v a b ha hb=>by
  rcases keyIs_shape ha with ⟨i,t,rfl,rfl⟩ | ⟨x,t,rfl,rfl⟩
  ·rcases keyIs_shape hb with ⟨j,u,rfl,e⟩ | ⟨y,u,rfl,e⟩
   ·injection e with e1 _;rw [e1]
   ·exact nomatch e
  ·rcases keyIs_shape hb with ⟨j,u,rfl,e⟩ | ⟨y,u,rfl,e⟩
   ·exact nomatch e
   ·injection e with e1 _;rw [e1]
 byValue:=fun k v h=>by
  rcases keyIs_shape h with ⟨i,t,rfl,rfl⟩ | ⟨x,t,rfl,rfl⟩ <;> rfl
 pyHash:=fun hv h=>by
  rcases keyIs_shape hv with ⟨i,t,rfl,rfl⟩ | ⟨x,t,rfl,rfl⟩
  ·exact wpAny_pyHash_int h
  ·exact wpAny_pyHash_str h
 eqBool:=fun hu hv h=>by
  rcases keyIs_shape hu with ⟨i,t,rfl,rfl⟩ | ⟨x,t,rfl,rfl⟩
  ·rcases keyIs_shape hv with ⟨j,u,rfl,rfl⟩ | ⟨y,u,rfl,rfl⟩
   ·rw [key_ll] at h;exact wpAny_eqBool_int h
   ·rw [key_lr] at h;exact SeqAt.EqAt.int_str i t y u _ _ _ _ h
  ·rcases keyIs_shape hv with ⟨j,u,rfl,rfl⟩ | ⟨y,u,rfl,rfl⟩
   ·rw [key_rl] at h;exact SeqAt.EqAt.str_int x t j u _ _ _ _ h
   ·rw [key_rr] at h;exact wpAny_eqBool_str h
 «strs»:=fun k x t v h=>by
  rcases keyIs_shape h with ⟨i,u,rfl,e⟩ | ⟨y,u,rfl,e⟩
  ·exact nomatch e
  ·injection e with e1 _
   subst e1
   cases v <;> rfl
end L2
namespace L2
open PySem PySem.Spec PyProof.Rows
inductive V where
 | non | bl (b:Bool) | int (i:Int) | str (x:Str) | byt (b:Array UInt8) | flt (b:UInt64) | ref (a:Addr) | ty (n:String)
 deriving DecidableEq
def RelV:V->Value->Prop
 | .non,u=>u=Value.none
 | .bl b,u=>u=Value.bool b
 | .int i,u=>∃ t,u=Value.int i t
 | .str x,u=>∃ t,u=Value.str x t
 | .byt b,u=>∃ t,u=Value.bytes b t
 | .flt b,u=>∃ t,u=Value.float b t
 | .ref a,u=>u=Value.ref a
 | .ty n,u=>u=Value.type n
abbrev Vals:List V->List Value->Prop:=Paired RelV
theorem Vals.length {xs:List V} {us:List Value} (r:Vals xs us):xs.length=us.length:=Paired.length r
theorem Vals.get:∀ {xs:List V} {us:List Value} {i:Nat} {x:V},Vals xs us->xs[i]?=some x->∃ u,us[i]?=some u/\RelV x u
 | _,_,_,_,.nil,e=>by simp at e
 | _,_,0,_,.cons r _,e=>by simp at e;subst e;exact ⟨_,rfl,r⟩
 | _,_,i+1,x,.cons _ t,e=>by
  obtain ⟨u,h1,h2⟩:=Vals.get (i:=i) (x:=x) t (by simpa using e)
  exact ⟨u,by simpa using h1,h2⟩
theorem Vals.append:∀ {xs ys:List V} {us ws:List Value},Vals xs us->Vals ys ws->Vals (xs++ys) (us++ws)
 | _,_,_,_,.nil,s=>s
 | _,_,_,_,.cons r t,s=>.cons r (Vals.append t s)
theorem Vals.take:∀ {xs:List V} {us:List Value} (n:Nat),Vals xs us->Vals (xs.take n) (us.take n)
 | _,_,0,_=>.nil
 | _,_,_+1,.nil=>.nil
 | _,_,n+1,.cons r t=>.cons r (Vals.take n t)
theorem Vals.drop:∀ {xs:List V} {us:List Value} (n:Nat),Vals xs us->Vals (xs.drop n) (us.drop n)
 | _,_,0,r=>r
 | _,_,_+1,.nil=>.nil
 | _,_,n+1,.cons _ t=>Vals.drop n t
theorem Vals.none_of:∀ {xs:List V} {us:List Value} {i:Nat},Vals xs us->xs[i]?=none->us[i]?=none:=fun {xs us i} r e=>by
 have h1:=r.length
 have h2:xs.length<=i:=List.getElem?_eq_none_iff.mp e
 exact List.getElem?_eq_none_iff.mpr (by omega)
def RelO:Option V->Option Value->Prop
 | some v,some u=>RelV v u
 | none,none=>True
 | _,_=>False
def KV {κ:Type}:List (κ×V)->List (κ×Value)->Prop:=Paired fun (p:κ×V) (q:κ×Value)=>p.1=q.1/\RelV p.2 q.2
def kV:Key->V
 | .inl i=>.int i
 | .inr x=>.str x
inductive HO where
  | lst (xs:List V)
  | tup (xs:List V)
  | dK (kvs:List (Key×V)) | dT (kvs:List (List Key×V))
  | set (S:Int->Bool) (n:Nat)
  | ins (C dx:Addr) (fs:List (Str×V))
  | own (x:Addr)
  | xd (fs:List (Str×V))
  | met (f x:Addr)
  | rng (lo hi:Int)
  | frz (o:Obj) (u:HO)
  | tbl (ps:Array Value)
  | ext (φ:Heap->Prop)
abbrev Hp:=Addr->Option HO
def upd (H:Hp) (a:Addr) (o:HO):Hp:=fun b=>if b=a then some o else H b
theorem upd_same {H:Hp} {a:Addr} {o:HO}:upd H a o a=some o:=by unfold upd;rw [if_pos rfl]
theorem upd_ne {H:Hp} {a b:Addr} {o:HO} (h:b≠a):upd H a o b=H b:=by unfold upd;rw [if_neg h]
theorem ne_of_none {H:Hp} {a b:Addr} {o:HO} (h:H a=some o) (h':H b=none):a≠b:=by
 intro e;subst e;rw [h] at h';cases h'
section
variable (P:Program) (w:World)
def ObjOk (H:Hp) (h:Heap) (a:Addr):HO->Prop
 | .lst xs=>xs.length<=sizeLine/\∃ (its:List Value) (n:Nat),Vals xs its/\h.get? a=some { cls:=.type "list",data:=.seq its.toArray n }
 | .tup xs=>xs.length<=sizeLine/\∃ its:List Value,Vals xs its/\IsTup h a its.toArray
 | .dK kvs=>kvs.length<=sizeLine/\(a==sysModules)=false/\∃ vs,KV kvs vs/\h.DictOf (mixKind P w) a vs
 | .dT kvs=>kvs.length<=sizeLine/\(a==sysModules)=false/\∃ xs:List (List Key×Addr×Value),
   Paired (fun (p:List Key×V) (q:List Key×Addr×Value)=>p.1=q.1/\H q.2.1=some (.tup (p.1.map kV))/\RelV p.2 q.2.2) kvs xs /\
   ∃ o es ep,h.get? a=some o/\o.ExactDict/\o.data=.dict es ep/\es.toList=xs.map (entryOfKey (tupleKind (mixKind P w)))/\(xs.map (·.1)).Nodup
 | .set S n=>h.SetOf (intKind P w) a S n
 | .ins C dx fs=>H dx=some (.own a)/\fs.length<=1000/\dx≠a/\h.get? a=some (PySem.W.instObj C dx) /\
   ∃ mA,h.Ns1 dx mA/\(∀ f,RelO (fs.lookup f) (mA f))/\PySem.Within mA (fs.map (·.1))
 | .own _=>∃ o,h.get? a=some o
 | .xd fs=>∃ mA,h.Ns1 a mA/\∀ f,RelO (fs.lookup f) (mA f)
 | .rng lo hi=>∃ t u v,h.get? a=some { cls:=.type "range",data:=.fields #[.int lo t,.int hi u,.int 1 v] }
 | .frz o u=>h.get? a=some o/\ObjOk H h a u
 | .tbl ps=>h.get? a=some { cls:=.none,data:=.fields ps }
 | .met f x=>h.get? a=some (PySem.W.methodObj (.ref f) (.ref x))
 | .ext φ=>φ h/\(∃ o,h.get? a=some o)/\∀ h1 h2:Heap,φ h1->(∀ o,h1.get? a=some o->h2.get? a=some o)->φ h2
def HOk (H:Hp) (h:Heap):Prop:=∀ a o,H a=some o->ObjOk P w H h a o
end
section
variable {P:Program} {w:World} {H H':Hp} {h h':Heap} {a:Addr} {o:HO}
theorem ObjOk.lt (x:ObjOk P w H h a o):a < h.objs.size:=by
 cases o with
 | lst xs=>obtain ⟨_,_,_,_,e⟩:=x;exact Heap.lt_size e
 | tup xs=>obtain ⟨_,_,_,p⟩:=x;exact p.lt
 | dK kvs=>obtain ⟨_,_,_,_,o,_,_,e,_⟩:=x;exact Heap.lt_size e
 | dT kvs=>obtain ⟨_,_,_,_,o,_,_,e,_⟩:=x;exact Heap.lt_size e
 | set S n=>obtain ⟨o,_,_,_,e,_⟩:=x;exact Heap.lt_size e
 | ins C dx fs=>obtain ⟨_,_,_,e,_⟩:=x;exact Heap.lt_size e
 | own y=>obtain ⟨_,e⟩:=x;exact Heap.lt_size e
 | xd fs=>obtain ⟨_,⟨_,_,_,e,_⟩,_⟩:=x;exact Heap.lt_size e
 | rng lo hi=>obtain ⟨_,_,_,e⟩:=x;exact Heap.lt_size e
 | frz ob u=>obtain ⟨e,_⟩:=x;exact Heap.lt_size e
 | tbl ps=>exact Heap.lt_size (show h.get? a=some _ from x)
 | met f y=>exact Heap.lt_size (show h.get? a=some _ from x)
 | ext φ=>obtain ⟨_,⟨_,e⟩,_⟩:=x;exact Heap.lt_size e
theorem Paired.mapP {α β:Type} {F G:α->β->Prop}:∀ {l₁:List α} {l₂:List β},Paired F l₁ l₂->(∀ a b,F a b->G a b)->Paired G l₁ l₂
 | _,_,.nil,_=>.nil
 | _,_,.cons r t,f=>.cons (f _ _ r) (Paired.mapP t f)
theorem ObjOk.stay (x:ObjOk P w H h a o) (k:∀ b u,(b=a\/H b=some (.own a))->h.get? b=some u->h'.get? b=some u)
  (ho:∀ b,H b=some (.own a)->H' b=some (.own a)) (ht:∀ b xs,H b=some (.tup xs)->H' b=some (.tup xs)):ObjOk P w H' h' a o:=by
 induction o with
 | lst xs=>obtain ⟨z,its,n,r,e⟩:=x;exact ⟨z,its,n,r,k _ _ (.inl rfl) e⟩
 | tup xs=>obtain ⟨z,its,r,ob,e,c⟩:=x;exact ⟨z,its,r,ob,k _ _ (.inl rfl) e,c⟩
 | dK kvs=>obtain ⟨z,y,vs,r,ob,es,ep,e,c⟩:=x;exact ⟨z,y,vs,r,ob,es,ep,k _ _ (.inl rfl) e,c⟩
 | dT kvs =>
  obtain ⟨z,y,xs,r,ob,es,ep,e,c⟩:=x
  exact ⟨z,y,xs,Paired.mapP r fun p q z=>⟨z.1,ht _ _ z.2.1,z.2.2⟩,ob,es,ep,k _ _ (.inl rfl) e,c⟩
 | set S n=>obtain ⟨ob,es,ep,t,e,c⟩:=x;exact ⟨ob,es,ep,t,k _ _ (.inl rfl) e,c⟩
 | ins C dx fs =>
  obtain ⟨d,z,ne,e,mA,⟨od,es,ep,e2,c⟩,r⟩:=x
  exact ⟨ho _ d,z,ne,k _ _ (.inl rfl) e,mA,⟨od,es,ep,k _ _ (.inr d) e2,c⟩,r⟩
 | own y=>obtain ⟨ob,e⟩:=x;exact ⟨ob,k _ _ (.inl rfl) e⟩
 | xd fs=>obtain ⟨mA,⟨od,es,ep,e,c⟩,r⟩:=x;exact ⟨mA,⟨od,es,ep,k _ _ (.inl rfl) e,c⟩,r⟩
 | rng lo hi=>obtain ⟨t,u,v,e⟩:=x;exact ⟨t,u,v,k _ _ (.inl rfl) e⟩
 | frz ob u ih=>obtain ⟨e,q⟩:=x;exact ⟨k _ _ (.inl rfl) e,ih q⟩
 | tbl ps =>
  have e:h.get? a=some { cls:=.none,data:=.fields ps }:=x
  show h'.get? a=some { cls:=.none,data:=.fields ps }
  exact k a _ (.inl rfl) e
 | met f y =>
  have e:h.get? a=some (PySem.W.methodObj (.ref f) (.ref y)):=x
  show h'.get? a=some (PySem.W.methodObj (.ref f) (.ref y))
  exact k a _ (.inl rfl) e
 | ext φ=>obtain ⟨p,⟨o,e⟩,st⟩:=x;exact ⟨st _ _ p fun o q=>k _ _ (.inl rfl) q,⟨o,k _ _ (.inl rfl) e⟩,st⟩
theorem HOk.lt (x:HOk P w H h) (e:H a=some o):a < h.objs.size:=(x a o e).lt
theorem HOk.fresh (x:HOk P w H h) (e:h.objs.size<=a):H a=none:=by
 cases q:H a with
 | none=>rfl
 | some u=>exact absurd (Nat.lt_of_lt_of_le (x.lt q) e) (Nat.lt_irrefl _)
theorem HOk.kept (x:HOk P w H h) (k:∀ b u,h.get? b=some u->h'.get? b=some u):HOk P w H h':=fun a o e =>
 (x a o e).stay (fun b u _ q=>k b u q) (fun _ q=>q) fun _ _ q=>q
theorem HOk.laid (x:HOk P w H h) (k:∀ b u,h.get? b=some u->h'.get? b=some u) (hp:h.objs.size<=a) (new:ObjOk P w (upd H a o) h' a o):HOk P w (upd H a o) h':=fun b u e=>by
 have hn:=x.fresh hp
 by_cases hb:b=a
 ·subst hb;rw [upd_same] at e;cases e;exact new
 ·rw [upd_ne hb] at e
  exact (x b u e).stay (fun c v _ q=>k c v q) (fun c q=>by rw [upd_ne (ne_of_none q hn)];exact q) fun c xs q=>by rw [upd_ne (ne_of_none q hn)];exact q
end
def Rd (H:Hp) (a:Addr) (u:HO):Prop:=H a=some u\/∃ o,H a=some (.frz o u)
theorem Rd.ok {P:Program} {w:World} {H:Hp} {h:Heap} {a:Addr} {u:HO} (r:Rd H a u) (x:HOk P w H h):ObjOk P w H h a u:=by
 rcases r with r | ⟨o,r⟩
 ·exact x a u r
 ·obtain ⟨_,q⟩:=x a _ r
  exact q
def Mut:Option HO->Prop
 | some (.lst _)=>True
 | some (.dK _)=>True
 | some (.dT _)=>True
 | some (.set _ _)=>True
 | some (.ins _ _ _)=>True
 | some (.ext _)=>True
 | _=>False
section
variable {P:Program} {w:World} {H:Hp} {h h':Heap} {x e:Addr} {o':HO}
theorem HOk.write (ok : HOk P w H h) (mu : Mut (H x)) (he : e = x \/ H e = some (.own x)) (k : ∀ b u, b ≠ e -> h.get? b = some u -> h'.get? b = some u) (heo : ∃ u, h'.get? e = some u)
    (new : ObjOk P w (upd H x o') h' x o') : HOk P w (upd H x o') h' := fun b u q => by
  have nown : ∀ c y, H c = some (.own y) -> c ≠ x := fun c y r z => by subst z; rw [r] at mu; exact mu
  have ntup : ∀ c xs, H c = some (.tup xs) -> c ≠ x := fun c xs r z => by subst z; rw [r] at mu; exact mu
  by_cases hb : b = x
  · subst hb; rw [upd_same] at q; cases q; exact new
  · rw [upd_ne hb] at q
    by_cases hbe : b = e
    · have q' : H b = some (.own x) := by
        rcases he with z | z
        · exact absurd (hbe.trans z) hb
        · rw [hbe]; exact z
      rw [q] at q'; cases q'
      obtain ⟨v, hv⟩ := heo
      exact ⟨v, by rw [hbe]; exact hv⟩
    · refine (ok b u q).stay (fun c v hc r => k c v ?_ r) (fun c r => by rw [upd_ne (nown c b r)]; exact r) fun c xs r => by rw [upd_ne (ntup c xs r)]; exact r
      rcases hc with rfl | hc
      · exact hbe
      · rintro rfl
        rcases he with z | z
        · exact nown c b hc z
        · rw [hc] at z; cases z; exact hb rfl
end
structure Un (fs ex:List Addr) (H H':Hp) (h h':Heap):Prop where
 keep:∀ b o,h.get? b=some o->H b=none->b∉fs->b∉ex->h'.get? b=some o
 slot:∀ b o,h.get? b=some o->H b=none->b∈fs->b∉ex->∃ sl,h'.get? b=some { o with slots:=sl }
 free:∀ b o,h.get? b=some o->H b=none->b∉ex->H' b=none
 there:∀ b o,h.get? b=some o->b∉ex->∃ o',h'.get? b=some o'
 tups:∀ b xs,H b=some (.tup xs)->H' b=some (.tup xs)
 frzs:∀ b o u,H b=some (.frz o u)->H' b=some (.frz o u)
 tbls:∀ b ps,H b=some (.tbl ps)->∃ more,H' b=some (.tbl (ps++more))
section
variable {fs fs' ex ex':List Addr} {H H1 H2:Hp} {h h1 h2 h':Heap} {a x e:Addr} {o:HO}
theorem Un.any (u:Un fs ex H H1 h h1) {b:Addr} {ob:Obj} (q:h.get? b=some ob) (n:H b=none) (hx:b∉ex):∃ sl,h1.get? b=some { ob with slots:=sl }:=by
 by_cases hb:b∈fs
 ·exact u.slot b ob q n hb hx
 ·exact ⟨ob.slots,u.keep b ob q n hb hx⟩
theorem Un.kept (k:∀ b u,h.get? b=some u->h'.get? b=some u):Un fs ex H H h h' :=
 ⟨fun b ob q _ _ _=>k b ob q,fun b ob q _ _ _=>⟨ob.slots,k b ob q⟩,fun _ _ _ n _=>n,fun b ob q _=>⟨ob,k b ob q⟩,fun _ _ q=>q,fun _ _ _ q=>q,fun _ ps q=>⟨#[],by rw [q];simp⟩⟩
theorem Un.refl:Un fs ex H H h h:=Un.kept fun _ _ q=>q
theorem Un.laid (k:∀ b u,h.get? b=some u->h'.get? b=some u) (hp:h.objs.size<=a) (hn:H a=none):Un fs ex H (upd H a o) h h' where
 keep:=fun b u q _ _ _=>k b u q
 slot:=fun b u q _ _ _=>⟨u.slots,k b u q⟩
 free:=fun b u q n _=>by rw [upd_ne (Nat.ne_of_lt (Nat.lt_of_lt_of_le (Heap.lt_size q) hp))];exact n
 there:=fun b u q _=>⟨u,k b u q⟩
 tups:=fun b xs q=>by rw [upd_ne (ne_of_none q hn)];exact q
 frzs:=fun b u xs q=>by rw [upd_ne (ne_of_none q hn)];exact q
 tbls:=fun b ps q=>⟨#[],by rw [upd_ne (ne_of_none q hn),q];simp⟩
theorem Un.write (mu:Mut (H x)) (he:e=x\/H e=some (.own x)) (k:∀ b u,b≠e->h.get? b=some u->h'.get? b=some u) (heo:∃ u,h'.get? e=some u):Un fs ex H (upd H x o) h h':=by
 have hx:∀ b,H b=none->b≠x:=fun b n z=>by subst z;rw [n] at mu;exact mu
 have hb:∀ b,H b=none->b≠e:=fun b n z=>by
  subst z
  rcases he with r | r
  ·exact hx b n r
  ·rw [n] at r;cases r
 have hm:∀ b u,H b=some u->¬ Mut (some u)->b≠x:=fun b u q nm z=>by subst z;rw [q] at mu;exact nm mu
 refine ⟨fun b u q n _ _=>k b u (hb b n) q,fun b u q n _ _=>⟨u.slots,k b u (hb b n) q⟩,fun b u q n _=>by rw [upd_ne (hx b n)];exact n,fun b u q _=>?_,
  fun b xs q=>by rw [upd_ne (hm b _ q fun z=>z)];exact q,fun b u xs q=>by rw [upd_ne (hm b _ q fun z=>z)];exact q,fun b ps q=>⟨#[],by rw [upd_ne (hm b _ q fun z=>z),q];simp⟩⟩
 by_cases hbe:b=e
 ·subst hbe;exact heo
 ·exact ⟨u,k b u hbe q⟩
end
def trk (h:Heap) (H:Hp):List Addr:=(List.range h.objs.size).filter fun a=>(H a).isSome
def hidT (h:Heap) (H:Hp):Heap:=PySem.W.hideAll h (trk h H)
theorem hidT_size (h:Heap) (H:Hp):(hidT h H).objs.size=h.objs.size:=PySem.W.hideAll_size _ _
theorem hidT_get {h:Heap} {H:Hp} {b:Addr} {o:Obj} (e:h.get? b=some o) (n:H b=none):(hidT h H).get? b=some o :=
 PySem.W.hideAll_get _ e fun hm=>by
  have q:(H b).isSome=true:=(List.mem_filter.mp hm).2
  rw [n] at q;simp at q
theorem of_hidT {h:Heap} {H:Hp} {b:Addr} {o:Obj} (e:(hidT h H).get? b=some o):h.get? b=some o/\H b=none:=by
 have e':h.get? b=some o:=PySem.W.of_hideAll (trk h H) e
 refine ⟨e',?_⟩
 cases q:H b with
 | none=>rfl
 | some x =>
  have hm:b∈trk h H:=List.mem_filter.mpr ⟨List.mem_range.mpr (Heap.lt_size e'),by simp [q]⟩
  have z:(hidT h H).get? b=none:=PySem.W.hideAll_none (trk h H) hm
  rw [z] at e;cases e
def allNews (g h:Heap) (L:Addr):List (Addr×Obj):=(List.range h.objs.size).filterMap fun a=>if a=L\/(g.get? a).isSome=true then none else (h.get? a).map fun o=>(a,o)
def rest (g h:Heap) (L d:Addr):List (Addr×Obj):=(allNews g h L).filter fun p=>decide (p.1≠d)
end L2
namespace L2
open PySem PySem.Spec PyProof.Rows
structure Mod (K:W.Frag) (mg:Str->Option Value) (base:Heap):Prop where
 kin:K.In base
 glob:base.Ns mainGlobals mg
 blt:∃ mb,base.Ns builtinsNs mb/\∀ x:Str,x≠"__name__"->mb x=bootBuiltins x
 nolimit:base.NoLimit
structure Cx where
 prog:Program
 w:World
 K:W.Frag
 mg:Str->Option Value
 base:Heap
 A:Around
 N:List Str
 s₀:Shared
 H₀:Hp
 env:Env
 outer:List Env
 stack:List Env
 ex:List Addr
 fn:Str->Bool
 calm:Bool
 pn:List (Addr×Obj)
 xe:Value->Shared->Prop
def frs (l:List Env):List Addr:=l.filterMap (·.frame)
abbrev Cx.fs (X:Cx):List Addr:=frs X.outer
def Vis (sc:Scope) (x:Str):Prop:=sc.names.lookup x=some .local\/sc.names.lookup x=some .cell\/sc.names.lookup x=some .free
def Loc (sc:Scope) (x:Str):Prop:=sc.names.lookup x=some .local\/sc.names.lookup x=some .cell
def Look (env:Env) (h:Heap) (m:Str->Option Value) (x:Str) (u:Value):Prop :=
 (env.kindOf x=some .local/\m x=some u)\/((env.kindOf x=some .cell\/env.kindOf x=some .free)/\∃ c,env.cells.lookup x=some c/\h.IsCell c (some u))
structure Cx.Ok (X:Cx):Prop where
 mod:Mod X.K X.mg X.base
 kind:X.env.scope.kind=.function
 glob:X.env.globals=mainGlobals
 blt:X.env.builtins=builtinsNs
 above:X.s₀.heap.objs.size<=X.env.locals
 inj:∀ x y c,X.env.cells.lookup x=some c->X.env.cells.lookup y=some c->x=y
 has:∀ x,(X.env.kindOf x=some .cell\/X.env.kindOf x=some .free)->∃ c,X.env.cells.lookup x=some c
 cab:∀ x c,X.fn x=true->X.env.cells.lookup x=some c->X.s₀.heap.objs.size<=c
 hd:X.calm=true->X.A.handled=none
 frames:X.A.frames=some X.stack
 stk:X.stack=X.outer\/(X.stack=X.env::X.outer/\X.env.frame=some X.env.locals)
 exf:∀ b∈X.ex,b≠X.env.locals/\∀ x c,X.env.cells.lookup x=some c->c≠b
 bs:∀ b o,X.base.get? b=some o->X.s₀.heap.get? b=some o/\X.H₀ b=none
 bsz:X.base.objs.size<=X.s₀.heap.objs.size
 noex:∀ b o,X.base.get? b=some o->b∉X.ex
 exfs:∀ b∈X.ex,b∉X.fs
 funs:X.s₀.heap.FunFrames X.base X.outer
 frf:∀ b∈X.fs,X.H₀ b=none
structure Inv (X:Cx) (pins:List (Addr×Obj)) (σ:List (Option V)) (H:Hp) (s:Shared):Prop where
 ok:X.Ok
 os:s.os=X.s₀.os
 bare:AllBare s.gens
 base:Un X.fs X.ex X.H₀ H X.s₀.heap s.heap
 loc:∃ m,s.heap.Ns X.env.locals m/\∀ (i:Nat) (x:Str) (v:V),X.N[i]?=some x->σ[i]?=some (some v)->Vis X.env.scope x->∃ u,RelV v u/\Look X.env s.heap m x u
 cell:∀ x c,X.env.cells.lookup x=some c->∃ v,s.heap.IsCell c v
 free:H X.env.locals=none
 freeC:∀ x c,X.env.cells.lookup x=some c->H c=none
 pin:∀ p∈X.pn++pins,s.heap.get? p.1=some p.2/\H p.1=none/\p.1≠X.env.locals/\p.1∉X.fs/\∀ v,p.2.data≠.cell v
 hok:HOk X.prog X.w H s.heap
 len:σ.length=X.N.length
section
variable {X:Cx} {pins:List (Addr×Obj)} {σ:List (Option V)} {H H':Hp} {s:Shared} {h':Heap}
theorem Cx.Ok.nofr (ok:X.Ok) {b:Addr} {o:Obj} (e:X.base.get? b=some o):b∉X.fs:=fun hb=>by
 have:=(ok.funs.mem hb).1
 rw [e] at this;cases this
theorem Inv.bs (I:Inv X pins σ H s):∀ b o,X.base.get? b=some o->s.heap.get? b=some o/\H b=none:=fun b o e =>
 ⟨I.base.keep b o (I.ok.bs b o e).1 (I.ok.bs b o e).2 (I.ok.nofr e) (I.ok.noex b o e),I.base.free b o (I.ok.bs b o e).1 (I.ok.bs b o e).2 (I.ok.noex b o e)⟩
theorem Inv.bk (I:Inv X pins σ H s):∀ b o,X.base.get? b=some o->s.heap.get? b=some o:=fun b o e=>(I.bs b o e).1
theorem Inv.mod (I:Inv X pins σ H s):Mod X.K X.mg X.base:=I.ok.mod
theorem Inv.kIn (I:Inv X pins σ H s):X.K.In s.heap:=I.ok.mod.kin.keeps I.bk
theorem Inv.lt (I:Inv X pins σ H s):X.env.locals < s.heap.objs.size:=let ⟨_,hn,_⟩:=I.loc;hn.lt
theorem Inv.sz (I:Inv X pins σ H s):X.s₀.heap.objs.size<=s.heap.objs.size:=Nat.le_trans I.ok.above (Nat.le_of_lt I.lt)
theorem Inv.nofs (I:Inv X pins σ H s) {a:Addr} (h:s.heap.objs.size<=a):a∉X.fs:=fun hb=>by
 obtain ⟨_,o,ho,_⟩:=I.ok.funs.mem hb
 exact absurd (Nat.lt_of_lt_of_le (Heap.lt_size ho) (Nat.le_trans I.sz h)) (Nat.lt_irrefl _)
theorem Inv.cne (I:Inv X pins σ H s):∀ x c,X.env.cells.lookup x=some c->c≠X.env.locals:=fun x c e z=>by
 obtain ⟨v,o,ho,hd⟩:=I.cell x c e
 obtain ⟨m,⟨o',es,ep,ho',hd',_⟩,_⟩:=I.loc
 rw [z,ho'] at ho;cases ho;rw [hd'] at hd;cases hd
theorem Inv.funs (I:Inv X pins σ H s):s.heap.FunFrames X.base X.outer:=by
 have all:∀ (l:List Env),(∀ b∈frs l,b∈X.fs)->X.s₀.heap.FunFrames X.base l->s.heap.FunFrames X.base l:=by
  intro l
  induction l with
  | nil=>intro _ _;trivial
  | cons env r ih =>
   intro hs hl
   obtain ⟨hk,⟨L,o,hf,hn,ho,hd⟩,hr⟩:=hl
   have hL:L∈X.fs:=hs L (by unfold frs;rw [List.filterMap_cons,hf];exact List.mem_cons_self)
   obtain ⟨sl,e⟩:=I.base.slot L o ho (I.ok.frf L hL) hL fun z=>I.ok.exfs L z hL
   exact ⟨hk,⟨L,_,hf,hn,e,hd⟩,ih (fun b hb=>hs b (by unfold frs;rw [List.filterMap_cons,hf];exact List.mem_cons_of_mem _ hb)) hr⟩
 exact all X.outer (fun _ hb=>hb) I.ok.funs
theorem Inv.stack (I:Inv X pins σ H s):s.heap.FunFrames X.base X.stack:=by
 rcases I.ok.stk with e | ⟨e,hf⟩
 ·rw [e];exact I.funs
 ·rw [e]
  obtain ⟨m,hn,_⟩:=I.loc
  refine .cons (by rw [I.ok.kind];decide) hf hn ?_ I.funs
  exact Heap.get?_none_of_le (Nat.le_trans I.ok.bsz I.ok.above)
theorem Inv.stkSub (I:Inv X pins σ H s):∀ b∈frs X.stack,b∈X.env.locals::X.fs:=fun b hb=>by
 rcases I.ok.stk with e | ⟨e,hf⟩
 ·rw [e] at hb;exact List.mem_cons_of_mem _ hb
 ·rw [e] at hb
  unfold frs at hb
  rw [List.filterMap_cons,hf] at hb
  exact hb
theorem Inv.stkFree (I:Inv X pins σ H s):∀ b∈frs X.stack,H b=none:=fun b hb=>by
 rcases List.mem_cons.mp (I.stkSub b hb) with e | hb
 ·rw [e];exact I.free
 ·obtain ⟨_,o,ho,_⟩:=I.ok.funs.mem hb
  exact I.base.free b o ho (I.ok.frf b hb) fun z=>I.ok.exfs b z hb
theorem Inv.step {g':Array GenState} {t':Nat} {d':Drawn} {ch:List Addr} (I:Inv X pins σ H s)
  (hch:∀ b∈ch,(b∈X.ex\/X.s₀.heap.objs.size<=b)/\b≠X.env.locals/\(∀ x c,X.env.cells.lookup x=some c->c≠b)/\∀ p∈X.pn++pins,p.1≠b)
  (keep:∀ b o,b≠X.env.locals->b∉X.fs->b∉ch->s.heap.get? b=some o->H b=none->h'.get? b=some o)
  (slot:∀ b o,b≠X.env.locals->b∈X.fs->b∉ch->s.heap.get? b=some o->H b=none->∃ sl,h'.get? b=some { o with slots:=sl }) (free:∀ b o,b∉ch->s.heap.get? b=some o->H b=none->H' b=none)
  (there:∀ b o,b∉ch->s.heap.get? b=some o->∃ o',h'.get? b=some o')
  (tups:∀ b xs,H b=some (.tup xs)->H' b=some (.tup xs)) (frzs:∀ b o u,H b=some (.frz o u)->H' b=some (.frz o u)) (tbls:∀ b ps,H b=some (.tbl ps)->∃ more,H' b=some (.tbl (ps++more)))
  (ns:∀ m,s.heap.Ns X.env.locals m->h'.Ns X.env.locals m) (hok:HOk X.prog X.w H' h') (hg:AllBare g') :
  Inv X pins σ H' { s with heap:=h',gens:=g',drawn:=d',toks:=t' }:=by
 have neL:∀ b o,X.s₀.heap.get? b=some o->b≠X.env.locals:=fun b o e=>Nat.ne_of_lt (Nat.lt_of_lt_of_le (Heap.lt_size e) I.ok.above)
 have neC:∀ b o,X.s₀.heap.get? b=some o->b∉X.ex->b∉ch:=fun b o e hx hb=>by
  rcases (hch b hb).1 with z | z
  ·exact hx z
  ·exact absurd (Nat.lt_of_lt_of_le (Heap.lt_size e) z) (Nat.lt_irrefl _)
 have cellK:∀ x c,X.env.cells.lookup x=some c->∀ v,s.heap.IsCell c v->h'.IsCell c v:=fun x c e v ⟨o,ho,hd⟩=>by
  have nch:c∉ch:=fun z=>(hch c z).2.2.1 x c e rfl
  by_cases hc:c∈X.fs
  ·obtain ⟨sl,q⟩:=slot c o (I.cne x c e) hc nch ho (I.freeC x c e)
   exact ⟨_,q,hd⟩
  ·exact ⟨o,keep c o (I.cne x c e) hc nch ho (I.freeC x c e),hd⟩
 refine ⟨I.ok,I.os,hg,⟨fun b o e n hb hx=>?_,fun b o e n hb hx=>?_,fun b o e n hx=>?_,fun b o e hx=>?_,fun b xs e=>tups b xs (I.base.tups b xs e),fun b o xs e=>frzs b o xs (I.base.frzs b o xs e),fun b ps e=>?_⟩,?_,fun x c e=>?_,?_,fun x c e=>?_,fun p hp=>?_,hok,I.len⟩
 ·exact keep b o (neL b o e) hb (neC b o e hx) (I.base.keep b o e n hb hx) (I.base.free b o e n hx)
 ·obtain ⟨sl,e1⟩:=I.base.slot b o e n hb hx
  obtain ⟨sl',e2⟩:=slot b _ (neL b o e) hb (neC b o e hx) e1 (I.base.free b o e n hx)
  exact ⟨sl',e2⟩
 ·obtain ⟨o',e1⟩:=I.base.there b o e hx
  exact free b o' (neC b o e hx) e1 (I.base.free b o e n hx)
 ·obtain ⟨o',e1⟩:=I.base.there b o e hx
  exact there b o' (neC b o e hx) e1
 ·obtain ⟨m1,e1⟩:=I.base.tbls b ps e
  obtain ⟨m2,e2⟩:=tbls b _ e1
  exact ⟨m1++m2,by rw [e2,Array.append_assoc]⟩
 ·obtain ⟨m,hn,hl⟩:=I.loc
  refine ⟨m,ns m hn,fun i x v e1 e2 e3=>?_⟩
  obtain ⟨u,r,l⟩:=hl i x v e1 e2 e3
  refine ⟨u,r,?_⟩
  rcases l with l | ⟨k,c,e,z⟩
  ·exact .inl l
  ·exact .inr ⟨k,c,e,cellK x c e _ z⟩
 ·obtain ⟨v,z⟩:=I.cell x c e
  exact ⟨v,cellK x c e v z⟩
 ·obtain ⟨m,⟨o,_,_,ho,_⟩,_⟩:=I.loc
  exact free _ o (fun z=>(hch _ z).2.1 rfl) ho I.free
 ·obtain ⟨v,o,ho,hd⟩:=I.cell x c e
  exact free c o (fun z=>(hch c z).2.2.1 x c e rfl) ho (I.freeC x c e)
 ·obtain ⟨e,n,ne,nf,d⟩:=I.pin p hp
  have nch:p.1∉ch:=fun z=>(hch p.1 z).2.2.2 p hp rfl
  exact ⟨keep p.1 p.2 ne nf nch e n,free p.1 p.2 nch e n,ne,nf,d⟩
theorem Inv.un {t':Nat} (I:Inv X pins σ H s) (u:Un X.fs [] H H' s.heap h') (hok:HOk X.prog X.w H' h'):Inv X pins σ H' { s with heap:=h',toks:=t' }:=by
 obtain ⟨m,⟨o,es,ep,ho,r⟩,_⟩:=id I.loc
 obtain ⟨sl,hL⟩:=u.any ho I.free (by simp)
 exact I.step (g':=s.gens) (d':=s.drawn) (ch:=[]) (fun _ z=>nomatch z) (fun b o _ hb _ e n=>u.keep b o e n hb (by simp)) (fun b o _ hb _ e n=>u.slot b o e n hb (by simp)) (fun b o _ e n=>u.free b o e n (by simp)) (fun b o _ e=>u.there b o e (by simp)) u.tups u.frzs u.tbls (fun m' hm=>by
  obtain ⟨o',es',ep',ho',r'⟩:=hm
  rw [ho] at ho';cases ho'
  exact ⟨_,es',ep',hL,r'⟩) hok I.bare
theorem Inv.call {g':Array GenState} {t':Nat} {d':Drawn} {ch:List Addr} (I:Inv X pins σ H s) (u:Un (frs X.stack) ch H H' s.heap h') (hok:HOk X.prog X.w H' h') (hg:AllBare g')
  (hch:∀ b∈ch,(b∈X.ex\/X.s₀.heap.objs.size<=b)/\b≠X.env.locals/\(∀ x c,X.env.cells.lookup x=some c->c≠b)/\∀ p∈X.pn++pins,p.1≠b) :
  Inv X pins σ H' { s with heap:=h',gens:=g',drawn:=d',toks:=t' }:=by
 obtain ⟨m,⟨o,es,ep,ho,r⟩,_⟩:=id I.loc
 obtain ⟨sl,hL⟩:=u.any ho I.free fun z=>(hch _ z).2.1 rfl
 exact I.step (ch:=ch) hch (fun b o hL hb hc e n=>u.keep b o e n (fun z=>(List.mem_cons.mp (I.stkSub b z)).elim hL hb) hc) (fun b o _ _ hc e n=>u.any e n hc) (fun b o hc e n=>u.free b o e n hc) (fun b o hc e=>u.there b o e hc) u.tups u.frzs u.tbls (fun m' hm=>by
  obtain ⟨o',es',ep',ho',r'⟩:=hm
  rw [ho] at ho';cases ho'
  exact ⟨_,es',ep',hL,r'⟩) hok hg
theorem Inv.turned {t':Nat} {it:Addr} (I:Inv X pins σ H s) (k:∀ b o,b≠it->s.heap.get? b=some o->h'.get? b=some o) (hn:H it=none) (hL:it≠X.env.locals)
  (h1:it∈X.ex\/X.s₀.heap.objs.size<=it) (h2:∀ x c,X.env.cells.lookup x=some c->c≠it) (h3:∀ p∈X.pn++pins,p.1≠it):Inv X pins σ H { s with heap:=h',toks:=t' }:=by
 have nit:∀ b u,H b=some u->b≠it:=fun b u e z=>by rw [z,hn] at e;cases e
 refine I.step (g':=s.gens) (d':=s.drawn) (ch:=[it]) (fun b hb=>?_) (fun b o _ _ hc e _=>k b o (fun z=>hc (by simp [z])) e) (fun b o _ _ hc e _=>⟨o.slots,k b o (fun z=>hc (by simp [z])) e⟩) (fun _ _ _ _ n=>n)
  (fun b o hc e=>⟨o,k b o (fun z=>hc (by simp [z])) e⟩) (fun _ _ e=>e) (fun _ _ _ e=>e) (fun b ps e=>⟨#[],by rw [e];simp⟩) (fun m hm=>?_) (fun b u e=>?_) I.bare
 ·have e:b=it:=by simpa using hb
  subst e
  exact ⟨h1,hL,h2,h3⟩
 ·obtain ⟨o,es,ep,ho,r⟩:=hm
  exact ⟨o,es,ep,k _ o (Ne.symm hL) ho,r⟩
 ·refine (I.hok b u e).stay (fun c v hc q=>k c v ?_ q) (fun _ q=>q) fun _ _ q=>q
  rcases hc with z | z
  ·rw [z];exact nit b u e
  ·exact nit c _ z
theorem Inv.tok (I:Inv X pins σ H s) (t:Nat):Inv X pins σ H { s with toks:=t }:=I.un (h':=s.heap) (t':=t) Un.refl I.hok
theorem Inv.kept {t':Nat} (I:Inv X pins σ H s) (k:∀ b u,s.heap.get? b=some u->h'.get? b=some u):Inv X pins σ H { s with heap:=h',toks:=t' }:=I.un (Un.kept k) (I.hok.kept k)
theorem Inv.laid {a:Addr} {o:HO} {t':Nat} (I:Inv X pins σ H s) (k:∀ b u,s.heap.get? b=some u->h'.get? b=some u) (hp:s.heap.objs.size<=a) (new:ObjOk X.prog X.w (upd H a o) h' a o) :
  Inv X pins σ (upd H a o) { s with heap:=h',toks:=t' }:=I.un (Un.laid k hp (I.hok.fresh hp)) (I.hok.laid k hp new)
theorem Inv.write {x e:Addr} {o:HO} {t':Nat} (I:Inv X pins σ H s) (mu:Mut (H x)) (he:e=x\/H e=some (.own x)) (k:∀ b u,b≠e->s.heap.get? b=some u->h'.get? b=some u) (heo:∃ u,h'.get? e=some u)
  (new:ObjOk X.prog X.w (upd H x o) h' x o):Inv X pins σ (upd H x o) { s with heap:=h',toks:=t' }:=I.un (Un.write mu he k heo) (I.hok.write mu he k heo new)
theorem Inv.pins_of {pins':List (Addr×Obj)} (I:Inv X pins σ H s) (h:∀ p∈pins',s.heap.get? p.1=some p.2/\H p.1=none/\p.1≠X.env.locals/\p.1∉X.fs/\∀ v,p.2.data≠.cell v):Inv X pins' σ H s :=
 ⟨I.ok,I.os,I.bare,I.base,I.loc,I.cell,I.free,I.freeC,fun p hp=>(List.mem_append.mp hp).elim (fun z=>I.pin p (List.mem_append_left _ z)) (h p),I.hok,I.len⟩
theorem nodup_ix {N:List Str} (hN:N.Nodup) {i j:Nat} {x:Str} (a:N[i]?=some x) (b:N[j]?=some x):i=j:=by
 obtain ⟨h1,e1⟩:=List.getElem?_eq_some_iff.mp a
 obtain ⟨h2,e2⟩:=List.getElem?_eq_some_iff.mp b
 exact (List.getElem_inj hN).mp (e1.trans e2.symm)
theorem store_ok2 {M : Model} {A : Around} {E : Value -> Shared -> Prop} {i : Nat} {x : Str} {v : V} {u : Value} {Q : Unit -> Shared -> Prop} (I : Inv X pins σ H s) (hN : X.N.Nodup) (hi : X.N[i]? = some x) (hx : Loc X.env.scope x) (r : RelV v u)
    (h : ∀ s', Inv X pins (σ.set i (some v)) H s' -> (∃ a, Heap.SameBut a s.heap s'.heap /\ (a = X.env.locals \/ X.env.cells.lookup x = some a)) -> Q () s') (hf : X.fn x = true \/ X.env.scope.names.lookup x = some .local := by first | exact .inl rfl | exact .inr rfl | assumption) : wpAny M A (storeName X.env x u) Q E s := by
  obtain ⟨m, hn, hl⟩ := id I.loc
  have hcls : (X.env.scope.kind == .class || (X.env.scope.kind == .module && X.env.locals != X.env.globals)) = false := by rw [I.ok.kind]; rfl
  have hiσ : i < σ.length := by rw [I.len]; exact (List.getElem?_eq_some_iff.mp hi).1
  have cne := I.cne
  have tracked : ∀ {a : Addr} {h' : Heap}, (∃ o, s.heap.get? a = some o /\ H a = none) -> Heap.SameBut a s.heap h' -> HOk X.prog X.w H h' := fun {a h'} ha hs b ob e => by
    obtain ⟨_, _, hfree⟩ := ha
    refine (I.hok b ob e).stay (fun c w' hc q => (hs.2 c ?_).trans q) (fun _ q => q) fun _ _ q => q
    rintro rfl
    rcases hc with rfl | hc
    · rw [hfree] at e; cases e
    · rw [hfree] at hc; cases hc
  rcases hx with hk | hk
  · refine wpAny_storeName_local hk hn (fun h' hn' hs => ?_) hcls
    obtain ⟨oL, _, _, hoL, _⟩ := id hn
    refine h _ ⟨I.ok, I.os, I.bare, ⟨fun b o e n hb hx => ?_, fun b o e n hb hx => ?_, I.base.free, fun b o e hx => ?_, I.base.tups, I.base.frzs, I.base.tbls⟩, ⟨_, hn', fun j y v' e1 e2 e3 => ?_⟩, fun y c e => ?_, I.free, I.freeC, fun p hp => ?_, tracked ⟨oL, hoL, I.free⟩ hs, by simpa using I.len⟩ ⟨_, hs, .inl rfl⟩
    · exact (hs.2 b (Nat.ne_of_lt (Nat.lt_of_lt_of_le (Heap.lt_size e) I.ok.above))).trans (I.base.keep b o e n hb hx)
    · obtain ⟨sl, e1⟩ := I.base.slot b o e n hb hx
      exact ⟨sl, (hs.2 b (Nat.ne_of_lt (Nat.lt_of_lt_of_le (Heap.lt_size e) I.ok.above))).trans e1⟩
    · obtain ⟨o', e1⟩ := I.base.there b o e hx
      exact ⟨o', (hs.2 b (Nat.ne_of_lt (Nat.lt_of_lt_of_le (Heap.lt_size e) I.ok.above))).trans e1⟩
    · by_cases hj : j = i
      · subst hj
        rw [hi] at e1; cases e1
        rw [List.getElem?_set_self hiσ] at e2
        cases e2
        exact ⟨u, r, .inl ⟨hk, by simp⟩⟩
      · rw [List.getElem?_set_ne (Ne.symm hj)] at e2
        obtain ⟨u', r', q⟩ := hl j y v' e1 e2 e3
        refine ⟨u', r', ?_⟩
        rcases q with ⟨k, e⟩ | ⟨k, c, e, z⟩
        · refine .inl ⟨k, ?_⟩
          have : y ≠ x := fun e => hj (nodup_ix hN e1 (e ▸ hi))
          simp [this, e]
        · exact .inr ⟨k, c, e, z.sameBut hs (cne y c e)⟩
    · obtain ⟨w', z⟩ := I.cell y c e
      exact ⟨w', z.sameBut hs (cne y c e)⟩
    · obtain ⟨e, n, ne, nf, d⟩ := I.pin p hp
      exact ⟨(hs.2 p.1 ne).trans e, n, ne, nf, d⟩
  · have hfn : X.fn x = true := by
      rcases hf with z | z
      · exact z
      · rw [z] at hk; cases hk
    obtain ⟨c, hc⟩ := I.ok.has x (.inl hk)
    obtain ⟨w', z⟩ := I.cell x c hc
    refine wpAny_storeName_cell I.ok.kind hk hc z (fun h' hc' hs => ?_)
    obtain ⟨oc, hoc, hocd⟩ := id z
    refine h { s with heap := h' } ⟨I.ok, I.os, I.bare, ⟨fun b o e n hb hx => ?_, fun b o e n hb hx => ?_, I.base.free, fun b o e hx => ?_, I.base.tups, I.base.frzs, I.base.tbls⟩, ⟨m, hn.sameBut hs (Ne.symm (cne x c hc)), fun j y v' e1 e2 e3 => ?_⟩, fun y c' e => ?_, I.free, I.freeC, fun p hp => ?_, tracked ⟨oc, hoc, I.freeC x c hc⟩ hs, by simpa using I.len⟩ ⟨c, hs, .inr hc⟩
    · exact (hs.2 b (Nat.ne_of_lt (Nat.lt_of_lt_of_le (Heap.lt_size e) (I.ok.cab x c hfn hc)))).trans (I.base.keep b o e n hb hx)
    · obtain ⟨sl, e1⟩ := I.base.slot b o e n hb hx
      exact ⟨sl, (hs.2 b (Nat.ne_of_lt (Nat.lt_of_lt_of_le (Heap.lt_size e) (I.ok.cab x c hfn hc)))).trans e1⟩
    · obtain ⟨o', e1⟩ := I.base.there b o e hx
      exact ⟨o', (hs.2 b (Nat.ne_of_lt (Nat.lt_of_lt_of_le (Heap.lt_size e) (I.ok.cab x c hfn hc)))).trans e1⟩
    · by_cases hj : j = i
      · subst hj
        rw [hi] at e1; cases e1
        rw [List.getElem?_set_self hiσ] at e2
        cases e2
        exact ⟨u, r, .inr ⟨.inl hk, c, hc, hc'⟩⟩
      · rw [List.getElem?_set_ne (Ne.symm hj)] at e2
        obtain ⟨u', r', q⟩ := hl j y v' e1 e2 e3
        refine ⟨u', r', ?_⟩
        rcases q with q | ⟨k, c', e, z'⟩
        · exact .inl q
        · refine .inr ⟨k, c', e, z'.sameBut hs ?_⟩
          rintro rfl
          exact hj (nodup_ix hN e1 (I.ok.inj _ _ _ e hc ▸ hi))
    · by_cases hcc : c' = c
      · subst hcc; exact ⟨_, hc'⟩
      · obtain ⟨w2, z2⟩ := I.cell y c' e
        exact ⟨w2, z2.sameBut hs hcc⟩
    · obtain ⟨e, n, ne, nf, d⟩ := I.pin p hp
      refine ⟨(hs.2 p.1 ?_).trans e, n, ne, nf, d⟩
      intro q
      rw [q, hoc] at e
      have q' : oc = p.2 := Option.some.inj e
      exact d w' (by rw [<- q']; exact hocd)
theorem store_ok {M:Model} {A:Around} {E:Value->Shared->Prop} {i:Nat} {x:Str} {v:V} {u:Value} {Q:Unit->Shared->Prop} (I:Inv X pins σ H s) (hN:X.N.Nodup) (hi:X.N[i]?=some x) (hx:Loc X.env.scope x) (r:RelV v u)
  (h:∀ s',Inv X pins (σ.set i (some v)) H s'->Q () s') (hf:X.fn x=true\/X.env.scope.names.lookup x=some .local:=by first | exact .inl rfl | exact .inr rfl | assumption):wpAny M A (storeName X.env x u) Q E s :=
 store_ok2 I hN hi hx r (fun s' I' _=>h s' I') hf
theorem Inv.call' {s':Shared} {ch:List Addr} (I:Inv X pins σ H s) (ho:s'.os=s.os) (u:Un (frs X.stack) ch H H' s.heap s'.heap) (hok:HOk X.prog X.w H' s'.heap) (hg:AllBare s'.gens)
  (hch:∀ b∈ch,(b∈X.ex\/X.s₀.heap.objs.size<=b)/\b≠X.env.locals/\(∀ x c,X.env.cells.lookup x=some c->c≠b)/\∀ p∈X.pn++pins,p.1≠b):Inv X pins σ H' s':=by
 obtain ⟨h',g',d',t',o'⟩:=s'
 have e:o'=s.os:=ho
 subst e
 exact I.call (g':=g') (t':=t') (d':=d') u hok hg hch
end
abbrev XK:=Value->Option Addr->Hp->Prop
abbrev St:=List (Option V)
abbrev VK:=V->Hp->Prop
abbrev TE:=St->Hp->VK->Prop
abbrev TT:=St->Hp->(Bool->Hp->Prop)->Prop
abbrev TA:=St->Hp->(List V->Hp->Prop)->Prop
structure Ends where
 nx:St->Hp->Prop
 rt:VK
 bk:St->Hp->Prop:=fun _ _=>False
 ct:St->Hp->Prop:=fun _ _=>False
abbrev TS:=Ends->St->Hp->Prop
def EP (X:Cx) (pins:List (Addr×Obj)) (σ:St) (Q:VK) (u:Value) (s':Shared):Prop:=∃ v H',Inv X pins σ H' s'/\RelV v u/\Q v H'
def TP (X:Cx) (pins:List (Addr×Obj)) (σ:St) (Q:Bool->Hp->Prop) (b:Bool) (s':Shared):Prop:=∃ H',Inv X pins σ H' s'/\Q b H'
def AP (X:Cx) (pins:List (Addr×Obj)) (σ:St) (Q:List V->Hp->Prop) (us:List Value) (s':Shared):Prop:=∃ vs H',Inv X pins σ H' s'/\Vals vs us/\Q vs H'
def SP (X:Cx) (pins:List (Addr×Obj)) (D:Ends) (f:Flow) (s':Shared):Prop :=
 match f with
 | .next=>∃ σ' H',Inv X pins σ' H' s'/\D.nx σ' H'
 | .brk=>∃ σ' H',Inv X pins σ' H' s'/\D.bk σ' H'
 | .cont=>∃ σ' H',Inv X pins σ' H' s'/\D.ct σ' H'
 | .ret u=>∃ v σ' H',Inv X pins σ' H' s'/\RelV v u/\D.rt v H'
def PE (X:Cx) (e:Expr) (t:TE):Prop :=
 ∀ (pins:List (Addr×Obj)) (s:Shared) (σ:St) (H:Hp) (Q:VK),Inv X pins σ H s->t σ H Q->wpAny (model X.prog X.w) X.A (eval e X.env) (EP X pins σ Q) X.xe s
def PT (X:Cx) (e:Expr) (t:TT):Prop :=
 ∀ (pins:List (Addr×Obj)) (s:Shared) (σ:St) (H:Hp) (Q:Bool->Hp->Prop),Inv X pins σ H s->t σ H Q->wpAny (model X.prog X.w) X.A (isTrue e X.env (eval e X.env)) (TP X pins σ Q) X.xe s
def PW (X:Cx) (e:Expr) (t:TT):Prop :=
 ∀ (whole:Sem Value) (pins:List (Addr×Obj)) (s:Shared) (σ:St) (H:Hp) (Q:Bool->Hp->Prop),Inv X pins σ H s->t σ H Q->wpAny (model X.prog X.w) X.A (isTrue e X.env whole) (TP X pins σ Q) X.xe s
theorem PW.pt {X:Cx} {e:Expr} {t:TT} (h:PW X e t):PT X e t:=h _
def PA (X:Cx) (es:List Expr) (t:TA):Prop :=
 ∀ (pos:Pos) (pins:List (Addr×Obj)) (s:Shared) (σ:St) (H:Hp) (Q:List V->Hp->Prop),Inv X pins σ H s->t σ H Q->wpAny (model X.prog X.w) X.A (spliced (backTo pos (starEach es X.env))) (AP X pins σ Q) X.xe s
def PS (X:Cx) (st:Stmt) (t:TS):Prop :=
 ∀ (pins:List (Addr×Obj)) (s:Shared) (σ:St) (H:Hp) (D:Ends),Inv X pins σ H s->t D σ H->wpAny (model X.prog X.w) X.A (exec st X.env) (SP X pins D) X.xe s
def PSs (X:Cx) (st:List Stmt) (t:TS):Prop :=
 ∀ (pins:List (Addr×Obj)) (s:Shared) (σ:St) (H:Hp) (D:Ends),Inv X pins σ H s->t D σ H->wpAny (model X.prog X.w) X.A (execs st X.env) (SP X pins D) X.xe s
theorem thn {α:Type} {t:Sem α} {Q Q':α->Shared->Prop} {M:Model} {A:Around} {E:Value->Shared->Prop} {s:Shared} (h:wpAny M A t Q E s) (hQ:∀ a s,Q a s->Q' a s):wpAny M A t Q' E s:=wpAny_mono h hQ fun _ _ x=>x
end L2
namespace L2
open PySem PySem.Spec PyProof.Rows
section
variable {X:Cx}
theorem bin {a b:Expr} {ta tb:TE} (ha:PE X a ta) (hb:PE X b tb) {pins:List (Addr×Obj)} {s:Shared} {σ:St} {H:Hp} {R:V->V->Hp->Prop} (I:Inv X pins σ H s) (h:ta σ H fun x H1=>tb σ H1 fun y H2=>R x y H2)
  {α:Type} {Q:α->Shared->Prop} {f:Value->Value->Sem α}
  (hf:∀ v u s2 x y H2,Inv X pins σ H2 s2->RelV x v->RelV y u->R x y H2->wpAny (model X.prog X.w) X.A (f v u) Q X.xe s2) :
  wpAny (model X.prog X.w) X.A (eval a X.env) (fun v s₁=>wpAny (model X.prog X.w) X.A (eval b X.env) (fun u s₂=>wpAny (model X.prog X.w) X.A (f v u) Q X.xe s₂) X.xe s₁) X.xe s:=by
 refine thn (ha pins s σ H _ I h) fun v s1 ⟨x,H1,I1,r1,q1⟩=>?_
 refine thn (hb pins s1 σ H1 _ I1 q1) fun u s2 ⟨y,H2,I2,r2,q2⟩=>?_
 exact hf v u s2 x y H2 I2 r1 r2 q2
def tVar (i:Nat):TE:=fun σ H Q=>∃ v,σ[i]?=some (some v)/\Q v H
def tC (v:V):TE:=fun _ H Q=>Q v H
theorem pe_var {i:Nat} {x:Str} {pos:Pos} (hN:X.N[i]?=some x) (hv:Vis X.env.scope x) (hd:(x==("__debug__":Str))=false:=by decide) (hcd:(x==("__classdict__":Str))=false:=by decide):PE X (.Name x pos) (tVar i):=by
 intro pins s σ H Q I h
 obtain ⟨v,e,h⟩:=h
 obtain ⟨m,hn,hl⟩:=I.loc
 obtain ⟨u,r,l⟩:=hl i x v hN e hv
 have fin:EP X pins σ Q u s:=⟨v,H,I,r,h⟩
 rcases l with ⟨hk,hm⟩ | ⟨hk,c,hc,hcell⟩
 ·exact wpAny_Name (wpAny_loadName_local I.ok.kind hk hn hm fin) hd
 ·rcases hk with hk | hk
  ·exact wpAny_Name (wpAny_loadName_cell I.ok.kind hk hc hcell fin) hd
  ·exact wpAny_Name (wpAny_loadName_free I.ok.kind hk hc hcell fin hcd) hd
theorem pe_int {i j pos}:PE X (.Constant (.int i) j pos) (tC (.int i)):=fun _ _ _ H _ I h=>wpAny_Constant_int ⟨.int i,H,I.tok _,⟨_,rfl⟩,h⟩
theorem pe_bl {b j pos}:PE X (.Constant (.bool b) j pos) (tC (.bl b)):=fun _ _ _ H _ I h=>Constant_bool ⟨.bl b,H,I,rfl,h⟩
theorem pe_non {j pos}:PE X (.Constant .none j pos) (tC .non):=fun _ _ _ H _ I h=>Constant_none ⟨.non,H,I,rfl,h⟩
theorem pe_str {x j pos}:PE X (.Constant (.str x) j pos) (tC (.str x)):=fun _ _ _ H _ I h=>Calls.Constant_str ⟨.str x,H,I.tok _,⟨_,rfl⟩,h⟩
def Gl (X:Cx) (x:Str):Prop:=X.env.kindOf x=some .globalImplicit
theorem ld_glob {E:Value->Shared->Prop} {pins:List (Addr×Obj)} {s:Shared} {σ:St} {H:Hp} {x:Str} {u:Value} {pos:Pos} {Q:Value->Shared->Prop} (I:Inv X pins σ H s) (hg:Gl X x) (hm:X.mg x=some u) (h:Q u s)
  (hd:(x==("__debug__":Str))=false:=by decide):wpAny (model X.prog X.w) X.A (eval (.Name x pos) X.env) Q E s :=
 Calls.Name_function_global I.ok.kind hg (Calls.loadGlobal_global (by rw [I.ok.glob];exact I.mod.glob.keeps I.bk) hm h) hd
theorem ld_blt {E:Value->Shared->Prop} {pins:List (Addr×Obj)} {s:Shared} {σ:St} {H:Hp} {x:Str} {u:Value} {pos:Pos} {Q:Value->Shared->Prop} (I:Inv X pins σ H s) (hg:Gl X x) (hm:X.mg x=none) (hv:bootBuiltins x=some u) (h:Q u s)
  (hn:x≠"__name__":=by decide) (hd:(x==("__debug__":Str))=false:=by decide):wpAny (model X.prog X.w) X.A (eval (.Name x pos) X.env) Q E s:=by
 obtain ⟨mb,h1,h2⟩:=I.mod.blt
 exact Calls.Name_function_global I.ok.kind hg (Calls.loadGlobal_builtin (by rw [I.ok.glob];exact I.mod.glob.keeps I.bk) hm (by rw [I.ok.blt];exact h1.keeps I.bk) ((h2 x hn).trans hv) h) hd
theorem pe_glob {x:Str} {v:V} {u:Value} {pos:Pos} (hg:Gl X x) (hm:X.mg x=some u) (r:RelV v u) (hd:(x==("__debug__":Str))=false:=by decide):PE X (.Name x pos) (tC v) :=
 fun _ _ _ H _ I h=>ld_glob I hg hm ⟨v,H,I,r,h⟩ hd
theorem pe_bltn {x:Str} {v:V} {u:Value} {pos:Pos} (hg:Gl X x) (hm:X.mg x=none) (hv:bootBuiltins x=some u) (r:RelV v u) (hn:x≠"__name__":=by decide) (hd:(x==("__debug__":Str))=false:=by decide):PE X (.Name x pos) (tC v) :=
 fun _ _ _ H _ I h=>ld_blt I hg hm hv ⟨v,H,I,r,h⟩ hn hd
variable {a b:Expr} {ta tb:TE} {pos:Pos}
def PC (X:Cx) (op:CmpOp) (a b:Expr) (t:TE):Prop :=
 ∀ (pins:List (Addr×Obj)) (s:Shared) (σ:St) (H:Hp) (Q:VK),Inv X pins σ H s->t σ H Q ->
  wpAny (model X.prog X.w) X.A (eval a X.env) (fun v s₁=>wpAny (model X.prog X.w) X.A (eval b X.env) (fun u s₂=>wpAny (model X.prog X.w) X.A (compareOp op v u) (EP X pins σ Q) X.xe s₂) X.xe s₁) X.xe s
theorem nobehind (b:Expr) {op:CmpOp} (h:op≠.In) (h2:op≠.NotIn):behindInMarks op b=false:=by
 have e1:(op==CmpOp.In)=false:=by cases op <;> first | rfl | exact absurd rfl h
 have e2:(op==CmpOp.NotIn)=false:=by cases op <;> first | rfl | exact absurd rfl h2
 cases b <;> simp [behindInMarks,e1,e2]
def tB (t:TE):TT:=fun σ H Q=>t σ H fun x H1=>∃ c,x=.bl c/\Q c H1
theorem pt_cmp {op:CmpOp} {t:TE} (h:PC X op a b t) (h1:behindInMarks op b=false:=by first | exact nobehind _ (by decide) (by decide) | rfl):PT X (.Compare a [op] [b] pos) (tB t):=by
 intro pins s σ H Q I hw
 refine wpAny_isTrue_Compare1 (thn (h pins s σ H _ I hw) fun v s1 h1=>thn h1 fun u s2 h2=>thn h2 fun c s3 ⟨x,H1,I1,r1,q1⟩=>?_) h1
 obtain ⟨d,rfl,q⟩:=q1
 cases r1
 exact wpAny_truthy_bool ⟨H1,I1,q⟩
theorem pt_val {e:Expr} {t:TE} (h:PE X e t) (he:∀ whole,isTrue e X.env whole=(do let v <- whole;standAt e.pos;holding [v] (truthy v)):=by intro _;rfl):PT X e (tB t):=by
 intro pins s σ H Q I hw
 refine isTrue_plain (thn (h pins s σ H _ I hw) fun v s1 ⟨x,H1,I1,r1,q1⟩=>?_) (he _)
 obtain ⟨d,rfl,q⟩:=q1
 cases r1
 exact wpAny_truthy_bool ⟨H1,I1,q⟩
variable {tA tB':TT} {rest:List Expr}
def tAnd (t u:TT):TT:=fun σ H Q=>t σ H fun c H1=>if c=true then u σ H1 Q else Q false H1
def tOr (t u:TT):TT:=fun σ H Q=>t σ H fun c H1=>if c=true then Q true H1 else u σ H1 Q
def tNot (t:TT):TT:=fun σ H Q=>t σ H fun c H1=>Q (!c) H1
theorem pw_and1 (ha:PT X a tA):PW X (.BoolOp .And [a] pos) tA:=by
 intro wh pins s σ H Q I h
 refine isTrue_and (thn (ha pins s σ H Q I h) fun c s1 e=>?_)
 cases c with
 | true=>exact isTrue_and_nil e
 | false=>exact e
theorem pw_or1 (ha:PT X a tA):PW X (.BoolOp .Or [a] pos) tA:=by
 intro wh pins s σ H Q I h
 refine isTrue_or (thn (ha pins s σ H Q I h) fun c s1 e=>?_)
 cases c with
 | false=>exact isTrue_or_nil e
 | true=>exact e
theorem pw_and (ha:PT X a tA) (hb:PW X (.BoolOp .And (b::rest) pos) tB'):PW X (.BoolOp .And (a::b::rest) pos) (tAnd tA tB'):=by
 intro wh pins s σ H Q I h
 refine isTrue_and (thn (ha pins s σ H _ I h) fun c s1 ⟨H1,I1,q1⟩=>?_)
 cases c with
 | true=>exact hb wh pins s1 σ H1 Q I1 q1
 | false=>exact ⟨H1,I1,q1⟩
theorem pw_or (ha:PT X a tA) (hb:PW X (.BoolOp .Or (b::rest) pos) tB'):PW X (.BoolOp .Or (a::b::rest) pos) (tOr tA tB'):=by
 intro wh pins s σ H Q I h
 refine isTrue_or (thn (ha pins s σ H _ I h) fun c s1 ⟨H1,I1,q1⟩=>?_)
 cases c with
 | true=>exact ⟨H1,I1,q1⟩
 | false=>exact hb wh pins s1 σ H1 Q I1 q1
theorem pt_not (ha:PT X a tA):PT X (.UnaryOp .Not a pos) (tNot tA):=by
 intro pins s σ H Q I h
 exact isTrue_not (ha pins s σ H (fun c H1=>Q (!c) H1) I h)
def tAndV (ta tb:TE):TE:=fun σ H Q=>ta σ H fun x H1=>∃ c,x=.bl c/\if c=true then tb σ H1 Q else Q (.bl false) H1
def tOrV (ta tb:TE):TE:=fun σ H Q=>ta σ H fun x H1=>∃ c,x=.bl c/\if c=true then Q (.bl true) H1 else tb σ H1 Q
def tNotV (ta:TE):TE:=fun σ H Q=>ta σ H fun x H1=>∃ c,x=.bl c/\Q (.bl (!c)) H1
theorem pe_one {op} {t:TE} (h:PE X a t):PE X (.BoolOp op [a] pos) t:=fun pins s σ H Q I hw=>BoolOp_one (h pins s σ H Q I hw)
theorem pe_and (ha:PE X a ta) (hb:PE X (.BoolOp .And (b::rest) pos) tb):PE X (.BoolOp .And (a::b::rest) pos) (tAndV ta tb):=by
 intro pins s σ H Q I h
 refine BoolOp_and (thn (ha pins s σ H _ I h) fun v s1 ⟨x,H1,I1,r1,q1⟩=>?_)
 obtain ⟨c,rfl,q1⟩:=q1
 cases r1
 refine wpAny_truthy_bool ?_
 cases c with
 | true=>exact hb pins s1 σ H1 Q I1 q1
 | false=>exact ⟨.bl false,H1,I1,rfl,q1⟩
theorem pe_or (ha:PE X a ta) (hb:PE X (.BoolOp .Or (b::rest) pos) tb):PE X (.BoolOp .Or (a::b::rest) pos) (tOrV ta tb):=by
 intro pins s σ H Q I h
 refine BoolOp_or (thn (ha pins s σ H _ I h) fun v s1 ⟨x,H1,I1,r1,q1⟩=>?_)
 obtain ⟨c,rfl,q1⟩:=q1
 cases r1
 refine wpAny_truthy_bool ?_
 cases c with
 | false=>exact hb pins s1 σ H1 Q I1 q1
 | true=>exact ⟨.bl true,H1,I1,rfl,q1⟩
theorem pe_not (ha:PE X a ta):PE X (.UnaryOp .Not a pos) (tNotV ta):=by
 intro pins s σ H Q I h
 refine UnaryOp_ (thn (ha pins s σ H _ I h) fun v s1 ⟨x,H1,I1,r1,q1⟩=>?_)
 obtain ⟨c,rfl,q1⟩:=q1
 cases r1
 exact not_of (wpAny_truthy_bool ⟨.bl (!c),H1,I1,rfl,q1⟩)
def tIf (t:TT) (ta tb:TE):TE:=fun σ H Q=>t σ H fun c H1=>if c=true then ta σ H1 Q else tb σ H1 Q
end
end L2
namespace L2
open PySem PySem.Spec PyProof.Rows
def SqL (K:W.Frag) (H:Hp) (a:Addr) (xs:List V):Prop :=
 Rd H a (.lst xs) \/
  ∃ (o:Obj) (its:Array Value) (n:Nat),K.lookup a=some o/\o.cls=.type "list"/\o.dict=none/\o.data=.seq its n/\its.size<=sizeLine/\Vals xs its.toList
def SqT (K:W.Frag) (H:Hp) (a:Addr) (xs:List V):Prop :=
 Rd H a (.tup xs) \/
  ∃ (o:Obj) (its:Array Value) (n:Nat),K.lookup a=some o/\o.cls=.type "tuple"/\o.data=.seq its n/\its.size<=sizeLine/\Vals xs its.toList
def absV:Value->Option V
 | .none=>some .non
 | .bool b=>some (.bl b)
 | .int i _=>some (.int i)
 | .str x _=>some (.str x)
 | .bytes b _=>some (.byt b)
 | .float b _=>some (.flt b)
 | .ref a=>some (.ref a)
 | .type n=>some (.ty n)
 | _=>none
theorem RelV.abs {x:V} {u:Value} (r:RelV x u):absV u=some x:=by
 cases x with
 | non=>cases r;rfl
 | bl _=>cases r;rfl
 | int _=>obtain ⟨t,rfl⟩:=r;rfl
 | str _=>obtain ⟨t,rfl⟩:=r;rfl
 | byt _=>obtain ⟨t,rfl⟩:=r;rfl
 | flt _=>obtain ⟨t,rfl⟩:=r;rfl
 | ref _=>cases r;rfl
 | ty _=>cases r;rfl
theorem RelV.inj {x y:V} {u:Value} (r:RelV x u) (q:RelV y u):x=y:=Option.some.inj (r.abs.symm.trans q.abs)
theorem Vals.inj:∀ {xs ys:List V} {us:List Value},Vals xs us->Vals ys us->xs=ys
 | _,_,_,.nil,.nil=>rfl
 | _,_,_,.cons r t,.cons r' t'=>by rw [r.inj r',Vals.inj t t']
section
variable {X:Cx} {pins:List (Addr×Obj)} {σ:St} {H:Hp} {s:Shared} {a:Addr} {xs ys:List V}
theorem SqL.of {K:W.Frag} (h:H a=some (.lst xs)):SqL K H a xs:=.inl (.inl h)
theorem SqT.of {K:W.Frag} (h:H a=some (.tup xs)):SqT K H a xs:=.inl (.inl h)
theorem Inv.list (I:Inv X pins σ H s) (h:SqL X.K H a xs):∃ its:List Value,Vals xs its/\PlainL s.heap a its.toArray/\xs.length<=sizeLine:=by
 rcases h with h | ⟨o,its,n,hk,hc,hd,hs,hz,r⟩
 ·obtain ⟨z,its,n,r,e⟩:=h.ok I.hok
  exact ⟨its,r,⟨_,n,e,rfl,rfl,rfl⟩,z⟩
 ·refine ⟨its.toList,r,⟨o,n,I.kIn a o hk,hc,hd,by simpa using hs⟩,?_⟩
  have e:=r.length
  simp only [Array.length_toList] at e
  omega
theorem Inv.tuple (I:Inv X pins σ H s) (h:SqT X.K H a xs):∃ its:List Value,Vals xs its/\IsTup s.heap a its.toArray/\xs.length<=sizeLine:=by
 rcases h with h | ⟨o,its,n,hk,hc,hs,hz,r⟩
 ·obtain ⟨z,its,r,p⟩:=h.ok I.hok
  exact ⟨its,r,p,z⟩
 ·refine ⟨its.toList,r,⟨o,I.kIn a o hk,hc,n,by simpa using hs⟩,?_⟩
  have e:=r.length
  simp only [Array.length_toList] at e
  omega
theorem Inv.list_inj (I:Inv X pins σ H s) (h:SqL X.K H a xs) (h':SqL X.K H a ys):xs=ys:=by
 obtain ⟨its,r,⟨o,n,e,_,_,d⟩,_⟩:=I.list h
 obtain ⟨its',r',⟨o',n',e',_,_,d'⟩,_⟩:=I.list h'
 rw [e] at e';cases e'
 rw [d] at d'
 injection d' with d1 _
 have:its=its':=by simpa using congrArg Array.toList d1
 subst this
 exact r.inj r'
theorem Inv.tuple_inj (I:Inv X pins σ H s) (h:SqT X.K H a xs) (h':SqT X.K H a ys):xs=ys:=by
 obtain ⟨its,r,⟨o,e,_,n,d⟩,_⟩:=I.tuple h
 obtain ⟨its',r',⟨o',e',_,n',d'⟩,_⟩:=I.tuple h'
 rw [e] at e';cases e'
 rw [d] at d'
 injection d' with d1 _
 have:its=its':=by simpa using congrArg Array.toList d1
 subst this
 exact r.inj r'
end
section
variable {X:Cx} {pins:List (Addr×Obj)} {σ:St} {H:Hp} {s:Shared} {E:Value->Shared->Prop}
end
section
variable {X:Cx} {st:Stmt} {rest:List Stmt} {t u:TS} {e:Expr} {te:TE} {pos:Pos}
def tNext:TS:=fun D σ H=>D.nx σ H
def tSeq (t u:TS):TS:=fun D σ H=>t { D with nx:=u D } σ H
theorem pss_nil:PSs X [] tNext:=fun _ _ σ H _ I h=>wpAny_execs_nil ⟨σ,H,I,h⟩
theorem pss_cons (h1:PS X st t) (h2:PSs X rest u):PSs X (st::rest) (tSeq t u):=by
 intro pins s σ H D I h
 refine wpAny_execs_cons (thn (h1 pins s σ H { D with nx:=u D } I h) fun f s1 q=>?_)
 cases f with
 | next =>
  obtain ⟨σ',H',I',q⟩:=q
  exact h2 pins s1 σ' H' D I' q
 | ret v=>exact q
 | brk=>exact q
 | cont=>exact q
theorem pss_one (h1:PS X st t):PSs X [st] t:=by
 intro pins s σ H D I h
 refine wpAny_execs_cons (thn (h1 pins s σ H D I h) fun f s1 q=>?_)
 cases f with
 | next=>exact wpAny_execs_nil q
 | ret v=>exact q
 | brk=>exact q
 | cont=>exact q
def tBreak:TS:=fun D σ H=>D.bk σ H
def tCont:TS:=fun D σ H=>D.ct σ H
theorem ps_pass:PS X (.Pass pos) tNext:=fun _ _ σ H _ I h=>wpAny_Pass ⟨σ,H,I,h⟩
theorem ps_break:PS X (.Break pos) tBreak:=fun _ _ σ H _ I h=>wpAny_Break ⟨σ,H,I,h⟩
theorem ps_continue:PS X (.Continue pos) tCont:=fun _ _ σ H _ I h=>wpAny_Continue ⟨σ,H,I,h⟩
theorem Inv.quiet {pins:List (Addr×Obj)} {σ:St} {H:Hp} {s:Shared} (I:Inv X pins σ H s):interactive X.env=false:=by simp [interactive,I.ok.kind]
def tDrop (te:TE):TS:=fun D σ H=>te σ H fun _ H1=>D.nx σ H1
theorem ps_expr (he:PE X e te) (hs:swapsWith e none pos.line X.env=pure false:=by rfl):PS X (.Expr e pos) (tDrop te):=by
 intro pins s σ H D I h
 exact wpAny_Expr_any (thn (he pins s σ H _ I h) fun v s1 ⟨x,H1,I1,r1,q1⟩=>⟨σ,H1,I1,q1⟩) I.quiet hs
def tRet (te:TE):TS:=fun D σ H=>te σ H D.rt
theorem ps_ret (he:PE X e te):PS X (.Return (some e) pos) (tRet te):=by
 intro pins s σ H D I h
 exact wpAny_Return_some (thn (he pins s σ H _ I h) fun v s1 ⟨x,H1,I1,r1,q1⟩=>⟨x,σ,H1,I1,r1,q1⟩)
def tIfS (c:TT) (t u:TS):TS:=fun D σ H=>c σ H fun b H1=>if b=true then t D σ H1 else u D σ H1
theorem ps_if {c:Expr} {a b:List Stmt} {tc:TT} (hc:PT X c tc) (ha:PSs X a t) (hb:PSs X b u):PS X (.If c a b pos) (tIfS tc t u):=by
 intro pins s σ H D I h
 refine wpAny_If (thn (hc pins s σ H _ I h) fun d s1 ⟨H1,I1,q1⟩=>?_)
 cases d with
 | true=>exact ha pins s1 σ H1 D I1 q1
 | false=>exact hb pins s1 σ H1 D I1 q1
end
abbrev TG:=V->St->Hp->(St->Hp->Prop)->Prop
abbrev TGs:=List V->St->Hp->(St->Hp->Prop)->Prop
def PG (X:Cx) (target:Expr) (t:TG):Prop :=
 ∀ (pins:List (Addr×Obj)) (s:Shared) (σ:St) (H:Hp) (v:V) (u:Value) (Q:St->Hp->Prop),Inv X pins σ H s->RelV v u->t v σ H Q ->
  wpAny (model X.prog X.w) X.A (assign target X.env u) (fun _ s'=>∃ σ' H',Inv X pins σ' H' s'/\Q σ' H') X.xe s
def PGs (X:Cx) (ts:List Expr) (t:TGs):Prop :=
 ∀ (pins:List (Addr×Obj)) (s:Shared) (σ:St) (H:Hp) (vs:List V) (us:List Value) (Q:St->Hp->Prop),Inv X pins σ H s->Vals vs us->t vs σ H Q ->
  wpAny (model X.prog X.w) X.A (assignInOrder ((assignEach ts X.env).map (·.2)) us) (fun _ s'=>∃ σ' H',Inv X pins σ' H' s'/\Q σ' H') X.xe s
section
variable {X:Cx} {pos:Pos}
def gName (i:Nat):TG:=fun v σ H Q=>Q (σ.set i (some v)) H
theorem pg_name {i:Nat} {x:Str} (hN:X.N.Nodup) (hi:X.N[i]?=some x) (hx:Loc X.env.scope x) (hf:X.fn x=true\/X.env.scope.names.lookup x=some .local:=by first | exact .inl rfl | exact .inr rfl | assumption):PG X (.Name x pos) (gName i):=by
 intro pins s σ H v u Q I r h
 exact wpAny_assign_Name (store_ok I hN hi hx r (fun s' I'=>⟨_,H,I',h⟩) hf)
def gNil:TGs:=fun vs σ H Q=>vs=[]/\Q σ H
def gCons (t:TG) (u:TGs):TGs:=fun vs σ H Q=>∃ v r,vs=v::r/\t v σ H fun σ' H'=>u r σ' H' Q
theorem pgs_nil:PGs X [] gNil:=by
 intro pins s σ H vs us Q I r h
 obtain ⟨e,h⟩:=h
 subst e
 cases r
 exact assignInOrder_nil ⟨σ,H,I,h⟩
theorem pgs_cons {e:Expr} {es:List Expr} {t:TG} {u:TGs} (h1:PG X e t) (h2:PGs X es u)
  (hs:(assignEach (e::es) X.env).map (·.2)=assign e X.env::(assignEach es X.env).map (·.2):=by rfl):PGs X (e::es) (gCons t u):=by
 intro pins s σ H vs us Q I r h
 obtain ⟨v,vr,e1,h⟩:=h
 subst e1
 cases r with
 | cons r rr =>
  rw [hs]
  refine assignInOrder_cons (thn (h1 pins s σ H _ _ _ I r h) fun _ s1 ⟨σ1,H1,I1,q1⟩=>?_)
  exact h2 pins s1 σ1 H1 _ _ Q I1 rr q1
def gTup (K:W.Frag) (n:Nat) (t:TGs):TG:=fun v σ H Q=>∃ a xs,v=.ref a/\SqT K H a xs/\xs.length=n/\t xs σ H Q
theorem pg_tup {es:List Expr} {k:Nat} {t:TGs} {n:Nat} (hc:X.calm=true) (h:PGs X es t)
  (hn:(assignEach es X.env).length=n:=by rfl) (hst:(assignEach es X.env).findIdx? (·.1)=none:=by rfl):PG X (.Tuple es k pos) (gTup X.K n t):=by
 intro pins s σ H v u Q I r hw
 obtain ⟨a,xs,e1,hq,hl,hw⟩:=hw
 subst e1
 cases r
 obtain ⟨its,rv,ht,hz⟩:=I.tuple hq
 refine assign_Tuple_tuple (I.ok.hd hc) ht (by simp [hn,<- hl,rv.length]) hst fun h' hx=>?_
 have I1:Inv X pins σ H { s with heap:=h' }:=I.kept (t':=s.toks) fun b o e=>hx b o (Nat.ne_of_lt (Heap.lt_size e)) e
 exact h pins _ σ H xs _ Q I1 (by simpa using rv) hw
def tAsg (te:TE) (g:TG):TS:=fun D σ H=>te σ H fun x H1=>g x σ H1 D.nx
theorem ps_set {i:Nat} {x:Str} {e:Expr} {te:TE} {pos':Pos} (hN:X.N.Nodup) (hi:X.N[i]?=some x) (hx:Loc X.env.scope x) (he:PE X e te) (hs:swapsWith e (some (.Name x pos')) pos.line X.env=pure false:=by rfl) (hf:X.fn x=true\/X.env.scope.names.lookup x=some .local:=by first | exact .inl rfl | exact .inr rfl | assumption) :
  PS X (.Assign [.Name x pos'] e pos) (tAsg te (gName i)):=by
 intro pins s σ H D I h
 refine wpAny_Assign_Name (thn (he pins s σ H _ I h) fun v s1 ⟨y,H1,I1,r1,q1⟩=>?_) hs
 exact store_ok I1 hN hi hx r1 (fun s2 I2=>⟨_,H1,I2,q1⟩) hf
end
section
variable {X:Cx} {pos:Pos}
end
structure It where
 go:Nat->Hp->Prop
 yld:Nat->Hp->V->Hp->Prop
 stop:Nat->Hp->Prop
def FpOk (X:Cx) (pins:List (Addr×Obj)) (H:Hp) (b:Addr):Prop :=
 H b=none/\b≠X.env.locals/\b∉X.fs/\(b∈X.ex\/X.s₀.heap.objs.size<=b)/\(∀ x c,X.env.cells.lookup x=some c->c≠b)/\∀ p∈X.pn++pins,p.1≠b
theorem Inv.fpOk {X:Cx} {pins:List (Addr×Obj)} {σ:St} {H H':Hp} {s:Shared} {b:Addr} (I:Inv X pins σ H s) (hb:s.heap.objs.size<=b) (hn:H' b=none):FpOk X pins H' b:=by
 refine ⟨hn,Nat.ne_of_gt (Nat.lt_of_lt_of_le I.lt hb),I.nofs hb,.inr (Nat.le_trans I.sz hb),fun x c e z=>?_,fun p hp z=>?_⟩
 ·obtain ⟨v,q⟩:=I.cell x c e
  exact absurd (Nat.lt_of_lt_of_le q.lt (by rw [z];exact hb)) (Nat.lt_irrefl _)
 ·exact absurd (Nat.lt_of_lt_of_le (Heap.lt_size (I.pin p hp).1) (by rw [z];exact hb)) (Nat.lt_irrefl _)
structure Turn (P:Program) (w:World) (K:W.Frag) (tg:Expr) (J:It) (fp:List Addr) (it:Addr) (tn:Nat->Heap->Prop):Prop where
 mem:it∈fp
 obj:∀ i h,tn i h->∀ b∈fp,∃ o,h.get? b=some o/\∀ v,o.data≠.cell v
 keep:∀ i h h',tn i h->(∀ b∈fp,∀ o,h.get? b=some o->h'.get? b=some o)->tn i h'
 item:∀ (X:Cx),X.prog=P->X.w=w->X.K=K->X.calm=true->∀ (i:Nat) (pins:List (Addr×Obj)) (s:Shared) (σ:St) (H:Hp) (E:Value->Shared->Prop),Inv X pins σ H s->(∀ b∈fp,FpOk X pins H b)->tn i s.heap->J.go i H ->
  wpAny (model P w) X.A (pyNext (.ref it)) (fun r s1=>∃ u,r=some u /\
   wpAny (model P w) X.A (letOwnedTupleGo tg (.ref it) u) (fun _ s2=>∃ x H',Inv X pins σ H' s2/\RelV x u/\J.yld i H x H'/\tn (i+1) s2.heap/\∀ b∈fp,H' b=none) E s1) E s
 done:∀ (X:Cx),X.prog=P->X.w=w->X.K=K->X.calm=true->∀ (i:Nat) (pins:List (Addr×Obj)) (s:Shared) (σ:St) (H:Hp) (E:Value->Shared->Prop),Inv X pins σ H s->(∀ b∈fp,FpOk X pins H b)->tn i s.heap->J.stop i H ->
  wpAny (model P w) X.A (pyNext (.ref it)) (fun r s1=>r=none/\Inv X pins σ H s1) E s
 self:∀ (A:Around) (i:Nat) (s:Shared) (Q:Value->Shared->Prop) (E:Value->Shared->Prop),tn i s.heap->Q (.ref it) s->wpAny (model P w) A (pyIter (.ref it)) Q E s
abbrev TI:=St->Hp->(It->Hp->Prop)->Prop
def PIE (X:Cx) (pins:List (Addr×Obj)) (σ:St) (tg:Expr) (R:It->Hp->Prop) (itv:Value) (s2:Shared):Prop :=
 ∃ (it:Addr) (fp:List Addr) (tn:Nat->Heap->Prop) (J:It) (H':Hp),itv=.ref it/\Inv X pins σ H' s2/\Turn X.prog X.w X.K tg J fp it tn/\tn 0 s2.heap/\(∀ b∈fp,FpOk X pins H' b)/\R J H'
def PI (X:Cx) (tg iter:Expr) (wi:TI):Prop :=
 ∀ (pins:List (Addr×Obj)) (s:Shared) (σ:St) (H:Hp) (R:It->Hp->Prop),Inv X pins σ H s->wi σ H R ->
  wpAny (model X.prog X.w) X.A (eval iter X.env) (fun v s1=>wpAny (model X.prog X.w) X.A (pyIter v) (PIE X pins σ tg R) X.xe s1) X.xe s
theorem go_of {M : Model} {A : Around} {E : Value -> Shared -> Prop} {s : Shared} {tg : Expr} {it : Addr} {u : Value} {o : Obj} {n : String} {vs : Array Value} {Q : Unit -> Shared -> Prop} (ho : s.heap.get? it = some o) (hc : o.cls = .type n) (hd : o.data = .fields vs)
    (hn : ["enumerate", "zip", "dict_itemiterator", "dict_reverseitemiterator", "odict_iterator", "itertools.zip_longest", "itertools.pairwise"].contains n = false) (hQ : Q () s) : wpAny M A (letOwnedTupleGo tg (.ref it) u) Q E s := by
  unfold letOwnedTupleGo
  cases tg <;> first
    | exact wpAny_pure hQ
    | (cases u <;> first
        | exact wpAny_pure hQ
        | (refine wpAny_bind (wpAny_load ho ?_)
           rw [hc, hd]
           show wpAny M A (if (["enumerate", "zip", "dict_itemiterator", "dict_reverseitemiterator", "odict_iterator", "itertools.zip_longest", "itertools.pairwise"].contains n && vs[0]? == some (rawInt _)) = true then _ else _) Q E s
           rw [if_neg (by intro h; rw [hn, Bool.false_and] at h; cases h)]
           exact wpAny_pure hQ))
def Itl (K:W.Frag) (a:Addr):It :=
 ⟨fun i H=>∃ xs x,SqL K H a xs/\xs[i]?=some x,fun i H x H'=>H'=H/\∀ xs,SqL K H a xs->xs[i]?=some x,fun i H=>∃ xs,SqL K H a xs/\xs.length<=i⟩
def Itt (K:W.Frag) (a:Addr):It :=
 ⟨fun i H=>∃ xs x,SqT K H a xs/\xs[i]?=some x,fun i H x H'=>H'=H/\∀ xs,SqT K H a xs->xs[i]?=some x,fun i H=>∃ xs,SqT K H a xs/\xs.length<=i⟩
def Itr (lo:Int) (n:Nat):It:=⟨fun i _=>i < n,fun i H x H'=>H'=H/\x=.int (lo+i),fun i _=>n<=i⟩
theorem turn_list {P:Program} {w:World} {K:W.Frag} {tg:Expr} (a it:Addr):Turn P w K tg (Itl K a) [it] it (fun i h=>h.IsListIter it a i) where
 mem:=by simp
 obj:=fun i h st b hb=>by
  have e:b=it:=by simpa using hb
  subst e
  obtain ⟨o,e,c,d⟩:=st
  exact ⟨o,e,fun v z=>by rw [d] at z;cases z⟩
 keep:=fun i h h' st k=>st.at fun o e=>k it (by simp) o e
 item:=by
  intro X hP hw hK hc i pins s σ H E I hf st hg
  subst hP hw hK
  obtain ⟨xs,x,hq,hx⟩:=hg
  obtain ⟨its,rv,p,hz⟩:=I.list hq
  obtain ⟨u,hu,ru⟩:=rv.get hx
  obtain ⟨f0,f1,f2,f3,f4,f5⟩:=hf it (by simp)
  refine wpAny_pyNext_list_item st p.isList (x:=u) (by simpa using hu) fun h' st' sb=>?_
  have I1:Inv X pins σ H { s with heap:=h' }:=I.turned (t':=s.toks) (fun b o hb e=>(sb.2 b hb).trans e) f0 f1 f3 f4 f5
  obtain ⟨o,e,c,d⟩:=id st'
  exact ⟨u,rfl,go_of (s:={ s with heap:=h' }) e c d (by decide) ⟨x,H,I1,ru,⟨rfl,fun ys hy=>by rw [I.list_inj hy hq];exact hx⟩,st',fun b hb=>(hf b hb).1⟩⟩
 done:=by
  intro X hP hw hK hc i pins s σ H E I hf st hg
  subst hP hw hK
  obtain ⟨xs,hq,hx⟩:=hg
  obtain ⟨its,rv,p,hz⟩:=I.list hq
  obtain ⟨f0,f1,f2,f3,f4,f5⟩:=hf it (by simp)
  have hl:=rv.length
  exact wpAny_pyNext_list_end (I.ok.hd hc) st p.isList (by simp;omega) fun h' eb=>⟨rfl,I.turned (t':=s.toks) (fun b o hb e=>eb b o hb e) f0 f1 f3 f4 f5⟩
 self:=fun _ _ _ _ _ st h=>wpAny_pyIter_listiter st h
theorem turn_tuple {P:Program} {w:World} {K:W.Frag} {tg:Expr} (a it:Addr):Turn P w K tg (Itt K a) [it] it (fun i h=>h.IsTupleIter it a i) where
 mem:=by simp
 obj:=fun i h st b hb=>by
  have e:b=it:=by simpa using hb
  subst e
  obtain ⟨o,e,c,d⟩:=st
  exact ⟨o,e,fun v z=>by rw [d] at z;cases z⟩
 keep:=fun i h h' st k=>st.at fun o e=>k it (by simp) o e
 item:=by
  intro X hP hw hK hc i pins s σ H E I hf st hg
  subst hP hw hK
  obtain ⟨xs,x,hq,hx⟩:=hg
  obtain ⟨its,rv,p,hz⟩:=I.tuple hq
  obtain ⟨u,hu,ru⟩:=rv.get hx
  obtain ⟨f0,f1,f2,f3,f4,f5⟩:=hf it (by simp)
  refine wpAny_pyNext_tuple_item st (show s.heap.IsTuple a its.toArray from p) (x:=u) (by simpa using hu) fun h' st' sb=>?_
  have I1:Inv X pins σ H { s with heap:=h' }:=I.turned (t':=s.toks) (fun b o hb e=>(sb.2 b hb).trans e) f0 f1 f3 f4 f5
  obtain ⟨o,e,c,d⟩:=id st'
  exact ⟨u,rfl,go_of (s:={ s with heap:=h' }) e c d (by decide) ⟨x,H,I1,ru,⟨rfl,fun ys hy=>by rw [I.tuple_inj hy hq];exact hx⟩,st',fun b hb=>(hf b hb).1⟩⟩
 done:=by
  intro X hP hw hK hc i pins s σ H E I hf st hg
  subst hP hw hK
  obtain ⟨xs,hq,hx⟩:=hg
  obtain ⟨its,rv,p,hz⟩:=I.tuple hq
  obtain ⟨f0,f1,f2,f3,f4,f5⟩:=hf it (by simp)
  have hl:=rv.length
  exact wpAny_pyNext_tuple_end (I.ok.hd hc) st (show s.heap.IsTuple a its.toArray from p) (by simp;omega) fun h' eb=>⟨rfl,I.turned (t':=s.toks) (fun b o hb e=>eb b o hb e) f0 f1 f3 f4 f5⟩
 self:=fun _ _ _ _ _ st h=>wpAny_pyIter_tupleiter st h
theorem turn_range {P:Program} {w:World} {K:W.Frag} {tg:Expr} (it:Addr) (lo:Int) (n:Nat):Turn P w K tg (Itr lo n) [it] it (fun i h=>IsRangeIter h it (lo+(i:Nat) * 1) ((n:Int) - (i:Nat)) 1) where
 mem:=by simp
 obj:=fun i h st b hb=>by
  have e:b=it:=by simpa using hb
  subst e
  exact ⟨_,st,fun v z=>by
   have z':Data.fields _=Data.cell v:=z
   cases z'⟩
 keep:=fun i h h' st k=>k it (by simp) _ st
 item:=by
  intro X hP hw hK hc i pins s σ H E I hf st hg
  subst hP hw hK
  obtain ⟨f0,f1,f2,f3,f4,f5⟩:=hf it (by simp)
  have W:=Walks.range (prog:=X.prog) (w:=X.w) (I.ok.hd hc) it lo 1 n
  refine W.item i s _ _ hg st fun v h' tk hv st' kk=>?_
  obtain ⟨t,rfl⟩:=hv
  have I1:Inv X pins σ H { s with heap:=h',toks:=tk }:=I.turned (fun b o hb e=>kk b o (by simpa using hb) e) f0 f1 f3 f4 f5
  refine ⟨_,rfl,go_of (s:={ s with heap:=h',toks:=tk }) (n:="range_iterator") st' rfl rfl (by decide) ⟨.int (lo+i),H,I1,⟨t,?_⟩,⟨rfl,rfl⟩,st',fun b hb=>(hf b hb).1⟩⟩
  rw [Int.mul_one]
 done:=by
  intro X hP hw hK hc i pins s σ H E I hf st hg
  subst hP hw hK
  obtain ⟨f0,f1,f2,f3,f4,f5⟩:=hf it (by simp)
  exact wpAny_pyNext_range_end (I.ok.hd hc) st (by have:n<=i:=hg;omega) fun h' eb=>⟨rfl,I.turned (t':=s.toks) (fun b o hb e=>eb b o hb e) f0 f1 f3 f4 f5⟩
 self:=fun _ _ _ _ _ st h=>wpAny_pyIter_rangeiter st h
end L2
namespace L2
open PySem PySem.Spec PyProof.Rows
section
variable {X:Cx} {tg:Expr}
theorem range_it {pins:List (Addr×Obj)} {σ:St} {H:Hp} {s:Shared} {R:It->Hp->Prop} {E:Value->Shared->Prop} {lo hi:Int} {t u v:Tok} {tk:Nat} (I:Inv X pins σ H s) (h1:-(2 ^ 62)<=lo) (h2:lo < 2 ^ 62) (h3:-(2 ^ 62)<=hi) (h4:hi < 2 ^ 62)
  (q:R (Itr lo (hi - lo).toNat) H):wpAny (model X.prog X.w) X.A (pyIter (.ref s.heap.objs.size)) (PIE X pins σ tg R) E { s with heap:=s.heap.push { cls:=.type "range",data:=.fields #[.int lo t,.int hi u,.int 1 v] },toks:=tk }:=by
 refine wpAny_pyIter_range (IsRange.new ..) (small_one h1 h2 h3 h4) ?_
 have I1:Inv X pins σ H { s with heap:=s.heap.push { cls:=.type "range",data:=.fields #[.int lo t,.int hi u,.int 1 v] },toks:=tk }:=I.kept fun b o e=>Heap.get?_push_of_some _ e
 refine ⟨(s.heap.push { cls:=.type "range",data:=.fields #[.int lo t,.int hi u,.int 1 v] }).objs.size,[(s.heap.push { cls:=.type "range",data:=.fields #[.int lo t,.int hi u,.int 1 v] }).objs.size],_,_,H,rfl,
  I1.kept (t':=tk) fun b o e=>Heap.get?_push_of_some _ e,turn_range _ lo (hi - lo).toNat,?_,fun b hb=>?_,q⟩
 ·have e1:lo+((0:Nat):Int) * 1=lo:=by simp
  have e2:(((hi - lo).toNat:Nat):Int) - ((0:Nat):Int)=Builtin.Range.rangeSize lo hi 1:=by rw [rangeSize_one];split <;> omega
  show IsRangeIter _ _ (lo+((0:Nat):Int) * 1) ((((hi - lo).toNat:Nat):Int) - ((0:Nat):Int)) 1
  rw [e1,e2]
  exact Heap.get?_push_size _ rfl
 ·have e:b=(s.heap.push { cls:=.type "range",data:=.fields #[.int lo t,.int hi u,.int 1 v] }).objs.size:=by simpa using hb
  subst e
  exact I1.fpOk (Nat.le_refl _) (I1.hok.fresh (Nat.le_refl _))
def iRng1 (ta:TA):TI:=fun σ H R=>ta σ H fun vs H1=>∃ j:Int,vs=[.int j]/\-(2 ^ 62)<=j/\j < 2 ^ 62/\R (Itr 0 j.toNat) H1
def iRng2 (ta:TA):TI:=fun σ H R=>ta σ H fun vs H1=>∃ i j:Int,vs=[.int i,.int j]/\(-(2 ^ 62)<=i/\i < 2 ^ 62/\-(2 ^ 62)<=j/\j < 2 ^ 62)/\R (Itr i (j - i).toNat) H1
theorem pi_range1 {a:Expr} {ta:TA} {p pos:Pos} (hg:Gl X "range") (hm:X.mg "range"=none) (ha:PA X [a] ta) (hs:starEach [a] X.env=[(false,eval a X.env)]:=by rfl):PI X tg (.Call (.Name "range" p) [a] [] pos) (iRng1 ta):=by
 intro pins s σ H R I h
 refine Call_ (ld_blt I hg hm boot_range (PyProof.Rows.callWith_type1 (thn (ha pos pins s σ H _ I h) fun us s1 ⟨vs,H1,I1,r1,q1⟩=>?_) hs rfl))
 obtain ⟨j,e,q1,q2,q⟩:=q1
 subst e
 cases r1 with
 | cons r rr =>
  cases rr
  obtain ⟨t,rfl⟩:=r
  exact call_range_1 (range_it I1 (by omega) (by omega) q1 q2 (by simpa using q))
theorem pi_range2 {a b:Expr} {ta:TA} {p pos:Pos} (hg:Gl X "range") (hm:X.mg "range"=none) (ha:PA X [a,b] ta) (hs:starEach [a,b] X.env=[(false,eval a X.env),(false,eval b X.env)]:=by rfl) (hs2:starEach [b] X.env=[(false,eval b X.env)]:=by rfl) :
  PI X tg (.Call (.Name "range" p) [a,b] [] pos) (iRng2 ta):=by
 intro pins s σ H R I h
 refine Call_ (ld_blt I hg hm boot_range (PyProof.Rows.callWith_type1 (thn (ha pos pins s σ H _ I h) fun us s1 ⟨vs,H1,I1,r1,q1⟩=>?_) (by rw [hs,hs2]) (by rw [hs2];rfl)))
 obtain ⟨i,j,e,⟨q1,q2,q3,q4⟩,q⟩:=q1
 subst e
 cases r1 with
 | cons r rr =>
  cases rr with
  | cons r' rr =>
   cases rr
   obtain ⟨t,rfl⟩:=r
   obtain ⟨t',rfl⟩:=r'
   exact call_range_2 (range_it I1 q1 q2 q3 q4 q)
def tFor (wi:TI) (g:TG) (tb:TS):TS:=fun D σ H=>wi σ H fun J H1=>∃ W:Nat->Nat->St->Hp->Prop,(∃ m,W 0 m σ H1)/\∀ i m σ H,W i m σ H ->
 (J.stop i H/\D.nx σ H)\/(J.go i H/\∃ N:St->Hp->Prop,(∀ σ' H',N σ' H'->∃ m',m' < m/\W (i+1) m' σ' H')/\∀ x H',J.yld i H x H'->g x σ H' fun σ2 H2=>tb { D with nx:=N,ct:=N,bk:=D.nx } σ2 H2)
def pinsAt (fp:List Addr) (h:Heap):List (Addr×Obj):=fp.filterMap fun b=>(h.get? b).map fun o=>(b,o)
theorem mem_pinsAt {fp:List Addr} {h:Heap} {b:Addr} {o:Obj} (hb:b∈fp) (e:h.get? b=some o):(b,o)∈pinsAt fp h:=List.mem_filterMap.mpr ⟨b,hb,by rw [e];rfl⟩
theorem of_pinsAt {fp:List Addr} {h:Heap} {p:Addr×Obj} (hp:p∈pinsAt fp h):p.1∈fp/\h.get? p.1=some p.2:=by
 obtain ⟨b,hb,e⟩:=List.mem_filterMap.mp hp
 cases q:h.get? b with
 | none=>rw [q] at e;cases e
 | some o =>
  rw [q] at e
  have e':(b,o)=p:=Option.some.inj e
  subst e'
  exact ⟨hb,q⟩
theorem Inv.pinned {pins:List (Addr×Obj)} {σ:St} {H:Hp} {s:Shared} {fp:List Addr} (I:Inv X pins σ H s) (hf:∀ b∈fp,FpOk X pins H b) (ho:∀ b∈fp,∃ o,s.heap.get? b=some o/\∀ v,o.data≠.cell v):Inv X (pins++pinsAt fp s.heap) σ H s :=
 I.pins_of fun p hp=>(List.mem_append.mp hp).elim (fun z=>I.pin p (List.mem_append_right _ z)) fun z=>by
  obtain ⟨hb,e⟩:=of_pinsAt z
  obtain ⟨f0,f1,f2,_⟩:=hf p.1 hb
  obtain ⟨o,e',d⟩:=ho p.1 hb
  rw [e] at e';cases e'
  exact ⟨e,f0,f1,f2,d⟩
theorem Inv.unpinned {pins pl:List (Addr×Obj)} {σ:St} {H:Hp} {s:Shared} (I:Inv X (pins++pl) σ H s):Inv X pins σ H s:=I.pins_of fun p hp=>I.pin p (List.mem_append_right _ (List.mem_append_left _ hp))
theorem ps_for {iter:Expr} {body:List Stmt} {wi:TI} {g:TG} {tb:TS} {pos:Pos} (hp:PassesOwn (model X.prog X.w) X.A X.env X.xe) (hc:X.calm=true) (hi:PI X tg iter wi) (hg:PG X tg g) (hb:PSs X body tb)
  (hs:∀ x,foldedSetIterable iter X.env x=pure x:=by intro _;rfl):PS X (.For tg iter body [] pos) (tFor wi g tb):=by
 intro pins s σ H D I h
 refine wpAny_For (thn (hi pins s σ H _ I h) fun v s1 h1=>thn h1 fun itv s2 h2=>?_) hs
 obtain ⟨it,fp,tn,J,H2,e,I2,T,st2,f2,W,⟨m0,w0⟩,turn⟩:=h2
 subst e
 have stat:∀ {H':Hp},(∀ b∈fp,H' b=none)->∀ b∈fp,FpOk X pins H' b:=fun hn b hb=>⟨hn b hb,(f2 b hb).2⟩
 refine codeAny_forLoop_any (fun n s'=>∃ i σ' H',Inv X pins σ' H' s'/\tn i s'.heap/\(∀ b∈fp,H' b=none)/\W i n σ' H') ?_ m0 ⟨0,σ,H2,I2,st2,fun b hb=>(f2 b hb).1,w0⟩
 rintro n s3 ⟨i,σ3,H3,I3,st3,fr3,w3⟩
 rcases turn i n σ3 H3 w3 with ⟨stop,qn⟩ | ⟨go,N,hN,step⟩
 ·refine wpAny_passesOwn hp (thn (T.done X rfl rfl rfl hc i pins s3 σ3 H3 X.xe I3 (stat fr3) st3 stop) fun r s4 ⟨hr,I4⟩=>?_)
  subst hr
  exact wpAny_execs_nil ⟨σ3,H3,I4,qn⟩
 ·refine wpAny_passesOwn hp (thn (T.item X rfl rfl rfl hc i pins s3 σ3 H3 X.xe I3 (stat fr3) st3 go) fun r s4 ⟨u,hr,h4⟩=>?_)
  subst hr
  refine wpAny_passesOwn hp (thn h4 fun _ s5 ⟨x,H5,I5,r5,y5,st5,fr5⟩=>?_)
  have I5':=I5.pinned (stat fr5) (T.obj _ _ st5)
  refine wpAny_passesOwn hp (thn (hg _ s5 σ3 H5 x u _ I5' r5 (step x H5 y5)) fun _ s6 ⟨σ6,H6,I6,q6⟩=>?_)
  refine wpAny_passesOwn hp (thn (hb _ s6 σ6 H6 _ I6 q6) fun f s7 q7=>?_)
  have again:∀ {σ7:St} {H7:Hp},Inv X (pins++pinsAt fp s5.heap) σ7 H7 s7->N σ7 H7->∃ m,m < n/\∃ i σ' H',Inv X pins σ' H' s7/\tn i s7.heap/\(∀ b∈fp,H' b=none)/\W i m σ' H':=fun {σ7 H7} I7 n7=>by
   obtain ⟨m',hm,w7⟩:=hN σ7 H7 n7
   refine ⟨m',hm,i+1,σ7,H7,I7.unpinned,T.keep _ _ _ st5 fun b hb o e=>(I7.pin (b,o) (List.mem_append_right _ (List.mem_append_right _ (mem_pinsAt hb e)))).1,fun b hb=>?_,w7⟩
   obtain ⟨o,e,d⟩:=T.obj _ _ st5 b hb
   exact (I7.pin (b,o) (List.mem_append_right _ (List.mem_append_right _ (mem_pinsAt hb e)))).2.1
  cases f with
  | next=>obtain ⟨σ7,H7,I7,n7⟩:=q7;exact again I7 n7
  | cont=>obtain ⟨σ7,H7,I7,n7⟩:=q7;exact again I7 n7
  | brk=>obtain ⟨σ7,H7,I7,q7⟩:=q7;exact ⟨σ7,H7,I7.unpinned,q7⟩
  | ret v=>obtain ⟨x7,σ7,H7,I7,r7,q7⟩:=q7;exact ⟨x7,σ7,H7,I7.unpinned,r7,q7⟩
end
end L2
namespace L2
open PySem PySem.Spec PyProof.Rows
abbrev R2:=V->V->Hp->VK->Prop
def OpR (X:Cx) (f:Value->Value->Sem Value) (r:R2):Prop :=
 ∀ (pins:List (Addr×Obj)) (s:Shared) (σ:St) (H:Hp) (x y:V) (v u:Value) (Q:VK),Inv X pins σ H s->RelV x v->RelV y u->r x y H Q ->
  wpAny (model X.prog X.w) X.A (f v u) (EP X pins σ Q) X.xe s
def UnR (X:Cx) (f:Value->Sem Value) (r:V->Hp->VK->Prop):Prop :=
 ∀ (pins:List (Addr×Obj)) (s:Shared) (σ:St) (H:Hp) (x:V) (v:Value) (Q:VK),Inv X pins σ H s->RelV x v->r x H Q ->
  wpAny (model X.prog X.w) X.A (f v) (EP X pins σ Q) X.xe s
def CallR (X:Cx) (f:Value) (r:List V->Hp->VK->Prop):Prop :=
 ∀ (pins:List (Addr×Obj)) (s:Shared) (σ:St) (H:Hp) (xs:List V) (us:List Value) (Q:VK),Inv X pins σ H s->Vals xs us->r xs H Q ->
  wpAny (model X.prog X.w) X.A (call f us) (EP X pins σ Q) X.xe s
def tOp (r:R2) (ta tb:TE):TE:=fun σ H Q=>ta σ H fun x H1=>tb σ H1 fun y H2=>r x y H2 Q
def tUn (r:V->Hp->VK->Prop) (ta:TE):TE:=fun σ H Q=>ta σ H fun x H1=>r x H1 Q
def rI (C:Int->Int->Prop) (g:Int->Int->V):R2:=fun x y H Q=>∃ i j,x=.int i/\y=.int j/\C i j/\Q (g i j) H
def rI0 (g:Int->Int->V):R2:=fun x y H Q=>∃ i j,x=.int i/\y=.int j/\Q (g i j) H
def rU (g:Int->V):V->Hp->VK->Prop:=fun x H Q=>∃ i,x=.int i/\Q (g i) H
section
variable {X:Cx} {a b c:Expr} {ta tb tc:TE} {pos:Pos}
theorem binT (ha:PE X a ta) (hb:PE X b tb) {pins:List (Addr×Obj)} {s:Shared} {σ:St} {H:Hp} {R:V->V->Hp->Prop} (I:Inv X pins σ H s)
  (h:ta σ H fun x H1=>tb σ H1 fun y H2=>R x y H2) {Q:Value->Shared->Prop} {f:Value->Value->Sem Value}
  (hf:∀ v u s2 x y H2,Inv X pins σ H2 s2->RelV x v->RelV y u->R x y H2->wpAny (model X.prog X.w) X.A (f v u) Q X.xe s2) :
  wpAny (model X.prog X.w) X.A (eval a X.env) (fun v s₁=>wpAny (model X.prog X.w) X.A (eval b X.env) (fun u s₂=>wpAny (model X.prog X.w) X.A (f v u) Q X.xe s₂) X.xe s₁) X.xe s:=by
 refine thn (ha pins s σ H _ I h) fun v s1 ⟨x,H1,I1,r1,q1⟩=>?_
 refine thn (hb pins s1 σ H1 _ I1 q1) fun u s2 ⟨y,H2,I2,r2,q2⟩=>?_
 exact hf v u s2 x y H2 I2 r1 r2 q2
theorem pe_op {op:Operator} {r:R2} (ho:OpR X (binaryOp op) r) (ha:PE X a ta) (hb:PE X b tb):PE X (.BinOp a op b pos) (tOp r ta tb):=by
 intro pins s σ H Q I h
 exact wpAny_BinOp (binT ha hb I h fun v u s2 x y H2 I2 rx ry q=>ho pins s2 σ H2 x y v u Q I2 rx ry q)
theorem pe_un {op:UnaryOp} {r:V->Hp->VK->Prop} (ho:UnR X (unaryOp op) r) (ha:PE X a ta):PE X (.UnaryOp op a pos) (tUn r ta):=by
 intro pins s σ H Q I h
 exact UnaryOp_ (thn (ha pins s σ H _ I h) fun v s1 ⟨x,H1,I1,r1,q1⟩=>ho pins s1 σ H1 x v Q I1 r1 q1)
theorem opI {f:Value->Value->Sem Value} {C:Int->Int->Prop} {g:Int->Int->Int}
  (rule:∀ (i j:Int) (t u:Tok) (s:Shared) (Q:Value->Shared->Prop) (E:Value->Shared->Prop),C i j->Q (.int (g i j) s.toks) { s with toks:=s.toks+1 }->wpAny (model X.prog X.w) X.A (f (.int i t) (.int j u)) Q E s) :
  OpR X f (rI C fun i j=>.int (g i j)):=by
 intro pins s σ H x y v u Q I rx ry h
 obtain ⟨i,j,rfl,rfl,hc,q⟩:=h
 obtain ⟨t,rfl⟩:=rx
 obtain ⟨t',rfl⟩:=ry
 exact rule i j t t' s _ _ hc ⟨.int (g i j),H,I.tok _,⟨_,rfl⟩,q⟩
theorem opI0 {f:Value->Value->Sem Value} {g:Int->Int->Int}
  (rule:∀ (i j:Int) (t u:Tok) (s:Shared) (Q:Value->Shared->Prop) (E:Value->Shared->Prop),Q (.int (g i j) s.toks) { s with toks:=s.toks+1 }->wpAny (model X.prog X.w) X.A (f (.int i t) (.int j u)) Q E s) :
  OpR X f (rI0 fun i j=>.int (g i j)):=by
 intro pins s σ H x y v u Q I rx ry h
 obtain ⟨i,j,rfl,rfl,q⟩:=h
 obtain ⟨t,rfl⟩:=rx
 obtain ⟨t',rfl⟩:=ry
 exact rule i j t t' s _ _ ⟨.int (g i j),H,I.tok _,⟨_,rfl⟩,q⟩
theorem opB0 {f:Value->Value->Sem Value} {g:Int->Int->Bool}
  (rule:∀ (i j:Int) (t u:Tok) (s:Shared) (Q:Value->Shared->Prop) (E:Value->Shared->Prop),Q (.bool (g i j)) s->wpAny (model X.prog X.w) X.A (f (.int i t) (.int j u)) Q E s) :
  OpR X f (rI0 fun i j=>.bl (g i j)):=by
 intro pins s σ H x y v u Q I rx ry h
 obtain ⟨i,j,rfl,rfl,q⟩:=h
 obtain ⟨t,rfl⟩:=rx
 obtain ⟨t',rfl⟩:=ry
 exact rule i j t t' s _ _ ⟨.bl (g i j),H,I,rfl,q⟩
def CDiv (i j:Int):Prop:=0 < j/\j < 1073741824
def CMul (i j:Int):Prop:=(-(2 ^ 64) < i/\i < 2 ^ 64)\/(-(2 ^ 64) < j/\j < 2 ^ 64)
theorem CMul.ok {i j:Int} (h:CMul i j):IntMulOk i j:=by
 rcases h with ⟨h1,h2⟩ | ⟨h1,h2⟩
 ·exact .of_left (intBits_le_64 h1 h2)
 ·exact .of_right (intBits_le_64 h1 h2)
theorem op_add:OpR X (binaryOp .Add) (rI0 fun i j=>.int (i+j)):=opI0 fun _ _ _ _ _ _ _ q=>add_int q
theorem op_sub:OpR X (binaryOp .Sub) (rI0 fun i j=>.int (i - j)):=opI0 fun _ _ _ _ _ _ _ q=>sub_int q
theorem op_mul:OpR X (binaryOp .Mult) (rI CMul fun i j=>.int (i * j)):=opI fun _ _ _ _ _ _ _ hc q=>mul_int q hc.ok
theorem op_fdiv:OpR X (binaryOp .FloorDiv) (rI CDiv fun i j=>.int (i / j)):=opI fun i j _ _ _ _ _ hc q=>by
 have h1:(0:Int) < j:=hc.1
 have h2:j < 1073741824:=hc.2
 exact floordiv_int (by omega) (by rw [Int.fdiv_eq_ediv_of_nonneg i (by omega)];exact q) (.inl (PyProof.noPylong_small (by omega)))
theorem op_mod:OpR X (binaryOp .Mod) (rI (fun _ j=>0 < j) fun i j=>.int (i % j)):=opI fun i j _ _ _ _ _ hc q=>by
 have h1:(0:Int) < j:=hc
 exact mod_int' (by omega) (by rw [Int.fmod_eq_emod_of_nonneg i (by omega)];exact q)
theorem unI {f:Value->Sem Value} {g:Int->Int}
  (rule:∀ (i:Int) (t:Tok) (s:Shared) (Q:Value->Shared->Prop) (E:Value->Shared->Prop),Q (.int (g i) s.toks) { s with toks:=s.toks+1 }->wpAny (model X.prog X.w) X.A (f (.int i t)) Q E s) :
  UnR X f (rU fun i=>.int (g i)):=by
 intro pins s σ H x v Q I rx h
 obtain ⟨i,rfl,q⟩:=h
 obtain ⟨t,rfl⟩:=rx
 exact rule i t s _ _ ⟨.int (g i),H,I.tok _,⟨_,rfl⟩,q⟩
theorem un_neg:UnR X (unaryOp .USub) (rU fun i=>.int (-i)):=unI fun _ _ _ _ _ q=>neg_int q
end
section
variable {X:Cx} {a b c:Expr} {ta tb tc:TE} {pos:Pos}
theorem op_lt:OpR X (compareOp .Lt) (rI0 fun i j=>.bl (decide (i < j))):=opB0 fun _ _ _ _ _ _ _ q=>lt_int q
theorem op_le:OpR X (compareOp .LtE) (rI0 fun i j=>.bl (decide (i<=j))):=opB0 fun _ _ _ _ _ _ _ q=>le_int q
theorem op_gt:OpR X (compareOp .Gt) (rI0 fun i j=>.bl (decide (j < i))):=opB0 fun _ _ _ _ _ _ _ q=>gt_int q
theorem op_ge:OpR X (compareOp .GtE) (rI0 fun i j=>.bl (decide (j<=i))):=opB0 fun _ _ _ _ _ _ _ q=>ge_int q
theorem pe_cmpR {op:CmpOp} {r:R2} (ho:OpR X (compareOp op) r) (ha:PE X a ta) (hb:PE X b tb) (hm:behindInMarks op b=false):PE X (.Compare a [op] [b] pos) (tOp r ta tb):=by
 intro pins s σ H Q I h
 exact wpAny_Compare1 (binT ha hb I h fun v u s2 x y H2 I2 rx ry q=>ho pins s2 σ H2 x y v u Q I2 rx ry q) hm
def tTest (t:TE):TT:=fun σ H Q=>t σ H fun x H'=>∃ k,x=.bl k/\Q k H'
theorem pt_cmpR {op:CmpOp} {r:R2} (ho:OpR X (compareOp op) r) (ha:PE X a ta) (hb:PE X b tb) (hm:behindInMarks op b=false):PT X (.Compare a [op] [b] pos) (tTest (tOp r ta tb)):=by
 intro pins s σ H Q I h
 refine wpAny_isTrue_Compare1 (thn (ha pins s σ H _ I h) fun v s1 ⟨x,H1,I1,r1,q1⟩=>thn (hb pins s1 σ H1 _ I1 q1) fun u s2 ⟨y,H2,I2,r2,q2⟩ =>
  thn (ho pins s2 σ H2 x y v u _ I2 r1 r2 q2) fun c s3 ⟨z,H3,I3,r3,k,e,q3⟩=>?_) hm
 subst e
 cases r3
 exact wpAny_truthy_bool ⟨H3,I3,q3⟩
def tChain (r r':R2) (ta tb tc:TE):TE:=fun σ H Q=>ta σ H fun x H1=>tb σ H1 fun y H2=>r x y H2 fun z H3=>∃ k,z=.bl k /\
 (if k=true then tc σ H3 fun w' H4=>r' y w' H4 Q else Q (.bl false) H3)
theorem pe_chain {op op':CmpOp} {r r':R2} (ho:OpR X (compareOp op) r) (ho':OpR X (compareOp op') r') (ha:PE X a ta) (hb:PE X b tb) (hc:PE X c tc)
  (hm:lastMarks [op,op'] [b,c]=false:=by with_unfolding_all rfl):PE X (.Compare a [op,op'] [b,c] pos) (tChain r r' ta tb tc):=by
 intro pins s σ H Q I h
 refine Compare_chain (thn (ha pins s σ H _ I h) fun v s1 ⟨x,H1,I1,r1,q1⟩=>chain_link (thn (hb pins s1 σ H1 _ I1 q1) fun u s2 ⟨y,H2,I2,r2,q2⟩ =>
  thn (ho pins s2 σ H2 x y v u _ I2 r1 r2 q2) fun d s3 ⟨z,H3,I3,r3,k,e,q3⟩=>?_)) hm
 subst e
 cases r3
 refine wpAny_truthy_bool ?_
 cases k with
 | false=>exact ite_ff ⟨.bl false,H3,I3,rfl,q3⟩
 | true=>exact ite_tt (chain_last (thn (hc pins s3 σ H3 _ I3 q3) fun w' s4 ⟨z',H4,I4,r4,q4⟩=>ho' pins s4 σ H4 y z' u w' Q I4 r2 r4 q4))
theorem pt_chain {op op':CmpOp} {r r':R2} (ho:OpR X (compareOp op) r) (ho':OpR X (compareOp op') r') (ha:PE X a ta) (hb:PE X b tb) (hc:PE X c tc)
  (hm:lastMarks [op,op'] [b,c]=false:=by with_unfolding_all rfl):PT X (.Compare a [op,op'] [b,c] pos) (tTest (tChain r r' ta tb tc)):=by
 intro pins s σ H Q I h
 refine isTrue_chain (thn (ha pins s σ H _ I h) fun v s1 ⟨x,H1,I1,r1,q1⟩=>test_link (thn (hb pins s1 σ H1 _ I1 q1) fun u s2 ⟨y,H2,I2,r2,q2⟩ =>
  thn (ho pins s2 σ H2 x y v u _ I2 r1 r2 q2) fun d s3 ⟨z,H3,I3,r3,k,e,q3⟩=>?_)) hm
 subst e
 cases r3
 refine wpAny_truthy_bool ?_
 cases k with
 | false =>
  obtain ⟨k',e',q'⟩:=q3
  cases e'
  exact ite_ff ⟨H3,I3,q'⟩
 | true =>
  refine ite_tt (test_last (thn (hc pins s3 σ H3 _ I3 q3) fun w' s4 ⟨z',H4,I4,r4,q4⟩=>thn (ho' pins s4 σ H4 y z' u w' _ I4 r2 r4 q4) fun d' s5 ⟨z2,H5,I5,r5,k2,e2,q5⟩=>?_))
  subst e2
  cases r5
  exact wpAny_truthy_bool ⟨H5,I5,q5⟩
theorem line63:(sizeLine:Nat) < 2 ^ 63:=by rw [sizeLine_eq];decide
theorem op_add_str:OpR X (binaryOp .Add) (fun x y H Q=>∃ i j,x=.str i/\y=.str j/\i.length+j.length<=sizeLine/\Q (.str (i++j)) H):=by
 intro pins s σ H x y v u Q I rx ry h
 obtain ⟨i,j,rfl,rfl,hz,q⟩:=h
 obtain ⟨t,rfl⟩:=rx
 obtain ⟨t',rfl⟩:=ry
 exact add_str (fun t' tk=>⟨.str (i++j),H,I.tok _,⟨_,rfl⟩,q⟩) hz
theorem vals1 {x:V} {us:List Value} (r:Vals [x] us):∃ u,us=[u]/\RelV x u:=by
 cases r with
 | cons r1 r2=>cases r2;exact ⟨_,rfl,r1⟩
theorem vals2 {x y:V} {us:List Value} (r:Vals [x,y] us):∃ u w',us=[u,w']/\RelV x u/\RelV y w':=by
 cases r with
 | cons r1 r2 =>
  cases r2 with
  | cons r3 r4=>cases r4;exact ⟨_,_,rfl,r1,r3⟩
theorem call_int1:CallR X (.type "int") (fun xs H Q=>(∃ i,xs=[.int i]/\Q (.int i) H)\/∃ k,xs=[.bl k]/\Q (.int (if k then 1 else 0)) H):=by
 intro pins s σ H xs us Q I r h
 rcases h with ⟨i,rfl,q⟩ | ⟨k,rfl,q⟩
 ·obtain ⟨u,rfl,t,rfl⟩:=vals1 r
  exact call_int_int ⟨.int i,H,I,⟨_,rfl⟩,q⟩
 ·obtain ⟨u,rfl,r1⟩:=vals1 r
  cases r1
  exact call_int_bool ⟨.int (if k then 1 else 0),H,I.tok _,⟨_,rfl⟩,q⟩
theorem call_str_int:CallR X (.type "str") (fun xs H Q=>∃ i,xs=[.int i]/\i.natAbs.log2 < 1920/\Q (.str (toString i)) H):=by
 intro pins s σ H xs us Q I r h
 obtain ⟨i,rfl,hz,q⟩:=h
 obtain ⟨u,rfl,t,rfl⟩:=vals1 r
 exact PySem.P.str_of_int hz ⟨.str _,H,I.tok _,⟨_,rfl⟩,q⟩
end
end L2
namespace L2
open PySem PySem.Spec PyProof.Rows
structure ObjM (h:Heap) (x dx C:Addr) (mA:Str->Option Value):Prop where
 obj:h.get? x=some (PySem.W.instObj C dx)
 ns:h.Ns1 dx mA
 ne:dx≠x
theorem lookIn_ns {h : Heap} {dx : Addr} {mA : Str -> Option Value} (n : h.Ns1 dx mA) : ∃ od, h.get? dx = some od /\ ∀ name, PySem.W.lookIn name od = some (mA name) := by
  obtain ⟨o, es, ep, ho, hd, hk, _, hm⟩ := n
  refine ⟨o, ho, fun name => ?_⟩
  have e := hm name
  unfold nsFind findBy at e
  rw [<- Array.find?_toList] at e
  unfold PySem.W.lookIn
  rw [hd]
  dsimp only
  split
  · rename_i y q
    rw [q] at e
    exact congrArg some e
  · rename_i q
    rw [q] at e
    have a : es.toList.any (·.refKey) = false := by
      rw [List.any_eq_false]
      intro y hy
      obtain ⟨z, t, hkey⟩ := hk y (Array.mem_toList_iff.mp hy)
      simp [DictEntry.refKey, hkey]
    have a' : ¬ es.toList.any (·.refKey) = true := by rw [a]; exact Bool.false_ne_true
    rw [if_neg a']
    exact congrArg some e
theorem ObjM.look {h:Heap} {x dx C:Addr} {mA:Str->Option Value} (I:ObjM h x dx C mA):∃ od,PySem.W.InstAt h x (PySem.W.instObj C dx) C (some od)/\∀ name,PySem.W.lookIn name od=some (mA name) :=
 let ⟨od,ho,hl⟩:=lookIn_ns I.ns
 ⟨od,⟨I.obj,rfl,rfl,ho⟩,hl⟩
section
variable {prog:Program} {w:World} {A:Around} {E:Value->Shared->Prop} {s:Shared} {K:W.Frag} {x dx C f:Addr} {mA:Str->Option Value} {name:Str} {v:Value}
end
section
variable {P:Program} {w:World} {H H':Hp} {h h':Heap} {a C dx:Addr} {fs fs':List (Str×V)}
theorem ins_get (hok:HOk P w H h) (e:H a=some (.ins C dx fs)):∃ mA,ObjM h a dx C mA/\(∀ f,RelO (fs.lookup f) (mA f))/\PySem.Within mA (fs.map (·.1))/\fs.length<=1000/\H dx=some (.own a):=by
 obtain ⟨d,z,ne,ob,mA,n,r,q⟩:=(show ObjOk P w H h a (.ins C dx fs) from hok a _ e)
 exact ⟨mA,⟨ob,n,ne⟩,r,q,z,d⟩
end
structure Cls (K:W.Frag) (C:Addr):Prop where
 pg:PySem.W.plainGet K C Str.empty=true
 hd:PySem.W.hasDictIn K C=true
 po:PySem.W.plainOver K C=true
 sa:PySem.W.findIn K (.ref C) "__setattr__"=some (some (.builtin "object.__setattr__"))
theorem Cls.get {K:W.Frag} {C:Addr} (c:Cls K C) (f:Str):PySem.W.plainGet K C f=true:=c.pg
structure Con (K:W.Frag) (C:Addr) (f:Str) (v:V) (u:Value):Prop where
 at_:PySem.W.findIn K (.ref C) f=some (some u)
 rel:RelV v u
 get:PySem.W.specialIn K u "__get__"=some none
 cp:PySem.W.copiedNames.contains f=false
structure Meth (K:W.Frag) (C:Addr) (m:Str) (f:Addr):Prop where
 at_:PySem.W.findIn K (.ref C) m=some (some (.ref f))
 fn:PySem.W.isFn K (.ref f)=true
 kp:W.keepIn K (.ref f)=true
section
variable {X:Cx} {pins:List (Addr×Obj)} {σ:St} {H:Hp} {s:Shared} {a C dx:Addr} {fs:List (Str×V)} {f:Str} {v:V} {A:Around} {E:Value->Shared->Prop}
end
section
variable {X:Cx} {o e value:Expr} {f:Str} {pos pos' tpos:Pos} {ta tv:TE}
end
section
variable {X:Cx} {pins:List (Addr×Obj)} {σ:St} {H:Hp} {s:Shared} {A:Around} {E:Value->Shared->Prop} {Q:Value->Shared->Prop} {c:Value} {b:Bool}
inductive TyOf (K:W.Frag) (H:Hp):V->Value->Prop where
 | non:TyOf K H .non (.type "NoneType")
 | bl (x:Bool):TyOf K H (.bl x) (.type "bool")
 | int (i:Int):TyOf K H (.int i) (.type "int")
 | str (x:Str):TyOf K H (.str x) (.type "str")
 | flt (x:UInt64):TyOf K H (.flt x) (.type "float")
 | lst {a:Addr} {xs:List V} (e:H a=some (.lst xs)):TyOf K H (.ref a) (.type "list")
 | frz {a:Addr} {o:Obj} {xs:List V} (e:H a=some (.frz o (.lst xs))):TyOf K H (.ref a) (.type "list")
 | tup {a:Addr} {xs:List V} (e:H a=some (.tup xs)):TyOf K H (.ref a) (.type "tuple")
 | dK {a:Addr} {kvs:List (Key×V)} (e:H a=some (.dK kvs)):TyOf K H (.ref a) (.type "dict")
 | dT {a:Addr} {kvs:List (List Key×V)} (e:H a=some (.dT kvs)):TyOf K H (.ref a) (.type "dict")
 | ins {a C dx:Addr} {fs:List (Str×V)} (e:H a=some (.ins C dx fs)) (cl:Cls K C) (ha:PySem.W.findIn K (.ref C) "__class__"=some (some (.builtin "object.__class__")))
   (hn:PySem.W.specialIn K (.builtin "object.__class__") "__get__"=some (some (.builtin "getset_descriptor.__get__"))) (htk:PySem.W.takesIn K (.builtin "object.__class__")=some true)
   (hm:PySem.W.mroIn K C (.type "object")=some true):TyOf K H (.ref a) (.ref C)
theorem isinst_ok {x:V} {u t:Value} (I:Inv X pins σ H s) (rx:RelV x u) (ty:TyOf X.K H x t) (e:PySem.W.kitOne X.K t c=some b) (h:∀ tk,Q (.bool b) { s with toks:=tk }) :
  wpAny (model X.prog X.w) A (call (.builtin "isinstance") [u,c]) Q E s:=by
 cases ty with
 | non=>cases (show u=Value.none from rx);exact PySem.W.kia_one PySem.W.kitx_none I.kIn True.intro e (fun z=>nomatch z) h
 | bl y=>cases (show u=Value.bool y from rx);exact PySem.W.kia_one PySem.W.kitx_bool I.kIn True.intro e (fun z=>nomatch z) h
 | int i=>obtain ⟨t,q⟩:=(show ∃ t,u=Value.int i t from rx);cases q;exact PySem.W.kia_one PySem.W.kitx_int I.kIn True.intro e (fun z=>nomatch z) h
 | str y=>obtain ⟨t,q⟩:=(show ∃ t,u=Value.str y t from rx);cases q;exact PySem.W.kia_one PySem.W.kitx_str I.kIn True.intro e (fun z=>nomatch z) h
 | flt y=>obtain ⟨t,q⟩:=(show ∃ t,u=Value.float y t from rx);cases q;exact PySem.W.kia_one PySem.W.kitx_float I.kIn True.intro e (fun z=>nomatch z) h
 | @lst a xs ea =>
  cases (show u=Value.ref a from rx)
  obtain ⟨_,_,n,_,h1⟩:=(show ObjOk X.prog X.w H s.heap a (.lst xs) from I.hok a _ ea)
  exact PySem.W.kia_one PySem.W.kitx_list I.kIn ⟨_,h1,rfl⟩ e (fun z=>nomatch z) h
 | @frz a ob xs ea =>
  cases (show u=Value.ref a from rx)
  obtain ⟨_,_,_,n,_,h1⟩:=(show ObjOk X.prog X.w H s.heap a (.frz ob (.lst xs)) from I.hok a _ ea)
  exact PySem.W.kia_one PySem.W.kitx_list I.kIn ⟨_,h1,rfl⟩ e (fun z=>nomatch z) h
 | @tup a xs ea =>
  cases (show u=Value.ref a from rx)
  obtain ⟨_,_,_,p⟩:=(show ObjOk X.prog X.w H s.heap a (.tup xs) from I.hok a _ ea)
  obtain ⟨o,h1,h2,_⟩:=p
  exact PySem.W.kia_one PySem.W.kitx_tuple I.kIn ⟨o,h1,h2⟩ e (fun z=>nomatch z) h
 | @dK a kvs ea =>
  cases (show u=Value.ref a from rx)
  obtain ⟨_,_,vs,_,p⟩:=(show ObjOk X.prog X.w H s.heap a (.dK kvs) from I.hok a _ ea)
  obtain ⟨o,es,ep,h1,h2,_⟩:=p
  exact PySem.W.kia_one PySem.W.kitx_dict I.kIn ⟨o,h1,h2.1⟩ e (fun z=>nomatch z) h
 | @dT a kvs ea =>
  cases (show u=Value.ref a from rx)
  obtain ⟨_,_,xs,_,o,es,ep,h1,h2,_⟩:=(show ObjOk X.prog X.w H s.heap a (.dT kvs) from I.hok a _ ea)
  exact PySem.W.kia_one PySem.W.kitx_dict I.kIn ⟨o,h1,h2.1⟩ e (fun z=>nomatch z) h
 | @ins a C dx fs ea cl ha hn htk hm =>
  cases (show u=Value.ref a from rx)
  obtain ⟨mA,O,_⟩:=ins_get I.hok ea
  obtain ⟨od,J,_⟩:=O.look
  exact PySem.W.kia_one (PySem.W.kitx_own (cl.get _) cl.hd ha hn htk hm) I.kIn J e (fun z=>nomatch z) h
end
end L2
namespace L2
open PySem PySem.Spec PyProof.Rows
structure Room (k:Nat) (A:Around):Prop where
 hd:A.handled=none
 dp:A.depth+3 * k+5 < recursionLimit
 un:A.units+16 * k+200 < cLine
theorem Room.mono {j k:Nat} {A:Around} (r:Room k A) (h:j<=k):Room j A:=⟨r.hd,by have:=r.dp;omega,by have:=r.un;omega⟩
theorem Room.deeper {k:Nat} {A:Around} (r:Room (k+1) A) (env:Env):Room k (A.deeper env) :=
 ⟨r.hd,by have:=r.dp;show A.depth+1+3 * k+5 < _;omega,by have:=r.un;show A.units+3+16 * k+200 < _;omega⟩
theorem Room.depth {k:Nat} {A:Around} (r:Room k A):A.depth < recursionLimit:=by have:=r.dp;omega
theorem Room.units {k:Nat} {A:Around} (r:Room k A):A.units+64 < cLine:=by have:=r.un;omega
def tNil:TA:=fun _ H Q=>Q [] H
def tCons (ta:TE) (tr:TA):TA:=fun σ H Q=>ta σ H fun x H1=>tr σ H1 fun xs H2=>Q (x::xs) H2
section
variable {X:Cx} {e:Expr} {es:List Expr} {te:TE} {t:TA} {pos:Pos}
theorem pa_nil:PA X [] tNil:=fun _ _ _ _ H Q I h=>Calls.spliced_nil ⟨[],H,I,.nil,h⟩
theorem pa_cons (ha:PE X e te) (hr:PA X es t) (hs:starEach (e::es) X.env=(false,eval e X.env)::starEach es X.env:=by rfl):PA X (e::es) (tCons te t):=by
 intro pos pins s σ H Q I h
 rw [hs]
 show wpAny _ _ (spliced ((false,eval e X.env)::backTo pos (starEach es X.env))) _ _ s
 refine Calls.spliced_cons (thn (ha pins s σ H _ I h) fun u s1 ⟨x,H1,I1,r1,q1⟩=>?_)
 exact thn (hr pos pins s1 σ H1 _ I1 q1) fun us s2 ⟨xs,H2,I2,r2,q2⟩=>⟨x::xs,H2,I2,.cons r1 r2,q2⟩
def tTup (t:TA):TE:=fun σ H Q=>t σ H fun xs H1=>xs.length<=sizeLine/\∀ p,H1 p=none->Q (.ref p) (upd H1 p (.tup xs))
def tLst (t:TA):TE:=fun σ H Q=>t σ H fun xs H1=>xs.length<=sizeLine/\∀ p,H1 p=none->Q (.ref p) (upd H1 p (.lst xs))
theorem pe_tup {x1} (h:PA X es t):PE X (.Tuple es x1 pos) (tTup t):=by
 intro pins s σ H Q I hq
 refine wpAny_Tuple_spliced (thn (h pos pins s σ H _ I hq) fun us s1 ⟨xs,H1,I1,r,z,q⟩=>⟨by rw [<- r.length];exact z,?_⟩)
 have hf:H1 s1.heap.objs.size=none:=I1.hok.fresh (Nat.le_refl _)
 refine ⟨.ref s1.heap.objs.size,upd H1 s1.heap.objs.size (.tup xs),I1.laid (t':=s1.toks) (fun b u e=>Heap.get?_push_of_some _ e) (Nat.le_refl _) ?_,rfl,q _ hf⟩
 exact ⟨z,us,r,⟨_,Heap.get?_push_size _ rfl,rfl,_,rfl⟩⟩
theorem pe_lst (h:PA X es t):PE X (.List es pos) (tLst t):=by
 intro pins s σ H Q I hq
 refine wpAny_List_spliced (thn (h pos pins s σ H _ I hq) fun us s1 ⟨xs,H1,I1,r,z,q⟩=>⟨by rw [<- r.length];exact z,?_⟩)
 have hf:H1 s1.heap.objs.size=none:=I1.hok.fresh (Nat.le_refl _)
 refine ⟨.ref s1.heap.objs.size,upd H1 s1.heap.objs.size (.lst xs),I1.laid (t':=s1.toks) (fun b u e=>Heap.get?_push_of_some _ e) (Nat.le_refl _) ?_,rfl,q _ hf⟩
 exact ⟨z,us,0,r,Heap.get?_push_size _ rfl⟩
end
abbrev Sp:=List V->Hp->VK->XK->Prop
abbrev CXT:=List Env->Hp->Shared->XK->Value->Shared->Prop
structure Env0 (P:Program) (w:World) (K:W.Frag) (mg:Str->Option Value) (base:Heap) (A:Around) (outer:List Env) (s:Shared) (H:Hp):Prop where
 frames:A.frames=some outer
 mod:Mod K mg base
 bs:∀ b o,base.get? b=some o->s.heap.get? b=some o/\H b=none
 bsz:base.objs.size<=s.heap.objs.size
 funs:s.heap.FunFrames base outer
 frf:∀ b∈frs outer,H b=none
 hok:HOk P w H s.heap
 bare:AllBare s.gens
def CE (outer:List Env) (P:Program) (w:World) (H:Hp) (s:Shared) (Q:VK) (u:Value) (s':Shared):Prop :=
 ∃ v H',s'.os=s.os/\AllBare s'.gens/\Un (frs outer) [] H H' s.heap s'.heap/\HOk P w H' s'.heap/\RelV v u/\Q v H'
def CR (CX:CXT) (outer:List Env) (P:Program) (w:World) (H:Hp) (s:Shared) (Q:VK) (E:XK) (r:Result) (s':Shared):Prop :=
 match r with
 | .ok (.ret u)=>CE outer P w H s Q u s'
 | .ok _=>False
 | .error e=>CX outer H s E e s'
structure FnOk (P:Program) (w:World) (K:W.Frag) (mg:Str->Option Value) (base:Heap) (CX:CXT) (k:Nat) (f:Addr) (fd:FuncData) (ps:List Str) (sp:Sp):Prop where
 len:∀ vs H Q E,sp vs H Q E->vs.length=ps.length
 run:∀ (A:Around) (outer:List Env) (s:Shared) (H:Hp) (args:Args) (us:List Value) (vs:List V) (Q:VK) (E:XK),Room k A->Env0 P w K mg base A outer s H->BindsTo s fd args (ps.zip us)->Vals vs us->sp vs H Q E ->
  codeAny (model P w) A (.call (.ref f) args) (CR CX outer P w H s Q E) s
section
variable {X:Cx} {pins:List (Addr×Obj)} {σ:St} {H:Hp} {s s':Shared}
theorem Inv.env0 (I:Inv X pins σ H s):Env0 X.prog X.w X.K X.mg X.base X.A X.stack s H :=
 ⟨I.ok.frames,I.ok.mod,I.bs,Nat.le_trans I.ok.bsz I.sz,I.stack,I.stkFree,I.hok,I.bare⟩
theorem Inv.after {Q:VK} {u:Value} (I:Inv X pins σ H s) (h:CE X.stack X.prog X.w H s Q u s'):EP X pins σ Q u s':=by
 obtain ⟨v,H',os,bare,un,hok,r,q⟩:=h
 obtain ⟨hh,g,d,t,os'⟩:=s'
 obtain rfl:os'=s.os:=os
 exact ⟨v,H',I.call (h':=hh) (g':=g) (d':=d) (t':=t) (ch:=[]) un hok bare (fun b z=>absurd z (by simp)),r,q⟩
end
def tCall (sp:Sp) (dvs:List V) (E:XK) (t:TA):TE:=fun σ H Q=>t σ H fun vs H1=>sp (vs++dvs) H1 Q E
def Binds (K:W.Frag) (fd:FuncData) (ps:List Str) (ds:List Value):Prop :=
 ∀ (s:Shared) (us:List Value),K.In s.heap->(us++ds).length=ps.length->BindsTo s fd ⟨us,[]⟩ (ps.zip (us++ds))
theorem Binds.all {K:W.Frag} {fd:FuncData} {ps:List Str} (h:∀ us:List Value,us.length=ps.length->bindArgs fd ⟨us,[]⟩=pure (ps.zip us)):Binds K fd ps []:=fun s us _ hl=>by
 rw [List.append_nil] at hl ⊢
 exact .of_eq (h us hl)
def Passes (CX:CXT) (X:Cx) (E:XK):Prop:=∀ (pins:List (Addr×Obj)) (σ:St) (H:Hp) (s:Shared) (e:Value) (s':Shared),Inv X pins σ H s->CX X.stack H s E e s'->X.xe e s'
section
variable {X:Cx} {CX:CXT} {k:Nat} {f C:Addr} {fd:FuncData} {ps:List Str} {sp:Sp} {dvs:List V} {ds:List Value} {E:XK} {x m:Str} {p pos apos:Pos} {e o:Expr} {es:List Expr} {ta:TE} {t:TA}
theorem run_fn {pins:List (Addr×Obj)} {σ:St} {H:Hp} {s:Shared} {Q:VK} {us:List Value} {vs:List V} (F:FnOk X.prog X.w X.K X.mg X.base CX k f fd ps sp) (hr:Room k X.A) (hb:Binds X.K fd ps ds) (hd:Vals dvs ds) (hx:Passes CX X E)
  (I:Inv X pins σ H s) (r:Vals vs us) (h:sp (vs++dvs) H Q E):wpAny (model X.prog X.w) X.A (call (.ref f) us) (EP X pins σ Q) X.xe s:=by
 have r2:Vals (vs++dvs) (us++ds):=r.append hd
 have hl:(us++ds).length=ps.length:=by rw [<- r2.length];exact F.len _ _ _ _ h
 refine wpAny_call (codeAny_mono (F.run X.A X.stack s H ⟨us,[]⟩ (us++ds) (vs++dvs) Q E hr I.env0 (hb s us I.kIn hl) r2 h) fun r s' hq=>?_)
 cases r with
 | error e=>exact hx pins σ H s e s' I hq
 | ok fl =>
  cases fl with
  | ret u=>exact I.after hq
  | next=>exact False.elim hq
  | brk=>exact False.elim hq
  | cont=>exact False.elim hq
theorem pe_call (F:FnOk X.prog X.w X.K X.mg X.base CX k f fd ps sp) (hr:Room k X.A) (hg:Gl X x) (hm:X.mg x=some (.ref f)) (hk:W.keepIn X.K (.ref f)=true) (hb:Binds X.K fd ps ds) (hd:Vals dvs ds) (hx:Passes CX X E)
  (ha:PA X (e::es) t) (hdb:(x==("__debug__":Str))=false:=by decide) (he:starEach (e::es) X.env=(false,eval e X.env)::starEach es X.env:=by rfl) (hpl:(backTo pos (starEach es X.env)).any (·.1)=false:=by rfl) :
  PE X (.Call (.Name x p) (e::es) [] pos) (tCall sp dvs E t):=by
 intro pins s σ H Q I h
 refine wpAny_Call_Name_kw (ld_glob I hg hm ?_ hdb)
 refine PySem.W.callWith_K (h₀:=X.base) I.ok.mod.kin hk (thn (ha pos pins s σ H _ I h) fun us s1 ⟨vs,H1,I1,r,q⟩=>⟨I1.kIn,?_⟩) he hpl
 exact run_fn F hr hb hd hx I1 r q
structure Mk (K:W.Frag) (C f:Addr):Prop where
 makes:PySem.W.makesIn K C=true
 init:PySem.W.findIn K (.ref C) "__init__"=some (some (.ref f))
 fn:PySem.W.isFn K (.ref f)=true
 kp:W.keepIn K (.ref C)=true
end
section
variable {X:Cx} {CX:CXT} {k:Nat} {f C:Addr} {fd:FuncData} {ps ks:List Str} {sp:Sp} {E:XK} {x m:Str} {p pos apos kpos:Pos} {e o:Expr} {es:List Expr} {kws:List Keyword} {te ta:TE} {t tk:TA} {nm:Option Str}
structure KBinds (K:W.Frag) (fd:FuncData) (ps ks:List Str) (g:List Value->List Value->List Value) (gV:List V->List V->List V):Prop where
 to:∀ (s:Shared) (us ws:List Value),K.In s.heap->(g us ws).length=ps.length->BindsTo s fd ⟨us,ks.zip ws⟩ (ps.zip (g us ws))
 rel:∀ {vs:List V} {us:List Value} {zs:List V} {ws:List Value},Vals vs us->Vals zs ws->Vals (gV vs zs) (g us ws)
variable {g:List Value->List Value->List Value} {gV:List V->List V->List V}
end
structure FnScope (N P:List Str) (sc:Scope):Prop where
 kind:sc.kind=.function
 co:sc.isCoroutine=false
 gen:sc.isGenerator=false
 nd:N.Nodup
 pre:N.take P.length=P
 par:∀ x∈P,sc.names.lookup x=some .local\/sc.names.lookup x=some .cell
 nofree:∀ y∈sc.names,y.2≠.free
theorem bindL_out {kindOf:Str->Option NameKind} {x:Str}:∀ {binds:List (Str×Value)} {m:Str->Option Value},(∀ v,(x,v)∉binds)->bindL kindOf binds m x=m x
 | [],_,_=>rfl
 | (n,v)::r,m,h=>by
  unfold bindL
  rw [bindL_out fun w hw=>h w (List.mem_cons_of_mem _ hw)]
  split
  ·have:x≠n:=by rintro rfl;exact h v List.mem_cons_self
   simp [this]
  ·rfl
theorem bindC_out {kindOf:Str->Option NameKind} {x:Str}:∀ {binds:List (Str×Value)} {m:Str->Option Value},(∀ v,(x,v)∉binds)->bindC kindOf binds m x=m x
 | [],_,_=>rfl
 | (n,v)::r,m,h=>by
  unfold bindC
  rw [bindC_out fun w hw=>h w (List.mem_cons_of_mem _ hw)]
  split
  ·rfl
  ·have:x≠n:=by rintro rfl;exact h v List.mem_cons_self
   simp [this]
theorem bindL_get {kindOf:Str->Option NameKind} {x:Str} {v:Value}:∀ {P:List Str} {vs:List Value} {i:Nat} {m:Str->Option Value},P.Nodup->P[i]?=some x->vs[i]?=some v->kindOf x=some .local ->
  bindL kindOf (P.zip vs) m x=some v
 | [],_,_,_,_,h,_,_=>by simp at h
 | _::_,[],_,_,_,_,h,_=>by simp at h
 | p::P,w::vs,0,m,nd,h1,h2,hk=>by
  simp at h1 h2;subst h1;subst h2
  show bindL kindOf ((p,w)::P.zip vs) m p=_
  unfold bindL
  rw [bindL_out fun v hv=>(List.nodup_cons.mp nd).1 (List.of_mem_zip hv).1,if_pos hk]
  simp
 | p::P,w::vs,i+1,m,nd,h1,h2,hk=>by
  show bindL kindOf ((p,w)::P.zip vs) m x=_
  unfold bindL
  exact bindL_get (i:=i) (List.nodup_cons.mp nd).2 (by simpa using h1) (by simpa using h2) hk
theorem bindC_get {kindOf:Str->Option NameKind} {x:Str} {v:Value}:∀ {P:List Str} {vs:List Value} {i:Nat} {m:Str->Option Value},P.Nodup->P[i]?=some x->vs[i]?=some v->kindOf x≠some .local ->
  bindC kindOf (P.zip vs) m x=some v
 | [],_,_,_,_,h,_,_=>by simp at h
 | _::_,[],_,_,_,_,h,_=>by simp at h
 | p::P,w::vs,0,m,nd,h1,h2,hk=>by
  simp at h1 h2;subst h1;subst h2
  show bindC kindOf ((p,w)::P.zip vs) m p=_
  unfold bindC
  rw [bindC_out fun v hv=>(List.nodup_cons.mp nd).1 (List.of_mem_zip hv).1,if_neg hk]
  simp
 | p::P,w::vs,i+1,m,nd,h1,h2,hk=>by
  show bindC kindOf ((p,w)::P.zip vs) m x=_
  unfold bindC
  exact bindC_get (i:=i) (List.nodup_cons.mp nd).2 (by simpa using h1) (by simpa using h2) hk
def start (N:List Str) (vs:List V):St:=vs.map some++List.replicate (N.length - vs.length) none
def cxOf (CX:CXT) (P:Program) (w:World) (K:W.Frag) (mg:Str->Option Value) (base:Heap) (N:List Str) (qual:Str) (scope:Scope) (f:Addr) (cd:Value) (A:Around) (outer:List Env) (s:Shared) (H:Hp) (E:XK):Cx where
 prog:=P
 w:=w
 K:=K
 mg:=mg
 base:=base
 A:=A.deeper (envOfC qual scope s.heap.objs.size f cd)
 N:=N
 s₀:=s
 H₀:=H
 env:=envOfC qual scope s.heap.objs.size f cd
 outer:=outer
 stack:=envOfC qual scope s.heap.objs.size f cd::outer
 ex:=[]
 calm:=true
 fn:=fun _=>true
 pn:=[]
 xe:=fun e s'=>wpAny (model P w) (A.deeper (envOfC qual scope s.heap.objs.size f cd)) (leaving (envOfC qual scope s.heap.objs.size f cd) e) (fun _ s''=>CX outer H s E e s'') (fun e' s''=>CX outer H s E e' s'') s'
theorem cell_has {sc:Scope} {n:Nat} {x:Str} (h:sc.names.lookup x=some .cell):∃ c,(cellsFrom n sc.names []).lookup x=some c:=by
 have q:=PySem.W.cellsFrom_some sc.names n [] (.inl h)
 exact Option.isSome_iff_exists.mp q
theorem inv_start {CX:CXT} {P:Program} {w:World} {K:W.Frag} {mg:Str->Option Value} {base:Heap} {N ps:List Str} {qual:Str} {scope:Scope} {f:Addr} {cd:Value} {A:Around} {outer:List Env} {s s1:Shared} {H:Hp} {E:XK} {us:List Value} {vs:List V}
  (S:FnScope N ps scope) (hd:A.handled=none) (e0:Env0 P w K mg base A outer s H) (hl:vs.length=ps.length) (r:Vals vs us)
  (x:InCallC s s.heap.objs.size (bindL (envOfC qual scope s.heap.objs.size f cd).kindOf (ps.zip us) fun _=>none) (cellsFrom (s.heap.objs.size+1) scope.names []) (bindC (envOfC qual scope s.heap.objs.size f cd).kindOf (ps.zip us) fun _=>none) s1) :
  Inv (cxOf CX P w K mg base N qual scope f cd A outer s H E) [] (start N vs) H s1:=by
 have hpl:ps.length<=N.length:=by have:=congrArg List.length S.pre;rw [List.length_take] at this;omega
 obtain ⟨h1,tk,rfl,hk⟩:=x.done
 have noA:∀ b:Addr,b∉(cxOf CX P w K mg base N qual scope f cd A outer s H E).ex:=fun b z=>absurd (show b∈([]:List Addr) from z) (by simp)
 refine ⟨⟨e0.mod,S.kind,rfl,rfl,Nat.le_refl _,fun y z c h1 h2=>?_,fun y hy=>?_,fun y c _ h=>?_,fun _=>hd,Around.frames_deeper e0.frames,.inr ⟨rfl,rfl⟩,fun b z=>absurd z (noA b),e0.bs,e0.bsz,fun b _ _=>noA b,fun b z=>absurd z (noA b),e0.funs,e0.frf⟩,
  rfl,e0.bare,Un.kept hk,⟨_,x.toInCall.ns,fun i y v h1 h2 h3=>?_⟩,fun y c h=>⟨_,x.cell y c h⟩,e0.hok.fresh (Nat.le_refl _),fun y c h=>?_,fun p hp=>absurd (show p∈([]:List (Addr×Obj)) from hp) (by simp),e0.hok.kept hk,?_⟩
 ·exact name_of_addr x.apart (PySem.mem_of_lookup h1) (PySem.mem_of_lookup h2)
 ·have hy:scope.names.lookup y=some .cell\/scope.names.lookup y=some .free:=hy
  rcases hy with hy | hy
  ·exact cell_has hy
  ·exact absurd rfl (S.nofree _ (PySem.mem_of_lookup hy))
 ·exact Nat.le_of_lt (x.above y c (PySem.mem_of_lookup h))
 ·have hi:i < vs.length:=by
   unfold start at h2
   by_cases hi:i < vs.length
   ·exact hi
   ·rw [List.getElem?_append_right (by simpa using hi)] at h2
    rw [List.getElem?_replicate] at h2
    split at h2 <;> cases h2
  have ha:vs[i]?=some v:=by
   unfold start at h2
   rw [List.getElem?_append_left (by simpa using hi),List.getElem?_map] at h2
   cases e:vs[i]? with
   | none=>rw [e] at h2;cases h2
   | some a=>rw [e] at h2;cases h2;rfl
  obtain ⟨u,hu,rv⟩:=r.get ha
  have hp:ps[i]?=some y:=by
   rw [<- S.pre,List.getElem?_take_of_lt (by omega)];exact h1
  have ndP:ps.Nodup:=by rw [<- S.pre];exact S.nd.sublist (List.take_sublist _ _)
  refine ⟨u,rv,?_⟩
  rcases S.par y (List.mem_of_getElem? hp) with k | k
  ·exact .inl ⟨k,bindL_get ndP hp hu k⟩
  ·obtain ⟨c,e⟩:=cell_has (n:=s.heap.objs.size+1) k
   refine .inr ⟨.inl k,c,e,?_⟩
   have q:=x.cell y c e
   rw [bindC_get ndP hp hu (by show scope.names.lookup y≠_;rw [k];decide)] at q
   exact q
 ·exact e0.hok.fresh (Nat.le_of_lt (x.above y c (PySem.mem_of_lookup h)))
 ·unfold start
  show _=N.length
  rw [List.length_append,List.length_map,List.length_replicate]
  omega
theorem fn_of {CX:CXT} {P:Program} {w:World} {K:W.Frag} {mg:Str->Option Value} {base:Heap} {k:Nat} {f:Addr} {name qual:Str} {params:Arguments} {body:List Stmt} {scope:Scope} {dV kV doc pm cdv ct oc:Value} {an od:Option Addr}
  {osl:Array (Option Value)} {N ps:List Str} {sp:Sp} (lk:K.lookup f=some ⟨oc,od,.func (W.fnOf name qual params body scope dV kV doc pm an cdv ct),osl⟩) (hcd:W.codeIn K cdv qual=true) (S:FnScope N ps scope)
  (len:∀ vs H Q E,sp vs H Q E->vs.length=ps.length)
  (hbody:∀ (A:Around) (outer:List Env) (s:Shared) (H:Hp) (vs:List V) (Q:VK) (E:XK),Room k (A.deeper (envOfC qual scope s.heap.objs.size f cdv))->sp vs H Q E ->
   ∃ t,PSs (cxOf CX P w K mg base N qual scope f cdv A outer s H E) body t/\t { nx:=fun _ H'=>Q .non H',rt:=Q } (start N vs) H) :
  FnOk P w K mg base CX (k+1) f (W.fnOf name qual params body scope dV kV doc pm an cdv ct) ps sp:=by
 refine ⟨len,fun A outer s H args us vs Q E hr e0 hb r hsp=>?_⟩
 have hl:=len _ _ _ _ hsp
 have KX:K.In s.heap:=e0.mod.kin.keeps fun b o e=>(e0.bs b o e).1
 have lim:s.heap.NoLimit:=e0.mod.nolimit.keeps fun b o e=>(e0.bs b o e).1
 have hkind:∀ y∈ps.zip us,scope.names.lookup y.1=some .local\/(scope.names.lookup y.1=some .cell/\((cellsFrom (s.heap.objs.size+1) scope.names []).lookup y.1).isSome=true):=fun ⟨n,v⟩ hy=>by
  rcases S.par n (List.of_mem_zip hy).1 with q | q
  ·exact .inl q
  ·exact .inr ⟨q,PySem.W.cellsFrom_some _ _ _ (.inl q)⟩
 refine codeAny_call_function hr.depth (KX _ _ lk) rfl S.co S.gen rfl (PySem.W.codeRec_of KX hcd) (hb _ _ _ _ ?_)
 refine wpAny_newFunctionEnv_cells S.kind hkind fun env he s1 x=>?_
 subst he
 refine ⟨lim.keeps x.toInCall.keep,codeAny_func ?_⟩
 obtain ⟨t,ht,hq⟩:=hbody A outer s H vs Q E (hr.deeper _) hsp
 have I:Inv (cxOf CX P w K mg base N qual scope f cdv A outer s H E) [] (start N vs) H s1:=inv_start S hr.hd e0 hl r x
 refine wpAny_mono (ht [] s1 (start N vs) H _ I hq) (fun fl s' hs=>?_) fun e s' hs=>hs
 have fin:∀ {σ':St} {H':Hp} {v:V} {u:Value},Inv (cxOf CX P w K mg base N qual scope f cdv A outer s H E) [] σ' H' s'->RelV v u->Q v H'->CE outer P w H s Q u s' :=
  fun {σ' H' v u} J rv q=>⟨v,H',J.os,J.bare,J.base,J.hok,rv,q⟩
 cases fl with
 | ret u =>
  obtain ⟨v,σ',H',J,rv,q⟩:=hs
  exact fin J rv q
 | next =>
  obtain ⟨σ',H',J,q⟩:=hs
  exact fin (v:=V.non) (u:=Value.none) J rfl q
 | brk =>
  obtain ⟨_,_,_,q⟩:=hs
  exact False.elim q
 | cont =>
  obtain ⟨_,_,_,q⟩:=hs
  exact False.elim q
end L2
namespace L2
open PySem PySem.Spec PyProof.Rows
section
variable {X:Cx} {x:Str} {p pos:Pos} {e:Expr} {es:List Expr} {t:TA} {id T:String} {r:List V->Hp->VK->Prop}
def tCB (r:List V->Hp->VK->Prop) (t:TA):TE:=fun σ H Q=>t σ H fun vs H1=>r vs H1 Q
theorem pe_callB (hc:CallR X (.builtin id) r) (hg:Gl X x) (hm:X.mg x=none) (hv:bootBuiltins x=some (.builtin id)) (ha:PA X (e::es) t) (hn:x≠"__name__":=by decide) (hdb:(x==("__debug__":Str))=false:=by decide)
  (he:starEach (e::es) X.env=(false,eval e X.env)::starEach es X.env:=by rfl) (hpl:(backTo pos (starEach es X.env)).any (·.1)=false:=by rfl):PE X (.Call (.Name x p) (e::es) [] pos) (tCB r t):=by
 intro pins s σ H Q I h
 refine wpAny_Call_Name_kw (ld_blt I hg hm hv ?_ hn hdb)
 exact PyProof.Rows.callWith_builtin1 (thn (ha pos pins s σ H _ I h) fun us s1 ⟨vs,H1,I1,r1,q1⟩=>hc pins s1 σ H1 vs us Q I1 r1 q1) he hpl
theorem pe_callTy (hc:CallR X (.type T) r) (hg:Gl X x) (hm:X.mg x=none) (hv:bootBuiltins x=some (.type T)) (ha:PA X (e::es) t) (hn:x≠"__name__":=by decide) (hdb:(x==("__debug__":Str))=false:=by decide)
  (he:starEach (e::es) X.env=(false,eval e X.env)::starEach es X.env:=by rfl) (hpl:(backTo pos (starEach es X.env)).any (·.1)=false:=by rfl):PE X (.Call (.Name x p) (e::es) [] pos) (tCB r t):=by
 intro pins s σ H Q I h
 refine wpAny_Call_Name_kw (ld_blt I hg hm hv ?_ hn hdb)
 exact PyProof.Rows.callWith_type1 (thn (ha pos pins s σ H _ I h) fun us s1 ⟨vs,H1,I1,r1,q1⟩=>hc pins s1 σ H1 vs us Q I1 r1 q1) he hpl
end
end L2
namespace HT
open PySem PyProof.Rows
def lexLt:List Int->List Int->Bool
 | [],[]=>false
 | [],_::_=>true
 | _::_,[]=>false
 | x::xs,y::ys=>if x=y then lexLt xs ys else decide (x < y)
theorem lexLt_cons (x y:Int) (xs ys:List Int):lexLt (x::xs) (y::ys)=if x=y then lexLt xs ys else decide (x < y):=rfl
theorem lexLt_nil_nil:lexLt [] []=false:=rfl
theorem lexLt_nil_cons (y:Int) (ys:List Int):lexLt [] (y::ys)=true:=rfl
theorem lexLt_cons_nil (x:Int) (xs:List Int):lexLt (x::xs) []=false:=rfl
theorem eqAt_int (A:Around) (s:Shared) (a:Int) (t:Tok) (c:Int) (u:Tok):∃ e,SeqAt.EqAt A s (.int a t) (.int c u) e/\(e=true<->a=c) :=
 ⟨(a==c),SeqAt.EqAt.int_int a t c u,by simp⟩
theorem rcLt_int (A:Around) (s:Shared) (a:Int) (t:Tok) (c:Int) (u:Tok) (prog:Program) (w:World) (E:Value->Shared->Prop) (Q:Value->Shared->Prop) (h:Q (.bool (decide (a < c))) s) :
  wpAny (model prog w) A (richCompare .Lt (.int a t) (.int c u)) Q E s :=
 (PyProof.Rows.lt_int h:wpAny (model prog w) A (compareOp .Lt (.int a t) (.int c u)) Q E s)
section
open PySem.SeqAt
open PySem.AutoSeq1 (wpAny_loadPart')
open PySem.MeetsSeq PySem.MeetsSeq2 PySem.MeetsSeq3
theorem tuple_lt_ints (l b : Addr) (items items2 : Array Value) (n n2 : Nat) (dd dd2 : Option Addr) (sl sl2 : Array (Option Value)) (ns ms : List Int) (hi : IntsAre items.toList ns) (hj : IntsAre items2.toList ms) :
    Meets (Builtin.«tuple.__lt__» ⟨[.ref l, .ref b], []⟩)
      (fun _ R s => s.heap.get? l = some { cls := .type "tuple", dict := dd, data := .seq items n, slots := sl } /\ s.heap.get? b = some { cls := .type "tuple", dict := dd2, data := .seq items2 n2, slots := sl2 } /\
        R (.ok (.ret (.bool (lexLt ns ms)))) s) :=
  .of_wp fun prog w A R s h => by
    obtain ⟨hp, g, d, tk, os⟩ := s; obtain ⟨hl, hb, h⟩ := h
    have f2 := AutoSeq1.sub_tuple_tuple
    have z1 : items.size = ns.length := by rw [<- hi.length]; simp
    have z2 : items2.size = ms.length := by rw [<- hj.length]; simp
    wp_walk using wpAny_loadPart' hl, wpAny_loadPart' hb, wpAny_forIn_list _ (fun rest b s' => b.1 = none /\ s' = ⟨hp, g, d, tk, os⟩ /\ ∃ (vs ws : List Value) (ns' ms' : List Int), rest = vs.zip ws /\
      IntsAre vs ns' /\ IntsAre ws ms' /\ ns'.length + items2.size = ms'.length + items.size /\ R (.ok (.ret (.bool (lexLt ns' ms')))) ⟨hp, g, d, tk, os⟩) _
    case turn =>
      rintro ⟨y, x⟩ rest b s' ⟨hb', rfl, vs, ws, ns', ms', hz, hvi, hwi, hlen, hR⟩
      cases hvi with
      | nil => rw [List.zip_nil_left] at hz; cases hz
      | cons a t hvi' =>
        cases hwi with
        | nil => rw [List.zip_nil_right] at hz; cases hz
        | cons c u hwi' =>
          rw [List.zip_cons_cons] at hz
          injection hz with hyx hrest
          injection hyx with hy hx
          subst hy hx
          rw [lexLt_cons] at hR
          simp only [List.length_cons] at hlen
          obtain ⟨e, he, hiff⟩ := eqAt_int A.in1 ⟨hp, g, d, tk, os⟩ a t c u
          refine wpAny_bind (he prog w _ _ ?_)
          cases e with
          | true =>
            rw [if_pos (hiff.mp rfl)] at hR
            wp_walk
            exact ⟨rfl, rfl, _, _, _, _, hrest, hvi', hwi', by omega, hR⟩
          | false =>
            rw [if_neg (fun q => absurd (hiff.mpr q) Bool.false_ne_true)] at hR
            have hri := rcLt_int A.in1 ⟨hp, g, d, tk, os⟩ a t c u prog w
            wp_walk using hri
            exact ⟨_, rfl, by simpa using hR⟩
    case fin =>
      rintro ⟨b1, b2⟩ s' ⟨hb', rfl, vs, ws, ns', ms', hz, hvi, hwi, hlen, hR⟩
      simp only at hb'
      subst hb'
      have hv : lexLt ns' ms' = decide (items.size < items2.size) := by
        cases hvi with
        | nil =>
          cases hwi with
          | nil =>
            simp only [List.length_nil] at hlen
            rw [lexLt_nil_nil]
            exact (decide_eq_false (by omega)).symm
          | cons c u hw =>
            simp only [List.length_nil, List.length_cons] at hlen
            rw [lexLt_nil_cons]
            exact (decide_eq_true (by omega)).symm
        | cons a t hv =>
          cases hwi with
          | nil =>
            simp only [List.length_nil, List.length_cons] at hlen
            rw [lexLt_cons_nil]
            exact (decide_eq_false (by omega)).symm
          | cons c u hw =>
            rw [List.zip_cons_cons] at hz
            cases hz
      rw [hv] at hR
      wp_walk
      exact ⟨_, rfl, by simpa [Builtin.Tuple.tupleCompareSizes] using hR⟩
    case h =>
      exact ⟨rfl, rfl, items.toList, items2.toList, ns, ms, rfl, hi, hj, by omega, h⟩
end
section
variable {prog:Program} {w:World} {A:Around} {E:Value->Shared->Prop} {s:Shared}
theorem lt_tupInts {l b:Addr} {items items2:Array Value} {ns ms:List Int} {Q:Value->Shared->Prop} (hl:IsTup s.heap l items) (hb:IsTup s.heap b items2) (hi:IntsAre items.toList ns) (hj:IntsAre items2.toList ms)
  (hu:A.units < cLine) (h:Q (.bool (lexLt ns ms)) s):wpAny (model prog w) A (compareOp .Lt (.ref l) (.ref b)) Q E s:=by
 obtain ⟨⟨cls,dd,data,sl⟩,ho,hc,n,hd⟩:=id hl
 obtain ⟨⟨cls2,dd2,data2,sl2⟩,ho2,hc2,n2,hd2⟩:=id hb
 simp only at hc hd hc2 hd2
 subst hc hd hc2 hd2
 exact richCompare_meets_room (op:=.Lt) ⟨_,ho,rfl⟩ ⟨_,ho2,rfl⟩ PySem.F.slot_tuple_lt PySem.F.entry_tuple_lt (PySem.F.args_tuple_lt_2 _ _) (tuple_lt_ints l b items items2 n n2 dd dd2 sl sl2 ns ms hi hj)
  ⟨ho,ho2,show Value.bool (lexLt ns ms)≠Value.notImplemented/\Q (.bool (lexLt ns ms)) s from ⟨(fun x=>nomatch x),h⟩⟩ hu
theorem cat_tup {t b:Addr} {vs ws:List Value} {Q:Value->Shared->Prop} (ht:IsTup s.heap t vs.toArray) (hb:IsTup s.heap b ws.toArray) (hv:vs≠[])
  (h1:ws=[]->Q (.ref t) s) (h2:ws≠[]->Q (.ref s.heap.objs.size) { s with heap:=s.heap.push { cls:=.type "tuple",data:=.seq (vs++ws).toArray } })
  (hsz:vs.length+ws.length<=sizeLine):wpAny (model prog w) A (binaryOp .Add (.ref t) (.ref b)) Q E s:=by
 obtain ⟨⟨cls,dd,data,sl⟩,ho,hc,n,hd⟩:=id ht
 obtain ⟨⟨cls2,dd2,data2,sl2⟩,ho2,hc2,n2,hd2⟩:=id hb
 simp only at hc hd hc2 hd2
 subst hc hd hc2 hd2
 have e:vs.toArray++ws.toArray=(vs++ws).toArray:=by simp
 by_cases hw:ws=[]
 ·exact concat_meets ⟨_,ho,rfl⟩ ⟨_,ho2,rfl⟩ noFill_tuple_add seq_tuple_add PySem.F.slot_tuple_add PySem.F.entry_tuple_add (PySem.F.args_tuple_add_2 _ _)
   (tuple_addW1 t b vs.toArray ws.toArray n n2 dd dd2 sl sl2 (by simpa using hv) (by simp [hw])) ⟨ho,ho2,h1 hw⟩
 ·refine concat_meets ⟨_,ho,rfl⟩ ⟨_,ho2,rfl⟩ noFill_tuple_add seq_tuple_add PySem.F.slot_tuple_add PySem.F.entry_tuple_add (PySem.F.args_tuple_add_2 _ _)
   (tuple_addW2 t b vs.toArray ws.toArray n n2 dd dd2 sl sl2 (by simpa using hv) (by simpa using hw) (by rw [List.size_toArray,List.size_toArray];exact hsz)) ⟨ho,ho2,?_⟩
  rw [e]
  exact h2 hw
def sIx (n d:Nat):Option Int->Nat
 | none=>d
 | some v=>if v < 0 then (v+(n:Int)).toNat else min v.toNat n
theorem sIx_le (n d:Nat) (hd:d<=n) (o:Option Int):sIx n d o<=n:=by
 cases o with
 | none=>exact hd
 | some v =>
  show (if v < 0 then (v+(n:Int)).toNat else min v.toNat n)<=n
  by_cases hv:v < 0
  ·rw [if_pos hv];omega
  ·rw [if_neg hv];exact Nat.min_le_right _ _
theorem clip_eq (v:Int) (n d:Nat):(if v < 0 then max (v+(n:Int)) 0 else min v (n:Int))=((sIx n d (some v):Nat):Int):=by
 show (if v < 0 then max (v+(n:Int)) 0 else min v (n:Int))=(((if v < 0 then (v+(n:Int)).toNat else min v.toNat n):Nat):Int)
 by_cases hv:v < 0
 ·simp only [if_pos hv];omega
 ·simp only [if_neg hv];omega
theorem adjust_gen (lo hi:Option Int) (n:Nat):Builtin.Slice.sliceAdjust lo hi 1 (n:Int)=(((sIx n 0 lo:Nat):Int),((sIx n n hi:Nat):Int)):=by
 have h1:¬ ((1:Int) < 0):=by omega
 unfold Builtin.Slice.sliceAdjust
 simp only [h1,if_false]
 refine Prod.ext ?_ ?_
 ·cases lo with
  | none=>rfl
  | some v=>exact clip_eq v n 0
 ·cases hi with
  | none=>rfl
  | some v=>exact clip_eq v n n
theorem places_gen (i j:Nat):Builtin.Slice.slicePlaces (i:Int) (j:Int) 1=j - i:=by
 unfold Builtin.Slice.slicePlaces
 have h1:(1:Int) > 0:=by omega
 simp only [h1,if_true,Int.ediv_one]
 split <;> omega
theorem slicePart_ {v:Value} {o:Option Int} {Q:Option Int->Shared->Prop} (p:IsPart v o) (h:Q o s):wpAny (model prog w) A (Builtin.Slice.slicePartIndex v) Q E s:=by
 cases p with
 | none=>exact slicePart_none h
 | int i t=>exact slicePart_int h
theorem sliceApplied_gen {sl:Addr} {vl vu:Value} {lo hi:Option Int} {n:Nat} {Q:Int×Int×Nat->Shared->Prop} (hs:s.heap.IsSliceOf sl vl vu .none) (pl:IsPart vl lo) (pu:IsPart vu hi)
  (h:Q (((sIx n 0 lo:Nat):Int),1,sIx n n hi - sIx n 0 lo) s):wpAny (model prog w) A (Builtin.Slice.sliceApplied (.ref sl) (pure (n:Int))) Q E s:=by
 obtain ⟨os,hos,hcs,hds⟩:=id hs
 unfold Builtin.Slice.sliceApplied Builtin.Slice.sliceFields
 refine wpAny_bind (wpAny_bind (wpAny_field hos hds (x:=vl) rfl (wpAny_bind (wpAny_field hos hds (x:=vu) rfl (wpAny_bind (wpAny_field hos hds (x:=.none) rfl (wpAny_pure ?_)))))))
 refine wpAny_bind (slicePart_none ?_)
 show wpAny _ _ (if ((1:Int)==0)=true then _ else _) _ _ s
 rw [if_neg (by decide)]
 refine wpAny_bind (slicePart_ pl (wpAny_bind (slicePart_ pu (wpAny_bind (wpAny_pure ?_)))))
 show wpAny _ _ (match Builtin.Slice.sliceAdjust lo hi 1 (n:Int) with | (lo,hi)=>pure (lo,(1:Int),Builtin.Slice.slicePlaces lo hi 1)) _ _ s
 rw [adjust_gen lo hi n]
 show wpAny _ _ (pure (((sIx n 0 lo:Nat):Int),(1:Int),Builtin.Slice.slicePlaces ((sIx n 0 lo:Nat):Int) ((sIx n n hi:Nat):Int) 1)) _ _ s
 rw [places_gen]
 exact wpAny_pure h
theorem pick_gen (xs:Array Value) (i k:Nat):((List.range k).filterMap fun (m:Nat)=>xs[((i:Int)+(m:Int) * 1).toNat]?).toArray=((xs.toList.drop i).take k).toArray:=by
 have e:(fun (m:Nat)=>xs[((i:Int)+(m:Int) * 1).toNat]?)=fun m=>xs[i+m]?:=by
  funext m
  have:((i:Int)+(m:Int) * 1).toNat=i+m:=by omega
  rw [this]
 rw [e]
 have:=pick_run xs i k
 rw [List.filterMap_map] at this
 have e2:((fun x=>xs[x]?) ∘ fun x=>i+x)=fun m=>xs[i+m]?:=rfl
 rw [e2] at this
 rw [this]
theorem getItem_tuple_cut {t sl:Addr} {items:Array Value} {vl vu:Value} {lo hi:Option Int} {Q:Value->Shared->Prop} (ht:IsTup s.heap t items) (hs:s.heap.IsSliceOf sl vl vu .none) (pl:IsPart vl lo) (pu:IsPart vu hi)
  (hw:¬ (sIx items.size 0 lo=0/\sIx items.size items.size hi=items.size))
  (h:Q (.ref s.heap.objs.size) { s with heap:=s.heap.push { cls:=.type "tuple",data:=.seq ((items.toList.drop (sIx items.size 0 lo)).take (sIx items.size items.size hi - sIx items.size 0 lo)).toArray } })
  (hsz:items.size<=sizeLine):wpAny (model prog w) A (getItem (.ref t) (.ref sl)) Q E s:=by
 have htake:sizeOk (.seq ((items.toList.drop (sIx items.size 0 lo)).take (sIx items.size items.size hi - sIx items.size 0 lo)).toArray):=by
  show ((items.toList.drop (sIx items.size 0 lo)).take (sIx items.size items.size hi - sIx items.size 0 lo)).toArray.size<=sizeLine
  rw [List.size_toArray,List.length_take,List.length_drop,Array.length_toList]
  omega
 have hj:sIx items.size items.size hi<=items.size:=sIx_le _ _ (Nat.le_refl _) hi
 obtain ⟨os,hos,hcs,hds⟩:=id hs
 have hTs:s.TypeIs (.ref sl) "slice":=⟨os,hos,hcs⟩
 unfold getItem
 try with_reducible refine wpAny_holding ?_
 first | refine wpAny_bind (wpAny_pure ?_) | skip
 refine wpAny_bind (wpAny_sequenceKey ht.typeIs (by decide) ?_)
 refine wpAny_bind (wpAny_callSpecial?_slot (name:=Str.ofString "__getitem__") ht.typeIs PyProof.Rows.slot_tuple_getitem
  (wpAny_call_entry PyProof.Rows.slot_tuple_getitem ht.typeIs entry_tuple_getitem ?_ (args_tuple_getitem _ _)))
 show wpAny _ _ (Builtin.Tuple.tupleItemsOf (.ref t)>>=_) _ _ s
 refine wpAny_bind (tupleItemsOf_ ht ?_)
 refine wpAny_bind (wpAny_typeOf hTs ?_)
 rw [if_pos (by decide)]
 refine wpAny_bind (sliceApplied_gen hs pl pu ?_)
 have hno:¬ ((((sIx items.size 0 lo:Nat):Int)==0&&(1:Int)==1&&(sIx items.size items.size hi - sIx items.size 0 lo)==items.size)=true):=by
  intro q
  rw [Bool.and_eq_true,Bool.and_eq_true] at q
  have q1:((sIx items.size 0 lo:Nat):Int)=0:=eq_of_beq q.1.1
  have q2:sIx items.size items.size hi - sIx items.size 0 lo=items.size:=eq_of_beq q.2
  exact hw ⟨by omega,by omega⟩
 show wpAny _ _ (if (((sIx items.size 0 lo:Nat):Int)==0&&(1:Int)==1&&(sIx items.size items.size hi - sIx items.size 0 lo)==items.size)=true then _ else _) _ _ s
 rw [if_neg hno,pick_gen]
 first
  | exact wpAny_bind (m:=Builtin.Tuple.tupleExact _) (wpAny_newObj_type (wpAny_pure ⟨_,rfl,wpAny_pure h⟩) htake)
  | exact wpAny_bind (m:=Builtin.Tuple.tupleExact _) (wpAny_newObj_type (wpAny_bind (wpAny_pure (wpAny_pure ⟨_,rfl,wpAny_pure h⟩))) htake)
  | exact wpAny_bind (wpAny_bind (m:=Builtin.Tuple.tupleExact _) (wpAny_newObj_type (wpAny_pure (wpAny_pure ⟨_,rfl,wpAny_pure h⟩)) htake))
  | exact wpAny_bind (wpAny_bind (m:=Builtin.Tuple.tupleExact _) (wpAny_newObj_type (wpAny_pure ⟨_,rfl,wpAny_pure h⟩) htake))
end
end HT
namespace L2
open PySem PySem.Spec PyProof.Rows
abbrev TO:=St->Hp->(Option Int->Hp->Prop)->Prop
def PO (X:Cx) (e:Option Expr) (t:TO):Prop :=
 ∀ (pins:List (Addr×Obj)) (s:Shared) (σ:St) (H:Hp) (Q:Option Int->Hp->Prop),Inv X pins σ H s->t σ H Q ->
  wpAny (model X.prog X.w) X.A (evalPart e X.env) (fun u s'=>∃ o H',Inv X pins σ H' s'/\IsPart u o/\Q o H') X.xe s
def tNoPart:TO:=fun _ H Q=>Q none H
def tPart (t:TE):TO:=fun σ H Q=>t σ H fun x H1=>∃ i,x=.int i/\Q (some i) H1
theorem intsAre_of {ns:List Int}:∀ {us:List Value},Vals (ns.map V.int) us->IntsAre us ns:=by
 induction ns with
 | nil=>intro us r;rw [List.map_nil] at r;cases r;exact .nil
 | cons n ns ih =>
  intro us r
  rw [List.map_cons] at r
  cases r with
  | cons r1 r2 =>
   obtain ⟨t,e⟩:=r1
   subst e
   exact .cons n t (ih r2)
section
variable {X:Cx} {e:Expr} {te:TE} {lo hi:Option Expr} {tl th:TO} {pos p2:Pos}
theorem po_none:PO X none tNoPart:=by
 intro pins s σ H Q I h
 rw [evalPart_none]
 exact wpAny_pure ⟨none,H,I,.none,h⟩
theorem po_some (h:PE X e te):PO X (some e) (tPart te):=by
 intro pins s σ H Q I hw
 rw [evalPart_some]
 refine thn (h pins s σ H _ I hw) fun u s1 ⟨x,H1,I1,r1,q1⟩=>?_
 obtain ⟨i,rfl,q⟩:=q1
 obtain ⟨t,rfl⟩:=r1
 exact ⟨some i,H1,I1,.int i t,q⟩
def SlR (X:Cx) (r:V->Option Int->Option Int->Hp->VK->Prop):Prop :=
 ∀ (pins:List (Addr×Obj)) (s:Shared) (σ:St) (H:Hp) (x:V) (v vl vu:Value) (lo hi:Option Int) (sl:Addr) (Q:VK),Inv X pins σ H s->RelV x v->s.heap.IsSliceOf sl vl vu .none->IsPart vl lo->IsPart vu hi->r x lo hi H Q ->
  ∃ T id,typeLookup (.type T) "__getitem__"=pure (some (.builtin id))/\s.TypeIs v T/\wpAny (model X.prog X.w) X.A (getItem v (.ref sl)) (EP X pins σ Q) X.xe s
def tSl (r:V->Option Int->Option Int->Hp->VK->Prop) (te:TE) (tl th:TO):TE:=fun σ H Q=>te σ H fun x H1=>tl σ H1 fun l H2=>th σ H2 fun u H3=>r x l u H3 Q
theorem pe_slice {r:V->Option Int->Option Int->Hp->VK->Prop} (hr:SlR X r) (he:PE X e te) (hl:PO X lo tl) (hu:PO X hi th):PE X (.Subscript e (.Slice lo hi none p2) pos) (tSl r te tl th):=by
 intro pins s σ H Q I h
 refine Subscript_ (thn (he pins s σ H _ I h) fun v s1 ⟨x,H1,I1,r1,q1⟩=>?_)
 refine wpAny_Slice (thn (hl pins s1 σ H1 _ I1 q1) fun vl s2 ⟨l,H2,I2,pl,q2⟩=>thn (hu pins s2 σ H2 _ I2 q2) fun vu s3 ⟨u,H3,I3,pu,q3⟩=>?_)
 rw [evalPart_none]
 refine wpAny_pure ?_
 have I4:Inv X pins σ H3 { s3 with heap:=s3.heap.push { cls:=.type "slice",data:=.fields #[vl,vu,.none] } }:=I3.kept (t':=s3.toks) fun b ob q=>Heap.get?_push_of_some _ q
 obtain ⟨T,id,hT,ht,hg⟩:=hr pins { s3 with heap:=s3.heap.push { cls:=.type "slice",data:=.fields #[vl,vu,.none] } } σ H3 x v vl vu l u s3.heap.objs.size Q I4 r1 (Heap.IsSliceOf.new ..) pl pu q3
 show wpAny (model X.prog X.w) X.A (subscriptTail e (.Slice lo hi none p2) v (.ref s3.heap.objs.size)) (EP X pins σ Q) X.xe { s3 with heap:=s3.heap.push { cls:=.type "slice",data:=.fields #[vl,vu,.none] } }
 exact tail_any (ops:=[.ref s3.heap.objs.size,v]) ht hT hg (by with_unfolding_all rfl)
def cutV (xs:List V) (lo hi:Option Int):List V:=(xs.drop (HT.sIx xs.length 0 lo)).take (HT.sIx xs.length xs.length hi - HT.sIx xs.length 0 lo)
theorem cutV_length (xs:List V) (lo hi:Option Int):(cutV xs lo hi).length<=xs.length:=by
 unfold cutV
 rw [List.length_take,List.length_drop]
 omega
def rSlT (K:W.Frag):V->Option Int->Option Int->Hp->VK->Prop:=fun x lo hi H Q=>∃ a xs,x=.ref a/\SqT K H a xs /\
 ¬ (HT.sIx xs.length 0 lo=0/\HT.sIx xs.length xs.length hi=xs.length)/\∀ p,H p=none->Q (.ref p) (upd H p (.tup (cutV xs lo hi)))
theorem sl_tup:SlR X (rSlT X.K):=by
 intro pins s σ H x v vl vu lo hi sl Q I rx hs pl pu h
 obtain ⟨a,xs,rfl,hx,hw,q⟩:=h
 cases rx
 obtain ⟨its,r,ht,hz⟩:=I.tuple hx
 have hlen:its.toArray.size=xs.length:=by rw [List.size_toArray];exact r.length.symm
 refine ⟨"tuple",_,PyProof.Rows.slot_tuple_getitem.lookup,ht.typeIs,?_⟩
 refine HT.getItem_tuple_cut ht hs pl pu (by rw [hlen];exact hw) ?_ (by rw [hlen];exact hz)
 rw [hlen]
 refine ⟨.ref s.heap.objs.size,_,I.laid (t':=s.toks) (o:=.tup (cutV xs lo hi)) (fun b ob q=>Heap.get?_push_of_some _ q) (Nat.le_refl _) ?_,rfl,q _ (I.hok.fresh (Nat.le_refl _))⟩
 exact ⟨Nat.le_trans (cutV_length xs lo hi) hz,_,(r.drop (HT.sIx xs.length 0 lo)).take (HT.sIx xs.length xs.length hi - HT.sIx xs.length 0 lo),IsTup.new _ _⟩
def rLtT (K:W.Frag):R2:=fun x y H Q=>∃ a b ns ms,x=.ref a/\y=.ref b/\SqT K H a (ns.map V.int)/\SqT K H b (ms.map V.int)/\Q (.bl (HT.lexLt ns ms)) H
theorem op_ltT (hu:X.A.units < cLine):OpR X (compareOp .Lt) (rLtT X.K):=by
 intro pins s σ H x y v u Q I rx ry h
 obtain ⟨a,b,ns,ms,rfl,rfl,ha,hb,q⟩:=h
 cases rx
 cases ry
 obtain ⟨its,r1,p1,_⟩:=I.tuple ha
 obtain ⟨its2,r2,p2,_⟩:=I.tuple hb
 have i1:IntsAre its.toArray.toList ns:=intsAre_of r1
 have i2:IntsAre its2.toArray.toList ms:=intsAre_of r2
 exact HT.lt_tupInts p1 p2 i1 i2 hu ⟨.bl (HT.lexLt ns ms),H,I,rfl,q⟩
end
end L2
namespace L2
open PySem PySem.Spec PyProof.Rows
def ixN (n:Nat) (i:Int):Option Nat:=if 0<=i then (if i < n then some i.toNat else none) else if -(n:Int)<=i then some (i+n).toNat else none
def atI {α:Type} (xs:List α) (i:Int):Option α:=(ixN xs.length i).bind fun j=>xs[j]?
theorem ixN_seq {n:Nat} {i:Int} {j:Nat} (h:ixN n i=some j):seqIndex? i n=some j/\j < n/\-(n:Int)<=i/\i < n:=by
 unfold ixN at h
 by_cases h0:0<=i
 ·rw [if_pos h0] at h
  by_cases h1:i < n
  ·rw [if_pos h1] at h
   have e:i.toNat=j:=Option.some.inj h
   exact ⟨by rw [seqIndex_of h0 h1,e],by omega,by omega,h1⟩
  ·rw [if_neg h1] at h;cases h
 ·rw [if_neg h0] at h
  by_cases h1:-(n:Int)<=i
  ·rw [if_pos h1] at h
   have e:(i+n).toNat=j:=Option.some.inj h
   exact ⟨by rw [seqIndex_neg (by omega) h1,e],by omega,h1,by omega⟩
  ·rw [if_neg h1] at h;cases h
theorem atI_get {α:Type} {xs:List α} {i:Int} {v:α} (h:atI xs i=some v):∃ j,seqIndex? i xs.length=some j/\xs[j]?=some v/\j < xs.length/\-(xs.length:Int)<=i/\i < xs.length:=by
 unfold atI at h
 cases e:ixN xs.length i with
 | none=>rw [e] at h;cases h
 | some j =>
  rw [e] at h
  obtain ⟨h1,h2,h3,h4⟩:=ixN_seq e
  exact ⟨j,h1,h,h2,h3,h4⟩
def PlainIx (b:Expr):Prop:=∀ o i,subscripted b false o i=operate [o,i] (getItem o i)
def IxR (X:Cx) (r:R2):Prop :=
 ∀ (value slice:Expr) (pins:List (Addr×Obj)) (s:Shared) (σ:St) (H:Hp) (x y:V) (v u:Value) (Q:VK),Inv X pins σ H s->RelV x v->RelV y u->r x y H Q ->
  subscripted slice false v u=operate [v,u] (getItem v u)->wpAny (model X.prog X.w) X.A (subscriptTail value slice v u) (EP X pins σ Q) X.xe s
def MtR (X:Cx) (id:String) (r:V->List V->Hp->VK->Prop):Prop :=
 ∀ (pins:List (Addr×Obj)) (s:Shared) (σ:St) (H:Hp) (x:V) (xs:List V) (v:Value) (us:List Value) (Q:VK),Inv X pins σ H s->RelV x v->Vals xs us->r x xs H Q ->
  wpAny (model X.prog X.w) X.A (call (.builtin id) (v::us)) (EP X pins σ Q) X.xe s
section
variable {X:Cx} {a b:Expr} {ta tb:TE} {pos:Pos}
theorem IxR.or {r r':R2} (h:IxR X r) (h':IxR X r'):IxR X (fun x y H Q=>r x y H Q\/r' x y H Q):=by
 intro value slice pins s σ H x y v u Q I rx ry q hs
 rcases q with q | q
 ·exact h value slice pins s σ H x y v u Q I rx ry q hs
 ·exact h' value slice pins s σ H x y v u Q I rx ry q hs
theorem pe_ix {r:R2} (hr:IxR X r) (ha:PE X a ta) (hb:PE X b tb) (hs:PlainIx b):PE X (.Subscript a b pos) (tOp r ta tb):=by
 intro pins s σ H Q I h
 exact Subscript_ (binT ha hb I h fun v u s2 x y H2 I2 rx ry q=>hr a b pins s2 σ H2 x y v u Q I2 rx ry q (hs _ _))
def rIxL (K:W.Frag):R2:=fun x y H Q=>∃ p xs i v,x=.ref p/\y=.int i/\SqL K H p xs/\atI xs i=some v/\Q v H
def rIxT (K:W.Frag):R2:=fun x y H Q=>∃ p xs i v,x=.ref p/\y=.int i/\SqT K H p xs/\atI xs i=some v/\Q v H
def rIxS:R2:=fun x y H Q=>∃ z i c,x=.str z/\y=.int i/\z.length<=sizeLine/\atI z.cps.toList i=some c/\Q (.str ⟨#[c]⟩) H
theorem ix_list:IxR X (rIxL X.K):=by
 intro value slice pins s σ H x y v u Q I rx ry h hs
 obtain ⟨p,xs,i,z,rfl,rfl,hq,he,q⟩:=h
 cases rx
 obtain ⟨t,rfl⟩:=ry
 obtain ⟨its,r,pl,hz⟩:=I.list hq
 obtain ⟨j,h1,h2,h3,h4,h5⟩:=atI_get he
 obtain ⟨w,ew,rw'⟩:=r.get h2
 have hl:=r.length
 have hn:=line63
 have fin:EP X pins σ Q w s:=⟨z,H,I,rw',q⟩
 by_cases h0:0<=i
 ·have hj:i.toNat=j:=by
   rw [seqIndex_of h0 h5] at h1
   exact Option.some.inj h1
  exact item_listR pl.isList h0 (by omega) (by rw [hj];simpa using ew) fin hs
 ·have hj:(i+(its.toArray.size:Int)).toNat=j:=by
   rw [seqIndex_neg (by omega) h4] at h1
   rw [List.size_toArray,<- hl]
   exact Option.some.inj h1
  exact subscriptTail_builtinR (x:=w) pl.isList.typeIs slot_list_getitem.lookup
   (wpAny_getItem_list_neg (Q:=fun r s'=>r=w/\EP X pins σ Q r s') pl.isList (by omega) (by rw [List.size_toArray] <;> omega) (by omega) (by rw [hj];simpa using ew) ⟨rfl,fin⟩) hs
theorem ix_tup:IxR X (rIxT X.K):=by
 intro value slice pins s σ H x y v u Q I rx ry h hs
 obtain ⟨p,xs,i,z,rfl,rfl,hq,he,q⟩:=h
 cases rx
 obtain ⟨t,rfl⟩:=ry
 obtain ⟨its,r,pl,hz⟩:=I.tuple hq
 obtain ⟨j,h1,h2,h3,h4,h5⟩:=atI_get he
 obtain ⟨w,ew,rw'⟩:=r.get h2
 have hl:=r.length
 have hn:=line63
 have fin:EP X pins σ Q w s:=⟨z,H,I,rw',q⟩
 exact subscriptTail_builtinR (x:=w) pl.typeIs slot_tuple_getitem.lookup
  (getItem_tuple (j:=j) (Q:=fun r s'=>r=w/\EP X pins σ Q r s') pl (by omega) (by omega) (by rw [List.size_toArray,<- hl];exact h1) (by simpa using ew) ⟨rfl,fin⟩) hs
theorem ix_str:IxR X rIxS:=by
 intro value slice pins s σ H x y v u Q I rx ry h hs
 obtain ⟨z,i,c,rfl,rfl,hz,he,q⟩:=h
 obtain ⟨t,rfl⟩:=rx
 obtain ⟨t',rfl⟩:=ry
 obtain ⟨j,h1,h2,h3,h4,h5⟩:=atI_get he
 have hl:z.cps.toList.length=z.length:=by simp [Str.length]
 rw [hl] at h1 h4 h5
 have hn:=line63
 exact tail_any (typeIs_str s z t) slot_str_getitem.lookup (getItem_str (c:=c) (by
  have e1:decide (i < -(2 ^ 63:Int))=false:=decide_eq_false (by omega)
  have e2:decide (i>=2 ^ 63)=false:=decide_eq_false (by omega)
  rw [e1,e2,Bool.or_false]) (by rw [h1];simpa using h2) ⟨.str ⟨#[c]⟩,H,I.tok _,⟨_,rfl⟩,q⟩) hs
def rIx (K:W.Frag):R2:=fun x y H Q=>rIxL K x y H Q\/rIxT K x y H Q\/rIxS x y H Q
theorem ix_seq:IxR X (rIx X.K):=ix_list.or (ix_tup.or ix_str)
theorem slice_bounds (lo hi:Option Int) (n:Nat):(sliceBounds lo hi none n).1=((HT.sIx n 0 lo:Nat):Int)/\(sliceBounds lo hi none n).2.1=((HT.sIx n n hi:Nat):Int)/\(sliceBounds lo hi none n).2.2=1:=by
 refine ⟨?_,?_,rfl⟩
 ·cases lo with
  | none=>simp [sliceBounds,HT.sIx]
  | some i =>
   simp only [sliceBounds,HT.sIx,Option.getD_none,show (1:Int) > 0 by decide,if_true]
   by_cases h:i < 0
   ·simp only [h,if_true] <;> omega
   ·simp only [h,if_false] <;> omega
 ·cases hi with
  | none=>simp [sliceBounds,HT.sIx]
  | some i =>
   simp only [sliceBounds,HT.sIx,Option.getD_none,show (1:Int) > 0 by decide,if_true]
   by_cases h:i < 0
   ·simp only [h,if_true] <;> omega
   ·simp only [h,if_false] <;> omega
theorem slicePick_cut (its:List Value) (lo hi:Option Int):slicePick its.toArray lo hi none=((its.drop (HT.sIx its.length 0 lo)).take (HT.sIx its.length its.length hi - HT.sIx its.length 0 lo)).toArray:=by
 obtain ⟨h1,h2,h3⟩:=slice_bounds lo hi its.toArray.size
 unfold slicePick
 rw [h1,h2,h3]
 simp only [sliceRange_one,pick_run,List.size_toArray] <;> rfl
def rSlL (K:W.Frag):V->Option Int->Option Int->Hp->VK->Prop:=fun x lo hi H Q=>∃ a xs,x=.ref a/\SqL K H a xs/\∀ p,H p=none->Q (.ref p) (upd H p (.lst (cutV xs lo hi)))
theorem sl_list:SlR X (rSlL X.K):=by
 intro pins s σ H x v vl vu lo hi sl Q I rx hs pl pu h
 obtain ⟨a,xs,rfl,hx,q⟩:=h
 cases rx
 obtain ⟨its,r,ht,hz⟩:=I.list hx
 have hlen:=r.length
 refine ⟨"list",_,slot_list_getitem.lookup,ht.isList.typeIs,?_⟩
 refine wpAny_getItem_list_slice ht.isList hs pl pu .none (by simp) ?_ (by rw [List.size_toArray] <;> omega)
 rw [slicePick_cut,<- hlen]
 refine ⟨.ref s.heap.objs.size,_,I.laid (t':=s.toks) (o:=.lst (cutV xs lo hi)) (fun b ob q=>Heap.get?_push_of_some _ q) (Nat.le_refl _) ?_,rfl,q _ (I.hok.fresh (Nat.le_refl _))⟩
 exact ⟨Nat.le_trans (cutV_length xs lo hi) hz,_,0,(r.drop (HT.sIx xs.length 0 lo)).take (HT.sIx xs.length xs.length hi - HT.sIx xs.length 0 lo),Heap.get?_push_size _ rfl⟩
theorem call_len_seq:CallR X (.builtin "len") (fun xs H Q=>∃ p ys,xs=[.ref p]/\(SqL X.K H p ys\/SqT X.K H p ys)/\Q (.int ys.length) H):=by
 intro pins s σ H xs us Q I r h
 obtain ⟨p,ys,rfl,hq,q⟩:=h
 obtain ⟨u,rfl,rx⟩:=vals1 r
 cases rx
 have hn:=line63
 rcases hq with hq | hq
 ·obtain ⟨its,r',pl,hz⟩:=I.list hq
  have hlen:=r'.length
  exact Calls.call_len_list pl.isList (by simp only [List.size_toArray] <;> omega) ⟨.int ys.length,H,I.tok _,⟨s.toks+1,by rw [List.size_toArray,hlen]⟩,q⟩
 ·obtain ⟨its,r',pl,hz⟩:=I.tuple hq
  have hlen:=r'.length
  exact len_tuple pl (by simp only [List.size_toArray] <;> omega) ⟨.int ys.length,H,I.tok _,⟨s.toks+1,by rw [List.size_toArray,hlen]⟩,q⟩
theorem call_len_str:CallR X (.builtin "len") (fun xs H Q=>∃ z,xs=[.str z]/\z.length<=sizeLine/\Q (.int z.length) H):=by
 intro pins s σ H xs us Q I r h
 obtain ⟨z,rfl,hz,q⟩:=h
 obtain ⟨u,rfl,t,rfl⟩:=vals1 r
 have hn:=line63
 exact len_str (by omega) ⟨.int z.length,H,I.tok _,⟨_,rfl⟩,q⟩
theorem call_list_of:CallR X (.type "list") (fun xs H Q=>∃ p ys,xs=[.ref p]/\(SqL X.K H p ys\/SqT X.K H p ys)/\∀ l,H l=none->Q (.ref l) (upd H l (.lst ys))):=by
 intro pins s σ H xs us Q I r h
 obtain ⟨p,ys,rfl,hq,q⟩:=h
 obtain ⟨u,rfl,rx⟩:=vals1 r
 cases rx
 have fin:∀ (its:List Value),Vals ys its->ys.length<=sizeLine->∀ (h':Heap) (c':Nat),(∀ b o',s.heap.get? b=some o'->h'.get? b=some o') ->
   h'.get? s.heap.objs.size=some { cls:=.type "list",dict:=none,data:=.seq its.toArray c',slots:=#[] }->EP X pins σ Q (.ref s.heap.objs.size) { s with heap:=h' }:=fun its r' hz h' c' kp e =>
  ⟨.ref s.heap.objs.size,_,I.laid (t':=s.toks) kp (Nat.le_refl _) (show ObjOk X.prog X.w _ h' _ (.lst ys) from ⟨hz,its,c',r',e⟩),rfl,q _ (I.hok.fresh (Nat.le_refl _))⟩
 rcases hq with hq | hq
 ·obtain ⟨its,r',pl,hz⟩:=I.list hq
  have hlen:=r'.length
  obtain ⟨o,ho,hc,n,hd⟩:=pl.isList
  exact call_list_seq p (.inl rfl) ho hc hd (fun h' c' kp e=>fin its r' hz h' c' kp e) (by simp only [List.size_toArray] <;> omega)
 ·obtain ⟨its,r',pl,hz⟩:=I.tuple hq
  have hlen:=r'.length
  obtain ⟨o,ho,hc,n,hd⟩:=pl
  exact call_list_seq p (.inr rfl) ho hc hd (fun h' c' kp e=>fin its r' hz h' c' kp e) (by simp only [List.size_toArray] <;> omega)
theorem call_tuple_of:CallR X (.type "tuple") (fun xs H Q=>∃ p ys,xs=[.ref p]/\((SqL X.K H p ys/\∀ l,H l=none->Q (.ref l) (upd H l (.tup ys)))\/(SqT X.K H p ys/\Q (.ref p) H))):=by
 intro pins s σ H xs us Q I r h
 obtain ⟨p,ys,rfl,h⟩:=h
 obtain ⟨u,rfl,rx⟩:=vals1 r
 cases rx
 rcases h with ⟨hq,q⟩ | ⟨hq,q⟩
 ·obtain ⟨its,r',pl,hz⟩:=I.list hq
  have hlen:=r'.length
  refine call_tuple_list pl.isList (fun h' kp=>?_) (by simp only [List.size_toArray] <;> omega)
  have I1:Inv X pins σ H { s with heap:=h' }:=I.kept (t':=s.toks) kp
  have I2:Inv X pins σ (upd H h'.objs.size (.tup ys)) { s with heap:=h'.push { cls:=.type "tuple",data:=.seq its.toArray } } :=
   I1.laid (t':=s.toks) (fun b o e=>Heap.get?_push_of_some _ e) (Nat.le_refl _) (show ObjOk X.prog X.w _ _ _ (.tup ys) from ⟨hz,its,r',IsTup.new _ _⟩)
  exact ⟨.ref h'.objs.size,_,I2,rfl,q _ (I1.hok.fresh (Nat.le_refl _))⟩
 ·obtain ⟨its,r',pl,hz⟩:=I.tuple hq
  exact call_tuple_same pl ⟨.ref p,H,I,rfl,q⟩
def tyV (K:W.Frag) (T:String) (x:V) (H:Hp):Prop:=match x with
 | .str _=>T="str"
 | .int _=>T="int"
 | .ref p=>(T="list"/\∃ xs,SqL K H p xs)\/(T="tuple"/\∃ o,K.lookup p=some o/\o.cls=.type "tuple"/\o.dict=none) \/
   (T="dict"/\((∃ kvs,H p=some (.dK kvs))\/∃ kvs,H p=some (.dT kvs)))\/(T="set"/\∃ S n,H p=some (.set S n))
 | _=>False
theorem tyV_is {pins:List (Addr×Obj)} {σ:St} {H:Hp} {s:Shared} {T:String} {x:V} {v:Value} (I:Inv X pins σ H s) (r:RelV x v) (ty:tyV X.K T x H) :
  s.TypeIs v T/\∀ a,v=.ref a->∃ ob,s.heap.get? a=some ob/\ob.dict=none:=by
 cases x with
 | str z =>
  obtain ⟨t,rfl⟩:=r
  cases (show T="str" from ty)
  exact ⟨typeIs_str s z t,fun _ e=>nomatch e⟩
 | int i =>
  obtain ⟨t,rfl⟩:=r
  cases (show T="int" from ty)
  exact ⟨typeIs_int s i t,fun _ e=>nomatch e⟩
 | ref p =>
  cases r
  rcases ty with ⟨rfl,xs,hq⟩ | ⟨rfl,o,hk,hc,hd⟩ | ⟨rfl,hk⟩ | ⟨rfl,S,n,hk⟩
  ·obtain ⟨its,_,pl,_⟩:=I.list hq
   refine ⟨pl.isList.typeIs,fun a e=>?_⟩
   cases e
   obtain ⟨o,n,e,c,hd,_⟩:=pl
   exact ⟨o,e,hd⟩
  ·refine ⟨⟨o,I.kIn p o hk,hc⟩,fun a e=>?_⟩
   cases e
   exact ⟨o,I.kIn _ o hk,hd⟩
  ·have z:∃ o,s.heap.get? p=some o/\o.ExactDict:=by
    rcases hk with ⟨kvs,hk⟩ | ⟨kvs,hk⟩
    ·obtain ⟨_,_,_,_,o,_,_,e,ex,_⟩:=I.hok p _ hk
     exact ⟨o,e,ex⟩
    ·obtain ⟨_,_,_,_,o,_,_,e,ex,_⟩:=I.hok p _ hk
     exact ⟨o,e,ex⟩
   obtain ⟨o,e,ex⟩:=z
   refine ⟨⟨o,e,ex.1⟩,fun a e2=>?_⟩
   cases e2
   exact ⟨o,e,ex.2.1⟩
  ·obtain ⟨o,_,_,_,e,ex,_⟩:=I.hok p _ hk
   refine ⟨⟨o,e,ex.1⟩,fun a e2=>?_⟩
   cases e2
   exact ⟨o,e,ex.2.1⟩
 | _=>exact False.elim ty
def tBM (K:W.Frag) (T:String) (r:V->List V->Hp->VK->Prop) (to:TE) (t:TA):TE:=fun σ H Q=>to σ H fun x H1=>tyV K T x H1/\t σ H1 fun xs H2=>r x xs H2 Q
variable {o e:Expr} {es:List Expr} {to:TE} {t:TA} {name:Str} {apos cpos:Pos} {T id:String} {r:V->List V->Hp->VK->Prop}
theorem pe_bm (pa:PlainAttrs T) (slot:Slot T name id) (hty:typeOf (.builtin id)=pure (.type "method_descriptor")) (hm:MtR X id r) (ho:PE X o to) (ha:PA X (e::es) t)
  (hbase:attributeBase o name X.env (eval o X.env)=eval o X.env:=by rfl)
  (hfew:((backTo cpos (starEach (e::es) X.env)).all (fun x=>!x.1)&&(backToKw cpos (keywordEach [] X.env)).all (fun x=>x.1.isSome)
   && decide ((e::es).length+([]:List Keyword).length+(if ([]:List Keyword).isEmpty then 0 else 1) < 30))=true:=by rfl)
  (hline:(apos.endLine==cpos.line)=true:=by rfl) (hs:starEach (e::es) X.env=(false,eval e X.env)::starEach es X.env:=by rfl) (hplain:(backTo cpos (starEach es X.env)).any (·.1)=false:=by rfl) :
  PE X (.Call (.Attribute o name apos) (e::es) [] cpos) (tBM X.K T r to t):=by
 intro pins s σ H Q I h
 refine wpAny_Call_method_late hbase hfew hline rfl (thn (ho pins s σ H _ I h) fun v s1 ⟨x,H1,I1,r1,ty,q1⟩=>?_)
 obtain ⟨h1,h2⟩:=tyV_is I1 r1 ty
 refine ⟨T,id,pa,slot,hty,h1,h2,?_⟩
 have hA:=ha cpos pins s1 σ H1 _ I1 q1
 rw [hs] at hA ⊢
 refine Calls.callWith_builtin (by show (false||(backTo cpos (starEach es X.env)).any (·.1))=false;rw [hplain] <;> rfl) (Calls.evalArgs_plain ?_)
 exact thn hA fun us s2 ⟨vs,H2,I2,r2,q2⟩=>hm pins s2 σ H2 x vs v us Q I2 r1 r2 q2
end
end L2
namespace L2
open PySem PySem.Spec PyProof.Rows
def MtM (X:Cx) (id:String) (r:V->List V->Hp->VK->Prop):Prop :=
 ∀ (pins:List (Addr×Obj)) (s:Shared) (σ:St) (H:Hp) (x:V) (xs:List V) (v:Value) (us:List Value) (Q:VK),Inv X pins σ H s->RelV x v->Vals xs us->r x xs H Q ->
  wpAny (model X.prog X.w) X.A (call (.builtin id) (v::us)) (EP X pins σ Q) X.xe s
theorem Vals.one:∀ {x:V} {us:List Value},Vals [x] us->∃ u,us=[u]/\RelV x u
 | _,_,.cons r .nil=>⟨_,rfl,r⟩
theorem Vals.reverse {xs:List V} {us:List Value} (h:Vals xs us):Vals xs.reverse us.reverse:=by
 induction h with
 | nil=>exact .nil
 | cons r t ih=>rw [List.reverse_cons,List.reverse_cons];exact Vals.append ih (.cons r .nil)
theorem Vals.rep {xs:List V} {us:List Value} (h:Vals xs us):∀ k:Nat,Vals (List.replicate k xs).flatten (List.replicate k us).flatten
 | 0=>.nil
 | k+1=>by
  rw [List.replicate_succ,List.replicate_succ,List.flatten_cons,List.flatten_cons]
  exact Vals.append h (Vals.rep h k)
theorem foldl_rep (its:List Value):∀ (k:Nat) (acc:List Value),
  List.foldl (fun x1 x2=>x1++x2) acc.toArray (List.replicate k its.toArray)=(acc++(List.replicate k its).flatten).toArray
 | 0,acc=>by simp
 | k+1,acc=>by
  have e:acc.toArray++its.toArray=(acc++its).toArray:=by simp
  have e2:(acc++its)++(List.replicate k its).flatten=acc++(List.replicate (k+1) its).flatten:=by
   rw [List.replicate_succ,List.flatten_cons,List.append_assoc]
  rw [<- e2,<- foldl_rep its k (acc++its),<- e,List.replicate_succ,List.foldl_cons]
section
variable {X:Cx} {pins:List (Addr×Obj)} {σ:St} {H:Hp} {s:Shared} {l b:Addr} {xs ys zs:List V}
theorem Inv.lset {its its':List Value} {n:Nat} {f:Array Value->Array Value} {t':Nat} (I:Inv X pins σ H s) (hH:H l=some (.lst xs))
  (e:s.heap.get? l=some { cls:=.type "list",data:=.seq its.toArray n }) (hf:f its.toArray=its'.toArray) (hv:Vals ys its') (hz:ys.length<=sizeLine) :
  Inv X pins σ (upd H l (.lst ys)) { s with heap:=s.heap.update l (Obj.mapSeq f),toks:=t' }:=by
 have q:=PySem.IsL.update e f
 rw [hf] at q
 refine I.write (x:=l) (e:=l) (by rw [hH];exact trivial) (.inl rfl) (fun b' u hb hu=>(Heap.get?_update_other s.heap (Obj.mapSeq f) (Ne.symm hb)).trans hu) ⟨_,q⟩ ?_
 exact ⟨hz,its',_,hv,q⟩
theorem Inv.lnew {its:List Value} {t':Nat} (I:Inv X pins σ H s) (hv:Vals ys its) (hz:ys.length<=sizeLine) :
  Inv X pins σ (upd H s.heap.objs.size (.lst ys)) { s with heap:=s.heap.push { cls:=.type "list",data:=.seq its.toArray },toks:=t' } :=
 I.laid (fun _ _ q=>Heap.get?_push_of_some _ q) (Nat.le_refl _) ⟨hz,its,0,hv,Heap.get?_push_size _ rfl⟩
theorem Inv.fresh (I:Inv X pins σ H s):H s.heap.objs.size=none:=I.hok.fresh (Nat.le_refl _)
theorem Inv.lstM (I:Inv X pins σ H s) (hH:H l=some (.lst xs)):xs.length<=sizeLine/\∃ (its:List Value) (n:Nat),Vals xs its/\xs.length=its.length/\s.heap.get? l=some { cls:=.type "list",data:=.seq its.toArray n }:=by
 obtain ⟨z,its,n,r,e⟩:=I.hok l _ hH
 exact ⟨z,its,n,r,r.length,e⟩
theorem notLongL {n:Nat} (h:n<=sizeLine):Builtin.List.listTooLong n=false:=by
 unfold Builtin.List.listTooLong
 exact decide_eq_false (by omega)
end
section
variable {X:Cx}
def rAppend:V->List V->Hp->VK->Prop:=fun x vs H Q=>∃ l xs y,x=.ref l/\vs=[y]/\H l=some (.lst xs)/\xs.length < sizeLine/\Q .non (upd H l (.lst (xs++[y])))
theorem mt_append:MtM X "list.append" rAppend:=by
 intro pins s σ H x vs v us Q I rx rv h
 obtain ⟨l,xs,y,rfl,rfl,hH,hz,q⟩:=h
 cases rx
 obtain ⟨u,rfl,ru⟩:=rv.one
 obtain ⟨z,its,n,r,hl,e⟩:=I.lstM hH
 refine call_meets F.slot_list_append ⟨_,e,rfl⟩ F.entry_list_append (F.args_list_append_2 _ _) (PySem.list_append l its.toArray n u (by rw [List.size_toArray];omega)) ⟨e,?_⟩
 refine ⟨.non,_,I.lset (its':=its++[u]) hH e (by simp) (r.append (.cons ru .nil)) ?_,rfl,q⟩
 rw [List.length_append,List.length_singleton]
 omega
theorem len_rep {α:Type} (xs:List α) (k:Nat):(List.replicate k xs).flatten.length=k * xs.length:=by
 induction k with
 | zero=>simp
 | succ k ih=>rw [List.replicate_succ,List.flatten_cons,List.length_append,ih,Nat.succ_mul,Nat.add_comm]
end
section
variable {prog:Program} {w:World} {A:Around} {E:Value->Shared->Prop} {s:Shared}
end
section
variable {X:Cx}
end
end L2
namespace Att
open PySem PySem.W PySem.Calls PyProof.Rows
theorem ints_of_wellAll {P:Params} {h:Heap}:∀ (ns:List Int) (vs:List Value),WellAll P h vs (ns.map WData.int)->IntsAre vs ns:=by
 intro ns
 induction ns with
 | nil =>
  intro vs w
  rw [List.map_nil] at w
  cases w
  exact .nil
 | cons n ns ih =>
  intro vs w
  rw [List.map_cons] at w
  cases w with
  | cons a b =>
   cases a
   exact .cons _ _ (ih _ b)
theorem script_of {l:OpenLaw} {n:Nat} (hn:l.most=some n) {P:Params} {h:Heap} {args:List WData} {vals:List Value}
  (hpre:l.row.toRowW.claim.pre args=true) (hwl:WellAll P h vals args) :
  ∃ a vs ns,vals=[Value.ref a]/\args=[WData.list (ns.map WData.int)]/\h.get? a=some { cls:=.type "list",data:=.seq vs.toArray }/\IntsAre vs ns/\ns.length<=n:=by
 have hsh:WShape.hasAll [] args [.list .int]=true:=(pre_splitW hpre).1
 have hc:l.pre.holds [] { args:=args }=true:=(pre_splitW hpre).2
 obtain ⟨d,r,rfl,h1,h2⟩:=hasAllW_cons hsh
 obtain rfl:=hasAllW_nil h2
 obtain ⟨xs,rfl,h3⟩:=hasW_list h1
 obtain ⟨ns,rfl⟩:=items_int h3
 have hlen:ns.length<=n:=by
  unfold OpenLaw.pre at hc
  have h4:(WTm.not (.lt (.lit (.int (n:Int))) (.len (.arg 0)))).holds [] { args:=[.list (ns.map .int)] }=true:=by
   have h4:=(holds_andW hc).1
   rw [hn] at h4
   exact h4
  have h5:=condW_of h4 (w_not (w_lt w_lit (w_len_list (w_arg rfl))))
  rw [List.length_map] at h5
  refine Nat.le_of_not_lt fun q=>?_
  have q':(n:Int) < ((ns.length:Nat):Int):=by omega
  first
   | (rw [decide_eq_true q'] at h5;exact absurd h5 (by decide))
   | (simp at h5;omega)
 cases hwl with
 | cons w1 w2 =>
  cases w2
  cases w1 with
  | list ho hall=>exact ⟨_,_,ns,rfl,rfl,ho,ints_of_wellAll ns _ hall,hlen⟩
theorem post_true (l:OpenLaw) (args:List WData):l.row.toRowW.claim.post args (.bool true) args=true :=
 postW_of (r:=l.row.toRowW) (X:=(true==true))
  (show WShape.has [] (.bool true) .bool=true by first | rfl | decide | simp [WShape.has,WShape.arms,WShape.armsAll])
  (show (WTm.eq .res (.lit (.bool true))).value [] { args:=args,res:=some (.bool true),after:=args }=some (.bool (true==true)) from w_eq_bool (w_res rfl) w_lit) rfl
theorem attach_call {l:OpenLaw} {n:Nat} {q:Program} {loose:List Str} {XP:(Str->Option Value)->Heap->Prop} {YP:World->Heap->Prop} {d:DefRec}
  (hn:l.most=some n) (hdf:d.params.defaults=[])
  (call:∀ (w:World) (s₀ s₁:Shared) (mg mb:Str->Option Value) (fa:Addr) (o:Obj) (pm cd doc:Value) (a:Addr) (vs:List Value) (ns:List Int),
   Ground q loose [] XP w s₀ mg mb s₁.heap->YP w s₁.heap ->
   s₁.heap.get? fa=some o->o.data=.func (docDef d.name d.params d.body d.scope pm cd doc)->s₁.heap.CodeRec cd d.name->mg d.name=some (.ref fa) ->
   s₁.heap.get? a=some { cls:=.type "list",data:=.seq vs.toArray }->IntsAre vs ns->ns.length<=n->s₁.gens=#[] ->
   codeAny (model l.prog w) callerA (.call (.ref fa) ⟨[.ref a],[]⟩) (fun r s'=>r=.ok (.ret (.bool true))/\OldK s₁.heap s'.heap/\s'.os=s₁.os/\AllBare s'.gens) s₁) :
  WalkO q loose XP YP l.row.toRowW d [] (fun f vs=>PySem.call f vs):=by
 intro w s₀ s₁ mg mb G Y fa o pm cd doc dV kV ho hd hcd hD hmg hg args vals as hpre hlay hrd hwl hlo
 obtain rfl:dV=.none:=Dflts.none hD hdf
 obtain rfl:kV=.none:=Dflts.noKw hD
 obtain ⟨a,vs,ns,rfl,rfl,hobj,hints,hlen⟩:=script_of hn hpre hwl
 refine enter_call (codeAny_mono (call w s₀ s₁ mg mb fa o pm cd doc a vs ns G Y ho (fd_plain hd) hcd hmg hobj hints hlen hg) fun r s' hq=>?_)
 obtain ⟨rfl,h2,h3,h4⟩:=hq
 exact ⟨.inl ⟨.bool true,.bool true,[],rfl,fun _=>rfl,.bool true,post_true l _,fun _=>⟨List.Pairwise.nil,fun _ hm=>(nomatch hm)⟩⟩,h2,h3,h4⟩
section
variable {prog:Program} {w:World} {A:Around} {E:Value->Shared->Prop} {s:Shared} {K:Frag}
end
end Att
namespace L2
open PySem PySem.Spec PyProof.Rows
theorem vals_ints:∀ {vs:List Value} {ns:List Int},IntsAre vs ns->Vals (ns.map V.int) vs
 | _,_,.nil=>.nil
 | _,_,.cons n t h=>.cons ⟨t,rfl⟩ (vals_ints h)
def Only (H:Hp):Prop:=∀ b,H b=none\/∃ o xs,H b=some (.frz o (.lst xs))
theorem law_call {P : Program} {w : World} {K : W.Frag} {mg mb : Str -> Option Value} {CX : CXT} {k : Nat} {fa a : Addr} {fd : FuncData} {x : Str} {sp : Sp} {s₁ : Shared} {vs : List Value} {ns : List Int}
    (KX : K.In s₁.heap) (hns : s₁.heap.Ns mainGlobals mg) (hb : s₁.heap.Ns builtinsNs mb) (hbb : ∀ x : Str, x ≠ "__name__" -> mb x = bootBuiltins x) (hlim : s₁.heap.NoLimit) (hg : s₁.gens = #[])
    (ha : s₁.heap.get? a = some { cls := .type "list", data := .seq vs.toArray }) (hi : IntsAre vs ns) (hl : ns.length <= sizeLine) (hr : Room k callerA)
    (F : ∀ base : Heap, K.In base -> base.Ns mainGlobals mg -> FnOk P w K mg base CX k fa fd [x] sp) (hbind : ∀ (s : Shared) (u : Value), BindsTo s fd ⟨[u], []⟩ [(x, u)])
    (hsp : ∀ H : Hp, Only H -> SqL K H a (ns.map V.int) -> sp [.ref a] H (fun v _ => v = .bl true) fun _ _ _ => False)
    (hCX : ∀ H e s', CX [] H s₁ (fun _ _ _ => False) e s' -> False) :
    codeAny (model P w) callerA (.call (.ref fa) ⟨[.ref a], []⟩) (fun r s' => r = .ok (.ret (.bool true)) /\ OldK s₁.heap s'.heap /\ s'.os = s₁.os /\ AllBare s'.gens) s₁ := by
  have rv := vals_ints hi
  have lenV := hi.length
  have core : ∀ H : Hp, Only H -> SqL K H a (ns.map V.int) -> HOk P w H s₁.heap -> (∀ b, H b ≠ none -> b = a) -> (H a ≠ none -> K.lookup a = none) ->
      codeAny (model P w) callerA (.call (.ref fa) ⟨[.ref a], []⟩) (fun r s' => r = .ok (.ret (.bool true)) /\ OldK s₁.heap s'.heap /\ s'.os = s₁.os /\ AllBare s'.gens) s₁ := by
    intro H hO hS hok hA hK
    have base_of : ∀ {b : Addr} {o : Obj}, s₁.heap.get? b = some o -> H b = none -> (hidT s₁.heap H).get? b = some o := fun e n => hidT_get e n
    have noA : ∀ {b : Addr} {o : Obj} {es : Array DictEntry} {ep : Nat}, s₁.heap.get? b = some o -> o.data = .dict es ep -> H b = none := fun {b o es ep} e d => by
      cases q : H b with
      | none => rfl
      | some u =>
        have e' : b = a := hA b (by rw [q]; simp)
        subst e'
        rw [ha] at e; cases e
        have d' : Data.seq vs.toArray _ = Data.dict es ep := d
        cases d'
    have nsK : ∀ {b : Addr} {m : Str -> Option Value}, s₁.heap.Ns b m -> (hidT s₁.heap H).Ns b m := fun {b m} ⟨o, es, ep, e, d, r⟩ => ⟨o, es, ep, base_of e (noA e d), d, r⟩
    have hKb : K.In (hidT s₁.heap H) := fun b o e => base_of (KX b o e) (by
      cases q : H b with
      | none => rfl
      | some u =>
        have e' : b = a := hA b (by rw [q]; simp)
        subst e'
        rw [hK (by rw [q]; simp)] at e; cases e)
    have hM : Mod K mg (hidT s₁.heap H) := ⟨hKb, nsK hns, ⟨mb, nsK hb, hbb⟩, let ⟨mc, h1, h2⟩ := hlim; ⟨mc, nsK h1, h2⟩⟩
    have e0 : Env0 P w K mg (hidT s₁.heap H) callerA [] s₁ H := ⟨rfl, hM, fun b o e => of_hidT e, Nat.le_of_eq (hidT_size _ _), trivial, fun b hb => absurd (show b ∈ ([] : List Addr) from hb) (by simp), hok, .of_eq hg⟩
    refine codeAny_mono ((F _ hKb (nsK hns)).run callerA [] s₁ H ⟨[.ref a], []⟩ [.ref a] [.ref a] _ _ hr e0 (hbind s₁ (.ref a)) (.cons rfl .nil) (hsp H hO hS)) fun r s' h => ?_
    cases r with
    | error e => exact (hCX H e s' h).elim
    | ok fl =>
      cases fl with
      | next => exact False.elim h
      | brk => exact False.elim h
      | cont => exact False.elim h
      | ret u =>
        obtain ⟨v, H', os, bare, un, hok', r', q⟩ := h
        have q' : v = .bl true := q
        subst q'
        obtain rfl : u = Value.bool true := r'
        refine ⟨rfl, OldK.of_keep fun b o e => ?_, os, bare⟩
        cases q : H b with
        | none => exact un.keep b o e q (by intro z; exact absurd (show b ∈ ([] : List Addr) from z) (by simp)) (by simp)
        | some u =>
          rcases hO b with z | ⟨ob, xs, z⟩
          · rw [q] at z; cases z
          · have z2 := un.frzs b ob _ z
            obtain ⟨e1, _⟩ := hok b _ z
            obtain ⟨e2, _⟩ := hok' b _ z2
            rw [e] at e1; cases e1
            exact e2
  cases hk : K.lookup a with
  | some o =>
    have e := KX a o hk
    rw [ha] at e
    cases e
    refine core (fun _ => none) (fun _ => .inl rfl) (.inr ⟨_, vs.toArray, _, hk, rfl, rfl, rfl, by rw [List.size_toArray, lenV]; exact hl, by simpa using rv⟩) (fun b u z => by have z' : (none : Option HO) = some u := z; cases z') (fun b z => absurd rfl z) fun z => absurd rfl z
  | none =>
    refine core (fun b => if b = a then some (.frz { cls := .type "list", data := .seq vs.toArray } (.lst (ns.map V.int))) else none) (fun b => ?_) (.inl (.inr ⟨{ cls := .type "list", data := .seq vs.toArray }, if_pos rfl⟩)) (fun b u z => ?_) (fun b z => ?_) fun _ => hk
    · by_cases hb : b = a
      · exact .inr ⟨_, _, if_pos hb⟩
      · exact .inl (if_neg hb)
    · by_cases hb : b = a
      · have z' := (if_pos hb).symm.trans z
        cases z'
        subst hb
        exact ⟨ha, by rw [List.length_map]; exact hl, vs, _, rv, ha⟩
      · have z' := (if_neg hb).symm.trans z
        cases z'
    · by_cases hb : b = a
      · exact hb
      · exact absurd (if_neg hb) z
end L2
namespace L2
open PySem PySem.Spec PyProof.Rows
abbrev KOf {K:W.Frag} {h:Heap} (_:K.In h):W.Frag:=K
theorem walk_of {l:PySem.W.OpenLaw} {n k:Nat} {q:Program} {loose:List Str} {XP:(Str->Option Value)->Heap->Prop} {YP:World->Heap->Prop} {d:DefRec} {K:Params->W.Frag} {CX:World->CXT} {sp:World->Sp} {x:Str}
  (hn:l.most=some n) (hn2:n<=sizeLine) (hdf:d.params.defaults=[]) (hr:Room k callerA)
  (hY:∀ (w:World) (h:Heap),YP w h->(K w.params).In h)
  (F:∀ (w:World) (mg:Str->Option Value) (fa:Addr) (h:Heap),(K w.params).In h->h.Ns mainGlobals mg->mg d.name=some (.ref fa) ->
   ∃ fd:FuncData,(∀ (s:Shared) (u:Value),BindsTo s fd ⟨[u],[]⟩ [(x,u)]) /\
    ∀ base:Heap,(K w.params).In base->base.Ns mainGlobals mg->FnOk l.prog w (K w.params) mg base (CX w) k fa fd [x] (sp w))
  (hsp:∀ (w:World) (H:Hp) (a:Addr) (ns:List Int),ns.length<=n->Only H->SqL (K w.params) H a (ns.map V.int)->sp w [.ref a] H (fun v _=>v=.bl true) fun _ _ _=>False)
  (hCX:∀ (w:World) (H:Hp) (s:Shared) (e:Value) (s':Shared),CX w [] H s (fun _ _ _=>False) e s'->False) :
  PySem.W.WalkO q loose XP YP l.row.toRowW d [] (fun f vs=>PySem.call f vs):=by
 refine Att.attach_call hn hdf fun w s₀ s₁ mg mb fa o pm cd doc a vs ns G Y ho hd hcd hmg hobj hints hlen hg=>?_
 have KX:=hY w _ Y
 obtain ⟨fd,hb,hF⟩:=F w mg fa _ KX G.T.g hmg
 exact law_call KX G.T.g G.T.b G.T.builtins G.T.nolimit hg hobj hints (Nat.le_trans hlen hn2) hr hF hb (fun H hO hS=>hsp w H a ns hlen hO hS) fun H e s'=>hCX w H s₁ e s'
end L2
namespace L2
open PySem PySem.Spec PyProof.Rows
def defArgs (s:Stmt):Arguments:=match s with
 | .FunctionDef _ a _ _ _ _ _ _ _ _=>a
 | _=>{ posonlyargs:=[],args:=[],vararg:=none,kwonlyargs:=[],kw_defaults:=[],kwarg:=none,defaults:=[] }
def defBody (s:Stmt):List Stmt:=match s with
 | .FunctionDef _ _ b _ _ _ _ _ _ _=>b
 | _=>[]
def defScope (s:Stmt):Scope:=match s with
 | .FunctionDef _ _ _ _ _ _ sc _ _ _=>sc
 | _=>{ kind:=.function,names:=[],isGenerator:=false,isCoroutine:=false }
structure Fun (K:W.Frag) (x qual:Str) (st:Stmt) (f:Addr) (fd:FuncData):Prop where
 ex:∃ (oc:Value) (od:Option Addr) (kV doc pm:Value) (an:Option Addr) (cdv ct:Value) (osl:Array (Option Value)),
  fd=W.fnOf x qual (defArgs st) (defBody st) (defScope st) .none kV doc pm an cdv ct/\K.lookup f=some ⟨oc,od,.func fd,osl⟩/\W.codeIn K cdv qual=true
 kp:W.keepIn K (.ref f)=true
section
variable {P:Program} {w:World} {K:W.Frag} {mg:Str->Option Value} {base:Heap}
theorem Fun.binds {x qual:Str} {st:Stmt} {f:Addr} {fd:FuncData} {ps:List Str} (F:Fun K x qual st f fd)
  (h:∀ (kV doc pm:Value) (an:Option Addr) (cdv ct:Value) (us:List Value),us.length=ps.length->bindArgs (W.fnOf x qual (defArgs st) (defBody st) (defScope st) .none kV doc pm an cdv ct) ⟨us,[]⟩=pure (ps.zip us)):Binds K fd ps []:=by
 obtain ⟨oc,od,kV,doc,pm,an,cdv,ct,osl,rfl,lk,hcd⟩:=F.ex
 exact .all (h kV doc pm an cdv ct)
theorem fun_mk {x qual:Str} {st:Stmt} {f:Addr} {oc:Value} {od an:Option Addr} {osl:Array (Option Value)} {kV doc pm cdv ct:Value} (l:K.lookup f=some ⟨oc,od,.func (W.fnOf x qual (defArgs st) (defBody st) (defScope st) .none kV doc pm an cdv ct),osl⟩)
  (c:W.codeIn K cdv qual=true) (k:W.keepIn K (.ref f)=true):Fun K x qual st f (W.fnOf x qual (defArgs st) (defBody st) (defScope st) .none kV doc pm an cdv ct):=⟨⟨oc,od,kV,doc,pm,an,cdv,ct,osl,rfl,l,c⟩,k⟩
end
section
variable {X:Cx}
end
def Same (H H':Hp):Prop:=∀ b o,H b=some o->H' b=some o
theorem Same.refl (H:Hp):Same H H:=fun _ _ h=>h
theorem Same.trans {H H1 H2:Hp} (a:Same H H1) (b:Same H1 H2):Same H H2:=fun c o h=>b c o (a c o h)
theorem Same.free {H H':Hp} (e:Same H H') {l:Addr} (h:H' l=Option.none):H l=Option.none:=by
 cases q:H l with
 | none=>rfl
 | some o =>
  rw [e l o q] at h
  cases h
end L2
end
set_option autoImplicit false
set_option linter.all false
set_option maxRecDepth 100000
set_option maxHeartbeats 8000000
local macro_rules | `(tactic| omega) => `(tactic| first | decide | lia)
section
namespace Den
open PySem
inductive R (α:Type) where
 | ok (a:α)
 | exc (c:Nat)
 | bad
noncomputable def R.bind {α β:Type}:R α->(α->R β)->R β
 | .ok a,f=>f a
 | .exc c,_=>.exc c
 | .bad,_=>.bad
noncomputable instance:Monad R where
 pure:=R.ok
 bind:=R.bind
theorem nr {α:Type} {a b:α} (h:a=b):a=b:=h
@[simp] theorem R.ok_bind {α β:Type} (a:α) (f:α->R β):(R.ok a>>=f)=f a:=nr rfl
@[simp] theorem R.exc_bind {α β:Type} (c:Nat) (f:α->R β):(R.exc c>>=f)=R.exc c:=nr rfl
@[simp] theorem R.bad_bind {α β:Type} (f:α->R β):(R.bad>>=f)=R.bad:=nr rfl
@[simp] theorem R.pure_ok {α:Type} (a:α):(pure a:R α)=R.ok a:=rfl
inductive D where
 | non
 | bl (b:Bool)
 | int (i:Int)
 | str (x:Str)
 | tup (xs:List D)
 | lst (xs:List D)
 | dct (ks vs:List D)
 | exn (c:Nat)
deriving Inhabited
mutual
noncomputable def eqD:D->D->Bool
 | .non,.non=>true
 | .bl a,.bl b=>a==b
 | .bl a,.int j=>(if a then 1 else 0)==j
 | .int i,.bl b=>i==(if b then 1 else 0)
 | .int i,.int j=>i==j
 | .str x,.str y=>x==y
 | .tup xs,.tup ys=>eqDs xs ys
 | .lst xs,.lst ys=>eqDs xs ys
 | _,_=>false
noncomputable def eqDs:List D->List D->Bool
 | [],[]=>true
 | x::xs,y::ys=>eqD x y&&eqDs xs ys
 | _,_=>false
end
mutual
noncomputable def ltD:D->D->Option Bool
 | .int i,.int j=>some (decide (i < j))
 | .tup xs,.tup ys=>ltDs xs ys
 | _,_=>none
noncomputable def ltDs:List D->List D->Option Bool
 | [],[]=>some false
 | [],_::_=>some true
 | _::_,[]=>some false
 | x::xs,y::ys=>if eqD x y then ltDs xs ys else ltD x y
end
noncomputable def isLv:Nat->D->Bool
 | 0,.int _=>true
 | n+1,.tup xs=>xs.all (isLv n)
 | _,_=>false
noncomputable def insD (x:D):List D->List D
 | []=>[x]
 | y::ys=>if ltD y x=some true then y::insD x ys else x::y::ys
noncomputable def sortD:List D->List D
 | []=>[]
 | x::xs=>insD x (sortD xs)
noncomputable def dedD:List D->List D
 | []=>[]
 | x::xs=>if xs.any (eqD x) then dedD xs else x::dedD xs
noncomputable def isCv:D->Bool
 | .tup (x::xs)=>isLv 0 x&&xs.all (isLv 0)
 | _=>false
noncomputable def lvOk (xs:List D):Bool:=xs.all (isLv 0)||xs.all isCv
noncomputable def SZ:Nat:=16777216
noncomputable def BIG:Int:=18446744073709551616
noncomputable def sorted (xs:List D):R D:=if lvOk xs&&xs.length<=63 then .ok (.lst (sortD xs)) else .bad
noncomputable def sortedSet (xs:List D):R D:=if lvOk xs&&(dedD xs).length<=63 then .ok (.lst (sortD (dedD xs))) else .bad
inductive Op where
 | add | sub | mul | fdiv | mod | shl | shr | and | xor | or
deriving DecidableEq
inductive Cm where
 | eq | ne | lt | le | gt | ge | is | isnot | mem | notmem
deriving DecidableEq
noncomputable def binD:Op->D->D->R D
 | .add,.int i,.int j=>.ok (.int (i+j))
 | .add,.str x,.str y=>if x.length+y.length<=SZ then .ok (.str (x++y)) else .bad
 | .add,.tup xs,.tup ys=>if xs.length+ys.length<=SZ then .ok (.tup (xs++ys)) else .bad
 | .add,.lst xs,.lst ys=>if xs.length+ys.length<=SZ then .ok (.lst (xs++ys)) else .bad
 | .sub,.int i,.int j=>.ok (.int (i - j))
 | .mul,.int i,.int j=>if (-BIG < i/\i < BIG)\/(-BIG < j/\j < BIG) then .ok (.int (i * j)) else .bad
 | .mul,.tup xs,.int j=>if 2<=j/\xs≠[]/\xs.length * j.toNat<=SZ/\j < 1000 then .ok (.tup (List.replicate j.toNat xs).flatten) else .bad
 | .fdiv,.int i,.int j=>if 0 < j/\j < 1073741824 then .ok (.int (i / j)) else .bad
 | .mod,.int i,.int j=>if 0 < j then .ok (.int (i % j)) else .bad
 | .shl,.int i,.int j=>if 0<=j/\j<=1000/\-BIG < i/\i < BIG then .ok (.int (i * 2 ^ j.toNat)) else .bad
 | .shr,.int i,.int j=>if 0<=j/\j<=1000 then .ok (.int (i / 2 ^ j.toNat)) else .bad
 | _,_,_=>.bad
noncomputable def notR:R Bool->R Bool
 | .ok b=>.ok (!b)
 | .exc c=>.exc c
 | .bad=>.bad
noncomputable def shp:Nat->D->Bool
 | _,.non=>true
 | _,.bl _=>true
 | _,.int _=>true
 | _,.str x=>x.cps.all (· < 0x110000)
 | n+1,.tup xs=>xs.all (shp n)
 | n+1,.lst xs=>xs.all (shp n)
 | _,_=>false
noncomputable def eqR (x y:D):R Bool:=if shp 60 x&&shp 60 y then .ok (eqD x y) else .bad
noncomputable def memD (x:D) (xs:List D):Bool:=xs.any fun y=>eqD y x
noncomputable def memR (x:D) (ys:List D):R Bool:=if shp 60 x&&ys.all (shp 60) then .ok (memD x ys) else .bad
noncomputable def isD:D->D->R Bool
 | .non,.non=>.ok true
 | _,.non=>.ok false
 | .bl a,.bl b=>.ok (a==b)
 | _,.bl _=>.ok false
 | _,_=>.bad
noncomputable def ofO:Option Bool->R Bool
 | some b=>.ok b
 | none=>.bad
noncomputable def ltR (x y:D):R Bool:=if (isLv 0 x&&isLv 0 y)||(isLv 1 x&&isLv 1 y) then ofO (ltD x y) else .bad
noncomputable def cmpD:Cm->D->D->R Bool
 | .eq,x,y=>eqR x y
 | .ne,x,y=>notR (eqR x y)
 | .lt,x,y=>ltR x y
 | .gt,.int i,.int j=>.ok (decide (j < i))
 | .le,.int i,.int j=>.ok (decide (i<=j))
 | .ge,.int i,.int j=>.ok (decide (j<=i))
 | .is,x,y=>isD x y
 | .isnot,x,y=>notR (isD x y)
 | .mem,x,.tup ys=>memR x ys
 | .mem,x,.lst ys=>memR x ys
 | .notmem,x,.tup ys=>notR (memR x ys)
 | .notmem,x,.lst ys=>notR (memR x ys)
 | _,_,_=>.bad
noncomputable def ixN (n:Nat) (i:Int):Option Nat:=if 0<=i then (if i < n then some i.toNat else none) else (if 0<=i+n then some (i+n).toNat else none)
noncomputable def getAt {α:Type} (xs:List α) (i:Int):Option α:=(ixN xs.length i).bind (xs[·]?)
noncomputable def idxD:D->D->R D
 | .tup xs,.int i=>match getAt xs i with | some d=>.ok d | none=>.bad
 | .lst xs,.int i=>match getAt xs i with | some d=>.ok d | none=>.bad
 | .str x,.int i=>if x.length<=SZ then (match getAt x.cps.toList i with | some c=>.ok (.str ⟨#[c]⟩) | none=>.bad) else .bad
 | _,_=>.bad
noncomputable def sIx (n d:Nat):Option Int->Nat
 | none=>d
 | some i=>if i < 0 then (if i+n < 0 then 0 else (i+n).toNat) else (if (n:Int) < i then n else i.toNat)
noncomputable def cut {α:Type} (xs:List α) (lo hi:Option Int):List α:=(xs.drop (sIx xs.length 0 lo)).take (sIx xs.length xs.length hi - sIx xs.length 0 lo)
noncomputable def sliceD (d:D) (lo hi:Option Int):R D:=match d with
 | .tup xs=>.ok (.tup (cut xs lo hi))
 | .lst xs=>.ok (.lst (cut xs lo hi))
 | _=>.bad
noncomputable def revD:D->R D
 | .tup xs=>.ok (.tup xs.reverse)
 | _=>.bad
noncomputable def lenD:D->R D
 | .tup xs=>.ok (.int xs.length)
 | .lst xs=>.ok (.int xs.length)
 | .str x=>if x.length<=SZ then .ok (.int x.length) else .bad
 | _=>.bad
inductive Ty where
 | int | bool | str | tuple | list | cls (c:Nat)
deriving DecidableEq
abbrev Up:=Nat->List Nat
noncomputable def instD (up:Up) (d:D):Ty->R Bool
 | .int=>.ok (match d with | .int _=>true | .bl _=>true | _=>false)
 | .bool=>.ok (match d with | .bl _=>true | _=>false)
 | .str=>.ok (match d with | .str _=>true | _=>false)
 | .tuple=>.ok (match d with | .tup _=>true | _=>false)
 | .list=>.ok (match d with | .lst _=>true | _=>false)
 | .cls c=>match d with | .exn k=>.ok ((up k).contains c) | _=>.bad
noncomputable def blsOf:List D->Option (List Bool)
 | []=>some []
 | .bl b::xs=>(blsOf xs).map (b::·)
 | _=>none
noncomputable def allD (xs:List D):R Bool:=match blsOf xs with
 | some bs=>.ok (bs.all id)
 | none=>.bad
noncomputable def anyD (xs:List D):R Bool:=match blsOf xs with
 | some bs=>.ok (bs.any id)
 | none=>.bad
noncomputable def seqOf:D->R (List D)
 | .tup xs=>.ok xs
 | .lst xs=>.ok xs
 | _=>.bad
noncomputable def rangeL (lo hi:Int):List D:=(List.range (hi - lo).toNat).map fun k=>.int (lo+(k:Nat))
noncomputable def rngOk (i:Int):Bool:=decide (-4611686018427387904<=i/\i < 4611686018427387904)
noncomputable def rngR (i j:Int):R (List D):=if rngOk i&&rngOk j&&decide ((j - i).toNat<=1000000) then .ok (rangeL i j) else .bad
noncomputable def enumL:Nat->List D->List D
 | _,[]=>[]
 | k,x::xs=>.tup [.int (k:Nat),x]::enumL (k+1) xs
noncomputable def zipL:List D->List D->List D
 | x::xs,y::ys=>.tup [x,y]::zipL xs ys
 | _,_=>[]
noncomputable def zipS:D->D->R (List D)
 | .tup xs,.tup ys=>.ok (zipL xs ys)
 | _,_=>.bad
noncomputable def enumS:D->R (List D)
 | .lst xs=>.ok (enumL 0 xs)
 | _=>.bad
inductive Pr where
 | len | inst (t:Ty) | all | any | sorted | sortedSet | str | int
deriving DecidableEq
inductive Mt where
 | split | join | find | index
deriving DecidableEq
mutual
inductive E where
 | var (i:Nat)
 | lit (d:D)
 | glob (j:Nat)
 | tup (a:A)
 | lst (a:A)
 | bin (op:Op) (a b:E)
 | neg (a:E)
 | not (a:E)
 | cmp (op:Cm) (a b:E)
 | cmp2 (op op':Cm) (a b c:E)
 | and (a b:E)
 | or (a b:E)
 | ite (c a b:E)
 | idx (a b:E)
 | slice (a:E) (lo hi:O)
 | rev (a:E)
 | call (f:Nat) (a:A)
 | prim (p:Pr) (a:E)
 | meth (m:Mt) (o a:E)
 | tupI (s:I)
 | lstI (s:I)
 | comp (elt:E) (k:Nat) (s:I) (c:O)
inductive A where
 | nil
 | cons (e:E) (a:A)
inductive O where
 | none
 | some (e:E)
inductive I where
 | seq (e:E)
 | rng (a:E)
 | rng2 (a b:E)
 | zip (a b:E)
 | enum (a:E)
end
abbrev Rho:=List (Option D)
abbrev Fn:=Nat->List D->R D
noncomputable def bindT:Nat->D->R (List (Option D))
 | 0,d=>.ok [some d]
 | k,.tup xs=>if xs.length=k then .ok (xs.map some) else .bad
 | _,_=>.bad
noncomputable def compL (f:D->R (Option D)):List D->R (List D)
 | []=>.ok []
 | d::ds=>f d>>=fun o=>compL f ds>>=fun r=>match o with | some x=>.ok (x::r) | none=>.ok r
noncomputable def noX {α:Type}:R α->R α
 | .exc _=>.bad
 | r=>r
noncomputable def strOfInt (i:Int):R D:=if i.natAbs < 10000000000 then .ok (.str (Str.ofString (toString i))) else .bad
noncomputable def primD (up:Up):Pr->D->R D
 | .len,d=>lenD d
 | .inst t,d=>instD up d t>>=fun b=>.ok (.bl b)
 | .all,d=>seqOf d>>=fun xs=>allD xs>>=fun b=>.ok (.bl b)
 | .any,d=>seqOf d>>=fun xs=>anyD xs>>=fun b=>.ok (.bl b)
 | .sorted,d=>seqOf d>>=fun xs=>sorted xs
 | .sortedSet,d=>seqOf d>>=fun xs=>sortedSet xs
 | .str,.int i=>strOfInt i
 | .int,.bl b=>.ok (.int (if b then 1 else 0))
 | _,_=>.bad
noncomputable def asBl:D->R Bool
 | .bl b=>.ok b
 | _=>.bad
noncomputable def asInt:D->R Int
 | .int i=>.ok i
 | _=>.bad
structure Pg where
 up:Up
 cs:List D
section
variable (pg:Pg) (Φ:Fn)
mutual
noncomputable def ev (ρ:Rho):E->R D
 | .var i=>match ρ[i]? with | some (some d)=>.ok d | _=>.bad
 | .lit d=>.ok d
 | .glob j=>match pg.cs[j]? with | some d=>.ok d | none=>.bad
 | .tup a=>evA ρ a>>=fun ds=>.ok (.tup ds)
 | .lst a=>evA ρ a>>=fun ds=>.ok (.lst ds)
 | .bin op a b=>ev ρ a>>=fun x=>ev ρ b>>=fun y=>binD op x y
 | .neg a=>ev ρ a>>=fun x=>asInt x>>=fun i=>.ok (.int (-i))
 | .not a=>ev ρ a>>=fun x=>asBl x>>=fun b=>.ok (.bl (!b))
 | .cmp op a b=>ev ρ a>>=fun x=>ev ρ b>>=fun y=>cmpD op x y>>=fun c=>.ok (.bl c)
 | .cmp2 op op' a b c=>ev ρ a>>=fun x=>ev ρ b>>=fun y=>cmpD op x y>>=fun k=>if k then ev ρ c>>=fun z=>cmpD op' y z>>=fun k'=>.ok (.bl k') else .ok (.bl false)
 | .and a b=>ev ρ a>>=fun x=>asBl x>>=fun k=>if k then ev ρ b else .ok (.bl false)
 | .or a b=>ev ρ a>>=fun x=>asBl x>>=fun k=>if k then .ok (.bl true) else ev ρ b
 | .ite c a b=>ev ρ c>>=fun x=>asBl x>>=fun k=>if k then ev ρ a else ev ρ b
 | .idx a b=>ev ρ a>>=fun x=>ev ρ b>>=fun y=>idxD x y
 | .slice a lo hi=>ev ρ a>>=fun x=>evO ρ lo>>=fun l=>evO ρ hi>>=fun h=>sliceD x l h
 | .rev a=>ev ρ a>>=fun x=>revD x
 | .call f a=>evA ρ a>>=fun ds=>Φ f ds
 | .prim p a=>ev ρ a>>=fun x=>primD pg.up p x
 | .meth m o a=>.bad
 | .tupI s=>evI ρ s>>=fun ds=>.ok (.tup ds)
 | .lstI s=>evI ρ s>>=fun ds=>.ok (.lst ds)
 | .comp e k s c=>evI ρ s>>=fun ds=>noX (compL (fun d=>bindT k d>>=fun vs=>evC (ρ++vs) c>>=fun b=>if b then ev (ρ++vs) e>>=fun y=>.ok (some y) else .ok none) ds)>>=fun ys=>.ok (.lst ys)
noncomputable def evA (ρ:Rho):A->R (List D)
 | .nil=>.ok []
 | .cons e a=>ev ρ e>>=fun x=>evA ρ a>>=fun xs=>.ok (x::xs)
noncomputable def evO (ρ:Rho):O->R (Option Int)
 | .none=>.ok none
 | .some e=>ev ρ e>>=fun x=>asInt x>>=fun i=>.ok (some i)
noncomputable def evC (ρ:Rho):O->R Bool
 | .none=>.ok true
 | .some e=>ev ρ e>>=fun x=>asBl x
noncomputable def evI (ρ:Rho):I->R (List D)
 | .seq e=>ev ρ e>>=fun x=>seqOf x
 | .rng a=>ev ρ a>>=fun x=>asInt x>>=fun i=>rngR 0 i
 | .rng2 a b=>ev ρ a>>=fun x=>asInt x>>=fun i=>ev ρ b>>=fun y=>asInt y>>=fun j=>rngR i j
 | .zip a b=>ev ρ a>>=fun x=>ev ρ b>>=fun y=>zipS x y
 | .enum a=>ev ρ a>>=fun x=>enumS x
end
end
mutual
inductive S where
 | asg (i:Nat) (e:E)
 | app (i:Nat) (e:E)
 | ext (i:Nat) (e:E)
 | seti (i:Nat) (k e:E)
 | ret (e:E)
 | iff (c:E) (a b:B)
 | for_ (k:Nat) (ts:List Nat) (s:I) (b:B)
 | while_ (c:E) (b:B)
 | expr (e:E)
 | raise (c:Nat)
 | try_ (s:S) (hs:Hs)
 | pass
 | brk
 | cont
inductive B where
 | nil
 | cons (s:S) (b:B)
inductive Hs where
 | nil
 | cons (c:Nat) (i:Option Nat) (b:B) (h:Hs)
end
inductive Fl where
 | nx (ρ:Rho)
 | rt (d:D)
 | bk (ρ:Rho)
 | ct (ρ:Rho)
noncomputable def setAll:List Nat->List (Option D)->Rho->Rho
 | i::is,v::vs,ρ=>setAll is vs (ρ.set i v)
 | _,_,ρ=>ρ
noncomputable def forL (f:D->Rho->R Fl):List D->Rho->R Fl
 | [],ρ=>.ok (.nx ρ)
 | d::ds,ρ=>f d ρ>>=fun r=>match r with
  | .nx ρ'=>forL f ds ρ'
  | .ct ρ'=>forL f ds ρ'
  | .bk ρ'=>.ok (.nx ρ')
  | .rt x=>.ok (.rt x)
noncomputable def whileL (f:Rho->R Bool) (g:Rho->R Fl):Nat->Rho->R Fl
 | 0,_=>.bad
 | n+1,ρ=>f ρ>>=fun b=>if b then g ρ>>=fun r=>(match r with
  | .nx ρ'=>whileL f g n ρ'
  | .ct ρ'=>whileL f g n ρ'
  | .bk ρ'=>.ok (.nx ρ')
  | .rt x=>.ok (.rt x)) else .ok (.nx ρ)
noncomputable def appD:Option (Option D)->D->R D
 | some (some (.lst xs)),d=>if xs.length < SZ then .ok (.lst (xs++[d])) else .bad
 | _,_=>.bad
noncomputable def extD:Option (Option D)->D->R D
 | some (some (.lst xs)),.lst ys=>if xs.length+ys.length<=SZ then .ok (.lst (xs++ys)) else .bad
 | _,_=>.bad
noncomputable def setD:Option (Option D)->D->D->R D
 | some (some (.lst xs)),.int k,d=>match ixN xs.length k with | some j=>.ok (.lst (xs.set j d)) | none=>.bad
 | _,_,_=>.bad
noncomputable def chkL:Option (Option D)->R Unit
 | some (some (.lst _))=>.ok ()
 | _=>.bad
noncomputable def WH:Nat:=100000
section
variable (pg:Pg) (Φ:Fn)
mutual
noncomputable def ex (ρ:Rho):S->R Fl
 | .asg i e=>ev pg Φ ρ e>>=fun d=>.ok (.nx (ρ.set i (some d)))
 | .app i e=>chkL ρ[i]?>>=fun _=>ev pg Φ ρ e>>=fun d=>appD ρ[i]? d>>=fun x=>.ok (.nx (ρ.set i (some x)))
 | .ext i e=>chkL ρ[i]?>>=fun _=>ev pg Φ ρ e>>=fun d=>extD ρ[i]? d>>=fun x=>.ok (.nx (ρ.set i (some x)))
 | .seti i k e=>ev pg Φ ρ e>>=fun d=>ev pg Φ ρ k>>=fun j=>setD ρ[i]? j d>>=fun x=>.ok (.nx (ρ.set i (some x)))
 | .ret e=>ev pg Φ ρ e>>=fun d=>.ok (.rt d)
 | .iff c a b=>ev pg Φ ρ c>>=fun x=>asBl x>>=fun k=>if k then exB ρ a else exB ρ b
 | .for_ k ts s b=>evI pg Φ ρ s>>=fun ds=>forL (fun d ρ'=>bindT k d>>=fun vs=>exB (setAll ts vs ρ') b) ds ρ
 | .while_ c b=>whileL (fun ρ'=>ev pg Φ ρ' c>>=fun x=>asBl x) (fun ρ'=>exB ρ' b) WH ρ
 | .expr e=>ev pg Φ ρ e>>=fun _=>.ok (.nx ρ)
 | .raise c=>.exc c
 | .try_ s hs=>match ex ρ s with
  | .ok r=>.ok r
  | .exc c=>exH ρ c hs
  | .bad=>.bad
 | .pass=>.ok (.nx ρ)
 | .brk=>.ok (.bk ρ)
 | .cont=>.ok (.ct ρ)
noncomputable def exB (ρ:Rho):B->R Fl
 | .nil=>.ok (.nx ρ)
 | .cons s b=>ex ρ s>>=fun r=>match r with
  | .nx ρ'=>exB ρ' b
  | .rt d=>.ok (.rt d)
  | .bk ρ'=>.ok (.bk ρ')
  | .ct ρ'=>.ok (.ct ρ')
noncomputable def exH (ρ:Rho) (c:Nat):Hs->R Fl
 | .nil=>.exc c
 | .cons k none b h=>if (pg.up c).contains k then exB ρ b else exH ρ c h
 | .cons k (some i) b h=>if c=k then exB (ρ.set i (some (.exn c))) b>>=fun r=>match r with
   | .nx ρ'=>.ok (.nx (ρ'.set i none))
   | .rt d=>.ok (.rt d)
   | .bk ρ'=>.ok (.bk (ρ'.set i none))
   | .ct ρ'=>.ok (.ct (ρ'.set i none))
  else .bad
end
end
structure Fd where
 np:Nat
 nl:Nat
 body:B
noncomputable def start (fd:Fd) (ds:List D):Rho:=ds.map some++List.replicate fd.nl none
noncomputable def endD:R Fl->R D
 | .ok (.rt d)=>.ok d
 | .ok (.nx _)=>.ok .non
 | .ok _=>.bad
 | .exc c=>.exc c
 | .bad=>.bad
noncomputable def runF (pg:Pg) (Φ:Fn) (fd:Fd) (ds:List D):R D:=if ds.length=fd.np then endD (exB pg Φ (start fd ds) fd.body) else .bad
noncomputable def run (pg:Pg) (fds:List Fd):Nat->Fn
 | 0=>fun _ _=>.bad
 | n+1=>fun f ds=>match fds[f]? with
  | some fd=>runF pg (run pg fds n) fd ds
  | none=>.bad
theorem run_succ (pg:Pg) (fds:List Fd) (n f:Nat) (ds:List D):run pg fds (n+1) f ds=(match fds[f]? with | some fd=>runF pg (run pg fds n) fd ds | none=>.bad):=rfl
end Den
end
section
namespace Den
open PySem
structure Gt where
 fns:List Str
 cls:List Str
 glb:List Str
structure Ct where
 N:List Str
 sc:Scope
 mu:List Nat
noncomputable def visB (sc:Scope) (x:Str):Bool:=sc.names.lookup x==some .local||sc.names.lookup x==some .cell||sc.names.lookup x==some .free
noncomputable def locB (sc:Scope) (x:Str):Bool:=sc.names.lookup x==some .local||sc.names.lookup x==some .cell
noncomputable def gloB (sc:Scope) (x:Str):Bool:=sc.names.lookup x==some .globalImplicit
noncomputable def okN (x:Str):Bool:=!(x==("__debug__":Str))&&!(x==("__classdict__":Str))&&!(x==("__name__":Str))
noncomputable def opOk:Op->Operator->Bool
 | .add,.Add=>true | .sub,.Sub=>true | .mul,.Mult=>true | .fdiv,.FloorDiv=>true | .mod,.Mod=>true
 | _,_=>false
noncomputable def cmOk:Cm->CmpOp->Bool
 | .eq,.Eq=>true | .ne,.NotEq=>true | .lt,.Lt=>true | .le,.LtE=>true | .gt,.Gt=>true | .ge,.GtE=>true
 | .is,.Is=>true | .isnot,.IsNot=>true | .mem,.In=>true | .notmem,.NotIn=>true
 | _,_=>false
noncomputable def litOk:D->Const->Bool
 | .non,.none=>true
 | .bl a,.bool b=>a==b
 | .int i,.int j=>i==j
 | .str x,.str y=>x==y
 | _,_=>false
noncomputable def tyName:Ty->Str
 | .int=>"int" | .bool=>"bool" | .str=>"str" | .tuple=>"tuple" | .list=>"list" | .cls _=>""
noncomputable def prName:Pr->Str
 | .len=>"len" | .all=>"all" | .any=>"any" | .sorted=>"sorted" | .str=>"str" | .int=>"int" | _=>""
noncomputable def prOk:Pr->Bool
 | .len=>true | .all=>true | .any=>true | .sorted=>true | .str=>true | .int=>true | _=>false
noncomputable def nameOf:Expr->Option Str
 | .Name x _=>some x
 | _=>none
noncomputable def namesOf:List Expr->Option (List Str)
 | []=>some []
 | e::es=>match nameOf e,namesOf es with | some x,some xs=>some (x::xs) | _,_=>none
noncomputable def tgt:Nat->Expr->Option (List Str)
 | 0,.Name x _=>some [x]
 | k+1,.Tuple es _ _=>match namesOf es with | some xs=>if xs.length=k+1 then some xs else none | none=>none
 | _,_=>none
noncomputable def mask (N xs:List Str):List Str:=N.map fun n=>if xs.contains n then (((".":Str))++n) else n
noncomputable def pairI:I->Bool
 | .zip _ _=>true
 | .enum _=>true
 | _=>false
noncomputable def simpI:I->Bool
 | .seq _=>true
 | .rng _=>true
 | _=>false
noncomputable def noComp:Expr->Bool
 | .ListComp ..=>false
 | _=>true
noncomputable def bltB (g:Gt) (sc:Scope) (x:Str):Bool:=gloB sc x&&!(g.fns.contains x)&&!(g.cls.contains x)&&!(g.glb.contains x)
noncomputable def vName:Expr->Option Str
 | .Name x _=>some x
 | _=>none
noncomputable def vConst:Expr->Option Const
 | .Constant c _ _=>some c
 | _=>none
noncomputable def vTup:Expr->Option (List Expr)
 | .Tuple es _ _=>some es
 | _=>none
noncomputable def vLst:Expr->Option (List Expr)
 | .List es _=>some es
 | _=>none
noncomputable def vBin:Expr->Option (Expr×Operator×Expr)
 | .BinOp x o y _=>some (x,o,y)
 | _=>none
noncomputable def vUn:Expr->Option (UnaryOp×Expr)
 | .UnaryOp o x _=>some (o,x)
 | _=>none
noncomputable def vCmp:Expr->Option (Expr×List CmpOp×List Expr)
 | .Compare x os ys _=>some (x,os,ys)
 | _=>none
noncomputable def vBool:Expr->Option (BoolOp×List Expr×Pos)
 | .BoolOp o es p=>some (o,es,p)
 | _=>none
noncomputable def vSub:Expr->Option (Expr×Expr)
 | .Subscript x y _=>some (x,y)
 | _=>none
noncomputable def vSlc:Expr->Option (Option Expr×Option Expr×Option Expr)
 | .Slice l h t _=>some (l,h,t)
 | _=>none
noncomputable def vCall0:Expr->Option (Expr×List Expr×List Keyword)
 | .Call f es ks _=>some (f,es,ks)
 | _=>none
noncomputable def vCall (x:Expr):Option (Str×List Expr):=match vCall0 x with
 | some (f,es,[])=>(match vName f with | some y=>some (y,es) | none=>none)
 | _=>none
noncomputable def vComp:Expr->Option (Expr×List Comprehension×Scope)
 | .ListComp x gs sc _=>some (x,gs,sc)
 | _=>none
noncomputable def isM1 (x:Expr):Bool:=match vUn x with
 | some (.USub,y)=>(match vConst y with | some (.int i)=>i==1 | _=>false)
 | _=>false
noncomputable def tyB (g:Gt) (ct:Ct) (n:Str):Ty->Bool
 | .cls c=>gloB ct.sc n&&okN n&&(if c=1000 then n==("ValueError":Str)&&bltB g ct.sc n else g.cls[c]?==some n)
 | t=>n==tyName t&&bltB g ct.sc n
noncomputable def vwI (g:Gt) (ct:Ct) (x:Str) (t:Ty) (e y:Expr):Option Expr:=match vName y with
 | some n=>if x==("isinstance":Str)&&bltB g ct.sc x&&tyB g ct n t then some e else none
 | none=>none
noncomputable def vwS (g:Gt) (ct:Ct) (x:Str) (e:Expr):Option Expr:=match vCall e with
 | some (y,[a])=>if x==("sorted":Str)&&bltB g ct.sc x&&y==("set":Str)&&bltB g ct.sc y then some a else none
 | _=>none
noncomputable def vwP (g:Gt) (ct:Ct) (x:Str) (p:Pr) (es:List Expr):Option Expr:=match p with
 | .inst t=>(match es with | [e,y]=>vwI g ct x t e y | _=>none)
 | .sortedSet=>(match es with | [e]=>vwS g ct x e | _=>none)
 | p=>(match es with | [e]=>if prOk p&&x==prName p&&bltB g ct.sc x then some e else none | _=>none)
noncomputable def blkB (ct:Ct) (sc:Scope) (xs:List Str):Bool:=decide (sc.kind=.function)&&sc.names.all (fun y=>y.2 != .cell)&&sc.names.all (fun y=>y.2 != .local||sc.names.lookup y.1==some .local)
 && xs.all (fun y=>sc.names.lookup y==some .local&&okN y)&&decide xs.Nodup&&sc.names.all (fun y=>y.2 != .local||xs.contains y.1||y.1==(".0":Str))
 && sc.names.all (fun y=>y.2 != .free||(ct.sc.names.lookup y.1==some .cell||ct.sc.names.lookup y.1==some .free))&&((mask ct.N xs).zip ct.N).all (fun p=>p.1==p.2||sc.names.lookup p.1==none)&&decide (mask ct.N xs++xs).Nodup&&!((mask ct.N xs++xs).contains (".0":Str))
section
variable (g:Gt)
mutual
noncomputable def ckE (ct:Ct) (v:Bool):E->Expr->Bool
 | .var i,z=>(match vName z with | some x=>ct.N[i]?==some x&&visB ct.sc x&&okN x&&(v||!ct.mu.contains i) | none=>false)
 | .lit d,z=>(match vConst z with | some c=>litOk d c | none=>false)
 | .glob j,z=>(match vName z with | some x=>g.glb[j]?==some x&&gloB ct.sc x&&okN x | none=>false)
 | .tup a,z=>(match vTup z with | some es=>ckA ct a es&&decide (es.length<=1000) | none=>false)
 | .lst a,z=>(match vLst z with | some es=>ckA ct a es&&decide (es.length<=1000) | none=>false)
 | .bin op a b,z=>(match vBin z with | some (x,o,y)=>opOk op o&&ckE ct true a x&&ckE ct true b y | none=>false)
 | .neg a,z=>(match vUn z with | some (.USub,x)=>ckE ct true a x | _=>false)
 | .not a,z=>(match vUn z with | some (.Not,x)=>ckE ct true a x | _=>false)
 | .cmp op a b,z=>(match vCmp z with | some (x,[o],[y])=>cmOk op o&&ckE ct true a x&&ckE ct true b y | _=>false)
 | .cmp2 op op' a b c,z=>(match vCmp z with | some (x,[o,o'],[y,w])=>cmOk op o&&cmOk op' o'&&ckE ct true a x&&ckE ct true b y&&ckE ct true c w | _=>false)
 | .and a b,z=>(match vBool z with | some (.And,[x,y],_)=>ckE ct true a x&&ckE ct v b y | some (.And,x::y::w::r,p)=>ckE ct true a x&&ckE ct v b (.BoolOp .And (y::w::r) p) | _=>false)
 | .or a b,z=>(match vBool z with | some (.Or,[x,y],_)=>ckE ct true a x&&ckE ct v b y | some (.Or,x::y::w::r,p)=>ckE ct true a x&&ckE ct v b (.BoolOp .Or (y::w::r) p) | _=>false)
 | .idx a b,z=>(match vSub z with | some (x,y)=>ckE ct true a x&&ckE ct true b y | none=>false)
 | .slice a lo hi,z=>(match vSub z with | some (x,y)=>(match vSlc y with | some (l,h,none)=>ckE ct true a x&&ckO ct lo l&&ckO ct hi h | _=>false) | none=>false)
 | .rev a,z=>(match vSub z with | some (x,y)=>(match vSlc y with | some (none,none,some t)=>isM1 t&&ckE ct true a x | _=>false) | none=>false)
 | .call f a,z=>(match vCall z with | some (x,es)=>g.fns[f]?==some x&&gloB ct.sc x&&okN x&&!es.isEmpty&&ckA ct a es | none=>false)
 | .prim p a,z=>(match vCall z with | some (x,es)=>(match vwP g ct x p es with | some e=>ckE ct true a e | none=>false) | none=>false)
 | .tupI s,z=>(match vCall z with | some (x,[e])=>x==("tuple":Str)&&bltB g ct.sc x&&simpI s&&ckI ct true s e | _=>false)
 | .lstI s,z=>(match vCall z with | some (x,[e])=>x==("list":Str)&&bltB g ct.sc x&&simpI s&&ckI ct true s e | _=>false)
 | .comp e k s c,z=>(match vComp z with
   | some (x,[⟨t,it,ifs,0⟩],sc)=>(match tgt k t with
    | some xs=>(!pairI s||k==2)&&blkB ct sc xs&&ckI ct true s it&&ckE ⟨mask ct.N xs++xs,sc,ct.mu⟩ false e x&&ckC ⟨mask ct.N xs++xs,sc,ct.mu⟩ c ifs
    | none=>false)
   | _=>false)
 | _,_=>false
noncomputable def ckA (ct:Ct):A->List Expr->Bool
 | .nil,[]=>true
 | .cons e a,x::xs=>ckE ct false e x&&ckA ct a xs
 | _,_=>false
noncomputable def ckO (ct:Ct):O->Option Expr->Bool
 | .none,none=>true
 | .some e,some x=>ckE ct true e x
 | _,_=>false
noncomputable def ckC (ct:Ct):O->List Expr->Bool
 | .none,[]=>true
 | .some e,[x]=>ckE ct true e x
 | _,_=>false
noncomputable def ckI (ct:Ct) (v:Bool):I->Expr->Bool
 | .seq e,z=>ckE ct v e z
 | .rng a,z=>(match vCall z with | some (x,[y])=>x==("range":Str)&&bltB g ct.sc x&&ckE ct true a y | _=>false)
 | .rng2 a b,z=>(match vCall z with | some (x,[y,w])=>x==("range":Str)&&bltB g ct.sc x&&ckE ct true a y&&ckE ct true b w | _=>false)
 | .zip a b,z=>(match vCall z with | some (x,[y,w])=>x==("zip":Str)&&bltB g ct.sc x&&ckE ct v a y&&ckE ct v b w | _=>false)
 | .enum a,z=>(match vCall z with | some (x,[y])=>x==("enumerate":Str)&&bltB g ct.sc x&&ckE ct v a y | _=>false)
end
noncomputable def freshE:E->Bool
 | .lst _=>true
 | .comp ..=>true
 | .bin .add _ _=>true
 | .bin .mul _ _=>true
 | .prim .sorted _=>true
 | .prim .sortedSet _=>true
 | .lstI _=>true
 | _=>false
mutual
noncomputable def mutS (i:Nat):S->Bool
 | .app j _=>i==j
 | .ext j _=>i==j
 | .seti j _ _=>i==j
 | .asg j _=>i==j
 | .iff _ a b=>mutB i a||mutB i b
 | .for_ _ ts _ b=>ts.contains i||mutB i b
 | .while_ _ b=>mutB i b
 | .try_ s h=>mutS i s||mutH i h
 | _=>false
noncomputable def mutB (i:Nat):B->Bool
 | .nil=>false
 | .cons s b=>mutS i s||mutB i b
noncomputable def mutH (i:Nat):Hs->Bool
 | .nil=>false
 | .cons _ j b h=>j==some i||mutB i b||mutH i h
end
noncomputable def ckT (ct:Ct):List Nat->List Str->Bool
 | [],[]=>true
 | i::is,x::xs=>ct.N[i]?==some x&&locB ct.sc x&&okN x&&!ct.mu.contains i&&ckT ct is xs
 | _,_=>false
noncomputable def tAsg:Stmt->Option (List Expr×Expr)
 | .Assign ts y _=>some (ts,y)
 | _=>none
noncomputable def tExp:Stmt->Option Expr
 | .Expr y _=>some y
 | _=>none
noncomputable def tRet:Stmt->Option (Option Expr)
 | .Return y _=>some y
 | _=>none
noncomputable def tIf:Stmt->Option (Expr×List Stmt×List Stmt)
 | .If t x y _=>some (t,x,y)
 | _=>none
noncomputable def tFor:Stmt->Option (Expr×Expr×List Stmt×List Stmt)
 | .For t it x y _=>some (t,it,x,y)
 | _=>none
noncomputable def tPbc:Stmt->Nat
 | .Pass _=>0
 | .Break _=>1
 | .Continue _=>2
 | _=>3
noncomputable def vAtt:Expr->Option (Expr×Str×Pos)
 | .Attribute o n p=>some (o,n,p)
 | _=>none
noncomputable def vApp (z:Expr):Option (Str×Str×Pos×Expr):=match vCall0 z with
 | some (f,[y],[])=>(match vAtt f with
  | some (o,n,ap)=>(match vName o with | some x=>some (x,n,ap,y) | none=>none)
  | none=>none)
 | _=>none
noncomputable def tRaise:Stmt->Option Expr
 | .Raise (some y) none _=>some y
 | _=>none
noncomputable def tTry:Stmt->Option (Stmt×Expr×Str×Expr)
 | .Try [a] [.ExceptHandler (some t) (some n) [.Return (some y) _] _] [] [] _=>some (a,t,n,y)
 | _=>none
noncomputable def ckAsg (ct:Ct) (i:Nat) (e:E) (z:Stmt):Bool:=match tAsg z with
 | some ([t],y)=>(match vName t with | some x=>ct.N[i]?==some x&&locB ct.sc x&&okN x&&(!ct.mu.contains i||freshE e)&&ckE g ct false e y | none=>false)
 | _=>false
noncomputable def ckMt (ct:Ct) (i:Nat) (e:E) (nm:Str) (z:Stmt):Bool:=match tExp z with
 | some c=>(match vApp c with | some (x,n,ap,y)=>(ap.endLine==c.pos.line)&&ct.N[i]?==some x&&visB ct.sc x&&okN x&&ct.mu.contains i&&n==nm&&ckE g ct false e y | none=>false)
 | none=>false
noncomputable def ckRaise (ct:Ct) (c:Nat) (z:Stmt):Bool:=match tRaise z with
 | some y=>(match vCall y with
  | some (x,[a])=>(match vConst a with | some (.str _)=>g.cls[c]?==some x&&gloB ct.sc x&&okN x | _=>false)
  | _=>false)
 | none=>false
noncomputable def ckIs (ct:Ct) (n:Str) (k:Nat) (z:Expr):Bool:=match vCall z with
 | some (x,[e,d])=>(match vName e,vName d with | some y,some t=>x==("isinstance":Str)&&bltB g ct.sc x&&y==n&&tyB g ct t (.cls k)&&(k==1000||decide (k < g.cls.length)) | _,_=>false)
 | _=>false
noncomputable def ckIx (ct:Ct) (n:Str) (k1 k2:Nat) (z:Expr):Bool:=match vCall z with
 | some (x,[b])=>x==("int":Str)&&bltB g ct.sc x&&(match vBool b with | some (.And,[u,v],_)=>ckIs g ct n k1 u&&ckIs g ct n k2 v | _=>false)
 | _=>false
noncomputable def ckNo (z:Expr):Bool:=match vLst z with
 | some [a,b]=>(match vTup a,vConst b with | some [],some .none=>true | _,_=>false)
 | _=>false
noncomputable def vHx:E->Option (Nat×Nat×Nat×Nat)
 | .idx (.lst (.cons (.tup .nil) (.cons (.lit .non) .nil))) (.prim .int (.and (.prim (.inst (.cls k1)) (.var j1)) (.prim (.inst (.cls k2)) (.var j2))))=>some (k1,j1,k2,j2)
 | _=>none
noncomputable def vTry:S->Hs->Option (Nat×E×Nat×Nat×E)
 | .asg i e,.cons k (some j) (.cons (.ret h) .nil) .nil=>some (i,e,k,j,h)
 | _,_=>none
noncomputable def ckTry (ct:Ct) (s:S) (hs:Hs) (z:Stmt):Bool:=match vTry s hs with
 | some (i,e,k,j,h)=>(match tTry z,vHx h with
  | some (a,t,n,y),some (k1,j1,k2,j2)=>ckAsg g ct i e a&&(match vName t with | some x=>g.cls[k]?==some x&&gloB ct.sc x&&okN x | none=>false)&&ct.N[j]?==some n&&ct.sc.names.lookup n==some .local&&okN n&&!ct.mu.contains j
    && k+1==g.cls.length&&j1==j&&j2==j&&(match vSub y with | some (u,v)=>ckNo u&&ckIx g ct n k1 k2 v | none=>false)
  | _,_=>false)
 | none=>false
mutual
noncomputable def ckS (ct:Ct):S->Stmt->Bool
 | .asg i e,z=>ckAsg g ct i e z
 | .app i e,z=>ckMt g ct i e "append" z
 | .ext i e,z=>ckMt g ct i e "extend" z
 | .raise c,z=>ckRaise g ct c z
 | .try_ s hs,z=>ckTry g ct s hs z
 | .ret e,z=>(match tRet z with | some (some y)=>ckE g ct false e y||(match e,y with | .var i,.Name x _=>ct.N[i]?==some x&&visB ct.sc x&&okN x | _,_=>false) | _=>false)
 | .iff c a b,z=>(match tIf z with | some (t,x,y)=>ckE g ct true c t&&ckB ct a x&&ckB ct b y | none=>false)
 | .for_ k ts s b,z=>(match tFor z with | some (t,it,x,[])=>(match tgt k t with | some xs=>(!pairI s||k==2)&&ckT ct ts xs&&decide ts.Nodup&&ckI g ct false s it&&ckB ct b x | none=>false) | _=>false)
 | .expr e,z=>(match tExp z with | some y=>noComp y&&ckE g ct true e y | none=>false)
 | .pass,z=>tPbc z==0
 | .brk,z=>tPbc z==1
 | .cont,z=>tPbc z==2
 | _,_=>false
noncomputable def ckB (ct:Ct):B->List Stmt->Bool
 | .nil,[]=>true
 | .cons s b,x::xs=>ckS ct s x&&ckB ct b xs
 | _,_=>false
end
mutual
noncomputable def muS:S->List Nat
 | .app j _=>[j]
 | .ext j _=>[j]
 | .seti j _ _=>[j]
 | .iff _ a b=>muB a++muB b
 | .for_ _ _ _ b=>muB b
 | .while_ _ b=>muB b
 | .try_ s h=>muS s++muH h
 | _=>[]
noncomputable def muB:B->List Nat
 | .nil=>[]
 | .cons s b=>muS s++muB b
noncomputable def muH:Hs->List Nat
 | .nil=>[]
 | .cons _ _ b h=>muB b++muH h
end
noncomputable def ckF (N:List Str) (fd:Fd):Stmt->Bool
 | .FunctionDef name args body [] none [] sc none bind _ =>
   decide (sc.kind=.function)&&!sc.isCoroutine&&!sc.isGenerator&&decide N.Nodup&&N.length==fd.np+fd.nl
   && (args.args.map (·.arg))==N.take fd.np&&args.posonlyargs.isEmpty&&args.vararg.isNone&&args.kwonlyargs.isEmpty&&args.kwarg.isNone&&args.defaults.isEmpty&&args.kw_defaults.isEmpty
   && (N.take fd.np).all (fun x=>locB sc x)&&sc.names.all (fun y=>y.2 != .free)
   && (muB fd.body).all (fun i=>decide (fd.np<=i)&&decide (i < N.length))&&ckB g ⟨N,sc,muB fd.body⟩ fd.body body
 | _=>false
end
end Den
end
section
namespace Bd
open PySem Den
noncomputable def b_is_whole :B:=.cons (.ret (.and (.prim (.inst .int) (.var 0)) (.not (.prim (.inst .bool) (.var 0))))) (.nil)
noncomputable def b_is_many (f_is_whole:Nat) (g_MOST_CORNERS:Nat):B:=.cons (.ret (.and (.call f_is_whole (.cons (.var 0) (.nil))) (.cmp2 .le .le (.lit (.int 1)) (.var 0) (.glob g_MOST_CORNERS)))) (.nil)
noncomputable def b_is_rising :B:=.cons (.ret (.prim .all (.comp (.cmp .lt (.var 1) (.var 2)) 2 (.zip (.var 0) (.slice (.var 0) (.some (.lit (.int 1))) (.none))) (.none)))) (.nil)
noncomputable def b_is_cell (f_is_rising:Nat) (f_is_whole:Nat):B:=.cons (.iff (.or (.not (.prim (.inst .tuple) (.var 0))) (.not (.call f_is_whole (.cons (.var 1) (.nil))))) (.cons (.ret (.lit (.bl false))) (.nil)) (.nil)) (.cons (.iff (.or (.cmp .eq (.prim .len (.var 0)) (.lit (.int 0))) (.not (.prim .all (.comp (.call f_is_whole (.cons (.var 2) (.nil))) 0 (.seq (.var 0)) (.none))))) (.cons (.ret (.lit (.bl false))) (.nil)) (.nil)) (.cons (.ret (.and (.cmp .ge (.idx (.var 0) (.lit (.int 0))) (.lit (.int 0))) (.and (.cmp .lt (.idx (.var 0) (.neg (.lit (.int 1)))) (.var 1)) (.call f_is_rising (.cons (.var 0) (.nil)))))) (.nil)))
noncomputable def b_are_cells (f_is_cell:Nat):B:=.cons (.ret (.and (.prim (.inst .tuple) (.var 0)) (.prim .all (.comp (.call f_is_cell (.cons (.var 2) (.cons (.var 1) (.nil)))) 0 (.seq (.var 0)) (.none))))) (.nil)
noncomputable def b_lies_in :B:=.cons (.ret (.prim .all (.comp (.cmp .mem (.var 2) (.var 1)) 0 (.seq (.var 0)) (.none)))) (.nil)
noncomputable def b_lies_in_one (f_lies_in:Nat):B:=.cons (.ret (.prim .any (.comp (.call f_lies_in (.cons (.var 0) (.cons (.var 2) (.nil)))) 0 (.seq (.var 1)) (.none)))) (.nil)
noncomputable def b_uppermost (f_lies_in_one:Nat):B:=.cons (.asg 1 (.prim .sortedSet (.var 0))) (.cons (.asg 2 (.lst (.nil))) (.cons (.for_ 0 [3] (.seq (.var 1)) (.cons (.asg 4 (.comp (.var 5) 0 (.seq (.var 1)) (.some (.cmp .gt (.prim .len (.var 5)) (.prim .len (.var 3)))))) (.cons (.iff (.not (.call f_lies_in_one (.cons (.var 3) (.cons (.var 4) (.nil))))) (.cons (.app 2 (.var 3)) (.nil)) (.nil)) (.nil)))) (.cons (.ret (.tupI (.seq (.var 2)))) (.nil))))
noncomputable def b_meet_all_corners (f_lies_in_one:Nat):B:=.cons (.ret (.prim .all (.comp (.call f_lies_in_one (.cons (.tup (.cons (.var 2) (.nil))) (.cons (.var 0) (.nil)))) 0 (.rng (.var 1)) (.none)))) (.nil)
noncomputable def b_is_net (f_meet_all_corners:Nat) (f_uppermost:Nat) (f_are_cells:Nat) (f_is_many:Nat):B:=.cons (.iff (.or (.not (.prim (.inst .tuple) (.var 0))) (.cmp .ne (.prim .len (.var 0)) (.lit (.int 2)))) (.cons (.ret (.lit (.bl false))) (.nil)) (.nil)) (.cons (.asg 1 (.idx (.var 0) (.lit (.int 0)))) (.cons (.asg 2 (.idx (.var 0) (.lit (.int 1)))) (.cons (.iff (.or (.not (.call f_is_many (.cons (.var 1) (.nil)))) (.not (.call f_are_cells (.cons (.var 2) (.cons (.var 1) (.nil)))))) (.cons (.ret (.lit (.bl false))) (.nil)) (.nil)) (.cons (.ret (.and (.cmp .eq (.var 2) (.call f_uppermost (.cons (.var 2) (.nil)))) (.call f_meet_all_corners (.cons (.var 2) (.cons (.var 1) (.nil)))))) (.nil)))))
noncomputable def b_law_cell_at :B:=.cons (.iff (.cmp .lt (.var 1) (.prim .len (.var 0))) (.cons (.ret (.idx (.var 0) (.var 1))) (.nil)) (.nil)) (.cons (.ret (.lit (.int 0))) (.nil))
noncomputable def b_law_mixed (fcell_at:Nat):B:=.cons (.asg 2 (.bin .mod (.bin .mul (.bin .add (.bin .add (.call fcell_at (.cons (.var 0) (.cons (.var 1) (.nil)))) (.bin .mul (.lit (.int 7919)) (.var 1))) (.lit (.int 1))) (.lit (.int 48271))) (.lit (.int 2147483647)))) (.cons (.ret (.bin .mod (.bin .add (.bin .add (.bin .mul (.var 2) (.var 2)) (.bin .mul (.lit (.int 7)) (.var 2))) (.var 1)) (.lit (.int 2147483629)))) (.nil))
noncomputable def b_law_drawn :B:=.cons (.asg 2 (.bin .mod (.bin .mul (.bin .add (.bin .add (.var 0) (.bin .mul (.lit (.int 104729)) (.var 1))) (.lit (.int 17))) (.lit (.int 69621))) (.lit (.int 2147483647)))) (.cons (.ret (.bin .mod (.bin .add (.bin .add (.bin .mul (.var 2) (.var 2)) (.bin .mul (.lit (.int 3)) (.var 2))) (.var 1)) (.lit (.int 2147483629)))) (.nil))
noncomputable def b_law_lies :B:=.cons (.ret (.cmp .eq (.comp (.var 2) 0 (.seq (.var 0)) (.some (.cmp .notmem (.var 2) (.var 1)))) (.lst (.nil)))) (.nil)
noncomputable def b_law_tops (flies:Nat):B:=.cons (.asg 1 (.lst (.nil))) (.cons (.for_ 0 [2] (.seq (.prim .sortedSet (.var 0))) (.cons (.iff (.cmp .eq (.comp (.var 3) 0 (.seq (.var 0)) (.some (.and (.cmp .ne (.var 2) (.var 3)) (.call flies (.cons (.var 2) (.cons (.var 3) (.nil))))))) (.lst (.nil))) (.cons (.app 1 (.var 2)) (.nil)) (.nil)) (.nil))) (.cons (.ret (.tupI (.seq (.var 1)))) (.nil)))
noncomputable def b_law_parts (fparts:Nat):B:=.cons (.iff (.cmp .eq (.var 1) (.lit (.int 0))) (.cons (.ret (.lst (.cons (.tup (.nil)) (.nil)))) (.nil)) (.nil)) (.cons (.asg 2 (.lst (.nil))) (.cons (.for_ 0 [3] (.rng (.prim .len (.var 0))) (.cons (.asg 2 (.bin .add (.var 2) (.comp (.bin .add (.tup (.cons (.idx (.var 0) (.var 3)) (.nil))) (.var 4)) 0 (.seq (.call fparts (.cons (.slice (.var 0) (.some (.bin .add (.var 3) (.lit (.int 1)))) (.none)) (.cons (.bin .sub (.var 1) (.lit (.int 1))) (.nil))))) (.none)))) (.nil))) (.cons (.ret (.var 2)) (.nil))))
noncomputable def b_law_some (fdrawn:Nat):B:=.cons (.asg 2 (.comp (.tup (.cons (.var 6) (.nil))) 0 (.rng (.var 1)) (.none))) (.cons (.for_ 0 [3] (.rng (.bin .mod (.var 0) (.lit (.int 9)))) (.cons (.asg 4 (.call fdrawn (.cons (.var 0) (.cons (.var 3) (.nil))))) (.cons (.asg 5 (.tupI (.seq (.comp (.var 6) 0 (.rng (.var 1)) (.some (.cmp .lt (.bin .mod (.call fdrawn (.cons (.var 4) (.cons (.var 6) (.nil)))) (.lit (.int 5))) (.bin .add (.lit (.int 2)) (.bin .mod (.var 4) (.lit (.int 2)))))))))) (.cons (.iff (.cmp .ne (.var 5) (.tup (.nil))) (.cons (.app 2 (.var 5)) (.nil)) (.nil)) (.nil))))) (.cons (.ret (.var 2)) (.nil)))
noncomputable def b_law_net (ftops:Nat) (fparts:Nat) (fsome:Nat):B:=.cons (.asg 2 (.bin .add (.lit (.int 1)) (.bin .mod (.var 0) (.var 1)))) (.cons (.asg 3 (.bin .mod (.bin .fdiv (.var 0) (.lit (.int 12))) (.lit (.int 8)))) (.cons (.iff (.cmp .eq (.var 3) (.lit (.int 0))) (.cons (.asg 4 (.call fparts (.cons (.tupI (.rng (.var 2))) (.cons (.bin .add (.lit (.int 1)) (.bin .mod (.bin .fdiv (.var 0) (.lit (.int 96))) (.var 2))) (.nil))))) (.nil)) (.cons (.iff (.and (.cmp .eq (.var 3) (.lit (.int 1))) (.cmp .gt (.var 1) (.lit (.int 5)))) (.cons (.asg 2 (.lit (.int 6))) (.cons (.asg 4 (.comp (.tup (.cons (.lit (.int 0)) (.cons (.bin .add (.lit (.int 1)) (.var 5)) (.cons (.bin .add (.lit (.int 1)) (.bin .mod (.bin .add (.var 5) (.lit (.int 1))) (.lit (.int 5)))) (.nil))))) 0 (.rng (.lit (.int 5))) (.none))) (.cons (.asg 4 (.bin .add (.var 4) (.comp (.tup (.cons (.bin .add (.lit (.int 1)) (.var 5)) (.cons (.bin .add (.lit (.int 1)) (.bin .mod (.bin .add (.var 5) (.lit (.int 1))) (.lit (.int 5)))) (.cons (.bin .add (.lit (.int 1)) (.bin .mod (.bin .add (.var 5) (.lit (.int 3))) (.lit (.int 5)))) (.nil))))) 0 (.rng (.lit (.int 5))) (.none)))) (.nil)))) (.cons (.iff (.and (.cmp .eq (.var 3) (.lit (.int 2))) (.cmp .gt (.var 1) (.lit (.int 6)))) (.cons (.asg 2 (.lit (.int 7))) (.cons (.asg 4 (.comp (.tup (.cons (.var 5) (.cons (.bin .mod (.bin .add (.var 5) (.lit (.int 1))) (.lit (.int 7))) (.cons (.bin .mod (.bin .add (.var 5) (.lit (.int 3))) (.lit (.int 7))) (.nil))))) 0 (.rng (.lit (.int 7))) (.none))) (.cons (.asg 4 (.bin .add (.var 4) (.comp (.tup (.cons (.var 5) (.cons (.bin .mod (.bin .add (.var 5) (.lit (.int 2))) (.lit (.int 7))) (.cons (.bin .mod (.bin .add (.var 5) (.lit (.int 3))) (.lit (.int 7))) (.nil))))) 0 (.rng (.lit (.int 7))) (.none)))) (.nil)))) (.cons (.asg 4 (.call fsome (.cons (.bin .fdiv (.var 0) (.lit (.int 96))) (.cons (.var 2) (.nil))))) (.nil))) (.nil))) (.nil))) (.cons (.ret (.tup (.cons (.var 2) (.cons (.call ftops (.cons (.comp (.tupI (.seq (.prim .sorted (.var 5)))) 0 (.seq (.var 4)) (.none)) (.nil))) (.nil))))) (.nil))))
noncomputable def b_law_cells (fparts:Nat):B:=.cons (.asg 2 (.lst (.nil))) (.cons (.for_ 0 [3] (.seq (.idx (.var 0) (.lit (.int 1)))) (.cons (.asg 2 (.bin .add (.var 2) (.call fparts (.cons (.var 3) (.cons (.bin .add (.var 1) (.lit (.int 1))) (.nil)))))) (.nil))) (.cons (.ret (.prim .sortedSet (.var 2))) (.nil)))
noncomputable def b_law_number :B:=.cons (.ret (.and (.prim (.inst .int) (.var 0)) (.and (.not (.prim (.inst .bool) (.var 0))) (.cmp2 .le .le (.var 1) (.var 0) (.var 2))))) (.nil)
noncomputable def b_law_is_cell (fnumber:Nat):B:=.cons (.iff (.or (.not (.prim (.inst .tuple) (.var 0))) (.cmp .eq (.var 0) (.tup (.nil)))) (.cons (.ret (.lit (.bl false))) (.nil)) (.nil)) (.cons (.iff (.cmp .ne (.comp (.var 2) 0 (.seq (.var 0)) (.some (.not (.call fnumber (.cons (.var 2) (.cons (.lit (.int 0)) (.cons (.bin .sub (.var 1) (.lit (.int 1))) (.nil)))))))) (.lst (.nil))) (.cons (.ret (.lit (.bl false))) (.nil)) (.nil)) (.cons (.ret (.cmp .eq (.comp (.var 2) 0 (.rng2 (.lit (.int 1)) (.prim .len (.var 0))) (.some (.cmp .ge (.idx (.var 0) (.bin .sub (.var 2) (.lit (.int 1)))) (.idx (.var 0) (.var 2))))) (.lst (.nil)))) (.nil)))
noncomputable def b_law_is_net (ftops:Nat) (fis_cell:Nat) (fnumber:Nat):B:=.cons (.iff (.or (.not (.prim (.inst .tuple) (.var 0))) (.or (.cmp .ne (.prim .len (.var 0)) (.lit (.int 2))) (.not (.call fnumber (.cons (.idx (.var 0) (.lit (.int 0))) (.cons (.lit (.int 1)) (.cons (.lit (.int 8)) (.nil)))))))) (.cons (.ret (.lit (.bl false))) (.nil)) (.nil)) (.cons (.iff (.or (.not (.prim (.inst .tuple) (.idx (.var 0) (.lit (.int 1))))) (.cmp .ne (.comp (.var 3) 0 (.seq (.idx (.var 0) (.lit (.int 1)))) (.some (.not (.call fis_cell (.cons (.var 3) (.cons (.idx (.var 0) (.lit (.int 0))) (.nil))))))) (.lst (.nil)))) (.cons (.ret (.lit (.bl false))) (.nil)) (.nil)) (.cons (.iff (.cmp .ne (.idx (.var 0) (.lit (.int 1))) (.call ftops (.cons (.idx (.var 0) (.lit (.int 1))) (.nil)))) (.cons (.ret (.lit (.bl false))) (.nil)) (.nil)) (.cons (.asg 1 (.lst (.nil))) (.cons (.for_ 0 [2] (.seq (.idx (.var 0) (.lit (.int 1)))) (.cons (.asg 1 (.bin .add (.var 1) (.lstI (.seq (.var 2))))) (.nil))) (.cons (.ret (.cmp .eq (.prim .sortedSet (.var 1)) (.lstI (.rng (.idx (.var 0) (.lit (.int 0))))))) (.nil))))))
noncomputable def b_law_odd :B:=.cons (.asg 1 (.lst (.cons (.neg (.lit (.int 1))) (.cons (.lit (.int 0)) (.cons (.lit (.int 1)) (.cons (.lit (.int 2)) (.cons (.lit (.int 8)) (.cons (.lit (.int 9)) (.cons (.lit (.bl true)) (.cons (.lit (.bl false)) (.cons (.lit (.non)) (.cons (.lit (.str (Str.ofString ""))) (.cons (.lit (.str (Str.ofString "a"))) (.cons (.tup (.nil)) (.cons (.lst (.nil)) (.cons (.tup (.cons (.lit (.int 0)) (.nil))) (.cons (.tup (.cons (.lit (.int 0)) (.cons (.lit (.int 1)) (.nil)))) (.cons (.tup (.cons (.lit (.int 1)) (.cons (.lit (.int 0)) (.nil)))) (.cons (.tup (.cons (.lit (.int 1)) (.cons (.lit (.int 1)) (.nil)))) (.cons (.tup (.cons (.tup (.cons (.lit (.int 0)) (.nil))) (.nil))) (.cons (.lst (.cons (.lit (.int 0)) (.nil))) (.cons (.tup (.cons (.lit (.int 8)) (.nil))) (.nil))))))))))))))))))))))) (.cons (.asg 1 (.bin .add (.var 1) (.lst (.cons (.tup (.cons (.lit (.int 1)) (.cons (.tup (.cons (.tup (.cons (.lit (.int 0)) (.nil))) (.nil))) (.nil)))) (.cons (.tup (.cons (.lit (.int 0)) (.cons (.tup (.nil)) (.nil)))) (.cons (.tup (.cons (.lit (.bl true)) (.nil))) (.cons (.tup (.cons (.lit (.int 0)) (.cons (.lit (.int 1)) (.cons (.lit (.int 2)) (.nil))))) (.cons (.tup (.cons (.neg (.lit (.int 1))) (.nil))) (.cons (.tup (.cons (.lit (.int 9)) (.cons (.tup (.cons (.tupI (.rng (.lit (.int 9)))) (.nil))) (.nil)))) (.cons (.tup (.cons (.lit (.int 7)) (.cons (.lit (.int 8)) (.nil)))) (.nil))))))))))) (.cons (.ret (.idx (.var 1) (.bin .mod (.var 0) (.lit (.int 27))))) (.nil)))
noncomputable def b_cells_within :B:=.cons (.asg 1 (.lst (.nil))) (.cons (.for_ 0 [2] (.seq (.var 0)) (.cons (.asg 1 (.bin .add (.bin .add (.var 1) (.lst (.cons (.tup (.cons (.var 2) (.nil))) (.nil)))) (.comp (.bin .add (.var 3) (.tup (.cons (.var 2) (.nil)))) 0 (.seq (.var 1)) (.none)))) (.nil))) (.cons (.ret (.var 1)) (.nil)))
noncomputable def b_every_cell (f_cells_within:Nat):B:=.cons (.asg 1 (.lst (.nil))) (.cons (.for_ 0 [2] (.seq (.idx (.var 0) (.lit (.int 1)))) (.cons (.ext 1 (.call f_cells_within (.cons (.var 2) (.nil)))) (.nil))) (.cons (.ret (.prim .sortedSet (.var 1))) (.nil)))
noncomputable def b_cells_of_height (f_every_cell:Nat):B:=.cons (.ret (.tupI (.seq (.comp (.var 2) 0 (.seq (.call f_every_cell (.cons (.var 0) (.nil)))) (.some (.cmp .eq (.bin .sub (.prim .len (.var 2)) (.lit (.int 1))) (.var 1))))))) (.nil)
noncomputable def b_cells (f_cells_of_height:Nat) (f_is_net:Nat) (c_NoNet:Nat):B:=.cons (.iff (.not (.call f_is_net (.cons (.var 0) (.nil)))) (.cons (.raise c_NoNet) (.nil)) (.nil)) (.cons (.ret (.call f_cells_of_height (.cons (.var 0) (.cons (.var 1) (.nil))))) (.nil))
noncomputable def b_net_of (f_uppermost:Nat) (f_meet_all_corners:Nat) (f_are_cells:Nat) (f_is_many:Nat) (c_NoNet:Nat):B:=.cons (.iff (.not (.call f_is_many (.cons (.var 1) (.nil)))) (.cons (.raise c_NoNet) (.nil)) (.nil)) (.cons (.iff (.not (.call f_are_cells (.cons (.var 0) (.cons (.var 1) (.nil))))) (.cons (.raise c_NoNet) (.nil)) (.nil)) (.cons (.iff (.not (.call f_meet_all_corners (.cons (.var 0) (.cons (.var 1) (.nil))))) (.cons (.raise c_NoNet) (.nil)) (.nil)) (.cons (.ret (.tup (.cons (.var 1) (.cons (.call f_uppermost (.cons (.var 0) (.nil))) (.nil))))) (.nil))))
noncomputable def b_law_told (f_net_of:Nat) (c_NoNet:Nat) (c_HoleError:Nat):B:=.cons (.try_ (.asg 2 (.call f_net_of (.cons (.var 0) (.cons (.var 1) (.nil))))) (.cons c_NoNet (some 3) (.cons (.ret (.idx (.lst (.cons (.tup (.nil)) (.cons (.lit (.non)) (.nil)))) (.prim .int (.and (.prim (.inst (.cls c_HoleError)) (.var 3)) (.prim (.inst (.cls 1000)) (.var 3)))))) (.nil)) (.nil))) (.cons (.ret (.idx (.lst (.cons (.var 2) (.cons (.tup (.nil)) (.nil)))) (.prim .int (.cmp .is (.var 2) (.lit (.non)))))) (.nil))
noncomputable def b_law_mingled (fdrawn:Nat):B:=.cons (.asg 2 (.lst (.nil))) (.cons (.for_ 2 [3,4] (.enum (.var 0)) (.cons (.asg 5 (.bin .mod (.call fdrawn (.cons (.var 1) (.cons (.var 3) (.nil)))) (.bin .add (.var 3) (.lit (.int 1))))) (.cons (.asg 2 (.bin .add (.bin .add (.slice (.var 2) (.none) (.some (.var 5))) (.lst (.cons (.var 4) (.nil)))) (.slice (.var 2) (.some (.var 5)) (.none)))) (.nil)))) (.cons (.ret (.tupI (.seq (.bin .add (.var 2) (.slice (.var 2) (.none) (.some (.bin .mod (.var 1) (.lit (.int 3))))))))) (.nil)))
noncomputable def b_law_Tk04 (fis_net:Nat) (ftold:Nat) (ftops:Nat) (fis_cell:Nat) (fnumber:Nat) (fodd:Nat) (fmixed:Nat) (fmingled:Nat) (fsome:Nat) (fcells:Nat) (f_cells:Nat) (fnet:Nat):B:=.cons (.asg 1 (.call fnet (.cons (.call fmixed (.cons (.var 0) (.cons (.lit (.int 0)) (.nil)))) (.cons (.lit (.int 6)) (.nil))))) (.cons (.asg 2 (.bin .mod (.call fmixed (.cons (.var 0) (.cons (.lit (.int 1)) (.nil)))) (.lit (.int 8)))) (.cons (.asg 3 (.call f_cells (.cons (.var 1) (.cons (.var 2) (.nil))))) (.cons (.iff (.cmp .ne (.var 3) (.tupI (.seq (.call fcells (.cons (.var 1) (.cons (.var 2) (.nil))))))) (.cons (.ret (.lit (.bl false))) (.nil)) (.nil)) (.cons (.iff (.cmp .ne (.comp (.var 11) 0 (.seq (.var 3)) (.some (.not (.call fis_cell (.cons (.var 11) (.cons (.idx (.var 1) (.lit (.int 0))) (.nil))))))) (.lst (.nil))) (.cons (.ret (.lit (.bl false))) (.nil)) (.nil)) (.cons (.asg 4 (.bin .add (.lit (.int 1)) (.bin .mod (.call fmixed (.cons (.var 0) (.cons (.lit (.int 2)) (.nil)))) (.lit (.int 8))))) (.cons (.asg 5 (.call fmingled (.cons (.call fsome (.cons (.call fmixed (.cons (.var 0) (.cons (.lit (.int 3)) (.nil)))) (.cons (.var 4) (.nil)))) (.cons (.call fmixed (.cons (.var 0) (.cons (.lit (.int 4)) (.nil)))) (.nil))))) (.cons (.asg 6 (.call fmixed (.cons (.var 0) (.cons (.lit (.int 5)) (.nil))))) (.cons (.iff (.cmp .eq (.bin .mod (.var 6) (.lit (.int 6))) (.lit (.int 1))) (.cons (.asg 5 (.bin .add (.slice (.var 5) (.none) (.some (.bin .mod (.bin .fdiv (.var 6) (.lit (.int 6))) (.bin .add (.prim .len (.var 5)) (.lit (.int 1)))))) (.tup (.cons (.call fodd (.cons (.bin .fdiv (.var 6) (.lit (.int 60))) (.nil))) (.nil))))) (.nil)) (.nil)) (.cons (.iff (.cmp .eq (.bin .mod (.var 6) (.lit (.int 6))) (.lit (.int 2))) (.cons (.asg 5 (.tupI (.seq (.comp (.var 11) 0 (.seq (.var 5)) (.some (.cmp .ne (.var 11) (.tup (.cons (.bin .mod (.bin .fdiv (.var 6) (.lit (.int 6))) (.var 4)) (.nil))))))))) (.nil)) (.nil)) (.cons (.asg 7 (.var 4)) (.cons (.iff (.cmp .eq (.bin .mod (.var 6) (.lit (.int 6))) (.lit (.int 3))) (.cons (.asg 7 (.idx (.lst (.cons (.lit (.int 0)) (.cons (.lit (.int 9)) (.cons (.lit (.bl true)) (.cons (.lit (.non)) (.cons (.lit (.str (Str.ofString "1"))) (.cons (.bin .add (.var 4) (.lit (.int 1))) (.cons (.neg (.lit (.int 1))) (.nil))))))))) (.bin .mod (.bin .fdiv (.var 6) (.lit (.int 6))) (.lit (.int 7))))) (.nil)) (.nil)) (.cons (.iff (.and (.cmp .eq (.bin .mod (.var 6) (.lit (.int 6))) (.lit (.int 4))) (.cmp .eq (.bin .mod (.bin .fdiv (.var 6) (.lit (.int 6))) (.lit (.int 2))) (.lit (.int 1)))) (.cons (.ret (.cmp .is (.call ftold (.cons (.idx (.lst (.cons (.lstI (.seq (.var 5))) (.cons (.lit (.non)) (.cons (.lit (.int 7)) (.cons (.lit (.str (Str.ofString "0"))) (.nil)))))) (.bin .mod (.bin .fdiv (.var 6) (.lit (.int 12))) (.lit (.int 4)))) (.cons (.var 4) (.nil)))) (.lit (.non)))) (.nil)) (.nil)) (.cons (.iff (.and (.cmp .eq (.bin .mod (.var 6) (.lit (.int 6))) (.lit (.int 4))) (.cmp .eq (.bin .mod (.bin .fdiv (.var 6) (.lit (.int 12))) (.lit (.int 4))) (.lit (.int 1)))) (.cons (.asg 5 (.tup (.cons (.tupI (.rng (.lit (.int 9)))) (.nil)))) (.cons (.asg 7 (.lit (.int 9))) (.nil))) (.nil)) (.cons (.asg 8 (.lst (.nil))) (.cons (.asg 9 (.call fnumber (.cons (.var 7) (.cons (.lit (.int 1)) (.cons (.lit (.int 8)) (.nil)))))) (.cons (.for_ 0 [10] (.seq (.var 5)) (.cons (.asg 9 (.and (.var 9) (.call fis_cell (.cons (.var 10) (.cons (.var 7) (.nil)))))) (.cons (.iff (.var 9) (.cons (.asg 8 (.bin .add (.var 8) (.lstI (.seq (.var 10))))) (.nil)) (.nil)) (.nil)))) (.cons (.iff (.or (.not (.var 9)) (.cmp .ne (.prim .sortedSet (.var 8)) (.lstI (.rng (.var 7))))) (.cons (.ret (.cmp .is (.call ftold (.cons (.var 5) (.cons (.var 7) (.nil)))) (.lit (.non)))) (.nil)) (.nil)) (.cons (.ret (.and (.cmp .eq (.call ftold (.cons (.var 5) (.cons (.var 7) (.nil)))) (.tup (.cons (.var 7) (.cons (.call ftops (.cons (.var 5) (.nil))) (.nil))))) (.call fis_net (.cons (.call ftold (.cons (.var 5) (.cons (.var 7) (.nil)))) (.nil))))) (.nil)))))))))))))))))))
end Bd
end
section
namespace Tk04
open PySem Den
noncomputable def fds:List Fd:=[
 ⟨1,0,Bd.b_is_whole⟩,
 ⟨1,0,Bd.b_is_many 0 0⟩,
 ⟨1,0,Bd.b_is_rising⟩,
 ⟨2,0,Bd.b_is_cell 2 0⟩,
 ⟨2,0,Bd.b_are_cells 3⟩,
 ⟨2,0,Bd.b_lies_in⟩,
 ⟨2,0,Bd.b_lies_in_one 5⟩,
 ⟨1,4,Bd.b_uppermost 6⟩,
 ⟨2,0,Bd.b_meet_all_corners 6⟩,
 ⟨1,2,Bd.b_is_net 8 7 4 1⟩,
 ⟨1,2,Bd.b_cells_within⟩,
 ⟨1,2,Bd.b_every_cell 10⟩,
 ⟨2,0,Bd.b_cells_of_height 11⟩,
 ⟨2,0,Bd.b_cells 12 9 1⟩,
 ⟨2,0,Bd.b_net_of 7 8 4 1 1⟩,
 ⟨2,0,Bd.b_law_cell_at⟩,
 ⟨2,1,Bd.b_law_mixed 15⟩,
 ⟨2,1,Bd.b_law_drawn⟩,
 ⟨2,0,Bd.b_law_lies⟩,
 ⟨1,2,Bd.b_law_tops 18⟩,
 ⟨2,2,Bd.b_law_parts 20⟩,
 ⟨2,4,Bd.b_law_some 17⟩,
 ⟨2,3,Bd.b_law_net 19 20 21⟩,
 ⟨2,2,Bd.b_law_cells 20⟩,
 ⟨3,0,Bd.b_law_number⟩,
 ⟨2,0,Bd.b_law_is_cell 24⟩,
 ⟨1,2,Bd.b_law_is_net 19 25 24⟩,
 ⟨1,1,Bd.b_law_odd⟩,
 ⟨1,0,Bd.b_is_whole⟩,
 ⟨2,2,Bd.b_law_told 14 1 0⟩,
 ⟨2,4,Bd.b_law_mingled 17⟩,
 ⟨1,10,Bd.b_law_Tk04 26 29 19 25 24 27 16 30 21 23 13 22⟩]
noncomputable def cs:List D:=[.int 8]
noncomputable def up:Up:=fun c=>match c with | 0=>[0,1000] | 1=>[1,0,1000] | _=>[]
noncomputable def pg:Pg:=⟨up,cs⟩
noncomputable def nms:List (List Str):=[
 ["thing"],
 ["thing"],
 ["row"],
 ["thing","many"],
 ["thing","many"],
 ["cell","other"],
 ["cell","others"],
 ["some","distinct","tops","cell","longer"],
 ["some","many"],
 ["thing","many","tops"],
 ["top","found","corner"],
 ["net","found","top"],
 ["net","height"],
 ["net","height"],
 ["some","many"],
 ["_law_script","_law_k"],
 ["_law_script","_law_k","_law_drawn_here"],
 ["_law_number_here","_law_k","_law_drawn_here"],
 ["_law_cell","_law_other"],
 ["_law_some_here","_law_found","_law_cell"],
 ["_law_cell","_law_size","_law_found","_law_at"],
 ["_law_number_here","_law_many","_law_found","_law_k","_law_drawn_here","_law_cell"],
 ["_law_number_here","_law_most","_law_many","_law_kind","_law_some_here"],
 ["_law_net_here","_law_height","_law_found","_law_top"],
 ["_law_thing","_law_low","_law_high"],
 ["_law_thing","_law_many"],
 ["_law_thing","_law_corners","_law_top"],
 ["_law_number_here","_law_some_here"],
 ["thing"],
 ["_law_some_here","_law_many","_law_found","e"],
 ["_law_some_here","_law_number_here","_law_found","_law_k","_law_cell","_law_at"],
 ["_law_script","_law_net_here","_law_height","_law_found","_law_many","_law_some_here","_law_number_here","_law_here","_law_corners","_law_good","_law_cell"]]
noncomputable def gt:Gt:=⟨["is_whole","is_many","is_rising","is_cell","are_cells","lies_in","lies_in_one","uppermost","meet_all_corners","is_net","cells_within","every_cell","cells_of_height","cells","net_of","_law_cell_at","_law_mixed","_law_drawn","_law_lies","_law_tops","_law_parts","_law_some","_law_net","_law_cells","_law_number","_law_is_cell","_law_is_net","_law_odd","is_whole","_law_told","_law_mingled","law"],["HoleError","NoNet"],["MOST_CORNERS"]⟩
end Tk04
end
section
namespace Den
section
variable {pg:Pg} {Φ:Fn} {ρ:Rho}
noncomputable def andR (pg:Pg) (Φ:Fn) (ρ:Rho) (r:R D) (b:E):R D:=r>>=fun x=>asBl x>>=fun k=>if k then ev pg Φ ρ b else .ok (.bl false)
noncomputable def orR (pg:Pg) (Φ:Fn) (ρ:Rho) (r:R D) (b:E):R D:=r>>=fun x=>asBl x>>=fun k=>if k then .ok (.bl true) else ev pg Φ ρ b
noncomputable def iteR (pg:Pg) (Φ:Fn) (ρ:Rho) (r:R D) (a b:E):R D:=r>>=fun x=>asBl x>>=fun k=>if k then ev pg Φ ρ a else ev pg Φ ρ b
noncomputable def seqB (pg:Pg) (Φ:Fn) (r:R Fl) (b:B):R Fl:=r>>=fun x=>match x with
 | .nx ρ'=>exB pg Φ ρ' b
 | .rt d=>.ok (.rt d)
 | .bk ρ'=>.ok (.bk ρ')
 | .ct ρ'=>.ok (.ct ρ')
noncomputable def iffB (pg:Pg) (Φ:Fn) (ρ:Rho) (r:R D) (a b:B):R Fl:=r>>=fun x=>asBl x>>=fun k=>if k then exB pg Φ ρ a else exB pg Φ ρ b
noncomputable def turn (pg:Pg) (Φ:Fn) (k:Nat) (ts:List Nat) (b:B) (d:D) (ρ:Rho):R Fl:=bindT k d>>=fun vs=>exB pg Φ (setAll ts vs ρ) b
noncomputable def elem (pg:Pg) (Φ:Fn) (ρ:Rho) (e:E) (k:Nat) (c:O) (d:D):R (Option D):=bindT k d>>=fun vs=>evC pg Φ (ρ++vs) c>>=fun b=>if b then ev pg Φ (ρ++vs) e>>=fun y=>.ok (some y) else .ok none
noncomputable def tryB (pg:Pg) (Φ:Fn) (ρ:Rho) (r:R Fl) (hs:Hs):R Fl:=match r with
 | .ok x=>.ok x
 | .exc c=>exH pg Φ ρ c hs
 | .bad=>.bad
theorem ev_var (i:Nat) {d:D} (h:ρ[i]?=some (some d)):ev pg Φ ρ (.var i)=.ok d:=by simp only [ev,h]
theorem ev_v0 {d:D} {r:Rho}:ev pg Φ (some d::r) (.var 0)=.ok d:=nr rfl
theorem ev_vs {o:Option D} {r:Rho} {i:Nat}:ev pg Φ (o::r) (.var (i+1))=ev pg Φ r (.var i):=nr rfl
theorem ev_lit (d:D):ev pg Φ ρ (.lit d)=.ok d:=nr rfl
theorem ev_glob (j:Nat) {d:D} (h:pg.cs[j]?=some d):ev pg Φ ρ (.glob j)=.ok d:=by simp only [ev,h]
theorem ev_tup (a:A):ev pg Φ ρ (.tup a)=evA pg Φ ρ a>>=fun ds=>.ok (.tup ds):=nr rfl
theorem ev_lst (a:A):ev pg Φ ρ (.lst a)=evA pg Φ ρ a>>=fun ds=>.ok (.lst ds):=nr rfl
theorem ev_bin (op:Op) (a b:E):ev pg Φ ρ (.bin op a b)=ev pg Φ ρ a>>=fun x=>ev pg Φ ρ b>>=fun y=>binD op x y:=nr rfl
theorem ev_neg (a:E):ev pg Φ ρ (.neg a)=ev pg Φ ρ a>>=fun x=>asInt x>>=fun i=>.ok (.int (-i)):=nr rfl
theorem ev_not (a:E):ev pg Φ ρ (.not a)=ev pg Φ ρ a>>=fun x=>asBl x>>=fun b=>.ok (.bl (!b)):=nr rfl
theorem ev_cmp (op:Cm) (a b:E):ev pg Φ ρ (.cmp op a b)=ev pg Φ ρ a>>=fun x=>ev pg Φ ρ b>>=fun y=>cmpD op x y>>=fun c=>.ok (.bl c):=nr rfl
theorem ev_cmp2 (op op':Cm) (a b c:E):ev pg Φ ρ (.cmp2 op op' a b c)=ev pg Φ ρ a>>=fun x=>ev pg Φ ρ b>>=fun y=>cmpD op x y>>=fun k=>if k then ev pg Φ ρ c>>=fun z=>cmpD op' y z>>=fun k'=>.ok (.bl k') else .ok (.bl false):=nr rfl
theorem ev_and (a b:E):ev pg Φ ρ (.and a b)=andR pg Φ ρ (ev pg Φ ρ a) b:=nr rfl
theorem ev_or (a b:E):ev pg Φ ρ (.or a b)=orR pg Φ ρ (ev pg Φ ρ a) b:=nr rfl
theorem ev_ite (c a b:E):ev pg Φ ρ (.ite c a b)=iteR pg Φ ρ (ev pg Φ ρ c) a b:=nr rfl
theorem ev_idx (a b:E):ev pg Φ ρ (.idx a b)=ev pg Φ ρ a>>=fun x=>ev pg Φ ρ b>>=fun y=>idxD x y:=nr rfl
theorem ev_slice (a:E) (lo hi:O):ev pg Φ ρ (.slice a lo hi)=ev pg Φ ρ a>>=fun x=>evO pg Φ ρ lo>>=fun l=>evO pg Φ ρ hi>>=fun h=>sliceD x l h:=nr rfl
theorem ev_rev (a:E):ev pg Φ ρ (.rev a)=ev pg Φ ρ a>>=fun x=>revD x:=nr rfl
theorem ev_call (f:Nat) (a:A):ev pg Φ ρ (.call f a)=evA pg Φ ρ a>>=fun ds=>Φ f ds:=nr rfl
theorem ev_prim (p:Pr) (a:E):ev pg Φ ρ (.prim p a)=ev pg Φ ρ a>>=fun x=>primD pg.up p x:=nr rfl
theorem ev_tupI (s:I):ev pg Φ ρ (.tupI s)=evI pg Φ ρ s>>=fun ds=>.ok (.tup ds):=nr rfl
theorem ev_lstI (s:I):ev pg Φ ρ (.lstI s)=evI pg Φ ρ s>>=fun ds=>.ok (.lst ds):=nr rfl
theorem ev_comp (e:E) (k:Nat) (s:I) (c:O):ev pg Φ ρ (.comp e k s c)=evI pg Φ ρ s>>=fun ds=>noX (compL (elem pg Φ ρ e k c) ds)>>=fun ys=>.ok (.lst ys):=nr rfl
theorem noX_ok {α:Type} (a:α):noX (.ok a)=.ok a:=nr rfl
theorem evA_nil:evA pg Φ ρ .nil=.ok []:=nr rfl
theorem evA_cons (e:E) (a:A):evA pg Φ ρ (.cons e a)=ev pg Φ ρ e>>=fun x=>evA pg Φ ρ a>>=fun xs=>.ok (x::xs):=nr rfl
theorem evO_none:evO pg Φ ρ .none=.ok none:=nr rfl
theorem evO_some (e:E):evO pg Φ ρ (.some e)=ev pg Φ ρ e>>=fun x=>asInt x>>=fun i=>.ok (some i):=nr rfl
theorem evC_none:evC pg Φ ρ .none=.ok true:=nr rfl
theorem evC_some (e:E):evC pg Φ ρ (.some e)=ev pg Φ ρ e>>=fun x=>asBl x:=nr rfl
theorem evI_seq (e:E):evI pg Φ ρ (.seq e)=ev pg Φ ρ e>>=fun x=>seqOf x:=nr rfl
theorem evI_rng (a:E):evI pg Φ ρ (.rng a)=ev pg Φ ρ a>>=fun x=>asInt x>>=fun i=>rngR 0 i:=nr rfl
theorem evI_rng2 (a b:E):evI pg Φ ρ (.rng2 a b)=ev pg Φ ρ a>>=fun x=>asInt x>>=fun i=>ev pg Φ ρ b>>=fun y=>asInt y>>=fun j=>rngR i j:=nr rfl
theorem evI_zip (a b:E):evI pg Φ ρ (.zip a b)=ev pg Φ ρ a>>=fun x=>ev pg Φ ρ b>>=fun y=>zipS x y:=nr rfl
theorem zipS_t (xs ys:List D):zipS (.tup xs) (.tup ys)=.ok (zipL xs ys):=nr rfl
theorem enumS_l (xs:List D):enumS (.lst xs)=.ok (enumL 0 xs):=nr rfl
theorem evI_enum (a:E):evI pg Φ ρ (.enum a)=ev pg Φ ρ a>>=fun x=>enumS x:=nr rfl
theorem asBl_bl (b:Bool):asBl (.bl b)=.ok b:=nr rfl
theorem asInt_int (i:Int):asInt (.int i)=.ok i:=nr rfl
theorem seqOf_tup (xs:List D):seqOf (.tup xs)=.ok xs:=nr rfl
theorem seqOf_lst (xs:List D):seqOf (.lst xs)=.ok xs:=nr rfl
theorem bindT_0 (d:D):bindT 0 d=.ok [some d]:=nr rfl
theorem bindT_2 (x y:D):bindT 2 (.tup [x,y])=.ok [some x,some y]:=nr rfl
theorem andR_t (b:E):andR pg Φ ρ (.ok (.bl true)) b=ev pg Φ ρ b:=nr rfl
theorem andR_f (b:E):andR pg Φ ρ (.ok (.bl false)) b=.ok (.bl false):=nr rfl
theorem orR_t (b:E):orR pg Φ ρ (.ok (.bl true)) b=.ok (.bl true):=nr rfl
theorem orR_f (b:E):orR pg Φ ρ (.ok (.bl false)) b=ev pg Φ ρ b:=nr rfl
theorem iteR_t (a b:E):iteR pg Φ ρ (.ok (.bl true)) a b=ev pg Φ ρ a:=nr rfl
theorem iteR_f (a b:E):iteR pg Φ ρ (.ok (.bl false)) a b=ev pg Φ ρ b:=nr rfl
theorem exB_nil:exB pg Φ ρ .nil=.ok (.nx ρ):=nr rfl
theorem exB_cons (s:S) (b:B):exB pg Φ ρ (.cons s b)=seqB pg Φ (ex pg Φ ρ s) b:=nr rfl
theorem seqB_nx (b:B):seqB pg Φ (.ok (.nx ρ)) b=exB pg Φ ρ b:=nr rfl
theorem seqB_rt (d:D) (b:B):seqB pg Φ (.ok (.rt d)) b=.ok (.rt d):=nr rfl
theorem seqB_bk (b:B):seqB pg Φ (.ok (.bk ρ)) b=.ok (.bk ρ):=nr rfl
theorem seqB_ct (b:B):seqB pg Φ (.ok (.ct ρ)) b=.ok (.ct ρ):=nr rfl
theorem seqB_exc (c:Nat) (b:B):seqB pg Φ (.exc c) b=.exc c:=nr rfl
theorem ex_asg (i:Nat) (e:E):ex pg Φ ρ (.asg i e)=ev pg Φ ρ e>>=fun d=>.ok (.nx (ρ.set i (some d))):=nr rfl
theorem ex_app (i:Nat) (e:E):ex pg Φ ρ (.app i e)=chkL ρ[i]?>>=fun _=>ev pg Φ ρ e>>=fun d=>appD ρ[i]? d>>=fun x=>.ok (.nx (ρ.set i (some x))):=nr rfl
theorem ex_ext (i:Nat) (e:E):ex pg Φ ρ (.ext i e)=chkL ρ[i]?>>=fun _=>ev pg Φ ρ e>>=fun d=>extD ρ[i]? d>>=fun x=>.ok (.nx (ρ.set i (some x))):=nr rfl
theorem ex_seti (i:Nat) (k e:E):ex pg Φ ρ (.seti i k e)=ev pg Φ ρ e>>=fun d=>ev pg Φ ρ k>>=fun j=>setD ρ[i]? j d>>=fun x=>.ok (.nx (ρ.set i (some x))):=nr rfl
theorem ex_ret (e:E):ex pg Φ ρ (.ret e)=ev pg Φ ρ e>>=fun d=>.ok (.rt d):=nr rfl
theorem ex_iff (c:E) (a b:B):ex pg Φ ρ (.iff c a b)=iffB pg Φ ρ (ev pg Φ ρ c) a b:=nr rfl
theorem iffB_t (a b:B):iffB pg Φ ρ (.ok (.bl true)) a b=exB pg Φ ρ a:=nr rfl
theorem iffB_f (a b:B):iffB pg Φ ρ (.ok (.bl false)) a b=exB pg Φ ρ b:=nr rfl
theorem ex_for (k:Nat) (ts:List Nat) (s:I) (b:B):ex pg Φ ρ (.for_ k ts s b)=evI pg Φ ρ s>>=fun ds=>forL (turn pg Φ k ts b) ds ρ:=nr rfl
theorem ex_expr (e:E):ex pg Φ ρ (.expr e)=ev pg Φ ρ e>>=fun _=>.ok (.nx ρ):=nr rfl
theorem ex_raise (c:Nat):ex pg Φ ρ (.raise c)=.exc c:=nr rfl
theorem ex_try (s:S) (hs:Hs):ex pg Φ ρ (.try_ s hs)=tryB pg Φ ρ (ex pg Φ ρ s) hs:=by
 simp only [ex,tryB]
 try (cases ex pg Φ ρ s <;> rfl)
theorem tryB_ok (x:Fl) (hs:Hs):tryB pg Φ ρ (.ok x) hs=.ok x:=nr rfl
theorem tryB_exc (c:Nat) (hs:Hs):tryB pg Φ ρ (.exc c) hs=exH pg Φ ρ c hs:=nr rfl
theorem runF_1 {nl:Nat} {b:B} (x:D):runF pg Φ ⟨1,nl,b⟩ [x]=endD (exB pg Φ (some x::List.replicate nl none) b):=nr rfl
theorem runF_2 {nl:Nat} {b:B} (x y:D):runF pg Φ ⟨2,nl,b⟩ [x,y]=endD (exB pg Φ (some x::some y::List.replicate nl none) b):=nr rfl
theorem runF_3 {nl:Nat} {b:B} (x y z:D):runF pg Φ ⟨3,nl,b⟩ [x,y,z]=endD (exB pg Φ (some x::some y::some z::List.replicate nl none) b):=nr rfl
theorem endD_rt (d:D):endD (.ok (.rt d))=.ok d:=nr rfl
theorem endD_nx (ρ:Rho):endD (.ok (.nx ρ))=.ok .non:=nr rfl
theorem endD_exc (c:Nat):endD (.exc c)=.exc c:=nr rfl
theorem prim_len (up:Up) (d:D):primD up .len d=lenD d:=nr rfl
theorem prim_inst (up:Up) (t:Ty) (d:D):primD up (.inst t) d=instD up d t>>=fun b=>.ok (.bl b):=nr rfl
theorem prim_all (up:Up) (d:D):primD up .all d=seqOf d>>=fun xs=>allD xs>>=fun b=>.ok (.bl b):=nr rfl
theorem prim_any (up:Up) (d:D):primD up .any d=seqOf d>>=fun xs=>anyD xs>>=fun b=>.ok (.bl b):=nr rfl
theorem prim_sorted (up:Up) (d:D):primD up .sorted d=seqOf d>>=fun xs=>sorted xs:=nr rfl
theorem prim_sset (up:Up) (d:D):primD up .sortedSet d=seqOf d>>=fun xs=>sortedSet xs:=nr rfl
theorem prim_str (up:Up) (i:Int):primD up .str (.int i)=strOfInt i:=nr rfl
theorem prim_int (up:Up) (b:Bool):primD up .int (.bl b)=.ok (.int (if b then 1 else 0)):=nr rfl
theorem len_tup (xs:List D):lenD (.tup xs)=.ok (.int xs.length):=nr rfl
theorem len_lst (xs:List D):lenD (.lst xs)=.ok (.int xs.length):=nr rfl
theorem cmp_eq (x y:D):cmpD .eq x y=eqR x y:=nr rfl
theorem cmp_ne (x y:D):cmpD .ne x y=notR (eqR x y):=nr rfl
theorem cmp_lt (x y:D):cmpD .lt x y=ltR x y:=nr rfl
theorem cmp_gt (i j:Int):cmpD .gt (.int i) (.int j)=.ok (decide (j < i)):=nr rfl
theorem cmp_le (i j:Int):cmpD .le (.int i) (.int j)=.ok (decide (i<=j)):=nr rfl
theorem cmp_ge (i j:Int):cmpD .ge (.int i) (.int j)=.ok (decide (j<=i)):=nr rfl
theorem cmp_is (x y:D):cmpD .is x y=isD x y:=nr rfl
theorem cmp_isnot (x y:D):cmpD .isnot x y=notR (isD x y):=nr rfl
theorem cmp_mem_t (x:D) (ys:List D):cmpD .mem x (.tup ys)=memR x ys:=nr rfl
theorem cmp_mem_l (x:D) (ys:List D):cmpD .mem x (.lst ys)=memR x ys:=nr rfl
theorem cmp_nmem_t (x:D) (ys:List D):cmpD .notmem x (.tup ys)=notR (memR x ys):=nr rfl
theorem cmp_nmem_l (x:D) (ys:List D):cmpD .notmem x (.lst ys)=notR (memR x ys):=nr rfl
theorem ltR_int (i j:Int):ltR (.int i) (.int j)=.ok (decide (i < j)):=nr rfl
theorem notR_ok (b:Bool):notR (.ok b)=.ok (!b):=nr rfl
theorem eqR_int (i j:Int):eqR (.int i) (.int j)=.ok (i==j):=nr rfl
theorem eqR_bl (i j:Bool):eqR (.bl i) (.bl j)=.ok (i==j):=nr rfl
theorem add_int (i j:Int):binD .add (.int i) (.int j)=.ok (.int (i+j)):=nr rfl
theorem sub_int (i j:Int):binD .sub (.int i) (.int j)=.ok (.int (i - j)):=nr rfl
theorem add_tup (xs ys:List D):binD .add (.tup xs) (.tup ys)=if xs.length+ys.length<=SZ then .ok (.tup (xs++ys)) else .bad:=nr rfl
theorem add_lst (xs ys:List D):binD .add (.lst xs) (.lst ys)=if xs.length+ys.length<=SZ then .ok (.lst (xs++ys)) else .bad:=nr rfl
theorem mul_int (i j:Int):binD .mul (.int i) (.int j)=if (-BIG < i/\i < BIG)\/(-BIG < j/\j < BIG) then .ok (.int (i * j)) else .bad:=nr rfl
theorem fdiv_int (i j:Int):binD .fdiv (.int i) (.int j)=if 0 < j/\j < 1073741824 then .ok (.int (i / j)) else .bad:=nr rfl
theorem mod_int (i j:Int):binD .mod (.int i) (.int j)=if 0 < j then .ok (.int (i % j)) else .bad:=nr rfl
theorem idx_tup (xs:List D) (i:Int):idxD (.tup xs) (.int i)=(match getAt xs i with | some d=>.ok d | none=>.bad):=nr rfl
theorem idx_lst (xs:List D) (i:Int):idxD (.lst xs) (.int i)=(match getAt xs i with | some d=>.ok d | none=>.bad):=nr rfl
theorem slice_tup (xs:List D) (lo hi:Option Int):sliceD (.tup xs) lo hi=.ok (.tup (cut xs lo hi)):=nr rfl
theorem slice_lst (xs:List D) (lo hi:Option Int):sliceD (.lst xs) lo hi=.ok (.lst (cut xs lo hi)):=nr rfl
theorem rev_tup (xs:List D):revD (.tup xs)=.ok (.tup xs.reverse):=nr rfl
theorem chk_ok (xs:List D):chkL (some (some (.lst xs)))=.ok ():=nr rfl
theorem app_ok (xs:List D) (d:D):appD (some (some (.lst xs))) d=if xs.length < SZ then .ok (.lst (xs++[d])) else .bad:=nr rfl
theorem ext_ok (xs ys:List D):extD (some (some (.lst xs))) (.lst ys)=if xs.length+ys.length<=SZ then .ok (.lst (xs++ys)) else .bad:=nr rfl
theorem set0 {o v:Option D} {r:Rho}:(o::r:Rho).set 0 v=v::r:=nr rfl
theorem setS {o v:Option D} {r:Rho} {i:Nat}:(o::r:Rho).set (i+1) v=o::r.set i v:=nr rfl
theorem get0 {o:Option D} {r:Rho}:(o::r:Rho)[0]?=some o:=nr rfl
theorem getS {o:Option D} {r:Rho} {i:Nat}:(o::r:Rho)[i+1]?=r[i]?:=nr rfl
theorem repl0 {α:Type} (x:α):List.replicate 0 x=[]:=nr rfl
theorem replS {α:Type} (n:Nat) (x:α):List.replicate (n+1) x=x::List.replicate n x:=nr rfl
theorem turn_1 (i:Nat) (b:B) (d:D):turn pg Φ 0 [i] b d ρ=exB pg Φ (ρ.set i (some d)) b:=nr rfl
theorem turn_2 (i j:Nat) (b:B) (x y:D):turn pg Φ 2 [i,j] b (.tup [x,y]) ρ=exB pg Φ ((ρ.set i (some x)).set j (some y)) b:=nr rfl
theorem elem_1 (e:E) (c:O) (d:D):elem pg Φ ρ e 0 c d=evC pg Φ (ρ++[some d]) c>>=fun b=>if b then ev pg Φ (ρ++[some d]) e>>=fun y=>.ok (some y) else .ok none:=nr rfl
theorem elem_2 (e:E) (c:O) (x y:D):elem pg Φ ρ e 2 c (.tup [x,y])=evC pg Φ (ρ++[some x,some y]) c>>=fun b=>if b then ev pg Φ (ρ++[some x,some y]) e>>=fun y=>.ok (some y) else .ok none:=nr rfl
theorem inst_int (up:Up) (d:D):instD up d .int=.ok (match d with | .int _=>true | .bl _=>true | _=>false):=nr rfl
theorem inst_tup_t (up:Up) (xs:List D):instD up (.tup xs) .tuple=.ok true:=nr rfl
end
end Den
end
section
def Den.DNA:=And.intro (And.intro (And.intro (And.intro (And.intro (And.intro (And.intro (@Den.ev_v0) (@Den.ev_vs)) (And.intro (@Den.ev_lit) (@Den.ev_tup))) (And.intro (And.intro (@Den.ev_lst) (@Den.ev_bin)) (And.intro (@Den.ev_neg) (@Den.ev_not)))) (And.intro (And.intro (And.intro (@Den.ev_cmp) (@Den.ev_cmp2)) (And.intro (@Den.ev_and) (@Den.ev_or))) (And.intro (And.intro (@Den.ev_ite) (@Den.ev_idx)) (And.intro (@Den.ev_slice) (@Den.ev_rev))))) (And.intro (And.intro (And.intro (And.intro (@Den.ev_call) (@Den.ev_prim)) (And.intro (@Den.ev_tupI) (@Den.ev_lstI))) (And.intro (And.intro (@Den.ev_comp) (@Den.noX_ok)) (And.intro (@Den.evA_nil) (@Den.evA_cons)))) (And.intro (And.intro (And.intro (@Den.evO_none) (@Den.evO_some)) (And.intro (@Den.evC_none) (@Den.evC_some))) (And.intro (And.intro (@Den.evI_seq) (@Den.evI_rng)) (And.intro (@Den.evI_rng2) (@Den.evI_zip)))))) (And.intro (And.intro (And.intro (And.intro (And.intro (@Den.evI_enum) (@Den.zipS_t)) (And.intro (@Den.enumS_l) (@Den.asBl_bl))) (And.intro (And.intro (@Den.asInt_int) (@Den.seqOf_tup)) (And.intro (@Den.seqOf_lst) (@Den.bindT_0)))) (And.intro (And.intro (And.intro (@Den.bindT_2) (@Den.andR_t)) (And.intro (@Den.andR_f) (@Den.orR_t))) (And.intro (And.intro (@Den.orR_f) (@Den.iteR_t)) (And.intro (@Den.iteR_f) (@Den.exB_nil))))) (And.intro (And.intro (And.intro (And.intro (@Den.exB_cons) (@Den.seqB_nx)) (And.intro (@Den.seqB_rt) (@Den.seqB_bk))) (And.intro (And.intro (@Den.seqB_ct) (@Den.seqB_exc)) (And.intro (@Den.ex_asg) (@Den.ex_app)))) (And.intro (And.intro (And.intro (@Den.chk_ok) (@Den.ex_ext)) (And.intro (@Den.ex_seti) (@Den.ex_ret))) (And.intro (And.intro (@Den.ex_iff) (@Den.iffB_t)) (And.intro (@Den.iffB_f) (@Den.ex_for))))))) (And.intro (And.intro (And.intro (And.intro (And.intro (And.intro (@Den.ex_expr) (@Den.ex_raise)) (And.intro (@Den.ex_try) (@Den.tryB_ok))) (And.intro (And.intro (@Den.tryB_exc) (@Den.runF_1)) (And.intro (@Den.runF_2) (@Den.runF_3)))) (And.intro (And.intro (And.intro (@Den.endD_rt) (@Den.endD_nx)) (And.intro (@Den.endD_exc) (@Den.prim_len))) (And.intro (And.intro (@Den.prim_inst) (@Den.prim_all)) (And.intro (@Den.prim_any) (@Den.prim_sorted))))) (And.intro (And.intro (And.intro (And.intro (@Den.prim_sset) (@Den.prim_str)) (And.intro (@Den.prim_int) (@Den.len_tup))) (And.intro (And.intro (@Den.len_lst) (@Den.cmp_eq)) (And.intro (@Den.cmp_ne) (@Den.cmp_lt)))) (And.intro (And.intro (And.intro (@Den.cmp_gt) (@Den.cmp_le)) (And.intro (@Den.cmp_ge) (@Den.cmp_is))) (And.intro (And.intro (@Den.cmp_isnot) (@Den.cmp_mem_t)) (And.intro (@Den.cmp_mem_l) (@Den.cmp_nmem_t)))))) (And.intro (And.intro (And.intro (And.intro (And.intro (@Den.cmp_nmem_l) (@Den.ltR_int)) (And.intro (@Den.notR_ok) (@Den.eqR_int))) (And.intro (And.intro (@Den.eqR_bl) (@Den.add_int)) (And.intro (@Den.sub_int) (@Den.slice_tup)))) (And.intro (And.intro (And.intro (@Den.slice_lst) (@Den.rev_tup)) (And.intro (@Den.set0) (@Den.setS))) (And.intro (And.intro (@Den.get0) (@Den.getS)) (And.intro (@Den.repl0) (@Den.replS))))) (And.intro (And.intro (And.intro (And.intro (@Den.turn_1) (@Den.turn_2)) (And.intro (@Den.elem_1) (@Den.elem_2))) (And.intro (And.intro (@Den.inst_tup_t) (@Den.R.ok_bind)) (And.intro (@Den.R.exc_bind) (@List.cons_append.{0})))) (And.intro (And.intro (And.intro (@List.nil_append.{0}) (@List.length_cons.{0})) (And.intro (@List.length_nil.{0}) (@Nat.zero_add))) (And.intro (And.intro (@if_true.{1}) (@Bool.not_true)) (And.intro (@Bool.not_false) (And.intro (@Bool.false_eq_true) (@if_false.{1}))))))))
end
section
namespace Pu
open Den
theorem compL_of {f:D->R (Option D)} {g:D->Option D}:∀ {ds:List D},(∀ d∈ds,f d=.ok (g d))->compL f ds=.ok (ds.filterMap g)
 | [],_=>rfl
 | d::ds,h=>by
  have h1:=h d List.mem_cons_self
  have h2:=compL_of (f:=f) (g:=g) (ds:=ds) fun x hx=>h x (List.mem_cons_of_mem _ hx)
  unfold compL
  rw [h1];simp only [R.ok_bind]
  rw [h2];simp only [R.ok_bind,List.filterMap_cons]
  cases g d <;> rfl
theorem compL_map {f:D->R (Option D)} {g:D->D} {ds:List D} (h:∀ d∈ds,f d=.ok (some (g d))):compL f ds=.ok (ds.map g):=by
 rw [compL_of (g:=fun d=>some (g d)) h]
 congr 1
 induction ds with
 | nil=>rfl
 | cons d ds ih=>simp
theorem blsOf_map {α:Type} (p:α->Bool):∀ xs:List α,blsOf (xs.map fun x=>.bl (p x))=some (xs.map p)
 | []=>rfl
 | x::xs=>by simp only [List.map_cons,blsOf,blsOf_map p xs,Option.map_some]
theorem allD_map {α:Type} (p:α->Bool) (xs:List α):allD (xs.map fun x=>.bl (p x))=.ok (xs.all p):=by
 unfold allD;rw [blsOf_map];simp only [List.all_map];rfl
theorem anyD_map {α:Type} (p:α->Bool) (xs:List α):anyD (xs.map fun x=>.bl (p x))=.ok (xs.any p):=by
 unfold anyD;rw [blsOf_map];simp only [List.any_map];rfl
theorem forL_pre {α:Type} {f:α->D} {g:D->Rho->R Fl} (I:List α->Rho->Prop) (all:List α):∀ (xs pre:List α) (ρ:Rho),all=pre++xs->I pre ρ ->
  (∀ pre x post ρ,all=pre++x::post->I pre ρ->∃ ρ',g (f x) ρ=.ok (.nx ρ')/\I (pre++[x]) ρ')->∃ ρ',forL g (xs.map f) ρ=.ok (.nx ρ')/\I all ρ'
 | [],pre,ρ,e,h,_=>⟨ρ,rfl,by rw [e];simpa using h⟩
 | x::xs,pre,ρ,e,h,hs=>by
  obtain ⟨ρ1,e1,i1⟩:=hs pre x xs ρ e h
  obtain ⟨ρ2,e2,i2⟩:=forL_pre I all xs (pre++[x]) ρ1 (by rw [e];simp) i1 hs
  refine ⟨ρ2,?_,i2⟩
  simp only [List.map_cons,forL,e1,R.ok_bind];exact e2
theorem forL_map {α:Type} {f:α->D} {g:D->Rho->R Fl} (I:List α->Rho->Prop) (xs:List α) (ρ:Rho) (h:I [] ρ)
  (hs:∀ pre x post ρ,xs=pre++x::post->I pre ρ->∃ ρ',g (f x) ρ=.ok (.nx ρ')/\I (pre++[x]) ρ'):∃ ρ',forL g (xs.map f) ρ=.ok (.nx ρ')/\I xs ρ' :=
 forL_pre I xs xs [] ρ rfl h hs
def cD (c:List Int):D:=.tup (c.map .int)
theorem cD_inj {a b:List Int} (h:cD a=cD b):a=b:=by
 unfold cD at h
 injection h with h
 induction a generalizing b with
 | nil=>cases b with | nil=>rfl | cons _ _=>simp at h
 | cons x a ih=>cases b with
  | nil=>simp at h
  | cons y b =>
   simp only [List.map_cons,List.cons.injEq,D.int.injEq] at h
   rw [h.1,ih h.2]
theorem eqDs_ints:∀ a b:List Int,eqDs (a.map .int) (b.map .int)=decide (a=b)
 | [],[]=>rfl
 | [],_::_=>rfl
 | _::_,[]=>rfl
 | x::a,y::b=>by
  simp only [List.map_cons,eqDs,eqD,eqDs_ints a b]
  by_cases h1:x=y
  ·subst h1;by_cases h2:a=b <;> simp [h2]
  ·simp [h1]
theorem eqD_c (a b:List Int):eqD (cD a) (cD b)=decide (a=b):=eqDs_ints a b
theorem eqDs_cs:∀ a b:List (List Int),eqDs (a.map cD) (b.map cD)=decide (a=b)
 | [],[]=>rfl
 | [],_::_=>rfl
 | _::_,[]=>rfl
 | x::a,y::b=>by
  simp only [List.map_cons,eqDs,eqD_c,eqDs_cs a b]
  by_cases h1:x=y
  ·subst h1;by_cases h2:a=b <;> simp [h2]
  ·simp [h1]
def lexLt:List Int->List Int->Bool
 | [],[]=>false
 | [],_::_=>true
 | _::_,[]=>false
 | x::xs,y::ys=>if x=y then lexLt xs ys else decide (x < y)
theorem ltDs_ints:∀ a b:List Int,ltDs (a.map .int) (b.map .int)=some (lexLt a b)
 | [],[]=>rfl
 | [],_::_=>rfl
 | _::_,[]=>rfl
 | x::a,y::b=>by
  simp only [List.map_cons,ltDs,eqD,ltD,lexLt,ltDs_ints a b]
  by_cases h:x=y <;> simp [h]
theorem ltD_c (a b:List Int):ltD (cD a) (cD b)=some (lexLt a b):=ltDs_ints a b
theorem memD_int (x:Int) (xs:List Int):memD (.int x) (xs.map .int)=decide (x∈xs):=by
 unfold memD
 induction xs with
 | nil=>simp
 | cons y ys ih =>
  simp only [List.map_cons,List.any_cons,ih,eqD,List.mem_cons]
  by_cases h:y=x
  ·subst h;simp
  ·have:¬ x=y:=fun e=>h e.symm
   simp [h,this]
theorem lexLt_irr:∀ a:List Int,lexLt a a=false
 | []=>rfl
 | x::a=>by simp [lexLt,lexLt_irr a]
theorem lexLt_trans:∀ {a b c:List Int},lexLt a b=true->lexLt b c=true->lexLt a c=true
 | [],[],_,h,_=>by simp [lexLt] at h
 | [],_::_,[],_,h=>by simp [lexLt] at h
 | [],_::_,_::_,_,_=>rfl
 | _::_,[],_,h,_=>by simp [lexLt] at h
 | _::_,_::_,[],_,h=>by simp [lexLt] at h
 | x::a,y::b,z::c,h1,h2=>by
  simp only [lexLt] at *
  split at h1 <;> split at h2
  ·rename_i e1 e2;subst e1;subst e2;rw [if_pos rfl];exact lexLt_trans h1 h2
  ·rename_i e1 e2;subst e1;rw [if_neg e2];exact h2
  ·rename_i e1 e2;subst e2;rw [if_neg e1];exact h1
  ·rename_i e1 e2
   simp only [decide_eq_true_eq] at h1 h2
   rw [if_neg (by omega)];simp;omega
theorem lexLt_conn:∀ a b:List Int,a≠b->lexLt a b=true\/lexLt b a=true
 | [],[],h=>absurd rfl h
 | [],_::_,_=>.inl rfl
 | _::_,[],_=>.inr rfl
 | x::a,y::b,h=>by
  simp only [lexLt]
  by_cases e:x=y
  ·subst e
   have h':a≠b:=fun e=>h (by rw [e])
   simpa using lexLt_conn a b h'
  ·have e':¬ y=x:=fun z=>e z.symm
   rw [if_neg e,if_neg e']
   simp only [decide_eq_true_eq];omega
section
variable {α:Type}
def ins (lt:α->α->Bool) (x:α):List α->List α
 | []=>[x]
 | y::ys=>if lt y x=true then y::ins lt x ys else x::y::ys
def srt (lt:α->α->Bool):List α->List α
 | []=>[]
 | x::xs=>ins lt x (srt lt xs)
def ded [DecidableEq α]:List α->List α
 | []=>[]
 | x::xs=>if x∈xs then ded xs else x::ded xs
variable {lt:α->α->Bool}
theorem insD_map {f:α->D} (h:∀ a b,ltD (f a) (f b)=some (lt a b)) (x:α):∀ ys:List α,insD (f x) (ys.map f)=(ins lt x ys).map f
 | []=>rfl
 | y::ys=>by
  simp only [List.map_cons,insD,ins,h,Option.some.injEq]
  split
  ·simp [insD_map h x ys]
  ·rfl
theorem sortD_map {f:α->D} (h:∀ a b,ltD (f a) (f b)=some (lt a b)):∀ xs:List α,sortD (xs.map f)=(srt lt xs).map f
 | []=>rfl
 | x::xs=>by simp only [List.map_cons,sortD,srt,sortD_map h xs,insD_map h]
theorem dedD_map [DecidableEq α] {f:α->D} (h:∀ a b,eqD (f a) (f b)=decide (a=b)):∀ xs:List α,dedD (xs.map f)=(ded xs).map f
 | []=>rfl
 | x::xs=>by
  have e:(xs.map f).any (eqD (f x))=decide (x∈xs):=by
   rw [List.any_map]
   induction xs with
   | nil=>simp
   | cons y ys ih=>simp only [List.any_cons,ih,Function.comp,h,List.mem_cons];by_cases q:x=y <;> simp [q]
  simp only [List.map_cons,dedD,ded,e,dedD_map h xs,decide_eq_true_eq]
  split <;> rfl
theorem mem_ins (x z:α):∀ ys:List α,z∈ins lt x ys<->z=x\/z∈ys
 | []=>by simp [ins]
 | y::ys=>by
  unfold ins
  split
  ·simp only [List.mem_cons,mem_ins x z ys]
   constructor
   ·rintro (h | h | h)
    ·exact .inr (.inl h)
    ·exact .inl h
    ·exact .inr (.inr h)
   ·rintro (h | h | h)
    ·exact .inr (.inl h)
    ·exact .inl h
    ·exact .inr (.inr h)
  ·simp
theorem mem_srt (z:α):∀ xs:List α,z∈srt lt xs<->z∈xs
 | []=>by simp [srt]
 | x::xs=>by unfold srt;rw [mem_ins,mem_srt z xs];simp
theorem len_ins (x:α):∀ ys:List α,(ins lt x ys).length=ys.length+1
 | []=>rfl
 | y::ys=>by unfold ins;split <;> simp [len_ins x ys]
theorem len_srt:∀ xs:List α,(srt lt xs).length=xs.length
 | []=>rfl
 | x::xs=>by unfold srt;rw [len_ins,len_srt xs];simp
theorem mem_ded [DecidableEq α] (z:α):∀ xs:List α,z∈ded xs<->z∈xs
 | []=>by simp [ded]
 | x::xs=>by
  unfold ded
  split
  ·rename_i h
   rw [mem_ded z xs,List.mem_cons]
   exact ⟨.inr,fun q=>q.elim (fun e=>e ▸ h) id⟩
  ·simp [mem_ded z xs]
theorem nodup_ded [DecidableEq α]:∀ xs:List α,(ded xs).Nodup
 | []=>List.nodup_nil
 | x::xs=>by
  unfold ded
  split
  ·exact nodup_ded xs
  ·rename_i h
   exact List.nodup_cons.mpr ⟨fun q=>h ((mem_ded x xs).mp q),nodup_ded xs⟩
structure Lin (lt:α->α->Bool):Prop where
 irr:∀ a,lt a a=false
 tr:∀ {a b c},lt a b=true->lt b c=true->lt a c=true
 conn:∀ a b,a≠b->lt a b=true\/lt b a=true
def Asc (lt:α->α->Bool) (xs:List α):Prop:=xs.Pairwise fun a b=>lt a b=true
theorem asc_ins (L:Lin lt) (x:α):∀ {ys:List α},Asc lt ys->x∉ys->Asc lt (ins lt x ys)
 | [],_,_=>List.pairwise_singleton _ _
 | y::ys,h,hx=>by
  obtain ⟨h1,h2⟩:=List.pairwise_cons.mp h
  have hxy:x≠y:=fun e=>hx (by simp [e])
  unfold ins
  split
  ·rename_i q
   refine List.pairwise_cons.mpr ⟨fun z hz=>?_,asc_ins L x h2 fun q=>hx (List.mem_cons_of_mem _ q)⟩
   rcases (mem_ins x z ys).mp hz with e | e
   ·subst e;exact q
   ·exact h1 z e
  ·rename_i q
   have q':lt x y=true:=(L.conn x y hxy).resolve_right q
   refine List.pairwise_cons.mpr ⟨fun z hz=>?_,h⟩
   rcases List.mem_cons.mp hz with e | e
   ·subst e;exact q'
   ·exact L.tr q' (h1 z e)
theorem asc_srt (L:Lin lt):∀ {xs:List α},xs.Nodup->Asc lt (srt lt xs)
 | [],_=>List.Pairwise.nil
 | x::xs,h=>asc_ins L x (asc_srt L (List.nodup_cons.mp h).2) fun q=>(List.nodup_cons.mp h).1 ((mem_srt x xs).mp q)
theorem Asc.nodup (L:Lin lt) {xs:List α} (h:Asc lt xs):xs.Nodup:=List.Pairwise.imp (fun {a b} q e=>by subst e;rw [L.irr] at q;cases q) h
theorem asc_ext (L:Lin lt):∀ {xs ys:List α},Asc lt xs->Asc lt ys->(∀ z,z∈xs<->z∈ys)->xs=ys
 | [],[],_,_,_=>rfl
 | [],y::_,_,_,h=>absurd ((h y).mpr List.mem_cons_self) (by simp)
 | x::_,[],_,_,h=>absurd ((h x).mp List.mem_cons_self) (by simp)
 | x::xs,y::ys,hx,hy,h=>by
  obtain ⟨x1,x2⟩:=List.pairwise_cons.mp hx
  obtain ⟨y1,y2⟩:=List.pairwise_cons.mp hy
  have e:x=y:=by
   rcases List.mem_cons.mp ((h x).mp List.mem_cons_self) with e | e
   ·exact e
   ·rcases List.mem_cons.mp ((h y).mpr List.mem_cons_self) with e' | e'
    ·exact e'.symm
    ·have a:=y1 x e
     have b:=x1 y e'
     have:=L.tr a b
     rw [L.irr] at this;cases this
  subst e
  have nx:x∉xs:=fun q=>by have:=x1 x q;rw [L.irr] at this;cases this
  have ny:x∉ys:=fun q=>by have:=y1 x q;rw [L.irr] at this;cases this
  rw [asc_ext L x2 y2 fun z=>?_]
  constructor
  ·intro hz
   rcases List.mem_cons.mp ((h z).mp (List.mem_cons_of_mem _ hz)) with e | e
   ·subst e;exact absurd hz nx
   ·exact e
  ·intro hz
   rcases List.mem_cons.mp ((h z).mpr (List.mem_cons_of_mem _ hz)) with e | e
   ·subst e;exact absurd hz ny
   ·exact e
theorem srt_asc (L:Lin lt) {xs:List α} (h:Asc lt xs):srt lt xs=xs:=asc_ext L (asc_srt L (h.nodup L)) h fun z=>mem_srt z xs
theorem ded_len [DecidableEq α]:∀ xs:List α,(ded xs).length<=xs.length
 | []=>Nat.le_refl _
 | x::xs=>by unfold ded;have:=ded_len xs;split <;> simp <;> omega
theorem nodup_len [DecidableEq α]:∀ {xs ys:List α},xs.Nodup->(∀ z∈xs,z∈ys)->xs.length<=ys.length
 | [],_,_,_=>Nat.zero_le _
 | x::xs,ys,h,hs=>by
  obtain ⟨h1,h2⟩:=List.nodup_cons.mp h
  have hx:=hs x List.mem_cons_self
  have:=nodup_len (xs:=xs) (ys:=ys.erase x) h2 fun z hz=>by
   have hne:z≠x:=fun e=>h1 (e ▸ hz)
   exact (List.mem_erase_of_ne hne).mpr (hs z (List.mem_cons_of_mem _ hz))
  rw [List.length_erase_of_mem hx] at this
  have hp:0 < ys.length:=List.length_pos_of_mem hx
  simp only [List.length_cons];omega
end
theorem linC:Lin lexLt:=⟨lexLt_irr,lexLt_trans,lexLt_conn⟩
def ltI (a b:Int):Bool:=decide (a < b)
theorem linI:Lin ltI:=⟨fun a=>by simp [ltI],fun h1 h2=>by simp [ltI] at *;omega,fun a b h=>by simp [ltI];omega⟩
theorem lv_is (is:List Int):(is.map D.int).all (isLv 0)=true:=by simp [List.all_map,isLv]
theorem cv_cs {cs:List (List Int)} (hn:∀ c∈cs,c≠[]):(cs.map cD).all isCv=true:=by
 rw [List.all_map,List.all_eq_true]
 intro c hc
 cases c with
 | nil=>exact absurd rfl (hn [] hc)
 | cons x c=>show (isLv 0 (.int x)&&(c.map D.int).all (isLv 0))=true;rw [lv_is];rfl
theorem sorted_i {cs:List Int} (h:cs.length<=63):sorted (cs.map .int)=.ok (.lst ((srt ltI cs).map .int)):=by
 unfold sorted lvOk
 rw [lv_is]
 simp [sortD_map (f:=D.int) (lt:=ltI) fun a b=>rfl,h]
theorem sset_c {cs:List (List Int)} (hn:∀ c∈cs,c≠[]) (h:(ded cs).length<=63):sortedSet (cs.map cD)=.ok (.lst ((srt lexLt (ded cs)).map cD)):=by
 unfold sortedSet lvOk
 rw [cv_cs hn,dedD_map eqD_c,sortD_map (lt:=lexLt) ltD_c]
 simp [h]
theorem eqD_i (a b:Int):eqD (.int a) (.int b)=decide (a=b):=by simp [eqD];exact Bool.beq_eq_decide_eq a b
theorem sset_i {cs:List Int} (h:(ded cs).length<=63):sortedSet (cs.map .int)=.ok (.lst ((srt ltI (ded cs)).map .int)):=by
 unfold sortedSet lvOk
 rw [lv_is,dedD_map (f:=D.int) eqD_i,sortD_map (f:=D.int) (lt:=ltI) fun a b=>rfl]
 simp [h]
theorem shp_i (n:Nat) (i:Int):shp n (.int i)=true:=by cases n <;> rfl
theorem shp_is (n:Nat) (c:List Int):(c.map D.int).all (shp n)=true:=by simp [List.all_map,shp_i]
theorem shp_c (n:Nat) (c:List Int):shp (n+1) (cD c)=true:=shp_is n c
theorem shp_cs (n:Nat) (cs:List (List Int)):(cs.map cD).all (shp (n+1))=true:=by simp [List.all_map,shp_c]
theorem memR_i (x:Int) (c:List Int):memR (.int x) (c.map .int)=.ok (decide (x∈c)):=by
 unfold memR;rw [shp_i,shp_is,memD_int];rfl
theorem eqR_c (a b:List Int):eqR (cD a) (cD b)=.ok (decide (a=b)):=by unfold eqR;rw [shp_c,shp_c,eqD_c];rfl
theorem eqR_tcs (a b:List (List Int)):eqR (.tup (a.map cD)) (.tup (b.map cD))=.ok (decide (a=b)):=by
 have h:∀ a:List (List Int),shp 60 (.tup (a.map cD))=true:=fun a=>shp_cs 58 a
 unfold eqR;rw [h,h]
 simp only [eqD,eqDs_cs,Bool.and_self,if_true]
theorem eqR_lis (a b:List Int):eqR (.lst (a.map .int)) (.lst (b.map .int))=.ok (decide (a=b)):=by
 have h:∀ a:List Int,shp 60 (.lst (a.map .int))=true:=fun a=>shp_is 59 a
 unfold eqR;rw [h,h]
 simp only [eqD,eqDs_ints,Bool.and_self,if_true]
theorem eqR_lnil {ys:List D} (h:ys.all (shp 59)=true):eqR (.lst ys) (.lst [])=.ok ys.isEmpty:=by
 have h1:shp 60 (.lst ys)=true:=h
 have h2:shp 60 (.lst [])=true:=rfl
 unfold eqR;rw [h1,h2];cases ys <;> rfl
theorem eqR_tnil {ys:List D} (h:ys.all (shp 59)=true):eqR (.tup ys) (.tup [])=.ok ys.isEmpty:=by
 have h1:shp 60 (.tup ys)=true:=h
 have h2:shp 60 (.tup [])=true:=rfl
 unfold eqR;rw [h1,h2];cases ys <;> rfl
end Pu
end
section
namespace Pu
open Den
section
variable {α:Type} {lt:α->α->Bool}
def WAsc (lt:α->α->Bool) (xs:List α):Prop:=xs.Pairwise fun a b=>lt b a=false
theorem perm_ins (x:α):∀ ys:List α,(ins lt x ys).Perm (x::ys)
 | []=>List.Perm.refl _
 | y::ys=>by
  unfold ins
  split
  ·exact (List.Perm.cons y (perm_ins x ys)).trans (List.Perm.swap x y ys)
  ·exact List.Perm.refl _
theorem perm_srt:∀ xs:List α,(srt lt xs).Perm xs
 | []=>List.Perm.refl _
 | x::xs=>(perm_ins x (srt lt xs)).trans (List.Perm.cons x (perm_srt xs))
theorem lin_tot (L:Lin lt) {a b:α} (h:lt a b=true):lt b a=false:=by
 cases q:lt b a with
 | false=>rfl
 | true=>have:=L.tr h q;rw [L.irr] at this;cases this
theorem lin_ntr (L:Lin lt) {a b c:α} (h1:lt b a=false) (h2:lt c b=false):lt c a=false:=by
 cases q:lt c a with
 | false=>rfl
 | true =>
  by_cases e:a=b
  ·subst e;rw [h2] at q;cases q
  ·rcases L.conn a b e with w | w
   ·have:=L.tr q w;rw [h2] at this;cases this
   ·rw [h1] at w;cases w
theorem wasc_ins (L:Lin lt) (x:α):∀ {ys:List α},WAsc lt ys->WAsc lt (ins lt x ys)
 | [],_=>List.pairwise_singleton _ _
 | y::ys,h=>by
  obtain ⟨h1,h2⟩:=List.pairwise_cons.mp h
  unfold ins
  split
  ·rename_i c
   refine List.pairwise_cons.mpr ⟨fun z hz=>?_,wasc_ins L x h2⟩
   rcases (mem_ins x z ys).mp hz with rfl | hz
   ·exact lin_tot L c
   ·exact h1 z hz
  ·rename_i c
   refine List.pairwise_cons.mpr ⟨fun z hz=>?_,h⟩
   have c:lt y x=false:=by simpa using c
   rcases List.mem_cons.mp hz with rfl | hz
   ·exact c
   ·exact lin_ntr L c (h1 z hz)
theorem wasc_srt (L:Lin lt):∀ xs:List α,WAsc lt (srt lt xs)
 | []=>.nil
 | x::xs=>wasc_ins L x (wasc_srt L xs)
theorem wasc_uniq (L:Lin lt):∀ {xs ys:List α},WAsc lt xs->WAsc lt ys->xs.Perm ys->xs=ys
 | [],ys,_,_,p=>(List.Perm.nil_eq p)
 | x::xs,[],_,_,p=>by have:=p.length_eq;simp at this
 | x::xs,y::ys,hx,hy,p=>by
  obtain ⟨x1,x2⟩:=List.pairwise_cons.mp hx
  obtain ⟨y1,y2⟩:=List.pairwise_cons.mp hy
  have e:x=y:=by
   apply Classical.byContradiction
   intro ne
   have hxy:y∈xs:=by
    rcases List.mem_cons.mp (p.mem_iff.mpr List.mem_cons_self) with q | q
    ·exact absurd q.symm ne
    ·exact q
   have hyx:x∈ys:=by
    rcases List.mem_cons.mp (p.mem_iff.mp List.mem_cons_self) with q | q
    ·exact absurd q ne
    ·exact q
   rcases L.conn x y ne with w | w
   ·rw [y1 x hyx] at w;cases w
   ·rw [x1 y hxy] at w;cases w
  subst e
  rw [wasc_uniq L x2 y2 (List.Perm.cons_inv p)]
end
end Pu
end
section
namespace Tb
open PySem PySem.SetTable
def Rising (xs:Array Nat):Prop:=∀ (i j a b:Nat),i < j->xs[i]?=some a->xs[j]?=some b->a < b
def Lo (xs:Array Nat) (j p:Nat):Prop:=∀ (q a:Nat),q < p->xs[q]?=some a->a < j
def Hi (xs:Array Nat) (j p:Nat):Prop:=∀ (q a:Nat),p<=q->xs[q]?=some a->j<=a
theorem go_spec {xs:Array Nat} (hr:Rising xs) (j:Nat):∀ (fuel lo hi:Nat),hi - lo<=fuel->lo<=hi->hi<=xs.size->Lo xs j lo->Hi xs j hi ->
  below.go xs j fuel lo hi<=xs.size/\Lo xs j (below.go xs j fuel lo hi)/\Hi xs j (below.go xs j fuel lo hi)
 | 0,lo,hi,h1,h2,h3,hl,hh=>by
  have e:lo=hi:=by omega
  subst e
  exact ⟨h3,hl,hh⟩
 | fuel+1,lo,hi,h1,h2,h3,hl,hh=>by
  unfold below.go
  by_cases hlt:lo < hi
  ·rw [if_pos hlt]
   have hm:(lo+hi) / 2 < xs.size:=by omega
   have hg:xs[(lo+hi) / 2]?=some xs[(lo+hi) / 2]:=Array.getElem?_eq_getElem hm
   have hd:xs.getD ((lo+hi) / 2) j=xs[(lo+hi) / 2]:=by simp [Array.getD,hm]
   simp only [hd]
   by_cases hc:xs[(lo+hi) / 2] < j
   ·rw [if_pos hc]
    refine go_spec hr j fuel _ _ (by omega) (by omega) h3 ?_ hh
    intro q a hq ha
    by_cases e:q=(lo+hi) / 2
    ·subst e;rw [hg] at ha;cases ha;exact hc
    ·have:=hr q ((lo+hi) / 2) a _ (by omega) ha hg;omega
   ·rw [if_neg hc]
    refine go_spec hr j fuel _ _ (by omega) (by omega) (by omega) hl ?_
    intro q a hq ha
    by_cases e:q=(lo+hi) / 2
    ·subst e;rw [hg] at ha;cases ha;omega
    ·have:=hr ((lo+hi) / 2) q _ a (by omega) hg ha;omega
  ·rw [if_neg hlt]
   have e:lo=hi:=by omega
   subst e
   exact ⟨h3,hl,hh⟩
theorem below_spec {xs:Array Nat} (hr:Rising xs) (j:Nat):below xs j<=xs.size/\Lo xs j (below xs j)/\Hi xs j (below xs j):=by
 unfold below
 refine go_spec hr j _ _ _ (by omega) (by omega) (by omega) (fun q a hq _=>by omega) (fun q a hq ha=>?_)
 have:=(Array.getElem?_eq_some_iff.mp ha).1
 omega
theorem below_at {xs:Array Nat} (hr:Rising xs) {i j:Nat} (h:xs[i]?=some j):below xs j=i:=by
 obtain ⟨h1,h2,h3⟩:=below_spec hr j
 by_cases c1:i < below xs j
 ·exact absurd (h2 i j c1 h) (Nat.lt_irrefl _)
 ·by_cases c2:below xs j=i
  ·exact c2
  ·have hi:=(Array.getElem?_eq_some_iff.mp h).1
   have hg:xs[below xs j]?=some (xs[below xs j]'(by omega)):=Array.getElem?_eq_getElem (by omega)
   have a:=h3 _ _ (Nat.le_refl _) hg
   have b:=hr (below xs j) i _ _ (by omega) hg h
   omega
theorem slot_live {t:SetTable} (hr:Rising t.place) {i j:Nat} (h:t.place[i]?=some j):t.slot j=.live i:=by
 unfold slot
 rw [below_at hr h]
 simp [h]
theorem slot_empty {t:SetTable} (hd:t.dummies=#[]) {j:Nat} (h:∀ i:Nat,t.place[i]?≠some j):t.slot j=.empty:=by
 unfold slot has
 have h0:(t.place[below t.place j]?==some j)=false:=by
  rw [beq_eq_false_iff_ne];exact h _
 simp only [h0,hd]
 simp
def adv (m:Nat) (p:Probe):Probe :=
 if p.more > 0 then { p with j:=p.j+1,more:=p.more - 1 } else
 { p with j:=(leap m p.i p.perturb).1,more:=runEnd m (leap m p.i p.perturb).1 - (leap m p.i p.perturb).1,i:=(leap m p.i p.perturb).1,perturb:=(leap m p.i p.perturb).2 }
theorem adv_eq (t:SetTable) (p:Probe):t.advance p=adv t.mask p:=rfl
def ini (m:Nat) (h:Int):Probe:={ j:=bits h % (m+1),more:=runEnd m (bits h % (m+1)) - bits h % (m+1),i:=bits h % (m+1),perturb:=bits h,dummy:=none }
def pr (m:Nat) (h:Int):Nat->Probe
 | 0=>ini m h
 | n+1=>adv m (pr m h n)
def sq (m:Nat) (h:Int) (n:Nat):Nat:=(pr m h n).j
theorem pr_dummy (m:Nat) (h:Int):∀ n,(pr m h n).dummy=none
 | 0=>rfl
 | n+1=>by
  have ih:=pr_dummy m h n
  show (adv m (pr m h n)).dummy=none
  unfold adv
  split <;> exact ih
theorem runEnd_le {m i:Nat} (h:i<=m):runEnd m i<=m/\i<=runEnd m i/\runEnd m i<=i+9:=by
 unfold runEnd;split <;> omega
theorem leap_le (m i p:Nat):(leap m i p).1<=m:=by
 unfold leap
 have:(i * 5+1+p / 32) % (m+1) < m+1:=Nat.mod_lt _ (by omega)
 show (i * 5+1+p / 32) % (m+1)<=m
 omega
theorem pr_le (m:Nat) (h:Int):∀ n,(pr m h n).j+(pr m h n).more<=m
 | 0=>by
  have:bits h % (m+1) < m+1:=Nat.mod_lt _ (by omega)
  have:=runEnd_le (m:=m) (i:=bits h % (m+1)) (by omega)
  show bits h % (m+1)+(runEnd m (bits h % (m+1)) - bits h % (m+1))<=m
  omega
 | n+1=>by
  have ih:=pr_le m h n
  show (adv m (pr m h n)).j+(adv m (pr m h n)).more<=m
  unfold adv
  split
  ·show (pr m h n).j+1+((pr m h n).more - 1)<=m
   omega
  ·have:=leap_le m (pr m h n).i (pr m h n).perturb
   have:=runEnd_le this
   show (leap m (pr m h n).i (pr m h n).perturb).1+(runEnd m (leap m (pr m h n).i (pr m h n).perturb).1 - (leap m (pr m h n).i (pr m h n).perturb).1)<=m
   omega
theorem sq_le (m:Nat) (h:Int) (n:Nat):sq m h n<=m:=by have:=pr_le m h n;unfold sq;omega
def run (m:Nat) (h:Int):Nat->Nat×Nat
 | 0=>(bits h % (m+1),bits h)
 | r+1=>leap m (run m h r).1 (run m h r).2
theorem run_le (m:Nat) (h:Int):∀ r,(run m h r).1<=m
 | 0=>by have:bits h % (m+1) < m+1:=Nat.mod_lt _ (by omega);show bits h % (m+1)<=m;omega
 | r+1=>leap_le _ _ _
def st (m:Nat) (h:Int) (r d:Nat):Probe:={ j:=(run m h r).1+d,more:=runEnd m (run m h r).1 - (run m h r).1 - d,i:=(run m h r).1,perturb:=(run m h r).2,dummy:=none }
def len (m:Nat) (h:Int) (r:Nat):Nat:=runEnd m (run m h r).1 - (run m h r).1
theorem len_le (m:Nat) (h:Int) (r:Nat):len m h r<=9:=by have:=runEnd_le (run_le m h r);unfold len;omega
theorem adv_in {m:Nat} {h:Int} {r d:Nat} (hd:d < len m h r):adv m (st m h r d)=st m h r (d+1):=by
 unfold adv
 have:(st m h r d).more > 0:=by show runEnd m (run m h r).1 - (run m h r).1 - d > 0;unfold len at hd;omega
 rw [if_pos this]
 show Probe.mk _ _ _ _ _=Probe.mk _ _ _ _ _
 congr 1
theorem adv_out {m:Nat} {h:Int} {r:Nat}:adv m (st m h r (len m h r))=st m h (r+1) 0:=by
 unfold adv
 have:¬ (st m h r (len m h r)).more > 0:=by show ¬ (runEnd m (run m h r).1 - (run m h r).1 - len m h r > 0);unfold len;omega
 rw [if_neg this]
 rfl
theorem at_run (m:Nat) (h:Int):∀ r:Nat,∃ n,n<=10 * r/\pr m h n=st m h r 0/\∀ k,k < n->∃ r' d',r' < r/\d'<=len m h r'/\pr m h k=st m h r' d'
 | 0=>⟨0,Nat.le_refl _,rfl,fun k hk=>absurd hk (Nat.not_lt_zero k)⟩
 | r+1=>by
  obtain ⟨n,hn,e,hk⟩:=at_run m h r
  have walk:∀ d,d<=len m h r->pr m h (n+d)=st m h r d:=by
   intro d
   induction d with
   | zero=>intro _;exact e
   | succ d ih =>
    intro hd
    show adv m (pr m h (n+d))=_
    rw [ih (by omega)]
    exact adv_in (by omega)
  have hl:=len_le m h r
  refine ⟨n+len m h r+1,by omega,?_,fun k hk'=>?_⟩
  ·show adv m (pr m h (n+len m h r))=_
   rw [walk _ (Nat.le_refl _)]
   exact adv_out
  ·by_cases c:k < n
   ·obtain ⟨r',d',a,b,c⟩:=hk k c
    exact ⟨r',d',by omega,b,c⟩
   ·refine ⟨r,k - n,by omega,by omega,?_⟩
    have:=walk (k - n) (by omega)
    rw [show n+(k - n)=k by omega] at this
    exact this
theorem at_place (m:Nat) (h:Int) (r d:Nat) (hd:d<=len m h r):∃ n,n<=10 * r+d/\pr m h n=st m h r d/\∀ k,k < n->∃ r' d',d'<=len m h r'/\(r' < r\/(r'=r/\d' < d))/\pr m h k=st m h r' d':=by
 obtain ⟨n,hn,e,hk⟩:=at_run m h r
 have walk:∀ d,d<=len m h r->pr m h (n+d)=st m h r d:=by
  intro d
  induction d with
  | zero=>intro _;exact e
  | succ d ih =>
   intro hd
   show adv m (pr m h (n+d))=_
   rw [ih (by omega)]
   exact adv_in (by omega)
 refine ⟨n+d,by omega,walk d hd,fun k hk'=>?_⟩
 by_cases c:k < n
 ·obtain ⟨r',d',a,b,c⟩:=hk k c
  exact ⟨r',d',b,.inl a,c⟩
 ·refine ⟨r,k - n,by omega,.inr ⟨rfl,by omega⟩,?_⟩
  have:=walk (k - n) (by omega)
  rw [show n+(k - n)=k by omega] at this
  exact this
theorem bits_lt (h:Int):bits h < 2 ^ 64:=by
 unfold bits
 have h1:=Int.emod_nonneg h (show (2 ^ 64:Int)≠0 by decide)
 have h2:=Int.emod_lt_of_pos h (show (0:Int) < 2 ^ 64 by decide)
 have e:((2:Int) ^ 64)=18446744073709551616:=by decide
 rw [e] at h1 h2 ⊢
 omega
theorem pert (m:Nat) (h:Int):∀ r,(run m h r).2=bits h / 32 ^ r
 | 0=>by simp [run]
 | r+1=>by
  show (run m h r).2 / 32=_
  rw [pert m h r,Nat.div_div_eq_div_mul,Nat.pow_succ]
theorem pert0 (m:Nat) (h:Int) (r:Nat) (hr:13<=r):(run m h r).2=0:=by
 rw [pert]
 refine Nat.div_eq_of_lt (Nat.lt_of_lt_of_le (bits_lt h) (Nat.le_trans (show 2 ^ 64<=32 ^ 13 by decide) (Nat.pow_le_pow_right (by decide) hr)))
def orb (m:Nat):Nat->Nat->Nat
 | 0,i=>i
 | n+1,i=>(orb m n i * 5+1) % (m+1)
theorem run_orb (m:Nat) (h:Int):∀ n,(run m h (13+n)).1=orb m n (run m h 13).1
 | 0=>rfl
 | n+1=>by
  show (leap m (run m h (13+n)).1 (run m h (13+n)).2).1=_
  rw [run_orb m h n,pert0 m h (13+n) (by omega)]
  rfl
def orbL (m:Nat):Nat->Nat->List Nat
 | 0,_=>[]
 | n+1,i=>i::orbL m n ((i * 5+1) % (m+1))
theorem orb_comm (m:Nat):∀ n i,orb m n ((i * 5+1) % (m+1))=orb m (n+1) i
 | 0,i=>rfl
 | n+1,i=>by
  show (orb m n ((i * 5+1) % (m+1)) * 5+1) % (m+1)=(orb m (n+1) i * 5+1) % (m+1)
  rw [orb_comm m n i]
theorem orb_add (m:Nat):∀ a b i,orb m (a+b) i=orb m b (orb m a i)
 | a,0,i=>rfl
 | a,b+1,i=>by
  show (orb m (a+b) i * 5+1) % (m+1)=_
  rw [orb_add m a b i];rfl
theorem mem_orbL (m:Nat):∀ n i j,j∈orbL m n i->∃ k,k < n/\orb m k i=j
 | 0,i,j,h=>by simp [orbL] at h
 | n+1,i,j,h=>by
  rcases List.mem_cons.mp h with e | h
  ·exact ⟨0,by omega,e.symm⟩
  ·obtain ⟨k,hk,e⟩:=mem_orbL m n _ j h
   exact ⟨k+1,by omega,by rw [<- orb_comm];exact e⟩
def Mk (m:Nat):Prop:=m=7\/m=31\/m=127
def covers (m:Nat):Bool:=(List.range (m+1)).all fun j=>(orbL m (m+1) 0).contains j
theorem cov7:covers 7=true:=by decide +kernel
theorem cov31:covers 31=true:=by decide +kernel
theorem cov127:covers 127=true:=by decide +kernel
theorem per7:orb 7 8 0=0:=by decide +kernel
theorem per31:orb 31 32 0=0:=by decide +kernel
theorem per127:orb 127 128 0=0:=by decide +kernel
theorem Mk.cov {m:Nat} (h:Mk m):covers m=true/\orb m (m+1) 0=0:=by
 rcases h with rfl | rfl | rfl
 ·exact ⟨cov7,per7⟩
 ·exact ⟨cov31,per31⟩
 ·exact ⟨cov127,per127⟩
theorem Mk.reach0 {m:Nat} (h:Mk m) {j:Nat} (hj:j<=m):∃ k,k < m+1/\orb m k 0=j:=by
 have:=List.all_eq_true.mp h.cov.1 j (List.mem_range.mpr (by omega))
 exact mem_orbL m (m+1) 0 j (by simpa using this)
theorem Mk.reach {m:Nat} (h:Mk m) {i j:Nat} (hi:i<=m) (hj:j<=m):∃ k,k < m+1/\orb m k i=j:=by
 obtain ⟨a,ha,ea⟩:=h.reach0 hi
 obtain ⟨b,hb,eb⟩:=h.reach0 hj
 by_cases c:a<=b
 ·refine ⟨b - a,by omega,?_⟩
  rw [<- ea,<- orb_add,show a+(b - a)=b by omega];exact eb
 ·refine ⟨m+1 - a+b,by omega,?_⟩
  rw [<- ea,<- orb_add,show a+(m+1 - a+b)=(m+1)+b by omega,orb_add,h.cov.2];exact eb
theorem Mk.met {m:Nat} (hm:Mk m) (h:Int) {j:Nat} (hj:j<=m):∃ r,r < m+14/\(run m h r).1=j:=by
 obtain ⟨k,hk,e⟩:=hm.reach (run_le m h 13) hj
 exact ⟨13+k,by omega,by rw [run_orb];exact e⟩
theorem Mk.met' {m:Nat} (hm:Mk m) (h:Int) {j:Nat} (hj:j<=m):∃ n,n < 10 * turns m/\sq m h n=j:=by
 obtain ⟨r,hr,e⟩:=hm.met h hj
 obtain ⟨n,hn,en,_⟩:=at_run m h r
 refine ⟨n,by unfold turns;omega,?_⟩
 unfold sq
 rw [en]
 show (run m h r).1+0=j
 omega
theorem least {P:Nat->Prop} (n:Nat) (h:P n):∃ k,k<=n/\P k/\∀ q,q < k->¬ P q:=by
 induction n using Nat.strongRecOn with
 | ind n ih =>
  by_cases c:∃ q,q < n/\P q
  ·obtain ⟨q,hq,hp⟩:=c
   obtain ⟨k,a,b,d⟩:=ih q hq hp
   exact ⟨k,by omega,b,d⟩
  ·exact ⟨n,Nat.le_refl _,h,fun q hq hp=>c ⟨q,hq,hp⟩⟩
theorem hole {xs:Array Nat} {m:Nat} (hr:Rising xs) (hs:xs.size<=m):∃ j,j<=m/\∀ i:Nat,xs[i]?≠some j:=by
 by_cases c:∃ j,j<=m/\∀ i:Nat,xs[i]?≠some j
 ·exact c
 ·exfalso
  have all:∀ j,j<=m->∃ i:Nat,xs[i]?=some j:=fun j hj=>by
   by_cases c':∃ i:Nat,xs[i]?=some j
   ·exact c'
   ·exact absurd ⟨j,hj,fun i e=>c' ⟨i,e⟩⟩ c
  have ge:∀ j,j<=m->∀ i:Nat,xs[i]?=some j->j<=i:=by
   intro j
   induction j with
   | zero=>intro _ i _;omega
   | succ j ih =>
    intro hj i hi
    obtain ⟨i',hi'⟩:=all j (by omega)
    have:=ih (by omega) i' hi'
    by_cases c1:i < i'
    ·have:=hr i i' _ _ c1 hi hi';omega
    ·by_cases c2:i=i'
     ·subst c2;rw [hi] at hi';injection hi' with e;omega
     ·omega
  obtain ⟨i,hi⟩:=all m (Nat.le_refl _)
  have h1:=ge m (Nat.le_refl _) i hi
  have h2:=(Array.getElem?_eq_some_iff.mp hi).1
  omega
theorem first_empty {t:SetTable} (hm:Mk t.mask) (hr:Rising t.place) (hd:t.dummies=#[]) (hs:t.place.size<=t.mask) (h:Int) :
  ∃ N,N < 10 * turns t.mask/\t.slot (sq t.mask h N)=.empty/\(∀ i:Nat,t.place[i]?≠some (sq t.mask h N))/\∀ k,k < N->∃ i:Nat,t.place[i]?=some (sq t.mask h k):=by
 obtain ⟨j,hj,hn⟩:=hole hr hs
 obtain ⟨n,hn',e⟩:=hm.met' h hj
 obtain ⟨N,h1,h2,h3⟩:=least (P:=fun n=>∀ i:Nat,t.place[i]?≠some (sq t.mask h n)) n (by rw [e];exact hn)
 refine ⟨N,by omega,slot_empty hd h2,h2,fun k hk=>?_⟩
 by_cases c:∃ i:Nat,t.place[i]?=some (sq t.mask h k)
 ·exact c
 ·exact absurd (fun i e=>c ⟨i,e⟩) (h3 k hk)
theorem probe_go {t : SetTable} {h : Int} {hashAt : Nat -> Int} (hr : Rising t.place) {N : Nat} (he : t.slot (sq t.mask h N) = .empty) (hl : ∀ k, k < N -> ∃ i : Nat, t.place[i]? = some (sq t.mask h k)) :
    ∀ (fuel n : Nat), n <= N -> N - n < fuel ->
      (∃ k i, n <= k /\ k < N /\ t.place[i]? = some (sq t.mask h k) /\ hashAt i = h /\ (∀ k', n <= k' -> k' < k -> ∀ i' : Nat, t.place[i']? = some (sq t.mask h k') -> hashAt i' ≠ h) /\ probe.go t hashAt h fuel (pr t.mask h n) = some (.candidate (sq t.mask h k) i (pr t.mask h (k + 1))))
      \/ ((∀ k', n <= k' -> k' < N -> ∀ i' : Nat, t.place[i']? = some (sq t.mask h k') -> hashAt i' ≠ h) /\ probe.go t hashAt h fuel (pr t.mask h n) = some (.empty (sq t.mask h N) none))
  | 0, n, h1, h2 => by omega
  | fuel + 1, n, h1, h2 => by
    unfold probe.go
    by_cases c : n = N
    · subst c
      have e : t.slot (pr t.mask h n).j = .empty := he
      rw [e]
      refine .inr ⟨fun k' a b => by omega, ?_⟩
      show some (Met.empty _ (pr t.mask h n).dummy) = _
      rw [pr_dummy]; rfl
    · obtain ⟨i, hi⟩ := hl n (by omega)
      have e : t.slot (pr t.mask h n).j = .live i := slot_live hr hi
      rw [e]
      by_cases q : hashAt i = h
      · refine .inl ⟨n, i, Nat.le_refl _, by omega, hi, q, fun k' a b => by omega, ?_⟩
        simp only [q, beq_self_eq_true, if_true]
        rfl
      · have q' : (hashAt i == h) = false := by rw [beq_eq_false_iff_ne]; exact q
        simp only [q', Bool.false_eq_true, if_false]
        have ne : ∀ i' : Nat, t.place[i']? = some (sq t.mask h n) -> hashAt i' ≠ h := fun i' hi' => by
          have e' := slot_live hr hi'
          rw [slot_live hr hi] at e'
          injection e' with e'
          rw [<- e']; exact q
        rw [adv_eq]
        show (∃ k i, _ /\ _ /\ _ /\ _ /\ _ /\ probe.go t hashAt h fuel (pr t.mask h (n + 1)) = _) \/ (_ /\ probe.go t hashAt h fuel (pr t.mask h (n + 1)) = _)
        rcases probe_go hr he hl fuel (n + 1) (by omega) (by omega) with ⟨k, i1, a, b, d, e1, f, g⟩ | ⟨f, g⟩
        · refine .inl ⟨k, i1, by omega, b, d, e1, fun k' p1 p2 i' p3 => ?_, g⟩
          by_cases c' : k' = n
          · subst c'; exact ne i' p3
          · exact f k' (by omega) p2 i' p3
        · refine .inr ⟨fun k' p1 p2 i' p3 => ?_, g⟩
          by_cases c' : k' = n
          · subst c'; exact ne i' p3
          · exact f k' (by omega) p2 i' p3
end Tb
end
section
namespace Tb
open PySem PySem.SetTable
theorem ins_get {α : Type} (xs : Array α) (p : Nat) (x : α) (hp : p <= xs.size) (i : Nat) :
    (insertAt xs p x)[i]? = if i < p then xs[i]? else if i = p then some x else xs[i - 1]? := by
  unfold insertAt
  rw [Array.getElem?_append, Array.getElem?_push, Array.getElem?_extract, Array.getElem?_extract, Array.size_push, Array.size_extract]
  have e : min p xs.size - 0 = p := by omega
  rw [e, Nat.zero_add]
  by_cases c1 : i < p
  · simp only [if_pos (show i < p + 1 by omega), if_neg (show ¬ i = p by omega), if_pos c1]
  · by_cases c2 : i = p
    · simp only [if_pos (show i < p + 1 by omega), if_neg c1, if_pos c2]
    · simp only [if_neg (show ¬ i < p + 1 by omega), if_neg c1, if_neg c2, Nat.min_self]
      have e2 : min p xs.size = p := by omega
      by_cases c3 : i - (p + 1) < xs.size - p
      · rw [if_pos c3]; congr 1; omega
      · rw [if_neg c3]; rw [Array.getElem?_eq_none (by omega)]
theorem ins_size {α:Type} (xs:Array α) (p:Nat) (x:α) (hp:p<=xs.size):(insertAt xs p x).size=xs.size+1:=by
 unfold insertAt
 rw [Array.size_append,Array.size_push,Array.size_extract,Array.size_extract];omega
theorem ins_perm {α:Type} (xs:Array α) (p:Nat) (x:α) (hp:p<=xs.size):(insertAt xs p x).toList.Perm (x::xs.toList):=by
 have e:(insertAt xs p x).toList=xs.toList.take p++x::xs.toList.drop p:=by
  unfold insertAt
  simp [List.extract_eq_drop_take]
  rw [List.take_of_length_le (by simp)]
 rw [e]
 refine (List.perm_middle).trans (List.Perm.cons x ?_)
 rw [List.take_append_drop]
structure Tab {α:Type} (es:Array (Int×α)) (t:SetTable):Prop where
 ris:Rising t.place
 le:∀ i j:Nat,t.place[i]?=some j->j<=t.mask
 sz:t.place.size=es.size
 dm:t.dummies=#[]
 msk:Mk t.mask
 full:t.place.size<=t.mask
 path:∀ (i j:Nat) (e:Int×α),t.place[i]?=some j->es[i]?=some e->∃ n,sq t.mask e.1 n=j/\∀ k,k < n->∃ i':Nat,t.place[i']?=some (sq t.mask e.1 k)
section
variable {α:Type} {es:Array (Int×α)} {t:SetTable}
theorem Tab.fill (T:Tab es t):t.fill=es.size:=by unfold SetTable.fill;rw [T.dm,T.sz];simp
theorem Tab.met (T : Tab es t) {h : Int} {N : Nat} (he : ∀ i : Nat, t.place[i]? ≠ some (sq t.mask h N)) {i : Nat} {e : Int × α} (hi : es[i]? = some e) (hh : e.1 = h) : ∃ k, k < N /\ t.place[i]? = some (sq t.mask h k) := by
  have hs := (Array.getElem?_eq_some_iff.mp hi).1
  rw [<- T.sz] at hs
  have hp : t.place[i]? = some t.place[i] := Array.getElem?_eq_getElem hs
  obtain ⟨n, hn, ho⟩ := T.path i _ e hp hi
  subst hh
  refine ⟨n, ?_, by rw [hn]; exact hp⟩
  by_cases c : n < N
  · exact c
  · exfalso
    by_cases c2 : n = N
    · subst c2; exact he i (by rw [hn]; exact hp)
    · obtain ⟨i', hi'⟩ := ho N (by omega)
      exact he i' hi'
theorem Tab.put (T : Tab es t) {h : Int} {x : α} {N : Nat} (he : ∀ i : Nat, t.place[i]? ≠ some (sq t.mask h N)) (hl : ∀ k, k < N -> ∃ i : Nat, t.place[i]? = some (sq t.mask h k)) (hf : t.place.size + 1 <= t.mask) :
    Tab (insertAt es (t.put (sq t.mask h N)).2 (h, x)) (t.put (sq t.mask h N)).1 /\ (t.put (sq t.mask h N)).2 <= es.size /\ (t.put (sq t.mask h N)).1.mask = t.mask /\ (t.put (sq t.mask h N)).1.plain = t.plain /\ (t.put (sq t.mask h N)).1.led = t.led
      /\ (t.put (sq t.mask h N)).1.place.size = es.size + 1 := by
  obtain ⟨b1, b2, b3⟩ := below_spec T.ris (sq t.mask h N)
  generalize hj : sq t.mask h N = j at he b1 b2 b3 ⊢
  have hd : has t.dummies j = false := by unfold has; rw [T.dm]; simp
  have e1 : t.put j = ({ t with place := insertAt t.place (below t.place j) j }, below t.place j) := by
    unfold SetTable.put; simp only [hd]; rfl
  rw [e1]
  generalize below t.place j = p at b1 b2 b3
  have bp : p <= es.size := by rw [<- T.sz]; exact b1
  have pg := ins_get t.place p j b1
  have eg := ins_get es p (h, x) bp
  have b3' : ∀ (q a : Nat), p <= q -> t.place[q]? = some a -> j < a := fun q a hq ha => by
    have := b3 q a hq ha
    have : j ≠ a := fun e => he q (by rw [e]; exact ha)
    omega
  have mem : ∀ v i : Nat, t.place[i]? = some v -> ∃ i' : Nat, (insertAt t.place p j)[i']? = some v := fun v i hi => by
    by_cases c : i < p
    · exact ⟨i, by rw [pg, if_pos c]; exact hi⟩
    · exact ⟨i + 1, by rw [pg, if_neg (show ¬ i + 1 < p by omega), if_neg (show ¬ i + 1 = p by omega)]; exact hi⟩
  refine ⟨⟨?_, ?_, ?_, T.dm, T.msk, ?_, ?_⟩, bp, rfl, rfl, rfl, ?_⟩
  · intro i i' a b hii ha hb
    dsimp only at ha hb
    rw [pg] at ha hb
    by_cases c1 : i < p
    · rw [if_pos c1] at ha
      by_cases c2 : i' < p
      · rw [if_pos c2] at hb; exact T.ris i i' a b hii ha hb
      · rw [if_neg c2] at hb
        by_cases c3 : i' = p
        · rw [if_pos c3] at hb; injection hb with hb; subst hb; exact b2 i a c1 ha
        · rw [if_neg c3] at hb; exact T.ris i (i' - 1) a b (by omega) ha hb
    · rw [if_neg c1] at ha
      rw [if_neg (show ¬ i' < p by omega), if_neg (show ¬ i' = p by omega)] at hb
      by_cases c3 : i = p
      · rw [if_pos c3] at ha; injection ha with ha; subst ha; exact b3' (i' - 1) b (by omega) hb
      · rw [if_neg c3] at ha; exact T.ris (i - 1) (i' - 1) a b (by omega) ha hb
  · intro i v hv
    dsimp only at hv ⊢
    rw [pg] at hv
    split at hv
    · exact T.le _ _ hv
    · split at hv
      · injection hv with hv; rw [<- hv, <- hj]; exact sq_le _ _ _
      · exact T.le _ _ hv
  · show (insertAt t.place p j).size = (insertAt es p (h, x)).size
    rw [ins_size _ _ _ b1, ins_size _ _ _ bp, T.sz]
  · show (insertAt t.place p j).size <= t.mask
    rw [ins_size _ _ _ b1]; exact hf
  · intro i v e hv hev
    dsimp only at hv ⊢
    rw [pg] at hv
    rw [eg] at hev
    have old : ∀ i0 : Nat, t.place[i0]? = some v -> es[i0]? = some e -> ∃ n, sq t.mask e.1 n = v /\ ∀ k, k < n -> ∃ i' : Nat, (insertAt t.place p j)[i']? = some (sq t.mask e.1 k) := fun i0 a b => by
      obtain ⟨n, hn, ho⟩ := T.path i0 v e a b
      exact ⟨n, hn, fun k hk => let ⟨i', hi'⟩ := ho k hk; mem _ _ hi'⟩
    by_cases c1 : i < p
    · rw [if_pos c1] at hv hev; exact old i hv hev
    · rw [if_neg c1] at hv hev
      by_cases c2 : i = p
      · rw [if_pos c2] at hv hev
        injection hv with hv; injection hev with hev
        subst hev
        exact ⟨N, by rw [hj]; exact hv, fun k hk => let ⟨i', hi'⟩ := hl k hk; mem _ _ hi'⟩
      · rw [if_neg c2] at hv hev; exact old _ hv hev
  · show (insertAt t.place p j).size = es.size + 1
    rw [ins_size _ _ _ b1, T.sz]
end
theorem nodup_lt:∀ (k:Nat) (l:List Nat),l.Nodup->(∀ x∈l,x < k)->l.length<=k
 | 0,l,_,h=>by
  cases l with
  | nil=>simp
  | cons a r=>exact absurd (h a List.mem_cons_self) (Nat.not_lt_zero a)
 | k+1,l,nd,h=>by
  by_cases c:k∈l
  ·have h1:=nodup_lt k (l.erase k) (nd.erase k) fun x hx=>by
    have:=(nd.mem_erase_iff).mp hx
    have:=h x this.2
    omega
   rw [List.length_erase_of_mem c] at h1
   omega
  ·have:=nodup_lt k l nd fun x hx=>by
    have:=h x hx
    have:x≠k:=fun e=>c (e ▸ hx)
    omega
   omega
def Occ (ow:Array (Option Nat)) (j:Nat):Prop:=∃ q,ow[j]?=some (some q)
theorem free_ok {m:Nat} {h:Int} {ow:Array (Option Nat)} (hz:ow.size=m+1):∀ (fuel r:Nat),(∃ r0,r<=r0/\r0 < r+fuel/\ow[(run m h r0).1]?=some none) ->
  (∀ r' d,d<=len m h r'->r' < r->Occ ow ((run m h r').1+d)) ->
  ∃ r1 d1,d1<=len m h r1/\layClean.free m ow fuel (run m h r).1 (run m h r).2=some ((run m h r1).1+d1)/\ow[(run m h r1).1+d1]?=some none/\∀ r' d,d<=len m h r'->(r' < r1\/(r'=r1/\d < d1))->Occ ow ((run m h r').1+d)
 | 0,r,⟨r0,a,b,_⟩,_=>by omega
 | fuel+1,r,⟨r0,a,b,c⟩,hb=>by
  unfold layClean.free
  have hre:=runEnd_le (run_le m h r)
  have get:∀ d,d<=len m h r->∃ o,ow[(run m h r).1+d]?=some o/\ow.getD ((run m h r).1+d) (some 0)=o:=fun d hd=>by
   unfold len at hd
   have hlt:(run m h r).1+d < ow.size:=by rw [hz];omega
   exact ⟨ow[(run m h r).1+d],Array.getElem?_eq_getElem hlt,by simp [Array.getD,hlt]⟩
  cases hf:(List.range (runEnd m (run m h r).1+1 - (run m h r).1)).find? fun k=>(ow.getD ((run m h r).1+k) (some 0)).isNone with
  | some k =>
   obtain ⟨h1,h2,h3⟩:=List.find?_range_eq_some.mp hf
   have hk:k<=len m h r:=by have:=List.mem_range.mp h2;unfold len;omega
   refine ⟨r,k,hk,rfl,?_,fun r' d hd hlt=>?_⟩
   ·obtain ⟨o,e1,e2⟩:=get k hk
    rw [e2] at h1
    rw [e1]
    cases o with
    | none=>rfl
    | some _=>simp at h1
   ·rcases hlt with hlt | ⟨rfl,hlt⟩
    ·exact hb r' d hd hlt
    ·obtain ⟨o,e1,e2⟩:=get d hd
     have:=h3 d hlt
     rw [e2] at this
     cases o with
     | none=>simp at this
     | some q=>exact ⟨q,e1⟩
  | none =>
   have hn:=List.find?_range_eq_none.mp hf
   have full:∀ d,d<=len m h r->Occ ow ((run m h r).1+d):=fun d hd=>by
    obtain ⟨o,e1,e2⟩:=get d hd
    have:=hn d (by unfold len at hd;omega)
    rw [e2] at this
    cases o with
    | none=>simp at this
    | some q=>exact ⟨q,e1⟩
   have ner:r0≠r:=fun e=>by
    subst e
    obtain ⟨q,hq⟩:=full 0 (Nat.zero_le _)
    rw [Nat.add_zero,c] at hq
    cases hq
   show ∃ r1 d1,_/\layClean.free m ow fuel (run m h (r+1)).1 (run m h (r+1)).2=_/\_
   refine free_ok hz fuel (r+1) ⟨r0,by omega,by omega,c⟩ fun r' d hd hlt=>?_
   by_cases e:r'=r
   ·subst e;exact full d hd
   ·exact hb r' d hd (by omega)
structure Own (m:Nat) (hs:List Int) (ow:Array (Option Nat)):Prop where
 size:ow.size=m+1
 lt:∀ j q:Nat,ow[j]?=some (some q)->q < hs.length
 inj:∀ j j' q:Nat,ow[j]?=some (some q)->ow[j']?=some (some q)->j=j'
 all:∀ (q:Nat) (h:Int),hs[q]?=some h->∃ n,ow[sq m h n]?=some (some q)/\∀ k,k < n->Occ ow (sq m h k)
theorem Own.hole {m:Nat} {hs:List Int} {ow:Array (Option Nat)} (O:Own m hs ow) (hl:hs.length<=m):∃ j,j<=m/\ow[j]?=some none:=by
 by_cases c:∃ j,j<=m/\ow[j]?=some none
 ·exact c
 ·exfalso
  have oc:∀ j,j<=m->Occ ow j:=fun j hj=>by
   have hg:ow[j]?=some (ow[j]'(by rw [O.size];omega)):=Array.getElem?_eq_getElem (by rw [O.size];omega)
   cases e:ow[j]'(by rw [O.size];omega) with
   | none=>exact absurd ⟨j,hj,by rw [hg,e]⟩ c
   | some q=>exact ⟨q,by rw [hg,e]⟩
  have h1:=nodup_lt hs.length ((List.range (m+1)).map fun j=>(ow.getD j none).getD 0) ?_ ?_
  ·simp at h1;omega
  ·have key:∀ j,j<=m->ow[j]?=some (some ((ow.getD j none).getD 0)):=fun j hj=>by
    obtain ⟨q,hq⟩:=oc j hj
    have:ow.getD j none=some q:=by rw [Array.getD_eq_getD_getElem?,hq];rfl
    rw [this];exact hq
   rw [List.Nodup,List.pairwise_map]
   refine List.Pairwise.imp_of_mem ?_ (List.nodup_range (n:=m+1))
   intro a b ha hb hab e
   have ka:=key a (by have:=List.mem_range.mp ha;omega)
   have kb:=key b (by have:=List.mem_range.mp hb;omega)
   rw [<- e] at kb
   exact hab (O.inj a b _ ka kb)
  ·intro x hx
   obtain ⟨j,hj,e⟩:=List.mem_map.mp hx
   obtain ⟨q,hq⟩:=oc j (by have:=List.mem_range.mp hj;omega)
   have:ow.getD j none=some q:=by rw [Array.getD_eq_getD_getElem?,hq];rfl
   rw [this] at e
   have e':q=x:=e
   rw [<- e'];exact O.lt j q hq
theorem Own.step {m : Nat} (hm : Mk m) {hs : List Int} {ow : Array (Option Nat)} (O : Own m hs ow) (hl : hs.length <= m) (h : Int) :
    ∃ j, layClean.free m ow (turns m) (bits h % (m + 1)) (bits h) = some j /\ Own m (hs ++ [h]) (ow.setIfInBounds j (some hs.length)) := by
  obtain ⟨j0, hj0, e0⟩ := O.hole hl
  obtain ⟨r0, hr0, er0⟩ := hm.met h hj0
  obtain ⟨r1, d1, hd1, ef, en, hocc⟩ := free_ok (h := h) O.size (turns m) 0 ⟨r0, Nat.zero_le _, by unfold turns; omega, by rw [er0]; exact e0⟩ (fun r' d _ hlt => absurd hlt (Nat.not_lt_zero _))
  obtain ⟨n, _, hn, hk⟩ := at_place m h r1 d1 hd1
  have esq : sq m h n = (run m h r1).1 + d1 := by unfold sq; rw [hn]; rfl
  rw [<- esq] at ef en
  have occ : ∀ k, k < n -> Occ ow (sq m h k) := fun k hk' => by
    obtain ⟨r', d', a, b, c⟩ := hk k hk'
    unfold sq
    rw [c]
    exact hocc r' d' a b
  refine ⟨sq m h n, ef, ?_, ?_, ?_, ?_⟩
  · rw [Array.size_setIfInBounds]; exact O.size
  · intro j q hq
    rw [Array.getElem?_setIfInBounds] at hq
    rw [List.length_append, List.length_singleton]
    split at hq
    · split at hq
      · injection hq with hq; injection hq with hq; omega
      · cases hq
    · have := O.lt j q hq; omega
  · intro j j' q a b
    rw [Array.getElem?_setIfInBounds] at a b
    split at a
    · rename_i e1
      split at b
      · rename_i e2; rw [<- e1, <- e2]
      · split at a
        · injection a with a; injection a with a
          have := O.lt j' q b
          omega
        · cases a
    · split at b
      · split at b
        · injection b with b; injection b with b
          have := O.lt j q a
          omega
        · cases b
      · exact O.inj j j' q a b
  · intro q h' hq
    have mono : ∀ j, Occ ow j -> Occ (ow.setIfInBounds (sq m h n) (some hs.length)) j := fun j ⟨q', hq'⟩ => by
      by_cases c : sq m h n = j
      · refine ⟨hs.length, ?_⟩
        rw [Array.getElem?_setIfInBounds, if_pos c, if_pos (by rw [O.size]; have := sq_le m h n; omega)]
      · exact ⟨q', by rw [Array.getElem?_setIfInBounds, if_neg c]; exact hq'⟩
    by_cases c : q < hs.length
    · rw [List.getElem?_append_left c] at hq
      obtain ⟨n', a, b⟩ := O.all q h' hq
      refine ⟨n', ?_, fun k hk' => mono _ (b k hk')⟩
      rw [Array.getElem?_setIfInBounds, if_neg]
      · exact a
      · intro e; rw [<- e, en] at a; cases a
    · have hq' := (List.getElem?_eq_some_iff.mp hq).1
      rw [List.length_append, List.length_singleton] at hq'
      have e : q = hs.length := by omega
      subst e
      rw [List.getElem?_append_right (Nat.le_refl _), Nat.sub_self] at hq
      simp at hq
      subst hq
      refine ⟨n, ?_, fun k hk' => mono _ (occ k hk')⟩
      rw [Array.getElem?_setIfInBounds, if_pos rfl, if_pos (by rw [O.size]; have := sq_le m h n; omega)]
theorem own0 (m:Nat):Own m [] (Array.replicate (m+1) none):=by
 have no:∀ j q:Nat,(Array.replicate (m+1) (none:Option Nat))[j]?≠some (some q):=fun j q hq=>by
  rw [Array.getElem?_replicate] at hq
  split at hq <;> cases hq
 exact ⟨by simp,fun j q hq=>absurd hq (no j q),fun j j' q hq=>absurd hq (no j q),fun q h hq=>by simp at hq⟩
theorem layClean_ok {m : Nat} (hm : Mk m) (hs : Array Int) (hl : hs.size <= m) : ∃ ow, layClean m hs = some ow /\ Own m hs.toList ow := by
  unfold layClean
  rw [<- Array.foldl_toList]
  have main : ∀ (rest done : List Int) (ow : Array (Option Nat)), Own m done ow -> (done ++ rest).length <= m ->
      ∃ ow', rest.foldl (fun (acc : Option (Array (Option Nat) × Nat)) h => do
        let (owner, k) <- acc
        let j <- layClean.free m owner (turns m) (bits h % (m + 1)) (bits h)
        pure (owner.setIfInBounds j (some k), k + 1)) (some (ow, done.length)) = some (ow', (done ++ rest).length) /\ Own m (done ++ rest) ow' := by
    intro rest
    induction rest with
    | nil => intro done ow O _; exact ⟨ow, by simp, by simpa using O⟩
    | cons h r ih =>
      intro done ow O hlen
      rw [List.length_append, List.length_cons] at hlen
      obtain ⟨j, ef, O'⟩ := O.step hm (by omega) h
      have := ih (done ++ [h]) _ O' (by simp; omega)
      rw [List.append_assoc] at this
      simp only [List.singleton_append, List.length_append, List.length_cons, List.length_nil, Nat.zero_add] at this
      obtain ⟨ow', e, O''⟩ := this
      refine ⟨ow', ?_, O''⟩
      rw [List.foldl_cons]
      simp only [Option.bind_eq_bind, Option.bind_some, ef, Option.pure_def] at e ⊢
      rw [e]
      simp only [List.length_append, List.length_cons]
  obtain ⟨ow, e, O⟩ := main hs.toList [] (Array.replicate (m + 1) none) (own0 m) (by simpa using hl)
  refine ⟨ow, ?_, by simpa using O⟩
  simp only [List.length_nil] at e
  rw [e]; rfl
theorem fm_get {α β:Type} (f:α->Option β):∀ (l:List α),(∀ x∈l,(f x).isSome=true)->∀ i:Nat,(l.filterMap f)[i]?=l[i]?.bind f
 | [],_,i=>by simp
 | x::r,h,i=>by
  have hx:=h x List.mem_cons_self
  cases e:f x with
  | none=>rw [e] at hx;cases hx
  | some y =>
   rw [List.filterMap_cons,e]
   cases i with
   | zero=>simp [e]
   | succ i =>
    simp only [List.getElem?_cons_succ]
    exact fm_get f r (fun z hz=>h z (List.mem_cons_of_mem _ hz)) i
theorem fm_len {α β:Type} (f:α->Option β):∀ (l:List α),(∀ x∈l,(f x).isSome=true)->(l.filterMap f).length=l.length
 | [],_=>rfl
 | x::r,h=>by
  have hx:=h x List.mem_cons_self
  cases e:f x with
  | none=>rw [e] at hx;cases hx
  | some y=>rw [List.filterMap_cons,e,List.length_cons,List.length_cons,fm_len f r fun z hz=>h z (List.mem_cons_of_mem _ hz)]
theorem laid_ok {α : Type} {m : Nat} (hm : Mk m) (es : Array (Int × α)) (hl : es.size <= m) (f mv : Nat) (led pl : Bool) :
    ∃ t' order, laid m f mv led pl (es.map (·.1)) = some (t', order) /\ t'.mask = m /\ t'.led = led /\ t'.plain = pl /\ (order.filterMap (es[·]?)).size = es.size /\ Tab (order.filterMap (es[·]?)) t' /\ (order.filterMap (es[·]?)).toList.Perm es.toList /\ order.toList.Perm (List.range es.size) := by
  obtain ⟨ow, e, O⟩ := layClean_ok hm (es.map (·.1)) (by simpa using hl)
  have hlen : (es.map (·.1)).toList.length = es.size := by simp
  generalize hL : (List.range (m + 1)).filterMap (fun j => (ow.getD j none).map (j, ·)) = L
  have memL : ∀ j q, (j, q) ∈ L <-> ow[j]? = some (some q) := fun j q => by
    rw [<- hL, List.mem_filterMap]
    constructor
    · rintro ⟨j', hj', e'⟩
      cases h0 : ow.getD j' none with
      | none => rw [h0] at e'; cases e'
      | some q' =>
        rw [h0] at e'
        injection e' with e'
        injection e' with e1 e2
        subst e1; subst e2
        rw [Array.getD_eq_getD_getElem?] at h0
        cases h1 : ow[j']? with
        | none => rw [h1] at h0; cases h0
        | some o => rw [h1] at h0; exact congrArg some h0
    · intro h
      refine ⟨j, List.mem_range.mpr ?_, ?_⟩
      · have := (Array.getElem?_eq_some_iff.mp h).1; rw [O.size] at this; exact this
      · rw [Array.getD_eq_getD_getElem?, h]; rfl
  have rise : L.Pairwise (fun a b => a.1 < b.1) := by
    rw [<- hL]
    refine List.Pairwise.filterMap _ ?_ (List.pairwise_lt_range (n := m + 1))
    intro a a' hlt b hb b' hb'
    cases h0 : ow.getD a none with
    | none => rw [h0] at hb; cases hb
    | some q =>
      cases h1 : ow.getD a' none with
      | none => rw [h1] at hb'; cases hb'
      | some q' =>
        rw [h0] at hb; rw [h1] at hb'
        cases hb; cases hb'
        exact hlt
  have lt : ∀ p ∈ L, p.2 < es.size := fun p hp => by
    have := O.lt p.1 p.2 ((memL p.1 p.2).mp hp)
    rw [hlen] at this; exact this
  have nd2 : (L.map (·.2)).Nodup := by
    rw [List.Nodup, List.pairwise_map]
    refine List.Pairwise.imp_of_mem ?_ rise
    intro a b ha hb hab e'
    have := O.inj a.1 b.1 a.2 ((memL _ _).mp ha) (by rw [e']; exact (memL _ _).mp hb)
    omega
  have perm2 : (L.map (·.2)).Perm (List.range es.size) := by
    refine (List.perm_ext_iff_of_nodup nd2 List.nodup_range).mpr fun q => ?_
    rw [List.mem_range, List.mem_map]
    constructor
    · rintro ⟨p, hp, rfl⟩; exact lt p hp
    · intro hq
      obtain ⟨n, a, _⟩ := O.all q (es[q].1) (by rw [Array.getElem?_toList, Array.getElem?_map, Array.getElem?_eq_getElem hq]; rfl)
      exact ⟨(_, q), (memL _ _).mpr a, rfl⟩
  have lenL : L.length = es.size := by have := perm2.length_eq; simpa using this
  have ok2 : ∀ q ∈ L.map (·.2), (es[q]?).isSome = true := fun q hq => by
    obtain ⟨p, hp, rfl⟩ := List.mem_map.mp hq
    rw [Array.getElem?_eq_getElem (lt p hp)]; rfl
  have okR : ∀ q ∈ List.range es.size, (es[q]?).isSome = true := fun q hq => by
    rw [Array.getElem?_eq_getElem (List.mem_range.mp hq)]; rfl
  have esL : ((L.map (·.2)).toArray.filterMap (es[·]?)).toList = (L.map (·.2)).filterMap (es[·]?) := by simp
  have getE : ∀ (i : Nat), ((L.map (·.2)).toArray.filterMap (es[·]?))[i]? = (L[i]?).bind fun p => es[p.2]? := by
    intro i
    rw [<- Array.getElem?_toList, esL, fm_get _ _ ok2, List.getElem?_map]
    cases L[i]? <;> rfl
  have sizeE : ((L.map (·.2)).toArray.filterMap (es[·]?)).size = es.size := by
    rw [<- Array.length_toList, esL, fm_len _ _ ok2, List.length_map, lenL]
  have permE : ((L.map (·.2)).toArray.filterMap (es[·]?)).toList.Perm es.toList := by
    rw [esL]
    refine (perm2.filterMap (es[·]?)).trans (List.Perm.of_eq ?_)
    refine List.ext_getElem? fun i => ?_
    rw [fm_get _ _ okR]
    by_cases c : i < es.size
    · rw [List.getElem?_range c]; simp
    · rw [List.getElem?_eq_none (by simpa using c), List.getElem?_eq_none (by simpa using c)]; rfl
  refine ⟨{ mask := m, place := (L.map (·.1)).toArray, dummies := #[], finger := f, led, moves := mv, plain := pl }, (L.map (·.2)).toArray, ?_, rfl, rfl, rfl, sizeE, ⟨?_, ?_, ?_, rfl, hm, ?_, ?_⟩, permE, by simpa using perm2⟩
  · unfold laid
    rw [e]
    simp only [Option.bind_eq_bind, Option.bind_some, Option.pure_def, hL]
  · intro i j a b hij ha hb
    simp only [List.getElem?_toArray, List.getElem?_map] at ha hb
    cases ea : L[i]? with
    | none => rw [ea] at ha; cases ha
    | some pa =>
      cases eb : L[j]? with
      | none => rw [eb] at hb; cases hb
      | some pb =>
        rw [ea] at ha; rw [eb] at hb
        cases ha; cases hb
        obtain ⟨h1, e1⟩ := List.getElem?_eq_some_iff.mp ea
        obtain ⟨h2, e2⟩ := List.getElem?_eq_some_iff.mp eb
        have := List.pairwise_iff_getElem.mp rise i j h1 h2 hij
        rw [e1, e2] at this
        exact this
  · intro i j hi
    simp only [List.getElem?_toArray, List.getElem?_map] at hi
    cases ei : L[i]? with
    | none => rw [ei] at hi; cases hi
    | some p =>
      rw [ei] at hi
      cases hi
      have := (memL p.1 p.2).mp (List.mem_of_getElem? ei)
      have := (Array.getElem?_eq_some_iff.mp this).1
      rw [O.size] at this
      show p.1 <= m
      omega
  · show (L.map (·.1)).toArray.size = _
    rw [sizeE]; simp [lenL]
  · show (L.map (·.1)).toArray.size <= m
    simp [lenL]; exact hl
  · intro i j e' hi he
    simp only [List.getElem?_toArray, List.getElem?_map] at hi
    rw [getE] at he
    cases ei : L[i]? with
    | none => rw [ei] at hi; cases hi
    | some p =>
      rw [ei] at hi he
      cases hi
      have hp := (memL p.1 p.2).mp (List.mem_of_getElem? ei)
      have he' : es[p.2]? = some e' := he
      obtain ⟨n, a, b⟩ := O.all p.2 e'.1 (by rw [Array.getElem?_toList, Array.getElem?_map, he']; rfl)
      refine ⟨n, O.inj _ _ _ a hp, fun k hk => ?_⟩
      obtain ⟨q', hq'⟩ := b k hk
      obtain ⟨i', hi', ei'⟩ := List.mem_iff_getElem.mp ((memL _ _).mpr hq')
      refine ⟨i', ?_⟩
      show (L.map (·.1)).toArray[i']? = _
      simp only [List.getElem?_toArray, List.getElem?_map]
      rw [List.getElem?_eq_getElem hi', ei']; rfl
end Tb
end
section
namespace Pv
open PySem Tb PySem.SetTable
section
variable {prog:Program} {w:World} {A:Around} {E:Value->Shared->Prop} {s:Shared}
def TupI (prog:Program) (w:World) (h:Heap) (ks:List Int) (b:Addr):Prop:=IsTupleKey (intKind prog w) h ks b
def hashT (prog:Program) (w:World) (ks:List Int):Int:=tupleKeyHash (intKind prog w) ks
def ElT (prog:Program) (w:World) (h:Heap) (e:Int×Value) (ks:List Int):Prop:=∃ b,e.2=.ref b/\e.1=hashT prog w ks/\TupI prog w h ks b
theorem TupI.kept {h h':Heap} {ks:List Int} {b:Addr} (x:TupI prog w h ks b) (k:∀ o,h.get? b=some o->h'.get? b=some o):TupI prog w h' ks b :=
 let ⟨o,items,n,ho,r⟩:=x;⟨o,items,n,k o ho,r⟩
theorem TupI.ne {h:Heap} {ks:List Int} {a b:Addr} {o:Obj} {es ep t} (x:TupI prog w h ks b) (ho:h.get? a=some o) (hd:o.data=.set es ep t):b≠a:=by
 rintro rfl
 obtain ⟨o',items,n,ho',_,hd',_⟩:=x
 rw [ho] at ho';cases ho'
 rw [hd] at hd';cases hd'
theorem class_ok {M : Model} {ks : List Int} {a : Addr} {Q : Bool -> Shared -> Prop} (hk : TupI prog w s.heap ks a) (h : Q false s) : wpAny M A (ofAClassStatement 8 (.ref a)) Q E s := by
  have hT : s.TypeIs (.ref a) "tuple" := IsTupleKey.typeIs hk
  obtain ⟨o, items, n, ho, _, hd, hi⟩ := hk
  unfold ofAClassStatement
  refine wpAny_bind (wpAny_typeOf hT ?_)
  dsimp only
  rw [if_pos (by rfl)]
  refine wpAny_bind (wpAny_pure ?_)
  simp only [Bool.not_true, Bool.false_eq_true, if_false]
  refine wpAny_bind (wpAny_seqItems ho hd ?_)
  dsimp only
  refine wpAny_bind ?_
  rw [<- Array.forIn_toList]
  refine wpAny_forIn_list _ (fun rest r s' => r.1 = none /\ s' = s /\ ∀ v ∈ rest, carriedByValue v = true) _ ?_ ?_ _ _ ⟨rfl, rfl, hi.byValue⟩
  · rintro v rest r s' ⟨hr, rfl, hall⟩
    have hv := hall v List.mem_cons_self
    have e : ofAClassStatement 7 v = pure false := by
      cases v with
      | ref b => simp [carriedByValue] at hv
      | _ => unfold ofAClassStatement; rfl
    rw [e]
    refine wpAny_bind (wpAny_pure ?_)
    simp only [Bool.false_eq_true, if_false]
    exact wpAny_pure ⟨rfl, rfl, fun u hu' => hall u (List.mem_cons_of_mem _ hu')⟩
  · rintro ⟨r1, r2⟩ s' ⟨hr, rfl, _⟩
    simp only at hr
    subst hr
    exact wpAny_pure h
theorem seen_ok {ks:List Int} {b:Addr} {stored:List Value} {Q:Bool->Shared->Prop} (hk:TupI prog w s.heap ks b) (hs:∀ v∈stored,∃ c ks',v=.ref c/\TupI prog w s.heap ks' c) (h:Q false s) :
  wpAny (model prog w) A (searchCouldBeSeen (.ref b) stored) Q E s:=by
 unfold searchCouldBeSeen
 refine wpAny_bind ?_
 refine wpAny_forIn_list _ (fun rest r s'=>r.1=none/\s'=s/\∀ v∈rest,∃ c ks',v=.ref c/\TupI prog w s.heap ks' c) _ ?_ ?_ _ _ ⟨rfl,rfl,hs⟩
 ·rintro v rest r s' ⟨hr,rfl,hall⟩
  obtain ⟨c,ks',rfl,hc⟩:=hall v List.mem_cons_self
  have hrest:∀ v∈rest,∃ c ks',v=.ref c/\TupI prog w s'.heap ks' c:=fun u hu'=>hall u (List.mem_cons_of_mem _ hu')
  dsimp only
  split
  ·exact wpAny_pure ⟨rfl,rfl,hrest⟩
  ·refine wpAny_bind (wpAny_eqIsQuiet_tuple hk ?_)
   simp only [Bool.not_true,Bool.false_eq_true,if_false]
   refine wpAny_bind (wpAny_eqIsQuiet_tuple hc ?_)
   simp only [Bool.not_true,Bool.false_eq_true,if_false]
   refine wpAny_bind (class_ok hk ?_)
   simp only [Bool.false_eq_true,if_false]
   refine wpAny_bind (class_ok hc ?_)
   simp only [Bool.false_eq_true,if_false]
   exact wpAny_pure ⟨rfl,rfl,hrest⟩
 ·rintro ⟨r1,r2⟩ s' ⟨hr,rfl,_⟩
  simp only at hr
  subst hr
  exact wpAny_pure h
theorem byValue_ok {ks : List Int} {a : Addr} {Q : Bool -> Shared -> Prop} (hk : TupI prog w s.heap ks a) (h : Q true s) : wpAny (model prog w) A (hashByValue 8 (.ref a)) Q E s := by
  have hT : s.TypeIs (.ref a) "tuple" := IsTupleKey.typeIs hk
  obtain ⟨o, items, n, ho, _, hd, hi⟩ := hk
  unfold hashByValue
  refine wpAny_bind (wpAny_specialOf hT F.slot_tuple_hash.lookup ?_)
  dsimp only
  refine wpAny_bind (wpAny_seqItems ho hd ?_)
  refine wpAny_bind ?_
  show wpAny _ _ (forIn items _ _) _ _ s
  rw [<- Array.forIn_toList]
  have hall : ∀ v ∈ items.toList, ∃ i t, v = Value.int i t := by
    clear hd ho
    generalize items.toList = l at hi
    induction hi with
    | nil => intro v hv; simp at hv
    | @cons k v' ks' vs h1 _ ih =>
      intro v hv
      rcases List.mem_cons.mp hv with rfl | hv
      · obtain ⟨t, e⟩ := Value.isInt_shape h1
        exact ⟨_, t, e⟩
      · exact ih v hv
  refine wpAny_forIn_list _ (fun rest r s' => r.1 = none /\ s' = s /\ ∀ v ∈ rest, ∃ i t, v = Value.int i t) _ ?_ ?_ _ _ ⟨rfl, rfl, hall⟩
  · rintro v rest r s' ⟨hr, rfl, hall⟩
    obtain ⟨i, t, rfl⟩ := hall v List.mem_cons_self
    have e : hashByValue 7 (Value.int i t) = pure true := by unfold hashByValue; rfl
    rw [e]
    refine wpAny_bind (wpAny_pure ?_)
    simp only [Bool.not_true, Bool.false_eq_true, if_false]
    exact wpAny_pure ⟨rfl, rfl, fun u hu' => hall u (List.mem_cons_of_mem _ hu')⟩
  · rintro ⟨r1, r2⟩ s' ⟨hr, rfl, _⟩
    simp only at hr
    subst hr
    exact wpAny_pure h
theorem Tab.fits {es:Array (Int×Value)} {t:SetTable} (T:Tab es t):t.fits es.size=true:=by
 unfold SetTable.fits
 have h1:=T.sz
 have h2:=T.fill
 have h3:=T.full
 simp only [Bool.and_eq_true,beq_iff_eq,decide_eq_true_eq]
 exact ⟨h1,by rw [h2,<- h1];exact h3⟩
theorem Tab.gave {es:Array (Int×Value)} {t:SetTable} (T:Tab es t):t.gaveWay=false:=by
 unfold SetTable.gaveWay
 rcases T.msk with e | e | e <;> rw [e] <;> rfl
theorem search_ok {a b : Addr} {o : Obj} {es : Array (Int × Value)} {ep : Nat} {t : SetTable} {ks : List Int} {kss : List (List Int)} {adding : Bool} {R : SetFound -> Shared -> Prop} {N : Nat} (hu : A.units < cLine)
    (ho : s.heap.get? a = some o) (hd : o.data = .set es ep t) (T : Tab es t) (hp : Paired (ElT prog w s.heap) es.toList kss) (hk : TupI prog w s.heap ks b)
    (hN : N < 10 * turns t.mask) (he : t.slot (sq t.mask (hashT prog w ks) N) = .empty) (hem : ∀ i : Nat, t.place[i]? ≠ some (sq t.mask (hashT prog w ks) N)) (hl : ∀ k, k < N -> ∃ i : Nat, t.place[i]? = some (sq t.mask (hashT prog w ks) k))
    (hf : ks ∉ kss -> R (.free (sq t.mask (hashT prog w ks) N) false) s) (ht : ks ∈ kss -> ∀ r, R (.there r) s) :
    ∀ (fuel n : Nat) (stand : Option Probe), n <= N -> N - n < fuel -> stand.getD (t.probeStart (hashT prog w ks)) = pr t.mask (hashT prog w ks) n ->
      (∀ k, k < n -> ∀ (i : Nat) (e : Int × Value), t.place[i]? = some (sq t.mask (hashT prog w ks) k) -> es[i]? = some e -> ¬ ElT prog w s.heap e ks) ->
      wpAny (model prog w) A (setSearchFrom a (.ref b) (hashT prog w ks) adding fuel stand) R E s
  | 0, n, stand, h1, h2, _, _ => by omega
  | fuel + 1, n, stand, h1, h2, hst, hno => by
    unfold setSearchFrom
    refine wpAny_bind (wpAny_setState_of ho hd (Tab.fits T) ?_)
    dsimp only
    rw [Tab.gave T]
    simp only [Bool.false_eq_true, if_false]
    rw [hst]
    have hat : ∀ (i : Nat) (e : Int × Value), es[i]? = some e -> (fun i => (es[i]?.map (·.1)).getD 0) i = e.1 := fun i e h => by simp [h]
    generalize hX : t.probe _ (hashT prog w ks) (pr t.mask (hashT prog w ks) n) = X
    have mem_of : ∀ (i : Nat) (e : Int × Value), es[i]? = some e -> ∃ ks', ks' ∈ kss /\ ElT prog w s.heap e ks' := fun i e h => by
      have hm : e ∈ es.toList := by rw [<- Array.getElem?_toList] at h; exact List.mem_of_getElem? h
      clear hat hno hem hl he ht hf
      generalize es.toList = l at hp hm
      induction hp with
      | nil => simp at hm
      | cons h1 _ ih =>
        rcases List.mem_cons.mp hm with rfl | hm
        · exact ⟨_, List.mem_cons_self, h1⟩
        · obtain ⟨ks', a1, a2⟩ := ih hm
          exact ⟨ks', List.mem_cons_of_mem _ a1, a2⟩
    rcases probe_go (h := hashT prog w ks) (hashAt := fun i => (es[i]?.map (·.1)).getD 0) T.ris he hl (10 * turns t.mask) n h1 (by omega) with ⟨k, i, b1, b2, b3, b4, b5, b6⟩ | ⟨b5, b6⟩
    · have b6' : X = _ := hX.symm.trans b6
      rw [b6']
      dsimp only
      have hi : i < es.size := by rw [<- T.sz]; exact (Array.getElem?_eq_some_iff.mp b3).1
      have hei : es[i]? = some es[i] := Array.getElem?_eq_getElem hi
      obtain ⟨ks', hks', c, ec, eh, hc⟩ := mem_of i _ hei
      have rest : wpAny (model prog w) A (do
          let some (_, y) := es[i]? | unsupported "internal:set-entry"
          let equal <- holding [y] (eqBool y (.ref b))
          let (es', _, t') <- setState a
          if adding && equal then return SetFound.there none
          let some same := t'.sameMemory t.moves t.mask | unsupported "set.changed-during-lookup:is-the-new-block-at-the-old-address"
          let still <- match (if same then t'.slot (sq t.mask (hashT prog w ks) k) else .empty) with
            | .live i' => match es'[i']? with
              | some (_, y') => do pure (if <- isSame y' y then some i' else none)
              | none => pure none
            | _ => pure none
          match still with
          | none => rule "set.search.anew"; setSearchFrom a (.ref b) (hashT prog w ks) adding fuel none
          | some i' => if equal then return SetFound.there (some i') else setSearchFrom a (.ref b) (hashT prog w ks) adding fuel (some (pr t.mask (hashT prog w ks) (k + 1)))) R E s := by
        rw [hei]
        generalize hev : es[i] = ev at ec eh hei
        obtain ⟨eh1, ev2⟩ := ev
        dsimp only at ec eh ⊢
        subst ec
        refine wpAny_bind (wpAny_holding (wpAny_eqBool_tuple hu hc hk ?_))
        refine wpAny_bind (wpAny_setState_of ho hd (Tab.fits T) ?_)
        dsimp only
        have same : t.sameMemory t.moves t.mask = some true := by unfold SetTable.sameMemory; simp
        by_cases q : ks' = ks
        · subst q
          simp only [decide_true, Bool.and_true]
          cases adding
          · simp only [Bool.false_eq_true, if_false]
            rw [same]
            dsimp only
            rw [if_pos rfl, slot_live T.ris b3]
            dsimp only
            rw [hei]
            dsimp only
            refine wpAny_bind (wpAny_isSame_ref_self (wpAny_bind (wpAny_pure ?_)))
            rw [if_pos rfl]
            dsimp only
            first | exact wpAny_pure (ht hks' _) | (rw [if_pos trivial]; exact wpAny_pure (ht hks' _))
          · simp only [if_true]
            exact wpAny_pure (ht hks' _)
        · simp only [decide_eq_false q, Bool.and_false, Bool.false_eq_true, if_false]
          rw [same]
          dsimp only
          rw [if_pos rfl, slot_live T.ris b3]
          dsimp only
          rw [hei]
          dsimp only
          refine wpAny_bind (wpAny_isSame_ref_self (wpAny_bind (wpAny_pure ?_)))
          rw [if_pos rfl]
          dsimp only
          refine search_ok hu ho hd T hp hk hN he hem hl hf ht fuel (k + 1) _ (by omega) (by omega) rfl fun k' hk' i' e' hp' he' hx => ?_
          by_cases c1 : k' < n
          · exact hno k' c1 i' e' hp' he' hx
          · by_cases c2 : k' = k
            · subst c2
              have e1 : i' = i := by
                have := slot_live T.ris hp'
                rw [slot_live T.ris b3] at this
                injection this with this
                exact this.symm
              subst e1
              rw [hei] at he'
              cases he'
              obtain ⟨c', ec', _, hc'⟩ := hx
              cases ec'
              exact q (IsTupleKey.inj hc hc')
            · obtain ⟨_, _, eh', _⟩ := hx
              exact b5 k' (by omega) (by omega) i' hp' ((hat i' e' he').trans eh')
      cases hled : t.led
      · simp only [Bool.not_false, if_true]
        refine wpAny_bind (seen_ok hk (fun v hv => ?_) ?_)
        · obtain ⟨e, he', rfl⟩ := List.mem_map.mp hv
          have hm : e ∈ es.toList := by
            rw [Array.toList_filter] at he'
            exact (List.mem_filter.mp he').1
          obtain ⟨j, hj⟩ := List.mem_iff_getElem?.mp hm
          obtain ⟨ks2, _, c2, e2, _, h2⟩ := mem_of j e (by rw [<- Array.getElem?_toList]; exact hj)
          exact ⟨c2, ks2, e2, h2⟩
        · simp only [Bool.false_eq_true, if_false]
          exact rest
      · simp only [Bool.not_true, Bool.false_eq_true, if_false]
        exact rest
    · have b6' : X = _ := hX.symm.trans b6
      rw [b6']
      dsimp only
      refine wpAny_pure (hf fun hin => ?_)
      obtain ⟨e, hm, hx⟩ : ∃ e ∈ es.toList, ElT prog w s.heap e ks := by
        clear hat hno hem hl he ht hf mem_of b5 b6 b6'
        generalize es.toList = l at hp
        induction hp with
        | nil => simp at hin
        | @cons e' ks' _ _ h1 _ ih =>
          rcases List.mem_cons.mp hin with rfl | hin
          · exact ⟨e', List.mem_cons_self, h1⟩
          · obtain ⟨e, a1, a2⟩ := ih hin
            exact ⟨e, List.mem_cons_of_mem _ a1, a2⟩
      obtain ⟨j, hj⟩ := List.mem_iff_getElem?.mp hm
      rw [Array.getElem?_toList] at hj
      obtain ⟨_, _, eh, _⟩ := id hx
      obtain ⟨k, hk1, hk2⟩ := T.met hem hj eh
      by_cases c : k < n
      · exact hno k c j e hk2 hj hx
      · exact b5 k (by omega) hk1 j hk2 ((hat j e hj).trans eh)
def SetT (M:Value->Prop) (prog:Program) (w:World) (h:Heap) (a:Addr) (kss:List (List Int)):Prop :=
 ∃ o es ep t,h.get? a=some o/\o.ExactSet/\o.data=.set es ep t/\Tab es t/\es.size * 5 < t.mask * 3/\t.plain=true/\(t.led=true<->w.params.followText "set-order"=false)/\Paired (fun e ks=>ElT prog w h e ks/\M e.2) es.toList kss/\kss.Nodup
theorem Paired.perm {α β:Type} {F:α->β->Prop} {l1 l2:List α} (p:l1.Perm l2):∀ {ks:List β},Paired F l2 ks->∃ ks',ks'.Perm ks/\Paired F l1 ks':=by
 induction p with
 | nil=>intro ks h;cases h;exact ⟨[],.refl _,.nil⟩
 | cons x _ ih =>
  intro ks h
  cases h with
  | cons h1 t =>
   obtain ⟨ks',p',h'⟩:=ih t
   exact ⟨_::ks',p'.cons _,.cons h1 h'⟩
 | swap x y l =>
  intro ks h
  cases h with
  | cons h1 t =>
   cases t with
   | cons h2 t=>exact ⟨_::_::_,List.Perm.swap _ _ _,.cons h2 (.cons h1 t)⟩
 | trans _ _ ih1 ih2 =>
  intro ks h
  obtain ⟨k1,p1,h1⟩:=ih2 h
  obtain ⟨k2,p2,h2⟩:=ih1 h1
  exact ⟨k2,p2.trans p1,h2⟩
theorem Paired.len {α β:Type} {F:α->β->Prop}:∀ {l:List α} {ks:List β},Paired F l ks->l.length=ks.length
 | _,_,.nil=>rfl
 | _,_,.cons _ t=>by simp [Paired.len t]
theorem Paired.mp {α β:Type} {F G:α->β->Prop} (f:∀ a b,F a b->G a b):∀ {l:List α} {ks:List β},Paired F l ks->Paired G l ks
 | _,_,.nil=>.nil
 | _,_,.cons h t=>.cons (f _ _ h) (Paired.mp f t)
theorem add_ok {M : Value -> Prop} {a b : Addr} {ks : List Int} {kss : List (List Int)} {Q : Bool -> Shared -> Prop} (hu : A.units < cLine) (hS : SetT M prog w s.heap a kss) (hk : TupI prog w s.heap ks b) (hM : M (.ref b)) (hroom : kss.length < 76)
    (h : ∀ h' kss' r, Heap.SameBut a s.heap h' -> SetT M prog w h' a kss' -> kss'.Perm (if ks ∈ kss then kss else ks :: kss) -> Q r { s with heap := h' }) :
    wpAny (model prog w) A (setAddHashed a (.ref b) (hashT prog w ks)) Q E s := by
  obtain ⟨o, es, ep, t, ho, hex, hd, T, hnf, hpl, hled, hp, hnd⟩ := hS
  obtain ⟨N, hN, he, hem, hl⟩ := first_empty T.msk T.ris T.dm T.full (hashT prog w ks)
  have hlen : es.size = kss.length := by have := Paired.len hp; simpa using this
  unfold setAddHashed setAddHashedIn
  refine wpAny_holding (wpAny_bind (wpAny_setState_of ho hd (Tab.fits T) ?_))
  dsimp only
  have hbs : byScan (.ref b) es = false := by unfold byScan; simp [Value.scannable]
  rw [hbs]
  simp only [Bool.false_eq_true, if_false]
  refine wpAny_bind ?_
  unfold setSearch
  refine search_ok hu ho hd T (Paired.mp (fun _ _ x => x.1) hp) hk hN he hem hl (fun hni => ?_) (fun hin r => ?_) 100000 0 none (Nat.zero_le _) ?_ rfl (fun k hk' => absurd hk' (Nat.not_lt_zero k))
  · -- it is new
    dsimp only
    have hf1 : t.place.size + 1 <= t.mask := by
      rw [T.sz]
      rcases T.msk with e | e | e <;> rw [e] at hnf ⊢ <;> omega
    obtain ⟨T1, b1, b2, b3, b4, b5⟩ := T.put (x := Value.ref b) hem hl hf1
    refine wpAny_bind (wpAny_setState_of ho hd (Tab.fits T) ?_)
    dsimp only
    generalize hP : t.put (sq t.mask (hashT prog w ks) N) = P at T1 b1 b2 b3 b4 b5
    obtain ⟨t1, p1⟩ := P
    dsimp only at T1 b1 b2 b3 b4 b5 ⊢
    rw [b3, hpl]
    simp only [if_true]
    refine wpAny_bind (byValue_ok hk ?_)
    simp only [if_true]
    have hperm := ins_perm es p1 (hashT prog w ks, Value.ref b) b1
    have hsz1 : (insertAt es p1 (hashT prog w ks, Value.ref b)).size = es.size + 1 := ins_size _ _ _ b1
    have hcons : Paired (fun e ks => ElT prog w s.heap e ks /\ M e.2) ((hashT prog w ks, Value.ref b) :: es.toList) (ks :: kss) := .cons ⟨⟨b, rfl, rfl, hk⟩, hM⟩ hp
    obtain ⟨kss1, q1, q2⟩ := Paired.perm hperm hcons
    have hnd1 : kss1.Nodup := (q1.nodup_iff).mpr (List.nodup_cons.mpr ⟨hni, hnd⟩)
    generalize hes1 : insertAt es p1 (hashT prog w ks, Value.ref b) = es1 at T1 hperm hsz1 q2
    refine wpAny_bind (wpAny_storeSet_of ho hd ?_ (by rw [hsz1]; have : sizeLine = 2 ^ 40 \/ True := .inr trivial; rw [sizeLine_eq]; omega))
    have hg1 : (s.heap.update a (Obj.putSet es1 t1)).get? a = some { o with data := .set es1 (ep + 1) t1 } := by
      have := Heap.get?_update_self (Obj.putSet es1 t1) ho (by rw [putSet_of es1 t1 hd]; rfl)
      rw [putSet_of es1 t1 hd] at this; exact this
    have hsb1 := Heap.SameBut.update s.heap a (Obj.putSet es1 t1)
    have move : ∀ {h' : Heap}, Heap.SameBut a s.heap h' -> ∀ (e : Int × Value) (ks' : List Int), (ElT prog w s.heap e ks' /\ M e.2) -> (ElT prog w h' e ks' /\ M e.2) := fun {h'} hs e ks' ⟨⟨c, e1, e2, e3⟩, e4⟩ =>
      ⟨⟨c, e1, e2, e3.kept fun o' ho' => (hs.2 c (e3.ne ho hd)).trans ho'⟩, e4⟩
    have goal : ∀ h' kss', Heap.SameBut a s.heap h' -> SetT M prog w h' a kss' -> kss'.Perm (ks :: kss) -> Q true { s with heap := h' } := fun h' kss' z1 z2 z3 => h h' kss' true z1 z2 (by rw [if_neg hni]; exact z3)
    have hfill : t1.fill = es1.size := T1.fill
    by_cases htf : t1.tooFull = true
    · simp only [htf, Bool.not_false, Bool.and_self, if_true]
      have hbig : ∃ m, Mk m /\ sizeAbove (grown es1.size) - 1 = m /\ es1.size * 5 < m * 3 /\ sizeAbove (grown es1.size) <= 128 := by
        unfold SetTable.tooFull at htf
        rw [hfill, b2] at htf
        have htf' : es1.size * 5 >= t.mask * 3 := by simpa using htf
        rcases T.msk with e | e | e
        · rw [e] at htf' hnf
          have : es1.size = 5 := by omega
          rw [this]
          exact ⟨31, .inr (.inl rfl), by decide, by decide, by decide⟩
        · rw [e] at htf' hnf
          have : es1.size = 19 := by omega
          rw [this]
          exact ⟨127, .inr (.inr rfl), by decide, by decide, by decide⟩
        · rw [e] at htf' hnf
          omega
      obtain ⟨m, hm, hm1, hm2, hm3⟩ := hbig
      refine wpAny_bind ?_
      unfold setRelay
      refine wpAny_bind (wpAny_setState_of hg1 rfl (Tab.fits T1) ?_)
      dsimp only
      rw [<- hsz1]
      have hsl : ¬ sizeAbove (grown es1.size) > sizeLine := by rw [sizeLine_eq]; omega
      rw [if_neg hsl]
      obtain ⟨t2, order, c1, c2, c3, c4, c5, c6, c7, _⟩ := laid_ok (α := Value) hm es1 (by
        rcases hm with e | e | e <;> rw [e] at hm2 ⊢ <;> omega) t1.finger (t1.movedTo m) t1.led t1.plain
      have hrel : t1.relaid (es1.map (·.1)) (grown es1.size) = some (t2, order) := by
        unfold SetTable.relaid; rw [hm1]; exact c1
      refine wpAny_bind ?_
      rw [hrel]
      show wpAny (model prog w) A (if ((order.filterMap (es1[·]?)).size != es1.size) = true then _ else pure (order.filterMap (es1[·]?), t2)) _ E _
      rw [if_neg (by rw [c5]; simp)]
      refine wpAny_pure ?_
      dsimp only
      refine wpAny_storeSet_of hg1 rfl ?_ (by rw [c5, sizeLine_eq]; omega)
      obtain ⟨kss2, q3, q4⟩ := Paired.perm c7 q2
      have hg2 : ((s.heap.update a (Obj.putSet es1 t1)).update a (Obj.putSet (order.filterMap (es1[·]?)) t2)).get? a = some { o with data := .set (order.filterMap (es1[·]?)) (ep + 1 + 1) t2 } := by
        have := Heap.get?_update_self (Obj.putSet (order.filterMap (es1[·]?)) t2) hg1 (by rw [putSet_of _ t2 rfl]; rfl)
        rw [putSet_of _ t2 rfl] at this; exact this
      have hsb2 := hsb1.trans (Heap.SameBut.update _ a (Obj.putSet (order.filterMap (es1[·]?)) t2))
      refine wpAny_pure (goal _ kss2 hsb2 ⟨_, _, _, t2, hg2, hex, rfl, c6, by rw [c5, c2]; exact hm2, by rw [c4, b3]; exact hpl, by rw [c3, b4]; exact hled, Paired.mp (move hsb2) q4, (q3.nodup_iff).mpr hnd1⟩ (q3.trans q1))
    · have htf' : t1.tooFull = false := by simpa using htf
      simp only [htf', Bool.and_false, Bool.false_eq_true, if_false]
      refine wpAny_pure (goal _ kss1 hsb1 ⟨_, _, _, t1, hg1, hex, rfl, T1, ?_, by rw [b3]; exact hpl, by rw [b4]; exact hled, Paired.mp (move hsb1) q2, hnd1⟩ q1)
      unfold SetTable.tooFull at htf'
      rw [hfill] at htf'
      have : ¬ es1.size * 5 >= t1.mask * 3 := by simpa using htf'
      omega
  · dsimp only
    exact wpAny_pure (h s.heap kss false (Heap.SameBut.refl a s.heap) ⟨o, es, ep, t, ho, hex, hd, T, hnf, hpl, hled, hp, hnd⟩ (by rw [if_pos hin]))
  · have : turns t.mask <= 142 := by unfold turns; rcases T.msk with e | e | e <;> rw [e] <;> omega
    omega
theorem setAdd_ok {M:Value->Prop} {a b:Addr} {ks:List Int} {kss:List (List Int)} {Q:Bool->Shared->Prop} (hu:A.units < cLine) (hS:SetT M prog w s.heap a kss) (hk:TupI prog w s.heap ks b) (hM:M (.ref b)) (hroom:kss.length < 76)
  (h:∀ h' tk kss' r,s.toks<=tk->Heap.SameBut a s.heap h'->SetT M prog w h' a kss'->kss'.Perm (if ks∈kss then kss else ks::kss)->Q r { s with heap:=h',toks:=tk }) :
  wpAny (model prog w) A (setAdd a (.ref b)) Q E s:=by
 unfold setAdd
 refine wpAny_holding (wpAny_bind (wpAny_pyHash_tuple hu hk ?_))
 exact add_ok (s:={ s with toks:=_ }) hu hS hk hM hroom fun h' kss' r z1 z2 z3=>h h' _ kss' r (Nat.le_add_right _ _) z1 z2 z3
def ElI (e:Int×Value) (k:Int):Prop:=e.1=hashInt k/\∃ t,e.2=.int k t
def SetI (w:World) (h:Heap) (a:Addr) (ks:List Int):Prop :=
 ∃ o es ep t,h.get? a=some o/\o.ExactSet/\o.data=.set es ep t/\Tab es t/\es.size * 5 < t.mask * 3/\t.plain=true/\(t.led=true<->w.params.followText "set-order"=false)/\Paired ElI es.toList ks/\ks.Nodup
theorem intK (prog:Program) (w:World) (i:Int) (t:Tok):(intKind prog w).is i (.int i t)=true:=by show Value.isInt i (.int i t)=true;simp [Value.isInt]
theorem ElI.elems {es:List (Int×Value)} {ks:List Int} (hp:Paired ElI es ks):ElemsOf (intKind prog w) es:=by
 intro e he
 induction hp with
 | nil=>simp at he
 | @cons e' k _ _ h1 _ ih =>
  rcases List.mem_cons.mp he with rfl | he
  ·obtain ⟨h2,t,e2⟩:=h1
   refine ⟨⟨k,?_,h2⟩,?_⟩
   ·rw [e2];exact intK _ _ _ _
   ·rw [e2];rfl
  ·exact ih he
theorem ElI.find {es:List (Int×Value)} {ks:List Int} (hp:Paired ElI es ks) (k:Int):(es.findIdx? fun e=>(intKind prog w).is k e.2).isSome=true<->k∈ks:=by
 induction hp with
 | nil=>simp
 | @cons e' k' _ _ h1 _ ih =>
  obtain ⟨_,t,e2⟩:=h1
  have hd:(intKind prog w).is k e'.2=decide (k=k'):=by
   rw [e2]
   exact KeyKind.is_eq_decide (intK prog w k' t) k
  rw [List.findIdx?_cons,hd]
  by_cases c:k=k'
  ·subst c;simp
  ·simp only [decide_eq_false c]
   simp only [Bool.false_eq_true,if_false,Option.isSome_map]
   rw [ih]
   simp [c]
theorem addI_ok {a : Addr} {k : Int} {tk : Tok} {ks : List Int} {Q : Bool -> Shared -> Prop} (hS : SetI w s.heap a ks) (hroom : ks.length < 76)
    (h : ∀ h' ks' r, Heap.SameBut a s.heap h' -> SetI w h' a ks' -> ks'.Perm (if k ∈ ks then ks else k :: ks) -> Q r { s with heap := h' }) :
    wpAny (model prog w) A (setAddHashed a (.int k tk) (hashInt k)) Q E s := by
  obtain ⟨o, es, ep, t, ho, hex, hd, T, hnf, hpl, hled, hp, hnd⟩ := hS
  obtain ⟨N, hN, he, hem, hl⟩ := first_empty T.msk T.ris T.dm T.full (hashInt k)
  have hlen : es.size = ks.length := by have := Paired.len hp; simpa using this
  have hel : ElemsOf (intKind prog w) es.toList := ElI.elems hp
  have hsb : es.size < scanBound := by unfold scanBound; omega
  unfold setAddHashed setAddHashedIn
  refine wpAny_holding (wpAny_bind (wpAny_setState_of ho hd (Tab.fits T) ?_))
  dsimp only
  rw [byScan_of (knd := intKind prog w) (x := .int k tk) rfl hsb hel]
  simp only [if_true]
  unfold setAddByScan
  refine wpAny_bind ?_
  refine wpAny_bind (wpAny_rule ?_)
  refine wpAny_bind (wpAny_setScan_of (knd := intKind prog w) (k := k) (intK _ _ _ _) ho hd (Tab.fits T) hel ?_)
  have hfind := ElI.find (prog := prog) (w := w) hp k
  cases hr : List.findIdx? (fun e => (intKind prog w).is k e.2) es.toList with
  | some j =>
    dsimp only
    rw [hr] at hfind
    have hin : k ∈ ks := hfind.mp rfl
    refine wpAny_pure (wpAny_pure ?_)
    exact h s.heap ks _ (Heap.SameBut.refl a s.heap) ⟨o, es, ep, t, ho, hex, hd, T, hnf, hpl, hled, hp, hnd⟩ (by rw [if_pos hin])
  | none =>
    dsimp only
    rw [hr] at hfind
    have hni : k ∉ ks := fun z => by have := hfind.mpr z; cases this
    have hf1 : t.place.size + 1 <= t.mask := by
      rw [T.sz]
      rcases T.msk with e | e | e <;> rw [e] at hnf ⊢ <;> omega
    obtain ⟨T1, b1, b2, b3, b4, b5⟩ := T.put (x := Value.int k tk) hem hl hf1
    have hfree : t.freeSlot (hashInt k) = some (sq t.mask (hashInt k) N, false) := by
      unfold SetTable.freeSlot
      rcases probe_go (h := hashInt k) (hashAt := fun _ => hashInt k + 1) T.ris he hl (10 * turns t.mask) 0 (Nat.zero_le _) (by omega) with ⟨_, _, _, _, _, z, _⟩ | ⟨_, z⟩
      · exact absurd z (by omega)
      · have z' : t.probe (fun _ => hashInt k + 1) (hashInt k) (t.probeStart (hashInt k)) = _ := z
        rw [z']; rfl
    have hlay : layNew t es (hashInt k) (.int k tk) = (insertAt es (t.put (sq t.mask (hashInt k) N)).2 (hashInt k, .int k tk), (t.put (sq t.mask (hashInt k) N)).1, false, false) := by
      unfold layNew
      rw [hfree]
      dsimp only
      have hfit := Tab.fits T1
      generalize t.put (sq t.mask (hashInt k) N) = P at T1 b1 hfit
      obtain ⟨t1, p1⟩ := P
      dsimp only at hfit ⊢
      unfold SetTable.orStandIn
      rw [hfit]
      rfl
    rw [hlay]
    dsimp only
    generalize hP : t.put (sq t.mask (hashInt k) N) = P at T1 b1 b2 b3 b4 b5
    obtain ⟨t1, p1⟩ := P
    dsimp only at T1 b1 b2 b3 b4 b5 ⊢
    refine wpAny_bind (wpAny_pure ?_)
    rw [b3, hpl]
    simp only [if_true]
    rw [show hashByValue 8 (Value.int k tk) = pure true from by unfold hashByValue; rfl]
    refine wpAny_bind (wpAny_pure ?_)
    simp only [if_true]
    have hperm := ins_perm es p1 (hashInt k, Value.int k tk) b1
    have hsz1 : (insertAt es p1 (hashInt k, Value.int k tk)).size = es.size + 1 := ins_size _ _ _ b1
    have hcons : Paired ElI ((hashInt k, Value.int k tk) :: es.toList) (k :: ks) := .cons ⟨rfl, _, rfl⟩ hp
    obtain ⟨kss1, q1, q2⟩ := Paired.perm hperm hcons
    have hnd1 : kss1.Nodup := (q1.nodup_iff).mpr (List.nodup_cons.mpr ⟨hni, hnd⟩)
    generalize hes1 : insertAt es p1 (hashInt k, Value.int k tk) = es1 at T1 hperm hsz1 q2
    refine wpAny_bind (wpAny_storeSet_of ho hd ?_ (by rw [hsz1, sizeLine_eq]; omega))
    have hg1 : (s.heap.update a (Obj.putSet es1 t1)).get? a = some { o with data := .set es1 (ep + 1) t1 } := by
      have := Heap.get?_update_self (Obj.putSet es1 t1) ho (by rw [putSet_of es1 t1 hd]; rfl)
      rw [putSet_of es1 t1 hd] at this; exact this
    have hsb1 := Heap.SameBut.update s.heap a (Obj.putSet es1 t1)
    have goal : ∀ h' ks', Heap.SameBut a s.heap h' -> SetI w h' a ks' -> ks'.Perm (k :: ks) -> Q true { s with heap := h' } := fun h' ks' z1 z2 z3 => h h' ks' true z1 z2 (by rw [if_neg hni]; exact z3)
    have hfill : t1.fill = es1.size := T1.fill
    by_cases htf : t1.tooFull = true
    · simp only [htf, Bool.not_false, Bool.and_self, if_true]
      have hbig : ∃ m, Mk m /\ sizeAbove (grown es1.size) - 1 = m /\ es1.size * 5 < m * 3 /\ sizeAbove (grown es1.size) <= 128 := by
        unfold SetTable.tooFull at htf
        rw [hfill, b2] at htf
        have htf' : es1.size * 5 >= t.mask * 3 := by simpa using htf
        rcases T.msk with e | e | e
        · rw [e] at htf' hnf
          have : es1.size = 5 := by omega
          rw [this]
          exact ⟨31, .inr (.inl rfl), by decide, by decide, by decide⟩
        · rw [e] at htf' hnf
          have : es1.size = 19 := by omega
          rw [this]
          exact ⟨127, .inr (.inr rfl), by decide, by decide, by decide⟩
        · rw [e] at htf' hnf
          omega
      obtain ⟨m, hm, hm1, hm2, hm3⟩ := hbig
      obtain ⟨t2, order, c1, c2, c3, c4, c5, c6, c7, c8⟩ := laid_ok (α := Value) hm es1 (by
        rcases hm with e | e | e <;> rw [e] at hm2 ⊢ <;> omega) t1.finger (t1.movedTo m) t1.led t1.plain
      have hrel : t1.relaid (es1.map (·.1)) (grown es1.size) = some (t2, order) := by
        unfold SetTable.relaid; rw [hm1]; exact c1
      have hall : relayAll t1 es1 (grown es1.size) = (order.filterMap (es1[·]?), t2, false) := by
        unfold relayAll
        rw [hrel]
        dsimp only
        have h1 : coversAll order es1.size = true := by unfold coversAll; exact List.isPerm_iff.mpr c8
        rw [h1, Tab.fits c6]
        rfl
      rw [hall]
      dsimp only
      refine wpAny_bind (wpAny_pure ?_)
      refine wpAny_bind (wpAny_storeSet_of hg1 rfl ?_ (by rw [c5, sizeLine_eq]; omega))
      obtain ⟨kss2, q3, q4⟩ := Paired.perm c7 q2
      have hg2 : ((s.heap.update a (Obj.putSet es1 t1)).update a (Obj.putSet (order.filterMap (es1[·]?)) t2)).get? a = some { o with data := .set (order.filterMap (es1[·]?)) (ep + 1 + 1) t2 } := by
        have := Heap.get?_update_self (Obj.putSet (order.filterMap (es1[·]?)) t2) hg1 (by rw [putSet_of _ t2 rfl]; rfl)
        rw [putSet_of _ t2 rfl] at this; exact this
      have hsb2 := hsb1.trans (Heap.SameBut.update _ a (Obj.putSet (order.filterMap (es1[·]?)) t2))
      exact wpAny_pure (wpAny_pure (goal _ kss2 hsb2 ⟨_, _, _, t2, hg2, hex, rfl, c6, by rw [c5, c2]; exact hm2, by rw [c4, b3]; exact hpl, by rw [c3, b4]; exact hled, q4, (q3.nodup_iff).mpr hnd1⟩ (q3.trans q1)))
    · have htf' : t1.tooFull = false := by simpa using htf
      simp only [htf', Bool.and_false, Bool.false_eq_true, if_false]
      refine wpAny_pure (wpAny_pure (goal _ kss1 hsb1 ⟨_, _, _, t1, hg1, hex, rfl, T1, ?_, by rw [b3]; exact hpl, by rw [b4]; exact hled, q2, hnd1⟩ q1))
      unfold SetTable.tooFull at htf'
      rw [hfill] at htf'
      have : ¬ es1.size * 5 >= t1.mask * 3 := by simpa using htf'
      omega
theorem setAddI_ok {a:Addr} {k:Int} {tk:Tok} {ks:List Int} {Q:Bool->Shared->Prop} (hS:SetI w s.heap a ks) (hroom:ks.length < 76)
  (h:∀ h' tk' ks' r,s.toks<=tk'->Heap.SameBut a s.heap h'->SetI w h' a ks'->ks'.Perm (if k∈ks then ks else k::ks)->Q r { s with heap:=h',toks:=tk' }) :
  wpAny (model prog w) A (setAdd a (.int k tk)) Q E s:=by
 unfold setAdd
 refine wpAny_holding (wpAny_bind ((intKind prog w).pyHash (k:=k) (intK _ _ _ _) ?_))
 exact addI_ok (s:={ s with toks:=s.toks+1 }) hS hroom fun h' kss' r z1 z2 z3=>h h' _ kss' r (Nat.le_succ _) z1 z2 z3
end
end Pv
end
section
namespace Pv
open PySem PySem.Spec PyProof.Rows Tb PySem.SetTable
section
variable {prog:Program} {w:World}
structure SetK (prog:Program) (w:World) (κ:Type) [DecidableEq κ] where
 Row:Heap->Value->κ->Prop
 Set:Heap->Addr->List κ->Prop
 fresh:∀ (h:Heap) (a:Addr),h.get? a=some { cls:=.type "set",dict:=none,data:=.set #[] 0 (.fresh 0 0 (!w.params.followText "set-order")) }->Set h a []
 moved:∀ {h h':Heap} {a:Addr} {ks:List κ},Set h a ks->(∀ o,h.get? a=some o->h'.get? a=some o)->(∀ b o,h.get? b=some o->o.cls=.type "tuple"->h'.get? b=some o)->Set h' a ks
 rowMoved:∀ {h h':Heap} {v:Value} {k:κ},Row h v k->(∀ b o,h.get? b=some o->o.cls=.type "tuple"->h'.get? b=some o)->Row h' v k
 notTup:∀ {h:Heap} {a:Addr} {ks:List κ},Set h a ks->∀ o,h.get? a=some o->o.cls≠.type "tuple"
 add:∀ {A:Around} {E:Value->Shared->Prop} {s:Shared} {a:Addr} {v:Value} {k:κ} {ks:List κ} {Q:Bool->Shared->Prop},A.units < cLine->Set s.heap a ks->Row s.heap v k->ks.length < 76 ->
  (∀ h' tk ks' r,s.toks<=tk->Heap.SameBut a s.heap h'->Set h' a ks'->ks'.Perm (if k∈ks then ks else k::ks)->Q r { s with heap:=h',toks:=tk })->wpAny (model prog w) A (setAdd a v) Q E s
section
variable {κ:Type} [DecidableEq κ]
def met (ks:List κ):Nat->List κ
 | 0=>[]
 | i+1=>match ks[i]? with
  | some k=>if k∈met ks i then met ks i else k::met ks i
  | none=>met ks i
theorem met_mem (ks : List κ) : ∀ (i : Nat), i <= ks.length -> ∀ k, k ∈ met ks i <-> k ∈ ks.take i
  | 0, _, k => by simp [met]
  | i + 1, hi, k => by
    have ih := met_mem ks i (by omega) k
    have hg : ks[i]? = some ks[i] := List.getElem?_eq_getElem (by omega)
    have e : ks.take (i + 1) = ks.take i ++ [ks[i]] := by rw [List.take_succ, hg]; rfl
    unfold met
    rw [hg, e, List.mem_append, <- ih, List.mem_singleton]
    dsimp only
    split
    · rename_i c
      constructor
      · exact .inl
      · rintro (h | h)
        · exact h
        · rw [h]; exact c
    · rw [List.mem_cons]
      exact ⟨fun h => h.symm, fun h => h.symm⟩
theorem met_nodup (ks:List κ):∀ i,(met ks i).Nodup
 | 0=>List.nodup_nil
 | i+1=>by
  unfold met
  split
  ·split
   ·exact met_nodup ks i
   ·rename_i c;exact List.nodup_cons.mpr ⟨c,met_nodup ks i⟩
  ·exact met_nodup ks i
theorem perm_add {k:κ} {l m:List κ} {l':List κ} (h:l.Perm m) (h':l'.Perm (if k∈l then l else k::l)):l'.Perm (if k∈m then m else k::m):=by
 by_cases c:k∈l
 ·rw [if_pos c] at h';rw [if_pos (h.mem_iff.mp c)];exact h'.trans h
 ·rw [if_neg c] at h';rw [if_neg (fun z=>c (h.mem_iff.mpr z))];exact h'.trans (h.cons k)
theorem update_loop (K:SetK prog w κ) {A:Around} {R:Result->Shared->Prop} {I:Addr} {fp wr:List Addr} {n:Nat} {P:Nat->Value->Prop} {St:Nat->Shared->Prop} {G:Array GenState->Array GenState->Prop}
  (W:WalksS prog w A.in1 I fp wr G n P St) (S:Addr) (hSf:S∉fp) (hu:A.in1.units < cLine) (kss:List κ) (h0:Heap) (hwr:∀ i s,St i s->∀ b∈wr,∀ o,s.heap.get? b=some o->o.cls≠.type "tuple")
  (hval:∀ i v,P i v->∃ k,kss[i]?=some k/\K.Row h0 v k) (hb:∀ i,i < n->(met kss i).length < 76) :
  ∀ (k i:Nat) (s:Shared),n - i=k->i<=n->St i s->(∀ b o,h0.get? b=some o->o.cls=.type "tuple"->s.heap.get? b=some o)->(∃ l,K.Set s.heap S l/\l.Perm (met kss i)) ->
   (∀ s' l,Moved (S::wr) G s s'->K.Set s'.heap S l->l.Perm (met kss n)->R (.ok (.ret .none)) s') ->
   codeAny (model prog w) A (.builtin "set.update.loop" ⟨[.ref S,.ref I],[]⟩) R s:=by
 have hSw:S∉wr:=fun h=>hSf (W.sub _ h)
 have hsub:∀ b∈wr,b∈S::wr:=fun b hb=>List.mem_cons_of_mem _ hb
 intro k
 induction k with
 | zero =>
  intro i s hk hi hst hkeep ⟨l,hS,hl⟩ hR
  have hin:i=n:=by omega
  subst hin
  refine codeAny_builtin PyProof.Rows.F.entry_set_update_loop ?_
  rw [Around.under_plainId PyProof.Rows.F.plain_set_update_loop _]
  show wpAny _ A.in1 (pyNext (.ref I)>>=_) _ _ s
  refine wpAny_bind (W.done s _ _ hst fun s' hm=>?_)
  show wpAny _ A.in1 (ret Value.none) _ _ s'
  exact wpAny_pure (hR s' l (hm.mono hsub) (K.moved hS (fun o e=>hm.heap S o hSw e) fun b o e hc=>hm.heap b o (fun hbw=>hwr _ s hst b hbw o e hc) e) hl)
 | succ k ih =>
  intro i s hk hi hst hkeep ⟨l,hS,hl⟩ hR
  have hlt:i < n:=by omega
  refine codeAny_builtin PyProof.Rows.F.entry_set_update_loop ?_
  rw [Around.under_plainId PyProof.Rows.F.plain_set_update_loop _]
  show wpAny _ A.in1 (pyNext (.ref I)>>=_) _ _ s
  refine wpAny_bind (W.item i s _ _ hlt hst fun v s' hP hst' hm=>?_)
  obtain ⟨key,hkey,hb0⟩:=hval i v hP
  have tk:∀ b o,s.heap.get? b=some o->o.cls=.type "tuple"->s'.heap.get? b=some o:=fun b o e hc=>hm.heap b o (fun hbw=>hwr _ s hst b hbw o e hc) e
  have hS':K.Set s'.heap S l:=K.moved hS (fun o e=>hm.heap S o hSw e) tk
  have hkeep':∀ b o,h0.get? b=some o->o.cls=.type "tuple"->s'.heap.get? b=some o:=fun b o e hc=>tk b o (hkeep b o e hc) hc
  have hk':K.Row s'.heap v key:=K.rowMoved hb0 hkeep'
  show wpAny _ A.in1 (holding [v] (setAdd S v)>>=_) _ _ s'
  refine wpAny_bind (wpAny_holding (K.add hu hS' hk' (by rw [hl.length_eq];exact hb i hlt) fun h' tk' l' r z0 z1 z2 z3=>?_))
  have hnt:∀ b o,s'.heap.get? b=some o->o.cls=.type "tuple"->b≠S:=fun b o e hc=>by
   rintro rfl
   exact K.notTup hS' o e hc
  refine wpAny_pure ⟨plainId_quiet PyProof.Rows.F.plain_set_update_loop _,ih (i+1) _ (by omega) hlt (W.frame _ s' _ _ hst' z0 fun b hb o e=>?_) (fun b o e hc=>?_) ⟨l',z2,?_⟩ fun s'' l'' hm'' hS'' hl''=>?_⟩
  ·rw [z1.2 b (fun h:b=S=>hSf (by rw [<- h];exact hb))];exact e
  ·have e':=hkeep' b o e hc
   show h'.get? b=some o
   rw [z1.2 b (hnt b o e' hc)];exact e'
  ·unfold met
   rw [hkey]
   exact perm_add hl z3
  ·refine hR s'' l'' (Moved.trans W.gtrans ((hm.mono hsub).then_heap z0 fun b o hb e=>?_) hm'') hS'' hl''
   rw [z1.2 b (fun h:b=S=>hb (by rw [h];exact List.mem_cons_self))];exact e
end
theorem set_new {A:Around} {E:Value->Shared->Prop} {s:Shared} (a:Value) {Q₁:Value->Shared->Prop}
  (h:Q₁ (.ref s.heap.objs.size) { s with heap:=s.heap.push { cls:=.type "set",dict:=none,data:=.set #[] 0 (.fresh 0 0 (!w.params.followText "set-order")) } }) :
  codeAny (model prog w) A (.call (.builtin "set.__new__") ⟨[.type "set",a],[]⟩) (wants Q₁ E) s:=by
 refine codeAny_of_tree ?_
 show wpAny _ A.in1 (do checkBuiltinCall "set.__new__" ⟨[.type "set",a],[]⟩;again (.builtin "set.__new__" ⟨[.type "set",a],[]⟩)) _ _ s
 refine wpAny_bind (wpAny_of_eq (F.newCall_set_1 a) (wpAny_pure ⟨plainId_quiet F.plain_set_new _,codeAny_builtin F.entry_set_new ?_⟩))
 rw [Around.under_plainId F.plain_set_new _]
 unfold Builtin.«set.__new__» Builtin.Frozenset.newClass
 have hsub:=sub_set_self
 obtain ⟨hp,g,d,tk,os⟩:=s
 dsimp only
 wp_walk
 refine wpAny_askSetting (wpAny_pure ?_)
 dsimp only
 simp only [newObj]
 refine wpAny_bind (wpAny_alloc (wpAny_pure ?_))
 exact wpAny_pure h
theorem tab0 (led:Bool):Tab (α:=Value) #[] (SetTable.fresh 0 0 led):=by
 refine ⟨fun i j a b _ h=>?_,fun i j h=>?_,rfl,rfl,.inl rfl,Nat.zero_le _,fun i j e h=>?_⟩
 ·simp [SetTable.fresh] at h
 ·simp [SetTable.fresh] at h
 ·simp [SetTable.fresh] at h
theorem paired_get {α β:Type} {F:α->β->Prop}:∀ {l:List α} {ks:List β},Paired F l ks->∀ (i:Nat) (v:α),l[i]?=some v->∃ k,ks[i]?=some k/\F v k
 | _,_,.nil,i,v,h=>by simp at h
 | _,_,.cons h1 t,0,v,h=>by simp at h;subst h;exact ⟨_,rfl,h1⟩
 | _,_,.cons h1 t,i+1,v,h=>by
  have:=paired_get t i v (by simpa using h)
  simpa using this
theorem walk_seq {A:Around} (hh:A.handled=none) {T:String} (hT:T="list"\/T="tuple") {h:Heap} {l:Addr} {od:Option Addr} {osl:Array (Option Value)} {items:Array Value} {nl:Nat} (hol:h.get? l=some { cls:=.type T,dict:=od,data:=.seq items nl,slots:=osl }) :
  ∃ (oI:Obj) (St:Nat->Heap->Prop),oI.cls≠.type "tuple"/\(∀ (A':Around) (E:Value->Shared->Prop) (s:Shared) (Q:Value->Shared->Prop),s.heap=h->Q (.ref h.objs.size) { s with heap:=h.push oI }->wpAny (model prog w) A' (pyIter (.ref l)) Q E s) /\
   Walks prog w A h.objs.size [h.objs.size,l] [h.objs.size] items.size (fun i v=>items[i]?=some v) St/\St 0 (h.push oI)/\∀ i h',St i h'->∀ o,h'.get? h.objs.size=some o->o.cls≠.type "tuple":=by
 have hlt:l < h.objs.size:=Heap.lt_size hol
 rcases hT with rfl | rfl
 ·have hl:h.IsList l items:=⟨_,hol,rfl,nl,rfl⟩
  refine ⟨{ cls:=.type "list_iterator",data:=.fields #[.ref l,.int 0 0] },_,by show Value.type _≠Value.type _;decide,fun A' E s Q e q=>?_,Walks.list hh h.objs.size l (Nat.ne_of_lt hlt) items,⟨⟨_,Heap.get?_push_size _ rfl,rfl,rfl⟩,hl.push _⟩,fun i h' st o e=>?_⟩
  ·subst e;exact wpAny_pyIter_list hl q
  ·obtain ⟨⟨o',e',c,_⟩,_⟩:=st
   rw [e] at e';cases e';rw [c];decide
 ·have hl:h.IsTuple l items:=⟨_,hol,rfl,nl,rfl⟩
  refine ⟨{ cls:=.type "tuple_iterator",data:=.fields #[.ref l,.int 0 0] },_,by show Value.type _≠Value.type _;decide,fun A' E s Q e q=>?_,Walks.tuple hh h.objs.size l (Nat.ne_of_lt hlt) items,⟨⟨_,Heap.get?_push_size _ rfl,rfl,rfl⟩,⟨_,Heap.get?_push_of_some _ hol,rfl,nl,rfl⟩⟩,fun i h' st o e=>?_⟩
  ·subst e;exact wpAny_pyIter_tuple hl q
  ·obtain ⟨⟨o',e',c,_⟩,_⟩:=st
   rw [e] at e';cases e';rw [c];decide
theorem call_set {κ : Type} [DecidableEq κ] (K : SetK prog w κ) {A : Around} {E : Value -> Shared -> Prop} {s : Shared} {l : Addr} {T : String} {od : Option Addr} {osl : Array (Option Value)} {items : Array Value} {nl : Nat} {kss : List κ} {Q : Value -> Shared -> Prop} (hT : T = "list" \/ T = "tuple")
    (hh : A.handled = none) (hu : A.units + 64 < cLine) (hol : s.heap.get? l = some { cls := .type T, dict := od, data := .seq items nl, slots := osl }) (hi : Paired (K.Row s.heap) items.toList kss) (hb : ∀ i, i < kss.length -> (met kss i).length < 76)
    (h : ∀ (h' : Heap) (tk : Nat) (r : List κ), K.Set h' s.heap.objs.size r -> r.Perm (met kss kss.length) ->
      (∀ b o, b < s.heap.objs.size -> s.heap.get? b = some o -> h'.get? b = some o) -> Q (.ref s.heap.objs.size) { s with heap := h', toks := tk }) :
    wpAny (model prog w) A (call (.type "set") [.ref l]) Q E s := by
  obtain ⟨c, tl, hmro⟩ := F.called_set.mro
  have hmade := F.called_set.made
  have hsub := F.called_set.sub
  refine wpAny_call (codeAny_of_tree ?_)
  show wpAny _ _ (callAny (.type "set") _) _ _ _
  refine wpAny_pure ⟨Code.quiet_builtin _ (by decide +kernel), codeAny_builtin F.entry_type_call ?_⟩
  rw [Around.under_plain (weight_type_call_type "set" [.ref l] []) rfl]
  have h1 := F.called_set.notType
  have h2 := F.called_set.canCreate
  have hct := F.typeCall_set_1 (.ref l)
  repeat (any_goals (first | assumption | wp_step))
  refine codeAny_mono (set_new (.ref l) (E := E) (Q₁ := fun obj s₁ => ∃ led : Bool, led = (!w.params.followText "set-order") /\ obj = .ref s.heap.objs.size /\ s₁ = { s with heap := s.heap.push { cls := .type "set", dict := none, data := .set #[] 0 (.fresh 0 0 led) } }) ⟨_, rfl, rfl, rfl⟩) fun r s₁ hr => ?_
  cases r with
  | error e => exact hr
  | ok fl =>
    cases fl with
    | ret obj =>
      obtain ⟨led, hled, rfl, rfl⟩ := hr
      have hS : (s.heap.push { cls := .type "set", dict := none, data := .set #[] 0 (.fresh 0 0 led) }).get? s.heap.objs.size = some { cls := .type "set", dict := none, data := .set #[] 0 (.fresh 0 0 led) } := Heap.get?_push_size _ rfl
      have hTS : Shared.TypeIs { s with heap := s.heap.push { cls := .type "set", dict := none, data := .set #[] 0 (.fresh 0 0 led) } } (.ref s.heap.objs.size) "set" := ⟨_, hS, rfl⟩
      have hli := F.called_set.init.lookup
      have hbi := F.called_set.init.bind (.ref s.heap.objs.size)
      repeat (any_goals (first | assumption | wp_step))
      refine codeAny_mono (codeAny_call_builtin (R := wants (fun r s₂ => r = .none /\ ∃ h' tk rr, s₂ = { s with heap := h', toks := tk } /\ K.Set h' s.heap.objs.size rr /\ rr.Perm (met kss kss.length) /\
          (∀ b o, b < s.heap.objs.size -> s.heap.get? b = some o -> h'.get? b = some o)) E) F.called_set.init.plain F.entry_set_init (check_set_init_1 hTS ?_)) fun r₂ s₂ hr₂ => ?_
      · have hol' : (s.heap.push { cls := .type "set", dict := none, data := .set #[] 0 (.fresh 0 0 led) }).get? l = some { cls := .type T, dict := od, data := .seq items nl, slots := osl } := Heap.get?_push_of_some _ hol
        have hsls : isSubtype (.type T) (.type "set") = pure false := by rcases hT with rfl | rfl; exact F.sub_list_set; exact F.sub_tuple_set
        have hslf : isSubtype (.type T) (.type "frozenset") = pure false := by rcases hT with rfl | rfl; exact F.sub_list_frozenset; exact F.sub_tuple_frozenset
        have hne : (Value.type T == Value.type "dict") = false := by rcases hT with rfl | rfl <;> decide
        have hh3 : A.in1.in1.in1.handled = none := by simp [hh]
        obtain ⟨oI, St, hoI, hit, W, st0, hnt⟩ := walk_seq (prog := prog) (w := w) hh3 hT hol'
        unfold Builtin.«set.__init__» noKeywords Builtin.Frozenset.updateFrom
        generalize hPI : pyIter = PI
        wp_walk
        subst hPI
        refine hit _ _ _ _ rfl ?_
        refine wpAny_bind (wpAny_runValue ?_)
        have hlS : l < s.heap.objs.size := Heap.lt_size hol
        have hSf : s.heap.objs.size ∉ [(s.heap.push { cls := .type "set", dict := none, data := .set #[] 0 (.fresh 0 0 led) }).objs.size, l] := by
          rw [Heap.size_push]; simp only [List.mem_cons, List.mem_singleton, List.not_mem_nil, or_false, not_or]
          exact ⟨Nat.ne_of_lt (Nat.lt_succ_self _), Nat.ne_of_gt hlS⟩
        have hlen : items.size = kss.length := by have := Paired.len hi; simpa using this
        refine update_loop K (W.toS) s.heap.objs.size hSf ?hu2 kss s.heap (fun i s' st b hb o e => ?nt) (fun i v hv => ?val) (fun i hi' => hb i (by omega)) (items.size - 0) 0 _ (by omega) (Nat.zero_le _)
          st0 (fun b o e _ => Heap.get?_push_of_some _ (Heap.get?_push_of_some _ e)) ⟨[], ?hS0, .refl _⟩ ?hR
        case hu2 => first | (show A.units + 1 + 1 + 1 + 1 < cLine; omega) | (show A.units + 1 + 1 + 1 < cLine; omega) | (simp [Around.in1]; omega)
        case nt =>
          rw [List.mem_singleton] at hb
          subst hb
          exact hnt i _ st o e
        case val => exact paired_get hi i v (by rw [Array.getElem?_toList]; exact hv)
        case hS0 =>
          refine K.fresh _ _ ?_
          rw [<- hled]
          exact Heap.get?_push_of_some _ hS
        case hR =>
          intro s' rr hm hS' hperm
          obtain ⟨h', g', d', tk', os'⟩ := s'
          have eg : g' = s.gens := hm.gens
          have ed : d' = s.drawn := hm.drawn
          have eo : os' = s.os := hm.os
          subst eg; subst ed; subst eo
          show wpAny _ _ _ _ _ _
          refine wpAny_pure ?_
          show wpAny _ _ (ret Value.none) _ _ _
          refine wpAny_pure ⟨rfl, h', tk', rr, rfl, hS', by rw [<- hlen]; exact hperm, fun b o hb e => ?_⟩
          have hb1 : b ≠ s.heap.objs.size := Nat.ne_of_lt hb
          have hb2 : b ≠ (s.heap.push { cls := .type "set", dict := none, data := .set #[] 0 (.fresh 0 0 led) }).objs.size := by
            rw [Heap.size_push]; exact Nat.ne_of_lt (Nat.lt_succ_of_lt hb)
          exact hm.heap b o (by simp only [List.mem_cons, List.mem_singleton, List.not_mem_nil, or_false, not_or]; exact ⟨hb1, hb2⟩) (Heap.get?_push_of_some _ (Heap.get?_push_of_some _ e))
      · cases r₂ with
        | error e => exact hr₂
        | ok fl₂ =>
          cases fl₂ with
          | ret r =>
            obtain ⟨rfl, h', tk, rr, rfl, hS', hpr, hk'⟩ := hr₂
            repeat (any_goals (first | assumption | wp_step))
            exact h _ _ rr hS' hpr hk'
          | _ => exact hr₂.elim
    | _ => exact hr.elim
end
end Pv
end
section
namespace Pv
open PySem PySem.Spec PyProof.Rows Tb PySem.SetTable
section
variable {prog:Program} {w:World}
def kT (M:Value->Prop) (prog:Program) (w:World):SetK prog w (List Int) where
 Row:=fun h v ks=>∃ b,v=.ref b/\TupI prog w h ks b/\M v
 Set:=SetT M prog w
 fresh:=fun h a e=>⟨_,#[],0,_,e,⟨rfl,rfl,rfl⟩,rfl,tab0 _,by show 0 * 5 < 7 * 3;decide,rfl,by show (!w.params.followText "set-order")=true<->_;simp,.nil,List.nodup_nil⟩
 moved:=fun {h h' a kss} x ka k=>by
  obtain ⟨o,es,ep,t,ho,r1,r2,r3,r4,r5,r6,r7,r8⟩:=x
  refine ⟨o,es,ep,t,ka _ ho,r1,r2,r3,r4,r5,r6,Paired.mp (fun e ks ⟨⟨b,e1,e2,e3⟩,e4⟩=>⟨⟨b,e1,e2,?_⟩,e4⟩) r7,r8⟩
  obtain ⟨ob,items,n,h1,h2,h3⟩:=e3
  exact ⟨ob,items,n,k b ob h1 h2,h2,h3⟩
 rowMoved:=fun x k=>by
  obtain ⟨b,e,⟨ob,items,m,z1,z2,z3⟩,z4⟩:=x
  exact ⟨b,e,⟨ob,items,m,k b ob z1 z2,z2,z3⟩,z4⟩
 notTup:=fun x o e=>by
  obtain ⟨o',_,_,_,ho',hex,_⟩:=x
  rw [e] at ho';cases ho'
  rw [hex.1];decide
 add:=fun {A E s a v k ks Q} hu hS hr hl h=>by
  obtain ⟨b,rfl,hk,hM⟩:=hr
  refine setAdd_ok hu hS hk hM hl fun h' tk ks' r z0 z1 z2 z3=>h h' tk ks' r z0 z1 z2 ?_
  by_cases c:k∈ks
  ·rw [if_pos c] at z3 ⊢;exact z3
  ·rw [if_neg c] at z3 ⊢;exact z3
def kI (prog:Program) (w:World):SetK prog w Int where
 Row:=fun _ v k=>∃ t,v=.int k t
 Set:=SetI w
 fresh:=fun h a e=>⟨_,#[],0,_,e,⟨rfl,rfl,rfl⟩,rfl,tab0 _,by show 0 * 5 < 7 * 3;decide,rfl,by show (!w.params.followText "set-order")=true<->_;simp,.nil,List.nodup_nil⟩
 moved:=fun {h h' a kss} x ka k=>by
  obtain ⟨o,es,ep,t,ho,r⟩:=x
  exact ⟨o,es,ep,t,ka _ ho,r⟩
 rowMoved:=fun x _=>x
 notTup:=fun x o e=>by
  obtain ⟨o',_,_,_,ho',hex,_⟩:=x
  rw [e] at ho';cases ho'
  rw [hex.1];decide
 add:=fun {A E s a v k ks Q} hu hS hr hl h=>by
  obtain ⟨t,rfl⟩:=hr
  refine setAddI_ok hS hl fun h' tk ks' r z0 z1 z2 z3=>h h' tk ks' r z0 z1 z2 ?_
  by_cases c:k∈ks
  ·rw [if_pos c] at z3 ⊢;exact z3
  ·rw [if_neg c] at z3 ⊢;exact z3
end
end Pv
end
section
namespace Pv
open PySem PySem.Spec PyProof.Rows Tb PySem.SetTable
theorem slot_si_next:Slot "set_iterator" "__next__" "set_iterator.__next__" :=
 .of (owner:="set_iterator") (n:="__next__") (by rw [typeLookup_type,builtinLookup_eq_fast];kernel_rfl) (by decide +kernel) (by decide +kernel) (by decide +kernel)
  (by first | exact .inl (by decide +kernel) | exact .inr (by decide +kernel)) (by rw [isSubtype_type];kernel_rfl)
theorem entry_si_next:entryFor table "set_iterator.__next__"=some Builtin.«set_iterator.__next__»:=entryFor_of_tree (by kernel_rfl)
theorem owner_si:Manifest.owners.lookup (String.ofList ['r','o','t','a','r','e','t','i','_','t','e','s'].reverse)=some Manifest.sig_set_iterator:=by kernel_rfl
theorem args_si_next (a:Value):argsOk "set_iterator.__next__" ⟨[a],[]⟩:=by
 unfold argsOk;rw [signature?_of (id:="set_iterator.__next__") (n:=['_','_','t','x','e','n','_','_']) (o:=['r','o','t','a','r','e','t','i','_','t','e','s']) (by kernel_rfl) owner_si];kernel_rfl
theorem slot_si_iter:Slot "set_iterator" "__iter__" "set_iterator.__iter__" :=
 .of (owner:="set_iterator") (n:="__iter__") (by rw [typeLookup_type,builtinLookup_eq_fast];kernel_rfl) (by decide +kernel) (by decide +kernel) (by decide +kernel)
  (by first | exact .inl (by decide +kernel) | exact .inr (by decide +kernel)) (by rw [isSubtype_type];kernel_rfl)
theorem args_si_iter (a:Value):argsOk "set_iterator.__iter__" ⟨[a],[]⟩:=by
 unfold argsOk;rw [signature?_of (id:="set_iterator.__iter__") (n:=['_','_','r','e','t','i','_','_']) (o:=['r','o','t','a','r','e','t','i','_','t','e','s']) (by kernel_rfl) owner_si];kernel_rfl
theorem slot_s_iter:Slot "set" "__iter__" "set.__iter__" :=
 .of (owner:="set") (n:="__iter__") (by rw [typeLookup_type,builtinLookup_eq_fast];kernel_rfl) (by decide +kernel) (by decide +kernel) (by decide +kernel)
  (by first | exact .inl (by decide +kernel) | exact .inr (by decide +kernel)) (by rw [isSubtype_type];kernel_rfl)
theorem args_s_iter (a:Value):argsOk "set.__iter__" ⟨[a],[]⟩:=by
 unfold argsOk;rw [signature?_of (id:="set.__iter__") (n:=['_','_','r','e','t','i','_','_']) (o:=['t','e','s']) (by kernel_rfl) PySem.F.owner_set];kernel_rfl
theorem entry_s_iter:entryFor table "set.__iter__"=some Builtin.«frozenset.__iter__»:=entryFor_alias (id':="frozenset.__iter__") (by kernel_rfl) rfl (by decide +kernel) (by kernel_rfl)
theorem entry_si_iter:entryFor table "set_iterator.__iter__"=some Builtin.«dict_keyiterator.__iter__»:=entryFor_alias (id':="dict_keyiterator.__iter__") (by kernel_rfl) rfl (by decide +kernel) (by kernel_rfl)
end Pv
end
section
namespace Pv
open PySem PySem.Spec PyProof.Rows Tb PySem.SetTable
theorem erase_perm {α:Type}:∀ (l:List α) (i:Nat) (h:i < l.length),(l[i]::l.eraseIdx i).Perm l
 | x::r,0,_=>by simp
 | x::r,i+1,h=>by
  simp only [List.getElem_cons_succ,List.eraseIdx_cons_succ]
  exact (List.Perm.swap _ _ _).trans ((erase_perm r i (by simpa using h)).cons x)
theorem pick_go {α:Type} (next:Nat->Nat):∀ (fuel k:Nat) (left:List α) (out:Array α),left.length<=fuel->(pickOrder.go next fuel k left out).toList.Perm (out.toList++left)
 | 0,k,left,out,h=>by
  have:left=[]:=List.length_eq_zero_iff.mp (by omega)
  subst this
  simp [pickOrder.go]
 | fuel+1,k,left,out,h=>by
  unfold pickOrder.go
  cases left with
  | nil=>simp
  | cons x r =>
   have hlt:next k % (x::r).length < (x::r).length:=Nat.mod_lt _ (by simp)
   have hg:(x::r)[next k % (x::r).length]?=some (x::r)[next k % (x::r).length]:=List.getElem?_eq_getElem hlt
   rw [hg]
   dsimp only
   refine (pick_go next fuel (k+1) _ _ (by rw [List.length_eraseIdx_of_lt hlt];simp only [List.length_cons] at h ⊢;omega)).trans ?_
   rw [Array.toList_push,List.append_assoc]
   exact List.Perm.append_left _ (erase_perm _ _ hlt)
theorem pick_perm {α:Type} (next:Nat->Nat) (xs:Array α):(pickOrder next xs).toList.Perm xs.toList:=by
 unfold pickOrder
 have:=pick_go next xs.size 0 xs.toList #[] (by simp)
 simpa using this
section
variable {prog:Program} {w:World}
structure SetO (w:World) (o:Obj) (es:Array (Int×Value)) (ep:Nat) (t:SetTable):Prop where
 ex:o.ExactSet
 data:o.data=.set es ep t
 tab:Tab es t
 plain:t.plain=true
 led:t.led=true<->w.params.followText "set-order"=false
def ordS (w:World) (a:Addr) (es:Array (Int×Value)) (ep:Nat):Array (Int×Value):=if w.params.followText "set-order"=true then pickOrder (w.params.setOrder a ep) es else es
theorem ordS_perm (w:World) (a:Addr) (es:Array (Int×Value)) (ep:Nat):(ordS w a es ep).toList.Perm es.toList:=by
 unfold ordS;split
 ·exact pick_perm _ _
 ·exact .refl _
def slotAt (w:World) (t:SetTable) (i:Nat):Nat:=if w.params.followText "set-order"=true then 0 else match i with
 | 0=>0
 | j+1=>t.place.getD j 0+1
def IsSI (h:Heap) (it a:Addr) (slot i n ep:Nat):Prop:=∃ o,h.get? it=some o/\o.cls=.type "set_iterator"/\o.data=.fields #[.int slot 0,.int i 0,.ref a,.int n 0,.int ep 0]
theorem IsSI.typeIs {s:Shared} {it a:Addr} {slot i n ep:Nat} (h:IsSI s.heap it a slot i n ep):s.TypeIs (.ref it) "set_iterator":=let ⟨o,ho,hc,_⟩:=h;⟨o,ho,hc⟩
theorem below_slot {es : Array (Int × Value)} {t : SetTable} (T : Tab es t) (hw : w.params.followText "set-order" = false) {i : Nat} (hi : i <= es.size) : below t.place (slotAt w t i) = i := by
  unfold slotAt
  rw [if_neg (by rw [hw]; decide)]
  obtain ⟨h1, h2, h3⟩ := below_spec T.ris (match i with | 0 => 0 | j + 1 => t.place.getD j 0 + 1)
  rw [T.sz] at h1
  cases i with
  | zero =>
    dsimp only at h1 h2 h3 ⊢
    by_cases c : below t.place 0 = 0
    · exact c
    · exfalso
      have hlt : 0 < t.place.size := by rw [T.sz]; omega
      have := h2 0 _ (by omega) (Array.getElem?_eq_getElem hlt)
      omega
  | succ j =>
    have hj : j < t.place.size := by rw [T.sz]; omega
    have hg : t.place[j]? = some t.place[j] := Array.getElem?_eq_getElem hj
    have hd : t.place.getD j 0 = t.place[j] := by simp [Array.getD, hj]
    dsimp only at h1 h2 h3 ⊢
    rw [hd] at h1 h2 h3 ⊢
    by_cases c1 : below t.place (t.place[j] + 1) <= j
    · exfalso
      have := h3 j _ c1 hg
      omega
    · by_cases c2 : j + 1 < below t.place (t.place[j] + 1)
      · exfalso
        have hj1 : j + 1 < t.place.size := by rw [T.sz]; omega
        have hg1 : t.place[j + 1]? = some t.place[j + 1] := Array.getElem?_eq_getElem hj1
        have a1 := h2 (j + 1) _ c2 hg1
        have a2 := T.ris j (j + 1) _ _ (by omega) hg hg1
        omega
      · omega
variable {A:Around} {E:Value->Shared->Prop} {s:Shared}
theorem setNext_ok {a:Addr} {o:Obj} {es:Array (Int×Value)} {ep:Nat} {t:SetTable} {i:Nat} {Q:Option (Value×Nat)->Shared->Prop} (ho:s.heap.get? a=some o) (O:SetO w o es ep t) (hi:i<=es.size)
  (h:Q ((ordS w a es ep)[i]?.map fun e=>(e.2,slotAt w t (i+1))) s):wpAny (model prog w) A (setNext a (slotAt w t i) i ep) Q E s:=by
 unfold setNext
 refine wpAny_bind (wpAny_setState_of ho O.data (Tab.fits O.tab) ?_)
 dsimp only
 unfold setsByText
 refine wpAny_bind (wpAny_bind (wpAny_askSetting (wpAny_pure ?_)))
 cases hw:w.params.followText "set-order" with
 | true =>
  have hw':(model prog w).w.params.followText "set-order"=true:=hw
  simp only [hw',if_true]
  simp only [bne_self_eq_false,Bool.false_eq_true,if_false]
  refine wpAny_bind ?_
  unfold setWalk
  refine wpAny_bind (wpAny_setState_of ho O.data (Tab.fits O.tab) ?_)
  dsimp only
  unfold setsByText
  refine wpAny_bind (wpAny_bind (wpAny_askSetting (wpAny_pure ?_)))
  simp only [hw',if_true]
  refine wpAny_bind (wpAny_askSetting (wpAny_pure ?_))
  have e1:ordS w a es ep=pickOrder (w.params.setOrder a ep) es:=by unfold ordS;rw [if_pos hw]
  have e2:∀ i,slotAt w t i=0:=fun i=>by unfold slotAt;rw [if_pos hw]
  rw [e1] at h
  refine wpAny_pure ?_
  simp only [e2] at h ⊢
  exact h
 | false =>
  have hw':(model prog w).w.params.followText "set-order"=false:=hw
  simp only [hw',Bool.false_eq_true,if_false]
  have hdr:(!t.plain&&decide (es.size > 1))=false:=by rw [O.plain];rfl
  show wpAny (model prog w) A (if (!t.plain&&decide (es.size > 1))=true then _ else _) Q E s
  rw [hdr]
  simp only [Bool.false_eq_true,if_false]
  have hld:t.led=true:=O.led.mpr hw
  refine wpAny_bind ?_
  show wpAny (model prog w) A (if (!t.led&&!es.isEmpty)=true then _ else pure ()) _ E s
  rw [hld]
  simp only [Bool.not_true,Bool.false_and,Bool.false_eq_true,if_false]
  refine wpAny_pure ?_
  rw [below_slot O.tab hw hi]
  have e1:ordS w a es ep=es:=by unfold ordS;rw [if_neg (by rw [hw];decide)]
  rw [e1] at h
  refine wpAny_pure ?_
  by_cases c:i < es.size
  ·have g1:es[i]?=some es[i]:=Array.getElem?_eq_getElem c
   have hp:i < t.place.size:=by rw [O.tab.sz];exact c
   have g2:t.place[i]?=some t.place[i]:=Array.getElem?_eq_getElem hp
   rw [g1] at h ⊢
   rw [g2]
   have e3:slotAt w t (i+1)=t.place[i]+1:=by unfold slotAt;rw [if_neg (by rw [hw];decide)];simp [Array.getD,hp]
   rw [e3] at h
   exact h
  ·have g1:es[i]?=none:=Array.getElem?_eq_none (by omega)
   rw [g1] at h ⊢
   exact h
theorem next_item {it a:Addr} {o:Obj} {es:Array (Int×Value)} {ep:Nat} {t:SetTable} {i:Nat} {x:Int×Value} {Q:Option Value->Shared->Prop} (ho:s.heap.get? a=some o) (O:SetO w o es ep t) (hit:IsSI s.heap it a (slotAt w t i) i es.size ep)
  (hx:(ordS w a es ep)[i]?=some x) (hQ:∀ h',IsSI h' it a (slotAt w t (i+1)) (i+1) es.size ep->Heap.SameBut it s.heap h'->Q (some x.2) { s with heap:=h' }):wpAny (model prog w) A (pyNext (.ref it)) Q E s:=by
 obtain ⟨oi,hoi,hci,hdi⟩:=id hit
 have hsz:(ordS w a es ep).size=es.size:=by have:=(ordS_perm w a es ep).length_eq;simpa using this
 have hi:i<=es.size:=by rw [<- hsz];exact Nat.le_of_lt (Array.getElem?_eq_some_iff.mp hx).1
 have hne:it≠a:=by
  rintro rfl
  rw [ho] at hoi;cases hoi
  rw [O.data] at hdi;cases hdi
 unfold pyNext
 refine wpAny_bind (wpAny_attempt (wpAny_callSpecial?_slot (name:=Str.ofString "__next__") hit.typeIs slot_si_next
  (wpAny_call_entry slot_si_next hit.typeIs entry_si_next ?_ (args_si_next _))))
 unfold Builtin.«set_iterator.__next__»
 refine wpAny_bind (m:=slotArgs _ _ _) (wpAny_pure ?_)
 refine wpAny_bind (wpAny_fieldsOf hoi hdi ?_)
 dsimp only
 refine wpAny_bind (wpAny_setEntries_of ho O.data (Tab.fits O.tab) ?_)
 simp only [bne_self_eq_false,Bool.false_eq_true,if_false]
 simp only [Int.toNat_natCast]
 refine wpAny_bind (setNext_ok ho O hi ?_)
 rw [hx]
 simp only [Option.map_some]
 have hg1:=Heap.get?_update_self (Obj.mapFields (·.setIfInBounds 0 (rawInt (slotAt w t (i+1):Nat)))) hoi (by obtain ⟨c,d,dt,sl⟩:=oi;simp only at hdi;subst hdi;rfl)
 refine wpAny_bind (wpAny_setField hoi hdi (by simp) ?_)
 have hd1:(Obj.mapFields (·.setIfInBounds 0 (rawInt (slotAt w t (i+1):Nat))) oi).data=.fields #[.int (slotAt w t (i+1):Nat) 0,.int i 0,.ref a,.int es.size 0,.int ep 0]:=by
  obtain ⟨c,d,dt,sl⟩:=oi;simp only at hdi;subst hdi;rfl
 have hc1:(Obj.mapFields (·.setIfInBounds 0 (rawInt (slotAt w t (i+1):Nat))) oi).cls=.type "set_iterator":=by
  obtain ⟨c,d,dt,sl⟩:=oi;simp only at hdi hci;subst hdi;exact hci
 generalize Obj.mapFields (·.setIfInBounds 0 (rawInt (slotAt w t (i+1):Nat))) oi=o1 at hg1 hd1 hc1
 refine wpAny_bind (wpAny_setField hg1 hd1 (by simp) ?_)
 have hg2:=Heap.get?_update_self (Obj.mapFields (·.setIfInBounds 1 (rawInt ((i:Int)+1)))) hg1 (by obtain ⟨c,d,dt,sl⟩:=o1;simp only at hd1;subst hd1;rfl)
 refine wpAny_pure ?_
 dsimp only
 refine ⟨_,rfl,wpAny_pure ?_⟩
 refine hQ _ ⟨_,hg2,?_,?_⟩ ((Heap.SameBut.update ..).trans (Heap.SameBut.update ..))
 ·obtain ⟨c,d,dt,sl⟩:=o1;simp only at hd1 hc1;subst hd1;exact hc1
 ·obtain ⟨c,d,dt,sl⟩:=o1;simp only at hd1 hc1;subst hd1;rfl
theorem next_end {it a:Addr} {o:Obj} {es:Array (Int×Value)} {ep:Nat} {t:SetTable} {Q:Option Value->Shared->Prop} (hh:A.handled=none) (ho:s.heap.get? a=some o) (O:SetO w o es ep t) (hit:IsSI s.heap it a (slotAt w t es.size) es.size es.size ep)
  (hQ:∀ h',Heap.ExtBut it s.heap h'->Q none { s with heap:=h' }):wpAny (model prog w) A (pyNext (.ref it)) Q E s:=by
 obtain ⟨oi,hoi,hci,hdi⟩:=id hit
 have hsz:(ordS w a es ep).size=es.size:=by have:=(ordS_perm w a es ep).length_eq;simpa using this
 unfold pyNext
 refine wpAny_bind (wpAny_attempt (wpAny_callSpecial?_slot (name:=Str.ofString "__next__") hit.typeIs slot_si_next
  (wpAny_call_entry slot_si_next hit.typeIs entry_si_next ?_ (args_si_next _))))
 unfold Builtin.«set_iterator.__next__»
 refine wpAny_bind (m:=slotArgs _ _ _) (wpAny_pure ?_)
 refine wpAny_bind (wpAny_fieldsOf hoi hdi ?_)
 dsimp only
 refine wpAny_bind (wpAny_setEntries_of ho O.data (Tab.fits O.tab) ?_)
 simp only [bne_self_eq_false,Bool.false_eq_true,if_false]
 simp only [Int.toNat_natCast]
 refine wpAny_bind (setNext_ok ho O (Nat.le_refl _) ?_)
 rw [Array.getElem?_eq_none (by omega)]
 simp only [Option.map_none]
 refine wpAny_bind (wpAny_setField hoi hdi (by simp) ?_)
 show wpAny _ _ (newExc (.type "StopIteration") []>>=_) _ _ _
 refine wpAny_bind ?_
 simp only [newExc,newTuple]
 refine wpAny_bind (wpAny_newObj_type ?_ (by size_fits))
 refine wpAny_bind (m:=firstArgMember _ _) (wpAny_of_eq (a:=Value.none) (by first | rfl | (simp only [firstArgMember];rfl)) ?_)
 refine wpAny_newObj_type ?_ (by size_fits)
 simp only [raiseNew]
 refine wpAny_bind (wpAny_handled ?_)
 rw [show A.in1.handled=none from hh]
 refine wpAny_bind (wpAny_pure (wpAny_throw ?_))
 refine wpAny_bind (wpAny_isInstance (T:="StopIteration") (b:=true) ⟨_,Heap.get?_push_size _ rfl,rfl⟩ isSubtype_stop ?_)
 exact wpAny_pure (hQ _ (((Heap.SameBut.update ..).extBut.push _).push _))
theorem iter_self {it a:Addr} {slot i n ep:Nat} {Q:Value->Shared->Prop} (hit:IsSI s.heap it a slot i n ep) (h:Q (.ref it) s):wpAny (model prog w) A (pyIter (.ref it)) Q E s:=by
 refine wpAny_pyIter_slot hit.typeIs slot_si_iter (wpAny_call_entry slot_si_iter hit.typeIs entry_si_iter ?_ (args_si_iter _))
 show wpAny _ _ (ret (.ref it)) _ _ s
 exact wpAny_pure ⟨_,rfl,"set_iterator",_,hit.typeIs,slot_si_next.lookup,h⟩
theorem iter_set {a:Addr} {o:Obj} {es:Array (Int×Value)} {ep:Nat} {t:SetTable} {Q:Value->Shared->Prop} (ho:s.heap.get? a=some o) (O:SetO w o es ep t)
  (hQ:Q (.ref s.heap.objs.size) { s with heap:=s.heap.push { cls:=.type "set_iterator",data:=.fields #[.int 0 0,.int 0 0,.ref a,.int es.size 0,.int ep 0] } }):wpAny (model prog w) A (pyIter (.ref a)) Q E s:=by
 have hT:s.TypeIs (.ref a) "set":=⟨o,ho,O.ex.1⟩
 refine wpAny_pyIter_slot hT slot_s_iter (wpAny_call_entry slot_s_iter hT entry_s_iter ?_ (args_s_iter _))
 unfold Builtin.«frozenset.__iter__» Builtin.Frozenset.slot0 slotArgs
 simp only [List.isEmpty_nil,Bool.not_true,Bool.false_eq_true,↓reduceIte,bind_assoc,List.length_nil,bne_self_eq_false]
 unfold Builtin.Frozenset.addrOf Builtin.Frozenset.sizeOf
 simp only [pure_bind,bind_assoc]
 refine wpAny_bind (wpAny_setEntries_of ho O.data (Tab.fits O.tab) ?_)
 unfold setDrawn
 simp only [bind_assoc]
 refine wpAny_bind (wpAny_setState_of ho O.data (Tab.fits O.tab) ?_)
 unfold setsByText
 simp only [bind_assoc]
 refine wpAny_bind (wpAny_askSetting ?_)
 simp only [pure_bind]
 have hdr:∀ b:Bool,(!b&&(!t.plain&&decide (es.size > 1)))=false:=fun b=>by rw [O.plain];simp
 show wpAny (model prog w) A.in1 (if (!(model prog w).w.params.followText "set-order"&&(!t.plain&&decide (es.size > 1)))=true then _ else _) _ _ s
 rw [hdr]
 simp only [Bool.false_eq_true,if_false,pure_bind]
 unfold setEpoch
 simp only [bind_assoc,pure_bind]
 refine wpAny_bind (wpAny_setState_of ho O.data (Tab.fits O.tab) ?_)
 dsimp only
 refine wpAny_bind (wpAny_newObj_type (wpAny_pure ⟨_,rfl,"set_iterator",_,⟨_,Heap.get?_push_size _ rfl,rfl⟩,slot_si_next.lookup,?_⟩))
 exact hQ
theorem walks_set {A:Around} (hh:A.handled=none) {I a:Addr} (hne:a≠I) {o:Obj} {es:Array (Int×Value)} {ep:Nat} {t:SetTable} (O:SetO w o es ep t) :
  Walks prog w A I [I,a] [I] es.size (fun i v=>∃ x,(ordS w a es ep)[i]?=some x/\v=x.2) (fun i h=>IsSI h I a (slotAt w t i) i es.size ep/\h.get? a=some o) where
 sub:=fun b hb=>by simp at hb;simp [hb]
 frame:=fun i h h' st hk=>⟨let ⟨o',e,r⟩:=st.1;⟨o',hk I (by simp) o' e,r⟩,hk a (by simp) o st.2⟩
 item:=fun i s Q E hi st hQ=>by
  have hsz:(ordS w a es ep).size=es.size:=by have:=(ordS_perm w a es ep).length_eq;simpa using this
  have hx:(ordS w a es ep)[i]?=some (ordS w a es ep)[i]:=Array.getElem?_eq_getElem (by omega)
  exact next_item st.2 O st.1 hx fun h' st' sb=>hQ _ h' s.toks ⟨_,hx,rfl⟩ ⟨st',(sb.2 a hne).trans st.2⟩ fun b o' hb e=>sb.extBut b o' (fun h=>hb (by simp [h])) e
 done:=fun s Q E st hQ=>next_end hh st.2 O st.1 fun h' he=>hQ h' s.toks fun b o' hb e=>he b o' (fun h=>hb (by simp [h])) e
 self:=fun i s Q E st hQ=>iter_self st.1 hQ
theorem hint_set {r:Addr} {Q:Bool->Shared->Prop} (hT:s.TypeIs (.ref r) "set") (h:Q false s):wpAny (model prog w) A (Builtin.List.listLengthHint (.ref r)) Q E s:=by
 unfold Builtin.List.listLengthHint
 refine wpAny_bind (wpAny_specialOf hT PySem.F.slot_set_len.lookup ?_)
 generalize hid:("set.__len__":String)=id0
 wp_delta
 rw [show splitId id0=some ("set","__len__") from by subst hid;decide +kernel]
 subst hid
 refine wpAny_bind (wpAny_isInstance (T:="set") (b:=true) hT (by rw [isSubtype_type];kernel_rfl) ?_)
 refine wpAny_ite_split (fun hab=>absurd hab (by decide)) (fun _=>?_)
 refine wpAny_ite_split (fun _=>?_) (fun hab=>absurd (by decide +kernel) hab)
 refine wpAny_bind (wpAny_typeOf hT ?_)
 exact wpAny_pure h
end
end Pv
end
section
namespace Pv
open PySem PySem.Spec PyProof.Rows Tb PySem.SetTable
section
variable {prog:Program} {w:World} {A:Around} {E:Value->Shared->Prop} {s:Shared}
theorem collect_tup {l : Addr} {vs : List Value} {Q : List Value -> Shared -> Prop} (hl : s.heap.IsTuple l vs.toArray)
    (h : Q vs { s with heap := (s.heap.push (seqObj "list" #[] 0)).update s.heap.objs.size (Obj.mapSeq (· ++ vs.toArray)) }) (hsz : vs.length <= sizeLine) :
    wpAny (model prog w) A (collect (.ref l)) Q E s := by
  obtain ⟨o, ho, hc, n, hd⟩ := id hl
  unfold collect
  refine wpAny_bind (wpAny_runValue (codeAny_builtin entry_proto_collect' ?_))
  show wpAny _ _ (do again (.builtin "list.__iadd__" ⟨[<- newList [], .ref l], []⟩)) _ _ s
  refine wpAny_bind (wpAny_newList (wpAny_pure ⟨Code.quiet_builtin _ (by decide +kernel), codeAny_builtin entry_list_iadd' ?_⟩))
  show wpAny _ _ (Builtin.List.listExtendWith (.ref s.heap.objs.size) (.ref l) (.ref s.heap.objs.size)) _ _ { s with heap := s.heap.push (seqObj "list" #[] 0) }
  unfold Builtin.List.listExtendWith
  have ho' : (s.heap.push (seqObj "list" #[] 0)).get? l = some o := Heap.get?_push_of_some _ ho
  refine wpAny_bind (wpAny_typeOf (T := "tuple") ⟨o, ho', hc⟩ ?_)
  have ht : (Value.type "tuple" == Value.type "tuple") = true := by rfl
  rw [if_pos (by rw [ht]; simp)]
  refine wpAny_bind (listItems_at ho' hd ?_)
  refine wpAny_bind (listItems_at (xs := #[]) (n := 0) (Heap.get?_push_size _ rfl) rfl ?_)
  rw [if_neg (by simp)]
  refine wpAny_bind (listUpdate_at (xs := #[]) (n := 0) (Heap.get?_push_size _ rfl) rfl ?_ (Nat.zero_le _) (by show (#[] ++ vs.toArray).size <= sizeLine + 1; simp only [Array.size_append, List.size_toArray, List.length_nil]; omega))
  refine wpAny_pure ?_
  show wpAny (model prog w) A (do
      let o <- load s.heap.objs.size
      match o.data with
      | .seq xs _ => pure xs.toList
      | _ => unsupported "internal:collect") Q E { s with heap := (s.heap.push (seqObj "list" #[] 0)).update s.heap.objs.size (Obj.mapSeq (· ++ vs.toArray)) }
  refine wpAny_bind (wpAny_load (get?_update_seq (Heap.get?_push_size _ rfl) _) ?_)
  show wpAny _ _ (pure ((#[] : Array Value) ++ vs.toArray).toList) Q E _
  rw [show ((#[] : Array Value) ++ vs.toArray).toList = vs by simp]
  exact wpAny_pure h
def Grown (s s':Shared):Prop:=(∀ b o,s.heap.get? b=some o->s'.heap.get? b=some o)/\s'.gens=s.gens/\s'.drawn=s.drawn/\s'.os=s.os
theorem collect_range {r:Addr} {a b c:Int} {t u v:Tok} {n:Nat} {Q:List Value->Shared->Prop} (hh:A.handled=none) (hr:IsRange s.heap r a b c t u v) (hsmall:Builtin.Range.small a b c=true) (hn:Builtin.Range.rangeSize a b c=n) (hlen:n<=2 ^ 24)
  (hQ:∀ s' acc,Grown s s'->ItemsOf (fun i v=>∃ t,v=.int (a+i * c) t) acc n->Q acc.toList s'):wpAny (model prog w) A (collect (.ref r)) Q E s:=by
 unfold collect
 refine wpAny_bind (wpAny_runValue (codeAny_builtin F.entry_proto_collect ?_))
 rw [Around.under_plainId F.plain_proto_collect _]
 show wpAny _ A.in1 (newList []>>=fun l=>again (.builtin "list.__iadd__" ⟨[l,.ref r],[]⟩)) _ _ s
 refine wpAny_bind (wpAny_newObj_type ?_)
 refine wpAny_pure ⟨plainId_quiet F.plain_list_iadd _,codeAny_builtin F.entry_list_iadd ?_⟩
 rw [Around.under_plainId F.plain_list_iadd _]
 show wpAny _ A.in1 (Builtin.List.listExtendWith (.ref s.heap.objs.size) (.ref r) (.ref s.heap.objs.size)) _ _ _
 have hS:(s.heap.push { cls:=.type "list",data:=.seq ([]:List Value).toArray }).get? s.heap.objs.size=some { cls:=.type "list",data:=.seq ([]:List Value).toArray }:=Heap.get?_push_size _ rfl
 refine wpAny_extend_range (A:=A) (R:=wants _ E) (s:={ s with heap:=s.heap.push { cls:=.type "list",data:=.seq ([]:List Value).toArray } }) hh (Heap.get?_push_of_some _ hr) hsmall hn hlen s.heap.objs.size (.ref s.heap.objs.size) 0 hS fun h' tk acc' c' hk hS' hacc=>?_
 show wpAny _ A (load s.heap.objs.size>>=_) _ _ _
 refine wpAny_bind (wpAny_load hS' ?_)
 exact wpAny_pure (hQ _ acc' ⟨fun b o e=>hk b o (Nat.ne_of_lt (Heap.lt_size e)) (Heap.get?_push_of_some _ e),rfl,rfl,rfl⟩ hacc)
theorem collect_set {a:Addr} {o:Obj} {es:Array (Int×Value)} {ep:Nat} {t:SetTable} {Q:List Value->Shared->Prop} (hh:A.handled=none) (ho:s.heap.get? a=some o) (O:SetO w o es ep t) (hn:es.size<=sizeLine)
  (hQ:∀ s' acc,Grown s s'->ItemsOf (fun i v=>∃ x,(ordS w a es ep)[i]?=some x/\v=x.2) acc es.size->Q acc.toList s'):wpAny (model prog w) A (collect (.ref a)) Q E s:=by
 have hlt:a < s.heap.objs.size:=Heap.lt_size ho
 unfold collect
 refine wpAny_bind (wpAny_runValue (codeAny_builtin F.entry_proto_collect ?_))
 rw [Around.under_plainId F.plain_proto_collect _]
 show wpAny _ A.in1 (newList []>>=fun l=>again (.builtin "list.__iadd__" ⟨[l,.ref a],[]⟩)) _ _ s
 refine wpAny_bind (wpAny_newObj_type ?_)
 refine wpAny_pure ⟨plainId_quiet F.plain_list_iadd _,codeAny_builtin F.entry_list_iadd ?_⟩
 rw [Around.under_plainId F.plain_list_iadd _]
 show wpAny _ A.in1 (Builtin.List.listExtendWith (.ref s.heap.objs.size) (.ref a) (.ref s.heap.objs.size)) _ _ _
 unfold Builtin.List.listExtendWith
 have ho1:(s.heap.push { cls:=.type "list",data:=.seq ([]:List Value).toArray }).get? a=some o:=Heap.get?_push_of_some _ ho
 refine wpAny_bind (wpAny_typeOf (T:="set") ⟨o,ho1,O.ex.1⟩ ?_)
 have h1:Builtin.List.listSameRef (.ref s.heap.objs.size) (.ref a)=false:=by
  have hne:s.heap.objs.size≠a:=Ne.symm (Nat.ne_of_lt hlt)
  simp [Builtin.List.listSameRef,hne]
 have h2:(Value.type "set"==Value.type "list")=false:=by decide
 have h3:(Value.type "set"==Value.type "tuple")=false:=by decide
 simp only [h1,h2,h3,Bool.or_false,Bool.false_eq_true,if_false]
 refine wpAny_bind (iter_set (s:={ s with heap:=s.heap.push { cls:=.type "list",data:=.seq ([]:List Value).toArray } }) ho1 O ?_)
 generalize hH:s.heap.push { cls:=.type "list",data:=.seq ([]:List Value).toArray }=H at *
 have hHs:H.objs.size=s.heap.objs.size+1:=by rw [<- hH,Heap.size_push]
 have hltH:a < H.objs.size:=by rw [hHs];exact Nat.lt_succ_of_lt hlt
 refine wpAny_bind (wpAny_holding (hint_set ⟨o,Heap.get?_push_of_some _ ho1,O.ex.1⟩ ?_))
 rw [if_pos (by decide)]
 have hne:a≠H.objs.size:=Nat.ne_of_lt hltH
 have hSH:s.heap.objs.size≠H.objs.size:=by rw [hHs];exact Nat.ne_of_lt (Nat.lt_succ_self _)
 have hSa:s.heap.objs.size≠a:=Ne.symm (Nat.ne_of_lt hlt)
 have hSf:s.heap.objs.size∉[H.objs.size,a]:=fun hm=>by
  rcases List.mem_cons.mp hm with e | e
  ·exact hSH e
  ·exact hSa (List.mem_singleton.mp e)
 generalize hJ:H.push { cls:=.type "set_iterator",data:=.fields #[.int 0 0,.int 0 0,.ref a,.int es.size 0,.int ep 0] }=J
 have hS:J.get? s.heap.objs.size=some { cls:=.type "list",data:=.seq ([]:List Value).toArray }:=hJ ▸ Heap.get?_push_of_some _ (hH ▸ Heap.get?_push_size _ rfl)
 have hoJ:J.get? a=some o:=hJ ▸ Heap.get?_push_of_some _ ho1
 have hiJ:J.get? H.objs.size=some { cls:=.type "set_iterator",data:=.fields #[.int 0 0,.int 0 0,.ref a,.int es.size 0,.int ep 0] }:=hJ ▸ Heap.get?_push_size _ rfl
 have hh1:A.in1.handled=none:=hh
 have st0:slotAt w t 0=0:=by unfold slotAt;split <;> rfl
 refine wpAny_bind (wpAny_rule ?_)
 refine wpAny_bind ?_
 show wpAny _ A.in1 (updateSeq s.heap.objs.size (·.push .none)>>=fun _=>updateSeq s.heap.objs.size (·.pop)) _ _ _
 refine wpAny_bind (wpAny_updateSeq hS rfl ?_)
 have hS₂:=Heap.get?_update_self (Obj.mapSeq (·.push Value.none)) hS rfl
 refine wpAny_updateSeq hS₂ rfl ?_
 have hS₃:=Heap.get?_update_self (Obj.mapSeq (·.pop)) hS₂ rfl
 have oth:∀ b ob,b≠s.heap.objs.size->J.get? b=some ob->((J.update s.heap.objs.size (Obj.mapSeq (·.push Value.none))).update s.heap.objs.size (Obj.mapSeq (·.pop))).get? b=some ob :=
  fun b ob hb e=>(Heap.get?_update_other _ _ (Ne.symm hb)).trans ((Heap.get?_update_other _ _ (Ne.symm hb)).trans e)
 refine wpAny_pure ⟨plainId_quiet F.plain_extend_loop _,codeAny_extend_loopS (walks_set (prog:=prog) (A:=A.in1) hh1 hne O).toS hn _ hSf _ es.size 0 _ _ _ rfl (Nat.zero_le _) ⟨⟨_,oth _ _ (Ne.symm hSH) hiJ,rfl,by rw [st0];rfl⟩,oth _ _ (Ne.symm hSa) hoJ⟩ hS₃ (ItemsOf.nil _) fun s' acc' c' hm hS' hacc=>?_⟩
 show wpAny _ A (load s.heap.objs.size>>=_) _ _ s'
 refine wpAny_bind (wpAny_load hS' ?_)
 refine wpAny_pure (hQ s' acc' ⟨fun b ob e=>hm.heap b ob (fun hb=>?_) (oth b ob (Nat.ne_of_lt (Heap.lt_size e)) (hJ ▸ Heap.get?_push_of_some _ (hH ▸ Heap.get?_push_of_some _ e))),hm.gens,hm.drawn,hm.os⟩ hacc)
 have hlt2:=Heap.lt_size e
 rcases List.mem_cons.mp hb with h | h
 ·rw [h] at hlt2;exact Nat.lt_irrefl _ hlt2
 ·rw [List.mem_singleton.mp h,hHs] at hlt2;exact absurd hlt2 (Nat.not_lt.mpr (Nat.le_succ _))
end
end Pv
end
section
namespace Ks
open PySem PySem.W PyProof.Rows
def run {α:Type} (lt:Nat->Nat->Bool):KasT α->α
 | .ret a=>a
 | .ask i j k=>run lt (k (lt i j))
theorem run_bind {α β:Type} (lt:Nat->Nat->Bool) (f:α->KasT β):∀ t:KasT α,run lt (t.bind f)=run lt (f (run lt t))
 | .ret a=>rfl
 | .ask i j k=>run_bind lt f (k (lt i j))
structure Ord (lt:Nat->Nat->Bool):Prop where
 irr:∀ x,lt x x=false
 tr:∀ x y z,lt y x=false->lt z y=false->lt z x=false
 asym:∀ x y,lt x y=true->lt y x=false
section
variable {lt:Nat->Nat->Bool}
def Srt (lt:Nat->Nat->Bool) (p:Array Nat) (m:Nat):Prop:=∀ i j,i<=j->j < m->lt (p.getD j 0) (p.getD i 0)=false
def Non (lt:Nat->Nat->Bool) (p:Array Nat) (m:Nat):Prop:=∀ i j,i<=j->j < m->lt (p.getD i 0) (p.getD j 0)=false
theorem asc_ok (p:Array Nat):∀ (f n:Nat),1<=n->n<=run lt (kas_asc p f n)/\run lt (kas_asc p f n)<=n+f/\(∀ x,n<=x->x < run lt (kas_asc p f n)->lt (p.getD x 0) (p.getD (x - 1) 0)=false) /\
  (run lt (kas_asc p f n) < n+f->lt (p.getD (run lt (kas_asc p f n)) 0) (p.getD (run lt (kas_asc p f n) - 1) 0)=true)
 | 0,n,hn=>by
  show n<=n/\n<=n+0/\_/\(n < n+0->_)
  exact ⟨by omega,by omega,fun x a b=>by have b:x < n:=b;omega,fun h=>by omega⟩
 | f+1,n,hn=>by
  cases hc:lt (p.getD n 0) (p.getD (n - 1) 0) with
  | true =>
   have e:run lt (kas_asc p (f+1) n)=n:=by
    show run lt ((fun c=>if c=true then KasT.ret n else kas_asc p f (n+1)) (lt (p.getD n 0) (p.getD (n - 1) 0)))=n
    rw [hc];rfl
   rw [e]
   exact ⟨by omega,by omega,fun x a b=>by omega,fun _=>hc⟩
  | false =>
   have e:run lt (kas_asc p (f+1) n)=run lt (kas_asc p f (n+1)):=by
    show run lt ((fun c=>if c=true then KasT.ret n else kas_asc p f (n+1)) (lt (p.getD n 0) (p.getD (n - 1) 0)))=_
    rw [hc];rfl
   rw [e]
   obtain ⟨h1,h2,h3,h4⟩:=asc_ok p f (n+1) (by omega)
   refine ⟨by omega,by omega,fun x a b=>?_,fun h=>h4 (by omega)⟩
   by_cases c:x=n
   ·subst c;exact hc
   ·exact h3 x (by omega) b
theorem srt_ext (O:Ord lt) {p:Array Nat} {n m:Nat} (hs:Srt lt p n) (h:∀ x,n<=x->1<=x->x < m->lt (p.getD x 0) (p.getD (x - 1) 0)=false):Srt lt p m:=by
 intro i j
 induction j with
 | zero =>
  intro hij _
  have e:i=0:=by omega
  subst e;exact O.irr _
 | succ j ih =>
  intro hij hj
  by_cases c:i=j+1
  ·subst c;exact O.irr _
  ·have h1:=ih (by omega) (by omega)
   have h2:lt (p.getD (j+1) 0) (p.getD j 0)=false:=by
    by_cases c2:j+1 < n
    ·exact hs j (j+1) (by omega) c2
    ·exact h (j+1) (by omega) (by omega) hj
   exact O.tr _ _ _ h1 h2
theorem getD_of {p q:Array Nat} {i j:Nat} (h:p[i]?=q[j]?):p.getD i 0=q.getD j 0:=by
 rw [Array.getD_eq_getD_getElem?,Array.getD_eq_getD_getElem?,h]
theorem rev_get {p:Array Nat} {i j:Nat} (hj:j<=p.size) (k:Nat):(kas_rev p i j).getD k 0=if i<=k/\k < j then p.getD (i+j - 1 - k) 0 else p.getD k 0:=by
 have:=getElem?_mirror_all (i:=i) hj k
 unfold kas_rev
 split
 ·rename_i c;rw [if_pos c] at this;exact getD_of this
 ·rename_i c;rw [if_neg c] at this;exact getD_of this
theorem rev_size (p:Array Nat) (i j:Nat):(kas_rev p i j).size=p.size:=mirror_size ..
theorem rev_perm (p:Array Nat) (i j:Nat):(kas_rev p i j).Perm p:=mirror_perm ..
theorem rev_non {p:Array Nat} (O:Ord lt) {a n m:Nat} (hn:n<=p.size) (hnm:n<=m) (hp:Non lt p m) (ha:a<=n)
  (he:∀ x y,a<=x->x < n->a<=y->y < n->lt (p.getD x 0) (p.getD y 0)=false):Non lt (kas_rev p a n) m:=by
 intro i j hij hj
 rw [rev_get hn,rev_get hn]
 by_cases ci:a<=i/\i < n
 ·rw [if_pos ci]
  by_cases cj:a<=j/\j < n
  ·rw [if_pos cj];exact he _ _ (by omega) (by omega) (by omega) (by omega)
  ·rw [if_neg cj];exact hp _ _ (by omega) hj
 ·rw [if_neg ci]
  by_cases cj:a<=j/\j < n
  ·rw [if_pos cj];exact hp _ _ (by omega) (by omega)
  ·rw [if_neg cj];exact hp _ _ hij hj
theorem desc_ok (O : Ord lt) : ∀ (f : Nat) (p : Array Nat) (n q : Nat), n + f <= p.size -> q + 1 <= n -> Non lt p n -> (∀ x y, n - (q + 1) <= x -> x < n -> n - (q + 1) <= y -> y < n -> lt (p.getD x 0) (p.getD y 0) = false) ->
    ∃ p' m q', run lt (kas_desc f p n q) = (p', m, q') /\ p'.Perm p /\ p'.size = p.size /\ n <= m /\ m <= n + f /\ q' + 1 <= m /\ Non lt p' m /\ (∀ x y, m - (q' + 1) <= x -> x < m -> m - (q' + 1) <= y -> y < m -> lt (p'.getD x 0) (p'.getD y 0) = false)
  | 0, p, n, q, h1, h2, h3, h4 => ⟨p, n, q, rfl, Array.Perm.refl _, rfl, by omega, by omega, h2, h3, h4⟩
  | f + 1, p, n, q, h1, h2, h3, h4 => by
    have e : run lt (kas_desc (f + 1) p n q) = run lt ((fun c => if c = true then (if q > 0 then kas_desc f (kas_rev p (n - (q + 1)) n) (n + 1) 0 else kas_desc f p (n + 1) 0)
        else .ask (p.getD (n - 1) 0) (p.getD n 0) fun d => if d = true then .ret (p, n, q) else kas_desc f p (n + 1) (q + 1)) (lt (p.getD n 0) (p.getD (n - 1) 0))) := rfl
    rw [e]
    have ext : ∀ p1 : Array Nat, Non lt p1 n -> lt (p1.getD (n - 1) 0) (p1.getD n 0) = false -> Non lt p1 (n + 1) := fun p1 hp hx i j hij hj => by
      by_cases c : j = n
      · subst c
        by_cases c2 : i = j
        · subst c2; exact O.irr _
        · exact O.tr _ _ _ hx (hp i (j - 1) (by omega) (by omega))
      · exact hp i j hij (by omega)
    cases hc : lt (p.getD n 0) (p.getD (n - 1) 0) with
    | true =>
      have hx := O.asym _ _ hc
      show ∃ p' m q', run lt (if q > 0 then kas_desc f (kas_rev p (n - (q + 1)) n) (n + 1) 0 else kas_desc f p (n + 1) 0) = _ /\ _
      by_cases cq : q > 0
      · rw [if_pos cq]
        have hr := rev_non O (p := p) (a := n - (q + 1)) (n := n) (m := n) (by omega) (Nat.le_refl _) h3 (by omega) h4
        have hr' := rev_non O (p := p) (a := n - (q + 1)) (n := n) (m := n + 1) (by omega) (by omega) (ext p h3 hx) (by omega) h4
        obtain ⟨p', m, q', a1, a2, a3, a4, a5, a6, a7, a8⟩ := desc_ok O f (kas_rev p (n - (q + 1)) n) (n + 1) 0 (by rw [rev_size]; omega) (by omega) hr' (fun x y b1 b2 b3 b4 => by
          have e1 : x = n := by omega
          have e2 : y = n := by omega
          subst e1; rw [e2]; exact O.irr _)
        exact ⟨p', m, q', a1, a2.trans (rev_perm _ _ _), by rw [a3, rev_size], by omega, by omega, a6, a7, a8⟩
      · rw [if_neg cq]
        obtain ⟨p', m, q', a1, a2, a3, a4, a5, a6, a7, a8⟩ := desc_ok O f p (n + 1) 0 (by omega) (by omega) (ext p h3 hx) (fun x y b1 b2 b3 b4 => by
          have e1 : x = n := by omega
          have e2 : y = n := by omega
          subst e1; rw [e2]; exact O.irr _)
        exact ⟨p', m, q', a1, a2, a3, by omega, by omega, a6, a7, a8⟩
    | false =>
      show ∃ p' m q', run lt ((fun d => if d = true then KasT.ret (p, n, q) else kas_desc f p (n + 1) (q + 1)) (lt (p.getD (n - 1) 0) (p.getD n 0))) = _ /\ _
      cases hd : lt (p.getD (n - 1) 0) (p.getD n 0) with
      | true => exact ⟨p, n, q, rfl, Array.Perm.refl _, rfl, by omega, by omega, h2, h3, h4⟩
      | false =>
        obtain ⟨p', m, q', a1, a2, a3, a4, a5, a6, a7, a8⟩ := desc_ok O f p (n + 1) (q + 1) (by omega) (by omega) (ext p h3 hd) (fun x y b1 b2 b3 b4 => by
          have k1 : ∀ z, n - (q + 1) <= z -> z < n -> lt (p.getD z 0) (p.getD n 0) = false := fun z c1 c2 => O.tr _ _ _ hd (h4 z (n - 1) c1 c2 (by omega) (by omega))
          have k2 : ∀ z, n - (q + 1) <= z -> z < n -> lt (p.getD n 0) (p.getD z 0) = false := fun z c1 c2 => O.tr _ _ _ (h4 (n - 1) z (by omega) (by omega) c1 c2) hc
          by_cases e1 : x = n
          · by_cases e2 : y = n
            · rw [e1, e2]; exact O.irr _
            · rw [e1]; exact k2 y (by omega) (by omega)
          · by_cases e2 : y = n
            · rw [e2]; exact k1 x (by omega) (by omega)
            · exact h4 x y (by omega) (by omega) (by omega) (by omega))
        exact ⟨p', m, q', a1, a2, a3, by omega, by omega, a6, a7, a8⟩
theorem tail3_ok (O:Ord lt) {p:Array Nat} {n nrem:Nat} (h1:1<=n) (hn:n<=nrem) (hz:nrem<=p.size) (hp:Non lt p n) :
  ∃ m p',run lt (kas_tail3 n nrem p)=(m,p')/\p'.Perm p/\p'.size=p.size/\1<=m/\m<=nrem/\Srt lt p' m:=by
 obtain ⟨a1,a2,a3,_⟩:=asc_ok (lt:=lt) (kas_rev p 0 n) (nrem - n) n h1
 refine ⟨run lt (kas_asc (kas_rev p 0 n) (nrem - n) n),kas_rev p 0 n,?_,rev_perm _ _ _,rev_size _ _ _,by omega,by omega,?_⟩
 ·unfold kas_tail3;rw [run_bind];rfl
 ·refine srt_ext O (n:=n) (fun i j hij hj=>?_) fun x b1 _ b3=>a3 x b1 b3
  rw [rev_get (by omega),rev_get (by omega),if_pos (by omega),if_pos (by omega)]
  exact hp _ _ (by omega) (by omega)
theorem descPart_ok (O:Ord lt) {p:Array Nat} {n nrem:Nat} (h1:1<=n) (hn:n < nrem) (hz:nrem<=p.size) (hp:Non lt p (n+1)) :
  ∃ m p',run lt (kas_descPart n nrem p)=(m,p')/\p'.Perm p/\p'.size=p.size/\1<=m/\m<=nrem/\Srt lt p' m:=by
 obtain ⟨p1,m,q,a1,a2,a3,a4,a5,a6,a7,a8⟩:=desc_ok O (nrem - (n+1)) p (n+1) 0 (by omega) (by omega) hp (fun x y b1 b2 b3 b4=>by
  have e1:x=n:=by omega
  have e2:y=n:=by omega
  rw [e1,e2];exact O.irr _)
 have e:run lt (kas_descPart n nrem p)=run lt (if q > 0 then kas_tail3 m nrem (kas_rev p1 (m - (q+1)) m) else kas_tail3 m nrem p1):=by
  unfold kas_descPart;rw [run_bind,a1]
 rw [e]
 by_cases cq:q > 0
 ·rw [if_pos cq]
  obtain ⟨m',p',b1,b2,b3,b4,b5,b6⟩:=tail3_ok O (p:=kas_rev p1 (m - (q+1)) m) (n:=m) (nrem:=nrem) (by omega) (by omega) (by rw [rev_size];omega) (rev_non O (by omega) (Nat.le_refl _) a7 (by omega) a8)
  exact ⟨m',p',b1,b2.trans ((rev_perm _ _ _).trans a2),by rw [b3,rev_size,a3],b4,b5,b6⟩
 ·rw [if_neg cq]
  obtain ⟨m',p',b1,b2,b3,b4,b5,b6⟩:=tail3_ok O (p:=p1) (n:=m) (nrem:=nrem) (by omega) (by omega) (by omega) a7
  exact ⟨m',p',b1,b2.trans a2,by rw [b3,a3],b4,b5,b6⟩
theorem count_ok (O : Ord lt) {p : Array Nat} {nrem : Nat} (h1 : 1 <= nrem) (hz : nrem <= p.size) :
    ∃ m p', run lt (kas_count nrem p) = (m, p') /\ p'.Perm p /\ p'.size = p.size /\ 1 <= m /\ m <= nrem /\ Srt lt p' m := by
  obtain ⟨a1, a2, a3, a4⟩ := asc_ok (lt := lt) p (nrem - 1) 1 (by omega)
  generalize hn : run lt (kas_asc p (nrem - 1) 1) = n at a1 a2 a3 a4
  have s0 : Srt lt p n := srt_ext O (n := 0) (fun i j _ h => absurd h (Nat.not_lt_zero _)) fun x _ b2 b3 => a3 x b2 b3
  have e : run lt (kas_count nrem p) = run lt (if (n == nrem) = true then .ret (n, p) else if n > 1 then .ask (p.getD 0 0) (p.getD (n - 1) 0) fun c => if c = true then .ret (n, p) else kas_descPart n nrem (kas_rev p 0 n)
    else kas_descPart n nrem p) := by unfold kas_count; rw [run_bind, hn]
  rw [e]
  by_cases c1 : n = nrem
  · rw [if_pos (by simpa using c1)]
    exact ⟨n, p, rfl, Array.Perm.refl _, rfl, a1, by omega, s0⟩
  · rw [if_neg (by simpa using c1)]
    have hlt : lt (p.getD n 0) (p.getD (n - 1) 0) = true := a4 (by omega)
    by_cases c2 : n > 1
    · rw [if_pos c2]
      show ∃ m p', run lt ((fun c => if c = true then KasT.ret (n, p) else kas_descPart n nrem (kas_rev p 0 n)) (lt (p.getD 0 0) (p.getD (n - 1) 0))) = _ /\ _
      cases c3 : lt (p.getD 0 0) (p.getD (n - 1) 0) with
      | true => exact ⟨n, p, rfl, Array.Perm.refl _, rfl, a1, by omega, s0⟩
      | false =>
        have eq : ∀ x y, x < n -> y < n -> lt (p.getD x 0) (p.getD y 0) = false := fun x y hx hy =>
          O.tr _ _ _ (O.tr _ _ _ (s0 y (n - 1) (by omega) (by omega)) c3) (s0 0 x (Nat.zero_le _) hx)
        obtain ⟨m, p', b1, b2, b3, b4, b5, b6⟩ := descPart_ok O (p := kas_rev p 0 n) (n := n) (nrem := nrem) a1 (by omega) (by rw [rev_size]; omega) (fun i j hij hj => by
          rw [rev_get (by omega), rev_get (by omega)]
          by_cases ci : i < n
          · rw [if_pos ⟨Nat.zero_le _, ci⟩]
            by_cases cj : j < n
            · rw [if_pos ⟨Nat.zero_le _, cj⟩]; exact eq _ _ (by omega) (by omega)
            · rw [if_neg (by omega)]
              have e2 : j = n := by omega
              subst e2
              exact O.tr _ _ _ (O.asym _ _ hlt) (eq _ _ (by omega) (by omega))
          · have e1 : i = n := by omega
            have e2 : j = n := by omega
            rw [if_neg (by omega), if_neg (by omega), e1, e2]
            exact O.irr _)
        exact ⟨m, p', b1, b2.trans (rev_perm _ _ _), by rw [b3, rev_size], b4, b5, b6⟩
    · rw [if_neg c2]
      have e1 : n = 1 := by omega
      subst e1
      refine descPart_ok O (by omega) (by omega) hz (fun i j hij hj => ?_)
      by_cases c : i = j
      · subst c; exact O.irr _
      · have e1 : i = 0 := by omega
        have e2 : j = 1 := by omega
        subst e1 e2
        exact O.asym _ _ hlt
theorem place_ok (O:Ord lt) {p:Array Nat} {k:Nat} (hs:Srt lt p k):∀ (f l r:Nat),r - l<=f->l<=r->r<=k->(∀ x,x < l->lt (p.getD k 0) (p.getD x 0)=false)->(∀ x,r<=x->x < k->lt (p.getD k 0) (p.getD x 0)=true) ->
  run lt (kas_place p k f l r)<=k/\(∀ x,x < run lt (kas_place p k f l r)->lt (p.getD k 0) (p.getD x 0)=false)/\(∀ x,run lt (kas_place p k f l r)<=x->x < k->lt (p.getD k 0) (p.getD x 0)=true)
 | 0,l,r,h1,h2,h3,h4,h5=>by
  have e:l=r:=by omega
  subst e
  exact ⟨h3,h4,h5⟩
 | f+1,l,r,h1,h2,h3,h4,h5=>by
  by_cases c:l>=r
  ·have e:run lt (kas_place p k (f+1) l r)=l:=by
    show run lt (if l>=r then KasT.ret l else _)=l
    rw [if_pos c];rfl
   rw [e]
   have e:l=r:=by omega
   subst e
   exact ⟨h3,h4,h5⟩
  ·have e:run lt (kas_place p k (f+1) l r)=run lt ((fun c=>if c=true then kas_place p k f l ((l+r) / 2) else kas_place p k f ((l+r) / 2+1) r) (lt (p.getD k 0) (p.getD ((l+r) / 2) 0))):=by
    show run lt (if l>=r then KasT.ret l else _)=_
    rw [if_neg c];rfl
   rw [e]
   cases hc:lt (p.getD k 0) (p.getD ((l+r) / 2) 0) with
   | true =>
    refine place_ok O hs f l ((l+r) / 2) (by omega) (by omega) (by omega) h4 fun x hx hxk=>?_
    have hle:=hs ((l+r) / 2) x hx hxk
    cases hq:lt (p.getD k 0) (p.getD x 0) with
    | true=>rfl
    | false=>have:=O.tr _ _ _ hle hq;rw [hc] at this;cases this
   | false =>
    refine place_ok O hs f ((l+r) / 2+1) r (by omega) (by omega) h3 (fun x hx=>?_) h5
    exact O.tr _ _ _ (hs x ((l+r) / 2) (by omega) (by omega)) hc
theorem bub_get {p:Array Nat} {k d:Nat} (hk:k < p.size) (hd:d<=k) (x:Nat):(bubble p k d).getD x 0=if x=k - d then p.getD k 0 else if k - d < x/\x<=k then p.getD (x - 1) 0 else p.getD x 0:=by
 have:=getElem?_bubble hk d hd x
 by_cases c:x=k - d
 ·rw [if_pos c] at this ⊢;exact getD_of this
 ·rw [if_neg c] at this ⊢
  by_cases c2:k - d < x/\x<=k
  ·rw [if_pos c2] at this ⊢;exact getD_of this
  ·rw [if_neg c2] at this ⊢;exact getD_of this
theorem bin_ok (O : Ord lt) : ∀ (f : Nat) (p : Array Nat) (k : Nat), k + f <= p.size -> Srt lt p k ->
    (run lt (kas_bin f p k)).Perm p /\ (run lt (kas_bin f p k)).size = p.size /\ Srt lt (run lt (kas_bin f p k)) (k + f)
  | 0, p, k, h1, hs => ⟨Array.Perm.refl _, rfl, hs⟩
  | f + 1, p, k, h1, hs => by
    obtain ⟨a1, a2, a3⟩ := place_ok O hs k 0 k (by omega) (by omega) (Nat.le_refl _) (fun x hx => absurd hx (Nat.not_lt_zero _)) (fun x h1 h2 => by omega)
    have e : run lt (kas_bin (f + 1) p k) = run lt (kas_bin f (bubble p k (k - run lt (kas_place p k k 0 k))) (k + 1)) := by
      show run lt ((kas_place p k k 0 k).bind fun l => kas_bin f (bubble p k (k - l)) (k + 1)) = _
      rw [run_bind]
    rw [e]
    generalize run lt (kas_place p k k 0 k) = l at a1 a2 a3
    have hsz : (bubble p k (k - l)).size = p.size := bubble_size ..
    have hs' : Srt lt (bubble p k (k - l)) (k + 1) := by
      intro i j hij hj
      have ekl : k - (k - l) = l := by omega
      rw [bub_get (by omega) (by omega), bub_get (by omega) (by omega), ekl]
      by_cases cj : j = l
      · rw [if_pos cj]
        by_cases ci : i = l
        · rw [if_pos ci]; exact O.irr _
        · rw [if_neg ci, if_neg (by omega)]; exact a2 i (by omega)
      · rw [if_neg cj]
        by_cases cj2 : l < j /\ j <= k
        · rw [if_pos cj2]
          by_cases ci : i = l
          · rw [if_pos ci]; exact O.asym _ _ (a3 (j - 1) (by omega) (by omega))
          · rw [if_neg ci]
            by_cases ci2 : l < i /\ i <= k
            · rw [if_pos ci2]; exact hs _ _ (by omega) (by omega)
            · rw [if_neg ci2]; exact hs _ _ (by omega) (by omega)
        · rw [if_neg cj2, if_neg (show ¬ i = l by omega), if_neg (show ¬ (l < i /\ i <= k) by omega)]
          exact hs _ _ hij (by omega)
    obtain ⟨b1, b2, b3⟩ := bin_ok O f (bubble p k (k - l)) (k + 1) (by omega) hs'
    exact ⟨b1.trans (bubble_perm _ _ _), by rw [b2, hsz], by rw [show k + (f + 1) = k + 1 + f by omega]; exact b3⟩
theorem sort_ok (O:Ord lt) {n:Nat} (hn:1<=n):(run lt (kas_sort n)).toList.Perm (List.range n)/\(run lt (kas_sort n)).size=n/\Srt lt (run lt (kas_sort n)) n:=by
 obtain ⟨m,p,a1,a2,a3,a4,a5,a6⟩:=count_ok O (p:=(List.range n).toArray) (nrem:=n) hn (by simp)
 have e:run lt (kas_sort n)=run lt (if m < n then kas_bin (n - max m 1) p (max m 1) else .ret p):=by unfold kas_sort;rw [run_bind,a1]
 rw [e]
 have hz:p.size=n:=by rw [a3];simp
 have hp:p.toList.Perm (List.range n):=by have:=Array.perm_iff_toList_perm.mp a2;simpa using this
 by_cases c:m < n
 ·rw [if_pos c,show max m 1=m by omega]
  obtain ⟨b1,b2,b3⟩:=bin_ok O (n - m) p m (by omega) a6
  exact ⟨(Array.perm_iff_toList_perm.mp b1).trans hp,by rw [b2,hz],by rw [show m+(n - m)=n by omega] at b3;exact b3⟩
 ·rw [if_neg c]
  have e:m=n:=by omega
  subst e
  exact ⟨hp,hz,a6⟩
end
end Ks
end
section
namespace Ks
open PySem PySem.W PyProof.Rows
def BdQ {α:Type} (n:Nat) (P:α->Prop):KasT α->Prop
 | .ret a=>P a
 | .ask i j k=>i < n/\j < n/\∀ b,BdQ n P (k b)
theorem BdQ.bind {α β:Type} {n:Nat} {P:α->Prop} {P':β->Prop} {f:α->KasT β} (hf:∀ a,P a->BdQ n P' (f a)):∀ {t:KasT α},BdQ n P t->BdQ n P' (t.bind f)
 | .ret a,h=>hf a h
 | .ask i j k,h=>⟨h.1,h.2.1,fun b=>BdQ.bind hf (h.2.2 b)⟩
theorem run_wp {α:Type} {n:Nat} {P:α->Prop} {cmp:Nat->Nat->(Bool->Shared->Prop)->Shared->Prop} {lt:Nat->Nat->Bool} {s:Shared} (hc:∀ (i j:Nat) (C:Bool->Shared->Prop),i < n->j < n->C (lt i j) s->cmp i j C s) {G:α->Shared->Prop} :
  ∀ {t:KasT α},BdQ n P t->G (run lt t) s->t.kasWp cmp G s
 | .ret a,_,h=>h
 | .ask i j k,b,h=>hc i j _ b.1 b.2.1 (run_wp hc (b.2.2 (lt i j)) h)
def Ent (n:Nat) (p:Array Nat):Prop:=∀ x∈p.toList,x < n
theorem Ent.get {n : Nat} (hn : 0 < n) {p : Array Nat} (h : Ent n p) (i : Nat) : p.getD i 0 < n := by
  rw [Array.getD_eq_getD_getElem?]
  cases q : p[i]? with
  | none => exact hn
  | some x =>
    have : x ∈ p.toList := by
      have hi := Array.getElem?_eq_some_iff.mp q
      obtain ⟨hi, e⟩ := hi
      rw [<- e]
      simp
    exact h x this
theorem Ent.perm {n:Nat} {p q:Array Nat} (h:Ent n p) (e:q.Perm p):Ent n q:=fun x hx=>h x ((Array.perm_iff_toList_perm.mp e).mem_iff.mp hx)
theorem bd_asc {n:Nat} (hn:0 < n) {p:Array Nat} (h:Ent n p):∀ (f k:Nat),BdQ n (fun _=>True) (kas_asc p f k)
 | 0,k=>trivial
 | f+1,k=>⟨h.get hn _,h.get hn _,fun b=>by
  cases b with
  | true=>exact trivial
  | false=>exact bd_asc hn h f (k+1)⟩
theorem bd_desc {n:Nat} (hn:0 < n):∀ (f:Nat) (p:Array Nat) (k q:Nat),Ent n p->BdQ n (fun r=>Ent n r.1) (kas_desc f p k q)
 | 0,p,k,q,h=>h
 | f+1,p,k,q,h=>⟨h.get hn _,h.get hn _,fun b=>by
  cases b with
  | true =>
   show BdQ n _ (if q > 0 then kas_desc f (kas_rev p (k - (q+1)) k) (k+1) 0 else kas_desc f p (k+1) 0)
   by_cases c:q > 0
   ·rw [if_pos c];exact bd_desc hn f _ _ _ (h.perm (rev_perm ..))
   ·rw [if_neg c];exact bd_desc hn f _ _ _ h
  | false =>
   exact ⟨h.get hn _,h.get hn _,fun b=>by
    cases b with
    | true=>exact h
    | false=>exact bd_desc hn f _ _ _ h⟩⟩
theorem bd_tail3 {n:Nat} (hn:0 < n) {p:Array Nat} (h:Ent n p) (k m:Nat):BdQ n (fun r:Nat×Array Nat=>Ent n r.2) (kas_tail3 k m p):=by
 unfold kas_tail3
 refine BdQ.bind (P:=fun _=>True) ?_ (bd_asc hn (h.perm (rev_perm ..)) _ _)
 intro a _
 exact h.perm (rev_perm ..)
theorem bd_descPart {n:Nat} (hn:0 < n) {p:Array Nat} (h:Ent n p) (k m:Nat):BdQ n (fun r:Nat×Array Nat=>Ent n r.2) (kas_descPart k m p):=by
 refine BdQ.bind (fun r hr=>?_) (bd_desc hn _ _ _ _ h)
 by_cases c:r.2.2 > 0
 ·simp only [if_pos c];exact bd_tail3 hn (hr.perm (rev_perm ..)) _ _
 ·simp only [if_neg c];exact bd_tail3 hn hr _ _
theorem bd_count {n:Nat} (hn:0 < n) {p:Array Nat} (h:Ent n p) (m:Nat):BdQ n (fun r:Nat×Array Nat=>Ent n r.2) (kas_count m p):=by
 refine BdQ.bind (fun k _=>?_) (bd_asc hn h _ _)
 by_cases c:(k==m)=true
 ·simp only [if_pos c];exact h
 ·simp only [if_neg c]
  by_cases c2:k > 1
  ·simp only [if_pos c2]
   exact ⟨h.get hn _,h.get hn _,fun b=>by
    cases b with
    | true=>exact h
    | false=>exact bd_descPart hn (h.perm (rev_perm ..)) _ _⟩
  ·simp only [if_neg c2];exact bd_descPart hn h _ _
theorem bd_place {n:Nat} (hn:0 < n) {p:Array Nat} (h:Ent n p) (k:Nat):∀ (f l r:Nat),BdQ n (fun _=>True) (kas_place p k f l r)
 | 0,l,r=>trivial
 | f+1,l,r=>by
  unfold kas_place
  by_cases c:l>=r
  ·rw [if_pos c];exact trivial
  ·rw [if_neg c]
   exact ⟨h.get hn _,h.get hn _,fun b=>by
    cases b with
    | true=>exact bd_place hn h k f _ _
    | false=>exact bd_place hn h k f _ _⟩
theorem bd_bin {n:Nat} (hn:0 < n):∀ (f:Nat) (p:Array Nat) (k:Nat),Ent n p->BdQ n (Ent n) (kas_bin f p k)
 | 0,p,k,h=>h
 | f+1,p,k,h=>BdQ.bind (fun l _=>bd_bin hn f _ _ (h.perm (bubble_perm _ _ _))) (bd_place hn h k _ _ _)
theorem bd_sort {n:Nat} (hn:0 < n):BdQ n (Ent n) (kas_sort n):=by
 refine BdQ.bind (fun r hr=>?_) (bd_count hn (p:=(List.range n).toArray) (fun x hx=>by simpa using hx) n)
 by_cases c:r.1 < n
 ·simp only [if_pos c];exact bd_bin hn _ _ _ hr
 ·simp only [if_neg c];exact hr
section
variable {κ:Type} {lt:κ->κ->Bool}
def ltI (lt:κ->κ->Bool) (z:κ) (ks:List κ) (i j:Nat):Bool:=lt (ks.getD i z) (ks.getD j z)
theorem ord_of (L:Pu.Lin lt) (z:κ) (ks:List κ):Ord (ltI lt z ks) where
 irr:=fun x=>L.irr _
 tr:=fun x y z h1 h2=>Pu.lin_ntr L h1 h2
 asym:=fun x y h=>Pu.lin_tot L h
theorem getD_range (z:κ) (ks:List κ):(List.range ks.length).map (fun i=>ks.getD i z)=ks:=by
 apply List.ext_getElem?
 intro i
 rw [List.getElem?_map]
 by_cases h:i < ks.length
 ·rw [List.getElem?_range h];simp [List.getD,h]
 ·rw [List.getElem?_eq_none (by simpa using h),List.getElem?_eq_none (by simpa using h)];rfl
theorem sorted_keys (L:Pu.Lin lt) (z:κ) (ks:List κ) (hn:1<=ks.length):((run (ltI lt z ks) (kas_sort ks.length)).toList.map fun i=>ks.getD i z)=Pu.srt lt ks:=by
 obtain ⟨h1,h2,h3⟩:=sort_ok (ord_of L z ks) hn
 refine Pu.wasc_uniq L ?_ (Pu.wasc_srt L ks) ?_
 ·unfold Pu.WAsc
  rw [List.pairwise_map,List.pairwise_iff_getElem]
  intro i j hi hj hij
  have hi':i < (run (ltI lt z ks) (kas_sort ks.length)).size:=by simpa using hi
  have hj':j < (run (ltI lt z ks) (kas_sort ks.length)).size:=by simpa using hj
  have:=h3 i j (Nat.le_of_lt hij) (by omega)
  unfold ltI at this
  have e1:(run (ltI lt z ks) (kas_sort ks.length)).getD i 0=(run (ltI lt z ks) (kas_sort ks.length)).toList[i]:=by simp [Array.getD,hi']
  have e2:(run (ltI lt z ks) (kas_sort ks.length)).getD j 0=(run (ltI lt z ks) (kas_sort ks.length)).toList[j]:=by simp [Array.getD,hj']
  rw [<- e1,<- e2]
  exact this
 ·refine ((h1.map fun i=>ks.getD i z).trans ?_).trans (Pu.perm_srt ks).symm
  rw [getD_range]
end
end Ks
end
section
namespace Ks
open PySem PySem.W PyProof.Rows PySem.Calls
section
variable {prog:Program} {w:World} {A:Around} {E:Value->Shared->Prop} {s:Shared}
def outOf (lt:Nat->Nat->Bool) (vs:List Value):List Value:=if vs.length < 2 then vs else (run lt (kas_sort vs.length)).toList.map fun i=>vs.getD i Value.none
theorem outOf_len {κ:Type} {lt:κ->κ->Bool} (L:Pu.Lin lt) (z:κ) (ks:List κ) {vs:List Value} (h:ks.length=vs.length):(outOf (ltI lt z ks) vs).length=vs.length:=by
 unfold outOf
 by_cases c:vs.length < 2
 ·rw [if_pos c]
 ·rw [if_neg c,List.length_map]
  have:=(sort_ok (ord_of L z ks) (n:=vs.length) (by omega)).2.1
  rw [Array.length_toList,this]
theorem list_sort_at {a : Addr} {vs : List Value} {n : Nat} {κ : SortKind} {lt : Nat -> Nat -> Bool} {P : PySem.Fin -> Shared -> Prop} (ho : s.heap.get? a = some (seqObj "list" vs.toArray n)) (h64 : vs.length < 64) (hlen : (outOf lt vs).length = vs.length)
    (hk : 2 <= vs.length -> ∀ (h' : Heap), (∀ b o, b ≠ a -> s.heap.get? b = some o -> h'.get? b = some o) -> ∀ Q : SortKind -> Shared -> Prop, Q κ { s with heap := h' } -> wpAny (model prog w) A (keyKind' vs.toArray) Q E { s with heap := h' })
    (hc : 2 <= vs.length -> ∀ (h' : Heap), (∀ b o, b ≠ a -> s.heap.get? b = some o -> h'.get? b = some o) -> ∀ (i j : Nat) (C : Bool -> Shared -> Prop), i < vs.length -> j < vs.length -> C (lt i j) { s with heap := h' } -> kas_ask prog w A κ vs i j C { s with heap := h' })
    (h : ∀ (h' : Heap) (c : Nat), (∀ b o, b ≠ a -> s.heap.get? b = some o -> h'.get? b = some o) -> h'.get? a = some (seqObj "list" (outOf lt vs).toArray c) -> P (.done (.ret .none)) { s with heap := h' }) :
    wpAny (model prog w) A (Builtin.«list.sort» ⟨[.ref a], []⟩) P E s := by
  rw [list_sort_plain]
  have ha : a < s.heap.objs.size := Heap.lt_size ho
  refine wpAny_bind (listItems_at ho rfl ?_)
  refine wpAny_bind (listUpdate_at ho rfl ?_ (by rw [List.size_toArray, sizeLine_eq]; omega) (Nat.zero_le _))
  obtain ⟨e1, ho1⟩ : ∃ e1, (s.heap.update a (Obj.mapSeq fun _ => (#[] : Array Value))).get? a = some (seqObj "list" #[] e1) := ⟨_, get?_update_seq ho fun _ => #[]⟩
  refine wpAny_bind (seqEpoch_at ho1 rfl ?_)
  refine wpAny_bind (wpAny_newTuple ?_ (by show vs.length <= _; rw [sizeLine_eq]; omega))
  refine wpAny_bind (wpAny_newList ?_ (Nat.zero_le _))
  refine wpAny_holding ?_
  have ho6 : (((s.heap.update a (Obj.mapSeq fun _ => (#[] : Array Value))).push (seqObj "tuple" vs.toArray 0)).push (seqObj "list" #[] 0)).get? a = some (seqObj "list" #[] e1) := Heap.get?_push_of_some _ (Heap.get?_push_of_some _ ho1)
  have keep : ∀ b o, b ≠ a -> s.heap.get? b = some o -> (((s.heap.update a (Obj.mapSeq fun _ => (#[] : Array Value))).push (seqObj "tuple" vs.toArray 0)).push (seqObj "list" #[] 0)).get? b = some o := fun b o hb q =>
    Heap.get?_push_of_some _ (Heap.get?_push_of_some _ ((Heap.get?_update_other _ _ (Ne.symm hb)).trans q))
  show wpAny (model prog w) A _ P E { s with heap := ((s.heap.update a (Obj.mapSeq fun _ => (#[] : Array Value))).push (seqObj "tuple" vs.toArray 0)).push (seqObj "list" #[] 0) }
  generalize ((s.heap.update a (Obj.mapSeq fun _ => (#[] : Array Value))).push (seqObj "tuple" vs.toArray 0)).push (seqObj "list" #[] 0) = h1 at ho6 keep
  dsimp only
  have fin : ∀ (out : List Value), out.length = vs.length -> out = outOf lt vs -> P (.done (.ret .none)) { s with heap := h1.update a (Obj.mapSeq fun _ => out.toArray) } := fun out hl e => by
    subst e
    obtain ⟨c2, hc2⟩ : ∃ c2, (h1.update a (Obj.mapSeq fun _ => (outOf lt vs).toArray)).get? a = some (seqObj "list" (outOf lt vs).toArray c2) := ⟨_, get?_update_seq ho6 fun _ => (outOf lt vs).toArray⟩
    exact h _ c2 (fun b o hb q => (Heap.get?_update_other _ _ (Ne.symm hb)).trans (keep b o hb q)) hc2
  by_cases h2 : vs.toArray.size < 2
  · rw [if_pos h2, if_pos h2]
    refine wpAny_bind (wpAny_pure ?_)
    rw [StateT.run_pure]
    refine wpAny_bind (wpAny_pure ?_)
    dsimp only
    refine wpAny_bind (seqEpoch_at ho6 rfl ?_)
    have e3 : (arrOf (SortSt.mk' general' (vs.toArray.zip vs.toArray) #[] 7 none)).map (·.2) = vs.toArray := by
      show (vs.toArray.zip vs.toArray).map (·.2) = _
      simp [List.map_snd_zip]
    rw [e3]
    refine wpAny_bind (listUpdate_at ho6 rfl ?_ (Nat.zero_le _) (by rw [List.size_toArray, sizeLine_eq]; omega))
    simp only [bne_self_eq_false, Bool.false_eq_true, if_false]
    refine wpAny_pure (fin vs rfl ?_)
    unfold outOf; rw [if_pos (by simpa using h2)]
  · rw [if_neg h2, if_neg h2]
    have h2' : 2 <= vs.length := by simp at h2; exact h2
    refine wpAny_bind (hk h2' h1 keep _ ?_)
    refine wpAny_bind (wpAny_mono (kat_run (ks := vs) (vs := vs) (κ := κ) (Q := fun st' s' => s' = { s with heap := h1 } /\ ∃ p : Array Nat, arrOf st' = p.map (kas_item (vs.toArray.zip vs.toArray)) /\ failedOf st' = none /\ p = run lt (kas_sort vs.length))
      (G := fun p s' => s' = { s with heap := h1 } /\ p = run lt (kas_sort vs.length)) rfl h2' h64 (fun p st' s' _ a2 a3 a4 => ⟨a4.1, p, a2, a3, a4.2⟩) (run_wp (hc h2' h1 keep) (bd_sort (by omega)) ⟨rfl, rfl⟩)) ?_ fun _ _ e => e)
    rintro ⟨⟨⟩, st'⟩ s' ⟨rfl, p, har, hf, rfl⟩
    dsimp only
    have hout := kat_snds (ks := vs) (vs := vs) rfl har
    have eo : ((run lt (kas_sort vs.length)).toList.map fun i => vs.getD i Value.none) = outOf lt vs := by unfold outOf; rw [if_neg (by omega)]
    rw [eo] at hout
    rw [hout]
    refine wpAny_bind (seqEpoch_at ho6 rfl ?_)
    refine wpAny_bind (listUpdate_at ho6 rfl ?_ (Nat.zero_le _) (by rw [List.size_toArray, hlen, sizeLine_eq]; omega))
    rw [hf]
    simp only [bne_self_eq_false, Bool.false_eq_true, if_false]
    exact wpAny_pure (fin (outOf lt vs) hlen rfl)
theorem ints_get:∀ {vs:List Value} {ns:List Int} (h:IntsAre vs ns) (i:Nat),i < vs.length->∃ t,vs.getD i Value.none=.int (ns.getD i 0) t
 | _,_,.nil,i,h=>by simp at h
 | _,_,.cons n t _,0,_=>⟨t,rfl⟩
 | _,_,.cons n t r,i+1,h=>by
  obtain ⟨u,e⟩:=ints_get r i (by simpa using h)
  exact ⟨u,by simpa [List.getD] using e⟩
theorem ints_len:∀ {vs:List Value} {ns:List Int} (h:IntsAre vs ns),ns.length=vs.length
 | _,_,.nil=>rfl
 | _,_,.cons n t r=>by simp [ints_len r]
theorem ask_ints {vs:List Value} {ns:List Int} (hI:IntsAre vs ns) (i j:Nat) (C:Bool->Shared->Prop) (hi:i < vs.length) (hj:j < vs.length) (h:C (ltI Pu.ltI 0 ns i j) s):kas_ask prog w A oneType' vs i j C s:=by
 obtain ⟨t,e1⟩:=ints_get hI i hi
 obtain ⟨u,e2⟩:=ints_get hI j hj
 unfold kas_ask
 rw [e1,e2]
 exact kat_lt_int h
theorem kind_ints {vs:List Value} {ns:List Int} (hI:IntsAre vs ns) (h2:2<=vs.length) {Q:SortKind->Shared->Prop} (h:Q oneType' s):wpAny (model prog w) A (keyKind' vs.toArray) Q E s:=by
 obtain ⟨v₁,v₂,rest,rfl⟩:∃ v₁ v₂ rest,vs=v₁::v₂::rest:=by
  match vs,h2 with
  | v₁::v₂::rest,_=>exact ⟨v₁,v₂,rest,rfl⟩
 rw [keyKind_ints hI]
 exact wpAny_pure h
def TupsI (h:Heap):List Value->List (List Int)->Prop
 | [],[]=>True
 | v::vs,k::ks=>(∃ a o xs n,v=.ref a/\h.get? a=some o/\o.cls=.type "tuple"/\o.data=.seq xs n/\IntsAre xs.toList k/\k≠[])/\TupsI h vs ks
 | _,_=>False
theorem TupsI.kept {h h':Heap} (k:∀ b o,h.get? b=some o->h'.get? b=some o):∀ {vs:List Value} {ks:List (List Int)},TupsI h vs ks->TupsI h' vs ks
 | [],[],_=>trivial
 | v::vs,x::ks,⟨⟨a,o,xs,n,e,ho,r⟩,t⟩=>⟨⟨a,o,xs,n,e,k a o ho,r⟩,t.kept k⟩
theorem TupsI.len {h:Heap}:∀ {vs:List Value} {ks:List (List Int)},TupsI h vs ks->ks.length=vs.length
 | [],[],_=>rfl
 | v::vs,x::ks,⟨_,t⟩=>by simp [t.len]
theorem TupsI.get {h:Heap}:∀ {vs:List Value} {ks:List (List Int)},TupsI h vs ks->∀ i,i < vs.length->∃ a o xs n,vs.getD i Value.none=.ref a/\h.get? a=some o/\o.cls=.type "tuple"/\o.data=.seq xs n/\IntsAre xs.toList (ks.getD i [])/\ks.getD i []≠[]
 | [],[],_,i,hi=>by simp at hi
 | v::vs,x::ks,⟨q,t⟩,0,_=>q
 | v::vs,x::ks,⟨q,t⟩,i+1,hi=>by
  have:=t.get i (by simpa using hi)
  simpa [List.getD] using this
theorem TupsI.kat {h : Heap} : ∀ {vs : List Value} {ks : List (List Int)}, TupsI h vs ks -> ∃ fs : List Value, KatTups h vs fs /\ fs.length = vs.length /\ ∀ v ∈ fs, ∃ i t, v = Value.int i t
  | [], [], _ => ⟨[], KatTups.nil, rfl, by simp⟩
  | v :: vs, x :: ks, ⟨⟨a, o, xs, n, e, ho, hc, hd, hI, hne⟩, t⟩ => by
    subst e
    obtain ⟨fs, h1, h2, h3⟩ := t.kat
    obtain ⟨i, u, hf⟩ : ∃ i u, xs[0]? = some (Value.int i u) := by
      cases q : xs.toList with
      | nil => rw [q] at hI; cases hI; exact absurd rfl hne
      | cons y ys =>
        rw [q] at hI
        cases hI with
        | cons n t r => exact ⟨n, t, by have : xs.toList[0]? = some (Value.int n t) := by rw [q]; rfl
                                        simpa using this⟩
    refine ⟨Value.int i u :: fs, KatTups.cons ho hc hd hf h1, by simp [h2], fun z hz => ?_⟩
    rcases List.mem_cons.mp hz with rfl | hz
    · exact ⟨i, u, rfl⟩
    · exact h3 z hz
def lexGo (fin:Bool):List Int->List Int->Bool
 | x::xs,y::ys=>if x=y then lexGo fin xs ys else decide (x < y)
 | _,_=>fin
theorem lexGo_eq:∀ (xs ys:List Int),lexGo (decide (xs.length < ys.length)) xs ys=Pu.lexLt xs ys
 | [],[]=>rfl
 | [],_::_=>rfl
 | _::_,[]=>rfl
 | x::xs,y::ys=>by
  have e:decide ((x::xs).length < (y::ys).length)=decide (xs.length < ys.length):=by simp
  rw [e]
  simp only [lexGo,Pu.lexLt,lexGo_eq xs ys]
theorem kat_lex {fin:Bool} {Q:Bool->Shared->Prop}:∀ {us vs:List Value} {xs ys:List Int} (i:Nat),IntsAre us xs->IntsAre vs ys->Q (lexGo fin xs ys) s->KatLex prog w A true fin Q (us.zip vs) i s
 | _,_,_,_,i,.nil,_,h=>by simpa [lexGo] using kat_nil (prog:=prog) (w:=w) (A:=A) (b:=true) (i:=i) h
 | _,_,_,_,i,.cons x t r,.nil,h=>by simpa [lexGo] using kat_nil (prog:=prog) (w:=w) (A:=A) (b:=true) (i:=i) h
 | _,_,_,_,i,.cons x t r,.cons y u q,h=>by
  refine kat_cons (wpAny_eqBool_int ?_)
  simp only [lexGo] at h
  by_cases e:x=y
  ·subst e
   rw [if_pos rfl] at h
   rw [show (x==x)=true by simp]
   exact kat_yes (kat_lex (i+1) r q h)
  ·rw [if_neg e] at h
   rw [show (x==y)=false by simpa using e]
   refine kat_no ?_
   cases hb:(true&&i==0) with
   | true=>exact oneLt_int h
   | false=>exact kat_one _ _ (lt_int (show W.BoolBack Q (Value.bool (decide (x < y))) s from h))
theorem ask_tups {vs:List Value} {ks:List (List Int)} (hT:TupsI s.heap vs ks) (i j:Nat) (C:Bool->Shared->Prop) (hi:i < vs.length) (hj:j < vs.length) (h:C (ltI Pu.lexLt [] ks i j) s):kas_ask prog w A (tuples' true) vs i j C s:=by
 obtain ⟨a,o,xs,n,e1,ho,hc,hd,hI,_⟩:=hT.get i hi
 obtain ⟨b,o',ys,n',e2,ho',hc',hd',hI',_⟩:=hT.get j hj
 unfold kas_ask
 rw [e1,e2]
 refine kat_lt ho hd ho' hd' (kat_lex 0 hI hI' ?_)
 have l1:(ks.getD i []).length=xs.size:=by rw [ints_len hI,Array.length_toList]
 have l2:(ks.getD j []).length=ys.size:=by rw [ints_len hI',Array.length_toList]
 rw [<- l1,<- l2,lexGo_eq]
 exact h
theorem kind_tups {vs:List Value} {ks:List (List Int)} (hT:TupsI s.heap vs ks) (h2:2<=vs.length) {Q:SortKind->Shared->Prop} (h:Q (tuples' true) s):wpAny (model prog w) A (keyKind' vs.toArray) Q E s:=by
 obtain ⟨fs,k1,k2,k3⟩:=hT.kat
 refine kat_kind (T:=Value.type "int") k1 (by omega) (fun v hv=>?_) (by decide) (by rw [show (Value.type "int" != Value.type "tuple")=true by decide];exact h)
 obtain ⟨i,t,rfl⟩:=k3 v hv
 exact Looks.of_pure rfl
end
end Ks
end
section
namespace Zp
open PySem
section
variable {prog:Program} {w:World} {A:Around} {E:Value->Shared->Prop} {s:Shared}
theorem step_t {j t:Addr} {n:Nat} {vs:Array Value} {v:Value} {Q:Value->Shared->Prop} (J:s.heap.IsTupleIter j t n) (T:s.heap.IsTuple t vs) (hv:vs[n]?=some v)
  (k:∀ g,g.IsTupleIter j t (n+1)->Heap.SameBut j s.heap g->Q v { s with heap:=g }):wpAny (model prog w) A (Builtin.SmallTypes.nextOf (.ref j)) Q E s:=by
 obtain ⟨p,hp,pc,pd⟩:=id J
 obtain ⟨q,hq,_,m,qd⟩:=T
 have ne:¬ ((Value.ref t==Value.none)=true):=Bool.false_ne_true
 refine wpAny_bind (wpAny_callSpecial?_slot (name:=Str.ofString "__next__") J.typeIs F.slot_tuple_iterator_next (wpAny_call_entry F.slot_tuple_iterator_next J.typeIs F.entry_tuple_iterator_next ?_ (F.args_tuple_iterator_next_1 _)))
 refine wpAny_bind (m:=field (.ref j) 0) (wpAny_field hp pd (x:=.ref t) rfl ?_)
 refine (wpAny_ite_split (fun z=>absurd z ne) fun _=>?_)
 refine wpAny_bind (m:=field (.ref j) 1) (wpAny_field hp pd (x:=.int n 0) rfl ?_)
 refine wpAny_bind (m:=seqItems? (.ref t)) (wpAny_seqItems hq qd ?_)
 simp only [Int.toNat_natCast,hv]
 refine wpAny_bind (wpAny_setField hp pd (by simp) (wpAny_pure ⟨v,rfl,wpAny_pure (k _ ⟨_,Heap.get?_update_self _ hp (Obj.isFreed_of_fields (Obj.data_mapFields pd _)),(Obj.cls_mapFields ..).trans pc,?_⟩ (Heap.SameBut.update ..))⟩))
 rw [Obj.data_mapFields pd];simp [rawInt]
theorem last_t {j t:Addr} {n:Nat} {vs:Array Value} {Q:Value->Shared->Prop} (hh:A.handled=none) (J:s.heap.IsTupleIter j t n) (T:s.heap.IsTuple t vs) (hv:vs[n]?=none)
  (k:∀ g e,Heap.ExtBut j s.heap g->(∃ o,g.get? e=some o/\o.cls=.type "StopIteration")->E (.ref e) { s with heap:=g }):wpAny (model prog w) A (Builtin.SmallTypes.nextOf (.ref j)) Q E s:=by
 obtain ⟨p,hp,pc,pd⟩:=id J
 obtain ⟨q,hq,_,m,qd⟩:=T
 have ne:¬ ((Value.ref t==Value.none)=true):=Bool.false_ne_true
 refine wpAny_bind (wpAny_callSpecial?_slot (name:=Str.ofString "__next__") J.typeIs F.slot_tuple_iterator_next (wpAny_call_entry F.slot_tuple_iterator_next J.typeIs F.entry_tuple_iterator_next ?_ (F.args_tuple_iterator_next_1 _)))
 refine wpAny_bind (m:=field (.ref j) 0) (wpAny_field hp pd (x:=.ref t) rfl ?_)
 refine (wpAny_ite_split (fun z=>absurd z ne) fun _=>?_)
 refine wpAny_bind (m:=field (.ref j) 1) (wpAny_field hp pd (x:=.int n 0) rfl ?_)
 refine wpAny_bind (m:=seqItems? (.ref t)) (wpAny_seqItems hq qd ?_)
 simp only [Int.toNat_natCast,hv]
 refine wpAny_bind (wpAny_rule (wpAny_bind (wpAny_setField hp pd (by simp) (wpAny_bind (m:=newExc (.type "StopIteration") []) ?_))))
 unfold newExc newTuple
 refine wpAny_bind (wpAny_newObj_type (wpAny_bind (m:=firstArgMember _ _) (wpAny_of_eq (a:=Value.none) (by first | rfl | (simp only [firstArgMember];rfl)) (wpAny_newObj_type ?_ (by size_fits)))) (by size_fits))
 unfold raiseNew
 refine wpAny_bind (wpAny_handled ?_)
 first | rw [show A.in1.handled=none from hh] | rw [hh]
 refine wpAny_bind (wpAny_pure (wpAny_throw (k _ _ (((Heap.SameBut.update ..).extBut.push _).push _) ⟨_,Heap.get?_push_size _ rfl,rfl⟩)))
abbrev Ap:=ZipApart
theorem next_item {z a b i j p q:Addr} {n:Nat} {xs ys:Array Value} {x y u v:Value} {Q:Option Value->Shared->Prop} (D:Ap z a b i j p q) (Z:IsZip s.heap z a b .none) (PI:IsPair s.heap a (.ref i) (.ref j)) (PO:IsPair s.heap b u v)
  (I:s.heap.IsTupleIter i p n) (J:s.heap.IsTupleIter j q n) (P:s.heap.IsTuple p xs) (R:s.heap.IsTuple q ys) (hx:xs[n]?=some x) (hy:ys[n]?=some y)
  (k:∀ g,IsZip g z a b (rawInt s.heap.objs.size)->IsPair g b x y->g.IsTupleIter i p (n+1)->g.IsTupleIter j q (n+1)->IsPair g s.heap.objs.size x y->g.objs.size=s.heap.objs.size+1 ->
   (∀ c o,c≠z->c≠b->c≠i->c≠j->s.heap.get? c=some o->g.get? c=some o)->Q (some (.ref s.heap.objs.size)) { s with heap:=g }):wpAny (model prog w) A (pyNext (.ref z)) Q E s:=by
 have tz:s.TypeIs (.ref z) "zip":=⟨_,Z,rfl⟩
 refine wpAny_bind (wpAny_attempt (wpAny_callSpecial?_slot (name:=Str.ofString "__next__") tz F.slot_zip_next (wpAny_call_entry F.slot_zip_next tz F.entry_zip_next ?_ (F.args_zip_next_1 _))))
 refine wpAny_bind (m:=field (.ref z) 2) (wpAny_field Z rfl (x:=.bool false) rfl ?_)
 refine wpAny_bind (m:=field (.ref z) 3) (wpAny_field Z rfl (x:=.ref a) rfl (wpAny_bind (wpAny_seqItems PI rfl ?_)))
 refine wpAny_bind (m:=Builtin.SmallTypes.ownedTupleIsFree (.ref z)) ?_
 refine wpAny_bind (m:=field (.ref z) 0) (wpAny_field Z rfl (x:=.none) rfl (wpAny_pure ?_))
 simp only [if_true]
 refine wpAny_bind (wpAny_rule (wpAny_bind (wpAny_field Z rfl (x:=.ref b) rfl (wpAny_bind (wpAny_setField_rec Z (by simp) fun g1 Z1 e1=>?_)))))
 replace Z1:IsZip g1 z a b .ellipsis:=Z1
 simp only [List.zipIdx_cons,List.zipIdx_nil,List.forIn_cons,List.forIn_nil]
 refine wpAny_bind (wpAny_bind (wpAny_bind (wpAny_onRaise (wpAny_bind (m:=Builtin.SmallTypes.nextOf (.ref i)) (step_t (I.extBut e1.extBut D.i1z) (P.extBut e1.extBut D.l1z) hx fun g2 I2 e2=>wpAny_pure ?_)))))
 have O2:IsPair g2 b u v:=e2.extBut _ _ D.TOi1 (e1.extBut _ _ D.TOz PO)
 refine wpAny_bind (wpAny_seqItems O2 rfl (wpAny_bind (wpAny_updateSeq_pair O2 fun g3 O3 e3=>wpAny_bind (wpAny_letGo (wpAny_pure ?_)))))
 replace O3:IsPair g3 b x v:=O3
 refine wpAny_bind (wpAny_bind (wpAny_onRaise (wpAny_bind (m:=Builtin.SmallTypes.nextOf (.ref j)) (step_t (((J.extBut e1.extBut D.i2z).extBut e2.extBut D.i12.symm).extBut e3.extBut D.TOi2.symm) (((R.extBut e1.extBut D.l2z).extBut e2.extBut D.l2i1).extBut e3.extBut D.l2TO) hy fun g4 J4 e4=>wpAny_pure ?_))))
 have O4:IsPair g4 b x v:=e4.extBut _ _ D.TOi2 O3
 refine wpAny_bind (wpAny_seqItems O4 rfl (wpAny_bind (wpAny_updateSeq_pair O4 fun g5 O5 e5=>wpAny_bind (wpAny_letGo (wpAny_pure (wpAny_pure ?_))))))
 replace O5:IsPair g5 b x y:=O5
 refine wpAny_bind (wpAny_seqItems O5 rfl (wpAny_bind (wpAny_newTuple ?_)))
 have sz:g5.objs.size=s.heap.objs.size:=by rw [e5.1,e4.1,e3.1,e2.1,e1.1]
 have Z5:IsZip g5 z a b .ellipsis:=e5.extBut _ _ D.TOz.symm (e4.extBut _ _ D.i2z.symm (e3.extBut _ _ D.TOz.symm (e2.extBut _ _ D.i1z.symm Z1)))
 have K5:∀ c o,c≠z->c≠b->c≠i->c≠j->s.heap.get? c=some o->g5.get? c=some o:=fun c o c1 c2 c3 c4 e =>
  e5.extBut _ _ c2 (e4.extBut _ _ c4 (e3.extBut _ _ c2 (e2.extBut _ _ c3 (e1.extBut _ _ c1 e))))
 have I5:g5.IsTupleIter i p (n+1):=((I2.extBut e3.extBut D.TOi1.symm).extBut e4.extBut D.i12).extBut e5.extBut D.TOi1.symm
 have J5:g5.IsTupleIter j q (n+1):=J4.extBut e5.extBut D.TOi2.symm
 have lz:z < g5.objs.size:=Heap.lt_size Z5
 refine wpAny_bind (m:=Builtin.SmallTypes.ownedTupleHandOut (.ref z) (.ref g5.objs.size)) ?_
 have Z6:IsZip (g5.push { cls:=.type "tuple",data:=.seq #[x,y] }) z a b .ellipsis:=Heap.get?_push_of_some _ Z5
 refine wpAny_bind (m:=setField (.ref z) 0 (rawInt g5.objs.size)) (wpAny_setField_rec Z6 (by simp) fun g7 Z7 e7=>?_)
 replace Z7:IsZip g7 z a b (rawInt g5.objs.size):=Z7
 refine wpAny_setField_rec Z7 (by simp) fun g8 Z8 e8=>?_
 replace Z8:IsZip g8 z a b (rawInt g5.objs.size):=Z8
 have up:∀ c o,c≠z->g5.get? c=some o->g8.get? c=some o:=fun c o c1 e=>e8.extBut _ _ c1 (e7.extBut _ _ c1 (Heap.get?_push_of_some _ e))
 have T8:IsPair g8 g5.objs.size x y:=e8.extBut _ _ (Nat.ne_of_gt lz) (e7.extBut _ _ (Nat.ne_of_gt lz) (Heap.get?_push_size _ rfl))
 have s8:g8.objs.size=g5.objs.size+1:=by rw [e8.1,e7.1,Heap.size_push]
 rw [sz] at Z8 T8 s8
 refine wpAny_pure ⟨_,rfl,?_⟩
 have fin:Q (some (.ref s.heap.objs.size)) { s with heap:=g8 }:=k g8 Z8 (up _ _ D.TOz O5) (I5.at fun o e=>up _ o D.i1z e) (J5.at fun o e=>up _ o D.i2z e) T8 s8 fun c o c1 c2 c3 c4 e=>up c o c1 (K5 c o c1 c2 c3 c4 e)
 rw [<- sz] at fin
 exact wpAny_pure fin
theorem next_end {z a b i j p q:Addr} {n:Nat} {xs ys:Array Value} {u v:Value} {Q:Option Value->Shared->Prop} (hh:A.handled=none) (D:Ap z a b i j p q) (Z:IsZip s.heap z a b .none) (PI:IsPair s.heap a (.ref i) (.ref j)) (PO:IsPair s.heap b u v)
  (I:s.heap.IsTupleIter i p n) (J:s.heap.IsTupleIter j q n) (P:s.heap.IsTuple p xs) (R:s.heap.IsTuple q ys) (hend:xs[n]?=none\/ys[n]?=none)
  (k:∀ g,(∀ c o,c≠z->c≠b->c≠i->c≠j->s.heap.get? c=some o->g.get? c=some o)->Q none { s with heap:=g }):wpAny (model prog w) A (pyNext (.ref z)) Q E s:=by
 have tz:s.TypeIs (.ref z) "zip":=⟨_,Z,rfl⟩
 have stop:∀ (g:Heap) (e:Addr),(∃ o,g.get? e=some o/\o.cls=.type "StopIteration")->(∀ c o,c≠z->c≠b->c≠i->c≠j->s.heap.get? c=some o->g.get? c=some o) ->
   wpAny (model prog w) A (isInstance (.ref e) (.type "StopIteration")>>=fun r=>if r=true then pure none else throw (.ref e)) Q E { s with heap:=g }:=fun g e ⟨o,ho,hc⟩ K =>
  wpAny_bind (wpAny_isInstance (T:="StopIteration") (b:=true) ⟨o,ho,hc⟩ isSubtype_stop (wpAny_pure (k g K)))
 refine wpAny_bind (wpAny_attempt (wpAny_callSpecial?_slot (name:=Str.ofString "__next__") tz F.slot_zip_next (wpAny_call_entry F.slot_zip_next tz F.entry_zip_next ?_ (F.args_zip_next_1 _))))
 refine wpAny_bind (m:=field (.ref z) 2) (wpAny_field Z rfl (x:=.bool false) rfl ?_)
 refine wpAny_bind (m:=field (.ref z) 3) (wpAny_field Z rfl (x:=.ref a) rfl (wpAny_bind (wpAny_seqItems PI rfl ?_)))
 refine wpAny_bind (m:=Builtin.SmallTypes.ownedTupleIsFree (.ref z)) ?_
 refine wpAny_bind (m:=field (.ref z) 0) (wpAny_field Z rfl (x:=.none) rfl (wpAny_pure ?_))
 simp only [if_true]
 refine wpAny_bind (wpAny_rule (wpAny_bind (wpAny_field Z rfl (x:=.ref b) rfl (wpAny_bind (wpAny_setField_rec Z (by simp) fun g1 Z1 e1=>?_)))))
 replace Z1:IsZip g1 z a b .ellipsis:=Z1
 simp only [List.zipIdx_cons,List.zipIdx_nil,List.forIn_cons,List.forIn_nil]
 cases hx:xs[n]? with
 | none =>
  refine wpAny_bind (wpAny_bind (wpAny_bind (wpAny_onRaise (wpAny_bind (m:=Builtin.SmallTypes.nextOf (.ref i)) (last_t hh (I.extBut e1.extBut D.i1z) (P.extBut e1.extBut D.l1z) hx fun g2 e e2 he=>?_)))))
  obtain ⟨oe,hoe,hce⟩:=he
  have Z2:IsZip g2 z a b .ellipsis:=e2 _ _ D.i1z.symm Z1
  have nz:e≠z:=fun w=>by subst w;rw [Z2] at hoe;cases hoe;simp at hce
  exact wpAny_setField_rec Z2 (by simp) fun g3 _ e3=>stop g3 e ⟨oe,e3.extBut _ _ nz hoe,hce⟩ fun c o c1 _ c3 _ y=>e3.extBut _ _ c1 (e2 _ _ c3 (e1.extBut _ _ c1 y))
 | some x =>
  have hy:ys[n]?=none:=by rcases hend with h | h;rw [hx] at h;cases h;exact h
  refine wpAny_bind (wpAny_bind (wpAny_bind (wpAny_onRaise (wpAny_bind (m:=Builtin.SmallTypes.nextOf (.ref i)) (step_t (I.extBut e1.extBut D.i1z) (P.extBut e1.extBut D.l1z) hx fun g2 I2 e2=>wpAny_pure ?_)))))
  have O2:IsPair g2 b u v:=e2.extBut _ _ D.TOi1 (e1.extBut _ _ D.TOz PO)
  refine wpAny_bind (wpAny_seqItems O2 rfl (wpAny_bind (wpAny_updateSeq_pair O2 fun g3 O3 e3=>wpAny_bind (wpAny_letGo (wpAny_pure ?_)))))
  refine wpAny_bind (wpAny_bind (wpAny_onRaise (wpAny_bind (m:=Builtin.SmallTypes.nextOf (.ref j)) (last_t hh (((J.extBut e1.extBut D.i2z).extBut e2.extBut D.i12.symm).extBut e3.extBut D.TOi2.symm) (((R.extBut e1.extBut D.l2z).extBut e2.extBut D.l2i1).extBut e3.extBut D.l2TO) hy fun g4 e e4 he=>?_))))
  obtain ⟨oe,hoe,hce⟩:=he
  have Z4:IsZip g4 z a b .ellipsis:=e4 _ _ D.i2z.symm (e3.extBut _ _ D.TOz.symm (e2.extBut _ _ D.i1z.symm Z1))
  have nz:e≠z:=fun w=>by subst w;rw [Z4] at hoe;cases hoe;simp at hce
  exact wpAny_setField_rec Z4 (by simp) fun g5 _ e5=>stop g5 e ⟨oe,e5.extBut _ _ nz hoe,hce⟩ fun c o c1 c2 c3 c4 y=>e5.extBut _ _ c1 (e4 _ _ c4 (e3.extBut _ _ c2 (e2.extBut _ _ c3 (e1.extBut _ _ c1 y))))
theorem make {p q:Addr} {xs ys:Array Value} {Q:Value->Shared->Prop} (P:s.heap.IsTuple p xs) (R:s.heap.IsTuple q ys)
  (k:∀ g,IsZip g (s.heap.objs.size+4) (s.heap.objs.size+2) (s.heap.objs.size+3) .none->IsPair g (s.heap.objs.size+2) (.ref s.heap.objs.size) (.ref (s.heap.objs.size+1))->IsPair g (s.heap.objs.size+3) .none .none ->
   g.IsTupleIter s.heap.objs.size p 0->g.IsTupleIter (s.heap.objs.size+1) q 0->g.objs.size=s.heap.objs.size+5->(∀ c o,s.heap.get? c=some o->g.get? c=some o)->Q (.ref (s.heap.objs.size+4)) { s with heap:=g }) :
  wpAny (model prog w) A (call (.type "zip") [.ref p,.ref q]) Q E s:=by
 have meets:Meets (Builtin.«zip.__new__» ⟨[.type "zip",.ref p,.ref q],[]⟩) (fun _ R' s'=>s'.heap.IsTuple p xs/\s'.heap.IsTuple q ys /\
   ∀ h1 h2 h3 h4 h5:Heap,h1=s'.heap.push { cls:=.type "tuple_iterator",data:=.fields #[.ref p,.int 0 0] }->h2=h1.push { cls:=.type "tuple_iterator",data:=.fields #[.ref q,.int 0 0] }->h3=h2.push { cls:=.type "tuple",data:=.seq #[.ref s'.heap.objs.size,.ref h1.objs.size] } ->
    h4=h3.push { cls:=.type "tuple",data:=.seq #[.none,.none] }->h5=h4.push { cls:=.type "zip",data:=.fields #[.none,.bool false,.bool false,.ref h2.objs.size,.ref h3.objs.size] }->R' (.ok (.ret (.ref h4.objs.size))) { s' with heap:=h5 }) :=
  .of_wp fun prog w A R' s' h=>by
   obtain ⟨hp,g,d,tk,os⟩:=s'
   obtain ⟨P',R'',h⟩:=h
   have hsub:=sub_zip
   have P1:Heap.IsTuple (Shared.heap ⟨hp,g,d,tk,os⟩) p xs:=P'
   have R1:Heap.IsTuple (Shared.heap ⟨hp.push { cls:=.type "tuple_iterator",data:=.fields #[.ref p,.int 0 0] },g,d,tk,os⟩) q ys:=Heap.IsTuple.push R'' _
   wp_walk using wpAny_pyIter_tuple P1,wpAny_pyIter_tuple R1
   exact ⟨_,rfl,h _ _ _ _ _ rfl rfl rfl rfl rfl⟩
 refine callType_new F.called_zip (by decide) (F.typeCall_zip_2 _ _) (F.newCall_zip_2 _ _) (fun obj=>F.args_object_init_3 obj _ _) F.entry_zip_new meets ⟨P,R,fun h1 h2 h3 h4 h5 e1 e2 e3 e4 e5=>?_⟩
 have z1:h1.objs.size=s.heap.objs.size+1:=by rw [e1,Heap.size_push]
 have z2:h2.objs.size=s.heap.objs.size+2:=by rw [e2,Heap.size_push,z1]
 have z3:h3.objs.size=s.heap.objs.size+3:=by rw [e3,Heap.size_push,z2]
 have z4:h4.objs.size=s.heap.objs.size+4:=by rw [e4,Heap.size_push,z3]
 have z5:h5.objs.size=s.heap.objs.size+5:=by rw [e5,Heap.size_push,z4]
 have u5:∀ {c o},h4.get? c=some o->h5.get? c=some o:=fun y=>e5 ▸ Heap.get?_push_of_some _ y
 have u4:∀ {c o},h3.get? c=some o->h5.get? c=some o:=fun y=>u5 (e4 ▸ Heap.get?_push_of_some _ y)
 have u3:∀ {c o},h2.get? c=some o->h5.get? c=some o:=fun y=>u4 (e3 ▸ Heap.get?_push_of_some _ y)
 have u2:∀ {c o},h1.get? c=some o->h5.get? c=some o:=fun y=>u3 (e2 ▸ Heap.get?_push_of_some _ y)
 have g5:h5.get? h4.objs.size=some _:=e5 ▸ Heap.get?_push_size _ rfl
 have g4:h4.get? h3.objs.size=some _:=e4 ▸ Heap.get?_push_size _ rfl
 have g3:h3.get? h2.objs.size=some _:=e3 ▸ Heap.get?_push_size _ rfl
 have g2:h2.get? h1.objs.size=some _:=e2 ▸ Heap.get?_push_size _ rfl
 have g1:h1.get? s.heap.objs.size=some _:=e1 ▸ Heap.get?_push_size _ rfl
 rw [z2,z3,z4] at g5
 rw [z3] at g4
 rw [z1,z2] at g3
 rw [z1] at g2
 rw [z4]
 exact ⟨⟨_,g5,rfl⟩,k h5 g5 (u4 g3) (u5 g4) ⟨_,u2 g1,rfl,rfl⟩ ⟨_,u3 g2,rfl,rfl⟩ z5 fun c o y=>u2 (e1 ▸ Heap.get?_push_of_some _ y)⟩
end
end Zp
end
section
namespace Pr
open Den Pu
variable {pg:Pg} {Φ:Fn}
def isI:D->Bool
 | .int _=>true
 | _=>false
theorem is_whole_ok (d:D):runF pg Φ ⟨1,0,Bd.b_is_whole⟩ [d]=.ok (.bl (isI d)):=by cases d <;> rfl
def isMany:D->Bool
 | .int i=>decide (1<=i)&&decide (i<=8)
 | _=>false
theorem is_many_ok {f g:Nat} (hf:∀ d,Φ f [d]=.ok (.bl (isI d))) (hg:pg.cs[g]?=some (.int 8)) (d:D):runF pg Φ ⟨1,0,Bd.b_is_many f g⟩ [d]=.ok (.bl (isMany d)):=by
 simp only [Den.DNA,Nat.reduceAdd,Bd.b_is_many,hf,ev_glob g hg]
 cases d with
 | int i =>
  simp only [Den.DNA,Nat.reduceAdd,isI,isMany]
  by_cases h:1<=i
  ·simp only [Den.DNA,Nat.reduceAdd,decide_eq_true h,ev_glob g hg,Bool.true_and]
  ·simp only [Den.DNA,Nat.reduceAdd,decide_eq_false h,Bool.false_and]
 | _=>rfl
section
variable {α:Type} {lt:α->α->Bool}
def adj (lt:α->α->Bool):List α->Bool
 | a::b::r=>lt a b&&adj lt (b::r)
 | _=>true
theorem adj_asc (L:Lin lt):∀ xs:List α,adj lt xs=true<->Asc lt xs
 | []=>⟨fun _=>.nil,fun _=>rfl⟩
 | [a]=>⟨fun _=>List.pairwise_singleton _ _,fun _=>rfl⟩
 | a::b::r=>by
  simp only [adj,Bool.and_eq_true,adj_asc L (b::r)]
  constructor
  ·rintro ⟨h1,h2⟩
   refine List.pairwise_cons.mpr ⟨fun z hz=>?_,h2⟩
   rcases List.mem_cons.mp hz with e | e
   ·subst e;exact h1
   ·exact L.tr h1 ((List.pairwise_cons.mp h2).1 z e)
  ·intro h
   exact ⟨(List.pairwise_cons.mp h).1 b List.mem_cons_self,(List.pairwise_cons.mp h).2⟩
theorem sIx_le {n d k:Nat} (h:k<=n):sIx n d (some (k:Int))=k:=by
 have h1:¬ ((k:Int) < 0):=by omega
 have h2:¬ ((n:Int) < (k:Int)):=by omega
 simp only [sIx,if_neg h1,if_neg h2];omega
theorem sIx_gt {n d k:Nat} (h:n < k):sIx n d (some (k:Int))=n:=by
 have h1:¬ ((k:Int) < 0):=by omega
 have h2:((n:Int) < (k:Int)):=by omega
 simp only [sIx,if_neg h1,if_pos h2]
theorem cut_from {β:Type} (xs:List β) (k:Nat):cut xs (some (k:Int)) none=xs.drop k:=by
 unfold cut
 by_cases h:k<=xs.length
 ·rw [sIx_le h]
  show List.take (xs.length - k) (xs.drop k)=_
  rw [List.take_of_length_le (by simp)]
 ·rw [sIx_gt (by omega),List.drop_of_length_le (Nat.le_refl _),List.drop_of_length_le (by omega)]
  simp
theorem cut_to {β:Type} (xs:List β) (k:Nat):cut xs none (some (k:Int))=xs.take k:=by
 unfold cut
 by_cases h:k<=xs.length
 ·rw [sIx_le h];simp [sIx]
 ·rw [sIx_gt (by omega)];simp only [sIx,List.drop_zero,Nat.sub_zero]
  rw [List.take_of_length_le (Nat.le_refl _),List.take_of_length_le (by omega)]
theorem cut1 {β:Type} (xs:List β):cut xs (some 1) none=xs.drop 1:=cut_from xs 1
theorem zip_adj {f:α->D} (h:∀ a b,ltR (f a) (f b)=.ok (lt a b)) {g:D->R (Option D)} (hg:∀ x y,g (.tup [x,y])=(cmpD .lt x y>>=fun c=>.ok (some (.bl c)))):∀ xs:List α,
  ∃ bs:List Bool,compL g (zipL (xs.map f) ((xs.drop 1).map f))=.ok (bs.map .bl)/\bs.all id=adj lt xs
 | []=>⟨[],rfl,rfl⟩
 | [a]=>⟨[],rfl,rfl⟩
 | a::b::r=>by
  obtain ⟨bs,ih,e⟩:=zip_adj h hg (b::r)
  have e1:zipL ((a::b::r).map f) (((a::b::r).drop 1).map f)=.tup [f a,f b]::zipL ((b::r).map f) (((b::r).drop 1).map f):=by
   simp only [List.drop_succ_cons,List.drop_zero,List.map_cons,zipL]
  refine ⟨lt a b::bs,?_,?_⟩
  ·rw [e1]
   simp only [compL,hg,cmp_lt,h,R.ok_bind,ih]
   rfl
  ·simp only [List.all_cons,id,adj,e]
theorem is_rising_ok {f:α->D} (h:∀ a b,ltR (f a) (f b)=.ok (lt a b)) (xs:List α):runF pg Φ ⟨1,0,Bd.b_is_rising⟩ [.tup (xs.map f)]=.ok (.bl (adj lt xs)):=by
 simp only [Den.DNA,Nat.reduceAdd,Bd.b_is_rising,cut1]
 have e:(List.map f xs).drop 1=(xs.drop 1).map f:=by rw [List.map_drop]
 rw [e]
 obtain ⟨bs,e1,e2⟩:=zip_adj h (g:=elem pg Φ [some (D.tup (List.map f xs))] (.cmp .lt (.var 1) (.var 2)) 2 .none) (fun x y=>by
  simp only [Den.DNA,Nat.reduceAdd]
  cases ltR x y <;> rfl) xs
 have e3:allD (bs.map .bl)=.ok (bs.all id):=allD_map id bs
 simp only [Den.DNA,Nat.reduceAdd,e1,e3,e2]
end
theorem ints_or:∀ xs:List D,(∃ c:List Int,xs=c.map .int)\/xs.all isI=false
 | []=>.inl ⟨[],rfl⟩
 | x::xs=>by
  rcases ints_or xs with ⟨c,rfl⟩ | h
  ·cases x with
   | int i=>exact .inl ⟨i::c,rfl⟩
   | _=>exact .inr (by simp [isI])
  ·exact .inr (by simp [h])
def IsCell (m:Int) (c:List Int):Prop:=c≠[]/\(∀ x∈c,0<=x/\x < m)/\Asc ltI c
instance (m:Int) (c:List Int):Decidable (IsCell m c):=by unfold IsCell Asc;infer_instance
def isCell (m:Int):D->Bool
 | .tup xs=>match xs.all isI with | true=>decide (IsCell m (xs.map fun d=>match d with | .int i=>i | _=>0)) | false=>false
 | _=>false
theorem ints_back (c:List Int):((c.map D.int).map fun d=>match d with | .int i=>i | _=>0)=c:=by
 induction c with
 | nil=>rfl
 | cons x c ih=>simp only [List.map_cons,ih]
theorem all_isI (c:List Int):(c.map D.int).all isI=true:=by simp [List.all_map,isI]
theorem isCell_no {m:Int} {xs:List D} (h:xs.all isI=false):isCell m (.tup xs)=false:=by
 simp only [isCell,h]
theorem isCell_c (m:Int) (c:List Int):isCell m (cD c)=decide (IsCell m c):=by
 simp only [isCell,cD,all_isI,ints_back]
theorem isCell_iff (m:Int) (d:D):isCell m d=true<->∃ c,d=cD c/\IsCell m c:=by
 constructor
 ·intro h
  cases d with
  | tup xs =>
   rcases ints_or xs with ⟨c,rfl⟩ | q
   ·have:=isCell_c m c
    unfold cD at this
    rw [this] at h
    exact ⟨c,rfl,of_decide_eq_true h⟩
   ·rw [isCell_no q] at h;cases h
  | _=>cases h
 ·rintro ⟨c,rfl,h⟩
  rw [isCell_c];exact decide_eq_true h
theorem asc_bounds {m : Int} : ∀ {c : List Int} (a : Int) (r : List Int), c = a :: r -> Asc ltI c -> ∀ l, c.getLast? = some l -> 0 <= a -> l < m -> ∀ x ∈ c, 0 <= x /\ x < m := by
  intro c a r e h l hl ha hlm x hx
  subst e
  obtain ⟨h1, h2⟩ := List.pairwise_cons.mp h
  constructor
  · rcases List.mem_cons.mp hx with e | e
    · omega
    · have := h1 x e; simp [ltI] at this; omega
  · -- x is not above the last
    have key : ∀ (c : List Int), Asc ltI c -> c.getLast? = some l -> ∀ x ∈ c, x <= l := by
      intro c
      induction c with
      | nil => intro _ h; simp at h
      | cons y ys ih =>
        intro hc hl x hx
        obtain ⟨g1, g2⟩ := List.pairwise_cons.mp hc
        cases ys with
        | nil => simp at hl hx; omega
        | cons z zs =>
          rw [List.getLast?_cons_cons] at hl
          rcases List.mem_cons.mp hx with e | e
          · have q1 := ih g2 hl z List.mem_cons_self
            have q2 := g1 z List.mem_cons_self
            simp [ltI] at q2; omega
          · exact ih g2 hl x e
    have := key _ h hl x hx
    omega
theorem getAt_last {α:Type} (x:α) (xs:List α):getAt (x::xs) (-1)=(x::xs).getLast?:=by
 have e:ixN (x::xs).length (-1)=some xs.length:=by
  unfold ixN
  have h1:¬ ((0:Int)<=-1):=by decide
  have h2:(0:Int)<=-1+((x::xs).length:Nat):=by simp only [List.length_cons];omega
  rw [if_neg h1,if_pos h2]
  simp only [List.length_cons];congr 1;omega
 unfold getAt
 rw [e]
 simp [List.getLast?_eq_getElem?]
theorem getAt_nat {α:Type} (xs:List α) (k:Nat):getAt xs (k:Int)=xs[k]?:=by
 unfold getAt ixN
 rw [if_pos (by omega)]
 by_cases h:k < xs.length
 ·rw [if_pos (by omega)];simp
 ·rw [if_neg (by omega)];simp;omega
theorem getAt_0 {α:Type} (x:α) (xs:List α):getAt (x::xs) 0=some x:=by have:=getAt_nat (x::xs) 0;simpa using this
theorem getLast?_map {α β:Type} (f:α->β) (xs:List α):(xs.map f).getLast?=xs.getLast?.map f:=by simp
theorem is_cell_ok {f g : Nat} (hg : ∀ d, Φ g [d] = .ok (.bl (isI d))) (hf : ∀ c : List Int, Φ f [cD c] = .ok (.bl (adj ltI c))) (d : D) (m : Int) : runF pg Φ ⟨2, 0, Bd.b_is_cell f g⟩ [d, .int m] = .ok (.bl (isCell m d)) := by
  cases d with
  | tup xs =>
    have e1 : compL (elem pg Φ [some (D.tup xs), some (D.int m)] (.call g (.cons (.var 2) .nil)) 0 .none) xs = .ok (xs.map fun d => .bl (isI d)) := compL_map fun d _ => by simp only [Den.DNA, Nat.reduceAdd, hg]
    have hm : isI (D.int m) = true := rfl
    simp only [Den.DNA, Nat.reduceAdd, Bd.b_is_cell, hg, hm, e1, allD_map]
    rcases ints_or xs with ⟨c, rfl⟩ | q
    · cases c with
      | nil => rfl
      | cons a r =>
        have h0 : (((((a :: r).map D.int).length : Nat) : Int) == 0) = false := by simp; omega
        rw [h0]
        simp only [Den.DNA, Nat.reduceAdd, e1, allD_map, all_isI]
        have i0 : idxD (.tup ((a :: r).map D.int)) (.int 0) = .ok (.int a) := by rw [List.map_cons, idx_tup, getAt_0]
        have hcd := isCell_c m (a :: r)
        have hff := hf (a :: r)
        unfold cD at hcd hff
        obtain ⟨l, hl⟩ : ∃ l, (a :: r).getLast? = some l := ⟨_, List.getLast?_eq_some_getLast (by simp)⟩
        have i1 : idxD (.tup ((a :: r).map D.int)) (.int (-1)) = .ok (.int l) := by
          have : getAt ((a :: r).map D.int) (-1) = some (.int l) := by
            rw [List.map_cons, getAt_last, <- List.map_cons, getLast?_map, hl]; rfl
          rw [idx_tup, this]
        rw [hcd]
        simp only [Den.DNA, Nat.reduceAdd, i0]
        have fin : decide (IsCell m (a :: r)) = (decide (0 <= a) && (decide (l < m) && adj ltI (a :: r))) := by
          by_cases q1 : 0 <= a
          · by_cases q2 : l < m
            · by_cases q3 : adj ltI (a :: r) = true
              · have : IsCell m (a :: r) := ⟨by simp, asc_bounds a r rfl ((adj_asc linI _).mp q3) l hl q1 q2, (adj_asc linI _).mp q3⟩
                simp [q1, q2, q3, this]
              · have : ¬ IsCell m (a :: r) := fun h => q3 ((adj_asc linI _).mpr h.2.2)
                simp [q1, q2, q3, this]
            · have : ¬ IsCell m (a :: r) := fun h => q2 (h.2.1 l (List.mem_of_getLast? hl)).2
              simp [q1, q2, this]
          · have : ¬ IsCell m (a :: r) := fun h => q1 (h.2.1 a List.mem_cons_self).1
            simp [q1, this]
        rw [fin]
        by_cases q1 : 0 <= a
        · by_cases q2 : l < m
          · simp only [Den.DNA, Nat.reduceAdd, decide_eq_true q1, Bool.true_and, i1, decide_eq_true q2, hff]
          · simp only [Den.DNA, Nat.reduceAdd, decide_eq_true q1, Bool.true_and, i1, decide_eq_false q2, Bool.false_and]
        · simp only [Den.DNA, Nat.reduceAdd, decide_eq_false q1, Bool.false_and]
    · rw [isCell_no q]
      cases q0 : (((xs.length : Nat) : Int) == 0)
      · simp only [Den.DNA, Nat.reduceAdd, e1, allD_map, q]
      · rfl
  | _ => rfl
def areCells (m:Int):D->Bool
 | .tup xs=>xs.all (isCell m)
 | _=>false
theorem are_cells_ok {f:Nat} (hf:∀ d (m:Int),Φ f [d,.int m]=.ok (.bl (isCell m d))) (d:D) (m:Int):runF pg Φ ⟨2,0,Bd.b_are_cells f⟩ [d,.int m]=.ok (.bl (areCells m d)):=by
 cases d with
 | tup xs =>
  have e1:compL (elem pg Φ [some (D.tup xs),some (D.int m)] (.call f (.cons (.var 2) (.cons (.var 1) .nil))) 0 .none) xs=.ok (xs.map fun d=>.bl (isCell m d)):=compL_map fun d _=>by simp only [Den.DNA,Nat.reduceAdd,hf]
  simp only [Den.DNA,Nat.reduceAdd,Bd.b_are_cells,e1,allD_map,areCells]
 | _=>rfl
theorem areCells_iff (m:Int) (d:D):areCells m d=true<->∃ cs:List (List Int),d=.tup (cs.map cD)/\∀ c∈cs,IsCell m c:=by
 constructor
 ·intro h
  cases d with
  | tup xs =>
   have h:xs.all (isCell m)=true:=h
   induction xs with
   | nil=>exact ⟨[],rfl,by simp⟩
   | cons x xs ih =>
    simp only [List.all_cons,Bool.and_eq_true] at h
    obtain ⟨cs,e,hc⟩:=ih h.2 h.2
    obtain ⟨c,rfl,h1⟩:=(isCell_iff m x).mp h.1
    injection e with e
    refine ⟨c::cs,by rw [e];rfl,fun z hz=>?_⟩
    rcases List.mem_cons.mp hz with rfl | hz
    ·exact h1
    ·exact hc z hz
  | _=>cases h
 ·rintro ⟨cs,rfl,h⟩
  show (cs.map cD).all (isCell m)=true
  rw [List.all_map,List.all_eq_true]
  intro c hc
  exact (isCell_iff m _).mpr ⟨c,rfl,h c hc⟩
def lies (c o:List Int):Bool:=c.all fun x=>decide (x∈o)
theorem lies_iff {c o:List Int}:lies c o=true<->∀ x∈c,x∈o:=by simp [lies]
theorem compL_ints {g:D->R (Option D)} {p:Int->D} {c:List Int} (h:∀ x∈c,g (.int x)=.ok (some (p x))):compL g (c.map .int)=.ok (c.map p):=by
 rw [compL_of (g:=fun d=>match d with | .int x=>some (p x) | _=>none)]
 ·congr 1
  induction c with
  | nil=>rfl
  | cons x c ih=>simp [ih fun y hy=>h y (List.mem_cons_of_mem _ hy)]
 ·intro d hd
  obtain ⟨x,hx,rfl⟩:=List.mem_map.mp hd
  exact h x hx
theorem compL_c {g:D->R (Option D)} {p:List Int->Option D} {cs:List (List Int)} (h:∀ c∈cs,g (cD c)=.ok (p c)):compL g (cs.map cD)=.ok (cs.filterMap p):=by
 induction cs with
 | nil=>rfl
 | cons c cs ih =>
  simp only [List.map_cons,compL,h c List.mem_cons_self,R.ok_bind,ih fun y hy=>h y (List.mem_cons_of_mem _ hy),List.filterMap_cons]
  cases p c <;> rfl
theorem fm_map {α β:Type} (f:α->β) (xs:List α):xs.filterMap (fun x=>some (f x))=xs.map f:=by
 induction xs with
 | nil=>rfl
 | cons x xs ih=>simp
theorem fm_if {α β:Type} (q:α->Bool) (f:α->β) (xs:List α):xs.filterMap (fun x=>if q x then some (f x) else none)=(xs.filter q).map f:=by
 induction xs with
 | nil=>rfl
 | cons x xs ih=>cases h:q x <;> simp [h,ih]
theorem lies_in_ok (c o:List Int):runF pg Φ ⟨2,0,Bd.b_lies_in⟩ [cD c,cD o]=.ok (.bl (lies c o)):=by
 have e1:compL (elem pg Φ [some (cD c),some (cD o)] (.cmp .mem (.var 2) (.var 1)) 0 .none) (c.map .int)=.ok (c.map fun x=>.bl (decide (x∈o))):=compL_ints fun x _=>by
  simp only [Den.DNA,Nat.reduceAdd]
  unfold cD
  simp only [Den.DNA,Nat.reduceAdd,memR_i]
 have e2:seqOf (cD c)=.ok (c.map .int):=rfl
 simp only [Den.DNA,Nat.reduceAdd,Bd.b_lies_in,e2,e1,allD_map,lies]
theorem lies_in_one_ok {f:Nat} (hf:∀ c o:List Int,Φ f [cD c,cD o]=.ok (.bl (lies c o))) (c:List Int) {d:D} {os:List (List Int)} (hd:seqOf d=.ok (os.map cD)):runF pg Φ ⟨2,0,Bd.b_lies_in_one f⟩ [cD c,d]=.ok (.bl (os.any (lies c))):=by
 have e1:compL (elem pg Φ [some (cD c),some d] (.call f (.cons (.var 0) (.cons (.var 2) .nil))) 0 .none) (os.map cD)=.ok (os.map fun o=>.bl (lies c o)):=by
  rw [compL_c (p:=fun o=>some (.bl (lies c o))) fun o _=>by simp only [Den.DNA,Nat.reduceAdd,hf],fm_map]
 simp only [Den.DNA,Nat.reduceAdd,Bd.b_lies_in_one,hd,e1,anyD_map]
def irange (m:Int):List Int:=(List.range m.toNat).map fun (k:Nat)=>(k:Int)
theorem rangeL_i (m:Int):rangeL 0 m=(irange m).map .int:=by
 unfold rangeL irange
 rw [List.map_map]
 have:(m - 0).toNat=m.toNat:=by omega
 rw [this]
 apply List.map_congr_left
 intro k _
 simp
theorem mem_irange {m x:Int}:x∈irange m<->0<=x/\x < m:=by
 unfold irange
 rw [List.mem_map]
 constructor
 ·rintro ⟨k,hk,rfl⟩;have:=List.mem_range.mp hk;omega
 ·rintro ⟨h1,h2⟩;exact ⟨x.toNat,List.mem_range.mpr (by omega),by omega⟩
def cov (m:Int) (ts:List (List Int)):Bool:=(irange m).all fun k=>ts.any (lies [k])
theorem cov_iff {m:Int} {ts:List (List Int)}:cov m ts=true<->∀ x,0<=x->x < m->∃ t∈ts,x∈t:=by
 unfold cov
 simp only [List.all_eq_true,List.any_eq_true,lies_iff,mem_irange,List.mem_singleton,forall_eq]
 exact ⟨fun h x a b=>h x ⟨a,b⟩,fun h x ab=>h x ab.1 ab.2⟩
theorem rngOk_of {m:Int} (h:-1000<=m) (h':m<=1000):rngOk m=true:=by unfold rngOk;simp;omega
theorem rngR_ok {i j:Int} (h1:-1000<=i) (h2:i<=1000) (h3:-1000<=j) (h4:j<=1000):rngR i j=.ok (rangeL i j):=by
 have h5:(j - i).toNat<=1000000:=by omega
 unfold rngR;rw [rngOk_of h1 h2,rngOk_of h3 h4,decide_eq_true h5];rfl
theorem meet_ok {f:Nat} (hf:∀ (c:List Int) (os:List (List Int)),Φ f [cD c,.tup (os.map cD)]=.ok (.bl (os.any (lies c)))) (ts:List (List Int)) {m:Int} (h0:0<=m) (h8:m<=8):runF pg Φ ⟨2,0,Bd.b_meet_all_corners f⟩ [.tup (ts.map cD),.int m]=.ok (.bl (cov m ts)):=by
 have e1:compL (elem pg Φ [some (.tup (ts.map cD)),some (.int m)] (.call f (.cons (.tup (.cons (.var 2) .nil)) (.cons (.var 0) .nil))) 0 .none) ((irange m).map .int)=.ok ((irange m).map fun k=>.bl (ts.any (lies [k]))):=compL_ints fun k _=>by
  have:=hf [k] ts
  unfold cD at this ⊢
  simp only [List.map_cons,List.map_nil] at this
  simp only [Den.DNA,Nat.reduceAdd,this]
 simp only [Den.DNA,Nat.reduceAdd,Bd.b_meet_all_corners,rngR_ok (i:=0) (j:=m) (by omega) (by omega) (by omega) (by omega),rangeL_i,e1,allD_map,cov]
theorem filter_t {α:Type} {p:α->Bool} {c:α} (pre:List α) (h:p c=true):(pre++[c]).filter p=pre.filter p++[c]:=by rw [List.filter_append];simp [h]
theorem filter_f {α:Type} {p:α->Bool} {c:α} (pre:List α) (h:p c=false):(pre++[c]).filter p=pre.filter p:=by rw [List.filter_append];simp [h]
def upp (cs:List (List Int)):List (List Int):=(srt lexLt (ded cs)).filter fun c=>!((srt lexLt (ded cs)).filter fun o=>decide (c.length < o.length)).any (lies c)
theorem SZ_eq:SZ=16777216:=rfl
theorem uppermost_ok {f : Nat} (hf : ∀ (c : List Int) (os : List (List Int)), Φ f [cD c, .lst (os.map cD)] = .ok (.bl (os.any (lies c)))) {d : D} {cs : List (List Int)} (hd : seqOf d = .ok (cs.map cD)) (hn : ∀ c ∈ cs, c ≠ []) (h76 : (ded cs).length <= 63) :
    runF pg Φ ⟨1, 4, Bd.b_uppermost f⟩ [d] = .ok (.tup ((upp cs).map cD)) := by
  simp only [Den.DNA, Nat.reduceAdd, Bd.b_uppermost, hd, sset_c hn h76]
  have hlen : (srt lexLt (ded cs)).length <= 63 := by rw [len_srt]; exact h76
  unfold upp
  generalize srt lexLt (ded cs) = ds at *
  obtain ⟨ρ', e, x, y, he⟩ := forL_map (f := cD) (g := turn pg Φ 0 [3] (.cons (.asg 4 (.comp (.var 5) 0 (.seq (.var 1)) (.some (.cmp .gt (.prim .len (.var 5)) (.prim .len (.var 3)))))) (.cons (.iff (.not (.call f (.cons (.var 3) (.cons (.var 4) .nil)))) (.cons (.app 2 (.var 3)) .nil) .nil) .nil)))
    (fun ps ρ => ∃ (x y : Option D), ρ = [some d, some (.lst (ds.map cD)), some (.lst ((ps.filter fun c => !(ds.filter fun o => decide (c.length < o.length)).any (lies c)).map cD)), x, y])
    ds [some d, some (.lst (ds.map cD)), some (.lst []), none, none] ⟨none, none, rfl⟩ (fun pre c post ρ hp ⟨x, y, hI⟩ => by
      subst hI
      have e1 : ∀ z, compL (elem pg Φ [some d, some (.lst (ds.map cD)), z, some (cD c), y] (.var 5) 0 (.some (.cmp .gt (.prim .len (.var 5)) (.prim .len (.var 3))))) (ds.map cD) = .ok ((ds.filter fun o => decide (c.length < o.length)).map cD) := fun z => by
        rw [compL_c (p := fun o => if decide (c.length < o.length) then some (cD o) else none) fun o _ => by
          simp only [Den.DNA, Nat.reduceAdd, cD, List.length_map]
          by_cases q : c.length < o.length
          · have q' : ((c.length : Nat) : Int) < (o.length : Nat) := by omega
            simp only [decide_eq_true q, decide_eq_true q', if_true]
          · have q' : ¬ ((c.length : Nat) : Int) < (o.length : Nat) := by omega
            simp only [decide_eq_false q, decide_eq_false q', Bool.false_eq_true, if_false], fm_if]
      have hl : ((pre.filter fun c => !(ds.filter fun o => decide (c.length < o.length)).any (lies c)).map cD).length < SZ := by
        have h1 := List.length_filter_le (fun c => !(ds.filter fun o => decide (c.length < o.length)).any (lies c)) pre
        have h2 : pre.length <= ds.length := by rw [hp]; simp
        rw [List.length_map, SZ_eq]; omega
      simp only [Den.DNA, Nat.reduceAdd, e1, hf]
      cases q : (ds.filter fun o => decide (c.length < o.length)).any (lies c)
      · refine ⟨_, by simp only [Den.DNA, Nat.reduceAdd, app_ok, if_pos hl]; rfl, some (cD c), some (.lst ((ds.filter fun o => decide (c.length < o.length)).map cD)), ?_⟩
        rw [filter_t pre (by rw [q]; rfl), List.map_append]; rfl
      · refine ⟨_, by simp only [Den.DNA, Nat.reduceAdd]; rfl, some (cD c), some (.lst ((ds.filter fun o => decide (c.length < o.length)).map cD)), ?_⟩
        rw [filter_f pre (by rw [q]; rfl)])
  rw [e, he]
  simp only [Den.DNA, Nat.reduceAdd]
def nD (m:Int) (ts:List (List Int)):D:=.tup [.int m,.tup (ts.map cD)]
def isNet:D->Bool
 | .tup [.int m,t]=>decide (1<=m)&&decide (m<=8)&&areCells m t&&(match t with
  | .tup xs=>let cs:=xs.map fun d=>match d with | .tup ys=>ys.map (fun d=>match d with | .int i=>i | _=>0) | _=>[]
    decide (cs=upp cs)&&cov m cs
  | _=>false)
 | _=>false
theorem cs_back (cs:List (List Int)):((cs.map cD).map fun d=>match d with | .tup ys=>ys.map (fun d=>match d with | .int i=>i | _=>0) | _=>[])=cs:=by
 induction cs with
 | nil=>rfl
 | cons c cs ih=>rw [List.map_cons,List.map_cons,ih];congr 1;exact ints_back c
theorem isNet_n (m:Int) (ts:List (List Int)) (h:∀ c∈ts,IsCell m c):isNet (nD m ts)=(decide (1<=m)&&decide (m<=8)&&(decide (ts=upp ts)&&cov m ts)):=by
 have h1:areCells m (.tup (ts.map cD))=true:=(areCells_iff m _).mpr ⟨ts,rfl,h⟩
 simp only [isNet,nD,h1,cs_back,Bool.and_true]
theorem isNet_iff (d:D):isNet d=true<->∃ m ts,d=nD m ts/\1<=m/\m<=8/\(∀ c∈ts,IsCell m c)/\ts=upp ts/\cov m ts=true:=by
 constructor
 ·intro h
  unfold isNet at h
  split at h
  ·rename_i m t
   simp only [Bool.and_eq_true,decide_eq_true_eq] at h
   obtain ⟨⟨⟨h1,h2⟩,h3⟩,h4⟩:=h
   obtain ⟨ts,rfl,hc⟩:=(areCells_iff m t).mp h3
   simp only [cs_back,Bool.and_eq_true,decide_eq_true_eq] at h4
   exact ⟨m,ts,rfl,h1,h2,hc,h4.1,h4.2⟩
  ·cases h
 ·rintro ⟨m,ts,rfl,h1,h2,hc,h3,h4⟩
  rw [isNet_n m ts hc,decide_eq_true h1,decide_eq_true h2,decide_eq_true h3,h4];rfl
theorem isNet_len {xs:List D} (h:xs.length≠2):isNet (.tup xs)=false:=by
 cases q:isNet (.tup xs) with
 | false=>rfl
 | true =>
  obtain ⟨m,ts,e,_⟩:=(isNet_iff _).mp q
  unfold nD at e
  injection e with e
  subst e
  exact absurd rfl h
def few (d:D):Prop:=∀ m ts,d=nD m ts->(∀ c∈ts,IsCell m c)->(ded ts).length<=63
theorem is_net_ok {fm fu fa fy : Nat} (hy : ∀ d, Φ fy [d] = .ok (.bl (isMany d))) (ha : ∀ d (m : Int), Φ fa [d, .int m] = .ok (.bl (areCells m d)))
    (hu : ∀ ts : List (List Int), (∀ c ∈ ts, c ≠ []) -> (ded ts).length <= 63 -> Φ fu [.tup (ts.map cD)] = .ok (.tup ((upp ts).map cD))) (hm : ∀ (ts : List (List Int)) (m : Int), 0 <= m -> m <= 8 -> Φ fm [.tup (ts.map cD), .int m] = .ok (.bl (cov m ts)))
    (d : D) (hf : few d) : runF pg Φ ⟨1, 2, Bd.b_is_net fm fu fa fy⟩ [d] = .ok (.bl (isNet d)) := by
  cases d with
  | tup xs =>
    simp only [Den.DNA, Nat.reduceAdd, Bd.b_is_net]
    match xs, hf with
    | [], _ => rfl
    | [x], _ =>
      rw [isNet_len (by simp)]
      rfl
    | x :: y :: z :: r, _ =>
      have h0 : (((((x :: y :: z :: r)).length : Nat) : Int) == 2) = false := by simp only [List.length_cons]; rw [beq_eq_false_iff_ne]; omega
      rw [h0, isNet_len (by simp)]; rfl
    | [x, t], hf =>
      have h0 : (((([x, t]).length : Nat) : Int) == 2) = true := rfl
      have g0 : getAt [x, t] 0 = some x := rfl
      have g1 : getAt [x, t] 1 = some t := rfl
      rw [h0]
      simp only [Den.DNA, Nat.reduceAdd, idx_tup, g0, g1, hy]
      cases x with
      | int m =>
        by_cases q1 : 1 <= m
        · by_cases q2 : m <= 8
          · simp only [Den.DNA, Nat.reduceAdd, isMany, decide_eq_true q1, decide_eq_true q2, Bool.true_and, ha]
            cases q3 : areCells m t
            · simp only [Den.DNA, Nat.reduceAdd]
              have : isNet (.tup [.int m, t]) = false := by simp only [isNet, q3, Bool.and_false, Bool.false_and]
              rw [this]
            · obtain ⟨ts, rfl, hc⟩ := (areCells_iff m t).mp q3
              have e2 := hu ts (fun c h => (hc c h).1) (hf m ts rfl hc)
              have e4 : isNet (.tup [.int m, .tup (ts.map cD)]) = _ := isNet_n m ts hc
              rw [e4]
              simp only [Den.DNA, Nat.reduceAdd, e2, eqR_tcs]
              by_cases q4 : ts = upp ts
              · simp only [Den.DNA, Nat.reduceAdd, decide_eq_true q4, hm ts m (by omega) q2, decide_eq_true q1, decide_eq_true q2, Bool.true_and]
              · simp only [Den.DNA, Nat.reduceAdd, decide_eq_false q4, Bool.and_false, Bool.false_and]
          · simp only [Den.DNA, Nat.reduceAdd, isMany, decide_eq_false q2, Bool.and_false]
            have : isNet (.tup [.int m, t]) = false := by simp only [isNet, decide_eq_false q2, Bool.and_false, Bool.false_and]
            rw [this]
        · simp only [Den.DNA, Nat.reduceAdd, isMany, decide_eq_false q1, Bool.false_and]
          have : isNet (.tup [.int m, t]) = false := by simp only [isNet, decide_eq_false q1, Bool.and_false, Bool.false_and]
          rw [this]
      | _ => rfl
  | _ => rfl
end Pr
end
section
namespace Pl
open Den Pu Pr
variable {pg:Pg} {Φ:Fn}
def numB (lo hi:Int):D->Bool
 | .int i=>decide (lo<=i)&&decide (i<=hi)
 | _=>false
theorem number_ok (d:D) (lo hi:Int):runF pg Φ ⟨3,0,Bd.b_law_number⟩ [d,.int lo,.int hi]=.ok (.bl (numB lo hi d)):=by
 cases d with
 | int i =>
  simp only [Den.DNA,Nat.reduceAdd,Bd.b_law_number,inst_int,numB]
  have e:instD pg.up (.int i) .bool=.ok false:=rfl
  simp only [Den.DNA,Nat.reduceAdd,e]
  by_cases h:lo<=i
  ·simp only [Den.DNA,Nat.reduceAdd,decide_eq_true h,Bool.true_and]
  ·simp only [Den.DNA,Nat.reduceAdd,decide_eq_false h,Bool.false_and]
 | _=>rfl
mutual
theorem shp_up:∀ (n:Nat) (d:D),shp n d=true->shp (n+1) d=true
 | n,.non,_=>rfl
 | n,.bl _,_=>rfl
 | n,.int _,_=>rfl
 | 0,.str _,h=>h
 | n+1,.str _,h=>h
 | 0,.tup _,h=>by cases h
 | n+1,.tup xs,h=>shps_up n xs h
 | 0,.lst _,h=>by cases h
 | n+1,.lst xs,h=>shps_up n xs h
 | 0,.dct _ _,h=>by cases h
 | n+1,.dct _ _,h=>by cases h
 | 0,.exn _,h=>by cases h
 | n+1,.exn _,h=>by cases h
theorem shps_up:∀ (n:Nat) (xs:List D),xs.all (shp n)=true->xs.all (shp (n+1))=true
 | _,[],_=>rfl
 | n,x::xs,h=>by
  simp only [List.all_cons,Bool.and_eq_true] at h ⊢
  exact ⟨shp_up n x h.1,shps_up n xs h.2⟩
end
theorem shp_more {xs:List D} (h:xs.all (shp 50)=true):xs.all (shp 59)=true:=by
 have:=shps_up 58 xs (shps_up 57 xs (shps_up 56 xs (shps_up 55 xs (shps_up 54 xs (shps_up 53 xs (shps_up 52 xs (shps_up 51 xs (shps_up 50 xs h))))))))
 exact this
theorem shp_fm {xs:List D} {p:D->Bool} {n:Nat} (h:xs.all (shp n)=true):(xs.filterMap fun d=>if p d=true then none else some d).all (shp n)=true:=by
 rw [List.all_eq_true] at h ⊢
 intro d hd
 obtain ⟨x,hx,e⟩:=List.mem_filterMap.mp hd
 split at e
 ·cases e
 ·cases e;exact h _ hx
theorem fm_empty {α β:Type} (p:α->Option β) (xs:List α):(xs.filterMap p).isEmpty=xs.all fun x=>(p x).isNone:=by
 induction xs with
 | nil=>rfl
 | cons x xs ih=>simp only [List.filterMap_cons,List.all_cons];cases p x <;> simp [ih]
theorem idxI {c:List Int} {k:Nat} {x:Int} (h:c[k]?=some x):idxD (.tup (c.map .int)) (.int (k:Int))=.ok (.int x):=by
 rw [idx_tup,getAt_nat,List.getElem?_map,h];rfl
theorem rangeL_1 (n:Nat):rangeL 1 (n:Int)=(List.range (n - 1)).map fun (k:Nat)=>D.int ((k:Int)+1):=by
 unfold rangeL
 have:((n:Int) - 1).toNat=n - 1:=by omega
 rw [this]
 apply List.map_congr_left
 intro k _
 congr 1;omega
theorem compL_k {g:D->R (Option D)} {p:Nat->Option D} {f:Nat->D} {ks:List Nat} (h:∀ k∈ks,g (f k)=.ok (p k)):compL g (ks.map f)=.ok (ks.filterMap p):=by
 induction ks with
 | nil=>rfl
 | cons c cs ih =>
  simp only [List.map_cons,compL,h c List.mem_cons_self,R.ok_bind,ih fun y hy=>h y (List.mem_cons_of_mem _ hy),List.filterMap_cons]
  cases p c <;> rfl
theorem adj_ix:∀ (c:List Int),adj ltI c=(List.range (c.length - 1)).all fun k=>decide (c.getD k 0 < c.getD (k+1) 0)
 | []=>rfl
 | [_]=>rfl
 | a::b::r=>by
  have e:(a::b::r).length - 1=(b::r).length - 1+1:=by simp
  rw [e,List.range_succ_eq_map,List.all_cons,List.all_map]
  simp only [adj,adj_ix (b::r)]
  rfl
theorem law_adj (c:List Int) (m:Int) (hlen:c.length<=1000):ev pg Φ [some (D.tup (c.map .int)),some (D.int m)] (.cmp .eq (.comp (.var 2) 0 (.rng2 (.lit (.int 1)) (.prim .len (.var 0))) (.some (.cmp .ge (.idx (.var 0) (.bin .sub (.var 2) (.lit (.int 1)))) (.idx (.var 0) (.var 2))))) (.lst (.nil)))=.ok (.bl (adj ltI c)):=by
 have e3:compL (elem pg Φ [some (D.tup (c.map .int)),some (D.int m)] (.var 2) 0 (.some (.cmp .ge (.idx (.var 0) (.bin .sub (.var 2) (.lit (.int 1)))) (.idx (.var 0) (.var 2))))) ((List.range (c.length - 1)).map fun (k:Nat)=>D.int ((k:Int)+1))
   = .ok ((List.range (c.length - 1)).filterMap fun k=>if decide (c.getD k 0 < c.getD (k+1) 0) then none else some (D.int ((k:Int)+1))):=compL_k fun k hk=>by
  have hk:=List.mem_range.mp hk
  have g1:c[k]?=some (c.getD k 0):=by rw [List.getElem?_eq_getElem (by omega)];simp [List.getD,List.getElem?_eq_getElem (show k < c.length by omega)]
  have g2:c[k+1]?=some (c.getD (k+1) 0):=by rw [List.getElem?_eq_getElem (by omega)];simp [List.getD,List.getElem?_eq_getElem (show k+1 < c.length by omega)]
  have i1:=idxI g1
  have i2:=idxI g2
  have e5:(k:Int)+1 - 1=(k:Int):=by omega
  have e6:(k:Int)+1=((k+1:Nat):Int):=by omega
  simp only [Den.DNA,Nat.reduceAdd,e5,i1]
  rw [e6,i2]
  simp only [Den.DNA,Nat.reduceAdd]
  by_cases z:c.getD k 0 < c.getD (k+1) 0
  ·have z':¬ c.getD (k+1) 0<=c.getD k 0:=by omega
   simp only [Den.DNA,Nat.reduceAdd,decide_eq_true z,decide_eq_false z']
  ·have z':c.getD (k+1) 0<=c.getD k 0:=by omega
   simp only [Den.DNA,Nat.reduceAdd,decide_eq_false z,decide_eq_true z']
 have hr:=rngR_ok (i:=1) (j:=((c.length:Nat):Int)) (by omega) (by omega) (by omega) (by omega)
 simp only [Den.DNA,Nat.reduceAdd,List.length_map,hr,rangeL_1,e3,eqR_lnil (ys:=(List.range (c.length - 1)).filterMap fun k=>if decide (c.getD k 0 < c.getD (k+1) 0) then none else some (D.int ((k:Int)+1))) (by rw [List.all_eq_true];intro d hd;obtain ⟨k,_,hk⟩:=List.mem_filterMap.mp hd;split at hk <;> cases hk;exact shp_i _ _),fm_empty]
 have e4:((List.range (c.length - 1)).all fun k=>(if decide (c.getD k 0 < c.getD (k+1) 0)=true then (none:Option D) else some (D.int ((k:Int)+1))).isNone)=adj ltI c:=by
  rw [adj_ix]
  exact congrArg (fun p=>List.all (List.range (c.length - 1)) p) (funext fun k=>by generalize decide (c.getD k 0 < c.getD (k+1) 0)=b;cases b <;> rfl)
 rw [e4]
theorem law_is_cell_ok {f : Nat} (hf : ∀ d (lo hi : Int), Φ f [d, .int lo, .int hi] = .ok (.bl (numB lo hi d))) (d : D) (m : Int) (hlen : ∀ xs, d = .tup xs -> xs.length <= 1000 /\ xs.all (shp 50) = true) : runF pg Φ ⟨2, 0, Bd.b_law_is_cell f⟩ [d, .int m] = .ok (.bl (isCell m d)) := by
  cases d with
  | tup xs =>
    obtain ⟨hlen, hsh⟩ := hlen xs rfl
    simp only [Den.DNA, Nat.reduceAdd, Bd.b_law_is_cell, eqR_tnil (shp_more hsh)]
    cases xs with
    | nil => rfl
    | cons x xs =>
      have e0 : (x :: xs).isEmpty = false := rfl
      have e1 : compL (elem pg Φ [some (D.tup (x :: xs)), some (D.int m)] (.var 2) 0 (.some (.not (.call f (.cons (.var 2) (.cons (.lit (.int 0)) (.cons (.bin .sub (.var 1) (.lit (.int 1))) .nil))))))) (x :: xs) = .ok ((x :: xs).filterMap fun d => if numB 0 (m - 1) d then none else some d) :=
        compL_of fun d _ => by
          simp only [Den.DNA, Nat.reduceAdd, hf]
          cases numB 0 (m - 1) d <;> simp only [Den.DNA, Nat.reduceAdd]
      simp only [Den.DNA, Nat.reduceAdd, e0, e1, eqR_lnil (shp_fm (shp_more hsh)), fm_empty]
      have e2 : ((x :: xs).all fun d => (if numB 0 (m - 1) d = true then (none : Option D) else some d).isNone) = (x :: xs).all (numB 0 (m - 1)) := by
        congr 1; funext d; cases numB 0 (m - 1) d <;> rfl
      rw [e2]
      cases q : (x :: xs).all (numB 0 (m - 1))
      · -- one is no such number
        simp only [Den.DNA, Nat.reduceAdd]
        have : isCell m (.tup (x :: xs)) = false := by
          cases q' : isCell m (.tup (x :: xs)) with
          | false => rfl
          | true =>
            obtain ⟨c, e, hc⟩ := (isCell_iff _ _).mp q'
            unfold cD at e; injection e with e
            rw [e, List.all_map] at q
            have : c.all (numB 0 (m - 1) ∘ D.int) = true := by
              rw [List.all_eq_true]; intro z hz
              have := hc.2.1 z hz
              simp [numB]; omega
            rw [this] at q; cases q
        rw [this]
      · -- all are
        have hI : (x :: xs).all isI = true := by
          rw [List.all_eq_true] at q ⊢
          intro z hz
          have := q z hz
          cases z <;> simp [numB, isI] at *
        rcases ints_or (x :: xs) with ⟨c, e⟩ | h
        · rw [e] at q hlen ⊢
          have hcne : c ≠ [] := by rintro rfl; simp at e
          rw [List.length_map] at hlen
          simp only [Den.DNA, Nat.reduceAdd, law_adj c m hlen]
          have e7 : isCell m (.tup (c.map .int)) = _ := isCell_c m c
          have e8 : decide (IsCell m c) = adj ltI c := by
            rw [Bool.eq_iff_iff, adj_asc linI, decide_eq_true_iff]
            refine ⟨fun h => h.2.2, fun h => ?_⟩
            refine ⟨hcne, fun z hz => ?_, h⟩
            rw [List.all_map, List.all_eq_true] at q
            have := q z hz
            simp [numB] at this
            omega
          rw [e7, e8]
        · rw [hI] at h; cases h
  | _ => rfl
end Pl
end
section
namespace Pl
open Den Pu Pr
variable {pg:Pg} {Φ:Fn}
theorem compL_f {α:Type} {g:D->R (Option D)} {p:α->Option D} {f:α->D} {ks:List α} (h:∀ k∈ks,g (f k)=.ok (p k)):compL g (ks.map f)=.ok (ks.filterMap p):=by
 induction ks with
 | nil=>rfl
 | cons c cs ih =>
  simp only [List.map_cons,compL,h c List.mem_cons_self,R.ok_bind,ih fun y hy=>h y (List.mem_cons_of_mem _ hy),List.filterMap_cons]
  cases p c <;> rfl
theorem compL_flt {α:Type} {g:D->R (Option D)} {q:α->Bool} {h:α->D} {f:α->D} {ks:List α} (e:∀ k∈ks,g (f k)=.ok (if q k then some (h k) else none)):compL g (ks.map f)=.ok ((ks.filter q).map h):=by
 rw [compL_f e,fm_if]
theorem compL_m {α:Type} {g:D->R (Option D)} {h:α->D} {f:α->D} {ks:List α} (e:∀ k∈ks,g (f k)=.ok (some (h k))):compL g (ks.map f)=.ok (ks.map h):=by
 rw [compL_f (p:=fun k=>some (h k)) e,fm_map]
theorem seq_c (c:List Int):seqOf (cD c)=.ok (c.map .int):=rfl
theorem flt_empty {α:Type} (q:α->Bool) (xs:List α):(xs.filter q).isEmpty=xs.all fun x=>!q x:=by
 induction xs with
 | nil=>rfl
 | cons x xs ih=>cases h:q x <;> simp [h,ih]
theorem mp_empty {α β:Type} (f:α->β) (xs:List α):(xs.map f).isEmpty=xs.isEmpty:=by cases xs <;> rfl
theorem law_lies_ok (c o:List Int):runF pg Φ ⟨2,0,Bd.b_law_lies⟩ [cD c,cD o]=.ok (.bl (lies c o)):=by
 have e1:compL (elem pg Φ [some (cD c),some (cD o)] (.var 2) 0 (.some (.cmp .notmem (.var 2) (.var 1)))) (c.map .int)=.ok ((c.filter fun x=>!decide (x∈o)).map .int):=compL_flt fun x _=>by
  simp only [Den.DNA,Nat.reduceAdd]
  unfold cD
  simp only [Den.DNA,Nat.reduceAdd,memR_i]
  cases decide (x∈o) <;> simp only [Den.DNA,Nat.reduceAdd]
 simp only [Den.DNA,Nat.reduceAdd,Bd.b_law_lies,seq_c,e1,eqR_lnil (ys:=(c.filter fun x=>!decide (x∈o)).map .int) (by simp [List.all_map,shp_i]),mp_empty,flt_empty,lies,Bool.not_not]
def ltops (cs:List (List Int)):List (List Int):=(srt lexLt (ded cs)).filter fun c=>cs.all fun o=>!(!decide (c=o)&&lies c o)
theorem law_tops_ok {f : Nat} (hf : ∀ c o : List Int, Φ f [cD c, cD o] = .ok (.bl (lies c o))) {d : D} {cs : List (List Int)} (hd : seqOf d = .ok (cs.map cD)) (hn : ∀ c ∈ cs, c ≠ []) (h63 : (ded cs).length <= 63) :
    runF pg Φ ⟨1, 2, Bd.b_law_tops f⟩ [d] = .ok (.tup ((ltops cs).map cD)) := by
  simp only [Den.DNA, Nat.reduceAdd, Bd.b_law_tops, hd, sset_c hn h63]
  have hlen : (srt lexLt (ded cs)).length <= 63 := by rw [len_srt]; exact h63
  unfold ltops
  generalize srt lexLt (ded cs) = ds at *
  obtain ⟨ρ', e, x, he⟩ := forL_map (f := cD) (g := turn pg Φ 0 [2] (.cons (.iff (.cmp .eq (.comp (.var 3) 0 (.seq (.var 0)) (.some (.and (.cmp .ne (.var 2) (.var 3)) (.call f (.cons (.var 2) (.cons (.var 3) (.nil))))))) (.lst (.nil))) (.cons (.app 1 (.var 2)) (.nil)) (.nil)) (.nil)))
    (fun ps ρ => ∃ (x : Option D), ρ = [some d, some (.lst ((ps.filter fun c => cs.all fun o => !(!decide (c = o) && lies c o)).map cD)), x])
    ds [some d, some (.lst []), none] ⟨none, rfl⟩ (fun pre c post ρ hp ⟨x, hI⟩ => by
      subst hI
      have e1 : ∀ z, compL (elem pg Φ [some d, z, some (cD c)] (.var 3) 0 (.some (.and (.cmp .ne (.var 2) (.var 3)) (.call f (.cons (.var 2) (.cons (.var 3) (.nil))))))) (cs.map cD) = .ok ((cs.filter fun o => !decide (c = o) && lies c o).map cD) := fun z => compL_flt fun o _ => by
        simp only [Den.DNA, Nat.reduceAdd, eqR_c, hf]
        cases decide (c = o) <;> simp only [Den.DNA, Nat.reduceAdd, hf, Bool.false_and, Bool.true_and]
        cases lies c o <;> simp only [Den.DNA, Nat.reduceAdd]
      have hl : ((pre.filter fun c => cs.all fun o => !(!decide (c = o) && lies c o)).map cD).length < SZ := by
        have h1 := List.length_filter_le (fun c => cs.all fun o => !(!decide (c = o) && lies c o)) pre
        have h2 : pre.length <= ds.length := by rw [hp]; simp
        rw [List.length_map, SZ_eq]; omega
      simp only [Den.DNA, Nat.reduceAdd, hd, e1, eqR_lnil (shp_cs 58 _), mp_empty, flt_empty]
      cases q : (cs.all fun o => !(!decide (c = o) && lies c o))
      · refine ⟨_, by simp only [Den.DNA, Nat.reduceAdd]; rfl, some (cD c), ?_⟩
        rw [filter_f pre (by rw [q])]
      · refine ⟨_, by simp only [Den.DNA, Nat.reduceAdd, app_ok, if_pos hl]; rfl, some (cD c), ?_⟩
        rw [filter_t pre (by rw [q]), List.map_append]; rfl)
  rw [e, he]
  simp only [Den.DNA, Nat.reduceAdd]
theorem asc_sub_len {c o:List Int} (hc:Asc ltI c) (ho:Asc ltI o) (h:∀ x∈c,x∈o) (ne:c≠o):c.length < o.length:=by
 have h1:c.length<=o.length:=nodup_len (hc.nodup linI) h
 rcases Nat.lt_or_ge c.length o.length with q | q
 ·exact q
 ·exfalso
  apply ne
  refine asc_ext linI hc ho fun z=>⟨h z,fun hz=>?_⟩
  by_cases hzc:z∈c
  ·exact hzc
  ·exfalso
   have:(z::c).length<=o.length:=nodup_len (List.nodup_cons.mpr ⟨hzc,hc.nodup linI⟩) fun w hw=>by
    rcases List.mem_cons.mp hw with rfl | hw
    ·exact hz
    ·exact h w hw
   simp at this;omega
theorem ltops_upp {cs : List (List Int)} (h : ∀ c ∈ cs, Asc ltI c) : ltops cs = upp cs := by
  unfold ltops upp
  apply List.filter_congr
  intro c hc
  have hm : ∀ z, z ∈ srt lexLt (ded cs) <-> z ∈ cs := fun z => by rw [mem_srt, mem_ded]
  have hc := (hm c).mp hc
  rw [Bool.eq_iff_iff]
  simp only [List.all_eq_true, Bool.not_eq_true', Bool.and_eq_false_iff, Bool.not_eq_false', decide_eq_true_eq, List.any_eq_false, List.mem_filter, hm]
  constructor
  · intro q o ⟨ho, hl⟩
    rcases q o ho with rfl | q
    · omega
    · rw [q]; exact Bool.false_ne_true
  · intro q o ho
    by_cases e : c = o
    · exact .inl e
    · refine .inr ?_
      cases z : lies c o with
      | false => rfl
      | true => exact absurd z (q o ⟨ho, asc_sub_len (h c hc) (h o ho) (lies_iff.mp z) e⟩)
end Pl
end
section
namespace Pl
open Den Pu Pr
variable {pg:Pg} {Φ:Fn}
def gd (w:Nat):Nat->D->Bool
 | _,.non=>true
 | _,.bl _=>true
 | _,.int _=>true
 | _,.str x=>x.cps.all (· < 0x110000)
 | n+1,.tup xs=>decide (xs.length<=w)&&xs.all (gd w n)
 | n+1,.lst xs=>decide (xs.length<=w)&&xs.all (gd w n)
 | _,_=>false
mutual
theorem gd_shp {w:Nat}:∀ (n:Nat) (d:D),gd w n d=true->shp n d=true
 | n,.non,_=>by cases n <;> rfl
 | n,.bl _,_=>by cases n <;> rfl
 | n,.int _,_=>by cases n <;> rfl
 | 0,.str _,h=>h
 | n+1,.str _,h=>h
 | 0,.tup _,h=>by cases h
 | n+1,.tup xs,h=>gds_shp n xs (by simp only [gd,Bool.and_eq_true] at h;exact h.2)
 | 0,.lst _,h=>by cases h
 | n+1,.lst xs,h=>gds_shp n xs (by simp only [gd,Bool.and_eq_true] at h;exact h.2)
 | 0,.dct _ _,h=>by cases h
 | n+1,.dct _ _,h=>by cases h
 | 0,.exn _,h=>by cases h
 | n+1,.exn _,h=>by cases h
theorem gds_shp {w:Nat}:∀ (n:Nat) (xs:List D),xs.all (gd w n)=true->xs.all (shp n)=true
 | _,[],_=>rfl
 | n,x::xs,h=>by
  simp only [List.all_cons,Bool.and_eq_true] at h ⊢
  exact ⟨gd_shp n x h.1,gds_shp n xs h.2⟩
end
theorem shp_le {n k:Nat} (h:n<=k) {d:D} (hd:shp n d=true):shp k d=true:=by
 induction h with
 | refl=>exact hd
 | step _ ih=>exact shp_up _ _ ih
theorem shps_le {n k:Nat} (h:n<=k) {xs:List D} (hd:xs.all (shp n)=true):xs.all (shp k)=true:=by
 rw [List.all_eq_true] at hd ⊢
 exact fun d hx=>shp_le h (hd d hx)
mutual
theorem gd_up {w w':Nat} (hw:w<=w'):∀ (n:Nat) (d:D),gd w n d=true->gd w' (n+1) d=true
 | n,.non,_=>rfl
 | n,.bl _,_=>rfl
 | n,.int _,_=>rfl
 | 0,.str _,h=>h
 | n+1,.str _,h=>h
 | 0,.tup _,h=>by cases h
 | n+1,.tup xs,h=>by
  simp only [gd,Bool.and_eq_true,decide_eq_true_eq] at h
  show (decide (xs.length<=w')&&xs.all (gd w' (n+1)))=true
  rw [gds_up hw n xs h.2,Bool.and_true];exact decide_eq_true (by omega)
 | 0,.lst _,h=>by cases h
 | n+1,.lst xs,h=>by
  simp only [gd,Bool.and_eq_true,decide_eq_true_eq] at h
  show (decide (xs.length<=w')&&xs.all (gd w' (n+1)))=true
  rw [gds_up hw n xs h.2,Bool.and_true];exact decide_eq_true (by omega)
 | 0,.dct _ _,h=>by cases h
 | n+1,.dct _ _,h=>by cases h
 | 0,.exn _,h=>by cases h
 | n+1,.exn _,h=>by cases h
theorem gds_up {w w':Nat} (hw:w<=w'):∀ (n:Nat) (xs:List D),xs.all (gd w n)=true->xs.all (gd w' (n+1))=true
 | _,[],_=>rfl
 | n,x::xs,h=>by
  simp only [List.all_cons,Bool.and_eq_true] at h ⊢
  exact ⟨gd_up hw n x h.1,gds_up hw n xs h.2⟩
end
theorem gd_le {w w' n k:Nat} (hw:w<=w') (h:n < k) {d:D} (hd:gd w n d=true):gd w' k d=true:=by
 induction h with
 | refl=>exact gd_up hw _ _ hd
 | step _ ih=>exact gd_up (Nat.le_refl _) _ _ ih
theorem gd_tup {w n:Nat} {xs:List D} (h:gd w (n+1) (.tup xs)=true):xs.length<=w/\xs.all (gd w n)=true:=by
 simp only [gd,Bool.and_eq_true,decide_eq_true_eq] at h;exact h
theorem gd_cell {n:Nat} (hn:n<=50) {d:D} (h:gd 63 n d=true):∀ xs,d=.tup xs->xs.length<=1000/\xs.all (shp 50)=true:=by
 intro xs e
 subst e
 cases n with
 | zero=>cases h
 | succ n =>
  obtain ⟨a,b⟩:=gd_tup h
  exact ⟨by omega,shps_le (by omega) (gds_shp n xs b)⟩
theorem cov_set {m : Int} {ts : List (List Int)} (h0 : 0 <= m) (h : ∀ c ∈ ts, IsCell m c) : decide (srt ltI (ded ts.flatten) = irange m) = cov m ts := by
  have asc_ir : Asc ltI (irange m) := by
    unfold irange Asc
    rw [List.pairwise_map]
    exact List.Pairwise.imp (fun {a b} (q : a < b) => by simp [ltI]; omega) List.pairwise_lt_range
  rw [Bool.eq_iff_iff, decide_eq_true_eq, cov_iff]
  have hm : ∀ z, z ∈ srt ltI (ded ts.flatten) <-> ∃ t ∈ ts, z ∈ t := fun z => by rw [mem_srt, mem_ded, List.mem_flatten]
  constructor
  · intro e x a b
    have : x ∈ irange m := mem_irange.mpr ⟨a, b⟩
    rw [<- e] at this
    exact (hm x).mp this
  · intro q
    refine asc_ext linI (asc_srt linI (nodup_ded _)) asc_ir fun z => ?_
    rw [hm, mem_irange]
    constructor
    · rintro ⟨t, ht, hz⟩
      exact (h t ht).2.1 z hz
    · rintro ⟨a, b⟩
      exact q z a b
theorem cell_len {m:Int} {c:List Int} (h:IsCell m c):c.length<=m.toNat:=by
 have:c.length<=(irange m).length:=nodup_len (h.2.2.nodup linI) fun z hz=>mem_irange.mpr (h.2.1 z hz)
 simpa [irange] using this
theorem flat_len {k:Nat}:∀ {ts:List (List Int)},(∀ c∈ts,c.length<=k)->ts.flatten.length<=ts.length * k
 | [],_=>by simp
 | t::ts,h=>by
  have:=flat_len (ts:=ts) fun c hc=>h c (List.mem_cons_of_mem _ hc)
  have h1:=h t List.mem_cons_self
  simp only [List.flatten_cons,List.length_append,List.length_cons,Nat.succ_mul]
  omega
theorem corners_ok {t0 : D} (ts : List (List Int)) (h : ts.flatten.length <= SZ) : ∃ x, forL (turn pg Φ 0 [2] (.cons (.asg 1 (.bin .add (.var 1) (.lstI (.seq (.var 2))))) (.nil))) (ts.map cD) [some t0, some (.lst []), none] = .ok (.nx [some t0, some (.lst (ts.flatten.map .int)), x]) := by
  obtain ⟨ρ', e, x, he⟩ := forL_map (f := cD) (g := turn pg Φ 0 [2] (.cons (.asg 1 (.bin .add (.var 1) (.lstI (.seq (.var 2))))) (.nil)))
    (fun ps ρ => ∃ (x : Option D), ρ = [some t0, some (.lst (ps.flatten.map .int)), x])
    ts [some t0, some (.lst []), none] ⟨none, rfl⟩ (fun pre c post ρ hp ⟨x, hI⟩ => by
      subst hI
      have hl : (pre.flatten.map D.int).length + (c.map D.int).length <= SZ := by
        rw [hp] at h
        simp only [List.flatten_append, List.flatten_cons, List.length_append] at h
        rw [List.length_map, List.length_map]; omega
      refine ⟨_, by simp only [Den.DNA, Nat.reduceAdd, seq_c, add_lst, if_pos hl]; rfl, some (cD c), ?_⟩
      simp [List.flatten_append])
  exact ⟨x, by rw [e, he]⟩
theorem irange_len {m:Int} (h:m<=8):(irange m).length<=8:=by unfold irange;simp;omega
theorem law_is_net_ok {fl fc fn n : Nat} (hn : ∀ d (lo hi : Int), Φ fn [d, .int lo, .int hi] = .ok (.bl (numB lo hi d))) (hc : ∀ d (m : Int), gd 63 50 d = true -> Φ fc [d, .int m] = .ok (.bl (isCell m d)))
    (hl : ∀ ts : List (List Int), (∀ c ∈ ts, c ≠ []) -> (ded ts).length <= 63 -> Φ fl [.tup (ts.map cD)] = .ok (.tup ((ltops ts).map cD))) (d : D) (hg : gd 63 50 d = true) : runF pg Φ ⟨1, 2, Bd.b_law_is_net fl fc fn⟩ [d] = .ok (.bl (isNet d)) := by
  cases d with
  | tup xs =>
    simp only [Den.DNA, Nat.reduceAdd, Bd.b_law_is_net]
    match xs, hg with
    | [], _ => rfl
    | [x], _ =>
      rw [isNet_len (by simp)]
      rfl
    | x :: y :: z :: r, _ =>
      have h0 : (((((x :: y :: z :: r)).length : Nat) : Int) == 2) = false := by simp only [List.length_cons]; rw [beq_eq_false_iff_ne]; omega
      rw [h0, isNet_len (by simp)]; rfl
    | [x, t], hg =>
      have h0 : (((([x, t]).length : Nat) : Int) == 2) = true := rfl
      have g0 : getAt [x, t] 0 = some x := rfl
      have g1 : getAt [x, t] 1 = some t := rfl
      obtain ⟨_, hgx⟩ := gd_tup hg
      simp only [List.all_cons, Bool.and_eq_true] at hgx
      have hgt := hgx.2.1
      rw [h0]
      simp only [Den.DNA, Nat.reduceAdd, idx_tup, g0, g1, hn]
      cases x with
      | int m =>
        by_cases q1 : 1 <= m
        · by_cases q2 : m <= 8
          · simp only [Den.DNA, Nat.reduceAdd, numB, decide_eq_true q1, decide_eq_true q2, Bool.true_and]
            cases t with
            | tup ys =>
              obtain ⟨hy, hgy⟩ := gd_tup hgt
              have e1 : compL (elem pg Φ [some (.tup [.int m, .tup ys]), none, none] (.var 3) 0 (.some (.not (.call fc (.cons (.var 3) (.cons (.idx (.var 0) (.lit (.int 0))) (.nil))))))) ys = .ok (ys.filterMap fun d => if isCell m d then none else some d) :=
                compL_of fun d hd => by
                  have hdg : gd 63 50 d = true := gd_le (Nat.le_refl _) (by omega) (List.all_eq_true.mp hgy d hd)
                  simp only [Den.DNA, Nat.reduceAdd, idx_tup, g0, hc d m hdg]
                  cases isCell m d <;> simp only [Den.DNA, Nat.reduceAdd]
              have hsh : ys.all (shp 59) = true := shps_le (by omega) (gds_shp 48 ys hgy)
              simp only [Den.DNA, Nat.reduceAdd, idx_tup, g1, e1, eqR_lnil (shp_fm hsh), fm_empty]
              have e2 : (ys.all fun d => (if isCell m d = true then (none : Option D) else some d).isNone) = ys.all (isCell m) := by
                congr 1; funext d; cases isCell m d <;> rfl
              rw [e2]
              have e3 : areCells m (.tup ys) = ys.all (isCell m) := rfl
              cases q3 : ys.all (isCell m)
              · have : isNet (.tup [.int m, .tup ys]) = false := by simp only [isNet, e3, q3, Bool.and_false, Bool.false_and]
                rw [this]
                simp only [Den.DNA, Nat.reduceAdd]
              · obtain ⟨ts, e4, hts⟩ := (areCells_iff m (.tup ys)).mp (by rw [e3]; exact q3)
                injection e4 with e4
                subst e4
                rw [List.length_map] at hy
                have hasc : ∀ c ∈ ts, Asc ltI c := fun c hc => (hts c hc).2.2
                have e5 := hl ts (fun c h => (hts c h).1) (Nat.le_trans (ded_len ts) hy)
                rw [ltops_upp hasc] at e5
                have e6 : isNet (.tup [.int m, .tup (ts.map cD)]) = _ := isNet_n m ts hts
                rw [e6]
                simp only [Den.DNA, Nat.reduceAdd, idx_tup, g1, e5, eqR_tcs]
                by_cases q4 : ts = upp ts
                · have hfl : ts.flatten.length <= 504 := by
                    have := flat_len (k := 8) (ts := ts) fun c hc => by have := cell_len (hts c hc); omega
                    omega
                  obtain ⟨x, e7⟩ := corners_ok (pg := pg) (Φ := Φ) (t0 := .tup [.int m, .tup (ts.map cD)]) ts (by rw [SZ_eq]; omega)
                  have hd63 : (ded ts.flatten).length <= 63 := by
                    have : (ded ts.flatten).length <= (irange m).length := nodup_len (nodup_ded _) fun z hz => by
                      rw [mem_ded, List.mem_flatten] at hz
                      obtain ⟨t, ht, hz⟩ := hz
                      exact mem_irange.mpr ((hts t ht).2.1 z hz)
                    have := irange_len q2
                    omega
                  simp only [Den.DNA, Nat.reduceAdd, decide_eq_true q4, idx_tup, g0, g1, e7, sset_i hd63, rngR_ok (i := 0) (j := m) (by omega) (by omega) (by omega) (by omega), rangeL_i, eqR_lis, decide_eq_true q1, decide_eq_true q2, Bool.true_and]
                  rw [cov_set (by omega) hts]
                · simp only [Den.DNA, Nat.reduceAdd, decide_eq_false q4, Bool.and_false, Bool.false_and]
            | _ =>
              have e8 : ∀ t, (∀ ys, t ≠ .tup ys) -> isNet (.tup [.int m, t]) = false := fun t ht => by
                cases q : isNet (.tup [.int m, t]) with
                | false => rfl
                | true =>
                  obtain ⟨m', ts, e, _⟩ := (isNet_iff _).mp q
                  unfold nD at e
                  injection e with e
                  simp only [List.cons.injEq] at e
                  exact absurd e.2.1 (ht _)
              rw [e8 _ (by intro _ z; cases z)]
              rfl
          · simp only [Den.DNA, Nat.reduceAdd, numB, decide_eq_false q2, Bool.and_false]
            have : isNet (.tup [.int m, t]) = false := by simp only [isNet, decide_eq_false q2, Bool.and_false, Bool.false_and]
            rw [this]
        · simp only [Den.DNA, Nat.reduceAdd, numB, decide_eq_false q1, Bool.false_and]
          have : isNet (.tup [.int m, t]) = false := by simp only [isNet, decide_eq_false q1, Bool.and_false, Bool.false_and]
          rw [this]
      | _ => rfl
  | _ => rfl
end Pl
end
section
namespace Pl
open Den Pu Pr
variable {pg:Pg} {Φ:Fn}
def prt:Nat->List Int->List (List Int)
 | 0,_=>[[]]
 | _+1,[]=>[]
 | s+1,x::r=>(prt s r).map (x::·)++prt (s+1) r
theorem mem_prt:∀ (s:Nat) (c z:List Int),z∈prt s c<->z.length=s/\z.Sublist c
 | 0,c,z=>by
  simp only [prt,List.mem_singleton,List.length_eq_zero_iff]
  exact ⟨fun h=>⟨h,by subst h;exact List.nil_sublist _⟩,fun h=>h.1⟩
 | s+1,[],z=>by
  simp only [prt,List.not_mem_nil,List.sublist_nil,false_iff]
  rintro ⟨h1,h2⟩;subst h2;simp at h1
 | s+1,x::r,z=>by
  simp only [prt,List.mem_append,List.mem_map,mem_prt s r,mem_prt (s+1) r,List.sublist_cons_iff]
  constructor
  ·rintro (⟨y,⟨h1,h2⟩,rfl⟩ | ⟨h1,h2⟩)
   ·exact ⟨by simp [h1],.inr ⟨y,rfl,h2⟩⟩
   ·exact ⟨h1,.inl h2⟩
  ·rintro ⟨h1,h2 | ⟨y,rfl,h2⟩⟩
   ·exact .inr ⟨h1,h2⟩
   ·exact .inl ⟨y,⟨by simpa using h1,h2⟩,rfl⟩
theorem len_prt:∀ (s:Nat) (c:List Int),(prt s c).length<=2 ^ c.length
 | 0,c=>by simp only [prt,List.length_singleton];exact Nat.one_le_two_pow
 | s+1,[]=>by simp [prt]
 | s+1,x::r=>by
  have h1:=len_prt s r
  have h2:=len_prt (s+1) r
  simp only [prt,List.length_append,List.length_map,List.length_cons,Nat.pow_succ]
  omega
def pn:Nat->Nat->Nat
 | 0,_=>1
 | _+1,0=>0
 | s+1,n+1=>pn s n+pn (s+1) n
theorem prt_n:∀ (s:Nat) (c:List Int),(prt s c).length=pn s c.length
 | 0,c=>by simp [prt,pn]
 | s+1,[]=>by simp [prt,pn]
 | s+1,x::r=>by simp only [prt,List.length_append,List.length_map,List.length_cons,pn,prt_n s r,prt_n (s+1) r]
theorem pn_0:∀ {s n:Nat},n < s->pn s n=0
 | 0,_,h=>by omega
 | s+1,0,_=>rfl
 | s+1,n+1,h=>by simp only [pn,pn_0 (s:=s) (n:=n) (by omega),pn_0 (s:=s+1) (n:=n) (by omega)]
theorem pn_6 {s n:Nat} (h:n<=6):pn s n<=20:=by
 rcases Nat.lt_or_ge n s with q | q
 ·rw [pn_0 q];omega
 ·have:∀ n:Fin 7,∀ s:Fin 7,pn s.val n.val<=20:=by decide
  exact this ⟨n,by omega⟩ ⟨s,by omega⟩
theorem prt_flat:∀ (s:Nat) (c:List Int),prt (s+1) c=(List.range c.length).flatMap fun k=>(prt s (c.drop (k+1))).map (c.getD k 0::·)
 | s,[]=>rfl
 | s,x::r=>by
  rw [List.length_cons,List.range_succ_eq_map,List.flatMap_cons,List.flatMap_map]
  show _=(prt s r).map (x::·)++(List.range r.length).flatMap fun k=>(prt s (r.drop (k+1))).map (r.getD k 0::·)
  rw [<- prt_flat s r];rfl
theorem idxI' {c:List Int} {k:Nat} (h:k < c.length):idxD (.tup (c.map .int)) (.int (k:Int))=.ok (.int (c.getD k 0)):=idxI (by rw [List.getElem?_eq_getElem h];simp [List.getD,List.getElem?_eq_getElem h])
theorem rangeL_0 (n:Nat):rangeL 0 (n:Int)=(List.range n).map fun (k:Nat)=>D.int (k:Int):=by
 unfold rangeL
 have:((n:Int) - 0).toNat=n:=by omega
 rw [this]
 apply List.map_congr_left
 intro k _
 congr 1;omega
theorem flatMap_len {α β:Type} {f:α->List β} {k:Nat}:∀ {xs:List α},(∀ x∈xs,(f x).length<=k)->(xs.flatMap f).length<=xs.length * k
 | [],_=>by simp
 | x::xs,h=>by
  have:=flatMap_len (f:=f) (xs:=xs) fun c hc=>h c (List.mem_cons_of_mem _ hc)
  have h1:=h x List.mem_cons_self
  simp only [List.flatMap_cons,List.length_append,List.length_cons,Nat.succ_mul]
  omega
theorem parts_0 {f:Nat} (c:List Int):runF pg Φ ⟨2,2,Bd.b_law_parts f⟩ [cD c,.int 0]=.ok (.lst ((prt 0 c).map cD)):=by
 have e:eqR (.int 0) (.int 0)=.ok true:=rfl
 simp only [Den.DNA,Nat.reduceAdd,Bd.b_law_parts,e,prt]
 rfl
theorem parts_s {f:Nat} {c:List Int} {s:Nat} (hc:c.length<=8) (hf:∀ c':List Int,c'.length<=8->Φ f [cD c',.int (s:Int)]=.ok (.lst ((prt s c').map cD))):runF pg Φ ⟨2,2,Bd.b_law_parts f⟩ [cD c,.int ((s:Int)+1)]=.ok (.lst ((prt (s+1) c).map cD)):=by
 have h0:((s:Int)+1==0)=false:=by rw [beq_eq_false_iff_ne];omega
 have h1:lenD (cD c)=.ok (.int (c.length:Int)):=by unfold cD;rw [len_tup,List.length_map]
 simp only [Den.DNA,Nat.reduceAdd,Bd.b_law_parts,h0,h1,rngR_ok (i:=0) (j:=(c.length:Int)) (by omega) (by omega) (by omega) (by omega),rangeL_0]
 have bnd:∀ ks:List Nat,ks.length<=8->(ks.flatMap fun k=>(prt s (c.drop (k+1))).map (c.getD k 0::·)).length<=2048:=fun ks hk=>by
  have:=flatMap_len (f:=fun k=>(prt s (c.drop (k+1))).map (c.getD k 0::·)) (k:=256) (xs:=ks) fun k _=>by
   have h2:=len_prt s (c.drop (k+1))
   have h3:(c.drop (k+1)).length<=8:=by rw [List.length_drop];omega
   have h4:2 ^ (c.drop (k+1)).length<=2 ^ 8:=Nat.pow_le_pow_right (by decide) h3
   rw [List.length_map];omega
  omega
 obtain ⟨ρ',e,x,he⟩:=forL_map (f:=fun k:Nat=>D.int (k:Int)) (g:=turn pg Φ 0 [3] (.cons (.asg 2 (.bin .add (.var 2) (.comp (.bin .add (.tup (.cons (.idx (.var 0) (.var 3)) (.nil))) (.var 4)) 0 (.seq (.call f (.cons (.slice (.var 0) (.some (.bin .add (.var 3) (.lit (.int 1)))) (.none)) (.cons (.bin .sub (.var 1) (.lit (.int 1))) (.nil))))) (.none)))) (.nil)))
  (fun ps ρ=>∃ (x:Option D),ρ=[some (cD c),some (.int ((s:Int)+1)),some (.lst ((ps.flatMap fun k=>(prt s (c.drop (k+1))).map (c.getD k 0::·)).map cD)),x])
  (List.range c.length) [some (cD c),some (.int ((s:Int)+1)),some (.lst []),none] ⟨none,rfl⟩ (fun pre k post ρ hp ⟨x,hI⟩=>by
   subst hI
   have hk:k < c.length:=by
    have:k∈List.range c.length:=by rw [hp];simp
    exact List.mem_range.mp this
   have hpl:pre.length+1<=c.length:=by
    have:(List.range c.length).length=(pre++k::post).length:=by rw [hp]
    simp at this;omega
   have hs:sliceD (cD c) (some ((k:Int)+1)) none=.ok (cD (c.drop (k+1))):=by
    unfold cD
    rw [slice_tup]
    have:((k:Int)+1)=((k+1:Nat):Int):=by omega
    rw [this,cut_from,List.map_drop]
   have hsub:(s:Int)+1 - 1=(s:Int):=by omega
   have hd:(c.drop (k+1)).length<=8:=by rw [List.length_drop];omega
   have e1:∀ a b,compL (elem pg Φ [some (cD c),a,b,some (D.int (k:Int))] (.bin .add (.tup (.cons (.idx (.var 0) (.var 3)) (.nil))) (.var 4)) 0 .none) ((prt s (c.drop (k+1))).map cD)=.ok ((prt s (c.drop (k+1))).map fun z=>cD (c.getD k 0::z)):=fun a b=>compL_m fun z hz=>by
    have hz:=(mem_prt _ _ _).mp hz
    have hzl:=hz.2.length_le
    have i1:=idxI' hk
    have hl:[D.int (c.getD k 0)].length+(z.map D.int).length<=SZ:=by rw [List.length_map,SZ_eq];simp only [List.length_singleton];omega
    simp only [Den.DNA,Nat.reduceAdd]
    unfold cD
    simp only [Den.DNA,Nat.reduceAdd,i1,add_tup]
    rw [if_pos (by simpa using hl)]
    rfl
   have hlen:((pre.flatMap fun k=>(prt s (c.drop (k+1))).map (c.getD k 0::·)).map cD).length+((prt s (c.drop (k+1))).map fun z=>cD (c.getD k 0::z)).length<=SZ:=by
    have h1:=bnd pre (by omega)
    have h2:=len_prt s (c.drop (k+1))
    have h4:2 ^ (c.drop (k+1)).length<=2 ^ 8:=Nat.pow_le_pow_right (by decide) hd
    rw [List.length_map,List.length_map,SZ_eq];omega
   refine ⟨_,by simp only [Den.DNA,Nat.reduceAdd,hs,hsub,hf _ hd,e1,add_lst,if_pos hlen];rfl,some (.int (k:Int)),?_⟩
   simp [List.flatMap_append])
 rw [e,he,<- prt_flat]
 simp only [Den.DNA,Nat.reduceAdd]
theorem parts_ok {fds:List Fd} {f:Nat} (hf:fds[f]?=some ⟨2,2,Bd.b_law_parts f⟩):∀ (s n:Nat) (c:List Int),s < n->c.length<=8->run pg fds n f [cD c,.int (s:Int)]=.ok (.lst ((prt s c).map cD))
 | 0,0,c,h,_=>by omega
 | s+1,0,c,h,_=>by omega
 | 0,n+1,c,_,_=>by rw [run_succ,hf];exact parts_0 c
 | s+1,n+1,c,h,hc=>by
  rw [run_succ,hf]
  have:((s+1:Nat):Int)=(s:Int)+1:=by omega
  rw [this]
  exact parts_s hc fun c' hc'=>parts_ok hf s n c' (by omega) hc'
end Pl
end
section
namespace Pl
open Den Pu Pr
variable {pg:Pg} {Φ:Fn}
theorem asc_sublist:∀ {o c:List Int},Asc ltI c->Asc ltI o->(∀ x∈c,x∈o)->c.Sublist o
 | [],[],_,_,_=>List.nil_sublist _
 | [],x::c,_,_,h=>by have:=h x List.mem_cons_self;simp at this
 | y::o,[],_,_,_=>List.nil_sublist _
 | y::o,x::c,hc,ho,h=>by
  obtain ⟨c1,c2⟩:=List.pairwise_cons.mp hc
  obtain ⟨o1,o2⟩:=List.pairwise_cons.mp ho
  by_cases e:x=y
  ·subst e
   refine List.Sublist.cons_cons x (asc_sublist c2 o2 fun z hz=>?_)
   rcases List.mem_cons.mp (h z (List.mem_cons_of_mem _ hz)) with q | q
   ·have:=c1 z hz;subst q;simp [ltI] at this
   ·exact q
  ·have hx:x∈o:=by
    rcases List.mem_cons.mp (h x List.mem_cons_self) with q | q
    ·exact absurd q e
    ·exact q
   have hyx:=o1 x hx
   refine List.Sublist.cons y (asc_sublist hc o2 fun z hz=>?_)
   rcases List.mem_cons.mp (h z hz) with q | q
   ·exfalso
    subst q
    rcases List.mem_cons.mp hz with w | w
    ·exact e w.symm
    ·have:=c1 z w;simp [ltI] at this hyx;omega
   ·exact q
def cellsH (ts:List (List Int)) (h:Nat):List (List Int):=srt lexLt (ded (ts.flatMap (prt (h+1))))
theorem mem_cellsH {ts:List (List Int)} {h:Nat} {z:List Int}:z∈cellsH ts h<->z.length=h+1/\∃ t∈ts,z.Sublist t:=by
 unfold cellsH
 rw [mem_srt,mem_ded,List.mem_flatMap]
 simp only [mem_prt]
 exact ⟨fun ⟨t,a,b,c⟩=>⟨b,t,a,c⟩,fun ⟨b,t,a,c⟩=>⟨t,a,b,c⟩⟩
theorem asc_cellsH (ts:List (List Int)) (h:Nat):Asc lexLt (cellsH ts h):=asc_srt linC (nodup_ded _)
theorem asc_irange (m:Int):Asc ltI (irange m):=by
 unfold irange Asc
 rw [List.pairwise_map]
 exact List.Pairwise.imp (fun {a b} (q:a < b)=>by simp [ltI];omega) List.pairwise_lt_range
theorem cell_sub {m:Int} {c:List Int} (h:IsCell m c):c.Sublist (irange m):=asc_sublist h.2.2 (asc_irange m) fun x hx=>mem_irange.mpr (h.2.1 x hx)
theorem sub_cell {m:Int} {z t:List Int} (h:IsCell m t) (s:z.Sublist t) (hz:z≠[]):IsCell m z:=⟨hz,fun x hx=>h.2.1 x (s.subset hx),List.Pairwise.sublist s h.2.2⟩
theorem cellsH_cell {m:Int} {ts:List (List Int)} {h:Nat} (ht:∀ t∈ts,IsCell m t) {z:List Int} (hz:z∈cellsH ts h):IsCell m z:=by
 obtain ⟨a,t,b,c⟩:=mem_cellsH.mp hz
 exact sub_cell (ht t b) c (by intro e;subst e;simp at a)
theorem cellsH_len {m:Int} {ts:List (List Int)} {h:Nat} (h6:m<=6) (ht:∀ t∈ts,IsCell m t):(cellsH ts h).length<=20:=by
 have:(cellsH ts h).length<=(prt (h+1) (irange m)).length:=nodup_len ((asc_cellsH ts h).nodup linC) fun z hz=>by
  have:=cell_sub (cellsH_cell ht hz)
  exact (mem_prt _ _ _).mpr ⟨(mem_cellsH.mp hz).1,this⟩
 have e:=prt_n (h+1) (irange m)
 have:pn (h+1) (irange m).length<=20:=pn_6 (by unfold irange;simp;omega)
 omega
theorem law_cells_ok {f h : Nat} {m : Int} {ts : List (List Int)} (hf : ∀ c : List Int, c.length <= 8 -> Φ f [cD c, .int ((h : Int) + 1)] = .ok (.lst ((prt (h + 1) c).map cD))) (ht : ∀ t ∈ ts, t.length <= 8) (hl : ts.length <= 63) (h63 : (cellsH ts h).length <= 63) :
    runF pg Φ ⟨2, 2, Bd.b_law_cells f⟩ [nD m ts, .int (h : Int)] = .ok (.lst ((cellsH ts h).map cD)) := by
  have hi : idxD (nD m ts) (.int 1) = .ok (.tup (ts.map cD)) := rfl
  simp only [Den.DNA, Nat.reduceAdd, Bd.b_law_cells, hi]
  have bnd : ∀ ks : List (List Int), ks.length <= 63 -> (∀ t ∈ ks, t.length <= 8) -> (ks.flatMap (prt (h + 1))).length <= 16128 := fun ks hk h8 => by
    have := flatMap_len (f := prt (h + 1)) (k := 256) (xs := ks) fun t ht' => by
      have h2 := len_prt (h + 1) t
      have h4 : 2 ^ t.length <= 2 ^ 8 := Nat.pow_le_pow_right (by decide) (h8 t ht')
      omega
    omega
  obtain ⟨ρ', e, x, he⟩ := forL_map (f := cD) (g := turn pg Φ 0 [3] (.cons (.asg 2 (.bin .add (.var 2) (.call f (.cons (.var 3) (.cons (.bin .add (.var 1) (.lit (.int 1))) (.nil)))))) (.nil)))
    (fun ps ρ => ∃ (x : Option D), ρ = [some (nD m ts), some (.int (h : Int)), some (.lst ((ps.flatMap (prt (h + 1))).map cD)), x])
    ts [some (nD m ts), some (.int (h : Int)), some (.lst []), none] ⟨none, rfl⟩ (fun pre t post ρ hp ⟨x, hI⟩ => by
      subst hI
      have htm : t ∈ ts := by rw [hp]; simp
      have hpl : pre.length + 1 <= ts.length := by rw [hp]; simp
      have h1 := bnd pre (by omega) fun t ht' => ht t (by rw [hp]; simp [ht'])
      have h2 := bnd [t] (by simp) fun z hz => by simp at hz; subst hz; exact ht z htm
      have hlen : ((pre.flatMap (prt (h + 1))).map cD).length + ((prt (h + 1) t).map cD).length <= SZ := by
        simp at h2
        rw [List.length_map, List.length_map, SZ_eq]; omega
      refine ⟨_, by simp only [Den.DNA, Nat.reduceAdd, hf t (ht t htm), add_lst, if_pos hlen]; rfl, some (cD t), ?_⟩
      simp [List.flatMap_append])
  rw [e, he]
  have hn : ∀ c ∈ ts.flatMap (prt (h + 1)), c ≠ [] := fun c hc => by
    obtain ⟨t, _, hc⟩ := List.mem_flatMap.mp hc
    intro z; subst z
    have := ((mem_prt _ _ _).mp hc).1
    simp at this
  have : (ded (ts.flatMap (prt (h + 1)))).length <= 63 := by unfold cellsH at h63; rw [len_srt] at h63; exact h63
  simp only [Den.DNA, Nat.reduceAdd, sset_c hn this, cellsH]
def unI:D->Int
 | .int i=>i
 | _=>0
end Pl
end
section
namespace Pl
open Den Pu Pr
variable {pg:Pg} {Φ:Fn}
theorem mul_s (i j:Int) (h:(-BIG < i/\i < BIG)\/(-BIG < j/\j < BIG)):binD .mul (.int i) (.int j)=.ok (.int (i * j)):=by rw [mul_int,if_pos h]
theorem mod_p (i j:Int) (h:0 < j):binD .mod (.int i) (.int j)=.ok (.int (i % j)):=by rw [mod_int,if_pos h]
theorem fdiv_p (i j:Int) (h:0 < j) (h':j < 1073741824):binD .fdiv (.int i) (.int j)=.ok (.int (i / j)):=by rw [fdiv_int,if_pos ⟨h,h'⟩]
theorem BIG_eq:BIG=18446744073709551616:=rfl
def NB:Int:=2147483629
theorem NB_eq:NB=2147483629:=rfl
theorem emod_b (a:Int) {b:Int} (h:0 < b):0<=a % b/\a % b < b:=⟨Int.emod_nonneg a (by omega),Int.emod_lt_of_pos a h⟩
theorem drawn_ok (i k:Int):∃ r:Int,0<=r/\r < NB/\runF pg Φ ⟨2,1,Bd.b_law_drawn⟩ [.int i,.int k]=.ok (.int r):=by
 have b1:=emod_b ((i+104729 * k+17) * 69621) (b:=2147483647) (by decide)
 refine ⟨((i+104729 * k+17) * 69621 % 2147483647 * ((i+104729 * k+17) * 69621 % 2147483647)+3 * ((i+104729 * k+17) * 69621 % 2147483647)+k) % 2147483629,?_,?_,by
  simp only [Den.DNA,Nat.reduceAdd,Bd.b_law_drawn,mul_s 104729 k (.inl (by rw [BIG_eq];omega)),mul_s _ 69621 (.inr (by rw [BIG_eq];omega)),mod_p _ 2147483647 (by decide),mod_p _ 2147483629 (by decide),
   mul_s ((i+104729 * k+17) * 69621 % 2147483647) ((i+104729 * k+17) * 69621 % 2147483647) (.inl (by rw [BIG_eq];omega)),mul_s 3 ((i+104729 * k+17) * 69621 % 2147483647) (.inl (by rw [BIG_eq];omega))]⟩
 ·exact (emod_b _ (by decide)).1
 ·rw [NB_eq];exact (emod_b _ (by decide)).2
theorem cell_at_ok (is:List Int) (k:Nat):runF pg Φ ⟨2,0,Bd.b_law_cell_at⟩ [.lst (is.map .int),.int (k:Int)]=.ok (.int (is.getD k 0)):=by
 simp only [Den.DNA,Nat.reduceAdd,Bd.b_law_cell_at,List.length_map]
 by_cases h:k < is.length
 ·have h':(k:Int) < (is.length:Int):=by omega
  have e:idxD (.lst (is.map D.int)) (.int (k:Int))=.ok (.int (is.getD k 0)):=by
   rw [idx_lst,getAt_nat,List.getElem?_map,List.getElem?_eq_getElem h]
   simp [List.getD,List.getElem?_eq_getElem h]
  simp only [Den.DNA,Nat.reduceAdd,decide_eq_true h',e]
 ·have h':¬ (k:Int) < (is.length:Int):=by omega
  have e:is.getD k 0=0:=by simp [List.getD,List.getElem?_eq_none (Nat.le_of_not_lt h)]
  simp only [Den.DNA,Nat.reduceAdd,decide_eq_false h',e]
theorem mixed_ok {f:Nat} {is:List Int} (hf:∀ k:Nat,Φ f [.lst (is.map .int),.int (k:Int)]=.ok (.int (is.getD k 0))) (k:Nat):∃ r:Int,0<=r/\r < NB/\runF pg Φ ⟨2,1,Bd.b_law_mixed f⟩ [.lst (is.map .int),.int (k:Int)]=.ok (.int r):=by
 have b1:=emod_b ((is.getD k 0+7919 * (k:Int)+1) * 48271) (b:=2147483647) (by decide)
 refine ⟨((is.getD k 0+7919 * (k:Int)+1) * 48271 % 2147483647 * ((is.getD k 0+7919 * (k:Int)+1) * 48271 % 2147483647)+7 * ((is.getD k 0+7919 * (k:Int)+1) * 48271 % 2147483647)+(k:Int)) % 2147483629,?_,?_,by
  simp only [Den.DNA,Nat.reduceAdd,Bd.b_law_mixed,hf,mul_s 7919 (k:Int) (.inl (by rw [BIG_eq];omega)),mul_s _ 48271 (.inr (by rw [BIG_eq];omega)),mod_p _ 2147483647 (by decide),mod_p _ 2147483629 (by decide),
   mul_s ((is.getD k 0+7919 * (k:Int)+1) * 48271 % 2147483647) ((is.getD k 0+7919 * (k:Int)+1) * 48271 % 2147483647) (.inl (by rw [BIG_eq];omega)),mul_s 7 ((is.getD k 0+7919 * (k:Int)+1) * 48271 % 2147483647) (.inl (by rw [BIG_eq];omega))]⟩
 ·exact (emod_b _ (by decide)).1
 ·rw [NB_eq];exact (emod_b _ (by decide)).2
theorem some_ok {f : Nat} (hf : ∀ i k : Int, ∃ r : Int, 0 <= r /\ r < NB /\ Φ f [.int i, .int k] = .ok (.int r)) (i m : Int) (h1 : 1 <= m) (h8 : m <= 8) :
    ∃ cs : List (List Int), runF pg Φ ⟨2, 4, Bd.b_law_some f⟩ [.int i, .int m] = .ok (.lst (cs.map cD)) /\ (∀ c ∈ cs, IsCell m c) /\ cov m cs = true /\ cs.length <= 16 := by
  have hr := rngR_ok (i := 0) (j := m) (by omega) (by omega) (by omega) (by omega)
  have b9 := emod_b i (b := 9) (by decide)
  have hr9 := rngR_ok (i := 0) (j := i % 9) (by omega) (by omega) (by omega) (by omega)
  have e9 : rangeL 0 (i % 9) = (irange (i % 9)).map .int := rangeL_i _
  have e0 : compL (elem pg Φ [some (.int i), some (.int m), none, none, none, none] (.tup (.cons (.var 6) (.nil))) 0 .none) ((irange m).map .int) = .ok ((irange m).map fun k => cD [k]) := compL_m fun k _ => by
    simp only [Den.DNA, Nat.reduceAdd]; rfl
  simp only [Den.DNA, Nat.reduceAdd, Bd.b_law_some, hr, rangeL_i, e0, mod_p i 9 (by decide), hr9]
  have h0 : ∀ k ∈ irange m, IsCell m [k] := fun k hk => ⟨by simp, by simpa using mem_irange.mp hk, List.pairwise_singleton _ _⟩
  obtain ⟨ρ', e, cs, x, y, z, he, hc, hl⟩ := forL_map (f := D.int) (g := turn pg Φ 0 [3] (.cons (.asg 4 (.call f (.cons (.var 0) (.cons (.var 3) (.nil))))) (.cons (.asg 5 (.tupI (.seq (.comp (.var 6) 0 (.rng (.var 1)) (.some (.cmp .lt (.bin .mod (.call f (.cons (.var 4) (.cons (.var 6) (.nil)))) (.lit (.int 5))) (.bin .add (.lit (.int 2)) (.bin .mod (.var 4) (.lit (.int 2)))))))))) (.cons (.iff (.cmp .ne (.var 5) (.tup (.nil))) (.cons (.app 2 (.var 5)) (.nil)) (.nil)) (.nil)))))
    (fun ps ρ => ∃ (cs : List (List Int)) (x y z : Option D), ρ = [some (.int i), some (.int m), some (.lst (((irange m).map fun k => [k]).map cD ++ cs.map cD)), x, y, z] /\ (∀ c ∈ cs, IsCell m c) /\ cs.length <= ps.length)
    (irange (i % 9)) [some (.int i), some (.int m), some (.lst ((irange m).map fun k => cD [k])), none, none, none] ⟨[], none, none, none, by simp [Function.comp_def], by simp, by simp⟩ (fun pre k post ρ hp ⟨cs, x, y, z, hI, hc, hl⟩ => by
      subst hI
      obtain ⟨r, r1, r2, hr'⟩ := hf i k
      have ex : ∃ q : Int -> Bool, ∀ x y z, compL (elem pg Φ [some (.int i), some (.int m), x, y, some (.int r), z] (.var 6) 0 (.some (.cmp .lt (.bin .mod (.call f (.cons (.var 4) (.cons (.var 6) (.nil)))) (.lit (.int 5))) (.bin .add (.lit (.int 2)) (.bin .mod (.var 4) (.lit (.int 2))))))) ((irange m).map .int) = .ok (((irange m).filter q).map .int) := by
        obtain ⟨g, hg⟩ : ∃ g : Int -> Int, ∀ k, Φ f [.int r, .int k] = .ok (.int (g k)) := ⟨fun k => Classical.choose (hf r k), fun k => (Classical.choose_spec (hf r k)).2.2⟩
        refine ⟨fun k => decide (g k % 5 < 2 + r % 2), fun x y z => compL_flt fun k _ => ?_⟩
        have hs := hg k
        simp only [Den.DNA, Nat.reduceAdd, hs, mod_p _ 5 (by decide), mod_p _ 2 (by decide)]
        split <;> rfl
      obtain ⟨q, hq⟩ := ex
      have hsub : ((irange m).filter q).Sublist (irange m) := List.filter_sublist
      simp only [Den.DNA, Nat.reduceAdd, hr', hr, rangeL_i, hq]
      have hn : eqR (.tup (((irange m).filter q).map .int)) (.tup []) = .ok ((irange m).filter q).isEmpty := by
        rw [eqR_tnil (by simp [List.all_map, shp_i]), mp_empty]
      simp only [Den.DNA, Nat.reduceAdd, hn]
      have hpl : pre.length + 1 <= 9 := by
        have h1 : (irange (i % 9)).length = (pre ++ k :: post).length := by rw [<- hp]
        have h2 : (irange (i % 9)).length <= 9 := by unfold irange; simp; omega
        simp at h1; omega
      cases hq2 : ((irange m).filter q).isEmpty
      · have hne : (irange m).filter q ≠ [] := by intro z; rw [z] at hq2; cases hq2
        have hcell : IsCell m ((irange m).filter q) := ⟨hne, fun x hx => mem_irange.mp (hsub.subset hx), List.Pairwise.sublist hsub (asc_irange m)⟩
        have hlen : (((irange m).map fun k => [k]).map cD ++ cs.map cD).length < SZ := by
          have := irange_len h8
          simp only [List.length_append, List.length_map, SZ_eq]; omega
        refine ⟨_, by simp only [Den.DNA, Nat.reduceAdd, app_ok, if_pos hlen]; rfl, cs ++ [(irange m).filter q], _, _, _, by simp only [List.map_append, List.append_assoc]; rfl, fun c hc' => ?_, by simp; omega⟩
        rcases List.mem_append.mp hc' with w | w
        · exact hc c w
        · simp at w; subst w; exact hcell
      · exact ⟨_, by simp only [Den.DNA, Nat.reduceAdd]; rfl, cs, _, _, _, rfl, hc, by simp; omega⟩)
  rw [e, he]
  simp only [Den.DNA, Nat.reduceAdd]
  refine ⟨((irange m).map fun k => [k]) ++ cs, by rw [List.map_append], fun c hc' => ?_, ?_, ?_⟩
  · rcases List.mem_append.mp hc' with w | w
    · obtain ⟨k, hk, rfl⟩ := List.mem_map.mp w
      exact h0 k hk
    · exact hc c w
  · rw [cov_iff]
    intro x a b
    exact ⟨[x], by simp [mem_irange]; exact .inl ⟨a, b⟩, by simp⟩
  · have := irange_len h8
    have h2 : (irange (i % 9)).length <= 8 := by unfold irange; simp; omega
    simp only [List.length_append, List.length_map]; omega
end Pl
end
section
namespace Pl
open Den Pu Pr
variable {pg:Pg} {Φ:Fn}
theorem mem_upp {cs:List (List Int)} {c:List Int}:c∈upp cs<->c∈cs/\∀ o∈cs,c.length < o.length->¬ lies c o=true:=by
 unfold upp
 simp only [List.mem_filter,mem_srt,mem_ded,Bool.not_eq_true',List.any_eq_false,decide_eq_true_eq,and_imp]
theorem asc_upp (cs:List (List Int)):Asc lexLt (upp cs):=List.Pairwise.sublist List.filter_sublist (asc_srt linC (nodup_ded _))
theorem upp_upp (cs:List (List Int)):upp (upp cs)=upp cs:=by
 refine asc_ext linC (asc_upp _) (asc_upp _) fun z=>?_
 rw [mem_upp]
 refine ⟨fun h=>h.1,fun h=>⟨h,fun o ho hl=>(mem_upp.mp h).2 o (mem_upp.mp ho).1 hl⟩⟩
theorem under_upp {m:Int} {cs:List (List Int)} (h:∀ c∈cs,IsCell m c):∀ (n:Nat) (c:List Int),c∈cs->m.toNat<=c.length+n->∃ t∈upp cs,∀ x∈c,x∈t
 | 0,c,hc,hn=>⟨c,mem_upp.mpr ⟨hc,fun o ho hl=>by have:=cell_len (h o ho);omega⟩,fun _ hx=>hx⟩
 | n+1,c,hc,hn=>by
  by_cases q:∀ o∈cs,c.length < o.length->¬ lies c o=true
  ·exact ⟨c,mem_upp.mpr ⟨hc,q⟩,fun _ hx=>hx⟩
  ·obtain ⟨o,ho,hl,hs⟩:∃ o,o∈cs/\c.length < o.length/\lies c o=true:=by
    apply Classical.byContradiction
    intro z
    exact q fun o ho hl hs=>z ⟨o,ho,hl,hs⟩
   obtain ⟨t,ht,hs'⟩:=under_upp h n o ho (by omega)
   exact ⟨t,ht,fun x hx=>hs' x (lies_iff.mp hs x hx)⟩
structure Net (m:Int) (ts:List (List Int)):Prop where
 lo:1<=m
 hi:m<=8
 cell:∀ c∈ts,IsCell m c
 top:ts=upp ts
 cov:cov m ts=true
theorem Net.is {m:Int} {ts:List (List Int)} (h:Net m ts):isNet (nD m ts)=true:=(isNet_iff _).mpr ⟨m,ts,rfl,h.lo,h.hi,h.cell,h.top,h.cov⟩
theorem net_of_cells {m:Int} {cs:List (List Int)} (h1:1<=m) (h8:m<=8) (hc:∀ c∈cs,IsCell m c) (hv:cov m cs=true):Net m (upp cs) where
 lo:=h1
 hi:=h8
 cell:=fun c h=>hc c (mem_upp.mp h).1
 top:=(upp_upp cs).symm
 cov:=by
  rw [cov_iff] at hv ⊢
  intro x a b
  obtain ⟨c,h,hx⟩:=hv x a b
  obtain ⟨t,ht,hs⟩:=under_upp hc m.toNat c h (by omega)
  exact ⟨t,ht,hs x hx⟩
theorem upp_len (cs:List (List Int)):(upp cs).length<=cs.length:=by
 unfold upp
 have h1:=List.length_filter_le (fun c=>!((srt lexLt (ded cs)).filter fun o=>decide (c.length < o.length)).any (lies c)) (srt lexLt (ded cs))
 have h2:=ded_len cs
 rw [len_srt] at h1;omega
theorem net_tail {ft:Nat} {cs:List (List Int)} {m:Int} (hf:∀ cs:List (List Int),(∀ c∈cs,c≠[])->(ded cs).length<=63->Φ ft [.lst (cs.map cD)]=.ok (.tup ((ltops cs).map cD))) (h1:1<=m) (h8:m<=8) (hl:cs.length<=20) (h20:∀ c∈cs,c.length<=63) (hc:∀ c∈cs,IsCell m (srt ltI c)) (hv:cov m (cs.map (srt ltI))=true) {a b c:D} :
  ∃ ts,endD (exB pg Φ [some a,some b,some (.int m),some c,some (.lst (cs.map cD))] (.cons (.ret (.tup (.cons (.var 2) (.cons (.call ft (.cons (.comp (.tupI (.seq (.prim .sorted (.var 5)))) 0 (.seq (.var 4)) (.none)) (.nil))) (.nil))))) (.nil)))=.ok (nD m ts)/\Net m ts/\ts.length<=20:=by
 have hcs:∀ c∈cs.map (srt ltI),IsCell m c:=fun c hc'=>by obtain ⟨o,ho,rfl⟩:=List.mem_map.mp hc';exact hc o ho
 refine ⟨upp (cs.map (srt ltI)),?_,net_of_cells h1 h8 hcs hv,by have:=upp_len (cs.map (srt ltI));rw [List.length_map] at this;omega⟩
 have e1:compL (elem pg Φ [some a,some b,some (.int m),some c,some (.lst (cs.map cD))] (.tupI (.seq (.prim .sorted (.var 5)))) 0 .none) (cs.map cD)=.ok (cs.map fun c=>cD (srt ltI c)):=compL_m fun c hc'=>by
  simp only [Den.DNA,Nat.reduceAdd,seq_c,sorted_i (h20 c hc')];rfl
 have e2:(cs.map fun c=>cD (srt ltI c))=(cs.map (srt ltI)).map cD:=by rw [List.map_map];rfl
 have h63:(ded (cs.map (srt ltI))).length<=63:=by have:=ded_len (cs.map (srt ltI));rw [List.length_map] at this;omega
 simp only [Den.DNA,Nat.reduceAdd,e1,e2,hf _ (fun c hc'=>(hcs c hc').1) h63,ltops_upp (fun c hc'=>(hcs c hc').2.2)]
 rfl
theorem srt_cell {m:Int} {c:List Int} (h:IsCell m c):srt ltI c=c:=srt_asc linI h.2.2
theorem srt_cells {m:Int} {cs:List (List Int)} (h:∀ c∈cs,IsCell m c):cs.map (srt ltI)=cs:=by
 conv=>rhs;rw [<- List.map_id cs]
 exact List.map_congr_left fun c hc=>srt_cell (h c hc)
def chk:Bool:=(List.range 7).all fun m=>(List.range 7).all fun s=>(decide (s=0)||decide (m < s))||((prt s (irange (m:Int))).all (fun c=>decide (IsCell (m:Int) c))&&cov (m:Int) (prt s (irange (m:Int))))
theorem chk_ok:chk=true:=by decide +kernel
theorem all_parts {m:Int} {s:Nat} (h1:1<=m) (h6:m<=6) (hs:1<=s) (hs2:(s:Int)<=m):(∀ c∈prt s (irange m),IsCell m c)/\cov m (prt s (irange m))=true:=by
 have h:=chk_ok
 unfold chk at h
 rw [List.all_eq_true] at h
 have h:=h m.toNat (List.mem_range.mpr (by omega))
 rw [List.all_eq_true] at h
 have h:=h s (List.mem_range.mpr (by omega))
 have e:((m.toNat:Nat):Int)=m:=by omega
 rw [e] at h
 have n1:¬ s=0:=by omega
 have n2:¬ m.toNat < s:=by omega
 simp only [decide_eq_false n1,decide_eq_false n2,Bool.or_self,Bool.false_or,Bool.and_eq_true,List.all_eq_true,decide_eq_true_eq] at h
 exact h
def band:List (List Int):=(irange 5).map (fun k=>[0,1+k,1+(k+1) % 5])++(irange 5).map fun k=>[1+k,1+(k+1) % 5,1+(k+3) % 5]
theorem band_ok:(band.map (srt ltI)).all (fun c=>decide (IsCell 6 c))&&cov 6 (band.map (srt ltI))&&decide (band.length<=20)&&band.all (fun c=>decide (c.length<=63))=true:=by decide +kernel
theorem net_ok {ft fp fs:Nat} (ht:∀ cs:List (List Int),(∀ c∈cs,c≠[])->(ded cs).length<=63->Φ ft [.lst (cs.map cD)]=.ok (.tup ((ltops cs).map cD))) (hp:∀ (s:Nat) (c:List Int),s<=8->c.length<=8->Φ fp [cD c,.int (s:Int)]=.ok (.lst ((prt s c).map cD)))
  (hs:∀ i m:Int,1<=m->m<=8->∃ cs:List (List Int),Φ fs [.int i,.int m]=.ok (.lst (cs.map cD))/\(∀ c∈cs,IsCell m c)/\cov m cs=true/\cs.length<=16) (i:Int) (h0:0<=i) :
  ∃ m ts,runF pg Φ ⟨2,3,Bd.b_law_net ft fp fs⟩ [.int i,.int 6]=.ok (nD m ts)/\Net m ts/\m<=6/\ts.length<=20:=by
 have b6:=emod_b i (b:=6) (by decide)
 have d1:decide ((5:Int) < 6)=true:=rfl
 have d2:decide ((6:Int) < 6)=false:=rfl
 simp only [Den.DNA,Nat.reduceAdd,Bd.b_law_net,mod_p i 6 (by decide),fdiv_p i 12 (by decide) (by decide),mod_p _ 8 (by decide)]
 cases k0:(i / 12 % 8==0)
 ·cases k1:(i / 12 % 8==1)
  ·have rest:∀ k2:Bool,(if k2=true then decide ((6:Int) < 6) else false)=false:=fun k2=>by cases k2 <;> rfl
   obtain ⟨cs,e,hc,hv,hl⟩:=hs (i / 96) (1+i % 6) (by omega) (by omega)
   obtain ⟨ts,e2,hn,hl2⟩:=net_tail (pg:=pg) (Φ:=Φ) (cs:=cs) (m:=1+i % 6) (a:=.int i) (b:=.int 6) (c:=.int (i / 12 % 8)) ht (by omega) (by omega) (by omega) (fun c hc'=>by have:=cell_len (hc c hc');omega) (fun c hc'=>by rw [srt_cell (hc c hc')];exact hc c hc') (by rw [srt_cells hc];exact hv)
   refine ⟨1+i % 6,ts,?_,hn,by omega,hl2⟩
   rw [<- e2]
   cases k2:(i / 12 % 8==2)
   ·simp only [Den.DNA,Nat.reduceAdd,k1,k2,fdiv_p i 96 (by decide) (by decide),e]
   ·simp only [Den.DNA,Nat.reduceAdd,k1,k2,d2,fdiv_p i 96 (by decide) (by decide),e]
  ·have hb:=band_ok
   simp only [Bool.and_eq_true,List.all_eq_true,decide_eq_true_eq] at hb
   obtain ⟨⟨⟨hb1,hb2⟩,hb3⟩,hb4⟩:=hb
   obtain ⟨ts,e2,hn,hl2⟩:=net_tail (pg:=pg) (Φ:=Φ) (cs:=band) (m:=6) (a:=.int i) (b:=.int 6) (c:=.int (i / 12 % 8)) ht (by decide) (by decide) hb3 hb4 (fun c hc'=>hb1 _ (List.mem_map_of_mem hc')) hb2
   refine ⟨6,ts,?_,hn,by omega,hl2⟩
   rw [<- e2]
   have r5:=rngR_ok (i:=0) (j:=5) (by omega) (by omega) (by omega) (by omega)
   have c1:∀ a b c d e,compL (elem pg Φ [a,b,c,d,e] (.tup (.cons (.lit (.int 0)) (.cons (.bin .add (.lit (.int 1)) (.var 5)) (.cons (.bin .add (.lit (.int 1)) (.bin .mod (.bin .add (.var 5) (.lit (.int 1))) (.lit (.int 5)))) (.nil))))) 0 .none) ((irange 5).map .int)=.ok ((irange 5).map fun k=>cD [0,1+k,1+(k+1) % 5]):=fun a b c d e=>compL_m fun k _=>by
    simp only [Den.DNA,Nat.reduceAdd,mod_p _ 5 (by decide)];rfl
   have c2:∀ a b c d e,compL (elem pg Φ [a,b,c,d,e] (.tup (.cons (.bin .add (.lit (.int 1)) (.var 5)) (.cons (.bin .add (.lit (.int 1)) (.bin .mod (.bin .add (.var 5) (.lit (.int 1))) (.lit (.int 5)))) (.cons (.bin .add (.lit (.int 1)) (.bin .mod (.bin .add (.var 5) (.lit (.int 3))) (.lit (.int 5)))) (.nil))))) 0 .none) ((irange 5).map .int)=.ok ((irange 5).map fun k=>cD [1+k,1+(k+1) % 5,1+(k+3) % 5]):=fun a b c d e=>compL_m fun k _=>by
    simp only [Den.DNA,Nat.reduceAdd,mod_p _ 5 (by decide)];rfl
   have eb:band.map cD=(irange 5).map (fun k=>cD [0,1+k,1+(k+1) % 5])++(irange 5).map fun k=>cD [1+k,1+(k+1) % 5,1+(k+3) % 5]:=by
    unfold band;rw [List.map_append,List.map_map,List.map_map];rfl
   have hlen:((irange 5).map (fun k=>cD [0,1+k,1+(k+1) % 5])).length+((irange 5).map fun k=>cD [1+k,1+(k+1) % 5,1+(k+3) % 5]).length<=SZ:=by
    have:=irange_len (m:=5) (by decide)
    rw [List.length_map,List.length_map,SZ_eq];omega
   simp only [Den.DNA,Nat.reduceAdd,k1,d1,r5,rangeL_i,c1,c2,add_lst,if_pos hlen,<- eb]
 ·have b9:=emod_b (i / 96) (b:=1+i % 6) (by omega)
  obtain ⟨s,hs1⟩:∃ s:Nat,(s:Int)=1+i / 96 % (1+i % 6):=⟨(1+i / 96 % (1+i % 6)).toNat,by omega⟩
  obtain ⟨hc,hv⟩:=all_parts (m:=1+i % 6) (s:=s) (by omega) (by omega) (by omega) (by omega)
  have hil:(irange (1+i % 6)).length<=6:=by unfold irange;simp;omega
  have hlp:(prt s (irange (1+i % 6))).length<=20:=by rw [prt_n];exact pn_6 hil
  obtain ⟨ts,e2,hn,hl2⟩:=net_tail (pg:=pg) (Φ:=Φ) (cs:=prt s (irange (1+i % 6))) (m:=1+i % 6) (a:=.int i) (b:=.int 6) (c:=.int (i / 12 % 8)) ht (by omega) (by omega) hlp (fun c hc'=>by have:=cell_len (hc c hc');omega) (fun c hc'=>by rw [srt_cell (hc c hc')];exact hc c hc') (by rw [srt_cells hc];exact hv)
  refine ⟨1+i % 6,ts,?_,hn,by omega,hl2⟩
  rw [<- e2]
  have hpp:=hp s (irange (1+i % 6)) (by omega) (by omega)
  unfold cD at hpp
  simp only [Den.DNA,Nat.reduceAdd,fdiv_p i 96 (by decide) (by decide),mod_p (i / 96) (1+i % 6) (by omega),<- hs1,rngR_ok (i:=0) (j:=1+i % 6) (by omega) (by omega) (by omega) (by omega),rangeL_i,hpp]
  rfl
end Pl
end
section
namespace Pl
open Den Pu Pr
open PySem (Str)
variable {pg:Pg} {Φ:Fn}
def cl (w:Nat):Nat->D->Bool
 | _,.int i=>decide (0<=i)&&decide (i<=8)
 | n+1,.tup xs=>decide (xs.length<=w)&&xs.all (cl w n)
 | _,_=>false
theorem getAt_mem {xs:List D} {k:Int} (h0:0<=k) (h:k < xs.length):∃ d,d∈xs/\getAt xs k=some d:=by
 have e:getAt xs ((k.toNat:Nat):Int)=xs[k.toNat]?:=getAt_nat xs k.toNat
 have e2:((k.toNat:Nat):Int)=k:=by omega
 rw [e2] at e
 have hk:k.toNat < xs.length:=by omega
 exact ⟨xs[k.toNat],List.getElem_mem hk,by rw [e,List.getElem?_eq_getElem hk]⟩
theorem idx_mem {xs:List D} {k:Int} (h0:0<=k) (h:k < xs.length):∃ d,d∈xs/\idxD (.lst xs) (.int k)=.ok d:=by
 obtain ⟨d,hd,e⟩:=getAt_mem h0 h
 exact ⟨d,hd,by rw [idx_lst,e]⟩
def odds:List D:=[.int (-1),.int 0,.int 1,.int 2,.int 8,.int 9,.bl true,.bl false,.non,.str (Str.ofString ""),.str (Str.ofString "a"),.tup [],.lst [],.tup [.int 0],.tup [.int 0,.int 1],.tup [.int 1,.int 0],.tup [.int 1,.int 1],.tup [.tup [.int 0]],.lst [.int 0],.tup [.int 8]]
 ++ [.tup [.int 1,.tup [.tup [.int 0]]],.tup [.int 0,.tup []],.tup [.bl true],.tup [.int 0,.int 1,.int 2],.tup [.int (-1)],.tup [.int 9,.tup [.tup ((irange 9).map .int)]],.tup [.int 7,.int 8]]
theorem odds_ok:odds.all (gd 63 5)=true:=by decide +kernel
theorem neg1:(-(1:Int))=-1:=rfl
theorem odd_ok (i:Int):∃ d,runF pg Φ ⟨1,1,Bd.b_law_odd⟩ [.int i]=.ok d/\gd 63 5 d=true:=by
 have b:=emod_b i (b:=27) (by decide)
 obtain ⟨d,hd,e⟩:=idx_mem (xs:=odds) (k:=i % 27) b.1 (by have:odds.length=27:=rfl;omega)
 refine ⟨d,?_,List.all_eq_true.mp odds_ok d hd⟩
 have h27:27<=SZ:=by rw [SZ_eq];omega
 unfold odds at e
 simp only [List.cons_append,List.nil_append] at e
 simp only [Den.DNA,Nat.reduceAdd,Bd.b_law_odd,mod_p i 27 (by decide),add_lst,if_pos h27,rngR_ok (i:=0) (j:=9) (by omega) (by omega) (by omega) (by omega),rangeL_i,e]
theorem gd_of_all {w n:Nat} {xs:List D} (h:xs.length<=w) (ha:∀ x∈xs,gd w n x=true):gd w (n+1) (.tup xs)=true:=by
 show (decide (xs.length<=w)&&xs.all (gd w n))=true
 rw [decide_eq_true h,Bool.true_and,List.all_eq_true];exact ha
end Pl
end
section
namespace Pl
open Den Pu Pr
open PySem (Str)
variable {pg:Pg} {Φ:Fn}
end Pl
end
section
namespace Pl
open PySem Den Pu Pr
variable {pg:Pg} {Φ:Fn}
theorem ext_ok (xs ys:List D):extD (some (some (.lst xs))) (.lst ys)=if xs.length+ys.length<=SZ then .ok (.lst (xs++ys)) else .bad:=nr rfl
def cwS (acc:List (List Int)) (x:Int):List (List Int):=acc++[[x]]++acc.map (·++[x])
def cw (c:List Int):List (List Int):=c.foldl cwS []
theorem cw_snoc (c:List Int) (x:Int):cw (c++[x])=cw c++[[x]]++(cw c).map (·++[x]):=by
 unfold cw;rw [List.foldl_append];rfl
theorem sub_snoc {z c : List Int} {x : Int} : z.Sublist (c ++ [x]) <-> z.Sublist c \/ ∃ r, z = r ++ [x] /\ r.Sublist c := by
  rw [List.sublist_append_iff]
  constructor
  · rintro ⟨l1, l2, rfl, h1, h2⟩
    have h2 : l2 = [] \/ l2 = [x] := by
      cases l2 with
      | nil => exact .inl rfl
      | cons y r =>
        right
        have hl := h2.length_le
        have hm := h2.subset (List.mem_cons_self)
        rw [List.length_cons, List.length_singleton] at hl
        have hm : y = x := by simpa using hm
        have : r = [] := List.length_eq_zero_iff.mp (by omega)
        rw [this, hm]
    rcases h2 with rfl | rfl
    · left; simpa using h1
    · right; exact ⟨l1, rfl, h1⟩
  · rintro (h | ⟨r, rfl, h⟩)
    · exact ⟨z, [], by simp, h, by simp⟩
    · exact ⟨r, [x], rfl, h, List.Sublist.refl _⟩
theorem mem_cw (z : List Int) : ∀ (n : Nat) (c : List Int), c.length = n -> (z ∈ cw c <-> z ≠ [] /\ z.Sublist c)
  | 0, c, h => by
    have := List.length_eq_zero_iff.mp h
    subst this
    simp [cw]
  | n + 1, c, h => by
    have hne : c ≠ [] := by intro e; rw [e] at h; simp at h
    obtain ⟨r, x, rfl⟩ : ∃ r x, c = r ++ [x] := ⟨c.dropLast, c.getLast hne, (List.dropLast_concat_getLast hne).symm⟩
    have ih := fun y => mem_cw y n r (by simp at h; omega)
    rw [cw_snoc, sub_snoc, List.mem_append, List.mem_append, ih z, List.mem_map]
    constructor
    · rintro ((⟨h1, h2⟩ | h) | ⟨y, hy, rfl⟩)
      · exact ⟨h1, .inl h2⟩
      · simp at h; subst h; exact ⟨by simp, .inr ⟨[], rfl, by simp⟩⟩
      · obtain ⟨h1, h2⟩ := (mem_cw y n r (by simp at h; omega)).mp hy
        exact ⟨by simp, .inr ⟨y, rfl, h2⟩⟩
    · rintro ⟨h1, h2 | ⟨y, rfl, h2⟩⟩
      · exact .inl (.inl ⟨h1, h2⟩)
      · cases y with
        | nil => exact .inl (.inr (by simp))
        | cons a b => exact .inr ⟨a :: b, (mem_cw (a :: b) n r (by simp at h; omega)).mpr ⟨by simp, h2⟩, rfl⟩
theorem len_cw:∀ (n:Nat) (c:List Int),c.length=n->(cw c).length+1=2 ^ n
 | 0,c,h=>by
  have:=List.length_eq_zero_iff.mp h
  subst this
  rfl
 | n+1,c,h=>by
  have hne:c≠[]:=by intro e;rw [e] at h;simp at h
  obtain ⟨r,x,rfl⟩:∃ r x,c=r++[x]:=⟨c.dropLast,c.getLast hne,(List.dropLast_concat_getLast hne).symm⟩
  have ih:=len_cw n r (by simp at h;omega)
  rw [cw_snoc]
  simp only [List.length_append,List.length_map,List.length_cons,List.length_nil]
  rw [Nat.pow_succ];omega
theorem cw_le {c:List Int} (h:c.length<=8):(cw c).length<=256:=by
 have h1:=len_cw c.length c rfl
 have h2:2 ^ c.length<=2 ^ 8:=Nat.pow_le_pow_right (by decide) h
 omega
theorem within_ok (c : List Int) (h8 : c.length <= 8) : runF pg Φ ⟨1, 2, Bd.b_cells_within⟩ [cD c] = .ok (.lst ((cw c).map cD)) := by
  simp only [Den.DNA, Nat.reduceAdd, Bd.b_cells_within, seq_c]
  obtain ⟨ρ', e, x, he⟩ := forL_map (f := D.int) (g := turn pg Φ 0 [2] (.cons (.asg 1 (.bin .add (.bin .add (.var 1) (.lst (.cons (.tup (.cons (.var 2) (.nil))) (.nil)))) (.comp (.bin .add (.var 3) (.tup (.cons (.var 2) (.nil)))) 0 (.seq (.var 1)) (.none)))) (.nil)))
    (fun ps ρ => ∃ (x : Option D), ρ = [some (cD c), some (.lst ((cw ps).map cD)), x]) c [some (cD c), some (.lst []), none] ⟨none, rfl⟩ (fun pre k post ρ hp ⟨x, hI⟩ => by
      subst hI
      have hpl : pre.length <= 8 := by rw [hp] at h8; simp at h8; omega
      have hcl := cw_le hpl
      have e1 : compL (elem pg Φ [some (cD c), some (.lst ((cw pre).map cD)), some (.int k)] (.bin .add (.var 3) (.tup (.cons (.var 2) (.nil)))) 0 .none) ((cw pre).map cD) = .ok ((cw pre).map fun z => cD (z ++ [k])) := compL_m fun z hz => by
        have hz8 : z.length <= 8 := Nat.le_trans ((mem_cw z _ pre rfl).mp hz).2.length_le hpl
        have : binD .add (cD z) (.tup [.int k]) = .ok (cD (z ++ [k])) := by
          unfold cD
          rw [add_tup, if_pos (by rw [SZ_eq]; simp; omega)]
          simp
        simp only [Den.DNA, Nat.reduceAdd, this]
      have e2 : binD .add (.lst ((cw pre).map cD)) (.lst [.tup [.int k]]) = .ok (.lst ((cw pre ++ [[k]]).map cD)) := by
        rw [add_lst, if_pos (by rw [SZ_eq]; simp; omega)]; simp [cD]
      have e3 : binD .add (.lst ((cw pre ++ [[k]]).map cD)) (.lst ((cw pre).map fun z => cD (z ++ [k]))) = .ok (.lst ((cw (pre ++ [k])).map cD)) := by
        rw [add_lst, if_pos (by rw [SZ_eq]; simp; omega), cw_snoc]; simp [Function.comp_def]
      refine ⟨_, by simp only [Den.DNA, Nat.reduceAdd, e2, e1, e3], some (.int k), rfl⟩)
  rw [e, he]
  simp only [Den.DNA, Nat.reduceAdd]
def evC (ts:List (List Int)):List (List Int):=srt Pu.lexLt (ded (ts.flatMap cw))
theorem mem_evC {ts:List (List Int)} {z:List Int}:z∈evC ts<->z≠[]/\∃ t∈ts,z.Sublist t:=by
 unfold evC
 rw [mem_srt,mem_ded,List.mem_flatMap]
 constructor
 ·rintro ⟨t,h1,h2⟩
  obtain ⟨h3,h4⟩:=(mem_cw z _ t rfl).mp h2
  exact ⟨h3,t,h1,h4⟩
 ·rintro ⟨h,t,h1,h2⟩
  exact ⟨t,h1,(mem_cw z _ t rfl).mpr ⟨h,h2⟩⟩
theorem asc_evC (ts:List (List Int)):Asc Pu.lexLt (evC ts):=asc_srt linC (nodup_ded _)
theorem evC_len {m:Int} {ts:List (List Int)} (h6:m<=6) (ht:∀ t∈ts,IsCell m t):(evC ts).length<=63:=by
 have h1:=nodup_len (ys:=cw (irange m)) ((asc_evC ts).nodup linC) fun z hz=>by
  obtain ⟨h1,t,h2,h3⟩:=mem_evC.mp hz
  exact (mem_cw z _ _ rfl).mpr ⟨h1,h3.trans (cell_sub (ht t h2))⟩
 have h2:=len_cw _ (irange m) rfl
 have h3:(irange m).length<=6:=by unfold irange;simp;omega
 have h4:2 ^ (irange m).length<=2 ^ 6:=Nat.pow_le_pow_right (by decide) h3
 omega
theorem evC_flt (ts:List (List Int)) (h:Nat):((evC ts).filter fun c=>decide (c.length=h+1))=cellsH ts h:=by
 refine asc_ext linC (List.Pairwise.sublist List.filter_sublist (asc_evC ts)) (asc_cellsH ts h) fun z=>?_
 rw [List.mem_filter,mem_evC,mem_cellsH]
 simp only [decide_eq_true_eq]
 constructor
 ·rintro ⟨⟨_,h1⟩,h2⟩;exact ⟨h2,h1⟩
 ·rintro ⟨h1,h2⟩;exact ⟨⟨by intro e;subst e;simp at h1,h2⟩,h1⟩
theorem every_ok {f : Nat} {m : Int} {ts : List (List Int)} (hf : ∀ c : List Int, c.length <= 8 -> Φ f [cD c] = .ok (.lst ((cw c).map cD))) (ht : ∀ t ∈ ts, t.length <= 8) (hl : ts.length <= 63) (h63 : (evC ts).length <= 63) :
    runF pg Φ ⟨1, 2, Bd.b_every_cell f⟩ [nD m ts] = .ok (.lst ((evC ts).map cD)) := by
  have hi : idxD (nD m ts) (.int 1) = .ok (.tup (ts.map cD)) := rfl
  simp only [Den.DNA, Nat.reduceAdd, Bd.b_every_cell, hi]
  have bnd : ∀ ks : List (List Int), ks.length <= 63 -> (∀ t ∈ ks, t.length <= 8) -> (ks.flatMap cw).length <= 16128 := fun ks hk h8 => by
    have := flatMap_len (f := cw) (k := 256) (xs := ks) fun t ht' => cw_le (h8 t ht')
    omega
  obtain ⟨ρ', e, x, he⟩ := forL_map (f := cD) (g := turn pg Φ 0 [2] (.cons (.ext 1 (.call f (.cons (.var 2) (.nil)))) (.nil)))
    (fun ps ρ => ∃ (x : Option D), ρ = [some (nD m ts), some (.lst ((ps.flatMap cw).map cD)), x])
    ts [some (nD m ts), some (.lst []), none] ⟨none, rfl⟩ (fun pre t post ρ hp ⟨x, hI⟩ => by
      subst hI
      have htm : t ∈ ts := by rw [hp]; simp
      have hpl : pre.length + 1 <= ts.length := by rw [hp]; simp
      have h1 := bnd pre (by omega) fun t ht' => ht t (by rw [hp]; simp [ht'])
      have h2 := cw_le (ht t htm)
      have hx : extD (some (some (.lst ((pre.flatMap cw).map cD)))) (.lst ((cw t).map cD)) = .ok (.lst (((pre ++ [t]).flatMap cw).map cD)) := by
        have : ((pre.flatMap cw).map cD).length + ((cw t).map cD).length <= SZ := by rw [SZ_eq, List.length_map, List.length_map]; omega
        rw [ext_ok, if_pos this]
        simp [List.flatMap_append]
      exact ⟨_, by simp only [Den.DNA, Nat.reduceAdd, hf t (ht t htm), hx], some (cD t), rfl⟩)
  rw [e, he]
  have hn : ∀ c ∈ ts.flatMap cw, c ≠ [] := fun c hc => by
    obtain ⟨t, _, hc⟩ := List.mem_flatMap.mp hc
    exact ((mem_cw c _ t rfl).mp hc).1
  have : (ded (ts.flatMap cw)).length <= 63 := by unfold evC at h63; rw [len_srt] at h63; exact h63
  simp only [Den.DNA, Nat.reduceAdd, sset_c hn this, evC]
theorem height_ok {f h:Nat} {m:Int} {ts:List (List Int)} (hf:Φ f [nD m ts]=.ok (.lst ((evC ts).map cD))) (h63:(evC ts).length<=63) :
  runF pg Φ ⟨2,0,Bd.b_cells_of_height f⟩ [nD m ts,.int (h:Int)]=.ok (.tup ((cellsH ts h).map cD)):=by
 have e1:compL (elem pg Φ [some (nD m ts),some (.int (h:Int))] (.var 2) 0 (.some (.cmp .eq (.bin .sub (.prim .len (.var 2)) (.lit (.int 1))) (.var 1)))) ((evC ts).map cD)=.ok (((evC ts).filter fun c=>decide (c.length=h+1)).map cD):=compL_flt fun z _=>by
  have hb:((z.length:Int) - 1==(h:Int))=decide (z.length=h+1):=by
   by_cases q:z.length=h+1
   ·rw [decide_eq_true q,q];simp
   ·rw [decide_eq_false q];simp;omega
  have hl:((z.map D.int).length:Int)=(z.length:Int):=by rw [List.length_map]
  simp only [Den.DNA,Nat.reduceAdd,cD,hl,hb]
  cases decide (z.length=h+1) <;> rfl
 simp only [Den.DNA,Nat.reduceAdd,Bd.b_cells_of_height,hf,e1,evC_flt]
theorem cells_ok {fh fn c h:Nat} {m:Int} {ts:List (List Int)} (hn:Φ fn [nD m ts]=.ok (.bl true)) (hf:Φ fh [nD m ts,.int (h:Int)]=.ok (.tup ((cellsH ts h).map cD))) :
  runF pg Φ ⟨2,0,Bd.b_cells fh fn c⟩ [nD m ts,.int (h:Int)]=.ok (.tup ((cellsH ts h).map cD)):=by
 simp only [Den.DNA,Nat.reduceAdd,Bd.b_cells,hn,hf]
end Pl
end
section
namespace Pl
open PySem Den Pu Pr
variable {pg:Pg} {Φ:Fn}
theorem many_int {e:D} (h:isMany e=true):∃ m:Int,e=.int m/\1<=m/\m<=8:=by
 cases e with
 | int m=>simp only [isMany,Bool.and_eq_true,decide_eq_true_eq] at h;exact ⟨m,rfl,h.1,h.2⟩
 | _=>cases h
theorem made_1 {fu fv fa fm c:Nat} {d e:D} (hm:Φ fm [e]=.ok (.bl false)):runF pg Φ ⟨2,0,Bd.b_net_of fu fv fa fm c⟩ [d,e]=.exc c:=by
 simp only [Den.DNA,Nat.reduceAdd,Bd.b_net_of,hm]
theorem made_2 {fu fv fa fm c:Nat} {d e:D} (hm:Φ fm [e]=.ok (.bl true)) (ha:Φ fa [d,e]=.ok (.bl false)):runF pg Φ ⟨2,0,Bd.b_net_of fu fv fa fm c⟩ [d,e]=.exc c:=by
 simp only [Den.DNA,Nat.reduceAdd,Bd.b_net_of,hm,ha]
theorem made_3 {fu fv fa fm c:Nat} {d e:D} (hm:Φ fm [e]=.ok (.bl true)) (ha:Φ fa [d,e]=.ok (.bl true)) (hv:Φ fv [d,e]=.ok (.bl false)):runF pg Φ ⟨2,0,Bd.b_net_of fu fv fa fm c⟩ [d,e]=.exc c:=by
 simp only [Den.DNA,Nat.reduceAdd,Bd.b_net_of,hm,ha,hv]
theorem made_4 {fu fv fa fm c:Nat} {d e u:D} (hm:Φ fm [e]=.ok (.bl true)) (ha:Φ fa [d,e]=.ok (.bl true)) (hv:Φ fv [d,e]=.ok (.bl true)) (hu:Φ fu [d]=.ok u):runF pg Φ ⟨2,0,Bd.b_net_of fu fv fa fm c⟩ [d,e]=.ok (.tup [e,u]):=by
 simp only [Den.DNA,Nat.reduceAdd,Bd.b_net_of,hm,ha,hv,hu]
theorem told_no {f:Nat} {d e:D} (hup:pg.up 1=[1,0,1000]) (h:Φ f [d,e]=.exc 1):runF pg Φ ⟨2,2,Bd.b_law_told f 1 0⟩ [d,e]=.ok .non:=by
 have h1:instD pg.up (.exn 1) (.cls 0)=.ok true:=by show R.ok ((pg.up 1).contains 0)=_;rw [hup];rfl
 have h2:instD pg.up (.exn 1) (.cls 1000)=.ok true:=by show R.ok ((pg.up 1).contains 1000)=_;rw [hup];rfl
 have h3:(pg.up 1).contains 1=true:=by rw [hup];rfl
 simp only [Den.DNA,Nat.reduceAdd,Bd.b_law_told,h,exH,h3,h1,h2]
 rfl
theorem told_yes {f:Nat} {d e:D} {xs:List D} (h:Φ f [d,e]=.ok (.tup xs)):runF pg Φ ⟨2,2,Bd.b_law_told f 1 0⟩ [d,e]=.ok (.tup xs):=by
 have h1:isD (.tup xs) .non=.ok false:=rfl
 simp only [Den.DNA,Nat.reduceAdd,Bd.b_law_told,h,h1]
 rfl
theorem forL_enum {α:Type} {f:α->D} {g:D->Rho->R Fl} (I:List α->Rho->Prop) (all:List α):∀ (xs pre:List α) (ρ:Rho),all=pre++xs->I pre ρ ->
  (∀ pre x post ρ,all=pre++x::post->I pre ρ->∃ ρ',g (.tup [.int ((pre.length:Nat):Int),f x]) ρ=.ok (.nx ρ')/\I (pre++[x]) ρ')->∃ ρ',forL g (enumL pre.length (xs.map f)) ρ=.ok (.nx ρ')/\I all ρ'
 | [],pre,ρ,e,h,_=>⟨ρ,rfl,by rw [e,List.append_nil];exact h⟩
 | x::xs,pre,ρ,e,h,hs=>by
  obtain ⟨ρ1,e1,i1⟩:=hs pre x xs ρ e h
  obtain ⟨ρ2,e2,i2⟩:=forL_enum I all xs (pre++[x]) ρ1 (by rw [e];simp) i1 hs
  refine ⟨ρ2,?_,i2⟩
  rw [List.length_append,List.length_singleton] at e2
  simp only [List.map_cons,enumL,forL,e1,R.ok_bind];exact e2
theorem mingled_ok {f:Nat} (hf:∀ i k:Int,∃ r:Int,0<=r/\r < NB/\Φ f [.int i,.int k]=.ok (.int r)) (cs:List (List Int)) (i:Int) (hl:cs.length<=16) :
  ∃ ds:List (List Int),runF pg Φ ⟨2,4,Bd.b_law_mingled f⟩ [.lst (cs.map cD),.int i]=.ok (.tup (ds.map cD))/\(∀ c∈ds,c∈cs)/\ds.length<=32:=by
 simp only [Den.DNA,Nat.reduceAdd,Bd.b_law_mingled]
 obtain ⟨ρ',e,ds,x,y,z,he,hc,hd⟩:=forL_enum (f:=cD) (g:=turn pg Φ 2 [3,4] (.cons (.asg 5 (.bin .mod (.call f (.cons (.var 1) (.cons (.var 3) (.nil)))) (.bin .add (.var 3) (.lit (.int 1))))) (.cons (.asg 2 (.bin .add (.bin .add (.slice (.var 2) (.none) (.some (.var 5))) (.lst (.cons (.var 4) (.nil)))) (.slice (.var 2) (.some (.var 5)) (.none)))) (.nil))))
  (fun ps ρ=>∃ (ds:List (List Int)) (x y z:Option D),ρ=[some (.lst (cs.map cD)),some (.int i),some (.lst (ds.map cD)),x,y,z]/\(∀ c∈ds,c∈cs)/\ds.length=ps.length)
  cs cs [] [some (.lst (cs.map cD)),some (.int i),some (.lst []),none,none,none] rfl ⟨[],none,none,none,rfl,by simp,rfl⟩ (fun pre c post ρ hp ⟨ds,x,y,z,hI,hc,hd⟩=>by
   subst hI
   obtain ⟨r,r1,r2,hr⟩:=hf i (pre.length:Int)
   have hm:=emod_b r (b:=(pre.length:Int)+1) (by omega)
   obtain ⟨a,ha⟩:∃ a:Nat,(a:Int)=r % ((pre.length:Int)+1):=⟨(r % ((pre.length:Int)+1)).toNat,by omega⟩
   have hpl:pre.length<=16:=by rw [hp] at hl;simp at hl;omega
   have e1:binD .add (.lst ((ds.take a).map cD)) (.lst [cD c])=.ok (.lst ((ds.take a++[c]).map cD)):=by
    rw [add_lst,if_pos (by rw [SZ_eq];simp;omega)];simp
   have e2:binD .add (.lst ((ds.take a++[c]).map cD)) (.lst ((ds.drop a).map cD))=.ok (.lst ((ds.take a++[c]++ds.drop a).map cD)):=by
    rw [add_lst,if_pos (by rw [SZ_eq];simp;omega)];simp
   refine ⟨_,by simp only [Den.DNA,Nat.reduceAdd,hr,mod_p r _ (show (0:Int) < (pre.length:Int)+1 by omega),<- ha,cut_to,cut_from,<- List.map_take,<- List.map_drop,e1,e2],ds.take a++[c]++ds.drop a,some (.int (pre.length:Int)),some (cD c),some (.int (a:Int)),rfl,fun t ht=>?_,?_⟩
   ·rw [List.mem_append,List.mem_append] at ht
    rcases ht with (ht | ht) | ht
    ·exact hc t (List.mem_of_mem_take ht)
    ·simp at ht;subst ht;rw [hp];simp
    ·exact hc t (List.mem_of_mem_drop ht)
   ·simp;omega)
 have e:forL _ (enumL 0 (cs.map cD)) _=_:=e
 rw [e,he]
 have hm:=emod_b i (b:=3) (by decide)
 obtain ⟨a,ha⟩:∃ a:Nat,(a:Int)=i % 3:=⟨(i % 3).toNat,by omega⟩
 have e1:binD .add (.lst (ds.map cD)) (.lst ((ds.take a).map cD))=.ok (.lst ((ds++ds.take a).map cD)):=by
  rw [add_lst,if_pos (by rw [SZ_eq];simp;omega)];simp
 refine ⟨ds++ds.take a,by simp only [Den.DNA,Nat.reduceAdd,mod_p i 3 (by decide),<- ha,cut_to,<- List.map_take,e1],fun t ht=>?_,?_⟩
 ·rcases List.mem_append.mp ht with ht | ht
  ·exact hc t ht
  ·exact hc t (List.mem_of_mem_take ht)
 ·simp;omega
end Pl
end
section
namespace Pl
open PySem Den Pu Pr
variable {pg:Pg} {Φ:Fn}
def tb4 (fi ft fl fc:Nat):B:=(.cons (.for_ 0 [10] (.seq (.var 5)) (.cons (.asg 9 (.and (.var 9) (.call fc (.cons (.var 10) (.cons (.var 7) (.nil)))))) (.cons (.iff (.var 9) (.cons (.asg 8 (.bin .add (.var 8) (.lstI (.seq (.var 10))))) (.nil)) (.nil)) (.nil)))) (.cons (.iff (.or (.not (.var 9)) (.cmp .ne (.prim .sortedSet (.var 8)) (.lstI (.rng (.var 7))))) (.cons (.ret (.cmp .is (.call ft (.cons (.var 5) (.cons (.var 7) (.nil)))) (.lit (.non)))) (.nil)) (.nil)) (.cons (.ret (.and (.cmp .eq (.call ft (.cons (.var 5) (.cons (.var 7) (.nil)))) (.tup (.cons (.var 7) (.cons (.call fl (.cons (.var 5) (.nil))) (.nil))))) (.call fi (.cons (.call ft (.cons (.var 5) (.cons (.var 7) (.nil)))) (.nil))))) (.nil))))
theorem eqR_nD (m:Int) (ts:List (List Int)):eqR (.tup [.int m,.tup (ts.map cD)]) (.tup [.int m,.tup (ts.map cD)])=.ok true:=by
 unfold eqR
 have h:shp 60 (.tup [.int m,.tup (ts.map cD)])=true:=by
  show ([D.int m,.tup (ts.map cD)].all (shp 59))=true
  simp only [List.all_cons,List.all_nil,Bool.and_true,Bool.and_eq_true]
  exact ⟨rfl,shp_cs 57 ts⟩
 rw [h]
 have e:eqD (.tup [.int m,.tup (ts.map cD)]) (.tup [.int m,.tup (ts.map cD)])=(decide (m=m)&&(eqDs (ts.map cD) (ts.map cD)&&true)):=by
  simp [eqD,eqDs]
 rw [e,eqDs_cs];simp
theorem nD_gd {m:Int} {ts:List (List Int)} (h8:m<=8) (hl:ts.length<=63) (hc:∀ c∈ts,IsCell m c):gd 63 50 (nD m ts)=true:=by
 refine gd_of_all (n:=49) (by simp) fun x hx=>?_
 rcases List.mem_cons.mp hx with rfl | hx
 ·rfl
 ·rcases List.mem_cons.mp hx with rfl | hx
  ·refine gd_of_all (n:=48) (by simpa using hl) fun y hy=>?_
   obtain ⟨c,h,rfl⟩:=List.mem_map.mp hy
   have:=cell_len (hc c h)
   refine gd_of_all (n:=47) (by rw [List.length_map];omega) fun z hz=>?_
   obtain ⟨i,_,rfl⟩:=List.mem_map.mp hz
   rfl
  ·simp at hx
theorem tail_ok {fi ft fl fc : Nat} {a0 a1 a2 a3 a4 a6 : Option D} (xs : List D) (e : D) (hl : xs.length <= 40) (hg : ∀ x ∈ xs, gd 63 50 x = true)
    (hc : ∀ d (m : Int), gd 63 50 d = true -> Φ fc [d, .int m] = .ok (.bl (isCell m d)))
    (t1 : isMany e = false -> Φ ft [.tup xs, e] = .ok .non)
    (t2 : ∀ m, e = .int m -> isMany e = true -> areCells m (.tup xs) = false -> Φ ft [.tup xs, e] = .ok .non)
    (t3 : ∀ m cs, e = .int m -> isMany e = true -> xs = cs.map cD -> (∀ c ∈ cs, IsCell m c) -> cov m cs = false -> Φ ft [.tup xs, e] = .ok .non)
    (t4 : ∀ m cs, e = .int m -> isMany e = true -> xs = cs.map cD -> (∀ c ∈ cs, IsCell m c) -> cov m cs = true -> Φ ft [.tup xs, e] = .ok (.tup [.int m, .tup ((upp cs).map cD)]))
    (hi : ∀ d, gd 63 50 d = true -> Φ fi [d] = .ok (.bl (isNet d)))
    (htp : ∀ ts : List (List Int), (∀ c ∈ ts, c ≠ []) -> (ded ts).length <= 63 -> Φ fl [.tup (ts.map cD)] = .ok (.tup ((ltops ts).map cD))) :
    exB pg Φ [a0, a1, a2, a3, a4, some (.tup xs), a6, some e, some (.lst []), some (.bl (isMany e)), none] (tb4 fi ft fl fc) = .ok (.rt (.bl true)) := by
  have isn : isD .non .non = .ok true := rfl
  cases hm : isMany e with
  | false =>
    obtain ⟨ρ', e1, x, he⟩ := forL_map (f := fun d : D => d) (g := turn pg Φ 0 [10] (.cons (.asg 9 (.and (.var 9) (.call fc (.cons (.var 10) (.cons (.var 7) (.nil)))))) (.cons (.iff (.var 9) (.cons (.asg 8 (.bin .add (.var 8) (.lstI (.seq (.var 10))))) (.nil)) (.nil)) (.nil))))
      (fun ps ρ => ∃ (x : Option D), ρ = [a0, a1, a2, a3, a4, some (.tup xs), a6, some e, some (.lst []), some (.bl false), x])
      xs [a0, a1, a2, a3, a4, some (.tup xs), a6, some e, some (.lst []), some (.bl false), none] ⟨none, rfl⟩ (fun pre d post ρ hp ⟨x, hI⟩ => by
        subst hI
        exact ⟨_, by simp only [Den.DNA, Nat.reduceAdd], some d, rfl⟩)
    rw [List.map_id'] at e1
    simp only [Den.DNA, Nat.reduceAdd, tb4, e1, he, t1 hm, isn]
  | true =>
    obtain ⟨m, rfl, h1, h8⟩ := many_int hm
    obtain ⟨ρ', e1, x, C, he, hC, hcs⟩ := forL_map (f := fun d : D => d) (g := turn pg Φ 0 [10] (.cons (.asg 9 (.and (.var 9) (.call fc (.cons (.var 10) (.cons (.var 7) (.nil)))))) (.cons (.iff (.var 9) (.cons (.asg 8 (.bin .add (.var 8) (.lstI (.seq (.var 10))))) (.nil)) (.nil)) (.nil))))
      (fun ps ρ => ∃ (x : Option D) (C : List Int), ρ = [a0, a1, a2, a3, a4, some (.tup xs), a6, some (.int m), some (.lst (C.map .int)), some (.bl (ps.all (isCell m))), x] /\ C.length <= ps.length * 8 /\ (ps.all (isCell m) = true -> ∃ cs : List (List Int), ps = cs.map cD /\ C = cs.flatten))
      xs [a0, a1, a2, a3, a4, some (.tup xs), a6, some (.int m), some (.lst []), some (.bl true), none] ⟨none, [], rfl, by simp, fun _ => ⟨[], rfl, rfl⟩⟩ (fun pre d post ρ hp ⟨x, C, hI, hC, hcs⟩ => by
        subst hI
        have hd : gd 63 50 d = true := hg d (by rw [hp]; simp)
        have hpl : pre.length + 1 <= 40 := by rw [hp] at hl; simp at hl; omega
        have hall : (pre ++ [d]).all (isCell m) = (pre.all (isCell m) && isCell m d) := by simp
        cases q : pre.all (isCell m) with
        | false =>
          refine ⟨_, by simp only [Den.DNA, Nat.reduceAdd]; rfl, some d, C, by rw [hall, q]; rfl, by rw [List.length_append, List.length_singleton]; omega, fun z => by rw [hall, q] at z; cases z⟩
        | true =>
          obtain ⟨cs, rfl, rfl⟩ := hcs q
          cases q2 : isCell m d with
          | false =>
            refine ⟨_, by simp only [Den.DNA, Nat.reduceAdd, hc d m hd, q2]; rfl, some d, cs.flatten, by rw [hall, q, q2]; rfl, by rw [List.length_append, List.length_singleton]; omega, fun z => by rw [hall, q, q2] at z; cases z⟩
          | true =>
            obtain ⟨c, rfl, h3⟩ := (isCell_iff m d).mp q2
            have hcl := cell_len h3
            have ea : binD .add (.lst (cs.flatten.map .int)) (.lst (c.map .int)) = .ok (.lst (((cs ++ [c]).flatten).map .int)) := by
              rw [add_lst, if_pos (by rw [SZ_eq, List.length_map, List.length_map]; omega)]; simp
            refine ⟨_, by simp only [Den.DNA, Nat.reduceAdd, hc _ m hd, q2, seq_c, ea]; rfl, some (cD c), (cs ++ [c]).flatten, by rw [hall, q, q2]; rfl, ?_, fun _ => ⟨cs ++ [c], by simp, rfl⟩⟩
            rw [List.flatten_append, List.length_append, List.length_append, List.length_singleton]
            simp only [List.flatten_cons, List.flatten_nil, List.append_nil]
            omega)
    rw [List.map_id'] at e1
    have e3 : areCells m (.tup xs) = xs.all (isCell m) := rfl
    cases q : xs.all (isCell m) with
    | false =>
      rw [q] at he
      simp only [Den.DNA, Nat.reduceAdd, tb4, e1, he, t2 m rfl hm (e3.trans q), isn]
    | true =>
      rw [q] at he
      obtain ⟨cs, e4, hts⟩ := (areCells_iff m (.tup xs)).mp (by rw [e3]; exact q)
      injection e4 with e4
      obtain ⟨cs', e5, e6⟩ := hcs q
      have e7 : cs' = cs := by
        have := e5.symm.trans e4
        exact List.map_inj_right (fun a b h => cD_inj h) |>.mp this
      subst e7
      subst e6
      have hd63 : (ded cs'.flatten).length <= 63 := by
        have : (ded cs'.flatten).length <= (irange m).length := nodup_len (nodup_ded _) fun z hz => by
          rw [mem_ded, List.mem_flatten] at hz
          obtain ⟨t, ht, hz⟩ := hz
          exact mem_irange.mpr ((hts t ht).2.1 z hz)
        have := irange_len h8
        omega
      have hrg := rngR_ok (i := 0) (j := m) (by omega) (by omega) (by omega) (by omega)
      cases q2 : cov m cs' with
      | false =>
        simp only [Den.DNA, Nat.reduceAdd, tb4, e1, he, sset_i hd63, hrg, rangeL_i, eqR_lis, cov_set (show (0 : Int) <= m by omega) hts, q2, t3 m cs' rfl hm e5 hts q2, isn]
      | true =>
        have htops := htp cs' (fun c h => (hts c h).1) (Nat.le_trans (ded_len cs') (by rw [e5, List.length_map] at hl; omega))
        rw [ltops_upp fun c h => (hts c h).2.2] at htops
        have hN := net_of_cells h1 h8 hts q2
        have hgd : gd 63 50 (nD m (upp cs')) = true := nD_gd h8 (Nat.le_trans (upp_len cs') (by rw [e5, List.length_map] at hl; omega)) hN.cell
        have hin := hi _ hgd
        rw [hN.is] at hin
        unfold nD at hin
        rw [<- e5] at htops
        simp only [Den.DNA, Nat.reduceAdd, tb4, e1, he, sset_i hd63, hrg, rangeL_i, eqR_lis, cov_set (show (0 : Int) <= m by omega) hts, q2, t4 m cs' rfl hm e5 hts q2, htops, eqR_nD, hin]
end Pl
end
section
namespace Pl
open PySem Den Pu Pr
variable {pg:Pg} {Φ:Fn}
def tl4 (fi ft fl fc fu:Nat):B:=.cons (.asg 8 (.lst (.nil))) (.cons (.asg 9 (.call fu (.cons (.var 7) (.cons (.lit (.int 1)) (.cons (.lit (.int 8)) (.nil)))))) (tb4 fi ft fl fc))
def mE4 (fi ft fl fc fu:Nat):B:=(.cons (.iff (.and (.cmp .eq (.bin .mod (.var 6) (.lit (.int 6))) (.lit (.int 4))) (.cmp .eq (.bin .mod (.bin .fdiv (.var 6) (.lit (.int 6))) (.lit (.int 2))) (.lit (.int 1)))) (.cons (.ret (.cmp .is (.call ft (.cons (.idx (.lst (.cons (.lstI (.seq (.var 5))) (.cons (.lit (.non)) (.cons (.lit (.int 7)) (.cons (.lit (.str (Str.ofString "0"))) (.nil)))))) (.bin .mod (.bin .fdiv (.var 6) (.lit (.int 12))) (.lit (.int 4)))) (.cons (.var 4) (.nil)))) (.lit (.non)))) (.nil)) (.nil)) (.cons (.iff (.and (.cmp .eq (.bin .mod (.var 6) (.lit (.int 6))) (.lit (.int 4))) (.cmp .eq (.bin .mod (.bin .fdiv (.var 6) (.lit (.int 12))) (.lit (.int 4))) (.lit (.int 1)))) (.cons (.asg 5 (.tup (.cons (.tupI (.rng (.lit (.int 9)))) (.nil)))) (.cons (.asg 7 (.lit (.int 9))) (.nil))) (.nil)) (tl4 fi ft fl fc fu)))
def md4 (fi ft fl fc fu fo:Nat):B:=(.cons (.iff (.cmp .eq (.bin .mod (.var 6) (.lit (.int 6))) (.lit (.int 1))) (.cons (.asg 5 (.bin .add (.slice (.var 5) (.none) (.some (.bin .mod (.bin .fdiv (.var 6) (.lit (.int 6))) (.bin .add (.prim .len (.var 5)) (.lit (.int 1)))))) (.tup (.cons (.call fo (.cons (.bin .fdiv (.var 6) (.lit (.int 60))) (.nil))) (.nil))))) (.nil)) (.nil)) (.cons (.iff (.cmp .eq (.bin .mod (.var 6) (.lit (.int 6))) (.lit (.int 2))) (.cons (.asg 5 (.tupI (.seq (.comp (.var 11) 0 (.seq (.var 5)) (.some (.cmp .ne (.var 11) (.tup (.cons (.bin .mod (.bin .fdiv (.var 6) (.lit (.int 6))) (.var 4)) (.nil))))))))) (.nil)) (.nil)) (.cons (.asg 7 (.var 4)) (.cons (.iff (.cmp .eq (.bin .mod (.var 6) (.lit (.int 6))) (.lit (.int 3))) (.cons (.asg 7 (.idx (.lst (.cons (.lit (.int 0)) (.cons (.lit (.int 9)) (.cons (.lit (.bl true)) (.cons (.lit (.non)) (.cons (.lit (.str (Str.ofString "1"))) (.cons (.bin .add (.var 4) (.lit (.int 1))) (.cons (.neg (.lit (.int 1))) (.nil))))))))) (.bin .mod (.bin .fdiv (.var 6) (.lit (.int 6))) (.lit (.int 7))))) (.nil)) (.nil)) (mE4 fi ft fl fc fu)))))
structure Told (Φ:Fn) (ft:Nat):Prop where
 t1:∀ d e,isMany e=false->Φ ft [d,e]=.ok .non
 t2:∀ d (m:Int),1<=m->m<=8->areCells m d=false->Φ ft [d,.int m]=.ok .non
 t3:∀ cs (m:Int),1<=m->m<=8->(∀ c∈cs,IsCell m c)->cov m cs=false->Φ ft [.tup (cs.map cD),.int m]=.ok .non
 t4:∀ cs (m:Int),1<=m->m<=8->(∀ c∈cs,IsCell m c)->(ded cs).length<=63->cov m cs=true->Φ ft [.tup (cs.map cD),.int m]=.ok (.tup [.int m,.tup ((upp cs).map cD)])
theorem numB_many (e:D):numB 1 8 e=isMany e:=by cases e <;> rfl
theorem tail2 {fi ft fl fc fu:Nat} {a0 a1 a2 a3 a4 a6:Option D} (xs:List D) (e:D) (hl:xs.length<=40) (hg:∀ x∈xs,gd 63 50 x=true) (T:Told Φ ft)
  (hc:∀ d (m:Int),gd 63 50 d=true->Φ fc [d,.int m]=.ok (.bl (isCell m d))) (hu:∀ d (lo hi:Int),Φ fu [d,.int lo,.int hi]=.ok (.bl (numB lo hi d)))
  (hi:∀ d,gd 63 50 d=true->Φ fi [d]=.ok (.bl (isNet d)))
  (htp:∀ ts:List (List Int),(∀ c∈ts,c≠[])->(ded ts).length<=63->Φ fl [.tup (ts.map cD)]=.ok (.tup ((ltops ts).map cD))) :
  exB pg Φ [a0,a1,a2,a3,a4,some (.tup xs),a6,some e,none,none,none] (tl4 fi ft fl fc fu)=.ok (.rt (.bl true)):=by
 have t:=tail_ok (pg:=pg) (a0:=a0) (a1:=a1) (a2:=a2) (a3:=a3) (a4:=a4) (a6:=a6) xs e hl hg hc (T.t1 _ e) (fun m he hm ha=>by subst he;obtain ⟨m',e',h1,h8⟩:=many_int hm;cases e';exact T.t2 _ m h1 h8 ha)
  (fun m cs he hm hx hcs hv=>by subst he hx;obtain ⟨m',e',h1,h8⟩:=many_int hm;cases e';exact T.t3 cs m h1 h8 hcs hv)
  (fun m cs he hm hx hcs hv=>by subst he hx;obtain ⟨m',e',h1,h8⟩:=many_int hm;cases e';exact T.t4 cs m h1 h8 hcs (Nat.le_trans (ded_len cs) (by rw [List.length_map] at hl;omega)) hv) hi htp
 simp only [Den.DNA,Nat.reduceAdd,tl4,hu,numB_many,t]
theorem c_gd {n:Nat} {m:Int} {c:List Int} (h8:m<=8) (h:IsCell m c):gd 63 (n+1) (cD c)=true:=by
 have:=cell_len h
 refine gd_of_all (n:=n) (by rw [List.length_map];omega) fun z hz=>?_
 obtain ⟨i,_,rfl⟩:=List.mem_map.mp hz
 cases n <;> rfl
theorem midE {fi ft fl fc fu:Nat} {a0 a1 a2 a3:Option D} {ds:List (List Int)} {m i:Int} (xs:List D) (e:D) (h1:1<=m) (h8:m<=8) (hl:xs.length<=40) (hg:∀ x∈xs,gd 63 50 x=true) (h0:0<=i) (T:Told Φ ft)
  (hc:∀ d (m:Int),gd 63 50 d=true->Φ fc [d,.int m]=.ok (.bl (isCell m d))) (hu:∀ d (lo hi:Int),Φ fu [d,.int lo,.int hi]=.ok (.bl (numB lo hi d)))
  (hi:∀ d,gd 63 50 d=true->Φ fi [d]=.ok (.bl (isNet d)))
  (htp:∀ ts:List (List Int),(∀ c∈ts,c≠[])->(ded ts).length<=63->Φ fl [.tup (ts.map cD)]=.ok (.tup ((ltops ts).map cD))) :
  exB pg Φ [a0,a1,a2,a3,some (.int m),some (.tup xs),some (.int i),some e,none,none,none] (mE4 fi ft fl fc fu)=.ok (.rt (.bl true)):=by
 have isn:isD .non .non=.ok true:=rfl
 cases q4:(i % 6==(4:Int)) with
 | false =>
  simp only [Den.DNA,Nat.reduceAdd,mE4,mod_p i 6 (by decide),q4,tail2 xs e hl hg T hc hu hi htp]
 | true =>
  cases q5:(i / 6 % 2==(1:Int)) with
  | true =>
   have b4:=emod_b (i / 12) (b:=4) (by decide)
   obtain ⟨d,hd,hx⟩:=idx_mem (xs:=[.lst xs,.non,.int 7,.str (Str.ofString "0")]) (k:=i / 12 % 4) b4.1 b4.2
   have ha:areCells m d=false:=by
    simp only [List.mem_cons,List.not_mem_nil,or_false] at hd
    rcases hd with rfl | rfl | rfl | rfl <;> rfl
   simp only [Den.DNA,Nat.reduceAdd,mE4,mod_p i 6 (by decide),q4,fdiv_p i 6 (by decide) (by decide),mod_p (i / 6) 2 (by decide),q5,fdiv_p i 12 (by decide) (by decide),mod_p (i / 12) 4 (by decide),hx,T.t2 d m h1 h8 ha,isn]
  | false =>
   cases q6:(i / 12 % 4==(1:Int)) with
   | false=>simp only [Den.DNA,Nat.reduceAdd,mE4,mod_p i 6 (by decide),q4,fdiv_p i 6 (by decide) (by decide),mod_p (i / 6) 2 (by decide),q5,fdiv_p i 12 (by decide) (by decide),mod_p (i / 12) 4 (by decide),q6,tail2 xs e hl hg T hc hu hi htp]
   | true =>
    have hr:=rngR_ok (i:=0) (j:=9) (by omega) (by omega) (by omega) (by omega)
    have t:=tail2 (pg:=pg) (a0:=a0) (a1:=a1) (a2:=a2) (a3:=a3) (a4:=some (.int m)) (a6:=some (.int i)) [cD (irange 9)] (.int 9) (by simp) (fun x hx=>by simp at hx;subst hx;decide +kernel) T hc hu hi htp
    unfold cD at t
    simp only [Den.DNA,Nat.reduceAdd,mE4,mod_p i 6 (by decide),q4,fdiv_p i 6 (by decide) (by decide),mod_p (i / 6) 2 (by decide),q5,fdiv_p i 12 (by decide) (by decide),mod_p (i / 12) 4 (by decide),q6,hr,rangeL_i,t]
theorem mid_ok {fi ft fl fc fu fo:Nat} {a0 a1 a2 a3:Option D} {ds:List (List Int)} {m i:Int} (h1:1<=m) (h8:m<=8) (hds:∀ c∈ds,IsCell m c) (hdl:ds.length<=32) (h0:0<=i) (T:Told Φ ft)
  (hc:∀ d (m:Int),gd 63 50 d=true->Φ fc [d,.int m]=.ok (.bl (isCell m d))) (hu:∀ d (lo hi:Int),Φ fu [d,.int lo,.int hi]=.ok (.bl (numB lo hi d)))
  (hi:∀ d,gd 63 50 d=true->Φ fi [d]=.ok (.bl (isNet d))) (ho:∀ i:Int,∃ d,Φ fo [.int i]=.ok d/\gd 63 5 d=true)
  (htp:∀ ts:List (List Int),(∀ c∈ts,c≠[])->(ded ts).length<=63->Φ fl [.tup (ts.map cD)]=.ok (.tup ((ltops ts).map cD))) :
  exB pg Φ [a0,a1,a2,a3,some (.int m),some (.tup (ds.map cD)),some (.int i),none,none,none,none] (md4 fi ft fl fc fu fo)=.ok (.rt (.bl true)):=by
 have hgd:∀ x∈ds.map cD,gd 63 50 x=true:=fun x hx=>by
  obtain ⟨c,h,rfl⟩:=List.mem_map.mp hx
  exact c_gd (n:=49) h8 (hds c h)
 have M:=fun xs e hl hg=>midE (pg:=pg) (ds:=ds) (a0:=a0) (a1:=a1) (a2:=a2) (a3:=a3) (m:=m) (i:=i) xs e h1 h8 hl hg h0 T hc hu hi htp
 cases q1:(i % 6==(1:Int)) with
 | true =>
  have q:i % 6=1:=by simpa using q1
  have q2:(i % 6==(2:Int))=false:=by rw [q];rfl
  have q3:(i % 6==(3:Int))=false:=by rw [q];rfl
  have hm:=emod_b (i / 6) (b:=(ds.length:Int)+1) (by omega)
  obtain ⟨a,ha⟩:∃ a:Nat,(a:Int)=i / 6 % ((ds.length:Int)+1):=⟨(i / 6 % ((ds.length:Int)+1)).toNat,by omega⟩
  obtain ⟨d,hd,hg⟩:=ho (i / 60)
  have ea:binD .add (.tup ((ds.take a).map cD)) (.tup [d])=.ok (.tup ((ds.take a).map cD++[d])):=by
   rw [add_tup,if_pos (by rw [SZ_eq];simp;omega)]
  have t:=M ((ds.take a).map cD++[d]) (.int m) (by simp;omega) (fun x hx=>by
   rcases List.mem_append.mp hx with hx | hx
   ·obtain ⟨c,h,rfl⟩:=List.mem_map.mp hx
    exact c_gd (n:=49) h8 (hds c (List.mem_of_mem_take h))
   ·simp at hx;subst hx;exact gd_le (by omega) (by omega) hg)
  simp only [Den.DNA,Nat.reduceAdd,md4,mod_p i 6 (by decide),q1,q2,q3,fdiv_p i 6 (by decide) (by decide),fdiv_p i 60 (by decide) (by decide),List.length_map,mod_p (i / 6) _ (show (0:Int) < (ds.length:Int)+1 by omega),<- ha,cut_to,<- List.map_take,hd,ea,t]
 | false =>
  cases q2:(i % 6==(2:Int)) with
  | true =>
   have q:i % 6=2:=by simpa using q2
   have q3:(i % 6==(3:Int))=false:=by rw [q];rfl
   have ee:∀ c,eqR (cD c) (.tup [.int (i / 6 % m)])=.ok (decide (c=[i / 6 % m])):=fun c=>eqR_c c [i / 6 % m]
   have e1:compL (elem pg Φ [a0,a1,a2,a3,some (.int m),some (.tup (ds.map cD)),some (.int i),none,none,none,none] (.var 11) 0 (.some (.cmp .ne (.var 11) (.tup (.cons (.bin .mod (.bin .fdiv (.var 6) (.lit (.int 6))) (.var 4)) (.nil)))))) (ds.map cD)=.ok ((ds.filter fun c=>!decide (c=[i / 6 % m])).map cD):=compL_flt fun c _=>by
    simp only [Den.DNA,Nat.reduceAdd,fdiv_p i 6 (by decide) (by decide),mod_p (i / 6) m (by omega),ee]
    cases decide (c=[i / 6 % m]) <;> rfl
   have t:=M ((ds.filter fun c=>!decide (c=[i / 6 % m])).map cD) (.int m) (by rw [List.length_map];have:=List.length_filter_le (fun c=>!decide (c=[i / 6 % m])) ds;omega) (fun x hx=>by
    obtain ⟨c,h,rfl⟩:=List.mem_map.mp hx
    exact c_gd (n:=49) h8 (hds c (List.mem_filter.mp h).1))
   simp only [Den.DNA,Nat.reduceAdd,md4,mod_p i 6 (by decide),q1,q2,q3,e1,t]
  | false =>
   cases q3:(i % 6==(3:Int)) with
   | true =>
    have b7:=emod_b (i / 6) (b:=7) (by decide)
    obtain ⟨d,hd,hx⟩:=idx_mem (xs:=[.int 0,.int 9,.bl true,.non,.str (Str.ofString "1"),.int (m+1),.int (-1)]) (k:=i / 6 % 7) b7.1 b7.2
    have t:=M (ds.map cD) d (by rw [List.length_map];omega) hgd
    simp only [Den.DNA,Nat.reduceAdd,md4,mod_p i 6 (by decide),q1,q2,q3,fdiv_p i 6 (by decide) (by decide),mod_p (i / 6) 7 (by decide),neg1,hx,t]
   | false =>
    have t:=M (ds.map cD) (.int m) (by rw [List.length_map];omega) hgd
    simp only [Den.DNA,Nat.reduceAdd,md4,mod_p i 6 (by decide),q1,q2,q3,t]
theorem law4_ok {fi ft fl fc fu fo fmx fg fs fce fcl fne:Nat} {is:List Int} (T:Told Φ ft)
  (hmx:∀ k:Nat,∃ r:Int,0<=r/\r < NB/\Φ fmx [.lst (is.map .int),.int (k:Int)]=.ok (.int r))
  (hne:∀ i:Int,0<=i->∃ m ts,Φ fne [.int i,.int 6]=.ok (nD m ts)/\Net m ts/\m<=6/\ts.length<=20)
  (hce:∀ m ts (h:Nat),Net m ts->m<=6->ts.length<=20->h<=7->Φ fce [nD m ts,.int (h:Int)]=.ok (.lst ((cellsH ts h).map cD)))
  (hcl:∀ m ts (h:Nat),Net m ts->m<=6->ts.length<=20->h<=7->Φ fcl [nD m ts,.int (h:Int)]=.ok (.tup ((cellsH ts h).map cD)))
  (hs:∀ i m:Int,1<=m->m<=8->∃ cs:List (List Int),Φ fs [.int i,.int m]=.ok (.lst (cs.map cD))/\(∀ c∈cs,IsCell m c)/\cov m cs=true/\cs.length<=16)
  (hgl:∀ (cs:List (List Int)) (i:Int),cs.length<=16->∃ ds:List (List Int),Φ fg [.lst (cs.map cD),.int i]=.ok (.tup (ds.map cD))/\(∀ c∈ds,c∈cs)/\ds.length<=32)
  (hc:∀ d (m:Int),gd 63 50 d=true->Φ fc [d,.int m]=.ok (.bl (isCell m d))) (hu:∀ d (lo hi:Int),Φ fu [d,.int lo,.int hi]=.ok (.bl (numB lo hi d)))
  (hi:∀ d,gd 63 50 d=true->Φ fi [d]=.ok (.bl (isNet d))) (ho:∀ i:Int,∃ d,Φ fo [.int i]=.ok d/\gd 63 5 d=true)
  (htp:∀ ts:List (List Int),(∀ c∈ts,c≠[])->(ded ts).length<=63->Φ fl [.tup (ts.map cD)]=.ok (.tup ((ltops ts).map cD))) :
  runF pg Φ ⟨1,10,Bd.b_law_Tk04 fi ft fl fc fu fo fmx fg fs fce fcl fne⟩ [.lst (is.map .int)]=.ok (.bl true):=by
 have hb:Bd.b_law_Tk04 fi ft fl fc fu fo fmx fg fs fce fcl fne=.cons (.asg 1 (.call fne (.cons (.call fmx (.cons (.var 0) (.cons (.lit (.int 0)) (.nil)))) (.cons (.lit (.int 6)) (.nil))))) (.cons (.asg 2 (.bin .mod (.call fmx (.cons (.var 0) (.cons (.lit (.int 1)) (.nil)))) (.lit (.int 8)))) (.cons (.asg 3 (.call fcl (.cons (.var 1) (.cons (.var 2) (.nil))))) (.cons (.iff (.cmp .ne (.var 3) (.tupI (.seq (.call fce (.cons (.var 1) (.cons (.var 2) (.nil))))))) (.cons (.ret (.lit (.bl false))) (.nil)) (.nil)) (.cons (.iff (.cmp .ne (.comp (.var 11) 0 (.seq (.var 3)) (.some (.not (.call fc (.cons (.var 11) (.cons (.idx (.var 1) (.lit (.int 0))) (.nil))))))) (.lst (.nil))) (.cons (.ret (.lit (.bl false))) (.nil)) (.nil)) (.cons (.asg 4 (.bin .add (.lit (.int 1)) (.bin .mod (.call fmx (.cons (.var 0) (.cons (.lit (.int 2)) (.nil)))) (.lit (.int 8))))) (.cons (.asg 5 (.call fg (.cons (.call fs (.cons (.call fmx (.cons (.var 0) (.cons (.lit (.int 3)) (.nil)))) (.cons (.var 4) (.nil)))) (.cons (.call fmx (.cons (.var 0) (.cons (.lit (.int 4)) (.nil)))) (.nil))))) (.cons (.asg 6 (.call fmx (.cons (.var 0) (.cons (.lit (.int 5)) (.nil))))) (md4 fi ft fl fc fu fo)))))))):=rfl
 rw [hb]
 obtain ⟨r0,a0,_,e0⟩:=hmx 0
 obtain ⟨r1,a1,_,e1⟩:=hmx 1
 obtain ⟨r2,a2,_,e2⟩:=hmx 2
 obtain ⟨r3,a3,_,e3⟩:=hmx 3
 obtain ⟨r4,a4,_,e4⟩:=hmx 4
 obtain ⟨r5,a5,_,e5⟩:=hmx 5
 generalize hscr:D.lst (is.map .int)=scr at *
 have e0:Φ fmx [scr,.int 0]=.ok (.int r0):=e0
 have e1:Φ fmx [scr,.int 1]=.ok (.int r1):=e1
 have e2:Φ fmx [scr,.int 2]=.ok (.int r2):=e2
 have e3:Φ fmx [scr,.int 3]=.ok (.int r3):=e3
 have e4:Φ fmx [scr,.int 4]=.ok (.int r4):=e4
 have e5:Φ fmx [scr,.int 5]=.ok (.int r5):=e5
 obtain ⟨m,ts,en,hN,h6,h20⟩:=hne r0 a0
 have lo:=hN.lo
 have b8:=emod_b r1 (b:=8) (by decide)
 obtain ⟨h,hh⟩:∃ h:Nat,(h:Int)=r1 % 8:=⟨(r1 % 8).toNat,by omega⟩
 have ec:=hce m ts h hN h6 h20 (by omega)
 have ed:=hcl m ts h hN h6 h20 (by omega)
 have hcc:∀ c∈cellsH ts h,IsCell m c:=fun c hc=>cellsH_cell hN.cell hc
 generalize cellsH ts h=cs at ec ed hcc
 have i0:idxD (nD m ts) (.int 0)=.ok (.int m):=rfl
 have ex:compL (elem pg Φ [some scr,some (nD m ts),some (.int (h:Int)),some (.tup (cs.map cD)),none,none,none,none,none,none,none] (.var 11) 0 (.some (.not (.call fc (.cons (.var 11) (.cons (.idx (.var 1) (.lit (.int 0))) (.nil))))))) (cs.map cD)=.ok ((cs.filter fun c=>!isCell m (cD c)).map cD):=compL_flt fun c hc'=>by
  simp only [Den.DNA,Nat.reduceAdd,i0,hc (cD c) m (c_gd (n:=49) (by omega) (hcc c hc'))]
  cases isCell m (cD c) <;> rfl
 have ef:(cs.filter fun c=>!isCell m (cD c))=[]:=by
  rw [List.filter_eq_nil_iff]
  intro c hc'
  rw [isCell_c,decide_eq_true (hcc c hc')];decide
 rw [ef] at ex
 have eq0:eqR (.lst []) (.lst [])=.ok true:=rfl
 have b2:=emod_b r2 (b:=8) (by decide)
 obtain ⟨cs2,es,hsc,_,hsl⟩:=hs r3 (1+r2 % 8) (by omega) (by omega)
 obtain ⟨ds,eg,hdm,hdl⟩:=hgl cs2 r4 hsl
 have t:=mid_ok (pg:=pg) (a0:=some scr) (a1:=some (nD m ts)) (a2:=some (.int (h:Int))) (a3:=some (.tup (cs.map cD))) (ds:=ds) (m:=1+r2 % 8) (i:=r5) (by omega) (by omega) (fun c hc'=>hsc c (hdm c hc')) hdl a5 T hc hu hi ho htp
 simp only [Den.DNA,Nat.reduceAdd,e0,e1,e2,e3,e4,e5,en,mod_p r1 8 (by decide),<- hh,ed,ec,eqR_tcs,decide_true,ex,List.map_nil,eq0,mod_p r2 8 (by decide),es,eg,t]
end Pl
end
section
namespace P4
open Den Pu Pr Pl Tk04
theorem rn {f:Nat} {fd:Fd} (h:fds[f]?=some fd) (n:Nat) (ds:List D):run pg fds (n+1) f ds=runF pg (run pg fds n) fd ds:=by rw [run_succ,h]
noncomputable abbrev ru (n:Nat):Fn:=run pg fds n
theorem t_whole (n:Nat) (d:D):ru (n+1) 0 [d]=.ok (.bl (isI d)):=(rn (f:=0) rfl n _).trans (is_whole_ok d)
theorem t_many (n:Nat) (d:D):ru (n+2) 1 [d]=.ok (.bl (isMany d)):=(rn (f:=1) rfl _ _).trans (is_many_ok (t_whole n) rfl d)
theorem t_rise (n:Nat) (c:List Int):ru (n+1) 2 [cD c]=.ok (.bl (adj ltI c)):=(rn (f:=2) rfl n _).trans (is_rising_ok (f:=D.int) (lt:=ltI) (fun a b=>rfl) c)
theorem t_cell (n:Nat) (d:D) (m:Int):ru (n+2) 3 [d,.int m]=.ok (.bl (isCell m d)):=(rn (f:=3) rfl _ _).trans (is_cell_ok (t_whole n) (t_rise n) d m)
theorem t_cells (n:Nat) (d:D) (m:Int):ru (n+3) 4 [d,.int m]=.ok (.bl (areCells m d)):=(rn (f:=4) rfl _ _).trans (are_cells_ok (t_cell n) d m)
theorem t_lies (n:Nat) (c o:List Int):ru (n+1) 5 [cD c,cD o]=.ok (.bl (lies c o)):=(rn (f:=5) rfl n _).trans (lies_in_ok c o)
theorem t_one (n:Nat) (c:List Int) (os:List (List Int)):ru (n+2) 6 [cD c,.tup (os.map cD)]=.ok (.bl (os.any (lies c))):=(rn (f:=6) rfl _ _).trans (lies_in_one_ok (t_lies n) c rfl)
theorem t_oneL (n:Nat) (c:List Int) (os:List (List Int)):ru (n+2) 6 [cD c,.lst (os.map cD)]=.ok (.bl (os.any (lies c))):=(rn (f:=6) rfl _ _).trans (lies_in_one_ok (t_lies n) c rfl)
theorem t_upp (n:Nat) (ts:List (List Int)) (hn:∀ c∈ts,c≠[]) (h:(ded ts).length<=63):ru (n+3) 7 [.tup (ts.map cD)]=.ok (.tup ((upp ts).map cD)):=(rn (f:=7) rfl _ _).trans (uppermost_ok (t_oneL n) rfl hn h)
theorem t_meet (n:Nat) (ts:List (List Int)) (m:Int) (h0:0<=m) (h8:m<=8):ru (n+3) 8 [.tup (ts.map cD),.int m]=.ok (.bl (cov m ts)):=(rn (f:=8) rfl _ _).trans (meet_ok (t_one n) ts h0 h8)
theorem t_net (n:Nat) (d:D) (h:few d):ru (n+4) 9 [d]=.ok (.bl (isNet d)):=(rn (f:=9) rfl _ _).trans (is_net_ok (t_many (n+1)) (t_cells n) (t_upp n) (t_meet n) d h)
theorem net_few {m:Int} {ts:List (List Int)} (h:ts.length<=20):few (nD m ts):=by
 intro m' ts' e _
 unfold nD at e
 injection e with e
 simp only [List.cons.injEq,D.tup.injEq,and_true] at e
 have:(ts'.map cD).length=(ts.map cD).length:=by rw [e.2]
 have h2:=ded_len ts'
 simp only [List.length_map] at this
 omega
theorem t_within (n:Nat) (c:List Int) (h:c.length<=8):ru (n+1) 10 [cD c]=.ok (.lst ((cw c).map cD)):=(rn (f:=10) rfl _ _).trans (within_ok c h)
theorem t_every (n:Nat) (m:Int) (ts:List (List Int)) (hN:Net m ts) (h6:m<=6) (hl:ts.length<=20):ru (n+2) 11 [nD m ts]=.ok (.lst ((evC ts).map cD)) :=
 (rn (f:=11) rfl _ _).trans (every_ok (t_within n) (fun t ht=>by have:=cell_len (hN.cell t ht);omega) (by omega) (evC_len h6 hN.cell))
theorem t_height (n:Nat) (m:Int) (ts:List (List Int)) (h:Nat) (hN:Net m ts) (h6:m<=6) (hl:ts.length<=20):ru (n+3) 12 [nD m ts,.int (h:Int)]=.ok (.tup ((cellsH ts h).map cD)) :=
 (rn (f:=12) rfl _ _).trans (height_ok (t_every n m ts hN h6 hl) (evC_len h6 hN.cell))
theorem t_cel (n:Nat) (m:Int) (ts:List (List Int)) (h:Nat) (hN:Net m ts) (h6:m<=6) (hl:ts.length<=20):ru (n+5) 13 [nD m ts,.int (h:Int)]=.ok (.tup ((cellsH ts h).map cD)) :=
 (rn (f:=13) rfl _ _).trans (cells_ok (by have:=t_net n (nD m ts) (net_few hl);rw [hN.is] at this;exact this) (t_height (n+1) m ts h hN h6 hl))
theorem t_at (n:Nat) (is:List Int) (k:Nat):ru (n+1) 15 [.lst (is.map .int),.int (k:Int)]=.ok (.int (is.getD k 0)):=(rn (f:=15) rfl _ _).trans (cell_at_ok is k)
theorem t_mixed (n:Nat) (is:List Int) (k:Nat):∃ r:Int,0<=r/\r < NB/\ru (n+2) 16 [.lst (is.map .int),.int (k:Int)]=.ok (.int r):=by
 obtain ⟨r,a,b,e⟩:=mixed_ok (pg:=pg) (t_at n is) k
 exact ⟨r,a,b,(rn (f:=16) rfl _ _).trans e⟩
theorem t_drawn (n:Nat) (i k:Int):∃ r:Int,0<=r/\r < NB/\ru (n+1) 17 [.int i,.int k]=.ok (.int r):=by
 obtain ⟨r,a,b,e⟩:=drawn_ok (pg:=pg) (Φ:=ru n) i k
 exact ⟨r,a,b,(rn (f:=17) rfl _ _).trans e⟩
theorem t_llies (n:Nat) (c o:List Int):ru (n+1) 18 [cD c,cD o]=.ok (.bl (lies c o)):=(rn (f:=18) rfl n _).trans (law_lies_ok c o)
theorem t_tops (n:Nat) (ts:List (List Int)) (hn:∀ c∈ts,c≠[]) (h:(ded ts).length<=63):ru (n+2) 19 [.tup (ts.map cD)]=.ok (.tup ((ltops ts).map cD)):=(rn (f:=19) rfl _ _).trans (law_tops_ok (t_llies n) rfl hn h)
theorem t_topsL (n:Nat) (ts:List (List Int)) (hn:∀ c∈ts,c≠[]) (h:(ded ts).length<=63):ru (n+2) 19 [.lst (ts.map cD)]=.ok (.tup ((ltops ts).map cD)):=(rn (f:=19) rfl _ _).trans (law_tops_ok (t_llies n) rfl hn h)
theorem t_parts (n s:Nat) (c:List Int) (hs:s<=8) (hc:c.length<=8):ru (n+9) 20 [cD c,.int (s:Int)]=.ok (.lst ((prt s c).map cD)):=parts_ok (fds:=fds) (f:=20) rfl s (n+9) c (by omega) hc
theorem t_some (n:Nat) (i m:Int) (h1:1<=m) (h8:m<=8):∃ cs:List (List Int),ru (n+2) 21 [.int i,.int m]=.ok (.lst (cs.map cD))/\(∀ c∈cs,IsCell m c)/\cov m cs=true/\cs.length<=16:=by
 obtain ⟨cs,e,r⟩:=some_ok (pg:=pg) (t_drawn n) i m h1 h8
 exact ⟨cs,(rn (f:=21) rfl _ _).trans e,r⟩
theorem t_lnet (n:Nat) (i:Int) (h0:0<=i):∃ m ts,ru (n+10) 22 [.int i,.int 6]=.ok (nD m ts)/\Net m ts/\m<=6/\ts.length<=20:=by
 obtain ⟨m,ts,e,r⟩:=net_ok (pg:=pg) (Φ:=ru (n+9)) (t_topsL (n+7)) (t_parts n) (t_some (n+7)) i h0
 exact ⟨m,ts,(rn (f:=22) rfl _ _).trans e,r⟩
theorem t_lcells (n:Nat) (m:Int) (ts:List (List Int)) (h:Nat) (hN:Net m ts) (h6:m<=6) (hl:ts.length<=20) (h7:h<=7):ru (n+10) 23 [nD m ts,.int (h:Int)]=.ok (.lst ((cellsH ts h).map cD)) :=
 (rn (f:=23) rfl _ _).trans (law_cells_ok (fun c hc=>by
  have:=t_parts n (h+1) c (by omega) hc
  have e:((h+1:Nat):Int)=(h:Int)+1:=by omega
  rw [e] at this;exact this) (fun t ht=>by have:=cell_len (hN.cell t ht);omega) (by omega) (by have:=cellsH_len (h:=h) h6 hN.cell;omega))
theorem t_num (n:Nat) (d:D) (lo hi:Int):ru (n+1) 24 [d,.int lo,.int hi]=.ok (.bl (numB lo hi d)):=(rn (f:=24) rfl n _).trans (number_ok d lo hi)
theorem t_lcell (n:Nat) (d:D) (m:Int) (h:gd 63 50 d=true):ru (n+2) 25 [d,.int m]=.ok (.bl (isCell m d)):=(rn (f:=25) rfl _ _).trans (law_is_cell_ok (t_num n) d m (gd_cell (by omega) h))
theorem t_lisnet (n:Nat) (d:D) (h:gd 63 50 d=true):ru (n+3) 26 [d]=.ok (.bl (isNet d)):=(rn (f:=26) rfl _ _).trans (law_is_net_ok (n:=0) (t_num (n+1)) (t_lcell n) (t_tops n) d h)
theorem t_odd (n:Nat) (i:Int):∃ d,ru (n+1) 27 [.int i]=.ok d/\gd 63 5 d=true:=by
 obtain ⟨d,e,g⟩:=odd_ok (pg:=pg) (Φ:=ru n) i
 exact ⟨d,(rn (f:=27) rfl _ _).trans e,g⟩
theorem t_mingled (n:Nat) (cs:List (List Int)) (i:Int) (hl:cs.length<=16):∃ ds:List (List Int),ru (n+2) 30 [.lst (cs.map cD),.int i]=.ok (.tup (ds.map cD))/\(∀ c∈ds,c∈cs)/\ds.length<=32:=by
 obtain ⟨ds,e,r⟩:=mingled_ok (pg:=pg) (t_drawn n) cs i hl
 exact ⟨ds,(rn (f:=30) rfl _ _).trans e,r⟩
theorem t_told (n:Nat):Told (ru (n+5)) 29 where
 t1 d e h:=(rn (f:=29) rfl _ _).trans (told_no rfl ((rn (f:=14) rfl _ _).trans (made_1 ((t_many (n+1) e).trans (by rw [h])))))
 t2 d m h1 h8 ha:=(rn (f:=29) rfl _ _).trans (told_no rfl ((rn (f:=14) rfl _ _).trans (made_2 ((t_many (n+1) (.int m)).trans (by simp [isMany,h1,h8])) ((t_cells n d m).trans (by rw [ha])))))
 t3 cs m h1 h8 hc hv:=(rn (f:=29) rfl _ _).trans (told_no rfl ((rn (f:=14) rfl _ _).trans (made_3 ((t_many (n+1) (.int m)).trans (by simp [isMany,h1,h8])) ((t_cells n (.tup (cs.map cD)) m).trans (by rw [(areCells_iff m _).mpr ⟨cs,rfl,hc⟩])) ((t_meet n cs m (by omega) h8).trans (by rw [hv])))))
 t4 cs m h1 h8 hc hd hv:=(rn (f:=29) rfl _ _).trans (told_yes ((rn (f:=14) rfl _ _).trans (made_4 ((t_many (n+1) (.int m)).trans (by simp [isMany,h1,h8])) ((t_cells n (.tup (cs.map cD)) m).trans (by rw [(areCells_iff m _).mpr ⟨cs,rfl,hc⟩])) ((t_meet n cs m (by omega) h8).trans (by rw [hv])) (t_upp n cs (fun c h=>(hc c h).1) hd))))
theorem t_law (is:List Int):run pg fds 21 31 [.lst (is.map .int)]=.ok (.bl true) :=
 (rn (f:=31) rfl _ _).trans (law4_ok (t_told 15) (t_mixed 18 is) (t_lnet 10) (fun m ts h a b c d=>t_lcells 10 m ts h a b c d) (fun m ts h a b c _=>t_cel 15 m ts h a b c) (t_some 18) (t_mingled 18) (t_lcell 18) (t_num 19) (t_lisnet 17) (t_odd 19) (t_tops 18))
end P4
end
section
namespace Xn
open PySem
def fr (l:List Env):List Addr:=l.filterMap (·.frame)
noncomputable def cutH (h:Heap) (P:Addr->Prop):Heap:=⟨h.objs.mapIdx fun i o=>@ite _ (P i) (Classical.propDecidable _) o { o with data:=.freed },h.life⟩
theorem cutH_some {h : Heap} {P : Addr -> Prop} {b : Addr} {o : Obj} : (cutH h P).get? b = some o <-> P b /\ h.get? b = some o := by
  rw [Heap.get?_some_iff, Heap.get?_some_iff]
  unfold cutH
  rw [Array.getElem?_mapIdx]
  cases e : h.objs[b]? with
  | none => simp
  | some x =>
    rw [Option.map_some]
    by_cases hp : P b
    · rw [if_pos hp]; exact ⟨fun q => ⟨hp, q⟩, fun q => q.2⟩
    · rw [if_neg hp]
      refine ⟨fun ⟨q, f⟩ => ?_, fun q => absurd q.1 hp⟩
      cases q
      cases f
theorem cutH_none {h:Heap} {P:Addr->Prop} {b:Addr} (hp:¬ P b):(cutH h P).get? b=none:=by
 cases e:(cutH h P).get? b with
 | none=>rfl
 | some o=>exact absurd (cutH_some.mp e).1 hp
theorem rebase {h base base':Heap}:∀ {l:List Env},(∀ b∈fr l,base'.get? b=none)->h.FunFrames base l->h.FunFrames base' l
 | [],_,_=>trivial
 | env::r,hb,⟨k,⟨L,o,hf,hn,ho,hd⟩,hr⟩=>by
  have e:fr (env::r)=L::fr r:=by unfold fr;rw [List.filterMap_cons,hf]
  rw [e] at hb
  exact ⟨k,⟨L,o,hf,hb L List.mem_cons_self,ho,hd⟩,rebase (fun b q=>hb b (List.mem_cons_of_mem _ q)) hr⟩
def XpC (cls:Nat->Option Addr) (c:Nat) (e:Value) (l:List Addr) (h:Heap):Prop :=
 ∃ ea C oe vs a0,e=.ref ea/\cls c=some C/\h.get? ea=some oe/\oe.cls=.ref C/\oe.data=.fields vs/\vs[0]?=some a0 /\
  ((l=[ea]/\vs[1]?=some .none)\/∃ T oT ts,l=[ea,T]/\vs[1]?=some (.ref T)/\T≠ea/\h.get? T=some oT/\oT.data=.fields ts/\ts[3]?=some .none)
theorem note {M : Model} {A : Around} {E : Value -> Shared -> Prop} {s : Shared} {env : Env} {outer : List Env} {L : Addr} {base : Heap} {cls : Nat -> Option Addr} {c : Nat} {e : Value} {l : List Addr} {Q : Unit -> Shared -> Prop}
    (hfr : A.frames = some (env :: outer)) (hl : s.heap.FunFrames base (env :: outer)) (hf : env.frame = some L) (hx : XpC cls c e l s.heap)
    (k : ∀ h' l', XpC cls c e l' h' -> (∀ a ∈ l', a ∈ l \/ s.heap.get? a = none) -> (∀ b o, s.heap.get? b = some o -> b ∉ l -> b ∉ fr (env :: outer) -> h'.get? b = some o) ->
      (∀ b o, s.heap.get? b = some o -> b ∈ fr (env :: outer) -> ∃ sl, h'.get? b = some { o with slots := sl }) -> Q () { s with heap := h' }) :
    wpAny M A (noteFrame e env) (fun _ s2 => wpAny M A (setFlight e none) Q E s2) E s := by
  obtain ⟨ea, C, oe, vs, a0, rfl, hc, he, hcl, hd, h0, hr⟩ := hx
  have hel : ea ∈ l := by rcases hr with ⟨rfl, _⟩ | ⟨T, _, _, rfl, _⟩ <;> simp
  have hkb : (cutH s.heap fun b => b ∉ fr (env :: outer) /\ b ∉ l).StaysIn s.heap := fun b o q => (cutH_some.mp q).2
  have hen : (cutH s.heap fun b => b ∉ fr (env :: outer) /\ b ∉ l).get? ea = none := cutH_none fun q => q.2 hel
  have hl' := rebase (base' := cutH s.heap fun b => b ∉ fr (env :: outer) /\ b ∉ l) (fun b q => cutH_none fun z => z.1 q) hl
  have fin : ∀ h1, Heap.NotedW (cutH s.heap fun b => b ∉ fr (env :: outer) /\ b ∉ l) (env :: outer) ea (.ref C) a0 (rawInt L) s.heap h1 -> wpAny M A (setFlight (.ref ea) none) Q E { s with heap := h1 } := by
    intro h1 ⟨k1, k2, k3, k4⟩
    refine wpAny_setFlight_noneW (s := { s with heap := h1 }) k1 k2 k3 fun h' j1 j2 j3 j4 => ?_
    obtain ⟨oe', vs', T, oT, ts, g1, ⟨g2, g3⟩, g4, g5, g6, g7, g8, g9, g10⟩ := j3
    have fr_keep : ∀ b o, s.heap.get? b = some o -> b ∈ fr (env :: outer) -> ∃ sl, h'.get? b = some { o with slots := sl } := fun b o q hb => by
      obtain ⟨_, o', q', hn⟩ := hl.mem hb
      rw [q] at q'; cases q'
      obtain ⟨sl, z⟩ := k4 b o q hn
      exact ⟨sl, j4 b _ z hn⟩
    refine k h' [ea, T] ⟨ea, C, oe', vs', a0, rfl, hc, g1, g2, g4, g3, .inr ⟨T, oT, ts, rfl, g5, g7, g8, g9, g10⟩⟩ (fun a ha => ?_) (fun b o q hb hfb => j1 b o (cutH_some.mpr ⟨⟨hfb, hb⟩, q⟩)) fr_keep
    rcases List.mem_cons.mp ha with rfl | ha
    · exact .inl hel
    · obtain rfl : a = T := by simpa using ha
      by_cases hT : a ∈ l
      · exact .inl hT
      · refine .inr ?_
        cases q : s.heap.get? a with
        | none => rfl
        | some o =>
          by_cases hb : a ∈ fr (env :: outer)
          · obtain ⟨sl, z⟩ := fr_keep a o q hb
            obtain ⟨_, o', q', hn⟩ := hl.mem hb
            rw [q] at q'; cases q'
            rw [g8] at z; cases z
            exact absurd g9 (hn ts)
          · rw [cutH_some.mpr ⟨⟨hb, hT⟩, q⟩] at g6; cases g6
  rcases hr with ⟨rfl, h1⟩ | ⟨T, oT, ts, rfl, h1, hTe, hT, hdT, h3⟩
  · unfold noteFrame
    simp only [hf]
    refine wpAny_bind (wpAny_field he hd h1 ?_)
    rw [if_neg (by decide)]
    refine wpAny_entryW hfr hl' hf he hkb hen hd (Array.getElem?_eq_some_iff.mp h1).1 h0 fun h' hN => ?_
    rw [hcl] at hN
    exact fin h' hN
  · exact wpAny_noteFrame_onW hfr hl' hf ⟨oe, vs, T, oT, ts, he, ⟨hcl, h0⟩, hd, h1, cutH_none (fun q => q.2 (by simp)), hTe, hT, hdT, h3⟩ hkb hen fin
theorem leave {M:Model} {A:Around} {E:Value->Shared->Prop} {s:Shared} {env:Env} {outer:List Env} {L:Addr} {base:Heap} {cls:Nat->Option Addr} {c:Nat} {e:Value} {l:List Addr} {Q:Unit->Shared->Prop}
  (hfr:A.frames=some (env::outer)) (hl:s.heap.FunFrames base (env::outer)) (hf:env.frame=some L) (hx:XpC cls c e l s.heap)
  (k:∀ h' l',XpC cls c e l' h'->(∀ a∈l',a∈l\/s.heap.get? a=none)->(∀ b o,s.heap.get? b=some o->b∉l->b∉fr (env::outer)->h'.get? b=some o) ->
   (∀ b o,s.heap.get? b=some o->b∈fr (env::outer)->∃ sl,h'.get? b=some { o with slots:=sl })->Q () { s with heap:=h' }) :
  wpAny M A (leaving env e) Q E s:=by
 unfold leaving
 exact wpAny_bind (note hfr hl hf hx k)
theorem flight {M:Model} {A:Around} {E:Value->Shared->Prop} {s:Shared} {cls:Nat->Option Addr} {c:Nat} {e:Value} {l:List Addr} {Q:Unit->Shared->Prop} (hx:XpC cls c e l s.heap)
  (k:∀ (h':Heap) (l':List Addr),(∀ a∈l',a∈l/\e≠.ref a)->(∀ b o,s.heap.get? b=some o->b∉l'->h'.get? b=some o)->Q () { s with heap:=h' }):wpAny M A (setFlight e none) Q E s:=by
 obtain ⟨ea,C,oe,vs,a0,rfl,hc,he,hcl,hd,h0,hr⟩:=hx
 rcases hr with ⟨rfl,h1⟩ | ⟨T,oT,ts,rfl,h1,hTe,hT,hdT,h3⟩
 ·unfold setFlight
  refine wpAny_bind (wpAny_field he hd h1 ?_)
  rw [if_neg (by decide)]
  exact wpAny_pure (k s.heap [] (fun _ z=>nomatch z) fun b o q _=>q)
 ·unfold setFlight
  refine wpAny_bind (wpAny_field he hd h1 ?_)
  rw [if_pos (show (Value.ref T != Value.none)=true from by simp)]
  refine wpAny_setField hT hdT (Array.getElem?_eq_some_iff.mp h3).1 (k _ [T] (fun a ha=>?_) fun b o q hb=>?_)
  ·obtain rfl:a=T:=by simpa using ha
   exact ⟨by simp,fun z=>hTe (Value.ref.inj z).symm⟩
  ·rw [Heap.get?_update_other _ _ (fun z=>hb (by simp [z]))];exact q
theorem made {cls:Nat->Option Addr} {c:Nat} {C e:Addr} {h h':Heap} {args:List Value} (hc:cls c=some C) (hm:Heap.MadeExcOf h h' e (.ref C) args):XpC cls c (.ref e) [e] h':=by
 obtain ⟨t,he,_,_⟩:=hm.there
 exact ⟨e,C,_,_,.ref t,rfl,hc,he,rfl,rfl,rfl,.inl ⟨rfl,rfl⟩⟩
section
variable {prog:Program} {w:World} {A:Around} {E:Value->Shared->Prop}
variable {nm q:Str} {C N:Addr} {bs bm:List Value} {hdct:Bool} {sn:List Str} {sub:List Value} {ab:Bool} {col:Option Bool} {dd:Option Addr} {k0 k1 k2 k3 k5:Option Value} {newId:String}
theorem isi_nest {s:Shared} {x:Addr} {ox:Obj} {c:Value} {dep:Int} {tk:Tok} {Q:Fin->Shared->Prop} (hx:s.heap.get? x=some ox) (hcl:ox.cls=.ref C) (hC:s.heap.get? C=some (excClassObj nm q C N bs bm hdct sn sub ab col dd k0 k1 k2 k3 k5 newId))
  (hty:∀ {A':Around} {Q':Value->Shared->Prop} {E'},Q' (.type "type") s->wpAny (model prog w) A' (typeOf c) Q' E' s) (his:∀ {A':Around} {Q':Bool->Shared->Prop} {E'},Q' true s->wpAny (model prog w) A' (isType c) Q' E' s)
  (hm:(Value.ref C::bm).contains c=true) (h:Q (.done (.ret (.bool true))) s):wpAny (model prog w) A (Builtin.«isinstance.nested» ⟨[.ref x,c,.int dep tk],[]⟩) Q E s:=by
 obtain ⟨h0,g,d,tt,os⟩:=s
 have L0:∀ {A':Around} {Q':Value->Shared->Prop} {E'},Q' (.ref C) ⟨h0,g,d,tt,os⟩->wpAny (model prog w) A' (typeOf (.ref x)) Q' E' ⟨h0,g,d,tt,os⟩:=fun {A' Q' E'} z=>by
  unfold typeOf
  repeat (first | (with_reducible refine wpAny_loadPart_at hx ?_;rw [hcl]) | wp_step)
  exact z
 unfold Builtin.«isinstance.nested»
 refine wpAny_bind (L0 ?_)
 by_cases he:(Value.ref C==c)=true
 ·rw [if_pos he]
  show wpAny (model prog w) A (pure _) Q E _
  exact wpAny_pure h
 ·rw [if_neg he]
  refine wpAny_bind (hty ?_)
  rw [if_pos (by decide)]
  k_delta "plainIsInstance"
  refine wpAny_bind (wpAny_bind (his ?_))
  simp only [Bool.not_true,Bool.false_eq_true,if_false]
  refine wpAny_bind ?_
  unfold isInstance
  refine wpAny_bind (L0 ?_)
  refine wpAny_isSubtype_exc hC ?_
  rw [hm]
  simp only [if_true]
  first
   | exact wpAny_pure h
   | exact wpAny_pure (wpAny_pure h)
   | exact wpAny_bind (wpAny_pure (wpAny_pure h))
theorem isi_own {s:Shared} {x D:Addr} {ox oD:Obj} {Q:Value->Shared->Prop} (hx:s.heap.get? x=some ox) (hcl:ox.cls=.ref C) (hC:s.heap.get? C=some (excClassObj nm q C N bs bm hdct sn sub ab col dd k0 k1 k2 k3 k5 newId))
  (hD:s.heap.get? D=some oD) (hDc:oD.cls=.type "type") (hDd:∃ cd,oD.data=.cls cd) (hm:(Value.ref C::bm).contains (.ref D)=true) (h:Q (.bool true) s):wpAny (model prog w) A (call (.builtin "isinstance") [.ref x,.ref D]) Q E s:=by
 refine call_isinstance (S:=fun _ R s=>(s.heap.get? x=some ox/\s.heap.get? C=some (excClassObj nm q C N bs bm hdct sn sub ab col dd k0 k1 k2 k3 k5 newId)/\s.heap.get? D=some oD)/\R (.ok (.ret (.bool true))) s)
  (fun _ _ _ _ _ hs=>isinstance_outer (isi_nest hs.1.1 hcl hs.1.2.1 (fun {A' Q' E'} z=>?_) (fun {A' Q' E'} z=>?_) hm hs.2) (by intro q;cases q)) ⟨⟨hx,hC,hD⟩,h⟩
 ·have hD:=hs.1.2.2
  rename_i s'
  obtain ⟨h0,g,d,tt,os⟩:=s'
  unfold typeOf
  repeat (first | (with_reducible refine wpAny_loadPart_at hD ?_;rw [hDc]) | wp_step)
  exact z
 ·have hD:=hs.1.2.2
  obtain ⟨oc,od,odt,osl⟩:=oD
  obtain ⟨cd,rfl⟩:=hDd
  unfold isType loadHead
  exact wpAny_bind (wpAny_loadPart hD (wpAny_pure z))
theorem isi_type {s:Shared} {x:Addr} {ox:Obj} {T:String} {Q:Value->Shared->Prop} (hx:s.heap.get? x=some ox) (hcl:ox.cls=.ref C) (hC:s.heap.get? C=some (excClassObj nm q C N bs bm hdct sn sub ab col dd k0 k1 k2 k3 k5 newId))
  (hty:typeOf (.type T)=pure (.type "type")) (hm:bm.contains (.type T)=true) (h:Q (.bool true) s):wpAny (model prog w) A (call (.builtin "isinstance") [.ref x,.type T]) Q E s:=by
 refine call_isinstance (S:=fun _ R s=>(s.heap.get? x=some ox/\s.heap.get? C=some (excClassObj nm q C N bs bm hdct sn sub ab col dd k0 k1 k2 k3 k5 newId))/\R (.ok (.ret (.bool true))) s)
  (fun _ _ _ _ _ hs=>isinstance_outer (isi_nest hs.1.1 hcl hs.1.2 (fun {A' Q' E'} z=>?_) (fun {A' Q' E'} z=>?_) (by rw [List.contains_cons,hm,Bool.or_true]) hs.2) (by intro q;cases q)) ⟨⟨hx,hC⟩,h⟩
 ·rw [hty];exact wpAny_pure z
 ·exact wpAny_pure z
end
end Xn
end
section
namespace Sim
open PySem PySem.Spec PyProof.Rows L2
abbrev D:=Den.D
abbrev Rho:=Den.Rho
abbrev Rr:=Den.R
abbrev Sg:=List (Option V)
def wpR {α:Type} (r:Rr α) (Q:α->Prop) (E:Nat->Prop):Prop:=match r with
 | .ok a=>Q a
 | .exc c=>E c
 | .bad=>False
theorem wpR_bind {α β:Type} {r:Rr α} {f:α->Rr β} {Q:β->Prop} {E:Nat->Prop}:wpR (r>>=f) Q E<->wpR r (fun a=>wpR (f a) Q E) E:=by
 cases r <;> exact Iff.rfl
theorem wpR_mono {α:Type} {r:Rr α} {Q Q':α->Prop} {E E':Nat->Prop} (h:wpR r Q E) (hq:∀ a,Q a->Q' a) (he:∀ c,E c->E' c):wpR r Q' E':=by
 cases r with
 | ok a=>exact hq a h
 | exc c=>exact he c h
 | bad=>exact h
mutual
def Rep (K:W.Frag) (G:Hp):D->V->Prop
 | .non,v=>v=.non
 | .bl b,v=>v=.bl b
 | .int i,v=>v=.int i
 | .str x,v=>v=.str x
 | .tup ds,v=>∃ a xs,v=.ref a/\SqT K G a xs/\Reps K G ds xs
 | .lst ds,v=>∃ a xs,v=.ref a/\SqL K G a xs/\Reps K G ds xs
 | .dct _ _,_=>False
 | .exn _,_=>False
def Reps (K:W.Frag) (G:Hp):List D->List V->Prop
 | [],xs=>xs=[]
 | d::ds,xs=>∃ v r,xs=v::r/\Rep K G d v/\Reps K G ds r
end
section
variable {K:W.Frag} {G G' H H':Hp}
theorem sqT_mono (s:Same G G') {a:Addr} {xs:List V} (h:SqT K G a xs):SqT K G' a xs:=by
 rcases h with (h | ⟨o,h⟩) | h
 ·exact .inl (.inl (s _ _ h))
 ·exact .inl (.inr ⟨o,s _ _ h⟩)
 ·exact .inr h
theorem sqL_mono (s:Same G G') {a:Addr} {xs:List V} (h:SqL K G a xs):SqL K G' a xs:=by
 rcases h with (h | ⟨o,h⟩) | h
 ·exact .inl (.inl (s _ _ h))
 ·exact .inl (.inr ⟨o,s _ _ h⟩)
 ·exact .inr h
mutual
theorem Rep.mono (s:Same G G'):∀ {d:D} {v:V},Rep K G d v->Rep K G' d v
 | .non,_,h=>h
 | .bl _,_,h=>h
 | .int _,_,h=>h
 | .str _,_,h=>h
 | .tup ds,_,⟨a,xs,e,h,r⟩=>⟨a,xs,e,sqT_mono s h,Reps.mono s r⟩
 | .lst ds,_,⟨a,xs,e,h,r⟩=>⟨a,xs,e,sqL_mono s h,Reps.mono s r⟩
 | .dct _ _,_,h=>h
 | .exn _,_,h=>h
theorem Reps.mono (s:Same G G'):∀ {ds:List D} {xs:List V},Reps K G ds xs->Reps K G' ds xs
 | [],_,h=>h
 | d::ds,_,⟨v,r,e,h1,h2⟩=>⟨v,r,e,Rep.mono s h1,Reps.mono s h2⟩
end
theorem Reps.length:∀ {ds:List D} {xs:List V},Reps K G ds xs->ds.length=xs.length
 | [],_,h=>by cases h;rfl
 | d::ds,_,⟨v,r,e,h1,h2⟩=>by subst e;simp [Reps.length h2]
theorem Reps.append:∀ {ds es:List D} {xs ys:List V},Reps K G ds xs->Reps K G es ys->Reps K G (ds++es) (xs++ys)
 | [],_,_,_,h,q=>by cases h;exact q
 | d::ds,_,_,_,⟨v,r,e,h1,h2⟩,q=>by subst e;exact ⟨v,r++_,rfl,h1,Reps.append h2 q⟩
theorem Reps.get:∀ {ds:List D} {xs:List V} {i:Nat} {d:D},Reps K G ds xs->ds[i]?=some d->∃ v,xs[i]?=some v/\Rep K G d v
 | [],_,_,_,h,e=>by simp at e
 | d::ds,_,0,_,⟨v,r,e,h1,h2⟩,q=>by subst e;simp at q;subst q;exact ⟨v,rfl,h1⟩
 | d::ds,_,i+1,_,⟨v,r,e,h1,h2⟩,q=>by subst e;simpa using Reps.get h2 (by simpa using q)
theorem Reps.drop:∀ {ds:List D} {xs:List V} (n:Nat),Reps K G ds xs->Reps K G (ds.drop n) (xs.drop n)
 | _,_,0,h=>by simpa using h
 | [],_,n+1,h=>by cases h;simp [Reps]
 | d::ds,_,n+1,⟨v,r,e,h1,h2⟩=>by subst e;simpa using Reps.drop n h2
theorem Reps.take:∀ {ds:List D} {xs:List V} (n:Nat),Reps K G ds xs->Reps K G (ds.take n) (xs.take n)
 | _,_,0,h=>by simp [Reps]
 | [],_,n+1,h=>by cases h;simp [Reps]
 | d::ds,_,n+1,⟨v,r,e,h1,h2⟩=>by subst e;exact ⟨v,r.take n,by simp,h1,Reps.take n h2⟩
theorem Reps.snoc {ds:List D} {xs:List V} {d:D} {v:V} (h:Reps K G ds xs) (q:Rep K G d v):Reps K G (ds++[d]) (xs++[v]):=h.append ⟨v,[],rfl,q,rfl⟩
theorem Reps.rev:∀ {ds:List D} {xs:List V},Reps K G ds xs->Reps K G ds.reverse xs.reverse
 | [],_,h=>by cases h;simp [Reps]
 | d::ds,_,⟨v,r,e,h1,h2⟩=>by subst e;rw [List.reverse_cons,List.reverse_cons];exact h2.rev.snoc h1
def View (K:W.Frag) (G H:Hp):D->V->Prop
 | .lst ds,v=>∃ a xs,v=.ref a/\SqL K H a xs/\Reps K G ds xs
 | d,v=>Rep K G d v
theorem Rep.view (s:Same G H):∀ {d:D} {v:V},Rep K G d v->View K G H d v
 | .lst ds,_,⟨a,xs,e,h,r⟩=>⟨a,xs,e,sqL_mono s h,r⟩
 | .non,_,h=>h
 | .bl _,_,h=>h
 | .int _,_,h=>h
 | .str _,_,h=>h
 | .tup _,_,h=>h
 | .dct _ _,_,h=>h
 | .exn _,_,h=>h
structure Ext (G H G' H':Hp):Prop where
 g:Same G G'
 h:Same H H'
 sub:Same G' H'
 new:∀ a,G a=none->H a≠none->G' a=none
theorem Ext.refl (s:Same G H):Ext G H G H:=⟨Same.refl G,Same.refl H,s,fun _ h _=>h⟩
theorem Ext.trans {G1 H1:Hp} (x:Ext G H G1 H1) (y:Ext G1 H1 G' H'):Ext G H G' H' :=
 ⟨x.g.trans y.g,x.h.trans y.h,y.sub,fun a h1 h2=>y.new a (x.new a h1 h2) fun z=>by
  cases q:H a with
  | none=>exact h2 q
  | some o=>rw [x.h a o q] at z;cases z⟩
theorem same_upd {H:Hp} {a:Addr} {o:HO} (h:H a=none):Same H (upd H a o):=fun b u e=>by rw [upd_ne (ne_of_none e h)];exact e
theorem View.ext {H1 G1:Hp} (x:Ext G H G1 H1):∀ {d:D} {v:V},View K G H d v->View K G1 H1 d v
 | .lst ds,_,⟨a,xs,e,h,r⟩=>⟨a,xs,e,sqL_mono x.h h,r.mono x.g⟩
 | .non,_,h=>h
 | .bl _,_,h=>h
 | .int _,_,h=>h
 | .str _,_,h=>h
 | .tup _,_,h=>Rep.mono (K:=K) x.g h
 | .dct _ _,_,h=>h
 | .exn _,_,h=>h
theorem Ext.own (s:Same G H) {a:Addr} {o:HO} (h:H a=none):Ext G H G (upd H a o):=⟨Same.refl G,same_upd h,s.trans (same_upd h),fun _ h1 _=>h1⟩
theorem Ext.put (s:Same G H) {a:Addr} {o:HO} (h:H a=none):Ext G H (upd G a o) (upd H a o):=by
 have hG:G a=none:=s.free h
 refine ⟨same_upd hG,same_upd h,fun b u e=>?_,fun b h1 h2=>?_⟩
 ·by_cases q:b=a
  ·subst q;rw [upd_same] at e ⊢;exact e
  ·rw [upd_ne q] at e ⊢;exact s b u e
 ·rw [upd_ne (fun q=>h2 (by rw [q];exact h))];exact h1
end
inductive Md where
 | view | val | fresh
def RepM (K:W.Frag) (H G' H':Hp):Md->D->V->Prop
 | .view,d,v=>View K G' H' d v
 | .val,d,v=>Rep K G' d v
 | .fresh,.lst ds,v=>∃ a xs,v=.ref a/\H' a=some (.lst xs)/\H a=none/\G' a=none/\Reps K G' ds xs
 | .fresh,d,v=>Rep K G' d v
structure Sm (K:W.Frag) (mu:List Nat) (G H:Hp) (ρ:Rho) (σ:Sg):Prop where
 len:ρ.length=σ.length
 sub:Same G H
 val:∀ (i:Nat) (d:D),ρ[i]?=some (some d)->i∉mu->∃ v,σ[i]?=some (some v)/\Rep K G d v
 own:∀ (i:Nat) (d:D),ρ[i]?=some (some d)->i∈mu->(∀ ds,d≠.lst ds)->∃ v,σ[i]?=some (some v)/\Rep K G d v
 lst:∀ (i:Nat) (ds:List D),ρ[i]?=some (some (.lst ds))->i∈mu->∃ a xs,σ[i]?=some (some (V.ref a))/\H a=some (.lst xs)/\G a=none/\Reps K G ds xs
 apart:∀ (i j:Nat) (ds es:List D) (a b:Addr),ρ[i]?=some (some (.lst ds))->ρ[j]?=some (some (.lst es))->i∈mu->j∈mu->i≠j->σ[i]?=some (some (V.ref a))->σ[j]?=some (some (V.ref b))->a≠b
theorem Sm.ext {K:W.Frag} {mu:List Nat} {G H G' H':Hp} {ρ:Rho} {σ:Sg} (h:Sm K mu G H ρ σ) (x:Ext G H G' H'):Sm K mu G' H' ρ σ where
 len:=h.len
 sub:=x.sub
 val:=fun i d e hm=>let ⟨v,a,b⟩:=h.val i d e hm;⟨v,a,b.mono x.g⟩
 own:=fun i d e hm hl=>let ⟨v,a,b⟩:=h.own i d e hm hl;⟨v,a,b.mono x.g⟩
 lst:=fun i ds e hm=>let ⟨a,xs,h1,h2,h3,h4⟩:=h.lst i ds e hm;⟨a,xs,h1,x.h _ _ h2,x.new a h3 (by rw [h2];exact fun z=>nomatch z),h4.mono x.g⟩
 apart:=h.apart
theorem Sm.view {K:W.Frag} {mu:List Nat} {G H:Hp} {ρ:Rho} {σ:Sg} (h:Sm K mu G H ρ σ) {i:Nat} {d:D} (e:ρ[i]?=some (some d)):∃ v,σ[i]?=some (some v)/\View K G H d v:=by
 by_cases hm:i∈mu
 ·cases d with
  | lst ds=>obtain ⟨a,xs,h1,h2,h3,h4⟩:=h.lst i ds e hm;exact ⟨_,h1,a,xs,rfl,.inl (.inl h2),h4⟩
  | _=>obtain ⟨v,h1,h2⟩:=h.own i _ e hm (fun _ q=>nomatch q);exact ⟨v,h1,h2.view h.sub⟩
 ·obtain ⟨v,h1,h2⟩:=h.val i d e hm
  exact ⟨v,h1,h2.view h.sub⟩
abbrev XP:=Nat->Value->List Addr->Heap->Prop
def NewA (X:Cx) (pins:List (Addr×Obj)) (H:Hp) (a:Addr):Prop :=
 H a=none/\(a∈X.ex\/X.s₀.heap.get? a=none)/\a≠X.env.locals/\(∀ x c,X.env.cells.lookup x=some c->c≠a)/\∀ p∈X.pn++pins,p.1≠a
theorem NewA.of {X:Cx} {pins:List (Addr×Obj)} {σ:Sg} {H H':Hp} {s:Shared} {a:Addr} (I:Inv X pins σ H s) (h:s.heap.get? a=none) (h':H' a=none):NewA X pins H' a:=by
 have no:∀ {b:Addr} {o:Obj},s.heap.get? b=some o->b≠a:=fun q z=>by rw [z,h] at q;cases q
 refine ⟨h',?_,fun z=>?_,fun x c q=>?_,fun p q=>no (I.pin p q).1⟩
 ·by_cases hx:a∈X.ex
  ·exact .inl hx
  ·refine .inr ?_
   cases q:X.s₀.heap.get? a with
   | none=>rfl
   | some o=>obtain ⟨o',e⟩:=I.base.there a o q hx;rw [h] at e;cases e
 ·obtain ⟨m,⟨o,_,_,ho,_⟩,_⟩:=I.loc
  exact no ho z.symm
 ·obtain ⟨v,o,ho,_⟩:=I.cell x c q
  exact no ho
def RaiseOk (xp:XP) (X:Cx) (c:Nat) (H:Hp):Prop:=∀ (pins:List (Addr×Obj)) (σ:Sg) (H':Hp) (s':Shared) (e:Value) (l:List Addr),Inv X pins σ H' s'->Same H H'->(∀ a∈l,NewA X pins H' a)->xp c e l s'.heap->X.xe e s'
theorem RaiseOk.mono {xp:XP} {X:Cx} {c:Nat} {H H':Hp} (h:RaiseOk xp X c H) (s:Same H H'):RaiseOk xp X c H':=fun pins σ H2 s' e l I q n x=>h pins σ H2 s' e l I (s.trans q) n x
def tM (xp:XP) (X:Cx) (mu:List Nat) (m:Md) (f:Rho->Rr D):TE:=fun σ H Q =>
 ∃ G ρ,Sm X.K mu G H ρ σ/\wpR (f ρ) (fun d=>∀ v G' H',Ext G H G' H'->RepM X.K H G' H' m d v->Q v H') (fun c=>RaiseOk xp X c H)
theorem RepM.view {K:W.Frag} {H G' H':Hp} (s:Same G' H'):∀ {m:Md} {d:D} {v:V},RepM K H G' H' m d v->View K G' H' d v
 | .view,_,_,h=>h
 | .val,_,_,h=>Rep.view s h
 | .fresh,.lst ds,_,⟨a,xs,e,h1,_,_,r⟩=>⟨a,xs,e,.inl (.inl h1),r⟩
 | .fresh,.non,_,h=>h
 | .fresh,.bl _,_,h=>h
 | .fresh,.int _,_,h=>h
 | .fresh,.str _,_,h=>h
 | .fresh,.tup _,_,h=>h
 | .fresh,.dct _ _,_,h=>h
 | .fresh,.exn _,_,h=>h
theorem PE.val {xp:XP} {X:Cx} {mu:List Nat} {e:Expr} {f:Rho->Rr D} (h:PE X e (tM xp X mu .fresh f)):PE X e (tM xp X mu .val f):=by
 intro pins s σ H Q I ⟨G,ρ,hs,hw⟩
 refine h pins s σ H Q I ⟨G,ρ,hs,wpR_mono hw (fun d k v G' H' x r=>?_) fun _ q=>q⟩
 cases d with
 | lst ds =>
  obtain ⟨a,xs,rfl,h1,h2,h3,h4⟩:=r
  refine k _ (upd G' a (.lst xs)) H' ⟨x.g.trans (same_upd h3),x.h,fun b o q=>?_,fun b q1 q2=>?_⟩ ⟨a,xs,rfl,.inl (.inl upd_same),h4.mono (same_upd h3)⟩
  ·by_cases hb:b=a
   ·subst hb;rw [upd_same] at q;rw [h1];exact q
   ·rw [upd_ne hb] at q;exact x.sub b o q
  ·rw [upd_ne (fun z=>q2 (by rw [z];exact h2))];exact x.new b q1 q2
 | _=>exact k v G' H' x r
theorem PE.view {xp:XP} {X:Cx} {mu:List Nat} {m:Md} {e:Expr} {f:Rho->Rr D} (h:PE X e (tM xp X mu m f)):PE X e (tM xp X mu .view f):=by
 intro pins s σ H Q I ⟨G,ρ,hs,hw⟩
 exact h pins s σ H Q I ⟨G,ρ,hs,wpR_mono hw (fun d k v G' H' x r=>k v G' H' x (r.view x.sub)) fun _ q=>q⟩
end Sim
end
section
namespace Sim
open PySem PySem.Spec PyProof.Rows L2
section
variable {xp:XP} {X:Cx} {mu:List Nat} {pg:Den.Pg} {Φ:Den.Fn}
theorem s_var {i:Nat} {x:Str} {p:Pos} (hN:X.N[i]?=some x) (hv:Vis X.env.scope x) (h1:(x==("__debug__":Str))=false) (h2:(x==("__classdict__":Str))=false):PE X (.Name x p) (tM xp X mu .view fun ρ=>Den.ev pg Φ ρ (.var i)):=by
 intro pins s σ H Q I ⟨G,ρ,hs,hw⟩
 dsimp only at hw
 cases e:ρ[i]? with
 | none=>simp only [Den.ev,e] at hw;exact hw.elim
 | some o =>
  cases o with
  | none=>simp only [Den.ev,e] at hw;exact hw.elim
  | some d =>
   rw [Den.ev_var i e] at hw
   obtain ⟨v,a,b⟩:=hs.view e
   exact pe_var hN hv h1 h2 pins s σ H Q I ⟨v,a,hw v G H (Ext.refl hs.sub) b⟩
theorem s_varV {i:Nat} {x:Str} {p:Pos} (hm:i∉mu) (hN:X.N[i]?=some x) (hv:Vis X.env.scope x) (h1:(x==("__debug__":Str))=false) (h2:(x==("__classdict__":Str))=false):PE X (.Name x p) (tM xp X mu .val fun ρ=>Den.ev pg Φ ρ (.var i)):=by
 intro pins s σ H Q I ⟨G,ρ,hs,hw⟩
 dsimp only at hw
 cases e:ρ[i]? with
 | none=>simp only [Den.ev,e] at hw;exact hw.elim
 | some o =>
  cases o with
  | none=>simp only [Den.ev,e] at hw;exact hw.elim
  | some d =>
   rw [Den.ev_var i e] at hw
   obtain ⟨v,a,b⟩:=hs.val i d e hm
   exact pe_var hN hv h1 h2 pins s σ H Q I ⟨v,a,hw v G H (Ext.refl hs.sub) b⟩
theorem s_lit {d:D} {c:Const} {j:Nat} {p:Pos} {m:Md} (h:Den.litOk d c=true):PE X (.Constant c j p) (tM xp X mu m fun ρ=>Den.ev pg Φ ρ (.lit d)):=by
 intro pins s σ H Q I ⟨G,ρ,hs,hw⟩
 dsimp only at hw
 rw [Den.ev_lit] at hw
 have fin:∀ v,RepM X.K H G H m d v->Q v H:=fun v r=>hw v G H (Ext.refl hs.sub) r
 cases d with
 | non=>cases c <;> simp [Den.litOk] at h;exact pe_non pins s σ H Q I (fin _ (by cases m <;> rfl))
 | bl b =>
  cases c <;> simp [Den.litOk] at h
  subst h;exact pe_bl pins s σ H Q I (fin _ (by cases m <;> rfl))
 | int i =>
  cases c <;> simp [Den.litOk] at h
  subst h;exact pe_int pins s σ H Q I (fin _ (by cases m <;> rfl))
 | str x =>
  cases c <;> simp [Den.litOk] at h
  subst h;exact pe_str pins s σ H Q I (fin _ (by cases m <;> rfl))
 | _=>cases c <;> simp [Den.litOk] at h
def rD (K:W.Frag) (g:D->D->Rr D):R2:=fun x y H Q=>∃ G dx dy,Same G H/\View K G H dx x/\View K G H dy y/\wpR (g dx dy) (fun d=>∀ v G' H',Ext G H G' H'->RepM K H G' H' .fresh d v->Q v H') (fun _=>False)
theorem RepM.old {K:W.Frag} {H H1 G' H':Hp} (s:Same H H1):∀ {m:Md} {d:D} {v:V},RepM K H1 G' H' m d v->RepM K H G' H' m d v
 | .view,_,_,h=>h
 | .val,_,_,h=>h
 | .fresh,.lst ds,_,⟨a,xs,e,h1,h2,h3,r⟩=>⟨a,xs,e,h1,s.free h2,h3,r⟩
 | .fresh,.non,_,h=>h
 | .fresh,.bl _,_,h=>h
 | .fresh,.int _,_,h=>h
 | .fresh,.str _,_,h=>h
 | .fresh,.tup _,_,h=>h
 | .fresh,.dct _ _,_,h=>h
 | .fresh,.exn _,_,h=>h
theorem s_bin {fa fb:Rho->Rr D} {g:D->D->Rr D} {a b:Expr} {op:Operator} {pos:Pos} (hg:∀ x y c,g x y≠.exc c) (ho:OpR X (binaryOp op) (rD X.K g)) (ha:PE X a (tM xp X mu .view fa)) (hb:PE X b (tM xp X mu .view fb)) :
  PE X (.BinOp a op b pos) (tM xp X mu .fresh fun ρ=>fa ρ>>=fun x=>fb ρ>>=fun y=>g x y):=by
 intro pins s σ H Q I ⟨G,ρ,hs,hw⟩
 refine pe_op ho ha hb pins s σ H Q I ?_
 refine ⟨G,ρ,hs,wpR_mono (wpR_bind.mp hw) (fun dx k v G1 H1 x1 r1=>?_) fun _ q=>q⟩
 refine ⟨G1,ρ,hs.ext x1,wpR_mono (wpR_bind.mp k) (fun dy k2 v2 G2 H2 x2 r2=>?_) fun _ q=>q.mono x1.h⟩
 refine ⟨G2,dx,dy,x2.sub,View.ext x2 r1,r2,?_⟩
 cases q:g dx dy with
 | ok d =>
  rw [q] at k2
  exact fun v3 G3 H3 x3 r3=>k2 v3 G3 H3 ((x1.trans x2).trans x3) (r3.old (x1.h.trans x2.h))
 | exc c=>exact absurd q (hg _ _ _)
 | bad=>rw [q] at k2;exact k2
theorem fin_ {K:W.Frag} {G H:Hp} {Q:VK} {d:D} {v:V} (hs:Same G H) (k:∀ v G' H',Ext G H G' H'->RepM K H G' H' .fresh d v->Q v H') (r:RepM K H G H .fresh d v):Q v H:=k v G H (Ext.refl hs) r
theorem d_sub:OpR X (binaryOp .Sub) (rD X.K (Den.binD .sub)):=by
 intro pins s σ H x y v u Q I rx ry ⟨G,dx,dy,hs,vx,vy,hw⟩
 cases dx <;> cases dy <;> first | exact hw.elim | skip
 exact op_sub pins s σ H x y v u Q I rx ry ⟨_,_,vx,vy,fin_ hs hw rfl⟩
theorem d_mod:OpR X (binaryOp .Mod) (rD X.K (Den.binD .mod)):=by
 intro pins s σ H x y v u Q I rx ry ⟨G,dx,dy,hs,vx,vy,hw⟩
 cases dx <;> cases dy <;> first | exact hw.elim | skip
 rename_i i j
 rw [Den.mod_int] at hw
 by_cases h:0 < j
 ·rw [if_pos h] at hw
  exact op_mod pins s σ H x y v u Q I rx ry ⟨_,_,vx,vy,h,fin_ hs hw rfl⟩
 ·rw [if_neg h] at hw;exact hw.elim
theorem d_fdiv:OpR X (binaryOp .FloorDiv) (rD X.K (Den.binD .fdiv)):=by
 intro pins s σ H x y v u Q I rx ry ⟨G,dx,dy,hs,vx,vy,hw⟩
 cases dx <;> cases dy <;> first | exact hw.elim | skip
 rename_i i j
 rw [Den.fdiv_int] at hw
 by_cases h:0 < j/\j < 1073741824
 ·rw [if_pos h] at hw
  exact op_fdiv pins s σ H x y v u Q I rx ry ⟨_,_,vx,vy,h,fin_ hs hw rfl⟩
 ·rw [if_neg h] at hw;exact hw.elim
end
end Sim
end
section
namespace Sim
open PySem PySem.Spec PyProof.Rows L2
mutual
def toPy:D->PyData
 | .non=>.none
 | .bl b=>.bool b
 | .int i=>.int i
 | .str x=>.str x
 | .tup xs=>.tuple (toPys xs)
 | .lst xs=>.list (toPys xs)
 | .dct _ _=>.dict []
 | .exn _=>.dict []
def toPys:List D->List PyData
 | []=>[]
 | d::ds=>toPy d::toPys ds
end
mutual
theorem eqv_py:∀ a b:D,PyData.eqv (toPy a) (toPy b)=Den.eqD a b
 | .non,b=>by cases b <;> rfl
 | .bl _,b=>by cases b <;> rfl
 | .int _,b=>by cases b <;> rfl
 | .str _,b=>by cases b <;> rfl
 | .tup xs,b=>by
  cases b with
  | tup ys=>simp only [toPy,PyData.eqv,Den.eqD];exact eqvs_py xs ys
  | _=>rfl
 | .lst xs,b=>by
  cases b with
  | lst ys=>simp only [toPy,PyData.eqv,Den.eqD];exact eqvs_py xs ys
  | _=>rfl
 | .dct _ _,b=>by cases b <;> rfl
 | .exn _,b=>by cases b <;> rfl
theorem eqvs_py:∀ a b:List D,PyData.eqvAll (toPys a) (toPys b)=Den.eqDs a b
 | [],[]=>rfl
 | [],_::_=>rfl
 | _::_,[]=>rfl
 | x::xs,y::ys=>by simp only [toPys,PyData.eqvAll,Den.eqDs,eqv_py x y,eqvs_py xs ys]
end
mutual
theorem shp_py:∀ (n:Nat) (d:D),Den.shp n d=true->(toPy d).canLay0=true/\(toPy d).depth<=n
 | n,.non,_=>⟨rfl,Nat.zero_le _⟩
 | n,.bl _,_=>⟨rfl,Nat.zero_le _⟩
 | n,.int _,_=>⟨rfl,Nat.zero_le _⟩
 | 0,.str x,h=>⟨h,Nat.zero_le _⟩
 | n+1,.str x,h=>⟨h,Nat.zero_le _⟩
 | 0,.tup _,h=>by cases h
 | n+1,.tup xs,h=>by
  obtain ⟨a,b⟩:=shps_py n xs h
  exact ⟨a,by show PyData.depthAll (toPys xs)+1<=n+1;omega⟩
 | 0,.lst _,h=>by cases h
 | n+1,.lst xs,h=>by
  obtain ⟨a,b⟩:=shps_py n xs h
  exact ⟨a,by show PyData.depthAll (toPys xs)+1<=n+1;omega⟩
 | 0,.dct _ _,h=>by cases h
 | n+1,.dct _ _,h=>by cases h
 | 0,.exn _,h=>by cases h
 | n+1,.exn _,h=>by cases h
theorem shps_py:∀ (n:Nat) (ds:List D),ds.all (Den.shp n)=true->PyData.canLayAll0 (toPys ds)=true/\PyData.depthAll (toPys ds)<=n
 | n,[],_=>⟨rfl,Nat.zero_le _⟩
 | n,d::ds,h=>by
  simp only [List.all_cons,Bool.and_eq_true] at h
  obtain ⟨a,b⟩:=shp_py n d h.1
  obtain ⟨a',b'⟩:=shps_py n ds h.2
  refine ⟨by simp only [toPys,PyData.canLayAll0,a,a',Bool.and_self],?_⟩
  show max (PyData.depth (toPy d)) (PyData.depthAll (toPys ds))<=n
  omega
end
theorem shp_shaped {d:D} (h:Den.shp 60 d=true):SeqAt.shaped (toPy d)=true:=by
 obtain ⟨a,b⟩:=shp_py 60 d h
 unfold SeqAt.shaped;rw [a,Bool.true_and];exact decide_eq_true (by omega)
section
variable {xp:XP} {X:Cx} {mu:List Nat} {pg:Den.Pg} {Φ:Den.Fn} {pins:List (Addr×Obj)} {σ:Sg} {G H:Hp} {s:Shared}
mutual
theorem reads_of (I:Inv X pins σ H s) (hs:Same G H):∀ {d:D} {v:V} {u:Value},Rep X.K G d v->RelV v u->∃ as,Reads s.heap u (toPy d) as
 | .non,_,_,h,r=>by cases h;cases r;exact ⟨_,.none⟩
 | .bl b,_,_,h,r=>by cases h;cases r;exact ⟨_,.bool b⟩
 | .int i,_,_,h,r=>by cases h;obtain ⟨t,rfl⟩:=r;exact ⟨_,.int i t⟩
 | .str x,_,_,h,r=>by cases h;obtain ⟨t,rfl⟩:=r;exact ⟨_,.str x t⟩
 | .tup ds,_,_,⟨a,xs,e,h,q⟩,r=>by
  subst e;cases r
  obtain ⟨its,rv,⟨o,ho,hc,n,hd⟩,_⟩:=I.tuple (sqT_mono hs h)
  obtain ⟨as,ra⟩:=readss_of I hs q rv
  exact ⟨as,.tuple ho hc hd (by simpa using ra)⟩
 | .lst ds,_,_,⟨a,xs,e,h,q⟩,r=>by
  subst e;cases r
  obtain ⟨its,rv,⟨o,n,ho,hc,_,hd⟩,_⟩:=I.list (sqL_mono hs h)
  obtain ⟨as,ra⟩:=readss_of I hs q rv
  exact ⟨a::as,.list ho hc hd (by simpa using ra)⟩
 | .dct _ _,_,_,h,_=>h.elim
 | .exn _,_,_,h,_=>h.elim
theorem readss_of (I:Inv X pins σ H s) (hs:Same G H):∀ {ds:List D} {xs:List V} {us:List Value},Reps X.K G ds xs->Vals xs us->∃ as,ReadsAll s.heap us (toPys ds) as
 | [],_,_,h,r=>by cases h;cases r;exact ⟨_,.nil⟩
 | d::ds,_,_,⟨v,t,e,h1,h2⟩,r=>by
  subst e
  cases r with
  | cons r1 r2 =>
   obtain ⟨as,ra⟩:=reads_of I hs h1 r1
   obtain ⟨bs,rb⟩:=readss_of I hs h2 r2
   exact ⟨as++bs,.cons ra rb⟩
end
theorem reads_view (I:Inv X pins σ H s) (hs:Same G H) {d:D} {v:V} {u:Value} (h:View X.K G H d v) (r:RelV v u):∃ as,Reads s.heap u (toPy d) as:=by
 cases d with
 | lst ds =>
  obtain ⟨a,xs,rfl,h,q⟩:=h
  cases r
  obtain ⟨its,rv,⟨o,n,ho,hc,_,hd⟩,_⟩:=I.list h
  obtain ⟨as,ra⟩:=readss_of I hs q rv
  exact ⟨a::as,.list ho hc hd (by simpa using ra)⟩
 | _=>exact reads_of I hs h r
def rC (K:W.Frag) (g:D->D->Rr Bool):R2:=fun x y H Q=>∃ G dx dy,Same G H/\View K G H dx x/\View K G H dy y/\wpR (g dx dy) (fun b=>Q (.bl b) H) (fun _=>False)
theorem wpR_notR {r:Rr Bool} {Q:Bool->Prop} {E:Nat->Prop}:wpR (Den.notR r) Q E<->wpR r (fun b=>Q (!b)) E:=by cases r <;> exact Iff.rfl
theorem wpR_eqR {x y:D} {Q:Bool->Prop} {E:Nat->Prop} (h:wpR (Den.eqR x y) Q E):Den.shp 60 x=true/\Den.shp 60 y=true/\Q (Den.eqD x y):=by
 unfold Den.eqR at h
 cases q:(Den.shp 60 x&&Den.shp 60 y) with
 | false=>rw [q] at h;exact h.elim
 | true =>
  rw [q] at h
  simp only [Bool.and_eq_true] at q
  exact ⟨q.1,q.2,h⟩
theorem c_eq (hu:X.A.units+64 < cLine):OpR X (compareOp .Eq) (rC X.K (Den.cmpD .eq)):=by
 intro pins s σ H x y v u Q I rx ry ⟨G,dx,dy,hs,vx,vy,hw⟩
 rw [Den.cmp_eq] at hw
 obtain ⟨h1,h2,q⟩:=wpR_eqR hw
 obtain ⟨as,ra⟩:=reads_view I hs vx rx
 obtain ⟨bs,rb⟩:=reads_view I hs vy ry
 refine eq_dataH ra rb (shp_shaped h1) (shp_shaped h2) hu ?_
 rw [eqv_py]
 exact ⟨.bl _,H,I,rfl,q⟩
theorem c_ne (hu:X.A.units+64 < cLine):OpR X (compareOp .NotEq) (rC X.K (Den.cmpD .ne)):=by
 intro pins s σ H x y v u Q I rx ry ⟨G,dx,dy,hs,vx,vy,hw⟩
 rw [Den.cmp_ne] at hw
 obtain ⟨h1,h2,q⟩:=wpR_eqR (wpR_notR.mp hw)
 obtain ⟨as,ra⟩:=reads_view I hs vx rx
 obtain ⟨bs,rb⟩:=reads_view I hs vy ry
 refine ne_dataH ra rb (shp_shaped h1) (shp_shaped h2) hu ?_
 rw [eqv_py]
 exact ⟨.bl _,H,I,rfl,q⟩
end
end Sim
end
section
namespace Sim
open PySem PySem.Spec PyProof.Rows L2
section
variable {xp:XP} {X:Cx} {mu:List Nat} {pg:Den.Pg} {Φ:Den.Fn} {pins:List (Addr×Obj)} {σ:Sg} {G H:Hp} {s:Shared}
open Classical in
noncomputable def eqIn (h:Heap) (dx:D) (y:Value):Bool:=decide (∃ (d:D) (as:List Addr),Reads h y (toPy d) as/\Den.shp 60 d=true/\Den.eqD d dx=true)
open Classical in
theorem eqIn_of {h:Heap} {dx d:D} {y:Value} {as:List Addr} (r:Reads h y (toPy d) as) (hd:Den.shp 60 d=true):eqIn h dx y=Den.eqD d dx:=by
 unfold eqIn
 cases q:Den.eqD d dx with
 | true=>exact decide_eq_true ⟨d,as,r,hd,q⟩
 | false =>
  refine decide_eq_false ?_
  rintro ⟨d',as',r',hd',q'⟩
  have e:=SeqAt.Reads.unique _ _ _ _ _ (shp_py 60 d hd).1 r r'
  rw [<- eqv_py] at q q'
  rw [e,q'] at q
  cases q
theorem any_in {h:Heap} {dx:D}:∀ {ds:List D} {us:List Value} {as:List Addr},ReadsAll h us (toPys ds) as->ds.all (Den.shp 60)=true->us.any (eqIn h dx)=ds.any fun d=>Den.eqD d dx
 | [],_,_,r,_=>by cases r;rfl
 | d::ds,_,_,r,hd=>by
  cases r with
  | cons r1 r2 =>
   simp only [List.all_cons,Bool.and_eq_true] at hd
   simp only [List.any_cons,eqIn_of r1 hd.1,any_in r2 hd.2]
theorem eqAt_in (hu:X.A.units+64 < cLine) {dx:D} {v:Value} {bs:List Addr} (rx:Reads s.heap v (toPy dx) bs) (hx:Den.shp 60 dx=true):∀ {ds:List D} {us:List Value} {as:List Addr},ReadsAll s.heap us (toPys ds) as->ds.all (Den.shp 60)=true->∀ y,y∈us->SeqAt.EqAt X.A.in1 s y v (eqIn s.heap dx y)
 | [],_,_,r,_,y,hy=>by cases r;simp at hy
 | d::ds,_,_,r,hd,y,hy=>by
  cases r with
  | cons r1 r2 =>
   simp only [List.all_cons,Bool.and_eq_true] at hd
   rcases List.mem_cons.mp hy with rfl | hy
   ·rw [eqIn_of r1 hd.1,<- eqv_py]
    refine SeqAt.eqAt_reads _ _ _ _ _ _ _ _ r1 rx (shp_py 60 _ hd.1).1 (shp_py 60 _ hx).1 ?_
    have h1:=(shp_py 60 _ hd.1).2
    show X.A.units+1+_ < cLine
    have:min (toPy d).depth (toPy dx).depth<=60:=Nat.le_trans (Nat.min_le_left _ _) h1
    omega
   ·exact eqAt_in hu rx hx r2 hd.2 y hy
theorem wpR_memR {x:D} {ys:List D} {Q:Bool->Prop} {E:Nat->Prop} (h:wpR (Den.memR x ys) Q E):Den.shp 60 x=true/\ys.all (Den.shp 60)=true/\Q (Den.memD x ys):=by
 unfold Den.memR at h
 cases q:(Den.shp 60 x&&ys.all (Den.shp 60)) with
 | false=>rw [q] at h;exact h.elim
 | true =>
  rw [q] at h
  simp only [Bool.and_eq_true] at q
  exact ⟨q.1,q.2,h⟩
theorem in_parts {ys:List D} {y:V} {u:Value} (I:Inv X pins σ H s) (hs:Same G H) (h:View X.K G H (.tup ys) y\/View X.K G H (.lst ys) y) (r:RelV y u) :
  ∃ (a:Addr) (its:List Value) (as:List Addr),u=.ref a/\ReadsAll s.heap its (toPys ys) as/\(s.heap.IsTuple a its.toArray\/s.heap.IsList a its.toArray):=by
 rcases h with ⟨a,xs,rfl,h,q⟩ | ⟨a,xs,rfl,h,q⟩
 ·cases r
  obtain ⟨its,rv,⟨o,ho,hc,n,hd⟩,_⟩:=I.tuple (sqT_mono hs h)
  obtain ⟨as,ra⟩:=readss_of I hs q rv
  exact ⟨a,its,as,rfl,ra,.inl ⟨o,ho,hc,n,hd⟩⟩
 ·cases r
  obtain ⟨its,rv,⟨o,n,ho,hc,_,hd⟩,_⟩:=I.list h
  obtain ⟨as,ra⟩:=readss_of I hs q rv
  exact ⟨a,its,as,rfl,ra,.inr ⟨o,ho,hc,n,hd⟩⟩
theorem c_in (hu:X.A.units+64 < cLine):OpR X (compareOp .In) (rC X.K (Den.cmpD .mem)):=by
 intro pins s σ H x y v u Q I rx ry ⟨G,dx,dy,hs,vx,vy,hw⟩
 have key:∀ ys,(View X.K G H (.tup ys) y\/View X.K G H (.lst ys) y)->wpR (Den.memR dx ys) (fun b=>Q (.bl b) H) (fun _=>False)->wpAny (model X.prog X.w) X.A (compareOp .In v u) (EP X pins σ Q) X.xe s:=by
  intro ys hy hw
  obtain ⟨h1,h2,q⟩:=wpR_memR hw
  obtain ⟨bs,rb⟩:=reads_view I hs vx rx
  obtain ⟨a,its,as,rfl,ra,ho⟩:=in_parts I hs hy ry
  have e:its.toArray.any (eqIn s.heap dx)=Den.memD dx ys:=by rw [List.any_toArray];exact any_in ra h2
  have he:∀ z,z∈its.toArray->SeqAt.EqAt X.A.in1 s z v (eqIn s.heap dx z):=fun z hz=>eqAt_in hu rb h1 ra h2 z (by simpa using hz)
  rcases ho with ho | ho
  ·exact SeqAt.in_tupleAt _ ho he (by rw [e];exact ⟨.bl _,H,I,rfl,q⟩)
  ·exact SeqAt.in_listAt _ ho he (by rw [e];exact ⟨.bl _,H,I,rfl,q⟩)
 cases dy with
 | tup ys=>exact key ys (.inl vy) hw
 | lst ys=>exact key ys (.inr vy) hw
 | _=>cases dx <;> exact hw.elim
theorem c_notin (hu:X.A.units+64 < cLine):OpR X (compareOp .NotIn) (rC X.K (Den.cmpD .notmem)):=by
 intro pins s σ H x y v u Q I rx ry ⟨G,dx,dy,hs,vx,vy,hw⟩
 have key:∀ ys,(View X.K G H (.tup ys) y\/View X.K G H (.lst ys) y)->wpR (Den.notR (Den.memR dx ys)) (fun b=>Q (.bl b) H) (fun _=>False)->wpAny (model X.prog X.w) X.A (compareOp .NotIn v u) (EP X pins σ Q) X.xe s:=by
  intro ys hy hw
  obtain ⟨h1,h2,q⟩:=wpR_memR (wpR_notR.mp hw)
  obtain ⟨bs,rb⟩:=reads_view I hs vx rx
  obtain ⟨a,its,as,rfl,ra,ho⟩:=in_parts I hs hy ry
  have e:its.toArray.any (eqIn s.heap dx)=Den.memD dx ys:=by rw [List.any_toArray];exact any_in ra h2
  have he:∀ z,z∈its.toArray->SeqAt.EqAt X.A.in1 s z v (eqIn s.heap dx z):=fun z hz=>eqAt_in hu rb h1 ra h2 z (by simpa using hz)
  rcases ho with ho | ho
  ·exact SeqAt.notIn_tupleAt _ ho he (by rw [e];exact ⟨.bl _,H,I,rfl,q⟩)
  ·exact SeqAt.notIn_listAt _ ho he (by rw [e];exact ⟨.bl _,H,I,rfl,q⟩)
 cases dy with
 | tup ys=>exact key ys (.inl vy) hw
 | lst ys=>exact key ys (.inr vy) hw
 | _=>cases dx <;> exact hw.elim
theorem is_bool_gen {M:Model} {A:Around} {E:Value->Shared->Prop} {s:Shared} {Q:Value->Shared->Prop} {v:Value} {b:Bool} (hv:∀ n,v≠.builtin n) (h:Q (.bool (v==.bool b)) s):wpAny M A (compareOp .Is v (.bool b)) Q E s:=by
 cases v with
 | builtin n=>exact absurd rfl (hv n)
 | _=>exact wpAny_pure h
theorem isnot_bool_gen {M:Model} {A:Around} {E:Value->Shared->Prop} {s:Shared} {Q:Value->Shared->Prop} {v:Value} {b:Bool} (hv:∀ n,v≠.builtin n) (h:Q (.bool (!(v==.bool b))) s):wpAny M A (compareOp .IsNot v (.bool b)) Q E s:=by
 cases v with
 | builtin n=>exact absurd rfl (hv n)
 | _=>exact wpAny_pure h
theorem relV_nb {x:V} {v:Value} (r:RelV x v):∀ n,v≠.builtin n:=by
 intro n e
 subst e
 cases x <;> first | (cases r;done) | (obtain ⟨t,h⟩:=r;cases h)
theorem isD_val {K:W.Frag} {dx dy:D} {x y:V} {v u:Value} {Q:Bool->Prop} {E:Nat->Prop} (vx:View K G H dx x) (vy:View K G H dy y) (rx:RelV x v) (ry:RelV y u) (h:wpR (Den.isD dx dy) Q E) :
  (u=.none/\Q (v==.none))\/∃ b,u=.bool b/\Q (v==.bool b):=by
 cases dy with
 | non =>
  cases vy;cases ry
  refine .inl ⟨rfl,?_⟩
  cases dx with
  | non=>cases vx;cases rx;exact h
  | bl _=>cases vx;cases rx;exact h
  | int _=>cases vx;obtain ⟨t,rfl⟩:=rx;exact h
  | str _=>cases vx;obtain ⟨t,rfl⟩:=rx;exact h
  | tup _=>obtain ⟨a,xs,rfl,_⟩:=vx;cases rx;exact h
  | lst _=>obtain ⟨a,xs,rfl,_⟩:=vx;cases rx;exact h
  | dct _ _=>exact vx.elim
  | exn _=>exact vx.elim
 | bl b =>
  cases vy;cases ry
  refine .inr ⟨b,rfl,?_⟩
  cases dx with
  | non=>cases vx;cases rx;exact h
  | bl a =>
   cases vx;cases rx
   have e:(Value.bool a==Value.bool b)=(a==b):=by cases a <;> cases b <;> rfl
   rw [e];exact h
  | int _=>cases vx;obtain ⟨t,rfl⟩:=rx;exact h
  | str _=>cases vx;obtain ⟨t,rfl⟩:=rx;exact h
  | tup _=>obtain ⟨a,xs,rfl,_⟩:=vx;cases rx;exact h
  | lst _=>obtain ⟨a,xs,rfl,_⟩:=vx;cases rx;exact h
  | dct _ _=>exact vx.elim
  | exn _=>exact vx.elim
 | _=>cases dx <;> exact h.elim
theorem c_is:OpR X (compareOp .Is) (rC X.K (Den.cmpD .is)):=by
 intro pins s σ H x y v u Q I rx ry ⟨G,dx,dy,hs,vx,vy,hw⟩
 rw [Den.cmp_is] at hw
 rcases isD_val vx vy rx ry hw with ⟨rfl,q⟩ | ⟨b,rfl,q⟩
 ·exact is_none_gen ⟨.bl _,H,I,rfl,q⟩
 ·exact is_bool_gen (relV_nb rx) ⟨.bl _,H,I,rfl,q⟩
theorem c_isnot:OpR X (compareOp .IsNot) (rC X.K (Den.cmpD .isnot)):=by
 intro pins s σ H x y v u Q I rx ry ⟨G,dx,dy,hs,vx,vy,hw⟩
 rw [Den.cmp_isnot] at hw
 rcases isD_val vx vy rx ry (wpR_notR.mp hw) with ⟨rfl,q⟩ | ⟨b,rfl,q⟩
 ·exact isnot_none_gen ⟨.bl _,H,I,rfl,q⟩
 ·exact isnot_bool_gen (relV_nb rx) ⟨.bl _,H,I,rfl,q⟩
end
end Sim
end
section
namespace Sim
open PySem PySem.Spec PyProof.Rows L2
section
variable {xp:XP} {X:Cx} {mu:List Nat} {m:Md} {fa fb fc:Rho->Rr D} {a b c:Expr} {pos:Pos}
theorem lv0 {d:D} (h:Den.isLv 0 d=true):∃ i,d=.int i:=by
 cases d with
 | int i=>exact ⟨i,rfl⟩
 | _=>cases h
theorem lvs0:∀ {ds:List D},ds.all (Den.isLv 0)=true->∃ ns:List Int,ds=ns.map Den.D.int
 | [],_=>⟨[],rfl⟩
 | d::ds,h=>by
  simp only [List.all_cons,Bool.and_eq_true] at h
  obtain ⟨i,rfl⟩:=lv0 h.1
  obtain ⟨ns,rfl⟩:=lvs0 h.2
  exact ⟨i::ns,rfl⟩
theorem lv1 {d:D} (h:Den.isLv 1 d=true):∃ ns:List Int,d=.tup (ns.map Den.D.int):=by
 cases d with
 | tup ds=>obtain ⟨ns,rfl⟩:=lvs0 h;exact ⟨ns,rfl⟩
 | _=>cases h
theorem reps_ints {K:W.Frag} {G:Hp}:∀ {ns:List Int} {xs:List V},Reps K G (ns.map Den.D.int) xs->xs=ns.map V.int
 | [],_,h=>h
 | n::ns,_,⟨v,r,e,h1,h2⟩=>by
  subst e
  have h1:v=.int n:=h1
  rw [h1,reps_ints h2];rfl
theorem ltDs_ints:∀ a b:List Int,Den.ltDs (a.map Den.D.int) (b.map Den.D.int)=some (HT.lexLt a b)
 | [],[]=>rfl
 | [],_::_=>rfl
 | _::_,[]=>rfl
 | x::a,y::b=>by
  simp only [List.map_cons,Den.ltDs,Den.eqD,Den.ltD,HT.lexLt,ltDs_ints a b]
  by_cases h:x=y <;> simp [h]
theorem c_lt (hu : X.A.units + 64 < cLine) : OpR X (compareOp .Lt) (rC X.K (Den.cmpD .lt)) := by
  intro pins s σ H x y v u Q I rx ry ⟨G, dx, dy, hs, vx, vy, hw⟩
  rw [Den.cmp_lt] at hw
  unfold Den.ltR at hw
  cases q : ((Den.isLv 0 dx && Den.isLv 0 dy) || (Den.isLv 1 dx && Den.isLv 1 dy)) with
  | false => rw [q] at hw; exact hw.elim
  | true =>
    rw [q] at hw
    simp only [if_true] at hw
    simp only [Bool.or_eq_true, Bool.and_eq_true] at q
    rcases q with ⟨h1, h2⟩ | ⟨h1, h2⟩
    · obtain ⟨i, rfl⟩ := lv0 h1
      obtain ⟨j, rfl⟩ := lv0 h2
      exact op_lt pins s σ H x y v u Q I rx ry ⟨i, j, vx, vy, hw⟩
    · obtain ⟨ns, rfl⟩ := lv1 h1
      obtain ⟨ms, rfl⟩ := lv1 h2
      obtain ⟨a, xs, e1, k1, r1⟩ := vx
      obtain ⟨b, ys, e2, k2, r2⟩ := vy
      rw [reps_ints r1] at k1
      rw [reps_ints r2] at k2
      refine op_ltT (by omega) pins s σ H x y v u Q I rx ry ⟨a, b, ns, ms, e1, e2, sqT_mono hs k1, sqT_mono hs k2, ?_⟩
      simp only [Den.ltD, ltDs_ints, Den.ofO] at hw
      exact hw
theorem c_gt:OpR X (compareOp .Gt) (rC X.K (Den.cmpD .gt)):=by
 intro pins s σ H x y v u Q I rx ry ⟨G,dx,dy,hs,vx,vy,hw⟩
 cases dx <;> cases dy <;> first | exact hw.elim | skip
 exact op_gt pins s σ H x y v u Q I rx ry ⟨_,_,vx,vy,hw⟩
theorem c_le:OpR X (compareOp .LtE) (rC X.K (Den.cmpD .le)):=by
 intro pins s σ H x y v u Q I rx ry ⟨G,dx,dy,hs,vx,vy,hw⟩
 cases dx <;> cases dy <;> first | exact hw.elim | skip
 exact op_le pins s σ H x y v u Q I rx ry ⟨_,_,vx,vy,hw⟩
theorem c_ge:OpR X (compareOp .GtE) (rC X.K (Den.cmpD .ge)):=by
 intro pins s σ H x y v u Q I rx ry ⟨G,dx,dy,hs,vx,vy,hw⟩
 cases dx <;> cases dy <;> first | exact hw.elim | skip
 exact op_ge pins s σ H x y v u Q I rx ry ⟨_,_,vx,vy,hw⟩
theorem RepM.bl {K:W.Frag} {H G' H':Hp} {b:Bool}:RepM K H G' H' m (.bl b) (.bl b):=by cases m <;> rfl
theorem RepM.int {K:W.Frag} {H G' H':Hp} {i:Int}:RepM K H G' H' m (.int i) (.int i):=by cases m <;> rfl
theorem RepM.of_bl {K:W.Frag} {H G' H':Hp} {b:Bool} {v:V} (h:RepM K H G' H' m (.bl b) v):v=.bl b:=by cases m <;> exact h
theorem RepM.of_int {K:W.Frag} {H G' H':Hp} {i:Int} {v:V} (h:RepM K H G' H' m (.int i) v):v=.int i:=by cases m <;> exact h
noncomputable def cmpf (o:Den.Cm) (fa fb:Rho->Rr D):Rho->Rr D:=fun ρ=>fa ρ>>=fun x=>fb ρ>>=fun y=>Den.cmpD o x y>>=fun k=>.ok (.bl k)
def noE {α:Type}:Rr α->Bool
 | .exc _=>false
 | _=>true
theorem noE_i {α:Type} {r:Rr α} (h:noE r=true) (c:Nat):r≠.exc c:=fun e=>by rw [e] at h;cases h
theorem noE_ite {α:Type} {p:Prop} [Decidable p] {a b:Rr α} (ha:noE a=true) (hb:noE b=true):noE (if p then a else b)=true:=by by_cases h:p <;> simp [h,ha,hb]
theorem noE_not {r:Rr Bool} (h:noE r=true):noE (Den.notR r)=true:=by cases r <;> first | rfl | exact h
theorem noE_ofO (o:Option Bool):noE (Den.ofO o)=true:=by cases o <;> rfl
theorem noE_is (x y:D):noE (Den.isD x y)=true:=by cases x <;> cases y <;> rfl
theorem cm_noexc (o:Den.Cm) (x y:D) (c:Nat):Den.cmpD o x y≠.exc c:=by
 refine noE_i ?_ c
 cases o with
 | eq=>exact noE_ite rfl rfl
 | ne=>exact noE_not (noE_ite rfl rfl)
 | lt=>exact noE_ite (noE_ofO _) rfl
 | is=>exact noE_is x y
 | isnot=>exact noE_not (noE_is x y)
 | mem=>cases y <;> first | rfl | exact noE_ite rfl rfl
 | notmem=>cases y <;> first | rfl | exact noE_not (noE_ite rfl rfl)
 | le=>cases x <;> cases y <;> rfl
 | gt=>cases x <;> cases y <;> rfl
 | ge=>cases x <;> cases y <;> rfl
theorem wp_noexc {α:Type} {r:Rr α} {Q:α->Prop} {E E':Nat->Prop} (h:wpR r Q E) (hn:∀ c,r≠.exc c):wpR r Q E':=by
 cases r with
 | ok a=>exact h
 | exc c=>exact absurd rfl (hn c)
 | bad=>exact h
theorem t_cmp {o:Den.Cm} {σ:Sg} {H:Hp} {Q:VK} (h:tM xp X mu m (cmpf o fa fb) σ H Q):tOp (rC X.K (Den.cmpD o)) (tM xp X mu .view fa) (tM xp X mu .view fb) σ H Q:=by
 obtain ⟨G,ρ,hs,hw⟩:=h
 refine ⟨G,ρ,hs,wpR_mono (wpR_bind.mp hw) (fun dx k v G1 H1 x1 r1=>?_) fun _ q=>q⟩
 refine ⟨G1,ρ,hs.ext x1,wpR_mono (wpR_bind.mp k) (fun dy k2 v2 G2 H2 x2 r2=>?_) fun _ q=>q.mono x1.h⟩
 refine ⟨G2,dx,dy,x2.sub,View.ext x2 r1,r2,?_⟩
 exact wpR_mono (wp_noexc (wpR_bind.mp k2) (fun c=>cm_noexc o dx dy c)) (fun k q=>q (.bl k) G2 H2 (x1.trans x2) RepM.bl) fun _ q=>q
theorem s_cmp {o:Den.Cm} {op:CmpOp} (ho:OpR X (compareOp op) (rC X.K (Den.cmpD o))) (ha:PE X a (tM xp X mu .view fa)) (hb:PE X b (tM xp X mu .view fb)) (hm:behindInMarks op b=false) :
  PE X (.Compare a [op] [b] pos) (tM xp X mu m (cmpf o fa fb)):=fun pins s σ H Q I h=>pe_cmpR ho ha hb hm pins s σ H Q I (t_cmp h)
def tT (xp:XP) (X:Cx) (mu:List Nat) (f:Rho->Rr D):TT:=fun σ H Q =>
 ∃ G ρ,Sm X.K mu G H ρ σ/\wpR (f ρ>>=Den.asBl) (fun b=>∀ G' H',Ext G H G' H'->Q b H') (fun c=>RaiseOk xp X c H)
theorem tT_M {f:Rho->Rr D} {σ:Sg} {H:Hp} {Q:Bool->Hp->Prop} (h:tT xp X mu f σ H Q):tM xp X mu .view f σ H (fun x H'=>∃ k,x=.bl k/\Q k H'):=by
 obtain ⟨G,ρ,hs,hw⟩:=h
 refine ⟨G,ρ,hs,wpR_mono (wpR_bind.mp hw) (fun d k v G' H' x r=>?_) fun _ q=>q⟩
 cases d with
 | bl b=>exact ⟨b,RepM.of_bl r,k G' H' x⟩
 | _=>exact k.elim
theorem s_cmpT {o:Den.Cm} {op:CmpOp} (ho:OpR X (compareOp op) (rC X.K (Den.cmpD o))) (ha:PE X a (tM xp X mu .view fa)) (hb:PE X b (tM xp X mu .view fb)) (hm:behindInMarks op b=false) :
  PT X (.Compare a [op] [b] pos) (tT xp X mu (cmpf o fa fb)):=fun pins s σ H Q I h=>pt_cmpR ho ha hb hm pins s σ H Q I (t_cmp (tT_M h))
theorem s_test {f:Rho->Rr D} (h:PE X a (tM xp X mu .view f)) (he:∀ whole,isTrue a X.env whole=(do let v <- whole;standAt a.pos;holding [v] (truthy v))):PT X a (tT xp X mu f):=fun pins s σ H Q I hw=>pt_val h he pins s σ H Q I (tT_M hw)
noncomputable def cmp2f (o o':Den.Cm) (fa fb fc:Rho->Rr D):Rho->Rr D:=fun ρ=>fa ρ>>=fun x=>fb ρ>>=fun y=>Den.cmpD o x y>>=fun k=>if k then fc ρ>>=fun z=>Den.cmpD o' y z>>=fun k'=>.ok (.bl k') else .ok (.bl false)
theorem t_cmp2 {o o':Den.Cm} {σ:Sg} {H:Hp} {Q:VK} (h:tM xp X mu m (cmp2f o o' fa fb fc) σ H Q):tChain (rC X.K (Den.cmpD o)) (rC X.K (Den.cmpD o')) (tM xp X mu .view fa) (tM xp X mu .view fb) (tM xp X mu .view fc) σ H Q:=by
 obtain ⟨G,ρ,hs,hw⟩:=h
 refine ⟨G,ρ,hs,wpR_mono (wpR_bind.mp hw) (fun dx k v G1 H1 x1 r1=>?_) fun _ q=>q⟩
 refine ⟨G1,ρ,hs.ext x1,wpR_mono (wpR_bind.mp k) (fun dy k2 v2 G2 H2 x2 r2=>?_) fun _ q=>q.mono x1.h⟩
 refine ⟨G2,dx,dy,x2.sub,View.ext x2 r1,r2,?_⟩
 refine wpR_mono (wp_noexc (wpR_bind.mp k2) (fun c=>cm_noexc o dx dy c)) (fun k q=>?_) fun _ q=>q
 refine ⟨k,rfl,?_⟩
 cases k with
 | false =>
  simp only [Bool.false_eq_true,if_false] at q ⊢
  exact q (.bl false) G2 H2 (x1.trans x2) RepM.bl
 | true =>
  simp only [if_true] at q ⊢
  refine ⟨G2,ρ,(hs.ext x1).ext x2,wpR_mono (wpR_bind.mp q) (fun dz k3 v3 G3 H3 x3 r3=>?_) fun _ z=>(z.mono x1.h).mono x2.h⟩
  refine ⟨G3,dy,dz,x3.sub,View.ext x3 r2,r3,?_⟩
  exact wpR_mono (wp_noexc (wpR_bind.mp k3) (fun c=>cm_noexc o' dy dz c)) (fun k q=>q (.bl k) G3 H3 ((x1.trans x2).trans x3) RepM.bl) fun _ q=>q
theorem s_cmp2 {o o':Den.Cm} {op op':CmpOp} (ho:OpR X (compareOp op) (rC X.K (Den.cmpD o))) (ho':OpR X (compareOp op') (rC X.K (Den.cmpD o'))) (ha:PE X a (tM xp X mu .view fa)) (hb:PE X b (tM xp X mu .view fb)) (hc:PE X c (tM xp X mu .view fc)) (hm:lastMarks [op,op'] [b,c]=false) :
  PE X (.Compare a [op,op'] [b,c] pos) (tM xp X mu m (cmp2f o o' fa fb fc)):=fun pins s σ H Q I h=>pe_chain ho ho' ha hb hc hm pins s σ H Q I (t_cmp2 h)
theorem s_cmp2T {o o':Den.Cm} {op op':CmpOp} (ho:OpR X (compareOp op) (rC X.K (Den.cmpD o))) (ho':OpR X (compareOp op') (rC X.K (Den.cmpD o'))) (ha:PE X a (tM xp X mu .view fa)) (hb:PE X b (tM xp X mu .view fb)) (hc:PE X c (tM xp X mu .view fc)) (hm:lastMarks [op,op'] [b,c]=false) :
  PT X (.Compare a [op,op'] [b,c] pos) (tT xp X mu (cmp2f o o' fa fb fc)):=fun pins s σ H Q I h=>pt_chain ho ho' ha hb hc hm pins s σ H Q I (t_cmp2 (tT_M h))
noncomputable def andf (fa fb:Rho->Rr D):Rho->Rr D:=fun ρ=>fa ρ>>=fun x=>Den.asBl x>>=fun k=>if k then fb ρ else .ok (.bl false)
noncomputable def orf (fa fb:Rho->Rr D):Rho->Rr D:=fun ρ=>fa ρ>>=fun x=>Den.asBl x>>=fun k=>if k then .ok (.bl true) else fb ρ
noncomputable def notf (fa:Rho->Rr D):Rho->Rr D:=fun ρ=>fa ρ>>=fun x=>Den.asBl x>>=fun k=>.ok (.bl (!k))
theorem RepM.back {K:W.Frag} {H H1 G' H':Hp} (s:Same H H1) {d:D} {v:V} (h:RepM K H1 G' H' m d v):RepM K H G' H' m d v:=RepM.old s h
theorem s_and {rest:List Expr} (ha:PE X a (tM xp X mu .view fa)) (hb:PE X (.BoolOp .And (b::rest) pos) (tM xp X mu m fb)):PE X (.BoolOp .And (a::b::rest) pos) (tM xp X mu m (andf fa fb)):=by
 intro pins s σ H Q I ⟨G,ρ,hs,hw⟩
 refine pe_and ha hb pins s σ H Q I ?_
 refine ⟨G,ρ,hs,wpR_mono (wpR_bind.mp hw) (fun dx k v G1 H1 x1 r1=>?_) fun _ q=>q⟩
 cases dx with
 | bl b =>
  refine ⟨b,RepM.of_bl r1,?_⟩
  cases b with
  | true =>
   simp only [if_true]
   exact ⟨G1,ρ,hs.ext x1,wpR_mono k (fun d q v2 G2 H2 x2 r2=>q v2 G2 H2 (x1.trans x2) (RepM.back x1.h r2)) fun _ q=>q.mono x1.h⟩
  | false =>
   simp only [Bool.false_eq_true,if_false]
   exact k (.bl false) G1 H1 x1 RepM.bl
 | _=>exact k.elim
theorem s_or {rest:List Expr} (ha:PE X a (tM xp X mu .view fa)) (hb:PE X (.BoolOp .Or (b::rest) pos) (tM xp X mu m fb)):PE X (.BoolOp .Or (a::b::rest) pos) (tM xp X mu m (orf fa fb)):=by
 intro pins s σ H Q I ⟨G,ρ,hs,hw⟩
 refine pe_or ha hb pins s σ H Q I ?_
 refine ⟨G,ρ,hs,wpR_mono (wpR_bind.mp hw) (fun dx k v G1 H1 x1 r1=>?_) fun _ q=>q⟩
 cases dx with
 | bl b =>
  refine ⟨b,RepM.of_bl r1,?_⟩
  cases b with
  | false =>
   simp only [Bool.false_eq_true,if_false]
   exact ⟨G1,ρ,hs.ext x1,wpR_mono k (fun d q v2 G2 H2 x2 r2=>q v2 G2 H2 (x1.trans x2) (RepM.back x1.h r2)) fun _ q=>q.mono x1.h⟩
  | true =>
   simp only [if_true]
   exact k (.bl true) G1 H1 x1 RepM.bl
 | _=>exact k.elim
theorem s_not (ha:PE X a (tM xp X mu .view fa)):PE X (.UnaryOp .Not a pos) (tM xp X mu m (notf fa)):=by
 intro pins s σ H Q I ⟨G,ρ,hs,hw⟩
 refine pe_not ha pins s σ H Q I ?_
 refine ⟨G,ρ,hs,wpR_mono (wpR_bind.mp hw) (fun dx k v G1 H1 x1 r1=>?_) fun _ q=>q⟩
 cases dx with
 | bl b=>exact ⟨b,RepM.of_bl r1,k (.bl (!b)) G1 H1 x1 RepM.bl⟩
 | _=>exact k.elim
theorem s_andT {rest:List Expr} (ha:PT X a (tT xp X mu fa)) (hb:PW X (.BoolOp .And (b::rest) pos) (tT xp X mu fb)):PW X (.BoolOp .And (a::b::rest) pos) (tT xp X mu (andf fa fb)):=by
 intro wh pins s σ H Q I ⟨G,ρ,hs,hw⟩
 refine pw_and ha hb wh pins s σ H Q I ?_
 refine ⟨G,ρ,hs,?_⟩
 refine wpR_bind.mpr (wpR_mono (wpR_bind.mp (wpR_bind.mp hw)) (fun dx k=>wpR_mono (wpR_bind.mp k) (fun b k2 G1 H1 x1=>?_) fun _ q=>q) fun _ q=>q)
 cases b with
 | true =>
  simp only [if_true] at k2 ⊢
  exact ⟨G1,ρ,hs.ext x1,wpR_mono (wpR_bind.mpr k2) (fun d q G2 H2 x2=>q G2 H2 (x1.trans x2)) fun _ q=>q.mono x1.h⟩
 | false =>
  simp only [Bool.false_eq_true,if_false] at k2 ⊢
  exact k2 G1 H1 x1
theorem s_orT {rest:List Expr} (ha:PT X a (tT xp X mu fa)) (hb:PW X (.BoolOp .Or (b::rest) pos) (tT xp X mu fb)):PW X (.BoolOp .Or (a::b::rest) pos) (tT xp X mu (orf fa fb)):=by
 intro wh pins s σ H Q I ⟨G,ρ,hs,hw⟩
 refine pw_or ha hb wh pins s σ H Q I ?_
 refine ⟨G,ρ,hs,?_⟩
 refine wpR_bind.mpr (wpR_mono (wpR_bind.mp (wpR_bind.mp hw)) (fun dx k=>wpR_mono (wpR_bind.mp k) (fun b k2 G1 H1 x1=>?_) fun _ q=>q) fun _ q=>q)
 cases b with
 | false =>
  simp only [Bool.false_eq_true,if_false] at k2 ⊢
  exact ⟨G1,ρ,hs.ext x1,wpR_mono (wpR_bind.mpr k2) (fun d q G2 H2 x2=>q G2 H2 (x1.trans x2)) fun _ q=>q.mono x1.h⟩
 | true =>
  simp only [if_true] at k2 ⊢
  exact k2 G1 H1 x1
theorem s_notT (ha:PT X a (tT xp X mu fa)):PT X (.UnaryOp .Not a pos) (tT xp X mu (notf fa)):=by
 intro pins s σ H Q I ⟨G,ρ,hs,hw⟩
 refine pt_not ha pins s σ H Q I ?_
 refine ⟨G,ρ,hs,?_⟩
 exact wpR_bind.mpr (wpR_mono (wpR_bind.mp (wpR_bind.mp hw)) (fun dx k=>wpR_mono (wpR_bind.mp k) (fun b k2 G1 H1 x1=>k2 G1 H1 x1) fun _ q=>q) fun _ q=>q)
end
end Sim
end
section
namespace Sim
open PySem PySem.Spec PyProof.Rows L2
section
variable {xp:XP} {X:Cx} {mu:List Nat} {m:Md} {fa fb fc:Rho->Rr D} {a b c:Expr} {pos:Pos} {pins:List (Addr×Obj)} {σ:Sg} {G H:Hp} {s:Shared}
theorem new_tup (I:Inv X pins σ H s) (hs:Same G H) {ds:List D} {xs:List V} {its:List Value} {Q:VK} (r:Vals xs its) (q:Reps X.K G ds xs) (hz:xs.length<=sizeLine)
  (k:∀ v G' H',Ext G H G' H'->Rep X.K G' (.tup ds) v->Q v H'):EP X pins σ Q (.ref s.heap.objs.size) { s with heap:=s.heap.push { cls:=.type "tuple",data:=.seq its.toArray } }:=by
 refine ⟨.ref s.heap.objs.size,_,I.laid (t':=s.toks) (o:=.tup xs) (fun b ob q=>Heap.get?_push_of_some _ q) (Nat.le_refl _) ⟨hz,its,r,IsTup.new _ _⟩,rfl,?_⟩
 exact k _ (upd G s.heap.objs.size (.tup xs)) _ (Ext.put hs I.fresh) ⟨_,xs,rfl,SqT.of upd_same,q.mono (same_upd (hs.free I.fresh))⟩
theorem new_lst (I:Inv X pins σ H s) (hs:Same G H) {ds:List D} {xs:List V} {its:List Value} {Q:VK} (r:Vals xs its) (q:Reps X.K G ds xs) (hz:xs.length<=sizeLine)
  (k:∀ v G' H',Ext G H G' H'->RepM X.K H G' H' .fresh (.lst ds) v->Q v H'):EP X pins σ Q (.ref s.heap.objs.size) { s with heap:=s.heap.push { cls:=.type "list",data:=.seq its.toArray } }:=by
 refine ⟨.ref s.heap.objs.size,_,I.lnew (t':=s.toks) r hz,rfl,?_⟩
 exact k _ G _ (Ext.own hs I.fresh) ⟨_,xs,rfl,upd_same,I.fresh,hs.free I.fresh,q⟩
theorem view_lst {ds:List D} {v:V} (h:View X.K G H (.lst ds) v):∃ a xs,v=.ref a/\SqL X.K H a xs/\Reps X.K G ds xs:=h
theorem view_tup (hs:Same G H) {ds:List D} {v:V} (h:View X.K G H (.tup ds) v):∃ a xs,v=.ref a/\SqT X.K H a xs/\Reps X.K G ds xs:=by
 obtain ⟨a,xs,e,k,r⟩:=h
 exact ⟨a,xs,e,sqT_mono hs k,r⟩
theorem SZ_line:Den.SZ=sizeLine:=by rw [sizeLine_eq];rfl
theorem d_add : OpR X (binaryOp .Add) (rD X.K (Den.binD .add)) := by
  intro pins s σ H x y v u Q I rx ry ⟨G, dx, dy, hs, vx, vy, hw⟩
  cases dx with
  | int i =>
    cases dy with
    | int j => exact op_add pins s σ H x y v u Q I rx ry ⟨_, _, vx, vy, fin_ hs hw rfl⟩
    | _ => exact hw.elim
  | str i =>
    cases dy with
    | str j =>
      simp only [Den.binD] at hw
      by_cases h : i.length + j.length <= Den.SZ
      · rw [if_pos h] at hw
        exact op_add_str pins s σ H x y v u Q I rx ry ⟨_, _, vx, vy, by rw [<- SZ_line]; exact h, fin_ hs hw rfl⟩
      · rw [if_neg h] at hw; exact hw.elim
    | _ => exact hw.elim
  | tup ds =>
    cases dy with
    | tup es =>
      rw [Den.add_tup] at hw
      by_cases h : ds.length + es.length <= Den.SZ
      · rw [if_pos h] at hw
        obtain ⟨l, xs, rfl, k1, r1⟩ := view_tup hs vx
        obtain ⟨b, ys, rfl, k2, r2⟩ := view_tup hs vy
        cases rx
        cases ry
        obtain ⟨its, w1, p1, _⟩ := I.tuple k1
        obtain ⟨its2, w2, p2, _⟩ := I.tuple k2
        have hz : xs.length + ys.length <= sizeLine := by rw [<- r1.length, <- r2.length, <- SZ_line]; exact h
        by_cases e0 : its = []
        · -- the left one is empty
          subst e0
          have : ds = [] := by
            have h1 := r1.length; have h2 := w1.length
            simp at h2; rw [h2] at h1; simp at h1; exact h1
          subst this
          obtain ⟨⟨cls, dd, data, sl⟩, ho, hc, n, hd⟩ := id p1
          obtain ⟨⟨cls2, dd2, data2, sl2⟩, ho2, hc2, n2, hd2⟩ := id p2
          simp only at hc hd hc2 hd2
          subst hc hd hc2 hd2
          refine concat_meets ⟨_, ho, rfl⟩ ⟨_, ho2, rfl⟩ noFill_tuple_add seq_tuple_add PySem.F.slot_tuple_add PySem.F.entry_tuple_add (PySem.F.args_tuple_add_2 _ _)
            (tuple_addW0 l b _ its2.toArray n n2 dd dd2 sl sl2 rfl) ⟨ho, ho2, ?_⟩
          exact ⟨.ref b, H, I, rfl, hw _ G H (Ext.refl hs) vy⟩
        · refine HT.cat_tup p1 p2 e0 (fun z => ?_) (fun z => ?_) (by rw [<- w1.length, <- w2.length]; exact hz)
          · have : es = [] := by
              have h1 := r2.length; have h2 := w2.length
              rw [z] at h2; simp at h2; rw [h2] at h1; simp at h1; exact h1
            subst this
            rw [List.append_nil] at hw
            exact ⟨.ref l, H, I, rfl, hw _ G H (Ext.refl hs) vx⟩
          · exact new_tup I hs (w1.append w2) (r1.append r2) (by rw [List.length_append]; exact hz) hw
      · rw [if_neg h] at hw; exact hw.elim
    | _ => exact hw.elim
  | lst ds =>
    cases dy with
    | lst es =>
      rw [Den.add_lst] at hw
      by_cases h : ds.length + es.length <= Den.SZ
      · rw [if_pos h] at hw
        obtain ⟨l, xs, rfl, k1, r1⟩ := view_lst vx
        obtain ⟨b, ys, rfl, k2, r2⟩ := view_lst vy
        cases rx
        cases ry
        obtain ⟨its, w1, ⟨o1, n, e1, hc, hdi, hd⟩, _⟩ := I.list k1
        obtain ⟨its2, w2, ⟨o2, n2, e2, hc2, hdi2, hd2⟩, _⟩ := I.list k2
        have hz : xs.length + ys.length <= sizeLine := by rw [<- r1.length, <- r2.length, <- SZ_line]; exact h
        obtain ⟨cls, dd, data, sl⟩ := o1
        obtain ⟨cls2, dd2, data2, sl2⟩ := o2
        simp only at hc hd hc2 hd2
        subst hc hd hc2 hd2
        refine concat_meets ⟨_, e1, rfl⟩ ⟨_, e2, rfl⟩ noFill_list_add seq_list_add F.slot_list_add F.entry_list_add (F.args_list_add_2 _ _)
          (list_addW l b its.toArray its2.toArray n n2 dd dd2 sl sl2 (by rw [List.size_toArray, List.size_toArray, <- w1.length, <- w2.length]; exact hz)) ⟨e1, e2, ?_⟩
        have ea : its.toArray ++ its2.toArray = (its ++ its2).toArray := by simp
        rw [ea]
        exact new_lst I hs (w1.append w2) (r1.append r2) (by rw [List.length_append]; exact hz) hw
      · rw [if_neg h] at hw; exact hw.elim
    | _ => exact hw.elim
  | _ => cases dy <;> exact hw.elim
end
end Sim
end
section
namespace Sim
open PySem PySem.Spec PyProof.Rows L2 PySem.MeetsSeq
theorem noFill_tuple_mul:fillsNumberSlot (.type "tuple") "mul"=pure false :=
 PySem.fillsNumberSlot_seq (id:="tuple.__mul__") (r:=some (.builtin "tuple.__rmul__")) F.slot_tuple_mul.lookup (by decide +kernel) F.slot_tuple_rmul.lookup (by decide +kernel)
theorem repeat_tuple:seqRepeat? (.type "tuple")=pure (some (.builtin "tuple.__mul__")):=by
 unfold seqRepeat?
 rw [PySem.seqSlot_of (T:="tuple") (name:="__mul__") (id:="tuple.__mul__") F.slot_tuple_mul.lookup (by decide +kernel),PySem.seqSlot_of (T:="tuple") (name:="__rmul__") (id:="tuple.__rmul__") F.slot_tuple_rmul.lookup (by decide +kernel)]
 rfl
theorem int_rmul_tuple (a:Int) (t:Tok) (l:Addr) (items:Array Value) (n:Nat) (dd:Option Addr) (sl:Array (Option Value)) :
  Meets (Builtin.«int.__rmul__» ⟨[.int a t,.ref l],[]⟩) (fun _ R s=>s.heap.get? l=some { cls:=.type "tuple",dict:=dd,data:=.seq items n,slots:=sl }/\R (.ok (.ret Value.notImplemented)) s) :=
 .of_wp fun prog w A R s h=>by obtain ⟨hp,g,d,tk,os⟩:=s;obtain ⟨hl,h⟩:=h;wp_walk;exact ⟨_,rfl,h⟩
theorem tuple_mulW (l:Addr) (items:Array Value) (n:Nat) (dd:Option Addr) (sl:Array (Option Value)) (x:Int) (u:Tok) (h2:2<=x) (hx:x < 1000) (hne:items.isEmpty=false) (hsz:items.size * x.toNat<=sizeLine) :
  Meets (Builtin.«tuple.__mul__» ⟨[.ref l,.int x u],[]⟩) (fun _ R s=>s.heap.get? l=some { cls:=.type "tuple",dict:=dd,data:=.seq items n,slots:=sl } /\
   R (.ok (.ret (Value.ref s.heap.objs.size))) { s with heap:=s.heap.push { cls:=Value.type "tuple",data:=Data.seq ((List.replicate x.toNat items).foldl (·++·) #[]) } }) :=
 .of_wp fun prog w A R s h=>by
  obtain ⟨hp,g,d,tk,os⟩:=s;obtain ⟨hl,h⟩:=h
  have f1:=AutoSeq1.idx_int
  have c1:(decide (x < -2 ^ 63)||decide (x>=2 ^ 63))=false:=by simp;omega
  have c2:(items.isEmpty||x==1)=false:=by rw [hne];simp;omega
  have c3:(decide (x<=0)||items.isEmpty)=false:=by rw [hne];simp;omega
  have hm:((items.size:Nat):Int) * x=((items.size * x.toNat:Nat):Int):=by
   rw [Int.natCast_mul];congr 1;omega
  have hs:sizeLine=16777216:=sizeLine_eq
  have c5:Builtin.Tuple.tupleTooMany (((items.size:Nat):Int) * x)=false:=by unfold Builtin.Tuple.tupleTooMany;rw [hm];exact decide_eq_false (by omega)
  have c4:¬ ((items.size:Nat):Int) * x > (2 ^ 63 - 1) / 8:=by rw [hm];omega
  wp_walk using AutoSeq1.wpAny_loadPart' hl
  rw [if_neg (by rw [c1];exact Bool.false_ne_true)]
  wp_walk using AutoSeq1.wpAny_loadPart' hl
  rw [if_neg (by rw [c2];exact Bool.false_ne_true)]
  dsimp only
  rw [if_neg (by rw [c3];exact Bool.false_ne_true)]
  rw [if_neg c4]
  rw [if_neg (by rw [c5];exact Bool.false_ne_true)]
  have hz:sizeOk (.seq (List.foldl (fun x1 x2=>x1++x2) #[] (List.replicate x.toNat items))):=by
   show (List.foldl (fun x1 x2=>x1++x2) #[] (List.replicate x.toNat items)).size<=sizeLine
   have f0:=foldl_rep items.toList x.toNat []
   rw [List.nil_append] at f0
   have e:items.toList.toArray=items:=by simp
   rw [e] at f0
   rw [show (#[]:Array Value)=([]:List Value).toArray from rfl,f0,List.size_toArray,len_rep,Nat.mul_comm]
   simpa using hsz
  exact wpAny_bind (m:=Builtin.Tuple.tupleExact _) (wpAny_newObj_type (wpAny_pure ⟨_,rfl,h⟩) hz)
section
variable {xp:XP} {X:Cx} {mu:List Nat} {m:Md} {fa fb fc:Rho->Rr D} {a b c:Expr} {pos:Pos} {pins:List (Addr×Obj)} {σ:Sg} {G H:Hp} {s:Shared}
theorem Reps.rep {K:W.Frag} {ds:List D} {xs:List V} (h:Reps K G ds xs):∀ k:Nat,Reps K G (List.replicate k ds).flatten (List.replicate k xs).flatten
 | 0=>by simp [Reps]
 | k+1=>by rw [List.replicate_succ,List.replicate_succ,List.flatten_cons,List.flatten_cons];exact h.append (Reps.rep h k)
theorem d_mul : OpR X (binaryOp .Mult) (rD X.K (Den.binD .mul)) := by
  intro pins s σ H x y v u Q I rx ry ⟨G, dx, dy, hs, vx, vy, hw⟩
  cases dx with
  | int i =>
    cases dy with
    | int j =>
      rw [Den.mul_int] at hw
      by_cases h : (-Den.BIG < i /\ i < Den.BIG) \/ (-Den.BIG < j /\ j < Den.BIG)
      · rw [if_pos h] at hw
        exact op_mul pins s σ H x y v u Q I rx ry ⟨_, _, vx, vy, h, fin_ hs hw rfl⟩
      · rw [if_neg h] at hw; exact hw.elim
    | _ => exact hw.elim
  | tup ds =>
    cases dy with
    | int j =>
      simp only [Den.binD] at hw
      by_cases h : 2 <= j /\ ds ≠ [] /\ ds.length * j.toNat <= Den.SZ /\ j < 1000
      · rw [if_pos h] at hw
        obtain ⟨h2, hne, hz, hx⟩ := h
        obtain ⟨l, xs, rfl, k1, r1⟩ := view_tup hs vx
        cases rx
        have vy : y = .int j := vy
        subst vy
        obtain ⟨t, rfl⟩ := ry
        obtain ⟨its, w1, p1, _⟩ := I.tuple k1
        obtain ⟨⟨cls, dd, data, sl⟩, ho, hc, n, hd⟩ := id p1
        simp only at hc hd
        subst hc hd
        have hl : its.length = ds.length := by rw [<- w1.length, <- r1.length]
        have hne' : its.toArray.isEmpty = false := by
          cases its with
          | nil => cases ds with
            | nil => exact absurd rfl hne
            | cons _ _ => simp at hl
          | cons _ _ => rfl
        refine wpAny_binaryOp_repeat_ref (T := "tuple") (U := "int") (by decide) ⟨_, ho, rfl⟩ (fun s' => typeIs_int s' j t) noFill_tuple_mul F.fills_int_mul F.slot_int_rmul repeat_tuple F.slot_int_index.lookup
          (call_meets F.slot_int_rmul (typeIs_int s j t) F.entry_int_rmul (F.args_int_rmul_2 _ _) (int_rmul_tuple j t l its.toArray n dd sl)
            ⟨ho, rfl, ⟨_, ho, rfl⟩, call_meets F.slot_tuple_mul ⟨_, ho, rfl⟩ F.entry_tuple_mul (F.args_tuple_mul_2 _ _) (tuple_mulW l its.toArray n dd sl j t h2 hx hne' (by rw [List.size_toArray, hl, <- SZ_line]; exact hz)) ⟨ho, ?_⟩⟩)
        have f0 := foldl_rep its j.toNat []
        rw [List.nil_append] at f0
        rw [show (#[] : Array Value) = ([] : List Value).toArray from rfl, f0]
        exact new_tup I hs (w1.rep j.toNat) (r1.rep j.toNat) (by rw [len_rep, Nat.mul_comm, <- r1.length, <- SZ_line]; exact hz) hw
      · rw [if_neg h] at hw; exact hw.elim
    | _ => exact hw.elim
  | _ => cases dy <;> exact hw.elim
end
end Sim
end
section
namespace Sim
open PySem PySem.Spec PyProof.Rows L2
section
variable {xp:XP} {X:Cx} {mu:List Nat} {m:Md} {f fa fb fc:Rho->Rr D} {fs:Rho->Rr (List D)} {a b c e:Expr} {es:List Expr} {pos:Pos} {pins:List (Addr×Obj)} {σ:Sg} {G H:Hp} {s:Shared}
theorem s_neg (ha:PE X a (tM xp X mu .view fa)):PE X (.UnaryOp .USub a pos) (tM xp X mu m fun ρ=>fa ρ>>=fun x=>Den.asInt x>>=fun i=>.ok (.int (-i))):=by
 intro pins s σ H Q I ⟨G,ρ,hs,hw⟩
 refine pe_un un_neg ha pins s σ H Q I ?_
 refine ⟨G,ρ,hs,wpR_mono (wpR_bind.mp hw) (fun dx k v G1 H1 x1 r1=>?_) fun _ q=>q⟩
 cases dx with
 | int i=>exact ⟨i,RepM.of_int r1,k (.int (-i)) G1 H1 x1 RepM.int⟩
 | _=>exact k.elim
def tAm (xp:XP) (X:Cx) (mu:List Nat) (f:Rho->Rr (List D)):TA:=fun σ H Q =>
 ∃ G ρ,Sm X.K mu G H ρ σ/\wpR (f ρ) (fun ds=>∀ vs G' H',Ext G H G' H'->Reps X.K G' ds vs->Q vs H') (fun c=>RaiseOk xp X c H)
theorem s_nil:PA X [] (tAm xp X mu fun _=>.ok []):=by
 intro p pins s σ H Q I ⟨G,ρ,hs,hw⟩
 exact pa_nil p pins s σ H Q I (hw [] G H (Ext.refl hs.sub) rfl)
theorem s_cons (he:PE X e (tM xp X mu .val f)) (hr:PA X es (tAm xp X mu fs)) (hst:starEach (e::es) X.env=(false,eval e X.env)::starEach es X.env):PA X (e::es) (tAm xp X mu fun ρ=>f ρ>>=fun x=>fs ρ>>=fun xs=>.ok (x::xs)):=by
 intro p pins s σ H Q I ⟨G,ρ,hs,hw⟩
 refine pa_cons he hr hst p pins s σ H Q I ?_
 refine ⟨G,ρ,hs,wpR_mono (wpR_bind.mp hw) (fun dx k v G1 H1 x1 r1=>?_) fun _ q=>q⟩
 refine ⟨G1,ρ,hs.ext x1,wpR_mono (wpR_bind.mp k) (fun ds k2 vs G2 H2 x2 r2=>?_) fun _ q=>q.mono x1.h⟩
 exact k2 (v::vs) G2 H2 (x1.trans x2) ⟨v,vs,rfl,Rep.mono x2.g r1,r2⟩
theorem s_tup {j:Nat} (h:PA X es (tAm xp X mu fs)) (hl:∀ ρ ds,fs ρ=.ok ds->ds.length<=sizeLine):PE X (.Tuple es j pos) (tM xp X mu .val fun ρ=>fs ρ>>=fun ds=>.ok (.tup ds)):=by
 intro pins s σ H Q I ⟨G,ρ,hs,hw⟩
 refine pe_tup h pins s σ H Q I ?_
 refine ⟨G,ρ,hs,?_⟩
 have hw:=wpR_bind.mp hw
 cases q:fs ρ with
 | ok ds =>
  rw [q] at hw
  intro vs G1 H1 x1 r1
  refine ⟨by rw [<- r1.length];exact hl ρ ds q,fun p hp=>?_⟩
  exact hw (.ref p) (upd G1 p (.tup vs)) _ (x1.trans (Ext.put x1.sub hp)) ⟨p,vs,rfl,SqT.of upd_same,r1.mono (same_upd (x1.sub.free hp))⟩
 | exc c=>rw [q] at hw;exact hw
 | bad=>rw [q] at hw;exact hw
theorem s_lst (h:PA X es (tAm xp X mu fs)) (hl:∀ ρ ds,fs ρ=.ok ds->ds.length<=sizeLine):PE X (.List es pos) (tM xp X mu .fresh fun ρ=>fs ρ>>=fun ds=>.ok (.lst ds)):=by
 intro pins s σ H Q I ⟨G,ρ,hs,hw⟩
 refine pe_lst h pins s σ H Q I ?_
 refine ⟨G,ρ,hs,?_⟩
 have hw:=wpR_bind.mp hw
 cases q:fs ρ with
 | ok ds =>
  rw [q] at hw
  intro vs G1 H1 x1 r1
  refine ⟨by rw [<- r1.length];exact hl ρ ds q,fun p hp=>?_⟩
  exact hw (.ref p) G1 _ (x1.trans (Ext.own x1.sub hp)) ⟨p,vs,rfl,upd_same,x1.h.free hp,x1.sub.free hp,r1⟩
 | exc c=>rw [q] at hw;exact hw
 | bad=>rw [q] at hw;exact hw
theorem ixN_eq (n:Nat) (i:Int):Den.ixN n i=L2.ixN n i:=by
 unfold Den.ixN L2.ixN
 by_cases h:0<=i
 ·rw [if_pos h,if_pos h]
 ·rw [if_neg h,if_neg h]
  by_cases q:0<=i+(n:Int)
  ·rw [if_pos q,if_pos (by omega)]
  ·rw [if_neg q,if_neg (by omega)]
theorem getAt_V {K:W.Frag} {ds:List D} {xs:List V} {i:Int} {d:D} (r:Reps K G ds xs) (h:Den.getAt ds i=some d):∃ v,atI xs i=some v/\Rep K G d v:=by
 unfold Den.getAt at h
 rw [ixN_eq,r.length] at h
 unfold atI
 cases q:L2.ixN xs.length i with
 | none=>rw [q] at h;cases h
 | some j =>
  rw [q] at h
  obtain ⟨v,e,z⟩:=r.get (i:=j) h
  exact ⟨v,e,z⟩
theorem getAt_str {xs:List Nat} {i:Int} {c:Nat} (h:Den.getAt xs i=some c):atI xs i=some c:=by
 unfold Den.getAt at h
 rw [ixN_eq] at h
 exact h
theorem s_idx (ha : PE X a (tM xp X mu .view fa)) (hb : PE X b (tM xp X mu .view fb)) (hp : PlainIx b) : PE X (.Subscript a b pos) (tM xp X mu .val fun ρ => fa ρ >>= fun x => fb ρ >>= fun y => Den.idxD x y) := by
  intro pins s σ H Q I ⟨G, ρ, hs, hw⟩
  refine pe_ix ix_seq ha hb hp pins s σ H Q I ?_
  refine ⟨G, ρ, hs, wpR_mono (wpR_bind.mp hw) (fun dx k v G1 H1 x1 r1 => ?_) fun _ q => q⟩
  refine ⟨G1, ρ, hs.ext x1, wpR_mono (wpR_bind.mp k) (fun dy k2 v2 G2 H2 x2 r2 => ?_) fun _ q => q.mono x1.h⟩
  have r1 := View.ext x2 r1
  cases dx with
  | lst ds =>
    cases dy with
    | int i =>
      simp only [Den.idx_lst] at k2
      cases q : Den.getAt ds i with
      | none => rw [q] at k2; exact k2.elim
      | some d =>
        rw [q] at k2
        obtain ⟨l, xs, rfl, e, r⟩ := view_lst r1
        obtain ⟨w, e2, rw'⟩ := getAt_V r q
        exact .inl ⟨l, xs, i, w, rfl, r2, e, e2, k2 w G2 H2 (x1.trans x2) rw'⟩
    | _ => exact k2.elim
  | tup ds =>
    cases dy with
    | int i =>
      simp only [Den.idx_tup] at k2
      cases q : Den.getAt ds i with
      | none => rw [q] at k2; exact k2.elim
      | some d =>
        rw [q] at k2
        obtain ⟨l, xs, rfl, e, r⟩ := view_tup x2.sub r1
        obtain ⟨w, e2, rw'⟩ := getAt_V r q
        exact .inr (.inl ⟨l, xs, i, w, rfl, r2, e, e2, k2 w G2 H2 (x1.trans x2) rw'⟩)
    | _ => exact k2.elim
  | str z =>
    cases dy with
    | int i =>
      simp only [Den.idxD] at k2
      by_cases hz : z.length <= Den.SZ
      · rw [if_pos hz] at k2
        cases q : Den.getAt z.cps.toList i with
        | none => rw [q] at k2; exact k2.elim
        | some c =>
          rw [q] at k2
          exact .inr (.inr ⟨z, i, c, r1, r2, by rw [<- SZ_line]; exact hz, getAt_str q, k2 _ G2 H2 (x1.trans x2) rfl⟩)
      · rw [if_neg hz] at k2; exact k2.elim
    | _ => exact k2.elim
  | _ => cases dy <;> exact k2.elim
def rF (K:W.Frag) (m:Md) (g:D->Rr D):List V->Hp->VK->Prop:=fun xs H Q=>∃ G x d,xs=[x]/\Same G H/\View K G H d x/\wpR (g d) (fun d'=>∀ v G' H',Ext G H G' H'->RepM K H G' H' m d' v->Q v H') (fun _=>False)
theorem pa_one {te:TE} (he:PE X e te) (hst:starEach [e] X.env=[(false,eval e X.env)]):PA X [e] (tCons te tNil):=pa_cons he pa_nil hst
theorem s_call1 {g:D->Rr D} {id:String} {x:Str} {p:Pos} (hg:∀ d c,g d≠.exc c) (hc:CallR X (.builtin id) (rF X.K m g)) (hgl:Gl X x) (hm:X.mg x=none) (hv:bootBuiltins x=some (.builtin id)) (ha:PE X e (tM xp X mu .view f))
  (hn:x≠"__name__") (hdb:(x==("__debug__":Str))=false) (hst:starEach [e] X.env=[(false,eval e X.env)]):PE X (.Call (.Name x p) [e] [] pos) (tM xp X mu m fun ρ=>f ρ>>=fun d=>g d):=by
 intro pins s σ H Q I ⟨G,ρ,hs,hw⟩
 refine pe_callB hc hgl hm hv (pa_one ha hst) hn hdb hst rfl pins s σ H Q I ?_
 refine ⟨G,ρ,hs,wpR_mono (wpR_bind.mp hw) (fun dx k v G1 H1 x1 r1=>?_) fun _ q=>q⟩
 refine ⟨G1,v,dx,rfl,x1.sub,r1,?_⟩
 exact wpR_mono (wp_noexc k (hg dx)) (fun d q v2 G2 H2 x2 r2=>q v2 G2 H2 (x1.trans x2) (r2.old x1.h)) fun _ q=>q
theorem s_callTy {g:D->Rr D} {T:String} {x:Str} {p:Pos} (hg:∀ d c,g d≠.exc c) (hc:CallR X (.type T) (rF X.K m g)) (hgl:Gl X x) (hm:X.mg x=none) (hv:bootBuiltins x=some (.type T)) (ha:PE X e (tM xp X mu .view f))
  (hn:x≠"__name__") (hdb:(x==("__debug__":Str))=false) (hst:starEach [e] X.env=[(false,eval e X.env)]):PE X (.Call (.Name x p) [e] [] pos) (tM xp X mu m fun ρ=>f ρ>>=fun d=>g d):=by
 intro pins s σ H Q I ⟨G,ρ,hs,hw⟩
 refine pe_callTy hc hgl hm hv (pa_one ha hst) hn hdb hst rfl pins s σ H Q I ?_
 refine ⟨G,ρ,hs,wpR_mono (wpR_bind.mp hw) (fun dx k v G1 H1 x1 r1=>?_) fun _ q=>q⟩
 refine ⟨G1,v,dx,rfl,x1.sub,r1,?_⟩
 exact wpR_mono (wp_noexc k (hg dx)) (fun d q v2 G2 H2 x2 r2=>q v2 G2 H2 (x1.trans x2) (r2.old x1.h)) fun _ q=>q
theorem f_len:CallR X (.builtin "len") (rF X.K m Den.lenD):=by
 intro pins s σ H xs us Q I r ⟨G,x,d,ex,hs,vx,hw⟩
 subst ex
 cases d with
 | tup ds =>
  obtain ⟨a,ys,rfl,k,q⟩:=view_tup hs vx
  refine call_len_seq pins s σ H _ us Q I r ⟨a,ys,rfl,.inr k,?_⟩
  rw [<- q.length]
  exact hw _ G H (Ext.refl hs) RepM.int
 | lst ds =>
  obtain ⟨a,ys,rfl,k,q⟩:=view_lst vx
  refine call_len_seq pins s σ H _ us Q I r ⟨a,ys,rfl,.inl k,?_⟩
  rw [<- q.length]
  exact hw _ G H (Ext.refl hs) RepM.int
 | str z =>
  simp only [Den.lenD] at hw
  by_cases hz:z.length<=Den.SZ
  ·rw [if_pos hz] at hw
   have vx:x=.str z:=vx
   subst vx
   exact call_len_str pins s σ H _ us Q I r ⟨z,rfl,by rw [<- SZ_line];exact hz,hw _ G H (Ext.refl hs) RepM.int⟩
  ·rw [if_neg hz] at hw;exact hw.elim
 | _=>exact hw.elim
theorem f_list:CallR X (.type "list") (rF X.K .fresh fun d=>Den.seqOf d>>=fun ds=>.ok (.lst ds)):=by
 intro pins s σ H xs us Q I r ⟨G,x,d,ex,hs,vx,hw⟩
 subst ex
 cases d with
 | tup ds =>
  obtain ⟨a,ys,rfl,k,q⟩:=view_tup hs vx
  exact call_list_of pins s σ H _ us Q I r ⟨a,ys,rfl,.inr k,fun l hl=>hw _ G _ (Ext.own hs hl) ⟨l,ys,rfl,upd_same,hl,hs.free hl,q⟩⟩
 | lst ds =>
  obtain ⟨a,ys,rfl,k,q⟩:=view_lst vx
  exact call_list_of pins s σ H _ us Q I r ⟨a,ys,rfl,.inl k,fun l hl=>hw _ G _ (Ext.own hs hl) ⟨l,ys,rfl,upd_same,hl,hs.free hl,q⟩⟩
 | _=>exact hw.elim
theorem f_tuple:CallR X (.type "tuple") (rF X.K .val fun d=>Den.seqOf d>>=fun ds=>.ok (.tup ds)):=by
 intro pins s σ H xs us Q I r ⟨G,x,d,ex,hs,vx,hw⟩
 subst ex
 cases d with
 | tup ds =>
  obtain ⟨a,ys,rfl,k,q⟩:=view_tup hs vx
  exact call_tuple_of pins s σ H _ us Q I r ⟨a,ys,rfl,.inr ⟨k,hw _ G H (Ext.refl hs) vx⟩⟩
 | lst ds =>
  obtain ⟨a,ys,rfl,k,q⟩:=view_lst vx
  exact call_tuple_of pins s σ H _ us Q I r ⟨a,ys,rfl,.inl ⟨k,fun l hl=>hw _ (upd G l (.tup ys)) _ (Ext.put hs hl) ⟨l,ys,rfl,SqT.of upd_same,q.mono (same_upd (hs.free hl))⟩⟩⟩
 | _=>exact hw.elim
end
end Sim
end
section
namespace Sim
open PySem PySem.Spec PyProof.Rows L2
section
variable {xp:XP} {X:Cx} {mu:List Nat} {m:Md} {f fa fb fc:Rho->Rr D} {fs:Rho->Rr (List D)} {a b c e:Expr} {es:List Expr} {pos:Pos} {pins:List (Addr×Obj)} {σ:Sg} {G H:Hp} {s:Shared}
def tyOf:D->String
 | .non=>"NoneType"
 | .bl _=>"bool"
 | .int _=>"int"
 | .str _=>"str"
 | .tup _=>"tuple"
 | .lst _=>"list"
 | .dct _ _=>"dict"
 | .exn _=>""
def tyStr:Den.Ty->String
 | .int=>"int" | .bool=>"bool" | .str=>"str" | .tuple=>"tuple" | .list=>"list" | .cls _=>""
theorem kit_ty (K:W.Frag) (up:Den.Up) (d:D) (t:Den.Ty) (ht:∀ c,t≠.cls c) (hd:∀ c,d≠.exn c) (hd2:∀ k v,d≠.dct k v):∃ b,Den.instD up d t=.ok b/\PySem.W.kitOne K (.type (tyOf d)) (.type (tyStr t))=some b:=by
 cases t with
 | cls c=>exact absurd rfl (ht c)
 | int=>cases d <;> first | exact absurd rfl (hd _) | exact absurd rfl (hd2 _ _) | exact ⟨_,rfl,by kernel_rfl⟩
 | bool=>cases d <;> first | exact absurd rfl (hd _) | exact absurd rfl (hd2 _ _) | exact ⟨_,rfl,by kernel_rfl⟩
 | str=>cases d <;> first | exact absurd rfl (hd _) | exact absurd rfl (hd2 _ _) | exact ⟨_,rfl,by kernel_rfl⟩
 | tuple=>cases d <;> first | exact absurd rfl (hd _) | exact absurd rfl (hd2 _ _) | exact ⟨_,rfl,by kernel_rfl⟩
 | list=>cases d <;> first | exact absurd rfl (hd _) | exact absurd rfl (hd2 _ _) | exact ⟨_,rfl,by kernel_rfl⟩
theorem wp_inst (I:Inv X pins σ H s) (hs:Same G H) {d:D} {x:V} {u:Value} {up:Den.Up} {t:Den.Ty} (ht:∀ c,t≠.cls c) (vx:View X.K G H d x) (rx:RelV x u) {Q:VK} (hw:wpR (Den.instD up d t) (fun b=>Q (.bl b) H) (fun _=>False)) :
  wpAny (model X.prog X.w) X.A (call (.builtin "isinstance") [u,.type (tyStr t)]) (EP X pins σ Q) X.xe s:=by
 have hd:∀ c,d≠.exn c:=fun c e=>by subst e;exact vx.elim
 have hd2:∀ k v,d≠.dct k v:=fun k v e=>by subst e;exact vx.elim
 obtain ⟨b,e1,e2⟩:=kit_ty X.K up d t ht hd hd2
 rw [e1] at hw
 have fin:∀ tk,EP X pins σ Q (.bool b) { s with toks:=tk }:=fun tk=>⟨.bl b,H,I.tok tk,rfl,hw⟩
 cases d with
 | non=>cases vx;exact isinst_ok I rx .non e2 fin
 | bl y=>cases vx;exact isinst_ok I rx (.bl y) e2 fin
 | int i=>cases vx;exact isinst_ok I rx (.int i) e2 fin
 | str y=>cases vx;exact isinst_ok I rx (.str y) e2 fin
 | tup ds =>
  obtain ⟨a,ys,rfl,k,q⟩:=view_tup hs vx
  cases rx
  obtain ⟨its,r',⟨o,h1,h2,_⟩,hz⟩:=I.tuple k
  exact PySem.W.kia_one PySem.W.kitx_tuple I.kIn ⟨o,h1,h2⟩ e2 (fun z=>nomatch z) fin
 | lst ds =>
  obtain ⟨a,ys,rfl,k,q⟩:=view_lst vx
  cases rx
  obtain ⟨its,r',⟨o,n,h1,h2,_⟩,z⟩:=I.list k
  exact PySem.W.kia_one PySem.W.kitx_list I.kIn ⟨o,h1,h2⟩ e2 (fun z=>nomatch z) fin
 | dct k v=>exact absurd rfl (hd2 k v)
 | exn c=>exact absurd rfl (hd c)
theorem inst_noexc {up:Den.Up} {d:D} {t:Den.Ty} {c:Nat}:Den.instD up d t≠.exc c:=by
 intro h
 cases t <;> first | (cases h;done) | skip
 cases d <;> cases h
theorem s_inst {up:Den.Up} {t:Den.Ty} {x y:Str} {p p':Pos} (ht:∀ c,t≠.cls c) (hgl:Gl X x) (hm:X.mg x=none) (hv:bootBuiltins x=some (.builtin "isinstance")) (hgl':Gl X y) (hm':X.mg y=none) (hv':bootBuiltins y=some (.type (tyStr t)))
  (ha:PE X e (tM xp X mu .view f)) (hn:x≠"__name__") (hdb:(x==("__debug__":Str))=false) (hn':y≠"__name__") (hdb':(y==("__debug__":Str))=false) (hst:starEach [e,.Name y p'] X.env=(false,eval e X.env)::starEach [.Name y p'] X.env) :
  PE X (.Call (.Name x p) [e,.Name y p'] [] pos) (tM xp X mu m fun ρ=>f ρ>>=fun d=>Den.instD up d t>>=fun b=>.ok (.bl b)):=by
 intro pins s σ H Q I ⟨G,ρ,hs,hw⟩
 have hc:CallR X (.builtin "isinstance") (fun xs H Q=>∃ G x d,xs=[x,.ty (tyStr t)]/\Same G H/\View X.K G H d x/\wpR (Den.instD up d t) (fun b=>Q (.bl b) H) (fun _=>False)):=by
  intro pins s σ H xs us Q I r ⟨G,x,d,ex,hs,vx,hw⟩
  subst ex
  obtain ⟨u,u',rfl,ru,ru'⟩:=vals2 r
  cases ru'
  exact wp_inst I hs ht vx ru hw
 have hpa:PA X [e,.Name y p'] (tCons (tM xp X mu .view f) (tCons (tC (.ty (tyStr t))) tNil)):=pa_cons ha (pa_cons (pe_bltn hgl' hm' hv' rfl hn' hdb') pa_nil rfl) hst
 refine pe_callB hc hgl hm hv hpa hn hdb hst rfl pins s σ H Q I ?_
 refine ⟨G,ρ,hs,wpR_mono (wpR_bind.mp hw) (fun dx k v G1 H1 x1 r1=>?_) fun _ q=>q⟩
 refine ⟨G1,v,dx,rfl,x1.sub,r1,?_⟩
 exact wpR_mono (wp_noexc (wpR_bind.mp k) (fun c=>inst_noexc)) (fun b q=>q (.bl b) G1 H1 x1 RepM.bl) fun _ q=>q
end
end Sim
end
section
namespace Sim
open PySem PySem.Spec PyProof.Rows L2
def CXd (P:Program) (w:World) (xp:XP):CXT:=fun outer H s E e s' =>
 ∃ (c:Nat) (H':Hp) (l:List Addr),s'.os=s.os/\AllBare s'.gens/\Un (frs outer) [] H H' s.heap s'.heap/\HOk P w H' s'.heap/\Same H H'/\(∀ a∈l,s.heap.get? a=none/\H' a=none)/\xp c e l s'.heap/\E (.int c 0) none H'
def spF (K:W.Frag) (φ:List D->Rr D) (n:Nat):Sp:=fun vs H Q E =>
 vs.length=n/\∃ G ds,Same G H/\Reps K G ds vs/\wpR (φ ds) (fun d=>∀ v G' H',Ext G H G' H'->Rep K G' d v->Q v H') (fun c=>∀ H',Same H H'->E (.int c 0) none H')
section
variable {xp:XP} {X:Cx} {mu:List Nat} {m:Md} {f fa fb fc:Rho->Rr D} {fs:Rho->Rr (List D)} {a b c e:Expr} {es:List Expr} {pos:Pos} {pins:List (Addr×Obj)} {σ:Sg} {G H:Hp} {s:Shared}
def eR (xp:XP) (X:Cx):XK:=fun u _ H'=>∀ c:Nat,u=.int c 0->RaiseOk xp X c H'
theorem pass_X:Passes (CXd X.prog X.w xp) X (eR xp X):=by
 intro pins σ H s e s' I ⟨c,H',l,os,bare,un,hok,sm,hn,hx,hE⟩
 have I':Inv X pins σ H' s':=I.call' os un hok bare (fun b z=>absurd z (by simp))
 exact hE c rfl pins σ H' s' e l I' (Same.refl _) (fun a ha=>.of I (hn a ha).1 (hn a ha).2) hx
end
end Sim
end
section
namespace Sim
open PySem PySem.Spec PyProof.Rows L2
section
variable {prog:Program} {w:World} {A:Around} {R:Result->Shared->Prop} {s:Shared}
theorem compLoop_gen {elt target iter : Expr} {ifs : List Expr} {scope : Scope} {pos : Pos} {it acc : Value} {env : Env} (I : Nat -> Shared -> Prop)
    (turn : ∀ n s, I n s -> wpAny (model prog w) A (pyNext it) (fun r s₁ => match r with
      | none => R (.ok .next) s₁
      | some v => wpAny (model prog w) A (letOwnedTupleGo target it v) (fun _ s₁' => wpAny (model prog w) A (assign target env v) (fun _ s₂ =>
          wpAny (model prog w) A (forIn ifs true fun c r => if r = true then do let ok <- isTrue c env (eval c env); pure (ForInStep.yield ok) else pure (ForInStep.yield r)) (fun ok s₃ =>
            if ok = true then wpAny (model prog w) A (eval elt env) (fun x s₄ =>
              wpAny (model prog w) A (call (.builtin "list.append") [acc, x]) (fun _ s₅ => ∃ m, m < n /\ I m s₅) (fun _ _ => False) s₄) (fun _ _ => False) s₃
            else ∃ m, m < n /\ I m s₃) (fun _ _ => False) s₂) (fun _ _ => False) s₁') (fun _ _ => False) s₁) (fun _ _ => False) s)
    (n : Nat) (h : I n s) :
    codeAny (model prog w) A (.compLoop (.ListComp elt [⟨target, iter, ifs, 0⟩] scope pos) 0 it acc env) R s := by
  have up : ∀ {α : Type} {t : Sem α} {Q : α -> Shared -> Prop} {E : Value -> Shared -> Prop} {s : Shared}, wpAny (model prog w) A t Q (fun _ _ => False) s -> wpAny (model prog w) A t Q E s := fun h => wpAny_mono h (fun _ _ q => q) fun _ _ z => z.elim
  refine codeAny_loop rfl I (fun n s hI => ?_) n h
  show wpAny _ A ((compTurn (.ListComp elt [⟨target, iter, ifs, 0⟩] scope pos) 0 it acc env).onRaise (fun x => do noteFrame x env; theTreesLotGoes x)) _ _ s
  refine wpAny_noted ?_
  rw [compTurn_list]
  refine wpAny_bind (wpAny_standAt (wpAny_bind (wpAny_mono (turn n s hI) (fun r s₁ h₁ => ?_) fun _ _ z => z.elim)))
  cases r with
  | none => exact wpAny_pure h₁
  | some v =>
    refine wpAny_bind (wpAny_mono h₁ (fun _ s₁' h₁' => ?_) fun _ _ z => z.elim)
    refine wpAny_bind (wpAny_mono h₁' (fun _ s₂ h₂ => wpAny_bind (wpAny_mono h₂ (fun ok s₃ h₃ => ?_) fun _ _ z => z.elim)) fun _ _ z => z.elim)
    cases ok with
    | false => exact wpAny_pure ⟨rfl, h₃⟩
    | true =>
      refine wpAny_bind (wpAny_bind (wpAny_mono h₃ (fun x s₄ h₄ => wpAny_bind (wpAny_mono h₄ (fun _ s₅ h₅ => ?_) fun _ _ z => z.elim)) fun _ _ z => z.elim))
      exact wpAny_pure (wpAny_pure ⟨rfl, h₅⟩)
end
def cloL (env:Env):List (Str×NameKind)->List (Str×Addr)->List (Str×Addr)
 | [],cs=>cs
 | (n,k)::r,cs=>if k==.free then cloL env r ((n,(env.cells.lookup n).getD 0)::cs) else cloL env r cs
theorem closure_ok {scope:Scope} {env:Env} (h:∀ x∈scope.names,x.2=.free->∃ c,env.cells.lookup x.1=some c):closureFor scope env=pure (cloL env scope.names []):=by
 have key:∀ (l:List (Str×NameKind)) (cs:List (Str×Addr)),(∀ x∈l,x.2=.free->∃ c,env.cells.lookup x.1=some c) ->
   (forIn l cs fun (x:Str×NameKind) (r:List (Str×Addr))=>(match x with
    | (name,kind)=>if (kind==NameKind.free)=true then do let a <- cellOf env name;pure (ForInStep.yield ((name,a)::r)) else pure (ForInStep.yield r):Sem (ForInStep (List (Str×Addr)))))=(pure (cloL env l cs):Sem _):=by
  intro l
  induction l with
  | nil=>intro cs _;rfl
  | cons x l ih =>
   intro cs hx
   obtain ⟨n,k⟩:=x
   simp only [List.forIn_cons,cloL]
   cases q:(k==NameKind.free) with
   | false =>
    simp only [Bool.false_eq_true,if_false,pure_bind]
    exact ih cs fun y hy=>hx y (List.mem_cons_of_mem _ hy)
   | true =>
    have hk:k=.free:=by simpa using q
    obtain ⟨c,e⟩:=hx (n,k) List.mem_cons_self hk
    simp only at e
    simp only [if_true,cellOf,e,pure_bind,Option.getD_some]
    exact ih _ fun y hy=>hx y (List.mem_cons_of_mem _ hy)
 unfold closureFor
 have:=key scope.names [] h
 simp only [bind_pure]
 exact this
theorem cloL_mem {env : Env} {x : Str} {c : Addr} : ∀ (l : List (Str × NameKind)) (cs : List (Str × Addr)), (cloL env l cs).lookup x = some c -> cs.lookup x = some c \/ (∃ y ∈ l, y.1 = x /\ y.2 = .free /\ c = (env.cells.lookup x).getD 0)
  | [], cs, h => .inl h
  | (n, k) :: r, cs, h => by
    unfold cloL at h
    cases q : (k == NameKind.free) with
    | false =>
      rw [q] at h
      rcases cloL_mem r cs h with h1 | ⟨y, hy, h1⟩
      · exact .inl h1
      · exact .inr ⟨y, List.mem_cons_of_mem _ hy, h1⟩
    | true =>
      rw [q] at h
      have hk : k = .free := by simpa using q
      rcases cloL_mem r _ h with h1 | ⟨y, hy, h1⟩
      · rw [List.lookup_cons] at h1
        cases z : (x == n) with
        | false => rw [z] at h1; exact .inl h1
        | true =>
          rw [z] at h1
          have e : x = n := by simpa using z
          subst e
          exact .inr ⟨(x, k), List.mem_cons_self, rfl, hk, (Option.some.inj h1).symm⟩
      · exact .inr ⟨y, List.mem_cons_of_mem _ hy, h1⟩
theorem cloL_has {env:Env} {x:Str}:∀ (l:List (Str×NameKind)) (cs:List (Str×Addr)),((∃ y∈l,y.1=x/\y.2=.free)\/(cs.lookup x).isSome=true)->((cloL env l cs).lookup x).isSome=true
 | [],cs,h=>by
  rcases h with ⟨y,hy,_⟩ | h
  ·simp at hy
  ·exact h
 | (n,k)::r,cs,h=>by
  unfold cloL
  cases q:(k==NameKind.free) with
  | false =>
   refine cloL_has r cs ?_
   rcases h with ⟨y,hy,h1,h2⟩ | h
   ·rcases List.mem_cons.mp hy with e | hy
    ·subst e;simp only at h2;rw [h2] at q;cases q
    ·exact .inl ⟨y,hy,h1,h2⟩
   ·exact .inr h
  | true =>
   refine cloL_has r _ ?_
   rcases h with ⟨y,hy,h1,h2⟩ | h
   ·rcases List.mem_cons.mp hy with e | hy
    ·subst e;simp only at h1;subst h1;exact .inr (by simp)
    ·exact .inl ⟨y,hy,h1,h2⟩
   ·refine .inr ?_
    rw [List.lookup_cons]
    cases z:(x==n)
    ·exact h
    ·rfl
end Sim
end
section
namespace Sim
open PySem PySem.Spec PyProof.Rows L2
theorem lookup_relabel {env : Env} {x : Str} : ∀ {names : List (Str × NameKind)} {k : NameKind}, (names.map fun (n, k) => if (k == NameKind.free && env.scope.kind == .function && env.kindOf n == some .cell) then (n, NameKind.cell) else (n, k)).lookup x = some k ->
    names.lookup x = some k \/ (names.lookup x = some .free /\ k = .cell)
  | [], _, h => by simp at h
  | (n, j) :: r, k, h => by
    have h : List.lookup x ((if (j == NameKind.free && env.scope.kind == .function && env.kindOf n == some .cell) = true then (n, NameKind.cell) else (n, j)) :: (r.map fun (n, k) => if (k == NameKind.free && env.scope.kind == .function && env.kindOf n == some .cell) then (n, NameKind.cell) else (n, k))) = some k := h
    rw [List.lookup_cons]
    cases hx : x == n with
    | true =>
      by_cases hc : (j == NameKind.free && env.scope.kind == .function && env.kindOf n == some .cell) = true
      · rw [if_pos hc, List.lookup_cons] at h
        simp only [hx] at h
        have hj : j = .free := by simp only [Bool.and_eq_true, beq_iff_eq] at hc; exact hc.1.1
        exact .inr ⟨by rw [hj], (Option.some.inj h).symm⟩
      · rw [if_neg hc, List.lookup_cons] at h
        simp only [hx] at h
        exact .inl h
    | false =>
      by_cases hc : (j == NameKind.free && env.scope.kind == .function && env.kindOf n == some .cell) = true
      · rw [if_pos hc, List.lookup_cons] at h
        simp only [hx] at h
        exact lookup_relabel h
      · rw [if_neg hc, List.lookup_cons] at h
        simp only [hx] at h
        exact lookup_relabel h
theorem relabel_of {env : Env} {x : Str} {k : NameKind} : ∀ {names : List (Str × NameKind)}, names.lookup x = some k -> k ≠ .free -> (names.map fun (n, k) => if (k == NameKind.free && env.scope.kind == .function && env.kindOf n == some .cell) then (n, NameKind.cell) else (n, k)).lookup x = some k
  | [], h, _ => by simp at h
  | (n, j) :: r, h, hk => by
    show List.lookup x ((if (j == NameKind.free && env.scope.kind == .function && env.kindOf n == some .cell) = true then (n, NameKind.cell) else (n, j)) :: _) = _
    rw [List.lookup_cons] at h
    cases hx : x == n with
    | true =>
      simp only [hx] at h
      have hj : j = k := Option.some.inj h
      subst hj
      have hc : ¬ (j == NameKind.free && env.scope.kind == .function && env.kindOf n == some .cell) = true := by
        intro z; simp only [Bool.and_eq_true, beq_iff_eq] at z; exact hk z.1.1
      rw [if_neg hc, List.lookup_cons]; simp only [hx]
    | false =>
      simp only [hx] at h
      have ih := relabel_of (env := env) h hk
      by_cases hc : (j == NameKind.free && env.scope.kind == .function && env.kindOf n == some .cell) = true
      · rw [if_pos hc, List.lookup_cons]; simp only [hx]; exact ih
      · rw [if_neg hc, List.lookup_cons]; simp only [hx]; exact ih
theorem relabel_free {env:Env} {x:Str}:∀ {names:List (Str×NameKind)},names.lookup x=some .free->(names.map fun (n,k)=>if (k==NameKind.free&&env.scope.kind==.function&&env.kindOf n==some .cell) then (n,NameKind.cell) else (n,k)).lookup x=some .cell\/(names.map fun (n,k)=>if (k==NameKind.free&&env.scope.kind==.function&&env.kindOf n==some .cell) then (n,NameKind.cell) else (n,k)).lookup x=some .free
 | [],h=>by simp at h
 | (n,j)::r,h=>by
  show List.lookup x ((if (j==NameKind.free&&env.scope.kind==.function&&env.kindOf n==some .cell)=true then (n,NameKind.cell) else (n,j))::_)=_\/List.lookup x ((if (j==NameKind.free&&env.scope.kind==.function&&env.kindOf n==some .cell)=true then (n,NameKind.cell) else (n,j))::_)=_
  rw [List.lookup_cons] at h
  cases hx:x==n with
  | true =>
   simp only [hx] at h
   by_cases hc:(j==NameKind.free&&env.scope.kind==.function&&env.kindOf n==some .cell)=true
   ·rw [if_pos hc,List.lookup_cons];simp [hx]
   ·rw [if_neg hc,List.lookup_cons];simp only [hx];exact .inr h
  | false =>
   simp only [hx] at h
   have ih:=relabel_free (env:=env) h
   by_cases hc:(j==NameKind.free&&env.scope.kind==.function&&env.kindOf n==some .cell)=true
   ·rw [if_pos hc,List.lookup_cons];simp only [hx];exact ih
   ·rw [if_neg hc,List.lookup_cons];simp only [hx];exact ih
def bCx (X:Cx) (cenv:Env) (N':List Str) (s3:Shared) (H3:Hp) (fp:List Addr) (pins:List (Addr×Obj)):Cx :=
 { X with N:=N',s₀:=s3,H₀:=H3,env:=cenv,outer:=X.stack,ex:=fp,fn:=fun _=>false,pn:=X.pn++pins,xe:=fun _ _=>False }
structure BlockOk (X:Cx) (scope:Scope) (xs:List Str) (N':List Str):Prop where
 kind:scope.kind=.function
 nocell:∀ y∈scope.names,y.2≠.cell
 names:∀ y∈scope.names,y.2=.local->scope.names.lookup y.1=some .local
 loc:∀ y,scope.names.lookup y=some .local->y∈xs\/y=(".0":Str)
 tgt:∀ y∈xs,scope.names.lookup y=some .local
 fr:∀ y∈scope.names,y.2=.free->X.env.scope.names.lookup y.1=some .cell\/X.env.scope.names.lookup y.1=some .free
 len:N'.length=X.N.length+xs.length
 old:∀ (i:Nat) y,i < X.N.length->N'[i]?=some y->(scope.names.lookup y).isSome=true->X.N[i]?=some y/\y∉xs/\y≠(".0":Str)
 new:∀ (j:Nat),N'[X.N.length+j]?=xs[j]?
 nd:N'.Nodup
section
variable {X:Cx} {pins:List (Addr×Obj)} {σ:Sg} {H:Hp} {s:Shared} {fp:List Addr} {scope:Scope} {xs N':List Str} {h₁:Heap} {tk:Nat}
theorem block_inv (I : Inv X pins σ H s) (hf : ∀ b ∈ fp, FpOk X pins H b) (ho : ∀ b ∈ fp, ∃ o, s.heap.get? b = some o) (B : BlockOk X scope xs N')
    (hns : h₁.Ns s.heap.objs.size (fun _ => none)) (hk : ∀ b o, s.heap.get? b = some o -> h₁.get? b = some o) :
    Inv (bCx X (compEnvC scope (cloL X.env scope.names []) s.heap.objs.size X.env) N' s H fp pins) [] (σ ++ List.replicate xs.length none) H { s with heap := h₁, toks := tk } := by
  have look : ∀ y c, (cloL X.env scope.names []).lookup y = some c -> X.env.cells.lookup y = some c := fun y c e => by
    rcases cloL_mem _ _ e with h | ⟨z, hz, e1, e2, e3⟩
    · simp at h
    · have := B.fr z hz e2
      rw [e1] at this
      obtain ⟨c', hc'⟩ := I.ok.has y (by rcases this with q | q; exact .inl q; exact .inr q)
      rw [hc'] at e3
      simp at e3
      rw [hc', e3]
  have has : ∀ y, scope.names.lookup y = some .free -> ∃ c, (cloL X.env scope.names []).lookup y = some c := fun y e =>
    Option.isSome_iff_exists.mp (cloL_has _ _ (.inl ⟨(y, .free), PySem.mem_of_lookup e, rfl, rfl⟩))
  have cell_lt : ∀ y c, X.env.cells.lookup y = some c -> c < s.heap.objs.size := fun y c e => by
    obtain ⟨v, q⟩ := I.cell y c e; exact q.lt
  have notC : ∀ b, b < s.heap.objs.size -> b ≠ s.heap.objs.size := fun b hb => Nat.ne_of_lt hb
  refine ⟨⟨I.ok.mod, B.kind, I.ok.glob, I.ok.blt, Nat.le_refl _, fun y z c e1 e2 => I.ok.inj y z c (look y c e1) (look z c e2), fun y hy => ?_, fun y c q _ => Bool.noConfusion q, I.ok.hd, I.ok.frames, .inl rfl, fun b hb => ?_, I.bs, Nat.le_trans I.ok.bsz I.sz, fun b o e hb => ?_, fun b hb hb2 => ?_, I.stack, I.stkFree⟩,
    rfl, I.bare, Un.kept hk, ⟨_, hns, fun i y v e1 e2 e3 => ?_⟩, fun y c e => ?_, I.fresh, fun y c e => I.freeC y c (look y c e), fun p hp => ?_, I.hok.kept hk, ?_⟩
  · -- has
    have hy : (relabel scope X.env).names.lookup y = some .cell \/ (relabel scope X.env).names.lookup y = some .free := hy
    have : scope.names.lookup y = some .free := by
      rcases hy with q | q
      · rcases lookup_relabel q with z | z
        · exact absurd rfl (B.nocell _ (PySem.mem_of_lookup z))
        · exact z.1
      · rcases lookup_relabel q with z | z
        · exact z
        · exact z.1
    exact has y this
  · -- exf
    obtain ⟨f0, f1, f2, f3, f4, f5⟩ := hf b hb
    obtain ⟨o, ho⟩ := ho b hb
    exact ⟨notC b (Heap.lt_size ho), fun y c e => f4 y c (look y c e)⟩
  · -- noex
    obtain ⟨f0, f1, f2, f3, f4, f5⟩ := hf b hb
    rcases f3 with q | q
    · exact I.ok.noex b o e q
    · have := Heap.lt_size (I.ok.bs b o e).1
      exact absurd (Nat.lt_of_lt_of_le this q) (Nat.lt_irrefl _)
  · -- exfs
    obtain ⟨f0, f1, f2, f3, f4, f5⟩ := hf b hb
    rcases List.mem_cons.mp (I.stkSub b hb2) with q | q
    · exact f1 q
    · exact f2 q
  · -- the names
    have hi : i < σ.length := by
      by_cases hi : i < σ.length
      · exact hi
      · rw [List.getElem?_append_right (by omega), List.getElem?_replicate] at e2
        split at e2 <;> cases e2
    rw [List.getElem?_append_left hi] at e2
    have hiN : i < X.N.length := by rw [<- I.len]; exact hi
    have e3 : Vis (relabel scope X.env) y := e3
    have hsome : (scope.names.lookup y).isSome = true := by
      rcases e3 with q | q | q
      all_goals
        rcases lookup_relabel q with z | z
        · rw [z]; rfl
        · rw [z.1]; rfl
    obtain ⟨eN, hx, h0⟩ := B.old i y hiN e1 hsome
    have hfree : scope.names.lookup y = some .free := by
      rcases e3 with q | q | q
      · rcases lookup_relabel q with z | z
        · rcases B.loc y z with w | w
          · exact absurd w hx
          · exact absurd w h0
        · exact z.1
      · rcases lookup_relabel q with z | z
        · exact absurd rfl (B.nocell _ (PySem.mem_of_lookup z))
        · exact z.1
      · rcases lookup_relabel q with z | z
        · exact z
        · exact z.1
    have hX := B.fr (y, .free) (PySem.mem_of_lookup hfree) rfl
    obtain ⟨m, hn, hl⟩ := I.loc
    obtain ⟨u, r, l⟩ := hl i y v eN e2 (by rcases hX with q | q; exact .inr (.inl q); exact .inr (.inr q))
    refine ⟨u, r, .inr ⟨?_, ?_⟩⟩
    · exact relabel_free hfree
    · rcases l with ⟨k, _⟩ | ⟨_, c, ec, z⟩
      · exfalso
        have k : X.env.scope.names.lookup y = some .local := k
        simp only at hX
        rcases hX with q | q <;> rw [k] at q <;> cases q
      · obtain ⟨c', hc'⟩ := has y hfree
        have e : c' = c := by have := look y c' hc'; rw [ec] at this; exact (Option.some.inj this).symm
        subst e
        obtain ⟨o, h1, h2⟩ := z
        exact ⟨c', hc', o, hk _ _ h1, h2⟩
  · -- cells
    obtain ⟨v, o, h1, h2⟩ := I.cell y c (look y c e)
    exact ⟨v, o, hk _ _ h1, h2⟩
  · -- pins
    have hp : p ∈ X.pn ++ pins := by simpa [bCx] using hp
    obtain ⟨e, n, ne, nf, d⟩ := I.pin p hp
    refine ⟨hk _ _ e, n, notC _ (Heap.lt_size e), fun hb => ?_, d⟩
    rcases List.mem_cons.mp (I.stkSub p.1 hb) with q | q
    · exact ne q
    · exact nf q
  · show _ = N'.length
    rw [List.length_append, List.length_replicate, B.len, I.len]
end
end Sim
end
section
namespace Sim
open PySem PySem.Spec PyProof.Rows L2
def setV:List Nat->List V->Sg->Sg
 | i::is,v::vs,σ=>setV is vs (σ.set i (some v))
 | _,_,σ=>σ
def gNames:List Nat->TGs
 | []=>gNil
 | i::is=>gCons (gName i) (gNames is)
theorem gNames_of:∀ (ts:List Nat) (vs:List V) (σ:Sg) (H:Hp) (Q:Sg->Hp->Prop),vs.length=ts.length->Q (setV ts vs σ) H->gNames ts vs σ H Q
 | [],[],σ,H,Q,_,q=>⟨rfl,q⟩
 | [],_::_,_,_,_,h,_=>by simp at h
 | _::_,[],_,_,_,h,_=>by simp at h
 | i::is,v::vs,σ,H,Q,h,q=>⟨v,vs,rfl,gNames_of is vs _ H Q (by simpa using h) q⟩
def gD (K:W.Frag) (k:Nat) (ts:List Nat):TG:=fun v σ H Q=>∃ G d,Same G H/\Rep K G d v/\wpR (Den.bindT k d) (fun os=>∀ (ws:List D) (vs:List V),os=ws.map some->Reps K G ws vs->Q (setV ts vs σ) H) (fun _=>False)
section
variable {X:Cx}
theorem pgs_names (hN:X.N.Nodup):∀ (ts:List Nat) (ys:List Str) (es:List Expr),Den.namesOf es=some ys->ts.length=ys.length->(∀ (j i:Nat) y,ts[j]?=some i->ys[j]?=some y->X.N[i]?=some y/\Loc X.env.scope y/\(X.fn y=true\/X.env.scope.names.lookup y=some .local)) ->
  PGs X es (gNames ts)/\(assignEach es X.env).length=ts.length/\(assignEach es X.env).findIdx? (·.1)=none
 | ts,ys,[],h,hl,_=>by
  simp only [Den.namesOf,Option.some.injEq] at h
  subst h
  have:ts=[]:=by simpa using hl
  subst this
  exact ⟨pgs_nil,rfl,rfl⟩
 | ts,ys,e::es,h,hl,hx=>by
  simp only [Den.namesOf] at h
  cases e with
  | Name x p =>
   cases q:Den.namesOf es with
   | none=>simp only [Den.nameOf,q] at h;cases h
   | some zs =>
    simp only [Den.nameOf,q,Option.some.injEq] at h
    subst h
    cases ts with
    | nil=>simp at hl
    | cons i is =>
     obtain ⟨a,b,c⟩:=hx 0 i x rfl rfl
     obtain ⟨h1,h2,h3⟩:=pgs_names hN is zs es q (by simpa using hl) fun j i y e1 e2=>hx (j+1) i y (by simpa using e1) (by simpa using e2)
     refine ⟨pgs_cons (pg_name hN a b c) h1 rfl,?_,?_⟩
     ·show (assignEach es X.env).length+1=is.length+1;rw [h2]
     ·show ((false,assign (.Name x p) X.env)::assignEach es X.env).findIdx? (·.1)=none
      rw [List.findIdx?_cons]
      simp only [Bool.false_eq_true,if_false]
      rw [h3];rfl
  | _=>simp only [Den.nameOf] at h;cases h
theorem pg_target (hc : X.calm = true) (hN : X.N.Nodup) {k : Nat} {target : Expr} {ys : List Str} {ts : List Nat} (ht : Den.tgt k target = some ys) (hl : ts.length = ys.length)
    (hx : ∀ (j i : Nat) y, ts[j]? = some i -> ys[j]? = some y -> X.N[i]? = some y /\ Loc X.env.scope y /\ (X.fn y = true \/ X.env.scope.names.lookup y = some .local)) : PG X target (gD X.K k ts) := by
  cases k with
  | zero =>
    cases target with
    | Name x p =>
      simp only [Den.tgt, Option.some.injEq] at ht
      subst ht
      obtain ⟨i, rfl⟩ : ∃ i, ts = [i] := by
        match ts, hl with
        | [i], _ => exact ⟨i, rfl⟩
      obtain ⟨a, b, c⟩ := hx 0 i x rfl rfl
      intro pins s σ H v u Q I r ⟨G, d, hs, rd, hw⟩
      refine pg_name hN a b c pins s σ H v u Q I r ?_
      exact hw [d] [v] rfl ⟨v, [], rfl, rd, rfl⟩
    | _ => simp only [Den.tgt] at ht; cases ht
  | succ k =>
    cases target with
    | Tuple es j p =>
      simp only [Den.tgt] at ht
      cases q : Den.namesOf es with
      | none => rw [q] at ht; cases ht
      | some zs =>
        rw [q] at ht
        simp only at ht
        by_cases hz : zs.length = k + 1
        · rw [if_pos hz] at ht
          simp only [Option.some.injEq] at ht
          subst ht
          obtain ⟨h1, h2, h3⟩ := pgs_names hN ts zs es q hl hx
          intro pins s σ H v u Q I r ⟨G, d, hs, rd, hw⟩
          refine pg_tup (n := ts.length) hc h1 h2 h3 pins s σ H v u Q I r ?_
          cases d with
          | tup ds =>
            obtain ⟨a, xs, e, kq, rq⟩ := rd
            have hb : Den.bindT (k + 1) (.tup ds) = if ds.length = k + 1 then .ok (ds.map some) else .bad := rfl
            rw [hb] at hw
            by_cases hd : ds.length = k + 1
            · rw [if_pos hd] at hw
              have hlx : xs.length = ts.length := by rw [<- rq.length, hd, hl, hz]
              exact ⟨a, xs, e, sqT_mono hs kq, hlx, gNames_of ts xs σ H Q hlx (hw ds xs rfl rq)⟩
            · rw [if_neg hd] at hw; exact hw.elim
          | _ => exact hw.elim
        · rw [if_neg hz] at ht; cases ht
    | _ => simp only [Den.tgt] at ht; cases ht
end
structure ItD (K:W.Frag) (P:Hp->Hp->Prop) (J:It) (ds:List D):Prop where
 go:∀ (i:Nat) G1 H1,P G1 H1->i < ds.length->J.go i H1
 yld:∀ (i:Nat) G1 H1 x H2 d,P G1 H1->Same G1 H1->ds[i]?=some d->J.yld i H1 x H2->∃ G2,Ext G1 H1 G2 H2/\Rep K G2 d x
 stop:∀ G1 H1,P G1 H1->J.stop ds.length H1
def PV (m:Md) (G H:Hp):Hp->Hp->Prop:=fun G1 H1=>Same G G1/\(match m with | .view=>Same H H1 | _=>Same G1 H1)
def tI (xp:XP) (X:Cx) (mu:List Nat) (m:Md) (f:Rho->Rr (List D)):TI:=fun σ H R =>
 ∃ G ρ,Sm X.K mu G H ρ σ/\wpR (f ρ) (fun ds=>∀ J G' H',Ext G H G' H'->ItD X.K (PV m G' H') J ds->ds.length<=16777216->R J H') (fun c=>RaiseOk xp X c H)
end Sim
end
section
namespace Sim
open PySem PySem.Spec PyProof.Rows L2
theorem noX_ok {α:Type} {r:Rr α} {Q:α->Prop} {E:Nat->Prop} (h:wpR (Den.noX r) Q E):∃ a,r=.ok a/\Q a:=by
 cases r with
 | ok a=>exact ⟨a,rfl,h⟩
 | exc c=>exact h.elim
 | bad=>exact h.elim
theorem Sm.more {K:W.Frag} {mu:List Nat} {G H:Hp} {ρ:Rho} {σ:Sg} (h:Sm K mu G H ρ σ) (hmu:∀ i∈mu,i < ρ.length) {ws:List D} {vs:List V} (r:Reps K G ws vs):Sm K mu G H (ρ++ws.map some) (σ++vs.map some) where
 len:=by rw [List.length_append,List.length_append,h.len,List.length_map,List.length_map,r.length]
 sub:=h.sub
 val:=fun i d e hm=>by
  by_cases hi:i < ρ.length
  ·rw [List.getElem?_append_left hi] at e
   obtain ⟨v,a,b⟩:=h.val i d e hm
   exact ⟨v,by rw [List.getElem?_append_left (by rw [<- h.len];exact hi)];exact a,b⟩
  ·rw [List.getElem?_append_right (by omega),List.getElem?_map] at e
   cases q:ws[i - ρ.length]? with
   | none=>rw [q] at e;cases e
   | some w =>
    rw [q] at e
    simp only [Option.map_some,Option.some.injEq] at e
    subst e
    obtain ⟨v,a,b⟩:=r.get q
    exact ⟨v,by rw [List.getElem?_append_right (by rw [<- h.len];omega),List.getElem?_map,<- h.len,a];rfl,b⟩
 own:=fun i d e hm hl=>by
  have hi:=hmu i hm
  rw [List.getElem?_append_left hi] at e
  obtain ⟨v,a,b⟩:=h.own i d e hm hl
  exact ⟨v,by rw [List.getElem?_append_left (by rw [<- h.len];exact hi)];exact a,b⟩
 lst:=fun i ds e hm=>by
  have hi:=hmu i hm
  rw [List.getElem?_append_left hi] at e
  obtain ⟨a,xs,h1,h2⟩:=h.lst i ds e hm
  exact ⟨a,xs,by rw [List.getElem?_append_left (by rw [<- h.len];exact hi)];exact h1,h2⟩
 apart:=fun i j ds es a b e1 e2 hi hj ne h1 h2=>by
  have hi':=hmu i hi
  have hj':=hmu j hj
  rw [List.getElem?_append_left hi'] at e1
  rw [List.getElem?_append_left hj'] at e2
  rw [List.getElem?_append_left (by rw [<- h.len];exact hi')] at h1
  rw [List.getElem?_append_left (by rw [<- h.len];exact hj')] at h2
  exact h.apart i j ds es a b e1 e2 hi hj ne h1 h2
theorem setV_app:∀ (vs:List V) (σ:Sg) (τ:Sg) (n:Nat),n=σ.length->τ.length=vs.length->setV (List.range' n vs.length) vs (σ++τ)=σ++vs.map some
 | [],σ,τ,n,hn,ht=>by
  have:τ=[]:=by simpa using ht
  subst this;rfl
 | v::vs,σ,τ,n,hn,ht=>by
  cases τ with
  | nil=>simp at ht
  | cons t τ =>
   rw [List.length_cons,List.range'_succ,setV]
   have e:(σ++t::τ).set n (some v)=(σ++[some v])++τ:=by
    rw [List.set_append_right _ _ (by omega),hn];simp
   rw [e,setV_app vs (σ++[some v]) τ (n+1) (by simp [hn]) (by simpa using ht)]
   simp
section
variable {xp:XP} {X:Cx} {mu:List Nat} {fI:Rho->Rr (List D)} {fe:Rho->Rr D} {fc:Rho->Rr Bool} {elt target iter:Expr} {ifs:List Expr} {scope:Scope} {pos:Pos} {xs N':List Str} {k:Nat}
noncomputable def elf (k:Nat) (fc:Rho->Rr Bool) (fe:Rho->Rr D) (ρ:Rho) (d:D):Rr (Option D):=Den.bindT k d>>=fun vs=>fc (ρ++vs)>>=fun b=>if b then fe (ρ++vs)>>=fun y=>.ok (some y) else .ok none
def Blk (X:Cx) (scope:Scope) (N':List Str) (s3:Shared) (H3:Hp) (fp:List Addr) (pins:List (Addr×Obj)):Cx:=bCx X (compEnvC scope (cloL X.env scope.names []) s3.heap.objs.size X.env) N' s3 H3 fp pins
theorem bindT_some {k:Nat} {d:D} {os:List (Option D)} (h:Den.bindT k d=.ok os):∃ ws:List D,os=ws.map some:=by
 cases k with
 | zero=>cases h;exact ⟨[d],rfl⟩
 | succ k =>
  cases d with
  | tup ds =>
   have hb:Den.bindT (k+1) (.tup ds)=if ds.length=k+1 then .ok (ds.map some) else .bad:=rfl
   rw [hb] at h
   by_cases hd:ds.length=k+1
   ·rw [if_pos hd] at h;cases h;exact ⟨ds,rfl⟩
   ·rw [if_neg hd] at h;cases h
  | _=>cases h
end
end Sim
end
section
namespace Sim
open PySem PySem.Spec PyProof.Rows L2
section
variable {xp:XP} {X:Cx} {mu:List Nat} {fI:Rho->Rr (List D)} {fe:Rho->Rr D} {fc:Rho->Rr Bool} {elt target iter:Expr} {ifs:List Expr} {scope:Scope} {pos:Pos} {xs N':List Str} {k:Nat}
def Tests (xp:XP) (X:Cx) (mu:List Nat) (scope:Scope) (N':List Str) (ifs:List Expr) (fc:Rho->Rr Bool):Prop :=
 (ifs=[]/\fc=fun _=>.ok true)\/∃ (c:Expr) (fT:Rho->Rr D),ifs=[c]/\(fc=fun ρ=>fT ρ>>=Den.asBl)/\∀ s3 H3 fp pins,PT (Blk X scope N' s3 H3 fp pins) c (tT xp (Blk X scope N' s3 H3 fp pins) mu fT)
theorem tests_ok (ht:Tests xp X mu scope N' ifs fc) {s3:Shared} {H3:Hp} {fp:List Addr} {pp pins:List (Addr×Obj)} {s:Shared} {σ:Sg} {G H:Hp} {ρ:Rho} {b:Bool} {Q:Bool->Shared->Prop}
  (I:Inv (Blk X scope N' s3 H3 fp pp) pins σ H s) (hs:Sm X.K mu G H ρ σ) (hb:fc ρ=.ok b) (hq:∀ s' G' H',Inv (Blk X scope N' s3 H3 fp pp) pins σ H' s'->Ext G H G' H'->Q b s') :
  wpAny (model X.prog X.w) X.A (forIn ifs true fun c r=>if r=true then do let ok <- isTrue c (Blk X scope N' s3 H3 fp pp).env (eval c (Blk X scope N' s3 H3 fp pp).env);pure (ForInStep.yield ok) else pure (ForInStep.yield r)) Q (fun _ _=>False) s:=by
 rcases ht with ⟨rfl,rfl⟩ | ⟨c,fT,rfl,rfl,h⟩
 ·cases hb
  exact wpAny_tests_nil (hq s G H I (Ext.refl hs.sub))
 ·refine wpAny_tests_one (wpAny_mono (h s3 H3 fp pp pins s σ H (fun b' H'=>b'=b/\∃ G',Ext G H G' H') I ⟨G,ρ,hs,?_⟩) (fun b' s' ⟨H',I',e,G',x⟩=>?_) fun _ _ z=>z)
  ·have hb:(fT ρ>>=Den.asBl)=.ok b:=hb
   rw [hb]
   exact fun G' H' x=>⟨rfl,G',x⟩
  ·subst e;exact hq s' G' H' I' x
theorem bind_len {d:D} {os:List (Option D)} (hk:Den.tgt k target=some xs) (h:Den.bindT k d=.ok os):os.length=xs.length:=by
 cases k with
 | zero =>
  cases h
  cases target with
  | Name x p=>simp only [Den.tgt,Option.some.injEq] at hk;subst hk;rfl
  | _=>simp only [Den.tgt] at hk;cases hk
 | succ k =>
  have hx:xs.length=k+1:=by
   cases target with
   | Tuple es j p =>
    simp only [Den.tgt] at hk
    cases q:Den.namesOf es with
    | none=>rw [q] at hk;cases hk
    | some zs =>
     rw [q] at hk
     simp only at hk
     by_cases hz:zs.length=k+1
     ·rw [if_pos hz] at hk;cases hk;exact hz
     ·rw [if_neg hz] at hk;cases hk
   | _=>simp only [Den.tgt] at hk;cases hk
  cases d with
  | tup ds =>
   have hb:Den.bindT (k+1) (.tup ds)=if ds.length=k+1 then .ok (ds.map some) else .bad:=rfl
   rw [hb] at h
   by_cases hd:ds.length=k+1
   ·rw [if_pos hd] at h;cases h;rw [List.length_map,hd,hx]
   ·rw [if_neg hd] at h;cases h
  | _=>cases h
theorem map_some_inj {a b:List D} (h:a.map some=b.map some):a=b:=by
 induction a generalizing b with
 | nil=>cases b with | nil=>rfl | cons _ _=>simp at h
 | cons x a ih=>cases b with
  | nil=>simp at h
  | cons y b=>simp only [List.map_cons,List.cons.injEq,Option.some.injEq] at h;rw [h.1,ih h.2]
def CompFin (X:Cx) (pins:List (Addr×Obj)) (σ:Sg) (G H:Hp) (use:Option (Value->Sem Unit)) (Qc:Value->Shared->Prop) (ys:List D):Prop :=
 ∀ (s4:Shared) (H' G':Hp) (C Dd:Addr) (m4:Str->Option Value),Ext G H G' H'->RepM X.K H G' H' .fresh (.lst ys) (.ref Dd)->s4.heap.Ns C m4->FpOk X pins H' C->(∀ h',Heap.SameBut C s4.heap h'->Inv X pins σ H' { s4 with heap:=h' }) ->
  compPost (model X.prog X.w) X.A X.xe use Qc (.ref Dd) C (.ok .next) s4
structure CInv (X Y:Cx) (f:D->Rr (Option D)) (tn:Nat->Heap->Prop) (fp:List Addr) (ds ys:List D) (xs:List Str) (σ:Sg) (G2 H2:Hp) (Dd:Addr) (n:Nat) (s':Shared) (i:Nat) (τ:Sg) (H' G':Hp) (ys' rest:List D) (Vs:List V):Prop where
 h1:n=ds.length - i
 h2:i<=ds.length
 h3:τ.length=xs.length
 h4:Inv Y [] (σ++τ) H' s'
 h5:tn i s'.heap
 h6:∀ b∈fp,H' b=none
 h7:Ext G2 H2 G' H'
 h8:H' Dd=some (.lst Vs)
 h9:G' Dd=none
 h10:Reps X.K G' ys' Vs
 h11:ys'.length<=i
 h12:Den.compL f (ds.drop i)=.ok rest
 h13:ys=ys'++rest
theorem elf_cons {fc:Rho->Rr Bool} {fe:Rho->Rr D} {k:Nat} {ρ:Rho} {d:D} {r rest:List D} (h:Den.compL (elf k fc fe ρ) (d::r)=.ok rest):∃ (ws:List D) (b:Bool) (rest':List D),Den.bindT k d=.ok (ws.map some)/\fc (ρ++ws.map some)=.ok b /\
  Den.compL (elf k fc fe ρ) r=.ok rest'/\((b=false/\rest=rest')\/∃ y,b=true/\fe (ρ++ws.map some)=.ok y/\rest=y::rest'):=by
 simp only [Den.compL] at h
 cases q1:elf k fc fe ρ d with
 | exc c=>rw [q1] at h;cases h
 | bad=>rw [q1] at h;cases h
 | ok o =>
 rw [q1] at h
 simp only [Den.R.ok_bind] at h
 cases q2:Den.compL (elf k fc fe ρ) r with
 | exc c=>rw [q2] at h;cases h
 | bad=>rw [q2] at h;cases h
 | ok rest' =>
 rw [q2] at h
 simp only [Den.R.ok_bind] at h
 unfold elf at q1
 cases q3:Den.bindT k d with
 | exc c=>rw [q3] at q1;cases q1
 | bad=>rw [q3] at q1;cases q1
 | ok os =>
 rw [q3] at q1
 simp only [Den.R.ok_bind] at q1
 obtain ⟨ws,rfl⟩:=bindT_some q3
 cases q4:fc (ρ++ws.map some) with
 | exc c=>rw [q4] at q1;cases q1
 | bad=>rw [q4] at q1;cases q1
 | ok b =>
 rw [q4] at q1
 simp only [Den.R.ok_bind] at q1
 cases b with
 | false=>cases q1;cases h;exact ⟨ws,false,_,rfl,q4,rfl,.inl ⟨rfl,rfl⟩⟩
 | true =>
  simp only [if_true] at q1
  cases q5:fe (ρ++ws.map some) with
  | exc c=>rw [q5] at q1;cases q1
  | bad=>rw [q5] at q1;cases q1
  | ok y =>
  rw [q5] at q1
  cases q1;cases h
  exact ⟨ws,true,_,rfl,q4,rfl,.inr ⟨y,rfl,q5,rfl⟩⟩
theorem comp_core (hc : X.calm = true) (hmu : ∀ i ∈ mu, i < X.N.length) (B : BlockOk X scope xs N') (hk : Den.tgt k target = some xs) (hset : ∀ x, foldedSetIterable iter X.env x = pure x)
    (hi : PI X target iter (tI xp X mu .view fI)) (he : ∀ s3 H3 fp pins, PE (Blk X scope N' s3 H3 fp pins) elt (tM xp (Blk X scope N' s3 H3 fp pins) mu .val fe)) (ht : Tests xp X mu scope N' ifs fc)
    {use : Option (Value -> Sem Unit)} {Qc : Value -> Shared -> Prop} {pins : List (Addr × Obj)} {s : Shared} {σ : Sg} {H G : Hp} {ρ : Rho} (I : Inv X pins σ H s) (hs : Sm X.K mu G H ρ σ)
    (hw : wpR (fI ρ >>= fun ds => Den.noX (Den.compL (elf k fc fe ρ) ds)) (CompFin X pins σ G H use Qc) (fun c => RaiseOk xp X c H)) {pos' : Pos} :
    wpAny (model X.prog X.w) X.A (comprehension (.ListComp elt [⟨target, iter, ifs, 0⟩] scope pos) scope X.env pos' (newList []) false (eval iter X.env) use) Qc X.xe s := by
  have hclos : closureFor scope X.env = pure (cloL X.env scope.names []) := closure_ok fun x hx e => by
    have := B.fr x hx e
    exact I.ok.has x.1 (by rcases this with q | q; exact .inl q; exact .inr q)
  refine wpAny_comprehension_free (use := use) rfl hset hclos B.kind B.names ?_
  refine thn (hi pins s σ H (fun J H' => ∃ G' ds ys, Ext G H G' H' /\ ItD X.K (PV .view G' H') J ds /\ ds.length <= 16777216 /\ Den.compL (elf k fc fe ρ) ds = .ok ys /\ CompFin X pins σ G H use Qc ys) I
    ⟨G, ρ, hs, wpR_mono (wpR_bind.mp hw) (fun ds kq J G' H' x itd hz => ?_) fun _ q => q⟩) fun v s1 h1 => thn h1 fun itv s2 h2 => ?_
  · obtain ⟨ys, e, q⟩ := noX_ok kq
    exact ⟨G', ds, ys, x, itd, hz, e, q⟩
  obtain ⟨it, fp, tn, J, H2, rfl, I2, T, st2, f2, G2, ds, ys, x2, itd, hz, hys, fin⟩ := h2
  refine wpAny_newObj_type (wpAny_newFunctionEnv B.nocell (by intro y hy; simp at hy) (fun h₁ hns₁ hsb₁ => ?_) B.kind)
  dsimp only at hns₁ hsb₁ ⊢
  have I3 : Inv X pins σ (upd H2 s2.heap.objs.size (.lst [])) { s2 with heap := s2.heap.push { cls := .type "list", data := .seq ([] : List Value).toArray } } := I2.lnew (t' := s2.toks) (ys := []) (its := []) .nil (Nat.zero_le _)
  generalize hs3 : ({ s2 with heap := s2.heap.push { cls := .type "list", data := .seq ([] : List Value).toArray } } : Shared) = s3 at I3
  have hheap : s3.heap = s2.heap.push { cls := .type "list", data := .seq ([] : List Value).toArray } := by rw [<- hs3]
  rw [<- hheap] at hns₁ hsb₁ ⊢
  generalize hDD : s2.heap.objs.size = Dd at *
  have hD2 : H2 Dd = none := by rw [<- hDD]; exact I2.fresh
  have hfpD : ∀ b ∈ fp, b ≠ Dd := fun b hb z => by
    obtain ⟨o, e, _⟩ := T.obj _ _ st2 b hb
    have := Heap.lt_size e
    rw [z, <- hDD] at this
    exact absurd this (Nat.lt_irrefl _)
  have hk3 : ∀ b o, s2.heap.get? b = some o -> s3.heap.get? b = some o := fun b o e => by rw [hheap]; exact Heap.get?_push_of_some _ e
  have hst : ({ heap := h₁, gens := s2.gens, drawn := s2.drawn, toks := s2.toks + ([] : List (Str × Value)).length, os := s2.os } : Shared) = { s3 with heap := h₁, toks := s2.toks } := by rw [<- hs3]; rfl
  rw [hst]
  show codeAny (model X.prog X.w) X.A (Code.compStart (elt.ListComp [{ target := target, iter := iter, ifs := ifs, is_async := 0 }] scope pos) 0 (Value.ref it) (Value.ref Dd) (compEnvC scope (cloL X.env scope.names []) s3.heap.objs.size X.env))
    (compPost (model X.prog X.w) X.A X.xe use Qc (Value.ref Dd) s3.heap.objs.size) { s3 with heap := h₁, toks := s2.toks }
  have hns : h₁.Ns s3.heap.objs.size (fun _ => none) := by simpa using hns₁
  have hk1 : ∀ b o, s3.heap.get? b = some o -> h₁.get? b = some o := fun b o e => hsb₁.extBut b o (Nat.ne_of_lt (Heap.lt_size e)) (Heap.get?_push_of_some _ e)
  have hf3 : ∀ b ∈ fp, FpOk X pins (upd H2 Dd (.lst [])) b := fun b hb => ⟨by rw [upd_ne (hfpD b hb)]; exact (f2 b hb).1, (f2 b hb).2⟩
  have ho3 : ∀ b ∈ fp, ∃ o, s3.heap.get? b = some o := fun b hb => by
    obtain ⟨o, e, _⟩ := T.obj _ _ st2 b hb
    exact ⟨o, hk3 b o e⟩
  have IY := block_inv (tk := s2.toks) I3 hf3 ho3 B hns hk1
  generalize hY : bCx X (compEnvC scope (cloL X.env scope.names []) s3.heap.objs.size X.env) N' s3 (upd H2 Dd (.lst [])) fp pins = Y at IY
  have eY : Y = Blk X scope N' s3 (upd H2 Dd (.lst [])) fp pins := hY.symm
  have stY : tn 0 h₁ := T.keep _ _ _ st2 fun b hb o e => hk1 b o (hk3 b o e)
  have sm2 : Sm X.K mu G2 H2 ρ σ := hs.ext x2
  have hmuρ : ∀ i ∈ mu, i < ρ.length := fun i hi => by rw [hs.len, I.len]; exact hmu i hi
  have hnoD : ∀ (i : Nat) (es : List D), i ∈ mu -> ρ[i]? = some (some (.lst es)) -> σ[i]? ≠ some (some (V.ref Dd)) := fun i es hi e z => by
    obtain ⟨a, vs, h1, h2, _⟩ := sm2.lst i es e hi
    rw [h1] at z
    injection z with z
    injection z with z
    injection z with z
    rw [z, hD2] at h2; cases h2
  have fpY : ∀ {H' : Hp}, (∀ b ∈ fp, H' b = none) -> ∀ b ∈ fp, FpOk Y [] H' b := fun hn b hb => by
    obtain ⟨f0, f1, f2', f3, f4, f5⟩ := hf3 b hb
    obtain ⟨e1, e2⟩ := IY.ok.exf b (by rw [<- hY]; exact hb)
    refine ⟨hn b hb, e1, IY.ok.exfs b (by rw [<- hY]; exact hb), .inl (by rw [<- hY]; exact hb), e2, fun p hp => ?_⟩
    rw [<- hY] at hp
    exact f5 p (by simpa [bCx] using hp)
  have loop : codeAny (model X.prog X.w) X.A (.compLoop (.ListComp elt [⟨target, iter, ifs, 0⟩] scope pos) 0 (.ref it) (.ref Dd) (compEnvC scope (cloL X.env scope.names []) s3.heap.objs.size X.env))
      (compPost (model X.prog X.w) X.A X.xe use Qc (Value.ref Dd) s3.heap.objs.size) { s3 with heap := h₁, toks := s2.toks } := by
    refine compLoop_gen (fun n s' => ∃ (i : Nat) (τ : Sg) (H' G' : Hp) (ys' rest : List D) (Vs : List V), CInv X Y (elf k fc fe ρ) tn fp ds ys xs σ G2 H2 Dd n s' i τ H' G' ys' rest Vs) ?_ ds.length
      ⟨0, List.replicate xs.length none, _, G2, [], ys, [], by simp, Nat.zero_le _, by simp, IY, stY, fun b hb => (hf3 b hb).1, ⟨Same.refl _, same_upd hD2, x2.sub.trans (same_upd hD2), fun _ h _ => h⟩, upd_same, x2.sub.free hD2, rfl, Nat.le_refl _, by simpa using hys, rfl⟩
    rintro n s' ⟨i, τ, H', G', ys', rest, Vs, rfl, hil, hτ, I', st', fr', x', hD, hGD, rV, hly, hrest, hysr⟩
    have hPV : PV .view G2 H2 G' H' := ⟨x'.g, x'.h⟩
    have hYc : Y.calm = true := by rw [<- hY]; exact hc
    have hYp : Y.prog = X.prog := by rw [<- hY]; rfl
    have hYw : Y.w = X.w := by rw [<- hY]; rfl
    have hYK : Y.K = X.K := by rw [<- hY]; rfl
    have hYA : Y.A = X.A := by rw [<- hY]; rfl
    have hYx : Y.xe = fun _ _ => False := by rw [<- hY]; rfl
    by_cases hlt : i < ds.length
    · have hd : ds[i]? = some ds[i] := List.getElem?_eq_getElem hlt
      generalize ds[i] = d at hd
      have hdrop : ds.drop i = d :: ds.drop (i + 1) := by
        have := List.getElem?_eq_some_iff.mp hd
        obtain ⟨h1, h2⟩ := this
        rw [<- h2]; exact List.drop_eq_getElem_cons h1
      rw [hdrop] at hrest
      have item := T.item Y hYp hYw hYK hYc i [] s' (σ ++ τ) H' (fun _ _ => False) I' (fpY fr') st' (itd.go i G' H' hPV hlt)
      rw [hYA] at item
      refine thn item fun r s4 ⟨u, hr, h4⟩ => ?_
      subst hr
      refine thn h4 fun _ s5 ⟨x, H5, I5, r5, y5, st5, fr5⟩ => ?_
      obtain ⟨G5, x5, rd⟩ := itd.yld i G' H' x H5 d hPV x'.sub hd y5
      have I5' := I5.pinned (fpY fr5) (T.obj _ _ st5)
      obtain ⟨ws, b, rest', q3, q4, q2, hb⟩ := elf_cons hrest
      have hwl : ws.length = xs.length := by have := bind_len hk q3; simpa using this
      subst hY
      have hg : PG (bCx X (compEnvC scope (cloL X.env scope.names []) s3.heap.objs.size X.env) N' s3 (upd H2 Dd (.lst [])) fp pins) target (gD X.K k (List.range' X.N.length xs.length)) := by
        refine pg_target (X := bCx X (compEnvC scope (cloL X.env scope.names []) s3.heap.objs.size X.env) N' s3 (upd H2 Dd (.lst [])) fp pins) hc B.nd hk (by simp) fun j i' y e1 e2 => ?_
        rw [List.getElem?_range' (List.getElem?_eq_some_iff.mp e2).1] at e1
        have hy : y ∈ xs := List.mem_of_getElem? e2
        have hloc : (relabel scope X.env).names.lookup y = some .local := relabel_of (B.tgt y hy) (by decide)
        cases e1
        refine ⟨?_, .inl hloc, .inr hloc⟩
        show N'[X.N.length + 1 * j]? = some y
        rw [Nat.one_mul, B.new j]; exact e2
      refine thn (hg _ s5 (σ ++ τ) H5 x u (fun σ6 H6 => ∃ vs : List V, σ6 = σ ++ vs.map some /\ vs.length = xs.length /\ H6 = H5 /\ Reps X.K G5 ws vs) I5' r5 ⟨G5, d, x5.sub, rd, ?_⟩) fun _ s6 ⟨σ6, H6, I6, vs, e6, hvl, eH, rws⟩ => ?_
      · rw [q3]
        intro ws' vs e r
        have e := map_some_inj e
        subst e
        have hl : vs.length = xs.length := by rw [<- r.length, hwl]
        refine ⟨vs, ?_, hl, rfl, r⟩
        rw [<- hl]
        exact setV_app vs σ τ X.N.length (I.len.symm) (by rw [hτ, hl])
      subst e6
      subst eH
      have x25 : Ext G2 H2 G5 H6 := x'.trans x5
      have sm5 : Sm X.K mu G5 H6 (ρ ++ ws.map some) (σ ++ vs.map some) := (sm2.ext x25).more hmuρ rws
      have hD5 : H6 Dd = some (.lst Vs) := x5.h _ _ hD
      have hGD5 : G5 Dd = none := x5.new Dd hGD (by rw [hD]; exact fun z => nomatch z)
      refine tests_ok ht I6 sm5 q4 fun s7 G7 H7 I7 x7 => ?_
      have hD7 : H7 Dd = some (.lst Vs) := x7.h _ _ hD5
      have hGD7 : G7 Dd = none := x7.new Dd hGD5 (by rw [hD5]; exact fun z => nomatch z)
      have rV7 : Reps X.K G7 ys' Vs := (rV.mono x5.g).mono x7.g
      rcases hb with ⟨rfl, rfl⟩ | ⟨y, rfl, q5, rfl⟩
      · simp only [Bool.false_eq_true, if_false]
        refine ⟨ds.length - (i + 1), by omega, i + 1, vs.map some, H7, G7, ys', rest, Vs, rfl, by omega, by rw [List.length_map]; exact hvl, I7.unpinned, T.keep _ _ _ st5 fun b hb o e => (I7.pin (b, o) (List.mem_append_right _ (List.mem_append_right _ (mem_pinsAt hb e)))).1, fun b hb => ?_, x25.trans x7, hD7, hGD7, rV7, by omega, q2, hysr⟩
        obtain ⟨ob, e, _⟩ := T.obj _ _ st5 b hb
        exact (I7.pin (b, ob) (List.mem_append_right _ (List.mem_append_right _ (mem_pinsAt hb e)))).2.1
      · simp only [if_true]
        refine thn (he s3 (upd H2 Dd (.lst [])) fp pins _ s7 (σ ++ vs.map some) H7 (fun v H8 => ∃ G8, Ext G7 H7 G8 H8 /\ Rep X.K G8 y v) I7 ⟨G7, ρ ++ ws.map some, sm5.ext x7, by rw [q5]; exact fun v G8 H8 x8 r8 => ⟨G8, x8, r8⟩⟩) fun u8 s8 ⟨v8, H8, I8, r8, G8, x8, rep8⟩ => ?_
        have hD8 : H8 Dd = some (.lst Vs) := x8.h _ _ hD7
        have hGD8 : G8 Dd = none := x8.new Dd hGD7 (by rw [hD7]; exact fun z => nomatch z)
        have hlen : Vs.length < sizeLine := by rw [<- rV.length, sizeLine_eq]; omega
        refine thn (mt_append (X := Blk X scope N' s3 (upd H2 Dd (.lst [])) fp pins) _ s8 (σ ++ vs.map some) H8 (.ref Dd) [v8] (.ref Dd) [u8] (fun _ H9 => H9 = upd H8 Dd (.lst (Vs ++ [v8]))) I8 rfl (.cons r8 .nil) ⟨Dd, Vs, v8, rfl, rfl, hD8, hlen, rfl⟩) fun _ s9 ⟨_, H9, I9, _, e9⟩ => ?_
        subst e9
        have x28 : Ext G2 H2 G8 H8 := (x25.trans x7).trans x8
        refine ⟨ds.length - (i + 1), by omega, i + 1, vs.map some, _, G8, ys' ++ [y], rest', Vs ++ [v8], rfl, by omega, by rw [List.length_map]; exact hvl, I9.unpinned, T.keep _ _ _ st5 fun b hb o e => (I9.pin (b, o) (List.mem_append_right _ (List.mem_append_right _ (mem_pinsAt hb e)))).1, fun b hb => ?_,
          ⟨x28.g, fun b o e => ?_, fun b o e => ?_, x28.new⟩, upd_same, hGD8, (rV7.mono x8.g).snoc rep8, by rw [List.length_append, List.length_singleton]; omega, q2, by rw [hysr, List.append_assoc]; rfl⟩
        · obtain ⟨ob, e, _⟩ := T.obj _ _ st5 b hb
          exact (I9.pin (b, ob) (List.mem_append_right _ (List.mem_append_right _ (mem_pinsAt hb e)))).2.1
        · rw [upd_ne (ne_of_none e hD2)]; exact x28.h b o e
        · rw [upd_ne (ne_of_none e hGD8)]; exact x28.sub b o e
    · have hie : i = ds.length := by omega
      subst hie
      have hr : rest = [] := by
        rw [List.drop_length] at hrest
        simp only [Den.compL] at hrest
        cases hrest; rfl
      subst hr
      rw [List.append_nil] at hysr
      subst hysr
      have done := T.done Y hYp hYw hYK hYc ds.length [] s' (σ ++ τ) H' (fun _ _ => False) I' (fpY fr') st' (itd.stop G' H' hPV)
      rw [hYA] at done
      refine thn done fun r s4 ⟨hr, I4⟩ => ?_
      subst hr
      obtain ⟨m4, hn4, _⟩ := I4.loc
      have eC : Y.env.locals = s3.heap.objs.size := by rw [<- hY]; rfl
      rw [eC] at hn4
      refine fin s4 H' G' s3.heap.objs.size Dd m4 (x2.trans x') ⟨Dd, Vs, rfl, hD, x2.h.free hD2, hGD, rV⟩ hn4 (I3.fpOk (Nat.le_refl _) (by have := I4.free; rw [eC] at this; exact this)) fun h' sb => ?_
      have hC' : H' s3.heap.objs.size = none := by have := I4.free; rw [eC] at this; exact this
      have un : Un (frs X.stack) fp (upd H2 Dd (.lst [])) H' s3.heap s4.heap := by have := I4.base; rw [<- hY] at this; exact this
      have neC : ∀ b o, s3.heap.get? b = some o -> b ≠ s3.heap.objs.size := fun b o e => Nat.ne_of_lt (Heap.lt_size e)
      have un' : Un (frs X.stack) fp (upd H2 Dd (.lst [])) H' s3.heap h' :=
        ⟨fun b o e n hb hx => (sb.2 b (neC b o e)).trans (un.keep b o e n hb hx), fun b o e n hb hx => by obtain ⟨sl, q⟩ := un.slot b o e n hb hx; exact ⟨sl, (sb.2 b (neC b o e)).trans q⟩, un.free,
          fun b o e hx => by obtain ⟨o', q⟩ := un.there b o e hx; exact ⟨o', (sb.2 b (neC b o e)).trans q⟩, un.tups, un.frzs, un.tbls⟩
      have hok' : HOk X.prog X.w H' h' := fun b o e => by
        have q := I4.hok b o e
        rw [hYp, hYw] at q
        refine q.stay (fun c v hc' q => (sb.2 c ?_).trans q) (fun _ q => q) fun _ _ q => q
        rcases hc' with z | z
        · rw [z]; rintro rfl; rw [hC'] at e; cases e
        · rintro rfl; rw [hC'] at z; cases z
      have os4 : s4.os = s3.os := by have := I4.os; rw [<- hY] at this; exact this
      have IX : Inv X pins σ H' { s4 with heap := h' } := I3.call' (s' := { s4 with heap := h' }) os4 un' hok' I4.bare fun b hb => by
        obtain ⟨f0, f1, f2', f3, f4, f5⟩ := hf3 b hb
        exact ⟨f3, f1, f4, f5⟩
      exact IX
  refine codeAny_compStart_list loop (T.self _ _ _ _ _ stY loop)
theorem s_comp (hc:X.calm=true) (hmu:∀ i∈mu,i < X.N.length) (B:BlockOk X scope xs N') (hk:Den.tgt k target=some xs) (hset:∀ x,foldedSetIterable iter X.env x=pure x)
  (hi:PI X target iter (tI xp X mu .view fI)) (he:∀ s3 H3 fp pins,PE (Blk X scope N' s3 H3 fp pins) elt (tM xp (Blk X scope N' s3 H3 fp pins) mu .val fe)) (ht:Tests xp X mu scope N' ifs fc) :
  PE X (.ListComp elt [⟨target,iter,ifs,0⟩] scope pos) (tM xp X mu .fresh fun ρ=>fI ρ>>=fun ds=>Den.noX (Den.compL (elf k fc fe ρ) ds)>>=fun ys=>.ok (.lst ys)):=by
 intro pins s σ H Q I ⟨G,ρ,hs,hw⟩
 rw [eval_ListComp]
 refine comp_core hc hmu B hk hset hi he ht I hs (use:=none) (Qc:=EP X pins σ Q) ?_
 have hw:=wpR_bind.mp hw
 refine wpR_bind.mpr (wpR_mono hw (fun ds k1=>?_) fun _ q=>q)
 refine wpR_mono (wpR_bind.mp k1) (fun ys k2 s4 H' G' C Dd m4 x r hn hf inv=>?_) fun _ q=>q
 exact ⟨m4,hn,fun h' sb=>⟨.ref Dd,H',inv h' sb,rfl,k2 _ G' H' x r⟩⟩
end
end Sim
end
section
namespace Sim
open PySem PySem.Spec PyProof.Rows L2
section
variable {xp:XP} {X:Cx} {mu:List Nat} {m:Md} {f fa fb:Rho->Rr D} {l a b tg:Expr} {pos p:Pos}
theorem pi_seq {tl:TE} (hl:PE X l tl):PI X tg l (fun σ H R=>tl σ H fun x H1=>∃ a xs,x=.ref a/\((SqL X.K H1 a xs/\(xs.length<=sizeLine->R (Itl X.K a) H1))\/(SqT X.K H1 a xs/\(xs.length<=sizeLine->R (Itt X.K a) H1)))):=by
 intro pins s σ H R I h
 refine thn (hl pins s σ H _ I h) fun v s1 ⟨x,H1,I1,r1,q1⟩=>?_
 obtain ⟨a,xs,e,⟨hq,q⟩ | ⟨hq,q⟩⟩:=q1
 ·subst e
  cases r1
  obtain ⟨its,rv,p,hz⟩:=I1.list hq
  refine wpAny_pyIter_list p.isList ?_
  refine ⟨s1.heap.objs.size,[s1.heap.objs.size],_,_,H1,rfl,I1.kept (t':=s1.toks) fun b o e=>Heap.get?_push_of_some _ e,turn_list a _,⟨_,Heap.get?_push_size _ rfl,rfl,rfl⟩,fun b hb=>?_,q hz⟩
  have e:b=s1.heap.objs.size:=by simpa using hb
  subst e
  exact I1.fpOk (Nat.le_refl _) (I1.hok.fresh (Nat.le_refl _))
 ·subst e
  cases r1
  obtain ⟨its,rv,p,hz⟩:=I1.tuple hq
  refine wpAny_pyIter_tuple (show s1.heap.IsTuple a its.toArray from p) ?_
  refine ⟨s1.heap.objs.size,[s1.heap.objs.size],_,_,H1,rfl,I1.kept (t':=s1.toks) fun b o e=>Heap.get?_push_of_some _ e,turn_tuple a _,⟨_,Heap.get?_push_size _ rfl,rfl,rfl⟩,fun b hb=>?_,q hz⟩
  have e:b=s1.heap.objs.size:=by simpa using hb
  subst e
  exact I1.fpOk (Nat.le_refl _) (I1.hok.fresh (Nat.le_refl _))
theorem itd_l {K:W.Frag} {P:Hp->Hp->Prop} {G:Hp} {a:Addr} {xs:List V} {ds:List D} (hP:∀ G1 H1,P G1 H1->Same G G1/\SqL K H1 a xs) (r:Reps K G ds xs):ItD K P (Itl K a) ds where
 go:=fun i G1 H1 h hi=>by
  obtain ⟨_,q⟩:=hP G1 H1 h
  have hx:i < xs.length:=by rw [<- r.length];exact hi
  exact ⟨xs,xs[i],q,List.getElem?_eq_getElem hx⟩
 yld:=fun i G1 H1 x H2 d h hs hd ⟨e,y⟩=>by
  obtain ⟨g,q⟩:=hP G1 H1 h
  subst e
  obtain ⟨v,h1,h2⟩:=r.get hd
  have:=y xs q
  rw [h1] at this
  cases this
  exact ⟨G1,Ext.refl hs,h2.mono g⟩
 stop:=fun G1 H1 h=>⟨xs,(hP G1 H1 h).2,by rw [r.length];exact Nat.le_refl _⟩
theorem itd_t {K:W.Frag} {P:Hp->Hp->Prop} {G:Hp} {a:Addr} {xs:List V} {ds:List D} (hP:∀ G1 H1,P G1 H1->Same G G1/\SqT K H1 a xs) (r:Reps K G ds xs):ItD K P (Itt K a) ds where
 go:=fun i G1 H1 h hi=>by
  obtain ⟨_,q⟩:=hP G1 H1 h
  have hx:i < xs.length:=by rw [<- r.length];exact hi
  exact ⟨xs,xs[i],q,List.getElem?_eq_getElem hx⟩
 yld:=fun i G1 H1 x H2 d h hs hd ⟨e,y⟩=>by
  obtain ⟨g,q⟩:=hP G1 H1 h
  subst e
  obtain ⟨v,h1,h2⟩:=r.get hd
  have:=y xs q
  rw [h1] at this
  cases this
  exact ⟨G1,Ext.refl hs,h2.mono g⟩
 stop:=fun G1 H1 h=>⟨xs,(hP G1 H1 h).2,by rw [r.length];exact Nat.le_refl _⟩
theorem len_line {K:W.Frag} {G:Hp} {ds:List D} {xs:List V} (r:Reps K G ds xs) (h:xs.length<=sizeLine):ds.length<=16777216:=by rw [r.length,<- sizeLine_eq];exact h
theorem s_iseq (hm:m=.view\/m=.val) (hl:PE X l (tM xp X mu m f)):PI X tg l (tI xp X mu m fun ρ=>f ρ>>=fun d=>Den.seqOf d):=by
 intro pins s σ H R I ⟨G,ρ,hs,hw⟩
 refine pi_seq hl pins s σ H R I ?_
 refine ⟨G,ρ,hs,wpR_mono (wpR_bind.mp hw) (fun d k v G1 H1 x1 r1=>?_) fun _ q=>q⟩
 cases d with
 | lst ds =>
  rcases hm with rfl | rfl
  ·obtain ⟨a,xs,rfl,kq,r⟩:=view_lst (X:=X) r1
   exact ⟨a,xs,rfl,.inl ⟨kq,fun hz=>k _ G1 H1 x1 (itd_l (G:=G1) (fun G2 H2 ⟨h1,h2⟩=>⟨h1,sqL_mono h2 kq⟩) r) (len_line r hz)⟩⟩
  ·obtain ⟨a,xs,rfl,kq,r⟩:=r1
   exact ⟨a,xs,rfl,.inl ⟨sqL_mono x1.sub kq,fun hz=>k _ G1 H1 x1 (itd_l (G:=G1) (fun G2 H2 ⟨h1,h2⟩=>⟨h1,sqL_mono h2 (sqL_mono h1 kq)⟩) r) (len_line r hz)⟩⟩
 | tup ds =>
  have r1:Rep X.K G1 (.tup ds) v:=by rcases hm with rfl | rfl <;> exact r1
  obtain ⟨a,xs,rfl,kq,r⟩:=r1
  refine ⟨a,xs,rfl,.inr ⟨sqT_mono x1.sub kq,fun hz=>k _ G1 H1 x1 (itd_t (G:=G1) (fun G2 H2 ⟨h1,h2⟩=>?_) r) (len_line r hz)⟩⟩
  rcases hm with rfl | rfl
  ·exact ⟨h1,sqT_mono h2 (sqT_mono x1.sub kq)⟩
  ·exact ⟨h1,sqT_mono h2 (sqT_mono h1 kq)⟩
 | _=>exact k.elim
theorem itd_r {K : W.Frag} {P : Hp -> Hp -> Prop} {lo hi : Int} : ItD K P (Itr lo (hi - lo).toNat) (Den.rangeL lo hi) where
  go := fun i G1 H1 _ hlt => by
    show i < (hi - lo).toNat
    unfold Den.rangeL at hlt
    simpa using hlt
  yld := fun i G1 H1 x H2 d _ hs hd ⟨e, y⟩ => by
    subst e
    unfold Den.rangeL at hd
    rw [List.getElem?_map] at hd
    cases q : (List.range (hi - lo).toNat)[i]? with
    | none => rw [q] at hd; cases hd
    | some k =>
      rw [q] at hd
      have hk : k = i := by
        have := List.getElem?_eq_some_iff.mp q
        obtain ⟨_, e⟩ := this
        rw [<- e]; simp
      subst hk
      cases hd
      exact ⟨G1, Ext.refl hs, y⟩
  stop := fun G1 H1 _ => by
    show (hi - lo).toNat <= _
    unfold Den.rangeL
    simp
theorem rng_parts {i j:Int} {Q:List D->Prop} {E:Nat->Prop} (h:wpR (Den.rngR i j) Q E):(-(2 ^ 62)<=i/\i < 2 ^ 62/\-(2 ^ 62)<=j/\j < 2 ^ 62)/\(Den.rangeL i j).length<=16777216/\Q (Den.rangeL i j):=by
 unfold Den.rngR at h
 cases q:(Den.rngOk i&&Den.rngOk j&&decide ((j - i).toNat<=1000000)) with
 | false=>rw [q] at h;exact h.elim
 | true =>
  rw [q] at h
  simp only [Bool.and_eq_true,Den.rngOk,decide_eq_true_eq] at q
  obtain ⟨⟨⟨a1,a2⟩,a3,a4⟩,a5⟩:=q
  refine ⟨⟨by omega,by omega,by omega,by omega⟩,?_,h⟩
  unfold Den.rangeL
  rw [List.length_map,List.length_range];omega
theorem s_rng {x:Str} (hx:x="range") (hg:Gl X x) (hm:X.mg x=none) (ha:PE X a (tM xp X mu .view fa)) (hst:starEach [a] X.env=[(false,eval a X.env)]) :
  PI X tg (.Call (.Name x p) [a] [] pos) (tI xp X mu m fun ρ=>fa ρ>>=fun d=>Den.asInt d>>=fun i=>Den.rngR 0 i):=by
 subst hx
 intro pins s σ H R I ⟨G,ρ,hs,hw⟩
 refine pi_range1 hg hm (pa_one ha hst) hst pins s σ H R I ?_
 refine ⟨G,ρ,hs,wpR_mono (wpR_bind.mp hw) (fun d k v G1 H1 x1 r1=>?_) fun _ q=>q⟩
 have k:=wpR_bind.mp k
 cases d with
 | int i =>
  obtain ⟨⟨_,_,b1,b2⟩,hz,q⟩:=rng_parts k
  refine ⟨i,by rw [RepM.of_int r1],b1,b2,?_⟩
  have:=q (Itr 0 (i - 0).toNat) G1 H1 x1 itd_r hz
  rw [Int.sub_zero] at this
  exact this
 | _=>exact k.elim
theorem s_rng2 {x:Str} (hx:x="range") (hg:Gl X x) (hm:X.mg x=none) (ha:PE X a (tM xp X mu .view fa)) (hb:PE X b (tM xp X mu .view fb)) (hst:starEach [a,b] X.env=[(false,eval a X.env),(false,eval b X.env)]) (hst2:starEach [b] X.env=[(false,eval b X.env)]) :
  PI X tg (.Call (.Name x p) [a,b] [] pos) (tI xp X mu m fun ρ=>fa ρ>>=fun d=>Den.asInt d>>=fun i=>fb ρ>>=fun e=>Den.asInt e>>=fun j=>Den.rngR i j):=by
 subst hx
 intro pins s σ H R I ⟨G,ρ,hs,hw⟩
 refine pi_range2 hg hm (pa_cons ha (pa_one hb hst2) (by rw [hst,hst2])) hst hst2 pins s σ H R I ?_
 refine ⟨G,ρ,hs,wpR_mono (wpR_bind.mp hw) (fun d k v G1 H1 x1 r1=>?_) fun _ q=>q⟩
 have k:=wpR_bind.mp k
 cases d with
 | int i =>
  refine ⟨G1,ρ,hs.ext x1,wpR_mono (wpR_bind.mp k) (fun e k2 v2 G2 H2 x2 r2=>?_) fun _ q=>q.mono x1.h⟩
  have k2:=wpR_bind.mp k2
  cases e with
  | int j =>
   obtain ⟨b1,hz,q⟩:=rng_parts k2
   refine ⟨i,j,by rw [RepM.of_int r1,RepM.of_int r2],b1,?_⟩
   exact q _ G2 H2 (x1.trans x2) itd_r hz
  | _=>exact k2.elim
 | _=>exact k.elim
end
end Sim
end
section
namespace Sim
open PySem PySem.Spec PyProof.Rows L2
section
variable {xp:XP} {X:Cx} {mu:List Nat} {m:Md} {f fa fb:Rho->Rr D} {l a b tg:Expr} {pos p:Pos} {pins:List (Addr×Obj)} {σ:Sg} {G H:Hp} {s:Shared}
theorem bls_V {K:W.Frag}:∀ {ds:List D} {bs:List Bool} {xs:List V},Den.blsOf ds=some bs->Reps K G ds xs->xs=bs.map V.bl
 | [],bs,xs,h,r=>by cases h;exact r
 | d::ds,bs,xs,h,⟨v,t,e,r1,r2⟩=>by
  subst e
  cases d with
  | bl b =>
   simp only [Den.blsOf] at h
   cases q:Den.blsOf ds with
   | none=>rw [q] at h;cases h
   | some cs =>
    rw [q] at h
    simp only [Option.map_some,Option.some.injEq] at h
    subst h
    have r1:v=.bl b:=r1
    rw [r1,bls_V q r2];rfl
  | _=>simp only [Den.blsOf] at h;cases h
theorem vals_bl:∀ {bs:List Bool} {us:List Value},Vals (bs.map V.bl) us->us=bs.map Value.bool
 | [],_,r=>by cases r;rfl
 | b::bs,_,r=>by
  cases r with
  | cons r1 r2=>rw [vals_bl r2,(show _=Value.bool b from r1)];rfl
theorem bools_walk (hc:X.calm=true) (I:Inv X pins σ H s) {a:Addr} {bs:List Bool} (h:SqL X.K H a (bs.map V.bl)\/SqT X.K H a (bs.map V.bl)) {Q:Value->Shared->Prop} {r:List Nat->(Nat->Bool)->Bool}
  (hq:∀ h' tk,Inv X pins σ H { s with heap:=h',toks:=tk }->Q (.bool (r (List.range bs.length) fun i=>bs.getD i false)) { s with heap:=h',toks:=tk }) :
  wpAny (model X.prog X.w) X.A.in1 (pyIter (.ref a)) (fun it s₂=>∃ I fp wr n P St tr,it=.ref I/\Walks X.prog X.w X.A.in1 I fp wr n P St/\St 0 s₂.heap/\TruthOf X.prog X.w X.A.in1 P tr /\
   ∀ h' tk,(∀ b o,b∉wr->s₂.heap.get? b=some o->h'.get? b=some o)->Q (.bool (r (List.range n) tr)) { s₂ with heap:=h',toks:=tk }) X.xe s:=by
 have hh:X.A.in1.handled=none:=I.ok.hd hc
 have tru:∀ its:List Value,its=bs.map Value.bool->TruthOf X.prog X.w X.A.in1 (fun i v=>its.toArray[i]?=some v) fun i=>bs.getD i false:=by
  intro its e i v s Q E hv hQ
  subst e
  have hv:(bs.map Value.bool)[i]?=some v:=by simpa using hv
  rw [List.getElem?_map] at hv
  cases q:bs[i]? with
  | none=>rw [q] at hv;cases hv
  | some b =>
   rw [q] at hv
   cases hv
   refine wpAny_truthy_bool ?_
   have:bs.getD i false=b:=by simp [List.getD,q]
   have hQ:Q (bs.getD i false) s:=hQ
   rw [this] at hQ;exact hQ
 rcases h with h | h
 ·obtain ⟨its,rv,pl,hz⟩:=I.list h
  have e:=vals_bl rv
  have hl:its.toArray.size=bs.length:=by rw [List.size_toArray,e,List.length_map]
  refine wpAny_pyIter_list pl.isList ?_
  have hne:a≠s.heap.objs.size:=by obtain ⟨o,n,ho,_⟩:=pl;exact Nat.ne_of_lt (Heap.lt_size ho)
  refine ⟨s.heap.objs.size,_,_,_,_,_,fun i=>bs.getD i false,rfl,Walks.list hh _ a hne its.toArray,⟨⟨_,Heap.get?_push_size _ rfl,rfl,rfl⟩,(let ⟨o,ho,r⟩:=pl.isList;⟨o,Heap.get?_push_of_some _ ho,r⟩)⟩,tru its e,fun h' tk hk=>?_⟩
  rw [hl]
  refine hq h' tk (I.kept fun b o e=>hk b o (by simp;exact Nat.ne_of_lt (Heap.lt_size e)) (Heap.get?_push_of_some _ e))
 ·obtain ⟨its,rv,pl,hz⟩:=I.tuple h
  have e:=vals_bl rv
  have hl:its.toArray.size=bs.length:=by rw [List.size_toArray,e,List.length_map]
  refine wpAny_pyIter_tuple (show s.heap.IsTuple a its.toArray from pl) ?_
  have hne:a≠s.heap.objs.size:=by obtain ⟨o,ho,_⟩:=pl;exact Nat.ne_of_lt (Heap.lt_size ho)
  refine ⟨s.heap.objs.size,_,_,_,_,_,fun i=>bs.getD i false,rfl,Walks.tuple hh _ a hne its.toArray,⟨⟨_,Heap.get?_push_size _ rfl,rfl,rfl⟩,(let ⟨o,ho,r⟩:=pl;⟨o,Heap.get?_push_of_some _ ho,r⟩)⟩,tru its e,fun h' tk hk=>?_⟩
  rw [hl]
  refine hq h' tk (I.kept fun b o e=>hk b o (by simp;exact Nat.ne_of_lt (Heap.lt_size e)) (Heap.get?_push_of_some _ e))
theorem range_getD (bs:List Bool):(List.range bs.length).map (fun i=>bs.getD i false)=bs:=by
 apply List.ext_getElem?
 intro i
 rw [List.getElem?_map]
 by_cases h:i < bs.length
 ·rw [List.getElem?_range h];simp [List.getD,h]
 ·rw [List.getElem?_eq_none (by simpa using h),List.getElem?_eq_none (by simpa using h)];rfl
theorem all_range (bs:List Bool):(List.range bs.length).all (fun i=>bs.getD i false)=bs.all id:=by
 conv=>rhs;rw [<- range_getD bs]
 rw [List.all_map];rfl
theorem any_range (bs:List Bool):(List.range bs.length).any (fun i=>bs.getD i false)=bs.any id:=by
 conv=>rhs;rw [<- range_getD bs]
 rw [List.any_map];rfl
theorem seq_view (hs:Same G H) {d:D} {x:V} (vx:View X.K G H d x) {Q:List D->Prop} {E:Nat->Prop} (h:wpR (Den.seqOf d) Q E):∃ ds a xs,x=.ref a/\(SqL X.K H a xs\/SqT X.K H a xs)/\Reps X.K G ds xs/\Q ds:=by
 cases d with
 | tup ds =>
  obtain ⟨a,ys,rfl,k,q⟩:=view_tup hs vx
  exact ⟨ds,a,ys,rfl,.inr k,q,h⟩
 | lst ds =>
  obtain ⟨a,ys,rfl,k,q⟩:=view_lst vx
  exact ⟨ds,a,ys,rfl,.inl k,q,h⟩
 | _=>exact h.elim
theorem wpR_bls {ds:List D} {Q:Bool->Prop} {E:Nat->Prop} {r:List Bool->Bool} (h:wpR (match Den.blsOf ds with | some bs=>Den.R.ok (r bs) | none=>.bad) Q E):∃ bs,Den.blsOf ds=some bs/\Q (r bs):=by
 cases q:Den.blsOf ds with
 | none=>rw [q] at h;exact h.elim
 | some bs=>rw [q] at h;exact ⟨bs,rfl,h⟩
theorem f_all (hc:X.calm=true):CallR X (.builtin "all") (rF X.K m fun d=>Den.seqOf d>>=fun xs=>Den.allD xs>>=fun b=>.ok (.bl b)):=by
 intro pins s σ H xs us Q I r ⟨G,x,d,ex,hs,vx,hw⟩
 subst ex
 obtain ⟨u,rfl,rx⟩:=vals1 r
 obtain ⟨ds,a,ys,rfl,hq,rs,hw⟩:=seq_view hs vx (wpR_bind.mp hw)
 obtain ⟨bs,e,hw⟩:=wpR_bls (r:=fun bs=>bs.all id) (wpR_bind.mp hw)
 rw [bls_V e rs] at hq
 cases rx
 refine call_all_walk (bools_walk hc I hq (r:=fun l t=>l.all t) fun h' tk I'=>?_)
 rw [all_range]
 exact ⟨.bl _,H,I',rfl,hw _ G H (Ext.refl hs) RepM.bl⟩
theorem f_any (hc:X.calm=true):CallR X (.builtin "any") (rF X.K m fun d=>Den.seqOf d>>=fun xs=>Den.anyD xs>>=fun b=>.ok (.bl b)):=by
 intro pins s σ H xs us Q I r ⟨G,x,d,ex,hs,vx,hw⟩
 subst ex
 obtain ⟨u,rfl,rx⟩:=vals1 r
 obtain ⟨ds,a,ys,rfl,hq,rs,hw⟩:=seq_view hs vx (wpR_bind.mp hw)
 obtain ⟨bs,e,hw⟩:=wpR_bls (r:=fun bs=>bs.any id) (wpR_bind.mp hw)
 rw [bls_V e rs] at hq
 cases rx
 refine call_any_walk (bools_walk hc I hq (r:=fun l t=>l.any t) fun h' tk I'=>?_)
 rw [any_range]
 exact ⟨.bl _,H,I',rfl,hw _ G H (Ext.refl hs) RepM.bl⟩
end
end Sim
end
section
namespace Sim
open PySem PySem.Spec PyProof.Rows L2
section
variable {prog:Program} {w:World} {A:Around} {E:Value->Shared->Prop} {s:Shared}
theorem getItem_tuple_all {t sl:Addr} {items:Array Value} {vl vu:Value} {lo hi:Option Int} {Q:Value->Shared->Prop} (ht:IsTup s.heap t items) (hs:s.heap.IsSliceOf sl vl vu .none) (pl:IsPart vl lo) (pu:IsPart vu hi)
  (hw:HT.sIx items.size 0 lo=0/\HT.sIx items.size items.size hi=items.size) (h:Q (.ref t) s):wpAny (model prog w) A (getItem (.ref t) (.ref sl)) Q E s:=by
 obtain ⟨os,hos,hcs,hds⟩:=id hs
 have hTs:s.TypeIs (.ref sl) "slice":=⟨os,hos,hcs⟩
 unfold getItem
 try with_reducible refine wpAny_holding ?_
 first | refine wpAny_bind (wpAny_pure ?_) | skip
 refine wpAny_bind (wpAny_sequenceKey ht.typeIs (by decide) ?_)
 refine wpAny_bind (wpAny_callSpecial?_slot (name:=Str.ofString "__getitem__") ht.typeIs PyProof.Rows.slot_tuple_getitem
  (wpAny_call_entry PyProof.Rows.slot_tuple_getitem ht.typeIs entry_tuple_getitem ?_ (args_tuple_getitem _ _)))
 show wpAny _ _ (Builtin.Tuple.tupleItemsOf (.ref t)>>=_) _ _ s
 refine wpAny_bind (PyProof.Rows.tupleItemsOf_ ht ?_)
 refine wpAny_bind (wpAny_typeOf hTs ?_)
 rw [if_pos (by decide)]
 refine wpAny_bind (HT.sliceApplied_gen hs pl pu ?_)
 have hyes:(((HT.sIx items.size 0 lo:Nat):Int)==0&&(1:Int)==1&&(HT.sIx items.size items.size hi - HT.sIx items.size 0 lo)==items.size)=true:=by
  rw [hw.1,hw.2];simp
 show wpAny _ _ (if (((HT.sIx items.size 0 lo:Nat):Int)==0&&(1:Int)==1&&(HT.sIx items.size items.size hi - HT.sIx items.size 0 lo)==items.size)=true then _ else _) _ _ s
 rw [if_pos hyes]
 unfold Builtin.Tuple.tupleIsExact
 refine wpAny_bind (wpAny_bind (wpAny_typeOf ht.typeIs (wpAny_pure ?_)))
 rw [if_pos (by decide)]
 refine wpAny_bind (wpAny_rule (wpAny_pure ⟨_,rfl,wpAny_pure h⟩))
theorem sliceApplied_rev {sl:Addr} {vk:Value} {n:Nat} {Q:Int×Int×Nat->Shared->Prop} (hs:s.heap.IsSliceOf sl .none .none vk) (pk:IsPart vk (some (-1)))
  (h:Q ((n:Int) - 1,-1,n) s):wpAny (model prog w) A (Builtin.Slice.sliceApplied (.ref sl) (pure (n:Int))) Q E s:=by
 obtain ⟨os,hos,hcs,hds⟩:=id hs
 unfold Builtin.Slice.sliceApplied Builtin.Slice.sliceFields
 refine wpAny_bind (wpAny_bind (wpAny_field hos hds (x:=.none) rfl (wpAny_bind (wpAny_field hos hds (x:=.none) rfl (wpAny_bind (wpAny_field hos hds (x:=vk) rfl (wpAny_pure ?_)))))))
 refine wpAny_bind (HT.slicePart_ pk ?_)
 show wpAny _ _ (if ((-1:Int)==0)=true then _ else _) _ _ s
 rw [if_neg (by decide)]
 refine wpAny_bind (slicePart_none (wpAny_bind (slicePart_none (wpAny_bind (wpAny_pure ?_)))))
 show wpAny _ _ (pure ((n:Int) - 1,(-1:Int),Builtin.Slice.slicePlaces ((n:Int) - 1) (-1) (-1))) _ _ s
 have e:Builtin.Slice.slicePlaces ((n:Int) - 1) (-1) (-1)=n:=by
  unfold Builtin.Slice.slicePlaces
  rw [if_neg (by decide)]
  have e1:(-(-1:Int))=1:=by decide
  rw [e1,Int.ediv_one]
  split <;> omega
 rw [e]
 exact wpAny_pure h
theorem pick_rev (xs : Array Value) : ((List.range xs.size).filterMap fun (m : Nat) => xs[(((xs.size : Int) - 1) + (m : Int) * (-1)).toNat]?).toArray = xs.toList.reverse.toArray := by
  congr 1
  have e : (List.range xs.size).filterMap (fun (m : Nat) => xs[(((xs.size : Int) - 1) + (m : Int) * (-1)).toNat]?) = ((List.range xs.size).map fun k => xs.size - 1 - k).filterMap (xs[·]?) := by
    rw [List.filterMap_map]
    have key : ∀ l : List Nat, (∀ m ∈ l, m < xs.size) -> l.filterMap (fun (m : Nat) => xs[(((xs.size : Int) - 1) + (m : Int) * (-1)).toNat]?) = l.filterMap ((fun x => xs[x]?) ∘ fun k => xs.size - 1 - k) := fun l => by
      induction l with
      | nil => intro _; rfl
      | cons m l ih =>
        intro h
        have hm := h m List.mem_cons_self
        have e : (((xs.size : Int) - 1) + (m : Int) * (-1)).toNat = xs.size - 1 - m := by omega
        rw [List.filterMap_cons, List.filterMap_cons, ih fun z hz => h z (List.mem_cons_of_mem _ hz), e]
        rfl
    exact key _ fun m hm => List.mem_range.mp hm
  rw [e, PySem.W.krv_range, List.filterMap_reverse, PySem.W.krv_all]
theorem getItem_tuple_rev {t sl:Addr} {items:Array Value} {vk:Value} {Q:Value->Shared->Prop} (ht:IsTup s.heap t items) (hs:s.heap.IsSliceOf sl .none .none vk) (pk:IsPart vk (some (-1)))
  (h:Q (.ref s.heap.objs.size) { s with heap:=s.heap.push { cls:=.type "tuple",data:=.seq items.toList.reverse.toArray } })
  (hsz:items.size<=sizeLine):wpAny (model prog w) A (getItem (.ref t) (.ref sl)) Q E s:=by
 have htake:sizeOk (.seq items.toList.reverse.toArray):=by
  show items.toList.reverse.toArray.size<=sizeLine
  simpa using hsz
 obtain ⟨os,hos,hcs,hds⟩:=id hs
 have hTs:s.TypeIs (.ref sl) "slice":=⟨os,hos,hcs⟩
 unfold getItem
 try with_reducible refine wpAny_holding ?_
 first | refine wpAny_bind (wpAny_pure ?_) | skip
 refine wpAny_bind (wpAny_sequenceKey ht.typeIs (by decide) ?_)
 refine wpAny_bind (wpAny_callSpecial?_slot (name:=Str.ofString "__getitem__") ht.typeIs PyProof.Rows.slot_tuple_getitem
  (wpAny_call_entry PyProof.Rows.slot_tuple_getitem ht.typeIs entry_tuple_getitem ?_ (args_tuple_getitem _ _)))
 show wpAny _ _ (Builtin.Tuple.tupleItemsOf (.ref t)>>=_) _ _ s
 refine wpAny_bind (PyProof.Rows.tupleItemsOf_ ht ?_)
 refine wpAny_bind (wpAny_typeOf hTs ?_)
 rw [if_pos (by decide)]
 refine wpAny_bind (sliceApplied_rev hs pk ?_)
 show wpAny _ _ (if (((items.size:Int) - 1)==0&&(-1:Int)==1&&items.size==items.size)=true then _ else _) _ _ s
 have e0:((-1:Int)==1)=false:=by decide
 rw [if_neg (by rw [e0,Bool.and_false,Bool.false_and];exact Bool.false_ne_true),pick_rev]
 first
  | exact wpAny_bind (m:=Builtin.Tuple.tupleExact _) (wpAny_newObj_type (wpAny_pure ⟨_,rfl,wpAny_pure h⟩) htake)
  | exact wpAny_bind (m:=Builtin.Tuple.tupleExact _) (wpAny_newObj_type (wpAny_bind (wpAny_pure (wpAny_pure ⟨_,rfl,wpAny_pure h⟩))) htake)
  | exact wpAny_bind (wpAny_bind (m:=Builtin.Tuple.tupleExact _) (wpAny_newObj_type (wpAny_pure (wpAny_pure ⟨_,rfl,wpAny_pure h⟩)) htake))
  | exact wpAny_bind (wpAny_bind (m:=Builtin.Tuple.tupleExact _) (wpAny_newObj_type (wpAny_pure ⟨_,rfl,wpAny_pure h⟩) htake))
end
section
variable {xp:XP} {X:Cx} {mu:List Nat} {m:Md} {f fa fb:Rho->Rr D} {fl fh:Rho->Rr (Option Int)} {a b tg:Expr} {lo hi:Option Expr} {pos p p2:Pos} {pins:List (Addr×Obj)} {σ:Sg} {G H:Hp} {s:Shared}
theorem sIx_eq (n d:Nat) (o:Option Int):Den.sIx n d o=HT.sIx n d o:=by
 cases o with
 | none=>rfl
 | some i =>
  simp only [Den.sIx,HT.sIx]
  by_cases h:i < 0
  ·rw [if_pos h,if_pos h];split <;> omega
  ·rw [if_neg h,if_neg h];split <;> omega
theorem cut_V {K:W.Frag} {ds:List D} {xs:List V} (r:Reps K G ds xs) (lo hi:Option Int):Reps K G (Den.cut ds lo hi) (cutV xs lo hi):=by
 unfold Den.cut cutV
 rw [sIx_eq,sIx_eq,r.length]
 exact (r.drop _).take _
def tOm (xp:XP) (X:Cx) (mu:List Nat) (f:Rho->Rr (Option Int)):TO:=fun σ H Q =>
 ∃ G ρ,Sm X.K mu G H ρ σ/\wpR (f ρ) (fun o=>∀ G' H',Ext G H G' H'->Q o H') (fun c=>RaiseOk xp X c H)
theorem s_noPart:PO X none (tOm xp X mu fun _=>.ok none):=by
 intro pins s σ H Q I ⟨G,ρ,hs,hw⟩
 exact po_none pins s σ H Q I (hw G H (Ext.refl hs.sub))
theorem s_part (ha:PE X a (tM xp X mu .view fa)):PO X (some a) (tOm xp X mu fun ρ=>fa ρ>>=fun x=>Den.asInt x>>=fun i=>.ok (some i)):=by
 intro pins s σ H Q I ⟨G,ρ,hs,hw⟩
 refine po_some ha pins s σ H Q I ?_
 refine ⟨G,ρ,hs,wpR_mono (wpR_bind.mp hw) (fun d k v G1 H1 x1 r1=>?_) fun _ q=>q⟩
 cases d with
 | int i=>exact ⟨i,RepM.of_int r1,k G1 H1 x1⟩
 | _=>exact k.elim
def rSl (K:W.Frag):V->Option Int->Option Int->Hp->VK->Prop:=fun x lo hi H Q =>
 ∃ G d,Same G H/\View K G H d x/\wpR (Den.sliceD d lo hi) (fun d'=>∀ v G' H',Ext G H G' H'->RepM K H G' H' .fresh d' v->Q v H') (fun _=>False)
theorem sl_all:SlR X (fun x lo hi H Q=>∃ a xs,x=.ref a/\SqT X.K H a xs/\(HT.sIx xs.length 0 lo=0/\HT.sIx xs.length xs.length hi=xs.length)/\Q (.ref a) H):=by
 intro pins s σ H x v vl vu lo hi sl Q I rx hs pl pu h
 obtain ⟨a,xs,rfl,hx,hw,q⟩:=h
 cases rx
 obtain ⟨its,r,ht,hz⟩:=I.tuple hx
 have hlen:its.toArray.size=xs.length:=by rw [List.size_toArray];exact r.length.symm
 refine ⟨"tuple",_,PyProof.Rows.slot_tuple_getitem.lookup,ht.typeIs,?_⟩
 exact getItem_tuple_all ht hs pl pu (by rw [hlen];exact hw) ⟨.ref a,H,I,rfl,q⟩
theorem cut_all {ds:List D} {lo hi:Option Int} (h:HT.sIx ds.length 0 lo=0/\HT.sIx ds.length ds.length hi=ds.length):Den.cut ds lo hi=ds:=by
 unfold Den.cut
 rw [sIx_eq,sIx_eq,h.1,h.2];simp
theorem sl_D:SlR X (rSl X.K):=by
 intro pins s σ H x v vl vu lo hi sl Q I rx hs pl pu ⟨G,d,hsm,vx,hw⟩
 cases d with
 | tup ds =>
  obtain ⟨a,xs,rfl,k,r⟩:=view_tup hsm vx
  by_cases hall:HT.sIx xs.length 0 lo=0/\HT.sIx xs.length xs.length hi=xs.length
  ·refine sl_all pins s σ H _ v vl vu lo hi sl Q I rx hs pl pu ⟨a,xs,rfl,k,hall,?_⟩
   rw [Den.slice_tup,cut_all (by rw [r.length];exact hall)] at hw
   exact hw _ G H (Ext.refl hsm) vx
  ·refine sl_tup pins s σ H _ v vl vu lo hi sl Q I rx hs pl pu ⟨a,xs,rfl,k,hall,fun p hp=>?_⟩
   rw [Den.slice_tup] at hw
   exact hw _ (upd G p (.tup (cutV xs lo hi))) _ (Ext.put hsm hp) ⟨p,_,rfl,SqT.of upd_same,(cut_V r lo hi).mono (same_upd (hsm.free hp))⟩
 | lst ds =>
  obtain ⟨a,xs,rfl,k,r⟩:=view_lst vx
  refine sl_list pins s σ H _ v vl vu lo hi sl Q I rx hs pl pu ⟨a,xs,rfl,k,fun p hp=>?_⟩
  rw [Den.slice_lst] at hw
  exact hw _ G _ (Ext.own hsm hp) ⟨p,_,rfl,upd_same,hp,hsm.free hp,cut_V r lo hi⟩
 | _=>exact hw.elim
theorem sl_noexc {d:D} {lo hi:Option Int} {c:Nat}:Den.sliceD d lo hi≠.exc c:=by cases d <;> simp [Den.sliceD]
theorem s_slice (ha:PE X a (tM xp X mu .view fa)) (hl:PO X lo (tOm xp X mu fl)) (hh:PO X hi (tOm xp X mu fh)) :
  PE X (.Subscript a (.Slice lo hi none p2) pos) (tM xp X mu .fresh fun ρ=>fa ρ>>=fun x=>fl ρ>>=fun l=>fh ρ>>=fun h=>Den.sliceD x l h):=by
 intro pins s σ H Q I ⟨G,ρ,hs,hw⟩
 refine pe_slice sl_D ha hl hh pins s σ H Q I ?_
 refine ⟨G,ρ,hs,wpR_mono (wpR_bind.mp hw) (fun dx kx v G1 H1 x1 r1=>?_) fun _ q=>q⟩
 refine ⟨G1,ρ,hs.ext x1,wpR_mono (wpR_bind.mp kx) (fun l k G2 H2 x2=>?_) fun _ q=>q.mono x1.h⟩
 refine ⟨G2,ρ,(hs.ext x1).ext x2,wpR_mono (wpR_bind.mp k) (fun h k2 G3 H3 x3=>?_) fun _ q=>(q.mono x1.h).mono x2.h⟩
 refine ⟨G3,dx,x3.sub,View.ext x3 (View.ext x2 r1),?_⟩
 exact wpR_mono (wp_noexc k2 (fun c=>sl_noexc)) (fun d q v4 G4 H4 x4 r4=>q v4 G4 H4 (((x1.trans x2).trans x3).trans x4) (((r4.old x3.h).old x2.h).old x1.h)) fun _ q=>q
end
end Sim
end
section
namespace Sim
open PySem PySem.Spec PyProof.Rows L2
section
variable {prog:Program} {w:World} {A:Around} {E:Value->Shared->Prop} {s:Shared}
theorem sorted_of {src:Value} {Q:Value->Shared->Prop}
  (hc:wpAny (model prog w) A.in1 (collect src) (fun vs s1=>∃ (κ:SortKind) (lt:Nat->Nat->Bool),vs.length < 64/\(Ks.outOf lt vs).length=vs.length /\
   (2<=vs.length->∀ (h':Heap),(∀ b o,s1.heap.get? b=some o->h'.get? b=some o)->∀ Q':SortKind->Shared->Prop,Q' κ { s1 with heap:=h' }->wpAny (model prog w) A.in1.in1 (keyKind' vs.toArray) Q' (fun _ _=>False) { s1 with heap:=h' }) /\
   (2<=vs.length->∀ (h':Heap),(∀ b o,s1.heap.get? b=some o->h'.get? b=some o)->∀ (i j:Nat) (C:Bool->Shared->Prop),i < vs.length->j < vs.length->C (lt i j) { s1 with heap:=h' }->PySem.W.kas_ask prog w A.in1.in1 κ vs i j C { s1 with heap:=h' }) /\
   ∀ (h':Heap) (c:Nat),(∀ b o,s1.heap.get? b=some o->h'.get? b=some o)->h'.get? s1.heap.objs.size=some (seqObj "list" (Ks.outOf lt vs).toArray c)->Q (.ref s1.heap.objs.size) { s1 with heap:=h' }) (fun _ _=>False) s) :
  wpAny (model prog w) A (call (.builtin "sorted") [src]) Q E s:=by
 refine Calls.call_function_entry kind_sorted plain_sorted entry_sorted (args_sorted1 _) ?_
 unfold Builtin.«sorted»
 refine wpAny_bind (m:=checkCount "sorted" 1 1 _) (wpAny_pure ?_)
 refine wpAny_bind (wpAny_mono hc (fun vs s1 hx=>?_) fun _ _ z=>z.elim)
 obtain ⟨κ,lt,h64,hlen,hk,hcm,hq⟩:=hx
 refine wpAny_bind (wpAny_newList ?_ (by rw [sizeLine_eq];omega))
 have hoL:(s1.heap.push (seqObj "list" vs.toArray 0)).get? s1.heap.objs.size=some (seqObj "list" vs.toArray 0):=Heap.get?_push_size _ rfl
 have keep:∀ {h':Heap},(∀ b o,b≠s1.heap.objs.size->(s1.heap.push (seqObj "list" vs.toArray 0)).get? b=some o->h'.get? b=some o)->∀ b o,s1.heap.get? b=some o->h'.get? b=some o:=fun hk' b o q =>
  hk' b o (Nat.ne_of_lt (Heap.lt_size q)) (Heap.get?_push_of_some _ q)
 show wpAny _ _ _ _ _ { s1 with heap:=s1.heap.push (seqObj "list" vs.toArray 0) }
 refine wpAny_bind (wpAny_holding (wpAny_call_entry slot_list_sort ⟨_,hoL,rfl⟩ entry_list_sort ?body (args_list_sort _)))
 case body =>
  refine Ks.list_sort_at (s:={ s1 with heap:=s1.heap.push (seqObj "list" vs.toArray 0) }) (κ:=κ) (lt:=lt) hoL h64 hlen (fun h2 h' k Q' q=>?_) (fun h2 h' k=>hcm h2 h' (keep k)) fun h' c k hg=>?_
  ·exact wpAny_mono (hk h2 h' (keep k) Q' q) (fun _ _ z=>z) fun _ _ z=>z.elim
  ·exact ⟨_,rfl,wpAny_pure ⟨_,rfl,hq h' c (keep k) hg⟩⟩
end
abbrev tD (c:List Int):D:=Pu.cD c
theorem ints_of {ds:List D} (h:ds.all (Den.isLv 0)=true):∃ ns:List Int,ds=ns.map Den.D.int:=lvs0 h
theorem tups_of:∀ {ds:List D},ds.all Den.isCv=true->∃ ks:List (List Int),ds=ks.map tD/\∀ k∈ks,k≠[]
 | [],_=>⟨[],rfl,by simp⟩
 | d::ds,h=>by
  simp only [List.all_cons,Bool.and_eq_true] at h
  obtain ⟨ks,rfl,hk⟩:=tups_of h.2
  cases d with
  | tup xs =>
   cases xs with
   | nil=>cases h.1
   | cons x xs =>
    have h1:(Den.isLv 0 x&&xs.all (Den.isLv 0))=true:=h.1
    have h1:(x::xs).all (Den.isLv 0)=true:=h1
    obtain ⟨ns,e⟩:=lvs0 h1
    refine ⟨ns::ks,by rw [e];rfl,fun k hk'=>?_⟩
    rcases List.mem_cons.mp hk' with rfl | hk'
    ·rintro rfl;cases e
    ·exact hk k hk'
  | _=>cases h.1
section
variable {X:Cx} {pins:List (Addr×Obj)} {σ:Sg} {G H:Hp} {s:Shared}
theorem tupsI_of (I:Inv X pins σ H s) (hs:Same G H):∀ {ks:List (List Int)} {xs:List V} {us:List Value},(∀ k∈ks,k≠[])->Reps X.K G (ks.map tD) xs->Vals xs us->Ks.TupsI s.heap us ks
 | [],_,_,_,r,v=>by cases r;cases v;exact trivial
 | k::ks,_,_,hn,⟨x,t,e,r1,r2⟩,v=>by
  subst e
  cases v with
  | cons v1 v2 =>
   obtain ⟨a,ys,rfl,h,q⟩:=r1
   cases v1
   obtain ⟨its,rv,⟨o,ho,hc,n,hd⟩,_⟩:=I.tuple (sqT_mono hs h)
   rw [reps_ints q] at rv
   exact ⟨⟨a,o,its.toArray,n,rfl,ho,hc,hd,by simpa using intsAre_of rv,hn k List.mem_cons_self⟩,tupsI_of I hs (fun z hz=>hn z (List.mem_cons_of_mem _ hz)) r2 v2⟩
theorem reps_pick {K:W.Frag} {ds:List D} {xs:List V} {us:List Value} (r:Reps K G ds xs) (v:Vals xs us):∀ {p:List Nat},(∀ i∈p,i < ds.length) ->
  ∃ ys,Reps K G (p.map fun i=>ds.getD i .non) ys/\Vals ys (p.map fun i=>us.getD i Value.none)
 | [],_=>⟨[],rfl,.nil⟩
 | i::p,h=>by
  obtain ⟨ys,h1,h2⟩:=reps_pick r v (p:=p) fun j hj=>h j (List.mem_cons_of_mem _ hj)
  have hi:=h i List.mem_cons_self
  have e:ds[i]?=some (ds.getD i .non):=by rw [List.getElem?_eq_getElem hi];simp [List.getD,List.getElem?_eq_getElem hi]
  obtain ⟨y,k1,k2⟩:=r.get e
  obtain ⟨u,k3,k4⟩:=v.get k1
  have e2:us.getD i Value.none=u:=by simp [List.getD,k3]
  exact ⟨y::ys,⟨y,ys,rfl,k2,h1⟩,by rw [List.map_cons,e2];exact .cons k4 h2⟩
theorem reps_sorted {K : W.Frag} {κ : Type} {f : κ -> D} {lt : κ -> κ -> Bool} (L : Pu.Lin lt) (hf : ∀ a b, Den.ltD (f a) (f b) = some (lt a b)) (z : κ) {ks : List κ} {xs : List V} {us : List Value} (r : Reps K G (ks.map f) xs) (v : Vals xs us) :
    ∃ ys, Reps K G (Den.sortD (ks.map f)) ys /\ Vals ys (Ks.outOf (Ks.ltI lt z ks) us) := by
  have hl : us.length = ks.length := by rw [<- v.length, <- r.length, List.length_map]
  rw [Pu.sortD_map hf]
  unfold Ks.outOf
  by_cases c : us.length < 2
  · rw [if_pos c]
    have : Pu.srt lt ks = ks := by
      match ks, hl with
      | [], _ => rfl
      | [_], _ => rfl
      | _ :: _ :: _, hl => simp at hl; omega
    rw [this]
    exact ⟨xs, r, v⟩
  · rw [if_neg c, hl]
    obtain ⟨h1, h2, h3⟩ := Ks.sort_ok (Ks.ord_of L z ks) (n := ks.length) (by omega)
    obtain ⟨ys, k1, k2⟩ := reps_pick r v (p := (Ks.run (Ks.ltI lt z ks) (PySem.W.kas_sort ks.length)).toList) fun i hi => by
      have := h1.mem_iff.mp hi
      rw [List.length_map]
      simpa using this
    refine ⟨ys, ?_, k2⟩
    rw [<- Ks.sorted_keys L z ks (by omega), List.map_map]
    have e : ((Ks.run (Ks.ltI lt z ks) (PySem.W.kas_sort ks.length)).toList.map fun i => (ks.map f).getD i .non) = ((Ks.run (Ks.ltI lt z ks) (PySem.W.kas_sort ks.length)).toList.map (f ∘ fun i => ks.getD i z)) := by
      apply List.map_congr_left
      intro i hi
      have hi : i < ks.length := by simpa using h1.mem_iff.mp hi
      simp [List.getD, List.getElem?_map, List.getElem?_eq_getElem hi]
    rw [<- e]; exact k1
theorem sort_fin {Q:VK} {ds:List D} {xs:List V} {us:List Value} (hh:X.A.handled=none) (I:Inv X pins σ H s) (hs:Same G H) (r:Reps X.K G ds xs) (v:Vals xs us) (hlv:Den.lvOk ds=true) (h63:ds.length<=63)
  (k:∀ v G' H',Ext G H G' H'->RepM X.K H G' H' .fresh (.lst (Den.sortD ds)) v->Q v H') :
  ∃ (κ:SortKind) (lt:Nat->Nat->Bool),us.length < 64/\(Ks.outOf lt us).length=us.length /\
   (2<=us.length->∀ (h':Heap),(∀ b o,s.heap.get? b=some o->h'.get? b=some o)->∀ Q':SortKind->Shared->Prop,Q' κ { s with heap:=h' }->wpAny (model X.prog X.w) X.A.in1.in1 (keyKind' us.toArray) Q' (fun _ _=>False) { s with heap:=h' }) /\
   (2<=us.length->∀ (h':Heap),(∀ b o,s.heap.get? b=some o->h'.get? b=some o)->∀ (i j:Nat) (C:Bool->Shared->Prop),i < us.length->j < us.length->C (lt i j) { s with heap:=h' }->PySem.W.kas_ask X.prog X.w X.A.in1.in1 κ us i j C { s with heap:=h' }) /\
   ∀ (h':Heap) (c:Nat),(∀ b o,s.heap.get? b=some o->h'.get? b=some o)->h'.get? s.heap.objs.size=some (seqObj "list" (Ks.outOf lt us).toArray c)->EP X pins σ Q (.ref s.heap.objs.size) { s with heap:=h' }:=by
 have hlen:us.length=ds.length:=by rw [<- v.length,<- r.length]
 have fin:∀ {out:List Value} {ys:List V} (h':Heap) (c:Nat),Reps X.K G (Den.sortD ds) ys->Vals ys out->out.length=us.length->(∀ b o,s.heap.get? b=some o->h'.get? b=some o)->h'.get? s.heap.objs.size=some (seqObj "list" out.toArray c)->EP X pins σ Q (.ref s.heap.objs.size) { s with heap:=h' }:=fun {out ys} h' c rr vv ho hk hg=>by
  refine ⟨.ref s.heap.objs.size,_,I.laid (t':=s.toks) (o:=.lst ys) hk (Nat.le_refl _) ⟨by rw [vv.length,ho,hlen,sizeLine_eq];omega,out,c,vv,hg⟩,rfl,?_⟩
  exact k _ G _ (Ext.own hs I.fresh) ⟨_,ys,rfl,upd_same,I.fresh,hs.free I.fresh,rr⟩
 unfold Den.lvOk at hlv
 rw [Bool.or_eq_true] at hlv
 rcases hlv with h | h
 ·obtain ⟨ns,rfl⟩:=ints_of h
  have hI:IntsAre us ns:=by rw [reps_ints r] at v;exact intsAre_of v
  have hl:ns.length=us.length:=Ks.ints_len hI
  obtain ⟨ys,k1,k2⟩:=reps_sorted Pu.linI (f:=Den.D.int) (fun _ _=>rfl) 0 r v
  have ho:=Ks.outOf_len Pu.linI 0 ns hl
  exact ⟨oneType',Ks.ltI Pu.ltI 0 ns,by omega,ho,fun h2 h' _ Q' q=>Ks.kind_ints hI h2 q,fun h2 h' _ i j C hi hj q=>Ks.ask_ints hI i j C hi hj q,fun h' c hk hg=>fin h' c k1 k2 ho hk hg⟩
 ·obtain ⟨ks,rfl,hne⟩:=tups_of h
  have hT:=tupsI_of I hs hne r v
  have hl:ks.length=us.length:=hT.len
  obtain ⟨ys,k1,k2⟩:=reps_sorted Pu.linC (f:=tD) (fun a b=>Pu.ltD_c a b) [] r v
  have ho:=Ks.outOf_len Pu.linC [] ks hl
  exact ⟨tuples' true,Ks.ltI Pu.lexLt [] ks,by omega,ho,fun h2 h' k Q' q=>Ks.kind_tups (s:={ s with heap:=h' }) (hT.kept k) h2 q,fun h2 h' k i j C hi hj q=>Ks.ask_tups (s:={ s with heap:=h' }) (hT.kept k) i j C hi hj q,fun h' c hk hg=>fin h' c k1 k2 ho hk hg⟩
end
section
variable {xp:XP} {X:Cx} {mu:List Nat} {m:Md} {f:Rho->Rr D} {e:Expr} {pos pos' p p':Pos}
theorem wpR_sorted {ds:List D} {Q:D->Prop} {E:Nat->Prop} (h:wpR (Den.sorted ds) Q E):Den.lvOk ds=true/\ds.length<=63/\Q (.lst (Den.sortD ds)):=by
 unfold Den.sorted at h
 cases q:(Den.lvOk ds&&decide (ds.length<=63)) with
 | false=>rw [q] at h;exact h.elim
 | true =>
  rw [q] at h
  simp only [Bool.and_eq_true,decide_eq_true_eq] at q
  exact ⟨q.1,q.2,h⟩
theorem f_sorted (hc:X.calm=true):CallR X (.builtin "sorted") (rF X.K .fresh fun d=>Den.seqOf d>>=fun xs=>Den.sorted xs):=by
 intro pins s σ H xs us Q I r ⟨G,x,d,ex,hs,vx,hw⟩
 subst ex
 obtain ⟨u,rfl,rx⟩:=vals1 r
 obtain ⟨ds,a,ys,rfl,hq,rs,hw⟩:=seq_view hs vx (wpR_bind.mp hw)
 obtain ⟨hlv,h63,hw⟩:=wpR_sorted hw
 have hh:X.A.handled=none:=I.ok.hd hc
 cases rx
 rcases hq with hq | hq
 ·obtain ⟨its,rv,pl,hz⟩:=I.list hq
  refine sorted_of (collect_list pl.isList ?_ (by rw [<- rv.length];exact hz))
  have I1:Inv X pins σ H { s with heap:=(s.heap.push (seqObj "list" #[] 0)).update s.heap.objs.size (Obj.mapSeq (·++its.toArray)) }:=I.kept (t':=s.toks) fun b o q=>(Heap.get?_update_other _ _ (Ne.symm (Nat.ne_of_lt (Heap.lt_size q)))).trans (Heap.get?_push_of_some _ q)
  exact sort_fin hh I1 hs rs rv hlv h63 hw
 ·obtain ⟨its,rv,pl,hz⟩:=I.tuple hq
  refine sorted_of (Pv.collect_tup (show s.heap.IsTuple a its.toArray from pl) ?_ (by rw [<- rv.length];exact hz))
  have I1:Inv X pins σ H { s with heap:=(s.heap.push (seqObj "list" #[] 0)).update s.heap.objs.size (Obj.mapSeq (·++its.toArray)) }:=I.kept (t':=s.toks) fun b o q=>(Heap.get?_update_other _ _ (Ne.symm (Nat.ne_of_lt (Heap.lt_size q)))).trans (Heap.get?_push_of_some _ q)
  exact sort_fin hh I1 hs rs rv hlv h63 hw
end
end Sim
end
section
namespace Sim
open PySem PySem.Spec PyProof.Rows L2
structure Sb (K:W.Frag) (mu:List Nat) (G0 H0 G H:Hp) (ρ:Rho) (σ:Sg):Prop where
 sm:Sm K mu G H ρ σ
 ext:Ext G0 H0 G H
 own:∀ (i:Nat) (ds:List D) (a:Addr),ρ[i]?=some (some (.lst ds))->i∈mu->σ[i]?=some (some (V.ref a))->H0 a=none
def flQ (K:W.Frag) (mu:List Nat) (G0 H0:Hp) (T:Ends):Den.Fl->Prop
 | .nx ρ=>∀ σ G H,Sb K mu G0 H0 G H ρ σ->T.nx σ H
 | .bk ρ=>∀ σ G H,Sb K mu G0 H0 G H ρ σ->T.bk σ H
 | .ct ρ=>∀ σ G H,Sb K mu G0 H0 G H ρ σ->T.ct σ H
 | .rt d=>∀ v G H,Ext G0 H0 G H->Rep K G d v->T.rt v H
def tS (xp:XP) (X:Cx) (mu:List Nat) (f:Rho->Rr Den.Fl):TS:=fun T σ H =>
 ∃ G0 H0 G ρ,Sb X.K mu G0 H0 G H ρ σ/\wpR (f ρ) (flQ X.K mu G0 H0 T) (fun c=>RaiseOk xp X c H0)
theorem get_ne {α:Type} {l:List α} {i j:Nat} {a:α} (h:i≠j):(l.set i a)[j]?=l[j]?:=List.getElem?_set_ne h
theorem get_eq {α:Type} {l:List α} {i:Nat} {a b:α} (h:(l.set i a)[i]?=some b):i < l.length/\b=a:=by
 rw [List.getElem?_set_self'] at h
 cases q:l[i]? with
 | none=>rw [q] at h;cases h
 | some c=>rw [q] at h;exact ⟨(List.getElem?_eq_some_iff.mp q).1,(Option.some.inj h).symm⟩
theorem set_get {α:Type} {l:List α} {i:Nat} {a:α} (h:i < l.length):(l.set i a)[i]?=some a:=by simp [h]
section
variable {K:W.Frag} {mu:List Nat} {G0 H0 G H G' H':Hp} {ρ:Rho} {σ:Sg} {i:Nat} {d:D} {v:V}
theorem Sm.set_val (h:Sm K mu G H ρ σ) (hm:i∉mu) (r:Rep K G d v):Sm K mu G H (ρ.set i (some d)) (σ.set i (some v)) where
 len:=by rw [List.length_set,List.length_set];exact h.len
 sub:=h.sub
 val:=fun j e q hj=>by
  by_cases c:i=j
  ·subst c
   obtain ⟨h1,h2⟩:=get_eq q
   cases h2
   exact ⟨v,set_get (by rw [<- h.len];exact h1),r⟩
  ·rw [get_ne c] at q ⊢;exact h.val j e q hj
 own:=fun j e q hj hl=>by
  have c:i≠j:=fun z=>hm (z ▸ hj)
  rw [get_ne c] at q ⊢;exact h.own j e q hj hl
 lst:=fun j ds q hj=>by
  have c:i≠j:=fun z=>hm (z ▸ hj)
  rw [get_ne c] at q
  obtain ⟨a,xs,h1,h2⟩:=h.lst j ds q hj
  exact ⟨a,xs,by rw [get_ne c];exact h1,h2⟩
 apart:=fun j k ds es a b q1 q2 hj hk ne e1 e2=>by
  have c:i≠j:=fun z=>hm (z ▸ hj)
  have c':i≠k:=fun z=>hm (z ▸ hk)
  rw [get_ne c] at q1 e1
  rw [get_ne c'] at q2 e2
  exact h.apart j k ds es a b q1 q2 hj hk ne e1 e2
theorem Sm.set_own (h:Sm K mu G H ρ σ) (hm:i∈mu) (hl:∀ ds,d≠.lst ds) (r:Rep K G d v):Sm K mu G H (ρ.set i (some d)) (σ.set i (some v)) where
 len:=by rw [List.length_set,List.length_set];exact h.len
 sub:=h.sub
 val:=fun j e q hj=>by
  have c:i≠j:=fun z=>hj (z ▸ hm)
  rw [get_ne c] at q ⊢;exact h.val j e q hj
 own:=fun j e q hj hle=>by
  by_cases c:i=j
  ·subst c
   obtain ⟨h1,h2⟩:=get_eq q
   cases h2
   exact ⟨v,set_get (by rw [<- h.len];exact h1),r⟩
  ·rw [get_ne c] at q ⊢;exact h.own j e q hj hle
 lst:=fun j ds q hj=>by
  by_cases c:i=j
  ·subst c
   obtain ⟨h1,h2⟩:=get_eq q
   exact absurd (Option.some.inj h2).symm (hl ds)
  ·rw [get_ne c] at q
   obtain ⟨a,xs,h1,h2⟩:=h.lst j ds q hj
   exact ⟨a,xs,by rw [get_ne c];exact h1,h2⟩
 apart:=fun j k ds es a b q1 q2 hj hk ne e1 e2=>by
  have c:i≠j:=fun z=>by subst z;obtain ⟨h1,h2⟩:=get_eq q1;exact hl ds (Option.some.inj h2).symm
  have c':i≠k:=fun z=>by subst z;obtain ⟨h1,h2⟩:=get_eq q2;exact hl es (Option.some.inj h2).symm
  rw [get_ne c] at q1 e1
  rw [get_ne c'] at q2 e2
  exact h.apart j k ds es a b q1 q2 hj hk ne e1 e2
theorem Sm.set_lst {a : Addr} {xs : List V} {ds : List D} (h : Sm K mu G H ρ σ) (hm : i ∈ mu) (hH : H a = some (.lst xs)) (hG : G a = none) (r : Reps K G ds xs)
    (hn : ∀ (j : Nat) (es : List D), j ≠ i -> j ∈ mu -> ρ[j]? = some (some (.lst es)) -> σ[j]? ≠ some (some (V.ref a))) : Sm K mu G H (ρ.set i (some (.lst ds))) (σ.set i (some (.ref a))) where
  len := by rw [List.length_set, List.length_set]; exact h.len
  sub := h.sub
  val := fun j e q hj => by
    have c : i ≠ j := fun z => hj (z ▸ hm)
    rw [get_ne c] at q ⊢; exact h.val j e q hj
  own := fun j e q hj hle => by
    by_cases c : i = j
    · subst c
      obtain ⟨h1, h2⟩ := get_eq q
      exact absurd (Option.some.inj h2) (hle ds)
    · rw [get_ne c] at q ⊢; exact h.own j e q hj hle
  lst := fun j es q hj => by
    by_cases c : i = j
    · subst c
      obtain ⟨h1, h2⟩ := get_eq q
      cases h2
      exact ⟨a, xs, set_get (by rw [<- h.len]; exact h1), hH, hG, r⟩
    · rw [get_ne c] at q
      obtain ⟨b, ys, h1, h2⟩ := h.lst j es q hj
      exact ⟨b, ys, by rw [get_ne c]; exact h1, h2⟩
  apart := fun j k es fs b b' q1 q2 hj hk ne e1 e2 => by
    by_cases c : i = j
    · subst c
      have c' : i ≠ k := ne
      obtain ⟨h1, h2⟩ := get_eq e1
      cases h2
      rw [get_ne c'] at q2 e2
      intro z
      exact hn k fs (Ne.symm c') hk q2 (by rw [z]; exact e2)
    · by_cases c' : i = k
      · subst c'
        obtain ⟨h1, h2⟩ := get_eq e2
        cases h2
        rw [get_ne c] at q1 e1
        intro z
        exact hn j es (Ne.symm c) hj q1 (by rw [<- z]; exact e1)
      · rw [get_ne c] at q1 e1
        rw [get_ne c'] at q2 e2
        exact h.apart j k es fs b b' q1 q2 hj hk ne e1 e2
theorem Sb.step (h:Sb K mu G0 H0 G H ρ σ) (x:Ext G H G' H'):Sb K mu G0 H0 G' H' ρ σ:=⟨h.sm.ext x,h.ext.trans x,h.own⟩
theorem Sb.set_val (h:Sb K mu G0 H0 G H ρ σ) (hm:i∉mu) (r:Rep K G d v):Sb K mu G0 H0 G H (ρ.set i (some d)) (σ.set i (some v)) :=
 ⟨h.sm.set_val hm r,h.ext,fun j ds a q hj e=>by
  have c:i≠j:=fun z=>hm (z ▸ hj)
  rw [get_ne c] at q e;exact h.own j ds a q hj e⟩
theorem Sb.set_fresh (h:Sb K mu G0 H0 G H ρ σ) (x:Ext G H G' H') (hm:i∈mu) (r:RepM K H G' H' .fresh d v):Sb K mu G0 H0 G' H' (ρ.set i (some d)) (σ.set i (some v)):=by
 have h':=h.step x
 cases d with
 | lst ds =>
  obtain ⟨a,xs,rfl,h1,h2,h3,h4⟩:=r
  refine ⟨h'.sm.set_lst hm h1 h3 h4 fun j es hj hjm q e=>?_,h'.ext,fun j es b q hj e=>?_⟩
  ·obtain ⟨b,ys,k1,k2,k3,k4⟩:=h.sm.lst j es q hjm
   rw [k1] at e
   cases e
   rw [h2] at k2;cases k2
  ·by_cases c:i=j
   ·subst c
    obtain ⟨_,z⟩:=get_eq e
    cases z
    exact h.ext.h.free h2
   ·rw [get_ne c] at q e;exact h.own j es b q hj e
 | _ =>
  refine ⟨h'.sm.set_own hm (fun _ z=>nomatch z) r,h'.ext,fun j es b q hj e=>?_⟩
  by_cases c:i=j
  ·subst c
   obtain ⟨_,z⟩:=get_eq q
   cases z
  ·rw [get_ne c] at q e;exact h.own j es b q hj e
theorem Sb.write {a : Addr} {xs ys : List V} {ds es : List D} (h : Sb K mu G0 H0 G H ρ σ) (hm : i ∈ mu) (q : ρ[i]? = some (some (.lst ds))) (e : σ[i]? = some (some (V.ref a))) (hH : H a = some (.lst xs)) (hG : G a = none) (r : Reps K G es ys) :
    Sb K mu G0 H0 G (upd H a (.lst ys)) (ρ.set i (some (.lst es))) σ := by
  have h0 : H0 a = none := h.own i ds a q hm e
  have hi : i < ρ.length := (List.getElem?_eq_some_iff.mp q).1
  have eσ : σ.set i (some (V.ref a)) = σ := by
    apply List.ext_getElem?
    intro j
    by_cases c : i = j
    · subst c; rw [set_get (by rw [<- h.sm.len]; exact hi), e]
    · rw [get_ne c]
  have other : ∀ (j : Nat) (fs : List D), j ≠ i -> j ∈ mu -> ρ[j]? = some (some (.lst fs)) -> σ[j]? ≠ some (some (V.ref a)) := fun j fs hj hjm qj ej => h.sm.apart j i fs ds a a qj q hjm hm hj ej e rfl
  have sub' : Same G (upd H a (.lst ys)) := fun b o z => by
    have : b ≠ a := fun w => by rw [w, hG] at z; cases z
    rw [upd_ne this]; exact h.sm.sub b o z
  have sm' : Sm K mu G (upd H a (.lst ys)) (ρ.set i (some (.lst es))) σ := by
    refine ⟨by rw [List.length_set]; exact h.sm.len, sub', fun j d q' hj => ?_, fun j d q' hj hl => ?_, fun j fs q' hj => ?_, fun j k fs gs b b' q1 q2 hj hk ne e1 e2 => ?_⟩
    · have c : i ≠ j := fun z => hj (z ▸ hm)
      rw [get_ne c] at q'; exact h.sm.val j d q' hj
    · by_cases c : i = j
      · subst c
        obtain ⟨_, z⟩ := get_eq q'
        cases z
        exact absurd rfl (hl es)
      · rw [get_ne c] at q'; exact h.sm.own j d q' hj hl
    · by_cases c : i = j
      · subst c
        obtain ⟨_, z⟩ := get_eq q'
        cases z
        exact ⟨a, ys, e, upd_same, hG, r⟩
      · rw [get_ne c] at q'
        obtain ⟨b, zs, k1, k2, k3, k4⟩ := h.sm.lst j fs q' hj
        have : b ≠ a := fun w => other j fs (Ne.symm c) hj q' (by rw [k1, w])
        exact ⟨b, zs, k1, by rw [upd_ne this]; exact k2, k3, k4⟩
    · have full : ∀ (k : Nat) (gs : List D), (ρ.set i (some (.lst es)))[k]? = some (some (.lst gs)) -> ∃ gs', ρ[k]? = some (some (.lst gs')) := fun k gs z => by
        by_cases c : i = k
        · subst c; exact ⟨ds, q⟩
        · rw [get_ne c] at z; exact ⟨gs, z⟩
      obtain ⟨fs', q1'⟩ := full j fs q1
      obtain ⟨gs', q2'⟩ := full k gs q2
      exact h.sm.apart j k fs' gs' b b' q1' q2' hj hk ne e1 e2
  refine ⟨sm', ⟨h.ext.g, fun b o z => ?_, sub', h.ext.new⟩, fun j fs b q' hj ej => ?_⟩
  · have : b ≠ a := fun w => by rw [w, h0] at z; cases z
    rw [upd_ne this]; exact h.ext.h b o z
  · by_cases c : i = j
    · subst c; rw [e] at ej; cases ej; exact h0
    · rw [get_ne c] at q'; exact h.own j fs b q' hj ej
end
section
variable {xp:XP} {X:Cx} {mu:List Nat} {m:Md} {f fa fb fc:Rho->Rr D} {g g1 g2:Rho->Rr Den.Fl} {a b c e tg:Expr} {es:List Expr} {pos p1 p2 p3 p4:Pos} {st:Stmt} {sts sa sb:List Stmt} {i:Nat} {x:Str}
theorem s_asg (hm:i∉mu) (hN:X.N.Nodup) (hi:X.N[i]?=some x) (hx:Loc X.env.scope x) (he:PE X e (tM xp X mu .val f)) (hs:swapsWith e (some (.Name x p1)) pos.line X.env=pure false) (hf:X.fn x=true\/X.env.scope.names.lookup x=some .local) :
  PS X (.Assign [.Name x p1] e pos) (tS xp X mu fun ρ=>f ρ>>=fun d=>.ok (.nx (ρ.set i (some d)))):=by
 intro pins s σ H T I ⟨G0,H0,G,ρ,hb,hw⟩
 refine ps_set hN hi hx he hs hf pins s σ H T I ?_
 refine ⟨G,ρ,hb.sm,wpR_mono (wpR_bind.mp hw) (fun d k v G1 H1 x1 r1=>?_) fun _ q=>q.mono hb.ext.h⟩
 exact k _ G1 H1 ((hb.step x1).set_val hm r1)
theorem s_asgF (hm:i∈mu) (hN:X.N.Nodup) (hi:X.N[i]?=some x) (hx:Loc X.env.scope x) (he:PE X e (tM xp X mu .fresh f)) (hs:swapsWith e (some (.Name x p1)) pos.line X.env=pure false) (hf:X.fn x=true\/X.env.scope.names.lookup x=some .local) :
  PS X (.Assign [.Name x p1] e pos) (tS xp X mu fun ρ=>f ρ>>=fun d=>.ok (.nx (ρ.set i (some d)))):=by
 intro pins s σ H T I ⟨G0,H0,G,ρ,hb,hw⟩
 refine ps_set hN hi hx he hs hf pins s σ H T I ?_
 refine ⟨G,ρ,hb.sm,wpR_mono (wpR_bind.mp hw) (fun d k v G1 H1 x1 r1=>?_) fun _ q=>q.mono hb.ext.h⟩
 exact k _ G1 H1 (hb.set_fresh x1 hm r1)
theorem s_expr (he:PE X e (tM xp X mu .view f)) (hs:swapsWith e none pos.line X.env=pure false):PS X (.Expr e pos) (tS xp X mu fun ρ=>f ρ>>=fun _=>.ok (.nx ρ)):=by
 intro pins s σ H T I ⟨G0,H0,G,ρ,hb,hw⟩
 refine ps_expr he hs pins s σ H T I ?_
 refine ⟨G,ρ,hb.sm,wpR_mono (wpR_bind.mp hw) (fun d k v G1 H1 x1 r1=>?_) fun _ q=>q.mono hb.ext.h⟩
 exact k _ G1 H1 (hb.step x1)
theorem s_ret (he:PE X e (tM xp X mu .val f)):PS X (.Return (some e) pos) (tS xp X mu fun ρ=>f ρ>>=fun d=>.ok (.rt d)):=by
 intro pins s σ H T I ⟨G0,H0,G,ρ,hb,hw⟩
 refine ps_ret he pins s σ H T I ?_
 refine ⟨G,ρ,hb.sm,wpR_mono (wpR_bind.mp hw) (fun d k v G1 H1 x1 r1=>?_) fun _ q=>q.mono hb.ext.h⟩
 exact k v G1 H1 (hb.ext.trans x1) r1
theorem s_retV {pg : Den.Pg} {Φ : Den.Fn} (hN : X.N[i]? = some x) (hv : Vis X.env.scope x) (h1 : (x == ("__debug__" : Str)) = false) (h2 : (x == ("__classdict__" : Str)) = false) :
    PS X (.Return (some (.Name x p1)) pos) (tS xp X mu fun ρ => Den.ev pg Φ ρ (.var i) >>= fun d => .ok (.rt d)) := by
  by_cases hm : i ∈ mu
  · intro pins s σ H T I ⟨G0, H0, G, ρ, hb, hw⟩
    refine ps_ret (pe_var hN hv h1 h2) pins s σ H T I ?_
    cases q : ρ[i]? with
    | none => simp only [Den.ev, q] at hw; exact hw.elim
    | some o =>
      cases o with
      | none => simp only [Den.ev, q] at hw; exact hw.elim
      | some d =>
        have hw := wpR_bind.mp hw
        rw [Den.ev_var i q] at hw
        cases d with
        | lst ds =>
          obtain ⟨a, xs, k1, k2, k3, k4⟩ := hb.sm.lst i ds q hm
          refine ⟨_, k1, ?_⟩
          have h0 : H0 a = none := hb.own i ds a q hm k1
          refine hw _ (upd G a (.lst xs)) H ⟨hb.ext.g.trans (same_upd k3), hb.ext.h, fun b o z => ?_, fun b z1 z2 => ?_⟩ ⟨a, xs, rfl, .inl (.inl upd_same), k4.mono (same_upd k3)⟩
          · by_cases c : b = a
            · subst c; rw [upd_same] at z; rw [k2]; exact z
            · rw [upd_ne c] at z; exact hb.sm.sub b o z
          · have : b ≠ a := fun w => z2 (by rw [w]; exact h0)
            rw [upd_ne this]; exact hb.ext.new b z1 z2
        | _ =>
          obtain ⟨v, k1, k2⟩ := hb.sm.own i _ q hm (fun _ z => nomatch z)
          exact ⟨v, k1, hw v G H hb.ext k2⟩
  · exact s_ret (s_varV hm hN hv h1 h2)
theorem s_pass:PS X (.Pass pos) (tS xp X mu fun ρ=>.ok (.nx ρ)):=by
 intro pins s σ H T I ⟨G0,H0,G,ρ,hb,hw⟩
 exact ps_pass pins s σ H T I (hw σ G H hb)
theorem s_break:PS X (.Break pos) (tS xp X mu fun ρ=>.ok (.bk ρ)):=by
 intro pins s σ H T I ⟨G0,H0,G,ρ,hb,hw⟩
 exact ps_break pins s σ H T I (hw σ G H hb)
theorem s_cont:PS X (.Continue pos) (tS xp X mu fun ρ=>.ok (.ct ρ)):=by
 intro pins s σ H T I ⟨G0,H0,G,ρ,hb,hw⟩
 exact ps_continue pins s σ H T I (hw σ G H hb)
noncomputable def seqf (g1 g2:Rho->Rr Den.Fl):Rho->Rr Den.Fl:=fun ρ=>g1 ρ>>=fun r=>match r with
 | .nx ρ'=>g2 ρ'
 | .rt d=>.ok (.rt d)
 | .bk ρ'=>.ok (.bk ρ')
 | .ct ρ'=>.ok (.ct ρ')
theorem s_snil:PSs X [] (tS xp X mu fun ρ=>.ok (.nx ρ)):=by
 intro pins s σ H T I ⟨G0,H0,G,ρ,hb,hw⟩
 exact pss_nil pins s σ H T I (hw σ G H hb)
theorem s_scons (h1:PS X st (tS xp X mu g1)) (h2:PSs X sts (tS xp X mu g2)):PSs X (st::sts) (tS xp X mu (seqf g1 g2)):=by
 intro pins s σ H T I ⟨G0,H0,G,ρ,hb,hw⟩
 refine pss_cons h1 h2 pins s σ H T I ?_
 refine ⟨G0,H0,G,ρ,hb,wpR_mono (wpR_bind.mp hw) (fun r k=>?_) fun _ q=>q⟩
 cases r with
 | nx ρ'=>exact fun σ' G' H' hb'=>⟨G0,H0,G',ρ',hb',k⟩
 | rt d=>exact k
 | bk ρ'=>exact k
 | ct ρ'=>exact k
theorem s_iff (hc:PT X c (tT xp X mu fc)) (ha:PSs X sa (tS xp X mu g1)) (hb:PSs X sb (tS xp X mu g2)):PS X (.If c sa sb pos) (tS xp X mu fun ρ=>fc ρ>>=fun x=>Den.asBl x>>=fun k=>if k then g1 ρ else g2 ρ):=by
 intro pins s σ H T I ⟨G0,H0,G,ρ,hbb,hw⟩
 refine ps_if hc ha hb pins s σ H T I ?_
 refine ⟨G,ρ,hbb.sm,?_⟩
 refine wpR_bind.mpr (wpR_mono (wpR_bind.mp hw) (fun d k=>wpR_mono (wpR_bind.mp k) (fun k' q G1 H1 x1=>?_) fun _ q=>q.mono hbb.ext.h) fun _ q=>q.mono hbb.ext.h)
 cases k' with
 | true=>simp only [if_true] at q ⊢;exact ⟨G0,H0,G1,ρ,hbb.step x1,q⟩
 | false=>simp only [Bool.false_eq_true,if_false] at q ⊢;exact ⟨G0,H0,G1,ρ,hbb.step x1,q⟩
end
end Sim
end
section
namespace Sim
open PySem PySem.Spec PyProof.Rows L2
theorem items_are {prog:Program} {w:World}:∀ {vs:List Value} {k:List Int},IntsAre vs k->ItemsAre (intKind prog w) k vs
 | _,_,.nil=>.nil
 | _,_,.cons n t r=>.cons (Pv.intK prog w n t) (items_are r)
theorem are_items {prog:Program} {w:World}:∀ {k:List Int} {vs:List Value},ItemsAre (intKind prog w) k vs->IntsAre vs k
 | _,_,.nil=>.nil
 | _,_,.cons h r=>by
  obtain ⟨t,rfl⟩:=Value.isInt_shape h
  exact .cons _ t (are_items r)
theorem ints_inj:∀ {vs:List Value} {a b:List Int},IntsAre vs a->IntsAre vs b->a=b
 | _,_,_,.nil,.nil=>rfl
 | _,_,_,.cons n t r,.cons _ _ q=>by rw [ints_inj r q]
theorem met_len {κ:Type} [DecidableEq κ] (ks:List κ) {i:Nat} (h:i<=ks.length):(Pv.met ks i).length<=(Pu.ded ks).length :=
 Pu.nodup_len (Pv.met_nodup ks i) fun z hz=>(Pu.mem_ded z ks).mpr (List.mem_of_mem_take ((Pv.met_mem ks i h z).mp hz))
theorem set_srt {κ:Type} [DecidableEq κ] {lt:κ->κ->Bool} (L:Pu.Lin lt) {ks' r kss:List κ} (h1:ks'.Perm r) (h2:r.Perm (Pv.met kss kss.length)):Pu.srt lt ks'=Pu.srt lt (Pu.ded kss):=by
 have h:=h1.trans h2
 have nd:ks'.Nodup:=h.nodup_iff.mpr (Pv.met_nodup kss _)
 refine Pu.asc_ext L (Pu.asc_srt L nd) (Pu.asc_srt L (Pu.nodup_ded kss)) fun z=>?_
 rw [Pu.mem_srt,Pu.mem_srt,Pu.mem_ded,h.mem_iff,Pv.met_mem kss _ (Nat.le_refl _),List.take_length]
theorem set_len {κ:Type} [DecidableEq κ] {ks' r kss:List κ} (h1:ks'.Perm r) (h2:r.Perm (Pv.met kss kss.length)):ks'.length<=(Pu.ded kss).length:=by
 rw [(h1.trans h2).length_eq];exact met_len kss (Nat.le_refl _)
theorem items_list {P:Nat->Value->Prop} {acc:Array Value} {l:List Value} (h:ItemsOf P acc l.length) (hP:∀ i v,P i v->l[i]?=some v):acc.toList=l:=by
 obtain ⟨h1,h2⟩:=h
 apply List.ext_getElem?
 intro i
 by_cases hi:i < l.length
 ·have hi':i < acc.size:=by omega
  have e:acc[i]?=some acc[i]:=Array.getElem?_eq_getElem hi'
  have:=hP i _ (h2 i _ e)
  rw [this]
  simpa using e
 ·rw [List.getElem?_eq_none (by simp;omega),List.getElem?_eq_none (by omega)]
section
variable {X:Cx} {pins:List (Addr×Obj)} {σ:Sg} {G H:Hp} {s:Shared}
def Mm (K:W.Frag) (G:Hp) (v:Value):Prop:=∃ b k,v=.ref b/\Rep K G (tD k) (V.ref b)
theorem rows_of (I:Inv X pins σ H s) (hs:Same G H):∀ {ks:List (List Int)} {xs:List V} {us:List Value},Reps X.K G (ks.map tD) xs->Vals xs us->Paired ((Pv.kT (Mm X.K G) X.prog X.w).Row s.heap) us ks
 | [],_,_,r,v=>by cases r;cases v;exact .nil
 | k::ks,_,_,⟨x,t,e,r1,r2⟩,v=>by
  subst e
  cases v with
  | cons v1 v2 =>
   obtain ⟨a,ys,rfl,h,q⟩:=id r1
   cases v1
   obtain ⟨its,rv,⟨o,ho,hc,n,hd⟩,_⟩:=I.tuple (sqT_mono hs h)
   rw [reps_ints q] at rv
   exact .cons ⟨a,rfl,⟨o,its.toArray,n,ho,hc,hd,items_are (by simpa using intsAre_of rv)⟩,a,k,rfl,r1⟩ (rows_of I hs r2 v2)
theorem rowsI_of:∀ {ns:List Int} {us:List Value},IntsAre us ns->Paired (fun v (k:Int)=>∃ t,v=Value.int k t) us ns
 | _,_,.nil=>.nil
 | _,_,.cons n t r=>.cons ⟨t,rfl⟩ (rowsI_of r)
theorem set_vals (I:Inv X pins σ H s) (hs:Same G H):∀ {es:List (Int×Value)} {ks:List (List Int)},Paired (fun e k=>Pv.ElT X.prog X.w s.heap e k/\Mm X.K G e.2) es ks->∃ xs,Reps X.K G (ks.map tD) xs/\Vals xs (es.map (·.2))
 | _,_,.nil=>⟨[],rfl,.nil⟩
 | e::es,k::ks,.cons ⟨⟨b,e1,_,o,items,n,ho,hc,hd,hk⟩,b',k',e2,r⟩ t=>by
  obtain ⟨xs,r1,r2⟩:=set_vals I hs t
  rw [e1] at e2
  injection e2 with e2
  subst e2
  have hkk:k'=k:=by
   obtain ⟨a,ys,ea,h,q⟩:=id r
   cases ea
   obtain ⟨its,rv,⟨o',ho',_,n',hd'⟩,_⟩:=I.tuple (sqT_mono hs h)
   rw [ho] at ho';cases ho'
   rw [hd] at hd'
   injection hd' with d1 _
   rw [reps_ints q] at rv
   have h1:=intsAre_of rv
   have h2:=are_items hk
   rw [d1] at h2
   exact ints_inj (by simpa using h1) (by simpa using h2)
  subst hkk
  exact ⟨V.ref b::xs,⟨_,_,rfl,r,r1⟩,by rw [List.map_cons,e1];exact .cons rfl r2⟩
theorem set_valsI {K:W.Frag}:∀ {es:List (Int×Value)} {ks:List Int},Paired Pv.ElI es ks->∃ xs,Reps K G (ks.map Den.D.int) xs/\Vals xs (es.map (·.2))
 | _,_,.nil=>⟨[],rfl,.nil⟩
 | e::es,k::ks,.cons ⟨_,t,e1⟩ tl=>by
  obtain ⟨xs,r1,r2⟩:=set_valsI (K:=K) tl
  exact ⟨V.int k::xs,⟨_,_,rfl,rfl,r1⟩,by rw [List.map_cons,e1];exact .cons ⟨t,rfl⟩ r2⟩
end
section
variable {xp:XP} {X:Cx} {mu:List Nat} {m:Md} {f:Rho->Rr D} {e:Expr} {pos pos' p p':Pos} {x y:Str} {pins:List (Addr×Obj)} {σ:Sg} {G H:Hp} {s:Shared}
theorem wpR_sset {ds:List D} {Q:D->Prop} {E:Nat->Prop} (h:wpR (Den.sortedSet ds) Q E):Den.lvOk ds=true/\(Den.dedD ds).length<=63/\Q (.lst (Den.sortD (Den.dedD ds))):=by
 unfold Den.sortedSet at h
 cases q:(Den.lvOk ds&&decide ((Den.dedD ds).length<=63)) with
 | false=>rw [q] at h;exact h.elim
 | true =>
  rw [q] at h
  simp only [Bool.and_eq_true,decide_eq_true_eq] at q
  exact ⟨q.1,q.2,h⟩
theorem Inv.grown (I:Inv X pins σ H s) {s':Shared} (g:Pv.Grown s s'):Inv X pins σ H s':=by
 obtain ⟨h',g',d',tk',os'⟩:=s'
 obtain ⟨k,e1,e2,e3⟩:=g
 have e1:g'=s.gens:=e1
 have e2:d'=s.drawn:=e2
 have e3:os'=s.os:=e3
 subst e1 e2 e3
 exact I.kept k
theorem sorted_set {Q:VK} (hh:X.A.handled=none) (I:Inv X pins σ H s) (hs:Same G H) {a:Addr} {o:Obj} {es:Array (Int×Value)} {ep:Nat} {t:SetTable} (ho:s.heap.get? a=some o) (O:Pv.SetO X.w o es ep t) {ds:List D}
  {xs:List V} (r:Reps X.K G ds xs) (v:Vals xs ((Pv.ordS X.w a es ep).toList.map (·.2))) (hlv:Den.lvOk ds=true) (h63:ds.length<=63)
  (k:∀ v G' H',Ext G H G' H'->RepM X.K H G' H' .fresh (.lst (Den.sortD ds)) v->Q v H'):wpAny (model X.prog X.w) X.A (call (.builtin "sorted") [.ref a]) (EP X pins σ Q) X.xe s:=by
 have hsz:(Pv.ordS X.w a es ep).size=es.size:=by have:=(Pv.ordS_perm X.w a es ep).length_eq;simpa using this
 have hl:es.size<=63:=by
  have h1:=v.length
  have h2:=r.length
  simp only [List.length_map,Array.length_toList] at h1
  omega
 refine sorted_of (Pv.collect_set (A:=X.A.in1) hh ho O (by rw [sizeLine_eq];omega) fun s' acc g hacc=>?_)
 have e:acc.toList=(Pv.ordS X.w a es ep).toList.map (·.2):=by
  refine items_list (P:=fun i v=>∃ x,(Pv.ordS X.w a es ep)[i]?=some x/\v=x.2) (l:=(Pv.ordS X.w a es ep).toList.map (·.2)) (by simpa [hsz] using hacc) fun i v hv=>?_
  obtain ⟨z,h1,h2⟩:=hv
  rw [List.getElem?_map,Array.getElem?_toList,h1,h2];rfl
 rw [e]
 exact sort_fin hh (Inv.grown I g) hs r v hlv h63 k
theorem wp_sset {Q : VK} (hc : X.calm = true) (hu : X.A.units + 64 < cLine) (I : Inv X pins σ H s) (hs : Same G H) {d : D} {z : V} {u : Value} (vx : View X.K G H d z) (rx : RelV z u)
    (hw : wpR (Den.seqOf d >>= fun xs => Den.sortedSet xs) (fun d' => ∀ v G' H', Ext G H G' H' -> RepM X.K H G' H' .fresh d' v -> Q v H') (fun _ => False)) :
    wpAny (model X.prog X.w) X.A (call (.type "set") [u]) (fun w s1 => wpAny (model X.prog X.w) X.A (call (.builtin "sorted") [w]) (EP X pins σ Q) X.xe s1) X.xe s := by
  obtain ⟨ds, a, ys, rfl, hq, rs, hw⟩ := seq_view hs vx (wpR_bind.mp hw)
  obtain ⟨hlv, h63, hw⟩ := wpR_sset hw
  have hh : X.A.handled = none := I.ok.hd hc
  cases rx
  obtain ⟨its, rv, T, od, osl, nl, hT, hol⟩ : ∃ (its : List Value), Vals ys its /\ ∃ T od osl nl, (T = "list" \/ T = "tuple") /\ s.heap.get? a = some { cls := .type T, dict := od, data := .seq its.toArray nl, slots := osl } := by
    rcases hq with hq | hq
    · obtain ⟨its, rv, ⟨⟨cls, dd, data, sl⟩, n, ho, h1, _, h3⟩, _⟩ := I.list hq
      simp only at h1 h3
      subst h1 h3
      exact ⟨its, rv, "list", dd, sl, n, .inl rfl, ho⟩
    · obtain ⟨its, rv, ⟨⟨cls, dd, data, sl⟩, ho, h1, n, h3⟩, _⟩ := I.tuple hq
      simp only at h1 h3
      subst h1 h3
      exact ⟨its, rv, "tuple", dd, sl, n, .inr rfl, ho⟩
  have keep : ∀ {h' : Heap} {tk : Nat}, (∀ b o, b < s.heap.objs.size -> s.heap.get? b = some o -> h'.get? b = some o) -> Inv X pins σ H { s with heap := h', toks := tk } := fun hk => I.kept fun b o q => hk b o (Heap.lt_size q) q
  unfold Den.lvOk at hlv
  rw [Bool.or_eq_true] at hlv
  rcases hlv with h | h
  · obtain ⟨ns, rfl⟩ := ints_of h
    have hI : IntsAre its ns := by rw [reps_ints rs] at rv; exact intsAre_of rv
    rw [Pu.dedD_map (f := Den.D.int) Pu.eqD_i] at h63 hw
    rw [List.length_map] at h63
    refine Pv.call_set (Pv.kI X.prog X.w) hT hh hu hol (show Paired (fun v (k : Int) => ∃ t, v = Value.int k t) its.toArray.toList ns from by simpa using rowsI_of hI) (fun i hi => by have := met_len ns (Nat.le_of_lt hi); omega) fun h' tk r hS hp hk => ?_
    obtain ⟨o, es, ep, t, ho, hex, hd, Tb, _, hpl, hled, hpa, hnd⟩ := hS
    obtain ⟨ks', q1, q2⟩ := Pv.Paired.perm (Pv.ordS_perm X.w s.heap.objs.size es ep) hpa
    obtain ⟨xs, r1, r2⟩ := set_valsI (K := X.K) (G := G) q2
    have e : Den.sortD (ks'.map Den.D.int) = Den.sortD ((Pu.ded ns).map Den.D.int) := by
      rw [Pu.sortD_map (f := Den.D.int) (lt := Pu.ltI) fun _ _ => rfl, Pu.sortD_map (f := Den.D.int) (lt := Pu.ltI) fun _ _ => rfl, set_srt Pu.linI q1 hp]
    refine sorted_set (s := { s with heap := h', toks := tk }) hh (keep hk) hs ho ⟨hex, hd, Tb, hpl, hled⟩ r1 r2 ?_ ?_ (by rw [e]; exact hw)
    · unfold Den.lvOk; rw [Pu.lv_is]; rfl
    · rw [List.length_map]; have := set_len q1 hp; omega
  · obtain ⟨ks, rfl, hne⟩ := tups_of h
    rw [Pu.dedD_map (f := tD) Pu.eqD_c] at h63 hw
    rw [List.length_map] at h63
    refine Pv.call_set (Pv.kT (Mm X.K G) X.prog X.w) hT hh hu hol (by simpa using rows_of I hs rs rv) (fun i hi => by have := met_len ks (Nat.le_of_lt hi); omega) fun h' tk r hS hp hk => ?_
    obtain ⟨o, es, ep, t, ho, hex, hd, Tb, _, hpl, hled, hpa, hnd⟩ := hS
    obtain ⟨ks', q1, q2⟩ := Pv.Paired.perm (Pv.ordS_perm X.w s.heap.objs.size es ep) hpa
    have I2 : Inv X pins σ H { s with heap := h', toks := tk } := keep hk
    obtain ⟨xs, r1, r2⟩ := set_vals I2 hs q2
    have e : Den.sortD (ks'.map tD) = Den.sortD ((Pu.ded ks).map tD) := by
      rw [Pu.sortD_map (f := tD) (lt := Pu.lexLt) Pu.ltD_c, Pu.sortD_map (f := tD) (lt := Pu.lexLt) Pu.ltD_c, set_srt Pu.linC q1 hp]
    refine sorted_set (s := { s with heap := h', toks := tk }) hh I2 hs ho ⟨hex, hd, Tb, hpl, hled⟩ r1 r2 ?_ ?_ (by rw [e]; exact hw)
    · unfold Den.lvOk
      rw [Pu.cv_cs fun c hc => hne c ?_, Bool.or_true]
      have := ((q1.trans hp).mem_iff).mp hc
      exact List.mem_of_mem_take ((Pv.met_mem ks _ (Nat.le_refl _) c).mp this)
    · rw [List.length_map]; have := set_len q1 hp; omega
theorem s_sset (hc:X.calm=true) (hu:X.A.units+64 < cLine) (hx:x="sorted") (hy:y="set") (hgx:Gl X x) (hmx:X.mg x=none) (hgy:Gl X y) (hmy:X.mg y=none) (ha:PE X e (tM xp X mu .view f)) (hst:starEach [e] X.env=[(false,eval e X.env)]) :
  PE X (.Call (.Name x p) [.Call (.Name y p') [e] [] pos'] [] pos) (tM xp X mu .fresh fun ρ=>f ρ>>=fun d=>Den.seqOf d>>=fun xs=>Den.sortedSet xs):=by
 subst hx hy
 intro pins s σ H Q I ⟨G,ρ,hs,hw⟩
 refine wpAny_Call_Name_kw (ld_blt I hgx hmx (u:=.builtin "sorted") (by kernel_rfl) ?_)
 refine PyProof.Rows.callWith_builtin1 ?_ rfl rfl
 show wpAny _ _ (spliced ((false,eval (.Call (.Name "set" p') [e] [] pos') X.env)::[])) _ _ s
 refine Calls.spliced_cons ?_
 refine wpAny_Call_Name_kw (ld_blt I hgy hmy (u:=.type "set") (by kernel_rfl) ?_)
 refine PyProof.Rows.callWith_type1 (thn (pa_one ha hst pos' pins s σ H (fun vs H1=>∃ v d G1,vs=[v]/\Ext G H G1 H1/\View X.K G1 H1 d v/\wpR (Den.seqOf d>>=fun xs=>Den.sortedSet xs) (fun d'=>∀ v G' H',Ext G1 H1 G' H'->RepM X.K H1 G' H' .fresh d' v->Q v H') (fun _=>False)) I
  ⟨G,ρ,hs,wpR_mono (wpR_bind.mp hw) (fun d k v G1 H1 x1 r1=>?_) fun _ q=>q⟩) fun us s1 ⟨vs,H1,I1,r1,q1⟩=>?_) hst rfl
 ·refine ⟨v,d,G1,rfl,x1,r1,?_⟩
  refine wpR_mono (wp_noexc k fun c=>?_) (fun d' q v' G2 H2 x2 r2=>q v' G2 H2 (x1.trans x2) (r2.old x1.h)) fun _ q=>q
  intro z
  cases hd:Den.seqOf d with
  | ok ds=>rw [hd] at z;have z:Den.sortedSet ds=.exc c:=z;unfold Den.sortedSet at z;split at z <;> cases z
  | exc c'=>cases d <;> cases hd
  | bad=>rw [hd] at z;cases z
 ·obtain ⟨v,d,G1,e1,x1,vx,hw'⟩:=q1
  subst e1
  obtain ⟨u,rfl,rx⟩:=vals1 r1
  refine thn (wp_sset hc hu I1 x1.sub vx rx hw') fun w s2 h2=>?_
  exact Calls.spliced_nil h2
end
end Sim
end
section
namespace Sim
open PySem PySem.Spec PyProof.Rows L2
section
variable {xp:XP} {X:Cx} {mu:List Nat} {m:Md} {f fa fb:Rho->Rr D} {a b e tg:Expr} {pos p p2 p3 p4:Pos} {pins:List (Addr×Obj)} {σ:Sg} {G H:Hp} {s:Shared} {x:Str}
theorem s_rev {k:Nat} (ha:PE X a (tM xp X mu .view fa)):PE X (.Subscript a (.Slice none none (some (.UnaryOp .USub (.Constant (.int 1) k p3) p4)) p2) pos) (tM xp X mu .val fun ρ=>fa ρ>>=fun x=>Den.revD x):=by
 intro pins s σ H Q I ⟨G,ρ,hs,hw⟩
 refine Subscript_ (thn (ha pins s σ H (fun v H1=>∃ d G1,Ext G H G1 H1/\View X.K G1 H1 d v/\wpR (Den.revD d) (fun d'=>∀ v G' H',Ext G H G' H'->Rep X.K G' d' v->Q v H') (fun _=>False)) I
  ⟨G,ρ,hs,wpR_mono (wpR_bind.mp hw) (fun d q v G1 H1 x1 r1=>⟨d,G1,x1,r1,?_⟩) fun _ q=>q⟩) fun v s1 ⟨z,H1,I1,r1,d,G1,x1,vx,hw'⟩=>?_)
 ·cases d <;> first | exact q.elim | exact q
 refine wpAny_Slice (thn (po_none (X:=X) pins s1 σ H1 (fun o H'=>o=none/\H'=H1) I1 ⟨rfl,rfl⟩) fun vl s2 ⟨l,H2,I2,pl,el,eH⟩=>?_)
 subst el eH
 refine thn (po_none (X:=X) pins s2 σ H2 (fun o H'=>o=none/\H'=H2) I2 ⟨rfl,rfl⟩) fun vu s3 ⟨u,H3,I3,pu,eu,eH⟩=>?_
 subst eu eH
 refine thn (po_some (pe_un un_neg pe_int) pins s3 σ H3 (fun o H'=>o=some (-1)/\H'=H3) I3 ⟨1,rfl,-1,rfl,rfl,rfl⟩) fun vk s4 ⟨o,H4,I4,pk,eo,eH⟩=>?_
 subst eo eH
 cases pl
 cases pu
 have I5:Inv X pins σ H4 { s4 with heap:=s4.heap.push { cls:=.type "slice",data:=.fields #[.none,.none,vk] } }:=I4.kept (t':=s4.toks) fun b ob q=>Heap.get?_push_of_some _ q
 cases d with
 | tup ds =>
  obtain ⟨a',xs,rfl,kq,rq⟩:=view_tup x1.sub vx
  cases r1
  obtain ⟨its,rv,ht,hz⟩:=I5.tuple kq
  have hg:wpAny (model X.prog X.w) X.A (getItem (.ref a') (.ref s4.heap.objs.size)) (EP X pins σ Q) X.xe { s4 with heap:=s4.heap.push { cls:=.type "slice",data:=.fields #[.none,.none,vk] } }:=by
   refine getItem_tuple_rev ht (Heap.IsSliceOf.new ..) pk ?_ (by rw [List.size_toArray,<- rv.length];exact hz)
   have e:its.toArray.toList.reverse.toArray=its.reverse.toArray:=by simp
   rw [e]
   exact new_tup I5 x1.sub (Vals.reverse rv) rq.rev (by rw [List.length_reverse];exact hz) fun v G' H' x2 r2=>hw' v G' H' (x1.trans x2) r2
  show wpAny (model X.prog X.w) X.A (subscriptTail a (.Slice none none (some (.UnaryOp .USub (.Constant (.int 1) k p3) p4)) p2) (.ref a') (.ref s4.heap.objs.size)) (EP X pins σ Q) X.xe { s4 with heap:=s4.heap.push { cls:=.type "slice",data:=.fields #[.none,.none,vk] } }
  exact tail_any (ops:=[.ref a',.ref s4.heap.objs.size]) ht.typeIs PyProof.Rows.slot_tuple_getitem.lookup hg (by with_unfolding_all rfl)
 | _=>exact hw'.elim
theorem s_glob {d:D} {v:V} {u:Value} (hg:Gl X x) (hm:X.mg x=some u) (r:RelV v u) (rep:∀ G,Rep X.K G d v) (hd:(x==("__debug__":Str))=false):PE X (.Name x p) (tM xp X mu .val fun _=>.ok d):=by
 intro pins s σ H Q I ⟨G,ρ,hs,hw⟩
 exact pe_glob hg hm r hd pins s σ H Q I (hw v G H (Ext.refl hs.sub) (rep G))
theorem s_bad {t:Rho->Rr D} (h:∀ ρ,t ρ=.bad):PE X e (tM xp X mu m t):=by
 intro pins s σ H Q I ⟨G,ρ,hs,hw⟩
 rw [h] at hw;exact hw.elim
theorem f_str:CallR X (.type "str") (rF X.K m fun d=>match d with | .int i=>Den.strOfInt i | _=>.bad):=by
 intro pins s σ H xs us Q I r ⟨G,z,d,ex,hs,vx,hw⟩
 subst ex
 cases d with
 | int i =>
  dsimp only at hw
  unfold Den.strOfInt at hw
  by_cases h:i.natAbs < 10000000000
  ·rw [if_pos h] at hw
   have vx:z=.int i:=vx
   subst vx
   refine call_str_int pins s σ H _ us Q I r ⟨i,rfl,?_,hw _ G H (Ext.refl hs) (by cases m <;> rfl)⟩
   by_cases h0:i.natAbs=0
   ·rw [h0];decide
   ·have:i.natAbs.log2 < 64:=(Nat.log2_lt h0).mpr (Nat.lt_of_lt_of_le h (by decide))
    omega
  ·rw [if_neg h] at hw;exact hw.elim
 | _=>exact hw.elim
theorem f_int:CallR X (.type "int") (rF X.K m fun d=>match d with | .bl b=>.ok (.int (if b then 1 else 0)) | _=>.bad):=by
 intro pins s σ H xs us Q I r ⟨G,z,d,ex,hs,vx,hw⟩
 subst ex
 cases d with
 | bl b =>
  have vx:z=.bl b:=vx
  subst vx
  exact call_int1 pins s σ H _ us Q I r (.inr ⟨b,rfl,hw _ G H (Ext.refl hs) RepM.int⟩)
 | _=>exact hw.elim
theorem vals_rng (lo : Int) : ∀ {n : Nat} {l : List Value}, l.length = n -> (∀ (i : Nat) v, l[i]? = some v -> ∃ t, v = .int (lo + i * 1) t) -> Vals ((List.range n).map fun (k : Nat) => V.int (lo + (k : Nat))) l := by
  intro n l hl h
  subst hl
  induction l generalizing lo with
  | nil => exact .nil
  | cons v l ih =>
    rw [List.length_cons, List.range_succ_eq_map, List.map_cons, List.map_map]
    refine .cons ?_ ?_
    · obtain ⟨t, e⟩ := h 0 v rfl
      exact ⟨t, by rw [e]; simp⟩
    · have := ih (lo + 1) fun i w hw => by
        obtain ⟨t, e⟩ := h (i + 1) w (by simpa using hw)
        exact ⟨t, by rw [e]; congr 1; push_cast; omega⟩
      have e2 : ((fun (k : Nat) => V.int (lo + (k : Nat))) ∘ Nat.succ) = fun (k : Nat) => V.int (lo + 1 + (k : Nat)) := by
        funext k; simp only [Function.comp]; congr 1; push_cast; omega
      rw [e2]; exact this
theorem reps_rng {K:W.Frag} (lo:Int):∀ (l:List Nat),Reps K G (l.map fun (k:Nat)=>Den.D.int (lo+(k:Nat))) (l.map fun (k:Nat)=>V.int (lo+(k:Nat)))
 | []=>rfl
 | k::l=>⟨_,_,rfl,rfl,reps_rng lo l⟩
theorem wp_range {R:Value->Shared->Prop} (hg:Gl X "range") (hm:X.mg "range"=none) (ha:PE X a (tM xp X mu .view fa)) (hst:starEach [a] X.env=[(false,eval a X.env)]) (I:Inv X pins σ H s) {ρ:Rho} (hs:Sm X.K mu G H ρ σ) {Q:List D->Prop}
  (hw:wpR (fa ρ>>=fun d=>Den.asInt d>>=fun i=>Den.rngR 0 i) Q (fun c=>RaiseOk xp X c H))
  (k:∀ (s1:Shared) (G1 H1:Hp) (n:Int) (r:Addr) (t u v:Tok) (h':Heap) (tk:Nat),Inv X pins σ H1 s1->Ext G H G1 H1->Q (Den.rangeL 0 n)->(-(2 ^ 62)<=n/\n < 2 ^ 62/\(Den.rangeL 0 n).length<=16777216)->Inv X pins σ H1 { s1 with heap:=h',toks:=tk }->IsRange h' r 0 n 1 t u v->R (.ref r) { s1 with heap:=h',toks:=tk }) :
  wpAny (model X.prog X.w) X.A (eval (.Call (.Name "range" p) [a] [] pos) X.env) R X.xe s:=by
 refine Call_ (ld_blt I hg hm boot_range (PyProof.Rows.callWith_type1 (thn (pa_one ha hst pos pins s σ H (fun vs H1=>∃ n G1,vs=[.int n]/\Ext G H G1 H1/\Q (Den.rangeL 0 n)/\(-(2 ^ 62)<=n/\n < 2 ^ 62/\(Den.rangeL 0 n).length<=16777216)) I
  ⟨G,ρ,hs,wpR_mono (wpR_bind.mp hw) (fun d q v G1 H1 x1 r1=>?_) fun _ q=>q⟩) fun us s1 ⟨vs,H1,I1,r1,n,G1,e1,x1,hq,hb⟩=>?_) hst rfl))
 ·have q:=wpR_bind.mp q
  cases d with
  | int i =>
   obtain ⟨⟨_,_,b1,b2⟩,hz,q⟩:=rng_parts q
   exact ⟨i,G1,by rw [RepM.of_int r1],x1,q,b1,b2,hz⟩
  | _=>exact q.elim
 ·subst e1
  obtain ⟨u,rfl,ru⟩:=vals1 r1
  obtain ⟨t,rfl⟩:=ru
  refine call_range_1 ?_
  exact k s1 G1 H1 n _ _ _ _ _ _ I1 x1 hq hb (I1.kept fun b o e=>Heap.get?_push_of_some _ e) (IsRange.new ..)
theorem rngSize (n:Int):Builtin.Range.rangeSize 0 n 1=((Den.rangeL 0 n).length:Int):=by
 unfold Den.rangeL
 rw [List.length_map,List.length_range,rangeSize_one]
 split <;> omega
theorem rangeL_len (n:Int):(Den.rangeL 0 n).length=n.toNat:=by unfold Den.rangeL;rw [List.length_map,List.length_range];congr 1;omega
theorem rng_items {acc:Array Value} {n:Int} (h:ItemsOf (fun i v=>∃ t,v=.int (0+i * 1) t) acc (Den.rangeL 0 n).length):∃ xs,Reps X.K G (Den.rangeL 0 n) xs/\Vals xs acc.toList:=by
 have hl:acc.toList.length=n.toNat:=by rw [Array.length_toList,h.1,rangeL_len]
 have v:=vals_rng 0 hl fun i v hv=>h.2 i v (by simpa using hv)
 have e:Den.rangeL 0 n=(List.range n.toNat).map fun (k:Nat)=>Den.D.int (0+(k:Nat)):=by
  unfold Den.rangeL
  rw [Int.sub_zero]
 exact ⟨_,by rw [e];exact reps_rng 0 _,v⟩
theorem s_tupR {y:Str} (hc:X.calm=true) (hx:x="range") (hy:y="tuple") (hgx:Gl X x) (hmx:X.mg x=none) (hgy:Gl X y) (hmy:X.mg y=none) (ha:PE X a (tM xp X mu .view fa)) (hst:starEach [a] X.env=[(false,eval a X.env)]) :
  PE X (.Call (.Name y p2) [.Call (.Name x p) [a] [] pos] [] p3) (tM xp X mu .val fun ρ=>(fa ρ>>=fun d=>Den.asInt d>>=fun i=>Den.rngR 0 i)>>=fun ds=>.ok (.tup ds)):=by
 subst hx hy
 intro pins s σ H Q I ⟨G,ρ,hs,hw⟩
 refine wpAny_Call_Name_kw (ld_blt I hgy hmy (u:=.type "tuple") (by kernel_rfl) ?_)
 refine PyProof.Rows.callWith_type1 ?_ rfl rfl
 show wpAny _ _ (spliced ((false,eval (.Call (.Name "range" p) [a] [] pos) X.env)::[])) _ _ s
 refine Calls.spliced_cons ?_
 refine wp_range hgx hmx ha hst I hs (wpR_bind.mp hw) fun s1 G1 H1 n r t u v h' tk I1 x1 hq hb I2 hr=>Calls.spliced_nil ?_
 have hh:X.A.handled=none:=I2.ok.hd hc
 have hn:=rngSize n
 have meets:Meets (Builtin.«tuple.__new__» ⟨[.type "tuple",.ref r],[]⟩) (fun A R s'=>A.handled=none/\IsRange s'.heap r 0 n 1 t u v /\
   ∀ (s2:Shared) (acc:Array Value),Pv.Grown s' s2->ItemsOf (fun i v=>∃ t,v=.int (0+i * 1) t) acc (Den.rangeL 0 n).length->R (.ok (.ret (.ref s2.heap.objs.size))) { s2 with heap:=s2.heap.push { cls:=.type "tuple",data:=.seq acc } }) :=
  .of_wp fun prog w A R s' h=>by
   obtain ⟨h1,h2,h3⟩:=h
   have hsub:=sub_tuple_self
   have hinit:=init_tuple_lookup
   have hmh:=madeHere_tuple
   have hT:s'.TypeIs (.ref r) "range":=⟨_,h2,rfl⟩
   have h4:A.in1.handled=none:=h1
   wp_walk using wpAny_typeOf hT,Pv.collect_range (A:=A.in1) h4 h2 (small_one (by omega) (by omega) hb.1 hb.2.1) hn hb.2.2
   intro s2 acc g hacc
   have e:acc.toList.toArray=acc:=by simp
   refine wpAny_bind (m:=Builtin.Tuple.tupleExact acc.toList.toArray) (wpAny_newObj_type (wpAny_pure ⟨_,rfl,?_⟩) (show acc.toList.toArray.size<=sizeLine by rw [e,hacc.1,sizeLine_eq];exact hb.2.2))
   rw [e]
   exact h3 s2 acc g hacc
 refine callType_new F.called_tuple (by decide) (F.typeCall_tuple_1 _) (F.newCall_tuple_1 _) (fun obj=>F.args_object_init_2 obj _) F.entry_tuple_new meets ⟨hh,hr,fun s2 acc g hacc=>⟨⟨_,Heap.get?_push_size _ rfl,rfl⟩,?_⟩⟩
 obtain ⟨xs,k1,k2⟩:=rng_items (X:=X) (G:=G1) hacc
 have I3:=Inv.grown I2 g
 have e:acc=acc.toList.toArray:=by simp
 rw [e]
 exact new_tup I3 x1.sub k2 k1 (by rw [k2.length,Array.length_toList,hacc.1,sizeLine_eq];exact hb.2.2) fun v G' H' x2 r2=>hq v G' H' (x1.trans x2) r2
theorem s_lstR {y:Str} (hc:X.calm=true) (hx:x="range") (hy:y="list") (hgx:Gl X x) (hmx:X.mg x=none) (hgy:Gl X y) (hmy:X.mg y=none) (ha:PE X a (tM xp X mu .view fa)) (hst:starEach [a] X.env=[(false,eval a X.env)]) :
  PE X (.Call (.Name y p2) [.Call (.Name x p) [a] [] pos] [] p3) (tM xp X mu .fresh fun ρ=>(fa ρ>>=fun d=>Den.asInt d>>=fun i=>Den.rngR 0 i)>>=fun ds=>.ok (.lst ds)):=by
 subst hx hy
 intro pins s σ H Q I ⟨G,ρ,hs,hw⟩
 refine wpAny_Call_Name_kw (ld_blt I hgy hmy (u:=.type "list") (by kernel_rfl) ?_)
 refine PyProof.Rows.callWith_type1 ?_ rfl rfl
 show wpAny _ _ (spliced ((false,eval (.Call (.Name "range" p) [a] [] pos) X.env)::[])) _ _ s
 refine Calls.spliced_cons ?_
 refine wp_range hgx hmx ha hst I hs (wpR_bind.mp hw) fun s1 G1 H1 n r t u v h' tk I1 x1 hq hb I2 hr=>Calls.spliced_nil ?_
 have hh:X.A.handled=none:=I2.ok.hd hc
 have hn:=rngSize n
 refine call_list_range hh hr (small_one (by omega) (by omega) hb.1 hb.2.1) hn hb.2.2 fun h2 tk2 acc c hk hg hacc=>?_
 obtain ⟨xs,k1,k2⟩:=rng_items (X:=X) (G:=G1) hacc
 have e:acc=acc.toList.toArray:=by simp
 rw [e] at hg
 refine ⟨.ref h'.objs.size,_,I2.laid (t':=tk2) (o:=.lst xs) hk (Nat.le_refl _) ⟨by rw [k2.length,Array.length_toList,hacc.1,sizeLine_eq];exact hb.2.2,acc.toList,c,k2,hg⟩,rfl,?_⟩
 have fr:H1 h'.objs.size=none:=I2.fresh
 exact hq _ G1 _ (x1.trans (Ext.own x1.sub fr)) ⟨_,xs,rfl,upd_same,x1.h.free fr,x1.sub.free fr,k1⟩
end
end Sim
end
section
namespace Sim
open PySem PySem.Spec PyProof.Rows L2
section
variable {X:Cx} {pins:List (Addr×Obj)} {σ:Sg} {G H:Hp} {s:Shared} {h':Heap}
theorem turned_all {t':Nat} {fp:List Addr} (I:Inv X pins σ H s) (k:∀ b o,b∉fp->s.heap.get? b=some o->h'.get? b=some o) (hf:∀ b∈fp,FpOk X pins H b):Inv X pins σ H { s with heap:=h',toks:=t' }:=by
 have nit:∀ b u,H b=some u->b∉fp:=fun b u e z=>by rw [(hf b z).1] at e;cases e
 have nL:X.env.locals∉fp:=fun z=>(hf _ z).2.1 rfl
 refine I.step (g':=s.gens) (d':=s.drawn) (ch:=fp) (fun b hb=>?_) (fun b o _ _ hc e _=>k b o hc e) (fun b o _ _ hc e _=>⟨o.slots,k b o hc e⟩) (fun _ _ _ _ n=>n)
  (fun b o hc e=>⟨o,k b o hc e⟩) (fun _ _ e=>e) (fun _ _ _ e=>e) (fun b ps e=>⟨#[],by rw [e];simp⟩) (fun m hm=>?_) (fun b u e=>?_) I.bare
 ·obtain ⟨_,f1,_,f3,f4,f5⟩:=hf b hb
  exact ⟨f3,f1,f4,f5⟩
 ·obtain ⟨o,es,ep,ho,r⟩:=hm
  exact ⟨o,es,ep,k _ o nL ho,r⟩
 ·refine (I.hok b u e).stay (fun c v hc q=>k c v ?_ q) (fun _ q=>q) fun _ _ q=>q
  rcases hc with z | z
  ·rw [z];exact nit b u e
  ·exact nit c _ z
theorem track {a:Addr} {o:HO} (I:Inv X pins σ H s) (hH:H a=none) (h0:X.s₀.heap.objs.size<=a) (hL:a≠X.env.locals) (hc:∀ x c,X.env.cells.lookup x=some c->c≠a) (hp:∀ p∈X.pn++pins,p.1≠a)
  (new:ObjOk X.prog X.w (upd H a o) s.heap a o):Inv X pins σ (upd H a o) s where
 ok:=I.ok
 os:=I.os
 bare:=I.bare
 base:=⟨I.base.keep,I.base.slot,fun b ob e n hx=>by
   have:b≠a:=fun z=>absurd (Heap.lt_size e) (Nat.not_lt.mpr (z ▸ h0))
   rw [upd_ne this];exact I.base.free b ob e n hx,I.base.there,fun b xs e=>by
   have q:=I.base.tups b xs e
   rw [upd_ne (ne_of_none q hH)];exact q,fun b ob u e=>by
   have q:=I.base.frzs b ob u e
   rw [upd_ne (ne_of_none q hH)];exact q,fun b ps e=>by
   obtain ⟨mo,q⟩:=I.base.tbls b ps e
   exact ⟨mo,by rw [upd_ne (ne_of_none q hH)];exact q⟩⟩
 loc:=I.loc
 cell:=I.cell
 free:=by rw [upd_ne (Ne.symm hL)];exact I.free
 freeC:=fun x c e=>by rw [upd_ne (hc x c e)];exact I.freeC x c e
 pin:=fun p q=>by
  obtain ⟨z1,z2,z3⟩:=I.pin p q
  exact ⟨z1,by rw [upd_ne (hp p q)];exact z2,z3⟩
 hok:=fun b u e=>by
  by_cases hb:b=a
  ·subst hb;rw [upd_same] at e;cases e;exact new
  ·rw [upd_ne hb] at e
   exact (I.hok b u e).stay (fun c v _ q=>q) (fun c q=>by rw [upd_ne (ne_of_none q hH)];exact q) fun c xs q=>by rw [upd_ne (ne_of_none q hH)];exact q
 len:=I.len
end
def Itz (K : W.Frag) (p q : Addr) : It :=
  ⟨fun i H => ∃ xs ys x y, SqT K H p xs /\ SqT K H q ys /\ xs[i]? = some x /\ ys[i]? = some y,
   fun i H v H' => ∃ T x y, H T = none /\ v = .ref T /\ H' = upd H T (.tup [x, y]) /\ ∀ xs ys, SqT K H p xs -> SqT K H q ys -> xs[i]? = some x /\ ys[i]? = some y,
   fun i H => ∃ xs ys, SqT K H p xs /\ SqT K H q ys /\ (xs[i]? = none \/ ys[i]? = none)⟩
def tnZ (z a b i j p q:Addr) (n:Nat) (h:Heap):Prop:=IsZip h z a b .none/\IsPair h a (.ref i) (.ref j)/\(∃ u v,IsPair h b u v)/\h.IsTupleIter i p n/\h.IsTupleIter j q n
theorem turn_zip {P:Program} {w:World} {K:W.Frag} {elts:List Expr} {k:Nat} {pos:Pos} {z a b i j p q:Addr} (D0:z≠a/\z≠b/\z≠i/\z≠j/\a≠b/\a≠i/\a≠j/\b≠i/\b≠j/\i≠j):Turn P w K (.Tuple elts k pos) (Itz K p q) [z,a,b,i,j] z (tnZ z a b i j p q) where
 mem:=by simp
 obj:=fun n h st c hc=>by
  obtain ⟨h1,h2,⟨u,v,h3⟩,⟨o4,e4,_,d4⟩,⟨o5,e5,_,d5⟩⟩:=st
  simp only [List.mem_cons,List.not_mem_nil,or_false] at hc
  rcases hc with rfl | rfl | rfl | rfl | rfl
  ·exact ⟨_,h1,fun v z=>by cases z⟩
  ·exact ⟨_,h2,fun v z=>by cases z⟩
  ·exact ⟨_,h3,fun v z=>by cases z⟩
  ·exact ⟨o4,e4,fun v z=>by rw [d4] at z;cases z⟩
  ·exact ⟨o5,e5,fun v z=>by rw [d5] at z;cases z⟩
 keep:=fun n h h' st k=>by
  obtain ⟨h1,h2,⟨u,v,h3⟩,h4,h5⟩:=st
  exact ⟨k z (by simp) _ h1,k a (by simp) _ h2,⟨u,v,k b (by simp) _ h3⟩,h4.at fun o e=>k i (by simp) o e,h5.at fun o e=>k j (by simp) o e⟩
 item:=by
  intro X hP hw hK hc n pins s σ H E I hf st hg
  subst hP hw hK
  obtain ⟨xs,ys,x,y,hp,hq,hx,hy⟩:=hg
  obtain ⟨its,rv,tp,_⟩:=I.tuple hp
  obtain ⟨its2,rv2,tq,_⟩:=I.tuple hq
  obtain ⟨ux,hux,rx⟩:=rv.get hx
  obtain ⟨uy,huy,ry⟩:=rv2.get hy
  obtain ⟨h1,h2,⟨u,v,h3⟩,h4,h5⟩:=st
  have far:∀ (t:Addr) (vs:List V),SqT X.K H t vs->∀ c∈[z,a,b,i,j],t≠c:=fun t vs hv c hcm e=>by
   obtain ⟨f0,_,_,f3,_,_⟩:=hf c hcm
   rcases hv with hv | ⟨o,its',n',hk,_⟩
   ·subst e
    rcases hv with hv | ⟨o,hv⟩ <;> rw [f0] at hv <;> cases hv
   ·-- an object of the module
    have hb:=I.ok.mod.kin t o hk
    subst e
    rcases f3 with f3 | f3
    ·exact I.ok.noex _ _ hb f3
    ·exact absurd (Heap.lt_size (I.ok.bs _ _ hb).1) (Nat.not_lt.mpr f3)
  have D:ZipApart z a b i j p q:=⟨D0.1.symm,D0.2.1.symm,D0.2.2.1.symm,D0.2.2.2.1.symm,D0.2.2.2.2.1,D0.2.2.2.2.2.1,D0.2.2.2.2.2.2.1,D0.2.2.2.2.2.2.2.1,D0.2.2.2.2.2.2.2.2.1,D0.2.2.2.2.2.2.2.2.2,
   far p xs hp z (by simp),far p xs hp b (by simp),far p xs hp i (by simp),far p xs hp j (by simp),far q ys hq z (by simp),far q ys hq b (by simp),far q ys hq i (by simp),far q ys hq j (by simp)⟩
  refine Zp.next_item D h1 h2 h3 h4 h5 (show s.heap.IsTuple p its.toArray from tp) (show s.heap.IsTuple q its2.toArray from tq) (x:=ux) (y:=uy) (by simpa using hux) (by simpa using huy) fun g g1 g2 g3 g4 g5 g6 g7=>?_
  refine ⟨_,rfl,?_⟩
  refine wpAny_letOwnedTupleGo_zip (s:={ s with heap:=g }) g1 fun g' z' e'=>?_
  have lt:∀ c∈[z,a,b,i,j],c < s.heap.objs.size:=fun c hcm=>by
   simp only [List.mem_cons,List.not_mem_nil,or_false] at hcm
   rcases hcm with rfl | rfl | rfl | rfl | rfl
   ·exact Heap.lt_size h1
   ·exact Heap.lt_size h2
   ·exact Heap.lt_size h3
   ·obtain ⟨o,e,_⟩:=h4;exact Heap.lt_size e
   ·obtain ⟨o,e,_⟩:=h5;exact Heap.lt_size e
  have keep:∀ c o,c∉[z,a,b,i,j]->s.heap.get? c=some o->g'.get? c=some o:=fun c o hn e=>by
   have n1:c≠z:=fun w=>hn (by simp [w])
   exact e'.extBut _ _ n1 (g7 c o n1 (fun w=>hn (by simp [w])) (fun w=>hn (by simp [w])) (fun w=>hn (by simp [w])) e)
  have I1:Inv X pins σ H { s with heap:=g',toks:=s.toks }:=turned_all I keep hf
  have fr:H s.heap.objs.size=none:=I.fresh
  have hT:g'.get? s.heap.objs.size=some { cls:=.type "tuple",data:=.seq #[ux,uy] }:=e'.extBut _ _ (Nat.ne_of_gt (lt z (by simp))) g5
  have I2:Inv X pins σ (upd H s.heap.objs.size (.tup [x,y])) { s with heap:=g',toks:=s.toks }:=by
   refine track I1 fr I.sz (Nat.ne_of_gt I.lt) (fun x c e w=>?_) (fun pp hpp w=>?_) ⟨by show 2<=_;rw [sizeLine_eq];omega,[ux,uy],.cons rx (.cons ry .nil),⟨_,hT,rfl,_,rfl⟩⟩
   ·obtain ⟨v,o,ho,_⟩:=I.cell x c e
    exact absurd (Heap.lt_size ho) (by rw [w];exact Nat.lt_irrefl _)
   ·exact absurd (Heap.lt_size (I.pin pp hpp).1) (by rw [w];exact Nat.lt_irrefl _)
  refine ⟨.ref s.heap.objs.size,upd H s.heap.objs.size (.tup [x,y]),I2,rfl,⟨_,x,y,fr,rfl,rfl,fun xs' ys' hp' hq'=>?_⟩,⟨z',e'.extBut _ _ D.TIz (g7 a _ D.TIz D.TITO D.TIi1 D.TIi2 h2),⟨ux,uy,e'.extBut _ _ D.TOz g2⟩,g3.extBut e'.extBut D.i1z,g4.extBut e'.extBut D.i2z⟩,fun c hcm=>?_⟩
  ·rw [I.tuple_inj hp' hp,I.tuple_inj hq' hq];exact ⟨hx,hy⟩
  ·rw [upd_ne (Nat.ne_of_lt (lt c hcm))];exact (hf c hcm).1
 done:=by
  intro X hP hw hK hc n pins s σ H E I hf st hg
  subst hP hw hK
  obtain ⟨xs,ys,hp,hq,hend⟩:=hg
  obtain ⟨its,rv,tp,_⟩:=I.tuple hp
  obtain ⟨its2,rv2,tq,_⟩:=I.tuple hq
  obtain ⟨h1,h2,⟨u,v,h3⟩,h4,h5⟩:=st
  have far:∀ (t:Addr) (vs:List V),SqT X.K H t vs->∀ c∈[z,a,b,i,j],t≠c:=fun t vs hv c hcm e=>by
   obtain ⟨f0,_,_,f3,_,_⟩:=hf c hcm
   rcases hv with hv | ⟨o,its',n',hk,_⟩
   ·subst e
    rcases hv with hv | ⟨o,hv⟩ <;> rw [f0] at hv <;> cases hv
   ·have hb:=I.ok.mod.kin t o hk
    subst e
    rcases f3 with f3 | f3
    ·exact I.ok.noex _ _ hb f3
    ·exact absurd (Heap.lt_size (I.ok.bs _ _ hb).1) (Nat.not_lt.mpr f3)
  have D:ZipApart z a b i j p q:=⟨D0.1.symm,D0.2.1.symm,D0.2.2.1.symm,D0.2.2.2.1.symm,D0.2.2.2.2.1,D0.2.2.2.2.2.1,D0.2.2.2.2.2.2.1,D0.2.2.2.2.2.2.2.1,D0.2.2.2.2.2.2.2.2.1,D0.2.2.2.2.2.2.2.2.2,
   far p xs hp z (by simp),far p xs hp b (by simp),far p xs hp i (by simp),far p xs hp j (by simp),far q ys hq z (by simp),far q ys hq b (by simp),far q ys hq i (by simp),far q ys hq j (by simp)⟩
  have hend':its.toArray[n]?=none\/its2.toArray[n]?=none:=by
   rcases hend with h | h
   ·exact .inl (by simpa using rv.none_of h)
   ·exact .inr (by simpa using rv2.none_of h)
  refine Zp.next_end (I.ok.hd hc) D h1 h2 h3 h4 h5 (show s.heap.IsTuple p its.toArray from tp) (show s.heap.IsTuple q its2.toArray from tq) hend' fun g k=>⟨rfl,?_⟩
  exact turned_all (t':=s.toks) I (fun c o hn e=>k c o (fun w=>hn (by simp [w])) (fun w=>hn (by simp [w])) (fun w=>hn (by simp [w])) (fun w=>hn (by simp [w])) e) hf
 self:=fun _ _ _ _ _ st h=>wpAny_pyIter_zip st.1 h
theorem zipL_get:∀ (xs ys:List D) (i:Nat) {d:D},(Den.zipL xs ys)[i]?=some d->∃ x y,xs[i]?=some x/\ys[i]?=some y/\d=.tup [x,y]
 | [],_,i,d,h=>by simp [Den.zipL] at h
 | _::_,[],i,d,h=>by simp [Den.zipL] at h
 | x::xs,y::ys,0,d,h=>by simp [Den.zipL] at h;exact ⟨x,y,rfl,rfl,h.symm⟩
 | x::xs,y::ys,i+1,d,h=>by simpa using zipL_get xs ys i (by simpa [Den.zipL] using h)
theorem zipL_len:∀ (xs ys:List D),(Den.zipL xs ys).length=min xs.length ys.length
 | [],_=>by simp [Den.zipL]
 | _::_,[]=>by simp [Den.zipL]
 | x::xs,y::ys=>by simp [Den.zipL,zipL_len xs ys]
theorem itd_z {K:W.Frag} {P:Hp->Hp->Prop} {G:Hp} {p q:Addr} {xs ys:List V} {ds es:List D} (hP:∀ G1 H1,P G1 H1->Same G G1/\SqT K H1 p xs/\SqT K H1 q ys) (r:Reps K G ds xs) (r':Reps K G es ys):ItD K P (Itz K p q) (Den.zipL ds es) where
 go:=fun i G1 H1 h hi=>by
  obtain ⟨_,q1,q2⟩:=hP G1 H1 h
  rw [zipL_len,r.length,r'.length] at hi
  exact ⟨xs,ys,xs[i]'(by omega),ys[i]'(by omega),q1,q2,List.getElem?_eq_getElem _,List.getElem?_eq_getElem _⟩
 yld:=fun i G1 H1 v H2 d h hs hd ⟨T,x,y,hT,ev,eH,hxy⟩=>by
  obtain ⟨g,q1,q2⟩:=hP G1 H1 h
  obtain ⟨dx,dy,e1,e2,rfl⟩:=zipL_get ds es i hd
  obtain ⟨vx,k1,k2⟩:=r.get e1
  obtain ⟨vy,k3,k4⟩:=r'.get e2
  obtain ⟨z1,z2⟩:=hxy xs ys q1 q2
  rw [k1] at z1;cases z1
  rw [k3] at z2;cases z2
  subst ev eH
  refine ⟨upd G1 T (.tup [x,y]),Ext.put hs hT,T,[x,y],rfl,SqT.of upd_same,?_⟩
  have sm:=same_upd (o:=HO.tup [x,y]) (hs.free hT)
  exact ⟨x,[y],rfl,(k2.mono g).mono sm,y,[],rfl,(k4.mono g).mono sm,rfl⟩
 stop:=fun G1 H1 h=>by
  obtain ⟨_,q1,q2⟩:=hP G1 H1 h
  refine ⟨xs,ys,q1,q2,?_⟩
  rw [zipL_len,r.length,r'.length]
  by_cases c:xs.length<=ys.length
  ·exact .inl (List.getElem?_eq_none (by omega))
  ·exact .inr (List.getElem?_eq_none (by omega))
end Sim
end
section
namespace Sim
open PySem PySem.Spec PyProof.Rows L2
theorem boot_zip:bootBuiltins "zip"=some (.type "zip"):=by kernel_rfl
theorem boot_enumerate:bootBuiltins "enumerate"=some (.type "enumerate"):=by kernel_rfl
section
variable {xp:XP} {X:Cx} {mu:List Nat} {m:Md} {f fa fb:Rho->Rr D} {a b:Expr} {elts:List Expr} {k:Nat} {pos p p4:Pos} {x:Str}
theorem rep_tupM {K:W.Frag} {H G' H':Hp} {ds:List D} {v:V} (h:RepM K H G' H' m (.tup ds) v):Rep K G' (.tup ds) v:=by cases m <;> exact h
theorem pv_tup {K:W.Frag} {G H G1 H1:Hp} {t:Addr} {xs:List V} (hm:m=.view\/m=.val) (hs:Same G H) (h:SqT K G t xs) (q:PV m G H G1 H1):SqT K H1 t xs:=by
 obtain ⟨q1,q2⟩:=q
 rcases hm with rfl | rfl
 ·exact sqT_mono q2 (sqT_mono hs h)
 ·exact sqT_mono q2 (sqT_mono q1 h)
theorem s_izip (hm:m=.view\/m=.val) (hx:x="zip") (hg:Gl X x) (hmg:X.mg x=none) (ha:PE X a (tM xp X mu m fa)) (hb:PE X b (tM xp X mu m fb)) (hst:starEach [a,b] X.env=[(false,eval a X.env),(false,eval b X.env)]) (hst2:starEach [b] X.env=[(false,eval b X.env)]) :
  PI X (.Tuple elts k p4) (.Call (.Name x p) [a,b] [] pos) (tI xp X mu m fun ρ=>fa ρ>>=fun x=>fb ρ>>=fun y=>Den.zipS x y):=by
 subst hx
 intro pins s σ H R I ⟨G,ρ,hs,hw⟩
 refine Call_ (ld_blt I hg hmg boot_zip (PyProof.Rows.callWith_type1 (thn (pa_cons ha (pa_one hb hst2) (by rw [hst,hst2]) pos pins s σ H (fun vs H2=>∃ v w G2 ds es,vs=[v,w]/\Ext G H G2 H2/\Rep X.K G2 (.tup ds) v/\Rep X.K G2 (.tup es) w /\
   ∀ J G' H',Ext G H G' H'->ItD X.K (PV m G' H') J (Den.zipL ds es)->(Den.zipL ds es).length<=16777216->R J H') I
  ⟨G,ρ,hs,wpR_mono (wpR_bind.mp hw) (fun dx q v G1 H1 x1 r1=>?_) fun _ q=>q⟩) fun us s1 ⟨vs,H1,I1,r1,v,w,G1,ds,es,e1,x1,rv,rw',hR⟩=>?_) (by rw [hst,hst2]) (by rw [hst2];rfl)))
 ·refine ⟨G1,ρ,hs.ext x1,wpR_mono (wpR_bind.mp q) (fun dy q2 w G2 H2 x2 r2=>?_) fun _ q=>q.mono x1.h⟩
  cases dx with
  | tup ds =>
   cases dy with
   | tup es=>exact ⟨v,w,G2,ds,es,rfl,x1.trans x2,(rep_tupM r1).mono x2.g,rep_tupM r2,q2⟩
   | _=>exact q2.elim
  | _=>cases dy <;> exact q2.elim
 ·subst e1
  obtain ⟨u1,u2,rfl,ru1,ru2⟩:=vals2 r1
  obtain ⟨tp,xs,rfl,hp,q1⟩:=rv
  obtain ⟨tq,ys,rfl,hq,q2⟩:=rw'
  cases ru1
  cases ru2
  obtain ⟨its,rv1,p1,hz1⟩:=I1.tuple (sqT_mono x1.sub hp)
  obtain ⟨its2,rv2,p2,hz2⟩:=I1.tuple (sqT_mono x1.sub hq)
  refine Zp.make (show s1.heap.IsTuple tp its.toArray from p1) (show s1.heap.IsTuple tq its2.toArray from p2) fun g z1 z2 z3 z4 z5 z6 z7=>?_
  refine wpAny_pyIter_zip z1 ?_
  refine ⟨s1.heap.objs.size+4,[s1.heap.objs.size+4,s1.heap.objs.size+2,s1.heap.objs.size+3,s1.heap.objs.size,s1.heap.objs.size+1],_,Itz X.K tp tq,H1,rfl,I1.kept (t':=s1.toks) z7,turn_zip ?_,⟨z1,z2,⟨_,_,z3⟩,z4,z5⟩,fun c hc=>?_,?_⟩
  ·refine ⟨?_,?_,?_,?_,?_,?_,?_,?_,?_,?_⟩ <;> (intro z;have z:(_:Nat)=_:=z;omega)
  ·have hge:s1.heap.objs.size<=c:=by
    simp only [List.mem_cons,List.not_mem_nil,or_false] at hc
    rcases hc with rfl | rfl | rfl | rfl | rfl
    ·exact Nat.le_add_right _ _
    ·exact Nat.le_add_right _ _
    ·exact Nat.le_add_right _ _
    ·exact Nat.le_refl _
    ·exact Nat.le_add_right _ _
   exact I1.fpOk hge (I1.hok.fresh hge)
  ·refine hR (Itz X.K tp tq) G1 H1 x1 (itd_z (G:=G1) (fun G2 H2 h=>⟨h.1,pv_tup hm x1.sub hp h,pv_tup hm x1.sub hq h⟩) q1 q2) ?_
   rw [zipL_len,q1.length]
   have:=sizeLine_eq
   omega
def Ite (K : W.Frag) (l : Addr) : It :=
  ⟨fun i H => ∃ xs x, SqL K H l xs /\ xs[i]? = some x,
   fun i H v H' => ∃ T x, H T = none /\ v = .ref T /\ H' = upd H T (.tup [.int (i : Nat), x]) /\ ∀ xs, SqL K H l xs -> xs[i]? = some x,
   fun i H => ∃ xs, SqL K H l xs /\ xs.length <= i⟩
def tnE (e it l:Addr) (n:Nat) (h:Heap):Prop:=(∃ old,IsEnum h e it (n:Nat) old)/\h.IsListIter it l n
theorem turn_enum {P:Program} {w:World} {K:W.Frag} {e it l:Addr} (hne:e≠it):Turn P w K (.Tuple elts k pos) (Ite K l) [e,it] e (tnE e it l) where
 mem:=by simp
 obj:=fun n h st c hc=>by
  obtain ⟨⟨old,h1⟩,⟨o4,e4,_,d4⟩⟩:=st
  simp only [List.mem_cons,List.not_mem_nil,or_false] at hc
  rcases hc with rfl | rfl
  ·exact ⟨_,h1,fun v z=>by cases z⟩
  ·exact ⟨o4,e4,fun v z=>by rw [d4] at z;cases z⟩
 keep:=fun n h h' st k=>by
  obtain ⟨⟨old,h1⟩,h4⟩:=st
  exact ⟨⟨old,k e (by simp) _ h1⟩,h4.at fun o q=>k it (by simp) o q⟩
 item:=by
  intro X hP hw hK hc n pins s σ H E I hf st hg
  subst hP hw hK
  obtain ⟨xs,x,hq,hx⟩:=hg
  obtain ⟨its,rv,pl,_⟩:=I.list hq
  obtain ⟨ux,hux,rx⟩:=rv.get hx
  obtain ⟨⟨old,h1⟩,h4⟩:=st
  refine wpAny_pyNext_enum_item h1 h4 pl.isList (x:=ux) (by simpa using hux) hne fun g g1 g2 g3 g4 g5=>⟨_,rfl,?_⟩
  refine wpAny_letOwnedTupleGo_enum (s:={ s with heap:=g,toks:=s.toks+1 }) g1 fun g' z' e'=>?_
  have lt:∀ c∈[e,it],c < s.heap.objs.size:=fun c hcm=>by
   simp only [List.mem_cons,List.not_mem_nil,or_false] at hcm
   rcases hcm with rfl | rfl
   ·exact Heap.lt_size h1
   ·obtain ⟨o,q,_⟩:=h4;exact Heap.lt_size q
  have keep:∀ c o,c∉[e,it]->s.heap.get? c=some o->g'.get? c=some o:=fun c o hn q=>by
   have n1:c≠e:=fun w=>hn (by simp [w])
   exact e'.extBut _ _ n1 (g5 c o n1 (fun w=>hn (by simp [w])) q)
  have I1:Inv X pins σ H { s with heap:=g',toks:=s.toks+1 }:=turned_all I keep hf
  have fr:H s.heap.objs.size=none:=I.fresh
  have hT:g'.get? s.heap.objs.size=some { cls:=.type "tuple",data:=.seq #[.int n s.toks,ux] }:=e'.extBut _ _ (Nat.ne_of_gt (lt e (by simp))) g3
  have I2:Inv X pins σ (upd H s.heap.objs.size (.tup [.int (n:Nat),x])) { s with heap:=g',toks:=s.toks+1 }:=by
   refine track I1 fr I.sz (Nat.ne_of_gt I.lt) (fun x c e w=>?_) (fun pp hpp w=>?_) ⟨by show 2<=_;rw [sizeLine_eq];omega,[.int n s.toks,ux],.cons ⟨_,rfl⟩ (.cons rx .nil),⟨_,hT,rfl,_,rfl⟩⟩
   ·obtain ⟨v,o,ho,_⟩:=I.cell x c e
    exact absurd (Heap.lt_size ho) (by rw [w];exact Nat.lt_irrefl _)
   ·exact absurd (Heap.lt_size (I.pin pp hpp).1) (by rw [w];exact Nat.lt_irrefl _)
  refine ⟨.ref s.heap.objs.size,upd H s.heap.objs.size (.tup [.int (n:Nat),x]),I2,rfl,⟨_,x,fr,rfl,rfl,fun xs' hq'=>?_⟩,⟨⟨ux,z'⟩,g2.extBut e'.extBut (Ne.symm hne)⟩,fun c hcm=>?_⟩
  ·rw [I.list_inj hq' hq];exact hx
  ·rw [upd_ne (Nat.ne_of_lt (lt c hcm))];exact (hf c hcm).1
 done:=by
  intro X hP hw hK hc n pins s σ H E I hf st hg
  subst hP hw hK
  obtain ⟨xs,hq,hend⟩:=hg
  obtain ⟨its,rv,pl,_⟩:=I.list hq
  obtain ⟨⟨old,h1⟩,h4⟩:=st
  have hl:=rv.length
  refine wpAny_pyNext_enum_end (I.ok.hd hc) h1 h4 pl.isList (by simp;omega) fun g k=>⟨rfl,?_⟩
  exact turned_all (t':=s.toks) I (fun c o hn q=>k c o (fun w=>hn (by simp [w])) q) hf
 self:=fun _ _ _ _ _ st h=>let ⟨⟨_,q⟩,_⟩:=st;wpAny_pyIter_enum q h
theorem enumL_get:∀ (xs:List D) (j i:Nat) {d:D},(Den.enumL j xs)[i]?=some d->∃ x,xs[i]?=some x/\d=.tup [.int ((j+i:Nat):Int),x]
 | [],j,i,d,h=>by simp [Den.enumL] at h
 | x::xs,j,0,d,h=>by simp [Den.enumL] at h;exact ⟨x,rfl,h.symm⟩
 | x::xs,j,i+1,d,h=>by
  obtain ⟨y,h1,h2⟩:=enumL_get xs (j+1) i (by simpa [Den.enumL] using h)
  exact ⟨y,by simpa using h1,by rw [h2];congr 3;omega⟩
theorem enumL_len:∀ (xs:List D) (j:Nat),(Den.enumL j xs).length=xs.length
 | [],_=>rfl
 | x::xs,j=>by simp [Den.enumL,enumL_len xs]
theorem itd_e {K:W.Frag} {P:Hp->Hp->Prop} {G:Hp} {l:Addr} {xs:List V} {ds:List D} (hP:∀ G1 H1,P G1 H1->Same G G1/\SqL K H1 l xs) (r:Reps K G ds xs):ItD K P (Ite K l) (Den.enumL 0 ds) where
 go:=fun i G1 H1 h hi=>by
  obtain ⟨_,q1⟩:=hP G1 H1 h
  rw [enumL_len,r.length] at hi
  exact ⟨xs,xs[i]'hi,q1,List.getElem?_eq_getElem _⟩
 yld:=fun i G1 H1 v H2 d h hs hd ⟨T,x,hT,ev,eH,hxy⟩=>by
  obtain ⟨g,q1⟩:=hP G1 H1 h
  obtain ⟨dx,e1,rfl⟩:=enumL_get ds 0 i hd
  obtain ⟨vx,k1,k2⟩:=r.get e1
  have z1:=hxy xs q1
  rw [k1] at z1
  obtain rfl:vx=x:=Option.some.inj z1
  subst ev eH
  refine ⟨upd G1 T (.tup [.int (i:Nat),vx]),Ext.put hs hT,T,[.int (i:Nat),vx],rfl,SqT.of upd_same,?_⟩
  have sm:=same_upd (o:=HO.tup [.int (i:Nat),vx]) (hs.free hT)
  exact ⟨.int (i:Nat),[vx],rfl,by show V.int _=V.int _;congr 1;omega,vx,[],rfl,(k2.mono g).mono sm,rfl⟩
 stop:=fun G1 H1 h=>by
  obtain ⟨_,q1⟩:=hP G1 H1 h
  exact ⟨xs,q1,by rw [enumL_len,r.length];exact Nat.le_refl _⟩
theorem s_ienum (hm:m=.view\/m=.val) (hx:x="enumerate") (hg:Gl X x) (hmg:X.mg x=none) (ha:PE X a (tM xp X mu m fa)) (hst:starEach [a] X.env=[(false,eval a X.env)]) :
  PI X (.Tuple elts k p4) (.Call (.Name x p) [a] [] pos) (tI xp X mu m fun ρ=>fa ρ>>=fun x=>Den.enumS x):=by
 subst hx
 intro pins s σ H R I ⟨G,ρ,hs,hw⟩
 refine Call_ (ld_blt I hg hmg boot_enumerate (PyProof.Rows.callWith_type1 (thn (pa_one ha hst pos pins s σ H (fun vs H2=>∃ v G2 ds,vs=[v]/\Ext G H G2 H2/\RepM X.K H G2 H2 m (.lst ds) v /\
   ∀ J G' H',Ext G H G' H'->ItD X.K (PV m G' H') J (Den.enumL 0 ds)->(Den.enumL 0 ds).length<=16777216->R J H') I
  ⟨G,ρ,hs,wpR_mono (wpR_bind.mp hw) (fun dx q v G1 H1 x1 r1=>?_) fun _ q=>q⟩) fun us s1 ⟨vs,H1,I1,r1,v,G1,ds,e1,x1,rv,hR⟩=>?_) hst rfl))
 ·cases dx with
  | lst ds=>exact ⟨v,G1,ds,rfl,x1,r1,q⟩
  | _=>exact q.elim
 ·subst e1
  obtain ⟨u1,rfl,ru1⟩:=vals1 r1
  obtain ⟨l,xs,rfl,hl,q1,hP⟩:∃ l xs,v=V.ref l/\SqL X.K H1 l xs/\Reps X.K G1 ds xs/\∀ G2 H2,PV m G1 H1 G2 H2->Same G1 G2/\SqL X.K H2 l xs:=by
   rcases hm with rfl | rfl
   ·obtain ⟨l,xs,e,h,q⟩:=rv
    exact ⟨l,xs,e,h,q,fun G2 H2 ⟨z1,z2⟩=>⟨z1,sqL_mono z2 h⟩⟩
   ·obtain ⟨l,xs,e,h,q⟩:=rv
    exact ⟨l,xs,e,sqL_mono x1.sub h,q,fun G2 H2 ⟨z1,z2⟩=>⟨z1,sqL_mono z2 (sqL_mono z1 h)⟩⟩
  cases ru1
  obtain ⟨its,rv1,p1,hz1⟩:=I1.list hl
  refine call_enumerate_list p1.isList fun g z1 z2 z3 z4=>?_
  refine wpAny_pyIter_enum z1 ?_
  refine ⟨s1.heap.objs.size+1,[s1.heap.objs.size+1,s1.heap.objs.size],_,Ite X.K l,H1,rfl,I1.kept (t':=s1.toks) z4,turn_enum ?_,⟨⟨_,z1⟩,z2⟩,fun c hc=>?_,?_⟩
  ·intro z;have z:(_:Nat)=_:=z;omega
  ·have hge:s1.heap.objs.size<=c:=by
    simp only [List.mem_cons,List.not_mem_nil,or_false] at hc
    rcases hc with rfl | rfl
    ·exact Nat.le_add_right _ _
    ·exact Nat.le_refl _
   exact I1.fpOk hge (I1.hok.fresh hge)
  ·refine hR (Ite X.K l) G1 H1 x1 (itd_e (G:=G1) hP q1) ?_
   rw [enumL_len,q1.length]
   have:=sizeLine_eq
   omega
end
end Sim
end
section
namespace Sim
open PySem PySem.Spec PyProof.Rows L2
section
variable {xp:XP} {X:Cx} {mu:List Nat} {m:Md} {f:Rho->Rr D} {e tg iter:Expr} {pos p1 p4 ap cp:Pos} {i:Nat} {x n:Str} {sts:List Stmt}
theorem chk_lst {o:Option (Option D)} {Q:Unit->Prop} {E:Nat->Prop} (h:wpR (Den.chkL o) Q E):∃ ds,o=some (some (.lst ds))/\Q ():=by
 cases o with
 | none=>exact h.elim
 | some o =>
  cases o with
  | none=>exact h.elim
  | some d =>
   cases d with
   | lst ds=>exact ⟨ds,rfl,h⟩
   | _=>exact h.elim
theorem hfew1 (hst:starEach [e] X.env=[(false,eval e X.env)]):((backTo cp (starEach [e] X.env)).all (fun x=>!x.1)&&(backToKw cp (keywordEach [] X.env)).all (fun x=>x.1.isSome)&&decide ([e].length+([]:List Keyword).length+(if ([]:List Keyword).isEmpty then 0 else 1) < 30))=true:=by
 rw [hst];rfl
theorem s_app (hm:i∈mu) (hn:n="append") (hN:X.N[i]?=some x) (hv:Vis X.env.scope x) (h1:(x==("__debug__":Str))=false) (h2:(x==("__classdict__":Str))=false) (hline:(ap.endLine==cp.line)=true) (he:PE X e (tM xp X mu .val f)) (hst:starEach [e] X.env=[(false,eval e X.env)]) :
  PS X (.Expr (.Call (.Attribute (.Name x p1) n ap) [e] [] cp) p4) (tS xp X mu fun ρ=>Den.chkL ρ[i]?>>=fun _=>f ρ>>=fun d=>Den.appD ρ[i]? d>>=fun y=>.ok (.nx (ρ.set i (some y)))):=by
 subst hn
 intro pins s σ H T I ⟨G0,H0,G,ρ,hb,hw⟩
 refine ps_expr (pe_bm PySem.F.plainAttrs_list PySem.F.slot_list_append PySem.F.type_list_append mt_append (pe_var hN hv h1 h2) (pa_one he hst) rfl (hfew1 hst) hline hst rfl) rfl pins s σ H T I ?_
 obtain ⟨ds,q,hw⟩:=chk_lst (wpR_bind.mp hw)
 obtain ⟨a,xs,k1,k2,k3,k4⟩:=hb.sm.lst i ds q hm
 refine ⟨_,k1,.inl ⟨rfl,xs,SqL.of k2⟩,?_⟩
 refine ⟨G,ρ,hb.sm,wpR_mono (wpR_bind.mp hw) (fun d k v G1 H1 x1 r1=>?_) fun _ z=>z.mono hb.ext.h⟩
 have hb1:=hb.step x1
 rw [q,Den.app_ok] at k
 have k:=wpR_bind.mp k
 by_cases hz:ds.length < Den.SZ
 ·rw [if_pos hz] at k
  have hH1:H1 a=some (.lst xs):=x1.h _ _ k2
  have hG1:G1 a=none:=x1.new a k3 (by rw [k2];exact fun z=>nomatch z)
  refine ⟨a,xs,v,rfl,rfl,hH1,by rw [<- k4.length,<- SZ_line];exact hz,?_⟩
  exact k σ G1 _ (hb1.write hm q k1 hH1 hG1 ((k4.mono x1.g).snoc r1))
 ·rw [if_neg hz] at k;exact k.elim
def joinH (G1 H0:Hp):Hp:=fun a=>match G1 a with
 | some o=>some o
 | none=>H0 a
theorem joinH_some {G1 H0:Hp} {a:Addr} {o:HO} (h:G1 a=some o):joinH G1 H0 a=some o:=by unfold joinH;rw [h]
theorem joinH_none {G1 H0:Hp} {a:Addr} (h:G1 a=none):joinH G1 H0 a=H0 a:=by unfold joinH;rw [h]
variable {K:W.Frag} {G0 H0 G1 H1 G H:Hp} {ρ:Rho} {σ:Sg}
theorem same_join (x:Ext G0 H0 G1 H1):Same H0 (joinH G1 H0):=fun a o h=>by
 cases q:G1 a with
 | none=>rw [joinH_none q];exact h
 | some o' =>
  rw [joinH_some q]
  have e1:=x.sub a o' q
  have e2:=x.h a o h
  rw [e1] at e2
  exact e2
theorem ext_re (x:Ext G0 H0 G1 H1) (y:Ext G0 H0 G H) (s:Same G1 G):Ext G1 (joinH G1 H0) G H where
 g:=s
 h:=fun a o e=>by
  cases q:G1 a with
  | some o'=>rw [joinH_some q] at e;cases e;exact y.sub a o (s a o q)
  | none=>rw [joinH_none q] at e;exact y.h a o e
 sub:=y.sub
 new:=fun a e1 e2=>by
  rw [joinH_none e1] at e2
  refine y.new a ?_ e2
  cases q:G0 a with
  | none=>rfl
  | some o=>rw [x.g a o q] at e1;cases e1
theorem ext_back (x:Ext G0 H0 G1 H1) (y:Ext G1 (joinH G1 H0) G H):Ext G0 H0 G H where
 g:=x.g.trans y.g
 h:=(same_join x).trans y.h
 sub:=y.sub
 new:=fun a e1 e2=>by
  have q:=x.new a e1 e2
  exact y.new a q (by rw [joinH_none q];exact e2)
theorem Sb.re (x:Ext G0 H0 G1 H1) (h:Sb K mu G0 H0 G H ρ σ) (s:Same G1 G):Sb K mu G1 (joinH G1 H0) G H ρ σ:=by
 refine ⟨h.sm,ext_re x h.ext s,fun i ds a q hi e=>?_⟩
 obtain ⟨b,xs,k1,k2,k3,k4⟩:=h.sm.lst i ds q hi
 rw [k1] at e;cases e
 have:G1 a=none:=by
  cases z:G1 a with
  | none=>rfl
  | some o=>rw [s a o z] at k3;cases k3
 rw [joinH_none this];exact h.own i ds a q hi k1
theorem Sb.back (x:Ext G0 H0 G1 H1) (h:Sb K mu G1 (joinH G1 H0) G H ρ σ):Sb K mu G0 H0 G H ρ σ:=by
 refine ⟨h.sm,ext_back x h.ext,fun i ds a q hi e=>?_⟩
 have:=h.own i ds a q hi e
 cases z:G1 a with
 | some o=>rw [joinH_some z] at this;cases this
 | none=>rw [joinH_none z] at this;exact this
theorem Sb.set_all:∀ {ts:List Nat} {ws:List D} {vs:List V} {ρ:Rho} {σ:Sg},(∀ t∈ts,t∉mu)->Sb K mu G0 H0 G H ρ σ->Reps K G ws vs->Sb K mu G0 H0 G H (Den.setAll ts (ws.map some) ρ) (setV ts vs σ)
 | [],ws,vs,ρ,σ,_,h,r=>by simpa [Den.setAll,setV] using h
 | t::ts,[],vs,ρ,σ,_,h,r=>by cases r;simpa [Den.setAll,setV] using h
 | t::ts,w::ws,vs,ρ,σ,ht,h,⟨v,r,e,r1,r2⟩=>by
  subst e
  exact Sb.set_all (ts:=ts) (fun z hz=>ht z (List.mem_cons_of_mem _ hz)) (h.set_val (ht t List.mem_cons_self) r1) r2
theorem forL_cons (g:D->Rho->Rr Den.Fl) (d:D) (ds:List D) (ρ:Rho):Den.forL g (d::ds) ρ=g d ρ>>=fun r=>match r with
  | .nx ρ'=>Den.forL g ds ρ'
  | .ct ρ'=>Den.forL g ds ρ'
  | .bk ρ'=>.ok (.nx ρ')
  | .rt x=>.ok (.rt x):=rfl
theorem s_for {k : Nat} {ts : List Nat} {fI : Rho -> Rr (List D)} {gb : Rho -> Rr Den.Fl} (hp : PassesOwn (model X.prog X.w) X.A X.env X.xe) (hc : X.calm = true) (hts : ∀ t ∈ ts, t ∉ mu) (hi : PI X tg iter (tI xp X mu .val fI)) (hg : PG X tg (gD X.K k ts)) (hb : PSs X sts (tS xp X mu gb))
    (hs : ∀ z, foldedSetIterable iter X.env z = pure z) : PS X (.For tg iter sts [] pos) (tS xp X mu fun ρ => fI ρ >>= fun ds => Den.forL (fun d ρ' => Den.bindT k d >>= fun vs => gb (Den.setAll ts vs ρ')) ds ρ) := by
  intro pins s σ H T I ⟨G0, H0, G, ρ, hbb, hw⟩
  refine ps_for hp hc hi hg hb hs pins s σ H T I ?_
  refine ⟨G, ρ, hbb.sm, wpR_mono (wpR_bind.mp hw) (fun ds kq J G1 H1 x1 itd hz => ?_) fun _ q => q.mono hbb.ext.h⟩
  have x01 : Ext G0 H0 G1 H1 := hbb.ext.trans x1
  have sj := same_join x01
  refine ⟨fun j m σ' H' => j + m = ds.length /\ ∃ G' ρ', Sb X.K mu G1 (joinH G1 H0) G' H' ρ' σ' /\ wpR (Den.forL (fun d ρ' => Den.bindT k d >>= fun vs => gb (Den.setAll ts vs ρ')) (ds.drop j) ρ') (flQ X.K mu G0 H0 T) (fun c => RaiseOk xp X c H0),
    ⟨ds.length, by omega, G1, ρ, Sb.re x01 (hbb.step x1) (Same.refl _), by simpa using kq⟩, ?_⟩
  rintro j m σ' H' ⟨hj, G', ρ', sb, hw'⟩
  have hPV : PV .val G1 H1 G' H' := ⟨sb.ext.g, sb.sm.sub⟩
  by_cases hlt : j < ds.length
  · refine .inr ⟨itd.go j G' H' hPV hlt, fun σ2 H2 => (j + 1) + (m - 1) = ds.length /\ ∃ G2 ρ2, Sb X.K mu G1 (joinH G1 H0) G2 H2 ρ2 σ2 /\ wpR (Den.forL (fun d ρ' => Den.bindT k d >>= fun vs => gb (Den.setAll ts vs ρ')) (ds.drop (j + 1)) ρ2) (flQ X.K mu G0 H0 T) (fun c => RaiseOk xp X c H0),
      fun σ2 H2 h2 => ⟨m - 1, by omega, h2⟩, fun v H2 hy => ?_⟩
    have hd : ds[j]? = some ds[j] := List.getElem?_eq_getElem hlt
    obtain ⟨G2, x2, rd⟩ := itd.yld j G' H' v H2 ds[j] hPV sb.sm.sub hd hy
    have sb2 := sb.step x2
    have edrop : ds.drop j = ds[j] :: ds.drop (j + 1) := List.drop_eq_getElem_cons hlt
    rw [edrop, forL_cons] at hw'
    have hw' := wpR_bind.mp (wpR_bind.mp hw')
    refine ⟨G2, ds[j], x2.sub, rd, ?_⟩
    cases q : Den.bindT k ds[j] with
    | bad => rw [q] at hw'; exact hw'
    | exc c =>
      exfalso
      cases k with
      | zero => cases q
      | succ k =>
        cases hd' : ds[j] with
        | tup zs =>
          rw [hd'] at q
          have hbt : Den.bindT (k + 1) (.tup zs) = if zs.length = k + 1 then .ok (zs.map some) else .bad := rfl
          rw [hbt] at q
          split at q <;> cases q
        | _ => rw [hd'] at q; cases q
    | ok os =>
      rw [q] at hw'
      intro ws vs eo rvs
      subst eo
      refine ⟨G1, joinH G1 H0, G2, _, Sb.set_all hts sb2 rvs, wpR_mono hw' (fun r kr => ?_) fun c z => z.mono sj⟩
      cases r with
      | nx ρ2 => exact fun σ3 G3 H3 sb3 => ⟨by omega, G3, ρ2, sb3, kr⟩
      | ct ρ2 => exact fun σ3 G3 H3 sb3 => ⟨by omega, G3, ρ2, sb3, kr⟩
      | bk ρ2 => exact fun σ3 G3 H3 sb3 => kr σ3 G3 H3 (Sb.back x01 sb3)
      | rt d => exact fun v3 G3 H3 x3 r3 => kr v3 G3 H3 (ext_back x01 x3) r3
  · have ej : j = ds.length := by omega
    subst ej
    refine .inl ⟨itd.stop G' H' hPV, ?_⟩
    rw [List.drop_length] at hw'
    exact hw' σ' G' H' (Sb.back x01 sb)
end
end Sim
end
section
namespace Sim
open PySem PySem.Spec PyProof.Rows L2
theorem fresh_val {K:W.Frag} {G H G' H':Hp} {d:D} {v:V} (x:Ext G H G' H') (r:RepM K H G' H' .fresh d v):∃ G2,Ext G H G2 H'/\Rep K G2 d v:=by
 cases d with
 | lst ds =>
  obtain ⟨a,xs,rfl,h1,h2,h3,h4⟩:=r
  refine ⟨upd G' a (.lst xs),⟨x.g.trans (same_upd h3),x.h,fun b o q=>?_,fun b q1 q2=>?_⟩,a,xs,rfl,.inl (.inl upd_same),h4.mono (same_upd h3)⟩
  ·by_cases hb:b=a
   ·subst hb;rw [upd_same] at q;rw [h1];exact q
   ·rw [upd_ne hb] at q;exact x.sub b o q
  ·rw [upd_ne (fun z=>q2 (by rw [z];exact h2))];exact x.new b q1 q2
 | _=>exact ⟨G',x,r⟩
section
variable {xp:XP} {X:Cx} {mu:List Nat} {fI:Rho->Rr (List D)} {fe:Rho->Rr D} {fc:Rho->Rr Bool} {elt target iter:Expr} {ifs:List Expr} {scope:Scope} {pos p1 p4:Pos} {xs N':List Str} {k i:Nat} {y:Str}
theorem s_asgC (hc : X.calm = true) (hmu : ∀ i ∈ mu, i < X.N.length) (B : BlockOk X scope xs N') (hk : Den.tgt k target = some xs) (hset : ∀ x, foldedSetIterable iter X.env x = pure x)
    (hi : PI X target iter (tI xp X mu .view fI)) (he : ∀ s3 H3 fp pins, PE (Blk X scope N' s3 H3 fp pins) elt (tM xp (Blk X scope N' s3 H3 fp pins) mu .val fe)) (ht : Tests xp X mu scope N' ifs fc)
    (hN : X.N.Nodup) (hy : X.N[i]? = some y) (hx : Loc X.env.scope y) (hf : X.fn y = true \/ X.env.scope.names.lookup y = some .local) :
    PS X (.Assign [.Name y p1] (.ListComp elt [⟨target, iter, ifs, 0⟩] scope pos) p4) (tS xp X mu fun ρ => (fI ρ >>= fun ds => Den.noX (Den.compL (elf k fc fe ρ) ds) >>= fun ys => .ok (.lst ys)) >>= fun d => .ok (.nx (ρ.set i (some d)))) := by
  have hsw : ∃ b : Bool, swapsWith (.ListComp elt [⟨target, iter, ifs, 0⟩] scope pos) (some (.Name y p1)) p4.line X.env = pure b := ⟨_, rfl⟩
  obtain ⟨b, hsw⟩ := hsw
  cases b with
  | false =>
    by_cases hm : i ∈ mu
    · exact s_asgF hm hN hy hx (s_comp hc hmu B hk hset hi he ht) hsw hf
    · exact s_asg hm hN hy hx (PE.val (s_comp hc hmu B hk hset hi he ht)) hsw hf
  | true =>
    intro pins s σ H T I ⟨G0, H0, G, ρ, hb, hw⟩
    rw [exec_Assign_Name_used _ _ _ _ hsw]
    refine wpAny_bind (wpAny_standAt (wpAny_bind ?_))
    show wpAny _ X.A (do let _ <- comprehension (.ListComp elt [⟨target, iter, ifs, 0⟩] scope pos) scope X.env _ (newList []) false (eval iter X.env) (some (assign (.Name y p1) X.env))) _ _ s
    refine wpAny_bind (wpAny_mono (comp_core hc hmu B hk hset hi he ht I hb.sm (use := some (assign (.Name y p1) X.env)) (Qc := fun _ s' => SP X pins T .next s') ?_) (fun _ s' hq => wpAny_pure (wpAny_pure hq)) fun _ _ e => e)
    have hw := wpR_bind.mp (wpR_bind.mp hw)
    refine wpR_bind.mpr (wpR_mono hw (fun ds k1 => ?_) fun _ q => q.mono hb.ext.h)
    refine wpR_mono (wpR_bind.mp k1) (fun ys k2 s4 H' G' C Dd m4 x r hn hfp inv => ?_) fun _ q => q.mono hb.ext.h
    have I4 : Inv X pins σ H' s4 := inv s4.heap (Heap.SameBut.refl _ _)
    obtain ⟨oC, es, ep, ho, hr⟩ := id hn
    have hncell : ∀ v, oC.data ≠ .cell v := fun v z => by
      have := hr.1
      rw [z] at this; cases this
    obtain ⟨f0, f1, f2, f3, f4, f5⟩ := hfp
    have I4p : Inv X (pins ++ [(C, oC)]) σ H' s4 := I4.pins_of fun p hp => by
      rcases List.mem_append.mp hp with z | z
      · exact I4.pin p (List.mem_append_right _ z)
      · have z := List.mem_singleton.mp z
        subst z
        exact ⟨ho, f0, f1, f2, hncell⟩
    show wpAny _ X.A (assign (.Name y p1) X.env (.ref Dd)) _ _ s4
    refine wpAny_assign_Name (store_ok I4p hN hy hx (v := .ref Dd) rfl (fun s5 I5 => ?_) hf)
    have h5 : s5.heap.get? C = some oC := (I5.pin (C, oC) (List.mem_append_right _ (List.mem_append_right _ (List.mem_singleton.mpr rfl)))).1
    refine ⟨m4, ⟨oC, es, ep, h5, hr⟩, fun h' sb => ⟨σ.set i (some (.ref Dd)), H', ?_, ?_⟩⟩
    · exact (I5.unpinned).turned (t' := s5.toks) (fun b o hb e => (sb.2 b hb).trans e) f0 f1 f3 f4 f5
    · by_cases hm : i ∈ mu
      · exact k2 _ G' H' (hb.set_fresh x hm r)
      · obtain ⟨G2, x2, r2⟩ := fresh_val x r
        exact k2 _ G2 H' ((hb.step x2).set_val hm r2)
end
end Sim
end
section
namespace Sim
open PySem PySem.Spec PyProof.Rows L2
def nice:Expr->Bool
 | .Starred ..=>false
 | .Set ..=>false
 | .SetComp ..=>false
 | .DictComp ..=>false
 | .Slice ..=>false
 | _=>true
theorem nn {α:Type} {a:α} {p:Prop} (h:none=some a):p:=nomatch h
theorem vName_i {x:Expr} {y:Str} (h:Den.vName x=some y):∃ p,x=.Name y p:=by
 cases x with
 | Name z p=>cases h;exact ⟨p,rfl⟩
 | _=>exact nn h
theorem vConst_i {x:Expr} {c:Const} (h:Den.vConst x=some c):∃ k p,x=.Constant c k p:=by
 cases x with
 | Constant z k p=>cases h;exact ⟨k,p,rfl⟩
 | _=>exact nn h
theorem vTup_i {x:Expr} {es:List Expr} (h:Den.vTup x=some es):∃ k p,x=.Tuple es k p:=by
 cases x with
 | Tuple z k p=>cases h;exact ⟨k,p,rfl⟩
 | _=>exact nn h
theorem vLst_i {x:Expr} {es:List Expr} (h:Den.vLst x=some es):∃ p,x=.List es p:=by
 cases x with
 | List z p=>cases h;exact ⟨p,rfl⟩
 | _=>exact nn h
theorem vBin_i {x a b:Expr} {o:Operator} (h:Den.vBin x=some (a,o,b)):∃ p,x=.BinOp a o b p:=by
 cases x with
 | BinOp l o r p=>cases h;exact ⟨p,rfl⟩
 | _=>exact nn h
theorem vUn_i {x a:Expr} {o:UnaryOp} (h:Den.vUn x=some (o,a)):∃ p,x=.UnaryOp o a p:=by
 cases x with
 | UnaryOp o r p=>cases h;exact ⟨p,rfl⟩
 | _=>exact nn h
theorem vCmp_i {x a:Expr} {os:List CmpOp} {ys:List Expr} (h:Den.vCmp x=some (a,os,ys)):∃ p,x=.Compare a os ys p:=by
 cases x with
 | Compare l o r p=>cases h;exact ⟨p,rfl⟩
 | _=>exact nn h
theorem vBool_i {x:Expr} {o:BoolOp} {es:List Expr} {p:Pos} (h:Den.vBool x=some (o,es,p)):x=.BoolOp o es p:=by
 cases x with
 | BoolOp o es p=>cases h;rfl
 | _=>exact nn h
theorem vSub_i {x a b:Expr} (h:Den.vSub x=some (a,b)):∃ p,x=.Subscript a b p:=by
 cases x with
 | Subscript l r p=>cases h;exact ⟨p,rfl⟩
 | _=>exact nn h
theorem vSlc_i {x:Expr} {a b c:Option Expr} (h:Den.vSlc x=some (a,b,c)):∃ p,x=.Slice a b c p:=by
 cases x with
 | Slice l r t p=>cases h;exact ⟨p,rfl⟩
 | _=>exact nn h
theorem vCall0_i {x f:Expr} {es:List Expr} {ks:List Keyword} (h:Den.vCall0 x=some (f,es,ks)):∃ p,x=.Call f es ks p:=by
 cases x with
 | Call l r t p=>cases h;exact ⟨p,rfl⟩
 | _=>exact nn h
theorem vCall_i {x:Expr} {y:Str} {es:List Expr} (h:Den.vCall x=some (y,es)):∃ p q,x=.Call (.Name y p) es [] q:=by
 unfold Den.vCall at h
 split at h
 ·rename_i f es' e1
  obtain ⟨q,rfl⟩:=vCall0_i e1
  split at h
  ·rename_i z e2
   obtain ⟨p,rfl⟩:=vName_i e2
   cases h
   exact ⟨p,q,rfl⟩
  ·cases h
 ·cases h
theorem vComp_i {x a:Expr} {gs:List Comprehension} {sc:Scope} (h:Den.vComp x=some (a,gs,sc)):∃ p,x=.ListComp a gs sc p:=by
 cases x with
 | ListComp l r t p=>cases h;exact ⟨p,rfl⟩
 | _=>exact nn h
theorem isM1_i {x:Expr} (h:Den.isM1 x=true):∃ k p q,x=.UnaryOp .USub (.Constant (.int 1) k p) q:=by
 unfold Den.isM1 at h
 split at h
 ·rename_i y e1
  obtain ⟨q,rfl⟩:=vUn_i e1
  split at h
  ·rename_i i e2
   obtain ⟨k,p,rfl⟩:=vConst_i e2
   have:i=1:=by simpa using h
   subst this
   exact ⟨k,p,q,rfl⟩
  ·cases h
 ·cases h
theorem nice_of {g:Den.Gt} {ct:Den.Ct} {v:Bool} {e:Den.E} {x:Expr} (h:Den.ckE g ct v e x=true):nice x=true:=by
 cases hn:nice x with
 | true=>rfl
 | false =>
  exfalso
  cases x <;> first | (cases hn;done) | skip
  all_goals (cases e <;> exact Bool.false_ne_true h)
theorem star_cons {e:Expr} {es:List Expr} {env:Env} (h:nice e=true):starEach (e::es) env=(false,eval e env)::starEach es env:=by
 cases e <;> first | rfl | cases h
theorem star_one {e:Expr} {env:Env} (h:nice e=true):starEach [e] env=[(false,eval e env)]:=star_cons h
theorem star_two {e e':Expr} {env:Env} (h:nice e=true) (h':nice e'=true):starEach [e,e'] env=[(false,eval e env),(false,eval e' env)]:=by rw [star_cons h,star_one h']
theorem plain_args {es:List Expr} {env:Env} {pos:Pos} (h:∀ e∈es,nice e=true):(backTo pos (starEach es env)).any (·.1)=false:=by
 induction es with
 | nil=>rfl
 | cons e es ih =>
  rw [star_cons (h e List.mem_cons_self)]
  show (false||(backTo pos (starEach es env)).any (·.1))=false
  rw [ih fun z hz=>h z (List.mem_cons_of_mem _ hz)];rfl
theorem ix_plain {b:Expr} (h:nice b=true):PlainIx b:=by
 intro o i
 cases b <;> first | rfl | cases h
theorem set_plain {b:Expr} {env:Env} (h:nice b=true):∀ x,foldedSetIterable b env x=pure x:=by
 intro x
 cases b <;> first | rfl | cases h
theorem mark_plain {b:Expr} {op:CmpOp} (h:nice b=true):behindInMarks op b=false:=by
 cases b <;> first | rfl | cases h
theorem swap_plain {e:Expr} {t:Option Expr} {n:Nat} {env:Env} (h:nice e=true) (hc:Den.noComp e=true):swapsWith e t n env=pure false:=by
 cases e <;> first | rfl | (cases hc;done) | (cases h;done)
def BL:List Str:=["len","isinstance","int","bool","str","tuple","list","zip","all","any","sorted","set","range","enumerate"]
structure Tb (P:Program) (w:World) (K:W.Frag) (mg:Str->Option Value) (base:Heap) (xp:XP) (k:Nat) (g:Den.Gt) (pg:Den.Pg) (Φ:Den.Fn):Prop where
 fn:∀ (f:Nat) (x:Str),g.fns[f]?=some x->∃ fa fd ps,mg x=some (.ref fa)/\W.keepIn K (.ref fa)=true/\Binds K fd ps []/\FnOk P w K mg base (CXd P w xp) k fa fd ps (spF K (Φ f) ps.length)/\∀ ds,ds.length≠ps.length->Φ f ds=.bad
 blt:∀ x:Str,x∈BL->mg x=none
 glb:∀ (j:Nat) (x:Str) (d:D),g.glb[j]?=some x->pg.cs[j]?=some d->∃ v u,mg x=some u/\RelV v u/\∀ G,Rep K G d v
structure XOk (xp:XP) (k:Nat) (g:Den.Gt) (pg:Den.Pg) (Φ:Den.Fn) (X:Cx) (ct:Den.Ct):Prop where
 tb:Tb X.prog X.w X.K X.mg X.base xp k g pg Φ
 room:Room k X.A
 units:X.A.units+64 < cLine
 calm:X.calm=true
 nm:X.N=ct.N
 nd:ct.N.Nodup
 mu:∀ i∈ct.mu,i < ct.N.length
 lc:∀ x,ct.sc.names.lookup x=some .local->X.env.scope.names.lookup x=some .local
 cf:∀ x,(ct.sc.names.lookup x=some .cell\/ct.sc.names.lookup x=some .free)->(X.env.scope.names.lookup x=some .cell\/X.env.scope.names.lookup x=some .free)
 gl:∀ x,ct.sc.names.lookup x=some .globalImplicit->X.env.kindOf x=some .globalImplicit
section
variable {xp:XP} {k:Nat} {g:Den.Gt} {pg:Den.Pg} {Φ:Den.Fn} {X:Cx} {ct:Den.Ct}
theorem XOk.vis (h:XOk xp k g pg Φ X ct) {x:Str} (q:Den.visB ct.sc x=true):Vis X.env.scope x:=by
 unfold Den.visB at q
 simp only [Bool.or_eq_true,beq_iff_eq] at q
 rcases q with (q | q) | q
 ·exact .inl (h.lc x q)
 ·exact .inr (h.cf x (.inl q))
 ·exact .inr (h.cf x (.inr q))
theorem XOk.glo (h:XOk xp k g pg Φ X ct) {x:Str} (q:Den.gloB ct.sc x=true):Gl X x:=by
 unfold Den.gloB at q
 exact h.gl x (by simpa using q)
theorem okN_d {x:Str} (h:Den.okN x=true):(x==("__debug__":Str))=false/\(x==("__classdict__":Str))=false/\x≠"__name__":=by
 unfold Den.okN at h
 simp only [Bool.and_eq_true,Bool.not_eq_true'] at h
 exact ⟨h.1.1,h.1.2,fun z=>by rw [z] at h;exact absurd h.2 (by decide)⟩
theorem XOk.blt (h:XOk xp k g pg Φ X ct) {x:Str} (q:Den.bltB g ct.sc x=true) (hn:x∈BL):Gl X x/\X.mg x=none:=by
 unfold Den.bltB at q
 simp only [Bool.and_eq_true,Bool.not_eq_true'] at q
 exact ⟨h.glo q.1.1.1,h.tb.blt x hn⟩
end
def md (v:Bool):Md:=if v then .view else .val
structure Res (xp:XP) (X:Cx) (mu:List Nat) (v fr:Bool) (x:Expr) (f:Rho->Rr D):Prop where
 pe:PE X x (tM xp X mu (md v) f)
 fresh:fr=true->PE X x (tM xp X mu .fresh f)
 pt:PT X x (tT xp X mu f)
 pw:(∃ op es p,x=.BoolOp op es p)->PW X x (tT xp X mu f)
section
variable {xp:XP} {X:Cx} {mu:List Nat} {v fr:Bool} {x:Expr} {f:Rho->Rr D}
theorem Res.view (h:Res xp X mu v fr x f):PE X x (tM xp X mu .view f):=PE.view h.pe
theorem Res.val (h:Res xp X mu false fr x f):PE X x (tM xp X mu .val f):=h.pe
theorem pe_md (h:PE X x (tM xp X mu .val f)):PE X x (tM xp X mu (md v) f):=by
 cases v with
 | true=>exact PE.view h
 | false=>exact h
theorem Res.of_val (h:PE X x (tM xp X mu .val f)) (ht:∀ whole,isTrue x X.env whole=(do let v <- whole;standAt x.pos;holding [v] (truthy v))) (hb:∀ op es p,x≠.BoolOp op es p) (hf:fr=false):Res xp X mu v fr x f :=
 ⟨pe_md h,fun z=>(by rw [hf] at z;cases z),s_test (PE.view h) ht,fun ⟨op,es,p,e⟩=>absurd e (hb op es p)⟩
theorem Res.of_fresh (h:PE X x (tM xp X mu .fresh f)) (ht:∀ whole,isTrue x X.env whole=(do let v <- whole;standAt x.pos;holding [v] (truthy v))) (hb:∀ op es p,x≠.BoolOp op es p):Res xp X mu v fr x f :=
 ⟨pe_md (PE.val h),fun _=>h,s_test (PE.view h) ht,fun ⟨op,es,p,e⟩=>absurd e (hb op es p)⟩
theorem Res.of_all (h:∀ m,PE X x (tM xp X mu m f)) (ht:PT X x (tT xp X mu f)) (hb:∀ op es p,x≠.BoolOp op es p):Res xp X mu v fr x f :=
 ⟨h _,fun _=>h _,ht,fun ⟨op,es,p,e⟩=>absurd e (hb op es p)⟩
end
end Sim
end
section
namespace Sim
open PySem PySem.Spec PyProof.Rows L2
theorem mask_len (N xs:List Str):(Den.mask N xs).length=N.length:=by unfold Den.mask;rw [List.length_map]
structure BlkOk (ct:Den.Ct) (scope:Scope) (xs:List Str):Prop where
 kind:scope.kind=.function
 nocell:∀ y∈scope.names,y.2≠.cell
 names:∀ y∈scope.names,y.2=.local->scope.names.lookup y.1=some .local
 tgt:∀ y∈xs,scope.names.lookup y=some .local
 loc:∀ y∈scope.names,y.2=.local->y.1∈xs\/y.1=(".0":Str)
 fr:∀ y∈scope.names,y.2=.free->ct.sc.names.lookup y.1=some .cell\/ct.sc.names.lookup y.1=some .free
 same:∀ p∈(Den.mask ct.N xs).zip ct.N,p.1=p.2\/scope.names.lookup p.1=none
 nd:(Den.mask ct.N xs++xs).Nodup
 dot:(".0":Str)∉Den.mask ct.N xs++xs
section
variable {xp:XP} {k:Nat} {g:Den.Gt} {pg:Den.Pg} {Φ:Den.Fn} {X:Cx} {ct:Den.Ct} {scope:Scope} {xs:List Str}
theorem BlkOk.block (hX:XOk xp k g pg Φ X ct) (b:BlkOk ct scope xs):BlockOk X scope xs (Den.mask ct.N xs++xs) where
 kind:=b.kind
 nocell:=b.nocell
 names:=b.names
 loc:=fun y h=>b.loc (y,.local) (PySem.mem_of_lookup h) rfl
 tgt:=b.tgt
 fr:=fun y hy e=>hX.cf y.1 (b.fr y hy e)
 len:=by rw [List.length_append,mask_len,hX.nm]
 old:=fun i y hi e hs=>by
  rw [hX.nm] at hi ⊢
  rw [List.getElem?_append_left (by rw [mask_len];exact hi)] at e
  have hz:((Den.mask ct.N xs).zip ct.N)[i]?=some (y,ct.N[i]):=by
   rw [List.getElem?_zip_eq_some];exact ⟨e,List.getElem?_eq_getElem hi⟩
  have hm:=b.same _ (List.mem_of_getElem? hz)
  have hy:y∈Den.mask ct.N xs:=List.mem_of_getElem? e
  rcases hm with hm | hm
  ·refine ⟨by have hm:y=ct.N[i]:=hm;rw [List.getElem?_eq_getElem hi,<- hm],fun hx=>?_,fun z=>b.dot (List.mem_append_left _ (z ▸ hy))⟩
   exact (List.nodup_append.mp b.nd).2.2 y hy y hx rfl
  ·simp only at hm;rw [hm] at hs;cases hs
 new:=fun j=>by
  rw [hX.nm,List.getElem?_append_right (by rw [mask_len];omega),mask_len];congr 1;omega
 nd:=b.nd
theorem BlkOk.ok (hX:XOk xp k g pg Φ X ct) (b:BlkOk ct scope xs) (s3:Shared) (H3:Hp) (fp:List Addr) (pins:List (Addr×Obj)):XOk xp k g pg Φ (Blk X scope (Den.mask ct.N xs++xs) s3 H3 fp pins) ⟨Den.mask ct.N xs++xs,scope,ct.mu⟩ where
 tb:=hX.tb
 room:=hX.room
 units:=hX.units
 calm:=hX.calm
 nm:=rfl
 nd:=b.nd
 mu:=fun i hi=>by
  have:=hX.mu i hi
  show i < (Den.mask ct.N xs++xs).length
  rw [List.length_append,mask_len];omega
 lc:=fun x h=>relabel_of h (by decide)
 cf:=fun x h=>by
  rcases h with h | h
  ·exact absurd rfl (b.nocell _ (PySem.mem_of_lookup h))
  ·exact relabel_free h
 gl:=fun x h=>relabel_of h (by decide)
end
theorem blkOk_of {ct : Den.Ct} {sc : Scope} {xs : List Str} (h : Den.blkB ct sc xs = true) : BlkOk ct sc xs := by
  unfold Den.blkB at h
  rw [Bool.and_eq_true, Bool.and_eq_true, Bool.and_eq_true, Bool.and_eq_true, Bool.and_eq_true, Bool.and_eq_true, Bool.and_eq_true, Bool.and_eq_true, Bool.and_eq_true] at h
  obtain ⟨⟨⟨⟨⟨⟨⟨⟨⟨h1, h2⟩, h3⟩, h4⟩, _⟩, h5⟩, h6⟩, h7⟩, h8⟩, h9⟩ := h
  exact {
    kind := of_decide_eq_true h1
    nocell := fun y hy => by simpa using List.all_eq_true.mp h2 y hy
    names := fun y hy e => by
      have := List.all_eq_true.mp h3 y hy
      rw [e] at this
      simpa using this
    tgt := fun y hy => by
      have := List.all_eq_true.mp h4 y hy
      simp only [Bool.and_eq_true, beq_iff_eq] at this
      exact this.1
    loc := fun y hy e => by
      have := List.all_eq_true.mp h5 y hy
      rw [e] at this
      simpa using this
    fr := fun y hy e => by
      have := List.all_eq_true.mp h6 y hy
      rw [e] at this
      simpa using this
    same := fun p hp => by
      have := List.all_eq_true.mp h7 p hp
      simpa using this
    nd := of_decide_eq_true h8
    dot := by simpa using h9 }
section
variable {xp:XP} {k:Nat} {g:Den.Gt} {pg:Den.Pg} {Φ:Den.Fn} {X:Cx} {ct:Den.Ct} {v:Bool}
theorem pa_never {es:List Expr}:PA X es (fun _ _ _=>False):=fun _ _ _ _ _ _ _ h=>h.elim
theorem s_instC {mu:List Nat} {m:Md} {f:Rho->Rr D} {up:Den.Up} {c:Nat} {e:Expr} {x t:Str} {p p' pos:Pos} (hgl:Gl X x) (hm:X.mg x=none) (hv:bootBuiltins x=some (.builtin "isinstance")) (ha:PE X e (tM xp X mu .view f)) (hn:x≠"__name__") (hdb:(x==("__debug__":Str))=false)
  (hst:starEach [e,.Name t p'] X.env=(false,eval e X.env)::starEach [.Name t p'] X.env) :
  PE X (.Call (.Name x p) [e,.Name t p'] [] pos) (tM xp X mu m fun ρ=>f ρ>>=fun d=>Den.instD up d (.cls c)>>=fun b=>.ok (.bl b)):=by
 intro pins s σ H Q I ⟨G,ρ,hs,hw⟩
 refine pe_callB (r:=fun _ _ _=>False) (fun _ _ _ _ _ _ _ _ _ z=>z.elim) hgl hm hv (pa_cons ha pa_never hst) hn hdb hst rfl pins s σ H Q I ?_
 refine ⟨G,ρ,hs,wpR_mono (wpR_bind.mp hw) (fun dx k v G1 H1 x1 r1=>?_) fun _ q=>q⟩
 cases dx <;> first | exact k.elim | exact r1.elim
theorem s_callF {mu:List Nat} {fs:Rho->Rr (List D)} {φ:List D->Rr D} {fn:Addr} {fd:FuncData} {ps:List Str} {x:Str} {e:Expr} {es:List Expr} {p pos:Pos} (F:FnOk X.prog X.w X.K X.mg X.base (CXd X.prog X.w xp) k fn fd ps (spF X.K φ ps.length)) (hr:Room k X.A) (hg:Gl X x) (hm:X.mg x=some (.ref fn))
  (hk:W.keepIn X.K (.ref fn)=true) (hb:Binds X.K fd ps []) (ha:PA X (e::es) (tAm xp X mu fs)) (hl:∀ ds,ds.length≠ps.length->φ ds=.bad) (hdb:(x==("__debug__":Str))=false)
  (he:starEach (e::es) X.env=(false,eval e X.env)::starEach es X.env) (hpl:(backTo pos (starEach es X.env)).any (·.1)=false) :
  PE X (.Call (.Name x p) (e::es) [] pos) (tM xp X mu .val fun ρ=>fs ρ>>=fun ds=>φ ds):=by
 intro pins s σ H Q I ⟨G,ρ,hs,hw⟩
 refine pe_call (dvs:=[]) (ds:=[]) (E:=eR xp X) F hr hg hm hk hb .nil pass_X ha hdb he hpl pins s σ H Q I ?_
 have hw:=wpR_bind.mp hw
 refine ⟨G,ρ,hs,?_⟩
 cases q:fs ρ with
 | ok ds =>
  rw [q] at hw
  intro vs G1 H1 x1 r1
  rw [List.append_nil]
  by_cases hlen:ds.length=ps.length
  ·refine ⟨by rw [<- r1.length];exact hlen,G1,ds,x1.sub,r1,?_⟩
   refine wpR_mono hw (fun d k v G2 H2 x2 r2=>k v G2 H2 (x1.trans x2) r2) fun c z H2 h2 c' ec=>?_
   injection ec with ec _
   have:c=c':=by omega
   subst this
   exact (z.mono x1.h).mono h2
  ·have hw:wpR (φ ds) _ _:=hw
   rw [hl ds hlen] at hw;exact hw.elim
 | exc c=>rw [q] at hw;exact hw
 | bad=>rw [q] at hw;exact hw
end
end Sim
end
section
namespace Sim
open PySem PySem.Spec PyProof.Rows L2
section
variable {xp:XP} {k:Nat} {g:Den.Gt} {pg:Den.Pg} {Φ:Den.Fn}
theorem bin_noexc (o:Den.Op) (x y:D) (c:Nat):Den.binD o x y≠.exc c:=by
 refine noE_i ?_ c
 cases o <;> cases x <;> cases y <;> first | rfl | exact noE_ite rfl rfl
theorem len_noexc (d:D) (c:Nat):Den.lenD d≠.exc c:=by
 intro h
 cases d <;> simp only [Den.lenD] at h <;> first | (cases h;done) | (split at h <;> cases h)
theorem all_noexc (d:D) (c:Nat):(Den.seqOf d>>=fun xs=>Den.allD xs>>=fun b=>Den.R.ok (Den.D.bl b))≠.exc c:=by
 intro h
 have key:∀ xs:List D,(Den.allD xs>>=fun b=>Den.R.ok (Den.D.bl b))≠.exc c:=fun xs h=>by
  unfold Den.allD at h
  cases q:Den.blsOf xs <;> rw [q] at h <;> cases h
 cases d with
 | tup xs=>exact key xs h
 | lst xs=>exact key xs h
 | _=>cases h
theorem any_noexc (d:D) (c:Nat):(Den.seqOf d>>=fun xs=>Den.anyD xs>>=fun b=>Den.R.ok (Den.D.bl b))≠.exc c:=by
 intro h
 have key:∀ xs:List D,(Den.anyD xs>>=fun b=>Den.R.ok (Den.D.bl b))≠.exc c:=fun xs h=>by
  unfold Den.anyD at h
  cases q:Den.blsOf xs <;> rw [q] at h <;> cases h
 cases d with
 | tup xs=>exact key xs h
 | lst xs=>exact key xs h
 | _=>cases h
theorem sorted_noexc (d:D) (c:Nat):(Den.seqOf d>>=fun xs=>Den.sorted xs)≠.exc c:=by
 intro h
 have key:∀ xs:List D,Den.sorted xs≠.exc c:=fun xs h=>by
  unfold Den.sorted at h
  split at h <;> cases h
 cases d with
 | tup xs=>exact key xs h
 | lst xs=>exact key xs h
 | _=>cases h
theorem seqL_noexc (d:D) (c:Nat):(Den.seqOf d>>=fun xs=>Den.R.ok (Den.D.lst xs))≠.exc c:=by
 intro h;cases d <;> cases h
theorem seqT_noexc (d:D) (c:Nat):(Den.seqOf d>>=fun xs=>Den.R.ok (Den.D.tup xs))≠.exc c:=by
 intro h;cases d <;> cases h
theorem str_noexc (d:D) (c:Nat):(match d with | .int i=>Den.strOfInt i | _=>Den.R.bad)≠.exc c:=by
 intro h
 cases d with
 | int i=>simp only [Den.strOfInt] at h;split at h <;> cases h
 | _=>cases h
theorem int_noexc (d:D) (c:Nat):(match d with | .bl b=>Den.R.ok (Den.D.int (if b then 1 else 0)) | _=>Den.R.bad)≠.exc c:=by
 intro h
 cases d <;> cases h
theorem beq_str {x y:Str} (h:(x==y)=true):x=y:=by simpa using h
theorem s_prim {X:Cx} {ct:Den.Ct} {mu:List Nat} {m:Md} {p:Den.Pr} {f:Rho->Rr D} {e:Expr} {x:Str} {q pos:Pos} (hX:XOk xp k g pg Φ X ct) (hp:Den.prOk p=true) (hx:x=Den.prName p) (hb:Den.bltB g ct.sc x=true) (ha:PE X e (tM xp X mu .view f)) (hn:nice e=true) :
  PE X (.Call (.Name x q) [e] [] pos) (tM xp X mu .fresh fun ρ=>f ρ>>=fun d=>Den.primD pg.up p d):=by
 cases p with
 | len =>
  subst hx
  obtain ⟨h1,h2⟩:=hX.blt hb (by decide)
  exact s_call1 (m:=.fresh) len_noexc f_len h1 h2 (by kernel_rfl) ha (by decide) (by decide) (star_one hn)
 | all =>
  subst hx
  obtain ⟨h1,h2⟩:=hX.blt hb (by decide)
  exact s_call1 (m:=.fresh) all_noexc (f_all hX.calm) h1 h2 (by kernel_rfl) ha (by decide) (by decide) (star_one hn)
 | any =>
  subst hx
  obtain ⟨h1,h2⟩:=hX.blt hb (by decide)
  exact s_call1 (m:=.fresh) any_noexc (f_any hX.calm) h1 h2 (by kernel_rfl) ha (by decide) (by decide) (star_one hn)
 | sorted =>
  subst hx
  obtain ⟨h1,h2⟩:=hX.blt hb (by decide)
  exact s_call1 (m:=.fresh) sorted_noexc (f_sorted hX.calm) h1 h2 (by kernel_rfl) ha (by decide) (by decide) (star_one hn)
 | str =>
  subst hx
  obtain ⟨h1,h2⟩:=hX.blt hb (by decide)
  have e1:(fun ρ=>f ρ>>=fun d=>Den.primD pg.up .str d)=fun ρ=>f ρ>>=fun d=>(match d with | .int i=>Den.strOfInt i | _=>Den.R.bad):=by
   funext ρ;congr 1;funext d;cases d <;> rfl
  rw [e1]
  exact s_callTy (m:=.fresh) str_noexc f_str h1 h2 (by kernel_rfl) ha (by decide) (by decide) (star_one hn)
 | int =>
  subst hx
  obtain ⟨h1,h2⟩:=hX.blt hb (by decide)
  have e1:(fun ρ=>f ρ>>=fun d=>Den.primD pg.up .int d)=fun ρ=>f ρ>>=fun d=>(match d with | .bl b=>Den.R.ok (Den.D.int (if b then 1 else 0)) | _=>Den.R.bad):=by
   funext ρ;congr 1;funext d;cases d <;> rfl
  rw [e1]
  exact s_callTy (m:=.fresh) int_noexc f_int h1 h2 (by kernel_rfl) ha (by decide) (by decide) (star_one hn)
 | inst t=>cases hp
 | sortedSet=>cases hp
theorem s_cmpD {X:Cx} {ct:Den.Ct} (hX:XOk xp k g pg Φ X ct) {o:Den.Cm} {op:CmpOp} (h:Den.cmOk o op=true):OpR X (compareOp op) (rC X.K (Den.cmpD o)):=by
 cases o <;> cases op <;> first | (cases h;done) | skip
 ·exact c_eq hX.units
 ·exact c_ne hX.units
 ·exact c_lt hX.units
 ·exact c_le
 ·exact c_gt
 ·exact c_ge
 ·exact c_is
 ·exact c_isnot
 ·exact c_in hX.units
 ·exact c_notin hX.units
theorem s_binD {X:Cx} {o:Den.Op} {op:Operator} (h:Den.opOk o op=true):OpR X (binaryOp op) (rD X.K (Den.binD o)):=by
 cases o <;> cases op <;> first | (cases h;done) | skip
 ·exact d_add
 ·exact d_sub
 ·exact d_mul
 ·exact d_fdiv
 ·exact d_mod
theorem lastM {op op':CmpOp} {b c:Expr} (h:nice c=true):lastMarks [op,op'] [b,c]=false:=mark_plain h
theorem boot_isinstance:bootBuiltins "isinstance"=some (.builtin "isinstance"):=by kernel_rfl
theorem boot_ty (t:Den.Ty) (ht:∀ c,t≠.cls c):bootBuiltins (Den.tyName t)=some (.type (tyStr t))/\Den.tyName t≠"__name__"/\(Den.tyName t==("__debug__":Str))=false/\Den.tyName t∈BL:=by
 cases t with
 | cls c=>exact absurd rfl (ht c)
 | int=>exact ⟨by kernel_rfl,by decide,by decide,by decide⟩
 | bool=>exact ⟨by kernel_rfl,by decide,by decide,by decide⟩
 | str=>exact ⟨by kernel_rfl,by decide,by decide,by decide⟩
 | tuple=>exact ⟨by kernel_rfl,by decide,by decide,by decide⟩
 | list=>exact ⟨by kernel_rfl,by decide,by decide,by decide⟩
end
end Sim
end
section
namespace Sim
open PySem PySem.Spec PyProof.Rows L2
section
variable {xp:XP} {k:Nat} {g:Den.Gt} {pg:Den.Pg} {Φ:Den.Fn}
variable (xp k g pg Φ) in
structure AllOk (n:Nat):Prop where
 e:∀ (e:Den.E) (x:Expr) (ct:Den.Ct) (v:Bool) (X:Cx),sizeOf e < n->XOk xp k g pg Φ X ct->Den.ckE g ct v e x=true->Res xp X ct.mu v (Den.freshE e) x (fun ρ=>Den.ev pg Φ ρ e)
 a:∀ (a:Den.A) (es:List Expr) (ct:Den.Ct) (X:Cx),sizeOf a < n->XOk xp k g pg Φ X ct->Den.ckA g ct a es=true->PA X es (tAm xp X ct.mu fun ρ=>Den.evA pg Φ ρ a)/\(∀ e∈es,nice e=true)/\∀ ρ ds,Den.evA pg Φ ρ a=.ok ds->ds.length=es.length
 o:∀ (o:Den.O) (x:Option Expr) (ct:Den.Ct) (X:Cx),sizeOf o < n->XOk xp k g pg Φ X ct->Den.ckO g ct o x=true->PO X x (tOm xp X ct.mu fun ρ=>Den.evO pg Φ ρ o)
 i:∀ (s:Den.I) (x:Expr) (ct:Den.Ct) (v:Bool) (X:Cx) (tg:Expr),sizeOf s < n->XOk xp k g pg Φ X ct->Den.ckI g ct v s x=true->(Den.pairI s=true->∃ elts j p,tg=.Tuple elts j p)->PI X tg x (tI xp X ct.mu (md v) fun ρ=>Den.evI pg Φ ρ s)/\nice x=true
theorem md_or (v:Bool):md v=.view\/md v=.val:=by cases v <;> simp [md]
variable {n:Nat}
theorem arm_var {ct:Den.Ct} {v:Bool} {X:Cx} (hX:XOk xp k g pg Φ X ct) {i:Nat} {x:Str} {p:Pos} (h:(ct.N[i]?==some x&&Den.visB ct.sc x&&Den.okN x&&(v||!ct.mu.contains i))=true):Res xp X ct.mu v (Den.freshE (.var i)) (.Name x p) (fun ρ=>Den.ev pg Φ ρ (.var i)):=by
 simp only [Bool.and_eq_true,beq_iff_eq,Bool.or_eq_true,Bool.not_eq_true'] at h
 obtain ⟨⟨⟨h1,h2⟩,h3⟩,h4⟩:=h
 obtain ⟨d1,d2,d3⟩:=okN_d h3
 have hN:X.N[i]?=some x:=by rw [hX.nm];exact h1
 have hv:=hX.vis h2
 refine ⟨?_,fun z=>(by cases z),s_test (s_var hN hv d1 d2) fun _=>rfl,fun ⟨_,_,_,z⟩=>(by cases z)⟩
 cases v with
 | true=>exact s_var hN hv d1 d2
 | false =>
  rcases h4 with h4 | h4
  ·cases h4
  ·exact s_varV (fun z=>by rw [List.contains_iff_mem.mpr z] at h4;cases h4) hN hv d1 d2
theorem arm_glob {ct:Den.Ct} {v:Bool} {X:Cx} (hX:XOk xp k g pg Φ X ct) {j:Nat} {x:Str} {p:Pos} (h:(g.glb[j]?==some x&&Den.gloB ct.sc x&&Den.okN x)=true):Res xp X ct.mu v (Den.freshE (.glob j)) (.Name x p) (fun ρ=>Den.ev pg Φ ρ (.glob j)):=by
 simp only [Bool.and_eq_true,beq_iff_eq] at h
 obtain ⟨⟨h1,h2⟩,h3⟩:=h
 obtain ⟨d1,d2,d3⟩:=okN_d h3
 cases q:pg.cs[j]? with
 | none =>
  have e:∀ ρ,Den.ev pg Φ ρ (.glob j)=.bad:=fun ρ=>by simp only [Den.ev,q]
  exact Res.of_all (fun m=>s_bad e) (s_test (s_bad e) fun _=>rfl) fun _ _ _ z=>by cases z
 | some d =>
  obtain ⟨w,u,e1,e2,e3⟩:=hX.tb.glb j x d h1 q
  have e:(fun ρ=>Den.ev pg Φ ρ (.glob j))=fun _=>.ok d:=funext fun ρ=>Den.ev_glob j q
  rw [e]
  exact Res.of_val (s_glob (hX.glo h2) e1 e2 e3 d1) (fun _=>rfl) (fun _ _ _ z=>by cases z) rfl
theorem arm_call (ih:AllOk xp k g pg Φ n) {ct:Den.Ct} {v:Bool} {X:Cx} (hX:XOk xp k g pg Φ X ct) {f:Nat} {a:Den.A} (hs:sizeOf a < n) {x:Str} {es:List Expr} {p pos:Pos} (h:(g.fns[f]?==some x&&Den.gloB ct.sc x&&Den.okN x&&!es.isEmpty&&Den.ckA g ct a es)=true) :
  Res xp X ct.mu v (Den.freshE (.call f a)) (.Call (.Name x p) es [] pos) (fun ρ=>Den.ev pg Φ ρ (.call f a)):=by
 simp only [Bool.and_eq_true,beq_iff_eq,Bool.not_eq_true'] at h
 obtain ⟨⟨⟨⟨h1,h2⟩,h3⟩,h4⟩,h5⟩:=h
 obtain ⟨d1,d2,d3⟩:=okN_d h3
 obtain ⟨p1,p2,p3⟩:=ih.a a es ct X hs hX h5
 obtain ⟨fa,fd,ps,e1,e2,e3,e4,e5⟩:=hX.tb.fn f x h1
 cases es with
 | nil=>cases h4
 | cons e es =>
  exact Res.of_val (s_callF e4 hX.room (hX.glo h2) e1 e2 e3 p1 e5 d1 (star_cons (p2 e List.mem_cons_self)) (plain_args fun z hz=>p2 z (List.mem_cons_of_mem _ hz))) (fun _=>rfl) (fun _ _ _ z=>by cases z) rfl
theorem arm_inst (ih:AllOk xp k g pg Φ n) {ct:Den.Ct} {v:Bool} {X:Cx} (hX:XOk xp k g pg Φ X ct) {t:Den.Ty} (ht:∀ c,t=.cls c->False) {a:Den.E} (hs:sizeOf a < n) {x y:Str} {e:Expr} {p p' pos:Pos} (h:(x==("isinstance":Str)&&Den.bltB g ct.sc x&&y==Den.tyName t&&Den.bltB g ct.sc y&&Den.ckE g ct true a e)=true) :
  Res xp X ct.mu v (Den.freshE (.prim (.inst t) a)) (.Call (.Name x p) [e,.Name y p'] [] pos) (fun ρ=>Den.ev pg Φ ρ (.prim (.inst t) a)):=by
 simp only [Bool.and_eq_true] at h
 obtain ⟨⟨⟨⟨h1,h2⟩,h3⟩,h4⟩,h5⟩:=h
 have h1:=beq_str h1
 have h3:=beq_str h3
 subst h1 h3
 have ht':∀ c,t≠.cls c:=fun c z=>ht c z
 obtain ⟨b1,b2,b3,b4⟩:=boot_ty t ht'
 obtain ⟨g1,g2⟩:=hX.blt h2 (by decide)
 obtain ⟨g3,g4⟩:=hX.blt h4 b4
 have r:=ih.e a e ct true X hs hX h5
 have pe:∀ m,PE X (.Call (.Name "isinstance" p) [e,.Name (Den.tyName t) p'] [] pos) (tM xp X ct.mu m fun ρ=>Den.ev pg Φ ρ (.prim (.inst t) a)):=fun m =>
  s_inst (up:=pg.up) ht' g1 g2 boot_isinstance g3 g4 b1 r.view (by decide) (by decide) b2 b3 (star_cons (nice_of h5))
 exact Res.of_all pe (s_test (pe _) fun _=>rfl) fun _ _ _ z=>by cases z
theorem arm_instC (ih:AllOk xp k g pg Φ n) {ct:Den.Ct} {v:Bool} {X:Cx} (hX:XOk xp k g pg Φ X ct) {c:Nat} {a:Den.E} (hs:sizeOf a < n) {x t:Str} {e:Expr} {p p' pos:Pos} (h1:(x==("isinstance":Str))=true) (h2:Den.bltB g ct.sc x=true) (h5:Den.ckE g ct true a e=true) :
  Res xp X ct.mu v (Den.freshE (.prim (.inst (.cls c)) a)) (.Call (.Name x p) [e,.Name t p'] [] pos) (fun ρ=>Den.ev pg Φ ρ (.prim (.inst (.cls c)) a)):=by
 have h1:=beq_str h1
 subst h1
 obtain ⟨g1,g2⟩:=hX.blt h2 (by decide)
 have r:=ih.e a e ct true X hs hX h5
 have pe:∀ m,PE X (.Call (.Name "isinstance" p) [e,.Name t p'] [] pos) (tM xp X ct.mu m fun ρ=>Den.ev pg Φ ρ (.prim (.inst (.cls c)) a)):=fun m =>
  s_instC (up:=pg.up) (c:=c) g1 g2 boot_isinstance r.view (by decide) (by decide) (star_cons (nice_of h5))
 exact Res.of_all pe (s_test (pe _) fun _=>rfl) fun _ _ _ z=>by cases z
theorem ck_rng {ct:Den.Ct} {v:Bool} {a:Den.E} {x:Expr} (h:Den.ckI g ct v (.rng a) x=true):∃ m p y pos,x=.Call (.Name m p) [y] [] pos/\m="range"/\Den.bltB g ct.sc m=true/\Den.ckE g ct true a y=true:=by
 unfold Den.ckI at h
 split at h
 ·rename_i m y e1
  obtain ⟨p,pos,rfl⟩:=vCall_i e1
  simp only [Bool.and_eq_true] at h
  exact ⟨m,p,y,pos,rfl,beq_str h.1.1,h.1.2,h.2⟩
 ·cases h
theorem arm_overI (ih:AllOk xp k g pg Φ n) {ct:Den.Ct} {v:Bool} {X:Cx} (hX:XOk xp k g pg Φ X ct) {s:Den.I} (hs:sizeOf s<=n) {x:Str} {e:Expr} {p pos:Pos} (h:(x==("tuple":Str)&&Den.bltB g ct.sc x&&Den.simpI s&&Den.ckI g ct true s e)=true) :
  PE X (.Call (.Name x p) [e] [] pos) (tM xp X ct.mu .val fun ρ=>Den.ev pg Φ ρ (.tupI s)):=by
 simp only [Bool.and_eq_true] at h
 obtain ⟨⟨⟨h1,h2⟩,h3⟩,h4⟩:=h
 have h1:=beq_str h1
 subst h1
 obtain ⟨g1,g2⟩:=hX.blt h2 (by decide)
 cases s with
 | seq a =>
  unfold Den.ckI at h4
  have r:=ih.e a e ct true X (by simp at hs;omega) hX h4
  have e1:(fun ρ=>Den.ev pg Φ ρ (.tupI (.seq a)))=fun ρ=>Den.ev pg Φ ρ a>>=fun d=>Den.seqOf d>>=fun ds=>.ok (.tup ds):=funext fun ρ=>by
   rw [Den.ev_tupI,Den.evI_seq];cases Den.ev pg Φ ρ a <;> rfl
  rw [e1]
  exact s_callTy (m:=.val) seqT_noexc f_tuple g1 g2 (by kernel_rfl) r.view (by decide) (by decide) (star_one (nice_of h4))
 | rng a =>
  obtain ⟨m,q1,y,q2,rfl,k1,k2,k3⟩:=ck_rng h4
  obtain ⟨g3,g4⟩:=hX.blt k2 (by rw [k1];decide)
  have r:=ih.e a y ct true X (by simp at hs;omega) hX k3
  exact s_tupR hX.calm k1 rfl g3 g4 g1 g2 r.view (star_one (nice_of k3))
 | _=>cases h3
theorem arm_lstI (ih:AllOk xp k g pg Φ n) {ct:Den.Ct} {v:Bool} {X:Cx} (hX:XOk xp k g pg Φ X ct) {s:Den.I} (hs:sizeOf s<=n) {x:Str} {e:Expr} {p pos:Pos} (h:(x==("list":Str)&&Den.bltB g ct.sc x&&Den.simpI s&&Den.ckI g ct true s e)=true) :
  PE X (.Call (.Name x p) [e] [] pos) (tM xp X ct.mu .fresh fun ρ=>Den.ev pg Φ ρ (.lstI s)):=by
 simp only [Bool.and_eq_true] at h
 obtain ⟨⟨⟨h1,h2⟩,h3⟩,h4⟩:=h
 have h1:=beq_str h1
 subst h1
 obtain ⟨g1,g2⟩:=hX.blt h2 (by decide)
 cases s with
 | seq a =>
  unfold Den.ckI at h4
  have r:=ih.e a e ct true X (by simp at hs;omega) hX h4
  have e1:(fun ρ=>Den.ev pg Φ ρ (.lstI (.seq a)))=fun ρ=>Den.ev pg Φ ρ a>>=fun d=>Den.seqOf d>>=fun ds=>.ok (.lst ds):=funext fun ρ=>by
   rw [Den.ev_lstI,Den.evI_seq];cases Den.ev pg Φ ρ a <;> rfl
  rw [e1]
  exact s_callTy (m:=.fresh) seqL_noexc f_list g1 g2 (by kernel_rfl) r.view (by decide) (by decide) (star_one (nice_of h4))
 | rng a =>
  obtain ⟨m,q1,y,q2,rfl,k1,k2,k3⟩:=ck_rng h4
  obtain ⟨g3,g4⟩:=hX.blt k2 (by rw [k1];decide)
  have r:=ih.e a y ct true X (by simp at hs;omega) hX k3
  exact s_lstR hX.calm k1 rfl g3 g4 g1 g2 r.view (star_one (nice_of k3))
 | _=>cases h3
theorem arm_comp (ih:AllOk xp k g pg Φ n) {ct:Den.Ct} {X:Cx} (hX:XOk xp k g pg Φ X ct) {e:Den.E} {j:Nat} {s:Den.I} {c:Den.O} (hs:sizeOf e < n/\sizeOf s < n/\sizeOf c < n) {x t it:Expr} {ifs:List Expr} {sc:Scope} {pos:Pos} {xs:List Str} (hk:Den.tgt j t=some xs)
  (h:((!Den.pairI s||j==2)&&Den.blkB ct sc xs&&Den.ckI g ct true s it&&Den.ckE g ⟨Den.mask ct.N xs++xs,sc,ct.mu⟩ false e x&&Den.ckC g ⟨Den.mask ct.N xs++xs,sc,ct.mu⟩ c ifs)=true) :
  BlockOk X sc xs (Den.mask ct.N xs++xs)/\(∀ z,foldedSetIterable it X.env z=pure z)/\PI X t it (tI xp X ct.mu .view fun ρ=>Den.evI pg Φ ρ s)/\(∀ s3 H3 fp pins,PE (Blk X sc (Den.mask ct.N xs++xs) s3 H3 fp pins) x (tM xp (Blk X sc (Den.mask ct.N xs++xs) s3 H3 fp pins) ct.mu .val fun ρ=>Den.ev pg Φ ρ e)) /\
   Tests xp X ct.mu sc (Den.mask ct.N xs++xs) ifs (fun ρ=>Den.evC pg Φ ρ c)/\(fun ρ=>Den.ev pg Φ ρ (.comp e j s c))=fun ρ=>Den.evI pg Φ ρ s>>=fun ds=>Den.noX (Den.compL (elf j (fun ρ=>Den.evC pg Φ ρ c) (fun ρ=>Den.ev pg Φ ρ e) ρ) ds)>>=fun ys=>.ok (.lst ys):=by
 simp only [Bool.and_eq_true] at h
 obtain ⟨⟨⟨⟨h0,h1⟩,h10⟩,h11⟩,h12⟩:=h
 have B:=blkOk_of h1
 have hpair:Den.pairI s=true->∃ elts j p,t=.Tuple elts j p:=fun hp=>by
  rw [hp] at h0
  have hj:j=2:=by simpa using h0
  subst hj
  cases t with
  | Tuple elts j p=>exact ⟨elts,j,p,rfl⟩
  | _=>simp only [Den.tgt] at hk;cases hk
 obtain ⟨i1,i2⟩:=ih.i s it ct true X t hs.2.1 hX h10 hpair
 refine ⟨B.block hX,set_plain i2,i1,fun s3 H3 fp pins=>(ih.e e x _ false _ hs.1 (B.ok hX s3 H3 fp pins) h11).pe,?_,rfl⟩
 cases c with
 | none =>
  cases ifs with
  | nil=>exact .inl ⟨rfl,rfl⟩
  | cons _ _=>unfold Den.ckC at h12;cases h12
 | some e2 =>
  match ifs,h12 with
  | [],h12=>unfold Den.ckC at h12;cases h12
  | [x2],h12 =>
   refine .inr ⟨x2,fun ρ=>Den.ev pg Φ ρ e2,rfl,rfl,fun s3 H3 fp pins=>?_⟩
   have h12:Den.ckE g ⟨Den.mask ct.N xs++xs,sc,ct.mu⟩ true e2 x2=true:=by unfold Den.ckC at h12;exact h12
   exact (ih.e e2 x2 _ true _ (by have:=hs.2.2;simp at this;omega) (B.ok hX s3 H3 fp pins) h12).pt
  | _::_::_,h12=>unfold Den.ckC at h12;cases h12
end
end Sim
end
section
namespace Sim
open PySem PySem.Spec PyProof.Rows L2
section
variable {xp:XP} {k:Nat} {g:Den.Gt} {pg:Den.Pg} {Φ:Den.Fn} {n:Nat}
theorem len_args {es:List Expr} (h:es.length<=1000):es.length<=sizeLine:=by rw [sizeLine_eq];omega
theorem vwI_i {ct:Den.Ct} {x:Str} {t:Den.Ty} {a y e:Expr} (h:Den.vwI g ct x t a y=some e):a=e/\∃ m p,y=.Name m p/\(x==("isinstance":Str))=true/\Den.bltB g ct.sc x=true/\((∀ c,t≠.cls c)->(m==Den.tyName t&&Den.bltB g ct.sc m)=true):=by
 unfold Den.vwI at h
 split at h
 ·rename_i m e2
  obtain ⟨p,rfl⟩:=vName_i e2
  split at h
  ·rename_i hc
   cases h
   rw [Bool.and_eq_true,Bool.and_eq_true] at hc
   exact ⟨rfl,m,p,rfl,hc.1.1,hc.1.2,fun ht=>by cases t <;> first | exact hc.2 | exact (ht _ rfl).elim⟩
  ·cases h
 ·cases h
theorem vwS_i {ct:Den.Ct} {x:Str} {a e:Expr} (h:Den.vwS g ct x a=some e):∃ y p q,a=.Call (.Name y p) [e] [] q/\(x==("sorted":Str))=true/\Den.bltB g ct.sc x=true/\(y==("set":Str))=true/\Den.bltB g ct.sc y=true:=by
 unfold Den.vwS at h
 split at h
 ·rename_i y b e2
  obtain ⟨py,p1,rfl⟩:=vCall_i e2
  split at h
  ·rename_i hc
   cases h
   simp only [Bool.and_eq_true] at hc
   exact ⟨y,py,p1,rfl,hc.1.1.1,hc.1.1.2,hc.1.2,hc.2⟩
  ·cases h
 ·cases h
theorem vw1_i {ct:Den.Ct} {x:Str} {q:Den.Pr} {es:List Expr} {e:Expr} (h:(match es with | [e]=>if Den.prOk q&&x==Den.prName q&&Den.bltB g ct.sc x then some e else none | _=>none)=some e):es=[e]/\Den.prOk q=true/\(x==Den.prName q)=true/\Den.bltB g ct.sc x=true:=by
 match es,h with
 | [a],h =>
  simp only at h
  split at h
  ·rename_i hc
   cases h
   simp only [Bool.and_eq_true] at hc
   exact ⟨rfl,hc.1.1,hc.1.2,hc.2⟩
  ·cases h
theorem arm_prim (ih:AllOk xp k g pg Φ n) {ct:Den.Ct} {v:Bool} {X:Cx} (hX:XOk xp k g pg Φ X ct) {pr:Den.Pr} {a:Den.E} (hs:sizeOf a < n) {x:Str} {es:List Expr} {e:Expr} {p pos:Pos} (hv:Den.vwP g ct x pr es=some e) (h:Den.ckE g ct true a e=true) :
  Res xp X ct.mu v (Den.freshE (.prim pr a)) (.Call (.Name x p) es [] pos) (fun ρ=>Den.ev pg Φ ρ (.prim pr a)):=by
 have one:∀ {q:Den.Pr},es=[e]/\Den.prOk q=true/\(x==Den.prName q)=true/\Den.bltB g ct.sc x=true->Res xp X ct.mu v (Den.freshE (.prim q a)) (.Call (.Name x p) es [] pos) (fun ρ=>Den.ev pg Φ ρ (.prim q a)):=fun {q} ⟨h0,h1,h2,h3⟩=>by
  subst h0
  have ra:=ih.e a e ct true X hs hX h
  exact Res.of_fresh (s_prim (m:=.fresh) hX h1 (beq_str h2) h3 ra.view (nice_of h)) (fun _=>rfl) (fun _ _ _ z=>by cases z)
 cases pr with
 | inst t =>
  match es,hv with
  | [e',y],hv =>
   have hv:Den.vwI g ct x t e' y=some e:=hv
   obtain ⟨rfl,m,p',rfl,h1,h2,h3⟩:=vwI_i hv
   by_cases ht:∃ c,t=.cls c
   ·obtain ⟨c,rfl⟩:=ht
    exact arm_instC ih hX hs h1 h2 h
   ·refine arm_inst ih hX (fun c hc=>ht ⟨c,hc⟩) hs ?_
    have h3:=h3 fun c hc=>ht ⟨c,hc⟩
    rw [Bool.and_eq_true] at h3
    simp only [Bool.and_eq_true]
    exact ⟨⟨⟨⟨h1,h2⟩,h3.1⟩,h3.2⟩,h⟩
 | sortedSet =>
  match es,hv with
  | [e'],hv =>
   have hv:Den.vwS g ct x e'=some e:=hv
   obtain ⟨y,p1,p2,rfl,h1,h2,h3,h4⟩:=vwS_i hv
   obtain ⟨g1,g2⟩:=hX.blt h2 (by rw [beq_str h1];decide)
   obtain ⟨g3,g4⟩:=hX.blt h4 (by rw [beq_str h3];decide)
   have ra:=ih.e a e ct true X hs hX h
   exact Res.of_fresh (s_sset hX.calm hX.units (beq_str h1) (beq_str h3) g1 g2 g3 g4 ra.view (star_one (nice_of h))) (fun _=>rfl) (fun _ _ _ z=>by cases z)
 | len=>exact one (vw1_i hv)
 | all=>exact one (vw1_i hv)
 | any=>exact one (vw1_i hv)
 | sorted=>exact one (vw1_i hv)
 | str=>exact one (vw1_i hv)
 | int=>exact one (vw1_i hv)
theorem stepE (ih:AllOk xp k g pg Φ n) (e:Den.E) (x:Expr) (ct:Den.Ct) (v:Bool) (X:Cx) (hs:sizeOf e < n+1) (hX:XOk xp k g pg Φ X ct) (h:Den.ckE g ct v e x=true):Res xp X ct.mu v (Den.freshE e) x (fun ρ=>Den.ev pg Φ ρ e):=by
 cases e with
 | var i =>
  unfold Den.ckE at h
  split at h
  ·rename_i y e1
   obtain ⟨p,rfl⟩:=vName_i e1
   exact arm_var hX h
  ·cases h
 | lit d =>
  unfold Den.ckE at h
  split at h
  ·rename_i c e1
   obtain ⟨kk,p,rfl⟩:=vConst_i e1
   exact Res.of_all (fun m=>s_lit h) (s_test (s_lit h) fun _=>rfl) fun _ _ _ z=>by cases z
  ·cases h
 | glob j =>
  unfold Den.ckE at h
  split at h
  ·rename_i y e1
   obtain ⟨p,rfl⟩:=vName_i e1
   exact arm_glob hX h
  ·cases h
 | tup a =>
  unfold Den.ckE at h
  split at h
  ·rename_i es e1
   obtain ⟨j,p,rfl⟩:=vTup_i e1
   simp only [Bool.and_eq_true,decide_eq_true_eq] at h
   obtain ⟨p1,p2,p3⟩:=ih.a a es ct X (by simp at hs;omega) hX h.1
   exact Res.of_val (s_tup p1 fun ρ ds q=>by rw [p3 ρ ds q];exact len_args h.2) (fun _=>rfl) (fun _ _ _ z=>by cases z) rfl
  ·cases h
 | lst a =>
  unfold Den.ckE at h
  split at h
  ·rename_i es e1
   obtain ⟨p,rfl⟩:=vLst_i e1
   simp only [Bool.and_eq_true,decide_eq_true_eq] at h
   obtain ⟨p1,p2,p3⟩:=ih.a a es ct X (by simp at hs;omega) hX h.1
   exact Res.of_fresh (s_lst p1 fun ρ ds q=>by rw [p3 ρ ds q];exact len_args h.2) (fun _=>rfl) (fun _ _ _ z=>by cases z)
  ·cases h
 | bin op a b =>
  unfold Den.ckE at h
  split at h
  ·rename_i x o y e1
   obtain ⟨p,rfl⟩:=vBin_i e1
   simp only [Bool.and_eq_true] at h
   have ra:=ih.e a x ct true X (by simp at hs;omega) hX h.1.2
   have rb:=ih.e b y ct true X (by simp at hs;omega) hX h.2
   exact Res.of_fresh (s_bin (bin_noexc op) (s_binD h.1.1) ra.view rb.view) (fun _=>rfl) (fun _ _ _ z=>by cases z)
  ·cases h
 | neg a =>
  unfold Den.ckE at h
  split at h
  ·rename_i x e1
   obtain ⟨p,rfl⟩:=vUn_i e1
   have ra:=ih.e a x ct true X (by simp at hs;omega) hX h
   exact Res.of_all (fun m=>s_neg ra.view) (s_test (s_neg ra.view) fun _=>rfl) fun _ _ _ z=>by cases z
  ·cases h
 | not a =>
  unfold Den.ckE at h
  split at h
  ·rename_i x e1
   obtain ⟨p,rfl⟩:=vUn_i e1
   have ra:=ih.e a x ct true X (by simp at hs;omega) hX h
   exact Res.of_all (fun m=>s_not ra.view) (s_notT ra.pt) fun _ _ _ z=>by cases z
  ·cases h
 | cmp op a b =>
  unfold Den.ckE at h
  split at h
  ·rename_i x o y e1
   obtain ⟨p,rfl⟩:=vCmp_i e1
   simp only [Bool.and_eq_true] at h
   have ra:=ih.e a x ct true X (by simp at hs;omega) hX h.1.2
   have rb:=ih.e b y ct true X (by simp at hs;omega) hX h.2
   have hm:=mark_plain (op:=o) (nice_of h.2)
   exact Res.of_all (fun m=>s_cmp (s_cmpD hX h.1.1) ra.view rb.view hm) (s_cmpT (s_cmpD hX h.1.1) ra.view rb.view hm) fun _ _ _ z=>by cases z
  ·cases h
 | cmp2 op op' a b c =>
  unfold Den.ckE at h
  split at h
  ·rename_i x o o' y z e1
   obtain ⟨p,rfl⟩:=vCmp_i e1
   simp only [Bool.and_eq_true] at h
   obtain ⟨⟨⟨⟨h1,h2⟩,h3⟩,h4⟩,h5⟩:=h
   have ra:=ih.e a x ct true X (by simp at hs;omega) hX h3
   have rb:=ih.e b y ct true X (by simp at hs;omega) hX h4
   have rc:=ih.e c z ct true X (by simp at hs;omega) hX h5
   have hm:=lastM (op:=o) (op':=o') (b:=y) (nice_of h5)
   exact Res.of_all (fun m=>s_cmp2 (s_cmpD hX h1) (s_cmpD hX h2) ra.view rb.view rc.view hm) (s_cmp2T (s_cmpD hX h1) (s_cmpD hX h2) ra.view rb.view rc.view hm) fun _ _ _ z=>by cases z
  ·cases h
 | and a b =>
  unfold Den.ckE at h
  split at h
  ·rename_i x y p e1
   obtain rfl:=vBool_i e1
   simp only [Bool.and_eq_true] at h
   have ra:=ih.e a x ct true X (by simp at hs;omega) hX h.1
   have rb:=ih.e b y ct v X (by simp at hs;omega) hX h.2
   have pw:=s_andT (pos:=p) ra.pt (pw_and1 rb.pt)
   exact ⟨s_and ra.view (pe_one rb.pe),fun z=>(by cases z),pw.pt,fun _=>pw⟩
  ·rename_i x y z r p e1
   obtain rfl:=vBool_i e1
   simp only [Bool.and_eq_true] at h
   have ra:=ih.e a x ct true X (by simp at hs;omega) hX h.1
   have rb:=ih.e b _ ct v X (by simp at hs;omega) hX h.2
   have pw:=s_andT (pos:=p) ra.pt (rb.pw ⟨_,_,_,rfl⟩)
   exact ⟨s_and ra.view rb.pe,fun z=>(by cases z),pw.pt,fun _=>pw⟩
  ·cases h
 | or a b =>
  unfold Den.ckE at h
  split at h
  ·rename_i x y p e1
   obtain rfl:=vBool_i e1
   simp only [Bool.and_eq_true] at h
   have ra:=ih.e a x ct true X (by simp at hs;omega) hX h.1
   have rb:=ih.e b y ct v X (by simp at hs;omega) hX h.2
   have pw:=s_orT (pos:=p) ra.pt (pw_or1 rb.pt)
   exact ⟨s_or ra.view (pe_one rb.pe),fun z=>(by cases z),pw.pt,fun _=>pw⟩
  ·rename_i x y z r p e1
   obtain rfl:=vBool_i e1
   simp only [Bool.and_eq_true] at h
   have ra:=ih.e a x ct true X (by simp at hs;omega) hX h.1
   have rb:=ih.e b _ ct v X (by simp at hs;omega) hX h.2
   have pw:=s_orT (pos:=p) ra.pt (rb.pw ⟨_,_,_,rfl⟩)
   exact ⟨s_or ra.view rb.pe,fun z=>(by cases z),pw.pt,fun _=>pw⟩
  ·cases h
 | ite c a b=>exact (Bool.false_ne_true h).elim
 | idx a b =>
  unfold Den.ckE at h
  split at h
  ·rename_i x y e1
   obtain ⟨p,rfl⟩:=vSub_i e1
   simp only [Bool.and_eq_true] at h
   have ra:=ih.e a x ct true X (by simp at hs;omega) hX h.1
   have rb:=ih.e b y ct true X (by simp at hs;omega) hX h.2
   exact Res.of_val (s_idx ra.view rb.view (ix_plain (nice_of h.2))) (fun _=>rfl) (fun _ _ _ z=>by cases z) rfl
  ·cases h
 | slice a lo hi =>
  unfold Den.ckE at h
  split at h
  ·rename_i x y e1
   obtain ⟨p,rfl⟩:=vSub_i e1
   split at h
   ·rename_i l u e2
    obtain ⟨p',rfl⟩:=vSlc_i e2
    simp only [Bool.and_eq_true] at h
    have ra:=ih.e a x ct true X (by simp at hs;omega) hX h.1.1
    have rl:=ih.o lo l ct X (by simp at hs;omega) hX h.1.2
    have rh:=ih.o hi u ct X (by simp at hs;omega) hX h.2
    exact Res.of_fresh (s_slice ra.view rl rh) (fun _=>rfl) (fun _ _ _ z=>by cases z)
   ·cases h
  ·cases h
 | rev a =>
  unfold Den.ckE at h
  split at h
  ·rename_i x y e1
   obtain ⟨p,rfl⟩:=vSub_i e1
   split at h
   ·rename_i t e2
    obtain ⟨p',rfl⟩:=vSlc_i e2
    rw [Bool.and_eq_true] at h
    obtain ⟨kk,p3,p4,rfl⟩:=isM1_i h.1
    have ra:=ih.e a x ct true X (by simp at hs;omega) hX h.2
    exact Res.of_val (s_rev ra.view) (fun _=>rfl) (fun _ _ _ z=>by cases z) rfl
   ·cases h
  ·cases h
 | call f a =>
  unfold Den.ckE at h
  split at h
  ·rename_i x es e1
   obtain ⟨p,q,rfl⟩:=vCall_i e1
   exact arm_call ih hX (by simp at hs;omega) h
  ·cases h
 | prim pr a =>
  unfold Den.ckE at h
  split at h
  ·rename_i x es e1
   obtain ⟨p,q,rfl⟩:=vCall_i e1
   split at h
   ·rename_i e e2
    exact arm_prim ih hX (by simp at hs;omega) e2 h
   ·cases h
  ·cases h
 | meth m o a=>exact (Bool.false_ne_true h).elim
 | tupI s =>
  unfold Den.ckE at h
  split at h
  ·rename_i x e e1
   obtain ⟨p,q,rfl⟩:=vCall_i e1
   exact Res.of_val (arm_overI (v:=v) ih hX (by simp at hs;omega) h) (fun _=>rfl) (fun _ _ _ z=>by cases z) rfl
  ·cases h
 | lstI s =>
  unfold Den.ckE at h
  split at h
  ·rename_i x e e1
   obtain ⟨p,q,rfl⟩:=vCall_i e1
   exact Res.of_fresh (arm_lstI (v:=v) ih hX (by simp at hs;omega) h) (fun _=>rfl) (fun _ _ _ z=>by cases z)
  ·cases h
 | comp e j s c =>
  unfold Den.ckE at h
  split at h
  ·rename_i x t it ifs sc e1
   obtain ⟨p,rfl⟩:=vComp_i e1
   split at h
   ·rename_i xs hk
    obtain ⟨B,i1,i2,i3,i4,i5⟩:=arm_comp (pos:=p) ih hX (by simp at hs;omega) hk h
    rw [i5]
    exact Res.of_fresh (s_comp hX.calm (by rw [hX.nm];exact hX.mu) B hk i1 i2 i3 i4) (fun _=>rfl) (fun _ _ _ z=>by cases z)
   ·cases h
  ·cases h
theorem stepA (ih:AllOk xp k g pg Φ n) (a:Den.A) (es:List Expr) (ct:Den.Ct) (X:Cx) (hs:sizeOf a < n+1) (hX:XOk xp k g pg Φ X ct) (h:Den.ckA g ct a es=true):PA X es (tAm xp X ct.mu fun ρ=>Den.evA pg Φ ρ a)/\(∀ e∈es,nice e=true)/\∀ ρ ds,Den.evA pg Φ ρ a=.ok ds->ds.length=es.length:=by
 unfold Den.ckA at h
 split at h
 ·exact ⟨s_nil,by simp,fun ρ ds q=>by rw [Den.evA_nil] at q;cases q;rfl⟩
 ·rename_i e a x xs
  simp only [Bool.and_eq_true] at h
  have re:=ih.e e x ct false X (by simp at hs;omega) hX h.1
  obtain ⟨p1,p2,p3⟩:=ih.a a xs ct X (by simp at hs;omega) hX h.2
  refine ⟨s_cons re.val p1 (star_cons (nice_of h.1)),fun z hz=>?_,fun ρ ds q=>?_⟩
  ·rcases List.mem_cons.mp hz with rfl | hz
   ·exact nice_of h.1
   ·exact p2 z hz
  ·rw [Den.evA_cons] at q
   cases q1:Den.ev pg Φ ρ e with
   | ok d =>
    rw [q1] at q
    simp only [Den.R.ok_bind] at q
    cases q2:Den.evA pg Φ ρ a with
    | ok ds'=>rw [q2] at q;cases q;simp [p3 ρ ds' q2]
    | exc c=>rw [q2] at q;cases q
    | bad=>rw [q2] at q;cases q
   | exc c=>rw [q1] at q;cases q
   | bad=>rw [q1] at q;cases q
 ·cases h
theorem stepO (ih:AllOk xp k g pg Φ n) (o:Den.O) (x:Option Expr) (ct:Den.Ct) (X:Cx) (hs:sizeOf o < n+1) (hX:XOk xp k g pg Φ X ct) (h:Den.ckO g ct o x=true):PO X x (tOm xp X ct.mu fun ρ=>Den.evO pg Φ ρ o):=by
 unfold Den.ckO at h
 split at h
 ·exact s_noPart
 ·rename_i e x
  exact s_part (ih.e e x ct true X (by simp at hs;omega) hX h).view
 ·cases h
theorem stepI (ih:AllOk xp k g pg Φ n) (s:Den.I) (x:Expr) (ct:Den.Ct) (v:Bool) (X:Cx) (tg:Expr) (hs:sizeOf s < n+1) (hX:XOk xp k g pg Φ X ct) (h:Den.ckI g ct v s x=true) (hp:Den.pairI s=true->∃ elts j p,tg=.Tuple elts j p) :
  PI X tg x (tI xp X ct.mu (md v) fun ρ=>Den.evI pg Φ ρ s)/\nice x=true:=by
 cases s with
 | seq e =>
  unfold Den.ckI at h
  exact ⟨s_iseq (md_or v) (ih.e e x ct v X (by simp at hs;omega) hX h).pe,nice_of h⟩
 | rng a =>
  unfold Den.ckI at h
  split at h
  ·rename_i x y e1
   obtain ⟨px,p,rfl⟩:=vCall_i e1
   simp only [Bool.and_eq_true] at h
   obtain ⟨⟨h1,h2⟩,h3⟩:=h
   obtain ⟨g1,g2⟩:=hX.blt h2 (by rw [beq_str h1];decide)
   have ra:=ih.e a y ct true X (by simp at hs;omega) hX h3
   exact ⟨s_rng (beq_str h1) g1 g2 ra.view (star_one (nice_of h3)),rfl⟩
  ·cases h
 | rng2 a b =>
  unfold Den.ckI at h
  split at h
  ·rename_i x y z e1
   obtain ⟨px,p,rfl⟩:=vCall_i e1
   simp only [Bool.and_eq_true] at h
   obtain ⟨⟨⟨h1,h2⟩,h3⟩,h4⟩:=h
   obtain ⟨g1,g2⟩:=hX.blt h2 (by rw [beq_str h1];decide)
   have ra:=ih.e a y ct true X (by simp at hs;omega) hX h3
   have rb:=ih.e b z ct true X (by simp at hs;omega) hX h4
   exact ⟨s_rng2 (beq_str h1) g1 g2 ra.view rb.view (star_two (nice_of h3) (nice_of h4)) (star_one (nice_of h4)),rfl⟩
  ·cases h
 | zip a b =>
  unfold Den.ckI at h
  split at h
  ·rename_i x y z e1
   obtain ⟨px,p,rfl⟩:=vCall_i e1
   simp only [Bool.and_eq_true] at h
   obtain ⟨⟨⟨h1,h2⟩,h3⟩,h4⟩:=h
   obtain ⟨g1,g2⟩:=hX.blt h2 (by rw [beq_str h1];decide)
   obtain ⟨elts,j,p',rfl⟩:=hp rfl
   have ra:=ih.e a y ct v X (by simp at hs;omega) hX h3
   have rb:=ih.e b z ct v X (by simp at hs;omega) hX h4
   exact ⟨s_izip (md_or v) (beq_str h1) g1 g2 ra.pe rb.pe (star_two (nice_of h3) (nice_of h4)) (star_one (nice_of h4)),rfl⟩
  ·cases h
 | enum a =>
  unfold Den.ckI at h
  split at h
  ·rename_i x y e1
   obtain ⟨px,p,rfl⟩:=vCall_i e1
   simp only [Bool.and_eq_true] at h
   obtain ⟨⟨h1,h2⟩,h3⟩:=h
   obtain ⟨g1,g2⟩:=hX.blt h2 (by rw [beq_str h1];decide)
   obtain ⟨elts,j,p',rfl⟩:=hp rfl
   have ra:=ih.e a y ct v X (by simp at hs;omega) hX h3
   exact ⟨s_ienum (md_or v) (beq_str h1) g1 g2 ra.pe (star_one (nice_of h3)),rfl⟩
  ·cases h
theorem allOk:∀ n,AllOk xp k g pg Φ n
 | 0=>⟨fun _ _ _ _ _ h=>by omega,fun _ _ _ _ h=>by omega,fun _ _ _ _ h=>by omega,fun _ _ _ _ _ _ h=>by omega⟩
 | n+1=>⟨stepE (allOk n),stepA (allOk n),stepO (allOk n),stepI (allOk n)⟩
theorem okE {e:Den.E} {x:Expr} {ct:Den.Ct} {v:Bool} {X:Cx} (hX:XOk xp k g pg Φ X ct) (h:Den.ckE g ct v e x=true):Res xp X ct.mu v (Den.freshE e) x (fun ρ=>Den.ev pg Φ ρ e):=(allOk (sizeOf e+1)).e e x ct v X (Nat.lt_succ_self _) hX h
end
end Sim
end
section
namespace Sim
open PySem PySem.Spec PyProof.Rows L2
theorem ok_some {P:Program} {w:World} {H:Hp} {h:Heap} {a:Addr} {o:HO} (x:ObjOk P w H h a o):∃ u,h.get? a=some u:=by
 cases o with
 | lst xs=>obtain ⟨_,_,_,_,e⟩:=x;exact ⟨_,e⟩
 | tup xs=>obtain ⟨_,_,_,o,e,_⟩:=x;exact ⟨_,e⟩
 | dK kvs=>obtain ⟨_,_,_,_,o,_,_,e,_⟩:=x;exact ⟨_,e⟩
 | dT kvs=>obtain ⟨_,_,_,_,o,_,_,e,_⟩:=x;exact ⟨_,e⟩
 | set S n=>obtain ⟨o,_,_,_,e,_⟩:=x;exact ⟨_,e⟩
 | ins C dx fs=>obtain ⟨_,_,_,e,_⟩:=x;exact ⟨_,e⟩
 | own y=>exact x
 | xd fs=>obtain ⟨_,⟨_,_,_,e,_⟩,_⟩:=x;exact ⟨_,e⟩
 | rng lo hi=>obtain ⟨_,_,_,e⟩:=x;exact ⟨_,e⟩
 | frz ob u=>obtain ⟨e,_⟩:=x;exact ⟨_,e⟩
 | tbl ps=>exact ⟨_,x⟩
 | met f y=>exact ⟨_,x⟩
 | ext φ=>exact x.2.1
theorem ok_none {P:Program} {w:World} {H:Hp} {h:Heap} {a:Addr} (x:HOk P w H h) (e:h.get? a=none):H a=none:=by
 cases q:H a with
 | none=>rfl
 | some o=>obtain ⟨u,z⟩:=ok_some (x a o q);rw [e] at z;cases z
section
variable {X:Cx} {pins:List (Addr×Obj)} {σ:Sg} {H:Hp} {s:Shared} {h':Heap} {l:List Addr}
theorem noted {t':Nat} (I:Inv X pins σ H s) (nw:∀ a∈l,NewA X pins H a) (keep:∀ b o,s.heap.get? b=some o->b∉l->b∉frs X.stack->h'.get? b=some o)
  (slot:∀ b o,s.heap.get? b=some o->b∈frs X.stack->∃ sl,h'.get? b=some { o with slots:=sl }):Inv X pins σ H { s with heap:=h',toks:=t' }:=by
 have any:∀ b o,s.heap.get? b=some o->b∉l->∃ sl,h'.get? b=some { o with slots:=sl }:=fun b o e n=>by
  by_cases hb:b∈frs X.stack
  ·exact slot b o e hb
  ·exact ⟨o.slots,keep b o e n hb⟩
 have old:∀ b o,X.s₀.heap.get? b=some o->b∉X.ex->b∉l:=fun b o e hx hb=>by
  rcases (nw b hb).2.1 with z | z
  ·exact hx z
  ·rw [e] at z;cases z
 have nst:∀ b o,X.s₀.heap.get? b=some o->b∉X.fs->b∉frs X.stack:=fun b o e hb q=>by
  rcases List.mem_cons.mp (I.stkSub b q) with z | z
  ·exact absurd (Nat.lt_of_lt_of_le (Heap.lt_size e) I.ok.above) (by rw [z];exact Nat.lt_irrefl _)
  ·exact hb z
 have cellK:∀ x c,X.env.cells.lookup x=some c->∀ v,s.heap.IsCell c v->h'.IsCell c v:=fun x c e v ⟨o,ho,hd⟩=>by
  obtain ⟨sl,q⟩:=any c o ho fun z=>(nw c z).2.2.2.1 x c e rfl
  exact ⟨_,q,hd⟩
 refine ⟨I.ok,I.os,I.bare,⟨fun b o e n hb hx=>?_,fun b o e n hb hx=>?_,I.base.free,fun b o e hx=>?_,I.base.tups,I.base.frzs,I.base.tbls⟩,?_,fun x c e=>?_,I.free,I.freeC,fun p hp=>?_,fun a o e=>?_,I.len⟩
 ·exact keep b o (I.base.keep b o e n hb hx) (old b o e hx) (nst b o e hb)
 ·obtain ⟨sl,e1⟩:=I.base.slot b o e n hb hx
  obtain ⟨sl',e2⟩:=any b _ e1 (old b o e hx)
  exact ⟨sl',e2⟩
 ·obtain ⟨o',e1⟩:=I.base.there b o e hx
  obtain ⟨sl,e2⟩:=any b o' e1 (old b o e hx)
  exact ⟨_,e2⟩
 ·obtain ⟨m,⟨o,es,ep,ho,hd,r⟩,hl⟩:=I.loc
  obtain ⟨sl,e⟩:=any _ o ho fun z=>(nw _ z).2.2.1 rfl
  refine ⟨m,⟨_,es,ep,e,hd,r⟩,fun i x v e1 e2 e3=>?_⟩
  obtain ⟨u,r,q⟩:=hl i x v e1 e2 e3
  refine ⟨u,r,?_⟩
  rcases q with q | ⟨k,c,e,z⟩
  ·exact .inl q
  ·exact .inr ⟨k,c,e,cellK x c e _ z⟩
 ·obtain ⟨v,z⟩:=I.cell x c e
  exact ⟨v,cellK x c e v z⟩
 ·obtain ⟨e,n,ne,nf,d⟩:=I.pin p hp
  exact ⟨keep p.1 p.2 e (fun z=>(nw _ z).2.2.2.2 p hp rfl) (fun z=>(List.mem_cons.mp (I.stkSub _ z)).elim ne nf),n,ne,nf,d⟩
 ·refine (I.hok a o e).stay (fun b u hb q=>?_) (fun _ q=>q) fun _ _ q=>q
  have hH:H b≠none:=by
   rcases hb with z | z
   ·rw [z,e];exact fun y=>nomatch y
   ·rw [z];exact fun y=>nomatch y
  exact keep b u q (fun z=>hH (nw b z).1) fun z=>hH (I.stkFree b z)
theorem list_ext {l b:Addr} {items items2:Array Value} {n n2:Nat} {o2:Obj} (hc:o2.cls=.type "list") (hd:o2.data=.seq items2 n2) (hlong:¬(!items.isEmpty&&Builtin.List.listTooLong (items.size+items2.size))=true)
  (hz:items.size<=sizeLine) (hz2:items.size+items2.size<=sizeLine+1) :
  Meets (Builtin.«list.extend» ⟨[.ref l,.ref b],[]⟩) fun _ R s=>s.heap.get? l=some { cls:=.type "list",dict:=none,data:=.seq items n,slots:=#[] }/\s.heap.get? b=some o2 /\
   R (.ok (.ret Value.none)) { s with heap:=s.heap.update l (Obj.mapSeq fun x=>x++items2),toks:=s.toks }:=by
 refine .of_wp fun prog w A R s h=>?_
 obtain ⟨hp,g,d,tk,os⟩:=s
 obtain ⟨c2,d2,dt2,sl2⟩:=o2
 cases hc
 cases hd
 obtain ⟨e1,e2,h⟩:=h
 have f1:=AutoSeq1.idx_int
 have f2:=AutoSeq1.sub_list_list
 have f3:=AutoSeq1.sub_list_tuple
 have f4:=AutoSeq1.sub_tuple_tuple
 have f5:=AutoSeq1.sub_tuple_list
 have hzz:(items++items2).size<=sizeLine+1:=by rw [Array.size_append];exact hz2
 wp_walk using (wpAny_updateSeq e1 rfl (hz:=hz) (_hz':=hzz)),AutoSeq1.wpAny_loadPart' e1,AutoSeq1.wpAny_loadPart' e2
 exact ⟨_,rfl,h⟩
def rExtS (K:W.Frag):V->List V->Hp->VK->Prop:=fun x vs H Q=>∃ l b xs zs,x=.ref l/\vs=[.ref b]/\H l=some (.lst xs)/\SqL K H b zs/\xs.length+zs.length<=sizeLine/\Q .non (upd H l (.lst (xs++zs)))
theorem mt_ext:MtM X "list.extend" (rExtS X.K):=by
 intro pins s σ H x vs v us Q I rx rv h
 obtain ⟨l,b,xs,zs,rfl,rfl,hH,hB,hz,q⟩:=h
 cases rx
 obtain ⟨u,rfl,ru⟩:=rv.one
 cases ru
 obtain ⟨z,its,n,r,hl,e⟩:=I.lstM hH
 obtain ⟨its2,r2,⟨o2,n2,e2,c2,_,d2⟩,hz2⟩:=I.list hB
 have hl2:=r2.length
 have hsz:its.toArray.size+its2.toArray.size<=sizeLine:=by rw [List.size_toArray,List.size_toArray];omega
 refine call_meets F.slot_list_extend ⟨_,e,rfl⟩ F.entry_list_extend (F.args_list_extend_2 _ _) (list_ext c2 d2 (by rw [notLongL hsz,Bool.and_false];exact Bool.false_ne_true) (by rw [List.size_toArray];omega) (by omega)) ⟨e,e2,?_⟩
 refine ⟨.non,_,I.lset (its':=its++its2) hH e (by simp) (r.append r2) ?_,rfl,q⟩
 rw [List.length_append]
 omega
variable {xp:XP} {mu:List Nat} {f:Rho->Rr D} {e:Expr} {p1 p4 ap cp:Pos} {i:Nat} {x n:Str}
theorem s_ext (hm : i ∈ mu) (hn : n = "extend") (hN : X.N[i]? = some x) (hv : Vis X.env.scope x) (h1 : (x == ("__debug__" : Str)) = false) (h2 : (x == ("__classdict__" : Str)) = false) (hline : (ap.endLine == cp.line) = true) (he : PE X e (tM xp X mu .val f)) (hst : starEach [e] X.env = [(false, eval e X.env)]) :
    PS X (.Expr (.Call (.Attribute (.Name x p1) n ap) [e] [] cp) p4) (tS xp X mu fun ρ => Den.chkL ρ[i]? >>= fun _ => f ρ >>= fun d => Den.extD ρ[i]? d >>= fun y => .ok (.nx (ρ.set i (some y)))) := by
  subst hn
  intro pins s σ H T I ⟨G0, H0, G, ρ, hb, hw⟩
  refine ps_expr (pe_bm PySem.F.plainAttrs_list PySem.F.slot_list_extend PySem.F.type_list_extend mt_ext (pe_var hN hv h1 h2) (pa_one he hst) rfl (hfew1 hst) hline hst rfl) rfl pins s σ H T I ?_
  obtain ⟨ds, q, hw⟩ := chk_lst (wpR_bind.mp hw)
  obtain ⟨a, xs, k1, k2, k3, k4⟩ := hb.sm.lst i ds q hm
  refine ⟨_, k1, .inl ⟨rfl, xs, SqL.of k2⟩, ?_⟩
  refine ⟨G, ρ, hb.sm, wpR_mono (wpR_bind.mp hw) (fun d k v G1 H1 x1 r1 => ?_) fun _ z => z.mono hb.ext.h⟩
  have hb1 := hb.step x1
  rw [q] at k
  cases d with
  | lst es =>
    rw [Den.ext_ok] at k
    have k := wpR_bind.mp k
    by_cases hz : ds.length + es.length <= Den.SZ
    · rw [if_pos hz] at k
      obtain ⟨b, zs, rfl, hS, hR⟩ := r1
      have hH1 : H1 a = some (.lst xs) := x1.h _ _ k2
      have hG1 : G1 a = none := x1.new a k3 (by rw [k2]; exact fun z => nomatch z)
      refine ⟨a, b, xs, zs, rfl, rfl, hH1, sqL_mono x1.sub hS, by rw [<- k4.length, <- hR.length, <- SZ_line]; exact hz, ?_⟩
      exact k σ G1 _ (hb1.write hm q k1 hH1 hG1 ((k4.mono x1.g).append hR))
    · rw [if_neg hz] at k; exact k.elim
  | _ => exact k.elim
end
end Sim
end
section
namespace Sim
open PySem PySem.Spec PyProof.Rows L2
def bmV:List Value:=[.type "ValueError",.type "Exception",.type "BaseException",.type "object"]
structure OwnX (mg:Str->Option Value) (base:Heap) (cl:Nat->Option Addr) (up:Nat->List Nat) (c:Nat) (x:Str) (C:Addr):Prop where
 at_:cl c=some C
 mg:mg x=some (.ref C)
 ob:∃ (newId Bn inN:String) (bmN bm:List Value) (N:Addr) (nm q:Str) (bs:List Value) (hdct:Bool) (sn:List Str) (sub:List Value) (ab:Bool) (col:Option Bool) (dd:Option Addr) (k0 k1 k2 k3 k5:Option Value) (mN:Str->Option Value),
  ExcBaseFacts Bn newId inN bmN/\bmV.contains (.type Bn)=true/\base.get? C=some (excClassObj nm q C N bs bm hdct sn sub ab col dd k0 k1 k2 k3 k5 newId)/\base.Ns N mN/\mN "__init__"=none/\OwnTail base bmV bm /\
  ∀ k D,k≠c->(up c).contains k=true->cl k=some D->bm.contains (.ref D)=true
section
variable {X:Cx} {pins:List (Addr×Obj)} {σ:Sg} {H:Hp} {s:Shared} {h':Heap} {l:List Addr} {cl:Nat->Option Addr} {up:Nat->List Nat} {c:Nat} {x n:Str} {C:Addr} {mu:List Nat} {np p cpos pos:Pos}
theorem s_raise {t:Str} {j:Nat} (O:OwnX X.mg X.base cl up c x C) (hc:X.calm=true) (hg:Gl X x) (hd:(x==("__debug__":Str))=false) :
  PS X (.Raise (some (.Call (.Name x np) [.Constant (.str t) j p] [] cpos)) none pos) (tS (Xn.XpC cl) X mu fun _=>.exc c):=by
 intro pins s σ H T I ⟨G0,H0,G,ρ,hb,hw⟩
 obtain ⟨newId,Bn,inN,bmN,bm,N,nm,q,bs,hdct,sn,sub,ab,col,dd,k0,k1,k2,k3,k5,mN,Fn,hBn,hC,hN,hni,Tl,_⟩:=O.ob
 refine wpAny_Raise_call_subU (C:=C) (nm:=nm) (q:=q) (N:=N) (bs:=bs) (bm:=bm) (hdct:=hdct) (sn:=sn) (sub:=sub) (ab:=ab) (col:=col) (dd:=dd) (k0:=k0) (k1:=k1) (k2:=k2) (k3:=k3) (k5:=k5)
  Fn hBn F.excBase_ValueError (mN:=mN) (Tl.hasType rfl) (I.ok.hd hc) rfl hni (ld_glob I hg O.mg ⟨rfl,?_⟩ hd)
 have ha:=(pa_cons pe_str pa_nil:PA X [.Constant (.str t) j p] _) cpos pins s σ H (fun vs H1=>vs.length=1/\H1=H) I ⟨rfl,rfl⟩
 refine Calls.evalArgs_plain (thn ha fun us s2 ⟨vs,H1,I1,r,e⟩=>⟨rfl,by show us.length<=sizeLine;rw [<- r.length,e.1];decide,I1.bk _ _ hC,hN.keeps I1.bk,Tl.keeps I1.bk,fun h' ea hm=>?_⟩)
 ·obtain ⟨_,rfl⟩:=e
  exact hw pins σ H1 { s2 with heap:=h' } (.ref ea) [ea] (I1.kept (t':=s2.toks) hm.keeps) hb.ext.h (fun a ha=>by
   obtain rfl:a=ea:=by simpa using ha
   exact .of I1 hm.new (ok_none I1.hok hm.new)) (Xn.made O.at_ hm)
def tHand (j:Nat) (ea:Addr) (v:V):TE:=fun σ H Q=>σ[j]?=some (some (.ref ea))/\∀ H3,Same H H3->Q v H3
def IsX (mg:Str->Option Value) (base:Heap) (cl:Nat->Option Addr) (up:Nat->List Nat) (c:Nat) (v:V):Prop:=v=.ty "ValueError"\/∃ k y D,v=.ref D/\OwnX mg base cl up k y D/\(k=c\/(up c).contains k=true)
theorem call_isx {ea:Addr} {oe:Obj} (O:OwnX X.mg X.base cl up c x C) (hp:(ea,oe)∈X.pn) (hcl:oe.cls=.ref C) :
  CallR X (.builtin "isinstance") (fun xs H Q=>∃ v,xs=[.ref ea,v]/\IsX X.mg X.base cl up c v/\Q (.bl true) H):=by
 intro pins s σ H xs us Q I r ⟨v,ex,hv,q⟩
 subst ex
 obtain ⟨u,u',rfl,ru,ru'⟩:=vals2 r
 cases ru
 have he:=(I.pin (ea,oe) (List.mem_append_left _ hp)).1
 obtain ⟨newId,Bn,inN,bmN,bm,N,nm,q',bs,hdct,sn,sub,ab,col,dd,k0,k1,k2,k3,k5,mN,Fn,hBn,hC,hN,hni,Tl,hb⟩:=O.ob
 have hC:=I.bk _ _ hC
 rcases hv with rfl | ⟨k,y,D,rfl,OD,hk⟩
 ·cases ru'
  exact Xn.isi_type he hcl hC (by kernel_rfl) (Tl.hasType rfl) ⟨.bl true,H,I,rfl,q⟩
 ·cases ru'
  obtain ⟨newId',Bn',inN',bmN',bm',N',nm',q'',bs',hdct',sn',sub',ab',col',dd',k0',k1',k2',k3',k5',mN',Fn',hBn',hD,_⟩:=OD.ob
  have hD:=I.bk _ _ hD
  refine Xn.isi_own he hcl hC hD rfl ⟨_,rfl⟩ ?_ ⟨.bl true,H,I,rfl,q⟩
  by_cases e:k=c
  ·subst e
   have:=OD.at_.symm.trans O.at_
   cases this
   simp
  ·rw [List.contains_cons,hb k D e (hk.resolve_left e) OD.at_,Bool.or_true]
variable {g:Den.Gt} {ct:Den.Ct}
structure HOk' (X:Cx) (g:Den.Gt) (ct:Den.Ct) (cl:Nat->Option Addr) (up:Nat->List Nat):Prop where
 gl:∀ x,Den.gloB ct.sc x=true->Gl X x
 bl:∀ x,Den.bltB g ct.sc x=true->x∈BL->Gl X x/\X.mg x=none
 ve:X.mg "ValueError"=none
 own:∀ (c:Nat) (x:Str),g.cls[c]?=some x->∃ C,OwnX X.mg X.base cl up c x C
theorem pe_is {ea:Addr} {oe:Obj} {j k:Nat} {z:Expr} (O:OwnX X.mg X.base cl up c x C) (hO:HOk' X g ct cl up) (hp:(ea,oe)∈X.pn) (hcl:oe.cls=.ref C) (hj:X.N[j]?=some n) (hv:Vis X.env.scope n) (hnn:Den.okN n=true)
  (hk:(up c).contains k=true) (h:Den.ckIs g ct n k z=true):PE X z (tHand j ea (.bl true)):=by
 unfold Den.ckIs at h
 split at h
 ·rename_i f e d e1
  obtain ⟨fp,cp,rfl⟩:=vCall_i e1
  split at h
  ·rename_i y t e2 e3
   obtain ⟨p1,rfl⟩:=vName_i e2
   obtain ⟨p2,rfl⟩:=vName_i e3
   simp only [Bool.and_eq_true,beq_iff_eq] at h
   obtain ⟨⟨⟨⟨rfl,h2⟩,rfl⟩,h4⟩,h5⟩:=h
   obtain ⟨b1,b2⟩:=hO.bl _ h2 (by decide)
   obtain ⟨d1,d2,d3⟩:=okN_d hnn
   have hty:∃ v,PE X (.Name t p2) (tC v)/\IsX X.mg X.base cl up c v:=by
    simp only [Den.tyB,Bool.and_eq_true] at h4
    obtain ⟨⟨g1,g2⟩,g3⟩:=h4
    obtain ⟨t1,t2,t3⟩:=okN_d g2
    by_cases hk':k=1000
    ·rw [if_pos hk'] at g3
     simp only [Bool.and_eq_true,beq_iff_eq] at g3
     obtain ⟨rfl,_⟩:=g3
     exact ⟨.ty "ValueError",pe_bltn (hO.gl _ g1) hO.ve (by kernel_rfl) rfl,.inl rfl⟩
    ·rw [if_neg hk'] at g3
     obtain ⟨D,OD⟩:=hO.own k t (by simpa using g3)
     exact ⟨.ref D,pe_glob (hO.gl _ g1) OD.mg rfl t1,.inr ⟨k,t,D,rfl,OD,.inr hk⟩⟩
   obtain ⟨v,hpe,hx⟩:=hty
   intro pins s σ H Q I ⟨q1,q2⟩
   refine pe_callB (call_isx O hp hcl) b1 b2 boot_isinstance (pa_cons (pe_var hj hv d1 d2) (pa_cons hpe pa_nil)) (by decide) (by decide) rfl rfl pins s σ H Q I ?_
   exact ⟨_,q1,v,rfl,hx,q2 H (Same.refl H)⟩
  ·cases h
 ·cases h
theorem pe_ix1 {ea:Addr} {oe:Obj} {j k k':Nat} {z:Expr} (O:OwnX X.mg X.base cl up c x C) (hO:HOk' X g ct cl up) (hp:(ea,oe)∈X.pn) (hcl:oe.cls=.ref C) (hj:X.N[j]?=some n) (hv:Vis X.env.scope n) (hnn:Den.okN n=true)
  (hk:(up c).contains k=true) (hk':(up c).contains k'=true) (h:Den.ckIx g ct n k k' z=true):PE X z (tHand j ea (.int 1)):=by
 unfold Den.ckIx at h
 split at h
 ·rename_i f b e1
  obtain ⟨fp,cp,rfl⟩:=vCall_i e1
  simp only [Bool.and_eq_true,beq_iff_eq] at h
  obtain ⟨⟨rfl,h2⟩,h3⟩:=h
  split at h3
  ·rename_i u v bp e2
   obtain rfl:=vBool_i e2
   simp only [Bool.and_eq_true] at h3
   obtain ⟨b1,b2⟩:=hO.bl _ h2 (by decide)
   have r1:=pe_is O hO hp hcl hj hv hnn hk h3.1
   have r2:=pe_is O hO hp hcl hj hv hnn hk' h3.2
   intro pins s σ H Q I ⟨q1,q2⟩
   refine pe_callTy call_int1 b1 b2 (show bootBuiltins "int"=some (.type "int") by kernel_rfl) (pa_cons (pe_and r1 (pe_one r2)) pa_nil) (by decide) (by decide) rfl rfl pins s σ H Q I ?_
   refine ⟨q1,fun H3 s3=>⟨true,rfl,?_⟩⟩
   rw [if_pos rfl]
   exact ⟨q1,fun H4 s4=>.inr ⟨true,rfl,q2 H4 (s3.trans s4)⟩⟩
  ·cases h3
 ·cases h
theorem pe_hand {ea : Addr} {oe : Obj} {j k k' : Nat} {y u v : Expr} (O : OwnX X.mg X.base cl up c x C) (hO : HOk' X g ct cl up) (hp : (ea, oe) ∈ X.pn) (hcl : oe.cls = .ref C) (hj : X.N[j]? = some n) (hv : Vis X.env.scope n) (hnn : Den.okN n = true)
    (hk : (up c).contains k = true) (hk' : (up c).contains k' = true) (hu : Den.ckNo u = true) (h : Den.ckIx g ct n k k' v = true) (hy : Den.vSub y = some (u, v)) : PE X y (tHand j ea .non) := by
  obtain ⟨pos, rfl⟩ := vSub_i hy
  have r := pe_ix1 O hO hp hcl hj hv hnn hk hk' h
  unfold Den.ckNo at hu
  split at hu
  · rename_i a b e1
    obtain ⟨lp, rfl⟩ := vLst_i e1
    split at hu
    · rename_i e2 e3
      obtain ⟨j2, p2, rfl⟩ := vTup_i e2
      obtain ⟨j3, p3, rfl⟩ := vConst_i e3
      intro pins s σ H Q I ⟨q1, q2⟩
      refine pe_ix ix_list (pe_lst (pa_cons (pe_tup pa_nil) (pa_cons pe_non pa_nil))) r ?_ pins s σ H Q I ?_
      · unfold Den.ckIx at h
        split at h
        · rename_i f b e1
          obtain ⟨fp, cp, rfl⟩ := vCall_i e1
          exact ix_plain rfl
        · cases h
      · refine ⟨Nat.zero_le _, fun p1 n1 => ⟨by show 2 <= sizeLine; decide, fun p2 n2 => ⟨q1, fun H3 s3 => ⟨p2, _, 1, .non, rfl, rfl, SqL.of (s3 _ _ upd_same), rfl, q2 H3 ?_⟩⟩⟩⟩
        exact ((same_upd n1).trans (same_upd n2)).trans s3
    · cases hu
  · cases hu
end
end Sim
end
section
namespace Sim
open PySem PySem.Spec PyProof.Rows L2
section
variable {X:Cx} {pins:List (Addr×Obj)} {σ:Sg} {H:Hp} {s:Shared} {h':Heap} {l:List Addr} {cl:Nat->Option Addr} {up:Nat->List Nat} {c:Nat} {x n:Str} {C:Addr} {mu:List Nat} {np p cpos pos:Pos}
theorem forgot {t':Nat} {m:Str->Option Value} (I:Inv X pins σ H s) (hn:h'.Ns X.env.locals m) (hs:Heap.SameBut X.env.locals s.heap h'):Inv X pins (List.replicate X.N.length none) H { s with heap:=h',toks:=t' }:=by
 have old:∀ b o,X.s₀.heap.get? b=some o->b≠X.env.locals:=fun b o e=>Nat.ne_of_lt (Nat.lt_of_lt_of_le (Heap.lt_size e) I.ok.above)
 have kp:∀ b o,b≠X.env.locals->s.heap.get? b=some o->h'.get? b=some o:=fun b o nb e=>by rw [hs.2 b nb];exact e
 refine ⟨I.ok,I.os,I.bare,⟨fun b o e n hb hx=>?_,fun b o e n hb hx=>?_,I.base.free,fun b o e hx=>?_,I.base.tups,I.base.frzs,I.base.tbls⟩,⟨m,hn,fun i x v e1 e2 e3=>?_⟩,fun x c e=>?_,I.free,I.freeC,fun p hp=>?_,fun a o e=>?_,by simp⟩
 ·exact kp b o (old b o e) (I.base.keep b o e n hb hx)
 ·obtain ⟨sl,e1⟩:=I.base.slot b o e n hb hx
  exact ⟨sl,kp b _ (old b o e) e1⟩
 ·obtain ⟨o',e1⟩:=I.base.there b o e hx
  exact ⟨o',kp b o' (old b o e) e1⟩
 ·rw [List.getElem?_replicate] at e2
  split at e2 <;> cases e2
 ·obtain ⟨v,o,ho,hd⟩:=I.cell x c e
  exact ⟨v,o,kp c o (I.cne x c e) ho,hd⟩
 ·obtain ⟨e,n,ne,nf,d⟩:=I.pin p hp
  exact ⟨kp _ _ ne e,n,ne,nf,d⟩
 ·refine (I.hok a o e).stay (fun b u hb q=>kp b u (fun z=>?_) q) (fun _ q=>q) fun _ _ q=>q
  have hf:=I.free
  rw [<- z] at hf
  rcases hb with w | w
  ·rw [w,e] at hf;cases hf
  ·rw [w] at hf;cases hf
abbrev inH (X:Cx) (e:Value) (pn:List (Addr×Obj)):Cx:={ X with A:=X.A.mark (some e),calm:=false,pn:=pn,xe:=fun _ _=>False }
abbrev inT (X:Cx) (pn:List (Addr×Obj)) (E:Value->Shared->Prop):Cx:={ X with pn:=pn,xe:=E }
theorem to_H {e:Value} {pn:List (Addr×Obj)} (I:Inv X pins σ H s) (hp:∀ p∈pn,s.heap.get? p.1=some p.2/\H p.1=none/\p.1≠X.env.locals/\p.1∉X.fs/\∀ v,p.2.data≠.cell v):Inv (inH X e pn) [] σ H s :=
 ⟨⟨I.ok.mod,I.ok.kind,I.ok.glob,I.ok.blt,I.ok.above,I.ok.inj,I.ok.has,I.ok.cab,(fun z=>nomatch z),I.ok.frames,I.ok.stk,I.ok.exf,I.ok.bs,I.ok.bsz,I.ok.noex,I.ok.exfs,I.ok.funs,I.ok.frf⟩,I.os,I.bare,I.base,I.loc,I.cell,I.free,I.freeC,fun p q=>hp p (by simpa using q),I.hok,I.len⟩
theorem of_H {e:Value} {pn:List (Addr×Obj)} {ps:List (Addr×Obj)} (hX:X.Ok) (I:Inv (inH X e pn) ps σ H s) (hp:∀ p∈X.pn++pins,p∈pn):Inv X pins σ H s :=
 ⟨hX,I.os,I.bare,I.base,I.loc,I.cell,I.free,I.freeC,fun p q=>I.pin p (List.mem_append_left _ (hp p q)),I.hok,I.len⟩
theorem to_T {pn:List (Addr×Obj)} {E:Value->Shared->Prop} (I:Inv X pins σ H s) (hp:∀ p∈pn,p∈X.pn++pins):Inv (inT X pn E) [] σ H s :=
 ⟨⟨I.ok.mod,I.ok.kind,I.ok.glob,I.ok.blt,I.ok.above,I.ok.inj,I.ok.has,I.ok.cab,I.ok.hd,I.ok.frames,I.ok.stk,I.ok.exf,I.ok.bs,I.ok.bsz,I.ok.noex,I.ok.exfs,I.ok.funs,I.ok.frf⟩,I.os,I.bare,I.base,I.loc,I.cell,I.free,I.freeC,fun p q=>I.pin p (hp p (by simpa using q)),I.hok,I.len⟩
theorem of_T {pn ps:List (Addr×Obj)} {E:Value->Shared->Prop} (hX:X.Ok) (I:Inv (inT X pn E) ps σ H s) (hp:∀ p∈X.pn++pins,p∈pn):Inv X pins σ H s :=
 ⟨hX,I.os,I.bare,I.base,I.loc,I.cell,I.free,I.freeC,fun p q=>I.pin p (List.mem_append_left _ (hp p q)),I.hok,I.len⟩
theorem NewA.nofs {a:Addr} (I:Inv X pins σ H s) (h:NewA X pins H a):a∉X.fs:=fun hb=>by
 rcases h.2.1 with z | z
 ·exact I.ok.exfs a z hb
 ·obtain ⟨_,o,ho,_⟩:=I.ok.funs.mem hb
  rw [z] at ho;cases ho
theorem NewA.nost {a:Addr} (I:Inv X pins σ H s) (h:NewA X pins H a):a∉frs X.stack:=fun hb=>by
 rcases List.mem_cons.mp (I.stkSub a hb) with z | z
 ·exact h.2.2.1 z
 ·exact NewA.nofs I h z
theorem s_hand {T:Ends} {ev:Value} {y:Expr} {j:Nat} {rp hp:Pos} (I:Inv X pins σ H s) (nw:∀ a∈l,NewA X pins H a) (hx:Xn.XpC cl c ev l s.heap) (O:OwnX X.mg X.base cl up c x C) (hgx:Gl X x) (hdx:(x==("__debug__":Str))=false)
  (hN:X.N.Nodup) (hj:X.N[j]?=some n) (hn:X.env.scope.names.lookup n=some .local)
  (hE:∀ (ea:Addr) (oe:Obj) (pn:List (Addr×Obj)),oe.cls=.ref C->(ea,oe)∈pn->PE (inH X (.ref ea) pn) y (tHand j ea .non)) (fin:∀ H3,Same H H3->T.rt .non H3) :
  wpAny (model X.prog X.w) X.A (handleBy ev X.env [.ExceptHandler (some (.Name x np)) (some n) [.Return (some y) rp] hp]) (SP X pins T) X.xe s:=by
 have hx0:=hx
 obtain ⟨ea,C',oe,vs,a0,rfl,hc,he,hcl,hd,h0,hr⟩:=hx
 have hel:ea∈l:=by rcases hr with ⟨rfl,_⟩ | ⟨T,_,_,rfl,_⟩ <;> simp
 obtain rfl:C'=C:=Option.some.inj (hc.symm.trans O.at_)
 have nea:=nw ea hel
 have pin:∀ {σ:Sg} {s:Shared},Inv X pins σ H s->s.heap.get? ea=some oe->Inv (inH X (.ref ea) (X.pn++pins++[(ea,oe)])) [] σ H s:=fun {σ s} I he=>to_H I fun p hp=>by
  rcases List.mem_append.mp hp with hp | hp
  ·exact I.pin p hp
  ·obtain rfl:p=(ea,oe):=by simpa using hp
   exact ⟨he,nea.1,nea.2.2.1,NewA.nofs I nea,fun v=>by show oe.data≠_;rw [hd];exact fun z=>nomatch z⟩
 have I2:=pin I he
 obtain ⟨newId,Bn,inN,bmN,bm,N,nm,q,bs,hdct,sn,sub,ab,col,dd,k0,k1,k2,k3,k5,mN,Fn,hBn,hC,hN',hni,Tl,_⟩:=O.ob
 refine wpAny_handleBy_cons (codeAny_handlers_test ?_) (by intro q;cases q)
 refine ld_glob (X:=inH X (.ref ea) (X.pn++pins++[(ea,oe)])) I2 hgx O.mg ?_ hdx
 obtain ⟨hh,gg,dw,tk,os⟩:=s
 refine wpAny_excMatches_sub_self (I.bk _ _ hC) he hcl (Tl.hasType rfl) ?_
 refine codeAny_handlers_suite_as ?_
 refine Xn.flight hx0 fun h1 l1 hl1 hk1=>?_
 have I3:Inv X pins σ H { heap:=h1,gens:=gg,drawn:=dw,toks:=tk,os:=os }:=noted (t':=tk) I (l:=l1) (fun a ha=>nw a (hl1 a ha).1) (fun b o q hb _=>hk1 b o q hb) fun b o q hb=>⟨o.slots,hk1 b o q fun z=>NewA.nost I (nw b (hl1 b z).1) hb⟩
 have he3:h1.get? ea=some oe:=hk1 ea oe he fun z=>(hl1 ea z).2 rfl
 refine store_ok (X:=inH X (.ref ea) (X.pn++pins++[(ea,oe)])) (pin I3 he3) hN hj (.inl hn) (v:=.ref ea) rfl (fun s5 I5=>?_) (.inr hn)
 refine wpAny_mono (pss_one (ps_ret (hE ea oe _ hcl (by simp))) [] s5 _ H { nx:=fun _ _=>False,rt:=fun v H3=>v=.non/\Same H H3 } I5 ⟨?_,fun H3 z=>⟨rfl,z⟩⟩) (fun f s6 q=>?_) fun _ _ z=>z.elim
 ·have hjl:j < σ.length:=by rw [I.len];exact (List.getElem?_eq_some_iff.mp hj).1
  exact set_get hjl
 ·cases f with
  | ret u =>
   obtain ⟨v,σ6,H6,I6,r6,rfl,sm6⟩:=q
   obtain ⟨m,hn6,_⟩:=id I6.loc
   refine wpAny_nameGoes (env:=X.env) (m:=m) hn hn6 (by rw [I.ok.kind];rfl) fun h7 m7 hn7 hs7=>?_
   exact ⟨.non,_,H6,forgot (of_H I.ok I6 fun p hp=>List.mem_append_left _ hp) hn7 hs7,r6,fin H6 sm6⟩
  | next=>obtain ⟨_,_,_,z⟩:=q;exact z.elim
  | brk=>obtain ⟨_,_,_,z⟩:=q;exact z.elim
  | cont=>obtain ⟨_,_,_,z⟩:=q;exact z.elim
theorem s_try {pg : Den.Pg} {Φ : Den.Fn} {i k j : Nat} {e h : Den.E} {a : Stmt} {y : Expr} {rp hp : Pos} (hst : X.stack = X.env :: X.outer /\ X.env.frame = some X.env.locals)
    (hbody : ∀ (pn : List (Addr × Obj)) (E : Value -> Shared -> Prop), PS (inT X pn E) a (tS (Xn.XpC cl) (inT X pn E) mu fun ρ => Den.ex pg Φ ρ (.asg i e)))
    (O : OwnX X.mg X.base cl up k x C) (hgx : Gl X x) (hdx : (x == ("__debug__" : Str)) = false) (hN : X.N.Nodup) (hj : X.N[j]? = some n) (hn : X.env.scope.names.lookup n = some .local)
    (hval : ∀ ρ : Rho, j < ρ.length -> Den.exH pg Φ ρ k (.cons k (some j) (.cons (.ret h) .nil) .nil) = .ok (.rt .non))
    (hE : ∀ (ea : Addr) (oe : Obj) (pn : List (Addr × Obj)), oe.cls = .ref C -> (ea, oe) ∈ pn -> PE (inH X (.ref ea) pn) y (tHand j ea .non)) :
    PS X (.Try [a] [.ExceptHandler (some (.Name x np)) (some n) [.Return (some y) rp] hp] [] [] pos) (tS (Xn.XpC cl) X mu fun ρ => Den.ex pg Φ ρ (.try_ (.asg i e) (.cons k (some j) (.cons (.ret h) .nil) .nil))) := by
  intro pins s σ H T I ⟨G0, H0, G, ρ, hb, hw⟩
  refine wpAny_Try_except ?_
  have go : ∀ (G1 H1 : Hp) (E1 : Value -> Shared -> Prop), Sb X.K mu G1 H1 G H ρ σ -> wpR (Den.ex pg Φ ρ (.asg i e)) (flQ X.K mu G1 H1 T) (fun c => RaiseOk (Xn.XpC cl) (inT X (X.pn ++ pins) E1) c H1) ->
      wpAny (model X.prog X.w) X.A (execs [a] X.env) (fun f s1 => match f with | .next => wpAny (model X.prog X.w) X.A (execs [] X.env) (SP X pins T) X.xe s1 | f => SP X pins T f s1) E1 s := fun G1 H1 E1 hb1 hw1 => by
    refine wpAny_mono (pss_one (hbody (X.pn ++ pins) E1) [] s σ H T (to_T I fun _ z => z) ⟨G1, H1, G, ρ, hb1, hw1⟩) (fun f s1 q => ?_) fun _ _ q => q
    cases f with
    | next => obtain ⟨σ', H', I', q⟩ := q; exact wpAny_execs_nil ⟨σ', H', of_T I.ok I' fun _ z => z, q⟩
    | ret u => obtain ⟨v, σ', H', I', r, q⟩ := q; exact ⟨v, σ', H', of_T I.ok I' fun _ z => z, r, q⟩
    | brk => obtain ⟨σ', H', I', q⟩ := q; exact ⟨σ', H', of_T I.ok I' fun _ z => z, q⟩
    | cont => obtain ⟨σ', H', I', q⟩ := q; exact ⟨σ', H', of_T I.ok I' fun _ z => z, q⟩
  dsimp only at hw
  rw [Den.ex_try] at hw
  cases q : Den.ex pg Φ ρ (.asg i e) with
  | ok r =>
    rw [q, Den.tryB_ok] at hw
    exact go G0 H0 _ hb (by rw [q]; exact hw)
  | bad => rw [q] at hw; exact hw.elim
  | exc c =>
    rw [q, Den.tryB_exc] at hw
    by_cases hck : c = k
    · subst hck
      have hjl : j < ρ.length := by rw [hb.sm.len, I.len]; exact (List.getElem?_eq_some_iff.mp hj).1
      rw [hval ρ hjl] at hw
      have hG : Same G0 (joinH G0 H0) := fun b o e => joinH_some e
      have hH0 : Same H0 (joinH G0 H0) := fun b o e => by
        cases z : G0 b with
        | none => rw [joinH_none z]; exact e
        | some o' =>
          have e1 := hb.ext.sub b o' (hb.ext.g b o' z)
          rw [hb.ext.h b o e] at e1
          cases e1
          exact joinH_some z
      have hb' : Sb X.K mu G0 (joinH G0 H0) G H ρ σ := by
        refine ⟨hb.sm, ⟨hb.ext.g, fun b o e => ?_, hb.ext.sub, fun b z1 z2 => ?_⟩, fun i' ds b z1 z2 z3 => ?_⟩
        · cases z : G0 b with
          | none => rw [joinH_none z] at e; exact hb.ext.h b o e
          | some o' => rw [joinH_some z] at e; cases e; exact hb.ext.sub b _ (hb.ext.g b _ z)
        · rw [joinH_none z1] at z2; exact hb.ext.new b z1 z2
        · obtain ⟨b', xs, k1, k2, k3, k4⟩ := hb.sm.lst i' ds z1 z2
          rw [k1] at z3
          cases z3
          rw [joinH_none (hb.ext.g.free k3)]
          exact hb.own i' ds _ z1 z2 k1
      refine go G0 (joinH G0 H0) _ hb' ?_
      rw [q]
      intro pins' σ' H' s' ev l I1 sm nw hx
      have I' : Inv X pins σ' H' s' := of_T I.ok I1 fun _ z => z
      have nw' : ∀ a ∈ l, NewA X pins H' a := fun a ha => ⟨(nw a ha).1, (nw a ha).2.1, (nw a ha).2.2.1, (nw a ha).2.2.2.1, fun p hp => (nw a ha).2.2.2.2 p (List.mem_append_left _ hp)⟩
      have e1 : Xn.fr (X.env :: X.outer) = frs X.stack := by rw [hst.1]; rfl
      refine Xn.note (base := X.base) (outer := X.outer) (by rw [I'.ok.frames, hst.1]) (by rw [<- hst.1]; exact I'.stack) hst.2 hx fun h1 l1 hx1 hn1 hk hs1 => ?_
      rw [e1] at hk hs1
      have I2 : Inv X pins σ' H' { s' with heap := h1 } := noted (t' := s'.toks) I' nw' hk hs1
      have nw2 : ∀ a ∈ l1, NewA X pins H' a := fun a ha => (hn1 a ha).elim (nw' a) fun z => .of I' z (ok_none I'.hok z)
      exact s_hand I2 nw2 hx1 O hgx hdx hN hj hn hE fun H3 s3 => hw .non G0 H3 ⟨Same.refl G0, (hH0.trans sm).trans s3, (hG.trans sm).trans s3, fun _ z _ => z⟩ rfl
    · have : Den.exH pg Φ ρ c (.cons k (some j) (.cons (.ret h) .nil) .nil) = .bad := by simp only [Den.exH, if_neg hck]
      rw [this] at hw
      exact hw.elim
end
end Sim
end
section
namespace Sim
open PySem PySem.Spec PyProof.Rows L2
theorem tAsg_i {x:Stmt} {ts:List Expr} {y:Expr} (h:Den.tAsg x=some (ts,y)):∃ p,x=.Assign ts y p:=by
 cases x with
 | Assign a b p=>cases h;exact ⟨p,rfl⟩
 | _=>exact nn h
theorem tExp_i {x:Stmt} {y:Expr} (h:Den.tExp x=some y):∃ p,x=.Expr y p:=by
 cases x with
 | Expr a p=>cases h;exact ⟨p,rfl⟩
 | _=>exact nn h
theorem tRet_i {x:Stmt} {y:Option Expr} (h:Den.tRet x=some y):∃ p,x=.Return y p:=by
 cases x with
 | Return a p=>cases h;exact ⟨p,rfl⟩
 | _=>exact nn h
theorem tIf_i {x:Stmt} {t:Expr} {a b:List Stmt} (h:Den.tIf x=some (t,a,b)):∃ p,x=.If t a b p:=by
 cases x with
 | If t a b p=>cases h;exact ⟨p,rfl⟩
 | _=>exact nn h
theorem tFor_i {x:Stmt} {t it:Expr} {a b:List Stmt} (h:Den.tFor x=some (t,it,a,b)):∃ p,x=.For t it a b p:=by
 cases x with
 | For t it a b p=>cases h;exact ⟨p,rfl⟩
 | _=>exact nn h
theorem tPass_i {x:Stmt} (h:(Den.tPbc x==0)=true):∃ p,x=.Pass p:=by
 cases x with
 | Pass p=>exact ⟨p,rfl⟩
 | _=>exact (Bool.false_ne_true h).elim
theorem tBrk_i {x:Stmt} (h:(Den.tPbc x==1)=true):∃ p,x=.Break p:=by
 cases x with
 | Break p=>exact ⟨p,rfl⟩
 | _=>exact (Bool.false_ne_true h).elim
theorem tCont_i {x:Stmt} (h:(Den.tPbc x==2)=true):∃ p,x=.Continue p:=by
 cases x with
 | Continue p=>exact ⟨p,rfl⟩
 | _=>exact (Bool.false_ne_true h).elim
theorem vAtt_i {x o:Expr} {n:Str} {p:Pos} (h:Den.vAtt x=some (o,n,p)):x=.Attribute o n p:=by
 cases x with
 | Attribute o n p=>cases h;rfl
 | _=>exact nn h
theorem vApp_i {z y:Expr} {x n:Str} {ap:Pos} (h:Den.vApp z=some (x,n,ap,y)):∃ p cp,z=.Call (.Attribute (.Name x p) n ap) [y] [] cp:=by
 unfold Den.vApp at h
 split at h
 ·rename_i f y' e1
  obtain ⟨cp,rfl⟩:=vCall0_i e1
  split at h
  ·rename_i o n' ap' e2
   obtain rfl:=vAtt_i e2
   split at h
   ·rename_i x' e3
    obtain ⟨p,rfl⟩:=vName_i e3
    cases h
    exact ⟨p,cp,rfl⟩
   ·cases h
  ·cases h
 ·cases h
structure ClsOk (xp:XP) (g:Den.Gt) (pg:Den.Pg) (mg:Str->Option Value) (base:Heap):Prop where
 ex:∃ cl,xp=Xn.XpC cl/\∀ (c:Nat) (x:Str),g.cls[c]?=some x->∃ C,OwnX mg base cl pg.up c x C
 top:∀ c,c+1=g.cls.length->∀ k,k=1000\/k < g.cls.length->(pg.up c).contains k=true
 ve:mg "ValueError"=none
structure SOk (xp:XP) (g:Den.Gt) (pg:Den.Pg) (X:Cx) (ct:Den.Ct):Prop where
 cls:ClsOk xp g pg X.mg X.base
 stk:X.stack=X.env::X.outer/\X.env.frame=some X.env.locals
 loc:∀ x,Den.locB ct.sc x=true->Loc X.env.scope x
 fn:∀ x,X.fn x=true
 pass:PassesOwn (model X.prog X.w) X.A X.env X.xe
section
variable {xp:XP} {k:Nat} {g:Den.Gt} {pg:Den.Pg} {Φ:Den.Fn}
theorem ck_comp {ct : Den.Ct} {v : Bool} {e : Den.E} {x : Expr} {gs : List Comprehension} {sc : Scope} {pos : Pos} (h : Den.ckE g ct v e (.ListComp x gs sc pos) = true) : ∃ e' j s c t it ifs xs, e = .comp e' j s c /\ gs = [⟨t, it, ifs, 0⟩] /\ Den.tgt j t = some xs /\
    ((!Den.pairI s || j == 2) && Den.blkB ct sc xs && Den.ckI g ct true s it && Den.ckE g ⟨Den.mask ct.N xs ++ xs, sc, ct.mu⟩ false e' x && Den.ckC g ⟨Den.mask ct.N xs ++ xs, sc, ct.mu⟩ c ifs) = true := by
  cases e with
  | comp e' j s c =>
    unfold Den.ckE at h
    split at h
    · rename_i x' t it ifs sc' e1
      obtain ⟨p, e2⟩ := vComp_i e1
      cases e2
      split at h
      · rename_i xs hk
        exact ⟨e', j, s, c, t, it, ifs, xs, rfl, rfl, hk, h⟩
      · cases h
    · cases h
  | _ => exact (Bool.false_ne_true h).elim
theorem comp_expr (x:Expr):(∃ y gs sc pos,x=.ListComp y gs sc pos)\/Den.noComp x=true:=by
 cases x <;> first | exact .inr rfl | exact .inl ⟨_,_,_,_,rfl⟩
theorem arm_asg {ct : Den.Ct} {X : Cx} (hX : XOk xp k g pg Φ X ct) (hloc : ∀ x, Den.locB ct.sc x = true -> Loc X.env.scope x) (hfn : ∀ x, X.fn x = true) {i : Nat} {e : Den.E} {x : Str} {y : Expr} {p pos : Pos} (h : (ct.N[i]? == some x && Den.locB ct.sc x && Den.okN x && (!ct.mu.contains i || Den.freshE e) && Den.ckE g ct false e y) = true) :
    PS X (.Assign [.Name x p] y pos) (tS xp X ct.mu fun ρ => Den.ex pg Φ ρ (.asg i e)) := by
  simp only [Bool.and_eq_true, beq_iff_eq, Bool.or_eq_true, Bool.not_eq_true'] at h
  obtain ⟨⟨⟨⟨h1, h2⟩, h3⟩, h4⟩, h5⟩ := h
  have hN : X.N.Nodup := by rw [hX.nm]; exact hX.nd
  have hi : X.N[i]? = some x := by rw [hX.nm]; exact h1
  have hx := hloc x h2
  have hf : X.fn x = true \/ X.env.scope.names.lookup x = some .local := .inl (hfn x)
  rcases comp_expr y with ⟨z, gs, sc, pos', rfl⟩ | hc
  · obtain ⟨e', j, s, c, t, it, ifs, xs, rfl, rfl, hk, hh⟩ := ck_comp h5
    obtain ⟨B, i1, i2, i3, i4, i5⟩ := arm_comp (pos := pos') (allOk (xp := xp) (k := k) (pg := pg) (Φ := Φ) (sizeOf (Den.E.comp e' j s c))) hX (by simp only [Den.E.comp.sizeOf_spec]; omega) hk hh
    have e1 : (fun ρ => Den.ex pg Φ ρ (.asg i (.comp e' j s c))) = fun ρ => (Den.evI pg Φ ρ s >>= fun ds => Den.noX (Den.compL (elf j (fun ρ => Den.evC pg Φ ρ c) (fun ρ => Den.ev pg Φ ρ e') ρ) ds) >>= fun ys => .ok (.lst ys)) >>= fun d => .ok (.nx (ρ.set i (some d))) := by
      funext ρ
      have := congrFun i5 ρ
      rw [Den.ex_asg]
      rw [this]
    rw [e1]
    exact s_asgC hX.calm (by rw [hX.nm]; exact hX.mu) B hk i1 i2 i3 i4 hN hi hx hf
  · have r := okE hX h5
    have hsw := swap_plain (t := some (.Name x p)) (n := pos.line) (env := X.env) (nice_of h5) hc
    by_cases hm : i ∈ ct.mu
    · have hfr : Den.freshE e = true := by
        rcases h4 with h4 | h4
        · rw [List.contains_iff_mem.mpr hm] at h4; cases h4
        · exact h4
      exact s_asgF hm hN hi hx (r.fresh hfr) hsw hf
    · exact s_asg hm hN hi hx r.val hsw hf
theorem arm_asg' {ct:Den.Ct} {X:Cx} (hX:XOk xp k g pg Φ X ct) (hloc:∀ x,Den.locB ct.sc x=true->Loc X.env.scope x) (hfn:∀ x,X.fn x=true) {i:Nat} {e:Den.E} {st:Stmt} (h:Den.ckAsg g ct i e st=true) :
  PS X st (tS xp X ct.mu fun ρ=>Den.ex pg Φ ρ (.asg i e)):=by
 unfold Den.ckAsg at h
 split at h
 ·rename_i t y e1
  obtain ⟨pos,rfl⟩:=tAsg_i e1
  split at h
  ·rename_i x e2
   obtain ⟨p,rfl⟩:=vName_i e2
   exact arm_asg hX hloc hfn h
  ·cases h
 ·cases h
theorem arm_mt {ct:Den.Ct} {i:Nat} {e:Den.E} {nm:Str} {st:Stmt} (h:Den.ckMt g ct i e nm st=true):∃ x n ap y p1 cp p4,st=.Expr (.Call (.Attribute (.Name x p1) n ap) [y] [] cp) p4/\(ap.endLine==cp.line)=true/\ct.N[i]?=some x/\Den.visB ct.sc x=true/\Den.okN x=true/\i∈ct.mu/\n=nm/\Den.ckE g ct false e y=true:=by
 unfold Den.ckMt at h
 split at h
 ·rename_i c e1
  obtain ⟨pos,rfl⟩:=tExp_i e1
  split at h
  ·rename_i x n ap y e2
   obtain ⟨p1,cp,rfl⟩:=vApp_i e2
   simp only [Bool.and_eq_true,beq_iff_eq] at h
   obtain ⟨⟨⟨⟨⟨⟨h0,h1⟩,h2⟩,h3⟩,h4⟩,h5⟩,h6⟩:=h
   have h0:ap.endLine=cp.line:=h0
   exact ⟨x,n,ap,y,p1,cp,pos,rfl,by simpa using h0,h1,h2,h3,List.contains_iff_mem.mp h4,h5,h6⟩
  ·cases h
 ·cases h
theorem tRaise_i {x:Stmt} {y:Expr} (h:Den.tRaise x=some y):∃ p,x=.Raise (some y) none p:=by
 unfold Den.tRaise at h
 split at h
 ·cases h;exact ⟨_,rfl⟩
 ·cases h
theorem tTry_i {x a:Stmt} {t y:Expr} {n:Str} (h:Den.tTry x=some (a,t,n,y)):∃ rp hp p,x=.Try [a] [.ExceptHandler (some t) (some n) [.Return (some y) rp] hp] [] [] p:=by
 unfold Den.tTry at h
 split at h
 ·cases h;exact ⟨_,_,_,rfl⟩
 ·cases h
theorem arm_raise {ct:Den.Ct} {X:Cx} (hX:XOk xp k g pg Φ X ct) (hS:SOk xp g pg X ct) {c:Nat} {st:Stmt} (h:Den.ckRaise g ct c st=true):PS X st (tS xp X ct.mu fun ρ=>Den.ex pg Φ ρ (.raise c)):=by
 unfold Den.ckRaise at h
 split at h
 ·rename_i y e1
  obtain ⟨pos,rfl⟩:=tRaise_i e1
  split at h
  ·rename_i x a e2
   obtain ⟨np,cp,rfl⟩:=vCall_i e2
   split at h
   ·rename_i t e3
    obtain ⟨j,p,rfl⟩:=vConst_i e3
    simp only [Bool.and_eq_true,beq_iff_eq] at h
    obtain ⟨cl,rfl,hcl⟩:=hS.cls.ex
    obtain ⟨C,O⟩:=hcl c x h.1.1
    exact s_raise O hX.calm (hX.glo h.1.2) (okN_d h.2).1
   ·cases h
  ·cases h
 ·cases h
theorem vTry_i {s:Den.S} {hs:Den.Hs} {i:Nat} {e:Den.E} {k j:Nat} {y:Den.E} (h:Den.vTry s hs=some (i,e,k,j,y)):s=.asg i e/\hs=.cons k (some j) (.cons (.ret y) .nil) .nil:=by
 unfold Den.vTry at h
 split at h
 ·cases h;exact ⟨rfl,rfl⟩
 ·cases h
theorem vHx_i {h:Den.E} {k1 j1 k2 j2:Nat} (q:Den.vHx h=some (k1,j1,k2,j2)):h=.idx (.lst (.cons (.tup .nil) (.cons (.lit .non) .nil))) (.prim .int (.and (.prim (.inst (.cls k1)) (.var j1)) (.prim (.inst (.cls k2)) (.var j2)))):=by
 unfold Den.vHx at q
 split at q
 ·cases q;rfl
 ·cases q
theorem hx_val {k j k1 k2:Nat} (h1:(pg.up k).contains k1=true) (h2:(pg.up k).contains k2=true) {ρ:Rho} (hj:j < ρ.length) :
  Den.exH pg Φ ρ k (.cons k (some j) (.cons (.ret (.idx (.lst (.cons (.tup .nil) (.cons (.lit .non) .nil))) (.prim .int (.and (.prim (.inst (.cls k1)) (.var j)) (.prim (.inst (.cls k2)) (.var j)))))) .nil) .nil)=.ok (.rt .non):=by
 have hv:Den.ev pg Φ (ρ.set j (some (.exn k))) (.var j)=.ok (.exn k):=Den.ev_var j (set_get hj)
 have i1:Den.primD pg.up (.inst (.cls k1)) (.exn k)=.ok (.bl true):=by show (Den.R.ok ((pg.up k).contains k1)>>=fun b=>Den.R.ok (Den.D.bl b))=_;rw [h1];rfl
 have i2:Den.primD pg.up (.inst (.cls k2)) (.exn k)=.ok (.bl true):=by show (Den.R.ok ((pg.up k).contains k2)>>=fun b=>Den.R.ok (Den.D.bl b))=_;rw [h2];rfl
 simp only [Den.exH,if_true,Den.exB_cons,Den.ex_ret,Den.ev_idx,Den.ev_lst,Den.evA_cons,Den.evA_nil,Den.ev_tup,Den.ev_lit,Den.ev_prim,Den.ev_and,hv,i1,i2,Den.R.ok_bind,Den.asBl_bl,Den.andR_t]
 rfl
theorem ckIs_k {ct:Den.Ct} {n:Str} {k:Nat} {z:Expr} (h:Den.ckIs g ct n k z=true):k=1000\/k < g.cls.length:=by
 unfold Den.ckIs at h
 split at h
 ·split at h
  ·simp only [Bool.and_eq_true,Bool.or_eq_true,beq_iff_eq,decide_eq_true_eq] at h
   exact h.2
  ·cases h
 ·cases h
theorem ckIx_k {ct:Den.Ct} {n:Str} {k k':Nat} {z:Expr} (h:Den.ckIx g ct n k k' z=true):(k=1000\/k < g.cls.length)/\(k'=1000\/k' < g.cls.length):=by
 unfold Den.ckIx at h
 split at h
 ·simp only [Bool.and_eq_true] at h
  have h3:=h.2
  split at h3
  ·simp only [Bool.and_eq_true] at h3
   exact ⟨ckIs_k h3.1,ckIs_k h3.2⟩
  ·cases h3
 ·cases h
theorem arm_try {ct:Den.Ct} {X:Cx} (hX:XOk xp k g pg Φ X ct) (hS:SOk xp g pg X ct) {s:Den.S} {hs:Den.Hs} {st:Stmt} (h:Den.ckTry g ct s hs st=true):PS X st (tS xp X ct.mu fun ρ=>Den.ex pg Φ ρ (.try_ s hs)):=by
 unfold Den.ckTry at h
 split at h
 ·rename_i i e k' j hx e1
  obtain ⟨rfl,rfl⟩:=vTry_i e1
  split at h
  ·rename_i a t n y k1 j1 k2 j2 e2 e3
   obtain ⟨rp,hp,pos,rfl⟩:=tTry_i e2
   obtain rfl:=vHx_i e3
   simp only [Bool.and_eq_true,beq_iff_eq] at h
   obtain ⟨⟨⟨⟨⟨⟨⟨⟨⟨h1,h2⟩,h3⟩,h4⟩,h5⟩,h6⟩,h7⟩,rfl⟩,rfl⟩,h10⟩:=h
   split at h2
   ·rename_i x e4
    obtain ⟨np,rfl⟩:=vName_i e4
    simp only [Bool.and_eq_true,beq_iff_eq] at h2
    split at h10
    ·rename_i u v e5
     simp only [Bool.and_eq_true] at h10
     obtain ⟨cl,rfl,hcl⟩:=hS.cls.ex
     obtain ⟨C,O⟩:=hcl k' x h2.1.1
     obtain ⟨m1,m2⟩:=ckIx_k h10.2
     have hk1:=hS.cls.top k' h7 k1 m1
     have hk2:=hS.cls.top k' h7 k2 m2
     have hnl:X.env.scope.names.lookup n=some .local:=hX.lc n h4
     refine s_try (k:=k') hS.stk (fun pn E=>?_) O (hX.glo h2.1.2) (okN_d h2.2).1 (by rw [hX.nm];exact hX.nd) (by rw [hX.nm];exact h3) hnl (fun ρ hj=>hx_val hk1 hk2 hj) fun ea oe pn hc hp'=>?_
     ·exact arm_asg' (X:=inT X pn E) ⟨hX.tb,hX.room,hX.units,hX.calm,hX.nm,hX.nd,hX.mu,hX.lc,hX.cf,hX.gl⟩ hS.loc hS.fn h1
     ·refine pe_hand (X:=inH X (.ref ea) pn) (g:=g) (ct:=ct) O ⟨fun x q=>hX.glo q,fun x q hm=>hX.blt q hm,hS.cls.ve,hcl⟩ hp' hc (by rw [<- hX.nm] at h3;exact h3) (.inl hnl) h5 hk1 hk2 h10.1 h10.2 e5
    ·cases h10
   ·cases h2
  ·cases h
 ·cases h
theorem ckT_ok {ct:Den.Ct}:∀ {ts:List Nat} {xs:List Str},Den.ckT ct ts xs=true->ts.length=xs.length/\(∀ t∈ts,t∉ct.mu)/\∀ (j i:Nat) y,ts[j]?=some i->xs[j]?=some y->ct.N[i]?=some y/\Den.locB ct.sc y=true
 | [],[],_=>⟨rfl,by simp,fun j i y e=>by simp at e⟩
 | [],_::_,h=>by unfold Den.ckT at h;cases h
 | _::_,[],h=>by unfold Den.ckT at h;cases h
 | t::ts,x::xs,h=>by
  unfold Den.ckT at h
  simp only [Bool.and_eq_true,beq_iff_eq,Bool.not_eq_true'] at h
  obtain ⟨⟨⟨⟨h1,h2⟩,h3⟩,h4⟩,h5⟩:=h
  obtain ⟨r1,r2,r3⟩:=ckT_ok h5
  refine ⟨by simp [r1],fun z hz=>?_,fun j i y e1 e2=>?_⟩
  ·rcases List.mem_cons.mp hz with rfl | hz
   ·intro w;rw [List.contains_iff_mem.mpr w] at h4;cases h4
   ·exact r2 z hz
  ·cases j with
   | zero=>simp at e1 e2;subst e1 e2;exact ⟨h1,h2⟩
   | succ j=>exact r3 j i y (by simpa using e1) (by simpa using e2)
variable (xp k g pg Φ) in
structure AllS (n:Nat):Prop where
 s:∀ (s:Den.S) (st:Stmt) (ct:Den.Ct) (X:Cx),sizeOf s < n->XOk xp k g pg Φ X ct->SOk xp g pg X ct->Den.ckS g ct s st=true->PS X st (tS xp X ct.mu fun ρ=>Den.ex pg Φ ρ s)
 b:∀ (b:Den.B) (st:List Stmt) (ct:Den.Ct) (X:Cx),sizeOf b < n->XOk xp k g pg Φ X ct->SOk xp g pg X ct->Den.ckB g ct b st=true->PSs X st (tS xp X ct.mu fun ρ=>Den.exB pg Φ ρ b)
variable {n:Nat}
theorem stepS (ih : AllS xp k g pg Φ n) (s : Den.S) (st : Stmt) (ct : Den.Ct) (X : Cx) (hs : sizeOf s < n + 1) (hX : XOk xp k g pg Φ X ct) (hS : SOk xp g pg X ct) (h : Den.ckS g ct s st = true) : PS X st (tS xp X ct.mu fun ρ => Den.ex pg Φ ρ s) := by
  cases s with
  | asg i e => exact arm_asg' hX hS.loc hS.fn h
  | app i e =>
    obtain ⟨x, n, ap, y, p1, cp, p4, rfl, h1, h2, h3, h4, h5, h6, h7⟩ := arm_mt (nm := "append") h
    obtain ⟨d1, d2, d3⟩ := okN_d h4
    exact s_app h5 h6 (by rw [hX.nm]; exact h2) (hX.vis h3) d1 d2 h1 (okE hX h7).val (star_one (nice_of h7))
  | ext i e =>
    obtain ⟨x, n, ap, y, p1, cp, p4, rfl, h1, h2, h3, h4, h5, h6, h7⟩ := arm_mt (nm := "extend") h
    obtain ⟨d1, d2, d3⟩ := okN_d h4
    exact s_ext h5 h6 (by rw [hX.nm]; exact h2) (hX.vis h3) d1 d2 h1 (okE hX h7).val (star_one (nice_of h7))
  | raise c => exact arm_raise hX hS h
  | try_ s hs => exact arm_try hX hS h
  | ret e =>
    unfold Den.ckS at h
    split at h
    · rename_i y e1
      obtain ⟨pos, rfl⟩ := tRet_i e1
      rw [Bool.or_eq_true] at h
      rcases h with h | h
      · exact s_ret (okE hX h).val
      · split at h
        · rename_i i x p1
          simp only [Bool.and_eq_true, beq_iff_eq] at h
          obtain ⟨d1, d2, d3⟩ := okN_d h.2
          exact s_retV (by rw [hX.nm]; exact h.1.1) (hX.vis h.1.2) d1 d2
        · cases h
    · cases h
  | iff c a b =>
    unfold Den.ckS at h
    split at h
    · rename_i t x y e1
      obtain ⟨pos, rfl⟩ := tIf_i e1
      simp only [Bool.and_eq_true] at h
      have ra := ih.b a x ct X (by simp at hs; omega) hX hS h.1.2
      have rb := ih.b b y ct X (by simp at hs; omega) hX hS h.2
      exact s_iff (okE hX h.1.1).pt ra rb
    · cases h
  | for_ j ts s b =>
    unfold Den.ckS at h
    split at h
    · rename_i t it x e1
      obtain ⟨pos, rfl⟩ := tFor_i e1
      split at h
      · rename_i xs hk
        simp only [Bool.and_eq_true] at h
        obtain ⟨⟨⟨⟨h0, h1⟩, _⟩, h3⟩, h4⟩ := h
        obtain ⟨c1, c2, c3⟩ := ckT_ok h1
        have hN : X.N.Nodup := by rw [hX.nm]; exact hX.nd
        have hpair : Den.pairI s = true -> ∃ elts j p, t = .Tuple elts j p := fun hp => by
          rw [hp] at h0
          have hj : j = 2 := by simpa using h0
          subst hj
          cases t with
          | Tuple elts j p => exact ⟨elts, j, p, rfl⟩
          | _ => simp only [Den.tgt] at hk; cases hk
        obtain ⟨i1, i2⟩ := (allOk (xp := xp) (k := k) (g := g) (pg := pg) (Φ := Φ) (sizeOf s + 1)).i s it ct false X t (Nat.lt_succ_self _) hX h3 hpair
        have hg := pg_target hX.calm hN hk c1 fun j i y e1 e2 => by
          obtain ⟨z1, z2⟩ := c3 j i y e1 e2
          exact ⟨by rw [hX.nm]; exact z1, hS.loc y z2, .inl (hS.fn y)⟩
        have rb := ih.b b x ct X (by simp at hs; omega) hX hS h4
        exact s_for hS.pass hX.calm c2 i1 hg rb (set_plain i2)
      · cases h
    · cases h
  | expr e =>
    unfold Den.ckS at h
    split at h
    · rename_i y e1
      obtain ⟨pos, rfl⟩ := tExp_i e1
      simp only [Bool.and_eq_true] at h
      exact s_expr (okE hX h.2).view (swap_plain (nice_of h.2) h.1)
    · cases h
  | pass =>
    obtain ⟨p, rfl⟩ := tPass_i (show (Den.tPbc st == 0) = true from h)
    exact s_pass
  | brk =>
    obtain ⟨p, rfl⟩ := tBrk_i (show (Den.tPbc st == 1) = true from h)
    exact s_break
  | cont =>
    obtain ⟨p, rfl⟩ := tCont_i (show (Den.tPbc st == 2) = true from h)
    exact s_cont
  | _ => exact (Bool.false_ne_true h).elim
theorem stepB (ih:AllS xp k g pg Φ n) (b:Den.B) (st:List Stmt) (ct:Den.Ct) (X:Cx) (hs:sizeOf b < n+1) (hX:XOk xp k g pg Φ X ct) (hS:SOk xp g pg X ct) (h:Den.ckB g ct b st=true):PSs X st (tS xp X ct.mu fun ρ=>Den.exB pg Φ ρ b):=by
 unfold Den.ckB at h
 split at h
 ·exact s_snil
 ·rename_i s b x xs
  simp only [Bool.and_eq_true] at h
  have r1:=ih.s s x ct X (by simp at hs;omega) hX hS h.1
  have r2:=ih.b b xs ct X (by simp at hs;omega) hX hS h.2
  exact s_scons r1 r2
 ·cases h
theorem allS:∀ n,AllS xp k g pg Φ n
 | 0=>⟨fun _ _ _ _ h=>by omega,fun _ _ _ _ h=>by omega⟩
 | n+1=>⟨stepS (allS n),stepB (allS n)⟩
theorem okB {b:Den.B} {st:List Stmt} {ct:Den.Ct} {X:Cx} (hX:XOk xp k g pg Φ X ct) (hS:SOk xp g pg X ct) (h:Den.ckB g ct b st=true):PSs X st (tS xp X ct.mu fun ρ=>Den.exB pg Φ ρ b):=(allS (sizeOf b+1)).b b st ct X (Nat.lt_succ_self _) hX hS h
end
end Sim
end
section
namespace Sim
open PySem PySem.Spec PyProof.Rows L2
theorem st_get {fd:Den.Fd} {ds:List D} {i:Nat} {d:D} (h:(Den.start fd ds)[i]?=some (some d)):ds[i]?=some d/\i < ds.length:=by
 unfold Den.start at h
 by_cases hi:i < ds.length
 ·rw [List.getElem?_append_left (by simpa using hi),List.getElem?_map] at h
  refine ⟨?_,hi⟩
  cases e:ds[i]? with
  | none=>rw [e] at h;cases h
  | some a=>rw [e] at h;cases h;rfl
 ·rw [List.getElem?_append_right (by simpa using hi),List.getElem?_replicate] at h
  split at h <;> cases h
theorem st_put {N:List Str} {vs:List V} {i:Nat} {v:V} (h:vs[i]?=some v):(L2.start N vs)[i]?=some (some v):=by
 have hi:=(List.getElem?_eq_some_iff.mp h).1
 unfold L2.start
 rw [List.getElem?_append_left (by simpa using hi),List.getElem?_map,h];rfl
theorem sm_start {K:W.Frag} {mu:List Nat} {G H:Hp} {fd:Den.Fd} {N:List Str} {ds:List D} {vs:List V} (hs:Same G H) (r:Reps K G ds vs) (hn:N.length=fd.np+fd.nl) (hl:ds.length=fd.np) (hm:∀ i∈mu,fd.np<=i) :
  Sb K mu G H G H (Den.start fd ds) (L2.start N vs):=by
 have no:∀ {i:Nat} {d:D},(Den.start fd ds)[i]?=some (some d)->i∈mu->False:=fun h q=>by
  have:=(st_get h).2
  have:=hm _ q
  omega
 refine ⟨⟨?_,hs,fun i d h _=>?_,fun i d h q=>(no h q).elim,fun i d h q=>(no h q).elim,fun i j d e a b h _ q=>(no h q).elim⟩,Ext.refl hs,fun i d a h q=>(no h q).elim⟩
 ·unfold Den.start L2.start
  rw [List.length_append,List.length_append,List.length_map,List.length_map,List.length_replicate,List.length_replicate,<- r.length]
  omega
 ·obtain ⟨v,h1,h2⟩:=r.get (st_get h).1
  exact ⟨v,st_put h1,h2⟩
def DefAt (K:W.Frag) (mg:Str->Option Value) (g:Den.Gt) (fds:List Den.Fd) (f:Nat) (x:Str):Prop :=
 ∃ fd N st fa fdat,fds[f]?=some fd/\Den.ckF g N fd st=true/\mg x=some (.ref fa)/\L2.Fun K x x st fa fdat/\Binds K fdat ((defArgs st).args.map (·.arg)) []
section
variable {P:Program} {w:World} {K:W.Frag} {mg:Str->Option Value} {base:Heap} {xp:XP} {g:Den.Gt} {pg:Den.Pg} {fds:List Den.Fd}
theorem ckF_inv {N:List Str} {fd:Den.Fd} {st:Stmt} (h:Den.ckF g N fd st=true):((defArgs st).args.map (·.arg)).length=fd.np/\FnScope N ((defArgs st).args.map (·.arg)) (defScope st)/\N.length=fd.np+fd.nl/\(∀ i∈Den.muB fd.body,fd.np<=i/\i < N.length) /\
  Den.ckB g ⟨N,defScope st,Den.muB fd.body⟩ fd.body (defBody st)=true:=by
 unfold Den.ckF at h
 split at h
 ·rename_i name args body sc bind pos
  simp only [Bool.and_eq_true,beq_iff_eq,Bool.not_eq_true',List.all_eq_true,bne_iff_ne,ne_eq,decide_eq_true_eq] at h
  obtain ⟨⟨⟨⟨⟨⟨⟨⟨⟨⟨⟨⟨⟨⟨⟨h1,h2⟩,h3⟩,h4⟩,h5⟩,h6⟩,_⟩,_⟩,_⟩,_⟩,_⟩,_⟩,h7⟩,h8⟩,h9⟩,h10⟩:=h
  have hl:(args.args.map (·.arg)).length=fd.np:=by rw [h6,List.length_take];omega
  refine ⟨hl,⟨h1,h2,h3,h4,?_,fun x hx=>?_,h8⟩,h5,h9,h10⟩
  ·show N.take (args.args.map (·.arg)).length=args.args.map (·.arg)
   rw [hl,h6]
  ·have hx:x∈args.args.map (·.arg):=hx
   rw [h6] at hx
   have:=h7 x hx
   unfold Den.locB at this
   have this:sc.names.lookup x=some .local\/sc.names.lookup x=some .cell:=by simpa using this
   exact this
 ·cases h
theorem fn_step (hcl : ClsOk xp g pg mg base) {n f : Nat} (T : Tb P w K mg base xp n g pg (Den.run pg fds n)) {x : Str} {fd : Den.Fd} {N : List Str} {st : Stmt} {fa : Addr} {fdat : FuncData} (e : fds[f]? = some fd) (ck : Den.ckF g N fd st = true) (F : L2.Fun K x x st fa fdat) :
    FnOk P w K mg base (CXd P w xp) (n + 1) fa fdat ((defArgs st).args.map (·.arg)) (spF K (Den.run pg fds (n + 1) f) ((defArgs st).args.map (·.arg)).length) := by
  obtain ⟨hl, S, hN, hmu, hB⟩ := ckF_inv ck
  have hrun : ∀ ds, Den.run pg fds (n + 1) f ds = Den.runF pg (Den.run pg fds n) fd ds := fun ds => by rw [Den.run_succ, e]
  obtain ⟨oc, od, kV, doc, pm, an, cdv, ct, osl, rfl, lk, hcd⟩ := F.ex
  refine fn_of lk hcd S (fun vs H Q E h => h.1) fun A outer s H vs Q E hr ⟨hv, G, ds, hs, r, hw⟩ => ?_
  have hds : ds.length = fd.np := by rw [r.length, hv, hl]
  rw [hrun] at hw
  unfold Den.runF at hw
  rw [if_pos hds] at hw
  refine ⟨tS xp (cxOf (CXd P w xp) P w K mg base N x (defScope st) fa cdv A outer s H E) (Den.muB fd.body) fun ρ => Den.exB pg (Den.run pg fds n) ρ fd.body, ?_, ?_⟩
  · refine okB (ct := ⟨N, defScope st, Den.muB fd.body⟩) (k := n) (g := g) (Φ := Den.run pg fds n) ⟨T, hr, hr.units, rfl, rfl, S.nd, fun i hi => (hmu i hi).2, fun x h => h, fun x h => h, fun x h => h⟩ ⟨hcl, ⟨rfl, rfl⟩, fun x h => ?_, fun _ => rfl, PassesOwn.leaving⟩ hB
    unfold Den.locB at h
    have h : (defScope st).names.lookup x = some .local \/ (defScope st).names.lookup x = some .cell := by simpa using h
    exact h
  · refine ⟨G, H, G, Den.start fd ds, sm_start hs r hN hds fun i hi => (hmu i hi).1, ?_⟩
    show wpR (Den.exB pg (Den.run pg fds n) (Den.start fd ds) fd.body) _ _
    generalize Den.exB pg (Den.run pg fds n) (Den.start fd ds) fd.body = rr at hw ⊢
    have hR : ∀ c : Nat, (∀ H', Same H H' -> E (.int c 0) none H') -> RaiseOk xp (cxOf (CXd P w xp) P w K mg base N x (defScope st) fa cdv A outer s H E) c H := fun c hE pins σ H' s' e l I sm nw hx => by
      obtain ⟨cl, rfl, _⟩ := hcl.ex
      refine Xn.leave (base := base) (outer := outer) I.ok.frames I.stack rfl hx fun h1 l1 hx1 hn1 hk hs1 => ?_
      have I2 : Inv _ pins σ H' { s' with heap := h1 } := noted (t' := s'.toks) I nw hk hs1
      refine ⟨c, H', l1, I.os, I.bare, I2.base, I2.hok, sm, fun a ha => ?_, hx1, hE H' sm⟩
      have n2 : NewA (cxOf (CXd P w (Xn.XpC cl)) P w K mg base N x (defScope st) fa cdv A outer s H E) pins H' a := (hn1 a ha).elim (nw a) fun z => .of I z (ok_none I.hok z)
      exact ⟨n2.2.1.elim (fun z => nomatch z) id, n2.1⟩
    cases rr with
    | bad => exact hw.elim
    | exc c => exact hR c hw
    | ok fl =>
      cases fl with
      | nx ρ => exact fun σ G' H' sb => hw .non G' H' sb.ext rfl
      | bk ρ => exact hw.elim
      | ct ρ => exact hw.elim
      | rt d => exact fun v G' H' ext rep => hw v G' H' ext rep
theorem tb_step (hcl:ClsOk xp g pg mg base) {n:Nat} (T:Tb P w K mg base xp n g pg (Den.run pg fds n)) (hd:∀ f x,g.fns[f]?=some x->DefAt K mg g fds f x):Tb P w K mg base xp (n+1) g pg (Den.run pg fds (n+1)):=by
 refine ⟨fun f x hx=>?_,T.blt,T.glb⟩
 obtain ⟨fd,N,st,fa,fdat,e,ck,hm,F,hb⟩:=hd f x hx
 obtain ⟨hl,_⟩:=ckF_inv ck
 exact ⟨fa,fdat,_,hm,F.kp,hb,fn_step hcl T e ck F,fun ds hds=>by rw [Den.run_succ,e];unfold Den.runF;exact if_neg (by rw [<- hl];exact hds)⟩
theorem tb_all (hcl:ClsOk xp g pg mg base) (hd:∀ f x,g.fns[f]?=some x->DefAt K mg g fds f x) (hb:∀ x:Str,x∈BL->mg x=none) (hg:∀ (j:Nat) (x:Str) (d:D),g.glb[j]?=some x->pg.cs[j]?=some d->∃ v u,mg x=some u/\RelV v u/\∀ G,Rep K G d v) :
  ∀ n,Tb P w K mg base xp n g pg (Den.run pg fds n)
 | 0=>⟨fun f x hx=>by
   obtain ⟨fd,N,st,fa,fdat,e,ck,hm,F,hb⟩:=hd f x hx
   exact ⟨fa,fdat,_,hm,F.kp,hb,⟨fun vs H Q E h=>h.1,fun A outer s H args us vs Q E _ _ _ _ ⟨_,_,_,_,_,h⟩=>h.elim⟩,fun _ _=>rfl⟩,hb,hg⟩
 | n+1=>tb_step hcl (tb_all hcl hd hb hg n) hd
end
def AllI (Q:Nat->Str->Prop):Nat->List Str->Prop
 | _,[]=>True
 | n,x::xs=>Q n x/\AllI Q (n+1) xs
theorem AllI.get {Q:Nat->Str->Prop}:∀ {xs:List Str} {n f:Nat} {x:Str},AllI Q n xs->xs[f]?=some x->Q (n+f) x
 | [],_,_,_,_,h=>by simp at h
 | y::xs,n,0,x,q,h=>by simp at h;subst h;exact q.1
 | y::xs,n,f+1,x,q,h=>by
  have:=AllI.get (n:=n+1) (f:=f) q.2 (by simpa using h)
  rwa [Nat.add_right_comm,Nat.add_assoc] at this
theorem ex1 {us:List Value} (h:us.length=1):∃ a,us=[a]:=List.length_eq_one_iff.mp h
theorem ex2 {us:List Value} (h:us.length=2):∃ a b,us=[a,b]:=by
 match us,h with
 | [a,b],_=>exact ⟨a,b,rfl⟩
theorem ex3 {us:List Value} (h:us.length=3):∃ a b c,us=[a,b,c]:=by
 match us,h with
 | [a,b,c],_=>exact ⟨a,b,c,rfl⟩
def AllB (K:W.Frag):List Str->Prop
 | []=>True
 | x::xs=>W.nsIn K mainGlobals x=some none/\AllB K xs
theorem AllB.get {K:W.Frag} {h:Heap} {mg:Str->Option Value} (X:K.In h) (G:h.Ns mainGlobals mg):∀ {xs:List Str},AllB K xs->∀ x∈xs,mg x=none
 | [],_,x,hx=>by simp at hx
 | y::ys,q,x,hx=>by
  rcases List.mem_cons.mp hx with rfl | hx
  ·exact PySem.W.mg_none_of X G q.1
  ·exact AllB.get X G q.2 x hx
def DefK (K:W.Frag) (x:Str) (st:Stmt):Prop :=
 ∃ (f:Addr) (oc:Value) (od:Option Addr) (kV doc pm:Value) (an:Option Addr) (cdv ct:Value) (osl:Array (Option Value)),W.nsIn K mainGlobals x=some (some (.ref f)) /\
  K.lookup f=some ⟨oc,od,.func (W.fnOf x x (defArgs st) (defBody st) (defScope st) .none kV doc pm an cdv ct),osl⟩/\W.codeIn K cdv x=true/\W.keepIn K (.ref f)=true
theorem defK_mk {K:W.Frag} {x:Str} {st:Stmt} {f:Addr} {oc:Value} {od:Option Addr} {kV doc pm:Value} {an:Option Addr} {cdv ct:Value} {osl:Array (Option Value)} (a:W.nsIn K mainGlobals x=some (some (.ref f)))
  (l:K.lookup f=some ⟨oc,od,.func (W.fnOf x x (defArgs st) (defBody st) (defScope st) .none kV doc pm an cdv ct),osl⟩) (c:W.codeIn K cdv x=true) (k:W.keepIn K (.ref f)=true):DefK K x st:=⟨f,oc,od,kV,doc,pm,an,cdv,ct,osl,a,l,c,k⟩
theorem defAt_of {K:W.Frag} {h:Heap} {mg:Str->Option Value} {g:Den.Gt} {fds:List Den.Fd} {j:Nat} {x:Str} {st:Stmt} {fd:Den.Fd} {N:List Str} (X:K.In h) (G:h.Ns mainGlobals mg) (d:DefK K x st) (hf:fds[j]?=some fd) (ck:Den.ckF g N fd st=true)
  (hb:∀ (kV doc pm:Value) (an:Option Addr) (cdv ct:Value) (us:List Value),us.length=((defArgs st).args.map (·.arg)).length->bindArgs (W.fnOf x x (defArgs st) (defBody st) (defScope st) .none kV doc pm an cdv ct) ⟨us,[]⟩=pure (((defArgs st).args.map (·.arg)).zip us)):DefAt K mg g fds j x:=by
 obtain ⟨f,oc,od,kV,doc,pm,an,cdv,ct,osl,a,l,c,k⟩:=d
 have F:=fun_mk l c k
 exact ⟨fd,N,st,f,_,hf,ck,PySem.W.mg_of X G a,F,F.binds hb⟩
theorem glK_mk {K:W.Frag} {x:Str} {u:Value} {i:Int} {t:Tok} (g:W.nsIn K mainGlobals x=some (some u)) (e:u=.int i t):∃ u,W.nsIn K mainGlobals x=some (some u)/\∃ t,u=.int i t:=⟨u,g,t,e⟩
theorem reps_ints0 {K:W.Frag} {G:Hp}:∀ ns:List Int,Reps K G (ns.map Den.D.int) (ns.map V.int)
 | []=>rfl
 | n::ns=>⟨.int n,ns.map V.int,rfl,rfl,reps_ints0 ns⟩
theorem sp_of {K:W.Frag} {H:Hp} {a:Addr} {ns:List Int} {φ:List D->Rr D} (hS:SqL K H a (ns.map V.int)) (ht:φ [.lst (ns.map .int)]=.ok (.bl true)):spF K φ 1 [.ref a] H (fun v _=>v=.bl true) fun _ _ _=>False:=by
 refine ⟨rfl,H,[.lst (ns.map .int)],Same.refl H,⟨.ref a,[],rfl,⟨a,_,rfl,hS,reps_ints0 ns⟩,rfl⟩,?_⟩
 rw [ht]
 exact fun v G' H' _ r=>r
theorem cx0 {P:Program} {w:World} {xp:XP} {outer:List Env} {H:Hp} {s:Shared} {e:Value} {s':Shared}:CXd P w xp outer H s (fun _ _ _=>False) e s'->False:=fun ⟨_,_,_,_,_,_,_,_,_,_,h⟩=>h
def clOf (K:W.Frag) (g:Den.Gt) (c:Nat):Option Addr:=match g.cls[c]? with
 | some x=>(match W.nsIn K mainGlobals x with | some (some (.ref C))=>some C | _=>none)
 | none=>none
theorem clOf_eq {K:W.Frag} {g:Den.Gt} {c:Nat} {x:Str} {C:Addr} (h:g.cls[c]?=some x) (e:W.nsIn K mainGlobals x=some (some (.ref C))):clOf K g c=some C:=by
 unfold clOf
 rw [h]
 dsimp only
 rw [e]
def ClK (K:W.Frag) (x:Str) (C:Addr) (bm:List Value):Prop :=
 ∃ (N:Addr) (nm q:Str) (bs:List Value) (hdct:Bool) (sn:List Str) (sub:List Value) (ab:Bool) (col:Option Bool) (dd:Option Addr) (k0 k1 k2 k3 k5:Option Value),W.nsIn K mainGlobals x=some (some (.ref C)) /\
  K.lookup C=some (excClassObj nm q C N bs bm hdct sn sub ab col dd k0 k1 k2 k3 k5 "ValueError.__new__")/\PySem.W.nsOkIn K N=true/\W.nsIn K N "__init__"=some none/\PySem.W.tailIn K bmV bm=true
theorem clK2_mk {K:W.Frag} {x y:Str} {C D:Addr} {bm:List Value} {N:Addr} {nm q:Str} {bs:List Value} {hdct:Bool} {sn:List Str} {sub:List Value} {ab:Bool} {col:Option Bool} {dd:Option Addr} {k0 k1 k2 k3 k5:Option Value}
  {bm':List Value} {N':Addr} {nm' q':Str} {bs':List Value} {hdct':Bool} {sn':List Str} {sub':List Value} {ab':Bool} {col':Option Bool} {dd':Option Addr} {k0' k1' k2' k3' k5':Option Value}
  (a:W.nsIn K mainGlobals x=some (some (.ref C))) (l:K.lookup C=some (excClassObj nm q C N bs bm hdct sn sub ab col dd k0 k1 k2 k3 k5 "ValueError.__new__")) (n:PySem.W.nsOkIn K N=true) (i:W.nsIn K N "__init__"=some none) (t:PySem.W.tailIn K bmV bm=true)
  (a':W.nsIn K mainGlobals y=some (some (.ref D))) (l':K.lookup D=some (excClassObj nm' q' D N' bs' bm' hdct' sn' sub' ab' col' dd' k0' k1' k2' k3' k5' "ValueError.__new__")) (n':PySem.W.nsOkIn K N'=true) (i':W.nsIn K N' "__init__"=some none) (t':PySem.W.tailIn K bmV bm'=true) (m:bm'.contains (.ref C)=true) :
  ∃ C bm D bm2,ClK K x C bm/\ClK K y D bm2/\bm2.contains (.ref C)=true :=
 ⟨C,bm,D,bm',⟨N,nm,q,bs,hdct,sn,sub,ab,col,dd,k0,k1,k2,k3,k5,a,l,n,i,t⟩,⟨N',nm',q',bs',hdct',sn',sub',ab',col',dd',k0',k1',k2',k3',k5',a',l',n',i',t'⟩,m⟩
theorem ownX_of {K:W.Frag} {h:Heap} {mg:Str->Option Value} {g:Den.Gt} {up:Nat->List Nat} {c:Nat} {x:Str} {C:Addr} {bm:List Value} (X:K.In h) (G:h.Ns mainGlobals mg) (hg:g.cls[c]?=some x) (q:ClK K x C bm)
  (hu:∀ k D,k≠c->(up c).contains k=true->clOf K g k=some D->bm.contains (.ref D)=true):OwnX mg h (clOf K g) up c x C:=by
 obtain ⟨N,nm,q,bs,hdct,sn,sub,ab,col,dd,k0,k1,k2,k3,k5,a,l,n,i,t⟩:=q
 exact ⟨clOf_eq hg a,PySem.W.mg_of X G a,_,_,_,_,bm,N,nm,q,bs,hdct,sn,sub,ab,col,dd,k0,k1,k2,k3,k5,_,F.excBase_ValueError,rfl,X _ _ l,.of_isNs (PySem.W.isNs_of_in X n),PySem.W.nsMap_none_of_in X n i,PySem.W.tail_of_in X t,hu⟩
theorem cls2 {K : W.Frag} {h : Heap} {mg : Str -> Option Value} {g : Den.Gt} {pg : Den.Pg} {x y : Str} {C D : Addr} {bm bm' : List Value} (X : K.In h) (G : h.Ns mainGlobals mg) (hg : g.cls = [x, y]) (hv : W.nsIn K mainGlobals "ValueError" = some none)
    (q : ClK K x C bm) (q' : ClK K y D bm') (hm : bm'.contains (.ref C) = true) (u0 : pg.up 0 = [0, 1000]) (u1 : pg.up 1 = [1, 0, 1000]) : ClsOk (Xn.XpC (clOf K g)) g pg mg h := by
  have c0 : clOf K g 0 = some C := by obtain ⟨_, _, _, _, _, _, _, _, _, _, _, _, _, _, _, a, _⟩ := q; exact clOf_eq (by rw [hg]; rfl) a
  have cb : clOf K g 1000 = none := by unfold clOf; rw [hg]; rfl
  refine ⟨⟨_, rfl, fun c z e => ?_⟩, fun c e k hk => ?_, PySem.W.mg_none_of X G hv⟩
  · match c, e with
    | 0, e =>
      rw [hg] at e; cases e
      refine ⟨C, ownX_of X G (by rw [hg]; rfl) q fun k E h1 h2 h3 => ?_⟩
      rw [u0] at h2
      simp at h2
      rcases h2 with rfl | rfl
      · exact absurd rfl h1
      · rw [cb] at h3; cases h3
    | 1, e =>
      rw [hg] at e; cases e
      refine ⟨D, ownX_of X G (by rw [hg]; rfl) q' fun k E h1 h2 h3 => ?_⟩
      rw [u1] at h2
      simp at h2
      rcases h2 with rfl | rfl | rfl
      · exact absurd rfl h1
      · rw [c0] at h3; cases h3; exact hm
      · rw [cb] at h3; cases h3
    | n + 2, e => rw [hg] at e; cases e
  · rw [hg] at e hk
    obtain rfl : c = 1 := by simpa using e
    rw [u1]
    have : k = 1000 \/ k = 0 \/ k = 1 := by
      rcases hk with hk | hk
      · exact .inl hk
      · have : k < 2 := hk
        omega
    rcases this with rfl | rfl | rfl <;> rfl
theorem law_of {l:PySem.W.OpenLaw} {w:World} {K:W.Frag} {h:Heap} {mg:Str->Option Value} {fa:Addr} {g:Den.Gt} {pg:Den.Pg} {fds:List Den.Fd} {xp:XP} {n f:Nat} {st:Stmt} {fd:Den.Fd} {N:List Str} {x:Str} (X:K.In h) (G:h.Ns mainGlobals mg) (hfa:mg "law"=some (.ref fa))
  (dl:DefK K "law" st) (hf:fds[f]?=some fd) (ck:Den.ckF g N fd st=true) (hx:(defArgs st).args.map (·.arg)=[x])
  (hbind:∀ (kV doc pm:Value) (an:Option Addr) (cdv ct:Value) (s:Shared) (u:Value),BindsTo s (W.fnOf "law" "law" (defArgs st) (defBody st) (defScope st) .none kV doc pm an cdv ct) ⟨[u],[]⟩ [(x,u)])
  (T:∀ base:Heap,K.In base->base.Ns mainGlobals mg->ClsOk xp g pg mg base/\Tb l.prog w K mg base xp n g pg (Den.run pg fds n)) :
  ∃ fd:FuncData,(∀ (s:Shared) (u:Value),BindsTo s fd ⟨[u],[]⟩ [(x,u)])/\∀ base:Heap,K.In base->base.Ns mainGlobals mg->FnOk l.prog w K mg base (CXd l.prog w xp) (n+1) fa fd [x] (spF K (Den.run pg fds (n+1) f) 1):=by
 obtain ⟨f',oc,od,kV,doc,pm,an,cdv,ct,osl,a,l',c,k⟩:=dl
 have e:=hfa.symm.trans (PySem.W.mg_of X G a)
 cases e
 refine ⟨_,hbind kV doc pm an cdv ct,fun base kb nb=>?_⟩
 have F:=fun_mk l' c k
 have:=fn_step (T base kb nb).1 (T base kb nb).2 (f:=f) hf ck F
 rw [hx] at this
 exact this
theorem walk {g:Den.Gt} {l:PySem.W.OpenLaw} {q:Program} {loose:List Str} {XP:(Str->Option Value)->Heap->Prop} {YP:World->Heap->Prop} {d:DefRec} {K:Params->W.Frag} {pg:Den.Pg} {fds:List Den.Fd} {n f:Nat} {x:Str} (hn:l.most=some 63) (hdf:d.params.defaults=[]) (hr:n<=40)
  (ht:∀ ns:List Int,Den.run pg fds n f [.lst (ns.map .int)]=.ok (.bl true)) (hY:∀ (w:World) (h:Heap),YP w h->(K w.params).In h)
  (F:∀ (w:World) (mg:Str->Option Value) (fa:Addr) (h:Heap),(K w.params).In h->h.Ns mainGlobals mg->mg d.name=some (.ref fa) ->
   ∃ fd:FuncData,(∀ (s:Shared) (u:Value),BindsTo s fd ⟨[u],[]⟩ [(x,u)])/\∀ base:Heap,(K w.params).In base->base.Ns mainGlobals mg->FnOk l.prog w (K w.params) mg base (CXd l.prog w (Xn.XpC (clOf (K w.params) g))) n fa fd [x] (spF (K w.params) (Den.run pg fds n f) 1)) :
  PySem.W.WalkO q loose XP YP l.row.toRowW d [] (fun f vs=>PySem.call f vs) :=
 L2.walk_of (n:=63) (k:=n) (x:=x) (CX:=fun w=>CXd l.prog w (Xn.XpC (clOf (K w.params) g))) (sp:=fun w=>spF (K w.params) (Den.run pg fds n f) 1) hn (by decide) hdf (Room.mono (⟨rfl,by decide,by decide⟩:Room 40 callerA) hr) hY F (fun w H a ns _ _ hS=>sp_of hS (ht ns)) fun _ _ _ _ _ z=>cx0 z
end Sim
end
section
set_option Elab.async false
namespace HTk04
open PySem PySem.Spec PyProof.Rows L2 Sim
def ix:List Nat:=[5,6,7,8,9,10,11,12,13,14,15,16,17,18,19,21,22,23,24,25,26,27,28,29,30,31,32,33,5,35,36,37]
def st (j:Nat):Stmt:=PySem.Challenge.pw_holeyard_k04_cells_of_nets.main.body.getD (ix.getD j 0) (.Pass ⟨0,0,0,0⟩)
theorem ck_all:((List.range 32).all fun j=>Den.ckF Tk04.gt (Tk04.nms.getD j []) (Tk04.fds.getD j ⟨0,0,.nil⟩) (st j))=true:=by decide +kernel
theorem ck (j:Nat) (h:j < 32):Den.ckF Tk04.gt (Tk04.nms.getD j []) (Tk04.fds.getD j ⟨0,0,.nil⟩) (st j)=true:=List.all_eq_true.mp ck_all j (List.mem_range.mpr h)
structure Txt (K:W.Frag):Prop where
 d0:DefK K "is_whole" (st 0)
 d1:DefK K "is_many" (st 1)
 d2:DefK K "is_rising" (st 2)
 d3:DefK K "is_cell" (st 3)
 d4:DefK K "are_cells" (st 4)
 d5:DefK K "lies_in" (st 5)
 d6:DefK K "lies_in_one" (st 6)
 d7:DefK K "uppermost" (st 7)
 d8:DefK K "meet_all_corners" (st 8)
 d9:DefK K "is_net" (st 9)
 d10:DefK K "cells_within" (st 10)
 d11:DefK K "every_cell" (st 11)
 d12:DefK K "cells_of_height" (st 12)
 d13:DefK K "cells" (st 13)
 d14:DefK K "net_of" (st 14)
 d15:DefK K "_law_cell_at" (st 15)
 d16:DefK K "_law_mixed" (st 16)
 d17:DefK K "_law_drawn" (st 17)
 d18:DefK K "_law_lies" (st 18)
 d19:DefK K "_law_tops" (st 19)
 d20:DefK K "_law_parts" (st 20)
 d21:DefK K "_law_some" (st 21)
 d22:DefK K "_law_net" (st 22)
 d23:DefK K "_law_cells" (st 23)
 d24:DefK K "_law_number" (st 24)
 d25:DefK K "_law_is_cell" (st 25)
 d26:DefK K "_law_is_net" (st 26)
 d27:DefK K "_law_odd" (st 27)
 d28:DefK K "is_whole" (st 28)
 d29:DefK K "_law_told" (st 29)
 d30:DefK K "_law_mingled" (st 30)
 d31:DefK K "law" (st 31)
 bl:AllB K BL
 g0:∃ u,W.nsIn K mainGlobals "MOST_CORNERS"=some (some u)/\∃ t,u=.int 8 t
 ve:W.nsIn K mainGlobals "ValueError"=some none
 cl:∃ C bm D bm2,ClK K "HoleError" C bm/\ClK K "NoNet" D bm2/\bm2.contains (.ref C)=true
section
variable {K:W.Frag} {h:Heap} {mg:Str->Option Value}
theorem a0 (X:K.In h) (G:h.Ns mainGlobals mg) (t:Txt K):DefAt K mg Tk04.gt Tk04.fds 0 "is_whole":=defAt_of X G t.d0 rfl (ck 0 (by decide)) fun _ _ _ _ _ _ us hl=>by obtain ⟨_,rfl⟩:=ex1 hl;rfl
theorem a1 (X:K.In h) (G:h.Ns mainGlobals mg) (t:Txt K):DefAt K mg Tk04.gt Tk04.fds 1 "is_many":=defAt_of X G t.d1 rfl (ck 1 (by decide)) fun _ _ _ _ _ _ us hl=>by obtain ⟨_,rfl⟩:=ex1 hl;rfl
theorem a2 (X:K.In h) (G:h.Ns mainGlobals mg) (t:Txt K):DefAt K mg Tk04.gt Tk04.fds 2 "is_rising":=defAt_of X G t.d2 rfl (ck 2 (by decide)) fun _ _ _ _ _ _ us hl=>by obtain ⟨_,rfl⟩:=ex1 hl;rfl
theorem a3 (X:K.In h) (G:h.Ns mainGlobals mg) (t:Txt K):DefAt K mg Tk04.gt Tk04.fds 3 "is_cell":=defAt_of X G t.d3 rfl (ck 3 (by decide)) fun _ _ _ _ _ _ us hl=>by obtain ⟨_,_,rfl⟩:=ex2 hl;rfl
theorem a4 (X:K.In h) (G:h.Ns mainGlobals mg) (t:Txt K):DefAt K mg Tk04.gt Tk04.fds 4 "are_cells":=defAt_of X G t.d4 rfl (ck 4 (by decide)) fun _ _ _ _ _ _ us hl=>by obtain ⟨_,_,rfl⟩:=ex2 hl;rfl
theorem a5 (X:K.In h) (G:h.Ns mainGlobals mg) (t:Txt K):DefAt K mg Tk04.gt Tk04.fds 5 "lies_in":=defAt_of X G t.d5 rfl (ck 5 (by decide)) fun _ _ _ _ _ _ us hl=>by obtain ⟨_,_,rfl⟩:=ex2 hl;rfl
theorem a6 (X:K.In h) (G:h.Ns mainGlobals mg) (t:Txt K):DefAt K mg Tk04.gt Tk04.fds 6 "lies_in_one":=defAt_of X G t.d6 rfl (ck 6 (by decide)) fun _ _ _ _ _ _ us hl=>by obtain ⟨_,_,rfl⟩:=ex2 hl;rfl
theorem a7 (X:K.In h) (G:h.Ns mainGlobals mg) (t:Txt K):DefAt K mg Tk04.gt Tk04.fds 7 "uppermost":=defAt_of X G t.d7 rfl (ck 7 (by decide)) fun _ _ _ _ _ _ us hl=>by obtain ⟨_,rfl⟩:=ex1 hl;rfl
theorem a8 (X:K.In h) (G:h.Ns mainGlobals mg) (t:Txt K):DefAt K mg Tk04.gt Tk04.fds 8 "meet_all_corners":=defAt_of X G t.d8 rfl (ck 8 (by decide)) fun _ _ _ _ _ _ us hl=>by obtain ⟨_,_,rfl⟩:=ex2 hl;rfl
theorem a9 (X:K.In h) (G:h.Ns mainGlobals mg) (t:Txt K):DefAt K mg Tk04.gt Tk04.fds 9 "is_net":=defAt_of X G t.d9 rfl (ck 9 (by decide)) fun _ _ _ _ _ _ us hl=>by obtain ⟨_,rfl⟩:=ex1 hl;rfl
theorem a10 (X:K.In h) (G:h.Ns mainGlobals mg) (t:Txt K):DefAt K mg Tk04.gt Tk04.fds 10 "cells_within":=defAt_of X G t.d10 rfl (ck 10 (by decide)) fun _ _ _ _ _ _ us hl=>by obtain ⟨_,rfl⟩:=ex1 hl;rfl
theorem a11 (X:K.In h) (G:h.Ns mainGlobals mg) (t:Txt K):DefAt K mg Tk04.gt Tk04.fds 11 "every_cell":=defAt_of X G t.d11 rfl (ck 11 (by decide)) fun _ _ _ _ _ _ us hl=>by obtain ⟨_,rfl⟩:=ex1 hl;rfl
theorem a12 (X:K.In h) (G:h.Ns mainGlobals mg) (t:Txt K):DefAt K mg Tk04.gt Tk04.fds 12 "cells_of_height":=defAt_of X G t.d12 rfl (ck 12 (by decide)) fun _ _ _ _ _ _ us hl=>by obtain ⟨_,_,rfl⟩:=ex2 hl;rfl
theorem a13 (X:K.In h) (G:h.Ns mainGlobals mg) (t:Txt K):DefAt K mg Tk04.gt Tk04.fds 13 "cells":=defAt_of X G t.d13 rfl (ck 13 (by decide)) fun _ _ _ _ _ _ us hl=>by obtain ⟨_,_,rfl⟩:=ex2 hl;rfl
theorem a14 (X:K.In h) (G:h.Ns mainGlobals mg) (t:Txt K):DefAt K mg Tk04.gt Tk04.fds 14 "net_of":=defAt_of X G t.d14 rfl (ck 14 (by decide)) fun _ _ _ _ _ _ us hl=>by obtain ⟨_,_,rfl⟩:=ex2 hl;rfl
theorem a15 (X:K.In h) (G:h.Ns mainGlobals mg) (t:Txt K):DefAt K mg Tk04.gt Tk04.fds 15 "_law_cell_at":=defAt_of X G t.d15 rfl (ck 15 (by decide)) fun _ _ _ _ _ _ us hl=>by obtain ⟨_,_,rfl⟩:=ex2 hl;rfl
theorem a16 (X:K.In h) (G:h.Ns mainGlobals mg) (t:Txt K):DefAt K mg Tk04.gt Tk04.fds 16 "_law_mixed":=defAt_of X G t.d16 rfl (ck 16 (by decide)) fun _ _ _ _ _ _ us hl=>by obtain ⟨_,_,rfl⟩:=ex2 hl;rfl
theorem a17 (X:K.In h) (G:h.Ns mainGlobals mg) (t:Txt K):DefAt K mg Tk04.gt Tk04.fds 17 "_law_drawn":=defAt_of X G t.d17 rfl (ck 17 (by decide)) fun _ _ _ _ _ _ us hl=>by obtain ⟨_,_,rfl⟩:=ex2 hl;rfl
theorem a18 (X:K.In h) (G:h.Ns mainGlobals mg) (t:Txt K):DefAt K mg Tk04.gt Tk04.fds 18 "_law_lies":=defAt_of X G t.d18 rfl (ck 18 (by decide)) fun _ _ _ _ _ _ us hl=>by obtain ⟨_,_,rfl⟩:=ex2 hl;rfl
theorem a19 (X:K.In h) (G:h.Ns mainGlobals mg) (t:Txt K):DefAt K mg Tk04.gt Tk04.fds 19 "_law_tops":=defAt_of X G t.d19 rfl (ck 19 (by decide)) fun _ _ _ _ _ _ us hl=>by obtain ⟨_,rfl⟩:=ex1 hl;rfl
theorem a20 (X:K.In h) (G:h.Ns mainGlobals mg) (t:Txt K):DefAt K mg Tk04.gt Tk04.fds 20 "_law_parts":=defAt_of X G t.d20 rfl (ck 20 (by decide)) fun _ _ _ _ _ _ us hl=>by obtain ⟨_,_,rfl⟩:=ex2 hl;rfl
theorem a21 (X:K.In h) (G:h.Ns mainGlobals mg) (t:Txt K):DefAt K mg Tk04.gt Tk04.fds 21 "_law_some":=defAt_of X G t.d21 rfl (ck 21 (by decide)) fun _ _ _ _ _ _ us hl=>by obtain ⟨_,_,rfl⟩:=ex2 hl;rfl
theorem a22 (X:K.In h) (G:h.Ns mainGlobals mg) (t:Txt K):DefAt K mg Tk04.gt Tk04.fds 22 "_law_net":=defAt_of X G t.d22 rfl (ck 22 (by decide)) fun _ _ _ _ _ _ us hl=>by obtain ⟨_,_,rfl⟩:=ex2 hl;rfl
theorem a23 (X:K.In h) (G:h.Ns mainGlobals mg) (t:Txt K):DefAt K mg Tk04.gt Tk04.fds 23 "_law_cells":=defAt_of X G t.d23 rfl (ck 23 (by decide)) fun _ _ _ _ _ _ us hl=>by obtain ⟨_,_,rfl⟩:=ex2 hl;rfl
theorem a24 (X:K.In h) (G:h.Ns mainGlobals mg) (t:Txt K):DefAt K mg Tk04.gt Tk04.fds 24 "_law_number":=defAt_of X G t.d24 rfl (ck 24 (by decide)) fun _ _ _ _ _ _ us hl=>by obtain ⟨_,_,_,rfl⟩:=ex3 hl;rfl
theorem a25 (X:K.In h) (G:h.Ns mainGlobals mg) (t:Txt K):DefAt K mg Tk04.gt Tk04.fds 25 "_law_is_cell":=defAt_of X G t.d25 rfl (ck 25 (by decide)) fun _ _ _ _ _ _ us hl=>by obtain ⟨_,_,rfl⟩:=ex2 hl;rfl
theorem a26 (X:K.In h) (G:h.Ns mainGlobals mg) (t:Txt K):DefAt K mg Tk04.gt Tk04.fds 26 "_law_is_net":=defAt_of X G t.d26 rfl (ck 26 (by decide)) fun _ _ _ _ _ _ us hl=>by obtain ⟨_,rfl⟩:=ex1 hl;rfl
theorem a27 (X:K.In h) (G:h.Ns mainGlobals mg) (t:Txt K):DefAt K mg Tk04.gt Tk04.fds 27 "_law_odd":=defAt_of X G t.d27 rfl (ck 27 (by decide)) fun _ _ _ _ _ _ us hl=>by obtain ⟨_,rfl⟩:=ex1 hl;rfl
theorem a28 (X:K.In h) (G:h.Ns mainGlobals mg) (t:Txt K):DefAt K mg Tk04.gt Tk04.fds 28 "is_whole":=defAt_of X G t.d28 rfl (ck 28 (by decide)) fun _ _ _ _ _ _ us hl=>by obtain ⟨_,rfl⟩:=ex1 hl;rfl
theorem a29 (X:K.In h) (G:h.Ns mainGlobals mg) (t:Txt K):DefAt K mg Tk04.gt Tk04.fds 29 "_law_told":=defAt_of X G t.d29 rfl (ck 29 (by decide)) fun _ _ _ _ _ _ us hl=>by obtain ⟨_,_,rfl⟩:=ex2 hl;rfl
theorem a30 (X:K.In h) (G:h.Ns mainGlobals mg) (t:Txt K):DefAt K mg Tk04.gt Tk04.fds 30 "_law_mingled":=defAt_of X G t.d30 rfl (ck 30 (by decide)) fun _ _ _ _ _ _ us hl=>by obtain ⟨_,_,rfl⟩:=ex2 hl;rfl
theorem a31 (X:K.In h) (G:h.Ns mainGlobals mg) (t:Txt K):DefAt K mg Tk04.gt Tk04.fds 31 "law":=defAt_of X G t.d31 rfl (ck 31 (by decide)) fun _ _ _ _ _ _ us hl=>by obtain ⟨_,rfl⟩:=ex1 hl;rfl
theorem fns (X:K.In h) (G:h.Ns mainGlobals mg) (t:Txt K):AllI (DefAt K mg Tk04.gt Tk04.fds) 0 Tk04.gt.fns:=⟨a0 X G t,a1 X G t,a2 X G t,a3 X G t,a4 X G t,a5 X G t,a6 X G t,a7 X G t,a8 X G t,a9 X G t,a10 X G t,a11 X G t,a12 X G t,a13 X G t,a14 X G t,a15 X G t,a16 X G t,a17 X G t,a18 X G t,a19 X G t,a20 X G t,a21 X G t,a22 X G t,a23 X G t,a24 X G t,a25 X G t,a26 X G t,a27 X G t,a28 X G t,a29 X G t,a30 X G t,a31 X G t,trivial⟩
theorem tb {P:Program} {w:World} (X:K.In h) (G:h.Ns mainGlobals mg) (t:Txt K) (base:Heap) (kb:K.In base) (nb:base.Ns mainGlobals mg):ClsOk (Xn.XpC (clOf K Tk04.gt)) Tk04.gt Tk04.pg mg base/\Tb P w K mg base (Xn.XpC (clOf K Tk04.gt)) 20 Tk04.gt Tk04.pg (Den.run Tk04.pg Tk04.fds 20):=by
 have hc:ClsOk (Xn.XpC (clOf K Tk04.gt)) Tk04.gt Tk04.pg mg base:=by
  obtain ⟨C,bm,D,bm2,q1,q2,q3⟩:=t.cl;exact cls2 kb nb rfl t.ve q1 q2 q3 rfl rfl
 refine ⟨hc,?_⟩
 refine tb_all hc (fun f x e=>by have:=(fns X G t).get e;rwa [Nat.zero_add] at this) (AllB.get X G t.bl) (fun j x d e1 e2=>?_) _
 match j,e1,e2 with
 | 0,e1,e2 =>
  cases e1;cases e2
  obtain ⟨_,q,tk,rfl⟩:=t.g0
  exact ⟨.int 8,.int 8 tk,PySem.W.mg_of X G q,⟨tk,rfl⟩,fun _=>rfl⟩
 | j+1,e1,e2=>cases e1
end
end HTk04
noncomputable def PySem.W.Fast.tw2371811653710049381:=PySem.Challenge.pw_holeyard_k04_cells_of_nets
theorem PySem.W.Fast.te2371811653710049381:PySem.Challenge.pw_holeyard_k04_cells_of_nets=PySem.W.Fast.tw2371811653710049381:=rfl
noncomputable def PySem.W.Fast.tw3387552401924671404:=()
noncomputable def PySem.W.Fast.tw226854149463332642:=()
noncomputable def PySem.W.Fast.tw13495922138840743158:=()
noncomputable def PySem.W.Fast.tw8640228066260331508:=()
noncomputable def PySem.W.Fast.tw4448879237020123833:=()
noncomputable def PySem.W.Fast.tw13323242477621731394:=()
noncomputable def PySem.W.Fast.tw9328436993981906904:=()
noncomputable def PySem.W.Fast.tw15915467985386251050:=()
noncomputable def PySem.W.Fast.tw6744944965922782411:=()
noncomputable def PySem.W.Fast.tw17364888110258931847:=()
noncomputable def PySem.W.Fast.tw12363352991435852835:=()
noncomputable def PySem.W.Fast.tw7251535012207911717:=()
noncomputable def PySem.W.Fast.tw18332180761945272115:=()
noncomputable def PySem.W.Fast.tw18420149076325683216:=()
noncomputable def PySem.W.Fast.tw7790731834371853651:=()
noncomputable def PySem.W.Fast.tw17362602069727282546:=()
noncomputable def PySem.W.Fast.tw9885135035879762042:=()
noncomputable def PySem.W.Fast.tw16987318678970949879:=()
noncomputable def PySem.W.Fast.tw13840781725355994296:=()
noncomputable def PySem.W.Fast.tw15666649945254133495:=()
noncomputable def PySem.W.Fast.tw7332763882486292056:=()
noncomputable def PySem.W.Fast.tw18355899190828719051:=()
noncomputable def PySem.W.Fast.tw18140131074520729373:=()
noncomputable def PySem.W.Fast.tw7626258755387759529:=()
noncomputable def PySem.W.Fast.tw3046663442530263109:=()
noncomputable def PySem.W.Fast.tw7310280227251181237:=()
noncomputable def PySem.W.Fast.tw13775513471691803297:=()
noncomputable def PySem.W.Fast.tw16260050181565370371:=()
noncomputable def PySem.W.Fast.tw13309945147913634859:=()
noncomputable def PySem.W.Fast.tw9897009235911538556:=()
noncomputable def PySem.W.Fast.tw8689876542285086635:=()
noncomputable def PySem.W.Fast.tw10716263801055491770:=()
noncomputable def PySem.W.Fast.tw2203354154460121386:=()
noncomputable def PySem.W.Fast.tw1129493513304714530:=()
noncomputable def PySem.W.Fast.tw11853356269452911427:=()
noncomputable def PySem.W.Fast.tw4207686989941611683:=()
noncomputable def PySem.W.Fast.tw3120749799228727768:=()
noncomputable def PySem.W.Fast.tw8810926751761053661:=()
noncomputable def PySem.W.Fast.tw17463970048872129851:=()
noncomputable def PySem.W.Fast.tw15142353568100522867:=()
noncomputable def PySem.W.Fast.tw11891732467983601841:=()
noncomputable def PySem.W.Fast.tw15379547813233776202:=()
noncomputable def PySem.W.Fast.tw17604402929722438278:=()
noncomputable def PySem.W.Fast.tw14198364567515849667:=()
noncomputable def PySem.W.Fast.tw16256938687485836259:=()
noncomputable def PySem.W.Fast.tw1525946657177513801:=()
noncomputable def PySem.W.Fast.tw6751547324858217648:=()
noncomputable def PySem.W.Fast.tw14989652751447932765:=()
noncomputable def PySem.W.Fast.tw7673578869129636708:=()
noncomputable def PySem.W.Fast.tw14308379419739026638:=()
noncomputable def PySem.W.Fast.tw12888056969093545294:=()
noncomputable def PySem.W.Fast.tw2640263374612024773:=()
noncomputable def PySem.W.Fast.tw1116880604577505138:=()
noncomputable def PySem.W.Fast.tw4506133547845429136:=()
noncomputable def PySem.W.Fast.tw675530687100147525:=()
noncomputable def PySem.W.Fast.tw300103093947283313:=()
noncomputable def PySem.W.Fast.tw17441039932572483834:=()
noncomputable def PySem.W.Fast.tw4646180672496480823:=()
noncomputable def PySem.W.Fast.tw6256481524744813128:=()
noncomputable def PySem.W.Fast.tw8062691799269690506:=()
noncomputable def PySem.W.Fast.tw18229996636040105304:=()
noncomputable def PySem.W.Fast.tw3816394796978745479:=()
noncomputable def PySem.W.Fast.tw11883107227555957105:=()
noncomputable def PySem.W.Fast.tw11675949725926970668:=()
noncomputable def PySem.W.Fast.tw11239231473358333496:=()
noncomputable def PySem.W.Fast.tw6755801453150357953:=()
noncomputable def PySem.W.Fast.tw13927452742598589733:=()
noncomputable def PySem.W.Fast.tw9404819409178222694:=()
noncomputable def PySem.W.Fast.tw1297743949482885352:=()
noncomputable def PySem.W.Fast.tw15235535795254149096:=()
noncomputable def PySem.W.Fast.tw16677588640063182998:=()
noncomputable def PySem.W.Fast.tw16716232683081665178:=()
noncomputable def PySem.W.Fast.tw2692770508984680763:=()
noncomputable def PySem.W.Fast.tw1836440495745690716:=()
noncomputable def PySem.W.Fast.tw12336950335960970943:=()
open PySem PySem.W PyProof.Rows
set_option maxRecDepth 100000 in
set_option maxHeartbeats 0 in
theorem PySem.Challenge.cw_holeyard_k04_cells_of_nets_holds : PySem.Challenge.rw_holeyard_k04_cells_of_nets.Holds := by
 w_on;o_law;k_head;(case hw=>w_witness2)
 k_fill
 refine Sim.walk (g:=Tk04.gt) (l:=PySem.Challenge.rw_holeyard_k04_cells_of_nets) (pg:=Tk04.pg) (fds:=Tk04.fds) (n:=21) (f:=31) (x:="_law_script") rfl rfl (by decide) P4.t_law (fun w h Y=>PySem.W.kIn_of Y) ?F
 case F =>
  intro w mg fa h KX G hmg
  have d0:Sim.DefK (L2.KOf KX) "is_whole" (HTk04.st 0):=by
   dsimp only [L2.KOf]
   refine' Sim.defK_mk ?a ?l ?c ?k
   (case a=>k_is);(case l=>k_is);(case c=>k_is);(case k=>k_is)
  have d1:Sim.DefK (L2.KOf KX) "is_many" (HTk04.st 1):=by
   dsimp only [L2.KOf]
   refine' Sim.defK_mk ?a ?l ?c ?k
   (case a=>k_is);(case l=>k_is);(case c=>k_is);(case k=>k_is)
  have d2:Sim.DefK (L2.KOf KX) "is_rising" (HTk04.st 2):=by
   dsimp only [L2.KOf]
   refine' Sim.defK_mk ?a ?l ?c ?k
   (case a=>k_is);(case l=>k_is);(case c=>k_is);(case k=>k_is)
  have d3:Sim.DefK (L2.KOf KX) "is_cell" (HTk04.st 3):=by
   dsimp only [L2.KOf]
   refine' Sim.defK_mk ?a ?l ?c ?k
   (case a=>k_is);(case l=>k_is);(case c=>k_is);(case k=>k_is)
  have d4:Sim.DefK (L2.KOf KX) "are_cells" (HTk04.st 4):=by
   dsimp only [L2.KOf]
   refine' Sim.defK_mk ?a ?l ?c ?k
   (case a=>k_is);(case l=>k_is);(case c=>k_is);(case k=>k_is)
  have d5:Sim.DefK (L2.KOf KX) "lies_in" (HTk04.st 5):=by
   dsimp only [L2.KOf]
   refine' Sim.defK_mk ?a ?l ?c ?k
   (case a=>k_is);(case l=>k_is);(case c=>k_is);(case k=>k_is)
  have d6:Sim.DefK (L2.KOf KX) "lies_in_one" (HTk04.st 6):=by
   dsimp only [L2.KOf]
   refine' Sim.defK_mk ?a ?l ?c ?k
   (case a=>k_is);(case l=>k_is);(case c=>k_is);(case k=>k_is)
  have d7:Sim.DefK (L2.KOf KX) "uppermost" (HTk04.st 7):=by
   dsimp only [L2.KOf]
   refine' Sim.defK_mk ?a ?l ?c ?k
   (case a=>k_is);(case l=>k_is);(case c=>k_is);(case k=>k_is)
  have d8:Sim.DefK (L2.KOf KX) "meet_all_corners" (HTk04.st 8):=by
   dsimp only [L2.KOf]
   refine' Sim.defK_mk ?a ?l ?c ?k
   (case a=>k_is);(case l=>k_is);(case c=>k_is);(case k=>k_is)
  have d9:Sim.DefK (L2.KOf KX) "is_net" (HTk04.st 9):=by
   dsimp only [L2.KOf]
   refine' Sim.defK_mk ?a ?l ?c ?k
   (case a=>k_is);(case l=>k_is);(case c=>k_is);(case k=>k_is)
  have d10:Sim.DefK (L2.KOf KX) "cells_within" (HTk04.st 10):=by
   dsimp only [L2.KOf]
   refine' Sim.defK_mk ?a ?l ?c ?k
   (case a=>k_is);(case l=>k_is);(case c=>k_is);(case k=>k_is)
  have d11:Sim.DefK (L2.KOf KX) "every_cell" (HTk04.st 11):=by
   dsimp only [L2.KOf]
   refine' Sim.defK_mk ?a ?l ?c ?k
   (case a=>k_is);(case l=>k_is);(case c=>k_is);(case k=>k_is)
  have d12:Sim.DefK (L2.KOf KX) "cells_of_height" (HTk04.st 12):=by
   dsimp only [L2.KOf]
   refine' Sim.defK_mk ?a ?l ?c ?k
   (case a=>k_is);(case l=>k_is);(case c=>k_is);(case k=>k_is)
  have d13:Sim.DefK (L2.KOf KX) "cells" (HTk04.st 13):=by
   dsimp only [L2.KOf]
   refine' Sim.defK_mk ?a ?l ?c ?k
   (case a=>k_is);(case l=>k_is);(case c=>k_is);(case k=>k_is)
  have d14:Sim.DefK (L2.KOf KX) "net_of" (HTk04.st 14):=by
   dsimp only [L2.KOf]
   refine' Sim.defK_mk ?a ?l ?c ?k
   (case a=>k_is);(case l=>k_is);(case c=>k_is);(case k=>k_is)
  have d15:Sim.DefK (L2.KOf KX) "_law_cell_at" (HTk04.st 15):=by
   dsimp only [L2.KOf]
   refine' Sim.defK_mk ?a ?l ?c ?k
   (case a=>k_is);(case l=>k_is);(case c=>k_is);(case k=>k_is)
  have d16:Sim.DefK (L2.KOf KX) "_law_mixed" (HTk04.st 16):=by
   dsimp only [L2.KOf]
   refine' Sim.defK_mk ?a ?l ?c ?k
   (case a=>k_is);(case l=>k_is);(case c=>k_is);(case k=>k_is)
  have d17:Sim.DefK (L2.KOf KX) "_law_drawn" (HTk04.st 17):=by
   dsimp only [L2.KOf]
   refine' Sim.defK_mk ?a ?l ?c ?k
   (case a=>k_is);(case l=>k_is);(case c=>k_is);(case k=>k_is)
  have d18:Sim.DefK (L2.KOf KX) "_law_lies" (HTk04.st 18):=by
   dsimp only [L2.KOf]
   refine' Sim.defK_mk ?a ?l ?c ?k
   (case a=>k_is);(case l=>k_is);(case c=>k_is);(case k=>k_is)
  have d19:Sim.DefK (L2.KOf KX) "_law_tops" (HTk04.st 19):=by
   dsimp only [L2.KOf]
   refine' Sim.defK_mk ?a ?l ?c ?k
   (case a=>k_is);(case l=>k_is);(case c=>k_is);(case k=>k_is)
  have d20:Sim.DefK (L2.KOf KX) "_law_parts" (HTk04.st 20):=by
   dsimp only [L2.KOf]
   refine' Sim.defK_mk ?a ?l ?c ?k
   (case a=>k_is);(case l=>k_is);(case c=>k_is);(case k=>k_is)
  have d21:Sim.DefK (L2.KOf KX) "_law_some" (HTk04.st 21):=by
   dsimp only [L2.KOf]
   refine' Sim.defK_mk ?a ?l ?c ?k
   (case a=>k_is);(case l=>k_is);(case c=>k_is);(case k=>k_is)
  have d22:Sim.DefK (L2.KOf KX) "_law_net" (HTk04.st 22):=by
   dsimp only [L2.KOf]
   refine' Sim.defK_mk ?a ?l ?c ?k
   (case a=>k_is);(case l=>k_is);(case c=>k_is);(case k=>k_is)
  have d23:Sim.DefK (L2.KOf KX) "_law_cells" (HTk04.st 23):=by
   dsimp only [L2.KOf]
   refine' Sim.defK_mk ?a ?l ?c ?k
   (case a=>k_is);(case l=>k_is);(case c=>k_is);(case k=>k_is)
  have d24:Sim.DefK (L2.KOf KX) "_law_number" (HTk04.st 24):=by
   dsimp only [L2.KOf]
   refine' Sim.defK_mk ?a ?l ?c ?k
   (case a=>k_is);(case l=>k_is);(case c=>k_is);(case k=>k_is)
  have d25:Sim.DefK (L2.KOf KX) "_law_is_cell" (HTk04.st 25):=by
   dsimp only [L2.KOf]
   refine' Sim.defK_mk ?a ?l ?c ?k
   (case a=>k_is);(case l=>k_is);(case c=>k_is);(case k=>k_is)
  have d26:Sim.DefK (L2.KOf KX) "_law_is_net" (HTk04.st 26):=by
   dsimp only [L2.KOf]
   refine' Sim.defK_mk ?a ?l ?c ?k
   (case a=>k_is);(case l=>k_is);(case c=>k_is);(case k=>k_is)
  have d27:Sim.DefK (L2.KOf KX) "_law_odd" (HTk04.st 27):=by
   dsimp only [L2.KOf]
   refine' Sim.defK_mk ?a ?l ?c ?k
   (case a=>k_is);(case l=>k_is);(case c=>k_is);(case k=>k_is)
  have d28:Sim.DefK (L2.KOf KX) "is_whole" (HTk04.st 28):=by
   dsimp only [L2.KOf]
   refine' Sim.defK_mk ?a ?l ?c ?k
   (case a=>k_is);(case l=>k_is);(case c=>k_is);(case k=>k_is)
  have d29:Sim.DefK (L2.KOf KX) "_law_told" (HTk04.st 29):=by
   dsimp only [L2.KOf]
   refine' Sim.defK_mk ?a ?l ?c ?k
   (case a=>k_is);(case l=>k_is);(case c=>k_is);(case k=>k_is)
  have d30:Sim.DefK (L2.KOf KX) "_law_mingled" (HTk04.st 30):=by
   dsimp only [L2.KOf]
   refine' Sim.defK_mk ?a ?l ?c ?k
   (case a=>k_is);(case l=>k_is);(case c=>k_is);(case k=>k_is)
  have d31:Sim.DefK (L2.KOf KX) "law" (HTk04.st 31):=by
   dsimp only [L2.KOf]
   refine' Sim.defK_mk ?a ?l ?c ?k
   (case a=>k_is);(case l=>k_is);(case c=>k_is);(case k=>k_is)
  have b0:W.nsIn (L2.KOf KX) mainGlobals "len"=some none:=by dsimp only [L2.KOf];k_is
  have b1:W.nsIn (L2.KOf KX) mainGlobals "isinstance"=some none:=by dsimp only [L2.KOf];k_is
  have b2:W.nsIn (L2.KOf KX) mainGlobals "int"=some none:=by dsimp only [L2.KOf];k_is
  have b3:W.nsIn (L2.KOf KX) mainGlobals "bool"=some none:=by dsimp only [L2.KOf];k_is
  have b4:W.nsIn (L2.KOf KX) mainGlobals "str"=some none:=by dsimp only [L2.KOf];k_is
  have b5:W.nsIn (L2.KOf KX) mainGlobals "tuple"=some none:=by dsimp only [L2.KOf];k_is
  have b6:W.nsIn (L2.KOf KX) mainGlobals "list"=some none:=by dsimp only [L2.KOf];k_is
  have b7:W.nsIn (L2.KOf KX) mainGlobals "zip"=some none:=by dsimp only [L2.KOf];k_is
  have b8:W.nsIn (L2.KOf KX) mainGlobals "all"=some none:=by dsimp only [L2.KOf];k_is
  have b9:W.nsIn (L2.KOf KX) mainGlobals "any"=some none:=by dsimp only [L2.KOf];k_is
  have b10:W.nsIn (L2.KOf KX) mainGlobals "sorted"=some none:=by dsimp only [L2.KOf];k_is
  have b11:W.nsIn (L2.KOf KX) mainGlobals "set"=some none:=by dsimp only [L2.KOf];k_is
  have b12:W.nsIn (L2.KOf KX) mainGlobals "range"=some none:=by dsimp only [L2.KOf];k_is
  have b13:W.nsIn (L2.KOf KX) mainGlobals "enumerate"=some none:=by dsimp only [L2.KOf];k_is
  have g0:∃ u,W.nsIn (L2.KOf KX) mainGlobals "MOST_CORNERS"=some (some u)/\∃ t,u=.int 8 t:=by
   dsimp only [L2.KOf]
   refine' Sim.glK_mk ?g ?e
   (case g=>k_is);(case e=>rfl)
  have ve:W.nsIn (L2.KOf KX) mainGlobals "ValueError"=some none:=by dsimp only [L2.KOf];k_is
  have cl:∃ C bm D bm2,Sim.ClK (L2.KOf KX) "HoleError" C bm/\Sim.ClK (L2.KOf KX) "NoNet" D bm2/\bm2.contains (.ref C)=true:=by
   dsimp only [L2.KOf]
   refine' Sim.clK2_mk ?a ?l ?n ?i ?t ?a2 ?l2 ?n2 ?i2 ?t2 ?m
   (case a=>k_is);(case l=>k_is);(case n=>kernel_rfl);(case i=>k_is);(case t=>kernel_rfl);(case a2=>k_is);(case l2=>k_is);(case n2=>kernel_rfl);(case i2=>k_is);(case t2=>kernel_rfl);(case m=>rfl)
  have t:HTk04.Txt (L2.KOf KX):=⟨d0,d1,d2,d3,d4,d5,d6,d7,d8,d9,d10,d11,d12,d13,d14,d15,d16,d17,d18,d19,d20,d21,d22,d23,d24,d25,d26,d27,d28,d29,d30,d31,⟨b0,b1,b2,b3,b4,b5,b6,b7,b8,b9,b10,b11,b12,b13,trivial⟩,g0,ve,cl⟩
  exact Sim.law_of KX G hmg d31 rfl (HTk04.ck 31 (by decide)) rfl (fun _ _ _ _ _ _ s u=>.of_eq rfl) (HTk04.tb KX G t)
end
