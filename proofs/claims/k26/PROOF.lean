import PyProof.Rows.All
import Wide.All
import OpenK.AllK
import Wide.FinOn
import Lean
import PyProof.EqAt
import PyProof.EqKinds
import PyProof.TupleCall
import KE.KIntText
import PyProof.ZipIter
import PyProof.EnumFor
import PyProof.EnumMake
import PyProof.ExcClass3
import PyProof.ExcFactsAll.ValueError
import PyProof.ExcArgs
import PyProof.InstStoreFacts
import PyProof.ExcBaseAll.ValueError
import PyProof.Rows.FStr
import KE.KRevSl
import KE.KDictSum
import PyProof.NeKinds
import PyProof.MinMaxWalk
import PySem.Challenge.RW_drawhouse_k26_whole_part_texts
set_option Elab.async false
set_option linter.all false
set_option maxRecDepth 100000
abbrev OP:=List (PySem.Addr×PySem.Obj)
abbrev EV:=PySem.Value->PySem.Shared->Prop
abbrev MG:=PySem.Str->Option PySem.Value
open PySem.W (instObj methodObj Frag lookIn plainGet hasDictIn findIn handedIn plainGet_of isFn plainOver takerIn makesIn typeIn emptyDict keepIn specialIn takesIn mroIn kitOne kia_one kitx_list kitx_dict callWith_K methodCall_KW cellsFrom_some fnOf codeIn codeRec_of OpenLaw WalkO kitMeta nsIn kitAny readsIn findCls mg_of mg_none_of)
open Nat (lt_of_lt_of_le lt_irrefl ne_of_lt le_trans le_of_lt ne_of_gt le_refl zero_le le_of_eq le_succ lt_or_ge min_eq_left not_lt sub_self zero_lt_one)
open List (mem_filter mem_range mem_cons_self mem_cons_of_mem mem_cons mem_append mem_append_left getElem?_set_self mem_append_right any_eq_false length_cons map_cons length_map append_nil nodup_cons of_mem_zip length_take getElem?_append_right getElem?_append_left getElem?_map mem_of_getElem? length_append length_drop size_toArray length_set replicate_succ flatten_cons append_assoc nil_append map_nil mem_map map_eq_nil_iff map_map sum_cons forIn_cons lookup_cons all_eq_true mem_singleton set_set length_range range_succ map_append take_add_one take_length ext_getElem all_map any_map getElem?_eq_getElem take_of_length_le not_mem_nil filter_append cons_append getElem_of_mem map_take getElem_mem contains_cons length_nil length_pos_iff mem_of_mem_drop map_drop flatMap_cons exists_cons_of_ne_nil)
open Bool (and_eq_true)
open Int (emod_nonneg emod_lt_of_pos zero_add)
open Option (bind_some)
open PySem.F (excBase_ValueError plainAttrs_str slot_str_join type_str_join plainAttrs_list slot_str_split type_str_split)
open PySem (boot_len)
open PyProof.Rows (boot_str boot_list boot_isinstance boot_all boot_tuple boot_int boot_bool)
theorem Za{p:Prop}(h:p:=by decide):p:=h
theorem Zb{p:Prop}(h:p:=by omega):p:=h
theorem Zc{p:Prop}(h:p:=by simp):p:=h
theorem Zd{p:Prop}(h:p:=by rfl):p:=h
theorem Ze{p:Prop}(h:p:=by decide +kernel):p:=h
theorem Zf{p:Prop}(h:p:=by kernel_rfl):p:=h
theorem Zg{p:Prop}(h:p:=by simp;omega):p:=h
theorem Zh{p:Prop}(h:p:=by intro z;cases z):p:=h
namespace L2
open PySem PySem.Spec PyProof.Rows
abbrev Key:=Sum Int Str
def QV:Key->Value->Bool
 | .inl k,v=>Value.isInt k v
 | .inr x,v=>Value.isStrOf x v
def V1(w:World):Key->Int
 | .inl k=>hashInt k
 | .inr x=>hashStr w x
theorem dg:∀ {k:Key} {v:Value},QV k v = true -> (∃ i t,k = Sum.inl i /\ v = Value.int i t) \/ (∃ x t,k = Sum.inr x /\ v = Value.str x t)
 | .inl i,v,h=>by
  obtain ⟨t,e⟩:=Value.isInt_shape (k:=i) (v:=v) h
  exact .inl ⟨i,t,rfl,e⟩
 | .inr x,v,h=>by
  obtain ⟨t,e⟩:=Value.isStrOf_shape (x:=x) (v:=v) h
  exact .inr ⟨x,t,rfl,e⟩
theorem Q7(a b:Int):decide ((Sum.inl a:Key)=Sum.inl b)=(a==b):=by
 by_cases e:a=b
 ·subst e;simp
 ·have h:¬(Sum.inl a:Key)=Sum.inl b:=fun q=>e (Sum.inl.inj q)
  rw[decide_eq_false h]
  exact(beq_eq_false_iff_ne.mpr e).symm
theorem SN(a b:Str):decide ((Sum.inr a:Key)=Sum.inr b)=decide (a=b):=by
 by_cases e:a=b
 ·subst e;simp
 ·have h:¬(Sum.inr a:Key)=Sum.inr b:=fun q=>e (Sum.inr.inj q)
  rw[decide_eq_false h,decide_eq_false e]
theorem Sy(a:Int)(b:Str):decide ((Sum.inl a:Key)=Sum.inr b)=false:=decide_eq_false (fun q=>nomatch q)
theorem QX(a:Str)(b:Int):decide ((Sum.inr a:Key)=Sum.inl b)=false:=decide_eq_false (fun q=>nomatch q)
def Il(prog:Program)(w:World):PySem.KeyKind prog w Key where
 is:=QV
 hash:=V1 w
 inj:=fun v a b ha hb=>by
  rcases dg ha with⟨i,t,rfl,rfl⟩|⟨x,t,rfl,rfl⟩
  ·rcases dg hb with⟨j,u,rfl,e⟩|⟨y,u,rfl,e⟩
   ·injection e with e1 _;rw[e1]
   ·exact nomatch e
  ·rcases dg hb with⟨j,u,rfl,e⟩|⟨y,u,rfl,e⟩
   ·exact nomatch e
   ·injection e with e1 _;rw[e1]
 byValue:=fun k v h=>by
  rcases dg h with⟨i,t,rfl,rfl⟩|⟨x,t,rfl,rfl⟩ <;> rfl
 pyHash:=fun hv h=>by
  rcases dg hv with⟨i,t,rfl,rfl⟩|⟨x,t,rfl,rfl⟩
  ·exact wpAny_pyHash_int h
  ·exact wpAny_pyHash_str h
 eqBool:=fun hu hv h=>by
  rcases dg hu with⟨i,t,rfl,rfl⟩|⟨x,t,rfl,rfl⟩
  ·rcases dg hv with⟨j,u,rfl,rfl⟩|⟨y,u,rfl,rfl⟩
   ·rw[Q7]at h;exact wpAny_eqBool_int h
   ·rw[Sy]at h;exact SeqAt.EqAt.int_str i t y u _ _ _ _ h
  ·rcases dg hv with⟨j,u,rfl,rfl⟩|⟨y,u,rfl,rfl⟩
   ·rw[QX]at h;exact SeqAt.EqAt.str_int x t j u _ _ _ _ h
   ·rw[SN]at h;exact wpAny_eqBool_str h
 «strs»:=fun k x t v h=>by
  rcases dg h with⟨i,u,rfl,e⟩|⟨y,u,rfl,e⟩
  ·exact nomatch e
  ·injection e with e1 _
   subst e1
   cases v <;> rfl
inductive V where
 | non|bl (b:Bool)|int (i:Int)|str (x:Str)|byt (b:Array UInt8)|flt (b:UInt64)|ref (a:Addr)|ty (n:String)
 deriving DecidableEq
def RelV:V->Value->Prop
 | .non,u=>u=Value.none
 | .bl b,u=>u=Value.bool b
 | .int i,u=>∃ t,u=Value.int i t
 | .str x,u=>∃ t,u=Value.str x t
 | .byt b,u=>∃ t,u=Value.bytes b t
 | .flt b,u=>∃ t,u=Value.float b t
 | .ref a,u=>u=Value.ref a
 | .ty n,u=>u=Value.type n
abbrev Vals:List V->List Value->Prop:=Paired RelV
theorem Vals.length{xs:List V}{us:List Value}(r:Vals xs us):xs.length=us.length:=Paired.length r
theorem Vals.get:∀{xs:List V}{us:List Value}{i:Nat}{x:V},Vals xs us->xs[i]? = some x->∃ u,us[i]? = some u/\RelV x u
 | _,_,_,_,.nil,e=>by simp at e
 | _,_,0,_,.cons r _,e=>by simp at e;subst e;exact⟨_,rfl,r⟩
 | _,_,i+1,x,.cons _ t,e=>by
  obtain⟨u,h1,h2⟩:=Vals.get (i:=i) (x:=x) t (by simpa using e)
  exact⟨u,by simpa using h1,h2⟩
theorem Vals.set{x:V}{u:Value}(r:RelV x u):∀ {xs:List V} {us:List Value} (i:Nat),Vals xs us->Vals (xs.set i x) (us.set i u)
 | _,_,_,.nil=>.nil
 | _,_,0,.cons _ t=>.cons r t
 | _,_,i+1,.cons q t=>.cons q (Vals.set r i t)
theorem Vals.append:∀ {xs ys:List V} {us ws:List Value},Vals xs us->Vals ys ws->Vals (xs++ys) (us++ws)
 | _,_,_,_,.nil,s=>s
 | _,_,_,_,.cons r t,s=>.cons r (Vals.append t s)
theorem Vals.take:∀ {xs:List V} {us:List Value} (n:Nat),Vals xs us->Vals (xs.take n) (us.take n)
 | _,_,0,_=>.nil
 | _,_,_+1,.nil=>.nil
 | _,_,n+1,.cons r t=>.cons r (Vals.take n t)
theorem Vals.drop:∀ {xs:List V} {us:List Value} (n:Nat),Vals xs us->Vals (xs.drop n) (us.drop n)
 | _,_,0,r=>r
 | _,_,_+1,.nil=>.nil
 | _,_,n+1,.cons _ t=>Vals.drop n t
def rP:Option V->Option Value->Prop
 | some v,some u=>RelV v u
 | none,none=>True
 | _,_=>False
def KV{κ:Type}:List (κ×V)->List (κ×Value)->Prop:=Paired fun(p:κ×V) (q:κ×Value)=>p.1=q.1/\RelV p.2 q.2
def kV:Key->V
 | .inl i=>.int i
 | .inr x=>.str x
inductive HO where
 | lst (xs:List V)
 | tup (xs:List V)
 | dK (kvs:List (Key×V))|dT (kvs:List (List Key×V))
 | set (S:Int->Bool) (n:Nat)
 | ins (C dx:Addr) (fs:List (Str×V))
 | own (x:Addr)
 | xd (fs:List (Str×V))
 | met (f x:Addr)
 | rng (lo hi:Int)
 | frz (o:Obj) (u:HO)
 | tbl (ps:Array Value)
 | ext (φ:Heap->Prop)
abbrev Hp:=Addr->Option HO
def upd(H:Hp)(a:Addr)(o:HO):Hp:=fun b=>if b=a then some o else H b
theorem ak{H:Hp}{a:Addr}{o:HO}:upd H a o a=some o:=by unfold upd;rw[if_pos rfl]
theorem aQ{H:Hp}{a b:Addr}{o:HO}(h:b≠a):upd H a o b=H b:=by unfold upd;rw[if_neg h]
theorem qi{H:Hp}{a b:Addr}{o u:HO}(h:H a=some o)(h':H b=some u)(d:o≠u):a≠b:=by
 intro e;subst e;rw[h]at h';exact d (Option.some.inj h')
theorem aK{H:Hp}{a b:Addr}{o:HO}(h:H a=some o)(h':H b=none):a≠b:=by
 intro e;subst e;rw[h]at h';cases h'
section
variable (P:Program) (w:World)
def dB(H:Hp)(h:Heap)(a:Addr):HO->Prop
 | .lst xs=>xs.length<=sizeLine/\∃ (its:List Value) (n:Nat),Vals xs its/\h.get? a=some {cls:=.type "list",data:=.seq its.toArray n}
 | .tup xs=>xs.length<=sizeLine/\∃ its:List Value,Vals xs its/\IsTup h a its.toArray
 | .dK kvs=>kvs.length<=sizeLine/\(a==sysModules)=false/\∃ vs,KV kvs vs/\h.DictOf (Il P w) a vs
 | .dT kvs=>kvs.length<=sizeLine/\(a==sysModules)=false/\∃ xs:List (List Key×Addr×Value),
   Paired (fun(p:List Key×V) (q:List Key×Addr×Value)=>p.1=q.1/\H q.2.1=some (.tup (p.1.map kV))/\RelV p.2 q.2.2) kvs xs /\
   ∃ o es ep,h.get? a=some o/\o.ExactDict/\o.data=.dict es ep/\es.toList=xs.map (entryOfKey (tupleKind (Il P w)))/\(xs.map (·.1)).Nodup
 | .set S n=>h.SetOf (intKind P w) a S n
 | .ins C dx fs=>H dx=some (.own a)/\fs.length<=1000/\dx≠a/\h.get? a=some (instObj C dx) /\
   ∃ mA,h.Ns1 dx mA/\(∀ f,rP (fs.lookup f) (mA f))/\PySem.Within mA (fs.map (·.1))
 | .own _=>∃ o,h.get? a=some o
 | .xd fs=>∃ mA,h.Ns1 a mA/\∀ f,rP (fs.lookup f) (mA f)
 | .rng lo hi=>∃ t u v,h.get? a=some {cls:=.type "range",data:=.fields #[.int lo t,.int hi u,.int 1 v]}
 | .frz o u=>h.get? a=some o/\dB H h a u
 | .tbl ps=>h.get? a=some {cls:=.none,data:=.fields ps}
 | .met f x=>h.get? a=some (methodObj (.ref f) (.ref x))
 | .ext φ=>φ h/\(∃ o,h.get? a=some o)/\∀ h1 h2:Heap,φ h1->(∀ o,h1.get? a=some o->h2.get? a=some o)->φ h2
def HOk(H:Hp)(h:Heap):Prop:=∀ a o,H a=some o->dB P w H h a o
end
section
variable {P:Program} {w:World} {H H':Hp} {h h':Heap} {a:Addr} {o:HO}
theorem dB.lt(x:dB P w H h a o):a<h.objs.size:=by
 cases o with
 | lst xs=>obtain⟨_,_,_,_,e⟩:=x;exact Heap.lt_size e
 | tup xs=>obtain⟨_,_,_,p⟩:=x;exact p.lt
 | dK kvs=>obtain⟨_,_,_,_,o,_,_,e,_⟩:=x;exact Heap.lt_size e
 | dT kvs=>obtain⟨_,_,_,_,o,_,_,e,_⟩:=x;exact Heap.lt_size e
 | set S n=>obtain⟨o,_,_,_,e,_⟩:=x;exact Heap.lt_size e
 | ins C dx fs=>obtain⟨_,_,_,e,_⟩:=x;exact Heap.lt_size e
 | own y=>obtain⟨_,e⟩:=x;exact Heap.lt_size e
 | xd fs=>obtain⟨_,⟨_,_,_,e,_⟩,_⟩:=x;exact Heap.lt_size e
 | rng lo hi=>obtain⟨_,_,_,e⟩:=x;exact Heap.lt_size e
 | frz ob u=>obtain⟨e,_⟩:=x;exact Heap.lt_size e
 | tbl ps=>exact Heap.lt_size (show h.get? a=some _ from x)
 | met f y=>exact Heap.lt_size (show h.get? a=some _ from x)
 | ext φ=>obtain⟨_,⟨_,e⟩,_⟩:=x;exact Heap.lt_size e
theorem Paired.mapP{α β:Type}{F G:α->β->Prop}:∀ {l₁:List α} {l₂:List β},Paired F l₁ l₂->(∀ a b,F a b->G a b)->Paired G l₁ l₂
 | _,_,.nil,_=>.nil
 | _,_,.cons r t,f=>.cons (f _ _ r) (Paired.mapP t f)
theorem dB.stay(x:dB P w H h a o)(k:∀ b u,(b=a\/H b=some (.own a))->h.get? b=some u->h'.get? b=some u)
  (ho:∀ b,H b=some (.own a)->H' b=some (.own a))(ht:∀ b xs,H b=some (.tup xs)->H' b=some (.tup xs)):dB P w H' h' a o:=by
 induction o with
 | lst xs=>obtain⟨z,its,n,r,e⟩:=x;exact⟨z,its,n,r,k _ _ (.inl rfl) e⟩
 | tup xs=>obtain⟨z,its,r,ob,e,c⟩:=x;exact⟨z,its,r,ob,k _ _ (.inl rfl) e,c⟩
 | dK kvs=>obtain⟨z,y,vs,r,ob,es,ep,e,c⟩:=x;exact⟨z,y,vs,r,ob,es,ep,k _ _ (.inl rfl) e,c⟩
 | dT kvs =>
  obtain⟨z,y,xs,r,ob,es,ep,e,c⟩:=x
  exact⟨z,y,xs,Paired.mapP r fun p q z=>⟨z.1,ht _ _ z.2.1,z.2.2⟩,ob,es,ep,k _ _ (.inl rfl) e,c⟩
 | set S n=>obtain⟨ob,es,ep,t,e,c⟩:=x;exact⟨ob,es,ep,t,k _ _ (.inl rfl) e,c⟩
 | ins C dx fs =>
  obtain⟨d,z,ne,e,mA,⟨od,es,ep,e2,c⟩,r⟩:=x
  exact⟨ho _ d,z,ne,k _ _ (.inl rfl) e,mA,⟨od,es,ep,k _ _ (.inr d) e2,c⟩,r⟩
 | own y=>obtain⟨ob,e⟩:=x;exact⟨ob,k _ _ (.inl rfl) e⟩
 | xd fs=>obtain⟨mA,⟨od,es,ep,e,c⟩,r⟩:=x;exact⟨mA,⟨od,es,ep,k _ _ (.inl rfl) e,c⟩,r⟩
 | rng lo hi=>obtain⟨t,u,v,e⟩:=x;exact⟨t,u,v,k _ _ (.inl rfl) e⟩
 | frz ob u ih=>obtain⟨e,q⟩:=x;exact⟨k _ _ (.inl rfl) e,ih q⟩
 | tbl ps =>
  have e:h.get? a=some {cls:=.none,data:=.fields ps}:=x
  show h'.get? a=some {cls:=.none,data:=.fields ps}
  exact k a _ (.inl rfl) e
 | met f y =>
  have e:h.get? a=some (methodObj (.ref f) (.ref y)):=x
  show h'.get? a=some (methodObj (.ref f) (.ref y))
  exact k a _ (.inl rfl) e
 | ext φ=>obtain⟨p,⟨o,e⟩,st⟩:=x;exact⟨st _ _ p fun o q=>k _ _ (.inl rfl) q,⟨o,k _ _ (.inl rfl) e⟩,st⟩
theorem HOk.lt(x:HOk P w H h)(e:H a=some o):a<h.objs.size:=(x a o e).lt
theorem HOk.fresh(x:HOk P w H h)(e:h.objs.size<=a):H a=none:=by
 cases q:H a with
 | none=>rfl
 | some u=>exact absurd (lt_of_lt_of_le (x.lt q) e) (lt_irrefl _)
theorem HOk.kept(x:HOk P w H h)(k:∀ b u,h.get? b=some u->h'.get? b=some u):HOk P w H h':=fun a o e =>
 (x a o e).stay (fun b u _ q=>k b u q) (fun _ q=>q) fun _ _ q=>q
theorem HOk.laid(x:HOk P w H h)(k:∀ b u,h.get? b=some u->h'.get? b=some u)(hp:h.objs.size<=a)(new:dB P w (upd H a o) h' a o):HOk P w (upd H a o) h':=fun b u e=>by
 have hn:=x.fresh hp
 by_cases hb:b=a
 ·subst hb;rw[ak]at e;cases e;exact new
 ·rw[aQ hb]at e
  exact(x b u e).stay (fun c v _ q=>k c v q) (fun c q=>by rw[aQ (aK q hn)];exact q) fun c xs q=>by rw[aQ (aK q hn)];exact q
end
def Rd(H:Hp)(a:Addr)(u:HO):Prop:=H a=some u\/∃ o,H a=some (.frz o u)
theorem Rd.ok{P:Program}{w:World}{H:Hp}{h:Heap}{a:Addr}{u:HO}(r:Rd H a u)(x:HOk P w H h):dB P w H h a u:=by
 rcases r with r|⟨o,r⟩
 ·exact x a u r
 ·obtain⟨_,q⟩:=x a _ r
  exact q
def Mut:Option HO->Prop
 | some (.lst _)=>True
 | some (.dK _)=>True
 | some (.dT _)=>True
 | some (.set _ _)=>True
 | some (.ins _ _ _)=>True
 | some (.ext _)=>True
 | _=>False
section
variable {P:Program} {w:World} {H:Hp} {h h':Heap} {x e:Addr} {o':HO}
theorem HOk.write(ok:HOk P w H h)(mu:Mut (H x))(he:e=x\/H e=some (.own x))(k:∀ b u,b≠e->h.get? b=some u->h'.get? b=some u)(heo:∃ u,h'.get? e=some u)
  (new:dB P w (upd H x o') h' x o'):HOk P w (upd H x o') h':=fun b u q=>by
 have nown:∀ c y,H c=some (.own y)->c≠x:=fun c y r z=>by subst z;rw[r]at mu;exact mu
 have ntup:∀ c xs,H c=some (.tup xs)->c≠x:=fun c xs r z=>by subst z;rw[r]at mu;exact mu
 by_cases hb:b=x
 ·subst hb;rw[ak]at q;cases q;exact new
 ·rw[aQ hb]at q
  by_cases hbe:b=e
  ·have q':H b=some (.own x):=by
    rcases he with z|z
    ·exact absurd (hbe.trans z) hb
    ·rw[hbe];exact z
   rw[q]at q';cases q'
   obtain⟨v,hv⟩:=heo
   exact⟨v,by rw[hbe];exact hv⟩
  ·refine(ok b u q).stay (fun c v hc r=>k c v ?_ r) (fun c r=>by rw[aQ (nown c b r)];exact r) fun c xs r=>by rw[aQ (ntup c xs r)];exact r
   rcases hc with rfl|hc
   ·exact hbe
   ·rintro rfl
    rcases he with z|z
    ·exact nown c b hc z
    ·rw[hc]at z;cases z;exact hb rfl
end
structure Un(fs ex:List Addr)(H H':Hp)(h h':Heap):Prop where
 keep:∀ b o,h.get? b=some o->H b=none->b∉fs->b∉ex->h'.get? b=some o
 slot:∀ b o,h.get? b=some o->H b=none->b∈fs->b∉ex->∃ sl,h'.get? b=some {o with slots:=sl}
 free:∀ b o,h.get? b=some o->H b=none->b∉ex->H' b=none
 there:∀ b o,h.get? b=some o->b∉ex->∃ o',h'.get? b=some o'
 tups:∀ b xs,H b=some (.tup xs)->H' b=some (.tup xs)
 frzs:∀ b o u,H b=some (.frz o u)->H' b=some (.frz o u)
 tbls:∀ b ps,H b=some (.tbl ps)->∃ more,H' b=some (.tbl (ps++more))
section
variable {fs fs' ex ex':List Addr} {H H1 H2:Hp} {h h1 h2 h':Heap} {a x e:Addr} {o:HO}
theorem Un.any(u:Un fs ex H H1 h h1){b:Addr}{ob:Obj}(q:h.get? b=some ob)(n:H b=none)(hx:b∉ex):∃ sl,h1.get? b=some {ob with slots:=sl}:=by
 by_cases hb:b∈fs
 ·exact u.slot b ob q n hb hx
 ·exact⟨ob.slots,u.keep b ob q n hb hx⟩
theorem Un.kept(k:∀ b u,h.get? b=some u->h'.get? b=some u):Un fs ex H H h h' :=
 ⟨fun b ob q _ _ _=>k b ob q,fun b ob q _ _ _=>⟨ob.slots,k b ob q⟩,fun _ _ _ n _=>n,fun b ob q _=>⟨ob,k b ob q⟩,fun _ _ q=>q,fun _ _ _ q=>q,fun _ ps q=>⟨#[],by rw[q];simp⟩⟩
theorem Un.refl:Un fs ex H H h h:=Un.kept fun _ _ q=>q
theorem Un.laid(k:∀ b u,h.get? b=some u->h'.get? b=some u)(hp:h.objs.size<=a)(hn:H a=none):Un fs ex H (upd H a o) h h' where
 keep:=fun b u q _ _ _=>k b u q
 slot:=fun b u q _ _ _=>⟨u.slots,k b u q⟩
 free:=fun b u q n _=>by rw[aQ (ne_of_lt (lt_of_lt_of_le (Heap.lt_size q) hp))];exact n
 there:=fun b u q _=>⟨u,k b u q⟩
 tups:=fun b xs q=>by rw[aQ (aK q hn)];exact q
 frzs:=fun b u xs q=>by rw[aQ (aK q hn)];exact q
 tbls:=fun b ps q=>⟨#[],by rw[aQ (aK q hn),q];simp⟩
theorem Un.write(mu:Mut (H x))(he:e=x\/H e=some (.own x))(k:∀ b u,b≠e->h.get? b=some u->h'.get? b=some u)(heo:∃ u,h'.get? e=some u):Un fs ex H (upd H x o) h h':=by
 have hx:∀ b,H b=none->b≠x:=fun b n z=>by subst z;rw[n]at mu;exact mu
 have hb:∀ b,H b=none->b≠e:=fun b n z=>by
  subst z
  rcases he with r|r
  ·exact hx b n r
  ·rw[n]at r;cases r
 have hm:∀ b u,H b=some u->¬ Mut (some u)->b≠x:=fun b u q nm z=>by subst z;rw[q]at mu;exact nm mu
 refine⟨fun b u q n _ _=>k b u (hb b n) q,fun b u q n _ _=>⟨u.slots,k b u (hb b n) q⟩,fun b u q n _=>by rw[aQ (hx b n)];exact n,fun b u q _=>?_,
  fun b xs q=>by rw[aQ (hm b _ q fun z=>z)];exact q,fun b u xs q=>by rw[aQ (hm b _ q fun z=>z)];exact q,fun b ps q=>⟨#[],by rw[aQ (hm b _ q fun z=>z),q];simp⟩⟩
 by_cases hbe:b=e
 ·subst hbe;exact heo
 ·exact⟨u,k b u hbe q⟩
end
def trk(h:Heap)(H:Hp):List Addr:=(List.range h.objs.size).filter fun a=>(H a).isSome
def Bo(h:Heap)(H:Hp):Heap:=PySem.W.hideAll h (trk h H)
theorem Jv(h:Heap)(H:Hp):(Bo h H).objs.size=h.objs.size:=PySem.W.hideAll_size _ _
theorem Kc{h:Heap}{H:Hp}{b:Addr}{o:Obj}(e:h.get? b=some o)(n:H b=none):(Bo h H).get? b=some o :=
 PySem.W.hideAll_get _ e fun hm=>by
  have q:(H b).isSome=true:=(mem_filter.mp hm).2
  rw[n]at q;simp at q
theorem PX{h:Heap}{H:Hp}{b:Addr}{o:Obj}(e:(Bo h H).get? b=some o):h.get? b=some o/\H b=none:=by
 have e':h.get? b=some o:=PySem.W.of_hideAll (trk h H) e
 refine⟨e',?_⟩
 cases q:H b with
 | none=>rfl
 | some x =>
  have hm:b∈trk h H:=mem_filter.mpr ⟨mem_range.mpr (Heap.lt_size e'),by simp[q]⟩
  have z:(Bo h H).get? b=none:=PySem.W.hideAll_none (trk h H) hm
  rw[z]at e;cases e
structure Mod(K:Frag)(mg:MG)(base:Heap):Prop where
 kin:K.In base
 glob:base.Ns mainGlobals mg
 blt:∃ mb,base.Ns builtinsNs mb/\∀ x:Str,x ≠ "__name__" -> mb x=bootBuiltins x
 nolimit:base.NoLimit
structure Cx where
 prog:Program
 w:World
 K:Frag
 mg:Str->Option Value
 base:Heap
 A:Around
 N:List Str
 s₀:Shared
 H₀:Hp
 env:Env
 outer:List Env
 stack:List Env
 ex:List Addr
 fn:Str->Bool
 calm:Bool
 pn:OP
 xe:Value->Shared->Prop
def frs(l:List Env):List Addr:=l.filterMap (·.frame)
abbrev Cx.fs(X:Cx):List Addr:=frs X.outer
def Vis(sc:Scope)(x:Str):Prop:=sc.names.lookup x=some .local\/sc.names.lookup x=some .cell\/sc.names.lookup x=some .free
def Loc(sc:Scope)(x:Str):Prop:=sc.names.lookup x=some .local\/sc.names.lookup x=some .cell
def Look(env:Env)(h:Heap)(m:MG)(x:Str)(u:Value):Prop :=
 (env.kindOf x=some .local/\m x=some u)\/((env.kindOf x=some .cell\/env.kindOf x=some .free)/\∃ c,env.cells.lookup x=some c/\h.IsCell c (some u))
structure Cx.Ok(X:Cx):Prop where
 mod:Mod X.K X.mg X.base
 kind:X.env.scope.kind=.function
 glob:X.env.globals=mainGlobals
 blt:X.env.builtins=builtinsNs
 above:X.s₀.heap.objs.size<=X.env.locals
 inj:∀ x y c,X.env.cells.lookup x=some c->X.env.cells.lookup y=some c->x=y
 has:∀ x,(X.env.kindOf x=some .cell\/X.env.kindOf x=some .free)->∃ c,X.env.cells.lookup x=some c
 cab:∀ x c,X.fn x=true->X.env.cells.lookup x=some c->X.s₀.heap.objs.size<=c
 hd:X.calm=true->X.A.handled=none
 frames:X.A.frames=some X.stack
 stk:X.stack=X.outer\/(X.stack=X.env::X.outer/\X.env.frame=some X.env.locals)
 exf:∀ b∈X.ex,b≠X.env.locals/\∀ x c,X.env.cells.lookup x=some c->c≠b
 bs:∀ b o,X.base.get? b=some o->X.s₀.heap.get? b=some o/\X.H₀ b=none
 bsz:X.base.objs.size<=X.s₀.heap.objs.size
 noex:∀ b o,X.base.get? b=some o->b∉X.ex
 exfs:∀ b∈X.ex,b∉X.fs
 funs:X.s₀.heap.FunFrames X.base X.outer
 frf:∀ b∈X.fs,X.H₀ b=none
structure Inv(X:Cx)(pins:OP)(σ:List (Option V))(H:Hp)(s:Shared):Prop where
 ok:X.Ok
 os:s.os=X.s₀.os
 bare:AllBare s.gens
 base:Un X.fs X.ex X.H₀ H X.s₀.heap s.heap
 loc:∃ m,s.heap.Ns X.env.locals m/\∀ (i:Nat) (x:Str) (v:V),X.N[i]? = some x->σ[i]? = some (some v)->Vis X.env.scope x->∃ u,RelV v u/\Look X.env s.heap m x u
 cell:∀ x c,X.env.cells.lookup x=some c->∃ v,s.heap.IsCell c v
 free:H X.env.locals=none
 freeC:∀ x c,X.env.cells.lookup x=some c->H c=none
 pin:∀ p∈X.pn++pins,s.heap.get? p.1=some p.2/\H p.1=none/\p.1≠X.env.locals/\p.1∉X.fs/\∀ v,p.2.data≠.cell v
 hok:HOk X.prog X.w H s.heap
 len:σ.length=X.N.length
section
variable {X:Cx} {pins:OP} {σ:List (Option V)} {H H':Hp} {s:Shared} {h':Heap}
theorem Cx.Ok.nofr(ok:X.Ok){b:Addr}{o:Obj}(e:X.base.get? b=some o):b∉X.fs:=fun hb=>by
 have:=(ok.funs.mem hb).1
 rw[e]at this;cases this
theorem Inv.bs(I:Inv X pins σ H s):∀ b o,X.base.get? b=some o->s.heap.get? b=some o/\H b=none:=fun b o e =>
 ⟨I.base.keep b o (I.ok.bs b o e).1 (I.ok.bs b o e).2 (I.ok.nofr e) (I.ok.noex b o e),I.base.free b o (I.ok.bs b o e).1 (I.ok.bs b o e).2 (I.ok.noex b o e)⟩
theorem Inv.bk(I:Inv X pins σ H s):∀ b o,X.base.get? b=some o->s.heap.get? b=some o:=fun b o e=>(I.bs b o e).1
theorem Inv.mod(I:Inv X pins σ H s):Mod X.K X.mg X.base:=I.ok.mod
theorem Inv.kIn(I:Inv X pins σ H s):X.K.In s.heap:=I.ok.mod.kin.keeps I.bk
theorem Inv.lt(I:Inv X pins σ H s):X.env.locals<s.heap.objs.size:=let⟨_,hn,_⟩:=I.loc;hn.lt
theorem Inv.sz(I:Inv X pins σ H s):X.s₀.heap.objs.size<=s.heap.objs.size:=le_trans I.ok.above (le_of_lt I.lt)
theorem Inv.nofs(I:Inv X pins σ H s){a:Addr}(h:s.heap.objs.size<=a):a∉X.fs:=fun hb=>by
 obtain⟨_,o,ho,_⟩:=I.ok.funs.mem hb
 exact absurd (lt_of_lt_of_le (Heap.lt_size ho) (le_trans I.sz h)) (lt_irrefl _)
theorem Inv.cne(I:Inv X pins σ H s):∀ x c,X.env.cells.lookup x=some c->c≠X.env.locals:=fun x c e z=>by
 obtain⟨v,o,ho,hd⟩:=I.cell x c e
 obtain⟨m,⟨o',es,ep,ho',hd',_⟩,_⟩:=I.loc
 rw[z,ho']at ho;cases ho;rw[hd']at hd;cases hd
theorem Inv.funs(I:Inv X pins σ H s):s.heap.FunFrames X.base X.outer:=by
 have all:∀ (l:List Env),(∀ b∈frs l,b∈X.fs)->X.s₀.heap.FunFrames X.base l->s.heap.FunFrames X.base l:=by
  intro l
  induction l with
  | nil=>intro _ _;trivial
  | cons env r ih =>
   intro hs hl
   obtain⟨hk,⟨L,o,hf,hn,ho,hd⟩,hr⟩:=hl
   have hL:L∈X.fs:=hs L (by unfold frs;rw[List.filterMap_cons,hf];exact mem_cons_self)
   obtain⟨sl,e⟩:=I.base.slot L o ho (I.ok.frf L hL) hL fun z=>I.ok.exfs L z hL
   exact⟨hk,⟨L,_,hf,hn,e,hd⟩,ih (fun b hb=>hs b (by unfold frs;rw[List.filterMap_cons,hf];exact mem_cons_of_mem _ hb)) hr⟩
 exact all X.outer (fun _ hb=>hb) I.ok.funs
theorem Inv.stack (I:Inv X pins σ H s):s.heap.FunFrames X.base X.stack:=by
 rcases I.ok.stk with e | ⟨e,hf⟩
 ·rw [e]; exact I.funs
 ·rw [e]
  obtain ⟨m,hn,_⟩:=I.loc
  refine .cons (by rw [I.ok.kind]; decide) hf hn ?_ I.funs
  exact Heap.get?_none_of_le (le_trans I.ok.bsz I.ok.above)
theorem Inv.stkSub(I:Inv X pins σ H s):∀ b∈frs X.stack,b∈X.env.locals::X.fs:=fun b hb=>by
 rcases I.ok.stk with e|⟨e,hf⟩
 ·rw[e]at hb;exact mem_cons_of_mem _ hb
 ·rw[e]at hb
  unfold frs at hb
  rw[List.filterMap_cons,hf]at hb
  exact hb
theorem Inv.stkFree(I:Inv X pins σ H s):∀ b∈frs X.stack,H b=none:=fun b hb=>by
 rcases mem_cons.mp (I.stkSub b hb)with e|hb
 ·rw[e];exact I.free
 ·obtain⟨_,o,ho,_⟩:=I.ok.funs.mem hb
  exact I.base.free b o ho (I.ok.frf b hb) fun z=>I.ok.exfs b z hb
theorem Inv.step {g':Array GenState} {t':Nat} {d':Drawn} {ch:List Addr} (I:Inv X pins σ H s)
  (hch:∀ b ∈ ch,(b ∈ X.ex \/ X.s₀.heap.objs.size <= b) /\ b ≠ X.env.locals /\ (∀ x c,X.env.cells.lookup x = some c -> c ≠ b) /\ ∀ p ∈ X.pn ++ pins,p.1 ≠ b)
  (keep:∀ b o,b ≠ X.env.locals -> b ∉ X.fs -> b ∉ ch -> s.heap.get? b = some o -> H b = none -> h'.get? b = some o)
  (slot:∀ b o,b ≠ X.env.locals -> b ∈ X.fs -> b ∉ ch -> s.heap.get? b = some o -> H b = none -> ∃ sl,h'.get? b = some { o with slots:=sl }) (free:∀ b o,b ∉ ch -> s.heap.get? b = some o -> H b = none -> H' b = none)
  (there:∀ b o,b ∉ ch -> s.heap.get? b = some o -> ∃ o',h'.get? b = some o')
  (tups:∀ b xs,H b = some (.tup xs) -> H' b = some (.tup xs)) (frzs:∀ b o u,H b = some (.frz o u) -> H' b = some (.frz o u)) (tbls:∀ b ps,H b = some (.tbl ps) -> ∃ more,H' b = some (.tbl (ps ++ more)))
  (ns:∀ m,s.heap.Ns X.env.locals m -> h'.Ns X.env.locals m) (hok:HOk X.prog X.w H' h') (hg:AllBare g') :
  Inv X pins σ H' { s with heap:=h',gens:=g',drawn:=d',toks:=t' }:=by
 have neL:∀ b o,X.s₀.heap.get? b = some o -> b ≠ X.env.locals:=fun b o e=>ne_of_lt (lt_of_lt_of_le (Heap.lt_size e) I.ok.above)
 have neC:∀ b o,X.s₀.heap.get? b = some o -> b ∉ X.ex -> b ∉ ch:=fun b o e hx hb=>by
  rcases (hch b hb).1 with z | z
  ·exact hx z
  ·exact absurd (lt_of_lt_of_le (Heap.lt_size e) z) (lt_irrefl _)
 have cellK:∀ x c,X.env.cells.lookup x = some c -> ∀ v,s.heap.IsCell c v -> h'.IsCell c v:=fun x c e v ⟨o,ho,hd⟩=>by
  have nch:c ∉ ch:=fun z=>(hch c z).2.2.1 x c e rfl
  by_cases hc:c ∈ X.fs
  ·obtain ⟨sl,q⟩:=slot c o (I.cne x c e) hc nch ho (I.freeC x c e)
   exact ⟨_,q,hd⟩
  ·exact ⟨o,keep c o (I.cne x c e) hc nch ho (I.freeC x c e),hd⟩
 refine ⟨I.ok,I.os,hg,⟨fun b o e n hb hx=>?_,fun b o e n hb hx=>?_,fun b o e n hx=>?_,fun b o e hx=>?_,fun b xs e=>tups b xs (I.base.tups b xs e),fun b o xs e=>frzs b o xs (I.base.frzs b o xs e),fun b ps e=>?_⟩,?_,fun x c e=>?_,?_,fun x c e=>?_,fun p hp=>?_,hok,I.len⟩
 ·exact keep b o (neL b o e) hb (neC b o e hx) (I.base.keep b o e n hb hx) (I.base.free b o e n hx)
 ·obtain ⟨sl,e1⟩:=I.base.slot b o e n hb hx
  obtain ⟨sl',e2⟩:=slot b _ (neL b o e) hb (neC b o e hx) e1 (I.base.free b o e n hx)
  exact ⟨sl',e2⟩
 ·obtain ⟨o',e1⟩:=I.base.there b o e hx
  exact free b o' (neC b o e hx) e1 (I.base.free b o e n hx)
 ·obtain ⟨o',e1⟩:=I.base.there b o e hx
  exact there b o' (neC b o e hx) e1
 ·obtain ⟨m1,e1⟩:=I.base.tbls b ps e
  obtain ⟨m2,e2⟩:=tbls b _ e1
  exact ⟨m1 ++ m2,by rw [e2,Array.append_assoc]⟩
 ·obtain ⟨m,hn,hl⟩:=I.loc
  refine ⟨m,ns m hn,fun i x v e1 e2 e3=>?_⟩
  obtain ⟨u,r,l⟩:=hl i x v e1 e2 e3
  refine ⟨u,r,?_⟩
  rcases l with l | ⟨k,c,e,z⟩
  ·exact .inl l
  ·exact .inr ⟨k,c,e,cellK x c e _ z⟩
 ·obtain ⟨v,z⟩:=I.cell x c e
  exact ⟨v,cellK x c e v z⟩
 ·obtain ⟨m,⟨o,_,_,ho,_⟩,_⟩:=I.loc
  exact free _ o (fun z=>(hch _ z).2.1 rfl) ho I.free
 ·obtain ⟨v,o,ho,hd⟩:=I.cell x c e
  exact free c o (fun z=>(hch c z).2.2.1 x c e rfl) ho (I.freeC x c e)
 ·obtain ⟨e,n,ne,nf,d⟩:=I.pin p hp
  have nch:p.1 ∉ ch:=fun z=>(hch p.1 z).2.2.2 p hp rfl
  exact ⟨keep p.1 p.2 ne nf nch e n,free p.1 p.2 nch e n,ne,nf,d⟩
theorem Inv.un{t':Nat}(I:Inv X pins σ H s)(u:Un X.fs [] H H' s.heap h')(hok:HOk X.prog X.w H' h'):Inv X pins σ H' {s with heap:=h',toks:=t'}:=by
 obtain⟨m,⟨o,es,ep,ho,r⟩,_⟩:=id I.loc
 obtain⟨sl,hL⟩:=u.any ho I.free Zc
 exact I.step (g':=s.gens) (d':=s.drawn) (ch:=[]) (fun _ z=>nomatch z) (fun b o _ hb _ e n=>u.keep b o e n hb Zc) (fun b o _ hb _ e n=>u.slot b o e n hb Zc) (fun b o _ e n=>u.free b o e n Zc) (fun b o _ e=>u.there b o e Zc) u.tups u.frzs u.tbls (fun m' hm=>by
  obtain⟨o',es',ep',ho',r'⟩:=hm
  rw[ho]at ho';cases ho'
  exact⟨_,es',ep',hL,r'⟩) hok I.bare
theorem Inv.call{g':Array GenState}{t':Nat}{d':Drawn}{ch:List Addr}(I:Inv X pins σ H s)(u:Un (frs X.stack) ch H H' s.heap h')(hok:HOk X.prog X.w H' h')(hg:AllBare g')
  (hch:∀ b∈ch,(b∈X.ex\/X.s₀.heap.objs.size<=b)/\b≠X.env.locals/\(∀ x c,X.env.cells.lookup x=some c->c≠b)/\∀ p∈X.pn++pins,p.1≠b) :
  Inv X pins σ H' {s with heap:=h',gens:=g',drawn:=d',toks:=t'}:=by
 obtain⟨m,⟨o,es,ep,ho,r⟩,_⟩:=id I.loc
 obtain⟨sl,hL⟩:=u.any ho I.free fun z=>(hch _ z).2.1 rfl
 exact I.step (ch:=ch) hch (fun b o hL hb hc e n=>u.keep b o e n (fun z=>(mem_cons.mp (I.stkSub b z)).elim hL hb) hc) (fun b o _ _ hc e n=>u.any e n hc) (fun b o hc e n=>u.free b o e n hc) (fun b o hc e=>u.there b o e hc) u.tups u.frzs u.tbls (fun m' hm=>by
  obtain⟨o',es',ep',ho',r'⟩:=hm
  rw[ho]at ho';cases ho'
  exact⟨_,es',ep',hL,r'⟩) hok hg
theorem Inv.turned{t':Nat}{it:Addr}(I:Inv X pins σ H s)(k:∀ b o,b≠it->s.heap.get? b=some o->h'.get? b=some o)(hn:H it=none)(hL:it≠X.env.locals)
  (h1:it∈X.ex\/X.s₀.heap.objs.size<=it)(h2:∀ x c,X.env.cells.lookup x=some c->c≠it)(h3:∀ p∈X.pn++pins,p.1≠it):Inv X pins σ H {s with heap:=h',toks:=t'}:=by
 have nit:∀ b u,H b=some u->b≠it:=fun b u e z=>by rw[z,hn]at e;cases e
 refine I.step (g':=s.gens) (d':=s.drawn) (ch:=[it]) (fun b hb=>?_) (fun b o _ _ hc e _=>k b o (fun z=>hc (by simp[z])) e) (fun b o _ _ hc e _=>⟨o.slots,k b o (fun z=>hc (by simp[z])) e⟩) (fun _ _ _ _ n=>n)
  (fun b o hc e=>⟨o,k b o (fun z=>hc (by simp[z])) e⟩) (fun _ _ e=>e) (fun _ _ _ e=>e) (fun b ps e=>⟨#[],by rw[e];simp⟩) (fun m hm=>?_) (fun b u e=>?_) I.bare
 ·have e:b=it:=by simpa using hb
  subst e
  exact⟨h1,hL,h2,h3⟩
 ·obtain⟨o,es,ep,ho,r⟩:=hm
  exact⟨o,es,ep,k _ o (Ne.symm hL) ho,r⟩
 ·refine(I.hok b u e).stay (fun c v hc q=>k c v ?_ q) (fun _ q=>q) fun _ _ q=>q
  rcases hc with z|z
  ·rw[z];exact nit b u e
  ·exact nit c _ z
theorem Inv.tok(I:Inv X pins σ H s)(t:Nat):Inv X pins σ H {s with toks:=t}:=I.un (h':=s.heap) (t':=t) Un.refl I.hok
theorem Inv.kept{t':Nat}(I:Inv X pins σ H s)(k:∀ b u,s.heap.get? b=some u->h'.get? b=some u):Inv X pins σ H {s with heap:=h',toks:=t'}:=I.un (Un.kept k) (I.hok.kept k)
theorem Inv.laid{a:Addr}{o:HO}{t':Nat}(I:Inv X pins σ H s)(k:∀ b u,s.heap.get? b=some u->h'.get? b=some u)(hp:s.heap.objs.size<=a)(new:dB X.prog X.w (upd H a o) h' a o) :
  Inv X pins σ (upd H a o) {s with heap:=h',toks:=t'}:=I.un (Un.laid k hp (I.hok.fresh hp)) (I.hok.laid k hp new)
theorem Inv.write{x e:Addr}{o:HO}{t':Nat}(I:Inv X pins σ H s)(mu:Mut (H x))(he:e=x\/H e=some (.own x))(k:∀ b u,b≠e->s.heap.get? b=some u->h'.get? b=some u)(heo:∃ u,h'.get? e=some u)
  (new:dB X.prog X.w (upd H x o) h' x o):Inv X pins σ (upd H x o) {s with heap:=h',toks:=t'}:=I.un (Un.write mu he k heo) (I.hok.write mu he k heo new)
theorem Inv.pins_of{pins':OP}(I:Inv X pins σ H s)(h:∀ p∈pins',s.heap.get? p.1=some p.2/\H p.1=none/\p.1≠X.env.locals/\p.1∉X.fs/\∀ v,p.2.data≠.cell v):Inv X pins' σ H s :=
 ⟨I.ok,I.os,I.bare,I.base,I.loc,I.cell,I.free,I.freeC,fun p hp=>(mem_append.mp hp).elim (fun z=>I.pin p (mem_append_left _ z)) (h p),I.hok,I.len⟩
theorem xU{N:List Str}(hN:N.Nodup){i j:Nat}{x:Str}(a:N[i]? = some x)(b:N[j]? = some x):i=j:=by
 obtain⟨h1,e1⟩:=List.getElem?_eq_some_iff.mp a
 obtain⟨h2,e2⟩:=List.getElem?_eq_some_iff.mp b
 exact(List.getElem_inj hN).mp (e1.trans e2.symm)
theorem yF {M:Model} {A:Around} {E:EV} {i:Nat} {x:Str} {v:V} {u:Value} {Q:Unit -> Shared -> Prop} (I:Inv X pins σ H s) (hN:X.N.Nodup) (hi:X.N[i]? = some x) (hx:Loc X.env.scope x) (r:RelV v u)
  (h:∀ s',Inv X pins (σ.set i (some v)) H s' -> (∃ a,Heap.SameBut a s.heap s'.heap /\ (a = X.env.locals \/ X.env.cells.lookup x = some a)) -> Q () s') (hf:X.fn x = true \/ X.env.scope.names.lookup x = some .local:=by first | exact .inl rfl | exact .inr rfl | assumption):wpAny M A (storeName X.env x u) Q E s:=by
 obtain ⟨m,hn,hl⟩:=id I.loc
 have hcls:(X.env.scope.kind == .class || (X.env.scope.kind == .module && X.env.locals != X.env.globals)) = false:=by rw [I.ok.kind]; rfl
 have hiσ:i < σ.length:=by rw [I.len]; exact (List.getElem?_eq_some_iff.mp hi).1
 have cne:=I.cne
 have tracked:∀ {a:Addr} {h':Heap},(∃ o,s.heap.get? a = some o /\ H a = none) -> Heap.SameBut a s.heap h' -> HOk X.prog X.w H h':=fun {a h'} ha hs b ob e=>by
  obtain ⟨_,_,hfree⟩:=ha
  refine (I.hok b ob e).stay (fun c w' hc q=>(hs.2 c ?_).trans q) (fun _ q=>q) fun _ _ q=>q
  rintro rfl
  rcases hc with rfl | hc
  ·rw [hfree] at e; cases e
  ·rw [hfree] at hc; cases hc
 rcases hx with hk | hk
 ·refine wpAny_storeName_local hk hn (fun h' hn' hs=>?_) hcls
  obtain ⟨oL,_,_,hoL,_⟩:=id hn
  refine h _ ⟨I.ok,I.os,I.bare,⟨fun b o e n hb hx=>?_,fun b o e n hb hx=>?_,I.base.free,fun b o e hx=>?_,I.base.tups,I.base.frzs,I.base.tbls⟩,⟨_,hn',fun j y v' e1 e2 e3=>?_⟩,fun y c e=>?_,I.free,I.freeC,fun p hp=>?_,tracked ⟨oL,hoL,I.free⟩ hs,by simpa using I.len⟩ ⟨_,hs,.inl rfl⟩
  ·exact (hs.2 b (ne_of_lt (lt_of_lt_of_le (Heap.lt_size e) I.ok.above))).trans (I.base.keep b o e n hb hx)
  ·obtain ⟨sl,e1⟩:=I.base.slot b o e n hb hx
   exact ⟨sl,(hs.2 b (ne_of_lt (lt_of_lt_of_le (Heap.lt_size e) I.ok.above))).trans e1⟩
  ·obtain ⟨o',e1⟩:=I.base.there b o e hx
   exact ⟨o',(hs.2 b (ne_of_lt (lt_of_lt_of_le (Heap.lt_size e) I.ok.above))).trans e1⟩
  ·by_cases hj:j = i
   ·subst hj
    rw [hi] at e1; cases e1
    rw [getElem?_set_self hiσ] at e2
    cases e2
    exact ⟨u,r,.inl ⟨hk,Zc⟩⟩
   ·rw [List.getElem?_set_ne (Ne.symm hj)] at e2
    obtain ⟨u',r',q⟩:=hl j y v' e1 e2 e3
    refine ⟨u',r',?_⟩
    rcases q with ⟨k,e⟩ | ⟨k,c,e,z⟩
    ·refine .inl ⟨k,?_⟩
     have:y ≠ x:=fun e=>hj (xU hN e1 (e ▸ hi))
     simp [this,e]
    ·exact .inr ⟨k,c,e,z.sameBut hs (cne y c e)⟩
  ·obtain ⟨w',z⟩:=I.cell y c e
   exact ⟨w',z.sameBut hs (cne y c e)⟩
  ·obtain ⟨e,n,ne,nf,d⟩:=I.pin p hp
   exact ⟨(hs.2 p.1 ne).trans e,n,ne,nf,d⟩
 ·have hfn:X.fn x = true:=by
   rcases hf with z | z
   ·exact z
   ·rw [z] at hk; cases hk
  obtain ⟨c,hc⟩:=I.ok.has x (.inl hk)
  obtain ⟨w',z⟩:=I.cell x c hc
  refine wpAny_storeName_cell I.ok.kind hk hc z (fun h' hc' hs=>?_)
  obtain ⟨oc,hoc,hocd⟩:=id z
  refine h { s with heap:=h' } ⟨I.ok,I.os,I.bare,⟨fun b o e n hb hx=>?_,fun b o e n hb hx=>?_,I.base.free,fun b o e hx=>?_,I.base.tups,I.base.frzs,I.base.tbls⟩,⟨m,hn.sameBut hs (Ne.symm (cne x c hc)),fun j y v' e1 e2 e3=>?_⟩,fun y c' e=>?_,I.free,I.freeC,fun p hp=>?_,tracked ⟨oc,hoc,I.freeC x c hc⟩ hs,by simpa using I.len⟩ ⟨c,hs,.inr hc⟩
  ·exact (hs.2 b (ne_of_lt (lt_of_lt_of_le (Heap.lt_size e) (I.ok.cab x c hfn hc)))).trans (I.base.keep b o e n hb hx)
  ·obtain ⟨sl,e1⟩:=I.base.slot b o e n hb hx
   exact ⟨sl,(hs.2 b (ne_of_lt (lt_of_lt_of_le (Heap.lt_size e) (I.ok.cab x c hfn hc)))).trans e1⟩
  ·obtain ⟨o',e1⟩:=I.base.there b o e hx
   exact ⟨o',(hs.2 b (ne_of_lt (lt_of_lt_of_le (Heap.lt_size e) (I.ok.cab x c hfn hc)))).trans e1⟩
  ·by_cases hj:j = i
   ·subst hj
    rw [hi] at e1; cases e1
    rw [getElem?_set_self hiσ] at e2
    cases e2
    exact ⟨u,r,.inr ⟨.inl hk,c,hc,hc'⟩⟩
   ·rw [List.getElem?_set_ne (Ne.symm hj)] at e2
    obtain ⟨u',r',q⟩:=hl j y v' e1 e2 e3
    refine ⟨u',r',?_⟩
    rcases q with q | ⟨k,c',e,z'⟩
    ·exact .inl q
    ·refine .inr ⟨k,c',e,z'.sameBut hs ?_⟩
     rintro rfl
     exact hj (xU hN e1 (I.ok.inj _ _ _ e hc ▸ hi))
  ·by_cases hcc:c' = c
   ·subst hcc; exact ⟨_,hc'⟩
   ·obtain ⟨w2,z2⟩:=I.cell y c' e
    exact ⟨w2,z2.sameBut hs hcc⟩
  ·obtain ⟨e,n,ne,nf,d⟩:=I.pin p hp
   refine ⟨(hs.2 p.1 ?_).trans e,n,ne,nf,d⟩
   intro q
   rw [q,hoc] at e
   have q':oc = p.2:=Option.some.inj e
   exact d w' (by rw [<- q']; exact hocd)
theorem ud {M:Model} {A:Around} {E:EV} {i:Nat} {x:Str} {v:V} {u:Value} {Q:Unit -> Shared -> Prop} (I:Inv X pins σ H s) (hN:X.N.Nodup) (hi:X.N[i]? = some x) (hx:Loc X.env.scope x) (r:RelV v u)
  (h:∀ s',Inv X pins (σ.set i (some v)) H s' -> Q () s') (hf:X.fn x = true \/ X.env.scope.names.lookup x = some .local:=by first | exact .inl rfl | exact .inr rfl | assumption):wpAny M A (storeName X.env x u) Q E s :=
 yF I hN hi hx r (fun s' I' _=>h s' I') hf
theorem Inv.call'{s':Shared}{ch:List Addr}(I:Inv X pins σ H s)(ho:s'.os=s.os)(u:Un (frs X.stack) ch H H' s.heap s'.heap)(hok:HOk X.prog X.w H' s'.heap)(hg:AllBare s'.gens)
  (hch:∀ b∈ch,(b∈X.ex\/X.s₀.heap.objs.size<=b)/\b≠X.env.locals/\(∀ x c,X.env.cells.lookup x=some c->c≠b)/\∀ p∈X.pn++pins,p.1≠b):Inv X pins σ H' s':=by
 obtain⟨h',g',d',t',o'⟩:=s'
 have e:o'=s.os:=ho
 subst e
 exact I.call (g':=g') (t':=t') (d':=d') u hok hg hch
end
abbrev XK:=Value->Option Addr->Hp->Prop
abbrev St:=List (Option V)
abbrev VK:=V->Hp->Prop
abbrev TE:=St->Hp->VK->Prop
abbrev TT:=St->Hp->(Bool->Hp->Prop)->Prop
abbrev TA:=St->Hp->(List V->Hp->Prop)->Prop
structure Ends where
 nx:St->Hp->Prop
 rt:VK
 bk:St->Hp->Prop:=fun _ _=>False
 ct:St->Hp->Prop:=fun _ _=>False
abbrev TS:=Ends->St->Hp->Prop
def EP(X:Cx)(pins:OP)(σ:St)(Q:VK)(u:Value)(s':Shared):Prop:=∃ v H',Inv X pins σ H' s'/\RelV v u/\Q v H'
def TP(X:Cx)(pins:OP)(σ:St)(Q:Bool->Hp->Prop)(b:Bool)(s':Shared):Prop:=∃ H',Inv X pins σ H' s'/\Q b H'
def AP(X:Cx)(pins:OP)(σ:St)(Q:List V->Hp->Prop)(us:List Value)(s':Shared):Prop:=∃ vs H',Inv X pins σ H' s'/\Vals vs us/\Q vs H'
def SP(X:Cx)(pins:OP)(D:Ends)(f:Flow)(s':Shared):Prop :=
 match f with
 | .next=>∃ σ' H',Inv X pins σ' H' s'/\D.nx σ' H'
 | .brk=>∃ σ' H',Inv X pins σ' H' s'/\D.bk σ' H'
 | .cont=>∃ σ' H',Inv X pins σ' H' s'/\D.ct σ' H'
 | .ret u=>∃ v σ' H',Inv X pins σ' H' s'/\RelV v u/\D.rt v H'
def PE(X:Cx)(e:Expr)(t:TE):Prop :=
 ∀ (pins:OP) (s:Shared) (σ:St) (H:Hp) (Q:VK),Inv X pins σ H s->t σ H Q->wpAny (model X.prog X.w) X.A (eval e X.env) (EP X pins σ Q) X.xe s
def PT(X:Cx)(e:Expr)(t:TT):Prop :=
 ∀ (pins:OP) (s:Shared) (σ:St) (H:Hp) (Q:Bool->Hp->Prop),Inv X pins σ H s->t σ H Q->wpAny (model X.prog X.w) X.A (isTrue e X.env (eval e X.env)) (TP X pins σ Q) X.xe s
def PW(X:Cx)(e:Expr)(t:TT):Prop :=
 ∀ (whole:Sem Value) (pins:OP) (s:Shared) (σ:St) (H:Hp) (Q:Bool->Hp->Prop),Inv X pins σ H s->t σ H Q->wpAny (model X.prog X.w) X.A (isTrue e X.env whole) (TP X pins σ Q) X.xe s
theorem PW.pt{X:Cx}{e:Expr}{t:TT}(h:PW X e t):PT X e t:=h _
def PA(X:Cx)(es:List Expr)(t:TA):Prop :=
 ∀ (pos:Pos) (pins:OP) (s:Shared) (σ:St) (H:Hp) (Q:List V->Hp->Prop),Inv X pins σ H s->t σ H Q->wpAny (model X.prog X.w) X.A (spliced (backTo pos (starEach es X.env))) (AP X pins σ Q) X.xe s
def PS(X:Cx)(st:Stmt)(t:TS):Prop :=
 ∀ (pins:OP) (s:Shared) (σ:St) (H:Hp) (D:Ends),Inv X pins σ H s->t D σ H->wpAny (model X.prog X.w) X.A (exec st X.env) (SP X pins D) X.xe s
def PSs(X:Cx)(st:List Stmt)(t:TS):Prop :=
 ∀ (pins:OP) (s:Shared) (σ:St) (H:Hp) (D:Ends),Inv X pins σ H s->t D σ H->wpAny (model X.prog X.w) X.A (execs st X.env) (SP X pins D) X.xe s
theorem thn{α:Type}{t:Sem α}{Q Q':α->Shared->Prop}{M:Model}{A:Around}{E:EV}{s:Shared}(h:wpAny M A t Q E s)(hQ:∀ a s,Q a s->Q' a s):wpAny M A t Q' E s:=wpAny_mono h hQ fun _ _ x=>x
section
variable {X:Cx}
def xY(i:Nat):TE:=fun σ H Q=>∃ v,σ[i]? = some (some v)/\Q v H
def tC(v:V):TE:=fun _ H Q=>Q v H
theorem R9{i:Nat}{x:Str}{pos:Pos}(hN:X.N[i]? = some x)(hv:Vis X.env.scope x)(hd:(x==("__debug__" : Str))=false:=by decide)(hcd:(x==("__classdict__" : Str))=false:=by decide):PE X (.Name x pos) (xY i):=by
 intro pins s σ H Q I h
 obtain⟨v,e,h⟩:=h
 obtain⟨m,hn,hl⟩:=I.loc
 obtain⟨u,r,l⟩:=hl i x v hN e hv
 have fin:EP X pins σ Q u s:=⟨v,H,I,r,h⟩
 rcases l with⟨hk,hm⟩|⟨hk,c,hc,hcell⟩
 ·exact wpAny_Name (wpAny_loadName_local I.ok.kind hk hn hm fin) hd
 ·rcases hk with hk|hk
  ·exact wpAny_Name (wpAny_loadName_cell I.ok.kind hk hc hcell fin) hd
  ·exact wpAny_Name (wpAny_loadName_free I.ok.kind hk hc hcell fin hcd) hd
theorem aq{i j pos}:PE X (.Constant (.int i) j pos) (tC (.int i)):=fun _ _ _ H _ I h=>wpAny_Constant_int ⟨.int i,H,I.tok _,⟨_,rfl⟩,h⟩
theorem gB{b j pos}:PE X (.Constant (.bool b) j pos) (tC (.bl b)):=fun _ _ _ H _ I h=>Constant_bool ⟨.bl b,H,I,rfl,h⟩
theorem fG{j pos}:PE X (.Constant .none j pos) (tC .non):=fun _ _ _ H _ I h=>Constant_none ⟨.non,H,I,rfl,h⟩
theorem aA{x j pos}:PE X (.Constant (.str x) j pos) (tC (.str x)):=fun _ _ _ H _ I h=>Calls.Constant_str ⟨.str x,H,I.tok _,⟨_,rfl⟩,h⟩
def Gl(X:Cx)(x:Str):Prop:=X.env.kindOf x=some .globalImplicit
theorem ik{E:EV}{pins:OP}{s:Shared}{σ:St}{H:Hp}{x:Str}{u:Value}{pos:Pos}{Q:EV}(I:Inv X pins σ H s)(hg:Gl X x)(hm:X.mg x=some u)(h:Q u s)
  (hd:(x==("__debug__" : Str))=false:=by decide):wpAny (model X.prog X.w) X.A (eval (.Name x pos) X.env) Q E s :=
 Calls.Name_function_global I.ok.kind hg (Calls.loadGlobal_global (by rw[I.ok.glob];exact I.mod.glob.keeps I.bk) hm h) hd
theorem oh{E:EV}{pins:OP}{s:Shared}{σ:St}{H:Hp}{x:Str}{u:Value}{pos:Pos}{Q:EV}(I:Inv X pins σ H s)(hg:Gl X x)(hm:X.mg x=none)(hv:bootBuiltins x=some u)(h:Q u s)
  (hn:x ≠ "__name__" := by decide)(hd:(x==("__debug__" : Str))=false:=by decide):wpAny (model X.prog X.w) X.A (eval (.Name x pos) X.env) Q E s:=by
 obtain⟨mb,h1,h2⟩:=I.mod.blt
 exact Calls.Name_function_global I.ok.kind hg (Calls.loadGlobal_builtin (by rw[I.ok.glob];exact I.mod.glob.keeps I.bk) hm (by rw[I.ok.blt];exact h1.keeps I.bk) ((h2 x hn).trans hv) h) hd
theorem vL{x:Str}{v:V}{u:Value}{pos:Pos}(hg:Gl X x)(hm:X.mg x=some u)(r:RelV v u)(hd:(x==("__debug__" : Str))=false:=by decide):PE X (.Name x pos) (tC v) :=
 fun _ _ _ H _ I h=>ik I hg hm ⟨v,H,I,r,h⟩ hd
theorem cR{x:Str}{v:V}{u:Value}{pos:Pos}(hg:Gl X x)(hm:X.mg x=none)(hv:bootBuiltins x=some u)(r:RelV v u)(hn:x ≠ "__name__" := by decide)(hd:(x==("__debug__" : Str))=false:=by decide):PE X (.Name x pos) (tC v) :=
 fun _ _ _ H _ I h=>oh I hg hm hv ⟨v,H,I,r,h⟩ hn hd
variable {a b:Expr} {ta tb:TE} {pos:Pos}
def tB(t:TE):TT:=fun σ H Q=>t σ H fun x H1=>∃ c,x=.bl c/\Q c H1
theorem bQ {e:Expr} {t:TE} (h:PE X e t) (he:∀ whole,isTrue e X.env whole=(do let v <- whole;standAt e.pos;holding [v] (truthy v)):=by intro _;rfl):PT X e (tB t):=by
 intro pins s σ H Q I hw
 refine isTrue_plain (thn (h pins s σ H _ I hw) fun v s1 ⟨x,H1,I1,r1,q1⟩=>?_) (he _)
 obtain⟨d,rfl,q⟩:=q1
 cases r1
 exact wpAny_truthy_bool ⟨H1,I1,q⟩
variable {tA tB':TT} {rest:List Expr}
def U4(t u:TT):TT:=fun σ H Q=>t σ H fun c H1=>if c=true then u σ H1 Q else Q false H1
def tOr(t u:TT):TT:=fun σ H Q=>t σ H fun c H1=>if c=true then Q true H1 else u σ H1 Q
def Xb(t:TT):TT:=fun σ H Q=>t σ H fun c H1=>Q (!c) H1
theorem cz(ha:PT X a tA):PW X (.BoolOp .And [a] pos) tA:=by
 intro wh pins s σ H Q I h
 refine isTrue_and (thn (ha pins s σ H Q I h) fun c s1 e=>?_)
 cases c with
 | true=>exact isTrue_and_nil e
 | false=>exact e
theorem dI(ha:PT X a tA):PW X (.BoolOp .Or [a] pos) tA:=by
 intro wh pins s σ H Q I h
 refine isTrue_or (thn (ha pins s σ H Q I h) fun c s1 e=>?_)
 cases c with
 | false=>exact isTrue_or_nil e
 | true=>exact e
theorem cC(ha:PT X a tA)(hb:PW X (.BoolOp .And (b::rest) pos) tB'):PW X (.BoolOp .And (a::b::rest) pos) (U4 tA tB'):=by
 intro wh pins s σ H Q I h
 refine isTrue_and (thn (ha pins s σ H _ I h) fun c s1 ⟨H1,I1,q1⟩=>?_)
 cases c with
 | true=>exact hb wh pins s1 σ H1 Q I1 q1
 | false=>exact⟨H1,I1,q1⟩
theorem cU(ha:PT X a tA)(hb:PW X (.BoolOp .Or (b::rest) pos) tB'):PW X (.BoolOp .Or (a::b::rest) pos) (tOr tA tB'):=by
 intro wh pins s σ H Q I h
 refine isTrue_or (thn (ha pins s σ H _ I h) fun c s1 ⟨H1,I1,q1⟩=>?_)
 cases c with
 | true=>exact⟨H1,I1,q1⟩
 | false=>exact hb wh pins s1 σ H1 Q I1 q1
theorem cV(ha:PT X a tA):PT X (.UnaryOp .Not a pos) (Xb tA):=by
 intro pins s σ H Q I h
 exact isTrue_not (ha pins s σ H (fun c H1=>Q (!c) H1) I h)
def Tn(ta tb:TE):TE:=fun σ H Q=>ta σ H fun x H1=>∃ c,x=.bl c/\if c=true then tb σ H1 Q else Q (.bl false) H1
def Ul(ta:TE):TE:=fun σ H Q=>ta σ H fun x H1=>∃ c,x=.bl c/\Q (.bl (!c)) H1
theorem iK{op}{t:TE}(h:PE X a t):PE X (.BoolOp op [a] pos) t:=fun pins s σ H Q I hw=>BoolOp_one (h pins s σ H Q I hw)
theorem dZ(ha:PE X a ta)(hb:PE X (.BoolOp .And (b::rest) pos) tb):PE X (.BoolOp .And (a::b::rest) pos) (Tn ta tb):=by
 intro pins s σ H Q I h
 refine BoolOp_and (thn (ha pins s σ H _ I h) fun v s1 ⟨x,H1,I1,r1,q1⟩=>?_)
 obtain⟨c,rfl,q1⟩:=q1
 cases r1
 refine wpAny_truthy_bool ?_
 cases c with
 | true=>exact hb pins s1 σ H1 Q I1 q1
 | false=>exact⟨.bl false,H1,I1,rfl,q1⟩
theorem Ft(ha:PE X a ta):PE X (.UnaryOp .Not a pos) (Ul ta):=by
 intro pins s σ H Q I h
 refine UnaryOp_ (thn (ha pins s σ H _ I h) fun v s1 ⟨x,H1,I1,r1,q1⟩=>?_)
 obtain⟨c,rfl,q1⟩:=q1
 cases r1
 exact not_of (wpAny_truthy_bool ⟨.bl (!c),H1,I1,rfl,q1⟩)
def tIf(t:TT)(ta tb:TE):TE:=fun σ H Q=>t σ H fun c H1=>if c=true then ta σ H1 Q else tb σ H1 Q
theorem Lg{c:Expr}(hc:PT X c tA)(ha:PE X a ta)(hb:PE X b tb):PE X (.IfExp c a b pos) (tIf tA ta tb):=by
 intro pins s σ H Q I h
 refine wpAny_IfExp (thn (hc pins s σ H _ I h) fun d s1 ⟨H1,I1,q1⟩=>?_)
 cases d with
 | true=>exact ha pins s1 σ H1 Q I1 q1
 | false=>exact hb pins s1 σ H1 Q I1 q1
end
def SqL(K:Frag)(H:Hp)(a:Addr)(xs:List V):Prop :=
 Rd H a (.lst xs) \/
  ∃ (o:Obj) (its:Array Value) (n:Nat),K.lookup a=some o/\o.cls=.type "list" /\ o.dict=none/\o.data=.seq its n/\its.size<=sizeLine/\Vals xs its.toList
def SqT(K:Frag)(H:Hp)(a:Addr)(xs:List V):Prop :=
 Rd H a (.tup xs) \/
  ∃ (o:Obj) (its:Array Value) (n:Nat),K.lookup a=some o/\o.cls=.type "tuple" /\ o.data=.seq its n/\its.size<=sizeLine/\Vals xs its.toList
def Va:Value->Option V
 | .none=>some .non
 | .bool b=>some (.bl b)
 | .int i _=>some (.int i)
 | .str x _=>some (.str x)
 | .bytes b _=>some (.byt b)
 | .float b _=>some (.flt b)
 | .ref a=>some (.ref a)
 | .type n=>some (.ty n)
 | _=>none
theorem RelV.abs{x:V}{u:Value}(r:RelV x u):Va u=some x:=by
 cases x with
 | non=>cases r;rfl
 | bl _=>cases r;rfl
 | int _=>obtain⟨t,rfl⟩:=r;rfl
 | str _=>obtain⟨t,rfl⟩:=r;rfl
 | byt _=>obtain⟨t,rfl⟩:=r;rfl
 | flt _=>obtain⟨t,rfl⟩:=r;rfl
 | ref _=>cases r;rfl
 | ty _=>cases r;rfl
theorem RelV.inj{x y:V}{u:Value}(r:RelV x u)(q:RelV y u):x=y:=Option.some.inj (r.abs.symm.trans q.abs)
theorem Vals.inj:∀ {xs ys:List V} {us:List Value},Vals xs us->Vals ys us->xs=ys
 | _,_,_,.nil,.nil=>rfl
 | _,_,_,.cons r t,.cons r' t'=>by rw[r.inj r',Vals.inj t t']
section
variable {X:Cx} {pins:OP} {σ:St} {H:Hp} {s:Shared} {a:Addr} {xs ys:List V}
theorem SqL.of{K:Frag}(h:H a=some (.lst xs)):SqL K H a xs:=.inl (.inl h)
theorem SqT.of{K:Frag}(h:H a=some (.tup xs)):SqT K H a xs:=.inl (.inl h)
theorem Inv.list(I:Inv X pins σ H s)(h:SqL X.K H a xs):∃ its:List Value,Vals xs its/\PlainL s.heap a its.toArray/\xs.length<=sizeLine:=by
 rcases h with h|⟨o,its,n,hk,hc,hd,hs,hz,r⟩
 ·obtain⟨z,its,n,r,e⟩:=h.ok I.hok
  exact⟨its,r,⟨_,n,e,rfl,rfl,rfl⟩,z⟩
 ·refine⟨its.toList,r,⟨o,n,I.kIn a o hk,hc,hd,by simpa using hs⟩,?_⟩
  have e:=r.length
  simp only[Array.length_toList]at e
  omega
theorem Inv.tuple(I:Inv X pins σ H s)(h:SqT X.K H a xs):∃ its:List Value,Vals xs its/\IsTup s.heap a its.toArray/\xs.length<=sizeLine:=by
 rcases h with h|⟨o,its,n,hk,hc,hs,hz,r⟩
 ·obtain⟨z,its,r,p⟩:=h.ok I.hok
  exact⟨its,r,p,z⟩
 ·refine⟨its.toList,r,⟨o,I.kIn a o hk,hc,n,by simpa using hs⟩,?_⟩
  have e:=r.length
  simp only[Array.length_toList]at e
  omega
theorem Inv.list_inj(I:Inv X pins σ H s)(h:SqL X.K H a xs)(h':SqL X.K H a ys):xs=ys:=by
 obtain⟨its,r,⟨o,n,e,_,_,d⟩,_⟩:=I.list h
 obtain⟨its',r',⟨o',n',e',_,_,d'⟩,_⟩:=I.list h'
 rw[e]at e';cases e'
 rw[d]at d'
 injection d' with d1 _
 have:its=its':=by simpa using congrArg Array.toList d1
 subst this
 exact r.inj r'
theorem Inv.tuple_inj(I:Inv X pins σ H s)(h:SqT X.K H a xs)(h':SqT X.K H a ys):xs=ys:=by
 obtain⟨its,r,⟨o,e,_,n,d⟩,_⟩:=I.tuple h
 obtain⟨its',r',⟨o',e',_,n',d'⟩,_⟩:=I.tuple h'
 rw[e]at e';cases e'
 rw[d]at d'
 injection d' with d1 _
 have:its=its':=by simpa using congrArg Array.toList d1
 subst this
 exact r.inj r'
end
abbrev Cx.wish(X:Cx)(E:EV):Cx:={X with xe:=E}
abbrev Cx.nox(X:Cx):Cx:=X.wish fun _ _=>False
theorem Cx.Ok.wish{X:Cx}(ok:X.Ok)(E:EV):(X.wish E).Ok :=
 ⟨ok.mod,ok.kind,ok.glob,ok.blt,ok.above,ok.inj,ok.has,ok.cab,ok.hd,ok.frames,ok.stk,ok.exf,ok.bs,ok.bsz,ok.noex,ok.exfs,ok.funs,ok.frf⟩
theorem Cx.Ok.unwish{X:Cx}{E:EV}(ok:(X.wish E).Ok):X.Ok :=
 ⟨ok.mod,ok.kind,ok.glob,ok.blt,ok.above,ok.inj,ok.has,ok.cab,ok.hd,ok.frames,ok.stk,ok.exf,ok.bs,ok.bsz,ok.noex,ok.exfs,ok.funs,ok.frf⟩
section
variable {X:Cx} {pins:OP} {σ:St} {H:Hp} {s:Shared} {E:EV}
theorem Inv.wish(I:Inv X pins σ H s)(E:EV):Inv (X.wish E) pins σ H s:=⟨I.ok.wish E,I.os,I.bare,I.base,I.loc,I.cell,I.free,I.freeC,I.pin,I.hok,I.len⟩
theorem Inv.unwish(I:Inv (X.wish E) pins σ H s):Inv X pins σ H s:=⟨I.ok.unwish,I.os,I.bare,I.base,I.loc,I.cell,I.free,I.freeC,I.pin,I.hok,I.len⟩
theorem SP.unwish{D:Ends}{f:Flow}{s':Shared}(h:SP (X.wish E) pins D f s'):SP X pins D f s':=by
 cases f with
 | next=>obtain⟨σ',H',I,q⟩:=h;exact⟨σ',H',I.unwish,q⟩
 | brk=>obtain⟨σ',H',I,q⟩:=h;exact⟨σ',H',I.unwish,q⟩
 | cont=>obtain⟨σ',H',I,q⟩:=h;exact⟨σ',H',I.unwish,q⟩
 | ret u=>obtain⟨v,σ',H',I,r,q⟩:=h;exact⟨v,σ',H',I.unwish,r,q⟩
theorem PSs.nox{st:List Stmt}{t:TS}(h:PSs X.nox st t):PSs X st t:=fun pins s σ H D I hw =>
 wpAny_mono (h pins s σ H D (I.wish _) hw) (fun _ _ q=>q.unwish) fun _ _ z=>False.elim z
end
section
variable {X:Cx} {st:Stmt} {rest:List Stmt} {t u:TS} {e:Expr} {te:TE} {pos:Pos}
def Qt:TS:=fun D σ H=>D.nx σ H
def S8(t u:TS):TS:=fun D σ H=>t {D with nx:=u D} σ H
theorem ul:PSs X [] Qt:=fun _ _ σ H _ I h=>wpAny_execs_nil ⟨σ,H,I,h⟩
theorem eZ(h1:PS X st t)(h2:PSs X rest u):PSs X (st::rest) (S8 t u):=by
 intro pins s σ H D I h
 refine wpAny_execs_cons (thn (h1 pins s σ H {D with nx:=u D} I h) fun f s1 q=>?_)
 cases f with
 | next =>
  obtain⟨σ',H',I',q⟩:=q
  exact h2 pins s1 σ' H' D I' q
 | ret v=>exact q
 | brk=>exact q
 | cont=>exact q
theorem jd(h1:PS X st t):PSs X [st] t:=by
 intro pins s σ H D I h
 refine wpAny_execs_cons (thn (h1 pins s σ H D I h) fun f s1 q=>?_)
 cases f with
 | next=>exact wpAny_execs_nil q
 | ret v=>exact q
 | brk=>exact q
 | cont=>exact q
theorem Inv.quiet{pins:OP}{σ:St}{H:Hp}{s:Shared}(I:Inv X pins σ H s):interactive X.env=false:=by simp[interactive,I.ok.kind]
def Ku(te:TE):TS:=fun D σ H=>te σ H fun _ H1=>D.nx σ H1
theorem Px(he:PE X e te)(hs:swapsWith e none pos.line X.env=pure false:=by rfl):PS X (.Expr e pos) (Ku te):=by
 intro pins s σ H D I h
 exact wpAny_Expr_any (thn (he pins s σ H _ I h) fun v s1 ⟨x,H1,I1,r1,q1⟩=>⟨σ,H1,I1,q1⟩) I.quiet hs
def KQ(te:TE):TS:=fun D σ H=>te σ H D.rt
theorem mZ(he:PE X e te):PS X (.Return (some e) pos) (KQ te):=by
 intro pins s σ H D I h
 exact wpAny_Return_some (thn (he pins s σ H _ I h) fun v s1 ⟨x,H1,I1,r1,q1⟩=>⟨x,σ,H1,I1,r1,q1⟩)
def Uk(c:TT)(t u:TS):TS:=fun D σ H=>c σ H fun b H1=>if b=true then t D σ H1 else u D σ H1
theorem CQ{c:Expr}{a b:List Stmt}{tc:TT}(hc:PT X c tc)(ha:PSs X a t)(hb:PSs X b u):PS X (.If c a b pos) (Uk tc t u):=by
 intro pins s σ H D I h
 refine wpAny_If (thn (hc pins s σ H _ I h) fun d s1 ⟨H1,I1,q1⟩=>?_)
 cases d with
 | true=>exact ha pins s1 σ H1 D I1 q1
 | false=>exact hb pins s1 σ H1 D I1 q1
end
abbrev TG:=V->St->Hp->(St->Hp->Prop)->Prop
abbrev TGs:=List V->St->Hp->(St->Hp->Prop)->Prop
def PG(X:Cx)(target:Expr)(t:TG):Prop :=
 ∀ (pins:OP) (s:Shared) (σ:St) (H:Hp) (v:V) (u:Value) (Q:St->Hp->Prop),Inv X pins σ H s->RelV v u->t v σ H Q ->
  wpAny (model X.prog X.w) X.A (assign target X.env u) (fun _ s'=>∃ σ' H',Inv X pins σ' H' s'/\Q σ' H') X.xe s
def PGs(X:Cx)(ts:List Expr)(t:TGs):Prop :=
 ∀ (pins:OP) (s:Shared) (σ:St) (H:Hp) (vs:List V) (us:List Value) (Q:St->Hp->Prop),Inv X pins σ H s->Vals vs us->t vs σ H Q ->
  wpAny (model X.prog X.w) X.A (assignInOrder ((assignEach ts X.env).map (·.2)) us) (fun _ s'=>∃ σ' H',Inv X pins σ' H' s'/\Q σ' H') X.xe s
abbrev Sq:=V->V->V->Hp->(Hp->Prop)->Prop
def Tg(X:Cx)(t:Sq):Prop :=
 ∀ (pins:OP) (s:Shared) (σ:St) (H:Hp) (o i v:V) (ov iv u:Value) (Q:Hp->Prop),Inv X pins σ H s->RelV o ov->RelV i iv->RelV v u->t o i v H Q ->
  wpAny (model X.prog X.w) X.A (setItem ov iv u) (fun _ s'=>∃ H',Inv X pins σ H' s'/\Q H') X.xe s
section
variable {X:Cx} {pos:Pos}
def dC(i:Nat):TG:=fun v σ H Q=>Q (σ.set i (some v)) H
theorem aX {i:Nat} {x:Str} (hN:X.N.Nodup) (hi:X.N[i]? = some x) (hx:Loc X.env.scope x) (hf:X.fn x = true \/ X.env.scope.names.lookup x = some .local:=by first | exact .inl rfl | exact .inr rfl | assumption):PG X (.Name x pos) (dC i):=by
 intro pins s σ H v u Q I r h
 exact wpAny_assign_Name (ud I hN hi hx r (fun s' I'=>⟨_,H,I',h⟩) hf)
def Tq:TGs:=fun vs σ H Q=>vs=[]/\Q σ H
def Ng(t:TG)(u:TGs):TGs:=fun vs σ H Q=>∃ v r,vs=v::r/\t v σ H fun σ' H'=>u r σ' H' Q
theorem jK:PGs X [] Tq:=by
 intro pins s σ H vs us Q I r h
 obtain⟨e,h⟩:=h
 subst e
 cases r
 exact assignInOrder_nil ⟨σ,H,I,h⟩
theorem bK{e:Expr}{es:List Expr}{t:TG}{u:TGs}(h1:PG X e t)(h2:PGs X es u)
  (hs:(assignEach (e::es) X.env).map (·.2)=assign e X.env::(assignEach es X.env).map (·.2):=by rfl):PGs X (e::es) (Ng t u):=by
 intro pins s σ H vs us Q I r h
 obtain⟨v,vr,e1,h⟩:=h
 subst e1
 cases r with
 | cons r rr =>
  rw[hs]
  refine assignInOrder_cons (thn (h1 pins s σ H _ _ _ I r h) fun _ s1 ⟨σ1,H1,I1,q1⟩=>?_)
  exact h2 pins s1 σ1 H1 _ _ Q I1 rr q1
def Q8(K:Frag)(n:Nat)(t:TGs):TG:=fun v σ H Q=>∃ a xs,v=.ref a/\SqT K H a xs/\xs.length=n/\t xs σ H Q
theorem Ra{es:List Expr}{k:Nat}{t:TGs}{n:Nat}(hc:X.calm=true)(h:PGs X es t)
  (hn:(assignEach es X.env).length=n:=by rfl)(hst:(assignEach es X.env).findIdx? (·.1)=none:=by rfl):PG X (.Tuple es k pos) (Q8 X.K n t):=by
 intro pins s σ H v u Q I r hw
 obtain⟨a,xs,e1,hq,hl,hw⟩:=hw
 subst e1
 cases r
 obtain⟨its,rv,ht,hz⟩:=I.tuple hq
 refine assign_Tuple_tuple (I.ok.hd hc) ht (by simp[hn,<- hl,rv.length]) hst fun h' hx=>?_
 have I1:Inv X pins σ H {s with heap:=h'}:=I.kept (t':=s.toks) fun b o e=>hx b o (ne_of_lt (Heap.lt_size e)) e
 exact h pins _ σ H xs _ Q I1 (by simpa using rv) hw
def Xa(to ti:TE)(t:Sq):TG:=fun v σ H Q=>to σ H fun o H1=>ti σ H1 fun i H2=>t o i v H2 fun H3=>Q σ H3
theorem K6 {o i:Expr} {to ti:TE} {t:Sq} (ho:PE X o to) (hi:PE X i ti) (hs:Tg X t)
  (ha:∀ v,assign (.Subscript o i pos) X.env v=(do
   let ov <- holding [v] (eval o X.env)
   let iv <- holding [v,ov] (eval i X.env)
   standAt pos
   holding [v,ov,iv] (setItem ov iv v)
   release [v,ov,iv] []):=by intro _;rfl):PG X (.Subscript o i pos) (Xa to ti t):=by
 intro pins s σ H v u Q I r h
 rw[ha]
 refine wpAny_bind (wpAny_holding (thn (ho pins s σ H _ I h) fun ov s1 ⟨x,H1,I1,r1,q1⟩=>?_))
 refine wpAny_bind (wpAny_holding (thn (hi pins s1 σ H1 _ I1 q1) fun iv s2 ⟨y,H2,I2,r2,q2⟩=>?_))
 refine wpAny_bind (wpAny_standAt (wpAny_bind (wpAny_holding (thn (hs pins s2 σ H2 x y v ov iv u _ I2 r1 r2 r q2) fun _ s3 ⟨H3,I3,q3⟩=>?_))))
 exact wpAny_release ⟨σ,H3,I3,q3⟩
def GF(te:TE)(g:TG):TS:=fun D σ H=>te σ H fun x H1=>g x σ H1 D.nx
theorem RB{tg e:Expr}{te:TE}{g:TG}(he:PE X e te)(hg:PG X tg g)(hs:swapsWithSole [tg] e pos.line X.env=pure false:=by rfl)(hw:swappedStores [tg] e X.env=pure none:=by rfl)
  (h1:(assignEach [tg] X.env).map (·.2)=[assign tg X.env]:=by rfl):PS X (.Assign [tg] e pos) (GF te g):=by
 intro pins s σ H D I h
 refine wpAny_Assign_stores (thn (he pins s σ H _ I h) fun v s1 ⟨x,H1,I1,r1,q1⟩=>?_) hs hw
 rw[h1]
 exact thn (hg pins s1 σ H1 x v _ I1 r1 q1) fun _ s2 q=>q
theorem pR {i:Nat} {x:Str} {e:Expr} {te:TE} {pos':Pos} (hN:X.N.Nodup) (hi:X.N[i]? = some x) (hx:Loc X.env.scope x) (he:PE X e te) (hs:swapsWith e (some (.Name x pos')) pos.line X.env = pure false:=by rfl) (hf:X.fn x = true \/ X.env.scope.names.lookup x = some .local:=by first | exact .inl rfl | exact .inr rfl | assumption) :
  PS X (.Assign [.Name x pos'] e pos) (GF te (dC i)):=by
 intro pins s σ H D I h
 refine wpAny_Assign_Name (thn (he pins s σ H _ I h) fun v s1 ⟨y,H1,I1,r1,q1⟩=>?_) hs
 exact ud I1 hN hi hx r1 (fun s2 I2=>⟨_,H1,I2,q1⟩) hf
end
section
variable {X:Cx} {pos:Pos}
end
structure It where
 go:Nat->Hp->Prop
 yld:Nat->Hp->V->Hp->Prop
 stop:Nat->Hp->Prop
def wU(X:Cx)(pins:OP)(H:Hp)(b:Addr):Prop :=
 H b=none/\b≠X.env.locals/\b∉X.fs/\(b∈X.ex\/X.s₀.heap.objs.size<=b)/\(∀ x c,X.env.cells.lookup x=some c->c≠b)/\∀ p∈X.pn++pins,p.1≠b
theorem Inv.fpOk{X:Cx}{pins:OP}{σ:St}{H H':Hp}{s:Shared}{b:Addr}(I:Inv X pins σ H s)(hb:s.heap.objs.size<=b)(hn:H' b=none):wU X pins H' b:=by
 refine⟨hn,ne_of_gt (lt_of_lt_of_le I.lt hb),I.nofs hb,.inr (le_trans I.sz hb),fun x c e z=>?_,fun p hp z=>?_⟩
 ·obtain⟨v,q⟩:=I.cell x c e
  exact absurd (lt_of_lt_of_le q.lt (by rw[z];exact hb)) (lt_irrefl _)
 ·exact absurd (lt_of_lt_of_le (Heap.lt_size (I.pin p hp).1) (by rw[z];exact hb)) (lt_irrefl _)
structure Turn(P:Program)(w:World)(K:Frag)(tg:Expr)(J:It)(fp:List Addr)(it:Addr)(tn:Nat->Heap->Prop):Prop where
 mem:it∈fp
 obj:∀ i h,tn i h->∀ b∈fp,∃ o,h.get? b=some o/\∀ v,o.data≠.cell v
 keep:∀ i h h',tn i h->(∀ b∈fp,∀ o,h.get? b=some o->h'.get? b=some o)->tn i h'
 item:∀ (X:Cx),X.prog=P->X.w=w->X.K=K->X.calm=true->∀ (i:Nat) (pins:OP) (s:Shared) (σ:St) (H:Hp) (E:EV),Inv X pins σ H s->(∀ b∈fp,wU X pins H b)->tn i s.heap->J.go i H ->
  wpAny (model P w) X.A (pyNext (.ref it)) (fun r s1=>∃ u,r=some u /\
   wpAny (model P w) X.A (letOwnedTupleGo tg (.ref it) u) (fun _ s2=>∃ x H',Inv X pins σ H' s2/\RelV x u/\J.yld i H x H'/\tn (i+1) s2.heap/\∀ b∈fp,H' b=none) E s1) E s
 done:∀ (X:Cx),X.prog=P->X.w=w->X.K=K->X.calm=true->∀ (i:Nat) (pins:OP) (s:Shared) (σ:St) (H:Hp) (E:EV),Inv X pins σ H s->(∀ b∈fp,wU X pins H b)->tn i s.heap->J.stop i H ->
  wpAny (model P w) X.A (pyNext (.ref it)) (fun r s1=>r=none/\Inv X pins σ H s1) E s
 self:∀ (A:Around) (i:Nat) (s:Shared) (Q:EV) (E:EV),tn i s.heap->Q (.ref it) s->wpAny (model P w) A (pyIter (.ref it)) Q E s
abbrev TI:=St->Hp->(It->Hp->Prop)->Prop
def PIE(X:Cx)(pins:OP)(σ:St)(tg:Expr)(R:It->Hp->Prop)(itv:Value)(s2:Shared):Prop :=
 ∃ (it:Addr) (fp:List Addr) (tn:Nat->Heap->Prop) (J:It) (H':Hp),itv=.ref it/\Inv X pins σ H' s2/\Turn X.prog X.w X.K tg J fp it tn/\tn 0 s2.heap/\(∀ b∈fp,wU X pins H' b)/\R J H'
def PI(X:Cx)(tg iter:Expr)(wi:TI):Prop :=
 ∀ (pins:OP) (s:Shared) (σ:St) (H:Hp) (R:It->Hp->Prop),Inv X pins σ H s->wi σ H R ->
  wpAny (model X.prog X.w) X.A (eval iter X.env) (fun v s1=>wpAny (model X.prog X.w) X.A (pyIter v) (PIE X pins σ tg R) X.xe s1) X.xe s
theorem Df{M:Model}{A:Around}{E:EV}{s:Shared}{tg:Expr}{it:Addr}{u:Value}{o:Obj}{n:String}{vs:Array Value}{Q:Unit->Shared->Prop}(ho:s.heap.get? it=some o)(hc:o.cls=.type n)(hd:o.data=.fields vs)
  (hn:["enumerate", "zip", "dict_itemiterator", "dict_reverseitemiterator", "odict_iterator", "itertools.zip_longest", "itertools.pairwise"].contains n=false)(hQ:Q () s):wpAny M A (letOwnedTupleGo tg (.ref it) u) Q E s:=by
 unfold letOwnedTupleGo
 cases tg <;> first
  | exact wpAny_pure hQ
  | (cases u <;> first
    | exact wpAny_pure hQ
    | (refine wpAny_bind (wpAny_load ho ?_)
       rw[hc,hd]
       show wpAny M A (if(["enumerate", "zip", "dict_itemiterator", "dict_reverseitemiterator", "odict_iterator", "itertools.zip_longest", "itertools.pairwise"].contains n&&vs[0]? == some (rawInt _))=true then _ else _) Q E s
       rw[if_neg (by intro h;rw[hn,Bool.false_and]at h;cases h)]
       exact wpAny_pure hQ))
def Itl(K:Frag)(a:Addr):It :=
 ⟨fun i H=>∃ xs x,SqL K H a xs/\xs[i]? = some x,fun i H x H'=>H'=H/\∀ xs,SqL K H a xs->xs[i]? = some x,fun i H=>∃ xs,SqL K H a xs/\xs.length<=i⟩
def Itt(K:Frag)(a:Addr):It :=
 ⟨fun i H=>∃ xs x,SqT K H a xs/\xs[i]? = some x,fun i H x H'=>H'=H/\∀ xs,SqT K H a xs->xs[i]? = some x,fun i H=>∃ xs,SqT K H a xs/\xs.length<=i⟩
def Itr(lo:Int)(n:Nat):It:=⟨fun i _=>i<n,fun i H x H'=>H'=H/\x=.int (lo+i),fun i _=>n<=i⟩
theorem JB{P:Program}{w:World}{K:Frag}{tg:Expr}(a it:Addr):Turn P w K tg (Itl K a) [it] it (fun i h=>h.IsListIter it a i) where
 mem:=by simp
 obj:=fun i h st b hb=>by
  have e:b=it:=by simpa using hb
  subst e
  obtain⟨o,e,c,d⟩:=st
  exact⟨o,e,fun v z=>by rw[d]at z;cases z⟩
 keep:=fun i h h' st k=>st.at fun o e=>k it Zc o e
 item:=by
  intro X hP hw hK hc i pins s σ H E I hf st hg
  subst hP hw hK
  obtain⟨xs,x,hq,hx⟩:=hg
  obtain⟨its,rv,p,hz⟩:=I.list hq
  obtain⟨u,hu,ru⟩:=rv.get hx
  obtain⟨f0,f1,f2,f3,f4,f5⟩:=hf it Zc
  refine wpAny_pyNext_list_item st p.isList (x:=u) (by simpa using hu) fun h' st' sb=>?_
  have I1:Inv X pins σ H {s with heap:=h'}:=I.turned (t':=s.toks) (fun b o hb e=>(sb.2 b hb).trans e) f0 f1 f3 f4 f5
  obtain⟨o,e,c,d⟩:=id st'
  exact⟨u,rfl,Df (s:={s with heap:=h'}) e c d Za ⟨x,H,I1,ru,⟨rfl,fun ys hy=>by rw[I.list_inj hy hq];exact hx⟩,st',fun b hb=>(hf b hb).1⟩⟩
 done:=by
  intro X hP hw hK hc i pins s σ H E I hf st hg
  subst hP hw hK
  obtain⟨xs,hq,hx⟩:=hg
  obtain⟨its,rv,p,hz⟩:=I.list hq
  obtain⟨f0,f1,f2,f3,f4,f5⟩:=hf it Zc
  have hl:=rv.length
  exact wpAny_pyNext_list_end (I.ok.hd hc) st p.isList Zg fun h' eb=>⟨rfl,I.turned (t':=s.toks) (fun b o hb e=>eb b o hb e) f0 f1 f3 f4 f5⟩
 self:=fun _ _ _ _ _ st h=>wpAny_pyIter_listiter st h
theorem Gj{P:Program}{w:World}{K:Frag}{tg:Expr}(a it:Addr):Turn P w K tg (Itt K a) [it] it (fun i h=>h.IsTupleIter it a i) where
 mem:=by simp
 obj:=fun i h st b hb=>by
  have e:b=it:=by simpa using hb
  subst e
  obtain⟨o,e,c,d⟩:=st
  exact⟨o,e,fun v z=>by rw[d]at z;cases z⟩
 keep:=fun i h h' st k=>st.at fun o e=>k it Zc o e
 item:=by
  intro X hP hw hK hc i pins s σ H E I hf st hg
  subst hP hw hK
  obtain⟨xs,x,hq,hx⟩:=hg
  obtain⟨its,rv,p,hz⟩:=I.tuple hq
  obtain⟨u,hu,ru⟩:=rv.get hx
  obtain⟨f0,f1,f2,f3,f4,f5⟩:=hf it Zc
  refine wpAny_pyNext_tuple_item st (show s.heap.IsTuple a its.toArray from p) (x:=u) (by simpa using hu) fun h' st' sb=>?_
  have I1:Inv X pins σ H {s with heap:=h'}:=I.turned (t':=s.toks) (fun b o hb e=>(sb.2 b hb).trans e) f0 f1 f3 f4 f5
  obtain⟨o,e,c,d⟩:=id st'
  exact⟨u,rfl,Df (s:={s with heap:=h'}) e c d Za ⟨x,H,I1,ru,⟨rfl,fun ys hy=>by rw[I.tuple_inj hy hq];exact hx⟩,st',fun b hb=>(hf b hb).1⟩⟩
 done:=by
  intro X hP hw hK hc i pins s σ H E I hf st hg
  subst hP hw hK
  obtain⟨xs,hq,hx⟩:=hg
  obtain⟨its,rv,p,hz⟩:=I.tuple hq
  obtain⟨f0,f1,f2,f3,f4,f5⟩:=hf it Zc
  have hl:=rv.length
  exact wpAny_pyNext_tuple_end (I.ok.hd hc) st (show s.heap.IsTuple a its.toArray from p) Zg fun h' eb=>⟨rfl,I.turned (t':=s.toks) (fun b o hb e=>eb b o hb e) f0 f1 f3 f4 f5⟩
 self:=fun _ _ _ _ _ st h=>wpAny_pyIter_tupleiter st h
theorem Ff{P:Program}{w:World}{K:Frag}{tg:Expr}(it:Addr)(lo:Int)(n:Nat):Turn P w K tg (Itr lo n) [it] it (fun i h=>IsRangeIter h it (lo+(i:Nat)*1) ((n:Int) - (i:Nat)) 1) where
 mem:=by simp
 obj:=fun i h st b hb=>by
  have e:b=it:=by simpa using hb
  subst e
  exact⟨_,st,fun v z=>by
   have z':Data.fields _=Data.cell v:=z
   cases z'⟩
 keep:=fun i h h' st k=>k it Zc _ st
 item:=by
  intro X hP hw hK hc i pins s σ H E I hf st hg
  subst hP hw hK
  obtain⟨f0,f1,f2,f3,f4,f5⟩:=hf it Zc
  have W:=Walks.range (prog:=X.prog) (w:=X.w) (I.ok.hd hc) it lo 1 n
  refine W.item i s _ _ hg st fun v h' tk hv st' kk=>?_
  obtain⟨t,rfl⟩:=hv
  have I1:Inv X pins σ H {s with heap:=h',toks:=tk}:=I.turned (fun b o hb e=>kk b o (by simpa using hb) e) f0 f1 f3 f4 f5
  refine⟨_,rfl,Df (s:={s with heap:=h',toks:=tk}) (n := "range_iterator") st' rfl rfl Za ⟨.int (lo+i),H,I1,⟨t,?_⟩,⟨rfl,rfl⟩,st',fun b hb=>(hf b hb).1⟩⟩
  rw[Int.mul_one]
 done:=by
  intro X hP hw hK hc i pins s σ H E I hf st hg
  subst hP hw hK
  obtain⟨f0,f1,f2,f3,f4,f5⟩:=hf it Zc
  exact wpAny_pyNext_range_end (I.ok.hd hc) st (by have:n<=i:=hg;omega) fun h' eb=>⟨rfl,I.turned (t':=s.toks) (fun b o hb e=>eb b o hb e) f0 f1 f3 f4 f5⟩
 self:=fun _ _ _ _ _ st h=>wpAny_pyIter_rangeiter st h
section
variable {X:Cx} {tg:Expr}
def Qs(K:Frag)(tl:TE):TI:=fun σ H R=>tl σ H fun x H1=>∃ a,x=.ref a/\(∃ xs,SqL K H1 a xs)/\R (Itl K a) H1
def V8(K:Frag)(tl:TE):TI:=fun σ H R=>tl σ H fun x H1=>∃ a,x=.ref a/\(∃ xs,SqT K H1 a xs)/\R (Itt K a) H1
theorem dH{l:Expr}{tl:TE}(hl:PE X l tl):PI X tg l (Qs X.K tl):=by
 intro pins s σ H R I h
 refine thn (hl pins s σ H _ I h) fun v s1 ⟨x,H1,I1,r1,q1⟩=>?_
 obtain⟨a,e,⟨xs,hq⟩,q⟩:=q1
 subst e
 cases r1
 obtain⟨its,rv,p,hz⟩:=I1.list hq
 refine wpAny_pyIter_list p.isList ?_
 refine⟨s1.heap.objs.size,[s1.heap.objs.size],_,_,H1,rfl,I1.kept (t':=s1.toks) fun b o e=>Heap.get?_push_of_some _ e,JB a _,⟨_,Heap.get?_push_size _ rfl,rfl,rfl⟩,fun b hb=>?_,q⟩
 have e:b=s1.heap.objs.size:=by simpa using hb
 subst e
 exact I1.fpOk (le_refl _) (I1.hok.fresh (le_refl _))
theorem RW{l:Expr}{tl:TE}(hl:PE X l tl):PI X tg l (V8 X.K tl):=by
 intro pins s σ H R I h
 refine thn (hl pins s σ H _ I h) fun v s1 ⟨x,H1,I1,r1,q1⟩=>?_
 obtain⟨a,e,⟨xs,hq⟩,q⟩:=q1
 subst e
 cases r1
 obtain⟨its,rv,p,hz⟩:=I1.tuple hq
 refine wpAny_pyIter_tuple (show s1.heap.IsTuple a its.toArray from p) ?_
 refine⟨s1.heap.objs.size,[s1.heap.objs.size],_,_,H1,rfl,I1.kept (t':=s1.toks) fun b o e=>Heap.get?_push_of_some _ e,Gj a _,⟨_,Heap.get?_push_size _ rfl,rfl,rfl⟩,fun b hb=>?_,q⟩
 have e:b=s1.heap.objs.size:=by simpa using hb
 subst e
 exact I1.fpOk (le_refl _) (I1.hok.fresh (le_refl _))
theorem Et{pins:OP}{σ:St}{H:Hp}{s:Shared}{R:It->Hp->Prop}{E:EV}{lo hi:Int}{t u v:Tok}{tk:Nat}(I:Inv X pins σ H s)(h1:-(2 ^ 62)<=lo)(h2:lo<2 ^ 62)(h3:-(2 ^ 62)<=hi)(h4:hi<2 ^ 62)
  (q:R (Itr lo (hi - lo).toNat) H):wpAny (model X.prog X.w) X.A (pyIter (.ref s.heap.objs.size)) (PIE X pins σ tg R) E {s with heap:=s.heap.push {cls:=.type "range",data:=.fields #[.int lo t,.int hi u,.int 1 v]},toks:=tk}:=by
 refine wpAny_pyIter_range (IsRange.new ..) (small_one h1 h2 h3 h4) ?_
 have I1:Inv X pins σ H {s with heap:=s.heap.push {cls:=.type "range",data:=.fields #[.int lo t,.int hi u,.int 1 v]},toks:=tk}:=I.kept fun b o e=>Heap.get?_push_of_some _ e
 refine⟨(s.heap.push {cls:=.type "range",data:=.fields #[.int lo t,.int hi u,.int 1 v]}).objs.size,[(s.heap.push {cls:=.type "range",data:=.fields #[.int lo t,.int hi u,.int 1 v]}).objs.size],_,_,H,rfl,
  I1.kept (t':=tk) fun b o e=>Heap.get?_push_of_some _ e,Ff _ lo (hi - lo).toNat,?_,fun b hb=>?_,q⟩
 ·have e1:lo+((0:Nat):Int)*1=lo:=by simp
  have e2:(((hi - lo).toNat:Nat):Int) - ((0:Nat):Int)=Builtin.Range.rangeSize lo hi 1:=by rw[rangeSize_one];split <;> omega
  show IsRangeIter _ _ (lo+((0:Nat):Int)*1) ((((hi - lo).toNat:Nat):Int) - ((0:Nat):Int)) 1
  rw[e1,e2]
  exact Heap.get?_push_size _ rfl
 ·have e:b=(s.heap.push {cls:=.type "range",data:=.fields #[.int lo t,.int hi u,.int 1 v]}).objs.size:=by simpa using hb
  subst e
  exact I1.fpOk (le_refl _) (I1.hok.fresh (le_refl _))
def Tj(ta:TA):TI:=fun σ H R=>ta σ H fun vs H1=>∃ j:Int,vs=[.int j] /\ -(2 ^ 62)<=j/\j<2 ^ 62/\R (Itr 0 j.toNat) H1
def T6(ta:TA):TI:=fun σ H R=>ta σ H fun vs H1=>∃ i j:Int,vs=[.int i,.int j]/\(-(2 ^ 62)<=i/\i<2 ^ 62 /\ -(2 ^ 62)<=j/\j<2 ^ 62)/\R (Itr i (j - i).toNat) H1
theorem dY{a:Expr}{ta:TA}{p pos:Pos}(hg:Gl X "range")(hm:X.mg "range" = none)(ha:PA X [a] ta)(hs:starEach [a] X.env=[(false,eval a X.env)]:=by rfl):PI X tg (.Call (.Name "range" p) [a] [] pos) (Tj ta):=by
 intro pins s σ H R I h
 refine Call_ (oh I hg hm boot_range (PyProof.Rows.callWith_type1 (thn (ha pos pins s σ H _ I h) fun us s1 ⟨vs,H1,I1,r1,q1⟩=>?_) hs rfl))
 obtain⟨j,e,q1,q2,q⟩:=q1
 subst e
 cases r1 with
 | cons r rr =>
  cases rr
  obtain⟨t,rfl⟩:=r
  exact call_range_1 (Et I1 Zb Zb q1 q2 (by simpa using q))
theorem JV{a b:Expr}{ta:TA}{p pos:Pos}(hg:Gl X "range")(hm:X.mg "range" = none)(ha:PA X [a,b] ta)(hs:starEach [a,b] X.env=[(false,eval a X.env),(false,eval b X.env)]:=by rfl)(hs2:starEach [b] X.env=[(false,eval b X.env)]:=by rfl) :
  PI X tg (.Call (.Name "range" p) [a,b] [] pos) (T6 ta):=by
 intro pins s σ H R I h
 refine Call_ (oh I hg hm boot_range (PyProof.Rows.callWith_type1 (thn (ha pos pins s σ H _ I h) fun us s1 ⟨vs,H1,I1,r1,q1⟩=>?_) (by rw[hs,hs2]) (by rw[hs2];rfl)))
 obtain⟨i,j,e,⟨q1,q2,q3,q4⟩,q⟩:=q1
 subst e
 cases r1 with
 | cons r rr =>
  cases rr with
  | cons r' rr =>
   cases rr
   obtain⟨t,rfl⟩:=r
   obtain⟨t',rfl⟩:=r'
   exact call_range_2 (Et I1 q1 q2 q3 q4 q)
def Tv(wi:TI)(g:TG)(tb:TS):TS:=fun D σ H=>wi σ H fun J H1=>∃ W:Nat->Nat->St->Hp->Prop,(∃ m,W 0 m σ H1)/\∀ i m σ H,W i m σ H ->
 (J.stop i H/\D.nx σ H)\/(J.go i H/\∃ N:St->Hp->Prop,(∀ σ' H',N σ' H'->∃ m',m'<m/\W (i+1) m' σ' H')/\∀ x H',J.yld i H x H'->g x σ H' fun σ2 H2=>tb {D with nx:=N,ct:=N,bk:=D.nx} σ2 H2)
def xR(fp:List Addr)(h:Heap):OP:=fp.filterMap fun b=>(h.get? b).map fun o=>(b,o)
theorem o7{fp:List Addr}{h:Heap}{b:Addr}{o:Obj}(hb:b∈fp)(e:h.get? b=some o):(b,o)∈xR fp h:=List.mem_filterMap.mpr ⟨b,hb,by rw[e];rfl⟩
theorem Jm{fp:List Addr}{h:Heap}{p:Addr×Obj}(hp:p∈xR fp h):p.1∈fp/\h.get? p.1=some p.2:=by
 obtain⟨b,hb,e⟩:=List.mem_filterMap.mp hp
 cases q:h.get? b with
 | none=>rw[q]at e;cases e
 | some o =>
  rw[q]at e
  have e':(b,o)=p:=Option.some.inj e
  subst e'
  exact⟨hb,q⟩
theorem Inv.pinned{pins:OP}{σ:St}{H:Hp}{s:Shared}{fp:List Addr}(I:Inv X pins σ H s)(hf:∀ b∈fp,wU X pins H b)(ho:∀ b∈fp,∃ o,s.heap.get? b=some o/\∀ v,o.data≠.cell v):Inv X (pins++xR fp s.heap) σ H s :=
 I.pins_of fun p hp=>(mem_append.mp hp).elim (fun z=>I.pin p (mem_append_right _ z)) fun z=>by
  obtain⟨hb,e⟩:=Jm z
  obtain⟨f0,f1,f2,_⟩:=hf p.1 hb
  obtain⟨o,e',d⟩:=ho p.1 hb
  rw[e]at e';cases e'
  exact⟨e,f0,f1,f2,d⟩
theorem Inv.unpinned{pins pl:OP}{σ:St}{H:Hp}{s:Shared}(I:Inv X (pins++pl) σ H s):Inv X pins σ H s:=I.pins_of fun p hp=>I.pin p (mem_append_right _ (mem_append_left _ hp))
theorem Q5{iter:Expr}{body:List Stmt}{wi:TI}{g:TG}{tb:TS}{pos:Pos}(hp:PassesOwn (model X.prog X.w) X.A X.env X.xe)(hc:X.calm=true)(hi:PI X tg iter wi)(hg:PG X tg g)(hb:PSs X body tb)
  (hs:∀ x,foldedSetIterable iter X.env x=pure x:=by intro _;rfl):PS X (.For tg iter body [] pos) (Tv wi g tb):=by
 intro pins s σ H D I h
 refine wpAny_For (thn (hi pins s σ H _ I h) fun v s1 h1=>thn h1 fun itv s2 h2=>?_) hs
 obtain⟨it,fp,tn,J,H2,e,I2,T,st2,f2,W,⟨m0,w0⟩,turn⟩:=h2
 subst e
 have stat:∀ {H':Hp},(∀ b∈fp,H' b=none)->∀ b∈fp,wU X pins H' b:=fun hn b hb=>⟨hn b hb,(f2 b hb).2⟩
 refine codeAny_forLoop_any (fun n s'=>∃ i σ' H',Inv X pins σ' H' s'/\tn i s'.heap/\(∀ b∈fp,H' b=none)/\W i n σ' H') ?_ m0 ⟨0,σ,H2,I2,st2,fun b hb=>(f2 b hb).1,w0⟩
 rintro n s3 ⟨i,σ3,H3,I3,st3,fr3,w3⟩
 rcases turn i n σ3 H3 w3 with⟨stop,qn⟩|⟨go,N,hN,step⟩
 ·refine wpAny_passesOwn hp (thn (T.done X rfl rfl rfl hc i pins s3 σ3 H3 X.xe I3 (stat fr3) st3 stop) fun r s4 ⟨hr,I4⟩=>?_)
  subst hr
  exact wpAny_execs_nil ⟨σ3,H3,I4,qn⟩
 ·refine wpAny_passesOwn hp (thn (T.item X rfl rfl rfl hc i pins s3 σ3 H3 X.xe I3 (stat fr3) st3 go) fun r s4 ⟨u,hr,h4⟩=>?_)
  subst hr
  refine wpAny_passesOwn hp (thn h4 fun _ s5 ⟨x,H5,I5,r5,y5,st5,fr5⟩=>?_)
  have I5':=I5.pinned (stat fr5) (T.obj _ _ st5)
  refine wpAny_passesOwn hp (thn (hg _ s5 σ3 H5 x u _ I5' r5 (step x H5 y5)) fun _ s6 ⟨σ6,H6,I6,q6⟩=>?_)
  refine wpAny_passesOwn hp (thn (hb _ s6 σ6 H6 _ I6 q6) fun f s7 q7=>?_)
  have again:∀ {σ7:St} {H7:Hp},Inv X (pins++xR fp s5.heap) σ7 H7 s7->N σ7 H7->∃ m,m<n/\∃ i σ' H',Inv X pins σ' H' s7/\tn i s7.heap/\(∀ b∈fp,H' b=none)/\W i m σ' H':=fun{σ7 H7} I7 n7=>by
   obtain⟨m',hm,w7⟩:=hN σ7 H7 n7
   refine⟨m',hm,i+1,σ7,H7,I7.unpinned,T.keep _ _ _ st5 fun b hb o e=>(I7.pin (b,o) (mem_append_right _ (mem_append_right _ (o7 hb e)))).1,fun b hb=>?_,w7⟩
   obtain⟨o,e,d⟩:=T.obj _ _ st5 b hb
   exact(I7.pin (b,o) (mem_append_right _ (mem_append_right _ (o7 hb e)))).2.1
  cases f with
  | next=>obtain⟨σ7,H7,I7,n7⟩:=q7;exact again I7 n7
  | cont=>obtain⟨σ7,H7,I7,n7⟩:=q7;exact again I7 n7
  | brk=>obtain⟨σ7,H7,I7,q7⟩:=q7;exact⟨σ7,H7,I7.unpinned,q7⟩
  | ret v=>obtain⟨x7,σ7,H7,I7,r7,q7⟩:=q7;exact⟨x7,σ7,H7,I7.unpinned,r7,q7⟩
end
theorem Cr {K:Frag} {a:Addr} {xs:List V} {g:TG} {tb:TS} {D:Ends} {σ:St} {H:Hp} (Pv:Nat -> St -> Hp -> Prop) (h0:Pv 0 σ H) (hl:∀ i σ H,i <= xs.length -> Pv i σ H -> SqL K H a xs)
  (hs:∀ i x σ H,xs[i]? = some x -> Pv i σ H -> g x σ H fun σ2 H2=>tb { D with nx:=Pv (i + 1),ct:=Pv (i + 1),bk:=D.nx } σ2 H2) (hd:∀ σ H,Pv xs.length σ H -> D.nx σ H) :
  ∃ W:Nat -> Nat -> St -> Hp -> Prop,(∃ m,W 0 m σ H) /\ ∀ i m σ H,W i m σ H ->
   ((Itl K a).stop i H /\ D.nx σ H) \/ ((Itl K a).go i H /\ ∃ N:St -> Hp -> Prop,(∀ σ' H',N σ' H' -> ∃ m',m' < m /\ W (i + 1) m' σ' H') /\ ∀ x H',(Itl K a).yld i H x H' -> g x σ H' fun σ2 H2=>tb { D with nx:=N,ct:=N,bk:=D.nx } σ2 H2):=by
 refine ⟨fun i m σ H=>m = xs.length - i /\ i <= xs.length /\ Pv i σ H,⟨xs.length,Zc,zero_le _,h0⟩,?_⟩
 rintro i m σ H ⟨rfl,hi,p⟩
 have q:=hl i σ H hi p
 by_cases hlt:i < xs.length
 ·refine .inr ⟨⟨xs,xs[i],q,by simp [hlt]⟩,Pv (i + 1),fun σ' H' p'=>⟨xs.length - (i + 1),Zb,rfl,hlt,p'⟩,fun x H' y=>?_⟩
  obtain ⟨e,y⟩:=y
  subst e
  exact hs i x σ _ (y xs q) p
 ·have e:i = xs.length:=by omega
  subst e
  exact .inl ⟨⟨xs,q,le_refl _⟩,hd σ H p⟩
theorem qQ {lo:Int} {n:Nat} {g:TG} {tb:TS} {D:Ends} {σ:St} {H:Hp} (Pv:Nat -> St -> Hp -> Prop) (h0:Pv 0 σ H)
  (hs:∀ i σ H,i < n -> Pv i σ H -> g (.int (lo + i)) σ H fun σ2 H2=>tb { D with nx:=Pv (i + 1),ct:=Pv (i + 1),bk:=D.nx } σ2 H2) (hd:∀ σ H,Pv n σ H -> D.nx σ H) :
  ∃ W:Nat -> Nat -> St -> Hp -> Prop,(∃ m,W 0 m σ H) /\ ∀ i m σ H,W i m σ H ->
   ((Itr lo n).stop i H /\ D.nx σ H) \/ ((Itr lo n).go i H /\ ∃ N:St -> Hp -> Prop,(∀ σ' H',N σ' H' -> ∃ m',m' < m /\ W (i + 1) m' σ' H') /\ ∀ x H',(Itr lo n).yld i H x H' -> g x σ H' fun σ2 H2=>tb { D with nx:=N,ct:=N,bk:=D.nx } σ2 H2):=by
 refine ⟨fun i m σ H=>m = n - i /\ i <= n /\ Pv i σ H,⟨n,Zc,zero_le _,h0⟩,?_⟩
 rintro i m σ H ⟨rfl,hi,p⟩
 by_cases hlt:i < n
 ·refine .inr ⟨hlt,Pv (i + 1),fun σ' H' p'=>⟨n - (i + 1),Zb,rfl,hlt,p'⟩,fun x H' y=>?_⟩
  obtain ⟨e,y⟩:=y
  subst e y
  exact hs i σ _ hlt p
 ·have e:i = n:=by omega
  subst e
  exact .inl ⟨le_refl _,hd σ H p⟩
abbrev R2:=V->V->Hp->VK->Prop
def OpR(X:Cx)(f:Value->Value->Sem Value)(r:R2):Prop :=
 ∀ (pins:OP) (s:Shared) (σ:St) (H:Hp) (x y:V) (v u:Value) (Q:VK),Inv X pins σ H s->RelV x v->RelV y u->r x y H Q ->
  wpAny (model X.prog X.w) X.A (f v u) (EP X pins σ Q) X.xe s
def UnR(X:Cx)(f:Value->Sem Value)(r:V->Hp->VK->Prop):Prop :=
 ∀ (pins:OP) (s:Shared) (σ:St) (H:Hp) (x:V) (v:Value) (Q:VK),Inv X pins σ H s->RelV x v->r x H Q ->
  wpAny (model X.prog X.w) X.A (f v) (EP X pins σ Q) X.xe s
def iy(X:Cx)(f:Value)(r:List V->Hp->VK->Prop):Prop :=
 ∀ (pins:OP) (s:Shared) (σ:St) (H:Hp) (xs:List V) (us:List Value) (Q:VK),Inv X pins σ H s->Vals xs us->r xs H Q ->
  wpAny (model X.prog X.w) X.A (call f us) (EP X pins σ Q) X.xe s
def tOp(r:R2)(ta tb:TE):TE:=fun σ H Q=>ta σ H fun x H1=>tb σ H1 fun y H2=>r x y H2 Q
def tUn(r:V->Hp->VK->Prop)(ta:TE):TE:=fun σ H Q=>ta σ H fun x H1=>r x H1 Q
def rI(C:Int->Int->Prop)(g:Int->Int->V):R2:=fun x y H Q=>∃ i j,x=.int i/\y=.int j/\C i j/\Q (g i j) H
def rI0(g:Int->Int->V):R2:=fun x y H Q=>∃ i j,x=.int i/\y=.int j/\Q (g i j) H
def rU(g:Int->V):V->Hp->VK->Prop:=fun x H Q=>∃ i,x=.int i/\Q (g i) H
section
variable {X:Cx} {a b c:Expr} {ta tb tc:TE} {pos:Pos}
theorem Rn(ha:PE X a ta)(hb:PE X b tb){pins:OP}{s:Shared}{σ:St}{H:Hp}{R:V->V->Hp->Prop}(I:Inv X pins σ H s)
  (h:ta σ H fun x H1=>tb σ H1 fun y H2=>R x y H2){Q:EV}{f:Value->Value->Sem Value}
  (hf:∀ v u s2 x y H2,Inv X pins σ H2 s2->RelV x v->RelV y u->R x y H2->wpAny (model X.prog X.w) X.A (f v u) Q X.xe s2) :
  wpAny (model X.prog X.w) X.A (eval a X.env) (fun v s₁=>wpAny (model X.prog X.w) X.A (eval b X.env) (fun u s₂=>wpAny (model X.prog X.w) X.A (f v u) Q X.xe s₂) X.xe s₁) X.xe s:=by
 refine thn (ha pins s σ H _ I h) fun v s1 ⟨x,H1,I1,r1,q1⟩=>?_
 refine thn (hb pins s1 σ H1 _ I1 q1) fun u s2 ⟨y,H2,I2,r2,q2⟩=>?_
 exact hf v u s2 x y H2 I2 r1 r2 q2
theorem aH{op:Operator}{r:R2}(ho:OpR X (binaryOp op) r)(ha:PE X a ta)(hb:PE X b tb):PE X (.BinOp a op b pos) (tOp r ta tb):=by
 intro pins s σ H Q I h
 exact wpAny_BinOp (Rn ha hb I h fun v u s2 x y H2 I2 rx ry q=>ho pins s2 σ H2 x y v u Q I2 rx ry q)
theorem Er{op:UnaryOp}{r:V->Hp->VK->Prop}(ho:UnR X (unaryOp op) r)(ha:PE X a ta):PE X (.UnaryOp op a pos) (tUn r ta):=by
 intro pins s σ H Q I h
 exact UnaryOp_ (thn (ha pins s σ H _ I h) fun v s1 ⟨x,H1,I1,r1,q1⟩=>ho pins s1 σ H1 x v Q I1 r1 q1)
theorem opI {f:Value->Value->Sem Value} {C:Int->Int->Prop} {g:Int->Int->Int}
  (rule:∀ (i j:Int) (t u:Tok) (s:Shared) (Q:EV) (E:EV),C i j->Q (.int (g i j) s.toks) {s with toks:=s.toks+1}->wpAny (model X.prog X.w) X.A (f (.int i t) (.int j u)) Q E s) :
  OpR X f (rI C fun i j=>.int (g i j)):=by
 intro pins s σ H x y v u Q I rx ry h
 obtain⟨i,j,rfl,rfl,hc,q⟩:=h
 obtain⟨t,rfl⟩:=rx
 obtain⟨t',rfl⟩:=ry
 exact rule i j t t' s _ _ hc ⟨.int (g i j),H,I.tok _,⟨_,rfl⟩,q⟩
theorem O5 {f:Value->Value->Sem Value} {g:Int->Int->Int}
  (rule:∀ (i j:Int) (t u:Tok) (s:Shared) (Q:EV) (E:EV),Q (.int (g i j) s.toks) {s with toks:=s.toks+1}->wpAny (model X.prog X.w) X.A (f (.int i t) (.int j u)) Q E s) :
  OpR X f (rI0 fun i j=>.int (g i j)):=by
 intro pins s σ H x y v u Q I rx ry h
 obtain⟨i,j,rfl,rfl,q⟩:=h
 obtain⟨t,rfl⟩:=rx
 obtain⟨t',rfl⟩:=ry
 exact rule i j t t' s _ _ ⟨.int (g i j),H,I.tok _,⟨_,rfl⟩,q⟩
theorem RV {f:Value->Value->Sem Value} {g:Int->Int->Bool}
  (rule:∀ (i j:Int) (t u:Tok) (s:Shared) (Q:EV) (E:EV),Q (.bool (g i j)) s->wpAny (model X.prog X.w) X.A (f (.int i t) (.int j u)) Q E s) :
  OpR X f (rI0 fun i j=>.bl (g i j)):=by
 intro pins s σ H x y v u Q I rx ry h
 obtain⟨i,j,rfl,rfl,q⟩:=h
 obtain⟨t,rfl⟩:=rx
 obtain⟨t',rfl⟩:=ry
 exact rule i j t t' s _ _ ⟨.bl (g i j),H,I,rfl,q⟩
def Rq(i j:Int):Prop:=0<j/\j<1073741824
def Tr(i j:Int):Prop:=0<=j/\j<=1000000/\i.natAbs<2 ^ 64
def Mh(i j:Int):Prop:=(-(2 ^ 64)<i/\i<2 ^ 64)\/(-(2 ^ 64)<j/\j<2 ^ 64)
theorem Mh.ok {i j:Int} (h:Mh i j):IntMulOk i j:=by
 rcases h with ⟨h1,h2⟩ | ⟨h1,h2⟩
 ·exact .of_left (intBits_le_64 h1 h2)
 ·exact .of_right (intBits_le_64 h1 h2)
theorem Fw(k:Nat):(0:Int)<=2 ^ k:=by
 rw[two_pow_cast]
 exact Int.natCast_nonneg _
theorem b7:OpR X (binaryOp .Add) (rI0 fun i j=>.int (i+j)):=O5 fun _ _ _ _ _ _ _ q=>add_int q
theorem rG:OpR X (binaryOp .Sub) (rI0 fun i j=>.int (i - j)):=O5 fun _ _ _ _ _ _ _ q=>sub_int q
theorem jB:OpR X (binaryOp .Mult) (rI Mh fun i j=>.int (i*j)):=opI fun _ _ _ _ _ _ _ hc q=>mul_int q hc.ok
theorem lW:OpR X (binaryOp .FloorDiv) (rI Rq fun i j=>.int (i / j)):=opI fun i j _ _ _ _ _ hc q=>by
 have h1:(0:Int)<j:=hc.1
 have h2:j<1073741824:=hc.2
 exact floordiv_int Zb (by rw[Int.fdiv_eq_ediv_of_nonneg i Zb];exact q) (.inl (PyProof.noPylong_small Zb))
theorem d8:OpR X (binaryOp .Mod) (rI (fun _ j=>0<j) fun i j=>.int (i%j)):=opI fun i j _ _ _ _ _ hc q=>by
 have h1:(0:Int)<j:=hc
 exact mod_int' Zb (by rw[Int.fmod_eq_emod_of_nonneg i Zb];exact q)
theorem Lh:OpR X (binaryOp .Pow) (rI Tr fun i j=>.int (i ^ j.toNat)):=opI fun _ _ _ _ _ _ _ hc q=>pow_int_small hc.1 hc.2.1 hc.2.2 q
theorem RL:OpR X (binaryOp .LShift) (rI Tr fun i j=>.int (i*2 ^ j.toNat)):=opI fun _ _ _ _ _ _ _ hc q=>lshift_int_small hc.1 hc.2.1 hc.2.2 q
theorem uK:OpR X (binaryOp .RShift) (rI (fun _ j=>0<=j) fun i j=>.int (i / 2 ^ j.toNat)):=opI fun i j _ _ _ _ _ hc q =>
 rshift_int hc (by rw[Int.fdiv_eq_ediv_of_nonneg i (Fw _)];exact q)
theorem Mm:OpR X (binaryOp .BitAnd) (rI0 fun i j=>.int (Builtin.bitAnd i j)):=O5 fun _ _ _ _ _ _ _ q=>and_int q
theorem T4:OpR X (binaryOp .BitOr) (rI0 fun i j=>.int (Builtin.bitOr i j)):=O5 fun _ _ _ _ _ _ _ q=>or_int q
theorem unI {f:Value->Sem Value} {g:Int->Int}
  (rule:∀ (i:Int) (t:Tok) (s:Shared) (Q:EV) (E:EV),Q (.int (g i) s.toks) {s with toks:=s.toks+1}->wpAny (model X.prog X.w) X.A (f (.int i t)) Q E s) :
  UnR X f (rU fun i=>.int (g i)):=by
 intro pins s σ H x v Q I rx h
 obtain⟨i,rfl,q⟩:=h
 obtain⟨t,rfl⟩:=rx
 exact rule i t s _ _ ⟨.int (g i),H,I.tok _,⟨_,rfl⟩,q⟩
theorem yc:UnR X (unaryOp .USub) (rU fun i=>.int (-i)):=unI fun _ _ _ _ _ q=>neg_int q
end
def Uj:V->V->Bool
 | .non,.non=>true|.non,.int _=>true|.int _,.non=>true|.non,.bl _=>true|.bl _,.non=>true|.non,.str _=>true|.str _,.non=>true
 | .int _,.int _=>true|.bl _,.bl _=>true|.str _,.str _=>true|.byt _,.byt _=>true
 | .int _,.str _=>true|.str _,.int _=>true|.bl _,.str _=>true|.str _,.bl _=>true
 | _,_=>false
def rEq:R2:=fun x y H Q=>Uj x y=true/\Q (.bl (decide (x=y))) H
def rNe:R2:=fun x y H Q=>Uj x y=true/\Q (.bl (!decide (x=y))) H
theorem jN{i j:Int}:decide (V.int i=V.int j)=(i==j):=by
 rw[Bool.eq_iff_iff]
 simp
theorem Kw{i j:Bool}:decide (V.bl i=V.bl j)=(i==j):=by
 rw[Bool.eq_iff_iff]
 simp
theorem lH{i j:Str}:decide (V.str i=V.str j)=(i==j):=by
 rw[Bool.eq_iff_iff]
 simp
theorem HQ{i j:Array UInt8}:decide (V.byt i=V.byt j)=(i.toList==j.toList):=by
 rw[Bool.eq_iff_iff]
 cases i
 cases j
 simp
section
variable {X:Cx} {a b c:Expr} {ta tb tc:TE} {pos:Pos}
theorem bV{pins:OP}{σ:St}{H:Hp}{s:Shared}{Q:VK}{k k':Bool}(I:Inv X pins σ H s)(q:Q (.bl k) H)(e:k=k'):EP X pins σ Q (.bool k') s:=by
 subst e
 exact⟨.bl k,H,I,rfl,q⟩
theorem bB:OpR X (compareOp .Eq) rEq:=by
 intro pins s σ H x y v u Q I rx ry h
 obtain⟨hs,q⟩:=h
 cases x with
 | non =>
  cases rx
  cases y with
  | non=>cases ry;exact PySem.EqNone.eq_none_none (bV I q Zc)
  | bl j=>cases ry;exact PySem.EqNone.eq_none_bool (bV I q Zc)
  | int j=>obtain⟨t',rfl⟩:=ry;exact PySem.EqNone.eq_none_int (bV I q Zc)
  | str j=>obtain⟨t',rfl⟩:=ry;exact PySem.EqNone.eq_none_str (bV I q Zc)
  | _=>exact absurd (show false=true from hs) Bool.false_ne_true
 | bl i =>
  cases rx
  cases y with
  | non=>cases ry;exact PySem.EqNone.eq_bool_none (bV I q Zc)
  | bl j=>cases ry;exact eq_bool (bV I q Kw)
  | str j=>obtain⟨t',rfl⟩:=ry;exact PySem.EqMixed.eq_bool_str (bV I q Zc)
  | _=>exact absurd (show false=true from hs) Bool.false_ne_true
 | int i =>
  obtain⟨t,rfl⟩:=rx
  cases y with
  | non=>cases ry;exact PySem.EqNone.eq_int_none (bV I q Zc)
  | int j=>obtain⟨t',rfl⟩:=ry;exact eq_int (bV I q jN)
  | str j=>obtain⟨t',rfl⟩:=ry;exact PySem.EqMixed.eq_int_str (bV I q Zc)
  | _=>exact absurd (show false=true from hs) Bool.false_ne_true
 | str i =>
  obtain⟨t,rfl⟩:=rx
  cases y with
  | non=>cases ry;exact PySem.EqNone.eq_str_none (bV I q Zc)
  | bl j=>cases ry;exact PySem.EqMixed.eq_str_bool (bV I q Zc)
  | int j=>obtain⟨t',rfl⟩:=ry;exact PySem.EqMixed.eq_str_int (bV I q Zc)
  | str j=>obtain⟨t',rfl⟩:=ry;exact eq_str (bV I q lH)
  | _=>exact absurd (show false=true from hs) Bool.false_ne_true
 | byt i =>
  obtain⟨t,rfl⟩:=rx
  cases y with
  | byt j=>obtain⟨t',rfl⟩:=ry;exact PySem.W.eq_bytes (bV I q HQ)
  | _=>exact absurd (show false=true from hs) Bool.false_ne_true
 | _=>cases y <;> exact absurd (show false=true from hs) Bool.false_ne_true
theorem dM:OpR X (compareOp .NotEq) rNe:=by
 intro pins s σ H x y v u Q I rx ry h
 obtain⟨hs,q⟩:=h
 cases x with
 | non =>
  cases rx
  cases y with
  | non=>cases ry;exact PySem.EqNone.ne_none_none (bV I q Zc)
  | bl j=>cases ry;exact PySem.EqNone.ne_none_bool (bV I q Zc)
  | int j=>obtain⟨t',rfl⟩:=ry;exact PySem.EqNone.ne_none_int (bV I q Zc)
  | str j=>obtain⟨t',rfl⟩:=ry;exact PySem.EqNone.ne_none_str (bV I q Zc)
  | _=>exact absurd (show false=true from hs) Bool.false_ne_true
 | bl i =>
  cases rx
  cases y with
  | non=>cases ry;exact PySem.EqNone.ne_bool_none (bV I q Zc)
  | bl j=>cases ry;exact ne_bool (bV I q (congrArg not Kw))
  | str j=>obtain⟨t',rfl⟩:=ry;exact PySem.EqMixed.ne_bool_str (bV I q Zc)
  | _=>exact absurd (show false=true from hs) Bool.false_ne_true
 | int i =>
  obtain⟨t,rfl⟩:=rx
  cases y with
  | non=>cases ry;exact PySem.EqNone.ne_int_none (bV I q Zc)
  | int j=>obtain⟨t',rfl⟩:=ry;exact ne_int (bV I q (congrArg not jN))
  | str j=>obtain⟨t',rfl⟩:=ry;exact PySem.EqMixed.ne_int_str (bV I q Zc)
  | _=>exact absurd (show false=true from hs) Bool.false_ne_true
 | str i =>
  obtain⟨t,rfl⟩:=rx
  cases y with
  | non=>cases ry;exact PySem.EqNone.ne_str_none (bV I q Zc)
  | bl j=>cases ry;exact PySem.EqMixed.ne_str_bool (bV I q Zc)
  | int j=>obtain⟨t',rfl⟩:=ry;exact PySem.EqMixed.ne_str_int (bV I q Zc)
  | str j=>obtain⟨t',rfl⟩:=ry;exact ne_str (bV I q (congrArg not lH))
  | _=>exact absurd (show false=true from hs) Bool.false_ne_true
 | byt i =>
  obtain⟨t,rfl⟩:=rx
  cases y with
  | byt j=>obtain⟨t',rfl⟩:=ry;exact PySem.W.ne_bytes (bV I q (congrArg not HQ))
  | _=>exact absurd (show false=true from hs) Bool.false_ne_true
 | _=>cases y <;> exact absurd (show false=true from hs) Bool.false_ne_true
theorem Kl:OpR X (compareOp .Lt) (rI0 fun i j=>.bl (decide (i<j))):=RV fun _ _ _ _ _ _ _ q=>lt_int q
theorem HR:OpR X (compareOp .LtE) (rI0 fun i j=>.bl (decide (i<=j))):=RV fun _ _ _ _ _ _ _ q=>le_int q
theorem ju:OpR X (compareOp .Gt) (rI0 fun i j=>.bl (decide (j<i))):=RV fun _ _ _ _ _ _ _ q=>gt_int q
theorem uF:OpR X (compareOp .In) (fun x y H Q=>∃ i j,x=.str i/\y=.str j/\Q (.bl (!(Builtin.Str.occurrences j i 0 j.length 1).isEmpty)) H):=by
 intro pins s σ H x y v u Q I rx ry h
 obtain⟨i,j,rfl,rfl,q⟩:=h
 obtain⟨t,rfl⟩:=rx
 obtain⟨t',rfl⟩:=ry
 exact in_str (bV I q rfl)
theorem Bx:OpR X (compareOp .Is) (fun x y H Q=>y=.non/\Q (.bl (decide (x=.non))) H):=by
 intro pins s σ H x y v u Q I rx ry h
 obtain⟨rfl,q⟩:=h
 cases ry
 refine is_none_gen (bV I q ?_)
 cases x <;> first
  | (cases rx;rfl)
  | (obtain⟨t,rfl⟩:=rx;rfl)
theorem Qa:OpR X (compareOp .IsNot) (fun x y H Q=>y=.non/\Q (.bl (!decide (x=.non))) H):=by
 intro pins s σ H x y v u Q I rx ry h
 obtain⟨rfl,q⟩:=h
 cases ry
 refine isnot_none_gen (bV I q ?_)
 cases x <;> first
  | (cases rx;rfl)
  | (obtain⟨t,rfl⟩:=rx;rfl)
theorem Bk:OpR X (compareOp .NotIn) (fun x y H Q=>∃ i j,x=.str i/\y=.str j/\Q (.bl (!(!(Builtin.Str.occurrences j i 0 j.length 1).isEmpty))) H):=by
 intro pins s σ H x y v u Q I rx ry h
 obtain⟨i,j,rfl,rfl,q⟩:=h
 obtain⟨t,rfl⟩:=rx
 obtain⟨t',rfl⟩:=ry
 exact notIn_str (bV I q rfl)
theorem aG(b:Expr){op:CmpOp}(h:op≠.In:=by decide)(h2:op≠.NotIn:=by decide):behindInMarks op b=false:=by
 have e1:(op==CmpOp.In)=false:=by cases op <;> first|rfl|exact absurd rfl h
 have e2:(op==CmpOp.NotIn)=false:=by cases op <;> first|rfl|exact absurd rfl h2
 cases b <;> simp[behindInMarks,e1,e2]
theorem bY{op:CmpOp}{r:R2}(ho:OpR X (compareOp op) r)(ha:PE X a ta)(hb:PE X b tb)(hm:behindInMarks op b=false):PE X (.Compare a [op] [b] pos) (tOp r ta tb):=by
 intro pins s σ H Q I h
 exact wpAny_Compare1 (Rn ha hb I h fun v u s2 x y H2 I2 rx ry q=>ho pins s2 σ H2 x y v u Q I2 rx ry q) hm
def Um(t:TE):TT:=fun σ H Q=>t σ H fun x H'=>∃ k,x=.bl k/\Q k H'
theorem aD{op:CmpOp}{r:R2}(ho:OpR X (compareOp op) r)(ha:PE X a ta)(hb:PE X b tb)(hm:behindInMarks op b=false):PT X (.Compare a [op] [b] pos) (Um (tOp r ta tb)):=by
 intro pins s σ H Q I h
 refine wpAny_isTrue_Compare1 (thn (ha pins s σ H _ I h) fun v s1 ⟨x,H1,I1,r1,q1⟩=>thn (hb pins s1 σ H1 _ I1 q1) fun u s2 ⟨y,H2,I2,r2,q2⟩ =>
  thn (ho pins s2 σ H2 x y v u _ I2 r1 r2 q2) fun c s3 ⟨z,H3,I3,r3,k,e,q3⟩=>?_) hm
 subst e
 cases r3
 exact wpAny_truthy_bool ⟨H3,I3,q3⟩
def Rx(r r':R2)(ta tb tc:TE):TE:=fun σ H Q=>ta σ H fun x H1=>tb σ H1 fun y H2=>r x y H2 fun z H3=>∃ k,z=.bl k /\
 (if k=true then tc σ H3 fun w' H4=>r' y w' H4 Q else Q (.bl false) H3)
theorem MN {op op':CmpOp} {r r':R2} (ho:OpR X (compareOp op) r) (ho':OpR X (compareOp op') r') (ha:PE X a ta) (hb:PE X b tb) (hc:PE X c tc)
  (hm:lastMarks [op,op'] [b,c]=false:=by with_unfolding_all rfl):PE X (.Compare a [op,op'] [b,c] pos) (Rx r r' ta tb tc):=by
 intro pins s σ H Q I h
 refine Compare_chain (thn (ha pins s σ H _ I h) fun v s1 ⟨x,H1,I1,r1,q1⟩=>chain_link (thn (hb pins s1 σ H1 _ I1 q1) fun u s2 ⟨y,H2,I2,r2,q2⟩ =>
  thn (ho pins s2 σ H2 x y v u _ I2 r1 r2 q2) fun d s3 ⟨z,H3,I3,r3,k,e,q3⟩=>?_)) hm
 subst e
 cases r3
 refine wpAny_truthy_bool ?_
 cases k with
 | false=>exact ite_ff ⟨.bl false,H3,I3,rfl,q3⟩
 | true=>exact ite_tt (chain_last (thn (hc pins s3 σ H3 _ I3 q3) fun w' s4 ⟨z',H4,I4,r4,q4⟩=>ho' pins s4 σ H4 y z' u w' Q I4 r2 r4 q4))
theorem uA:(sizeLine:Nat)<2 ^ 63:=by rw[sizeLine_eq];decide
theorem aR:OpR X (binaryOp .Add) (fun x y H Q=>∃ i j,x=.str i/\y=.str j/\i.length+j.length<=sizeLine/\Q (.str (i++j)) H):=by
 intro pins s σ H x y v u Q I rx ry h
 obtain⟨i,j,rfl,rfl,hz,q⟩:=h
 obtain⟨t,rfl⟩:=rx
 obtain⟨t',rfl⟩:=ry
 exact add_str (fun t' tk=>⟨.str (i++j),H,I.tok _,⟨_,rfl⟩,q⟩) hz
theorem vals1{x:V}{us:List Value}(r:Vals [x] us):∃ u,us=[u]/\RelV x u:=by
 cases r with
 | cons r1 r2=>cases r2;exact⟨_,rfl,r1⟩
theorem vals2{x y:V}{us:List Value}(r:Vals [x,y] us):∃ u w',us=[u,w']/\RelV x u/\RelV y w':=by
 cases r with
 | cons r1 r2 =>
  cases r2 with
  | cons r3 r4=>cases r4;exact⟨_,_,rfl,r1,r3⟩
theorem fK:iy X (.type "int") (fun xs H Q=>(∃ i,xs=[.int i]/\Q (.int i) H)\/∃ k,xs=[.bl k]/\Q (.int (if k then 1 else 0)) H):=by
 intro pins s σ H xs us Q I r h
 rcases h with⟨i,rfl,q⟩|⟨k,rfl,q⟩
 ·obtain⟨u,rfl,t,rfl⟩:=vals1 r
  exact call_int_int ⟨.int i,H,I,⟨_,rfl⟩,q⟩
 ·obtain⟨u,rfl,r1⟩:=vals1 r
  cases r1
  exact call_int_bool ⟨.int (if k then 1 else 0),H,I.tok _,⟨_,rfl⟩,q⟩
theorem tK:iy X (.type "str") (fun xs H Q=>∃ i,xs=[.int i]/\i.natAbs.log2<1920/\Q (.str (toString i)) H):=by
 intro pins s σ H xs us Q I r h
 obtain⟨i,rfl,hz,q⟩:=h
 obtain⟨u,rfl,t,rfl⟩:=vals1 r
 exact PySem.P.str_of_int hz ⟨.str _,H,I.tok _,⟨_,rfl⟩,q⟩
end
structure Gb(h:Heap)(x dx C:Addr)(mA:MG):Prop where
 obj:h.get? x=some (instObj C dx)
 ns:h.Ns1 dx mA
 ne:dx≠x
theorem qK{h:Heap}{dx:Addr}{mA:MG}(n:h.Ns1 dx mA):∃ od,h.get? dx=some od/\∀ name,lookIn name od=some (mA name):=by
 obtain⟨o,es,ep,ho,hd,hk,_,hm⟩:=n
 refine⟨o,ho,fun name=>?_⟩
 have e:=hm name
 unfold nsFind findBy at e
 rw[<- Array.find?_toList]at e
 unfold lookIn
 rw[hd]
 dsimp only
 split
 ·rename_i y q
  rw[q]at e
  exact congrArg some e
 ·rename_i q
  rw[q]at e
  have a:es.toList.any (·.refKey)=false:=by
   rw[any_eq_false]
   intro y hy
   obtain⟨z,t,hkey⟩:=hk y (Array.mem_toList_iff.mp hy)
   simp[DictEntry.refKey,hkey]
  have a':¬es.toList.any (·.refKey)=true:=by rw[a];exact Bool.false_ne_true
  rw[if_neg a']
  exact congrArg some e
theorem Gb.look{h:Heap}{x dx C:Addr}{mA:MG}(I:Gb h x dx C mA):∃ od,PySem.W.InstAt h x (instObj C dx) C (some od)/\∀ name,lookIn name od=some (mA name) :=
 let⟨od,ho,hl⟩:=qK I.ns
 ⟨od,⟨I.obj,rfl,rfl,ho⟩,hl⟩
section
variable {prog:Program} {w:World} {A:Around} {E:EV} {s:Shared} {K:Frag} {x dx C f:Addr} {mA:MG} {name:Str} {v:Value}
theorem Oo{expr:Bool}{Q:EV}(X:K.In s.heap)(I:Gb s.heap x dx C mA)(hg:plainGet K C name=true)(hh:hasDictIn K C=true)
  (ha:findIn K (.ref C) name=some none)(hv:mA name=some v)(hv':handedIn v=true)(h:Q v {s with toks:=s.toks+1}) :
  wpAny (model prog w) A (getAttr (.ref x) name expr) Q E s:=by
 obtain⟨od,J,hl⟩:=I.look
 exact PySem.W.get_value X J (plainGet_of hg).1 (PySem.W.findObj_own hh ha rfl (by rw[hl,hv])) hv' h
theorem Ks{pl:Sem Bool}{Q:Value×List Value->Shared->Prop}(X:K.In s.heap)(I:Gb s.heap x dx C mA)(hg:plainGet K C name=true)
  (hf:findIn K (.ref C) name=some (some (.ref f)))(ht:isFn K (.ref f)=true)(hv:mA name=none)(h:Q (.ref f,[.ref x]) s) :
  wpAny (model prog w) A (getMethod (.ref x) name pl) Q E s:=by
 obtain⟨od,J,hl⟩:=I.look
 exact PySem.W.method_fn X J (plainGet_of hg).1 (plainGet_of hg).2 hf (beq_iff_eq.mp ht) (by show(lookIn name od).map (·.isSome)=some false;rw[hl,hv];rfl) h
theorem Pu {ns:List Str} {Q:Unit->Shared->Prop} (X:K.In s.heap) (I:Gb s.heap x dx C mA)
  (hs:findIn K (.ref C) "__setattr__" = some (some (.builtin "object.__setattr__"))) (hp:plainOver K C=true) (ht:takerIn K C name=some none) (hh:hasDictIn K C=true)
  (hw:PySem.Within mA ns) (hsz:ns.length<=sizeLine)
  (h:∀ h',Gb h' x dx C (fun y=>if y=name then some v else mA y)->Heap.SameBut dx s.heap h'->Q () {s with heap:=h',toks:=s.toks+2}) :
  wpAny (model prog w) A (setAttr (.ref x) name v) Q E s:=by
 obtain⟨od,J,hl⟩:=I.look
 refine PySem.W.set_plain X J hs (PySem.W.osa_open (s:={s with toks:=s.toks+1}) (r:=none) X J hp ht fun b=>?_)
 obtain⟨cd,hc,hd'⟩:=PySem.W.any_some hh
 have hx:s.heap.get? x=some ⟨.ref C,some dx,.plain,#[]⟩:=I.obj
 refine wpAny_bind (wpAny_pure (wpAny_bind (wpAny_bind (wpAny_loadPart hx (wpAny_bind (PySem.W.Looks.here (s:={s with toks:=s.toks+1}) (PySem.W.looks_clsIn X hc) ?_))))))
 rw[hd']
 refine wpAny_pure (a:=some dx) (wpAny_bind (wpAny_pure (wpAny_bind ?_)))
 refine wpAny_nsSet1 (s:={s with toks:=s.toks+1}) I.ns fun h' hn2 hs2=>?_
 obtain⟨oD,esD,epD,hoD,hdD,hcD⟩:=hn2.count (PySem.Within.cons name v hw)
 refine wpAny_bind (wpAny_lookBehind hoD (by rw[hdD];exact pastItsLine_dict (le_trans hcD (by rw[length_cons];omega))) ?_)
 exact wpAny_pure (h _ ⟨(hs2.2 _ (Ne.symm I.ne)).trans I.obj,hn2,I.ne⟩ hs2)
theorem Lj {R:Result->Shared->Prop} {vs:List Value} {kw:List (Str×Value)} (X:K.In s.heap) (hm:makesIn K C=true)
  (hi:findIn K (.ref C) "__init__" = some (some (.ref f))) (hf:typeIn K (.ref f)=some (.type "function"))
  (h:codeAny (model prog w) (A.under (.builtin "type.__call__" ⟨.ref C::vs,kw⟩)) (.call (.ref f) ⟨.ref (s.heap.objs.size+1)::vs,kw⟩) (PySem.W.InitBack (s.heap.objs.size+1) R)
   {s with heap:=(s.heap.push emptyDict).push (instObj C s.heap.objs.size)}) :
  codeAny (model prog w) A (.call (.ref C) ⟨vs,kw⟩) R s:=by
 obtain⟨hh,g,d,t,os⟩:=s
 exact PySem.W.make_core (PySem.W.makes_of X hm) (PySem.W.looks_findIn X hi) (fun self=>PySem.W.bind_fn X self hf) (.inl rfl) h
end
def oE(f:Str)(v:V):List (Str×V)->List (Str×V)
 | []=>[(f,v)]
 | (g,x)::r=>if g=f then(g,v)::r else(g,x)::oE f v r
theorem mD(f g:Str)(v:V):∀ fs:List (Str×V),(oE f v fs).lookup g=if g=f then some v else fs.lookup g
 | []=>by
  show List.lookup g [(f,v)]=_
  by_cases h:g=f
  ·have hb:(g==f)=true:=beq_iff_eq.mpr h
   simp only[List.lookup,hb,if_pos h]
  ·have hb:(g==f)=false:=beq_eq_false_iff_ne.mpr h
   simp only[List.lookup,hb,if_neg h]
 | (k,x)::r=>by
  have ih:=mD f g v r
  rw[show oE f v ((k,x)::r)=(if k=f then(k,v)::r else(k,x)::oE f v r)from rfl]
  by_cases hk:k=f
  ·rw[if_pos hk]
   by_cases h:g=k
   ·have hb:(g==k)=true:=beq_iff_eq.mpr h
    simp only[List.lookup,hb,if_pos (h.trans hk)]
   ·have hb:(g==k)=false:=beq_eq_false_iff_ne.mpr h
    simp only[List.lookup,hb,if_neg (fun e:g=f=>h (e.trans hk.symm))]
  ·rw[if_neg hk]
   by_cases h:g=k
   ·have hb:(g==k)=true:=beq_iff_eq.mpr h
    simp only[List.lookup,hb,if_neg (fun e:g=f=>hk (h.symm.trans e))]
   ·have hb:(g==k)=false:=beq_eq_false_iff_ne.mpr h
    simp only[List.lookup,hb]
    exact ih
theorem uN(f:Str)(v:V):∀ fs:List (Str×V),f∈(oE f v fs).map (·.1)/\∀ g,g∈fs.map (·.1)->g∈(oE f v fs).map (·.1)
 | []=>⟨by simp[oE],fun g h=>by simp at h⟩
 | (k,x)::r=>by
  obtain⟨i1,i2⟩:=uN f v r
  rw[show oE f v ((k,x)::r)=(if k=f then(k,v)::r else(k,x)::oE f v r)from rfl]
  by_cases hk:k=f
  ·rw[if_pos hk]
   subst hk
   exact⟨Zc,fun g h=>by simpa using h⟩
  ·rw[if_neg hk]
   refine⟨?_,fun g h=>?_⟩
   ·rw[map_cons]
    exact mem_cons_of_mem _ i1
   ·rw[map_cons]at h ⊢
    rcases mem_cons.mp h with e|e
    ·exact mem_cons.mpr (.inl e)
    ·exact mem_cons_of_mem _ (i2 g e)
theorem ql(f:Str)(v:V):∀ fs:List (Str×V),(oE f v fs).length<=fs.length+1
 | []=>by simp[oE]
 | (k,x)::r=>by
  have ih:=ql f v r
  rw[show oE f v ((k,x)::r)=(if k=f then(k,v)::r else(k,x)::oE f v r)from rfl]
  by_cases hk:k=f
  ·rw[if_pos hk,length_cons,length_cons];omega
  ·rw[if_neg hk,length_cons,length_cons];omega
theorem rP.some_of{v:V}{o:Option Value}(r:rP (some v) o):∃ u,o=some u/\RelV v u:=by
 cases o with
 | none=>exact(show False from r).elim
 | some u=>exact⟨u,rfl,r⟩
theorem rP.none_of{o:Option Value}(r:rP none o):o=none:=by
 cases o with
 | none=>rfl
 | some u=>exact(show False from r).elim
theorem zm{v:V}{u:Value}(r:RelV v u):handedIn u=true:=by
 cases v with
 | non=>cases(show u=Value.none from r);rfl
 | bl b=>cases(show u=Value.bool b from r);rfl
 | int i=>obtain⟨t,e⟩:=(show ∃ t,u=Value.int i t from r);cases e;rfl
 | str x=>obtain⟨t,e⟩:=(show ∃ t,u=Value.str x t from r);cases e;rfl
 | byt b=>obtain⟨t,e⟩:=(show ∃ t,u=Value.bytes b t from r);cases e;rfl
 | flt b=>obtain⟨t,e⟩:=(show ∃ t,u=Value.float b t from r);cases e;rfl
 | ref a=>cases(show u=Value.ref a from r);rfl
 | ty n=>cases(show u=Value.type n from r);rfl
section
variable {P:Program} {w:World} {H H':Hp} {h h':Heap} {a C dx:Addr} {fs fs':List (Str×V)}
theorem vH(hok:HOk P w H h)(e:H a=some (.ins C dx fs)):∃ mA,Gb h a dx C mA/\(∀ f,rP (fs.lookup f) (mA f))/\PySem.Within mA (fs.map (·.1))/\fs.length<=1000/\H dx=some (.own a):=by
 obtain⟨d,z,ne,ob,mA,n,r,q⟩:=(show dB P w H h a (.ins C dx fs)from hok a _ e)
 exact⟨mA,⟨ob,n,ne⟩,r,q,z,d⟩
end
structure Cls(K:Frag)(C:Addr):Prop where
 pg:plainGet K C Str.empty=true
 hd:hasDictIn K C=true
 po:plainOver K C=true
 sa:findIn K (.ref C) "__setattr__" = some (some (.builtin "object.__setattr__"))
theorem Cls.get{K:Frag}{C:Addr}(c:Cls K C)(f:Str):plainGet K C f=true:=c.pg
def dq(K:Frag)(C:Addr)(f:Str):Prop:=findIn K (.ref C) f=some none
theorem dq.taker{K:Frag}{C:Addr}{f:Str}(n:dq K C f):takerIn K C f=some none:=by
 unfold takerIn
 rw[show findIn K (.ref C) f=some none from n]
 rfl
structure Meth(K:Frag)(C:Addr)(m:Str)(f:Addr):Prop where
 at_:findIn K (.ref C) m=some (some (.ref f))
 fn:isFn K (.ref f)=true
 kp:keepIn K (.ref f)=true
section
variable {X:Cx} {pins:OP} {σ:St} {H:Hp} {s:Shared} {a C dx:Addr} {fs:List (Str×V)} {f:Str} {v:V} {A:Around} {E:EV}
theorem FZ{b:Bool}{Q:EV}(I:Inv X pins σ H s)(e:H a=some (.ins C dx fs))(c:Cls X.K C)(n:dq X.K C f)(l:fs.lookup f=some v)
  (h:∀ u s',Inv X pins σ H s'->RelV v u->Q u s'):wpAny (model X.prog X.w) A (getAttr (.ref a) f b) Q E s:=by
 obtain⟨mA,O,r,_,_,_⟩:=vH I.hok e
 obtain⟨u,hu,ru⟩:=rP.some_of (v:=v) (o:=mA f) (by rw[<- l];exact r f)
 exact Oo I.kIn O (c.get f) c.hd n hu (zm ru) (h u _ (I.tok _) ru)
theorem sJ{m:Str}{g:Addr}{pl:Sem Bool}{Q:Value×List Value->Shared->Prop}(I:Inv X pins σ H s)(e:H a=some (.ins C dx fs))(c:Cls X.K C)(k:Meth X.K C m g)(l:fs.lookup m=none)
  (h:Q (.ref g,[.ref a]) s):wpAny (model X.prog X.w) A (getMethod (.ref a) m pl) Q E s:=by
 obtain⟨mA,O,r,_,_,_⟩:=vH I.hok e
 have hn:mA m=none:=rP.none_of (by rw[<- l];exact r m)
 exact Ks I.kIn O (c.get m) k.at_ k.fn hn h
theorem Fq{y:V}{u:Value}{Q:Unit->Shared->Prop}(I:Inv X pins σ H s)(e:H a=some (.ins C dx fs))(c:Cls X.K C)(n:dq X.K C f)(hl:fs.length<1000)(ry:RelV y u)
  (h:∀ s',Inv X pins σ (upd H a (.ins C dx (oE f y fs))) s'->Q () s'):wpAny (model X.prog X.w) A (setAttr (.ref a) f u) Q E s:=by
 obtain⟨mA,O,r,wi,_,ho⟩:=vH I.hok e
 have hz:(fs.map (·.1)).length<=sizeLine:=by rw[length_map,sizeLine_eq];omega
 refine Pu I.kIn O c.sa c.po n.taker c.hd wi hz fun h' O' sb=>h _ ?_
 have hd:∃ o,h'.get? dx=some o:=let⟨o,_,_,e',_⟩:=O'.ns;⟨o,e'⟩
 refine I.write (x:=a) (e:=dx) (by rw[e];exact True.intro) (.inr ho) (fun b q hb z=>(sb.2 b hb).trans z) hd ?_
 refine⟨by rw[aQ O.ne];exact ho,?_,O.ne,O'.obj,_,O'.ns,fun g=>?_,fun g hg=>?_⟩
 ·have:=ql f y fs;omega
 ·show rP ((oE f y fs).lookup g) (if g=f then some u else mA g)
  rw[mD]
  by_cases q:g=f
  ·rw[if_pos q,if_pos q];exact ry
  ·rw[if_neg q,if_neg q];exact r g
 ·by_cases q:g=f
  ·rw[q];exact(uN f y fs).1
  ·refine(uN f y fs).2 g (wi g fun z=>hg ?_)
   show(if g=f then some u else mA g)=none
   rw[if_neg q];exact z
theorem Inv.made(I:Inv X pins σ H s):Inv X pins σ (upd (upd H s.heap.objs.size (.own (s.heap.objs.size+1))) (s.heap.objs.size+1) (.ins C s.heap.objs.size []))
  {s with heap:=(s.heap.push emptyDict).push (instObj C s.heap.objs.size)}:=by
 have e1:(s.heap.push emptyDict).get? s.heap.objs.size=some emptyDict:=Heap.get?_push_size s.heap rfl
 have e2:((s.heap.push emptyDict).push (instObj C s.heap.objs.size)).get? (s.heap.objs.size+1)=some (instObj C s.heap.objs.size):=by
  have:=Heap.get?_push_size (s.heap.push emptyDict) (o:=instObj C s.heap.objs.size) rfl
  rwa [Heap.size_push]at this
 have e3:(s.heap.push emptyDict).Ns s.heap.objs.size (fun _=>none):=⟨emptyDict,#[],_,e1,rfl,(fun e he=>absurd he Zc),fun _=>rfl⟩
 have I1:=I.laid (a:=s.heap.objs.size) (o:=.own (s.heap.objs.size+1)) (h':=s.heap.push emptyDict) (t':=s.toks) (fun b u q=>Heap.get?_push_of_some _ q) (le_refl _) ⟨_,e1⟩
 refine I1.laid (a:=s.heap.objs.size+1) (o:=.ins C s.heap.objs.size []) (t':=s.toks) (fun b u q=>Heap.get?_push_of_some _ q) (le_of_eq (Heap.size_push _ _)) ?_
 have ne:s.heap.objs.size≠s.heap.objs.size+1:=ne_of_lt (Nat.lt_succ_self _)
 refine⟨by rw[aQ ne,ak],zero_le _,ne,e2,fun _=>none,(Heap.Ns1.of_empty e3).at fun o q=>Heap.get?_push_of_some _ q,fun _=>True.intro,fun y hy=>absurd rfl hy⟩
theorem Hv {prog:Program} {w:World} {env:Env} {e:Expr} {f:Str} {pos:Pos} {s:Shared} {Q:EV} (hb:attributeBase e f env (eval e env)=eval e env)
  (h:wpAny (model prog w) A (eval e env) (fun o s₁=>wpAny (model prog w) A (getAttr o f true) Q E s₁) E s):wpAny (model prog w) A (eval (.Attribute e f pos) env) Q E s :=
 Attribute_any_ h (by rw[arm_eval_Attribute,hb])
end
def Xg(K:Frag)(ta:TE)(f:Str):TE:=fun σ H Q=>ta σ H fun x H1=>∃ a C dx fs v,x=.ref a/\H1 a=some (.ins C dx fs)/\Cls K C/\dq K C f/\fs.lookup f=some v/\Q v H1
def S6(K:Frag)(ta tv:TE)(f:Str):TS:=fun D σ H=>tv σ H fun y H1=>ta σ H1 fun x H2=>∃ a C dx fs,x=.ref a/\H2 a=some (.ins C dx fs)/\Cls K C/\dq K C f/\fs.length<1000 /\
 D.nx σ (upd H2 a (.ins C dx (oE f y fs)))
section
variable {X:Cx} {o e value:Expr} {f:Str} {pos pos' tpos:Pos} {ta tv:TE}
theorem bU(he:PE X e ta)(hb:attributeBase e f X.env (eval e X.env)=eval e X.env):PE X (.Attribute e f pos) (Xg X.K ta f):=by
 intro pins s σ H Q I h
 refine Hv hb (thn (he pins s σ H _ I h) fun u s1 hz=>?_)
 obtain⟨x,H1,I1,rx,a,C,dx,fs,v,ex,ea,c,n,l,q⟩:=hz
 subst ex
 obtain rfl:u=Value.ref a:=rx
 exact FZ I1 ea c n l fun u' s2 I2 ru=>⟨v,H1,I2,ru,q⟩
theorem RD(ha:PE X o ta)(hv:PE X value tv)(hs:swapsWith value (some (.Attribute o f pos')) pos.line X.env=pure false):PS X (.Assign [.Attribute o f pos'] value pos) (S6 X.K ta tv f):=by
 intro pins s σ H D I h
 refine plainObj_wpAny_Assign_Attribute (thn (hv pins s σ H _ I h) fun u s1 ⟨y,H1,I1,ry,q⟩=>thn (ha pins s1 σ H1 _ I1 q) fun ov s2 hz=>?_) hs
 obtain⟨x,H2,I2,rx,a,C,dx,fs,ex,ea,c,n,l,q2⟩:=hz
 subst ex
 obtain rfl:ov=Value.ref a:=rx
 exact Fq I2 ea c n l ry fun s3 I3=>⟨σ,_,I3,q2⟩
end
section
variable {X:Cx} {pins:OP} {σ:St} {H:Hp} {s:Shared} {A:Around} {E:EV} {Q:EV} {c:Value} {b:Bool}
inductive qU(K:Frag)(H:Hp):V->Value->Prop where
 | non:qU K H .non (.type "NoneType")
 | bl (x:Bool):qU K H (.bl x) (.type "bool")
 | int (i:Int):qU K H (.int i) (.type "int")
 | str (x:Str):qU K H (.str x) (.type "str")
 | flt (x:UInt64):qU K H (.flt x) (.type "float")
 | lst {a:Addr} {xs:List V} (e:H a=some (.lst xs)):qU K H (.ref a) (.type "list")
 | frz {a:Addr} {o:Obj} {xs:List V} (e:H a=some (.frz o (.lst xs))):qU K H (.ref a) (.type "list")
 | tup {a:Addr} {xs:List V} (e:H a=some (.tup xs)):qU K H (.ref a) (.type "tuple")
 | dK {a:Addr} {kvs:List (Key×V)} (e:H a=some (.dK kvs)):qU K H (.ref a) (.type "dict")
 | dT {a:Addr} {kvs:List (List Key×V)} (e:H a=some (.dT kvs)):qU K H (.ref a) (.type "dict")
 | ins {a C dx:Addr} {fs:List (Str×V)} (e:H a=some (.ins C dx fs)) (cl:Cls K C) (ha:findIn K (.ref C) "__class__" = some (some (.builtin "object.__class__")))
   (hn:specialIn K (.builtin "object.__class__") "__get__" = some (some (.builtin "getset_descriptor.__get__"))) (htk:takesIn K (.builtin "object.__class__")=some true)
   (hm:mroIn K C (.type "object")=some true):qU K H (.ref a) (.ref C)
theorem yV {x:V} {u t:Value} (I:Inv X pins σ H s) (rx:RelV x u) (ty:qU X.K H x t) (e:kitOne X.K t c=some b) (h:∀ tk,Q (.bool b) {s with toks:=tk}) :
  wpAny (model X.prog X.w) A (call (.builtin "isinstance") [u,c]) Q E s:=by
 cases ty with
 | non=>cases(show u=Value.none from rx);exact kia_one PySem.W.kitx_none I.kIn True.intro e (fun z=>nomatch z) h
 | bl y=>cases(show u=Value.bool y from rx);exact kia_one PySem.W.kitx_bool I.kIn True.intro e (fun z=>nomatch z) h
 | int i=>obtain⟨t,q⟩:=(show ∃ t,u=Value.int i t from rx);cases q;exact kia_one PySem.W.kitx_int I.kIn True.intro e (fun z=>nomatch z) h
 | str y=>obtain⟨t,q⟩:=(show ∃ t,u=Value.str y t from rx);cases q;exact kia_one PySem.W.kitx_str I.kIn True.intro e (fun z=>nomatch z) h
 | flt y=>obtain⟨t,q⟩:=(show ∃ t,u=Value.float y t from rx);cases q;exact kia_one PySem.W.kitx_float I.kIn True.intro e (fun z=>nomatch z) h
 | @lst a xs ea =>
  cases(show u=Value.ref a from rx)
  obtain⟨_,_,n,_,h1⟩:=(show dB X.prog X.w H s.heap a (.lst xs)from I.hok a _ ea)
  exact kia_one kitx_list I.kIn ⟨_,h1,rfl⟩ e (fun z=>nomatch z) h
 | @frz a ob xs ea =>
  cases(show u=Value.ref a from rx)
  obtain⟨_,_,_,n,_,h1⟩:=(show dB X.prog X.w H s.heap a (.frz ob (.lst xs))from I.hok a _ ea)
  exact kia_one kitx_list I.kIn ⟨_,h1,rfl⟩ e (fun z=>nomatch z) h
 | @tup a xs ea =>
  cases(show u=Value.ref a from rx)
  obtain⟨_,_,_,p⟩:=(show dB X.prog X.w H s.heap a (.tup xs)from I.hok a _ ea)
  obtain⟨o,h1,h2,_⟩:=p
  exact kia_one PySem.W.kitx_tuple I.kIn ⟨o,h1,h2⟩ e (fun z=>nomatch z) h
 | @dK a kvs ea =>
  cases(show u=Value.ref a from rx)
  obtain⟨_,_,vs,_,p⟩:=(show dB X.prog X.w H s.heap a (.dK kvs)from I.hok a _ ea)
  obtain⟨o,es,ep,h1,h2,_⟩:=p
  exact kia_one kitx_dict I.kIn ⟨o,h1,h2.1⟩ e (fun z=>nomatch z) h
 | @dT a kvs ea =>
  cases(show u=Value.ref a from rx)
  obtain⟨_,_,xs,_,o,es,ep,h1,h2,_⟩:=(show dB X.prog X.w H s.heap a (.dT kvs)from I.hok a _ ea)
  exact kia_one kitx_dict I.kIn ⟨o,h1,h2.1⟩ e (fun z=>nomatch z) h
 | @ins a C dx fs ea cl ha hn htk hm =>
  cases(show u=Value.ref a from rx)
  obtain⟨mA,O,_⟩:=vH I.hok ea
  obtain⟨od,J,_⟩:=O.look
  exact kia_one (PySem.W.kitx_own (cl.get _) cl.hd ha hn htk hm) I.kIn J e (fun z=>nomatch z) h
end
structure bw(k:Nat)(A:Around):Prop where
 hd:A.handled=none
 dp:A.depth+3*k+5<recursionLimit
 un:A.units+16*k+200<cLine
theorem bw.mono{j k:Nat}{A:Around}(r:bw k A)(h:j<=k):bw j A:=⟨r.hd,by have:=r.dp;omega,by have:=r.un;omega⟩
theorem bw.deeper{k:Nat}{A:Around}(r:bw (k+1) A)(env:Env):bw k (A.deeper env) :=
 ⟨r.hd,by have:=r.dp;show A.depth+1+3*k+5<_;omega,by have:=r.un;show A.units+3+16*k+200<_;omega⟩
theorem Fj{A:Around}{C:Addr}{us:List Value}{kw:List (Str×Value)}:(A.under (.builtin "type.__call__" ⟨.ref C::us,kw⟩)).depth=A.depth+1:=by
 first|rfl|simp[Around.under,Code.weight,Code.isCreation,Code.isGuard,Code.isCaller,Code.frames,Code.isFrame,guardIds]
theorem GC{A:Around}{C:Addr}{us:List Value}{kw:List (Str×Value)}:(A.under (.builtin "type.__call__" ⟨.ref C::us,kw⟩)).units=A.units+1:=by
 first|rfl|simp[Around.under,Code.cUnits,Code.frames,Code.isFrame]
theorem bw.make{k:Nat}{A:Around}(r:bw (k+1) A)(C:Addr)(us:List Value)(kw:List (Str×Value)):bw k (A.under (.builtin "type.__call__" ⟨.ref C::us,kw⟩)) :=
 ⟨r.hd,by have:=r.dp;rw[Fj];omega,by have:=r.un;rw[GC];omega⟩
theorem bw.depth{k:Nat}{A:Around}(r:bw k A):A.depth<recursionLimit:=by have:=r.dp;omega
theorem bw.units{k:Nat}{A:Around}(r:bw k A):A.units+64<cLine:=by have:=r.un;omega
def FQ:TA:=fun _ H Q=>Q [] H
def xq(ta:TE)(tr:TA):TA:=fun σ H Q=>ta σ H fun x H1=>tr σ H1 fun xs H2=>Q (x::xs) H2
section
variable {X:Cx} {e:Expr} {es:List Expr} {te:TE} {t:TA} {pos:Pos}
theorem ao:PA X [] FQ:=fun _ _ _ _ H Q I h=>Calls.spliced_nil ⟨[],H,I,.nil,h⟩
theorem aj(ha:PE X e te)(hr:PA X es t)(hs:starEach (e::es) X.env=(false,eval e X.env)::starEach es X.env:=by rfl):PA X (e::es) (xq te t):=by
 intro pos pins s σ H Q I h
 rw[hs]
 show wpAny _ _ (spliced ((false,eval e X.env)::backTo pos (starEach es X.env))) _ _ s
 refine Calls.spliced_cons (thn (ha pins s σ H _ I h) fun u s1 ⟨x,H1,I1,r1,q1⟩=>?_)
 exact thn (hr pos pins s1 σ H1 _ I1 q1) fun us s2 ⟨xs,H2,I2,r2,q2⟩=>⟨x::xs,H2,I2,.cons r1 r2,q2⟩
def Vp(t:TA):TE:=fun σ H Q=>t σ H fun xs H1=>xs.length<=sizeLine/\∀ p,H1 p=none->Q (.ref p) (upd H1 p (.tup xs))
def Rr(t:TA):TE:=fun σ H Q=>t σ H fun xs H1=>xs.length<=sizeLine/\∀ p,H1 p=none->Q (.ref p) (upd H1 p (.lst xs))
theorem bT{x1}(h:PA X es t):PE X (.Tuple es x1 pos) (Vp t):=by
 intro pins s σ H Q I hq
 refine wpAny_Tuple_spliced (thn (h pos pins s σ H _ I hq) fun us s1 ⟨xs,H1,I1,r,z,q⟩=>⟨by rw[<- r.length];exact z,?_⟩)
 have hf:H1 s1.heap.objs.size=none:=I1.hok.fresh (le_refl _)
 refine⟨.ref s1.heap.objs.size,upd H1 s1.heap.objs.size (.tup xs),I1.laid (t':=s1.toks) (fun b u e=>Heap.get?_push_of_some _ e) (le_refl _) ?_,rfl,q _ hf⟩
 exact⟨z,us,r,⟨_,Heap.get?_push_size _ rfl,rfl,_,rfl⟩⟩
theorem bI(h:PA X es t):PE X (.List es pos) (Rr t):=by
 intro pins s σ H Q I hq
 refine wpAny_List_spliced (thn (h pos pins s σ H _ I hq) fun us s1 ⟨xs,H1,I1,r,z,q⟩=>⟨by rw[<- r.length];exact z,?_⟩)
 have hf:H1 s1.heap.objs.size=none:=I1.hok.fresh (le_refl _)
 refine⟨.ref s1.heap.objs.size,upd H1 s1.heap.objs.size (.lst xs),I1.laid (t':=s1.toks) (fun b u e=>Heap.get?_push_of_some _ e) (le_refl _) ?_,rfl,q _ hf⟩
 exact⟨z,us,0,r,Heap.get?_push_size _ rfl⟩
end
abbrev Sp:=List V->Hp->VK->XK->Prop
abbrev CXT:=List Env->Hp->Shared->XK->Value->Shared->Prop
structure Aw(P:Program)(w:World)(K:Frag)(mg:MG)(base:Heap)(A:Around)(outer:List Env)(s:Shared)(H:Hp):Prop where
 frames:A.frames=some outer
 mod:Mod K mg base
 bs:∀ b o,base.get? b=some o->s.heap.get? b=some o/\H b=none
 bsz:base.objs.size<=s.heap.objs.size
 funs:s.heap.FunFrames base outer
 frf:∀ b∈frs outer,H b=none
 hok:HOk P w H s.heap
 bare:AllBare s.gens
def CE(outer:List Env)(P:Program)(w:World)(H:Hp)(s:Shared)(Q:VK)(u:Value)(s':Shared):Prop :=
 ∃ v H',s'.os=s.os/\AllBare s'.gens/\Un (frs outer) [] H H' s.heap s'.heap/\HOk P w H' s'.heap/\RelV v u/\Q v H'
def CR(CX:CXT)(outer:List Env)(P:Program)(w:World)(H:Hp)(s:Shared)(Q:VK)(E:XK)(r:Result)(s':Shared):Prop :=
 match r with
 | .ok (.ret u)=>CE outer P w H s Q u s'
 | .ok _=>False
 | .error e=>CX outer H s E e s'
structure aO(P:Program)(w:World)(K:Frag)(mg:MG)(base:Heap)(CX:CXT)(k:Nat)(f:Addr)(fd:FuncData)(ps:List Str)(sp:Sp):Prop where
 len:∀ vs H Q E,sp vs H Q E->vs.length=ps.length
 run:∀ (A:Around) (outer:List Env) (s:Shared) (H:Hp) (args:Args) (us:List Value) (vs:List V) (Q:VK) (E:XK),bw k A->Aw P w K mg base A outer s H->BindsTo s fd args (ps.zip us)->Vals vs us->sp vs H Q E ->
  codeAny (model P w) A (.call (.ref f) args) (CR CX outer P w H s Q E) s
theorem aO.mono{P:Program}{w:World}{K:Frag}{mg:MG}{base:Heap}{CX:CXT}{j k:Nat}{f:Addr}{fd:FuncData}{ps:List Str}{sp:Sp}(F:aO P w K mg base CX j f fd ps sp)(h:j<=k) :
  aO P w K mg base CX k f fd ps sp:=⟨F.len,fun A outer s H args us vs Q E hr=>F.run A outer s H args us vs Q E (hr.mono h)⟩
theorem aO.imp{P:Program}{w:World}{K:Frag}{mg:MG}{base:Heap}{CX:CXT}{k:Nat}{f:Addr}{fd:FuncData}{ps:List Str}{sp sp':Sp}(F:aO P w K mg base CX k f fd ps sp)
  (h:∀ vs H Q E,sp' vs H Q E->sp vs H Q E):aO P w K mg base CX k f fd ps sp' :=
 ⟨fun vs H Q E q=>F.len vs H Q E (h _ _ _ _ q),fun A outer s H args us vs Q E hr he hb hv hs=>F.run A outer s H args us vs Q E hr he hb hv (h _ _ _ _ hs)⟩
theorem Aw.make{P:Program}{w:World}{K:Frag}{mg:MG}{base:Heap}{A:Around}{outer:List Env}{s:Shared}{H:Hp}(e:Aw P w K mg base A outer s H)(C:Addr)(us:List Value)(kw:List (Str×Value)) :
  Aw P w K mg base (A.under (.builtin "type.__call__" ⟨.ref C::us,kw⟩)) outer s H:=⟨by first|exact e.frames|(simpa [Around.under,Code.envs,Code.isFrame,pushEnvs] using e.frames),e.mod,e.bs,e.bsz,e.funs,e.frf,e.hok,e.bare⟩
section
variable {X:Cx} {pins:OP} {σ:St} {H:Hp} {s s':Shared}
theorem Inv.env0(I:Inv X pins σ H s):Aw X.prog X.w X.K X.mg X.base X.A X.stack s H :=
 ⟨I.ok.frames,I.ok.mod,I.bs,le_trans I.ok.bsz I.sz,I.stack,I.stkFree,I.hok,I.bare⟩
theorem Inv.after{Q:VK}{u:Value}(I:Inv X pins σ H s)(h:CE X.stack X.prog X.w H s Q u s'):EP X pins σ Q u s':=by
 obtain⟨v,H',os,bare,un,hok,r,q⟩:=h
 obtain⟨hh,g,d,t,os'⟩:=s'
 obtain rfl:os'=s.os:=os
 exact⟨v,H',I.call (h':=hh) (g':=g) (d':=d) (t':=t) (ch:=[]) un hok bare (fun b z=>absurd z Zc),r,q⟩
end
def Hl(sp:Sp)(dvs:List V)(E:XK)(t:TA):TE:=fun σ H Q=>t σ H fun vs H1=>sp (vs++dvs) H1 Q E
def QG(C:Addr)(m:Str)(sp:Sp)(dvs:List V)(E:XK)(ta:TE)(t:TA):TE:=fun σ H Q=>ta σ H fun x H1=>∃ a dx fs,x=.ref a/\H1 a=some (.ins C dx fs)/\fs.lookup m=none /\
 t σ H1 fun vs H2=>sp (x::(vs++dvs)) H2 Q E
def Qk(C:Addr)(sp:Sp)(dvs:List V)(E:XK)(t:TA):TE:=fun σ H Q=>t σ H fun vs H1=>∀ x dx,H1 x=none->H1 dx=none->dx≠x ->
 sp (.ref x::(vs++dvs)) (upd (upd H1 dx (.own x)) x (.ins C dx [])) (fun v H2=>v=.non/\Q (.ref x) H2) E
def Binds(K:Frag)(fd:FuncData)(ps:List Str)(ds:List Value):Prop :=
 ∀ (s:Shared) (us:List Value),K.In s.heap->(us++ds).length=ps.length->BindsTo s fd ⟨us,[]⟩ (ps.zip (us++ds))
theorem Binds.all {K:Frag} {fd:FuncData} {ps:List Str} (h:∀ us:List Value,us.length = ps.length -> bindArgs fd ⟨us,[]⟩ = pure (ps.zip us)):Binds K fd ps []:=fun s us _ hl=>by
 rw [append_nil] at hl ⊢
 exact .of_eq (h us hl)
def m5(CX:CXT)(X:Cx)(E:XK):Prop:=∀ (pins:OP) (σ:St) (H:Hp) (s:Shared) (e:Value) (s':Shared),Inv X pins σ H s->CX X.stack H s E e s'->X.xe e s'
section
variable {X:Cx} {CX:CXT} {k:Nat} {f C:Addr} {fd:FuncData} {ps:List Str} {sp:Sp} {dvs:List V} {ds:List Value} {E:XK} {x m:Str} {p pos apos:Pos} {e o:Expr} {es:List Expr} {ta:TE} {t:TA}
theorem zy{pins:OP}{σ:St}{H:Hp}{s:Shared}{Q:VK}{us:List Value}{vs:List V}(F:aO X.prog X.w X.K X.mg X.base CX k f fd ps sp)(hr:bw k X.A)(hb:Binds X.K fd ps ds)(hd:Vals dvs ds)(hx:m5 CX X E)
  (I:Inv X pins σ H s)(r:Vals vs us)(h:sp (vs++dvs) H Q E):wpAny (model X.prog X.w) X.A (call (.ref f) us) (EP X pins σ Q) X.xe s:=by
 have r2:Vals (vs++dvs) (us++ds):=r.append hd
 have hl:(us++ds).length=ps.length:=by rw[<- r2.length];exact F.len _ _ _ _ h
 refine wpAny_call (codeAny_mono (F.run X.A X.stack s H ⟨us,[]⟩ (us++ds) (vs++dvs) Q E hr I.env0 (hb s us I.kIn hl) r2 h) fun r s' hq=>?_)
 cases r with
 | error e=>exact hx pins σ H s e s' I hq
 | ok fl =>
  cases fl with
  | ret u=>exact I.after hq
  | next=>exact False.elim hq
  | brk=>exact False.elim hq
  | cont=>exact False.elim hq
theorem Oh(F:aO X.prog X.w X.K X.mg X.base CX k f fd ps sp)(hr:bw k X.A)(hg:Gl X x)(hm:X.mg x=some (.ref f))(hk:keepIn X.K (.ref f)=true)(hb:Binds X.K fd ps ds)(hd:Vals dvs ds)(hx:m5 CX X E)
  (ha:PA X (e::es) t)(hdb:(x==("__debug__" : Str))=false:=by decide)(he:starEach (e::es) X.env=(false,eval e X.env)::starEach es X.env:=by rfl)(hpl:(backTo pos (starEach es X.env)).any (·.1)=false:=by rfl) :
  PE X (.Call (.Name x p) (e::es) [] pos) (Hl sp dvs E t):=by
 intro pins s σ H Q I h
 refine wpAny_Call_Name_kw (ik I hg hm ?_ hdb)
 refine callWith_K (h₀:=X.base) I.ok.mod.kin hk (thn (ha pos pins s σ H _ I h) fun us s1 ⟨vs,H1,I1,r,q⟩=>⟨I1.kIn,?_⟩) he hpl
 exact zy F hr hb hd hx I1 r q
theorem Ov {pl:Sem Bool} (he:PE X o ta) (c:Cls X.K C) (hm:Meth X.K C m f) (F:aO X.prog X.w X.K X.mg X.base CX k f fd ps sp) (hr:bw k X.A) (hb:Binds X.K fd ps ds) (hd:Vals dvs ds) (hx:m5 CX X E) (ha:PA X (e::es) t)
  (hst:starEach (e::es) X.env=(false,eval e X.env)::starEach es X.env:=by rfl) (hpl:(backTo pos (starEach es X.env)).any (·.1)=false:=by rfl)
  (ht:eval (.Call (.Attribute o m apos) (e::es) [] pos) X.env=(do
   let ov <- eval o X.env
   standAt apos.atName
   let(f,first) <- holding [ov] (getMethod ov m pl)
   callWith pos f first (backTo pos (starEach (e::es) X.env)) (backToKw pos (keywordEach [] X.env))):=by rfl) :
  PE X (.Call (.Attribute o m apos) (e::es) [] pos) (QG C m sp dvs E ta t):=by
 intro pins s σ H Q I h
 refine methodCall_KW (pl:=pl) (thn (he pins s σ H _ I h) fun u s1 ⟨x,H1,I1,rx,a,dx,fs,ex,ea,l,q⟩=>?_) ht
 subst ex
 obtain rfl:u=Value.ref a:=rx
 refine sJ I1 ea c hm l ?_
 refine callWith_K (first:=[.ref a]) (h₀:=X.base) I.ok.mod.kin hm.kp (thn (ha pos pins s1 σ H1 _ I1 q) fun us s2 ⟨vs,H2,I2,r,q2⟩=>⟨I2.kIn,?_⟩) hst hpl
 exact zy (us:=.ref a::us) (vs:=.ref a::vs) F hr hb hd hx I2 (.cons rfl r) q2
theorem wZ {pl:Sem Bool} (he:PE X o ta) (c:Cls X.K C) (hm:Meth X.K C m f) (F:aO X.prog X.w X.K X.mg X.base CX k f fd ps sp) (hr:bw k X.A) (hb:Binds X.K fd ps ds) (hd:Vals dvs ds) (hx:m5 CX X E)
  (ht:eval (.Call (.Attribute o m apos) [] [] pos) X.env=(do
   let ov <- eval o X.env
   standAt apos.atName
   let(f,first) <- holding [ov] (getMethod ov m pl)
   callWith pos f first (backTo pos (starEach [] X.env)) (backToKw pos (keywordEach [] X.env))):=by rfl) :
  PE X (.Call (.Attribute o m apos) [] [] pos) (QG C m sp dvs E ta FQ):=by
 intro pins s σ H Q I h
 refine methodCall_KW (pl:=pl) (thn (he pins s σ H _ I h) fun u s1 ⟨x,H1,I1,rx,a,dx,fs,ex,ea,l,q⟩=>?_) ht
 subst ex
 obtain rfl:u=Value.ref a:=rx
 refine sJ I1 ea c hm l ?_
 exact PySem.W.callWith_K0 (first:=[.ref a]) I1.kIn hm.kp (zy (us:=[.ref a]) (vs:=[.ref a]) F hr hb hd hx I1 (.cons rfl .nil) q)
structure Mk(K:Frag)(C f:Addr):Prop where
 makes:makesIn K C=true
 init:findIn K (.ref C) "__init__" = some (some (.ref f))
 fn:isFn K (.ref f)=true
 kp:keepIn K (.ref C)=true
theorem Mf {pins:OP} {σ:St} {H:Hp} {s:Shared} {Q:VK} {us:List Value} {vs:List V} (M:Mk X.K C f) (F:aO X.prog X.w X.K X.mg X.base CX k f fd ps sp) (hr:bw (k+1) X.A) (hb:Binds X.K fd ps ds) (hd:Vals dvs ds)
  (hx:m5 CX X E) (I:Inv X pins σ H s) (r:Vals vs us)
  (h:∀ x dx,H x=none->H dx=none->dx≠x->sp (.ref x::(vs++dvs)) (upd (upd H dx (.own x)) x (.ins C dx [])) (fun v H2=>v=.non/\Q (.ref x) H2) E) :
  wpAny (model X.prog X.w) X.A (call (.ref C) us) (EP X pins σ Q) X.xe s:=by
 have hq:=h (s.heap.objs.size+1) s.heap.objs.size (I.hok.fresh (le_succ _)) (I.hok.fresh (le_refl _)) (ne_of_lt (Nat.lt_succ_self _))
 have I2:=Inv.made (C:=C) I
 have r2:Vals (V.ref (s.heap.objs.size+1)::(vs++dvs)) (Value.ref (s.heap.objs.size+1)::(us++ds)):=.cons rfl (r.append hd)
 have hl:(Value.ref (s.heap.objs.size+1)::us++ds).length=ps.length:=by
  have e:=r2.length
  rw[F.len _ _ _ _ hq]at e
  exact e.symm
 refine wpAny_call (Lj (f:=f) I.kIn M.makes M.init (beq_iff_eq.mp M.fn) (codeAny_mono (F.run _ X.stack _ _ ⟨Value.ref (s.heap.objs.size+1)::us,[]⟩ (Value.ref (s.heap.objs.size+1)::(us++ds)) _ _ E (hr.make C us [])
  (I2.env0.make C us []) (hb _ (Value.ref (s.heap.objs.size+1)::us) I2.kIn hl) r2 hq) fun r s' hq'=>?_))
 cases r with
 | error e=>exact hx pins σ _ _ e s' I2 hq'
 | ok fl =>
  cases fl with
  | ret u =>
   obtain⟨v,H',I3,rv,ev,q3⟩:=I2.after hq'
   subst ev
   exact⟨rv,⟨V.ref (s.heap.objs.size+1),H',I3,rfl,q3⟩⟩
  | next=>exact False.elim hq'
  | brk=>exact False.elim hq'
  | cont=>exact False.elim hq'
theorem Nt(M:Mk X.K C f)(F:aO X.prog X.w X.K X.mg X.base CX k f fd ps sp)(hr:bw (k+1) X.A)(hg:Gl X x)(hm:X.mg x=some (.ref C))(hb:Binds X.K fd ps ds)(hd:Vals dvs ds)(hx:m5 CX X E)
  (ha:PA X (e::es) t)(hdb:(x==("__debug__" : Str))=false:=by decide)(he:starEach (e::es) X.env=(false,eval e X.env)::starEach es X.env:=by rfl)(hpl:(backTo pos (starEach es X.env)).any (·.1)=false:=by rfl) :
  PE X (.Call (.Name x p) (e::es) [] pos) (Qk C sp dvs E t):=by
 intro pins s σ H Q I h
 refine wpAny_Call_Name_kw (ik I hg hm ?_ hdb)
 refine callWith_K (h₀:=X.base) I.ok.mod.kin M.kp (thn (ha pos pins s σ H _ I h) fun us s1 ⟨vs,H1,I1,r,q⟩=>⟨I1.kIn,?_⟩) he hpl
 exact Mf M F hr hb hd hx I1 r q
end
section
variable {X:Cx} {CX:CXT} {k:Nat} {f C:Addr} {fd:FuncData} {ps ks:List Str} {sp:Sp} {E:XK} {x m:Str} {p pos apos kpos:Pos} {e o:Expr} {es:List Expr} {kws:List Keyword} {te ta:TE} {t tk:TA} {nm:Option Str}
variable {g:List Value->List Value->List Value} {gV:List V->List V->List V}
end
structure aM(N P:List Str)(sc:Scope):Prop where
 kind:sc.kind=.function
 co:sc.isCoroutine=false
 gen:sc.isGenerator=false
 nd:N.Nodup
 pre:N.take P.length=P
 par:∀ x∈P,sc.names.lookup x=some .local\/sc.names.lookup x=some .cell
 nofree:∀ y∈sc.names,y.2≠.free
theorem zc{kindOf:Str->Option NameKind}{x:Str}:∀ {binds:List (Str×Value)} {m:MG},(∀ v,(x,v)∉binds)->bindL kindOf binds m x=m x
 | [],_,_=>rfl
 | (n,v)::r,m,h=>by
  unfold bindL
  rw[zc fun w hw=>h w (mem_cons_of_mem _ hw)]
  split
  ·have:x≠n:=by rintro rfl;exact h v mem_cons_self
   simp[this]
  ·rfl
theorem zx{kindOf:Str->Option NameKind}{x:Str}:∀ {binds:List (Str×Value)} {m:MG},(∀ v,(x,v)∉binds)->bindC kindOf binds m x=m x
 | [],_,_=>rfl
 | (n,v)::r,m,h=>by
  unfold bindC
  rw[zx fun w hw=>h w (mem_cons_of_mem _ hw)]
  split
  ·rfl
  ·have:x≠n:=by rintro rfl;exact h v mem_cons_self
   simp[this]
theorem yR{kindOf:Str->Option NameKind}{x:Str}{v:Value}:∀ {P:List Str} {vs:List Value} {i:Nat} {m:MG},P.Nodup->P[i]? = some x->vs[i]? = some v->kindOf x=some .local ->
  bindL kindOf (P.zip vs) m x=some v
 | [],_,_,_,_,h,_,_=>by simp at h
 | _::_,[],_,_,_,_,h,_=>by simp at h
 | p::P,w::vs,0,m,nd,h1,h2,hk=>by
  simp at h1 h2;subst h1;subst h2
  show bindL kindOf ((p,w)::P.zip vs) m p=_
  unfold bindL
  rw[zc fun v hv=>(nodup_cons.mp nd).1 (of_mem_zip hv).1,if_pos hk]
  simp
 | p::P,w::vs,i+1,m,nd,h1,h2,hk=>by
  show bindL kindOf ((p,w)::P.zip vs) m x=_
  unfold bindL
  exact yR (i:=i) (nodup_cons.mp nd).2 (by simpa using h1) (by simpa using h2) hk
theorem yM{kindOf:Str->Option NameKind}{x:Str}{v:Value}:∀ {P:List Str} {vs:List Value} {i:Nat} {m:MG},P.Nodup->P[i]? = some x->vs[i]? = some v->kindOf x≠some .local ->
  bindC kindOf (P.zip vs) m x=some v
 | [],_,_,_,_,h,_,_=>by simp at h
 | _::_,[],_,_,_,_,h,_=>by simp at h
 | p::P,w::vs,0,m,nd,h1,h2,hk=>by
  simp at h1 h2;subst h1;subst h2
  show bindC kindOf ((p,w)::P.zip vs) m p=_
  unfold bindC
  rw[zx fun v hv=>(nodup_cons.mp nd).1 (of_mem_zip hv).1,if_neg hk]
  simp
 | p::P,w::vs,i+1,m,nd,h1,h2,hk=>by
  show bindC kindOf ((p,w)::P.zip vs) m x=_
  unfold bindC
  exact yM (i:=i) (nodup_cons.mp nd).2 (by simpa using h1) (by simpa using h2) hk
def start(N:List Str)(vs:List V):St:=vs.map some++List.replicate (N.length - vs.length) none
def pO(CX:CXT)(P:Program)(w:World)(K:Frag)(mg:MG)(base:Heap)(N:List Str)(qual:Str)(scope:Scope)(f:Addr)(cd:Value)(A:Around)(outer:List Env)(s:Shared)(H:Hp)(E:XK):Cx where
 prog:=P
 w:=w
 K:=K
 mg:=mg
 base:=base
 A:=A.deeper (envOfC qual scope s.heap.objs.size f cd)
 N:=N
 s₀:=s
 H₀:=H
 env:=envOfC qual scope s.heap.objs.size f cd
 outer:=outer
 stack:=envOfC qual scope s.heap.objs.size f cd::outer
 ex:=[]
 calm:=true
 fn:=fun _=>true
 pn:=[]
 xe:=fun e s'=>wpAny (model P w) (A.deeper (envOfC qual scope s.heap.objs.size f cd)) («leaving» (envOfC qual scope s.heap.objs.size f cd) e) (fun _ s''=>CX outer H s E e s'') (fun e' s''=>CX outer H s E e' s'') s'
theorem Cu{sc:Scope}{n:Nat}{x:Str}(h:sc.names.lookup x=some .cell):∃ c,(cellsFrom n sc.names []).lookup x=some c:=by
 have q:=cellsFrom_some sc.names n [] (.inl h)
 exact Option.isSome_iff_exists.mp q
theorem zp {CX:CXT} {P:Program} {w:World} {K:Frag} {mg:MG} {base:Heap} {N ps:List Str} {qual:Str} {scope:Scope} {f:Addr} {cd:Value} {A:Around} {outer:List Env} {s s1:Shared} {H:Hp} {E:XK} {us:List Value} {vs:List V}
  (S:aM N ps scope) (hd:A.handled = none) (e0:Aw P w K mg base A outer s H) (hl:vs.length = ps.length) (r:Vals vs us)
  (x:InCallC s s.heap.objs.size (bindL (envOfC qual scope s.heap.objs.size f cd).kindOf (ps.zip us) fun _=>none) (cellsFrom (s.heap.objs.size + 1) scope.names []) (bindC (envOfC qual scope s.heap.objs.size f cd).kindOf (ps.zip us) fun _=>none) s1) :
  Inv (pO CX P w K mg base N qual scope f cd A outer s H E) [] (start N vs) H s1:=by
 have hpl:ps.length <= N.length:=by have:=congrArg List.length S.pre; rw [length_take] at this; omega
 obtain ⟨h1,tk,rfl,hk⟩:=x.done
 have noA:∀ b:Addr,b ∉ (pO CX P w K mg base N qual scope f cd A outer s H E).ex:=fun b z=>absurd (show b ∈ ([]:List Addr) from z) Zc
 refine ⟨⟨e0.mod,S.kind,rfl,rfl,le_refl _,fun y z c h1 h2=>?_,fun y hy=>?_,fun y c _ h=>?_,fun _=>hd,Around.frames_deeper e0.frames,.inr ⟨rfl,rfl⟩,fun b z=>absurd z (noA b),e0.bs,e0.bsz,fun b _ _=>noA b,fun b z=>absurd z (noA b),e0.funs,e0.frf⟩,
  rfl,e0.bare,Un.kept hk,⟨_,x.toInCall.ns,fun i y v h1 h2 h3=>?_⟩,fun y c h=>⟨_,x.cell y c h⟩,e0.hok.fresh (le_refl _),fun y c h=>?_,fun p hp=>absurd (show p ∈ ([]:OP) from hp) Zc,e0.hok.kept hk,?_⟩
 ·exact name_of_addr x.apart (PySem.mem_of_lookup h1) (PySem.mem_of_lookup h2)
 ·have hy:scope.names.lookup y = some .cell \/ scope.names.lookup y = some .free:=hy
  rcases hy with hy | hy
  ·exact Cu hy
  ·exact absurd rfl (S.nofree _ (PySem.mem_of_lookup hy))
 ·exact le_of_lt (x.above y c (PySem.mem_of_lookup h))
 ·have hi:i < vs.length:=by
   unfold start at h2
   by_cases hi:i < vs.length
   ·exact hi
   ·rw [getElem?_append_right (by simpa using hi)] at h2
    rw [List.getElem?_replicate] at h2
    split at h2 <;> cases h2
  have ha:vs[i]? = some v:=by
   unfold start at h2
   rw [getElem?_append_left (by simpa using hi),getElem?_map] at h2
   cases e:vs[i]? with
   | none=>rw [e] at h2; cases h2
   | some a=>rw [e] at h2; cases h2; rfl
  obtain ⟨u,hu,rv⟩:=r.get ha
  have hp:ps[i]? = some y:=by
   rw [<- S.pre,List.getElem?_take_of_lt Zb]; exact h1
  have ndP:ps.Nodup:=by rw [<- S.pre]; exact S.nd.sublist (List.take_sublist _ _)
  refine ⟨u,rv,?_⟩
  rcases S.par y (mem_of_getElem? hp) with k | k
  ·exact .inl ⟨k,yR ndP hp hu k⟩
  ·obtain ⟨c,e⟩:=Cu (n:=s.heap.objs.size + 1) k
   refine .inr ⟨.inl k,c,e,?_⟩
   have q:=x.cell y c e
   rw [yM ndP hp hu (by show scope.names.lookup y ≠ _; rw [k]; decide)] at q
   exact q
 ·exact e0.hok.fresh (le_of_lt (x.above y c (PySem.mem_of_lookup h)))
 ·unfold start
  show _ = N.length
  rw [length_append,length_map,List.length_replicate]
  omega
theorem QT {CX:CXT} {P:Program} {w:World} {K:Frag} {mg:MG} {base:Heap} {k:Nat} {f:Addr} {name qual:Str} {params:Arguments} {body:List Stmt} {scope:Scope} {dV kV doc pm cdv ct oc:Value} {an od:Option Addr}
  {osl:Array (Option Value)} {N ps:List Str} {sp:Sp} (lk:K.lookup f = some ⟨oc,od,.func (fnOf name qual params body scope dV kV doc pm an cdv ct),osl⟩) (hcd:codeIn K cdv qual = true) (S:aM N ps scope)
  (len:∀ vs H Q E,sp vs H Q E -> vs.length = ps.length)
  (hbody:∀ (A:Around) (outer:List Env) (s:Shared) (H:Hp) (vs:List V) (Q:VK) (E:XK),bw k (A.deeper (envOfC qual scope s.heap.objs.size f cdv)) -> sp vs H Q E ->
   ∃ t,PSs (pO CX P w K mg base N qual scope f cdv A outer s H E) body t /\ t { nx:=fun _ H'=>Q .non H',rt:=Q } (start N vs) H) :
  aO P w K mg base CX (k + 1) f (fnOf name qual params body scope dV kV doc pm an cdv ct) ps sp:=by
 refine ⟨len,fun A outer s H args us vs Q E hr e0 hb r hsp=>?_⟩
 have hl:=len _ _ _ _ hsp
 have KX:K.In s.heap:=e0.mod.kin.keeps fun b o e=>(e0.bs b o e).1
 have lim:s.heap.NoLimit:=e0.mod.nolimit.keeps fun b o e=>(e0.bs b o e).1
 have hkind:∀ y ∈ ps.zip us,scope.names.lookup y.1 = some .local \/ (scope.names.lookup y.1 = some .cell /\ ((cellsFrom (s.heap.objs.size + 1) scope.names []).lookup y.1).isSome = true):=fun ⟨n,v⟩ hy=>by
  rcases S.par n (of_mem_zip hy).1 with q | q
  ·exact .inl q
  ·exact .inr ⟨q,cellsFrom_some _ _ _ (.inl q)⟩
 refine codeAny_call_function hr.depth (KX _ _ lk) rfl S.co S.gen rfl (codeRec_of KX hcd) (hb _ _ _ _ ?_)
 refine wpAny_newFunctionEnv_cells S.kind hkind fun env he s1 x=>?_
 subst he
 refine ⟨lim.keeps x.toInCall.keep,codeAny_func ?_⟩
 obtain ⟨t,ht,hq⟩:=hbody A outer s H vs Q E (hr.deeper _) hsp
 have I:Inv (pO CX P w K mg base N qual scope f cdv A outer s H E) [] (start N vs) H s1:=zp S hr.hd e0 hl r x
 refine wpAny_mono (ht [] s1 (start N vs) H _ I hq) (fun fl s' hs=>?_) fun e s' hs=>hs
 have fin:∀ {σ':St} {H':Hp} {v:V} {u:Value},Inv (pO CX P w K mg base N qual scope f cdv A outer s H E) [] σ' H' s' -> RelV v u -> Q v H' -> CE outer P w H s Q u s' :=
  fun {σ' H' v u} J rv q=>⟨v,H',J.os,J.bare,J.base,J.hok,rv,q⟩
 cases fl with
 | ret u =>
  obtain ⟨v,σ',H',J,rv,q⟩:=hs
  exact fin J rv q
 | next =>
  obtain ⟨σ',H',J,q⟩:=hs
  exact fin (v:=V.non) (u:=Value.none) J rfl q
 | brk =>
  obtain ⟨_,_,_,q⟩:=hs
  exact False.elim q
 | cont =>
  obtain ⟨_,_,_,q⟩:=hs
  exact False.elim q
section
variable {X:Cx} {x:Str} {p pos:Pos} {e:Expr} {es:List Expr} {t:TA} {id T:String} {r:List V->Hp->VK->Prop}
def tCB(r:List V->Hp->VK->Prop)(t:TA):TE:=fun σ H Q=>t σ H fun vs H1=>r vs H1 Q
theorem aJ(hc:iy X (.builtin id) r)(hg:Gl X x)(hm:X.mg x=none)(hv:bootBuiltins x=some (.builtin id))(ha:PA X (e::es) t)(hn:x ≠ "__name__" := by decide)(hdb:(x==("__debug__" : Str))=false:=by decide)
  (he:starEach (e::es) X.env=(false,eval e X.env)::starEach es X.env:=by rfl)(hpl:(backTo pos (starEach es X.env)).any (·.1)=false:=by rfl):PE X (.Call (.Name x p) (e::es) [] pos) (tCB r t):=by
 intro pins s σ H Q I h
 refine wpAny_Call_Name_kw (oh I hg hm hv ?_ hn hdb)
 exact PyProof.Rows.callWith_builtin1 (thn (ha pos pins s σ H _ I h) fun us s1 ⟨vs,H1,I1,r1,q1⟩=>hc pins s1 σ H1 vs us Q I1 r1 q1) he hpl
theorem bR(hc:iy X (.type T) r)(hg:Gl X x)(hm:X.mg x=none)(hv:bootBuiltins x=some (.type T))(ha:PA X (e::es) t)(hn:x ≠ "__name__" := by decide)(hdb:(x==("__debug__" : Str))=false:=by decide)
  (he:starEach (e::es) X.env=(false,eval e X.env)::starEach es X.env:=by rfl)(hpl:(backTo pos (starEach es X.env)).any (·.1)=false:=by rfl):PE X (.Call (.Name x p) (e::es) [] pos) (tCB r t):=by
 intro pins s σ H Q I h
 refine wpAny_Call_Name_kw (oh I hg hm hv ?_ hn hdb)
 exact PyProof.Rows.callWith_type1 (thn (ha pos pins s σ H _ I h) fun us s1 ⟨vs,H1,I1,r1,q1⟩=>hc pins s1 σ H1 vs us Q I1 r1 q1) he hpl
end
end L2
namespace HT
open PySem PyProof.Rows
section
open PySem.SeqAt
open PySem.AutoSeq1 (wpAny_loadPart')
open PySem.MeetsSeq PySem.MeetsSeq2 PySem.MeetsSeq3
end
section
variable {prog:Program} {w:World} {A:Around} {E:EV} {s:Shared}
def sIx(n d:Nat):Option Int->Nat
 | none=>d
 | some v=>if v<0 then(v+(n:Int)).toNat else min v.toNat n
theorem sIx_none(n d:Nat):sIx n d none=d:=rfl
theorem sIx_nat(n d k:Nat):sIx n d (some (k:Int))=min k n:=by
 show(if(k:Int)<0 then((k:Int)+(n:Int)).toNat else min (k:Int).toNat n)=min k n
 rw[if_neg Zb,Int.toNat_natCast]
end
end HT
namespace L2
open PySem PySem.Spec PyProof.Rows
abbrev TO:=St->Hp->(Option Int->Hp->Prop)->Prop
def PO(X:Cx)(e:Option Expr)(t:TO):Prop :=
 ∀ (pins:OP) (s:Shared) (σ:St) (H:Hp) (Q:Option Int->Hp->Prop),Inv X pins σ H s->t σ H Q ->
  wpAny (model X.prog X.w) X.A (evalPart e X.env) (fun u s'=>∃ o H',Inv X pins σ H' s'/\IsPart u o/\Q o H') X.xe s
def Nq:TO:=fun _ H Q=>Q none H
def T9(t:TE):TO:=fun σ H Q=>t σ H fun x H1=>∃ i,x=.int i/\Q (some i) H1
section
variable {X:Cx} {e:Expr} {te:TE} {lo hi:Option Expr} {tl th:TO} {pos p2:Pos}
theorem bN:PO X none Nq:=by
 intro pins s σ H Q I h
 rw[evalPart_none]
 exact wpAny_pure ⟨none,H,I,.none,h⟩
theorem bJ(h:PE X e te):PO X (some e) (T9 te):=by
 intro pins s σ H Q I hw
 rw[evalPart_some]
 refine thn (h pins s σ H _ I hw) fun u s1 ⟨x,H1,I1,r1,q1⟩=>?_
 obtain⟨i,rfl,q⟩:=q1
 obtain⟨t,rfl⟩:=r1
 exact⟨some i,H1,I1,.int i t,q⟩
def SlR(X:Cx)(r:V->Option Int->Option Int->Hp->VK->Prop):Prop :=
 ∀ (pins:OP) (s:Shared) (σ:St) (H:Hp) (x:V) (v vl vu:Value) (lo hi:Option Int) (sl:Addr) (Q:VK),Inv X pins σ H s->RelV x v->s.heap.IsSliceOf sl vl vu .none->IsPart vl lo->IsPart vu hi->r x lo hi H Q ->
  ∃ T id,typeLookup (.type T) "__getitem__" = pure (some (.builtin id))/\s.TypeIs v T/\wpAny (model X.prog X.w) X.A (getItem v (.ref sl)) (EP X pins σ Q) X.xe s
def tSl(r:V->Option Int->Option Int->Hp->VK->Prop)(te:TE)(tl th:TO):TE:=fun σ H Q=>te σ H fun x H1=>tl σ H1 fun l H2=>th σ H2 fun u H3=>r x l u H3 Q
theorem bF{r:V->Option Int->Option Int->Hp->VK->Prop}(hr:SlR X r)(he:PE X e te)(hl:PO X lo tl)(hu:PO X hi th):PE X (.Subscript e (.Slice lo hi none p2) pos) (tSl r te tl th):=by
 intro pins s σ H Q I h
 refine Subscript_ (thn (he pins s σ H _ I h) fun v s1 ⟨x,H1,I1,r1,q1⟩=>?_)
 refine wpAny_Slice (thn (hl pins s1 σ H1 _ I1 q1) fun vl s2 ⟨l,H2,I2,pl,q2⟩=>thn (hu pins s2 σ H2 _ I2 q2) fun vu s3 ⟨u,H3,I3,pu,q3⟩=>?_)
 rw[evalPart_none]
 refine wpAny_pure ?_
 have I4:Inv X pins σ H3 {s3 with heap:=s3.heap.push {cls:=.type "slice",data:=.fields #[vl,vu,.none]}}:=I3.kept (t':=s3.toks) fun b ob q=>Heap.get?_push_of_some _ q
 obtain⟨T,id,hT,ht,hg⟩:=hr pins {s3 with heap:=s3.heap.push {cls:=.type "slice",data:=.fields #[vl,vu,.none]}} σ H3 x v vl vu l u s3.heap.objs.size Q I4 r1 (Heap.IsSliceOf.new ..) pl pu q3
 show wpAny (model X.prog X.w) X.A (subscriptTail e (.Slice lo hi none p2) v (.ref s3.heap.objs.size)) (EP X pins σ Q) X.xe {s3 with heap:=s3.heap.push {cls:=.type "slice",data:=.fields #[vl,vu,.none]}}
 exact tail_any (ops:=[.ref s3.heap.objs.size,v]) ht hT hg (by with_unfolding_all rfl)
def dO(xs:List V)(lo hi:Option Int):List V:=(xs.drop (HT.sIx xs.length 0 lo)).take (HT.sIx xs.length xs.length hi - HT.sIx xs.length 0 lo)
theorem DR(xs:List V)(lo hi:Option Int):(dO xs lo hi).length<=xs.length:=by
 unfold dO
 rw[length_take,length_drop]
 omega
end
def ixN(n:Nat)(i:Int):Option Nat:=if 0<=i then(if i<n then some i.toNat else none)else if -(n:Int)<=i then some (i+n).toNat else none
def atI{α:Type}(xs:List α)(i:Int):Option α:=(ixN xs.length i).bind fun j=>xs[j]?
theorem HY{n:Nat}{i:Int}{j:Nat}(h:ixN n i=some j):seqIndex? i n=some j/\j<n /\ -(n:Int)<=i/\i<n:=by
 unfold ixN at h
 by_cases h0:0<=i
 ·rw[if_pos h0]at h
  by_cases h1:i<n
  ·rw[if_pos h1]at h
   have e:i.toNat=j:=Option.some.inj h
   exact⟨by rw[seqIndex_of h0 h1,e],Zb,Zb,h1⟩
  ·rw[if_neg h1]at h;cases h
 ·rw[if_neg h0]at h
  by_cases h1:-(n:Int)<=i
  ·rw[if_pos h1]at h
   have e:(i+n).toNat=j:=Option.some.inj h
   exact⟨by rw[seqIndex_neg Zb h1,e],Zb,h1,Zb⟩
  ·rw[if_neg h1]at h;cases h
theorem Bh{α:Type}{xs:List α}{i:Int}{v:α}(h:atI xs i=some v):∃ j,seqIndex? i xs.length=some j/\xs[j]? = some v/\j<xs.length /\ -(xs.length:Int)<=i/\i<xs.length:=by
 unfold atI at h
 cases e:ixN xs.length i with
 | none=>rw[e]at h;cases h
 | some j =>
  rw[e]at h
  obtain⟨h1,h2,h3,h4⟩:=HY e
  exact⟨j,h1,h,h2,h3,h4⟩
theorem bL{α:Type}{xs:List α}{j:Nat}{v:α}(h:xs[j]? = some v):atI xs (j:Int)=some v:=by
 have hj:j<xs.length:=(List.getElem?_eq_some_iff.mp h).1
 have e:ixN xs.length (j:Int)=some j:=by
  unfold ixN
  rw[if_pos Zb,if_pos Zb];simp
 unfold atI;rw[e];exact h
def Ie(b:Expr):Prop:=∀ o i,subscripted b false o i=operate [o,i] (getItem o i)
def IxR(X:Cx)(r:R2):Prop :=
 ∀ (value slice:Expr) (pins:OP) (s:Shared) (σ:St) (H:Hp) (x y:V) (v u:Value) (Q:VK),Inv X pins σ H s->RelV x v->RelV y u->r x y H Q ->
  subscripted slice false v u=operate [v,u] (getItem v u)->wpAny (model X.prog X.w) X.A (subscriptTail value slice v u) (EP X pins σ Q) X.xe s
def MtR(X:Cx)(id:String)(r:V->List V->Hp->VK->Prop):Prop :=
 ∀ (pins:OP) (s:Shared) (σ:St) (H:Hp) (x:V) (xs:List V) (v:Value) (us:List Value) (Q:VK),Inv X pins σ H s->RelV x v->Vals xs us->r x xs H Q ->
  wpAny (model X.prog X.w) X.A (call (.builtin id) (v::us)) (EP X pins σ Q) X.xe s
section
variable {X:Cx} {a b:Expr} {ta tb:TE} {pos:Pos}
theorem aU{r:R2}(hr:IxR X r)(ha:PE X a ta)(hb:PE X b tb)(hs:Ie b:=by exact fun _ _=>rfl):PE X (.Subscript a b pos) (tOp r ta tb):=by
 intro pins s σ H Q I h
 exact Subscript_ (Rn ha hb I h fun v u s2 x y H2 I2 rx ry q=>hr a b pins s2 σ H2 x y v u Q I2 rx ry q (hs _ _))
def Tu(K:Frag):R2:=fun x y H Q=>∃ p xs i v,x=.ref p/\y=.int i/\SqL K H p xs/\atI xs i=some v/\Q v H
def Ub(K:Frag):R2:=fun x y H Q=>∃ p xs i v,x=.ref p/\y=.int i/\SqT K H p xs/\atI xs i=some v/\Q v H
def Ue:R2:=fun x y H Q=>∃ z i c,x=.str z/\y=.int i/\z.length<=sizeLine/\atI z.cps.toList i=some c/\Q (.str ⟨#[c]⟩) H
theorem aN:IxR X (Tu X.K):=by
 intro value slice pins s σ H x y v u Q I rx ry h hs
 obtain⟨p,xs,i,z,rfl,rfl,hq,he,q⟩:=h
 cases rx
 obtain⟨t,rfl⟩:=ry
 obtain⟨its,r,pl,hz⟩:=I.list hq
 obtain⟨j,h1,h2,h3,h4,h5⟩:=Bh he
 obtain⟨w,ew,rw'⟩:=r.get h2
 have hl:=r.length
 have hn:=uA
 have fin:EP X pins σ Q w s:=⟨z,H,I,rw',q⟩
 by_cases h0:0<=i
 ·have hj:i.toNat=j:=by
   rw[seqIndex_of h0 h5]at h1
   exact Option.some.inj h1
  exact item_listR pl.isList h0 Zb (by rw[hj];simpa using ew) fin hs
 ·have hj:(i+(its.toArray.size:Int)).toNat=j:=by
   rw[seqIndex_neg Zb h4]at h1
   rw[size_toArray,<- hl]
   exact Option.some.inj h1
  exact subscriptTail_builtinR (x:=w) pl.isList.typeIs slot_list_getitem.lookup
   (wpAny_getItem_list_neg (Q:=fun r s'=>r=w/\EP X pins σ Q r s') pl.isList Zb (by rw[size_toArray] <;> omega) Zb (by rw[hj];simpa using ew) ⟨rfl,fin⟩) hs
theorem gj:IxR X (Ub X.K):=by
 intro value slice pins s σ H x y v u Q I rx ry h hs
 obtain⟨p,xs,i,z,rfl,rfl,hq,he,q⟩:=h
 cases rx
 obtain⟨t,rfl⟩:=ry
 obtain⟨its,r,pl,hz⟩:=I.tuple hq
 obtain⟨j,h1,h2,h3,h4,h5⟩:=Bh he
 obtain⟨w,ew,rw'⟩:=r.get h2
 have hl:=r.length
 have hn:=uA
 have fin:EP X pins σ Q w s:=⟨z,H,I,rw',q⟩
 exact subscriptTail_builtinR (x:=w) pl.typeIs slot_tuple_getitem.lookup
  (getItem_tuple (j:=j) (Q:=fun r s'=>r=w/\EP X pins σ Q r s') pl Zb Zb (by rw[size_toArray,<- hl];exact h1) (by simpa using ew) ⟨rfl,fin⟩) hs
theorem uP:IxR X Ue:=by
 intro value slice pins s σ H x y v u Q I rx ry h hs
 obtain⟨z,i,c,rfl,rfl,hz,he,q⟩:=h
 obtain⟨t,rfl⟩:=rx
 obtain⟨t',rfl⟩:=ry
 obtain⟨j,h1,h2,h3,h4,h5⟩:=Bh he
 have hl:z.cps.toList.length=z.length:=by simp[Str.length]
 rw[hl]at h1 h4 h5
 have hn:=uA
 exact tail_any (typeIs_str s z t) slot_str_getitem.lookup (getItem_str (c:=c) (by
  have e1:decide (i < -(2 ^ 63:Int))=false:=decide_eq_false Zb
  have e2:decide (i>=2 ^ 63)=false:=decide_eq_false Zb
  rw[e1,e2,Bool.or_false]) (by rw[h1];simpa using h2) ⟨.str ⟨#[c]⟩,H,I.tok _,⟨_,rfl⟩,q⟩) hs
theorem Ga(its:List Value)(n j:Nat)(u:Value):Obj.mapSeq (·.setIfInBounds j u) {cls:=.type "list",data:=.seq its.toArray n}={cls:=.type "list",data:=.seq (its.set j u).toArray n}:=by
 simp[Obj.mapSeq]
theorem Inv.lst{pins:OP}{σ:St}{H:Hp}{s:Shared}{p:Addr}{xs:List V}(I:Inv X pins σ H s)(h:H p=some (.lst xs)) :
  ∃ (its:List Value) (n:Nat),Vals xs its/\s.heap.get? p=some {cls:=.type "list",data:=.seq its.toArray n}/\xs.length<=sizeLine:=by
 obtain⟨z,its,n,r,e⟩:=I.hok p _ h
 exact⟨its,n,r,e,z⟩
theorem Inv.lstUpd{pins:OP}{σ:St}{H:Hp}{s:Shared}{p:Addr}{xs ys:List V}{its its':List Value}{n n':Nat}{f:Obj->Obj}(I:Inv X pins σ H s)(h:H p=some (.lst xs))
  (ho:s.heap.get? p=some {cls:=.type "list",data:=.seq its.toArray n})(hf:f {cls:=.type "list",data:=.seq its.toArray n}={cls:=.type "list",data:=.seq its'.toArray n'})(r:Vals ys its')(hz:ys.length<=sizeLine)(t:Nat) :
  Inv X pins σ (upd H p (.lst ys)) {s with heap:=s.heap.update p f,toks:=t}:=by
 have e:(s.heap.update p f).get? p=some {cls:=.type "list",data:=.seq its'.toArray n'}:=by
  rw[Heap.get?_update_self f ho (by rw[hf] <;> rfl),hf]
 refine I.write (x:=p) (e:=p) (by rw[h];trivial) (.inl rfl) (fun b u hb q=>(Heap.get?_update_other _ _ (Ne.symm hb)).trans q) ⟨_,e⟩ ?_
 exact⟨hz,its',n',r,e⟩
def Uq:V->V->V->Hp->(Hp->Prop)->Prop:=fun o i v H Q=>∃ p xs k j,o=.ref p/\i=.int k/\H p=some (.lst xs)/\ixN xs.length k=some j/\Q (upd H p (.lst (xs.set j v)))
theorem set_list:Tg X Uq:=by
 intro pins s σ H o i v ov iv u Q I ro ri rv h
 obtain⟨p,xs,k,j,rfl,rfl,hp,hj,q⟩:=h
 cases ro
 obtain⟨t,rfl⟩:=ri
 obtain⟨its,n,r,ho,hz⟩:=I.lst hp
 obtain⟨h1,h2,h3,h4⟩:=HY hj
 have hl:=r.length
 have hn:=uA
 have I':Inv X pins σ (upd H p (.lst (xs.set j v))) {s with heap:=s.heap.update p (Obj.mapSeq (·.setIfInBounds j u))} :=
  I.lstUpd hp ho (Ga its n j u) (r.set rv j) (by rw[length_set];exact hz) s.toks
 by_cases h0:0<=k
 ·have hk:k.toNat=j:=by
   rw[seqIndex_of h0 h4]at h1
   exact Option.some.inj h1
  exact PySem.W.ki_setAt ho h0 Zb (by rw[size_toArray,<- hl];exact h4) (by rw[hk];exact⟨_,I',q⟩)
 ·have hk:(k+(its.toArray.size:Int)).toNat=j:=by
   rw[seqIndex_neg Zb h3]at h1
   rw[size_toArray,<- hl]
   exact Option.some.inj h1
  exact PySem.W.ki_setBack ho Zb (by rw[size_toArray,<- hl];exact h3) Zb (by rw[hk];exact⟨_,I',q⟩)
theorem Be(lo hi:Option Int)(n:Nat):(sliceBounds lo hi none n).1=((HT.sIx n 0 lo:Nat):Int)/\(sliceBounds lo hi none n).2.1=((HT.sIx n n hi:Nat):Int)/\(sliceBounds lo hi none n).2.2=1:=by
 refine⟨?_,?_,rfl⟩
 ·cases lo with
  | none=>simp[sliceBounds,HT.sIx]
  | some i =>
   simp only[sliceBounds,HT.sIx,Option.getD_none,show(1:Int)>0 by decide,if_true]
   by_cases h:i<0
   ·simp only[h,if_true] <;> omega
   ·simp only[h,if_false] <;> omega
 ·cases hi with
  | none=>simp[sliceBounds,HT.sIx]
  | some i =>
   simp only[sliceBounds,HT.sIx,Option.getD_none,show(1:Int)>0 by decide,if_true]
   by_cases h:i<0
   ·simp only[h,if_true] <;> omega
   ·simp only[h,if_false] <;> omega
theorem yt(its:List Value)(lo hi:Option Int):slicePick its.toArray lo hi none=((its.drop (HT.sIx its.length 0 lo)).take (HT.sIx its.length its.length hi - HT.sIx its.length 0 lo)).toArray:=by
 obtain⟨h1,h2,h3⟩:=Be lo hi its.toArray.size
 unfold slicePick
 rw[h1,h2,h3]
 simp only[sliceRange_one,pick_run,size_toArray] <;> rfl
def Uh(K:Frag):V->Option Int->Option Int->Hp->VK->Prop:=fun x lo hi H Q=>∃ a xs,x=.ref a/\SqL K H a xs/\∀ p,H p=none->Q (.ref p) (upd H p (.lst (dO xs lo hi)))
theorem cj:SlR X (Uh X.K):=by
 intro pins s σ H x v vl vu lo hi sl Q I rx hs pl pu h
 obtain⟨a,xs,rfl,hx,q⟩:=h
 cases rx
 obtain⟨its,r,ht,hz⟩:=I.list hx
 have hlen:=r.length
 refine⟨"list",_,slot_list_getitem.lookup,ht.isList.typeIs,?_⟩
 refine wpAny_getItem_list_slice ht.isList hs pl pu .none Zc ?_ (by rw[size_toArray] <;> omega)
 rw[yt,<- hlen]
 refine⟨.ref s.heap.objs.size,_,I.laid (t':=s.toks) (o:=.lst (dO xs lo hi)) (fun b ob q=>Heap.get?_push_of_some _ q) (le_refl _) ?_,rfl,q _ (I.hok.fresh (le_refl _))⟩
 exact⟨le_trans (DR xs lo hi) hz,_,0,(r.drop (HT.sIx xs.length 0 lo)).take (HT.sIx xs.length xs.length hi - HT.sIx xs.length 0 lo),Heap.get?_push_size _ rfl⟩
def lX:V->Bool
 | .non=>true
 | .bl _=>true
 | .int _=>true
 | .str _=>true
 | _=>false
def eqV:V->V->Bool
 | .non,.non=>true
 | .bl a,.bl b=>a==b
 | .bl a,.int b=>(if a then 1 else 0)==b
 | .int a,.bl b=>a==(if b then 1 else 0)
 | .int a,.int b=>a==b
 | .str a,.str b=>a==b
 | _,_=>false
theorem RZ{A:Around}{s:Shared}{y x:V}{u v:Value}(ry:RelV y u)(rx:RelV x v)(fy:lX y=true)(fx:lX x=true):SeqAt.EqAt A s u v (eqV y x):=by
 cases y with
 | non =>
  cases ry
  cases x with
  | non=>cases rx;exact SeqAt.EqAt.same _
  | bl b=>cases rx;exact SeqAt.EqAt.none_bool b
  | int b=>obtain⟨t,rfl⟩:=rx;exact SeqAt.EqAt.none_int b t
  | str b=>obtain⟨t,rfl⟩:=rx;exact SeqAt.EqAt.none_str b t
  | _=>exact absurd (show false=true from fx) Bool.false_ne_true
 | bl a =>
  cases ry
  cases x with
  | non=>cases rx;exact SeqAt.EqAt.bool_none a
  | bl b=>cases rx;exact SeqAt.EqAt.bool_bool a b
  | int b=>obtain⟨t,rfl⟩:=rx;exact SeqAt.EqAt.bool_int a b t
  | str b=>obtain⟨t,rfl⟩:=rx;exact SeqAt.EqAt.bool_str a b t
  | _=>exact absurd (show false=true from fx) Bool.false_ne_true
 | int a =>
  obtain⟨t',rfl⟩:=ry
  cases x with
  | non=>cases rx;exact SeqAt.EqAt.int_none a t'
  | bl b=>cases rx;exact SeqAt.EqAt.int_bool a t' b
  | int b=>obtain⟨t,rfl⟩:=rx;exact SeqAt.EqAt.int_int a t' b t
  | str b=>obtain⟨t,rfl⟩:=rx;exact SeqAt.EqAt.int_str a t' b t
  | _=>exact absurd (show false=true from fx) Bool.false_ne_true
 | str a =>
  obtain⟨t',rfl⟩:=ry
  cases x with
  | non=>cases rx;exact SeqAt.EqAt.str_none a t'
  | bl b=>cases rx;exact SeqAt.EqAt.str_bool a t' b
  | int b=>obtain⟨t,rfl⟩:=rx;exact SeqAt.EqAt.str_int a t' b t
  | str b=>obtain⟨t,rfl⟩:=rx;exact SeqAt.EqAt.str_str a t' b t
  | _=>exact absurd (show false=true from fx) Bool.false_ne_true
 | _=>exact absurd (show false=true from fy) Bool.false_ne_true
def eqU(x:V)(u:Value):Bool:=match u with
 | .none=>eqV .non x
 | .bool b=>eqV (.bl b) x
 | .int i _=>eqV (.int i) x
 | .str z _=>eqV (.str z) x
 | _=>false
theorem K5{x y:V}{u:Value}(r:RelV y u)(f:lX y=true):eqU x u=eqV y x:=by
 cases y with
 | non=>cases r;rfl
 | bl b=>cases r;rfl
 | int i=>obtain⟨t,rfl⟩:=r;rfl
 | str z=>obtain⟨t,rfl⟩:=r;rfl
 | _=>exact absurd (show false=true from f) Bool.false_ne_true
theorem tD{x:V}:∀ {xs:List V} {us:List Value},Vals xs us->xs.all lX=true->us.any (eqU x)=xs.any fun y=>eqV y x
 | _,_,.nil,_=>rfl
 | y::xs,u::us,.cons r t,f=>by
  rw[List.all_cons,and_eq_true]at f
  rw[List.any_cons,List.any_cons,K5 r f.1,tD t f.2]
theorem pW{A:Around}{s:Shared}{x:V}{v:Value}(rx:RelV x v)(fx:lX x=true):∀ {xs:List V} {us:List Value},Vals xs us->xs.all lX=true->∀ u∈us,SeqAt.EqAt A s u v (eqU x u)
 | _,_,.nil,_=>fun u hu=>by cases hu
 | y::xs,u::us,.cons r t,f=>fun u' hu=>by
  rw[List.all_cons,and_eq_true]at f
  rcases mem_cons.mp hu with rfl|hu
  ·rw[K5 r f.1];exact RZ r rx f.1 fx
  ·exact pW rx fx t f.2 u' hu
def inV(x:V)(xs:List V):Bool:=xs.any fun y=>eqV y x
def rIn(K:Frag)(neg:Bool):R2:=fun x y H Q=>∃ p xs,y=.ref p/\(SqL K H p xs\/SqT K H p xs)/\lX x=true/\xs.all lX=true/\Q (.bl (if neg then !inV x xs else inV x xs)) H
theorem iQ:OpR X (compareOp .In) (rIn X.K false):=by
 intro pins s σ H x y v u Q I rx ry h
 obtain⟨p,xs,rfl,hq,fx,fs,q⟩:=h
 cases ry
 rcases hq with hq|hq
 ·obtain⟨its,r,pl,hz⟩:=I.list hq
  refine SeqAt.in_listAt (eqU x) pl.isList (fun w hw=>pW rx fx r fs w (by simpa using hw)) ⟨.bl _,H,I,rfl,?_⟩
  rw[show its.toArray.any (eqU x)=its.any (eqU x)by simp,tD r fs]
  exact q
 ·obtain⟨its,r,pl,hz⟩:=I.tuple hq
  refine SeqAt.in_tupleAt (eqU x) pl (fun w hw=>pW rx fx r fs w (by simpa using hw)) ⟨.bl _,H,I,rfl,?_⟩
  rw[show its.toArray.any (eqU x)=its.any (eqU x)by simp,tD r fs]
  exact q
theorem uy:OpR X (compareOp .NotIn) (rIn X.K true):=by
 intro pins s σ H x y v u Q I rx ry h
 obtain⟨p,xs,rfl,hq,fx,fs,q⟩:=h
 cases ry
 rcases hq with hq|hq
 ·obtain⟨its,r,pl,hz⟩:=I.list hq
  refine SeqAt.notIn_listAt (eqU x) pl.isList (fun w hw=>pW rx fx r fs w (by simpa using hw)) ⟨.bl _,H,I,rfl,?_⟩
  rw[show its.toArray.any (eqU x)=its.any (eqU x)by simp,tD r fs]
  exact q
 ·obtain⟨its,r,pl,hz⟩:=I.tuple hq
  refine SeqAt.notIn_tupleAt (eqU x) pl (fun w hw=>pW rx fx r fs w (by simpa using hw)) ⟨.bl _,H,I,rfl,?_⟩
  rw[show its.toArray.any (eqU x)=its.any (eqU x)by simp,tD r fs]
  exact q
theorem aW:iy X (.builtin "len") (fun xs H Q=>∃ p ys,xs=[.ref p]/\(SqL X.K H p ys\/SqT X.K H p ys)/\Q (.int ys.length) H):=by
 intro pins s σ H xs us Q I r h
 obtain⟨p,ys,rfl,hq,q⟩:=h
 obtain⟨u,rfl,rx⟩:=vals1 r
 cases rx
 have hn:=uA
 rcases hq with hq|hq
 ·obtain⟨its,r',pl,hz⟩:=I.list hq
  have hlen:=r'.length
  exact Calls.call_len_list pl.isList (by simp only[size_toArray] <;> omega) ⟨.int ys.length,H,I.tok _,⟨s.toks+1,by rw[size_toArray,hlen]⟩,q⟩
 ·obtain⟨its,r',pl,hz⟩:=I.tuple hq
  have hlen:=r'.length
  exact len_tuple pl (by simp only[size_toArray] <;> omega) ⟨.int ys.length,H,I.tok _,⟨s.toks+1,by rw[size_toArray,hlen]⟩,q⟩
theorem cL:iy X (.builtin "len") (fun xs H Q=>∃ z,xs=[.str z]/\z.length<=sizeLine/\Q (.int z.length) H):=by
 intro pins s σ H xs us Q I r h
 obtain⟨z,rfl,hz,q⟩:=h
 obtain⟨u,rfl,t,rfl⟩:=vals1 r
 have hn:=uA
 exact len_str Zb ⟨.int z.length,H,I.tok _,⟨_,rfl⟩,q⟩
theorem kh:iy X (.type "list") (fun xs H Q=>∃ p ys,xs=[.ref p]/\(SqL X.K H p ys\/SqT X.K H p ys)/\∀ l,H l=none->Q (.ref l) (upd H l (.lst ys))):=by
 intro pins s σ H xs us Q I r h
 obtain⟨p,ys,rfl,hq,q⟩:=h
 obtain⟨u,rfl,rx⟩:=vals1 r
 cases rx
 have fin:∀ (its:List Value),Vals ys its->ys.length<=sizeLine->∀ (h':Heap) (c':Nat),(∀ b o',s.heap.get? b=some o'->h'.get? b=some o') ->
   h'.get? s.heap.objs.size=some {cls:=.type "list",dict:=none,data:=.seq its.toArray c',slots:=#[]}->EP X pins σ Q (.ref s.heap.objs.size) {s with heap:=h'}:=fun its r' hz h' c' kp e =>
  ⟨.ref s.heap.objs.size,_,I.laid (t':=s.toks) kp (le_refl _) (show dB X.prog X.w _ h' _ (.lst ys)from⟨hz,its,c',r',e⟩),rfl,q _ (I.hok.fresh (le_refl _))⟩
 rcases hq with hq|hq
 ·obtain⟨its,r',pl,hz⟩:=I.list hq
  have hlen:=r'.length
  obtain⟨o,ho,hc,n,hd⟩:=pl.isList
  exact call_list_seq p (.inl rfl) ho hc hd (fun h' c' kp e=>fin its r' hz h' c' kp e) (by simp only[size_toArray] <;> omega)
 ·obtain⟨its,r',pl,hz⟩:=I.tuple hq
  have hlen:=r'.length
  obtain⟨o,ho,hc,n,hd⟩:=pl
  exact call_list_seq p (.inr rfl) ho hc hd (fun h' c' kp e=>fin its r' hz h' c' kp e) (by simp only[size_toArray] <;> omega)
theorem nA:iy X (.type "tuple") (fun xs H Q=>∃ p ys,xs=[.ref p]/\((SqL X.K H p ys/\∀ l,H l=none->Q (.ref l) (upd H l (.tup ys)))\/(SqT X.K H p ys/\Q (.ref p) H))):=by
 intro pins s σ H xs us Q I r h
 obtain⟨p,ys,rfl,h⟩:=h
 obtain⟨u,rfl,rx⟩:=vals1 r
 cases rx
 rcases h with⟨hq,q⟩|⟨hq,q⟩
 ·obtain⟨its,r',pl,hz⟩:=I.list hq
  have hlen:=r'.length
  refine call_tuple_list pl.isList (fun h' kp=>?_) (by simp only[size_toArray] <;> omega)
  have I1:Inv X pins σ H {s with heap:=h'}:=I.kept (t':=s.toks) kp
  have I2:Inv X pins σ (upd H h'.objs.size (.tup ys)) {s with heap:=h'.push {cls:=.type "tuple",data:=.seq its.toArray}} :=
   I1.laid (t':=s.toks) (fun b o e=>Heap.get?_push_of_some _ e) (le_refl _) (show dB X.prog X.w _ _ _ (.tup ys)from⟨hz,its,r',IsTup.new _ _⟩)
  exact⟨.ref h'.objs.size,_,I2,rfl,q _ (I1.hok.fresh (le_refl _))⟩
 ·obtain⟨its,r',pl,hz⟩:=I.tuple hq
  exact call_tuple_same pl ⟨.ref p,H,I,rfl,q⟩
def tyV(K:Frag)(T:String)(x:V)(H:Hp):Prop:=match x with
 | .str _=>T = "str"
 | .int _=>T = "int"
 | .ref p=>(T = "list" /\ ∃ xs,SqL K H p xs)\/(T = "tuple" /\ ∃ o,K.lookup p=some o/\o.cls=.type "tuple" /\ o.dict=none) \/
   (T = "dict" /\ ((∃ kvs,H p=some (.dK kvs))\/∃ kvs,H p=some (.dT kvs)))\/(T = "set" /\ ∃ S n,H p=some (.set S n))
 | _=>False
theorem RM{pins:OP}{σ:St}{H:Hp}{s:Shared}{T:String}{x:V}{v:Value}(I:Inv X pins σ H s)(r:RelV x v)(ty:tyV X.K T x H) :
  s.TypeIs v T/\∀ a,v=.ref a->∃ ob,s.heap.get? a=some ob/\ob.dict=none:=by
 cases x with
 | str z =>
  obtain⟨t,rfl⟩:=r
  cases(show T = "str" from ty)
  exact⟨typeIs_str s z t,fun _ e=>nomatch e⟩
 | int i =>
  obtain⟨t,rfl⟩:=r
  cases(show T = "int" from ty)
  exact⟨typeIs_int s i t,fun _ e=>nomatch e⟩
 | ref p =>
  cases r
  rcases ty with⟨rfl,xs,hq⟩|⟨rfl,o,hk,hc,hd⟩|⟨rfl,hk⟩|⟨rfl,S,n,hk⟩
  ·obtain⟨its,_,pl,_⟩:=I.list hq
   refine⟨pl.isList.typeIs,fun a e=>?_⟩
   cases e
   obtain⟨o,n,e,c,hd,_⟩:=pl
   exact⟨o,e,hd⟩
  ·refine⟨⟨o,I.kIn p o hk,hc⟩,fun a e=>?_⟩
   cases e
   exact⟨o,I.kIn _ o hk,hd⟩
  ·have z:∃ o,s.heap.get? p=some o/\o.ExactDict:=by
    rcases hk with⟨kvs,hk⟩|⟨kvs,hk⟩
    ·obtain⟨_,_,_,_,o,_,_,e,ex,_⟩:=I.hok p _ hk
     exact⟨o,e,ex⟩
    ·obtain⟨_,_,_,_,o,_,_,e,ex,_⟩:=I.hok p _ hk
     exact⟨o,e,ex⟩
   obtain⟨o,e,ex⟩:=z
   refine⟨⟨o,e,ex.1⟩,fun a e2=>?_⟩
   cases e2
   exact⟨o,e,ex.2.1⟩
  ·obtain⟨o,_,_,_,e,ex,_⟩:=I.hok p _ hk
   refine⟨⟨o,e,ex.1⟩,fun a e2=>?_⟩
   cases e2
   exact⟨o,e,ex.2.1⟩
 | _=>exact False.elim ty
def tBM(K:Frag)(T:String)(r:V->List V->Hp->VK->Prop)(to:TE)(t:TA):TE:=fun σ H Q=>to σ H fun x H1=>tyV K T x H1/\t σ H1 fun xs H2=>r x xs H2 Q
variable {o e:Expr} {es:List Expr} {to:TE} {t:TA} {name:Str} {apos cpos:Pos} {T id:String} {r:V->List V->Hp->VK->Prop}
theorem cM(pa:PlainAttrs T)(slot:Slot T name id)(hty:typeOf (.builtin id)=pure (.type "method_descriptor"))(hm:MtR X id r)(ho:PE X o to)(ha:PA X (e::es) t)
  (hbase:attributeBase o name X.env (eval o X.env)=eval o X.env:=by rfl)
  (hfew:((backTo cpos (starEach (e::es) X.env)).all (fun x=>!x.1)&&(backToKw cpos (keywordEach [] X.env)).all (fun x=>x.1.isSome)
   && decide ((e::es).length+([]:List Keyword).length+(if([]:List Keyword).isEmpty then 0 else 1)<30))=true:=by rfl)
  (hline:(apos.endLine==cpos.line)=true:=by rfl)(hs:starEach (e::es) X.env=(false,eval e X.env)::starEach es X.env:=by rfl)(hplain:(backTo cpos (starEach es X.env)).any (·.1)=false:=by rfl) :
  PE X (.Call (.Attribute o name apos) (e::es) [] cpos) (tBM X.K T r to t):=by
 intro pins s σ H Q I h
 refine wpAny_Call_method_late hbase hfew hline rfl (thn (ho pins s σ H _ I h) fun v s1 ⟨x,H1,I1,r1,ty,q1⟩=>?_)
 obtain⟨h1,h2⟩:=RM I1 r1 ty
 refine⟨T,id,pa,slot,hty,h1,h2,?_⟩
 have hA:=ha cpos pins s1 σ H1 _ I1 q1
 rw[hs]at hA ⊢
 refine Calls.callWith_builtin (by show(false||(backTo cpos (starEach es X.env)).any (·.1))=false;rw[hplain] <;> rfl) (Calls.evalArgs_plain ?_)
 exact thn hA fun us s2 ⟨vs,H2,I2,r2,q2⟩=>hm pins s2 σ H2 x vs v us Q I2 r1 r2 q2
end
def MtM(X:Cx)(id:String)(r:V->List V->Hp->VK->Prop):Prop :=
 ∀ (pins:OP) (s:Shared) (σ:St) (H:Hp) (x:V) (xs:List V) (v:Value) (us:List Value) (Q:VK),Inv X pins σ H s->RelV x v->Vals xs us->r x xs H Q ->
  wpAny (model X.prog X.w) X.A (call (.builtin id) (v::us)) (EP X pins σ Q) X.xe s
theorem Vals.one:∀ {x:V} {us:List Value},Vals [x] us->∃ u,us=[u]/\RelV x u
 | _,_,.cons r .nil=>⟨_,rfl,r⟩
theorem Vals.rep{xs:List V}{us:List Value}(h:Vals xs us):∀ k:Nat,Vals (List.replicate k xs).flatten (List.replicate k us).flatten
 | 0=>.nil
 | k+1=>by
  rw[replicate_succ,replicate_succ,flatten_cons,flatten_cons]
  exact Vals.append h (Vals.rep h k)
theorem foldl_rep(its:List Value):∀ (k:Nat) (acc:List Value),
  List.foldl (fun x1 x2=>x1++x2) acc.toArray (List.replicate k its.toArray)=(acc++(List.replicate k its).flatten).toArray
 | 0,acc=>by simp
 | k+1,acc=>by
  have e:acc.toArray++its.toArray=(acc++its).toArray:=by simp
  have e2:(acc++its)++(List.replicate k its).flatten=acc++(List.replicate (k+1) its).flatten:=by
   rw[replicate_succ,flatten_cons,append_assoc]
  rw[<- e2,<- foldl_rep its k (acc++its),<- e,replicate_succ,List.foldl_cons]
section
variable {X:Cx} {pins:OP} {σ:St} {H:Hp} {s:Shared} {l b:Addr} {xs ys zs:List V}
theorem Inv.lset{its its':List Value}{n:Nat}{f:Array Value->Array Value}{t':Nat}(I:Inv X pins σ H s)(hH:H l=some (.lst xs))
  (e:s.heap.get? l=some {cls:=.type "list",data:=.seq its.toArray n})(hf:f its.toArray=its'.toArray)(hv:Vals ys its')(hz:ys.length<=sizeLine) :
  Inv X pins σ (upd H l (.lst ys)) {s with heap:=s.heap.update l (Obj.mapSeq f),toks:=t'}:=by
 have q:=PySem.IsL.update e f
 rw[hf]at q
 refine I.write (x:=l) (e:=l) (by rw[hH];exact trivial) (.inl rfl) (fun b' u hb hu=>(Heap.get?_update_other s.heap (Obj.mapSeq f) (Ne.symm hb)).trans hu) ⟨_,q⟩ ?_
 exact⟨hz,its',_,hv,q⟩
theorem Inv.lnew{its:List Value}{t':Nat}(I:Inv X pins σ H s)(hv:Vals ys its)(hz:ys.length<=sizeLine) :
  Inv X pins σ (upd H s.heap.objs.size (.lst ys)) {s with heap:=s.heap.push {cls:=.type "list",data:=.seq its.toArray},toks:=t'} :=
 I.laid (fun _ _ q=>Heap.get?_push_of_some _ q) (le_refl _) ⟨hz,its,0,hv,Heap.get?_push_size _ rfl⟩
theorem Inv.fresh(I:Inv X pins σ H s):H s.heap.objs.size=none:=I.hok.fresh (le_refl _)
theorem Inv.lstM(I:Inv X pins σ H s)(hH:H l=some (.lst xs)):xs.length<=sizeLine/\∃ (its:List Value) (n:Nat),Vals xs its/\xs.length=its.length/\s.heap.get? l=some {cls:=.type "list",data:=.seq its.toArray n}:=by
 obtain⟨z,its,n,r,e⟩:=I.hok l _ hH
 exact⟨z,its,n,r,r.length,e⟩
theorem Nb{n:Nat}(h:n<=sizeLine):Builtin.List.listTooLong n=false:=by
 unfold Builtin.List.listTooLong
 exact decide_eq_false Zb
end
section
variable {X:Cx}
def Hw:V->List V->Hp->VK->Prop:=fun x vs H Q=>∃ l xs y,x=.ref l/\vs=[y]/\H l=some (.lst xs)/\xs.length<sizeLine/\Q .non (upd H l (.lst (xs++[y])))
theorem gq:MtM X "list.append" Hw:=by
 intro pins s σ H x vs v us Q I rx rv h
 obtain⟨l,xs,y,rfl,rfl,hH,hz,q⟩:=h
 cases rx
 obtain⟨u,rfl,ru⟩:=rv.one
 obtain⟨z,its,n,r,hl,e⟩:=I.lstM hH
 refine call_meets F.slot_list_append ⟨_,e,rfl⟩ F.entry_list_append (F.args_list_append_2 _ _) (PySem.list_append l its.toArray n u (by rw[size_toArray];omega)) ⟨e,?_⟩
 refine⟨.non,_,I.lset (its':=its++[u]) hH e Zc (r.append (.cons ru .nil)) ?_,rfl,q⟩
 rw[length_append,List.length_singleton]
 omega
def Wt:R2:=fun x y H Q=>∃ l b xs zs,x=.ref l/\y=.ref b/\H l=some (.lst xs)/\H b=some (.lst zs)/\xs.length+zs.length<=sizeLine/\∀ p,H p=none->Q (.ref p) (upd H p (.lst (xs++zs)))
theorem eY:OpR X (binaryOp .Add) Wt:=by
 intro pins s σ H x y v u Q I rx ry h
 obtain⟨l,b,xs,zs,rfl,rfl,hH,hB,hz,q⟩:=h
 cases rx
 cases ry
 obtain⟨z,its,n,r,hl,e⟩:=I.lstM hH
 obtain⟨z2,its2,n2,r2,hl2,e2⟩:=I.lstM hB
 refine PySem.P.add_list e e2 ?_ (by rw[size_toArray,size_toArray];omega)
 have ea:its.toArray++its2.toArray=(its++its2).toArray:=by simp
 rw[ea]
 exact⟨.ref _,_,I.lnew (t':=s.toks) (r.append r2) (by rw[length_append];omega),rfl,q _ I.fresh⟩
def WQ:R2:=fun x y H Q=>∃ l k xs,x=.ref l/\y=.int k/\H l=some (.lst xs) /\ -(2 ^ 63)<=k/\k<2 ^ 63/\xs.length*k.toNat<=sizeLine /\
 ∀ p,H p=none->Q (.ref p) (upd H p (.lst (List.replicate k.toNat xs).flatten))
theorem len_rep{α:Type}(xs:List α)(k:Nat):(List.replicate k xs).flatten.length=k*xs.length:=by
 induction k with
 | zero=>simp
 | succ k ih=>rw[replicate_succ,flatten_cons,length_append,ih,Nat.succ_mul,Nat.add_comm]
theorem Rg:OpR X (binaryOp .Mult) WQ:=by
 intro pins s σ H x y v u Q I rx ry h
 obtain⟨l,k,xs,rfl,rfl,hH,h1,h2,hz,q⟩:=h
 cases rx
 obtain⟨t,rfl⟩:=ry
 obtain⟨z,its,n,r,hl,e⟩:=I.lstM hH
 have hlen:its.toArray.size*k.toNat<=sizeLine:=by rw[size_toArray,<- hl];exact hz
 have hcap:¬its.toArray.size*k.toNat>(2 ^ 63 - 1) / 8:=by
  have:(sizeLine:Nat)<=(2 ^ 63 - 1) / 8:=by decide
  omega
 have hfit:¬(!Builtin.List.listFitsIndex k)=true:=by
  rw[fitsIndex_both h1 h2]
  exact Bool.false_ne_true
 have hlong:¬Builtin.List.listTooLong (its.toArray.size*k.toNat)=true:=by
  rw[Nb hlen]
  exact Bool.false_ne_true
 have hnew:List.foldl (fun x1 x2=>x1++x2) #[] (List.replicate (if its.toArray.isEmpty=true then 0 else k.toNat) its.toArray)=(List.replicate k.toNat its).flatten.toArray:=by
  have f0:∀ m:Nat,List.foldl (fun x1 x2=>x1++x2) #[] (List.replicate m its.toArray)=(List.replicate m its).flatten.toArray:=fun m=>by
   have:=foldl_rep its m []
   rw[nil_append]at this
   exact this
  rw[f0]
  cases its with
  | nil=>simp
  | cons a r'=>rw[if_neg Zc]
 refine wpAny_binaryOp_repeat_ref (T := "list") (U := "int") Za ⟨_,e,rfl⟩ (fun s'=>typeIs_int s' k t) noFill_list_mul F.fills_int_mul F.slot_int_rmul repeat_list F.slot_int_index.lookup
  (call_meets F.slot_int_rmul (typeIs_int s k t) F.entry_int_rmul (F.args_int_rmul_2 _ _) (int___rmul___int_list k t l its.toArray n)
   ⟨e,rfl,⟨_,e,rfl⟩,call_meets F.slot_list_mul ⟨_,e,rfl⟩ F.entry_list_mul (F.args_list_mul_2 _ _) (AutoListH.list___mul___list_int_3 l its.toArray n k t hfit hcap hlong) ⟨e,?_⟩⟩)
 rw[hnew]
 exact⟨.ref _,_,I.lnew (t':=s.toks) (r.rep k.toNat) (by rw[len_rep,Nat.mul_comm];exact hz),rfl,q _ I.fresh⟩
end
section
variable {prog:Program} {w:World} {A:Around} {E:EV} {s:Shared}
end
section
variable {X:Cx}
end
end L2
namespace Att
open PySem PySem.W PySem.Calls PyProof.Rows
theorem vA {P:Params} {h:Heap}:∀ (ns:List Int) (vs:List Value),WellAll P h vs (ns.map WData.int) -> IntsAre vs ns:=by
 intro ns
 induction ns with
 | nil =>
  intro vs w
  rw [map_nil] at w
  cases w
  exact .nil
 | cons n ns ih =>
  intro vs w
  rw [map_cons] at w
  cases w with
  | cons a b =>
   cases a
   exact .cons _ _ (ih _ b)
theorem IW{l:OpenLaw}{n:Nat}(hn:l.most=some n){P:Params}{h:Heap}{args:List WData}{vals:List Value}
  (hpre:l.row.toRowW.claim.pre args=true)(hwl:WellAll P h vals args) :
  ∃ a vs ns,vals=[Value.ref a]/\args=[WData.list (ns.map WData.int)]/\h.get? a=some {cls:=.type "list",data:=.seq vs.toArray}/\IntsAre vs ns/\ns.length<=n:=by
 have hsh:WShape.hasAll [] args [.list .int]=true:=(pre_splitW hpre).1
 have hc:l.pre.holds [] {args:=args}=true:=(pre_splitW hpre).2
 obtain⟨d,r,rfl,h1,h2⟩:=hasAllW_cons hsh
 obtain rfl:=hasAllW_nil h2
 obtain⟨xs,rfl,h3⟩:=hasW_list h1
 obtain⟨ns,rfl⟩:=items_int h3
 have hlen:ns.length<=n:=by
  unfold OpenLaw.pre at hc
  have h4:(WTm.not (.lt (.lit (.int (n:Int))) (.len (.arg 0)))).holds [] {args:=[.list (ns.map .int)]}=true:=by
   have h4:=(holds_andW hc).1
   rw[hn]at h4
   exact h4
  have h5:=condW_of h4 (w_not (w_lt w_lit (w_len_list (w_arg rfl))))
  rw[length_map]at h5
  refine Nat.le_of_not_lt fun q=>?_
  have q':(n:Int)<((ns.length:Nat):Int):=by omega
  first
   | (rw[decide_eq_true q']at h5;exact absurd h5 Za)
   | (simp at h5;omega)
 cases hwl with
 | cons w1 w2 =>
  cases w2
  cases w1 with
  | list ho hall=>exact⟨_,_,ns,rfl,rfl,ho,vA ns _ hall,hlen⟩
theorem Jy(l:OpenLaw)(args:List WData):l.row.toRowW.claim.post args (.bool true) args=true :=
 postW_of (r:=l.row.toRowW) (X:=(true==true))
  (show WShape.has [] (.bool true) .bool=true by first|rfl|decide|simp[WShape.has,WShape.arms,WShape.armsAll])
  (show(WTm.eq .res (.lit (.bool true))).value [] {args:=args,res:=some (.bool true),after:=args}=some (.bool (true==true))from w_eq_bool (w_res rfl) w_lit) rfl
theorem attach_call {l:OpenLaw} {n:Nat} {q:Program} {loose:List Str} {XP:(Str->Option Value)->Heap->Prop} {YP:World->Heap->Prop} {d:DefRec}
  (hn:l.most=some n) (hdf:d.params.defaults=[])
  (call:∀ (w:World) (s₀ s₁:Shared) (mg mb:MG) (fa:Addr) (o:Obj) (pm cd doc:Value) (a:Addr) (vs:List Value) (ns:List Int),
   Ground q loose [] XP w s₀ mg mb s₁.heap->YP w s₁.heap ->
   s₁.heap.get? fa=some o->o.data=.func (docDef d.name d.params d.body d.scope pm cd doc)->s₁.heap.CodeRec cd d.name->mg d.name=some (.ref fa) ->
   s₁.heap.get? a=some {cls:=.type "list",data:=.seq vs.toArray}->IntsAre vs ns->ns.length<=n->s₁.gens = #[] ->
   codeAny (model l.prog w) callerA (.call (.ref fa) ⟨[.ref a],[]⟩) (fun r s'=>r=.ok (.ret (.bool true))/\OldK s₁.heap s'.heap/\s'.os=s₁.os/\AllBare s'.gens) s₁) :
  WalkO q loose XP YP l.row.toRowW d [] (fun f vs=>PySem.call f vs):=by
 intro w s₀ s₁ mg mb G Y fa o pm cd doc dV kV ho hd hcd hD hmg hg args vals as hpre hlay hrd hwl hlo
 obtain rfl:dV=.none:=Dflts.none hD hdf
 obtain rfl:kV=.none:=Dflts.noKw hD
 obtain⟨a,vs,ns,rfl,rfl,hobj,hints,hlen⟩:=IW hn hpre hwl
 refine enter_call (codeAny_mono (call w s₀ s₁ mg mb fa o pm cd doc a vs ns G Y ho (fd_plain hd) hcd hmg hobj hints hlen hg) fun r s' hq=>?_)
 obtain⟨rfl,h2,h3,h4⟩:=hq
 exact⟨.inl ⟨.bool true,.bool true,[],rfl,fun _=>rfl,.bool true,Jy l _,fun _=>⟨List.Pairwise.nil,fun _ hm=>(nomatch hm)⟩⟩,h2,h3,h4⟩
section
variable {prog:Program} {w:World} {A:Around} {E:EV} {s:Shared} {K:Frag}
end
end Att
namespace L2
open PySem PySem.Spec PyProof.Rows
theorem yH:∀ {vs:List Value} {ns:List Int},IntsAre vs ns->Vals (ns.map V.int) vs
 | _,_,.nil=>.nil
 | _,_,.cons n t h=>.cons ⟨t,rfl⟩ (yH h)
def Only(H:Hp):Prop:=∀ b,H b=none\/∃ o xs,H b=some (.frz o (.lst xs))
theorem J0 {P:Program} {w:World} {K:Frag} {mg mb:MG} {CX:CXT} {k:Nat} {fa a:Addr} {fd:FuncData} {x:Str} {sp:Sp} {s₁:Shared} {vs:List Value} {ns:List Int}
  (KX:K.In s₁.heap) (hns:s₁.heap.Ns mainGlobals mg) (hb:s₁.heap.Ns builtinsNs mb) (hbb:∀ x:Str,x ≠ "__name__" -> mb x = bootBuiltins x) (hlim:s₁.heap.NoLimit) (hg:s₁.gens = #[])
  (ha:s₁.heap.get? a = some { cls:=.type "list",data:=.seq vs.toArray }) (hi:IntsAre vs ns) (hl:ns.length <= sizeLine) (hr:bw k callerA)
  (F:∀ base:Heap,K.In base -> base.Ns mainGlobals mg -> aO P w K mg base CX k fa fd [x] sp) (hbind:∀ (s:Shared) (u:Value),BindsTo s fd ⟨[u],[]⟩ [(x,u)])
  (hsp:∀ H:Hp,Only H -> SqL K H a (ns.map V.int) -> sp [.ref a] H (fun v _=>v = .bl true) fun _ _ _=>False)
  (hCX:∀ H e s',CX [] H s₁ (fun _ _ _=>False) e s' -> False) :
  codeAny (model P w) callerA (.call (.ref fa) ⟨[.ref a],[]⟩) (fun r s'=>r = .ok (.ret (.bool true)) /\ OldK s₁.heap s'.heap /\ s'.os = s₁.os /\ AllBare s'.gens) s₁:=by
 have rv:=yH hi
 have lenV:=hi.length
 have core:∀ H:Hp,Only H -> SqL K H a (ns.map V.int) -> HOk P w H s₁.heap -> (∀ b,H b ≠ none -> b = a) -> (H a ≠ none -> K.lookup a = none) ->
   codeAny (model P w) callerA (.call (.ref fa) ⟨[.ref a],[]⟩) (fun r s'=>r = .ok (.ret (.bool true)) /\ OldK s₁.heap s'.heap /\ s'.os = s₁.os /\ AllBare s'.gens) s₁:=by
  intro H hO hS hok hA hK
  have base_of:∀ {b:Addr} {o:Obj},s₁.heap.get? b = some o -> H b = none -> (Bo s₁.heap H).get? b = some o:=fun e n=>Kc e n
  have noA:∀ {b:Addr} {o:Obj} {es:Array DictEntry} {ep:Nat},s₁.heap.get? b = some o -> o.data = .dict es ep -> H b = none:=fun {b o es ep} e d=>by
   cases q:H b with
   | none=>rfl
   | some u =>
    have e':b = a:=hA b (by rw [q]; simp)
    subst e'
    rw [ha] at e; cases e
    have d':Data.seq vs.toArray _ = Data.dict es ep:=d
    cases d'
  have nsK:∀ {b:Addr} {m:MG},s₁.heap.Ns b m -> (Bo s₁.heap H).Ns b m:=fun {b m} ⟨o,es,ep,e,d,r⟩=>⟨o,es,ep,base_of e (noA e d),d,r⟩
  have hKb:K.In (Bo s₁.heap H):=fun b o e=>base_of (KX b o e) (by
   cases q:H b with
   | none=>rfl
   | some u =>
    have e':b = a:=hA b (by rw [q]; simp)
    subst e'
    rw [hK (by rw [q]; simp)] at e; cases e)
  have hM:Mod K mg (Bo s₁.heap H):=⟨hKb,nsK hns,⟨mb,nsK hb,hbb⟩,let ⟨mc,h1,h2⟩:=hlim; ⟨mc,nsK h1,h2⟩⟩
  have e0:Aw P w K mg (Bo s₁.heap H) callerA [] s₁ H:=⟨rfl,hM,fun b o e=>PX e,le_of_eq (Jv _ _),trivial,fun b hb=>absurd (show b ∈ ([]:List Addr) from hb) Zc,hok,.of_eq hg⟩
  refine codeAny_mono ((F _ hKb (nsK hns)).run callerA [] s₁ H ⟨[.ref a],[]⟩ [.ref a] [.ref a] _ _ hr e0 (hbind s₁ (.ref a)) (.cons rfl .nil) (hsp H hO hS)) fun r s' h=>?_
  cases r with
  | error e=>exact (hCX H e s' h).elim
  | ok fl =>
   cases fl with
   | next=>exact False.elim h
   | brk=>exact False.elim h
   | cont=>exact False.elim h
   | ret u =>
    obtain ⟨v,H',os,bare,un,hok',r',q⟩:=h
    have q':v = .bl true:=q
    subst q'
    obtain rfl:u = Value.bool true:=r'
    refine ⟨rfl,OldK.of_keep fun b o e=>?_,os,bare⟩
    cases q:H b with
    | none=>exact un.keep b o e q (by intro z; exact absurd (show b ∈ ([]:List Addr) from z) Zc) Zc
    | some u =>
     rcases hO b with z | ⟨ob,xs,z⟩
     ·rw [q] at z; cases z
     ·have z2:=un.frzs b ob _ z
      obtain ⟨e1,_⟩:=hok b _ z
      obtain ⟨e2,_⟩:=hok' b _ z2
      rw [e] at e1; cases e1
      exact e2
 cases hk:K.lookup a with
 | some o =>
  have e:=KX a o hk
  rw [ha] at e
  cases e
  refine core (fun _=>none) (fun _=>.inl rfl) (.inr ⟨_,vs.toArray,_,hk,rfl,rfl,rfl,by rw [size_toArray,lenV]; exact hl,by simpa using rv⟩) (fun b u z=>by have z':(none:Option HO) = some u:=z; cases z') (fun b z=>absurd rfl z) fun z=>absurd rfl z
 | none =>
  refine core (fun b=>if b = a then some (.frz { cls:=.type "list",data:=.seq vs.toArray } (.lst (ns.map V.int))) else none) (fun b=>?_) (.inl (.inr ⟨{ cls:=.type "list",data:=.seq vs.toArray },if_pos rfl⟩)) (fun b u z=>?_) (fun b z=>?_) fun _=>hk
  ·by_cases hb:b = a
   ·exact .inr ⟨_,_,if_pos hb⟩
   ·exact .inl (if_neg hb)
  ·by_cases hb:b = a
   ·have z':=(if_pos hb).symm.trans z
    cases z'
    subst hb
    exact ⟨ha,by rw [length_map]; exact hl,vs,_,rv,ha⟩
   ·have z':=(if_neg hb).symm.trans z
    cases z'
  ·by_cases hb:b = a
   ·exact hb
   ·exact absurd (if_neg hb) z
theorem Qd {l:OpenLaw} {n k:Nat} {q:Program} {loose:List Str} {XP:(Str->Option Value)->Heap->Prop} {YP:World->Heap->Prop} {d:DefRec} {K:Params->Frag} {CX:World->CXT} {sp:World->Sp} {x:Str}
  (hn:l.most=some n) (hn2:n<=sizeLine) (hdf:d.params.defaults=[]) (hr:bw k callerA)
  (hY:∀ (w:World) (h:Heap),YP w h->(K w.params).In h)
  (F:∀ (w:World) (mg:MG) (fa:Addr) (h:Heap),(K w.params).In h->h.Ns mainGlobals mg->mg d.name=some (.ref fa) ->
   ∃ fd:FuncData,(∀ (s:Shared) (u:Value),BindsTo s fd ⟨[u],[]⟩ [(x,u)]) /\
    ∀ base:Heap,(K w.params).In base->base.Ns mainGlobals mg->aO l.prog w (K w.params) mg base (CX w) k fa fd [x] (sp w))
  (hsp:∀ (w:World) (H:Hp) (a:Addr) (ns:List Int),ns.length<=n->Only H->SqL (K w.params) H a (ns.map V.int)->sp w [.ref a] H (fun v _=>v=.bl true) fun _ _ _=>False)
  (hCX:∀ (w:World) (H:Hp) (s:Shared) (e:Value) (s':Shared),CX w [] H s (fun _ _ _=>False) e s'->False) :
  WalkO q loose XP YP l.row.toRowW d [] (fun f vs=>PySem.call f vs):=by
 refine Att.attach_call hn hdf fun w s₀ s₁ mg mb fa o pm cd doc a vs ns G Y ho hd hcd hmg hobj hints hlen hg=>?_
 have KX:=hY w _ Y
 obtain⟨fd,hb,hF⟩:=F w mg fa _ KX G.T.g hmg
 exact J0 KX G.T.g G.T.b G.T.builtins G.T.nolimit hg hobj hints (le_trans hlen hn2) hr hF hb (fun H hO hS=>hsp w H a ns hlen hO hS) fun H e s'=>hCX w H s₁ e s'
def eO(s:Stmt):Arguments:=match s with
 | .FunctionDef _ a _ _ _ _ _ _ _ _=>a
 | _=>{posonlyargs:=[],args:=[],vararg:=none,kwonlyargs:=[],kw_defaults:=[],kwarg:=none,defaults:=[]}
def cT(s:Stmt):List Stmt:=match s with
 | .FunctionDef _ _ b _ _ _ _ _ _ _=>b
 | _=>[]
def aC(s:Stmt):Scope:=match s with
 | .FunctionDef _ _ _ _ _ _ sc _ _ _=>sc
 | _=>{kind:=.function,names:=[],isGenerator:=false,isCoroutine:=false}
abbrev CX0:CXT:=fun _ _ _ _ _ _=>False
abbrev E0:XK:=fun _ _ _=>False
theorem vf{X:Cx}:m5 CX0 X E0:=fun _ _ _ _ _ _ _ h=>h.elim
structure Fun(K:Frag)(x qual:Str)(st:Stmt)(f:Addr)(fd:FuncData):Prop where
 ex:∃ (oc:Value) (od:Option Addr) (kV doc pm:Value) (an:Option Addr) (cdv ct:Value) (osl:Array (Option Value)),
  fd=fnOf x qual (eO st) (cT st) (aC st) .none kV doc pm an cdv ct/\K.lookup f=some ⟨oc,od,.func fd,osl⟩/\codeIn K cdv qual=true
 kp:keepIn K (.ref f)=true
section
variable {P:Program} {w:World} {K:Frag} {mg:MG} {base:Heap}
theorem Fun.ok {x qual:Str} {st:Stmt} {f:Addr} {fd:FuncData} {N ps:List Str} {k:Nat} {sp:Sp} (F:Fun K x qual st f fd) (S:aM N ps (aC st)) (len:∀ vs H Q E,sp vs H Q E->vs.length=ps.length)
  (hbody:∀ (cdv:Value) (A:Around) (outer:List Env) (s:Shared) (H:Hp) (vs:List V) (Q:VK) (E:XK),bw k (A.deeper (envOfC qual (aC st) s.heap.objs.size f cdv))->sp vs H Q E ->
   ∃ t,PSs (pO CX0 P w K mg base N qual (aC st) f cdv A outer s H E).nox (cT st) t/\t {nx:=fun _ H'=>Q .non H',rt:=Q} (start N vs) H):aO P w K mg base CX0 (k+1) f fd ps sp:=by
 obtain⟨oc,od,kV,doc,pm,an,cdv,ct,osl,rfl,lk,hcd⟩:=F.ex
 refine QT lk hcd S len fun A outer s H vs Q E hr hsp=>?_
 obtain⟨t,h,q⟩:=hbody cdv A outer s H vs Q E hr hsp
 exact⟨t,h.nox,q⟩
theorem Fun.binds {x qual:Str} {st:Stmt} {f:Addr} {fd:FuncData} {ps:List Str} (F:Fun K x qual st f fd)
  (h:∀ (kV doc pm:Value) (an:Option Addr) (cdv ct:Value) (us:List Value),us.length = ps.length -> bindArgs (fnOf x qual (eO st) (cT st) (aC st) .none kV doc pm an cdv ct) ⟨us,[]⟩ = pure (ps.zip us)):Binds K fd ps []:=by
 obtain ⟨oc,od,kV,doc,pm,an,cdv,ct,osl,rfl,lk,hcd⟩:=F.ex
 exact .all (h kV doc pm an cdv ct)
theorem M7 {x qual:Str} {st:Stmt} {f:Addr} {oc:Value} {od an:Option Addr} {osl:Array (Option Value)} {kV doc pm cdv ct:Value} (l:K.lookup f=some ⟨oc,od,.func (fnOf x qual (eO st) (cT st) (aC st) .none kV doc pm an cdv ct),osl⟩)
  (c:codeIn K cdv qual=true) (k:keepIn K (.ref f)=true):Fun K x qual st f (fnOf x qual (eO st) (cT st) (aC st) .none kV doc pm an cdv ct):=⟨⟨oc,od,kV,doc,pm,an,cdv,ct,osl,rfl,l,c⟩,k⟩
end
section
variable {X:Cx}
theorem pv(i:Nat){x:Str}{pos:Pos}(hN:X.N[i]? = some x:=by rfl)(hv:Vis X.env.scope x:=by first|exact Or.inl rfl|exact Or.inr (Or.inl rfl)|exact Or.inr (Or.inr rfl))(hd:(x==("__debug__" : Str))=false:=by decide)
  (hcd:(x==("__classdict__" : Str))=false:=by decide):PE X (.Name x pos) (xY i):=R9 hN hv hd hcd
end
theorem bH{A B:Prop}(h:B):if false=true then A else B:=by
 rw[if_neg Bool.false_ne_true]
 exact h
theorem pN{A B:Prop}(h:A):if true=true then A else B:=by
 rw[if_pos rfl]
 exact h
def aB(H H':Hp):Prop:=∀ b o,H b=some o->H' b=some o
theorem aB.refl(H:Hp):aB H H:=fun _ _ h=>h
theorem aB.trans{H H1 H2:Hp}(a:aB H H1)(b:aB H1 H2):aB H H2:=fun c o h=>b c o (a c o h)
theorem aB.free{H H':Hp}(e:aB H H'){l:Addr}(h:H' l=Option.none):H l=Option.none:=by
 cases q:H l with
 | none=>rfl
 | some o =>
  rw[e l o q]at h
  cases h
theorem aB.seq {K:Frag} {H H':Hp} {a:Addr} {xs:List V} (e:aB H H') (h:SqL K H a xs):SqL K H' a xs:=by
 rcases h with (h | ⟨o,h⟩) | h
 ·exact .inl (.inl (e _ _ h))
 ·exact .inl (.inr ⟨o,e _ _ h⟩)
 ·exact .inr h
section
variable {κ:Type} [DecidableEq κ]
end
section
variable {P:Program} {w:World} {H:Hp} {h:Heap} {a:Addr}
end
section
variable {X:Cx} {pins:OP} {σ:St} {H:Hp} {s:Shared} {a:Addr} {y v:V} {u r:Value} {o:Option V} {A:Around} {E:EV}
end
section
variable {X:Cx} {pins:OP} {σ:St} {H:Hp} {s:Shared} {a:Addr} {kvs:List (Key×V)} {k:Key} {u:Value} {A:Around} {E:EV}
end
section
variable {X:Cx} {o i e value:Expr} {pos pos' tpos:Pos} {td ty tv:TE}
end
section
variable {X:Cx} {pos:Pos}
end
section
variable {X:Cx} {pins:OP} {σ:St} {H:Hp} {s:Shared} {a:Addr} {y d:V} {u r:Value} {o:Option V} {A:Around} {E:EV}
end
section
variable {X:Cx} {o e f:Expr} {apos cpos:Pos} {td ty tx:TE}
end
section
variable {X:Cx} {pins:OP} {σ:St} {H:Hp} {s:Shared} {a:Addr} {kvs:List (Key×V)} {A:Around} {E:EV}
end
section
variable {X:Cx} {pins:OP} {σ:St} {H:Hp} {s:Shared} {a:Addr} {y:V} {u:Value} {A:Around} {E:EV}
end
end L2
set_option maxHeartbeats 4000000
namespace Mine
open PySem PySem.Builtin PySem.Builtin.Str
theorem cO{a b:Str}(h:a.cps.toList=b.cps.toList):a=b:=by
 cases a;cases b
 exact congrArg Str.mk (Array.toList_inj.mp h)
theorem bZ(a:Str):a.length=a.cps.toList.length:=by simp[Str.length]
theorem bG(a b:Str):(a++b).cps.toList=a.cps.toList++b.cps.toList:=by
 show(a.cps++b.cps).toList=_
 simp
def inter(c:Nat):List (List Nat)->List Nat
 | []=>[]
 | [x]=>x
 | x::y::r=>x++c::inter c (y::r)
theorem bD(c:Nat):∀ ys:List Str,(Str.join ⟨#[c]⟩ ys).cps.toList=inter c (ys.map (·.cps.toList))
 | []=>by simp[Str.join,inter,Str.empty]
 | [x]=>rfl
 | x::y::r=>by
  have ih:=bD c (y::r)
  show((x++(⟨#[c]⟩:Str))++Str.join ⟨#[c]⟩ (y::r)).cps.toList=_
  rw[bG,bG,ih]
  simp[inter]
theorem lr:∀ ys:List Str,(Str.join ⟨#[]⟩ ys).cps.toList=(ys.map (·.cps.toList)).flatten
 | []=>by simp[Str.join,Str.empty]
 | [x]=>by simp[Str.join]
 | x::y::r=>by
  have ih:=lr (y::r)
  show((x++(⟨#[]⟩:Str))++Str.join ⟨#[]⟩ (y::r)).cps.toList=_
  rw[bG,bG,ih]
  simp
theorem Cm{c:Nat}:∀ {x y R S:List Nat},c∉x->c∉y->(R=[]\/∃ r,R=c::r)->(S=[]\/∃ r,S=c::r)->x++R=y++S->x=y/\R=S
 | [],[],R,S,_,_,_,_,h=>⟨rfl,h⟩
 | [],b::y,R,S,_,hy,hR,_,h=>by
  rcases hR with rfl|⟨r,rfl⟩
  ·cases h
  ·have e:c=b:=(List.cons.inj h).1
   exact absurd (by rw[<- e];exact mem_cons_self) hy
 | a::x,[],R,S,hx,_,_,hS,h=>by
  rcases hS with rfl|⟨r,rfl⟩
  ·cases h
  ·have e:a=c:=(List.cons.inj h).1
   exact absurd (by rw[e];exact mem_cons_self) hx
 | a::x,b::y,R,S,hx,hy,hR,hS,h=>by
  obtain⟨e,h'⟩:=List.cons.inj h
  obtain⟨e2,e3⟩:=Cm (x:=x) (y:=y) (fun z=>hx (mem_cons_of_mem _ z)) (fun z=>hy (mem_cons_of_mem _ z)) hR hS h'
  exact⟨by rw[e,e2],e3⟩
theorem rN(c:Nat)(x:List Nat)(r:List (List Nat)):∃ R,inter c (x::r)=x++R/\(R=[]\/∃ q,R=c::q)/\(R=[]↔r=[])/\(∀ q,R=c::q->q=inter c r):=by
 cases r with
 | nil=>exact⟨[],by simp[inter],.inl rfl,Zc,fun q h=>nomatch h⟩
 | cons y r=>exact⟨c::inter c (y::r),rfl,.inr ⟨_,rfl⟩,Zc,fun q h=>(List.cons.inj h).2.symm⟩
theorem yG{c:Nat}:∀ {xs ys:List (List Nat)},(∀ x∈xs,c∉x)->(∀ y∈ys,c∉y)->xs≠[]->ys≠[]->inter c xs=inter c ys->xs=ys
 | [],_,_,_,h,_,_=>absurd rfl h
 | _,[],_,_,_,h,_=>absurd rfl h
 | x::xs,y::ys,hx,hy,_,_,h=>by
  obtain⟨R,e1,f1,g1,q1⟩:=rN c x xs
  obtain⟨S,e2,f2,g2,q2⟩:=rN c y ys
  rw[e1,e2]at h
  obtain⟨a,b⟩:=Cm (hx x mem_cons_self) (hy y mem_cons_self) f1 f2 h
  subst a;subst b
  cases xs with
  | nil =>
   have:ys=[]:=g2.mp (g1.mpr rfl)
   rw[this]
  | cons x' xs' =>
   have hR:R≠[]:=fun z=>by cases g1.mp z
   have hys:ys≠[]:=fun z=>hR (g2.mpr z)
   rcases f1 with z|⟨q,z⟩
   ·exact absurd z hR
   ·have i1:=q1 q z
    have i2:=q2 q z
    rw[yG (fun u hu=>hx u (mem_cons_of_mem _ hu)) (fun u hu=>hy u (mem_cons_of_mem _ hu)) Zc hys (i1.symm.trans i2)]
theorem rm:∀{xs ys:List Str},xs.map (·.cps.toList)=ys.map (·.cps.toList)->xs=ys
 | [],[],_=>rfl
 | [],_::_,h=>by cases h
 | _::_,[],h=>by cases h
 | x::xs,y::ys,h=>by
  obtain⟨a,b⟩:=List.cons.inj h
  rw[cO a,rm b]
theorem dR(x y:Str):Txt.split x y≠[]:=by
 unfold Txt.split
 split
 ·simp
 ·split
  ·simp
  ·intro h
   have:=congrArg List.length h
   rw[length_partsBetween]at this
   simp at this
theorem gk(c:Nat)(ys:List Str)(h0:ys≠[])(hf:∀ y∈ys,c∉y.cps.toList):Txt.split (Str.join ⟨#[c]⟩ ys) ⟨#[c]⟩=ys:=by
 refine rm (yG (c:=c) ?_ ?_ ?_ ?_ ?_)
 ·intro x hx
  obtain⟨z,hz,rfl⟩:=mem_map.mp hx
  exact StrLaws.split_free _ c z hz
 ·intro x hx
  obtain⟨z,hz,rfl⟩:=mem_map.mp hx
  exact hf z hz
 ·intro h;exact dR _ _ (map_eq_nil_iff.mp h)
 ·intro h;exact h0 (map_eq_nil_iff.mp h)
 ·rw[<- bD,<- bD,StrLaws.join_split]
theorem join_snoc(s:Str)(b:Str):∀ xs:List Str,xs≠[]->Str.join s (xs++[b])=Str.join s xs++s++b
 | [],h=>absurd rfl h
 | [x],_=>rfl
 | x::y::r,_=>by
  have ih:=join_snoc s b (y::r) Zc
  show x++s++Str.join s (y::r++[b])=(x++s++Str.join s (y::r))++s++b
  rw[ih]
  apply cO
  simp only[bG,append_assoc]
def tQ:List Int:=[48271,1000003,15485863,32452843,49979687,67867967,86028121,104395301]
def sY:List Int:=[179424673,373587883,573259391,776531401,982451653]
def QL(c k many:Int):Int:=Builtin.bitAnd (c / 2 ^ (1+10*k).toNat) 1023%many
def CZ(c k:Int):Int:=(c / 2%2305843009213693951+1)*(tQ.getD (k%8).toNat 0*sY.getD (k / 8).toNat 0)%2305843009213693951
def Eo(c k:Int):Int:=CZ c k*CZ c k%1000000000039
def Mg(c k many:Int):Int:=(Eo c k+k+1)*(Eo c k / 10007+48271)%67280421310721 / 31%many
def pick(c k many:Int):Int:=if c%2=1/\0<c / 2 ^ (400:Int).toNat then QL c k many else Mg c k many
theorem cH(c k:Int){m:Int}(h:0<m):0<=pick c k m:=by
 unfold pick;split
 ·exact emod_nonneg _ Zb
 ·exact emod_nonneg _ Zb
theorem cI(c k:Int){m:Int}(h:0<m):pick c k m<m:=by
 unfold pick;split
 ·exact emod_lt_of_pos _ h
 ·exact emod_lt_of_pos _ h
theorem Pn(c k:Int):0<=CZ c k:=emod_nonneg _ Za
theorem NZ(c k:Int):CZ c k<2305843009213693951:=emod_lt_of_pos _ Za
theorem Nx(c k:Int):0<=Eo c k:=emod_nonneg _ Za
theorem Pr(c k:Int):Eo c k<1000000000039:=emod_lt_of_pos _ Za
theorem Nm{k:Int}(h0:0<=k)(h1:k<8):tQ[k.toNat]? = some (tQ.getD k.toNat 0)/\0<tQ.getD k.toNat 0/\tQ.getD k.toNat 0<1000000000:=by
 have:∀ n:Fin 8,tQ[n.val]? = some (tQ.getD n.val 0)/\0<tQ.getD n.val 0/\tQ.getD n.val 0<1000000000:=by decide
 exact this ⟨k.toNat,Zb⟩
theorem Py{k:Int}(h0:0<=k)(h1:k<5):sY[k.toNat]? = some (sY.getD k.toNat 0)/\0<sY.getD k.toNat 0/\sY.getD k.toNat 0<1000000000:=by
 have:∀ n:Fin 5,sY[n.val]? = some (sY.getD n.val 0)/\0<sY.getD n.val 0/\sY.getD n.val 0<1000000000:=by decide
 exact this ⟨k.toNat,Zb⟩
theorem Jz{a b:Int}(ha:0<a)(ha':a<1000000000)(hb:0<b)(hb':b<1000000000):0<a*b/\a*b<1000000000000000000:=by
 have h1:=Int.mul_pos ha hb
 have h2:a*b<=1000000000*b:=Int.mul_le_mul_of_nonneg_right Zb Zb
 exact⟨h1,Zb⟩
def S9(c j:Int):Int:=Builtin.bitOr (c / 2 ^ (480*j).toNat) 1
def subB(c j:Int):Int:=(c / 2 / (j+1)+104729*j)*2
def sub(c j:Int):Int:=if c%2=1/\0<c / 2 ^ (480*j+400).toNat then S9 c j else subB c j
def number(c far:Int):Int:=if c%2=1/\0<c / 2 ^ (400:Int).toNat then c / 2 ^ (400:Int).toNat%far else c / 2%far
def letter(c j:Int):Nat:=97+(pick c (31+j) 26).toNat
def qR(c:Int):Nat:=(1+pick c 30 8).toNat
def uO(c:Int):List Nat:=(List.range (qR c)).map fun(j:Nat)=>letter c (j:Int)
def name(c:Int):Str:=⟨(uO c).toArray⟩
theorem GJ(c:Int):1<=qR c:=by unfold qR;have:=cH c 30 (m:=8) Za;omega
theorem GK(c:Int):qR c<=8:=by unfold qR;have:=cI c 30 (m:=8) Za;omega
theorem uY(c:Int):(name c).length=qR c:=by simp[name,uO,Str.length]
structure cX(x:Str):Prop where
 lo:1<=x.length
 hi:x.length<=8
 ok:∀ n∈x.cps.toList,97<=n/\n<=122
theorem Ip(c:Int):cX (name c):=by
 refine⟨by rw[uY];exact GJ c,by rw[uY];exact GK c,fun n hn=>?_⟩
 have hn':n∈uO c:=by simpa [name] using hn
 obtain⟨j,_,rfl⟩:=mem_map.mp hn'
 have h1:=cH c (31+(j:Int)) (m:=26) Za
 have h2:=cI c (31+(j:Int)) (m:=26) Za
 unfold letter
 omega
theorem cX.nodot{x:Str}(h:cX x):46∉x.cps.toList:=fun z=>by have:=h.ok 46 z;omega
def letters:Str:= "abcdefghijklmnopqrstuvwxyz"
theorem wJ{k:Int}(h0:0<=k)(h1:k<26):letters.cps.toList[k.toNat]? = some (97+k.toNat):=by
 have:∀ n:Fin 26,letters.cps.toList[n.val]? = some (97+n.val):=by decide +kernel
 exact this ⟨k.toNat,Zb⟩
theorem Am(c:Int)(n:Nat):Txt.join (⟨#[]⟩:Str) ((List.range n).map fun(j:Nat)=>(⟨#[letter c (j:Int)]⟩:Str))=⟨((List.range n).map fun(j:Nat)=>letter c (j:Int)).toArray⟩:=by
 show glued _ _=_
 rw[StrLaws.glued_eq_join]
 apply cO
 rw[lr,map_map]
 have:∀ l:List Nat,(l.map ((fun x:Str=>x.cps.toList)∘fun(j:Nat)=>(⟨#[letter c (j:Int)]⟩:Str))).flatten=l.map fun(j:Nat)=>letter c (j:Int):=by
  intro l
  induction l with
  | nil=>rfl
  | cons a r ih=>simp only[map_cons,flatten_cons,ih] <;> rfl
 rw[this]
theorem vY:((".": Str))=⟨#[46]⟩:=by decide +kernel
theorem Dk:(("": Str))=⟨#[]⟩:=by decide +kernel
def dotted(ys:List Str):Str:=Txt.join ("." : Str) ys
theorem jm(ys:List Str):dotted ys=Str.join ⟨#[46]⟩ ys:=by
 unfold dotted
 rw[vY]
 exact StrLaws.glued_eq_join _ ys
theorem cZ(ys:List Str)(h0:ys≠[])(hn:∀ y∈ys,cX y):Txt.split (dotted ys) ("." : Str)=ys:=by
 rw[jm,vY]
 exact gk 46 ys h0 fun y hy=>(hn y hy).nodot
theorem pF{ys:List Str}{n:Nat}(h:∀ y∈ys,y.length<=n):(ys.map (·.length)).sum<=ys.length*n:=by
 induction ys with
 | nil=>simp
 | cons y r ih =>
  have h1:=h y mem_cons_self
  have h2:=ih fun z hz=>h z (mem_cons_of_mem _ hz)
  simp only[map_cons,sum_cons,length_cons,Nat.add_mul,Nat.one_mul]
  omega
theorem GD(ys:List Str):(dotted ys).length<=(ys.map (·.length)).sum+ys.length:=by
 rw[jm]
 have:=StrLaws.join_length_le ⟨#[46]⟩ ys
 have e:(⟨#[46]⟩:Str).length=1:=rfl
 rw[e]at this
 omega
end Mine
namespace L2
open PySem PySem.Spec PyProof.Rows
section
variable {X:Cx}
def QK(K:Frag):List V->Hp->VK->Prop:=fun xs H Q=>∃ x t n b,xs=[x,.ty n]/\qU K H x t/\kitOne K t (.type n)=some b/\Q (.bl b) H
theorem b8:iy X (.builtin "isinstance") (QK X.K):=by
 intro pins s σ H xs us Q I r h
 obtain⟨x,t,n,b,rfl,ty,e,q⟩:=h
 obtain⟨u,u2,rfl,rx,ry⟩:=vals2 r
 cases(show u2=Value.type n from ry)
 exact yV I rx ty e fun tk=>⟨.bl b,H,I.tok tk,rfl,q⟩
theorem cB{K:Frag}{n:String}:kitOne K (.type n) (.type n)=some true:=by
 unfold kitOne
 rw[if_pos Zc]
theorem vI {ys:List Str}:∀ {us:List Value},Vals (ys.map V.str) us -> StrsAre us ys:=by
 induction ys with
 | nil=>intro us r; rw [map_nil] at r; cases r; exact .nil
 | cons y ys ih =>
  intro us r
  rw [map_cons] at r
  cases r with
  | cons r1 r2 =>
   obtain ⟨t,e⟩:=r1
   subst e
   exact .cons y t (ih r2)
theorem yN:∀ (l:List (Str×Tok)),Vals ((l.map (·.1)).map V.str) (strValues l)
 | []=>.nil
 | (y,t)::l=>.cons ⟨t,rfl⟩ (yN l)
def rJoin(K:Frag):V->List V->Hp->VK->Prop:=fun x vs H Q=>∃ sep p ys,x=.str sep/\vs=[.ref p]/\(SqL K H p (ys.map V.str)\/SqT K H p (ys.map V.str)) /\
 (ys.map (·.length)).sum+ys.length*sep.length<=16777216/\Q (.str (Txt.join sep ys)) H
theorem gO:MtR X "str.join" (rJoin X.K):=by
 intro pins s σ H x vs v us Q I rx rv h
 obtain⟨sep,p,ys,rfl,rfl,hq,hz,q⟩:=h
 obtain⟨t,rfl⟩:=rx
 obtain⟨u,rfl,ru⟩:=vals1 rv
 cases(show u=Value.ref p from ru)
 rcases hq with hq|hq
 ·obtain⟨its,r,pl,_⟩:=I.list hq
  exact join_list pl.isList (by simpa using vI r) hz fun t' k=>⟨.str _,H,I.tok k,⟨t',rfl⟩,q⟩
 ·obtain⟨its,r,pl,_⟩:=I.tuple hq
  exact join_tuple pl (by simpa using vI r) hz fun t' k=>⟨.str _,H,I.tok k,⟨t',rfl⟩,q⟩
def RG:V->List V->Hp->VK->Prop:=fun x vs H Q=>∃ z sep,x=.str z/\vs=[.str sep]/\(sep.length==0)=false/\z.length+2<=sizeLine /\
 ∀ p,H p=none->Q (.ref p) (upd H p (.lst ((Txt.split z sep).map V.str)))
theorem iD(z sep:Str)(h:z.length+2<=sizeLine):(Txt.split z sep).length<=sizeLine:=by
 unfold Txt.split
 split
 ·simp;omega
 ·split
  ·simp;omega
  ·have e1:=StrLaws.occ_length_le z sep 0 z.length (z.length+1)
   rw[length_partsBetween];omega
theorem dj:MtR X "str.split" RG:=by
 intro pins s σ H x vs v us Q I rx rv h
 obtain⟨z,sep,rfl,rfl,hy,hz,q⟩:=h
 obtain⟨t,rfl⟩:=rx
 obtain⟨u,rfl,ru⟩:=vals1 rv
 obtain⟨t2,rfl⟩:=ru
 have fin:∀ (l:List (Str×Tok)) (k:Nat),l.map (·.1)=Txt.split z sep ->
   EP X pins σ Q (.ref s.heap.objs.size) {s with heap:=s.heap.push {cls:=.type "list",data:=.seq (strValues l).toArray},toks:=k}:=fun l k e=>by
  have hv:=yN l
  rw[e]at hv
  exact⟨.ref s.heap.objs.size,_,I.lnew hv (by rw[length_map];exact iD z sep hz),rfl,q _ I.fresh⟩
 have few:(Builtin.Str.partsBetween z (Builtin.Str.occurrences z sep 0 z.length (z.length+1)) sep.length).length<=sizeLine:=by
  have e1:=StrLaws.occ_length_le z sep 0 z.length (z.length+1)
  rw[length_partsBetween];omega
 cases h1:(decide (z.length<sep.length)||decide (Builtin.Str.strKind z<Builtin.Str.strKind sep))
 ·cases hf:(Builtin.Str.occurrences z sep 0 z.length (z.length+1)).isEmpty
  ·refine call_meets F.slot_str_split (typeIs_str _ _ _) F.entry_str_split (F.args_str_split_2 _ _) (meets_str_split_sep z sep t t2 h1 hy hf Zb few) ?_
   rw[strsFrom_eq]
   exact fin (numbered s.toks _) _ ((numbered_texts _ _).trans (by unfold Txt.split;rw[if_neg (by rw[h1];exact Bool.false_ne_true),if_neg (by rw[hf];exact Bool.false_ne_true)]))
  ·refine call_meets F.slot_str_split (typeIs_str _ _ _) F.entry_str_split (F.args_str_split_2 _ _) (meets_str_split_not_found z sep t t2 h1 hy hf) ?_
   exact fin [(z,t)] s.toks (by unfold Txt.split;rw[if_neg (by rw[h1];exact Bool.false_ne_true),if_pos hf] <;> rfl)
 ·refine call_meets F.slot_str_split (typeIs_str _ _ _) F.entry_str_split (F.args_str_split_2 _ _) (meets_str_split_cannot_occur z sep t t2 h1) ?_
  exact fin [(z,t)] s.toks (by unfold Txt.split;rw[if_pos h1] <;> rfl)
end
theorem Ba{env:Env}:∀ (ns:List (Str×NameKind)) (acc:List (Str×Addr)),(∀ y∈ns,y.2=.free->∃ c,env.cells.lookup y.1=some c)->(∀ p∈acc,env.cells.lookup p.1=some p.2) ->
  ∃ cl:List (Str×Addr),(forIn ns acc fun(y:Str×NameKind) (cs:List (Str×Addr))=>(match y with
   | (name,kind)=>if(kind==NameKind.free)=true then(do let c <- cellOf env name;pure (ForInStep.yield ((name,c)::cs)))else pure (ForInStep.yield cs):Sem (ForInStep (List (Str×Addr)))))=pure cl /\
   (∀ p∈cl,env.cells.lookup p.1=some p.2)/\(∀ p∈acc,p∈cl)/\∀ y∈ns,y.2=.free->∃ c,(y.1,c)∈cl
 | [],acc,_,ha=>⟨acc,rfl,ha,fun _ h=>h,fun _ h=>nomatch h⟩
 | (n,k)::r,acc,hn,ha=>by
  have hr:∀ y∈r,y.2=.free->∃ c,env.cells.lookup y.1=some c:=fun y hy=>hn y (mem_cons_of_mem _ hy)
  by_cases hk:k=NameKind.free
  ·subst hk
   obtain⟨c,hc⟩:=hn (n,.free) mem_cons_self rfl
   have hc':env.cells.lookup n=some c:=hc
   obtain⟨cl,e,h1,h2,h3⟩:=Ba r ((n,c)::acc) hr (fun p hp=>by
    rcases mem_cons.mp hp with rfl|hp
    ·exact hc'
    ·exact ha p hp)
   refine⟨cl,?_,h1,fun p hp=>h2 p (mem_cons_of_mem _ hp),fun y hy hf=>?_⟩
   ·rw[forIn_cons]
    have e1:cellOf env n=pure c:=by unfold cellOf;rw[hc']
    simp only[beq_self_eq_true,if_true,e1,pure_bind]
    exact e
   ·rcases mem_cons.mp hy with rfl|hy
    ·exact⟨c,h2 _ mem_cons_self⟩
    ·exact h3 y hy hf
  ·obtain⟨cl,e,h1,h2,h3⟩:=Ba r acc hr ha
   refine⟨cl,?_,h1,h2,fun y hy hf=>?_⟩
   ·rw[forIn_cons]
    have hb:(k==NameKind.free)=false:=by simpa using hk
    simp only[hb,Bool.false_eq_true,if_false,pure_bind]
    exact e
   ·rcases mem_cons.mp hy with rfl|hy
    ·exact absurd hf hk
    ·exact h3 y hy hf
theorem yQ{α:Type}:∀ {l:List (Str×α)} {x:Str} {c:α},(x,c)∈l->∃ d,l.lookup x=some d
 | [],_,_,h=>nomatch h
 | (y,d)::r,x,c,h=>by
  by_cases e:x=y
  ·subst e;exact⟨d,by simp[lookup_cons]⟩
  ·have hb:(x==y)=false:=by simpa using e
   rcases mem_cons.mp h with z|z
   ·cases z;exact absurd rfl e
   ·obtain⟨d',h'⟩:=yQ z
    exact⟨d',by simp only[lookup_cons,hb];exact h'⟩
theorem Ol{scope:Scope}{env:Env}(h:∀ y∈scope.names,y.2=.free->∃ c,env.cells.lookup y.1=some c) :
  ∃ cl:List (Str×Addr),closureFor scope env=pure cl/\(∀ x c,cl.lookup x=some c->env.cells.lookup x=some c)/\∀ x,(x,NameKind.free)∈scope.names->∃ c,cl.lookup x=some c:=by
 obtain⟨cl,e,h1,_,h3⟩:=Ba (env:=env) scope.names [] h (fun p hp=>nomatch hp)
 refine⟨cl,?_,fun x c q=>h1 (x,c) (PySem.mem_of_lookup q),fun x hx=>?_⟩
 ·simp only[closureFor]
  simp only[bind_pure]
  exact e
 ·obtain⟨c,hc⟩:=h3 (x,.free) hx rfl
  exact yQ hc
def rR(osc sc:Scope)(oN:List Str):List (Option Nat)->List Str->Bool
 | [],[]=>true
 | none::r,_::n=>rR osc sc oN r n
 | some k::r,x::n=>(oN[k]? == some x)&&(sc.names.lookup x==some .free)&&rR osc sc oN r n
 | _,_=>false
theorem wR{osc sc:Scope}{oN:List Str}:∀ {ix:List (Option Nat)} {N:List Str},rR osc sc oN ix N=true->ix.length=N.length
 | [],[],_=>rfl
 | none::_,_::_,h=>congrArg (· + 1) (wR (by simpa [rR] using h))
 | some _::_,_::_,h=>congrArg (· + 1) (wR (by simp[rR]at h;exact h.2))
 | [],_::_,h=>by simp[rR]at h
 | none::_,[],h=>by simp[rR]at h
 | some _::_,[],h=>by simp[rR]at h
theorem Bc{osc sc:Scope}{oN:List Str}:∀ {ix:List (Option Nat)} {N:List Str} (i k:Nat),rR osc sc oN ix N=true->ix[i]? = some (some k)->∃ x,N[i]? = some x/\oN[k]? = some x/\sc.names.lookup x=some .free
 | [],_,_,_,_,e=>by simp at e
 | none::_,[],_,_,h,_=>by simp[rR]at h
 | some _::_,[],_,_,h,_=>by simp[rR]at h
 | none::r,x::n,0,_,_,e=>by simp at e
 | none::r,x::n,i+1,k,h,e=>by
  obtain⟨y,h1,h2⟩:=Bc (ix:=r) (N:=n) i k (by simpa [rR] using h) (by simpa using e)
  exact⟨y,by simpa using h1,h2⟩
 | some j::r,x::n,0,k,h,e=>by
  simp[rR]at h
  simp at e
  subst e
  exact⟨x,Zc,h.1.1,h.1.2⟩
 | some j::r,x::n,i+1,k,h,e=>by
  simp[rR]at h
  obtain⟨y,h1,h2⟩:=Bc (ix:=r) (N:=n) i k h.2 (by simpa using e)
  exact⟨y,by simpa using h1,h2⟩
def pP(osc:Scope)(oN N:List Str)(ix:List (Option Nat))(sc:Scope):Bool :=
 (sc.kind==.function)&&sc.names.all (fun y=>(y.2!=.cell)&&((y.2!=.local)||(sc.names.lookup y.1==some .local))&&((y.2!=.free)||((osc.names.lookup y.1==some .cell)||(osc.names.lookup y.1==some .free))))&&rR osc sc oN ix N
theorem xK{env:Env}:∀ {names:List (Str×NameKind)} {x:Str},names.lookup x=some .free ->
  (names.map fun(n,k)=>if(k==NameKind.free&&env.scope.kind==.function&&env.kindOf n==some .cell)then(n,NameKind.cell)else(n,k)).lookup x=some .cell \/
  (names.map fun(n,k)=>if(k==NameKind.free&&env.scope.kind==.function&&env.kindOf n==some .cell)then(n,NameKind.cell)else(n,k)).lookup x=some .free
 | [],_,h=>by simp at h
 | (n,k)::r,x,h=>by
  have ih:=@xK env r x
  simp only[map_cons]
  cases hx:x==n with
  | true =>
   simp only[lookup_cons,hx]at h
   cases h
   by_cases hc:(NameKind.free==NameKind.free&&env.scope.kind==.function&&env.kindOf n==some .cell)=true
   ·left;rw[if_pos hc];simp only[lookup_cons,hx]
   ·right;rw[if_neg hc];simp only[lookup_cons,hx]
  | false =>
   simp only[lookup_cons,hx]at h
   by_cases hc:(k==NameKind.free&&env.scope.kind==.function&&env.kindOf n==some .cell)=true
   ·rw[if_pos hc];simp only[lookup_cons,hx];exact ih h
   ·rw[if_neg hc];simp only[lookup_cons,hx];exact ih h
theorem xZ{env:Env}:∀ {names:List (Str×NameKind)} {x:Str},(∀ y∈names,y.2≠NameKind.cell) ->
  ((names.map fun(n,k)=>if(k==NameKind.free&&env.scope.kind==.function&&env.kindOf n==some .cell)then(n,NameKind.cell)else(n,k)).lookup x=some .cell \/
  (names.map fun(n,k)=>if(k==NameKind.free&&env.scope.kind==.function&&env.kindOf n==some .cell)then(n,NameKind.cell)else(n,k)).lookup x=some .free)->(x,NameKind.free)∈names
 | [],_,_,h=>by simp at h
 | (n,k)::r,x,hn,h=>by
  have ih:=@xZ env r x fun y hy=>hn y (mem_cons_of_mem _ hy)
  simp only[map_cons]at h
  by_cases hc:(k==NameKind.free&&env.scope.kind==.function&&env.kindOf n==some .cell)=true
  ·rw[if_pos hc]at h
   cases hx:x==n with
   | true =>
    have e:x=n:=by simpa using hx
    have e2:k=NameKind.free:=by simp at hc;exact hc.1.1
    subst e;subst e2
    exact mem_cons_self
   | false =>
    simp only[lookup_cons,hx]at h
    exact mem_cons_of_mem _ (ih h)
  ·rw[if_neg hc]at h
   cases hx:x==n with
   | true =>
    have e:x=n:=by simpa using hx
    subst e
    simp only[lookup_cons,hx]at h
    rcases h with h|h
    ·cases h;exact absurd rfl (hn (x,.cell) mem_cons_self)
    ·cases h;exact mem_cons_self
   | false =>
    simp only[lookup_cons,hx]at h
    exact mem_cons_of_mem _ (ih h)
def blk(X:Cx)(N:List Str)(sc:Scope)(cl:List (Str×Addr))(C:Addr)(fp:List Addr)(s:Shared)(H:Hp):Cx :=
 {X with N:=N,s₀:=s,H₀:=H,env:=compEnvC sc cl C X.env,outer:=X.stack,ex:=fp,fn:=fun _=>false,pn:=[],xe:=fun _ _=>False}
def lift(ix:List (Option Nat))(σ:St):St:=ix.map fun o=>o.bind fun k=>(σ[k]?).bind id
def PF(X:Cx)(ifs:List Expr)(t:TT):Prop :=
 ∀ (pins:OP) (s:Shared) (σ:St) (H:Hp) (Q:Bool->Hp->Prop),Inv X pins σ H s->t σ H Q ->
  wpAny (model X.prog X.w) X.A (forIn ifs true fun c r=>if r=true then do let ok <- isTrue c X.env (eval c X.env);pure (ForInStep.yield ok)else pure (ForInStep.yield r)) (TP X pins σ Q) X.xe s
def qW:TT:=fun _ H Q=>Q true H
theorem cY{X:Cx}:PF X [] qW:=fun pins s σ H Q I h=>wpAny_tests_nil ⟨H,I,h⟩
theorem Fz{X:Cx}{c:Expr}{t:TT}(hc:PT X c t):PF X [c] t:=fun pins s σ H Q I h=>wpAny_tests_one (hc pins s σ H Q I h)
def mF(g:TG)(tf:TT)(te:TE)(J:It)(σ0:St)(H1:Hp)(Fin:List V->Hp->Prop):Prop :=
 ∃ W:Nat->Nat->St->List V->Hp->Prop,(∃ m,W 0 m σ0 [] H1)/\∀ i m τ ys H,W i m τ ys H ->
  (J.stop i H/\Fin ys H)\/(J.go i H/\∀ x H',J.yld i H x H'->g x τ H' fun τ2 H2=>tf τ2 H2 fun b H3 =>
   if b=true then te τ2 H3 fun y H4=>ys.length<sizeLine/\∃ m',m'<m/\W (i+1) m' τ2 (ys++[y]) H4 else ∃ m',m'<m/\W (i+1) m' τ2 ys H3)
def HX(ix:List (Option Nat))(wi:TI)(g:TG)(tf:TT)(te:TE):TE:=fun σ H Q=>wi σ H fun J H1=>mF g tf te J (lift ix σ) H1 fun ys H'=>∀ p,H' p=none->Q (.ref p) (upd H' p (.lst ys))
theorem TF {P:Program} {w:World} {A:Around} {R:Result->Shared->Prop} {s:Shared} {el tg src:Expr} {fs:List Expr} {sc:Scope} {ps:Pos} {iv ac:Value} {en:Env} (J:Nat->Shared->Prop)
  (turn:∀ n s,J n s->wpAny (model P w) A (pyNext iv) (fun r s1=>match r with
   | none=>R (.ok .next) s1
   | some v=>wpAny (model P w) A (letOwnedTupleGo tg iv v) (fun _ s2=>wpAny (model P w) A (assign tg en v) (fun _ s3 =>
     wpAny (model P w) A (forIn fs true fun c r=>if r=true then do let ok <- isTrue c en (eval c en);pure (ForInStep.yield ok)else pure (ForInStep.yield r)) (fun ok s4 =>
      if ok=true then wpAny (model P w) A (eval el en) (fun x s5=>wpAny (model P w) A (call (.builtin "list.append") [ac,x]) (fun _ s6=>∃ m,m<n/\J m s6) (fun _ _=>False) s5) (fun _ _=>False) s4
      else ∃ m,m<n/\J m s4) (fun _ _=>False) s3) (fun _ _=>False) s2) (fun _ _=>False) s1) (fun _ _=>False) s)
  (n:Nat) (h:J n s):codeAny (model P w) A (.compLoop (.ListComp el [⟨tg,src,fs,0⟩] sc ps) 0 iv ac en) R s:=by
 have ab:∀ {α:Type} {t:Sem α} {Q Q':α->Shared->Prop} {E:EV} {s:Shared},wpAny (model P w) A t Q (fun _ _=>False) s->(∀ a s,Q a s->Q' a s)->wpAny (model P w) A t Q' E s :=
  fun h hq=>wpAny_mono h hq fun _ _ f=>f.elim
 refine codeAny_loop rfl J (fun n s hJ=>?_) n h
 show wpAny _ A ((compTurn (.ListComp el [⟨tg,src,fs,0⟩] sc ps) 0 iv ac en).onRaise (fun x=>do noteFrame x en;theTreesLotGoes x)) _ _ s
 refine wpAny_noted ?_
 rw[compTurn_list]
 refine wpAny_bind (wpAny_standAt (wpAny_bind (ab (turn n s hJ) fun r s1 h1=>?_)))
 cases r with
 | none=>exact wpAny_pure h1
 | some v =>
  refine wpAny_bind (ab h1 fun _ s2 h2=>wpAny_bind (ab h2 fun _ s3 h3=>wpAny_bind (ab h3 fun ok s4 h4=>?_)))
  cases ok with
  | false=>exact wpAny_pure ⟨rfl,h4⟩
  | true=>exact wpAny_bind (wpAny_bind (ab h4 fun x s5 h5=>wpAny_bind (ab h5 fun _ s6 h6=>wpAny_pure (wpAny_pure ⟨rfl,h6⟩))))
section
variable {X:Cx} {pins:OP} {σ:St} {H2:Hp} {s2:Shared} {N:List Str} {ix:List (Option Nat)} {sc:Scope} {cl:List (Str×Addr)}
theorem Q9(I:Inv X pins σ H2 s2)(hb:pP X.env.scope X.N N ix sc=true)(c1:∀ x c,cl.lookup x=some c->X.env.cells.lookup x=some c)(c2:∀ x,(x,NameKind.free)∈sc.names->∃ c,cl.lookup x=some c)
  {fp:List Addr}(hf:∀ b∈fp,wU X pins H2 b)(hfo:∀ b∈fp,∃ o,s2.heap.get? b=some o){C:Addr}(hC:s2.heap.objs.size<=C):(blk X N sc cl C fp s2 H2).Ok:=by
 unfold pP at hb
 simp only[and_eq_true]at hb
 obtain⟨⟨hk,hn⟩,hi⟩:=hb
 have nocell:∀ y∈sc.names,y.2≠NameKind.cell:=fun y hy=>by
  have:=all_eq_true.mp hn y hy
  simp only[and_eq_true]at this
  simpa using this.1.1
 refine⟨I.ok.mod,?_,I.ok.glob,I.ok.blt,hC,fun x y c h1 h2=>I.ok.inj x y c (c1 x c h1) (c1 y c h2),fun x hx=>?_,fun x c hx=>?_,I.ok.hd,I.ok.frames,.inl rfl,fun b hb=>⟨?_,fun x c h=>?_⟩,I.bs,le_trans I.ok.bsz I.sz,fun b o e hb=>?_,fun b hb hs=>?_,I.stack,I.stkFree⟩
 ·show(relabel sc X.env).kind=.function
  exact eq_of_beq hk
 ·exact c2 x (xZ nocell hx)
 ·cases hx
 ·show b≠C
  obtain⟨o,e⟩:=hfo b hb
  exact ne_of_lt (lt_of_lt_of_le (Heap.lt_size e) hC)
 ·obtain⟨_,_,_,_,h5,_⟩:=hf b hb
  exact h5 x c (c1 x c h)
 ·obtain⟨_,_,_,h4,_,_⟩:=hf b hb
  rcases h4 with h4|h4
  ·exact I.ok.noex b o e h4
  ·exact absurd (lt_of_lt_of_le (Heap.lt_size (I.ok.bs b o e).1) h4) (lt_irrefl _)
 ·obtain⟨_,h2,h3,_⟩:=hf b hb
  rcases mem_cons.mp (I.stkSub b hs)with z|z
  ·exact h2 z
  ·exact h3 z
theorem Un.grow{fs ex:List Addr}{H H':Hp}{h h':Heap}{D:Addr}{o:HO}(u:Un fs ex H H' h h')(hD:h.objs.size<=D)(hn:H D=none):Un fs ex H (upd H' D o) h h':=by
 have lt:∀ {b:Addr} {ob:Obj},h.get? b=some ob->b≠D:=fun e z=>by
  subst z;exact absurd (lt_of_lt_of_le (Heap.lt_size e) hD) (lt_irrefl _)
 refine⟨u.keep,u.slot,fun b ob e n hx=>by rw[aQ (lt e)];exact u.free b ob e n hx,u.there,fun b xs e=>?_,fun b ob v e=>?_,fun b ps e=>?_⟩
 ·rw[aQ (aK e hn)];exact u.tups b xs e
 ·rw[aQ (aK e hn)];exact u.frzs b ob v e
 ·obtain⟨m,q⟩:=u.tbls b ps e
  exact⟨m,by rw[aQ (aK e hn)];exact q⟩
theorem HOk.grow{P:Program}{w:World}{H:Hp}{h:Heap}{D:Addr}{o:HO}(x:HOk P w H h)(hn:H D=none)(new:dB P w (upd H D o) h D o):HOk P w (upd H D o) h:=fun b u e=>by
 by_cases hb:b=D
 ·subst hb;rw[ak]at e;cases e;exact new
 ·rw[aQ hb]at e
  exact(x b u e).stay (fun _ _ _ q=>q) (fun c q=>by rw[aQ (aK q hn)];exact q) fun c xs q=>by rw[aQ (aK q hn)];exact q
theorem N8{ix:List (Option Nat)}{σ:St}{i:Nat}{v:V}(h:(lift ix σ)[i]? = some (some v)):∃ k,ix[i]? = some (some k)/\σ[k]? = some (some v):=by
 unfold lift at h
 rw[getElem?_map]at h
 cases e:ix[i]? with
 | none=>rw[e]at h;cases h
 | some o =>
  rw[e]at h
  cases o with
  | none=>simp at h
  | some k =>
   refine⟨k,rfl,?_⟩
   simp only[Option.map_some,bind_some,Option.some.injEq]at h
   cases q:σ[k]? with
   | none=>rw[q]at h;cases h
   | some z=>rw[q]at h;have h':z=some v:=h;rw[h']
theorem zq {el tg src:Expr} {ifs:List Expr} {pos:Pos} {g:TG} {tf:TT} {te:TE} {J:It} {fp:List Addr} {it:Addr} {tn:Nat -> Heap -> Prop} {E:EV} {Fin:List V -> Hp -> Prop} {RR:Value -> Addr -> Result -> Shared -> Prop}
  (I:Inv X pins σ H2 s2) (hc:X.calm = true) (hb:pP X.env.scope X.N N ix sc = true) (c1:∀ x c,cl.lookup x = some c -> X.env.cells.lookup x = some c) (c2:∀ x,(x,NameKind.free) ∈ sc.names -> ∃ c,cl.lookup x = some c)
  (T:Turn X.prog X.w X.K tg J fp it tn) (st:tn 0 s2.heap) (hf:∀ b ∈ fp,wU X pins H2 b)
  (hg:∀ C fp,PG (blk X N sc cl C fp s2 H2) tg g) (hfs:∀ C fp,PF (blk X N sc cl C fp s2 H2) ifs tf) (he:∀ C fp,PE (blk X N sc cl C fp s2 H2) el te)
  (hW:mF g tf te J (lift ix σ) H2 Fin)
  (hRR:∀ D C s' ys H',H' D = none -> (∃ m,s'.heap.Ns C m) -> Inv X pins σ (upd H' D (.lst ys)) s' -> wU X pins (upd H' D (.lst ys)) C -> Fin ys H' -> RR (.ref D) C (.ok .next) s') :
  wpAny (model X.prog X.w) X.A (newList []) (fun acc s3=>wpAny (model X.prog X.w) X.A (newFunctionEnv sc X.env.globals cl [] X.env.qual none .none (some X.env)) (fun cenv s4 =>
   codeAny (model X.prog X.w) X.A (.compStart (.ListComp el [⟨tg,src,ifs,0⟩] sc pos) 0 (.ref it) acc { cenv with scope:=relabel sc X.env }) (RR acc cenv.locals) s4) E s3) E s2:=by
 obtain ⟨W,⟨m0,w0⟩,turn⟩:=hW
 have hb':=hb
 unfold pP at hb'
 simp only [and_eq_true] at hb'
 obtain ⟨⟨hk,hn⟩,hi⟩:=hb'
 have nocell:∀ y ∈ sc.names,y.2 ≠ NameKind.cell:=fun y hy=>by
  have:=all_eq_true.mp hn y hy
  simp only [and_eq_true] at this
  simpa using this.1.1
 have hkind:sc.kind = .function:=eq_of_beq hk
 refine wpAny_newObj_type (wpAny_newFunctionEnv nocell (by intro y hy; simp at hy) (fun h1 hns hsb=>?_) hkind)
 dsimp only at hns hsb ⊢
 generalize hP:s2.heap.push { cls:=.type "list",dict:=none,data:=.seq ([]:List Value).toArray } = P2 at hns hsb ⊢
 have hC:P2.objs.size = s2.heap.objs.size + 1:=by rw [<- hP,Heap.size_push]
 have hDC:s2.heap.objs.size ≠ P2.objs.size:=by rw [hC]; exact ne_of_lt (Nat.lt_succ_self _)
 have hCle:s2.heap.objs.size <= P2.objs.size:=by rw [hC]; omega
 have fpo:∀ b ∈ fp,∃ o,s2.heap.get? b = some o:=fun b hb=>let ⟨o,e,_⟩:=T.obj _ _ st b hb; ⟨o,e⟩
 have old:∀ b o,s2.heap.get? b = some o -> h1.get? b = some o:=fun b o e=>by
  refine (hsb.2 b ?_).trans (Heap.get?_push_of_some _ (hP ▸ Heap.get?_push_of_some _ e))
  rw [hC]; exact ne_of_lt (Nat.lt_succ_of_lt (Heap.lt_size e))
 have hacc:h1.get? s2.heap.objs.size = some { cls:=.type "list",dict:=none,data:=.seq ([]:List Value).toArray } :=
  (hsb.2 _ hDC).trans (Heap.get?_push_of_some _ (hP ▸ Heap.get?_push_size _ rfl))
 have bok:(blk X N sc cl P2.objs.size fp s2 H2).Ok:=Q9 I hb c1 c2 hf fpo hCle
 have frD:∀ {b:Addr},s2.heap.objs.size <= b -> b ∉ frs X.stack:=fun hb hz=>by
  rcases mem_cons.mp (I.stkSub _ hz) with z | z
  ·exact absurd (z ▸ hb) (Nat.not_le.mpr I.lt)
  ·exact I.nofs hb z
 have cellD:∀ x c,cl.lookup x = some c -> c < s2.heap.objs.size:=fun x c e=>by
  obtain ⟨v,q⟩:=I.cell x c (c1 x c e)
  exact q.lt
 have I0:Inv (blk X N sc cl P2.objs.size fp s2 H2) [(s2.heap.objs.size,{ cls:=.type "list",dict:=none,data:=.seq ([]:List Value).toArray })] (lift ix σ) H2 { s2 with heap:=h1,toks:=s2.toks + ([]:List (Str × Value)).length }:=by
  refine ⟨bok,rfl,I.bare,Un.kept old,⟨_,hns,fun i x v e1 e2 e3=>?_⟩,fun x c e=>?_,I.hok.fresh hCle,fun x c e=>I.freeC x c (c1 x c e),fun p hp=>?_,I.hok.kept old,?_⟩
  ·obtain ⟨k,q1,q2⟩:=N8 e2
   obtain ⟨y,z1,z2,z3⟩:=Bc i k hi q1
   have e1':N[i]? = some x:=e1
   rw [e1'] at z1
   cases z1
   have hin:(x,NameKind.free) ∈ sc.names:=PySem.mem_of_lookup z3
   obtain ⟨c,hcl⟩:=c2 x hin
   have okind:X.env.scope.names.lookup x = some .cell \/ X.env.scope.names.lookup x = some .free:=by
    have:=all_eq_true.mp hn _ hin
    simp only [and_eq_true] at this
    simpa using this.2
   obtain ⟨m,hm,hl⟩:=I.loc
   obtain ⟨u,r,l⟩:=hl k x v z2 q2 (by rcases okind with z | z; exact .inr (.inl z); exact .inr (.inr z))
   refine ⟨u,r,.inr ⟨xK z3,c,hcl,?_⟩⟩
   rcases l with ⟨lk,_⟩ | ⟨_,c',hc',z⟩
   ·have lk':X.env.scope.names.lookup x = some .local:=lk
    rcases okind with q | q <;> rw [q] at lk' <;> cases lk'
   ·rw [c1 x c hcl] at hc'
    cases hc'
    obtain ⟨oc,ho,hd⟩:=z
    exact ⟨oc,old _ _ ho,hd⟩
  ·obtain ⟨v,oc,ho,hd⟩:=I.cell x c (c1 x c e)
   exact ⟨v,oc,old _ _ ho,hd⟩
  ·have hp':p = (s2.heap.objs.size,{ cls:=.type "list",dict:=none,data:=.seq ([]:List Value).toArray }):=by
    rcases mem_append.mp hp with z | z
    ·exact absurd (show p ∈ ([]:OP) from z) Zc
    ·simpa using z
   subst hp'
   exact ⟨hacc,I.fresh,hDC,frD (le_refl _),fun v z=>by cases z⟩
  ·show (lift ix σ).length = N.length
   unfold lift
   rw [length_map]
   exact wR hi
 have stat:∀ {o:Obj} {H':Hp},(∀ b ∈ fp,H' b = none) -> ∀ b ∈ fp,wU (blk X N sc cl P2.objs.size fp s2 H2) [(s2.heap.objs.size,o)] H' b:=fun {o H'} hz b hb=>by
  obtain ⟨_,g2,g3,g4,g5,g6⟩:=hf b hb
  obtain ⟨ob,eb⟩:=fpo b hb
  have lb:=Heap.lt_size eb
  refine ⟨hz b hb,?_,?_,.inl hb,fun x c e=>g5 x c (c1 x c e),fun p hp=>?_⟩
  ·show b ≠ P2.objs.size
   rw [hC]; exact ne_of_lt (Nat.lt_succ_of_lt lb)
  ·intro hz
   rcases mem_cons.mp (I.stkSub b hz) with z | z
   ·exact g2 z
   ·exact g3 z
  ·have hp':p = (s2.heap.objs.size,o):=by
    rcases mem_append.mp hp with z | z
    ·exact absurd (show p ∈ ([]:OP) from z) Zc
    ·simpa using z
   subst hp'
   show s2.heap.objs.size ≠ b
   exact ne_of_gt lb
 have loop:∀ s4:Shared,s4 = { s2 with heap:=h1,toks:=s2.toks + ([]:List (Str × Value)).length } ->
   codeAny (model X.prog X.w) X.A (.compLoop (.ListComp el [⟨tg,src,ifs,0⟩] sc pos) 0 (.ref it) (.ref s2.heap.objs.size) (compEnvC sc cl P2.objs.size X.env)) (RR (.ref s2.heap.objs.size) P2.objs.size) s4:=by
  rintro s4 rfl
  refine TF (fun n s'=>∃ (i:Nat) (τ:St) (ys:List V) (its:List Value) (k:Nat) (H':Hp),Vals ys its /\ ys.length <= sizeLine /\
    Inv (blk X N sc cl P2.objs.size fp s2 H2) [(s2.heap.objs.size,{ cls:=.type "list",data:=.seq its.toArray k })] τ H' s' /\ tn i s'.heap /\ (∀ b ∈ fp,H' b = none) /\ W i n τ ys H') ?_ m0
   ⟨0,_,[],[],0,H2,.nil,zero_le _,I0,T.keep _ _ _ st fun b _ o e=>old b o e,fun b hb=>(hf b hb).1,w0⟩
  rintro n s5 ⟨i,τ,ys,its,k,H5,rv,hz,I5,st5,fr5,w5⟩
  rcases turn i n τ ys H5 w5 with ⟨stop,fin⟩ | ⟨go,step⟩
  ·refine thn (T.done (blk X N sc cl P2.objs.size fp s2 H2) rfl rfl rfl hc i _ s5 τ H5 (fun _ _=>False) I5 (stat fr5) st5 stop) fun r s6 ⟨hr,I6⟩=>?_
   subst hr
   obtain ⟨m,hns6,_⟩:=I6.loc
   obtain ⟨gD,fD,_,_,_⟩:=I6.pin (s2.heap.objs.size,{ cls:=.type "list",data:=.seq its.toArray k }) (mem_append_right _ Zc)
   have fD':H5 s2.heap.objs.size = none:=fD
   refine hRR _ _ s6 ys H5 fD' ⟨m,hns6⟩ ?_ (I.fpOk hCle ?_) fin
   ·refine I.call' (ch:=fp) I6.os (Un.grow I6.base (le_refl _) I.fresh) (HOk.grow I6.hok fD' ⟨hz,its,k,rv,gD⟩) I6.bare fun b hb=>?_
    obtain ⟨_,g2,_,g4,g5,g6⟩:=hf b hb
    exact ⟨g4,g2,g5,g6⟩
   ·rw [aQ (Ne.symm hDC)]
    exact I6.free
  ·refine thn (T.item (blk X N sc cl P2.objs.size fp s2 H2) rfl rfl rfl hc i _ s5 τ H5 (fun _ _=>False) I5 (stat fr5) st5 go) fun r s6 ⟨u,hr,h6⟩=>?_
   subst hr
   refine thn h6 fun _ s7 ⟨x,H7,I7,r7,y7,st7,fr7⟩=>?_
   have I7':=I7.pinned (stat fr7) (T.obj _ _ st7)
   refine thn (hg _ _ _ s7 τ H7 x u _ I7' r7 (step x H7 y7)) fun _ s8 ⟨τ8,H8,I8,q8⟩=>?_
   refine thn (hfs _ _ _ s8 τ8 H8 _ I8 q8) fun ok s9 ⟨H9,I9,q9⟩=>?_
   have tail:∀ {s':Shared} {τ':St} {H':Hp},Inv (blk X N sc cl P2.objs.size fp s2 H2) ([(s2.heap.objs.size,{ cls:=.type "list",data:=.seq its.toArray k })] ++ xR fp s7.heap) τ' H' s' ->
     (s'.heap.get? s2.heap.objs.size = some { cls:=.type "list",data:=.seq its.toArray k } /\ H' s2.heap.objs.size = none) /\ (∀ b ∈ fp,∀ o,s7.heap.get? b = some o -> s'.heap.get? b = some o) /\ ∀ b ∈ fp,H' b = none:=fun {s' τ' H'} I'=>by
    refine ⟨?_,fun b hb o e=>(I'.pin (b,o) (mem_append_right _ (mem_append_right _ (o7 hb e)))).1,fun b hb=>?_⟩
    ·obtain ⟨a1,a2,_⟩:=I'.pin (s2.heap.objs.size,{ cls:=.type "list",data:=.seq its.toArray k }) (mem_append_right _ (mem_append_left _ Zc))
     exact ⟨a1,a2⟩
    ·obtain ⟨o,e,_⟩:=T.obj _ _ st7 b hb
     exact (I'.pin (b,o) (mem_append_right _ (mem_append_right _ (o7 hb e)))).2.1
   cases ok with
   | false =>
    obtain ⟨m',hm,w9⟩:=q9
    obtain ⟨_,k2,k3⟩:=tail I9
    exact ⟨m',hm,i + 1,τ8,ys,its,k,H9,rv,hz,I9.unpinned,T.keep _ _ _ st7 k2,k3,w9⟩
   | true =>
    refine thn (he _ _ _ s9 τ8 H9 _ I9 q9) fun v s10 ⟨y,H10,I10,r10,hl,m',hm,w10⟩=>?_
    obtain ⟨⟨gD,fD⟩,k2,k3⟩:=tail I10
    have hlen:=rv.length
    refine call_meets F.slot_list_append ⟨_,gD,rfl⟩ F.entry_list_append (F.args_list_append_2 _ _) (PySem.list_append s2.heap.objs.size its.toArray k v (by rw [size_toArray]; omega)) ⟨gD,?_⟩
    obtain ⟨k',q⟩:∃ k',(s10.heap.update s2.heap.objs.size (Obj.mapSeq (·.push v))).get? s2.heap.objs.size = some { cls:=.type "list",data:=.seq (its ++ [v]).toArray k' }:=by
     have q:=PySem.IsL.update gD (·.push v)
     rw [show (its.toArray.push v) = (its ++ [v]).toArray from by simp] at q
     exact ⟨_,q⟩
    have other:∀ b o,b ≠ s2.heap.objs.size -> s10.heap.get? b = some o -> (s10.heap.update s2.heap.objs.size (Obj.mapSeq (·.push v))).get? b = some o:=fun b o hb e=>(Heap.get?_update_other s10.heap _ (Ne.symm hb)).trans e
    have Ia:Inv (blk X N sc cl P2.objs.size fp s2 H2) [] τ8 H10 { s10 with heap:=s10.heap.update s2.heap.objs.size (Obj.mapSeq (·.push v)),toks:=s10.toks } :=
     (I10.pins_of (pins':=[]) fun p hp=>nomatch hp).turned other fD hDC (.inr (le_refl _)) (fun x c e=>ne_of_lt (cellD x c e)) fun p hp=>absurd (show p ∈ ([]:OP) from hp) Zc
    refine ⟨m',hm,i + 1,τ8,ys ++ [y],its ++ [v],k',H10,rv.append (.cons r10 .nil),by rw [length_append,List.length_singleton]; omega,?_,T.keep _ _ _ st7 fun b hb o e=>?_,k3,w10⟩
    ·refine Ia.pins_of fun p hp=>?_
     have hp':=mem_singleton.mp hp
     subst hp'
     exact ⟨q,fD,hDC,frD (le_refl _),fun v z=>by cases z⟩
    ·obtain ⟨ob,eb⟩:=fpo b hb
     exact other b o (ne_of_lt (Heap.lt_size eb)) (k2 b hb o e)
 exact codeAny_compStart_list (loop _ rfl) (T.self X.A 0 _ _ _ (T.keep _ _ _ st fun b _ o e=>old b o e) (loop _ rfl))
end
section
variable {X:Cx} {N:List Str} {ix:List (Option Nat)} {sc:Scope} {el tg src:Expr} {ifs:List Expr} {wi:TI} {g:TG} {tf:TT} {te:TE} {pos:Pos}
theorem Inv.clos{pins:OP}{σ:St}{H:Hp}{s:Shared}(I:Inv X pins σ H s)(hb:pP X.env.scope X.N N ix sc=true) :
  ∃ cl:List (Str×Addr),closureFor sc X.env=pure cl/\(∀ x c,cl.lookup x=some c->X.env.cells.lookup x=some c)/\∀ x,(x,NameKind.free)∈sc.names->∃ c,cl.lookup x=some c:=by
 refine Ol fun y hy hf=>I.ok.has y.1 ?_
 unfold pP at hb
 simp only[and_eq_true]at hb
 have:=all_eq_true.mp hb.1.2 y hy
 simp only[and_eq_true]at this
 have h2:=this.2
 rw[hf]at h2
 have h3:X.env.scope.names.lookup y.1=some .cell\/X.env.scope.names.lookup y.1=some .free:=by simpa using h2
 exact h3
theorem yZ(hb:pP X.env.scope X.N N ix sc=true):sc.kind=.function/\∀ y∈sc.names,y.2=.local->sc.names.lookup y.1=some .local:=by
 unfold pP at hb
 simp only[and_eq_true]at hb
 refine⟨eq_of_beq hb.1.1,fun y hy hl=>?_⟩
 have:=all_eq_true.mp hb.1.2 y hy
 simp only[and_eq_true]at this
 have h2:=this.1.2
 rw[hl]at h2
 simpa using h2
theorem cJ(ix:List (Option Nat))(hc:X.calm=true)(hb:pP X.env.scope X.N N ix sc=true)(hi:PI X tg src wi)
  (hg:∀ cl C fp s H,PG (blk X N sc cl C fp s H) tg g)(hf:∀ cl C fp s H,PF (blk X N sc cl C fp s H) ifs tf)(he:∀ cl C fp s H,PE (blk X N sc cl C fp s H) el te)
  (hs:∀ x,foldedSetIterable src X.env x=pure x:=by intro _;rfl):PE X (.ListComp el [⟨tg,src,ifs,0⟩] sc pos) (HX ix wi g tf te):=by
 intro pins s σ H Q I h
 obtain⟨cl,hcl,c1,c2⟩:=I.clos hb
 obtain⟨hk,hn⟩:=yZ hb
 rw[eval_ListComp]
 refine wpAny_comprehension_free (use:=none) rfl hs hcl hk hn (thn (hi pins s σ H _ I h) fun xv s1 h1=>thn h1 fun itv s2 h2=>?_)
 obtain⟨it,fp,tn,J,H2,rfl,I2,T,st,f2,hW⟩:=h2
 refine zq (RR:=fun acc C=>compPost (model X.prog X.w) X.A X.xe none (EP X pins σ Q) acc C) I2 hc hb c1 c2 T st f2 (fun C fp=>hg cl C fp s2 H2) (fun C fp=>hf cl C fp s2 H2) (fun C fp=>he cl C fp s2 H2) hW ?_
 intro D C s' ys H' hD ⟨m,hm⟩ I' fC fin
 refine⟨m,hm,fun h' hs'=>⟨.ref D,_,?_,rfl,fin D hD⟩⟩
 obtain⟨g1,g2,_,g4,g5,g6⟩:=fC
 exact I'.turned (t':=s'.toks) (fun b o hb e=>(hs'.2 b hb).trans e) g1 g2 g4 g5 g6
theorem NK (ix:List (Option Nat)) {i:Nat} {x:Str} {pos' spos:Pos} (hN:X.N.Nodup) (hxi:X.N[i]? = some x) (hx:Loc X.env.scope x) (hc:X.calm = true) (hb:pP X.env.scope X.N N ix sc = true) (hi:PI X tg src wi)
  (hg:∀ cl C fp s H,PG (blk X N sc cl C fp s H) tg g) (hf:∀ cl C fp s H,PF (blk X N sc cl C fp s H) ifs tf) (he:∀ cl C fp s H,PE (blk X N sc cl C fp s H) el te)
  (hsw:swapsWith (.ListComp el [⟨tg,src,ifs,0⟩] sc pos) (some (.Name x pos')) spos.line X.env = pure true:=by rfl)
  (hfn:X.fn x = true \/ X.env.scope.names.lookup x = some .local:=by first | exact .inl rfl | exact .inr rfl | assumption)
  (hs:∀ x,foldedSetIterable src X.env x = pure x:=by intro _; rfl):PS X (.Assign [.Name x pos'] (.ListComp el [⟨tg,src,ifs,0⟩] sc pos) spos) (GF (HX ix wi g tf te) (dC i)):=by
 intro pins s σ H D0 I h
 obtain ⟨cl,hcl,c1,c2⟩:=I.clos hb
 obtain ⟨hk,hn⟩:=yZ hb
 rw [exec_Assign_Name_used _ _ _ _ hsw]
 refine wpAny_bind (wpAny_standAt (wpAny_bind ?_))
 show wpAny _ X.A (do let _ <- comprehension (.ListComp el [⟨tg,src,ifs,0⟩] sc pos) sc X.env _ (newList []) false (eval src X.env) (some (assign (.Name x pos') X.env))) _ _ s
 refine wpAny_bind (thn (wpAny_comprehension_free (use:=some (assign (.Name x pos') X.env)) (Q:=fun _ s'=>SP X pins D0 .next s') rfl hs hcl hk hn (thn (hi pins s σ H _ I h) fun xv s1 h1=>thn h1 fun itv s2 h2=>?_)) fun _ s' hq=>wpAny_pure (wpAny_pure hq))
 obtain ⟨it,fp,tn,J,H2,rfl,I2,T,st,f2,hW⟩:=h2
 refine zq (RR:=fun acc C=>compPost (model X.prog X.w) X.A X.xe (some (assign (.Name x pos') X.env)) (fun _ s'=>SP X pins D0 .next s') acc C) I2 hc hb c1 c2 T st f2 (fun C fp=>hg cl C fp s2 H2) (fun C fp=>hf cl C fp s2 H2) (fun C fp=>he cl C fp s2 H2) hW ?_
 intro D C s' ys H' hD ⟨m,hm⟩ I' fC fin
 obtain ⟨g1,g2,_,g4,g5,g6⟩:=fC
 show wpAny _ X.A (assign (.Name x pos') X.env (.ref D)) _ _ _
 refine wpAny_assign_Name (yF (v:=.ref D) I' hN hxi hx rfl (fun s'' I'' ⟨a,sb,ha⟩=>?_) hfn)
 have hCa:C ≠ a:=by
  rcases ha with z | z
  ·rw [z]; exact g2
  ·exact fun e=>g5 x a z e.symm
 refine ⟨m,hm.sameBut sb hCa,fun h' hs'=>⟨_,_,I''.turned (t':=s''.toks) (fun b o hb e=>(hs'.2 b hb).trans e) g1 g2 g4 g5 g6,fin D hD⟩⟩
end
theorem Gv {lo:Int} {n:Nat} {tf:TT} {te:TE} {τ0:St} {H:Hp} {Fin:List V -> Hp -> Prop} (f:Nat -> V) (hn:n <= sizeLine)
  (hte:∀ i H' Q,i < n -> aB H H' -> (∀ H'',aB H' H'' -> Q (f i) H'') -> tf (τ0.set 0 (some (.int (lo + i)))) H' fun b H3=>b = true /\ te (τ0.set 0 (some (.int (lo + i)))) H3 Q)
  (mono:∀ τ H Q Q',(∀ b H1,Q b H1 -> Q' b H1) -> tf τ H Q -> tf τ H Q')
  (hfin:∀ H',aB H H' -> Fin ((List.range n).map f) H'):mF (dC 0) tf te (Itr lo n) τ0 H Fin:=by
 refine ⟨fun i m τ ys H'=>m = n - i /\ i <= n /\ ys = (List.range i).map f /\ aB H H' /\ ∃ v,τ = τ0.set 0 v \/ τ = τ0,⟨n,rfl,zero_le _,rfl,aB.refl _,none,.inr rfl⟩,?_⟩
 rintro i m τ ys H' ⟨rfl,hi,rfl,sm,v,hτ⟩
 by_cases hlt:i < n
 ·refine .inr ⟨hlt,fun x H'' y=>?_⟩
  obtain ⟨e,y⟩:=y
  subst e y
  have e2:τ.set 0 (some (V.int (lo + i))) = τ0.set 0 (some (V.int (lo + i))):=by
   rcases hτ with rfl | rfl
   ·rw [set_set]
   ·rfl
  show tf (τ.set 0 (some (V.int (lo + i)))) H'' _
  rw [e2]
  refine mono _ _ _ _ ?_ (hte i H'' (fun y H4=>((List.range i).map f).length < sizeLine /\ ∃ m',m' < n - i /\ (m' = n - (i + 1) /\ i + 1 <= n /\ (List.range i).map f ++ [y] = (List.range (i + 1)).map f /\ aB H H4 /\ ∃ v,τ0.set 0 (some (V.int (lo + i))) = τ0.set 0 v \/ τ0.set 0 (some (V.int (lo + i))) = τ0)) hlt sm fun H4 s4=>?_)
  ·rintro b H1 ⟨rfl,q⟩
   rw [if_pos rfl]
   exact q
  ·refine ⟨by rw [length_map,length_range]; omega,n - (i + 1),Zb,rfl,hlt,by rw [range_succ,map_append]; rfl,sm.trans s4,_,.inl rfl⟩
 ·have e:i = n:=by omega
  subst e
  exact .inl ⟨le_refl _,hfin H' sm⟩
theorem kO {K:Frag} {a:Addr} {xs:List V} {te:TE} {τ0:St} {H:Hp} {Fin:List V -> Hp -> Prop} (f:V -> V) (hn:xs.length <= sizeLine) (hl:SqL K H a xs)
  (hte:∀ x H' Q,x ∈ xs -> aB H H' -> (∀ H'',aB H' H'' -> Q (f x) H'') -> te (τ0.set 0 (some x)) H' Q)
  (hfin:∀ H',aB H H' -> Fin (xs.map f) H'):mF (dC 0) qW te (Itl K a) τ0 H Fin:=by
 refine ⟨fun i m τ ys H'=>m = xs.length - i /\ i <= xs.length /\ ys = (xs.take i).map f /\ aB H H' /\ ∃ v,τ = τ0.set 0 v \/ τ = τ0,⟨xs.length,rfl,zero_le _,rfl,aB.refl _,none,.inr rfl⟩,?_⟩
 rintro i m τ ys H' ⟨rfl,hi,rfl,sm,v,hτ⟩
 by_cases hlt:i < xs.length
 ·refine .inr ⟨⟨xs,xs[i],sm.seq hl,by simp [hlt]⟩,fun x H'' y=>?_⟩
  obtain ⟨e,y⟩:=y
  subst e
  have hx:=y xs (sm.seq hl)
  have e2:τ.set 0 (some x) = τ0.set 0 (some x):=by
   rcases hτ with rfl | rfl
   ·rw [set_set]
   ·rfl
  unfold dC qW
  rw [e2]
  dsimp only
  rw [if_pos rfl]
  refine hte x H'' _ (mem_of_getElem? hx) sm fun H4 s4=>?_
  refine ⟨by rw [length_map,length_take]; omega,xs.length - (i + 1),Zb,rfl,hlt,?_,sm.trans s4,_,.inl rfl⟩
  rw [take_add_one,hx,map_append]
  rfl
 ·have e:i = xs.length:=by omega
  subst e
  exact .inl ⟨⟨xs,sm.seq hl,le_refl _⟩,by have:=hfin H' sm; rw [take_length]; exact this⟩
theorem dF{c A B:Prop}[Decidable c](h1:c->A)(h2:¬c->B):if decide c=true then A else B:=by
 by_cases h:c
 ·rw[if_pos (decide_eq_true h)];exact h1 h
 ·rw[if_neg (by simpa using h)];exact h2 h
theorem iw{i j:Int}{A B:Prop}(h1:i=j->A)(h2:¬i=j->B):if decide (V.int i=V.int j)=true then A else B :=
 dF (fun h=>h1 (V.int.inj h)) fun h=>h2 fun e=>h (congrArg V.int e)
theorem qY{x y:V}{A B:Prop}(e:x=y)(h:B):if(!decide (x=y))=true then A else B:=by
 rw[if_neg (by simp[e])];exact h
theorem aB.new{H:Hp}{p:Addr}{o:HO}(h:H p=none):aB H (upd H p o):=fun b u e=>by
 rw[aQ (aK e h)];exact e
theorem aB.put{H H':Hp}{p:Addr}{o:HO}(s:aB H H')(h:H' p=none):aB H (upd H' p o):=s.trans (aB.new h)
theorem aB.over{H H':Hp}{p:Addr}{o:HO}(s:aB H H')(h:H p=none):aB H (upd H' p o):=fun b u e=>by
 rw[aQ (aK e h)];exact s b u e
structure FnAt(K:Frag)(mg:MG)(x:Str)(st:Stmt)(ps:List Str)(f:Addr)(fd:FuncData):Prop where
 F:Fun K x x st f fd
 b:Binds K fd ps []
 m:mg x=some (.ref f)
section
variable {X:Cx} {k:Nat} {f:Addr} {fd:FuncData} {ps:List Str} {sp:Sp} {x:Str} {st:Stmt} {p pos:Pos} {e:Expr} {es:List Expr} {t:TA}
theorem aV(A:FnAt X.K X.mg x st ps f fd)(G:aO X.prog X.w X.K X.mg X.base CX0 k f fd ps sp)(hr:bw k X.A)(ha:PA X (e::es) t)(hg:Gl X x:=by rfl)
  (hdb:(x==("__debug__" : Str))=false:=by decide)(he:starEach (e::es) X.env=(false,eval e X.env)::starEach es X.env:=by rfl)(hpl:(backTo pos (starEach es X.env)).any (·.1)=false:=by rfl) :
  PE X (.Call (.Name x p) (e::es) [] pos) (Hl sp [] E0 t):=Oh G hr hg A.m A.F.kp A.b .nil vf ha hdb he hpl
end
def Pur(v:V)(H:Hp)(Q:VK):Prop:=∀ H',aB H H'->Q v H'
end L2
namespace Mine
open PySem PySem.Spec PyProof.Rows L2
def Ep:Sp:=fun vs H Q _=>∃ (c j:Int),vs=[.int c,.int j]/\0<=j/\j<=1000/\Pur (.int (sub c j)) H Q
def Ex:Sp:=fun vs H Q _=>∃ (c far:Int),vs=[.int c,.int far]/\0<far/\Pur (.int (number c far)) H Q
def jz:Sp:=fun vs H Q _=>∃ (c k m:Int),vs=[.int c,.int k,.int m]/\0<=k/\k<40/\0<m/\Pur (.int (pick c k m)) H Q
def MF:Sp:=fun vs H Q _=>∃ (c:Int),vs=[.int c]/\Pur (.str (name c)) H Q
end Mine
namespace L2
open PySem PySem.Spec PyProof.Rows
section
variable {X:Cx}
def Uw:V->Option Int->Option Int->Hp->VK->Prop:=fun x lo hi H Q=>∃ z,x=.str z/\z.length<=sizeLine/\Q (.str (Txt.slice z lo hi)) H
theorem part_of{v:Value}{o:Option Int}(p:IsPart v o):∃ l:Option (Int×Tok),v=partValue l/\o=l.map (·.1):=by
 cases p with
 | none=>exact⟨none,rfl,rfl⟩
 | int i t=>exact⟨some (i,t),rfl,rfl⟩
theorem pA:SlR X Uw:=by
 intro pins s σ H x v vl vu lo hi sl Q I rx hs pl pu h
 obtain⟨z,rfl,hz,q⟩:=h
 obtain⟨t,rfl⟩:=rx
 obtain⟨l,rfl,rfl⟩:=part_of pl
 obtain⟨u,rfl,rfl⟩:=part_of pu
 obtain⟨os,h1,h2,h3⟩:=hs
 refine⟨"str",_,F.slot_str_getitem.lookup,typeIs_str _ _ _,?_⟩
 exact wpAny_getItem_str_slice (l:=l) (u:=u) (st:=none) ⟨os,h1,h2,h3⟩ rfl (post_val_or_str ⟨le_trans (Txt.slice_le z _ _) hz,fun t' k=>⟨.str _,H,I.tok k,⟨t',rfl⟩,q⟩⟩)
def Its(z:Str):It:=⟨fun i _=>i<z.cps.size,fun i H x H'=>H'=H/\∃ c,z.cps.toList[i]? = some c/\x=.str ⟨#[c]⟩,fun i _=>z.cps.size<=i⟩
theorem Cw {P:Program} {w:World} {K:Frag} {tg:Expr} (it:Addr) (z:Str) (t:Tok) (ty:String)
  (hW:∀ A:Around,A.handled=none->Walks P w A it [it] [it] z.cps.size (SignAt z) (fun i h=>h.IsStrIter it ty z t i))
  (hn:["enumerate", "zip", "dict_itemiterator", "dict_reverseitemiterator", "odict_iterator", "itertools.zip_longest", "itertools.pairwise"].contains ty=false)
  (hself:∀ (A:Around) (i:Nat) (s:Shared) (Q:EV) (E:EV),s.heap.IsStrIter it ty z t i->Q (.ref it) s->wpAny (model P w) A (pyIter (.ref it)) Q E s) :
  Turn P w K tg (Its z) [it] it (fun i h=>i<=z.cps.size/\h.IsStrIter it ty z t i) where
 mem:=by simp
 obj:=fun i h st b hb=>by
  have e:b=it:=by simpa using hb
  subst e
  obtain⟨_,o,e,c,d⟩:=st
  exact⟨o,e,fun v z=>by rw[d]at z;cases z⟩
 keep:=fun i h h' st k=>by
  obtain⟨hi,o,e,r⟩:=st
  exact⟨hi,o,k it Zc o e,r⟩
 item:=by
  intro X hP hw hK hc i pins s σ H E I hf st hg
  subst hP hw hK
  obtain⟨f0,f1,f2,f3,f4,f5⟩:=hf it Zc
  refine(hW X.A (I.ok.hd hc)).item i s _ _ hg st.2 fun v h' tk hv st' kk=>?_
  obtain⟨c,u,hx,rfl⟩:=hv
  have I1:Inv X pins σ H {s with heap:=h',toks:=tk}:=I.turned (fun b o hb e=>kk b o (by simpa using hb) e) f0 f1 f3 f4 f5
  obtain⟨o,e,hcl,d⟩:=id st'
  exact⟨_,rfl,Df (s:={s with heap:=h',toks:=tk}) e hcl d hn ⟨.str ⟨#[c]⟩,H,I1,⟨u,rfl⟩,⟨rfl,c,by simpa using hx,rfl⟩,⟨hg,st'⟩,fun b hb=>(hf b hb).1⟩⟩
 done:=by
  intro X hP hw hK hc i pins s σ H E I hf st hg
  subst hP hw hK
  obtain⟨f0,f1,f2,f3,f4,f5⟩:=hf it Zc
  obtain⟨hi,st⟩:=st
  have e:i=z.cps.size:=Nat.le_antisymm hi hg
  subst e
  exact(hW X.A (I.ok.hd hc)).done s _ _ st fun h' tk kk=>⟨rfl,I.turned (fun b o hb e=>kk b o (by simpa using hb) e) f0 f1 f3 f4 f5⟩
 self:=fun A i s Q E st h=>hself A i s Q E st.2 h
def Tz(tl:TE):TI:=fun σ H R=>tl σ H fun x H1=>∃ z,x=.str z/\R (Its z) H1
theorem zP{tg l:Expr}{tl:TE}(hl:PE X l tl):PI X tg l (Tz tl):=by
 intro pins s σ H R I h
 refine thn (hl pins s σ H _ I h) fun v s1 ⟨x,H1,I1,r1,q1⟩=>?_
 obtain⟨z,rfl,q⟩:=q1
 obtain⟨t,rfl⟩:=r1
 have fin:∀ (o:Obj) (b:Addr),b∈[s1.heap.objs.size]->wU X pins H1 b:=fun o b hb=>by
  have e:b=s1.heap.objs.size:=by simpa using hb
  subst e
  exact I1.fpOk (le_refl _) (I1.hok.fresh (le_refl _))
 cases ha:z.cps.all (· < 128)
 ·refine wpAny_pyIter_wide ha ?_
  exact⟨s1.heap.objs.size,[s1.heap.objs.size],_,_,H1,rfl,I1.kept (t':=s1.toks) fun b o e=>Heap.get?_push_of_some _ e,
   Cw _ z t "str_iterator" (fun A hA=>Walks.strWide hA _ z t) Za (fun A i s Q E st h=>wpAny_pyIter_striter_wide st h),⟨zero_le _,_,Heap.get?_push_size _ rfl,rfl,rfl⟩,fin default,q⟩
 ·refine wpAny_pyIter_ascii ha ?_
  exact⟨s1.heap.objs.size,[s1.heap.objs.size],_,_,H1,rfl,I1.kept (t':=s1.toks) fun b o e=>Heap.get?_push_of_some _ e,
   Cw _ z t "str_ascii_iterator" (fun A hA=>Walks.strAscii hA _ z t) Za (fun A i s Q E st h=>wpAny_pyIter_striter_ascii st h),⟨zero_le _,_,Heap.get?_push_size _ rfl,rfl,rfl⟩,fin default,q⟩
theorem Qc {z:Str} {g:TG} {tb:TS} {D:Ends} {σ:St} {H:Hp} (Pv:Nat -> St -> Hp -> Prop) (h0:Pv 0 σ H)
  (hs:∀ i c σ H,z.cps.toList[i]? = some c -> Pv i σ H -> g (.str ⟨#[c]⟩) σ H fun σ2 H2=>tb { D with nx:=Pv (i + 1),ct:=Pv (i + 1),bk:=D.nx } σ2 H2) (hd:∀ σ H,Pv z.cps.size σ H -> D.nx σ H) :
  ∃ W:Nat -> Nat -> St -> Hp -> Prop,(∃ m,W 0 m σ H) /\ ∀ i m σ H,W i m σ H ->
   ((Its z).stop i H /\ D.nx σ H) \/ ((Its z).go i H /\ ∃ N:St -> Hp -> Prop,(∀ σ' H',N σ' H' -> ∃ m',m' < m /\ W (i + 1) m' σ' H') /\ ∀ x H',(Its z).yld i H x H' -> g x σ H' fun σ2 H2=>tb { D with nx:=N,ct:=N,bk:=D.nx } σ2 H2):=by
 refine ⟨fun i m σ H=>m = z.cps.size - i /\ i <= z.cps.size /\ Pv i σ H,⟨z.cps.size,Zc,zero_le _,h0⟩,?_⟩
 rintro i m σ H ⟨rfl,hi,p⟩
 by_cases hlt:i < z.cps.size
 ·refine .inr ⟨hlt,Pv (i + 1),fun σ' H' p'=>⟨z.cps.size - (i + 1),Zb,rfl,hlt,p'⟩,fun x H' y=>?_⟩
  obtain ⟨e,c,hc,y⟩:=y
  subst e y
  exact hs i c σ _ hc p
 ·have e:i = z.cps.size:=by omega
  subst e
  exact .inl ⟨le_refl _,hd σ H p⟩
theorem Fe {z:Str} {te:TE} {τ0:St} {H:Hp} {Fin:List V -> Hp -> Prop} (f:Nat -> V) (hn:z.length <= sizeLine)
  (hte:∀ c H' Q,c ∈ z.cps.toList -> aB H H' -> (∀ H'',aB H' H'' -> Q (f c) H'') -> te (τ0.set 0 (some (.str ⟨#[c]⟩))) H' Q)
  (hfin:∀ H',aB H H' -> Fin (z.cps.toList.map f) H'):mF (dC 0) qW te (Its z) τ0 H Fin:=by
 have hz:z.cps.size = z.cps.toList.length:=by simp
 have hn':z.cps.toList.length <= sizeLine:=by rw [<- hz]; exact hn
 refine ⟨fun i m τ ys H'=>m = z.cps.size - i /\ i <= z.cps.size /\ ys = (z.cps.toList.take i).map f /\ aB H H' /\ ∃ v,τ = τ0.set 0 v \/ τ = τ0,⟨z.cps.size,rfl,zero_le _,rfl,aB.refl _,none,.inr rfl⟩,?_⟩
 rintro i m τ ys H' ⟨rfl,hi,rfl,sm,v,hτ⟩
 by_cases hlt:i < z.cps.size
 ·refine .inr ⟨hlt,fun x H'' y=>?_⟩
  obtain ⟨e,c,hc,y⟩:=y
  subst e y
  have e2:τ.set 0 (some (V.str ⟨#[c]⟩)) = τ0.set 0 (some (V.str ⟨#[c]⟩)):=by
   rcases hτ with rfl | rfl
   ·rw [set_set]
   ·rfl
  unfold dC qW
  rw [e2]
  dsimp only
  rw [if_pos rfl]
  refine hte c H'' _ (mem_of_getElem? hc) sm fun H4 s4=>?_
  refine ⟨by rw [length_map,length_take]; omega,z.cps.size - (i + 1),Zb,rfl,hlt,?_,sm.trans s4,_,.inl rfl⟩
  rw [take_add_one,hc,map_append]
  rfl
 ·have e:i = z.cps.size:=by omega
  subst e
  exact .inl ⟨le_refl _,by have:=hfin H' sm; rw [hz,take_length]; exact this⟩
theorem Ln{bs:List Bool}:∀ {us:List Value} {i:Nat} {v:Value},Vals (bs.map V.bl) us->us[i]? = some v->v=.bool (bs.getD i false):=by
 induction bs with
 | nil=>intro us i v r h;rw[map_nil]at r;cases r;simp at h
 | cons b bs ih =>
  intro us i v r h
  rw[map_cons]at r
  cases r with
  | cons r1 r2 =>
   cases i with
   | zero =>
    have r1':_=Value.bool b:=r1
    simp at h
    rw[<- h,r1']
    rfl
   | succ i=>exact ih r2 (by simpa using h)
theorem range_all(bs:List Bool):(List.range bs.length).all (fun i=>bs.getD i false)=bs.all id:=by
 have e:(List.range bs.length).map (fun i=>bs.getD i false)=bs:=by
  apply ext_getElem
  ·simp
  ·intro i h1 h2
   simp[List.getD_eq_getElem?_getD,h2]
 conv=>rhs;rw[<- e]
 rw[all_map];rfl
theorem range_any(bs:List Bool):(List.range bs.length).any (fun i=>bs.getD i false)=bs.any id:=by
 have e:(List.range bs.length).map (fun i=>bs.getD i false)=bs:=by
  apply ext_getElem
  ·simp
  ·intro i h1 h2
   simp[List.getD_eq_getElem?_getD,h2]
 conv=>rhs;rw[<- e]
 rw[any_map];rfl
def RK(K:Frag)(f:List Bool->Bool):List V->Hp->VK->Prop:=fun xs H Q=>∃ p bs,xs=[.ref p]/\SqL K H p (bs.map V.bl)/\Q (.bl (f bs)) H
theorem nP(hc:X.calm=true):iy X (.builtin "all") (RK X.K fun bs=>bs.all id):=by
 intro pins s σ H xs us Q I r h
 obtain⟨p,bs,rfl,hq,q⟩:=h
 obtain⟨u,rfl,rx⟩:=vals1 r
 cases(show u=Value.ref p from rx)
 obtain⟨its,rv,pl,hz⟩:=I.list hq
 have hlen:=rv.length
 rw[length_map]at hlen
 have hne:p≠s.heap.objs.size:=by
  obtain⟨o,e,_⟩:=pl.isList
  exact ne_of_lt (Heap.lt_size e)
 refine call_all_walk (wpAny_pyIter_list pl.isList ?_)
 refine⟨s.heap.objs.size,_,_,_,_,_,fun i=>bs.getD i false,rfl,Walks.list (show X.A.in1.handled=none from I.ok.hd hc) s.heap.objs.size p hne its.toArray,⟨⟨_,Heap.get?_push_size _ rfl,rfl,rfl⟩,?_⟩,fun i v s' Q' E' hP hQ=>?_,fun h' tk kk=>?_⟩
 ·exact pl.isList.at fun o e=>Heap.get?_push_of_some _ e
 ·have e:=Ln rv (by simpa using hP)
  subst e
  exact wpAny_truthy_bool hQ
 ·have e:(List.range its.toArray.size).all (fun i=>bs.getD i false)=bs.all id:=by rw[size_toArray,<- hlen];exact range_all bs
  rw[e]
  refine⟨.bl _,H,I.kept fun b o e=>?_,rfl,q⟩
  exact kk b o (fun z=>absurd (Heap.lt_size e) (by rw[mem_singleton.mp z];exact lt_irrefl _)) (Heap.get?_push_of_some _ e)
end
section
variable {X:Cx} {K:Frag}
theorem K3(h:X.K=K):MtR X "str.join" (rJoin K):=by subst h;exact gO
theorem Mj(h:X.K=K):SlR X (Uh K):=by subst h;exact cj
theorem Ej(h:X.K=K):IxR X (Tu K):=by subst h;exact aN
theorem tY(h:X.K=K):IxR X (Ub K):=by subst h;exact gj
theorem yd(h:X.K=K):iy X (.builtin "isinstance") (QK K):=by subst h;exact b8
theorem Mw{tg l:Expr}{tl:TE}(h:X.K=K)(hl:PE X l tl):PI X tg l (Qs K tl):=by subst h;exact dH hl
variable {o e:Expr} {es:List Expr} {to:TE} {t:TA} {name:Str} {apos cpos:Pos} {T id:String} {r:V->List V->Hp->VK->Prop}
theorem Lk(h:X.K=K)(pa:PlainAttrs T)(slot:Slot T name id)(hty:typeOf (.builtin id)=pure (.type "method_descriptor"))(hm:MtR X id r)(ho:PE X o to)(ha:PA X (e::es) t)
  (hbase:attributeBase o name X.env (eval o X.env)=eval o X.env:=by rfl)
  (hfew:((backTo cpos (starEach (e::es) X.env)).all (fun x=>!x.1)&&(backToKw cpos (keywordEach [] X.env)).all (fun x=>x.1.isSome)
   && decide ((e::es).length+([]:List Keyword).length+(if([]:List Keyword).isEmpty then 0 else 1)<30))=true:=by rfl)
  (hline:(apos.endLine==cpos.line)=true:=by rfl)(hs:starEach (e::es) X.env=(false,eval e X.env)::starEach es X.env:=by rfl)(hplain:(backTo cpos (starEach es X.env)).any (·.1)=false:=by rfl) :
  PE X (.Call (.Attribute o name apos) (e::es) [] cpos) (tBM K T r to t):=by
 subst h
 exact cM pa slot hty hm ho ha hbase hfew hline hs hplain
end
structure QS(X:Cx)(st:Stmt)(t:TS):Prop where
 h:PS X st t
structure QSs(X:Cx)(st:List Stmt)(t:TS):Prop where
 h:PSs X st t
section
variable {X:Cx} {st:Stmt} {rest:List Stmt} {t u:TS} {e:Expr} {te:TE} {pos:Pos}
theorem aL:QSs X [] Qt:=⟨ul⟩
theorem au(h1:QS X st t)(h2:QSs X rest u):QSs X (st::rest) (S8 t u):=⟨eZ h1.h h2.h⟩
theorem az(h1:QS X st t):QSs X [st] t:=⟨jd h1.h⟩
theorem fM(he:PE X e te)(hs:swapsWith e none pos.line X.env=pure false:=by rfl):QS X (.Expr e pos) (Ku te):=⟨Px he hs⟩
theorem aF(he:PE X e te):QS X (.Return (some e) pos) (KQ te):=⟨mZ he⟩
theorem bc{c:Expr}{a b:List Stmt}{tc:TT}(hc:PT X c tc)(ha:QSs X a t)(hb:QSs X b u):QS X (.If c a b pos) (Uk tc t u):=⟨CQ hc ha.h hb.h⟩
theorem lB{tg iter:Expr}{body:List Stmt}{wi:TI}{g:TG}{tb:TS}(hp:PassesOwn (model X.prog X.w) X.A X.env X.xe)(hc:X.calm=true)(hi:PI X tg iter wi)(hg:PG X tg g)(hb:QSs X body tb)(hs:∀ x,foldedSetIterable iter X.env x=pure x:=by intro _;rfl):QS X (.For tg iter body [] pos) (Tv wi g tb):=⟨Q5 hp hc hi hg hb.h hs⟩
theorem uL{tg:Expr}{g:TG}(he:PE X e te)(hg:PG X tg g)(hs:swapsWithSole [tg] e pos.line X.env=pure false:=by rfl)(hw:swappedStores [tg] e X.env=pure none:=by rfl)
  (h1:(assignEach [tg] X.env).map (·.2)=[assign tg X.env]:=by rfl):QS X (.Assign [tg] e pos) (GF te g):=⟨RB he hg hs hw h1⟩
theorem aY {i:Nat} {x:Str} {pos':Pos} (hN:X.N.Nodup) (hi:X.N[i]? = some x) (hx:Loc X.env.scope x) (he:PE X e te) (hs:swapsWith e (some (.Name x pos')) pos.line X.env = pure false:=by rfl) (hf:X.fn x = true \/ X.env.scope.names.lookup x = some .local:=by first | exact .inl rfl | exact .inr rfl | assumption) :
  QS X (.Assign [.Name x pos'] e pos) (GF te (dC i)):=⟨pR hN hi hx he hs hf⟩
end
section
variable {X:Cx} {N:List Str} {sc:Scope} {el tg src:Expr} {ifs:List Expr} {wi:TI} {g:TG} {tf:TT} {te:TE} {pos:Pos}
theorem vO (ix:List (Option Nat)) {i:Nat} {x:Str} {pos' spos:Pos} (hN:X.N.Nodup) (hxi:X.N[i]? = some x) (hx:Loc X.env.scope x) (hc:X.calm = true) (hb:pP X.env.scope X.N N ix sc = true) (hi:PI X tg src wi)
  (hg:∀ cl C fp s H,PG (blk X N sc cl C fp s H) tg g) (hf:∀ cl C fp s H,PF (blk X N sc cl C fp s H) ifs tf) (he:∀ cl C fp s H,PE (blk X N sc cl C fp s H) el te)
  (hsw:swapsWith (.ListComp el [⟨tg,src,ifs,0⟩] sc pos) (some (.Name x pos')) spos.line X.env = pure true:=by rfl)
  (hfn:X.fn x = true \/ X.env.scope.names.lookup x = some .local:=by first | exact .inl rfl | exact .inr rfl | assumption)
  (hs:∀ x,foldedSetIterable src X.env x = pure x:=by intro _; rfl):QS X (.Assign [.Name x pos'] (.ListComp el [⟨tg,src,ifs,0⟩] sc pos) spos) (GF (HX ix wi g tf te) (dC i)) :=
 ⟨NK ix hN hxi hx hc hb hi hg hf he hsw hfn hs⟩
end
structure QA(X:Cx)(es:List Expr)(t:TA):Prop where
 h:PA X es t
section
variable {X:Cx} {e:Expr} {es:List Expr} {te:TE} {t:TA} {pos:Pos}
theorem wN:QA X [] FQ:=⟨ao⟩
theorem bz(ha:PE X e te)(hr:QA X es t)(hs:starEach (e::es) X.env=(false,eval e X.env)::starEach es X.env:=by rfl):QA X (e::es) (xq te t):=⟨aj ha hr.h hs⟩
theorem Ao(h:QA X es t):PE X (.List es pos) (Rr t):=bI h.h
end
structure QE(X:Cx)(e:Expr)(t:TE):Prop where
 h:PE X e t
section
variable {X:Cx} {a b e:Expr} {ta tb te:TE} {es:List Expr} {t:TA} {pos:Pos}
theorem Og(h:QA X es t):QE X (.List es pos) (Rr t):=⟨bI h.h⟩
theorem Ua{r:R2}(hr:IxR X r)(ha:QE X a ta)(hb:PE X b tb)(hs:Ie b:=by exact fun _ _=>rfl):QE X (.Subscript a b pos) (tOp r ta tb):=⟨aU hr ha.h hb hs⟩
theorem Nr {i:Nat} {x:Str} {pos':Pos} (hN:X.N.Nodup) (hi:X.N[i]? = some x) (hx:Loc X.env.scope x) (he:QE X e te) (hs:swapsWith e (some (.Name x pos')) pos.line X.env = pure false:=by rfl) (hf:X.fn x = true \/ X.env.scope.names.lookup x = some .local:=by first | exact .inl rfl | exact .inr rfl | assumption) :
  QS X (.Assign [.Name x pos'] e pos) (GF te (dC i)):=⟨pR hN hi hx he.h hs hf⟩
end
section
variable {X:Cx} {x:Str} {pos:Pos}
theorem Hn{y:Str}(h:∃ t,X.mg x=some (.str y t))(hg:Gl X x:=by rfl)(hd:(x==("__debug__" : Str))=false:=by decide):PE X (.Name x pos) (tC (.str y)):=by
 obtain⟨t,e⟩:=h
 exact vL hg e ⟨t,rfl⟩ hd
theorem qL{y:Int}(h:∃ t,X.mg x=some (.int y t))(hg:Gl X x:=by rfl)(hd:(x==("__debug__" : Str))=false:=by decide):PE X (.Name x pos) (tC (.int y)):=by
 obtain⟨t,e⟩:=h
 exact vL hg e ⟨t,rfl⟩ hd
end
theorem Kp{K:Frag}{n m:String}{b:Bool}(h0:(Value.type n==Value.type m)=false)(h1:kitMeta m=true)(h2:(fastBuiltinMro n).map (·.contains (Value.type m))=some b):kitOne K (.type n) (.type m)=some b:=by
 unfold kitOne
 rw[if_neg (by rw[h0];decide)]
 show(if kitMeta m=true then PySem.W.subIn K (.type n) (.type m)else none)=some b
 rw[if_pos h1]
 exact h2
end L2
namespace Mine
open PySem PySem.Spec PyProof.Rows L2 PySem.Builtin PySem.Builtin.Str
theorem bM(a b:Str):(a++b).length=a.length+b.length:=by rw[bZ,bZ,bZ,bG,length_append]
theorem zr{c:Nat}:∀ {ys:List (List Nat)} {y:List Nat},y∈ys->y.length<=(inter c ys).length
 | [],_,h=>nomatch h
 | [x],y,h=>by rw[mem_singleton.mp h];exact le_refl _
 | x::z::r,y,h=>by
  show y.length<=(x++c::inter c (z::r)).length
  rw[length_append,length_cons]
  rcases mem_cons.mp h with e|h
  ·rw[e];omega
  ·have:=zr (c:=c) h;omega
theorem JM{c:Nat}{ys:List Str}{y:Str}(h:y∈ys):y.length<=(Str.join ⟨#[c]⟩ ys).length:=by
 rw[bZ,bZ,bD]
 exact zr (mem_map.mpr ⟨y,h,rfl⟩)
theorem rO{c:Nat}{x y:Str}(h:y∈Txt.split x ⟨#[c]⟩):y.length<=x.length:=by
 have:=JM (c:=c) h
 rw[StrLaws.join_split]at this
 exact this
theorem kW{x y:Str}(h:y∈Txt.split x ("." : Str)):y.length<=x.length:=by rw[vY]at h;exact rO h
theorem Lr(z:Str)(c k:Int)(h:0<z.length):∃ ch,atI z.cps.toList (pick c k (z.length:Int))=some ch:=by
 have h1:=cH c k (m:=(z.length:Int)) Zb
 have h2:=cI c k (m:=(z.length:Int)) Zb
 have hl:(pick c k (z.length:Int)).toNat<z.cps.toList.length:=by rw[<- bZ];omega
 refine⟨z.cps.toList[(pick c k (z.length:Int)).toNat],?_⟩
 have:=bL (getElem?_eq_getElem hl)
 rwa [show(((pick c k (z.length:Int)).toNat:Nat):Int)=pick c k (z.length:Int)from by omega]at this
theorem Ka:1000<=sizeLine:=by decide
theorem BP:((".": Str)).length=1:=by decide +kernel
theorem oZ:(((".": Str)).length==0)=false:=by decide +kernel
def inL(c:Nat):Bool:=!(Builtin.Str.occurrences letters (⟨#[c]⟩:Str) 0 letters.length 1).isEmpty
def nmB(z:Str):Bool:=decide (1<=z.length)&&decide (z.length<=8)&&z.cps.toList.all inL
end Mine
namespace L2
open PySem PySem.Spec PyProof.Rows
theorem bh{b:Bool}{A B:Prop}(e:b=true)(h:A):if b=true then A else B:=by rw[if_pos e];exact h
theorem aP{b:Bool}{A B:Prop}(e:b=false)(h:B):if b=true then A else B:=by rw[if_neg (by rw[e];decide)];exact h
theorem jA{b:Bool}{A B:Prop}(e:b=true)(h:B):if(!b)=true then A else B:=by rw[if_neg (by rw[e];decide)];exact h
theorem iC{b:Bool}{A B:Prop}(e:b=false)(h:A):if(!b)=true then A else B:=by rw[if_pos (by rw[e];decide)];exact h
theorem PL{z:Str}{c k:Int}{H:Hp}{Q:VK}(h0:0<z.length)(hz:z.length<=sizeLine)(h:∀ ch,Q (.str ⟨#[ch]⟩) H):Ue (.str z) (.int (Mine.pick c k (z.length:Int))) H Q:=by
 obtain⟨ch,e⟩:=Mine.Lr z c k h0
 exact⟨z,_,ch,rfl,rfl,hz,e,h ch⟩
end L2
namespace Mine
open PySem PySem.Spec PyProof.Rows L2 PySem.Builtin PySem.Builtin.Str
def NT:Str:= "0123456789"
def zero:Str:= "0"
def inF(c:Nat):Bool:=!(Builtin.Str.occurrences NT (⟨#[c]⟩:Str) 0 NT.length 1).isEmpty
theorem Ht{c:Nat}(h0:48<=c)(h1:c<=57):inF c=true:=by
 have h:∀ n:Fin 10,inF (48+n.val)=true:=by decide +kernel
 have:=h ⟨c - 48,Zb⟩
 rwa [show 48+(⟨c - 48,Zb⟩:Fin 10).val=c from by show 48+(c - 48)=c;omega]at this
theorem G6{c:Nat}(h0:97<=c)(h1:c<=122):inL c=true:=by
 have h:∀ n:Fin 26,inL (97+n.val)=true:=by decide +kernel
 have:=h ⟨c - 97,Zb⟩
 rwa [show 97+(⟨c - 97,Zb⟩:Fin 26).val=c from by show 97+(c - 97)=c;omega]at this
theorem cX.nmB{y:Str}(h:cX y):nmB y=true:=by
 unfold Mine.nmB
 rw[decide_eq_true h.lo,decide_eq_true h.hi,all_eq_true.mpr fun c hc=>G6 (h.ok c hc).1 (h.ok c hc).2]
 rfl
def jC(z:Str):Bool:=decide (1<=z.length)&&decide (z.length<=20) && !(decide (z.cps.toList.head? = some 48) && !decide (z=zero))&&z.cps.toList.all inF
def pJ(m:Nat):Str:=Str.ofString (toString ((m:Nat):Int))
theorem kY(m:Nat):(pJ m).cps.toList=(Nat.toDigits 10 m).map Char.toNat:=PySem.W.KIN.signs_num m
theorem digit_range{m:Nat}{c:Nat}(h:c∈(pJ m).cps.toList):48<=c/\c<=57:=by
 rw[kY]at h
 obtain⟨d,hd,rfl⟩:=mem_map.mp h
 have:=Nat.isDigit_of_mem_toDigits Za Za hd
 unfold Char.isDigit at this
 simp only[and_eq_true,decide_eq_true_eq]at this
 exact⟨this.1,this.2⟩
theorem Cp:∀ m:Nat,(Nat.toDigits 10 m).head? = some '0'->m=0:=by
 intro m
 induction m using Nat.strongRecOn with
 | _ m ih =>
  intro h
  by_cases hm:m<10
  ·rw[Nat.toDigits_of_lt_base hm]at h
   have h':Nat.digitChar m = '0':=by simpa using h
   have:∀ n:Fin 10,Nat.digitChar n.val = '0'->n.val=0:=by decide
   exact this ⟨m,hm⟩ h'
  ·have hd:m%10<10:=Nat.mod_lt m Za
   have t:Nat.toDigits 10 (m / 10)++Nat.toDigits 10 (m%10)=Nat.toDigits 10 (10*(m / 10)+m%10):=Nat.toDigits_append_toDigits Za Zb hd
   rw[Nat.div_add_mod]at t
   rw[<- t]at h
   have hne:Nat.toDigits 10 (m / 10)≠[]:=Nat.toDigits_ne_nil
   cases e:Nat.toDigits 10 (m / 10)with
   | nil=>exact absurd e hne
   | cons a r =>
    rw[e]at h
    have:=ih (m / 10) Zb (by rw[e];simpa using h)
    omega
theorem vZ{a b:Char}(h:a.toNat=b.toNat):a=b:=by
 apply Char.ext
 exact UInt32.toNat_inj.mp h
theorem Jo:pJ 0=zero:=by decide +kernel
theorem jQ{m:Nat}(h:m<10 ^ 20):jC (pJ m)=true/\(pJ m).length<=20/\1<=(pJ m).length/\intText? (pJ m)=some ((m:Nat):Int):=by
 have hl:(pJ m).length=(Nat.toDigits 10 m).length:=by rw[bZ,kY,length_map]
 have h1:1<=(pJ m).length:=by rw[hl];exact Nat.length_toDigits_pos
 have h2:(pJ m).length<=20:=by rw[hl];exact(Nat.length_toDigits_le_iff Za Za).mpr h
 refine⟨?_,h2,h1,?_⟩
 ·unfold jC
  rw[decide_eq_true h1,decide_eq_true h2,all_eq_true.mpr fun c hc=>Ht (digit_range hc).1 (digit_range hc).2]
  by_cases hd:(pJ m).cps.toList.head? = some 48
  ·have hm:m=0:=by
    rw[kY,List.head?_map]at hd
    cases e:(Nat.toDigits 10 m).head? with
    | none=>rw[e]at hd;cases hd
    | some d =>
     rw[e]at hd
     have:d = '0':=vZ (by simpa using hd)
     rw[this]at e
     exact Cp m e
   subst hm
   rw[Jo,decide_eq_true (rfl:zero=zero)]
   decide +kernel
  ·rw[decide_eq_false hd];rfl
 ·rw[intText_digits (fun c hc=>digit_range hc) (fun z=>by rw[bZ,z]at h1;simp at h1) Zb,kY,PySem.W.KIN.val_back]
theorem yL {c d:Nat}:∀ {ys:List (List Nat)},d ∈ inter c ys -> d = c \/ ∃ y ∈ ys,d ∈ y
 | [],h=>by simp [inter] at h
 | [x],h=>.inr ⟨x,Zc,h⟩
 | x :: z :: r,h=>by
  have h':d ∈ x ++ c :: inter c (z :: r):=h
  rcases mem_append.mp h' with h' | h'
  ·exact .inr ⟨x,Zc,h'⟩
  ·rcases mem_cons.mp h' with h' | h'
   ·exact .inl h'
   ·rcases yL h' with h'' | ⟨y,hy,h''⟩
    ·exact .inl h''
    ·exact .inr ⟨y,mem_cons_of_mem _ hy,h''⟩
theorem oK {ys:List Str} (h:∀ y ∈ ys,cX y) {c:Nat} (hc:c ∈ (dotted ys).cps.toList):c = 46 \/ (97 <= c /\ c <= 122):=by
 rw [jm,bD] at hc
 rcases yL hc with e | ⟨y,hy,e⟩
 ·exact .inl e
 ·obtain ⟨z,hz,rfl⟩:=mem_map.mp hy
  exact .inr ((h z hz).ok c e)
theorem qZ{ys:List Str}(h0:ys≠[])(h:∀ y∈ys,cX y):∃ c∈(dotted ys).cps.toList,97<=c/\c<=122:=by
 cases ys with
 | nil=>exact absurd rfl h0
 | cons y r =>
  have hy:=h y mem_cons_self
  cases e:y.cps.toList with
  | nil=>have:=hy.lo;rw[bZ,e]at this;simp at this
  | cons c q =>
   have hc:c∈y.cps.toList:=by rw[e];simp
   refine⟨c,?_,hy.ok c hc⟩
   rw[jm,bD]
   obtain⟨R,e1,_⟩:=rN 46 y.cps.toList (r.map (·.cps.toList))
   rw[map_cons,e1]
   exact mem_append_left _ hc
def brk:Str:= "()"
theorem iJ:brk.cps.toList=[40,41]:=by decide +kernel
theorem zb{z:Str}(h:Txt.endswith z brk=true):∃ pre,z.cps.toList=pre++[40,41]:=by
 unfold Txt.endswith at h
 have lb:brk.length=2:=by decide +kernel
 rw[lb,and_eq_true,decide_eq_true_eq]at h
 obtain⟨h1,h2⟩:=h
 unfold subAt at h2
 rw[lb]at h2
 have h3:z.cps.extract (z.length - 2) (z.length - 2+2)=brk.cps:=by simpa using h2
 have h4:=congrArg Array.toList h3
 rw[Array.toList_extract,List.extract_eq_take_drop,iJ]at h4
 refine⟨z.cps.toList.take (z.length - 2),?_⟩
 have h5:z.cps.toList.drop (z.length - 2)=[40,41]:=by
  rw[<- h4,take_of_length_le]
  rw[length_drop,<- bZ];omega
 rw[<- h5,List.take_append_drop]
theorem uD{ys:List Str}(h:∀ y∈ys,cX y):Txt.endswith (dotted ys) brk=false:=by
 cases e:Txt.endswith (dotted ys) brk with
 | false=>rfl
 | true =>
  obtain⟨pre,hp⟩:=zb e
  have:41∈(dotted ys).cps.toList:=by rw[hp];simp
  have:=oK h this
  omega
theorem nJ(a:Str):Txt.endswith (a++brk) brk=true:=by
 unfold Txt.endswith subAt
 have lb:brk.length=2:=by decide +kernel
 rw[bM,lb,and_eq_true,decide_eq_true_eq]
 refine⟨Zb,?_⟩
 rw[beq_iff_eq]
 apply Array.toList_inj.mp
 rw[Array.toList_extract,List.extract_eq_take_drop,bG,iJ,show a.length+2 - 2=a.length from by omega,bZ,List.drop_left]
 simp
theorem w6(a:Str)(h:a.length<=1000000):Txt.slice (a++brk) none (some (-2))=a:=by
 apply cO
 have lb:brk.length=2:=by decide +kernel
 have hl:(a++brk).length=a.length+2:=by rw[bM,lb]
 have:=slice_closes_to_neg (x:=a++brk) (j:=-2) (k:=(a.length:Int)) Za (by rw[hl];omega) (by rw[hl];omega)
 have e:=eq_of_beq this
 rw[e]
 simp[bG,bZ]
end Mine
namespace L2
open PySem PySem.Spec PyProof.Rows
inductive DEq(K:Frag)(H:Hp):Nat->V->V->Prop where
 | non {n:Nat}:DEq K H n .non .non
 | bl {n:Nat} (b:Bool):DEq K H n (.bl b) (.bl b)
 | int {n:Nat} (i:Int):DEq K H n (.int i) (.int i)
 | str {n:Nat} (x:Str):DEq K H n (.str x) (.str x)
 | same {n:Nat} (a:Addr):DEq K H n (.ref a) (.ref a)
 | tup {n:Nat} {a b:Addr} {xs ys:List V} (ha:SqT K H a xs) (hb:SqT K H b ys) (hl:xs.length=ys.length) (h:∀ (i:Nat) x y,xs[i]? = some x->ys[i]? = some y->DEq K H n x y):DEq K H (n+1) (.ref a) (.ref b)
 | lst {n:Nat} {a b:Addr} {xs ys:List V} (ha:SqL K H a xs) (hb:SqL K H b ys) (hl:xs.length=ys.length) (h:∀ (i:Nat) x y,xs[i]? = some x->ys[i]? = some y->DEq K H n x y):DEq K H (n+1) (.ref a) (.ref b)
section
variable {X:Cx} {pins:OP} {σ:St} {H:Hp} {s:Shared}
theorem Vals.at{xs:List V}{us:List Value} (r:Vals xs us) {j:Nat} (h:j<us.length):∃ x,xs[j]? = some x/\RelV x us[j]:=by
 have hl:=r.length
 have hx:xs[j]? = some xs[j]:=getElem?_eq_getElem Zb
 obtain⟨u,hu,ru⟩:=r.get hx
 rw[getElem?_eq_getElem h]at hu
 cases hu
 exact⟨_,hx,ru⟩
theorem nM(n:Nat):(List.range n).all (fun _=>true)=true:=by simp
theorem DEq.at(I:Inv X pins σ H s){n:Nat} {x y:V} (d:DEq X.K H n x y):∀ {A:Around} {u v:Value},A.units+n<cLine->RelV x u->RelV y v->SeqAt.EqAt A s u v true:=by
 induction d with
 | non=>intro A u v hu ru rv;cases ru;cases rv;exact SeqAt.EqAt.same _
 | bl b=>intro A u v hu ru rv;cases ru;cases rv;exact SeqAt.EqAt.same _
 | int i =>
  intro A u v hu ru rv
  obtain⟨t,rfl⟩:=ru
  obtain⟨t',rfl⟩:=rv
  have:=SeqAt.EqAt.int_int (A:=A) (s:=s) i t i t'
  rwa [beq_self_eq_true]at this
 | str x =>
  intro A u v hu ru rv
  obtain⟨t,rfl⟩:=ru
  obtain⟨t',rfl⟩:=rv
  have:=SeqAt.EqAt.str_str (A:=A) (s:=s) x t x t'
  rwa [beq_self_eq_true]at this
 | same a=>intro A u v hu ru rv;cases ru;cases rv;exact SeqAt.EqAt.same _
 | @tup n a b xs ys ha hb hl h ih =>
  intro A u v hu ru rv
  cases ru;cases rv
  by_cases hab:a=b
  ·subst hab;exact SeqAt.EqAt.same _
  ·obtain⟨us,r1,p1,_⟩:=I.tuple ha
   obtain⟨ws,r2,p2,_⟩:=I.tuple hb
   have l1:=r1.length
   have l2:=r2.length
   have:=SeqAt.RcAt.tuples (A:=A) (s:=s) (e:=fun _=>true) (show s.heap.IsTuple a us.toArray from p1) (show s.heap.IsTuple b ws.toArray from p2) Zb fun j h1 h2=>by
    have h1':j<us.length:=by simpa using h1
    have h2':j<ws.length:=by simpa using h2
    obtain⟨x,ex,rx⟩:=r1.at h1'
    obtain⟨y,ey,ry⟩:=r2.at h2'
    exact ih j x y ex ey (A:=A.in1) (show A.units+1+n<cLine by omega) (by simpa using rx) (by simpa using ry)
   rw[nM,show(us.toArray.size==ws.toArray.size)=true from by simp;omega]at this
   exact SeqAt.EqAt.of_refs hab this
 | @lst n a b xs ys ha hb hl h ih =>
  intro A u v hu ru rv
  cases ru;cases rv
  by_cases hab:a=b
  ·subst hab;exact SeqAt.EqAt.same _
  ·obtain⟨us,r1,p1,_⟩:=I.list ha
   obtain⟨ws,r2,p2,_⟩:=I.list hb
   have l1:=r1.length
   have l2:=r2.length
   have:=SeqAt.RcAt.lists (A:=A) (s:=s) (e:=fun _=>true) p1.isList p2.isList Zg Zb fun j h1 h2=>by
    have h1':j<us.length:=by simpa using h1
    have h2':j<ws.length:=by simpa using h2
    obtain⟨x,ex,rx⟩:=r1.at h1'
    obtain⟨y,ey,ry⟩:=r2.at h2'
    exact ih j x y ex ey (A:=A.in1) (show A.units+1+n<cLine by omega) (by simpa using rx) (by simpa using ry)
   rw[nM]at this
   exact SeqAt.EqAt.of_refs hab this
def DSq(K:Frag)(H:Hp)(a b:Addr):Prop:=∃ (n:Nat) (xs ys:List V),n<=60/\xs.length=ys.length/\((SqT K H a xs/\SqT K H b ys)\/(SqL K H a xs/\SqL K H b ys))/\∀ (i:Nat) x y,xs[i]? = some x->ys[i]? = some y->DEq K H n x y
def Td(K:Frag)(r:Bool):R2:=fun x y H Q=>∃ a b,x=.ref a/\y=.ref b/\DSq K H a b/\Q (.bl r) H
theorem zH{K:Frag}(hK:X.K=K)(hu:X.A.units+64<cLine):OpR X (compareOp .Eq) (Td K true):=by
 subst hK
 intro pins s σ H x y v u Q I rx ry h
 obtain⟨a,b,rfl,rfl,⟨n,xs,ys,hn,hl,hs,hd⟩,q⟩:=h
 cases rx;cases ry
 have fin:EP X pins σ Q (.bool true) s:=⟨.bl true,H,I,rfl,q⟩
 rcases hs with⟨ha,hb⟩|⟨ha,hb⟩
 ·obtain⟨us,r1,p1,_⟩:=I.tuple ha
  obtain⟨ws,r2,p2,_⟩:=I.tuple hb
  have l1:=r1.length
  have l2:=r2.length
  refine SeqAt.eq_tupleAt (e:=fun _=>true) (show s.heap.IsTuple a us.toArray from p1) (show s.heap.IsTuple b ws.toArray from p2) Zb (fun j h1 h2=>?_) ?_
  ·have h1':j<us.length:=by simpa using h1
   have h2':j<ws.length:=by simpa using h2
   obtain⟨x,ex,rx⟩:=r1.at h1'
   obtain⟨y,ey,ry⟩:=r2.at h2'
   exact DEq.at I (hd j x y ex ey) (A:=X.A.in1) (show X.A.units+1+n<cLine by omega) (by simpa using rx) (by simpa using ry)
  ·rw[nM,show(us.toArray.size==ws.toArray.size)=true from by simp;omega]
   exact fin
 ·obtain⟨us,r1,p1,_⟩:=I.list ha
  obtain⟨ws,r2,p2,_⟩:=I.list hb
  have l1:=r1.length
  have l2:=r2.length
  refine SeqAt.eq_listAt (e:=fun _=>true) p1.isList p2.isList Zg Zb (fun j h1 h2=>?_) ?_
  ·have h1':j<us.length:=by simpa using h1
   have h2':j<ws.length:=by simpa using h2
   obtain⟨x,ex,rx⟩:=r1.at h1'
   obtain⟨y,ey,ry⟩:=r2.at h2'
   exact DEq.at I (hd j x y ex ey) (A:=X.A.in1) (show X.A.units+1+n<cLine by omega) (by simpa using rx) (by simpa using ry)
  ·rw[nM]
   exact fin
theorem Bj{K:Frag}(hK:X.K=K)(hu:X.A.units+64<cLine):OpR X (compareOp .NotEq) (Td K false):=by
 subst hK
 intro pins s σ H x y v u Q I rx ry h
 obtain⟨a,b,rfl,rfl,⟨n,xs,ys,hn,hl,hs,hd⟩,q⟩:=h
 cases rx;cases ry
 have fin:EP X pins σ Q (.bool false) s:=⟨.bl false,H,I,rfl,q⟩
 rcases hs with⟨ha,hb⟩|⟨ha,hb⟩
 ·obtain⟨us,r1,p1,_⟩:=I.tuple ha
  obtain⟨ws,r2,p2,_⟩:=I.tuple hb
  have l1:=r1.length
  have l2:=r2.length
  have:=SeqAt.RcNeAt.tuples (A:=X.A) (s:=s) (e:=fun _=>true) (show s.heap.IsTuple a us.toArray from p1) (show s.heap.IsTuple b ws.toArray from p2) Zb fun j h1 h2=>by
   have h1':j<us.length:=by simpa using h1
   have h2':j<ws.length:=by simpa using h2
   obtain⟨x,ex,rx⟩:=r1.at h1'
   obtain⟨y,ey,ry⟩:=r2.at h2'
   exact DEq.at I (hd j x y ex ey) (A:=X.A.in1) (show X.A.units+1+n<cLine by omega) (by simpa using rx) (by simpa using ry)
  rw[nM,show(us.toArray.size==ws.toArray.size)=true from by simp;omega]at this
  exact this X.prog X.w X.xe _ fin
 ·obtain⟨us,r1,p1,_⟩:=I.list ha
  obtain⟨ws,r2,p2,_⟩:=I.list hb
  have l1:=r1.length
  have l2:=r2.length
  have:=SeqAt.RcNeAt.lists (A:=X.A) (s:=s) (e:=fun _=>true) p1.isList p2.isList Zg Zb fun j h1 h2=>by
   have h1':j<us.length:=by simpa using h1
   have h2':j<ws.length:=by simpa using h2
   obtain⟨x,ex,rx⟩:=r1.at h1'
   obtain⟨y,ey,ry⟩:=r2.at h2'
   exact DEq.at I (hd j x y ex ey) (A:=X.A.in1) (show X.A.units+1+n<cLine by omega) (by simpa using rx) (by simpa using ry)
  rw[nM]at this
  exact this X.prog X.w X.xe _ fin
end
def Itz(K:Frag)(a b:Addr):It :=
 ⟨fun i H=>∃ xs ys x y,SqL K H a xs/\SqL K H b ys/\xs[i]? = some x/\ys[i]? = some y,
  fun i H v H'=>∃ p x y,v=.ref p/\H p=none/\(∀ xs,SqL K H a xs->xs[i]? = some x)/\(∀ ys,SqL K H b ys->ys[i]? = some y)/\H'=upd H p (.tup [x,y]),
  fun i H=>∃ xs ys,SqL K H a xs/\SqL K H b ys/\(xs.length<=i\/ys.length<=i)⟩
theorem K1 {P:Program} {w:World} {K:Frag} {elts:List Expr} {x1:Nat} {tpos:Pos} (a b z TI TO i1 i2:Addr) (D:ZipApart z TI TO i1 i2 a b) :
  Turn P w K (.Tuple elts x1 tpos) (Itz K a b) [z,TI,TO,i1,i2] z (fun i h=>IsZip h z TI TO .none /\ IsPair h TI (.ref i1) (.ref i2) /\ (∃ u v,IsPair h TO u v) /\ h.IsListIter i1 a i /\ h.IsListIter i2 b i) where
 mem:=by simp
 obj:=fun i h st c hc=>by
  obtain ⟨hz,hTI,⟨u,v,hTO⟩,h1,h2⟩:=st
  simp only [mem_cons,not_mem_nil,or_false] at hc
  rcases hc with rfl | rfl | rfl | rfl | rfl
  ·exact ⟨_,hz,fun v z=>by cases z⟩
  ·exact ⟨_,hTI,fun v z=>by cases z⟩
  ·exact ⟨_,hTO,fun v z=>by cases z⟩
  ·obtain ⟨o,e,_,d⟩:=h1; exact ⟨o,e,fun v z=>by rw [d] at z; cases z⟩
  ·obtain ⟨o,e,_,d⟩:=h2; exact ⟨o,e,fun v z=>by rw [d] at z; cases z⟩
 keep:=fun i h h' st k=>by
  obtain ⟨hz,hTI,⟨u,v,hTO⟩,h1,h2⟩:=st
  exact ⟨k z Zc _ hz,k TI Zc _ hTI,⟨u,v,k TO Zc _ hTO⟩,h1.at fun o e=>k i1 Zc o e,h2.at fun o e=>k i2 Zc o e⟩
 item:=by
  intro X hP hw hK hc i pins s σ H E I hf st hg
  subst hP hw hK
  obtain ⟨xs,ys,x,y,hq,hq2,hx,hy⟩:=hg
  obtain ⟨hz,hTI,⟨u0,v0,hTO⟩,h1,h2⟩:=st
  obtain ⟨us,rv,p,hsz⟩:=I.list hq
  obtain ⟨ws,rw',p',hsz'⟩:=I.list hq2
  obtain ⟨u,hu,ru⟩:=rv.get hx
  obtain ⟨v,hv,rv2⟩:=rw'.get hy
  have lt:∀ {c o},s.heap.get? c = some o -> c ≠ s.heap.objs.size:=fun e=>ne_of_lt (Heap.lt_size e)
  refine wpAny_pyNext_zip_item D hz hTI hTO h1 h2 p.isList p'.isList (x:=u) (y:=v) (by simpa using hu) (by simpa using hv) fun h' a1 a2 a3 a4 a5 a6 hk=>?_
  refine ⟨_,rfl,wpAny_letOwnedTupleGo_zip a1 fun h'' hz' hs'=>?_⟩
  have zlt:=lt hz
  have tlt:=lt hTO
  have hfr:H s.heap.objs.size = none:=I.hok.fresh (le_refl _)
  have hT:IsPair h'' s.heap.objs.size u v:=(hs'.2 _ (Ne.symm zlt)).trans a5
  have kk:∀ c o,c ≠ z -> c ≠ TO -> c ≠ i1 -> c ≠ i2 -> s.heap.get? c = some o -> h''.get? c = some o:=fun c o q1 q2 q3 q4 e=>(hs'.2 c q1).trans (hk c o q1 q2 q3 q4 e)
  have fz:=hf z Zc
  have fTO:=hf TO Zc
  have f1:=hf i1 Zc
  have f2:=hf i2 Zc
  have hch:∀ c,c ∉ [z,TO,i1,i2] -> c ≠ z /\ c ≠ TO /\ c ≠ i1 /\ c ≠ i2:=fun c hc=>by
   simp only [mem_cons,not_mem_nil,or_false,not_or] at hc
   exact ⟨hc.1,hc.2.1,hc.2.2.1,hc.2.2.2⟩
  have trk:∀ c o,H c = some o -> c ≠ z /\ c ≠ TO /\ c ≠ i1 /\ c ≠ i2:=fun c o e=>⟨(fun q=>by rw [q,fz.1] at e; cases e),(fun q=>by rw [q,fTO.1] at e; cases e),(fun q=>by rw [q,f1.1] at e; cases e),(fun q=>by rw [q,f2.1] at e; cases e)⟩
  have new:upd H s.heap.objs.size (.tup [x,y]) s.heap.objs.size = some (.tup [x,y]):=ak
  have I1:Inv X pins σ (upd H s.heap.objs.size (.tup [x,y])) { s with heap:=h'' }:=by
   refine I.step (g':=s.gens) (d':=s.drawn) (t':=s.toks) (ch:=[z,TO,i1,i2]) (fun c hc=>?_) (fun c o _ _ hc e _=>?_) (fun c o _ _ hc e _=>?_) (fun c o hc e n=>?_) (fun c o hc e=>?_) (fun c q e=>?_) (fun c o q e=>?_) (fun c q e=>?_) (fun m hm=>?_) (fun c o e=>?_) I.bare
   ·simp only [mem_cons,not_mem_nil,or_false] at hc
    rcases hc with rfl | rfl | rfl | rfl
    ·exact ⟨fz.2.2.2.1,fz.2.1,fz.2.2.2.2.1,fz.2.2.2.2.2⟩
    ·exact ⟨fTO.2.2.2.1,fTO.2.1,fTO.2.2.2.2.1,fTO.2.2.2.2.2⟩
    ·exact ⟨f1.2.2.2.1,f1.2.1,f1.2.2.2.2.1,f1.2.2.2.2.2⟩
    ·exact ⟨f2.2.2.2.1,f2.2.1,f2.2.2.2.2.1,f2.2.2.2.2.2⟩
   ·obtain ⟨q1,q2,q3,q4⟩:=hch c hc
    exact kk c o q1 q2 q3 q4 e
   ·obtain ⟨q1,q2,q3,q4⟩:=hch c hc
    exact ⟨o.slots,kk c o q1 q2 q3 q4 e⟩
   ·rw [aQ (lt e)]; exact n
   ·obtain ⟨q1,q2,q3,q4⟩:=hch c hc
    exact ⟨o,kk c o q1 q2 q3 q4 e⟩
   ·rw [aQ (aK e hfr)]; exact e
   ·rw [aQ (aK e hfr)]; exact e
   ·exact ⟨#[],by rw [aQ (aK e hfr),e]; simp⟩
   ·obtain ⟨o,es,ep,ho,r⟩:=hm
    exact ⟨o,es,ep,kk _ o (Ne.symm fz.2.1) (Ne.symm fTO.2.1) (Ne.symm f1.2.1) (Ne.symm f2.2.1) ho,r⟩
   ·by_cases hcT:c = s.heap.objs.size
    ·subst hcT
     rw [ak] at e
     cases e
     exact ⟨by show 2 <= sizeLine; decide,[u,v],.cons ru (.cons rv2 .nil),⟨_,hT,rfl,_,rfl⟩⟩
    ·rw [aQ hcT] at e
     obtain ⟨q1,q2,q3,q4⟩:=trk c o e
     refine (I.hok c o e).stay (fun d w' hd q=>?_) (fun d q=>?_) fun d w' q=>?_
     ·have:d ≠ z /\ d ≠ TO /\ d ≠ i1 /\ d ≠ i2:=by
       rcases hd with rfl | hd
       ·exact ⟨q1,q2,q3,q4⟩
       ·exact trk d _ hd
      exact kk d w' this.1 this.2.1 this.2.2.1 this.2.2.2 q
     ·rw [aQ (aK q hfr)]; exact q
     ·rw [aQ (aK q hfr)]; exact q
  refine ⟨.ref s.heap.objs.size,_,I1,rfl,⟨s.heap.objs.size,x,y,rfl,hfr,fun zs hq'=>by rw [I.list_inj hq' hq]; exact hx,fun zs hq'=>by rw [I.list_inj hq' hq2]; exact hy,rfl⟩,?_,fun c hc=>?_⟩
  ·exact ⟨hz',kk TI _ D.TIz D.TITO D.TIi1 D.TIi2 hTI,⟨u,v,(hs'.2 TO D.TOz).trans a2⟩,a3.at fun o e=>(hs'.2 i1 D.i1z).trans e,a4.at fun o e=>(hs'.2 i2 D.i2z).trans e⟩
  ·have hc0:=(hf c hc).1
   have hne:c ≠ s.heap.objs.size:=by
    simp only [mem_cons,not_mem_nil,or_false] at hc
    rcases hc with rfl | rfl | rfl | rfl | rfl
    ·exact lt hz
    ·exact lt hTI
    ·exact lt hTO
    ·obtain ⟨_,e,_⟩:=h1; exact lt e
    ·obtain ⟨_,e,_⟩:=h2; exact lt e
   rw [aQ hne]; exact hc0
 done:=by
  intro X hP hw hK hc i pins s σ H E I hf st hg
  subst hP hw hK
  obtain ⟨xs,ys,hq,hq2,hend⟩:=hg
  obtain ⟨hz,hTI,⟨u0,v0,hTO⟩,h1,h2⟩:=st
  obtain ⟨us,rv,p,hsz⟩:=I.list hq
  obtain ⟨ws,rw',p',hsz'⟩:=I.list hq2
  have l1:=rv.length
  have l2:=rw'.length
  refine wpAny_pyNext_zip_end (I.ok.hd hc) D hz hTI hTO h1 h2 p.isList p'.isList (by rcases hend with q | q; exact .inl Zg; exact .inr Zg) fun h' hk=>⟨rfl,?_⟩
  have fz:=hf z Zc
  have fTO:=hf TO Zc
  have f1:=hf i1 Zc
  have f2:=hf i2 Zc
  have hch:∀ c,c ∉ [z,TO,i1,i2] -> c ≠ z /\ c ≠ TO /\ c ≠ i1 /\ c ≠ i2:=fun c hc=>by
   simp only [mem_cons,not_mem_nil,or_false,not_or] at hc
   exact ⟨hc.1,hc.2.1,hc.2.2.1,hc.2.2.2⟩
  have trk:∀ c o,H c = some o -> c ≠ z /\ c ≠ TO /\ c ≠ i1 /\ c ≠ i2:=fun c o e=>⟨(fun q=>by rw [q,fz.1] at e; cases e),(fun q=>by rw [q,fTO.1] at e; cases e),(fun q=>by rw [q,f1.1] at e; cases e),(fun q=>by rw [q,f2.1] at e; cases e)⟩
  refine I.step (H':=H) (g':=s.gens) (d':=s.drawn) (t':=s.toks) (ch:=[z,TO,i1,i2]) (fun c hc=>?_) (fun c o _ _ hc e _=>?_) (fun c o _ _ hc e _=>?_) (fun c o hc e n=>n) (fun c o hc e=>?_) (fun c q e=>e) (fun c o q e=>e) (fun c q e=>⟨#[],by rw [e]; simp⟩) (fun m hm=>?_) (fun c o e=>?_) I.bare
  ·simp only [mem_cons,not_mem_nil,or_false] at hc
   rcases hc with rfl | rfl | rfl | rfl
   ·exact ⟨fz.2.2.2.1,fz.2.1,fz.2.2.2.2.1,fz.2.2.2.2.2⟩
   ·exact ⟨fTO.2.2.2.1,fTO.2.1,fTO.2.2.2.2.1,fTO.2.2.2.2.2⟩
   ·exact ⟨f1.2.2.2.1,f1.2.1,f1.2.2.2.2.1,f1.2.2.2.2.2⟩
   ·exact ⟨f2.2.2.2.1,f2.2.1,f2.2.2.2.2.1,f2.2.2.2.2.2⟩
  ·obtain ⟨q1,q2,q3,q4⟩:=hch c hc
   exact hk c o q1 q2 q3 q4 e
  ·obtain ⟨q1,q2,q3,q4⟩:=hch c hc
   exact ⟨o.slots,hk c o q1 q2 q3 q4 e⟩
  ·obtain ⟨q1,q2,q3,q4⟩:=hch c hc
   exact ⟨o,hk c o q1 q2 q3 q4 e⟩
  ·obtain ⟨o,es,ep,ho,r⟩:=hm
   exact ⟨o,es,ep,hk _ o (Ne.symm fz.2.1) (Ne.symm fTO.2.1) (Ne.symm f1.2.1) (Ne.symm f2.2.1) ho,r⟩
  ·obtain ⟨q1,q2,q3,q4⟩:=trk c o e
   refine (I.hok c o e).stay (fun d w' hd q=>?_) (fun d q=>q) fun d w' q=>q
   have:d ≠ z /\ d ≠ TO /\ d ≠ i1 /\ d ≠ i2:=by
    rcases hd with rfl | hd
    ·exact ⟨q1,q2,q3,q4⟩
    ·exact trk d _ hd
   exact hk d w' this.1 this.2.1 this.2.2.1 this.2.2.2 q
 self:=fun A i s Q E st h=>wpAny_pyIter_zip st.1 h
section
variable {X:Cx} {K:Frag}
def Tt(K:Frag)(ta:TA):TI:=fun σ H R=>ta σ H fun vs H1=>∃ a b,vs=[.ref a,.ref b]/\(∃ xs,SqL K H1 a xs)/\(∃ ys,SqL K H1 b ys)/\R (Itz K a b) H1
theorem Qf{a b:Expr}{ta:TA}{p pos:Pos}{elts:List Expr}{x1:Nat}{tpos:Pos}(hg:Gl X "zip")(hm:X.mg "zip" = none)(ha:PA X [a,b] ta)(hs:starEach [a,b] X.env=[(false,eval a X.env),(false,eval b X.env)]:=by rfl)(hs2:starEach [b] X.env=[(false,eval b X.env)]:=by rfl) :
  PI X (.Tuple elts x1 tpos) (.Call (.Name "zip" p) [a,b] [] pos) (Tt X.K ta):=by
 intro pins s σ H R I h
 refine Call_ (oh I hg hm boot_zip (PyProof.Rows.callWith_type1 (thn (ha pos pins s σ H _ I h) fun us s1 ⟨vs,H1,I1,r1,q1⟩=>?_) (by rw[hs,hs2]) (by rw[hs2];rfl)))
 obtain⟨a1,b1,e,⟨xs,hx⟩,⟨ys,hy⟩,q⟩:=q1
 subst e
 obtain⟨u,u2,rfl,rx,ry⟩:=vals2 r1
 cases rx;cases ry
 obtain⟨vs1,_,p1,_⟩:=I1.list hx
 obtain⟨vs2,_,p2,_⟩:=I1.list hy
 have lt1:a1<s1.heap.objs.size:=by obtain⟨o,e,_⟩:=p1.isList;exact Heap.lt_size e
 have lt2:b1<s1.heap.objs.size:=by obtain⟨o,e,_⟩:=p2.isList;exact Heap.lt_size e
 refine call_zip_2 p1.isList p2.isList fun h' z1 z2 z3 z4 z5 z6 zk=>?_
 refine wpAny_pyIter_zip z1 ?_
 have I2:Inv X pins σ H1 {s1 with heap:=h'}:=I1.kept (t':=s1.toks) zk
 refine⟨_,[s1.heap.objs.size+4,s1.heap.objs.size+2,s1.heap.objs.size+3,s1.heap.objs.size,s1.heap.objs.size+1],_,_,H1,rfl,I2,K1 a1 b1 _ _ _ _ _ (zipApart_new lt1 lt2),⟨z1,z2,⟨_,_,z3⟩,z4,z5⟩,fun c hc=>?_,q⟩
 have hle:s1.heap.objs.size<=c:=by
  simp only[mem_cons,not_mem_nil,or_false]at hc
  rcases hc with h|h|h|h|h <;> rw[h] <;> omega
 exact I1.fpOk hle (I1.hok.fresh hle)
theorem Mq{a b:Expr}{ta:TA}{p pos:Pos}{elts:List Expr}{x1:Nat}{tpos:Pos}(h:X.K=K)(hg:Gl X "zip")(hm:X.mg "zip" = none)(ha:PA X [a,b] ta)(hs:starEach [a,b] X.env=[(false,eval a X.env),(false,eval b X.env)]:=by rfl)(hs2:starEach [b] X.env=[(false,eval b X.env)]:=by rfl) :
  PI X (.Tuple elts x1 tpos) (.Call (.Name "zip" p) [a,b] [] pos) (Tt K ta):=by subst h;exact Qf hg hm ha hs hs2
theorem jR{es:List Expr}{k:Nat}{t:TGs}{n:Nat}{pos:Pos}(hK:X.K=K)(hc:X.calm=true)(h:PGs X es t)
  (hn:(assignEach es X.env).length=n:=by rfl)(hst:(assignEach es X.env).findIdx? (·.1)=none:=by rfl):PG X (.Tuple es k pos) (Q8 K n t):=by subst hK;exact Ra hc h hn hst
end
theorem Kr {K:Frag} {a b:Addr} {xs ys:List V} {te:TE} {τ0:St} {H:Hp} {Fin:List V -> Hp -> Prop} (f:Nat -> V) (hn:xs.length <= sizeLine) (hl:xs.length = ys.length) (ha:SqL K H a xs) (hb:SqL K H b ys)
  (hte:∀ (i:Nat) x y H' Q,xs[i]? = some x -> ys[i]? = some y -> aB H H' -> (∀ H'',aB H' H'' -> Q (f i) H'') -> te ((τ0.set 0 (some x)).set 1 (some y)) H' Q)
  (hfin:∀ H',aB H H' -> Fin ((List.range xs.length).map f) H'):mF (Q8 K 2 (Ng (dC 0) (Ng (dC 1) Tq))) qW te (Itz K a b) τ0 H Fin:=by
 refine ⟨fun i m τ zs H'=>m = xs.length - i /\ i <= xs.length /\ zs = (List.range i).map f /\ aB H H' /\ ∃ u v,τ = (τ0.set 0 u).set 1 v \/ τ = τ0,⟨xs.length,rfl,zero_le _,rfl,aB.refl _,none,none,.inr rfl⟩,?_⟩
 rintro i m τ zs H' ⟨rfl,hi,rfl,sm,u,v,hτ⟩
 by_cases hlt:i < xs.length
 ·have hx:xs[i]? = some xs[i]:=by simp [hlt]
  have hy:ys[i]? = some (ys[i]'Zb):=by simp [show i < ys.length by omega]
  refine .inr ⟨⟨xs,ys,_,_,sm.seq ha,sm.seq hb,hx,hy⟩,fun x H'' y=>?_⟩
  obtain ⟨p,x1,y1,rfl,hp,e1,e2,rfl⟩:=y
  have e3:x1 = xs[i]:=by have:=e1 xs (sm.seq ha); rw [hx] at this; exact (Option.some.inj this).symm
  have e4:y1 = ys[i]'Zb:=by have:=e2 ys (sm.seq hb); rw [hy] at this; exact (Option.some.inj this).symm
  subst e3; subst e4
  have sm2:aB H' (upd H' p (.tup [xs[i],ys[i]'Zb])):=aB.new hp
  refine ⟨p,_,rfl,SqT.of ak,rfl,_,_,rfl,_,_,rfl,rfl,?_⟩
  have e5:(τ.set 0 (some xs[i])).set 1 (some (ys[i]'Zb)) = (τ0.set 0 (some xs[i])).set 1 (some (ys[i]'Zb)):=by
   rcases hτ with rfl | rfl
   ·rw [List.set_comm (l:=List.set τ0 0 u) _ _ (show (1:Nat) ≠ 0 by decide),set_set,set_set]
   ·rfl
  unfold qW
  rw [e5]
  dsimp only
  rw [if_pos rfl]
  refine hte i _ _ _ _ hx hy (sm.trans sm2) fun H4 s4=>?_
  refine ⟨by rw [length_map,length_range]; omega,xs.length - (i + 1),Zb,rfl,hlt,by rw [range_succ,map_append]; rfl,sm.trans (sm2.trans s4),_,_,.inl rfl⟩
 ·have e:i = xs.length:=by omega
  subst e
  exact .inl ⟨⟨xs,ys,sm.seq ha,sm.seq hb,.inl (le_refl _)⟩,hfin H' sm⟩
def J9(lo st:Int)(n:Nat):It:=⟨fun i _=>i<n,fun i H x H'=>H'=H/\x=.int (lo+(i:Nat)*st),fun i _=>n<=i⟩
theorem El{P:Program}{w:World}{K:Frag}{tg:Expr}(it:Addr)(lo st:Int)(n:Nat):Turn P w K tg (J9 lo st n) [it] it (fun i h=>IsRangeIter h it (lo+(i:Nat)*st) ((n:Int) - (i:Nat)) st) where
 mem:=by simp
 obj:=fun i h s b hb=>by
  have e:b=it:=by simpa using hb
  subst e
  exact⟨_,s,fun v z=>by
   have z':Data.fields _=Data.cell v:=z
   cases z'⟩
 keep:=fun i h h' s k=>k it Zc _ s
 item:=by
  intro X hP hw hK hc i pins s σ H E I hf stt hg
  subst hP hw hK
  obtain⟨f0,f1,f2,f3,f4,f5⟩:=hf it Zc
  have W:=Walks.range (prog:=X.prog) (w:=X.w) (I.ok.hd hc) it lo st n
  refine W.item i s _ _ hg stt fun v h' tk hv st' kk=>?_
  obtain⟨t,rfl⟩:=hv
  have I1:Inv X pins σ H {s with heap:=h',toks:=tk}:=I.turned (fun b o hb e=>kk b o (by simpa using hb) e) f0 f1 f3 f4 f5
  exact⟨_,rfl,Df (s:={s with heap:=h',toks:=tk}) (n := "range_iterator") st' rfl rfl Za ⟨.int (lo+(i:Nat)*st),H,I1,⟨t,rfl⟩,⟨rfl,rfl⟩,st',fun b hb=>(hf b hb).1⟩⟩
 done:=by
  intro X hP hw hK hc i pins s σ H E I hf st hg
  subst hP hw hK
  obtain⟨f0,f1,f2,f3,f4,f5⟩:=hf it Zc
  exact wpAny_pyNext_range_end (I.ok.hd hc) st (by have:n<=i:=hg;omega) fun h' eb=>⟨rfl,I.turned (t':=s.toks) (fun b o hb e=>eb b o hb e) f0 f1 f3 f4 f5⟩
 self:=fun _ _ _ _ _ st h=>wpAny_pyIter_rangeiter st h
section
variable {X:Cx} {K:Frag} {tg:Expr}
def T7(ta:TA):TI:=fun σ H R=>ta σ H fun vs H1=>∃ i j c:Int,vs=[.int i,.int j,.int c]/\c≠0/\c.natAbs<1073741824/\Builtin.Range.small i j c=true/\0<=Builtin.Range.rangeSize i j c/\R (J9 i c (Builtin.Range.rangeSize i j c).toNat) H1
theorem zu{a b c:Expr}{ta:TA}{p pos:Pos}(hg:Gl X "range")(hm:X.mg "range" = none)(ha:PA X [a,b,c] ta)(he:starEach [a,b,c] X.env=(false,eval a X.env)::starEach [b,c] X.env:=by rfl)(hpl:(backTo pos (starEach [b,c] X.env)).any (·.1)=false:=by rfl) :
  PI X tg (.Call (.Name "range" p) [a,b,c] [] pos) (T7 ta):=by
 intro pins s σ H R I h
 refine Call_ (oh I hg hm boot_range (PyProof.Rows.callWith_type1 (thn (ha pos pins s σ H _ I h) fun us s1 ⟨vs,H1,I1,r1,q1⟩=>?_) he hpl))
 obtain⟨i,j,k,e,hk,hk2,hsm,hn,q⟩:=q1
 subst e
 cases r1 with
 | cons r rr =>
  cases rr with
  | cons r' rr =>
   cases rr with
   | cons r'' rr =>
    cases rr
    obtain⟨t,rfl⟩:=r
    obtain⟨t',rfl⟩:=r'
    obtain⟨t'',rfl⟩:=r''
    refine call_range_3 hk ?_ (.inl (PyProof.noPylong_small hk2))
    refine wpAny_pyIter_range (IsRange.new ..) hsm ?_
    have I2:Inv X pins σ H1 {s1 with heap:=s1.heap.push {cls:=.type "range",data:=.fields #[.int i t,.int j t',.int k t'']},toks:=s1.toks}:=I1.kept fun b o e=>Heap.get?_push_of_some _ e
    refine⟨_,[(s1.heap.push {cls:=.type "range",data:=.fields #[.int i t,.int j t',.int k t'']}).objs.size],_,_,H1,rfl,
     I2.kept (t':=s1.toks) fun b o e=>Heap.get?_push_of_some _ e,El _ i k (Builtin.Range.rangeSize i j k).toNat,?_,fun b hb=>?_,q⟩
    ·have e1:i+((0:Nat):Int)*k=i:=by simp
     have e2:(((Builtin.Range.rangeSize i j k).toNat:Nat):Int) - ((0:Nat):Int)=Builtin.Range.rangeSize i j k:=by omega
     show IsRangeIter _ _ (i+((0:Nat):Int)*k) ((((Builtin.Range.rangeSize i j k).toNat:Nat):Int) - ((0:Nat):Int)) k
     rw[e1,e2]
     exact Heap.get?_push_size _ rfl
    ·have e:b=(s1.heap.push {cls:=.type "range",data:=.fields #[.int i t,.int j t',.int k t'']}).objs.size:=by simpa using hb
     subst e
     exact I2.fpOk (le_refl _) (I2.hok.fresh (le_refl _))
end
theorem yf {lo st:Int} {n:Nat} {g:TG} {tb:TS} {D:Ends} {σ:St} {H:Hp} (Pv:Nat -> St -> Hp -> Prop) (h0:Pv 0 σ H)
  (hs:∀ (i:Nat) σ H,i < n -> Pv i σ H -> g (.int (lo + (i:Nat) * st)) σ H fun σ2 H2=>tb { D with nx:=Pv (i + 1),ct:=Pv (i + 1),bk:=D.nx } σ2 H2) (hd:∀ σ H,Pv n σ H -> D.nx σ H) :
  ∃ W:Nat -> Nat -> St -> Hp -> Prop,(∃ m,W 0 m σ H) /\ ∀ i m σ H,W i m σ H ->
   ((J9 lo st n).stop i H /\ D.nx σ H) \/ ((J9 lo st n).go i H /\ ∃ N:St -> Hp -> Prop,(∀ σ' H',N σ' H' -> ∃ m',m' < m /\ W (i + 1) m' σ' H') /\ ∀ x H',(J9 lo st n).yld i H x H' -> g x σ H' fun σ2 H2=>tb { D with nx:=N,ct:=N,bk:=D.nx } σ2 H2):=by
 refine ⟨fun i m σ H=>m = n - i /\ i <= n /\ Pv i σ H,⟨n,Zc,zero_le _,h0⟩,?_⟩
 rintro i m σ H ⟨rfl,hi,p⟩
 by_cases hlt:i < n
 ·refine .inr ⟨hlt,Pv (i + 1),fun σ' H' p'=>⟨n - (i + 1),Zb,rfl,hlt,p'⟩,fun x H' y=>?_⟩
  obtain ⟨e,y⟩:=y
  subst e y
  exact hs i σ _ hlt p
 ·have e:i = n:=by omega
  subst e
  exact .inl ⟨le_refl _,hd σ H p⟩
section
variable {X:Cx} {K:Frag}
theorem Lq(hc:X.calm=true):iy X (.builtin "any") (RK X.K fun bs=>bs.any id):=by
 intro pins s σ H xs us Q I r h
 obtain⟨p,bs,rfl,hq,q⟩:=h
 obtain⟨u,rfl,rx⟩:=vals1 r
 cases(show u=Value.ref p from rx)
 obtain⟨its,rv,pl,hz⟩:=I.list hq
 have hlen:=rv.length
 rw[length_map]at hlen
 have hne:p≠s.heap.objs.size:=by
  obtain⟨o,e,_⟩:=pl.isList
  exact ne_of_lt (Heap.lt_size e)
 refine call_any_walk (wpAny_pyIter_list pl.isList ?_)
 refine⟨s.heap.objs.size,_,_,_,_,_,fun i=>bs.getD i false,rfl,Walks.list (show X.A.in1.handled=none from I.ok.hd hc) s.heap.objs.size p hne its.toArray,⟨⟨_,Heap.get?_push_size _ rfl,rfl,rfl⟩,?_⟩,fun i v s' Q' E' hP hQ=>?_,fun h' tk kk=>?_⟩
 ·exact pl.isList.at fun o e=>Heap.get?_push_of_some _ e
 ·have e:=Ln rv (by simpa using hP)
  subst e
  exact wpAny_truthy_bool hQ
 ·have e:(List.range its.toArray.size).any (fun i=>bs.getD i false)=bs.any id:=by rw[size_toArray,<- hlen];exact range_any bs
  rw[e]
  refine⟨.bl _,H,I.kept fun b o e=>?_,rfl,q⟩
  exact kk b o (fun z=>absurd (Heap.lt_size e) (by rw[mem_singleton.mp z];exact lt_irrefl _)) (Heap.get?_push_of_some _ e)
theorem tV:iy X (.type "int") (fun xs H Q=>∃ z n,xs=[.str z]/\intText? z=some n/\z.length<=640/\Q (.int n) H):=by
 intro pins s σ H xs us Q I r h
 obtain⟨z,n,rfl,hn,hl,q⟩:=h
 obtain⟨u,rfl,t,rfl⟩:=vals1 r
 exact PySem.W.KIN.call_text hn hl ⟨.int n,H,I.tok _,⟨_,rfl⟩,q⟩
def Ui:V->List V->Hp->VK->Prop:=fun x vs H Q=>∃ z y,x=.str z/\vs=[.str y]/\Q (.bl (Txt.endswith z y)) H
theorem Ew:MtR X "str.endswith" Ui:=by
 intro pins s σ H x vs v us Q I rx rv h
 obtain⟨z,y,rfl,rfl,q⟩:=h
 obtain⟨t,rfl⟩:=rx
 obtain⟨u,rfl,t2,rfl⟩:=vals1 rv
 exact SC.endswith ⟨.bl _,H,I,rfl,q⟩
theorem nZ:OpR X (binaryOp .Mult) (fun x y H Q=>∃ z n,x=.str z/\y=.int n/\MulOk z n/\Q (.str (Txt.mul z n)) H):=by
 intro pins s σ H x y v u Q I rx ry h
 obtain⟨z,n,rfl,rfl,hm,q⟩:=h
 obtain⟨t,rfl⟩:=rx
 obtain⟨t',rfl⟩:=ry
 exact SB.mul hm fun t' k=>⟨.str _,H,I.tok k,⟨t',rfl⟩,q⟩
end
theorem Gk {K:Frag} {a:Addr} {xs:List V} {tf:TT} {te:TE} {τ0:St} {H:Hp} {Fin:List V -> Hp -> Prop} (p:V -> Bool) (hn:xs.length <= sizeLine) (hl:SqL K H a xs)
  (htf:∀ x H' (Q:Bool -> Hp -> Prop),x ∈ xs -> aB H H' -> (∀ H'',aB H' H'' -> Q (p x) H'') -> tf (τ0.set 0 (some x)) H' Q)
  (hte:∀ x H' (Q:VK),x ∈ xs -> aB H H' -> (∀ H'',aB H' H'' -> Q x H'') -> te (τ0.set 0 (some x)) H' Q)
  (hfin:∀ H',aB H H' -> Fin (xs.filter p) H'):mF (dC 0) tf te (Itl K a) τ0 H Fin:=by
 refine ⟨fun i m τ ys H'=>m = xs.length - i /\ i <= xs.length /\ ys = (xs.take i).filter p /\ aB H H' /\ ∃ v,τ = τ0.set 0 v \/ τ = τ0,⟨xs.length,rfl,zero_le _,rfl,aB.refl _,none,.inr rfl⟩,?_⟩
 rintro i m τ ys H' ⟨rfl,hi,rfl,sm,v,hτ⟩
 by_cases hlt:i < xs.length
 ·refine .inr ⟨⟨xs,xs[i],sm.seq hl,by simp [hlt]⟩,fun x H'' y=>?_⟩
  obtain ⟨e,y⟩:=y
  subst e
  have hx:=y xs (sm.seq hl)
  have e2:τ.set 0 (some x) = τ0.set 0 (some x):=by
   rcases hτ with rfl | rfl
   ·rw [set_set]
   ·rfl
  unfold dC
  rw [e2]
  have e3:(xs.take (i + 1)).filter p = (xs.take i).filter p ++ (if p x = true then [x] else []):=by
   rw [take_add_one,hx,filter_append]
   congr 1
   show [x].filter p = _
   rw [List.filter_cons]
   rfl
  refine htf x H'' _ (mem_of_getElem? hx) sm fun H4 s4=>?_
  cases hp:p x with
  | true =>
   rw [if_pos rfl]
   refine hte x H4 _ (mem_of_getElem? hx) (sm.trans s4) fun H5 s5=>?_
   refine ⟨?_,xs.length - (i + 1),Zb,rfl,hlt,?_,sm.trans (s4.trans s5),_,.inl rfl⟩
   ·have:=List.length_filter_le p (xs.take i)
    rw [length_take] at this
    omega
   ·rw [e3,hp]; rfl
  | false =>
   rw [if_neg Za]
   refine ⟨xs.length - (i + 1),Zb,rfl,hlt,?_,sm.trans s4,_,.inl rfl⟩
   rw [e3,hp]; simp
 ·have e:i = xs.length:=by omega
  subst e
  exact .inl ⟨⟨xs,sm.seq hl,le_refl _⟩,by have:=hfin H' sm; rw [take_length]; exact this⟩
end L2
namespace Mine
open PySem PySem.Spec PyProof.Rows L2 PySem.Builtin PySem.Builtin.Str
inductive Thg where
 | num (m:Nat)
 | nms (c:Bool) (ys:List Str)
structure Trm where
 sg:Int
 th:Thg
def kindOf:Thg->Str
 | .num _ => "number"
 | .nms c _=>if c=true then "call" else "path"
def wordOf:Thg->Str
 | .num m=>pJ m
 | .nms c ys=>if c=true then dotted ys++brk else dotted ys
def sgw(s:Int):Str:=if s=1 then "+" else "-"
def wordsOf:List Trm->List Str
 | []=>[]
 | t::r=>wordOf t.th::(r.map fun t=>[sgw t.sg,wordOf t.th]).flatten
def textOf(ts:List Trm):Str:=Str.join ⟨#[32]⟩ (wordsOf ts)
structure ir(ys:List Str):Prop where
 lo:ys≠[]
 hi:ys.length<=4
 nm:∀ y∈ys,cX y
def mW:Thg->Prop
 | .num m=>m<10 ^ 20
 | .nms _ ys=>ir ys
structure qg(t:Trm):Prop where
 sg:t.sg=1\/t.sg = -1
 th:mW t.th
structure cD(ts:List Trm):Prop where
 lo:ts≠[]
 hi:ts.length<=6
 ok:∀ t∈ts,qg t
 hd:∀ t,ts.head? = some t->t.sg=1
theorem kI:brk.length=2:=by decide +kernel
theorem ir.len{ys:List Str}(h:ir ys):(dotted ys).length<=36:=by
 have h1:=GD ys
 have h2:(ys.map (·.length)).sum<=ys.length*8:=pF fun y hy=>(h.nm y hy).hi
 have:=h.hi
 omega
theorem wY{th:Thg}(h:mW th):(wordOf th).length<=38:=by
 cases th with
 | num m=>exact le_trans (jQ h).2.1 Za
 | nms c ys =>
  have:=ir.len h
  cases c with
  | true=>show(dotted ys++brk).length<=38;rw[bM,kI];omega
  | false=>show(dotted ys).length<=38;omega
theorem ye:(("+": Str)).cps.toList=[43]:=by decide +kernel
theorem uV:(("-": Str)).cps.toList=[45]:=by decide +kernel
theorem Jw (s:Int):(sgw s).cps.toList = [43] \/ (sgw s).cps.toList = [45]:=by
 unfold sgw; split
 ·exact .inl ye
 ·exact .inr uV
theorem Bq(s:Int):(sgw s).length=1:=by
 rw[bZ];rcases Jw s with e|e <;> rw[e] <;> rfl
theorem uX {ts:List Trm} {x:Str} (h:x ∈ wordsOf ts):(∃ t ∈ ts,x = wordOf t.th) \/ ∃ t ∈ ts,x = sgw t.sg:=by
 cases ts with
 | nil=>simp [wordsOf] at h
 | cons t r =>
  rcases mem_cons.mp h with h | h
  ·exact .inl ⟨t,mem_cons_self,h⟩
  ·obtain ⟨l,hl,hx⟩:=List.mem_flatten.mp h
   obtain ⟨u,hu,rfl⟩:=mem_map.mp hl
   simp only [mem_cons,not_mem_nil,or_false] at hx
   rcases hx with hx | hx
   ·exact .inr ⟨u,mem_cons_of_mem _ hu,hx⟩
   ·exact .inl ⟨u,mem_cons_of_mem _ hu,hx⟩
theorem rQ{ts:List Trm}(h:ts≠[]):wordsOf ts≠[]:=by
 cases ts with
 | nil=>exact absurd rfl h
 | cons t r=>intro z;cases z
theorem blank_eq:((" " : Str))=⟨#[32]⟩:=by decide +kernel
theorem Mr(r:List Trm):((r.map fun t=>[sgw t.sg,wordOf t.th]).flatten).length=2*r.length:=by
 induction r with
 | nil=>rfl
 | cons t r ih=>rw[map_cons,flatten_cons,length_append,ih];simp;omega
theorem dz{ts:List Trm}(h:ts≠[]):(wordsOf ts).length=2*ts.length - 1:=by
 cases ts with
 | nil=>exact absurd rfl h
 | cons t r=>show(_::_).length=_;rw[length_cons,Mr,length_cons];omega
theorem Hh:∀(r:List Trm)(i:Nat)(t:Trm),r[i]? = some t ->
  ((r.map fun t=>[sgw t.sg,wordOf t.th]).flatten)[2*i]? = some (sgw t.sg)/\((r.map fun t=>[sgw t.sg,wordOf t.th]).flatten)[2*i+1]? = some (wordOf t.th)
 | [],i,t,h=>by simp at h
 | u::r,0,t,h=>by
  have:u=t:=by simpa using h
  subst this
  exact⟨rfl,rfl⟩
 | u::r,i+1,t,h=>by
  have ih:=Hh r i t (by simpa using h)
  rw[map_cons,flatten_cons,show 2*(i+1)=2*i+1+1 from by omega]
  exact ih
theorem sZ{ts:List Trm}{i:Nat}{t:Trm}(h:ts[i+1]? = some t):(wordsOf ts)[2*i+1]? = some (sgw t.sg)/\(wordsOf ts)[2*i+2]? = some (wordOf t.th):=by
 cases ts with
 | nil=>simp at h
 | cons u r=>exact Hh r i t (by simpa using h)
theorem oV{ts:List Trm}(t:Trm)(h:ts≠[]):wordsOf (ts++[t])=wordsOf ts++[sgw t.sg,wordOf t.th]:=by
 cases ts with
 | nil=>exact absurd rfl h
 | cons u r =>
  show wordOf u.th::((r++[t]).map fun t=>[sgw t.sg,wordOf t.th]).flatten=wordOf u.th::(r.map fun t=>[sgw t.sg,wordOf t.th]).flatten++[sgw t.sg,wordOf t.th]
  rw[map_append,List.flatten_append]
  simp
def gap(s:Int):Str:=if s=1 then " + " else " - "
theorem zf(s:Int):(gap s).cps.toList=32::((sgw s).cps.toList++[32]):=by
 unfold gap sgw
 split
 ·rw[ye];decide +kernel
 ·rw[uV];decide +kernel
theorem PP(s:Int):(gap s).length=3:=by
 rw[bZ,zf,length_cons,length_append,<- bZ,Bq];rfl
theorem Ed{ts:List Trm}(t:Trm)(h:ts≠[]):textOf (ts++[t])=textOf ts++gap t.sg++wordOf t.th:=by
 unfold textOf
 rw[oV t h,show wordsOf ts++[sgw t.sg,wordOf t.th]=(wordsOf ts++[sgw t.sg])++[wordOf t.th]from by simp,join_snoc _ _ _ Zc,join_snoc _ _ _ (rQ h)]
 apply cO
 simp only[bG,zf,append_assoc]
 simp
theorem wF{ts:List Trm}(h:∀ t∈ts,qg t):(textOf ts).length<=80*ts.length:=by
 unfold textOf
 have h1:=StrLaws.join_length_le ⟨#[32]⟩ (wordsOf ts)
 have e:(⟨#[32]⟩:Str).length=1:=rfl
 rw[e]at h1
 have h2:((wordsOf ts).map (·.length)).sum<=(wordsOf ts).length*38:=pF fun y hy=>by
  rcases uX hy with⟨t,ht,rfl⟩|⟨t,ht,rfl⟩
  ·exact wY (h t ht).th
  ·rw[Bq];decide
 cases ts with
 | nil=>exact le_of_eq rfl
 | cons t r =>
  have:=dz (ts:=t::r) Zc
  omega
theorem HD(k:Bool):Txt.mul brk (if k=true then 1 else 0)=if k=true then brk else Str.empty:=by cases k <;> rfl
theorem JD(a:Str):a++Str.empty=a:=by apply cO;rw[bG];simp[Str.empty]
end Mine
namespace L2
open PySem PySem.Spec PyProof.Rows
theorem gC {lo:Int} {n:Nat} {te:TE} {τ0:St} {H:Hp} {Fin:List V -> Hp -> Prop} (R:Nat -> V -> Hp -> Prop) (hm:∀ i v H' H'',R i v H' -> aB H' H'' -> R i v H'') (hn:n <= sizeLine)
  (hte:∀ (i:Nat) H' (Q:VK),i < n -> aB H H' -> (∀ v H'',aB H' H'' -> R i v H'' -> Q v H'') -> te (τ0.set 0 (some (.int (lo + i)))) H' Q)
  (hfin:∀ ys H',aB H H' -> ys.length = n -> (∀ (i:Nat) v,ys[i]? = some v -> R i v H') -> Fin ys H'):mF (dC 0) qW te (Itr lo n) τ0 H Fin:=by
 refine ⟨fun i m τ ys H'=>m = n - i /\ i <= n /\ ys.length = i /\ (∀ (j:Nat) v,ys[j]? = some v -> R j v H') /\ aB H H' /\ ∃ v,τ = τ0.set 0 v \/ τ = τ0,⟨n,rfl,zero_le _,rfl,fun j v h=>by simp at h,aB.refl _,none,.inr rfl⟩,?_⟩
 rintro i m τ ys H' ⟨rfl,hi,hl,hr,sm,v,hτ⟩
 by_cases hlt:i < n
 ·refine .inr ⟨hlt,fun x H'' y=>?_⟩
  obtain ⟨e,y⟩:=y
  subst e y
  have e2:τ.set 0 (some (V.int (lo + i))) = τ0.set 0 (some (V.int (lo + i))):=by
   rcases hτ with rfl | rfl
   ·rw [set_set]
   ·rfl
  unfold dC qW
  rw [e2]
  dsimp only
  rw [if_pos rfl]
  refine hte i H'' _ hlt sm fun v H4 s4 hv=>?_
  refine ⟨Zb,n - (i + 1),Zb,rfl,hlt,by rw [length_append,hl]; rfl,fun j u hj=>?_,sm.trans s4,_,.inl rfl⟩
  by_cases hji:j < ys.length
  ·rw [getElem?_append_left hji] at hj
   exact hm _ _ _ _ (hr j u hj) s4
  ·rw [getElem?_append_right Zb] at hj
   have hj0:j - ys.length = 0:=by
    cases hh:j - ys.length with
    | zero=>rfl
    | succ k=>rw [hh] at hj; simp at hj
   rw [hj0] at hj
   have:j = i:=by omega
   subst this
   have:v = u:=by simpa using hj
   subst this
   exact hv
 ·have e:i = n:=by omega
  subst e
  exact .inl ⟨le_refl _,hfin ys H' sm hl hr⟩
theorem iH {K:Frag} {a:Addr} {xs:List V} {te:TE} {τ0:St} {H:Hp} {Fin:List V -> Hp -> Prop} (f:Nat -> V) (hn:xs.length <= sizeLine) (hl:SqL K H a xs)
  (hte:∀ (i:Nat) x H' (Q:VK),xs[i]? = some x -> aB H H' -> (∀ H'',aB H' H'' -> Q (f i) H'') -> te (τ0.set 0 (some x)) H' Q)
  (hfin:∀ H',aB H H' -> Fin ((List.range xs.length).map f) H'):mF (dC 0) qW te (Itl K a) τ0 H Fin:=by
 refine ⟨fun i m τ ys H'=>m = xs.length - i /\ i <= xs.length /\ ys = (List.range i).map f /\ aB H H' /\ ∃ v,τ = τ0.set 0 v \/ τ = τ0,⟨xs.length,rfl,zero_le _,rfl,aB.refl _,none,.inr rfl⟩,?_⟩
 rintro i m τ ys H' ⟨rfl,hi,rfl,sm,v,hτ⟩
 by_cases hlt:i < xs.length
 ·refine .inr ⟨⟨xs,xs[i],sm.seq hl,by simp [hlt]⟩,fun x H'' y=>?_⟩
  obtain ⟨e,y⟩:=y
  subst e
  have hx:=y xs (sm.seq hl)
  have e2:τ.set 0 (some x) = τ0.set 0 (some x):=by
   rcases hτ with rfl | rfl
   ·rw [set_set]
   ·rfl
  unfold dC qW
  rw [e2]
  dsimp only
  rw [if_pos rfl]
  refine hte i x H'' _ hx sm fun H4 s4=>?_
  exact ⟨by rw [length_map,length_range]; omega,xs.length - (i + 1),Zb,rfl,hlt,by rw [range_succ,map_append]; rfl,sm.trans s4,_,.inl rfl⟩
 ·have e:i = xs.length:=by omega
  subst e
  exact .inl ⟨⟨xs,sm.seq hl,le_refl _⟩,hfin H' sm⟩
end L2
namespace Mine
open PySem PySem.Spec PyProof.Rows L2 PySem.Builtin PySem.Builtin.Str
def rE(H:Hp)(x:V):Thg->Prop
 | .num m=>x=.int ((m:Nat):Int)
 | .nms _ ys=>∃ q,x=.ref q/\H q=some (.tup (ys.map V.str))
def gG(H:Hp)(v:V)(t:Trm):Prop:=∃ p x,v=.ref p/\H p=some (.tup [.int t.sg,.str (kindOf t.th),x])/\rE H x t.th
def dw(H:Hp)(l:Addr)(ts:List Trm):Prop:=∃ xs,H l=some (.lst xs)/\xs.length=ts.length/\∀ (i:Nat) x,xs[i]? = some x->∃ t,ts[i]? = some t/\gG H x t
theorem rE.same{H H':Hp}{x:V}{th:Thg}(h:rE H x th)(s:aB H H'):rE H' x th:=by
 cases th with
 | num m=>exact h
 | nms c ys=>obtain⟨q,e,hq⟩:=h;exact⟨q,e,s _ _ hq⟩
theorem gG.same{H H':Hp}{v:V}{t:Trm}(h:gG H v t)(s:aB H H'):gG H' v t:=by
 obtain⟨p,x,e,hp,hx⟩:=h
 exact⟨p,x,e,s _ _ hp,hx.same s⟩
theorem dw.same{H H':Hp}{l:Addr}{ts:List Trm}(h:dw H l ts)(s:aB H H'):dw H' l ts:=by
 obtain⟨xs,hl,hn,hx⟩:=h
 refine⟨xs,s _ _ hl,hn,fun i x e=>?_⟩
 obtain⟨t,ht,tm⟩:=hx i x e
 exact⟨t,ht,tm.same s⟩
theorem gG.upd{H:Hp}{v:V}{t:Trm}{l:Addr}{ys:List V}{o:HO}(h:gG H v t)(hl:H l=some (.lst ys)):gG (upd H l o) v t:=by
 obtain⟨p,x,e,hp,hx⟩:=h
 refine⟨p,x,e,by rw[aQ (qi hp hl Zh)];exact hp,?_⟩
 cases hth:t.th with
 | num m=>rw[hth]at hx;exact hx
 | nms c zs =>
  rw[hth]at hx
  obtain⟨q,e,hq⟩:=hx
  exact⟨q,e,by rw[aQ (qi hq hl Zh)];exact hq⟩
theorem rE.deq {K:Frag} {H:Hp} {x y:V} {th:Thg} (h1:rE H x th) (h2:rE H y th):DEq K H 1 x y:=by
 cases th with
 | num m=>cases h1; cases h2; exact .int _
 | nms c ys =>
  obtain ⟨q,rfl,hq⟩:=h1
  obtain ⟨r,rfl,hr⟩:=h2
  refine .tup (SqT.of hq) (SqT.of hr) rfl fun i a b ha hb=>?_
  rw [ha] at hb; cases hb
  rw [getElem?_map] at ha
  cases hy:ys[i]? with
  | none=>rw [hy] at ha; cases ha
  | some z=>rw [hy] at ha; cases ha; exact .str z
theorem gG.items {K:Frag} {H:Hp} {t:Trm} {x y:V} (h1:rE H x t.th) (h2:rE H y t.th) :
  ∀ (i:Nat) a b,([.int t.sg,.str (kindOf t.th),x]:List V)[i]? = some a -> ([.int t.sg,.str (kindOf t.th),y]:List V)[i]? = some b -> DEq K H 1 a b
 | 0,a,b,ha,hb=>by cases ha; cases hb; exact .int _
 | 1,a,b,ha,hb=>by cases ha; cases hb; exact .str _
 | 2,a,b,ha,hb=>by cases ha; cases hb; exact h1.deq h2
 | i + 3,a,b,ha,hb=>by simp at ha
theorem gG.dsq{K:Frag}{H:Hp}{t:Trm}{p q:Addr}{x y:V}(hp:H p=some (.tup [.int t.sg,.str (kindOf t.th),x]))(hq:H q=some (.tup [.int t.sg,.str (kindOf t.th),y]))(h1:rE H x t.th)(h2:rE H y t.th):DSq K H p q :=
 ⟨1,[.int t.sg,.str (kindOf t.th),x],[.int t.sg,.str (kindOf t.th),y],Za,rfl,.inl ⟨SqT.of hp,SqT.of hq⟩,gG.items h1 h2⟩
theorem mG{α β:Type}(P:Nat->α->β->Prop):∀ (ys:List α) (k:Nat),(∀ (i:Nat) v,ys[i]? = some v->∃ t,P (k+i) v t)->∃ ts:List β,ts.length=ys.length/\∀ (i:Nat) v,ys[i]? = some v->∃ t,ts[i]? = some t/\P (k+i) v t
 | [],k,_=>⟨[],rfl,fun i v h=>by simp at h⟩
 | y::ys,k,h=>by
  obtain⟨t0,h0⟩:=h 0 y rfl
  obtain⟨ts,hl,ht⟩:=mG P ys (k+1) fun i v e=>by
   have:=h (i+1) v (by simpa using e)
   rwa [show k+(i+1)=k+1+i from by omega]at this
  refine⟨t0::ts,by simp[hl],fun i v e=>?_⟩
  cases i with
  | zero=>cases e;exact⟨t0,rfl,h0⟩
  | succ i =>
   obtain⟨t,e2,p⟩:=ht i v (by simpa using e)
   refine⟨t,by simpa using e2,?_⟩
   rwa [show k+(i+1)=k+1+i from by omega]
theorem Ko(xs:List V):dO xs (some 1) none=xs.drop 1:=by
 unfold dO
 have e:HT.sIx xs.length 0 (some 1)=min 1 xs.length:=HT.sIx_nat xs.length 0 1
 rw[e,HT.sIx_none]
 cases xs with
 | nil=>rfl
 | cons a r =>
  rw[show min 1 (a::r).length=1 from by simp]
  exact take_of_length_le Zc
theorem log2_small{m:Nat}(h:m<10 ^ 20):m.log2<1920:=by
 by_cases h0:m=0
 ·subst h0;decide
 ·exact Nat.lt_trans ((Nat.log2_lt h0).mpr (Nat.lt_trans h (by decide:10 ^ 20<2 ^ 70))) Za
theorem FW(k:Bool):MulOk brk (if k=true then 1 else 0):=by
 cases k
 ·exact⟨Za,fun z=>absurd Za z,fun z=>absurd Za z⟩
 ·exact⟨Za,fun _ z=>(by cases z),fun _ z=>(by cases z)⟩
end Mine
namespace L2
open PySem PySem.Spec PyProof.Rows PySem.W
section
variable {X:Cx} {x:Str} {pos:Pos}
theorem DW{y:Addr}(h:X.mg x=some (.ref y))(hg:Gl X x:=by rfl)(hd:(x==("__debug__" : Str))=false:=by decide):PE X (.Name x pos) (tC (.ref y)):=vL hg h rfl hd
def Sx(K:Frag):List V->Hp->VK->Prop:=fun xs H Q=>∃ x t c b,xs=[x,.ref c]/\qU K H x t/\kitOne K t (.ref c)=some b/\Q (.bl b) H
theorem fB:iy X (.builtin "isinstance") (Sx X.K):=by
 intro pins s σ H xs us Q I r h
 obtain⟨x,t,c,b,rfl,ty,e,q⟩:=h
 obtain⟨u,u2,rfl,rx,ry⟩:=vals2 r
 cases(show u2=Value.ref c from ry)
 exact yV I rx ty e fun tk=>⟨.bl b,H,I.tok tk,rfl,q⟩
end
structure RCl(K:Frag)(C:Addr):Prop where
 cl:Cls K C
 ha:findIn K (.ref C) "__class__" = some (some (.builtin "object.__class__"))
 hn:specialIn K (.builtin "object.__class__") "__get__" = some (some (.builtin "getset_descriptor.__get__"))
 htk:takesIn K (.builtin "object.__class__")=some true
 hm:mroIn K C (.type "object")=some true
theorem RCl.ty{K:Frag}{C a dx:Addr}{H:Hp}{fs:List (Str×V)}(c:RCl K C)(e:H a=some (.ins C dx fs)):qU K H (.ref a) (.ref C):=.ins e c.cl c.ha c.hn c.htk c.hm
structure MkN(K:Frag)(C:Addr):Prop where
 makes:makesIn K C=true
 init:findIn K (.ref C) "__init__" = some (some (.builtin "object.__init__"))
 kp:keepIn K (.ref C)=true
section
variable {X:Cx} {C:Addr} {x:Str} {p pos:Pos}
end
section
variable {X:Cx} {C f:Addr} {k:Nat} {fd:FuncData} {ps:List Str} {sp:Sp} {x:Str} {p pos:Pos} {e:Expr} {es:List Expr} {t:TA}
theorem u9(M:Mk X.K C f)(b:Binds X.K fd ps [])(G:aO X.prog X.w X.K X.mg X.base CX0 k f fd ps sp)(hr:bw (k+1) X.A)(hm:X.mg x=some (.ref C))(ha:PA X (e::es) t)(hg:Gl X x:=by rfl)
  (hdb:(x==("__debug__" : Str))=false:=by decide)(he:starEach (e::es) X.env=(false,eval e X.env)::starEach es X.env:=by rfl)(hpl:(backTo pos (starEach es X.env)).any (·.1)=false:=by rfl) :
  PE X (.Call (.Name x p) (e::es) [] pos) (Qk C sp [] E0 t):=Nt M G hr hg hm b .nil vf ha hdb he hpl
end
def VM(P:Program)(w:World)(K:Frag)(mg:MG)(base:Heap)(k:Nat)(C:Addr)(m:Str)(sp:Sp):Prop:=∃ f fd ps,Meth K C m f/\aO P w K mg base CX0 k f fd ps sp/\Binds K fd ps []
def MV(P:Program)(w:World)(K:Frag)(mg:MG)(base:Heap)(k:Nat)(m:Str)(x:V)(H:Hp)(Q:VK):Prop :=
 ∃ a C dx fs sp,x=.ref a/\H a=some (.ins C dx fs)/\fs.lookup m=none/\Cls K C/\VM P w K mg base k C m sp/\sp [x] H Q E0
def Rc(P:Program)(w:World)(K:Frag)(mg:MG)(base:Heap)(k:Nat)(m:Str)(ta:TE):TE:=fun σ H Q=>ta σ H fun x H1=>MV P w K mg base k m x H1 Q
section
variable {X:Cx} {P:Program} {w:World} {K:Frag} {mg:MG} {base:Heap} {k:Nat} {m:Str} {o:Expr} {ta:TE} {pos apos:Pos}
theorem jj {pl:Sem Bool} (h1:X.prog=P) (h2:X.w=w) (h3:X.K=K) (h4:X.mg=mg) (h5:X.base=base) (hr:bw k X.A) (he:PE X o ta)
  (ht:eval (.Call (.Attribute o m apos) [] [] pos) X.env=(do
   let ov <- eval o X.env
   standAt apos.atName
   let(f,first) <- holding [ov] (getMethod ov m pl)
   callWith pos f first (backTo pos (starEach [] X.env)) (backToKw pos (keywordEach [] X.env))):=by rfl) :
  PE X (.Call (.Attribute o m apos) [] [] pos) (Rc P w K mg base k m ta):=by
 subst h1 h2 h3 h4 h5
 intro pins s σ H Q I h
 refine methodCall_KW (pl:=pl) (thn (he pins s σ H _ I h) fun u s1 hz=>?_) ht
 obtain⟨x,H1,I1,rx,a,C,dx,fs,sp,ex,ea,l,c,⟨f,fd,ps,hm,F,hb⟩,q⟩:=hz
 subst ex
 obtain rfl:u=Value.ref a:=rx
 refine sJ I1 ea c hm l ?_
 exact PySem.W.callWith_K0 (first:=[.ref a]) I1.kIn hm.kp (zy (us:=[.ref a]) (vs:=[.ref a]) (dvs:=[]) (ds:=[]) F hr hb .nil vf I1 (.cons rfl .nil) q)
end
section
variable {X:Cx} {o value:Expr} {f:Str} {pos pos':Pos} {ta tv:TE}
theorem gK(ha:PE X o ta)(hv:PE X value tv)(hs:swapsWith value (some (.Attribute o f pos')) pos.line X.env=pure false:=by rfl):QS X (.Assign [.Attribute o f pos'] value pos) (S6 X.K ta tv f):=⟨RD ha hv hs⟩
end
structure MAt(K:Frag)(m q:Str)(st:Stmt)(ps:List Str)(f:Addr)(fd:FuncData):Prop where
 F:Fun K m q st f fd
 b:Binds K fd ps []
theorem rdF{K:Frag}{H:Hp}{a C dx:Addr}{fs:List (Str×V)}{v:V}{f:Str}{q:V->Prop}(ha:H a=some (.ins C dx fs))(c:Cls K C)(n:dq K C f)(l:fs.lookup f=some v)(h:q v) :
  ∃ a' C' dx' fs' v',V.ref a=.ref a'/\H a'=some (.ins C' dx' fs')/\Cls K C'/\dq K C' f/\fs'.lookup f=some v'/\q v':=⟨a,C,dx,fs,v,rfl,ha,c,n,l,h⟩
theorem uQ{p:Nat->Prop}(h0:p 0)(h1:p 1)(h2:p 2)(h3:p 3)(h4:p 4)(h5:p 5)(h6:p 6)(i:Nat)(h:i<=6):p i:=by
 cases i with
 | zero=>exact h0
 | succ i=>cases i with
  | zero=>exact h1
  | succ i=>cases i with
   | zero=>exact h2
   | succ i=>cases i with
    | zero=>exact h3
    | succ i=>cases i with
     | zero=>exact h4
     | succ i=>cases i with
      | zero=>exact h5
      | succ i=>cases i with
       | zero=>exact h6
       | succ i=>exact absurd h Zb
theorem nH{H:Hp}{p b:Addr}{o:HO}(h:upd H p o b=none):H b=none/\b≠p:=by
 unfold upd at h
 split at h
 ·cases h
 ·exact⟨h,‹_›⟩
theorem lkP{f:Str}{y:V}{fs:List (Str×V)}:(oE f y fs).lookup f=some y:=by rw[mD,if_pos rfl]
theorem lkN{f g:Str}{y:V}{fs:List (Str×V)}(h:¬g=f):(oE f y fs).lookup g=fs.lookup g:=by rw[mD,if_neg h]
theorem Dw{f:Str}{y:V}{fs:List (Str×V)}{n:Nat}(h:fs.length<n):(oE f y fs).length<n+1:=by have:=ql f y fs;omega
theorem aB.seqT {K:Frag} {H H':Hp} {a:Addr} {xs:List V} (e:aB H H') (h:SqT K H a xs):SqT K H' a xs:=by
 rcases h with (h | ⟨o,h⟩) | h
 ·exact .inl (.inl (e _ _ h))
 ·exact .inl (.inr ⟨o,e _ _ h⟩)
 ·exact .inr h
def SameBut(x:Addr)(H H':Hp):Prop:=∀ b o,H b=some o->b≠x->H' b=some o
theorem sb3{H:Hp}{x l:Addr}{o1 o2 o3:HO}(hl:H l=none):SameBut x H (upd (upd (upd H x o1) l o2) x o3):=fun b o e hb=>by
 rw[aQ hb,aQ (aK e hl),aQ hb];exact e
theorem sb2{H:Hp}{x l:Addr}{o1 o2:HO}(hl:H l=none):SameBut x H (upd (upd H l o1) x o2):=fun b o e hb=>by
 rw[aQ hb,aQ (aK e hl)];exact e
theorem bf{K:Frag}{C D:Addr}{b:Bool}(m:mroIn K C (.ref D)=some b)(sD:mroIn K D (.ref D)=some true)(o:mroIn K D (.type "object")=some true)(ty:typeIn K (.ref D)=some (.type "type")):kitOne K (.ref C) (.ref D)=some b:=by
 unfold kitOne
 by_cases e:(Value.ref C==Value.ref D)=true
 ·rw[if_pos e]
  have e':C=D:=by cases eq_of_beq e;rfl
  subst e'
  rw[m]at sD;exact sD.symm
 ·rw[if_neg e]
  cases h:clsIn K D with
  | none=>unfold mroIn at o;rw[h]at o;cases o
  | some cd =>
   show(if((clsIn K D).isSome&&typeIn K (.ref D)==some (.type "type"))=true then mroIn K C (.ref D)else none)=_
   rw[h,ty,if_pos Zc,m]
theorem Gx {K:Frag} {a:Addr} {xs:List V} {g:TG} {te:TE} {τ0:St} {H:Hp} {Fin:List V -> Hp -> Prop} (S:St -> Prop) (R:Nat -> V -> Hp -> Prop) (hm:∀ i v H' H'',R i v H' -> aB H' H'' -> R i v H'') (hn:xs.length <= sizeLine) (hl:SqL K H a xs) (h0:S τ0)
  (hte:∀ (i:Nat) x τ H' (Q:St -> V -> Hp -> Prop),xs[i]? = some x -> aB H H' -> S τ -> (∀ τ2 v H'',S τ2 -> aB H' H'' -> R i v H'' -> Q τ2 v H'') -> g x τ H' fun τ2 H2=>te τ2 H2 fun y H4=>Q τ2 y H4)
  (hfin:∀ ys H',aB H H' -> ys.length = xs.length -> (∀ (i:Nat) v,ys[i]? = some v -> R i v H') -> Fin ys H'):mF g qW te (Itl K a) τ0 H Fin:=by
 refine ⟨fun i m τ ys H'=>m = xs.length - i /\ i <= xs.length /\ ys.length = i /\ (∀ (j:Nat) v,ys[j]? = some v -> R j v H') /\ aB H H' /\ S τ,⟨xs.length,rfl,zero_le _,rfl,fun j v h=>by simp at h,aB.refl _,h0⟩,?_⟩
 rintro i m τ ys H' ⟨rfl,hi,hyl,hr,sm,hS⟩
 by_cases hlt:i < xs.length
 ·refine .inr ⟨⟨xs,xs[i],sm.seq hl,by simp [hlt]⟩,fun x H'' y=>?_⟩
  obtain ⟨e,y⟩:=y
  subst e
  have hx:=y xs (sm.seq hl)
  have key:=hte i x τ H'' (fun τ2 y H4=>ys.length < sizeLine /\ ∃ m',m' < xs.length - i /\ (m' = xs.length - (i + 1) /\ i + 1 <= xs.length /\ (ys ++ [y]).length = i + 1 /\ (∀ (j:Nat) v,(ys ++ [y])[j]? = some v -> R j v H4) /\ aB H H4 /\ S τ2)) hx sm hS fun τ2 v H4 s2 s4 hv=>by
   refine ⟨Zb,xs.length - (i + 1),Zb,rfl,hlt,by rw [length_append,hyl]; rfl,fun j u hj=>?_,sm.trans s4,s2⟩
   by_cases hji:j < ys.length
   ·rw [getElem?_append_left hji] at hj
    exact hm _ _ _ _ (hr j u hj) s4
   ·rw [getElem?_append_right Zb] at hj
    have hj0:j - ys.length = 0:=by
     cases hh:j - ys.length with
     | zero=>rfl
     | succ k=>rw [hh] at hj; simp at hj
    rw [hj0] at hj
    have:j = i:=by omega
    subst this
    have:v = u:=by simpa using hj
    subst this
    exact hv
  exact key
 ·have e:i = xs.length:=by omega
  subst e
  exact .inl ⟨⟨xs,sm.seq hl,le_refl _⟩,hfin ys H' sm hyl hr⟩
theorem JT {K:Frag} {a:Addr} {xs:List V} {te:TE} {τ0:St} {H:Hp} {Fin:List V -> Hp -> Prop} (f:Nat -> V) (hn:xs.length <= sizeLine) (hl:SqT K H a xs)
  (hte:∀ (i:Nat) x H' (Q:VK),xs[i]? = some x -> aB H H' -> (∀ H'',aB H' H'' -> Q (f i) H'') -> te (τ0.set 0 (some x)) H' Q)
  (hfin:∀ H',aB H H' -> Fin ((List.range xs.length).map f) H'):mF (dC 0) qW te (Itt K a) τ0 H Fin:=by
 refine ⟨fun i m τ ys H'=>m = xs.length - i /\ i <= xs.length /\ ys = (List.range i).map f /\ aB H H' /\ ∃ v,τ = τ0.set 0 v \/ τ = τ0,⟨xs.length,rfl,zero_le _,rfl,aB.refl _,none,.inr rfl⟩,?_⟩
 rintro i m τ ys H' ⟨rfl,hi,rfl,sm,v,hτ⟩
 by_cases hlt:i < xs.length
 ·refine .inr ⟨⟨xs,xs[i],sm.seqT hl,by simp [hlt]⟩,fun x H'' y=>?_⟩
  obtain ⟨e,y⟩:=y
  subst e
  have hx:=y xs (sm.seqT hl)
  have e2:τ.set 0 (some x) = τ0.set 0 (some x):=by
   rcases hτ with rfl | rfl
   ·rw [set_set]
   ·rfl
  unfold dC qW
  rw [e2]
  dsimp only
  rw [if_pos rfl]
  refine hte i x H'' _ hx sm fun H4 s4=>?_
  exact ⟨by rw [length_map,length_range]; omega,xs.length - (i + 1),Zb,rfl,hlt,by rw [range_succ,map_append]; rfl,sm.trans s4,_,.inl rfl⟩
 ·have e:i = xs.length:=by omega
  subst e
  exact .inl ⟨⟨xs,sm.seqT hl,le_refl _⟩,hfin H' sm⟩
theorem len0{α:Type}{us:List α}(h:us.length=0):us=[]:=List.length_eq_zero_iff.mp h
theorem Hk{α:Type}{us:List α}{n:Nat}(h:us.length=n+1):∃ a r,us=a::r/\r.length=n:=by
 cases us with
 | nil=>cases h
 | cons a r=>exact⟨a,r,rfl,Nat.succ.inj h⟩
theorem T5{α:Type}{us:List α}(h:us.length=1):∃ a,us=[a]:=by
 obtain⟨a,r,rfl,k⟩:=Hk h
 exact⟨a,by rw[len0 k]⟩
theorem T3{α:Type}{us:List α}(h:us.length=2):∃ a b,us=[a,b]:=by
 obtain⟨a,r,rfl,k⟩:=Hk h
 obtain⟨b,rfl⟩:=T5 k
 exact⟨a,b,rfl⟩
theorem TX{α:Type}{us:List α}(h:us.length=3):∃ a b c,us=[a,b,c]:=by
 obtain⟨a,r,rfl,k⟩:=Hk h
 obtain⟨b,c,rfl⟩:=T3 k
 exact⟨a,b,c,rfl⟩
theorem Wq{α:Type}{us:List α}(h:us.length=4):∃ a b c d,us=[a,b,c,d]:=by
 obtain⟨a,r,rfl,k⟩:=Hk h
 obtain⟨b,c,d,rfl⟩:=TX k
 exact⟨a,b,c,d,rfl⟩
theorem Ik(xs:List V)(lo hi:Option Int):(dO xs lo hi).length<=xs.length:=by
 unfold dO
 rw[length_take,length_drop]
 omega
theorem Jc {K:Frag} {H:Hp} {a b:Addr} {bs:List Bool} (ha:H a = some (.lst (bs.map V.bl))) (hb:H b = some (.lst (bs.map V.bl))):DSq K H a b :=
 ⟨0,_,_,Za,rfl,.inr ⟨SqL.of ha,SqL.of hb⟩,fun i x y ex ey=>by
  rw [ex] at ey; cases ey
  rw [getElem?_map] at ex
  cases e:bs[i]? with
  | none=>rw [e] at ex; cases ex
  | some z=>rw [e] at ex; cases ex; exact .bl _⟩
theorem CJ {K:Frag} {H:Hp} {a b:Addr} {bs:List Str} (ha:H a = some (.lst (bs.map V.str))) (hb:H b = some (.lst (bs.map V.str))):DSq K H a b :=
 ⟨0,_,_,Za,rfl,.inr ⟨SqL.of ha,SqL.of hb⟩,fun i x y ex ey=>by
  rw [ex] at ey; cases ey
  rw [getElem?_map] at ex
  cases e:bs[i]? with
  | none=>rw [e] at ex; cases ex
  | some z=>rw [e] at ex; cases ex; exact .str _⟩
end L2
namespace Mine
open PySem PySem.Spec PyProof.Rows L2 PySem.Builtin PySem.Builtin.Str
structure bC where
 so:Nat
 nm:Str
 ad:Str
 wd:Str
 ts:List Trm
def cu:Nat->Str
 | 0 => "let"
 | 1 => "deed"
 | 2 => "draw"
 | 3 => "late"
 | 4 => "take"
 | _ => "need"
structure mj(ys:List Str):Prop where
 lo:ys≠[]
 hi:ys.length<=3
 nm:∀ y∈ys,cX y
structure GoodR(r:bC):Prop where
 so:r.so<=5
 nm:r.so<5->cX r.nm
 no:r.so=5->r.nm = ""
 ad:∃ ys,mj ys/\r.ad=dotted ys
 wd:cX r.wd
 ts:cD r.ts
 dd:r.so=1->∀ t∈r.ts,∀ ys,t.th≠.nms true ys
theorem mj.len{ys:List Str}(h:mj ys):(dotted ys).length<=36:=ir.len ⟨h.lo,le_trans h.hi Za,h.nm⟩
theorem GoodR.nl{r:bC}(h:GoodR r):r.nm.length<=8:=by
 rcases lt_or_ge r.so 5 with k|k
 ·exact(h.nm k).hi
 ·rw[h.no (by have:=h.so;omega)];decide
theorem GoodR.al{r:bC}(h:GoodR r):r.ad.length<=36:=by
 obtain⟨ys,g,e⟩:=h.ad
 rw[e];exact g.len
theorem GoodR.tl{r:bC}(h:GoodR r):(textOf r.ts).length<=480:=by
 have:=wF (ts:=r.ts) fun t ht=>h.ts.ok t ht
 have:=h.ts.hi
 omega
def bO(r:bC):Str:=match r.so with
 | 0 => "let " ++ r.nm ++ " be " ++ textOf r.ts
 | 1 => "deed " ++ r.nm ++ " be " ++ textOf r.ts
 | 2 => "draw " ++ r.ad ++ " as " ++ r.nm
 | 3 => "late " ++ r.ad ++ " as " ++ r.nm
 | 4 => "take " ++ r.wd ++ " from " ++ r.ad ++ " as " ++ r.nm
 | _ => "need " ++ textOf r.ts
def jV(r:bC):List Str:=if r.so=2\/r.so=3\/r.so=4 then[r.ad]else[]
theorem tE:(("let " : Str)).length=4:=by decide +kernel
theorem pQ:(("deed " : Str)).length=5:=by decide +kernel
theorem qm:(("draw " : Str)).length=5:=by decide +kernel
theorem qd:(("late " : Str)).length=5:=by decide +kernel
theorem dX:(("take " : Str)).length=5:=by decide +kernel
theorem ut:(("need " : Str)).length=5:=by decide +kernel
theorem jx:((" be " : Str)).length=4:=by decide +kernel
theorem d7:((" as " : Str)).length=4:=by decide +kernel
theorem len_from:((" from " : Str)).length=6:=by decide +kernel
theorem abS{a b:Str}{m n:Nat}(ha:a.length<=m)(hb:b.length<=n)(h:m+n<=1000:=by decide):a.length+b.length<=sizeLine:=le_trans (Nat.add_le_add ha hb) (le_trans h Ka)
theorem alS{a b:Str}{m n:Nat}(ha:a.length<=m)(hb:b.length<=n):(a++b).length<=m+n:=by rw[bM];exact Nat.add_le_add ha hb
def Ge(H:Hp)(v:V)(lt:Addr)(r:bC):Prop:=∃ p,v=.ref p/\H p=some (.tup [.str (cu r.so),.str r.nm,.str r.ad,.str r.wd,.ref lt])/\dw H lt r.ts
structure Nk(H:Hp)(fs:List (Str×V))(l:Addr)(r:bC):Prop where
 nm:r.so<5->fs.lookup ("name" : Str)=some (.str r.nm)
 tm:r.so=0\/r.so=1\/r.so=5->fs.lookup ("terms" : Str)=some (.ref l)/\dw H l r.ts
 ad:r.so=2\/r.so=3\/r.so=4->fs.lookup ("address" : Str)=some (.str r.ad)
 wd:r.so=4->fs.lookup ("word" : Str)=some (.str r.wd)
 nb:fs.lookup ("binds" : Str)=none
 na:fs.lookup ("asked" : Str)=none
 ns:fs.lookup ("said" : Str)=none
def dU(C:Nat->Addr)(H:Hp)(a l:Addr)(r:bC):Prop:=∃ dx fs,H a=some (.ins (C r.so) dx fs)/\Nk H fs l r
theorem Nk.same{H H':Hp}{fs:List (Str×V)}{l:Addr}{r:bC}(h:Nk H fs l r)(s:aB H H'):Nk H' fs l r :=
 ⟨h.nm,fun k=>⟨(h.tm k).1,(h.tm k).2.same s⟩,h.ad,h.wd,h.nb,h.na,h.ns⟩
theorem dU.same{C:Nat->Addr}{H H':Hp}{a l:Addr}{r:bC}(h:dU C H a l r)(s:aB H H'):dU C H' a l r:=by
 obtain⟨dx,fs,e,f⟩:=h
 exact⟨dx,fs,s _ _ e,f.same s⟩
theorem dw.upd{H:Hp}{l d:Addr}{ts:List Trm}{ys:List V}{o:HO}(h:dw H l ts)(hd:H d=some (.lst ys))(hne:l≠d):dw (upd H d o) l ts:=by
 obtain⟨xs,hl,hn,hx⟩:=h
 refine⟨xs,by rw[aQ hne];exact hl,hn,fun i x e=>?_⟩
 obtain⟨t,ht,tm⟩:=hx i x e
 exact⟨t,ht,tm.upd hd⟩
theorem dU.upd{C:Nat->Addr}{H:Hp}{a l d:Addr}{r:bC}{ys:List V}{o:HO}(h:dU C H a l r)(hd:H d=some (.lst ys))(hne:l≠d):dU C (upd H d o) a l r:=by
 obtain⟨dx,fs,e,f⟩:=h
 exact⟨dx,fs,by rw[aQ (qi e hd Zh)];exact e,f.nm,fun k=>⟨(f.tm k).1,(f.tm k).2.upd hd hne⟩,f.ad,f.wd,f.nb,f.na,f.ns⟩
theorem gG.but{H H':Hp}{v:V}{t:Trm}{x C dx:Addr}{fs:List (Str×V)}(h:gG H v t)(hx:H x=some (.ins C dx fs))(s:SameBut x H H'):gG H' v t:=by
 obtain⟨p,y,e,hp,hy⟩:=h
 refine⟨p,y,e,s _ _ hp (qi hp hx Zh),?_⟩
 cases hth:t.th with
 | num m=>rw[hth]at hy;exact hy
 | nms c zs =>
  rw[hth]at hy
  obtain⟨q,e,hq⟩:=hy
  exact⟨q,e,s _ _ hq (qi hq hx Zh)⟩
theorem Ey{r:bC}(h:r.so=0):bO r = "let " ++ r.nm ++ " be " ++ textOf r.ts:=by unfold bO;rw[h];rfl
theorem CN{r:bC}(h:r.so=1):bO r = "deed " ++ r.nm ++ " be " ++ textOf r.ts:=by unfold bO;rw[h];rfl
theorem Di{r:bC}(h:r.so=2):bO r = "draw " ++ r.ad ++ " as " ++ r.nm:=by unfold bO;rw[h];rfl
theorem DG{r:bC}(h:r.so=3):bO r = "late " ++ r.ad ++ " as " ++ r.nm:=by unfold bO;rw[h];rfl
theorem CK{r:bC}(h:r.so=4):bO r = "take " ++ r.wd ++ " from " ++ r.ad ++ " as " ++ r.nm:=by unfold bO;rw[h];rfl
theorem Cq{r:bC}(h:r.so=5):bO r = "need " ++ textOf r.ts:=by unfold bO;rw[h];rfl
def nu(i j:Nat):Bool:=decide (i=j)||decide (j=6)
theorem wM{i j:Nat}(hi:i<=5)(hj:j<=5):decide (V.str (cu i)=V.str (cu j))=nu i j:=by
 have k:∀ i j:Fin 6,decide (V.str (cu i.val)=V.str (cu j.val))=nu i.val j.val:=by decide +kernel
 exact k ⟨i,Zb⟩ ⟨j,Zb⟩
def Rv:Thg->Thg
 | .num m=>.num m
 | .nms _ ys=>.nms false ys
def unc(t:Trm):Trm:=⟨t.sg,Rv t.th⟩
theorem Kg{t:Trm}(h:qg t):qg (unc t):=by
 refine⟨h.sg,?_⟩
 have:=h.th
 unfold unc
 cases e:t.th with
 | num m=>rw[e]at this;exact this
 | nms c ys=>rw[e]at this;exact this
theorem Io{ts:List Trm}(h:cD ts):cD (ts.map unc):=by
 refine⟨fun z=>h.lo (map_eq_nil_iff.mp z),by rw[length_map];exact h.hi,fun t ht=>?_,fun t ht=>?_⟩
 ·obtain⟨u,hu,rfl⟩:=mem_map.mp ht
  exact Kg (h.ok u hu)
 ·rw[List.head?_map]at ht
  cases e:ts.head? with
  | none=>rw[e]at ht;cases ht
  | some u=>rw[e]at ht;cases ht;exact h.hd u e
theorem Sv{ts:List Trm}:∀ t∈ts.map unc,∀ ys,t.th≠.nms true ys:=fun t ht ys z=>by
 obtain⟨u,_,rfl⟩:=mem_map.mp ht
 unfold unc at z
 cases e:u.th with
 | num m=>rw[e]at z;cases z
 | nms c zs=>rw[e]at z;cases z
theorem Mz(th:Thg):atI [V.str "path",V.str (kindOf th)] (if decide (V.str (kindOf th)=V.str "number")=true then 1 else 0)=some (V.str (kindOf (Rv th))):=by
 cases th with
 | num m=>rw[decide_eq_true (show V.str (kindOf (.num m))=V.str "number" from rfl)];rfl
 | nms c ys =>
  have hk:¬V.str (kindOf (.nms c ys))=V.str "number" := by
   cases c
   ·show ¬ V.str "path" = V.str "number";decide +kernel
   ·show ¬ V.str "call" = V.str "number";decide +kernel
  rw[decide_eq_false hk]
  rfl
end Mine
namespace L2
open PySem PySem.Spec PyProof.Rows PySem.W
section
variable {X:Cx} {pos:Pos} {t:TS}
end
theorem tO(xs:List V)(k:Nat):dO xs (some (k:Int)) none=xs.drop k:=by
 unfold dO
 rw[HT.sIx_none,HT.sIx_nat]
 rw[take_of_length_le (by rw[length_drop];exact le_refl _)]
 by_cases h:k<=xs.length
 ·rw[min_eq_left h]
 ·rw[Nat.min_eq_right Zb,List.drop_length,List.drop_eq_nil_of_le Zb]
end L2
namespace Mine
open PySem PySem.Spec PyProof.Rows L2 PySem.Builtin PySem.Builtin.Str
def fP(r:bC):List Str:=match r.so with
 | 0 => "let" :: r.nm :: "be" :: wordsOf r.ts
 | 1 => "deed" :: r.nm :: "be" :: wordsOf r.ts
 | 2=>["draw",r.ad, "as",r.nm]
 | 3=>["late",r.ad, "as",r.nm]
 | 4=>["take",r.wd, "from",r.ad, "as",r.nm]
 | _ => "need" :: wordsOf r.ts
theorem Pq{ys:List Str}(h:mj ys):32∉(dotted ys).cps.toList:=fun k=>by
 rcases oK h.nm k with e|e
 ·cases e
 ·omega
theorem rH(ts:List Trm):(textOf ts).cps.toList=inter 32 ((wordsOf ts).map (·.cps.toList)):=bD 32 _
theorem RX:(("let " : Str)).cps.toList=(("let" : Str)).cps.toList++[32]:=by decide +kernel
theorem O8:(("deed " : Str)).cps.toList=(("deed" : Str)).cps.toList++[32]:=by decide +kernel
theorem PB:(("draw " : Str)).cps.toList=(("draw" : Str)).cps.toList++[32]:=by decide +kernel
theorem PK:(("late " : Str)).cps.toList=(("late" : Str)).cps.toList++[32]:=by decide +kernel
theorem Pa:(("take " : Str)).cps.toList=(("take" : Str)).cps.toList++[32]:=by decide +kernel
theorem O2:(("need " : Str)).cps.toList=(("need" : Str)).cps.toList++[32]:=by decide +kernel
theorem QH:((" be " : Str)).cps.toList=32::((("be" : Str)).cps.toList++[32]):=by decide +kernel
theorem J6:((" as " : Str)).cps.toList=32::((("as" : Str)).cps.toList++[32]):=by decide +kernel
theorem Qi:((" from " : Str)).cps.toList=32::((("from" : Str)).cps.toList++[32]):=by decide +kernel
theorem bu(c:Nat)(x:List Nat){W:List (List Nat)}(h:W≠[]):inter c (x::W)=x++c::inter c W:=by
 cases W with
 | nil=>exact absurd rfl h
 | cons y r=>rfl
theorem gF(c:Nat)(x:List Nat):inter c [x]=x:=rfl
theorem xj{ts:List Trm}(h:cD ts):(wordsOf ts).map (fun y:Str=>y.cps.toList)≠[]:=fun z=>rQ h.lo (map_eq_nil_iff.mp z)
theorem JN{r:bC}(g:GoodR r):bO r=Str.join ⟨#[32]⟩ (fP r):=by
 obtain⟨so,nn,aa,ww,tt⟩:=r
 have h5:so<=5:=g.so
 have gt:cD tt:=g.ts
 have hc:so=0\/so=1\/so=2\/so=3\/so=4\/so=5:=by omega
 apply cO
 rw[bD]
 rcases hc with rfl|rfl|rfl|rfl|rfl|rfl
 ·rw[Ey rfl]
  show(("let " : Str)++nn ++ " be " ++ textOf tt).cps.toList=inter 32 ((("let" : Str)::nn :: "be" :: wordsOf tt).map (·.cps.toList))
  rw[bG,bG,bG,rH,RX,QH,map_cons,map_cons,map_cons,bu 32 _ Zc,bu 32 _ Zc,bu 32 _ (xj gt)]
  simp only[append_assoc,cons_append,nil_append]
 ·rw[CN rfl]
  show(("deed " : Str)++nn ++ " be " ++ textOf tt).cps.toList=inter 32 ((("deed" : Str)::nn :: "be" :: wordsOf tt).map (·.cps.toList))
  rw[bG,bG,bG,rH,O8,QH,map_cons,map_cons,map_cons,bu 32 _ Zc,bu 32 _ Zc,bu 32 _ (xj gt)]
  simp only[append_assoc,cons_append,nil_append]
 ·rw[Di rfl]
  show(("draw " : Str)++aa ++ " as " ++ nn).cps.toList=inter 32 (([("draw" : Str),aa, "as",nn]).map (·.cps.toList))
  rw[bG,bG,bG,PB,J6,map_cons,map_cons,map_cons,map_cons,map_nil,bu 32 _ Zc,bu 32 _ Zc,bu 32 _ Zc,gF]
  simp only[append_assoc,cons_append,nil_append]
 ·rw[DG rfl]
  show(("late " : Str)++aa ++ " as " ++ nn).cps.toList=inter 32 (([("late" : Str),aa, "as",nn]).map (·.cps.toList))
  rw[bG,bG,bG,PK,J6,map_cons,map_cons,map_cons,map_cons,map_nil,bu 32 _ Zc,bu 32 _ Zc,bu 32 _ Zc,gF]
  simp only[append_assoc,cons_append,nil_append]
 ·rw[CK rfl]
  show(("take " : Str)++ww ++ " from " ++ aa ++ " as " ++ nn).cps.toList=inter 32 (([("take" : Str),ww, "from",aa, "as",nn]).map (·.cps.toList))
  rw[bG,bG,bG,bG,bG,Pa,Qi,J6]
  rw[map_cons,map_cons,map_cons,map_cons,map_cons,map_cons,map_nil,bu 32 _ Zc,bu 32 _ Zc,bu 32 _ Zc,bu 32 _ Zc,bu 32 _ Zc,gF]
  simp only[append_assoc,cons_append,nil_append]
 ·rw[Cq rfl]
  show(("need " : Str)++textOf tt).cps.toList=inter 32 ((("need" : Str)::wordsOf tt).map (·.cps.toList))
  rw[bG,rH,O2,map_cons,bu 32 _ (xj gt)]
  simp only[append_assoc,cons_append,nil_append]
theorem Kv{r:bC}(g:GoodR r):(bO r).length<=1000:=by
 have e1:=g.nl
 have e2:=g.al
 have e3:=g.tl
 have e4:=g.wd.hi
 obtain⟨so,nn,aa,ww,tt⟩:=r
 have h5:so<=5:=g.so
 have e1:nn.length<=8:=e1
 have e2:aa.length<=36:=e2
 have e3:(textOf tt).length<=480:=e3
 have e4:ww.length<=8:=e4
 have hc:so=0\/so=1\/so=2\/so=3\/so=4\/so=5:=by omega
 rcases hc with rfl|rfl|rfl|rfl|rfl|rfl
 ·rw[Ey rfl];simp only[bM,tE,jx];omega
 ·rw[CN rfl];simp only[bM,pQ,jx];omega
 ·rw[Di rfl];simp only[bM,qm,d7];omega
 ·rw[DG rfl];simp only[bM,qd,d7];omega
 ·rw[CK rfl];simp only[bM,dX,len_from,d7];omega
 ·rw[Cq rfl];simp only[bM,ut];omega
end Mine
namespace En
open PySem PySem.Spec PyProof.Rows
section
variable {prog:Program} {w:World} {A:Around} {E:EV} {s:Shared}
theorem next_item {e j l:Addr} {i:Nat} {k:Int} {its:Array Value} {x old:Value} {Q:Option Value->Shared->Prop}
  (q1:IsEnum s.heap e j k old) (q2:s.heap.IsListIter j l i) (q3:s.heap.IsList l its) (q4:its[i]? = some x) (ne:e≠j)
  (kQ:∀ h',IsEnumOut h' e j (k+1) x s.heap.objs.size->h'.IsListIter j l (i+1)->h'.get? s.heap.objs.size=some {cls:=.type "tuple",data:=.seq #[.int k s.toks,x]} ->
   (∀ b o,b≠e->b≠j->s.heap.get? b=some o->h'.get? b=some o)->Q (some (.ref s.heap.objs.size)) {s with heap:=h',toks:=s.toks+1}) :
  wpAny (model prog w) A (pyNext (.ref e)) Q E s:=by
 have ty:s.TypeIs (.ref e) "enumerate" := ⟨_,q1,rfl⟩
 unfold pyNext
 refine wpAny_bind (wpAny_attempt (wpAny_callSpecial?_slot (name:=Str.ofString "__next__") ty F.slot_enumerate_next (wpAny_call_entry F.slot_enumerate_next ty F.entry_enumerate_next ?_ (F.args_enumerate_next_1 _))))
 obtain⟨hp,g,d,tk,os⟩:=s
 show wpAny _ _ (field (.ref e) 2 >>= _) _ _ _
 refine wpAny_bind (wpAny_field q1 rfl (x:=.ref j) rfl (wpAny_bind (wpAny_nextOf_list_item q2 q3 q4 fun h1 r1 z1=>?_)))
 replace z1:Heap.SameBut j hp h1:=z1
 have a1:IsEnum h1 e j k old:=(z1.2 e ne).trans q1
 show wpAny _ _ (field (.ref e) 3 >>= _) _ _ ⟨h1,g,d,tk,os⟩
 refine wpAny_bind (wpAny_field a1 rfl (x:=rawInt k) rfl ?_)
 show wpAny _ _ (field (.ref e) 4 >>= _) _ _ ⟨h1,g,d,tk,os⟩
 refine wpAny_bind (wpAny_field a1 rfl (x:=.none) rfl ?_)
 show wpAny _ _ (mkInt k >>= _) _ _ ⟨h1,g,d,tk,os⟩
 refine wpAny_bind (wpAny_mkInt ?_)
 show wpAny _ _ (setField (.ref e) 3 (rawInt (k+1)) >>= _) _ _ ⟨h1,g,d,tk+1,os⟩
 refine wpAny_bind (wpAny_setField_rec a1 Zc fun h2 a2 z2=>?_)
 replace z2:Heap.SameBut e h1 h2:=z2
 replace a2:IsEnum h2 e j (k+1) old:=a2
 show wpAny _ _ (setField (.ref e) 4 .none >>= _) _ _ ⟨h2,g,d,tk+1,os⟩
 refine wpAny_bind (wpAny_setField_rec a2 Zc fun h3 a3 z3=>?_)
 replace z3:Heap.SameBut e h2 h3:=z3
 replace a3:IsEnum h3 e j (k+1) old:=a3
 show wpAny _ _ (newTuple [.int k tk,x] >>= _) _ _ ⟨h3,g,d,tk+1,os⟩
 refine wpAny_bind (wpAny_newTuple ?_)
 have a4:IsEnum (h3.push {cls:=.type "tuple",data:=.seq #[.int k tk,x]}) e j (k+1) old:=Heap.get?_push_of_some _ a3
 generalize hh:h3.push {cls:=.type "tuple",data:=.seq #[.int k tk,x]}=h4 at a4
 have sz:h3.objs.size=hp.objs.size:=by rw[z3.1,z2.1,z1.1]
 have el:e<hp.objs.size:=Heap.lt_size q1
 have t4:h4.get? hp.objs.size=some {cls:=.type "tuple",data:=.seq #[.int k tk,x]}:=by rw[<- hh,<- sz];exact Heap.get?_push_size _ rfl
 have k4:∀ b o,b≠e->b≠j->hp.get? b=some o->h4.get? b=some o:=fun b o be bi hb=>by
  rw[<- hh];exact Heap.get?_push_of_some _ (z3.extBut b o be (z2.extBut b o be (z1.extBut b o bi hb)))
 have r4:h4.IsListIter j l (i+1):=by
  rw[<- hh];obtain⟨o,ho,r⟩:=(r1.extBut z2.extBut (Ne.symm ne)).extBut z3.extBut (Ne.symm ne);exact⟨o,Heap.get?_push_of_some _ ho,r⟩
 show wpAny _ _ (Builtin.SmallTypes.ownedTupleIsFree (.ref e) >>= _) _ _ ⟨h4,g,d,tk+1,os⟩
 rw[sz]
 clear hh a3 z3 a2 z2 a1 z1 r1 sz h3 h2 h1
 refine wpAny_bind ?_
 unfold Builtin.SmallTypes.ownedTupleIsFree
 refine wpAny_bind (wpAny_field a4 rfl (x:=.none) rfl (wpAny_pure ?_))
 simp only[if_true]
 refine wpAny_bind (wpAny_rule (wpAny_bind (wpAny_field a4 rfl (x:=old) rfl (wpAny_bind (wpAny_setField_rec a4 Zc fun h5 a5 z5=>?_)))))
 replace z5:Heap.SameBut e h4 h5:=z5
 replace a5:IsEnum h5 e j (k+1) x:=a5
 show wpAny _ _ (Builtin.SmallTypes.ownedTupleHandOut (.ref e) (.ref hp.objs.size) >>= _) _ _ ⟨h5,g,d,tk+1,os⟩
 refine wpAny_bind ?_
 unfold Builtin.SmallTypes.ownedTupleHandOut
 refine wpAny_bind (wpAny_setField_rec a5 Zc fun h6 a6 z6=>?_)
 replace z6:Heap.SameBut e h5 h6:=z6
 replace a6:IsEnumOut h6 e j (k+1) x hp.objs.size:=a6
 refine wpAny_setField_rec a6 Zc fun h7 a7 z7=>?_
 replace z7:Heap.SameBut e h6 h7:=z7
 replace a7:IsEnumOut h7 e j (k+1) x hp.objs.size:=a7
 refine wpAny_bind (wpAny_letGo (wpAny_pure ⟨_,rfl,wpAny_pure (kQ h7 a7 ?_ ?_ ?_)⟩))
 ·exact((r4.extBut z5.extBut (Ne.symm ne)).extBut z6.extBut (Ne.symm ne)).extBut z7.extBut (Ne.symm ne)
 ·exact z7.extBut _ _ (ne_of_gt el) (z6.extBut _ _ (ne_of_gt el) (z5.extBut _ _ (ne_of_gt el) t4))
 ·exact fun b o be bi hb=>z7.extBut b o be (z6.extBut b o be (z5.extBut b o be (k4 b o be bi hb)))
theorem next_end{e j l:Addr}{i:Nat}{k:Int}{its:Array Value}{old:Value}{Q:Option Value->Shared->Prop}(hh:A.handled=none)
  (q1:IsEnum s.heap e j k old)(q2:s.heap.IsListIter j l i)(q3:s.heap.IsList l its)(q4:its[i]? = none)
  (kQ:∀ h',Heap.ExtBut j s.heap h'->Q none {s with heap:=h'}):wpAny (model prog w) A (pyNext (.ref e)) Q E s:=by
 have ty:s.TypeIs (.ref e) "enumerate" := ⟨_,q1,rfl⟩
 unfold pyNext
 refine wpAny_bind (wpAny_attempt (wpAny_callSpecial?_slot (name:=Str.ofString "__next__") ty F.slot_enumerate_next (wpAny_call_entry F.slot_enumerate_next ty F.entry_enumerate_next ?_ (F.args_enumerate_next_1 _))))
 show wpAny _ _ (field (.ref e) 2 >>= _) _ _ _
 refine wpAny_bind (wpAny_field q1 rfl (x:=.ref j) rfl (wpAny_bind (wpAny_nextOf_list_end hh q2 q3 q4 fun h' x hx ho=>?_)))
 obtain⟨o,ho,hc⟩:=ho
 exact wpAny_bind (wpAny_isInstance (T := "StopIteration") (b:=true) ⟨o,ho,hc⟩ isSubtype_stop (wpAny_pure (kQ _ hx)))
end
end En
namespace L2
open PySem PySem.Spec PyProof.Rows
def Ite(K:Frag)(a:Addr)(k:Int):It :=
 ⟨fun i H=>∃ xs x,SqL K H a xs/\xs[i]? = some x,fun i H v H'=>∃ p x,v=.ref p/\H p=none/\(∀ xs,SqL K H a xs->xs[i]? = some x)/\H'=upd H p (.tup [.int (k+i),x]),fun i H=>∃ xs,SqL K H a xs/\xs.length<=i⟩
theorem zj{P:Program}{w:World}{K:Frag}{elts:List Expr}{x1:Nat}{tpos:Pos}(a e j:Addr)(k:Int)(ne:e≠j) :
  Turn P w K (.Tuple elts x1 tpos) (Ite K a k) [e,j] e (fun i h=>(∃ old,IsEnum h e j (k+i) old)/\h.IsListIter j a i) where
 mem:=.head _
 obj:=fun i h st c hc=>by
  obtain⟨⟨old,hz⟩,h1⟩:=st
  cases hc with
  | head=>exact⟨_,hz,fun v z=>by cases z⟩
  | tail _ hc=>cases hc with
   | head=>obtain⟨o,e,_,d⟩:=h1;exact⟨o,e,fun v z=>by rw[d]at z;cases z⟩
   | tail _ hc=>cases hc
 keep:=fun i h h' st k=>by
  obtain⟨⟨old,hz⟩,h1⟩:=st
  exact⟨⟨old,k e (.head _) _ hz⟩,h1.at fun o e=>k j (.tail _ (.head _)) o e⟩
 item:=by
  intro X hP hw hK hc i pins s σ H E I hf st hg
  subst hP hw hK
  obtain⟨xs,x,hq,hx⟩:=hg
  obtain⟨⟨old,hz⟩,h1⟩:=st
  obtain⟨us,rv,p,hsz⟩:=I.list hq
  obtain⟨u,hu,ru⟩:=rv.get hx
  have lt:∀ {c o},s.heap.get? c=some o->c≠s.heap.objs.size:=fun e=>ne_of_lt (Heap.lt_size e)
  refine En.next_item hz h1 p.isList (x:=u) (by simpa using hu) ne fun h' a1 a2 a3 hk=>?_
  refine⟨_,rfl,wpAny_letOwnedTupleGo_enum a1 fun h'' hz' hs'=>?_⟩
  have hfr:H s.heap.objs.size=none:=I.hok.fresh (le_refl _)
  have hT:h''.get? s.heap.objs.size=some {cls:=.type "tuple",data:=.seq #[.int (k+i) s.toks,u]}:=(hs'.2 _ (Ne.symm (lt hz))).trans a3
  have kk:∀ c o,c≠e->c≠j->s.heap.get? c=some o->h''.get? c=some o:=fun c o q1 q2 e'=>(hs'.2 c q1).trans (hk c o q1 q2 e')
  have fe:=hf e (.head _)
  have fj:=hf j (.tail _ (.head _))
  have hch:∀ c,c∉[e,j]->c≠e/\c≠j:=fun c hc=>⟨fun z=>hc (z▸.head _),fun z=>hc (z▸.tail _ (.head _))⟩
  have trk:∀ c o,H c=some o->c≠e/\c≠j:=fun c o q=>⟨(fun z=>by rw[z,fe.1]at q;cases q),(fun z=>by rw[z,fj.1]at q;cases q)⟩
  have I1:Inv X pins σ (upd H s.heap.objs.size (.tup [.int (k+i),x])) {s with heap:=h'',toks:=s.toks+1}:=by
   refine I.step (g':=s.gens) (d':=s.drawn) (t':=s.toks+1) (ch:=[e,j]) (fun c hc=>?_) (fun c o _ _ hc e' _=>?_) (fun c o _ _ hc e' _=>?_) (fun c o hc e' n=>?_) (fun c o hc e'=>?_) (fun c q e'=>?_) (fun c o q e'=>?_) (fun c q e'=>?_) (fun m hm=>?_) (fun c o e'=>?_) I.bare
   ·cases hc with
    | head=>exact⟨fe.2.2.2.1,fe.2.1,fe.2.2.2.2.1,fe.2.2.2.2.2⟩
    | tail _ hc=>cases hc with
     | head=>exact⟨fj.2.2.2.1,fj.2.1,fj.2.2.2.2.1,fj.2.2.2.2.2⟩
     | tail _ hc=>cases hc
   ·exact kk c o (hch c hc).1 (hch c hc).2 e'
   ·exact⟨o.slots,kk c o (hch c hc).1 (hch c hc).2 e'⟩
   ·rw[aQ (lt e')];exact n
   ·exact⟨o,kk c o (hch c hc).1 (hch c hc).2 e'⟩
   ·rw[aQ (aK e' hfr)];exact e'
   ·rw[aQ (aK e' hfr)];exact e'
   ·exact⟨#[],by rw[aQ (aK e' hfr),e'];simp⟩
   ·obtain⟨o,es,ep,ho,r⟩:=hm
    exact⟨o,es,ep,kk _ o (Ne.symm fe.2.1) (Ne.symm fj.2.1) ho,r⟩
   ·by_cases hcT:c=s.heap.objs.size
    ·subst hcT
     rw[ak]at e'
     cases e'
     exact⟨by show 2<=sizeLine;decide,[.int (k+i) s.toks,u],.cons ⟨_,rfl⟩ (.cons ru .nil),⟨_,hT,rfl,_,rfl⟩⟩
    ·rw[aQ hcT]at e'
     obtain⟨q1,q2⟩:=trk c o e'
     refine(I.hok c o e').stay (fun d w' hd q=>?_) (fun d q=>?_) fun d w' q=>?_
     ·have:d≠e/\d≠j:=by
       rcases hd with rfl|hd
       ·exact⟨q1,q2⟩
       ·exact trk d _ hd
      exact kk d w' this.1 this.2 q
     ·rw[aQ (aK q hfr)];exact q
     ·rw[aQ (aK q hfr)];exact q
  refine⟨.ref s.heap.objs.size,_,I1,rfl,⟨s.heap.objs.size,x,rfl,hfr,fun zs hq'=>by rw[I.list_inj hq' hq];exact hx,rfl⟩,?_,fun c hc=>?_⟩
  ·refine⟨⟨u,?_⟩,a2.at fun o q=>(hs'.2 j (Ne.symm ne)).trans q⟩
   have:=hz'
   rwa [show k+(i:Int)+1=k+((i+1:Nat):Int)from by omega]at this
  ·have hc0:=(hf c hc).1
   have hne:c≠s.heap.objs.size:=by
    cases hc with
    | head=>exact lt hz
    | tail _ hc=>cases hc with
     | head=>obtain⟨_,q,_⟩:=h1;exact lt q
     | tail _ hc=>cases hc
   rw[aQ hne];exact hc0
 done:=by
  intro X hP hw hK hc i pins s σ H E I hf st hg
  subst hP hw hK
  obtain⟨xs,hq,hend⟩:=hg
  obtain⟨⟨old,hz⟩,h1⟩:=st
  obtain⟨us,rv,p,hsz⟩:=I.list hq
  have l1:=rv.length
  refine En.next_end (I.ok.hd hc) hz h1 p.isList Zg fun h' hk=>⟨rfl,?_⟩
  have fj:=hf j (.tail _ (.head _))
  exact I.turned (t':=s.toks) (fun b o hb q=>hk b o hb q) fj.1 fj.2.1 fj.2.2.2.1 fj.2.2.2.2.1 fj.2.2.2.2.2
 self:=fun A i s Q E st h=>by
  obtain⟨⟨old,hz⟩,_⟩:=st
  exact wpAny_pyIter_enum hz h
section
variable {X:Cx} {K:Frag}
def Qw(K:Frag)(k:Int)(ta:TA):TI:=fun σ H R=>ta σ H fun vs H1=>∃ a,vs=[.ref a]/\(∃ xs,SqL K H1 a xs)/\R (Ite K a k) H1
theorem Oe{a:Expr}{ta:TA}{p pos:Pos}{elts:List Expr}{x1:Nat}{tpos:Pos}(hK:X.K=K)(hg:Gl X "enumerate")(hm:X.mg "enumerate" = none)(ha:PA X [a] ta)(hs:starEach [a] X.env=[(false,eval a X.env)]:=by rfl) :
  PI X (.Tuple elts x1 tpos) (.Call (.Name "enumerate" p) [a] [] pos) (Qw K 0 ta):=by
 subst hK
 intro pins s σ H R I h
 refine Call_ (oh I hg hm boot_enumerate (PyProof.Rows.callWith_type1 (thn (ha pos pins s σ H _ I h) fun us s1 ⟨vs,H1,I1,r1,q1⟩=>?_) (by rw[hs];rfl) rfl))
 obtain⟨a1,e,⟨xs,hx⟩,q⟩:=q1
 subst e
 obtain⟨u,rfl,rx⟩:=vals1 r1
 cases rx
 obtain⟨vs1,_,p1,_⟩:=I1.list hx
 refine call_enumerate_list p1.isList fun h' z1 z2 z3 zk=>?_
 refine wpAny_pyIter_enum z1 ?_
 have I2:Inv X pins σ H1 {s1 with heap:=h'}:=I1.kept (t':=s1.toks) zk
 refine⟨_,[s1.heap.objs.size+1,s1.heap.objs.size],_,_,H1,rfl,I2,zj a1 _ _ 0 (Nat.succ_ne_self _),⟨⟨_,z1⟩,z2⟩,fun c hc=>?_,q⟩
 have hle:s1.heap.objs.size<=c:=by
  cases hc with
  | head=>exact le_succ _
  | tail _ hc=>cases hc with
   | head=>exact le_refl _
   | tail _ hc=>cases hc
 exact I1.fpOk hle (I1.hok.fresh hle)
end
end L2
namespace En
open PySem PySem.Spec PyProof.Rows
open AutoSeq1 (wpAny_loadPart')
section
variable {prog:Program} {w:World} {A:Around} {E:EV} {s:Shared}
theorem PN {T nw:String} {self:Value} {rest:List Value} {x:Str × Value} {kw:List (Str × Value)} (hl:typeLookup (.type T) "__init__" = pure (some (.builtin "object.__init__")))
  (hm:Bind.madeBy (.type T) = pure (some nw)) (hn:(some nw != some "object.__new__") = true):Meets (Builtin.«object.__init__» ⟨self :: rest,x :: kw⟩) (fun _ R s=>s.TypeIs self T /\ R (.ok (.ret .none)) s):=by
 refine Meets.of_wp fun prog w A R s hs=>?_
 obtain ⟨hT,hq⟩:=hs
 cases rest with
 | nil =>
  repeat (any_goals (first | assumption | wp_step))
  exact ⟨_,rfl,hq⟩
 | cons a rest =>
  repeat (any_goals (first | assumption | wp_step))
  exact ⟨_,rfl,hq⟩
theorem Ox {T nw:String} {Bn:Builtin} {args:List Value} {x:Str × Value} {kw:List (Str × Value)} {S:PySem.Spec} {Q:EV} (ft:TypeCalled T nw "object.__init__")
  (hn:(some nw != some "object.__new__") = true) (c1:checkTypeCall T ⟨args,x :: kw⟩ = pure ()) (c2:checkBuiltinCall nw ⟨.type T :: args,x :: kw⟩ = pure ())
  (ok:∀ obj,argsOk "object.__init__" ⟨obj :: args,x :: kw⟩) (en:entryFor table nw = some Bn) (g:Meets (Bn ⟨.type T :: args,x :: kw⟩) S)
  (h:S A.in1 (wants (fun obj s₁=>s₁.TypeIs obj T /\ Q obj s₁) E) s):wpAny (model prog w) A (call (.type T) args (x :: kw)) Q E s:=by
 obtain ⟨c,tl,mro⟩:=ft.mro
 have made:=ft.made
 have sub:=ft.sub
 refine wpAny_call (codeAny_of_tree ?_)
 show wpAny _ _ (callAny (.type T) _) _ _ _
 refine wpAny_pure ⟨Code.quiet_builtin _ Ze,codeAny_builtin F.entry_type_call ?_⟩
 rw [Around.under_plain (weight_type_call_type T args (x :: kw)) (units_type_call_type T args (x :: kw))]
 have n1:=ft.notType
 have n2:=ft.canCreate
 repeat (any_goals (first | assumption | wp_step))
 refine codeAny_mono (codeAny_call_builtin ft.plain en (wpAny_of_eq c2 (g prog w A.in1 _ s h))) fun r s1 hr=>?_
 cases r with
 | error e=>exact hr
 | ok fl =>
  cases fl with
  | ret obj =>
   obtain ⟨hT,hq⟩:=hr
   have li:=ft.init.lookup
   have bi:=ft.init.bind obj
   repeat (any_goals (first | assumption | wp_step))
   refine codeAny_mono (codeAny_call_builtin ft.init.plain F.entry_object_init (ft.init.check _ _ _ _ _ _ _ _ hT (ok obj) (PN ft.init.lookup ft.made hn prog w A.in1 (wants (fun r s₂=>r = .none /\ Q obj s₂) E) s1 ⟨hT,rfl,hq⟩))) fun r2 s2 hr2=>?_
   cases r2 with
   | error e=>exact hr2
   | ok fl2 =>
    cases fl2 with
    | ret r =>
     obtain ⟨rfl,hq2⟩:=hr2
     repeat (any_goals (first | assumption | wp_step))
    | _=>exact hr2.elim
  | _=>exact hr.elim
theorem Ml(l:Addr)(items:Array Value)(n:Nat)(dct:Option Addr)(sl:Array (Option Value))(t:Tok) :
  Meets (Builtin.«enumerate.__new__» ⟨[.type "enumerate",.ref l],[("start",.int 1 t)]⟩) (fun _ R s=>s.heap.get? l=some {cls:=.type "list",dict:=dct,data:=.seq items n,slots:=sl} /\
   R (.ok (.ret (.ref (s.heap.push {cls:=.type "list_iterator",data:=.fields #[.ref l,.int 0 0]}).objs.size)))
    {s with heap:=(s.heap.push {cls:=.type "list_iterator",data:=.fields #[.ref l,.int 0 0]}).push {cls:=.type "enumerate",data:=.fields #[.none,.bool false,.ref s.heap.objs.size,rawInt 1,.none,.none]}}) :=
 .of_wp fun prog w A R s h=>by
  obtain⟨hp,g,d,tk,os⟩:=s;obtain⟨hl,h⟩:=h
  have sb:=sub_enumerate
  have hL:Heap.IsList (Shared.heap ⟨hp,g,d,tk,os⟩) l items:=⟨_,hl,rfl,n,rfl⟩
  wp_walk using wpAny_loadPart' hl
  refine wpAny_stack_any fun st=>wpAny_pure ?_
  split
  ·rename_i c _ _ _ _ _
   cases(c==Value.type "enumerate")
   ·wp_walk using wpAny_loadPart' hl,wpAny_pyIter_list hL
    exact⟨_,rfl,h⟩
   ·wp_walk using wpAny_loadPart' hl,wpAny_pyIter_list hL
    exact⟨_,rfl,h⟩
  ·wp_walk using wpAny_loadPart' hl,wpAny_pyIter_list hL
   exact⟨_,rfl,h⟩
theorem call_enum1 {l:Addr} {items:Array Value} {t:Tok} {Q:EV} (hL:s.heap.IsList l items)
  (h:∀ h',IsEnum h' (s.heap.objs.size+1) s.heap.objs.size 1 .none->h'.IsListIter s.heap.objs.size l 0->(∀ b o,s.heap.get? b=some o->h'.get? b=some o)->Q (.ref (s.heap.objs.size+1)) {s with heap:=h'}) :
  wpAny (model prog w) A (call (.type "enumerate") [.ref l] [("start",.int 1 t)]) Q E s:=by
 obtain⟨⟨c,dct,dt,sl⟩,hl,hc,n,hd⟩:=hL
 replace hc:c=.type "list" := hc
 replace hd:dt=.seq items n:=hd
 subst hc hd
 refine Ox F.called_enumerate Za Zf Zf (fun obj=>by unfold argsOk;kernel_rfl) F.entry_enumerate_new (Ml l items n dct sl t) ⟨hl,?_⟩
 have hz:(s.heap.push {cls:=.type "list_iterator",data:=.fields #[.ref l,.int 0 0]}).objs.size=s.heap.objs.size+1:=Heap.size_push ..
 show _/\_
 rw[hz]
 have he:IsEnum ((s.heap.push {cls:=.type "list_iterator",data:=.fields #[.ref l,.int 0 0]}).push {cls:=.type "enumerate",data:=.fields #[.none,.bool false,.ref s.heap.objs.size,rawInt 1,.none,.none]}) (s.heap.objs.size+1) s.heap.objs.size 1 .none:=by
  have z:=Heap.get?_push_size (s.heap.push {cls:=.type "list_iterator",data:=.fields #[.ref l,.int 0 0]}) (o:={cls:=.type "enumerate",data:=.fields #[.none,.bool false,.ref s.heap.objs.size,rawInt 1,.none,.none]}) rfl
  rw[hz]at z;exact z
 exact⟨⟨_,he,rfl⟩,h _ he ⟨_,Heap.get?_push_of_some _ (Heap.get?_push_size _ rfl),rfl,rfl⟩ fun b o x=>Heap.get?_push_of_some _ (Heap.get?_push_of_some _ x)⟩
theorem with_kw {M:Model} {pos:Pos} {T:String} {args:List (Bool×Sem Value)} {ks:List (Option Str×Sem Value)} {Q:EV} (hp:args.any (·.1)=false) (hk:ks.any (·.1.isNone)=false)
  (h:wpAny M A (evalArgs (.type T) true args ks) (fun a s₁=>wpAny M A (call (.type T) a.pos a.kw) Q E s₁) E s):wpAny M A (callWith pos (.type T) [] args ks) Q E s:=by
 unfold callWith
 refine wpAny_bind (wpAny_holding (wpAny_mono h (fun a s1 z=>wpAny_bind (wpAny_standAt ?_)) fun _ _ x=>x))
 simp only[hp,hk,Bool.or_false]
 exact wpAny_bind (wpAny_pure (wpAny_bind (wpAny_mono z (fun r s2 y=>wpAny_bind (wpAny_holding (wpAny_point (wpAny_pure y)))) fun _ _ x=>x)))
end
end En
namespace L2
open PySem PySem.Spec PyProof.Rows
section
variable {X:Cx} {K:Frag}
theorem La{a:Expr}{ta:TA}{p pos kp cp:Pos}{n:Nat}{elts:List Expr}{x1:Nat}{tpos:Pos}(hK:X.K=K)(hg:Gl X "enumerate")(hm:X.mg "enumerate" = none)(ha:PA X [a] ta)(hs:starEach [a] X.env=[(false,eval a X.env)]:=by rfl) :
  PI X (.Tuple elts x1 tpos) (.Call (.Name "enumerate" p) [a] [⟨some "start",.Constant (.int 1) n cp,kp⟩] pos) (Qw K 1 ta):=by
 subst hK
 intro pins s σ H R I h
 have he:backTo pos (starEach [a] X.env)=(false,eval a X.env)::backTo pos []:=by rw[hs];rfl
 refine wpAny_Call_Name_kw (oh I hg hm boot_enumerate (En.with_kw (by rw[he];rfl) rfl ?_))
 rw[he]
 refine evalArgs_kwB rfl ?_
 rw[<- he]
 refine thn (ha pos pins s σ H _ I h) fun us s1 ⟨vs,H1,I1,r1,q1⟩=>kws_cons (thn (aq pins s1 σ H1 (fun v H2=>v=.int 1/\H2=H1) I1 ⟨rfl,rfl⟩) fun kv s2 ⟨y,H2,I2,ry,ey,eH⟩=>kws_nil ?_)
 subst ey eH
 obtain⟨tk,rfl⟩:=ry
 obtain⟨a1,e,⟨xs,hx⟩,q⟩:=q1
 subst e
 obtain⟨u,rfl,rx⟩:=vals1 r1
 cases rx
 obtain⟨vs1,_,p1,_⟩:=I2.list hx
 show wpAny _ _ (call (.type "enumerate") [.ref a1] [("start",.int 1 tk)]) _ _ _
 refine En.call_enum1 p1.isList fun h' z1 z2 zk=>?_
 refine wpAny_pyIter_enum z1 ?_
 have I3:Inv X pins σ H2 {s2 with heap:=h'}:=I2.kept (t':=s2.toks) zk
 refine⟨_,[s2.heap.objs.size+1,s2.heap.objs.size],_,_,H2,rfl,I3,zj a1 _ _ 1 (Nat.succ_ne_self _),⟨⟨_,z1⟩,z2⟩,fun c hc=>?_,q⟩
 have hle:s2.heap.objs.size<=c:=by
  cases hc with
  | head=>exact le_succ _
  | tail _ hc=>cases hc with
   | head=>exact le_refl _
   | tail _ hc=>cases hc
 exact I2.fpOk hle (I2.hok.fresh hle)
end
theorem Fd {K:Frag} {a:Addr} {k:Int} {xs:List V} {g:TG} {tb:TS} {D:Ends} {σ:St} {H:Hp} (Pv:Nat -> St -> Hp -> Prop) (h0:Pv 0 σ H) (hl:∀ i σ H,i <= xs.length -> Pv i σ H -> SqL K H a xs)
  (hs:∀ (i:Nat) x p σ H,xs[i]? = some x -> Pv i σ H -> H p = none -> g (.ref p) σ (upd H p (.tup [.int (k + i),x])) fun σ2 H2=>tb { D with nx:=Pv (i + 1),ct:=Pv (i + 1),bk:=D.nx } σ2 H2) (hd:∀ σ H,Pv xs.length σ H -> D.nx σ H) :
  ∃ W:Nat -> Nat -> St -> Hp -> Prop,(∃ m,W 0 m σ H) /\ ∀ i m σ H,W i m σ H ->
   ((Ite K a k).stop i H /\ D.nx σ H) \/ ((Ite K a k).go i H /\ ∃ N:St -> Hp -> Prop,(∀ σ' H',N σ' H' -> ∃ m',m' < m /\ W (i + 1) m' σ' H') /\ ∀ x H',(Ite K a k).yld i H x H' -> g x σ H' fun σ2 H2=>tb { D with nx:=N,ct:=N,bk:=D.nx } σ2 H2):=by
 refine ⟨fun i m σ H=>m = xs.length - i /\ i <= xs.length /\ Pv i σ H,⟨xs.length,Zc,zero_le _,h0⟩,?_⟩
 rintro i m σ H ⟨rfl,hi,p⟩
 have q:=hl i σ H hi p
 by_cases hlt:i < xs.length
 ·refine .inr ⟨⟨xs,xs[i],q,by simp [hlt]⟩,Pv (i + 1),fun σ' H' p'=>⟨xs.length - (i + 1),Zb,rfl,hlt,p'⟩,fun x H' y=>?_⟩
  obtain ⟨p0,x0,rfl,hp,hx,rfl⟩:=y
  exact hs i x0 p0 σ _ (hx xs q) p hp
 ·have e:i = xs.length:=by omega
  subst e
  exact .inl ⟨⟨xs,q,le_refl _⟩,hd σ H p⟩
theorem Es {K:Frag} {a:Addr} {xs:List V} {tf:TT} {te:TE} {τ0:St} {H:Hp} {Fin:List V -> Hp -> Prop} (p:Nat -> Bool) (f:Nat -> V) (hn:xs.length <= sizeLine) (hl:SqL K H a xs)
  (htf:∀ (i:Nat) x H' (Q:Bool -> Hp -> Prop),xs[i]? = some x -> aB H H' -> (∀ H'',aB H' H'' -> Q (p i) H'') -> tf (τ0.set 0 (some x)) H' Q)
  (hte:∀ (i:Nat) x H' (Q:VK),xs[i]? = some x -> aB H H' -> (∀ H'',aB H' H'' -> Q (f i) H'') -> te (τ0.set 0 (some x)) H' Q)
  (hfin:∀ H',aB H H' -> Fin (((List.range xs.length).filter p).map f) H'):mF (dC 0) tf te (Itl K a) τ0 H Fin:=by
 refine ⟨fun i m τ ys H'=>m = xs.length - i /\ i <= xs.length /\ ys = ((List.range i).filter p).map f /\ aB H H' /\ ∃ v,τ = τ0.set 0 v \/ τ = τ0,⟨xs.length,rfl,zero_le _,rfl,aB.refl _,none,.inr rfl⟩,?_⟩
 rintro i m τ ys H' ⟨rfl,hi,rfl,sm,v,hτ⟩
 by_cases hlt:i < xs.length
 ·have hx:xs[i]? = some xs[i]:=by simp [hlt]
  refine .inr ⟨⟨xs,xs[i],sm.seq hl,hx⟩,fun x H'' y=>?_⟩
  obtain ⟨rfl,y⟩:=y
  have ex:x = xs[i]:=by have:=y xs (sm.seq hl); rw [hx] at this; exact (Option.some.inj this).symm
  subst ex
  have e5:τ.set 0 (some xs[i]) = τ0.set 0 (some xs[i]):=by
   rcases hτ with rfl | rfl
   ·rw [set_set]
   ·rfl
  show tf (τ.set 0 (some xs[i])) _ _
  rw [e5]
  refine htf i _ _ _ hx sm fun H3 s3=>?_
  have fe:(List.range (i + 1)).filter p = (List.range i).filter p ++ (if p i = true then [i] else []):=by
   rw [range_succ,filter_append]
   by_cases h:p i = true
   ·rw [if_pos h,List.filter_cons_of_pos h,List.filter_nil]
   ·rw [if_neg h,List.filter_cons_of_neg h,List.filter_nil]
  cases hp:p i with
  | true =>
   dsimp only
   rw [if_pos rfl]
   refine hte i _ _ _ hx (sm.trans s3) fun H4 s4=>?_
   refine ⟨?_,xs.length - (i + 1),Zb,rfl,hlt,?_,sm.trans (s3.trans s4),_,.inl rfl⟩
   ·rw [length_map]
    have:=List.length_filter_le p (List.range i)
    rw [length_range] at this
    omega
   ·rw [fe,if_pos hp,map_append]; rfl
  | false =>
   dsimp only
   refine ⟨xs.length - (i + 1),Zb,rfl,hlt,?_,sm.trans s3,_,.inl rfl⟩
   rw [fe,if_neg (by rw [hp]; exact Bool.false_ne_true),append_nil]
 ·have e:i = xs.length:=by omega
  subst e
  exact .inl ⟨⟨xs,sm.seq hl,le_refl _⟩,hfin H' sm⟩
section
variable {X:Cx} {e:Expr} {te:TE} {pos:Pos}
end
section
variable {X:Cx}
end
theorem Fo(xs:List V)(k:Nat):dO xs none (some (k:Int))=xs.take k:=by
 unfold dO
 rw[HT.sIx_none,HT.sIx_nat,List.drop_zero,Nat.sub_zero]
 by_cases h:k<=xs.length
 ·rw[min_eq_left h]
 ·rw[Nat.min_eq_right Zb,take_length,take_of_length_le Zb]
theorem Oq{xs:List V}{n:Nat}(f:Nat->V)(hl:xs.length=n)(h:∀ (i:Nat) v,xs[i]? = some v->v=f i):xs=(List.range n).map f:=by
 apply ext_getElem
 ·rw[length_map,length_range,hl]
 ·intro i h1 h2
  rw[h i _ (getElem?_eq_getElem h1)]
  simp
theorem yO{α:Type}[DecidableEq α]:∀ (as bs:List α),as.Nodup->(∀ x∈as,x∈bs)->as.length<=bs.length
 | [],bs,_,_=>zero_le _
 | a::as,bs,h,hs=>by
  have h2:=nodup_cons.mp h
  have ha:=hs a Zc
  have h3:=yO as (bs.erase a) h2.2 fun x hx=>by
   have hne:x≠a:=fun e=>h2.1 (by rw[<- e];exact hx)
   exact(List.mem_erase_of_ne hne).mpr (hs x (mem_cons_of_mem _ hx))
  rw[List.length_erase_of_mem ha]at h3
  have h4:0<bs.length:=List.length_pos_of_mem ha
  rw[length_cons]
  omega
end L2
namespace Mine
open PySem PySem.Spec PyProof.Rows L2 PySem.Builtin PySem.Builtin.Str
def nj(ks:List Int):Str:=⟨(ks.map fun k=>97+k.toNat).toArray⟩
def sr(ks:List Int):Prop:=∀ k∈ks,0<=k/\k<26
theorem sU(ks:List Int):(nj ks).cps.toList=ks.map fun k=>97+k.toNat:=by simp[nj]
theorem M8(ks:List Int):(nj ks).length=ks.length:=by simp[nj,Str.length]
theorem Qz{ks:List Int}(h1:1<=ks.length)(h8:ks.length<=8)(h:sr ks):cX (nj ks):=⟨by rw[M8];exact h1,by rw[M8];exact h8,fun n hn=>by
 rw[sU]at hn
 obtain⟨k,hk,rfl⟩:=mem_map.mp hn
 have:=h k hk
 omega⟩
theorem Tc{ks ls:List Int}(e:nj ks=nj ls)(hk:sr ks)(hl:sr ls){i:Nat}{a b:Int}(ha:ks[i]? = some a)(hb:ls[i]? = some b):a=b:=by
 have e2:(nj ks).cps.toList[i]? = (nj ls).cps.toList[i]?:=by rw[e]
 rw[sU,sU,getElem?_map,getElem?_map,ha,hb]at e2
 have e3:97+a.toNat=97+b.toNat:=Option.some.inj e2
 have h1:=hk a (mem_of_getElem? ha)
 have h2:=hl b (mem_of_getElem? hb)
 omega
theorem Ii(ks:List Int):Txt.join ("" : Str) (ks.map fun k=>(⟨#[97+k.toNat]⟩:Str))=nj ks:=by
 rw[Dk]
 show glued _ _=_
 rw[StrLaws.glued_eq_join]
 apply cO
 rw[lr,map_map,sU]
 induction ks with
 | nil=>rfl
 | cons a r ih=>simp only[map_cons,flatten_cons,ih] <;> rfl
theorem ints_of{xs:List V}(h:∀ (i:Nat) v,xs[i]? = some v->∃ b:Int,v=V.int b/\0<=b/\b<26):∃ bs:List Int,bs.length=xs.length/\xs=bs.map V.int/\sr bs:=by
 obtain⟨bs,hl,hb⟩:=mG (fun _ v b=>v=V.int b/\0<=b/\b<26) xs 0 (fun i v e=>h i v e)
 have em:xs=bs.map V.int:=by
  apply List.ext_getElem?
  intro i
  rw[getElem?_map]
  cases e:xs[i]? with
  | none =>
   have e2:bs[i]? = none:=by
    rw[List.getElem?_eq_none_iff]at e ⊢
    omega
   rw[e2];rfl
  | some v =>
   obtain⟨z,ez,rfl,_⟩:=hb i v e
   rw[ez];rfl
 refine⟨bs,hl,em,fun b hb'=>?_⟩
 obtain⟨i,hi,e⟩:=getElem_of_mem hb'
 obtain⟨z,ez,_,nz⟩:=hb i _ (getElem?_eq_getElem Zb)
 rw[getElem?_eq_getElem hi,e]at ez
 cases ez
 exact nz
theorem sr.take{ks:List Int}(h:sr ks)(n:Nat):sr (ks.take n):=fun k hk=>h k (List.mem_of_mem_take hk)
theorem sr.set{ks:List Int}(h:sr ks)(i:Nat){a:Int}(h0:0<=a)(h1:a<26):sr (ks.set i a):=fun k hk=>by
 rcases List.mem_or_eq_of_mem_set hk with z|z
 ·exact h k z
 ·rw[z];exact⟨h0,h1⟩
def pL(bs:List Int)(m one two:Nat)(n:Int):List Int:=((bs.take m).set one ((bs.getD one 0+n)%26)).set two ((bs.getD two 0+n / 26)%26)
theorem Bt{bs:List Int}(h:sr bs)(m one two:Nat)(n:Int):sr (pL bs m one two n) :=
 ((h.take m).set one Zb Zb).set two Zb Zb
theorem MJ{bs:List Int}{m one two:Nat}{n:Int}(h:m<=bs.length):(pL bs m one two n).length=m:=by
 unfold pL
 rw[length_set,length_set,length_take,min_eq_left h]
def sV(bs:List Int):List Str:=(List.range 8).map fun i=>nj (bs.take (i+1))
theorem Oa{bs:List Int}(h:sr bs)(hl:bs.length=8):∀ z∈sV bs,cX z:=fun z hz=>by
 obtain⟨i,hi,rfl⟩:=mem_map.mp hz
 have hi:=mem_range.mp hi
 exact Qz (by rw[length_take];omega) (by rw[length_take];omega) (h.take _)
theorem Sh{m one t:Int}(hm:0<m)(h0:0<=one)(h1:one<m)(t0:0<=t)(t1:t<m - 1):0<=(one+1+t)%m/\(one+1+t)%m<m/\(one+1+t)%m≠one:=by
 refine⟨emod_nonneg _ Zb,emod_lt_of_pos _ hm,fun e=>?_⟩
 by_cases k:one+1+t<m
 ·rw[Int.emod_eq_of_lt Zb k]at e
  omega
 ·have h:=Int.add_mul_emod_self_left (one+1+t - m) m 1
  rw[show one+1+t - m+m*1=one+1+t from by omega,Int.emod_eq_of_lt (a:=one+1+t - m) Zb Zb]at h
  omega
theorem lat{b:Int}(h0:0<=b)(h1:b<26):atI letters.cps.toList b=some (97+b.toNat):=by
 have h:=bL (wJ h0 h1)
 rwa [show((b.toNat:Nat):Int)=b from by omega]at h
theorem Mu{bs:List Int}{k:Int}(h0:0<=k)(h1:k<bs.length):atI (bs.map V.int) k=some (V.int (bs.getD k.toNat 0)):=by
 have h2:k.toNat<bs.length:=by omega
 have h:=bL (xs:=bs.map V.int) (j:=k.toNat) (v:=V.int (bs.getD k.toNat 0)) (by rw[getElem?_map,getElem?_eq_getElem h2];simp[List.getD,h2])
 rwa [show((k.toNat:Nat):Int)=k from by omega]at h
theorem QM{n:Nat}{k:Int}(h0:0<=k)(h1:k<n):ixN n k=some k.toNat:=by
 unfold ixN
 rw[if_pos h0,if_pos h1]
theorem HS{bs:List Int}{k:Int}(h:0<=k):dO (bs.map V.int) none (some k)=(bs.take k.toNat).map V.int:=by
 have e:=Fo (bs.map V.int) k.toNat
 rw[show((k.toNat:Nat):Int)=k from by omega]at e
 rw[e,map_take]
theorem yX{K:Frag}{a:Addr}{ks:List Int}{te:TE}{τ0:L2.St}{H:Hp}{Fin:List V->Hp->Prop}(h8:ks.length<=8)(hr:sr ks)(hl:SqL K H a (ks.map V.int))
  (hte:∀ (b:Int) H' (Q:VK),0<=b->b<26->aB H H'->Q (V.str ⟨#[97+b.toNat]⟩) H'->te (τ0.set 0 (some (V.int b))) H' Q)
  (hfin:∀ H',aB H H'->Fin ((ks.map fun k=>(⟨#[97+k.toNat]⟩:Str)).map V.str) H'):mF (dC 0) qW te (Itl K a) τ0 H Fin:=by
 refine iH (fun j=>V.str ⟨#[97+(ks.getD j 0).toNat]⟩) (le_trans (show(ks.map V.int).length<=8 by rw[length_map];exact h8) Za) hl (fun j x H' Q hx sm k=>?_) (fun H' sm=>?_)
 ·have hj:j<ks.length:=by simpa using (List.getElem?_eq_some_iff.mp hx).1
  rw[getElem?_map,getElem?_eq_getElem hj]at hx
  obtain rfl:V.int ks[j]=x:=Option.some.inj hx
  have hb:=hr ks[j] (getElem_mem hj)
  refine hte _ _ _ hb.1 hb.2 sm ?_
  have k2:Q (V.str ⟨#[97+(ks.getD j 0).toNat]⟩) H':=k H' (aB.refl H')
  have e:ks.getD j 0=ks[j]:=by simp[List.getD,hj]
  rw[e]at k2
  exact k2
 ·have e:(List.range (ks.map V.int).length).map (fun j=>V.str ⟨#[97+(ks.getD j 0).toNat]⟩)=(ks.map fun k=>(⟨#[97+k.toNat]⟩:Str)).map V.str:=by
   apply ext_getElem
   ·simp
   ·intro i h1 h2
    have:i<ks.length:=by simpa using h2
    simp[this]
  have h:=hfin H' sm
  rw[<- e]at h
  exact h
theorem wI{ks:List Int}(h:ks.length<=8):((ks.map fun k=>(⟨#[97+k.toNat]⟩:Str)).map (·.length)).sum+(ks.map fun k=>(⟨#[97+k.toNat]⟩:Str)).length*(("" : Str)).length<=16777216:=by
 have h1:((ks.map fun k=>(⟨#[97+k.toNat]⟩:Str)).map (·.length)).sum<=(ks.map fun k=>(⟨#[97+k.toNat]⟩:Str)).length*1:=pF fun y hy=>by
  obtain⟨k,_,rfl⟩:=mem_map.mp hy
  exact le_refl 1
 have h2:(("" : Str)).length=0:=by decide +kernel
 rw[h2]
 rw[length_map]at h1 ⊢
 omega
theorem Qg{y:V}{s:Str}(h:eqV y (.str s)=true):y=.str s:=by
 cases y with
 | str a=>simpa [eqV] using h
 | _=>simp[eqV]at h
theorem Kh{s:Str}{zs:List V}(h:V.str s∈zs):inV (.str s) zs=true:=by
 unfold inV
 rw[List.any_eq_true]
 exact⟨_,h,by simp[eqV]⟩
theorem KH{s:Str}{zs:List V}(h:inV (.str s) zs=true):V.str s∈zs:=by
 unfold inV at h
 obtain⟨y,hy,e⟩:=List.any_eq_true.mp h
 rw[<- Qg e]
 exact hy
end Mine
namespace L2
open PySem PySem.Spec PyProof.Rows PySem.W
abbrev cA(C:Addr)(dx:Option Addr)(vs:Array Value):Obj:={cls:=.ref C,dict:=dx,data:=.fields vs}
section
variable {prog:Program} {w:World} {A:Around} {R:Result->Shared->Prop} {h:Heap} {g:Array GenState} {d:Drawn} {t:Nat} {os:OsState}
variable {nm q:Str} {C N:Addr} {f:Value} {bs bm bmB:List Value} {hdct:Bool} {sn:List Str} {sub:List Value} {ab:Bool} {col:Option Bool} {dd:Option Addr} {k0 k1 k2 k3 k5:Option Value} {B newId initId:String}
theorem xg (F:ExcBaseFacts B newId initId bmB) (T:OwnTail h bmB bm) {rest:List Value}
  (hC:h.get? C=some (excClassObj nm q C N bs bm hdct sn sub ab col dd k0 k1 k2 k3 k5 newId)) (hi:Looks (model prog w) h (typeLookup (.ref C) "__init__") (some f))
  (hb:∀ self,Looks (model prog w) h (bindSpecial f self) (f,[self])) (hrest:rest.length<=sizeLine)
  (hq:codeAny (model prog w) (A.under (.builtin "type.__call__" ⟨.ref C::rest,[]⟩)) (.call f ⟨.ref (h.objs.size+1)::rest,[]⟩) (InitBack (h.objs.size+1) R)
   ⟨(h.push {cls:=.type "tuple",data:=.seq rest.toArray}).push (cA C none #[.ref h.objs.size,.none,.none,.none,.bool false,.none]),g,d,t,os⟩) :
  codeAny (model prog w) A (.call (.ref C) ⟨rest,[]⟩) R ⟨h,g,d,t,os⟩:=by
 have f1:=PySem.tc_lookup
 have f2:=PySem.tc_bind (.ref C)
 have hT:(⟨h,g,d,t,os⟩:Shared).TypeIs (.ref C) "type" := ⟨_,hC,rfl⟩
 refine codeAny_of_tree ?_
 show wpAny _ _ (callAny (.ref C) _) _ _ _
 repeat (any_goals (first|assumption|with_reducible refine wpAny_loadPart_at hC ?_|wp_step))
 refine⟨rfl,?_⟩
 refine codeAny_call_builtin_at (Code.quiet_builtin _ Ze) PySem.entry_typeCall (wpAny_check_type_call_sub hC ?_)
 repeat (first|with_reducible refine wpAny_loadPart_at hC ?_|with_reducible refine wpAny_madeBy_exc hC ?_|wp_step)
 refine codeAny_call_builtin_code (Code.quiet_builtin _ F.quiet) (wpAny_check_new_subT F T hC ?_)
 refine codeAny_exc_new_subT F T hC ?_ hrest
 show wpAny _ _ _ _ _ _
 have kp:∀ b o,h.get? b=some o->((h.push {cls:=.type "tuple",data:=.seq rest.toArray}).push {cls:=.ref C,data:=.fields #[.ref h.objs.size,.none,.none,.none,.bool false,.none]}).get? b=some o:=fun b o e=>Heap.get?_push_of_some _ (Heap.get?_push_of_some _ e)
 have hC₁:=kp _ _ hC
 have hget:((h.push {cls:=.type "tuple",data:=.seq rest.toArray}).push {cls:=.ref C,data:=.fields #[.ref h.objs.size,.none,.none,.none,.bool false,.none]}).get? (h.objs.size+1)=some {cls:=.ref C,data:=.fields #[.ref h.objs.size,.none,.none,.none,.bool false,.none]}:=by heap_get
 have hcC:(Value.ref C::bm).contains (.ref C)=true:=by simp
 have t1:Looks (model prog w) ((h.push {cls:=.type "tuple",data:=.seq rest.toArray}).push {cls:=.ref C,data:=.fields #[.ref h.objs.size,.none,.none,.none,.bool false,.none]}) (typeOf (.ref (h.objs.size+1))) (.ref C):=(Looks.ld hget).andThen .now
 have s1:Looks (model prog w) ((h.push {cls:=.type "tuple",data:=.seq rest.toArray}).push {cls:=.ref C,data:=.fields #[.ref h.objs.size,.none,.none,.none,.bool false,.none]}) (isSubtype (.ref C) (.ref C)) true:=fun A' Q' E' s' k q'=>by
  obtain⟨h',g',d',tk',os'⟩:=s'
  refine wpAny_isSubtype_exc (k _ _ hC₁) ?_
  rw[hcC]
  exact q'
 have i1:=hi.keeps kp
 have b1:=(hb (.ref (h.objs.size+1))).keeps kp
 show wpAny _ _ _ _ _ ⟨(h.push {cls:=.type "tuple",data:=.seq rest.toArray}).push {cls:=.ref C,data:=.fields #[.ref h.objs.size,.none,.none,.none,.bool false,.none]},g,d,t,os⟩
 unfold isInstance callSpecial? specialOf
 repeat (first|with_reducible refine wpAny_call ?_|lk)
 refine codeAny_mono hq fun r s' z=>?_
 rcases r with e|(v|_|_|_) <;> first|exact z|exact z.elim|skip
 obtain⟨rfl,z⟩:=z
 exact wpAny_pure (wpAny_pure z)
theorem yW(F:ExcBaseFacts B newId initId bmB)(T:OwnTail h bmB bm){e:Addr}{dx:Option Addr}{t0:Addr}{a1 a2 a3 a4 a5 v:Value}
  (hC:h.get? C=some (excClassObj nm q C N bs bm hdct sn sub ab col dd k0 k1 k2 k3 k5 newId))(he:h.get? e=some {cls:=.ref C,dict:=dx,data:=.fields #[.ref t0,a1,a2,a3,a4,a5]})
  (hq:∀ h',(∀ b o,b≠e->h.get? b=some o->h'.get? b=some o)->h'.get? e=some {cls:=.ref C,dict:=dx,data:=.fields #[.ref h.objs.size,a1,a2,a3,a4,a5]}->R (.ok (.ret .none)) ⟨h',g,d,t,os⟩) :
  codeAny (model prog w) A (.call (.builtin initId) ⟨[.ref e,v],[]⟩) R ⟨h,g,d,t,os⟩:=by
 refine(codeAny_call_builtin F.init.plain F.initEntry (wpAny_check_init_subT F T hC he rfl ?_))
 wp_walk
 have hne:e≠h.objs.size:=ne_of_lt (Heap.lt_size he)
 refine hq _ (fun b o hb ho=>?_) ?_
 ·rw[Heap.get?_update_other _ _ (Ne.symm hb)]
  exact Heap.get?_push_of_some _ ho
 ·rw[Heap.get?_update_self _ (Heap.get?_push_of_some _ he) rfl]
  rfl
theorem Lw{E:EV}(F:ExcBaseFacts B newId initId bmB)(T:OwnTail h bmB bm){e:Addr}{dx:Option Addr}{t0:Addr}{a1 a2 a3 a4 a5 v:Value}{Q:EV}
  (hC:h.get? C=some (excClassObj nm q C N bs bm hdct sn sub ab col dd k0 k1 k2 k3 k5 newId))(he:h.get? e=some {cls:=.ref C,dict:=dx,data:=.fields #[.ref t0,a1,a2,a3,a4,a5]})
  (hq:∀ h',(∀ b o,b≠e->h.get? b=some o->h'.get? b=some o)->h'.get? e=some {cls:=.ref C,dict:=dx,data:=.fields #[.ref h.objs.size,a1,a2,a3,a4,a5]}->Q .none ⟨h',g,d,t,os⟩) :
  wpAny (model prog w) A (call (.builtin initId) [.ref e,v]) Q E ⟨h,g,d,t,os⟩:=by
 refine wpAny_call (yW F T hC he fun h' k e'=>?_)
 exact hq h' k e'
end
section
variable {prog:Program} {w:World} {A:Around} {E:EV} {s:Shared} {K:Frag} {x C:Addr} {ox:Obj} {od:Option Obj} {name:Str} {expr:Bool} {Q:EV}
theorem Ph {v:Value} (X:K.In s.heap) (I:PySem.W.InstAt s.heap x ox C od) (hga:findIn K (.ref C) "__getattribute__" = some (some (.builtin "BaseException.__getattribute__"))) (hb:mroIn K C (.type "BaseException") = some true) (hk:findIn K (.ref C) "__getattr__" = some none)
  (hf:findObj K C od name = some (.value v)) (hh:handedIn v = true) (h:Q v { s with toks:=s.toks + 1 }):wpAny (model prog w) A (getAttr (.ref x) name expr) Q E s:=by
 obtain ⟨hh',g,d,t,os⟩:=s
 have L0:=I.type (M:=model prog w)
 have L1:=looks_findIn (M:=model prog w) X hga
 have L2:=looks_find (M:=model prog w) X I hf
 unfold getAttr getAttrBy
 refine wpAny_bind (wpAny_mkText (wpAny_holding (wpAny_bind (L0.at (wpAny_bind (L1.at ?_))))))
 have LH:Looks (model prog w) hh' (hookBefore (.ref C)) none:=looks_hook X (by simp only [onTheHeap]; exact hk)
 have LB:Looks (model prog w) hh' (isInstance (.ref x) (.type "BaseException")) true:=L0.andThen (looks_mroIn X hb)
 show wpAny _ _ (getAttrByItsOwn (.ref x) (.str name t) (.ref C) (.builtin "BaseException.__getattribute__") true expr) _ _ ⟨hh',g,d,t + 1,os⟩
 unfold getAttrByItsOwn
 refine wpAny_bind (LH.at (wpAny_bind (wpAny_attempt (wpAny_holding ?_))))
 have hx0:(expr && onTheHeap (Value.builtin "BaseException.__getattribute__")) = false:=by cases expr <;> rfl
 have f3:=F.excAttr_ValueError.ga.bind (.ref x)
 unfold callGetattribute
 rw [hx0]
 repeat (any_goals (first | assumption | wp_step))
 show codeAny (model prog w) A (Code.call (Value.builtin "BaseException.__getattribute__") ⟨[.ref x,.str name t],[]⟩) _ _
 have hk1:builtinKind "BaseException.__getattribute__" = some .slot:=by decide +kernel
 have hs1:splitId "BaseException.__getattribute__" = some ("BaseException", "__getattribute__"):=by decide +kernel
 have hc:∀ (A':Around) (Q':Unit -> Shared -> Prop) (E':EV),Q' () ⟨hh',g,d,t + 1,os⟩ -> wpAny (model prog w) A' (checkBuiltinCall "BaseException.__getattribute__" ⟨[.ref x,.str name t],[]⟩) Q' E' ⟨hh',g,d,t + 1,os⟩:=fun A' Q' E' q' =>
  @check_slot (model prog w) A' E' ⟨hh',g,d,t + 1,os⟩ "BaseException.__getattribute__" "BaseException" "__getattribute__" (.ref x) [.str name t] [] Q' hk1 hs1 LB (F.args_bexc_ga (.ref x) (.str name t)) q'
 refine codeAny_call_builtin F.excAttr_ValueError.ga.plain F.entry_bexc_ga (hc _ _ _ ?_)
 unfold Builtin.«object.__getattribute__»
 repeat (first | with_reducible refine wpAny_bind (L0.at ?_) | with_reducible refine wpAny_bind (L2.at ?_) | wp_step)
 show wpAny _ _ (handedOut v) _ _ _
 rw [handedOut_of hh]; exact wpAny_pure h
end
section
variable {prog:Program} {w:World} {A:Around} {E:EV} {s:Shared} {K:Frag} {x C:Addr} {ox:Obj} {od:Option Obj} {name:Str} {expr:Bool} {Q:EV}
theorem Jb (X:K.In s.heap) (I:PySem.W.InstAt s.heap x ox C od) (hga:findIn K (.ref C) "__getattribute__" = some (some (.builtin "BaseException.__getattribute__"))) (hb:mroIn K C (.type "BaseException") = some true) (hk:findIn K (.ref C) "__getattr__" = some none)
  (hf:findObj K C od "__class__" = some (.bind (.builtin "getset_descriptor.__get__") (.builtin "object.__class__"))) (hm:mroIn K C (.type "object") = some true) {Q:Option Value -> Shared -> Prop} (h:Q (some (.ref C)) { s with toks:=s.toks + 1 }):wpAny (model prog w) A (getAttr? (.ref x) "__class__") Q E s:=by
 obtain ⟨hh',g,d,t,os⟩:=s
 have L0:=I.type (M:=model prog w)
 have L1:=looks_findIn (M:=model prog w) X hga
 have L2:=looks_find (M:=model prog w) X I hf
 unfold getAttr? getAttrBy?
 refine wpAny_bind (wpAny_mkText (wpAny_bind (wpAny_attempt ?_)))
 unfold getAttrBy
 refine wpAny_holding (wpAny_bind (L0.at (wpAny_bind (L1.at ?_))))
 have LH:Looks (model prog w) hh' (hookBefore (.ref C)) none:=looks_hook X (by simp only [onTheHeap]; exact hk)
 have LB:Looks (model prog w) hh' (isInstance (.ref x) (.type "BaseException")) true:=L0.andThen (looks_mroIn X hb)
 show wpAny _ _ (getAttrByItsOwn (.ref x) (.str "__class__" t) (.ref C) (.builtin "BaseException.__getattribute__") false false) _ _ ⟨hh',g,d,t + 1,os⟩
 unfold getAttrByItsOwn
 refine wpAny_bind (LH.at (wpAny_bind (wpAny_attempt (wpAny_holding ?_))))
 have hx0:(false && onTheHeap (Value.builtin "BaseException.__getattribute__")) = false:=rfl
 have f3:=F.excAttr_ValueError.ga.bind (.ref x)
 unfold callGetattribute
 rw [hx0]
 repeat (any_goals (first | assumption | wp_step))
 show codeAny (model prog w) A (Code.call (Value.builtin "BaseException.__getattribute__") ⟨[.ref x,.str "__class__" t],[]⟩) _ _
 have hk1:builtinKind "BaseException.__getattribute__" = some .slot:=by decide +kernel
 have hs1:splitId "BaseException.__getattribute__" = some ("BaseException", "__getattribute__"):=by decide +kernel
 have hc:∀ (A':Around) (Q':Unit -> Shared -> Prop) (E':EV),Q' () ⟨hh',g,d,t + 1,os⟩ -> wpAny (model prog w) A' (checkBuiltinCall "BaseException.__getattribute__" ⟨[.ref x,.str "__class__" t],[]⟩) Q' E' ⟨hh',g,d,t + 1,os⟩:=fun A' Q' E' q' =>
  @check_slot (model prog w) A' E' ⟨hh',g,d,t + 1,os⟩ "BaseException.__getattribute__" "BaseException" "__getattribute__" (.ref x) [.str "__class__" t] [] Q' hk1 hs1 LB (F.args_bexc_ga (.ref x) (.str "__class__" t)) q'
 refine codeAny_call_builtin F.excAttr_ValueError.ga.plain F.entry_bexc_ga (hc _ _ _ ?_)
 unfold Builtin.«object.__getattribute__»
 repeat (first | with_reducible refine wpAny_bind (L0.at ?_) | with_reducible refine wpAny_bind (L2.at ?_) | wp_step)
 refine class_get X I hm ?_
 repeat (first | exact h | wp_step)
theorem Du (hcl:(clsIn K C).isSome=true) (hga:findIn K (.ref C) "__getattribute__" = some (some (.builtin "BaseException.__getattribute__"))) (hb:mroIn K C (.type "BaseException")=some true) (hk:findIn K (.ref C) "__getattr__" = some none)
  (hm:mroIn K C (.type "object")=some true) (hf:∀ od,findObj K C od "__class__" = some (.bind (.builtin "getset_descriptor.__get__") (.builtin "object.__class__"))) :
  KitX K (.ref x) (.ref C) (fun h=>∃ ox od,PySem.W.InstAt h x ox C od) where
 ty:=fun _ _ _ I=>let⟨_,_,I⟩:=I;I.type
 it:=fun _ _ X _=>by
  obtain⟨cdD,hcD⟩:=Option.isSome_iff_exists.mp hcl
  unfold clsIn at hcD
  split at hcD
  ·rename_i c' d' cd' sl' ho
   intro A' Q' E' s' k q
   unfold isType loadHead
   exact wpAny_bind (wpAny_loadPart (k _ _ (X _ _ ho)) (wpAny_pure q))
  ·cases hcD
 ne:=fun h tp dd its n sl X htp=>by
  obtain⟨cdD,hcD⟩:=Option.isSome_iff_exists.mp hcl
  refine Bool.eq_false_iff.mpr fun q=>?_
  have e:C=tp:=Value.ref.inj (beq_iff_eq.mp q)
  subst e
  unfold clsIn at hcD
  split at hcD
  ·rename_i c' d' cd' sl' ho
   have z:=(X _ _ ho).symm.trans htp
   cases z
  ·cases hcD
 ca:=fun X I k=>let⟨_,_,I⟩:=I;Jb X I hga hb hk (hf _) hm k
end
end L2
namespace L2
open PySem PySem.Spec PyProof.Rows PySem.W Builtin Builtin.ObjectAttr
def du:List Value->Bool
 | .ref _::r=>du r
 | l=>l==[.type "ValueError",.type "Exception",.type "BaseException",.type "object"]
theorem rD(c:Addr)(r:List Value):du (.ref c::r)=du r:=by rw[du]
theorem xP:∀{l:List Value},du l=true->(∃ c r,l=.ref c::r)\/l=[.type "ValueError",.type "Exception",.type "BaseException",.type "object"]
 | .ref c::r,_=>.inl ⟨c,r,rfl⟩
 | [],e=>by cases e
 | .type n::r,e=>.inr (eq_of_beq (by unfold du at e;exact e))
 | .none::r,e=>.inr (eq_of_beq (by unfold du at e;exact e))
 | .bool _::r,e=>.inr (eq_of_beq (by unfold du at e;exact e))
 | .int _ _::r,e=>.inr (eq_of_beq (by unfold du at e;exact e))
 | .str _ _::r,e=>.inr (eq_of_beq (by unfold du at e;exact e))
 | .builtin _::r,e=>.inr (eq_of_beq (by unfold du at e;exact e))
 | .float _ _::r,e=>.inr (eq_of_beq (by unfold du at e;exact e))
 | .bytes _ _::r,e=>.inr (eq_of_beq (by unfold du at e;exact e))
 | .ellipsis::r,e=>.inr (eq_of_beq (by unfold du at e;exact e))
 | .notImplemented::r,e=>.inr (eq_of_beq (by unfold du at e;exact e))
theorem rA(self:Value):∀ {l:List Value},du l=true->refuseLoop self "__setattr__" l=pure ()
 | l,e=>by
  rcases xP e with⟨c,r,rfl⟩|rfl
  ·rw[refuseLoop_ref];exact rA self (l:=r) (by rw[rD]at e;exact e)
  ·exact PySem.F.store_ValueError.passes self
termination_by l=>l.length
theorem sO:∀ {l:List Value},du l=true->l.contains (.type "object")=true
 | l,e=>by
  rcases xP e with⟨c,r,rfl⟩|rfl
  ·rw[contains_cons,sO (l:=r) (by rw[rD]at e;exact e),Bool.or_true]
  ·decide
termination_by l=>l.length
def Bd(K:Frag)(C:Addr):Bool:=(clsIn K C).any fun cd=>du cd.mro
section
variable {prog:Program} {w:World} {A:Around} {s:Shared} {K:Frag} {x C:Addr} {R:Result->Shared->Prop}
theorem Js {ox:Obj} {od:Option Obj} {name:Str} {tk:Tok} {v:Value} {r:Option Value} (X:K.In s.heap) (I:InstAt s.heap x ox C od) (hp:Bd K C = true) (ht:takerIn K C name = some r)
  (h:∀ b,wpAny (model prog w) A.in1 (match r with | some a=>Builtin.ObjectAttr.setByDescriptor a (.ref x) v | none=>Builtin.ObjectAttr.storeInOwnDict (.ref x) (.ref C) (.str name tk) name v b)
   (fun fin s'=>match fin with | .done f=>R (.ok f) s' | .again c'=>c'.quiet = true /\ codeAny (model prog w) A c' R s') (fun e s'=>R (.error e) s') s) :
  codeAny (model prog w) A (.call (.builtin "object.__setattr__") ⟨[.ref x,.str name tk,v],[]⟩) R s:=by
 have SF:=PySem.F.store_object
 obtain ⟨cd,hc,ho⟩:=any_some hp
 have ne:cd.mro.isEmpty = false:=by cases q:cd.mro with | nil=>rw [q] at ho; cases ho | cons _ _=>rfl
 have sub:Looks (model prog w) s.heap (isInstance (.ref x) (.type "object")) true:=I.type.andThen (looks_mroIn X (by unfold mroIn; rw [hc,bind_some,if_neg (by rw [ne]; decide),sO ho]))
 refine codeAny_call_builtin SF.slot.plain SF.entry (@check_slot (model prog w) _ _ s "object.__setattr__" "object" "__setattr__" (.ref x) [.str name tk,v] [] _ SF.kind SF.split sub (SF.args (.ref x) (.str name tk) v) ?_)
 obtain ⟨attr,ha,hr⟩:=Option.bind_eq_some_iff.mp ht
 have hm:Looks (model prog w) s.heap (mroOf (.ref C)) cd.mro:=(looks_clsIn X hc).andThen .now
 have L3:Looks (model prog w) s.heap (storeTaker? attr) r:=by
  cases attr with
  | none=>cases hr; exact .now
  | some a =>
   obtain ⟨b,hb,rfl⟩:=Option.map_eq_some_iff.mp hr
   refine (looks_takesIn X hb).andThen ?_
   cases b <;> exact .now
 rw [osa_eq,refuse_eq]
 refine wpAny_bind (wpAny_bind (I.type.here (wpAny_bind (hm.here ?_))))
 rw [rA _ ho]
 refine wpAny_pure (wpAny_bind (I.type.here (wpAny_bind ((looks_findIn X ha).here (wpAny_bind (L3.here ?_))))))
 exact h _
end
section
variable {prog:Program} {w:World} {A:Around} {E:EV} {s:Shared} {K:Frag} {x C:Addr} {name:Str} {v:Value} {vs:Array Value}
theorem KY {Q:Unit->Shared->Prop} (X:K.In s.heap) (hx:s.heap.get? x=some (cA C none vs))
  (hs:findIn K (.ref C) "__setattr__" = some (some (.builtin "object.__setattr__"))) (hp:Bd K C=true) (ht:takerIn K C name=some none) (hh:hasDictIn K C=true)
  (h:∀ h' t',(∀ b o,b≠x->s.heap.get? b=some o->h'.get? b=some o)->h'.get? x=some (cA C (some s.heap.objs.size) vs)->h'.Ns1 s.heap.objs.size (fun y=>if y=name then some v else none) ->
   Q () {s with heap:=h',toks:=t'}) :
  wpAny (model prog w) A (setAttr (.ref x) name v) Q E s:=by
 have I:InstAt s.heap x (cA C none vs) C none:=⟨hx,rfl,rfl,True.intro⟩
 refine set_plain X I hs (Js (s:={s with toks:=s.toks+1}) (r:=none) X I hp ht fun b=>?_)
 obtain⟨cd,hc,hd'⟩:=any_some hh
 refine wpAny_bind (wpAny_pure (wpAny_bind (wpAny_bind (wpAny_loadPart hx (wpAny_bind (Looks.here (s:={s with toks:=s.toks+1}) (looks_clsIn X hc) ?_))))))
 rw[hd']
 have hx₁:(s.heap.push {cls:=.type "dict",data:=.dict #[]}).get? x=some (cA C none vs):=Heap.get?_push_of_some _ hx
 have hxs:x≠s.heap.objs.size:=ne_of_lt (Heap.lt_size hx)
 refine wpAny_bind (wpAny_alloc' ?_)
 refine wpAny_bind (wpAny_update' hx₁ ?_)
 refine wpAny_pure ?_
 have hgd:((s.heap.push {cls:=.type "dict",data:=.dict #[]}).update x fun o=>{cls:=o.cls,dict:=some s.heap.objs.size,data:=o.data,slots:=o.slots}).get? s.heap.objs.size
   = some {cls:=.type "dict",data:=.dict #[]} :=
  (Heap.get?_update_ne _ _ _ _ hxs.symm).trans (Heap.get?_push_at rfl rfl)
 have hnd:((s.heap.push {cls:=.type "dict",data:=.dict #[]}).update x fun o=>{cls:=o.cls,dict:=some s.heap.objs.size,data:=o.data,slots:=o.slots}).Ns s.heap.objs.size (fun _=>none) :=
  ⟨_,#[],_,hgd,rfl,fun e he=>absurd he Zc,fun _=>rfl⟩
 show wpAny _ _ (storeInDict s.heap.objs.size (.str name s.toks) name v) _ _ _
 unfold storeInDict newKeyGuard
 refine wpAny_bind (wpAny_pure (wpAny_bind (wpAny_nsSet1 (Heap.Ns1.of_empty hnd) fun h' hn' hs=>?_)))
 obtain⟨oD,esD,epD,hoD,hdD,hcD⟩:=hn'.count (Within.cons name v Within.nil)
 refine wpAny_bind (wpAny_lookBehind hoD (by rw[hdD];exact pastItsLine_dict (le_trans hcD (by rw[length_cons,length_nil,sizeLine_eq];omega))) ?_)
 refine wpAny_pure (h _ _ (fun b ob hbx hb=>?_) ?_ hn')
 ·exact(hs.2 b (ne_of_lt (Heap.lt_size hb))).trans ((Heap.get?_update_ne _ _ _ _ hbx).trans (Heap.get?_push_of_some _ hb))
 ·exact(hs.2 x hxs).trans (Heap.get?_update_self _ hx₁ rfl)
end
end L2
namespace L2
open PySem PySem.Spec PyProof.Rows PySem.W
def Rm(fl:Bool)(dx:Option Addr)(a1 a2:Value):Prop:=(fl=true->a1=.none)/\(dx=none->a2=.none)
def ExO(fl:Bool)(x C:Addr)(dx:Option Addr):HO:=.ext fun h=>∃ t0 a1 a2 a3 a4 a5,h.get? x=some (cA C dx #[.ref t0,a1,a2,a3,a4,a5])/\Rm fl dx a1 a2
def XdO(p:Addr)(fs:List (Str×V)):HO:=.ext fun h=>∃ mA,h.Ns1 p mA/\(∀ f,rP (fs.lookup f) (mA f))/\Within mA (fs.map (·.1))
section
variable {P:Program} {w:World} {H:Hp} {h:Heap} {fl:Bool} {x p C:Addr} {dx:Option Addr} {fs:List (Str×V)}
theorem sI{t0:Addr}{a1 a2 a3 a4 a5:Value}(e:h.get? x=some (cA C dx #[.ref t0,a1,a2,a3,a4,a5]))(hfl:Rm fl dx a1 a2):dB P w H h x (ExO fl x C dx) :=
 ⟨⟨_,_,_,_,_,_,e,hfl⟩,⟨_,e⟩,fun h1 h2 ⟨t0,a1,a2,a3,a4,a5,q,z⟩ k=>⟨t0,a1,a2,a3,a4,a5,k _ q,z⟩⟩
theorem RJ {mA:MG} (n:h.Ns1 p mA) (r:∀ f,rP (fs.lookup f) (mA f)) (wi:Within mA (fs.map (·.1))):dB P w H h p (XdO p fs) :=
 ⟨⟨mA,n,r,wi⟩,let⟨o,_,_,e,_⟩:=n;⟨o,e⟩,fun h1 h2 ⟨mA,⟨o,es,ep,e,c⟩,r⟩ k=>⟨mA,⟨o,es,ep,k _ e,c⟩,r⟩⟩
theorem fZ(hok:HOk P w H h)(e:H x=some (ExO fl x C dx)):∃ t0 a1 a2 a3 a4 a5,h.get? x=some (cA C dx #[.ref t0,a1,a2,a3,a4,a5])/\Rm fl dx a1 a2:=(show dB P w H h x (ExO fl x C dx)from hok x _ e).1
theorem Bs(hok:HOk P w H h)(e:H p=some (XdO p fs)):∃ mA,h.Ns1 p mA/\(∀ f,rP (fs.lookup f) (mA f))/\Within mA (fs.map (·.1)):=(show dB P w H h p (XdO p fs)from hok p _ e).1
end
structure rW(K:Frag)(C:Addr):Prop where
 ga:findIn K (.ref C) "__getattribute__" = some (some (.builtin "BaseException.__getattribute__"))
 bx:mroIn K C (.type "BaseException")=some true
 nga:findIn K (.ref C) "__getattr__" = some none
 ob:mroIn K C (.type "object")=some true
 hd:hasDictIn K C=true
 ov:Bd K C=true
 sa:findIn K (.ref C) "__setattr__" = some (some (.builtin "object.__setattr__"))
 cl:findIn K (.ref C) "__class__" = some (some (.builtin "object.__class__"))
 cg:specialIn K (.builtin "object.__class__") "__get__" = some (some (.builtin "getset_descriptor.__get__"))
 ct:takesIn K (.builtin "object.__class__")=some true
theorem rW.cls{K:Frag}{C:Addr}(c:rW K C):(clsIn K C).isSome=true:=by
 obtain⟨cd,hc,_⟩:=any_some c.hd
 rw[hc];rfl
theorem rW.fo{K:Frag}{C:Addr}(c:rW K C)(od:Option Obj):findObj K C od "__class__" = some (.bind (.builtin "getset_descriptor.__get__") (.builtin "object.__class__")):=by
 obtain⟨cd,hc,_⟩:=any_some c.hd
 unfold findObj
 rw[hc,bind_some,c.cl,bind_some]
 dsimp only
 rw[c.cg,bind_some]
 dsimp only
 rw[c.ct,bind_some]
section
variable {X:Cx} {pins:OP} {σ:St} {H:Hp} {s:Shared} {fl:Bool} {a C dx:Addr} {fs:List (Str×V)} {f:Str} {v:V} {A:Around} {E:EV}
theorem Pk{b:Bool}{Q:EV}(I:Inv X pins σ H s)(e:H a=some (ExO fl a C (some dx)))(d:H dx=some (XdO dx fs))(c:rW X.K C)(n:dq X.K C f)(l:fs.lookup f=some v)
  (h:∀ u s',Inv X pins σ H s'->RelV v u->Q u s'):wpAny (model X.prog X.w) A (getAttr (.ref a) f b) Q E s:=by
 obtain⟨t0,a1,a2,a3,a4,a5,hx,hfl⟩:=fZ I.hok e
 obtain⟨mA,hn,r,_⟩:=Bs I.hok d
 obtain⟨u,hu,ru⟩:=rP.some_of (v:=v) (o:=mA f) (by rw[<- l];exact r f)
 obtain⟨od,ho,hl⟩:=qK hn
 have J:InstAt s.heap a (cA C (some dx) #[.ref t0,a1,a2,a3,a4,a5]) C (some od):=⟨hx,rfl,rfl,ho⟩
 exact Ph I.kIn J c.ga c.bx c.nga (findObj_own c.hd n rfl (by rw[hl,hu])) (zm ru) (h u _ (I.tok _) ru)
theorem Ms{y:V}{u:Value}{Q:Unit->Shared->Prop}(I:Inv X pins σ H s)(e:H a=some (ExO fl a C none))(c:rW X.K C)(n:dq X.K C f)(ry:RelV y u)
  (h:∀ p s',H p=none->p≠a->Inv X pins σ (upd (upd H p (XdO p [(f,y)])) a (ExO fl a C (some p))) s'->Q () s'):wpAny (model X.prog X.w) A (setAttr (.ref a) f u) Q E s:=by
 obtain⟨t0,a1,a2,a3,a4,a5,hx,hfl⟩:=fZ I.hok e
 have hlt:a<s.heap.objs.size:=Heap.lt_size hx
 have hne:s.heap.objs.size≠a:=ne_of_gt hlt
 refine KY I.kIn hx c.sa c.ov n.taker c.hd fun h' t' k hx' hn'=>h s.heap.objs.size _ (I.hok.fresh (le_refl _)) hne ?_
 have g1:(h'.update a fun _=>cA C none #[.ref t0,a1,a2,a3,a4,a5]).get? a=some (cA C none #[.ref t0,a1,a2,a3,a4,a5]):=Heap.get?_update_self _ hx' rfl
 have g2:∀ b,b≠a->(h'.update a fun _=>cA C none #[.ref t0,a1,a2,a3,a4,a5]).get? b=h'.get? b:=fun b hb=>Heap.get?_update_ne _ _ _ _ hb
 have I1:=I.laid (a:=s.heap.objs.size) (o:=XdO s.heap.objs.size [(f,y)]) (h':=h'.update a fun _=>cA C none #[.ref t0,a1,a2,a3,a4,a5]) (t':=t') (fun b o q=>by
   by_cases hb:b=a
   ·subst hb;rw[hx]at q;cases q;exact g1
   ·rw[g2 b hb];exact k b o hb q) (le_refl _) (by
   obtain⟨o,es,ep,q,r⟩:=hn'
   refine RJ ⟨o,es,ep,by rw[g2 _ hne];exact q,r⟩ (fun g=>?_) (fun g hg=>?_)
   ·show rP (List.lookup g [(f,y)]) (if g=f then some u else none)
    by_cases z:g=f
    ·have hb:(g==f)=true:=beq_iff_eq.mpr z
     simp only[List.lookup,hb,if_pos z];exact ry
    ·have hb:(g==f)=false:=beq_eq_false_iff_ne.mpr z
     simp only[List.lookup,hb,if_neg z];exact True.intro
   ·by_cases z:g=f
    ·rw[z];simp
    ·exact absurd (if_neg z) hg)
 refine I1.write (x:=a) (e:=a) (o:=ExO fl a C (some s.heap.objs.size)) (t':=t') (h':=h') (by rw[aQ hne.symm,e];exact True.intro) (.inl rfl) (fun b o hb q=>by rw[<- g2 b hb];exact q) ⟨_,hx'⟩ (sI hx' ⟨hfl.1,fun z=>by cases z⟩)
theorem M9 {dx:Option Addr} {c:Value} {b:Bool} {Q:EV} (I:Inv X pins σ H s) (e:H a=some (ExO fl a C dx)) (cl:rW X.K C) (k:kitOne X.K (.ref C) c=some b) (dxd:∀ p,dx=some p->∃ fs,H p=some (XdO p fs))
  (h:∀ tk,Q (.bool b) {s with toks:=tk}):wpAny (model X.prog X.w) A (call (.builtin "isinstance") [.ref a,c]) Q E s:=by
 obtain⟨t0,a1,a2,a3,a4,a5,hx,hfl⟩:=fZ I.hok e
 have J:∃ ox od,PySem.W.InstAt s.heap a ox C od:=by
  cases dx with
  | none=>exact⟨_,none,hx,rfl,rfl,True.intro⟩
  | some p =>
   obtain⟨fs,d⟩:=dxd p rfl
   obtain⟨mA,hn,_⟩:=Bs I.hok d
   obtain⟨od,ho,_⟩:=qK hn
   exact⟨_,some od,hx,rfl,rfl,ho⟩
 exact kia_one (Du cl.cls cl.ga cl.bx cl.nga cl.ob cl.fo) I.kIn J k (fun z=>nomatch z) h
end
def QF(K:Frag)(ta:TE)(f:Str):TE:=fun σ H Q=>ta σ H fun x H1=>∃ fl a C dx fs v,x=.ref a/\H1 a=some (ExO fl a C (some dx))/\H1 dx=some (XdO dx fs)/\rW K C/\dq K C f/\fs.lookup f=some v/\Q v H1
def KJ(K:Frag)(ta tv:TE)(f:Str):TS:=fun D σ H=>tv σ H fun y H1=>ta σ H1 fun x H2=>∃ fl a C,x=.ref a/\H2 a=some (ExO fl a C none)/\rW K C/\dq K C f /\
 ∀ p,H2 p=none->p≠a->D.nx σ (upd (upd H2 p (XdO p [(f,y)])) a (ExO fl a C (some p)))
def Uo:V->Option Value
 | .ref a=>some (.ref a)
 | .ty n=>some (.type n)
 | _=>none
theorem O6{y:V}{c u:Value}(e:Uo y=some c)(r:RelV y u):u=c:=by
 cases y <;> cases e <;> exact r
def MP(K:Frag):List V->Hp->VK->Prop:=fun xs H Q=>∃ fl a C dx y c b,xs=[.ref a,y]/\Uo y=some c/\H a=some (ExO fl a C dx)/\(∀ p,dx=some p->∃ fs,H p=some (XdO p fs))/\rW K C/\kitOne K (.ref C) c=some b/\Q (.bl b) H
section
variable {X:Cx} {o e value:Expr} {f:Str} {pos pos' tpos:Pos} {ta tv:TE}
theorem Oi(he:PE X e ta)(hb:attributeBase e f X.env (eval e X.env)=eval e X.env):PE X (.Attribute e f pos) (QF X.K ta f):=by
 intro pins s σ H Q I h
 refine Hv hb (thn (he pins s σ H _ I h) fun u s1 ⟨x,H1,I1,rx,fl,a,C,dx,fs,v,ex,ea,ed,c,n,l,q⟩=>?_)
 subst ex
 obtain rfl:u=Value.ref a:=rx
 exact Pk I1 ea ed c n l fun u' s2 I2 ru=>⟨v,H1,I2,ru,q⟩
theorem K8(ha:PE X o ta)(hv:PE X value tv)(hs:swapsWith value (some (.Attribute o f pos')) pos.line X.env=pure false):PS X (.Assign [.Attribute o f pos'] value pos) (KJ X.K ta tv f):=by
 intro pins s σ H D I h
 refine plainObj_wpAny_Assign_Attribute (thn (hv pins s σ H _ I h) fun u s1 ⟨y,H1,I1,ry,q⟩=>thn (ha pins s1 σ H1 _ I1 q) fun ov s2 ⟨x,H2,I2,rx,fl,a,C,ex,ea,c,n,q2⟩=>?_) hs
 subst ex
 obtain rfl:ov=Value.ref a:=rx
 exact Ms I2 ea c n ry fun p s3 h1 h2 I3=>⟨σ,_,I3,q2 p h1 h2⟩
theorem Gw:iy X (.builtin "isinstance") (MP X.K):=by
 intro pins s σ H xs us Q I r h
 obtain⟨fl,a,C,dx,y,c,b,rfl,ry,ea,ed,cl,k,q⟩:=h
 obtain⟨u,u2,rfl,rx,ry2⟩:=vals2 r
 obtain rfl:u=Value.ref a:=rx
 obtain rfl:=O6 ry ry2
 exact M9 I ea cl k ed fun tk=>⟨.bl b,H,I.tok tk,rfl,q⟩
end
abbrev TJ:=Str->St->Hp->VK->Prop
def PJ(X:Cx)(es:List Expr)(t:TJ):Prop :=
 ∀ (pins:OP) (s:Shared) (σ:St) (H:Hp) (out:Str) (Q:VK),Inv X pins σ H s->t out σ H Q->wpAny (model X.prog X.w) X.A (joinParts out (evalEach es X.env)) (EP X pins σ Q) X.xe s
def UT:TJ:=fun out _ H Q=>out.length<=sizeLine/\Q (.str out) H
def TV(te:TE)(tr:TJ):TJ:=fun out σ H Q=>te σ H fun x H1=>∃ y:Str,x=.str y/\(out++y).length<=sizeLine/\tr (out++y) σ H1 Q
def Wu(te:TE):TE:=fun σ H Q=>te σ H fun x H1=>(∃ i:Int,x=.int i/\i.natAbs.log2<1920/\Q (.str (toString i)) H1)\/∃ y:Str,x=.str y/\y.length<=sizeLine/\Q (.str y) H1
section
variable {X:Cx} {e v1 v2:Expr} {es:List Expr} {te:TE} {tr:TJ} {pos:Pos}
theorem zM:PJ X [] UT:=fun pins s σ H out Q I ⟨h1,h2⟩=>joinParts_nil ⟨.str out,H,I.tok _,⟨_,rfl⟩,h2⟩ h1
theorem mC(he:PE X e te)(hr:PJ X es tr)(hs:evalEach (e::es) X.env=eval e X.env::evalEach es X.env:=by rfl):PJ X (e::es) (TV te tr):=by
 intro pins s σ H out Q I h
 rw[hs]
 refine joinParts_cons (thn (he pins s σ H _ I h) fun u s1 ⟨x,H1,I1,rx,y,ex,hl,q⟩=>?_)
 subst ex
 obtain⟨t,rfl⟩:=(show ∃ t,u=Value.str y t from rx)
 exact⟨hl,hr pins s1 σ H1 _ Q I1 q⟩
theorem qI(h:PJ X (v1::v2::es) tr):PE X (.JoinedStr (v1::v2::es) pos) (tr Str.empty):=fun pins s σ H Q I q=>JoinedStr_many (h pins s σ H _ Q I q)
theorem Bb(he:PE X e te):PE X (.FormattedValue e (-1) none pos) (Wu te):=by
 intro pins s σ H Q I h
 refine FormattedValue_plain (thn (he pins s σ H _ I h) fun u s1 ⟨x,H1,I1,rx,q⟩=>?_)
 rcases q with⟨i,ex,hl,q⟩|⟨y,ex,hl,q⟩
 ·subst ex
  obtain⟨t,rfl⟩:=(show ∃ t,u=Value.int i t from rx)
  exact formatField_int_small hl ⟨.str (toString i),H1,I1.tok _,⟨_,rfl⟩,q⟩
 ·subst ex
  obtain⟨t,rfl⟩:=(show ∃ t,u=Value.str y t from rx)
  exact formatField_str (fun t' tk=>⟨.str y,H1,I1.tok _,⟨_,rfl⟩,q⟩) hl
end
abbrev dD:List Value:=[.type "ValueError",.type "Exception",.type "BaseException",.type "object"]
def ExC(K:Frag)(C:Addr):Prop:=∃ nm q N bs bm hdct sn sub ab col dd k0 k1 k2 k3 k5,K.lookup C=some (excClassObj nm q C N bs bm hdct sn sub ab col dd k0 k1 k2 k3 k5 "ValueError.__new__")/\∀ h,K.In h->OwnTail h dD bm
theorem Dv{H:Hp}{a:Addr}{o:HO}(e:H a=some o):upd H a o=H:=by
 funext b
 by_cases hb:b=a
 ·subst hb;rw[ak,e]
 ·rw[aQ hb]
section
variable {X:Cx} {pins:OP} {σ:St} {H:Hp} {s:Shared} {fl:Bool} {a C B:Addr} {dx:Option Addr} {A:Around} {E:EV}
theorem M4{u:Value}{Q:EV}(I:Inv X pins σ H s)(e:H a=some (ExO fl a C dx))(c:ExC X.K C)(h:∀ s',Inv X pins σ H s'->Q .none s') :
  wpAny (model X.prog X.w) A (call (.builtin "ValueError.__init__") [.ref a,u]) Q E s:=by
 obtain⟨nm,q,N,bs,bm,hdct,sn,sub,ab,col,dd,k0,k1,k2,k3,k5,hc,T⟩:=c
 obtain⟨t0,a1,a2,a3,a4,a5,hx,hfl⟩:=fZ I.hok e
 obtain⟨hh,g,d,t,os⟩:=s
 refine Lw excBase_ValueError (T _ I.kIn) (I.kIn _ _ hc) hx fun h' k hx'=>h _ ?_
 have z:=I.write (x:=a) (e:=a) (o:=ExO fl a C dx) (t':=t) (h':=h') (by rw[e];exact True.intro) (.inl rfl) (fun b o hb q=>k b o hb q) ⟨_,hx'⟩ (sI hx' hfl)
 rwa [Dv e]at z
def SJ(K:Frag)(t:TA):TE:=fun σ H Q=>t σ H fun vs H1=>∃ fl a C dx y,vs=[.ref a,y]/\H1 a=some (ExO fl a C dx)/\ExC K C/\Q .non H1
theorem tR {x:Str} {e1:Expr} {es:List Expr} {t:TA} {p apos pos:Pos} {pl:Sem Bool} (hg:Gl X x) (hm:X.mg x=some (.ref B)) (hs:specialIn X.K (.ref B) "__getattribute__" = some (some (.builtin "type.__getattribute__")))
  (hr:readsIn X.K B (.type "type")=true) (hf:findCls X.K (.ref B) (.type "type") "__init__" = some (.val (.builtin "ValueError.__init__"))) (ha:PA X (e1::es) t)
  (hdb:(x==("__debug__" : Str))=false:=by decide) (he:starEach (e1::es) X.env=(false,eval e1 X.env)::starEach es X.env:=by rfl) (hpl:(backTo pos (starEach es X.env)).any (·.1)=false:=by rfl)
  (ht:eval (.Call (.Attribute (.Name x p) "__init__" apos) (e1::es) [] pos) X.env=(do
   let ov <- eval (.Name x p) X.env
   standAt apos.atName
   let(f,first) <- holding [ov] (getMethod ov "__init__" pl)
   callWith pos f first (backTo pos (starEach (e1::es) X.env)) (backToKw pos (keywordEach [] X.env))):=by rfl) :
  PE X (.Call (.Attribute (.Name x p) "__init__" apos) (e1::es) [] pos) (SJ X.K t):=by
 intro pins s σ H Q I h
 refine methodCall_KW (pl:=pl) (ik I hg hm ?_ hdb) ht
 refine method_cls I.kIn hs (cls_value I.kIn hr hf rfl ?_)
 have I0:Inv X pins σ H {s with toks:=s.toks+1}:=I.tok _
 refine PyProof.Rows.callWith_builtin1 (thn (ha pos pins _ σ H _ I0 h) fun us s1 ⟨vs,H1,I1,r1,fl,a,C,dx,y,ev,ea,c,q1⟩=>?_) he hpl
 subst ev
 obtain⟨u,u2,rfl,rx,_⟩:=vals2 r1
 obtain rfl:u=Value.ref a:=rx
 exact M4 I1 ea c fun s' I'=>⟨.non,H1,I',rfl,q1⟩
end
def FJ(C:Addr)(sp:Sp)(dvs:List V)(E:XK)(t:TA):TE:=fun σ H Q=>t σ H fun vs H1=>∀ x,H1 x=none ->
 sp (.ref x::(vs++dvs)) (upd H1 x (ExO true x C none)) (fun v H2=>v=.non/\Q (.ref x) H2) E
def Pg(C:Addr)(t:TA):TE:=fun σ H Q=>t σ H fun vs H1=>vs.length=1/\∀ x,H1 x=none->Q (.ref x) (upd H1 x (ExO true x C none))
section
variable {X:Cx} {CX:CXT} {k:Nat} {f C:Addr} {fd:FuncData} {ps:List Str} {sp:Sp} {dvs:List V} {ds:List Value} {E:XK} {x:Str} {p pos:Pos} {e:Expr} {es:List Expr} {t:TA}
theorem Inv.madeX{pins:OP}{σ:St}{H:Hp}{s:Shared}{us:List Value}(I:Inv X pins σ H s):Inv X pins σ (upd H (s.heap.objs.size+1) (ExO true (s.heap.objs.size+1) C none))
  {s with heap:=(s.heap.push {cls:=.type "tuple",data:=.seq us.toArray}).push (cA C none #[.ref s.heap.objs.size,.none,.none,.none,.bool false,.none])}:=by
 have hget:((s.heap.push {cls:=.type "tuple",data:=.seq us.toArray}).push (cA C none #[.ref s.heap.objs.size,.none,.none,.none,.bool false,.none])).get? (s.heap.objs.size+1)=some (cA C none #[.ref s.heap.objs.size,.none,.none,.none,.bool false,.none]):=by heap_get
 exact I.laid (a:=s.heap.objs.size+1) (t':=s.toks) (fun b u q=>Heap.get?_push_of_some _ (Heap.get?_push_of_some _ q)) (le_succ _) (sI hget ⟨fun _=>rfl,fun _=>rfl⟩)
theorem Jd {pins:OP} {σ:St} {H:Hp} {s:Shared} {Q:VK} {us:List Value} {vs:List V} (c:ExC X.K C) (hi:findIn X.K (.ref C) "__init__" = some (some (.ref f))) (hf:isFn X.K (.ref f)=true)
  (F:aO X.prog X.w X.K X.mg X.base CX k f fd ps sp) (hr:bw (k+1) X.A) (hb:Binds X.K fd ps ds) (hd:Vals dvs ds) (hx:m5 CX X E) (I:Inv X pins σ H s) (r:Vals vs us) (hps:ps.length<=1000)
  (h:∀ x,H x=none->sp (.ref x::(vs++dvs)) (upd H x (ExO true x C none)) (fun v H2=>v=.non/\Q (.ref x) H2) E) :
  wpAny (model X.prog X.w) X.A (call (.ref C) us) (EP X pins σ Q) X.xe s:=by
 have hq:=h (s.heap.objs.size+1) (I.hok.fresh (le_succ _))
 have I2:=Inv.madeX (C:=C) (us:=us) I
 have r2:Vals (V.ref (s.heap.objs.size+1)::(vs++dvs)) (Value.ref (s.heap.objs.size+1)::(us++ds)):=.cons rfl (r.append hd)
 have hl:(Value.ref (s.heap.objs.size+1)::us++ds).length=ps.length:=by
  have e:=r2.length
  rw[F.len _ _ _ _ hq]at e
  exact e.symm
 have hus:us.length<=sizeLine:=by
  have:us.length<=ps.length:=by rw[<- hl,length_append,length_cons];omega
  exact le_trans this (le_trans hps Za)
 obtain⟨nm,q,N,bs,bm,hdct,sn,sub,ab,col,dd,k0,k1,k2,k3,k5,hc,T⟩:=c
 refine wpAny_call (xg excBase_ValueError (T _ I.kIn) (I.kIn _ _ hc) (looks_findIn I.kIn hi) (fun self=>bind_fn I.kIn self (beq_iff_eq.mp hf)) hus
  (codeAny_mono (F.run _ X.stack _ _ ⟨Value.ref (s.heap.objs.size+1)::us,[]⟩ (Value.ref (s.heap.objs.size+1)::(us++ds)) _ _ E (hr.make C us [])
  (I2.env0.make C us []) (hb _ (Value.ref (s.heap.objs.size+1)::us) I2.kIn hl) r2 hq) fun r s' hq'=>?_))
 cases r with
 | error e=>exact hx pins σ _ _ e s' I2 hq'
 | ok fl =>
  cases fl with
  | ret u =>
   obtain⟨v,H',I3,rv,ev,q3⟩:=I2.after hq'
   subst ev
   exact⟨rv,⟨V.ref (s.heap.objs.size+1),H',I3,rfl,q3⟩⟩
  | next=>exact False.elim hq'
  | brk=>exact False.elim hq'
  | cont=>exact False.elim hq'
theorem MT(c:ExC X.K C)(hi:findIn X.K (.ref C) "__init__" = some (some (.ref f)))(hf:isFn X.K (.ref f)=true)(hkp:keepIn X.K (.ref C)=true)
  (F:aO X.prog X.w X.K X.mg X.base CX k f fd ps sp)(hr:bw (k+1) X.A)(hg:Gl X x)(hm:X.mg x=some (.ref C))(hb:Binds X.K fd ps ds)(hd:Vals dvs ds)(hx:m5 CX X E)(hps:ps.length<=1000)
  (ha:PA X (e::es) t)(hdb:(x==("__debug__" : Str))=false:=by decide)(he:starEach (e::es) X.env=(false,eval e X.env)::starEach es X.env:=by rfl)(hpl:(backTo pos (starEach es X.env)).any (·.1)=false:=by rfl) :
  PE X (.Call (.Name x p) (e::es) [] pos) (FJ C sp dvs E t):=by
 intro pins s σ H Q I h
 refine wpAny_Call_Name_kw (ik I hg hm ?_ hdb)
 refine callWith_K (h₀:=X.base) I.ok.mod.kin hkp (thn (ha pos pins s σ H _ I h) fun us s1 ⟨vs,H1,I1,r,q⟩=>⟨I1.kIn,?_⟩) he hpl
 exact Jd c hi hf F hr hb hd hx I1 r hps q
theorem nU(c:ExC X.K C)(hi:findIn X.K (.ref C) "__init__" = some (some (.builtin "ValueError.__init__")))(hkp:keepIn X.K (.ref C)=true)(hg:Gl X x)(hm:X.mg x=some (.ref C))
  (ha:PA X (e::es) t)(hdb:(x==("__debug__" : Str))=false:=by decide)(he:starEach (e::es) X.env=(false,eval e X.env)::starEach es X.env:=by rfl)(hpl:(backTo pos (starEach es X.env)).any (·.1)=false:=by rfl) :
  PE X (.Call (.Name x p) (e::es) [] pos) (Pg C t):=by
 intro pins s σ H Q I h
 refine wpAny_Call_Name_kw (ik I hg hm ?_ hdb)
 refine callWith_K (h₀:=X.base) I.ok.mod.kin hkp (thn (ha pos pins s σ H _ I h) fun us s1 ⟨vs,H1,I1,r,hl1,q⟩=>⟨I1.kIn,?_⟩) he hpl
 obtain⟨u,rfl⟩:∃ u,us=[u]:=List.length_eq_one_iff.mp (r.length.symm.trans hl1)
 have hq:=q (s1.heap.objs.size+1) (I1.hok.fresh (le_succ _))
 have I2:=Inv.madeX (C:=C) (us:=[u]) I1
 obtain⟨nm,q',N,bs,bm,hdct,sn,sub,ab,col,dd,k0,k1,k2,k3,k5,hc,T⟩:=c
 have hx:(upd H1 (s1.heap.objs.size+1) (ExO true (s1.heap.objs.size+1) C none)) (s1.heap.objs.size+1)=some (ExO true (s1.heap.objs.size+1) C none):=ak
 refine wpAny_call (xg excBase_ValueError (T _ I1.kIn) (I1.kIn _ _ hc) (looks_findIn I1.kIn hi) (fun self=>Looks.of_pure (excBase_ValueError.init.bind self)) (show 1<=sizeLine by decide) ?_)
 have hget:((s1.heap.push {cls:=.type "tuple",data:=.seq [u].toArray}).push (cA C none #[.ref s1.heap.objs.size,.none,.none,.none,.bool false,.none])).get? (s1.heap.objs.size+1)=some (cA C none #[.ref s1.heap.objs.size,.none,.none,.none,.bool false,.none]):=by heap_get
 refine yW excBase_ValueError (T _ I2.kIn) (I2.kIn _ _ hc) hget fun h' k hx'=>⟨rfl,V.ref (s1.heap.objs.size+1),_,?_,rfl,hq⟩
 have z:=I2.write (x:=s1.heap.objs.size+1) (e:=s1.heap.objs.size+1) (o:=ExO true (s1.heap.objs.size+1) C none) (t':=s1.toks) (h':=h') (by rw[hx];exact True.intro) (.inl rfl) (fun b o hb q=>k b o hb q) ⟨_,hx'⟩ (sI hx' ⟨fun _=>rfl,fun _=>rfl⟩)
 rwa [Dv hx]at z
end
def t8(es:Array DictEntry):Bool:=es.toList.all fun e=>match e.key with|.str _ _=>true|_=>false
theorem Fv{es:Array DictEntry}(e:t8 es=true):StrKeys es:=by
 intro d hd
 have:=all_eq_true.mp e d (Array.mem_toList_iff.mpr hd)
 split at this
 ·rename_i x t q;exact⟨x,t,q⟩
 ·cases this
theorem Uc{K:Frag}{N:Addr}{oN:Value}{dN:Option Addr}{es:Array DictEntry}{nn:Nat}{sl:Array (Option Value)}{h:Heap}(X:K.In h)(l:K.lookup N=some ⟨oN,dN,.dict es nn,sl⟩)(e:t8 es=true):h.Ns N (nsFind es) :=
 ⟨_,es,nn,X _ _ l,rfl,Fv e,fun _=>rfl⟩
section
variable {K:Frag} {C D N HE M:Addr} {nm q nm' q':Str} {bs bs' bm bm':List Value} {sn sn':List Str} {sub sub':List Value} {ab ab' hdct hdct':Bool} {col col':Option Bool} {dd dd':Option Addr} {k0 k1 k2 k3 k5 j0 j1 j2 j3 j5:Option Value} {oN:Value} {dN:Option Addr} {es:Array DictEntry} {nn:Nat} {sl:Array (Option Value)} {i i':String}
theorem Sg(l:K.lookup HE=some (excClassObj nm q HE N bs dD hdct sn sub ab col dd k0 k1 k2 k3 k5 "ValueError.__new__")):ExC K HE :=
 ⟨_,_,_,_,_,_,_,_,_,_,_,_,_,_,_,_,l,fun h X=>.base⟩
theorem Nv(l:K.lookup HE=some (excClassObj nm q HE N bs dD hdct sn sub ab col dd k0 k1 k2 k3 k5 i))(n:K.lookup N=some ⟨oN,dN,.dict es nn,sl⟩)(e:t8 es=true)(hi:nsFind es "__init__" = none)
  (l':K.lookup C=some (excClassObj nm' q' C M bs' (.ref HE::dD) hdct' sn' sub' ab' col' dd' j0 j1 j2 j3 j5 "ValueError.__new__")):ExC K C :=
 ⟨_,_,_,_,_,_,_,_,_,_,_,_,_,_,_,_,l',fun h X=>.own (X _ _ l) (Uc X n e) hi .base⟩
theorem xO(l:K.lookup C=some (excClassObj nm q C N bs bm hdct sn sub ab col dd k0 k1 k2 k3 k5 i)):∃ cd,clsIn K C=some cd/\cd.mro=.ref C::bm/\cd.hasDict=hdct:=⟨_,by unfold clsIn;rw[l],rfl,rfl⟩
theorem Bg{b:Value}(l:K.lookup C=some (excClassObj nm q C N bs bm hdct sn sub ab col dd k0 k1 k2 k3 k5 i)):mroIn K C b=some ((Value.ref C::bm).contains b):=by
 obtain⟨cd,h1,h2,_⟩:=xO l
 unfold mroIn
 rw[h1,bind_some,h2,if_neg Zc]
theorem N5(l:K.lookup C=some (excClassObj nm q C N bs bm hdct sn sub ab col dd k0 k1 k2 k3 k5 i))(l':K.lookup D=some (excClassObj nm' q' D M bs' bm' hdct' sn' sub' ab' col' dd' j0 j1 j2 j3 j5 i')) :
  kitOne K (.ref C) (.ref D)=some ((Value.ref C::bm).contains (.ref D)):=by
 unfold kitOne
 by_cases e:(Value.ref C==Value.ref D)=true
 ·rw[if_pos e,eq_of_beq e];simp
 ·rw[if_neg e]
  obtain⟨cd,h1,_⟩:=xO l'
  have h2:typeIn K (.ref D)=some (.type "type"):=by show(K.lookup D).map (·.cls)=_;rw[l'];rfl
  show(if((clsIn K D).isSome&&typeIn K (.ref D)==some (.type "type"))=true then mroIn K C (.ref D)else none)=_
  rw[h1,h2,if_pos Zc,Bg l]
theorem Sw{n:String}(hn:kitMeta n=true)(l:K.lookup C=some (excClassObj nm q C N bs bm hdct sn sub ab col dd k0 k1 k2 k3 k5 i)):kitOne K (.ref C) (.type n)=some ((Value.ref C::bm).contains (.type n)):=by
 unfold kitOne
 rw[if_neg (by intro z;cases eq_of_beq z)]
 show(if kitMeta n=true then mroIn K C (.type n)else none)=_
 rw[if_pos hn,Bg l]
theorem O3(l:K.lookup C=some (excClassObj nm q C N bs bm true sn sub ab col dd k0 k1 k2 k3 k5 i))(hb:du bm=true)(hbe:bm.contains (.type "BaseException")=true)
  (ga:findIn K (.ref C) "__getattribute__" = some (some (.builtin "BaseException.__getattribute__")))(nga:findIn K (.ref C) "__getattr__" = some none)
  (sa:findIn K (.ref C) "__setattr__" = some (some (.builtin "object.__setattr__")))(cl:findIn K (.ref C) "__class__" = some (some (.builtin "object.__class__")))
  (cg:specialIn K (.builtin "object.__class__") "__get__" = some (some (.builtin "getset_descriptor.__get__")))(ct:takesIn K (.builtin "object.__class__")=some true):rW K C:=by
 obtain⟨cd,h1,h2,h3⟩:=xO l
 refine⟨ga,?_,nga,?_,?_,?_,sa,cl,cg,ct⟩
 ·rw[Bg l,contains_cons,hbe,Bool.or_true]
 ·rw[Bg l,contains_cons,sO hb,Bool.or_true]
 ·unfold hasDictIn;rw[h1];exact h3
 ·unfold Bd;rw[h1];show du cd.mro=true;rw[h2,rD];exact hb
end
structure XIn(K:Frag)(C:Addr)(qual:Str)(st:Stmt)(ps:List Str)(f:Addr)(fd:FuncData):Prop where
 F:Fun K "__init__" qual st f fd
 b:Binds K fd ps []
 i:findIn K (.ref C) "__init__" = some (some (.ref f))
 fn:isFn K (.ref f)=true
 kp:keepIn K (.ref C)=true
 sm:ps.length<=1000
theorem vo:bootBuiltins "ValueError" = some (.type "ValueError"):=by decide +kernel
theorem Dl{i:Int}(h:i.natAbs.log2<1920):(Str.ofString (toString i)).length<=5000:=by
 have e:=int_text_length_le (k:=1920) Za h
 rw[PySem.ofString_length];omega
section
variable {X:Cx} {k:Nat} {f C:Addr} {fd:FuncData} {ps:List Str} {sp:Sp} {x qual:Str} {st:Stmt} {p pos pos':Pos} {e o value:Expr} {es:List Expr} {t:TA} {ta tv:TE} {g:Str}
theorem Ei(A:XIn X.K C qual st ps f fd)(G:aO X.prog X.w X.K X.mg X.base CX0 k f fd ps sp)(hr:bw (k+1) X.A)(hm:X.mg x=some (.ref C))(c:ExC X.K C)(ha:PA X (e::es) t)(hg:Gl X x:=by rfl)
  (hdb:(x==("__debug__" : Str))=false:=by decide)(he:starEach (e::es) X.env=(false,eval e X.env)::starEach es X.env:=by rfl)(hpl:(backTo pos (starEach es X.env)).any (·.1)=false:=by rfl) :
  PE X (.Call (.Name x p) (e::es) [] pos) (FJ C sp [] E0 t):=MT c A.i A.fn A.kp G hr hg hm A.b .nil vf A.sm ha hdb he hpl
theorem fJ{y:Addr}(h:X.mg x=some (.ref y))(hg:Gl X x:=by rfl)(hd:(x==("__debug__" : Str))=false:=by decide):PE X (.Name x pos) (tC (.ref y)):=vL hg h rfl hd
theorem uc(ha:PE X o ta)(hv:PE X value tv)(hs:swapsWith value (some (.Attribute o g pos')) pos.line X.env=pure false:=by rfl):QS X (.Assign [.Attribute o g pos'] value pos) (KJ X.K ta tv g):=⟨K8 ha hv hs⟩
end
def lu(K:Frag)(C:Addr)(bm:List Value):Prop:=∃ nm q N bs sn sub ab col dd k0 k1 k2 k3 k5,K.lookup C=some (excClassObj nm q C N bs bm true sn sub ab col dd k0 k1 k2 k3 k5 "ValueError.__new__")
theorem Ri(a:Addr):dD.contains (.ref a)=false:=rfl
structure za(fr:List Addr)(e:Addr)(old:Option Addr)(h h':Heap):Prop where
 keep:∀ b o,h.get? b=some o->b≠e->some b≠old->b∉fr->h'.get? b=some o
 slot:∀ b o,h.get? b=some o->b≠e->some b≠old->∃ sl,h'.get? b=some {o with slots:=sl}
 there:∀ b o,h.get? b=some o->∃ o',h'.get? b=some o'
 size:h.objs.size<=h'.objs.size
def Eb(h:Heap)(T:Addr):Prop:=∃ oT ts,h.get? T=some oT/\oT.data=.fields ts/\ts[3]? = some .none
theorem Mt{o:Obj}{vs:Array Value}(hd:o.data=.fields vs)(f:Array Value->Array Value):Obj.mapFields f o={o with data:=.fields (f vs)}:=by
 obtain⟨c,d,dt,sl⟩:=o
 cases(show dt=.fields vs from hd)
 rfl
theorem vV{o:Obj}{vs:Array Value}(hd:o.data=.fields vs):o.isFreed=false:=Obj.isFreed_of_fields hd
section
variable {M:Model} {A:Around} {E:EV} {s:Shared} {base:Heap} {env:Env} {outer:List Env} {L e:Addr} {oe:Obj} {vs:Array Value} {Q:Unit->Shared->Prop}
theorem Hy {head:Value} {nx:Bool} (hfr:A.frames = some (env :: outer)) (hl:s.heap.FunFrames base (env :: outer)) (hf:env.frame = some L) (he:s.heap.get? e = some oe) (hd:oe.data = .fields vs) (hsz:1 < vs.size)
  (h:∀ h' T,za (frs (env :: outer)) e none s.heap h' -> h'.get? e = some { oe with data:=.fields (vs.setIfInBounds 1 (.ref T)) } -> s.heap.objs.size <= T -> Eb h' T -> Q () { s with heap:=h' }) :
  wpAny M A (do
   let a <- frameOf env
   let pl <- entryPlaceOf L nx
   let b <- EntryCells.newEntry head a .none (rawInt L) .none pl
   setField (.ref e) 1 b) (fun _ s'=>wpAny M A (setFlight (.ref e) none) Q E s') E s:=by
 have en:e ∉ frs (env :: outer):=fun hm=>by
  obtain ⟨_,o,ho,hn⟩:=hl.mem hm
  rw [he] at ho; cases ho; exact hn vs hd
 have elt:e < s.heap.objs.size:=Heap.lt_size he
 refine wpAny_bind (wpAny_frameOf_fun hfr hl hf fun g1 G1=>?_)
 refine wpAny_bind (wpAny_entryPlaceOf fun pl hpl=>?_)
 unfold EntryCells.newEntry newFields
 refine wpAny_bind (wpAny_newObj_type ?_ (hpl.sizeOk5 _ _ _ _ _))
 have e1:g1.get? e = some oe:=(G1.2.1 e en).trans he
 have z1:g1.objs.size = s.heap.objs.size:=G1.1
 have hts:(([head,.ref L,.none,rawInt L,.none] ++ (if pl.isEmpty then List.replicate 6 Value.none else pl)).toArray:Array Value).size > 3:=by
  simp only [size_toArray,length_append,length_cons,length_nil]
  omega
 generalize (([head,.ref L,.none,rawInt L,.none] ++ (if pl.isEmpty then List.replicate 6 Value.none else pl)).toArray:Array Value) = tv at hts
 have t2:=Heap.get?_push_size g1 (o:={ cls:=.type "traceback",dict:=none,data:=.fields tv }) rfl
 have k2:∀ b o,g1.get? b = some o -> (g1.push { cls:=.type "traceback",dict:=none,data:=.fields tv }).get? b = some o:=fun b o q=>Heap.get?_push_of_some _ q
 have z2:(g1.push { cls:=.type "traceback",dict:=none,data:=.fields tv }).objs.size = g1.objs.size + 1:=Heap.size_push _ _
 generalize g1.push { cls:=.type "traceback",dict:=none,data:=.fields tv } = g2 at t2 k2 z2
 have Tne:g1.objs.size ≠ e:=ne_of_gt (by rw [z1]; exact elt)
 refine wpAny_setField (k2 _ _ e1) hd hsz ?_
 have e3:=Heap.get?_update_self (h:=g2) (Obj.mapFields (·.setIfInBounds 1 (Value.ref g1.objs.size))) (k2 _ _ e1) (by rw [Mt hd]; exact vV rfl)
 rw [Mt hd] at e3
 have o3:∀ b,b ≠ e -> (g2.update e (Obj.mapFields (·.setIfInBounds 1 (Value.ref g1.objs.size)))).get? b = g2.get? b:=fun b hb=>Heap.get?_update_other _ _ (Ne.symm hb)
 have z3:(g2.update e (Obj.mapFields (·.setIfInBounds 1 (Value.ref g1.objs.size)))).objs.size = g2.objs.size:=by cases g2; simp [Heap.update]
 generalize g2.update e (Obj.mapFields (·.setIfInBounds 1 (Value.ref g1.objs.size))) = g3 at e3 o3 z3
 unfold setFlight
 refine wpAny_bind (wpAny_field e3 rfl (x:=.ref g1.objs.size) (by simp [hsz]) ?_)
 rw [if_pos (show (Value.ref g1.objs.size != Value.none) = true from by simp)]
 have t3:=(o3 _ Tne).trans t2
 refine wpAny_setField t3 rfl hts ?_
 have t4:=Heap.get?_update_self (h:=g3) (Obj.mapFields (·.setIfInBounds 3 ((none:Option Addr).elim Value.none fun f=>rawInt f))) t3 (vV rfl)
 have o4:∀ b,b ≠ g1.objs.size -> (g3.update g1.objs.size (Obj.mapFields (·.setIfInBounds 3 ((none:Option Addr).elim Value.none fun f=>rawInt f)))).get? b = g3.get? b:=fun b hb=>Heap.get?_update_other _ _ (Ne.symm hb)
 have z4:(g3.update g1.objs.size (Obj.mapFields (·.setIfInBounds 3 ((none:Option Addr).elim Value.none fun f=>rawInt f)))).objs.size = g3.objs.size:=by cases g3; simp [Heap.update]
 generalize g3.update g1.objs.size (Obj.mapFields (·.setIfInBounds 3 ((none:Option Addr).elim Value.none fun f=>rawInt f))) = g4 at t4 o4 z4
 have all:∀ b o,b ≠ e -> g1.get? b = some o -> g4.get? b = some o:=fun b o hb q=>by
  rw [o4 b (ne_of_lt (Heap.lt_size q)),o3 b hb]; exact k2 b o q
 have e4:g4.get? e = some { oe with data:=.fields (vs.setIfInBounds 1 (.ref g1.objs.size)) }:=(o4 e (Ne.symm Tne)).trans e3
 refine h g4 g1.objs.size ⟨fun b o q hb _ hn=>all b o hb ((G1.2.1 b hn).trans q),fun b o q hb _=>?_,fun b o q=>?_,Zb⟩ e4 Zb ⟨_,_,t4,rfl,by simp [hts]⟩
 ·obtain ⟨sl,q1⟩:=G1.2.2 b o q
  exact ⟨sl,all b _ hb q1⟩
 ·by_cases hb:b = e
  ·subst hb; exact ⟨_,e4⟩
  ·obtain ⟨sl,q1⟩:=G1.2.2 b o q
   exact ⟨_,all b _ hb q1⟩
theorem Gd (hfr:A.frames=some (env::outer)) (hl:s.heap.FunFrames base (env::outer)) (hf:env.frame=some L) (he:s.heap.get? e=some oe) (hd:oe.data=.fields vs) (h1:vs[1]? = some .none)
  (h:∀ h' T,za (frs (env::outer)) e none s.heap h'->h'.get? e=some {oe with data:=.fields (vs.setIfInBounds 1 (.ref T))}->s.heap.objs.size<=T->Eb h' T->Q () {s with heap:=h'}) :
  wpAny M A (noteFrame (.ref e) env) (fun _ s'=>wpAny M A (setFlight (.ref e) none) Q E s') E s:=by
 unfold noteFrame
 simp only[hf]
 refine wpAny_bind (wpAny_field he hd h1 ?_)
 rw[if_neg Za]
 exact Hy hfr hl hf he hd (Array.getElem?_eq_some_iff.mp h1).1 h
theorem JL {T0:Addr} (hfr:A.frames = some (env :: outer)) (hl:s.heap.FunFrames base (env :: outer)) (hf:env.frame = some L) (he:s.heap.get? e = some oe) (hd:oe.data = .fields vs) (h1:vs[1]? = some (.ref T0)) (hT:Eb s.heap T0) (hne:T0 ≠ e)
  (h:∀ h' T,za (frs (env :: outer)) e (some T0) s.heap h' -> h'.get? e = some { oe with data:=.fields (vs.setIfInBounds 1 (.ref T)) } -> s.heap.objs.size <= T -> Eb h' T -> Q () { s with heap:=h' }) :
  wpAny M A (noteFrame (.ref e) env) (fun _ s'=>wpAny M A (setFlight (.ref e) none) Q E s') E s:=by
 obtain ⟨oT,ts,hT,hdT,h3⟩:=hT
 unfold noteFrame
 simp only [hf]
 refine wpAny_bind (wpAny_field he hd h1 ?_)
 rw [if_pos (show (Value.ref T0 != Value.none) = true from by simp)]
 refine wpAny_bind (wpAny_field hT hdT h3 ?_)
 rw [if_neg (show ¬ ((Value.none == rawInt L) = true) from by simp [rawInt])]
 refine wpAny_bind (wpAny_setField hT hdT (Array.getElem?_eq_some_iff.mp h3).1 ?_)
 have Tf:T0 ∉ frs (env :: outer):=fun hm=>by
  obtain ⟨_,o,ho,hn⟩:=hl.mem hm
  rw [hT] at ho; cases ho; exact hn ts hdT
 have t1:=Heap.get?_update_self (h:=s.heap) (Obj.mapFields (·.setIfInBounds 3 Value.none)) hT (by rw [Mt hdT]; exact vV rfl)
 have o1:∀ b,b ≠ T0 -> (s.heap.update T0 (Obj.mapFields (·.setIfInBounds 3 Value.none))).get? b = s.heap.get? b:=fun b hb=>Heap.get?_update_other _ _ (Ne.symm hb)
 have z1:(s.heap.update T0 (Obj.mapFields (·.setIfInBounds 3 Value.none))).objs.size = s.heap.objs.size:=by cases s.heap; simp [Heap.update]
 generalize s.heap.update T0 (Obj.mapFields (·.setIfInBounds 3 Value.none)) = g at t1 o1 z1
 refine Hy (s:={ s with heap:=g }) hfr (hl.of_keeps fun b o q hn=>⟨o,(o1 b fun z=>?_).trans q,rfl⟩) hf ((o1 e (Ne.symm hne)).trans he) hd (Array.getElem?_eq_some_iff.mp h1).1 fun h' T N x hz tb=>h h' T ⟨fun b o q hb hT0 hn=>?_,fun b o q hb hT0=>?_,fun b o q=>?_,le_trans (le_of_eq z1.symm) N.size⟩ x (le_trans (le_of_eq z1.symm) hz) tb
 ·subst z; rw [hT] at q; cases q; exact hn ts hdT
 ·exact N.keep b o ((o1 b fun z=>hT0 (by rw [z])).trans q) hb Zc hn
 ·exact N.slot b o ((o1 b fun z=>hT0 (by rw [z])).trans q) hb Zc
 ·by_cases z:b = T0
  ·subst z; exact N.there _ _ t1
  ·exact N.there _ _ ((o1 b z).trans q)
end
theorem KC{P:Program}{w:World}{H:Hp}{h h':Heap}{fr:List Addr}{x C:Addr}{dx old:Option Addr}(ok:HOk P w H h)(N:za fr x old h h')(hx:H x=some (ExO false x C dx))
  (hx':∃ t0 a1 a2 a3 a4 a5,h'.get? x=some (cA C dx #[.ref t0,a1,a2,a3,a4,a5])/\(dx=none->a2=.none))(hfr:∀ b∈fr,H b=none)(hold:∀ T,old=some T->H T=none):HOk P w H h':=fun a o e=>by
 by_cases ha:a=x
 ·subst ha
  rw[hx]at e
  cases e
  obtain⟨t0,a1,a2,a3,a4,a5,q,q2⟩:=hx'
  exact sI q ⟨fun z=>(by cases z),q2⟩
 ·refine(ok a o e).stay (fun b u hb q=>?_) (fun _ q=>q) fun _ _ q=>q
  have hbn:∃ v,H b=some v:=by
   rcases hb with rfl|hb
   ·exact⟨_,e⟩
   ·exact⟨_,hb⟩
  obtain⟨v,hv⟩:=hbn
  refine N.keep b u q (fun z=>?_) (fun z=>?_) (fun z=>?_)
  ·subst z
   rcases hb with z|hb
   ·exact ha z.symm
   ·rw[hx]at hb;cases hb
  ·have:=hold b z.symm
   rw[hv]at this;cases this
  ·have:=hfr b z
   rw[hv]at this;cases this
theorem My{fs fr:List Addr}{H0 H1:Hp}{h0 h1 h2:Heap}{x:Addr}{old:Option Addr}{o:HO}(u:Un fs [] H0 H1 h0 h1)(N:za fr x old h1 h2)(hx:H1 x=some o)
  (hT:∀ T,old=some T->h0.objs.size<=T)(hfr:∀ b∈fr,b∈fs\/h0.objs.size<=b):Un fs [] H0 H1 h0 h2 where
 keep:=fun b ob q n hb he=>by
  refine N.keep b ob (u.keep b ob q n hb he) (fun z=>?_) (fun z=>?_) (fun z=>?_)
  ·have:=u.free b ob q n he
   rw[z,hx]at this;cases this
  ·exact absurd (Heap.lt_size q) (not_lt.mpr (hT b z.symm))
  ·rcases hfr b z with k|k
   ·exact hb k
   ·exact absurd (Heap.lt_size q) (not_lt.mpr k)
 slot:=fun b ob q n hb he=>by
  obtain⟨sl,q1⟩:=u.slot b ob q n hb he
  obtain⟨sl2,q2⟩:=N.slot b _ q1 (fun z=>by have:=u.free b ob q n he;rw[z,hx]at this;cases this) (fun z=>absurd (Heap.lt_size q) (not_lt.mpr (hT b z.symm)))
  exact⟨sl2,q2⟩
 free:=u.free
 there:=fun b ob q he=>by
  obtain⟨o',q1⟩:=u.there b ob q he
  exact N.there b o' q1
 tups:=u.tups
 frzs:=u.frzs
 tbls:=u.tbls
def Fly(h:Heap)(x:Addr)(v:Value):Prop:=∃ oe vs,h.get? x=some oe/\oe.data=.fields vs/\vs[1]? = some v
def CX1(P:Program)(w:World):CXT:=fun outer H s E e s'=>∃ x C dx T H',e=.ref x/\s'.os=s.os/\AllBare s'.gens/\Un (frs outer) [] H H' s.heap s'.heap/\HOk P w H' s'.heap/\H' x=some (ExO false x C dx) /\
 Fly s'.heap x (.ref T)/\Eb s'.heap T/\H' T=none/\s.heap.objs.size<=T/\E e none H'
section
variable {X:Cx} {pins:OP} {σ:St} {H H1:Hp} {s s1:Shared} {x C:Addr} {dx:Option Addr}
structure Rz(X:Cx)(pins:OP)(σ:St)(H1:Hp)(s1:Shared)(H:Hp)(x C:Addr)(dx:Option Addr)(T:Addr)(s:Shared):Prop where
 pre:Inv X pins σ H1 s1
 os:s.os=s1.os
 bare:AllBare s.gens
 un:Un (frs X.stack) [] H1 H s1.heap s.heap
 hok:HOk X.prog X.w H s.heap
 at_:H x=some (ExO false x C dx)
 fly:Fly s.heap x (.ref T)
 tb:Eb s.heap T
 off:H T=none
 new:s1.heap.objs.size<=T
theorem Rz.inv{T:Addr}(r:Rz X pins σ H1 s1 H x C dx T s):Inv X pins σ H s:=r.pre.call' r.os r.un r.hok r.bare (fun b z=>absurd z Zc)
theorem T8{C:Addr}{dx:Option Addr}{t0 T:Addr}{a1 a2 a3 a4 a5:Value}:({cA C dx #[.ref t0,a1,a2,a3,a4,a5]with data:=.fields ((#[.ref t0,a1,a2,a3,a4,a5]:Array Value).setIfInBounds 1 (.ref T))}:Obj)=cA C dx #[.ref t0,.ref T,a2,a3,a4,a5]:=rfl
theorem QB {old:Option Addr} {T:Addr} {h':Heap} {t0:Addr} {a2 a3 a4 a5:Value} (hst:X.stack=X.env::X.outer) (I:Inv X pins σ H1 s1) (os:s.os=s1.os) (bare:AllBare s.gens) (u:Un (frs X.stack) [] H1 H s1.heap s.heap) (hok:HOk X.prog X.w H s.heap) (hx:H x=some (ExO false x C dx)) (N:za (frs (X.env::X.outer)) x old s.heap h')
  (ex:h'.get? x=some (cA C dx #[.ref t0,.ref T,a2,a3,a4,a5])) (h2:dx=none->a2=.none) (hT:s.heap.objs.size<=T) (hs:s1.heap.objs.size<=s.heap.objs.size) (tb:Eb h' T) (hold:∀ T0,old=some T0->H T0=none/\s1.heap.objs.size<=T0):Rz X pins σ H1 s1 H x C dx T {s with heap:=h'} where
 pre:=I
 os:=os
 bare:=bare
 un:=My u N hx (fun T0 e=>(hold T0 e).2) fun b hb=>.inl (by rw[hst];exact hb)
 hok:=by
  have fr:∀ b∈frs (X.env::X.outer),H b=none:=fun b hb=>by
   have hb:b∈frs X.stack:=by rw[hst];exact hb
   obtain⟨_,o,ho,_⟩:=I.stack.mem hb
   exact u.free b o ho (I.stkFree b hb) Zc
  exact KC hok N hx ⟨_,_,_,_,_,_,ex,h2⟩ fr fun T0 e=>(hold T0 e).1
 at_:=hx
 fly:=⟨_,_,ex,rfl,rfl⟩
 tb:=tb
 off:=hok.fresh hT
 new:=le_trans hs hT
theorem Nj{h:Heap}{t0:Addr}{a1 a2 a3 a4 a5 v:Value}(e:h.get? x=some (cA C dx #[.ref t0,a1,a2,a3,a4,a5]))(hf:Fly h x v):(#[.ref t0,a1,a2,a3,a4,a5]:Array Value)[1]? = some v:=by
 obtain⟨oe,vs,e2,hd,h1⟩:=hf
 rw[e]at e2
 cases e2
 cases(show Data.fields #[.ref t0,a1,a2,a3,a4,a5]=.fields vs from hd)
 exact h1
theorem vP {M:Model} {A:Around} {E:EV} {Q:Unit->Shared->Prop} (hA:A.frames=some X.stack) (hst:X.stack=X.env::X.outer) (hfm:X.env.frame=some X.env.locals) (I:Inv X pins σ H1 s1) (os:s.os=s1.os) (bare:AllBare s.gens) (u:Un (frs X.stack) [] H1 H s1.heap s.heap) (hok:HOk X.prog X.w H s.heap)
  (hs:s1.heap.objs.size<=s.heap.objs.size) (hx:H x=some (ExO false x C dx)) (hf:Fly s.heap x .none\/∃ T0,Fly s.heap x (.ref T0)/\Eb s.heap T0/\H T0=none/\s1.heap.objs.size<=T0)
  (q:∀ T s',Rz X pins σ H1 s1 H x C dx T s'->Q () s'):wpAny M A (noteFrame (.ref x) X.env) (fun _ s'=>wpAny M A (setFlight (.ref x) none) Q E s') E s:=by
 obtain⟨t0,a1,a2,a3,a4,a5,e,hfl⟩:=fZ hok hx
 have fun2:s.heap.FunFrames X.base (X.env::X.outer):=by
  have f:=(I.call' os u hok bare (fun b z=>absurd z Zc)).stack
  rwa [hst]at f
 rcases hf with hf|⟨T0,hf,hT0,hn,hz⟩
 ·refine Gd (hA.trans (congrArg some hst)) fun2 hfm e rfl (Nj e hf) fun h' T N ex hT tb=>q T _ ?_
  exact QB hst I os bare u hok hx N (ex.trans (congrArg some T8)) hfl.2 hT hs tb fun T0 z=>by cases z
 ·refine JL (hA.trans (congrArg some hst)) fun2 hfm e rfl (Nj e hf) hT0 (aK hx hn).symm fun h' T N ex hT tb=>q T _ ?_
  exact QB hst I os bare u hok hx N (ex.trans (congrArg some T8)) hfl.2 hT hs tb fun T1 z=>by cases z;exact⟨hn,hz⟩
theorem Rz.flight{M:Model}{A:Around}{E:EV}{Q:Unit->Shared->Prop}{T:Addr}(r:Rz X pins σ H1 s1 H x C dx T s)(q:∀ s',Rz X pins σ H1 s1 H x C dx T s'->Q () s'):wpAny M A (setFlight (.ref x) none) Q E s:=by
 obtain⟨oe,vs,e,hd,h1⟩:=id r.fly
 obtain⟨oT,ts,hT,hdT,h3⟩:=id r.tb
 have hne:x≠T:=aK r.at_ r.off
 refine wpAny_setFlight_none e hd h1 hT hdT (Array.getElem?_eq_some_iff.mp h3).1 (q _ ?_)
 have t1:=Heap.get?_update_self (h:=s.heap) (Obj.mapFields (·.setIfInBounds 3 Value.none)) hT (by rw[Mt hdT];exact vV rfl)
 have o1:∀ b,b≠T->(s.heap.update T (Obj.mapFields (·.setIfInBounds 3 Value.none))).get? b=s.heap.get? b:=fun b hb=>Heap.get?_update_other _ _ (Ne.symm hb)
 rw[Mt hdT]at t1
 have hs3:=(Array.getElem?_eq_some_iff.mp h3).1
 generalize s.heap.update T (Obj.mapFields (·.setIfInBounds 3 Value.none))=g at t1 o1
 have nt:∀ b o,s1.heap.get? b=some o->b≠T:=fun b o z=>ne_of_lt (lt_of_lt_of_le (Heap.lt_size z) r.new)
 refine⟨r.pre,r.os,r.bare,⟨fun b o z n hb he=>(o1 b (nt b o z)).trans (r.un.keep b o z n hb he),fun b o z n hb he=>?_,r.un.free,fun b o z he=>?_,r.un.tups,r.un.frzs,r.un.tbls⟩,fun a o z=>?_,r.at_,⟨oe,vs,(o1 x hne).trans e,hd,h1⟩,⟨_,_,t1,rfl,by simp[hs3]⟩,r.off,r.new⟩
 ·obtain⟨sl,w⟩:=r.un.slot b o z n hb he
  exact⟨sl,(o1 b (nt b o z)).trans w⟩
 ·obtain⟨o',w⟩:=r.un.there b o z he
  exact⟨o',(o1 b (nt b o z)).trans w⟩
 ·refine(r.hok a o z).stay (fun b u hb w=>?_) (fun _ w=>w) fun _ _ w=>w
  refine(o1 b fun k=>?_).trans w
  subst k
  rcases hb with rfl|hb
  ·have:=r.off;rw[z]at this;cases this
  ·have:=r.off;rw[hb]at this;cases this
end
section
variable {P:Program} {w:World} {K:Frag} {mg:MG} {base:Heap} {N:List Str} {qual:Str} {scope:Scope} {f:Addr} {cd:Value} {A:Around} {outer:List Env} {s:Shared} {H:Hp} {E E1:XK}
theorem leave1{pins:OP}{σ:St}{H1:Hp}{s1:Shared}{x C:Addr}{dx:Option Addr}(I:Inv (pO (CX1 P w) P w K mg base N qual scope f cd A outer s H E) pins σ H1 s1)(hx:H1 x=some (ExO false x C dx))(hf:Fly s1.heap x .none)(q:E (.ref x) none H1) :
  (pO (CX1 P w) P w K mg base N qual scope f cd A outer s H E).xe (.ref x) s1:=by
 show wpAny _ _ (leaving _ _) _ _ _
 unfold leaving
 refine wpAny_bind (vP (X:=pO (CX1 P w) P w K mg base N qual scope f cd A outer s H E) I.ok.frames rfl rfl I rfl I.bare Un.refl I.hok (le_refl _) hx (.inl hf) fun T s' r=>?_)
 exact⟨x,C,dx,T,H1,rfl,r.inv.os,r.bare,r.inv.base,r.hok,hx,r.fly,r.tb,r.off,le_trans I.sz r.new,q⟩
theorem Ti(hE:∀ e H',E1 e none H'->E e none H'):m5 (CX1 P w) (pO (CX1 P w) P w K mg base N qual scope f cd A outer s H E) E1:=fun pins σ H1 s1 e s' I h=>by
 obtain⟨x,C,dx,T,H',rfl,os,bare,un,hok,hx,fl,tb,hn,hz,q⟩:=h
 show wpAny _ _ (leaving _ _) _ _ _
 unfold leaving
 have hs:s1.heap.objs.size<=s'.heap.objs.size:=le_trans hz (le_of_lt (by obtain⟨_,_,e,_⟩:=tb;exact Heap.lt_size e))
 refine wpAny_bind (vP (X:=pO (CX1 P w) P w K mg base N qual scope f cd A outer s H E) I.ok.frames rfl rfl I os bare un hok hs hx (.inr ⟨T,fl,tb,hn,hz⟩) fun T2 s2 r=>?_)
 exact⟨x,C,dx,T2,H',rfl,r.inv.os,r.bare,r.inv.base,r.hok,hx,r.fly,r.tb,r.off,le_trans I.sz r.new,hE _ _ q⟩
end
structure rB(X:Cx)(W:St->XK):Prop where
 made:∀ {pins:OP} {σ:St} {H:Hp} {s:Shared} {x C:Addr} {dx:Option Addr},Inv X pins σ H s->H x=some (ExO false x C dx)->Fly s.heap x .none->W σ (.ref x) none H->X.xe (.ref x) s
 came:∀ {pins:OP} {σ:St} {H:Hp} {s s':Shared} {e:Value},Inv X pins σ H s->CX1 X.prog X.w X.stack H s (W σ) e s'->X.xe e s'
theorem bW{P:Program}{w:World}{K:Frag}{mg:MG}{base:Heap}{N:List Str}{qual:Str}{scope:Scope}{f:Addr}{cd:Value}{A:Around}{outer:List Env}{s:Shared}{H:Hp}{E:XK} :
  rB (pO (CX1 P w) P w K mg base N qual scope f cd A outer s H E) (fun _=>E) :=
 ⟨fun I hx hf q=>leave1 I hx hf q,fun{pins σ H1 s1 s' e} I h=>Ti (fun _ _ q=>q) pins σ H1 s1 e s' I h⟩
section
variable {X:Cx} {W:St->XK} {k:Nat} {f C:Addr} {fd:FuncData} {ps:List Str} {sp:Sp} {x:Str} {st:Stmt} {p pos rpos:Pos} {e:Expr} {es:List Expr} {t:TA}
def SM(sp:Sp)(W:St->XK)(t:TA):TE:=fun σ H Q=>t σ H fun vs H1=>sp vs H1 Q (W σ)
theorem OD{pins:OP}{σ:St}{H:Hp}{s:Shared}{Q:VK}{us:List Value}{vs:List V}(hw:rB X W)(F:aO X.prog X.w X.K X.mg X.base (CX1 X.prog X.w) k f fd ps sp)(hr:bw k X.A)(hb:Binds X.K fd ps [])
  (I:Inv X pins σ H s)(r:Vals vs us)(h:sp vs H Q (W σ)):wpAny (model X.prog X.w) X.A (call (.ref f) us) (EP X pins σ Q) X.xe s:=by
 have hl:(us++[]).length=ps.length:=by rw[append_nil,<- r.length];exact F.len _ _ _ _ h
 refine wpAny_call (codeAny_mono (F.run X.A X.stack s H ⟨us,[]⟩ (us++[]) vs Q (W σ) hr I.env0 (hb s us I.kIn hl) (by rw[append_nil];exact r) h) fun r s' hq=>?_)
 cases r with
 | error e=>exact hw.came I hq
 | ok fl =>
  cases fl with
  | ret u=>exact I.after hq
  | next=>exact False.elim hq
  | brk=>exact False.elim hq
  | cont=>exact False.elim hq
theorem gU(A:FnAt X.K X.mg x st ps f fd)(F:aO X.prog X.w X.K X.mg X.base (CX1 X.prog X.w) k f fd ps sp)(hr:bw k X.A)(hw:rB X W)(ha:PA X (e::es) t)(hg:Gl X x:=by rfl)(hdb:(x==("__debug__" : Str))=false:=by decide)(he:starEach (e::es) X.env=(false,eval e X.env)::starEach es X.env:=by rfl)(hpl:(backTo pos (starEach es X.env)).any (·.1)=false:=by rfl) :
  PE X (.Call (.Name x p) (e::es) [] pos) (SM sp W t):=by
 intro pins s σ H Q I h
 refine wpAny_Call_Name_kw (ik I hg A.m ?_ hdb)
 refine callWith_K (h₀:=X.base) I.ok.mod.kin A.F.kp (thn (ha pos pins s σ H _ I h) fun us s1 ⟨vs,H1,I1,r,q⟩=>⟨I1.kIn,?_⟩) he hpl
 exact OD hw F hr A.b I1 r q
end
section
variable {P:Program} {w:World} {K:Frag} {mg:MG} {base:Heap}
theorem Fun.okX {x qual:Str} {st:Stmt} {f:Addr} {fd:FuncData} {N ps:List Str} {k:Nat} {sp:Sp} (F:Fun K x qual st f fd) (S:aM N ps (aC st)) (len:∀ vs H Q E,sp vs H Q E->vs.length=ps.length)
  (hbody:∀ (cdv:Value) (A:Around) (outer:List Env) (s:Shared) (H:Hp) (vs:List V) (Q:VK) (E:XK),bw k (A.deeper (envOfC qual (aC st) s.heap.objs.size f cdv))->sp vs H Q E ->
   ∃ t,PSs (pO (CX1 P w) P w K mg base N qual (aC st) f cdv A outer s H E) (cT st) t/\t {nx:=fun _ H'=>Q .non H',rt:=Q} (start N vs) H):aO P w K mg base (CX1 P w) (k+1) f fd ps sp:=by
 obtain⟨oc,od,kV,doc,pm,an,cdv,ct,osl,rfl,lk,hcd⟩:=F.ex
 exact QT lk hcd S len fun A outer s H vs Q E hr h=>hbody cdv A outer s H vs Q E hr h
end
section
variable {M:Model} {A:Around} {E:EV} {s:Shared} {env:Env}
theorem Iz{x:Sem Value}{Q:Flow->Shared->Prop}(hh:A.handled=none)
  (h:wpAny M A x (fun v s1=>∃ e C dx vs,∃ nm q N bs bm hdct sn sub ab col dd k0 k1 k2 k3 k5 nid,v=.ref e/\s1.heap.get? C=some (excClassObj nm q C N bs bm hdct sn sub ab col dd k0 k1 k2 k3 k5 nid)/\bm.contains (.type "BaseException")=true/\s1.heap.get? e=some (cA C dx vs)/\vs[1]? = some .none/\E (.ref e) s1) E s) :
  wpAny M A (raiseStmt env (some x) none) Q E s:=by
 unfold raiseStmt
 refine wpAny_bind (thn h fun v s1 hz=>?_)
 obtain⟨e,C,dx,vs,nm,q,N,bs,bm,hdct,sn,sub,ab,col,dd,k0,k1,k2,k3,k5,nid,rfl,hC,hb,he,h1,hE⟩:=hz
 obtain⟨hp,g,d,t,os⟩:=s1
 refine wpAny_bind (wpAny_pure ?_)
 have nt:∀ {Q2:Bool->Shared->Prop},Q2 false ⟨hp,g,d,t,os⟩->wpAny M A (isType (.ref e)) Q2 E ⟨hp,g,d,t,os⟩:=fun{Q2} h2=>by
  unfold isType loadHead
  exact wpAny_bind (wpAny_loadPart he (wpAny_pure h2))
 refine wpAny_bind (wpAny_holding ?_)
 unfold excFromValue isExcClass isInstance
 refine wpAny_bind (wpAny_bind (nt ?_))
 rw[if_neg Za]
 refine wpAny_pure ?_
 rw[if_neg Za]
 refine wpAny_bind (wpAny_bind (wpAny_typeOf_ref he (wpAny_isSubtype_exc hC ?_)))
 rw[contains_cons,hb,Bool.or_true,if_pos rfl]
 refine wpAny_pure ?_
 dsimp only
 refine wpAny_bind (nt ?_)
 rw[if_neg Za]
 unfold raisedInstance
 refine wpAny_bind (wpAny_bind (wpAny_typeOf_ref he (wpAny_bind (wpAny_typeOf_ref hC ?_))))
 rw[if_pos (show((excClassObj nm q C N bs bm hdct sn sub ab col dd k0 k1 k2 k3 k5 nid).cls==Value.type "type")=true from by rfl)]
 refine wpAny_pure ?_
 unfold setFlight
 refine wpAny_bind (wpAny_bind (wpAny_field he rfl h1 ?_))
 rw[if_neg Za]
 exact wpAny_pure (wpAny_raiseNew_none hh hE)
end
theorem qO{h:Heap}{bm:List Value}(T:OwnTail h dD bm):bm.contains (.type "BaseException")=true:=by
 induction T with
 | base=>rfl
 | own _ _ _ _ ih=>rw[contains_cons,ih,Bool.or_true]
section
variable {X:Cx} {W:St->XK} {pos:Pos} {e:Expr} {te:TE}
theorem Inv.flown{pins:OP}{σ:St}{H:Hp}{s:Shared}{x C:Addr}{dx:Option Addr}{fl:Bool}(I:Inv X pins σ H s)(hx:H x=some (ExO fl x C dx)):Inv X pins σ (upd H x (ExO false x C dx)) s:=by
 obtain⟨t0,a1,a2,a3,a4,a5,e,hfl⟩:=fZ I.hok hx
 exact I.write (x:=x) (e:=x) (o:=ExO false x C dx) (t':=s.toks) (h':=s.heap) (by rw[hx];exact True.intro) (.inl rfl) (fun b o hb q=>q) ⟨_,e⟩ (sI e ⟨fun z=>(by cases z),hfl.2⟩)
def Rw(K:Frag)(W:St->XK)(te:TE):TS:=fun _ σ H=>te σ H fun v H1=>∃ x C dx,v=.ref x/\H1 x=some (ExO true x C dx)/\ExC K C/\W σ (.ref x) none (upd H1 x (ExO false x C dx))
theorem fU(hw:rB X W)(hc:X.calm=true)(he:PE X e te):QS X (.Raise (some e) none pos) (Rw X.K W te):=⟨by
 intro pins s σ H D I h
 rw[arm_exec_Raise]
 refine wpAny_bind (wpAny_standAt ?_)
 refine Iz (x:=do let v <- eval e X.env;standAt pos;pure v) (I.ok.hd hc) (wpAny_bind (thn (he pins s σ H _ I h) fun u s1 hz=>?_))
 obtain⟨vv,H1,I1,r,x,C,dx,rfl,hx,c,q⟩:=hz
 obtain rfl:u=Value.ref x:=r
 obtain⟨nm,q',N,bs,bm,hdct,sn,sub,ab,col,dd,k0,k1,k2,k3,k5,hcl,hT⟩:=c
 obtain⟨t0,a1,a2,a3,a4,a5,e1,hn⟩:=fZ I1.hok hx
 have h1:(#[.ref t0,a1,a2,a3,a4,a5]:Array Value)[1]? = some .none:=by rw[hn.1 rfl];rfl
 refine wpAny_bind (wpAny_standAt (wpAny_pure ⟨x,C,dx,_,nm,q',N,bs,bm,hdct,sn,sub,ab,col,dd,k0,k1,k2,k3,k5,_,rfl,I1.kIn _ _ hcl,qO (hT _ I1.kIn),e1,h1,?_⟩))
 exact hw.made (I1.flown hx) ak ⟨_,_,e1,rfl,h1⟩ q⟩
end
theorem sub_tt:isSubtype (.type "type") (.type "tuple")=pure false:=by kernel_rfl
section
variable {M:Model} {A:Around} {E:EV} {s:Shared}
theorem yI{x C D:Addr}{oe:Obj}{nm q nm' q':Str}{N N':Addr}{bs bm bs' bm':List Value}{hdct hdct':Bool}{sn sn':List Str}{sub sub':List Value}{ab ab':Bool}{col col':Option Bool}{dd dd':Option Addr}{k0 k1 k2 k3 k5 k0' k1' k2' k3' k5':Option Value}{nid nid':String}{Q:Bool->Shared->Prop}
  (hC:s.heap.get? C=some (excClassObj nm q C N bs bm hdct sn sub ab col dd k0 k1 k2 k3 k5 nid))(hD:s.heap.get? D=some (excClassObj nm' q' D N' bs' bm' hdct' sn' sub' ab' col' dd' k0' k1' k2' k3' k5' nid'))
  (he:s.heap.get? x=some oe)(hc:oe.cls=.ref C)(hb:bm'.contains (.type "BaseException")=true)(h:Q ((Value.ref C::bm).contains (.ref D)) s):wpAny M A (excMatches (.ref x) (.ref D)) Q E s:=by
 obtain⟨hh,g,d,t,os⟩:=s
 unfold excMatches isInstance
 refine wpAny_bind (wpAny_bind (wpAny_typeOf_ref hD ?_))
 show wpAny M A (isSubtype (.type "type") (.type "tuple")) _ E _
 rw[sub_tt]
 refine wpAny_pure ?_
 rw[if_neg Za]
 refine wpAny_bind (wpAny_pure ?_)
 have exc:∀ {Q2:Bool->Shared->Prop},Q2 true ⟨hh,g,d,t,os⟩->wpAny M A (isExcClass (.ref D)) Q2 E ⟨hh,g,d,t,os⟩:=fun{Q2} h2=>by
  unfold isExcClass isType loadHead
  refine wpAny_bind (wpAny_bind (wpAny_loadPart hD (wpAny_pure ?_)))
  rw[if_pos rfl]
  refine wpAny_isSubtype_exc hD ?_
  rw[contains_cons,hb,Bool.or_true]
  exact h2
 dsimp only
 rw[forIn_cons]
 refine wpAny_bind (wpAny_bind (wpAny_bind (exc ?_)))
 rw[if_neg Za]
 refine wpAny_pure ?_
 dsimp only
 rw[List.forIn_nil]
 refine wpAny_pure ?_
 refine wpAny_bind (wpAny_typeOf_ref he ?_)
 rw[hc,forIn_cons]
 refine wpAny_bind (wpAny_bind (wpAny_bind (wpAny_isSubtype_exc hC ?_)))
 by_cases k:(Value.ref C::bm).contains (.ref D)=true
 ·rw[if_pos k]
  rw[k]at h
  exact wpAny_pure (wpAny_pure (wpAny_pure h))
 ·have k2:(Value.ref C::bm).contains (.ref D)=false:=by simpa using k
  rw[if_neg k]
  rw[k2]at h
  refine wpAny_pure ?_
  dsimp only
  rw[List.forIn_nil]
  exact wpAny_pure (wpAny_pure h)
end
section
variable {X:Cx} {pins:OP} {σ:St} {H:Hp} {s:Shared}
theorem Ro {M:Model} {A:Around} {E:EV} {i:Nat} {x:Str} {v:V} {Q:Unit -> Shared -> Prop} (I:Inv X pins σ H s) (hN:X.N.Nodup) (hi:X.N[i]? = some x) (hk:X.env.scope.names.lookup x = some .local) (hσ:σ[i]? = some (some v))
  (h:∀ s',Inv X pins (σ.set i none) H s' -> Q () s'):wpAny M A (unbindName X.env x) Q E s:=by
 obtain ⟨m,hn,hl⟩:=id I.loc
 have hcls:(X.env.scope.kind == .class || (X.env.scope.kind == .module && X.env.locals != X.env.globals)) = false:=by rw [I.ok.kind]; rfl
 have hiσ:i < σ.length:=by rw [I.len]; exact (List.getElem?_eq_some_iff.mp hi).1
 have cne:=I.cne
 obtain ⟨u,_,hu⟩:=hl i x v hi hσ (.inl hk)
 have hm:m x = some u:=by
  rcases hu with ⟨_,z⟩ | ⟨z,_⟩
  ·exact z
  ·have hk2:X.env.kindOf x = some .local:=hk
   rw [hk2] at z
   rcases z with z | z <;> cases z
 obtain ⟨oL,_,_,hoL,_⟩:=id hn
 refine wpAny_unbindName_local hk hn hm hcls (fun h' w hn' hs=>?_)
 refine h _ ⟨I.ok,I.os,I.bare,⟨fun b o e n hb hx=>?_,fun b o e n hb hx=>?_,I.base.free,fun b o e hx=>?_,I.base.tups,I.base.frzs,I.base.tbls⟩,⟨_,hn',fun j y v' e1 e2 e3=>?_⟩,fun y c e=>?_,I.free,I.freeC,fun p hp=>?_,fun b ob e=>?_,by simpa using I.len⟩
 ·exact (hs.2 b (ne_of_lt (lt_of_lt_of_le (Heap.lt_size e) I.ok.above))).trans (I.base.keep b o e n hb hx)
 ·obtain ⟨sl,e1⟩:=I.base.slot b o e n hb hx
  exact ⟨sl,(hs.2 b (ne_of_lt (lt_of_lt_of_le (Heap.lt_size e) I.ok.above))).trans e1⟩
 ·obtain ⟨o',e1⟩:=I.base.there b o e hx
  exact ⟨o',(hs.2 b (ne_of_lt (lt_of_lt_of_le (Heap.lt_size e) I.ok.above))).trans e1⟩
 ·by_cases hj:j = i
  ·subst hj
   rw [getElem?_set_self hiσ] at e2
   cases e2
  ·rw [List.getElem?_set_ne (Ne.symm hj)] at e2
   obtain ⟨u',r',q⟩:=hl j y v' e1 e2 e3
   refine ⟨u',r',?_⟩
   rcases q with ⟨k,e⟩ | ⟨k,c,e,z⟩
   ·refine .inl ⟨k,?_⟩
    have:y ≠ x:=fun e=>hj (xU hN e1 (e ▸ hi))
    simp [this,e]
   ·exact .inr ⟨k,c,e,z.sameBut hs (cne y c e)⟩
 ·obtain ⟨w',z⟩:=I.cell y c e
  exact ⟨w',z.sameBut hs (cne y c e)⟩
 ·obtain ⟨e,n,ne,nf,d⟩:=I.pin p hp
  exact ⟨(hs.2 p.1 ne).trans e,n,ne,nf,d⟩
 ·refine (I.hok b ob e).stay (fun c w' hc q=>(hs.2 c ?_).trans q) (fun _ q=>q) fun _ _ q=>q
  rintro rfl
  rcases hc with rfl | hc
  ·rw [I.free] at e; cases e
  ·rw [I.free] at hc; cases hc
theorem vW{M:Model}{A:Around}{E:EV}{i:Nat}{x:Str}{pos:Pos}{Q:Unit->Shared->Prop}(I:Inv X pins σ H s)(hN:X.N.Nodup)(hi:X.N[i]? = some x)(hk:X.env.scope.names.lookup x=some .local)
  (h:∀ s',Inv X pins (σ.set i none) H s'->Q () s'):wpAny M A (do bindName X.env x Value.none;unbindBehindTheSuite X.env x pos) Q E s:=by
 have hiσ:i<σ.length:=by rw[I.len];exact(List.getElem?_eq_some_iff.mp hi).1
 refine wpAny_bind (wpAny_bindName (ud I hN hi (.inl hk) (v:=V.non) rfl (fun s' I'=>?_) (.inr hk)))
 unfold unbindBehindTheSuite
 refine wpAny_onRaise (Ro I' hN hi hk (getElem?_set_self hiσ) fun s2 I2=>?_)
 rw[set_set]at I2
 exact h s2 I2
end
abbrev Cx.tryc(X:Cx)(pins:OP)(E:EV):Cx:={X with xe:=E,pn:=X.pn++pins}
abbrev Cx.hand(X:Cx)(x:Addr)(pins:OP)(E:EV):Cx:={X with A:=X.A.mark (some (.ref x)),calm:=false,xe:=E,pn:=X.pn++pins}
section
variable {X:Cx} {pins pins':OP} {σ:St} {H:Hp} {s:Shared} {E:EV} {x:Addr}
theorem Inv.tryc(I:Inv X pins σ H s):Inv (X.tryc pins E) [] σ H s :=
 ⟨⟨I.ok.mod,I.ok.kind,I.ok.glob,I.ok.blt,I.ok.above,I.ok.inj,I.ok.has,I.ok.cab,I.ok.hd,I.ok.frames,I.ok.stk,I.ok.exf,I.ok.bs,I.ok.bsz,I.ok.noex,I.ok.exfs,I.ok.funs,I.ok.frf⟩,I.os,I.bare,I.base,I.loc,I.cell,I.free,I.freeC,fun p hp=>I.pin p (by simpa using hp),I.hok,I.len⟩
theorem Inv.untry(I:Inv (X.tryc pins E) pins' σ H s):Inv X pins σ H s :=
 ⟨⟨I.ok.mod,I.ok.kind,I.ok.glob,I.ok.blt,I.ok.above,I.ok.inj,I.ok.has,I.ok.cab,I.ok.hd,I.ok.frames,I.ok.stk,I.ok.exf,I.ok.bs,I.ok.bsz,I.ok.noex,I.ok.exfs,I.ok.funs,I.ok.frf⟩,I.os,I.bare,I.base,I.loc,I.cell,I.free,I.freeC,fun p hp=>I.pin p (mem_append_left _ hp),I.hok,I.len⟩
theorem Inv.hand(I:Inv X pins σ H s):Inv (X.hand x pins E) [] σ H s :=
 ⟨⟨I.ok.mod,I.ok.kind,I.ok.glob,I.ok.blt,I.ok.above,I.ok.inj,I.ok.has,I.ok.cab,(fun z=>by cases z),I.ok.frames,I.ok.stk,I.ok.exf,I.ok.bs,I.ok.bsz,I.ok.noex,I.ok.exfs,I.ok.funs,I.ok.frf⟩,I.os,I.bare,I.base,I.loc,I.cell,I.free,I.freeC,fun p hp=>I.pin p (by simpa using hp),I.hok,I.len⟩
theorem Inv.unhand(ok:X.Ok)(I:Inv (X.hand x pins E) pins' σ H s):Inv X pins σ H s :=
 ⟨ok,I.os,I.bare,I.base,I.loc,I.cell,I.free,I.freeC,fun p hp=>I.pin p (mem_append_left _ hp),I.hok,I.len⟩
end
def Sub(K:Frag)(C D:Addr):Prop:=∃ nm q N bs bm hdct sn sub ab col dd k0 k1 k2 k3 k5 nid,K.lookup C=some (excClassObj nm q C N bs bm hdct sn sub ab col dd k0 k1 k2 k3 k5 nid)/\(Value.ref C::bm).contains (.ref D)=true
def Ends.off(En:Ends)(i:Nat):Ends:={nx:=fun σ H=>En.nx (σ.set i none) H,rt:=En.rt,bk:=fun σ H=>En.bk (σ.set i none) H,ct:=fun σ H=>En.ct (σ.set i none) H}
section
variable {X:Cx} {pins:OP} {σ:St} {H0 H1:Hp} {s0 s2:Shared} {x C D T:Addr} {dx:Option Addr} {cx n:Str} {i:Nat} {np hpos pos:Pos} {b₀:Stmt} {suite body orelse:List Stmt} {rest:List ExceptHandler} {ts to:TS} {En:Ends} {E:EV}
theorem Rz.as{C2:Addr}{dx2:Option Addr}(r:Rz X pins σ H0 s0 H1 x C dx T s2)(h:H1 x=some (ExO false x C2 dx2)):Rz X pins σ H0 s0 H1 x C2 dx2 T s2:=⟨r.pre,r.os,r.bare,r.un,r.hok,h,r.fly,r.tb,r.off,r.new⟩
theorem Nu (r:Rz X pins σ H0 s0 H1 x C dx T s2) (sub:Sub X.K C D) (exD:ExC X.K D) (hg:Gl X cx) (hm:X.mg cx=some (.ref D)) (hdb:(cx==("__debug__" : Str))=false) (hN:X.N.Nodup) (hi:X.N[i]? = some n) (hk:X.env.scope.names.lookup n=some .local)
  (hs:QSs (X.hand x pins fun _ _=>False) (b₀::suite) ts) (q:ts (En.off i) (σ.set i (some (.ref x))) H1) :
  wpAny (model X.prog X.w) X.A (handleBy (.ref x) X.env (.ExceptHandler (some (.Name cx np)) (some n) (b₀::suite) hpos::rest)) (SP X pins En) E s2:=by
 have Ih:=r.inv.hand (x:=x) (E:=fun _ _=>False)
 refine wpAny_handleBy_cons (codeAny_handlers_test (ik Ih hg hm ?_ hdb)) Zh
 obtain⟨nm,q',N,bs,bm,hdct,sn,sb,ab,col,dd,k0,k1,k2,k3,k5,hcl,hT⟩:=exD
 obtain⟨nm2,q2,N2,bs2,bm2,hdct2,sn2,sb2,ab2,col2,dd2,j0,j1,j2,j3,j5,nid,hcl2,hcon⟩:=sub
 obtain⟨t0,a1,a2,a3,a4,a5,e,_⟩:=fZ r.hok r.at_
 refine yI (r.inv.kIn _ _ hcl2) (r.inv.kIn _ _ hcl) e rfl (qO (hT _ r.inv.kIn)) ?_
 rw[hcon]
 show codeAny _ _ (Code.handlers _ [ExceptHandler.ExceptHandler none (some n) (b₀::suite) hpos] _) _ _
 refine codeAny_handlers_suite_as (r.flight fun s3 r3=>?_)
 refine ud (X:=X.hand x pins fun _ _=>False) (pins:=[]) r3.inv.hand hN hi (.inl hk) (v:=V.ref x) rfl (fun s4 I4=>?_) (.inr hk)
 refine wpAny_mono (hs.h [] s4 _ _ _ I4 q) (fun f s5 q5=>?_) (fun e s5 z=>z.elim)
 cases f with
 | next=>obtain⟨σ',H',I',q'⟩:=q5;exact vW (I'.unhand r.inv.ok) hN hi hk fun s6 I6=>⟨_,_,I6,q'⟩
 | brk=>obtain⟨σ',H',I',q'⟩:=q5;exact vW (I'.unhand r.inv.ok) hN hi hk fun s6 I6=>⟨_,_,I6,q'⟩
 | cont=>obtain⟨σ',H',I',q'⟩:=q5;exact vW (I'.unhand r.inv.ok) hN hi hk fun s6 I6=>⟨_,_,I6,q'⟩
 | ret u=>obtain⟨v,σ',H',I',rv,q'⟩:=q5;exact vW (I'.unhand r.inv.ok) hN hi hk fun s6 I6=>⟨v,_,_,I6,rv,q'⟩
abbrev wg(X:Cx)(pins:OP)(hs:List ExceptHandler)(En:Ends):Value->Shared->Prop:=fun e s1=>wpAny (model X.prog X.w) X.A (noteFrame e X.env) (fun _ s2=>wpAny (model X.prog X.w) X.A (setFlight e none) (fun _ s3=>wpAny (model X.prog X.w) X.A (handleBy e X.env hs) (SP X pins En) X.xe s3) X.xe s2) X.xe s1
theorem uf {hs:List ExceptHandler} {W:St->XK} (hst:X.stack=X.env::X.outer) (hfm:X.env.frame=some X.env.locals)
  (h:∀ {σ:St} {H0 H1:Hp} {s0 s2:Shared} {x C T:Addr} {dx:Option Addr},Rz X pins σ H0 s0 H1 x C dx T s2->W σ (.ref x) none H1->wpAny (model X.prog X.w) X.A (handleBy (.ref x) X.env hs) (SP X pins En) X.xe s2):rB (X.tryc pins (wg X pins hs En)) W where
 made:=fun{pins' σ H s x C dx} I hx hf q=>vP (X:=X) I.ok.frames hst hfm I.untry rfl I.bare Un.refl I.hok (le_refl _) hx (.inl hf) fun T s' r=>h r q
 came:=fun{pins' σ H s s' e} I z=>by
  obtain⟨x,C,dx,T,H',rfl,os,bare,un,hok,hx,fl,tb,hn,hz,q⟩:=z
  have hs:s.heap.objs.size<=s'.heap.objs.size:=le_trans hz (le_of_lt (by obtain⟨_,_,e,_⟩:=tb;exact Heap.lt_size e))
  exact vP (X:=X) I.ok.frames hst hfm I.untry os bare un hok hs hx (.inr ⟨T,fl,tb,hn,hz⟩) fun T2 s2 r=>h r q
def Ss(K:Frag)(D:Addr)(i:Nat)(tb:(St->XK)->TS)(to ts:TS):TS:=fun En σ H =>
 tb (fun σ1 e _ H1=>∃ x C dx,e=.ref x/\H1 x=some (ExO false x C dx)/\Sub K C D/\ts (En.off i) (σ1.set i (some (.ref x))) H1) {En with nx:=fun σ2 H2=>to En σ2 H2} σ H
theorem LR{hs:List ExceptHandler}{h₀:ExceptHandler}{W:St->XK}{tb:(St->XK)->TS}{s:Shared}{H:Hp}(hw:rB (X.tryc pins (wg X pins (h₀::hs) En)) W)(hb:QSs (X.tryc pins (wg X pins (h₀::hs) En)) body (tb W))(ho:QSs X orelse to)(I:Inv X pins σ H s)
  (h:tb W {En with nx:=fun σ2 H2=>to En σ2 H2} σ H):wpAny (model X.prog X.w) X.A (exec (.Try body (h₀::hs) orelse [] pos) X.env) (SP X pins En) X.xe s:=by
 refine wpAny_Try_except (wpAny_mono (hb.h [] s σ H _ I.tryc h) (fun f s1 q=>?_) (fun e s1 q=>q))
 cases f with
 | next=>obtain⟨σ',H',I',q'⟩:=q;exact ho.h pins s1 σ' H' En I'.untry q'
 | brk=>obtain⟨σ',H',I',q'⟩:=q;exact⟨_,_,I'.untry,q'⟩
 | cont=>obtain⟨σ',H',I',q'⟩:=q;exact⟨_,_,I'.untry,q'⟩
 | ret u=>obtain⟨v,σ',H',I',rv,q'⟩:=q;exact⟨v,_,_,I'.untry,rv,q'⟩
theorem KN {tb:(St->XK)->TS} (exD:ExC X.K D) (hm:X.mg cx=some (.ref D)) (hN:X.N.Nodup) (hi:X.N[i]? = some n) (hk:X.env.scope.names.lookup n=some .local) (hst:X.stack=X.env::X.outer) (hfm:X.env.frame=some X.env.locals)
  (hb:∀ pins E W,rB (X.tryc pins E) W->QSs (X.tryc pins E) body (tb W)) (ho:QSs X orelse to) (hs:∀ x pins,QSs (X.hand x pins fun _ _=>False) (b₀::suite) ts) (hg:Gl X cx:=by rfl) (hdb:(cx==("__debug__" : Str))=false:=by decide) :
  QS X (.Try body [.ExceptHandler (some (.Name cx np)) (some n) (b₀::suite) hpos] orelse [] pos) (Ss X.K D i tb to ts):=⟨by
 intro pins s σ H En I h
 refine LR (tb:=tb) (uf hst hfm fun{σ1 H0 H1 s0 s2 x C T dx} r q=>?_) (hb pins _ _ (uf hst hfm fun{σ1 H0 H1 s0 s2 x C T dx} r q=>?_)) ho I h
 all_goals
  obtain⟨x2,C2,dx2,ex,hx2,sub,q2⟩:=q
  cases ex
  exact Nu (r.as hx2) sub exD hg hm hdb hN hi hk (hs x pins) q2⟩
end
theorem yu:entryFor table "proto.unchain" = some Builtin.«proto.unchain»:=entryFor_of_fast Zf
section
variable {P:Program} {w:World} {A:Around} {E:EV} {s:Shared} {env:Env}
theorem yj {α:Type} {e d:Addr} {oe od:Obj} {ve vd:Array Value} {Q:α->Shared->Prop} (hh:A.handled=some (.ref d)) (hne:d≠e)
  (he:s.heap.get? e=some oe) (hde:oe.data=.fields ve) (h2e:2<ve.size) (hd:s.heap.get? d=some od) (hdd:od.data=.fields vd) (h2:vd[2]? = some .none)
  (h:E (.ref e) {s with heap:=s.heap.update e (Obj.mapFields (·.setIfInBounds 2 (.ref d)))}):wpAny (model P w) A (raiseNew (.ref e):Sem α) Q E s:=by
 unfold raiseNew
 refine wpAny_bind (wpAny_handled ?_)
 rw[hh]
 dsimp only
 rw[if_pos (by simpa using hne)]
 refine wpAny_bind (wpAny_holding (wpAny_runValue (codeAny_builtin yu ?_)))
 unfold Builtin.«proto.unchain»
 dsimp only
 refine wpAny_bind (wpAny_field hd hdd h2 ?_)
 rw[if_pos Zd]
 refine wpAny_bind (wpAny_pure (wpAny_pure ?_))
 refine wpAny_bind (thn (wpAny_setField (i:=2) (x:=.ref d) he hde h2e ?_:wpAny _ _ (setField (.ref e) 2 (.ref d)) (fun _ s'=>s'={s with heap:=s.heap.update e (Obj.mapFields (·.setIfInBounds 2 (.ref d)))}) _ s) fun _ s' z=>?_)
 ·rfl
 ·subst z
  exact wpAny_throw h
theorem FN {x c:Sem Value} {d:Addr} {Q:Flow->Shared->Prop} (hh:A.handled=some (.ref d)) (hc:∀ (s1:Shared) {Q1:EV},Q1 .none s1->wpAny (model P w) A c Q1 E s1)
  (h:wpAny (model P w) A x (fun v s1=>∃ e C dx t0 a1 a2 a3 a4 a5 od vd,∃ nm q N bs bm hdct sn sub ab col dd k0 k1 k2 k3 k5 nid,v=.ref e/\s1.heap.get? C=some (excClassObj nm q C N bs bm hdct sn sub ab col dd k0 k1 k2 k3 k5 nid)/\bm.contains (.type "BaseException")=true/\s1.heap.get? e=some (cA C dx #[.ref t0,a1,a2,a3,a4,a5])/\a1=.none/\d≠e/\C≠e /\
   s1.heap.get? d=some od/\od.data=.fields vd/\vd[2]? = some .none/\∀ h',(∀ b o,b≠e->s1.heap.get? b=some o->h'.get? b=some o)->(∀ b,b≠e->h'.get? b=s1.heap.get? b)->h'.get? e=some (cA C dx #[.ref t0,.none,.ref d,.none,.bool true,a5])->E (.ref e) {s1 with heap:=h'}) E s) :
  wpAny (model P w) A (raiseStmt env (some x) (some c)) Q E s:=by
 unfold raiseStmt
 refine wpAny_bind (thn h fun v s1 hz=>?_)
 obtain⟨e,C,dx,t0,a1,a2,a3,a4,a5,od,vd,nm,q,N,bs,bm,hdct,sn,sub,ab,col,dd,k0,k1,k2,k3,k5,nid,rfl,hC,hb,he,rfl,hne,hCe,hd,hdd,h2,hE⟩:=hz
 obtain⟨hp,g,dr,t,os⟩:=s1
 refine wpAny_bind (wpAny_holding (hc _ (wpAny_bind (wpAny_pure ?_))))
 have nt:∀ {hp:Heap} {o:Obj} {vs:Array Value} {Q2:Bool->Shared->Prop},hp.get? e=some (cA C dx vs)->Q2 false ⟨hp,g,dr,t,os⟩->wpAny (model P w) A (isType (.ref e)) Q2 E ⟨hp,g,dr,t,os⟩:=fun{hp o vs Q2} he h2=>by
  unfold isType loadHead
  exact wpAny_bind (wpAny_loadPart he (wpAny_pure h2))
 refine wpAny_bind (wpAny_holding ?_)
 unfold excFromValue isExcClass isInstance
 refine wpAny_bind (wpAny_bind (nt (o:=od) he ?_))
 rw[if_neg Za]
 refine wpAny_pure ?_
 rw[if_neg Za]
 refine wpAny_bind (wpAny_bind (wpAny_typeOf_ref he (wpAny_isSubtype_exc hC ?_)))
 rw[contains_cons,hb,Bool.or_true,if_pos rfl]
 refine wpAny_pure ?_
 dsimp only
 rw[if_pos Zd]
 have u1:=Heap.get?_update_self (h:=hp) (Obj.mapFields (·.setIfInBounds 3 Value.none)) he Zd
 have v1:∀ b,b≠e->(hp.update e (Obj.mapFields (·.setIfInBounds 3 Value.none))).get? b=hp.get? b:=fun b hb=>Heap.get?_update_other _ _ (Ne.symm hb)
 refine wpAny_bind (wpAny_pure (wpAny_bind (wpAny_setField (i:=3) (x:=.none) he rfl (show 3<6 by decide) ?_)))
 generalize hp.update e (Obj.mapFields (·.setIfInBounds 3 Value.none))=hp1 at u1 v1
 have u2:=Heap.get?_update_self (h:=hp1) (Obj.mapFields (·.setIfInBounds 4 (Value.bool true))) u1 Zd
 have v2:∀ b,b≠e->(hp1.update e (Obj.mapFields (·.setIfInBounds 4 (Value.bool true)))).get? b=hp1.get? b:=fun b hb=>Heap.get?_update_other _ _ (Ne.symm hb)
 refine wpAny_bind (wpAny_setField (i:=4) (x:=.bool true) u1 rfl (show 4<6 by decide) ?_)
 generalize hp1.update e (Obj.mapFields (·.setIfInBounds 4 (Value.bool true)))=hp2 at u2 v2
 replace u2:hp2.get? e=some (cA C dx #[.ref t0,.none,a2,.none,.bool true,a5]):=u2
 have w2:∀ b,b≠e->hp2.get? b=hp.get? b:=fun b hb=>(v2 b hb).trans (v1 b hb)
 have hC2:=(w2 C hCe).trans hC
 refine wpAny_bind (nt (o:=od) u2 ?_)
 rw[if_neg Za]
 unfold raisedInstance
 refine wpAny_bind (wpAny_bind (wpAny_typeOf_ref u2 (wpAny_bind (wpAny_typeOf_ref hC2 ?_))))
 rw[if_pos (show((excClassObj nm q C N bs bm hdct sn sub ab col dd k0 k1 k2 k3 k5 nid).cls==Value.type "type")=true from by rfl)]
 refine wpAny_pure ?_
 unfold setFlight
 refine wpAny_bind (wpAny_bind (wpAny_field (x:=.none) u2 rfl rfl ?_))
 rw[if_neg Za]
 refine wpAny_pure ?_
 have u3:=Heap.get?_update_self (h:=hp2) (Obj.mapFields (·.setIfInBounds 2 (Value.ref d))) u2 Zd
 have v3:∀ b,b≠e->(hp2.update e (Obj.mapFields (·.setIfInBounds 2 (Value.ref d)))).get? b=hp2.get? b:=fun b hb=>Heap.get?_update_other _ _ (Ne.symm hb)
 refine yj hh hne u2 rfl (show 2<6 by decide) ((w2 d hne).trans hd) hdd h2 (hE _ (fun b o hb q=>?_) (fun b hb=>(v3 b hb).trans (w2 b hb)) u3)
 exact((v3 b hb).trans (w2 b hb)).trans q
end
section
variable {X:Cx} {pins:OP} {σ:St} {H0 H1:Hp} {s0 s2:Shared} {x C D T d:Addr} {dx:Option Addr} {cx n:Str} {i:Nat} {np hpos pos cp:Pos} {ck:Nat} {e:Expr} {te:TE} {b₀:Stmt} {suite body orelse:List Stmt} {rest:List ExceptHandler} {ts to:TS} {En:Ends} {W:St->XK}
def Hz(K:Frag)(d:Addr)(W:St->XK)(te:TE):TS:=fun _ σ H=>te σ H fun v H1=>∃ x C p Cd fd,v=.ref x/\H1 x=some (ExO true x C (some p))/\ExC K C/\d≠x/\H1 d=some (ExO fd d Cd none)/\W σ (.ref x) none (upd H1 x (ExO false x C (some p)))
theorem Ir(hw:rB X W)(hh:X.A.handled=some (.ref d))(he:PE X e te):QS X (.Raise (some e) (some (.Constant .none ck cp)) pos) (Hz X.K d W te):=⟨by
 intro pins s σ H D I h
 rw[arm_exec_Raise]
 refine wpAny_bind (wpAny_standAt ?_)
 refine FN (x:=do let v <- eval e X.env;standAt pos;pure v) (c:=do let v <- eval (.Constant .none ck cp) X.env;standAt pos;pure v) hh (fun s1 Q1 q1=>?_) (wpAny_bind (thn (he pins s σ H _ I h) fun u s1 hz=>?_))
 ·exact wpAny_bind (Constant_none (wpAny_bind (wpAny_standAt (wpAny_pure q1))))
 obtain⟨vv,H1,I1,r,x,C,p,Cd,fd,rfl,hx,c,hne,hd,q⟩:=hz
 obtain rfl:u=Value.ref x:=r
 obtain⟨nm,q',N,bs,bm,hdct,sn,sub,ab,col,dd,k0,k1,k2,k3,k5,hcl,hT⟩:=c
 obtain⟨t0,a1,a2,a3,a4,a5,e1,hn⟩:=fZ I1.hok hx
 obtain⟨t0d,b1,b2,b3,b4,b5,e2,hnd⟩:=fZ I1.hok hd
 have hC:C≠x:=fun z=>by
  have:=I1.kIn _ _ hcl
  rw[z,e1]at this
  cases this
 refine wpAny_bind (wpAny_standAt (wpAny_pure ⟨x,C,some p,t0,a1,a2,a3,a4,a5,_,_,nm,q',N,bs,bm,hdct,sn,sub,ab,col,dd,k0,k1,k2,k3,k5,_,rfl,I1.kIn _ _ hcl,qO (hT _ I1.kIn),e1,hn.1 rfl,hne,hC,e2,rfl,by rw[hnd.2 rfl];rfl,fun h' k k2 e3=>?_⟩))
 obtain⟨hp,g,dr,t,os⟩:=s1
 have I2:=I1.write (x:=x) (e:=x) (o:=ExO false x C (some p)) (t':=t) (h':=h') (by rw[hx];exact True.intro) (.inl rfl) (fun b o hb q=>k b o hb q) ⟨_,e3⟩ (sI e3 ⟨fun z=>(by cases z),fun z=>(by cases z)⟩)
 exact hw.made I2 ak ⟨_,_,e3,rfl,rfl⟩ q⟩
theorem Jg(ok:X.Ok)(hw:rB X W):rB (X.hand x pins X.xe) W where
 made:=fun I hx hf q=>hw.made (I.unhand ok) hx hf q
 came:=fun I z=>hw.came (I.unhand ok) z
theorem Nh (hp:PassesOwnAt (model X.prog X.w) (X.A.mark (some (.ref x))) X.A X.env X.xe) (r:Rz X pins σ H0 s0 H1 x C dx T s2) (sub:Sub X.K C D) (exD:ExC X.K D) (hg:Gl X cx) (hm:X.mg cx=some (.ref D)) (hdb:(cx==("__debug__" : Str))=false)
  (hs:X.Ok->QSs (X.hand x pins X.xe) (b₀::suite) ts) (q:ts En σ H1) :
  wpAny (model X.prog X.w) X.A (handleBy (.ref x) X.env (.ExceptHandler (some (.Name cx np)) none (b₀::suite) hpos::rest)) (SP X pins En) X.xe s2:=by
 have Ih:=r.inv.hand (x:=x) (E:=X.xe)
 refine wpAny_handleBy_cons (codeAny_handlers_test (ik Ih hg hm ?_ hdb)) Zh
 obtain⟨nm,q',N,bs,bm,hdct,sn,sb,ab,col,dd,k0,k1,k2,k3,k5,hcl,hT⟩:=exD
 obtain⟨nm2,q2,N2,bs2,bm2,hdct2,sn2,sb2,ab2,col2,dd2,j0,j1,j2,j3,j5,nid,hcl2,hcon⟩:=sub
 obtain⟨t0,a1,a2,a3,a4,a5,e,_⟩:=fZ r.hok r.at_
 refine yI (r.inv.kIn _ _ hcl2) (r.inv.kIn _ _ hcl) e rfl (qO (hT _ r.inv.kIn)) ?_
 rw[hcon]
 show codeAny _ _ (Code.handlers _ [ExceptHandler.ExceptHandler none none (b₀::suite) hpos] _) _ _
 refine codeAny_handlers_suite (r.flight fun s3 r3=>?_)
 refine wpAny_mono ((hs r.inv.ok).h [] s3 _ _ _ r3.inv.hand q) (fun f s5 q5=>?_) (fun e s5 z=>?_)
 ·cases f with
  | next=>obtain⟨σ',H',I',q'⟩:=q5;exact⟨_,_,I'.unhand r.inv.ok,q'⟩
  | brk=>obtain⟨σ',H',I',q'⟩:=q5;exact⟨_,_,I'.unhand r.inv.ok,q'⟩
  | cont=>obtain⟨σ',H',I',q'⟩:=q5;exact⟨_,_,I'.unhand r.inv.ok,q'⟩
  | ret u=>obtain⟨v,σ',H',I',rv,q'⟩:=q5;exact⟨v,_,_,I'.unhand r.inv.ok,rv,q'⟩
 ·exact hp _ _ z
def Ur(K:Frag)(D:Addr)(tb:(St->XK)->TS)(to:TS)(ts:Addr->TS):TS:=fun En σ H =>
 tb (fun σ1 e _ H1=>∃ x C dx,e=.ref x/\H1 x=some (ExO false x C dx)/\Sub K C D/\ts x En σ1 H1) {En with nx:=fun σ2 H2=>to En σ2 H2} σ H
theorem P0 {tb:(St->XK)->TS} {ts:Addr->TS} (hp:∀ x:Addr,PassesOwnAt (model X.prog X.w) (X.A.mark (some (.ref x))) X.A X.env X.xe) (hw:rB X W) (exD:ExC X.K D) (hm:X.mg cx=some (.ref D)) (hst:X.stack=X.env::X.outer) (hfm:X.env.frame=some X.env.locals)
  (hb:∀ pins E W,rB (X.tryc pins E) W->QSs (X.tryc pins E) body (tb W)) (ho:QSs X orelse to) (hs:∀ x pins,rB (X.hand x pins X.xe) W->QSs (X.hand x pins X.xe) (b₀::suite) (ts x)) (hg:Gl X cx:=by rfl) (hdb:(cx==("__debug__" : Str))=false:=by decide) :
  QS X (.Try body [.ExceptHandler (some (.Name cx np)) none (b₀::suite) hpos] orelse [] pos) (Ur X.K D tb to ts):=⟨by
 intro pins s σ H En I h
 refine LR (tb:=tb) (uf hst hfm fun{σ1 H0 H1 s0 s2 x C T dx} r q=>?_) (hb pins _ _ (uf hst hfm fun{σ1 H0 H1 s0 s2 x C T dx} r q=>?_)) ho I h
 all_goals
  obtain⟨x2,C2,dx2,ex,hx2,sub,q2⟩:=q
  cases ex
  exact Nh (hp x) (r.as hx2) sub exD hg hm hdb (fun ok=>hs x pins (Jg ok hw)) q2⟩
end
section
variable {X:Cx} {W:St->XK} {k:Nat} {f C:Addr} {fd:FuncData} {ps:List Str} {sp:Sp} {m:Str} {p pos apos:Pos} {e o:Expr} {es:List Expr} {ta:TE} {t:TA}
theorem Pz:rB X (fun _=>E0):=⟨fun _ _ _ q=>q.elim,fun _ z=>by obtain⟨_,_,_,_,_,_,_,_,_,_,_,_,_,_,_,q⟩:=z;exact q.elim⟩
end
section
variable {X:Cx} {W:St->XK} {k:Nat} {f C:Addr} {fd:FuncData} {ps:List Str} {sp:Sp} {x:Str} {p p2 pos:Pos} {e stp:Expr} {es:List Expr} {te tf:TE} {tk:TO} {t:TA}
end
section
variable {prog:Program} {w:World} {A:Around} {E:EV} {s:Shared}
end
section
variable {X:Cx}
end
structure uh(P:Program)(w:World)(K:Frag)(mg:MG)(base:Heap)(k:Nat)(f:Addr)(fd:FuncData)(ps:List Str)(sp:Sp):Prop where
 len:∀ vs H Q E,sp vs H Q E->vs.length=ps.length
 run:∀ (A:Around) (x:Addr) (outer:List Env) (s:Shared) (H:Hp) (args:Args) (us:List Value) (vs:List V) (Q:VK) (E:XK),bw k A->Aw P w K mg base A outer s H->BindsTo s fd args (ps.zip us)->Vals vs us->sp vs H Q E ->
  codeAny (model P w) (A.mark (some (.ref x))) (.call (.ref f) args) (CR CX0 outer P w H s Q E) s
section
variable {P:Program} {w:World} {K:Frag} {mg:MG} {base:Heap}
theorem Fun.okH {x qual:Str} {st:Stmt} {f:Addr} {fd:FuncData} {N ps:List Str} {k:Nat} {sp:Sp} (F:Fun K x qual st f fd) (S:aM N ps (aC st)) (len:∀ vs H Q E,sp vs H Q E -> vs.length = ps.length)
  (hbody:∀ (cdv:Value) (A:Around) (outer:List Env) (s:Shared) (H:Hp) (vs:List V) (Q:VK) (E:XK) (y:Addr),bw k (A.deeper (envOfC qual (aC st) s.heap.objs.size f cdv)) -> sp vs H Q E ->
   ∃ t,PSs ((pO CX0 P w K mg base N qual (aC st) f cdv A outer s H E).hand y [] fun _ _=>False) (cT st) t /\ t { nx:=fun _ H'=>Q .non H',rt:=Q } (start N vs) H):uh P w K mg base (k + 1) f fd ps sp:=by
 obtain ⟨oc,od,kV,doc,pm,an,cdv,ct,osl,rfl,lk,hcd⟩:=F.ex
 refine ⟨len,fun A y outer s H args us vs Q E hr e0 hb r hsp=>?_⟩
 have hl:=len _ _ _ _ hsp
 have KX:K.In s.heap:=e0.mod.kin.keeps fun b o e=>(e0.bs b o e).1
 have lim:s.heap.NoLimit:=e0.mod.nolimit.keeps fun b o e=>(e0.bs b o e).1
 have hkind:∀ z ∈ ps.zip us,(aC st).names.lookup z.1 = some .local \/ ((aC st).names.lookup z.1 = some .cell /\ ((cellsFrom (s.heap.objs.size + 1) (aC st).names []).lookup z.1).isSome = true):=fun ⟨n,v⟩ hy=>by
  rcases S.par n (of_mem_zip hy).1 with q | q
  ·exact .inl q
  ·exact .inr ⟨q,cellsFrom_some _ _ _ (.inl q)⟩
 refine codeAny_call_function (A:=A.mark (some (.ref y))) hr.depth (KX _ _ lk) rfl S.co S.gen rfl (codeRec_of KX hcd) (hb _ _ _ _ ?_)
 refine wpAny_newFunctionEnv_cells S.kind hkind fun env he s1 x=>?_
 subst he
 refine ⟨lim.keeps x.toInCall.keep,codeAny_func ?_⟩
 obtain ⟨t,ht,hq⟩:=hbody cdv A outer s H vs Q E y (hr.deeper _) hsp
 have I:Inv (pO CX0 P w K mg base N qual (aC st) f cdv A outer s H E) [] (start N vs) H s1:=zp S hr.hd e0 hl r x
 refine wpAny_mono (ht [] s1 (start N vs) H _ I.hand hq) (fun fl s' hs=>?_) fun e s' hs=>hs.elim
 have fin:∀ {σ':St} {H':Hp} {v:V} {u:Value},Inv ((pO CX0 P w K mg base N qual (aC st) f cdv A outer s H E).hand y [] fun _ _=>False) [] σ' H' s' -> RelV v u -> Q v H' -> CE outer P w H s Q u s' :=
  fun {σ' H' v u} J rv q=>⟨v,H',J.os,J.bare,J.base,J.hok,rv,q⟩
 cases fl with
 | ret u =>
  obtain ⟨v,σ',H',J,rv,q⟩:=hs
  exact fin J rv q
 | next =>
  obtain ⟨σ',H',J,q⟩:=hs
  exact fin (v:=V.non) (u:=Value.none) J rfl q
 | brk =>
  obtain ⟨_,_,_,q⟩:=hs
  exact False.elim q
 | cont =>
  obtain ⟨_,_,_,q⟩:=hs
  exact False.elim q
end
section
variable {X:Cx} {k:Nat} {f y:Addr} {fd:FuncData} {ps:List Str} {sp:Sp} {x:Str} {st:Stmt} {p pos:Pos} {e:Expr} {es:List Expr} {t:TA} {pins0:OP} {E0':EV}
theorem Le (A:FnAt X.K X.mg x st ps f fd) (F:uh X.prog X.w X.K X.mg X.base k f fd ps sp) (hr:bw k X.A) (ha:PA (X.hand y pins0 E0') (e::es) t) (hg:Gl (X.hand y pins0 E0') x:=by rfl) (hdb:(x==("__debug__" : Str))=false:=by decide)
  (he:starEach (e::es) X.env=(false,eval e X.env)::starEach es X.env:=by rfl) (hpl:(backTo pos (starEach es X.env)).any (·.1)=false:=by rfl) :
  PE (X.hand y pins0 E0') (.Call (.Name x p) (e::es) [] pos) (Hl sp [] E0 t):=by
 intro pins s σ H Q I h
 refine wpAny_Call_Name_kw (ik I hg A.m ?_ hdb)
 refine callWith_K (h₀:=X.base) I.ok.mod.kin A.F.kp (thn (ha pos pins s σ H _ I h) fun us s1 ⟨vs,H1,I1,r,q⟩=>⟨I1.kIn,?_⟩) he hpl
 have q:sp (vs++[]) H1 Q E0:=q
 rw[append_nil]at q
 have hl:(us++[]).length=ps.length:=by rw[append_nil,<- r.length];exact F.len _ _ _ _ q
 have e0:=I1.env0
 refine wpAny_call (codeAny_mono (F.run X.A y X.stack s1 H1 ⟨us,[]⟩ (us++[]) vs Q E0 hr ⟨e0.frames,e0.mod,e0.bs,e0.bsz,e0.funs,e0.frf,e0.hok,e0.bare⟩ (A.b s1 us I1.kIn hl) (by rw[append_nil];exact r) q) fun r s' hq=>?_)
 cases r with
 | error e=>exact hq.elim
 | ok fl =>
  cases fl with
  | ret u=>exact I1.after hq
  | next=>exact False.elim hq
  | brk=>exact False.elim hq
  | cont=>exact False.elim hq
end
section
variable {X:Cx} {W:St->XK} {k:Nat} {f C:Addr} {fd:FuncData} {ps:List Str} {sp:Sp} {x:Str} {p pos:Pos} {e:Expr} {es:List Expr} {t:TA}
end
def Hq(K:Frag):List V->Hp->VK->Prop:=fun xs H Q=>∃ (fl:Bool) (a C:Addr) (dx:Option Addr) (tp:Addr) (cs:List Addr) (b:Bool),xs=[.ref a,.ref tp]/\H tp=some (.tup (cs.map V.ref))/\H a=some (ExO fl a C dx)/\(∀ p,dx=some p->∃ fs,H p=some (XdO p fs))/\rW K C/\kitAny K (.ref C) (cs.map Value.ref)=some b/\Q (.bl b) H
theorem GZ:∀{cs:List Addr}{us:List Value},Vals (cs.map V.ref) us->us=cs.map Value.ref
 | [],_,h=>by cases h;rfl
 | c::cs,_,h=>by
  cases h with
  | cons r t =>
   have e1:=GZ t
   subst e1
   obtain rfl:_=Value.ref c:=r
   rfl
section
variable {X:Cx}
theorem EY:iy X (.builtin "isinstance") (Hq X.K):=by
 intro pins s σ H xs us Q I r h
 obtain⟨fl,a,C,dx,tp,cs,b,rfl,ht,ea,ed,cl,k,q⟩:=h
 obtain⟨u,u2,rfl,rx,ry⟩:=vals2 r
 obtain rfl:u=Value.ref a:=rx
 obtain rfl:u2=Value.ref tp:=ry
 obtain⟨_,its,rv,o,h1,h2,n,h3⟩:=(show dB X.prog X.w H s.heap tp (.tup (cs.map V.ref))from I.hok tp _ ht)
 obtain rfl:=GZ rv
 obtain⟨t0,a1,a2,a3,a4,a5,hx,hfl⟩:=fZ I.hok ea
 have J:∃ ox od,PySem.W.InstAt s.heap a ox C od:=by
  cases dx with
  | none=>exact⟨_,none,hx,rfl,rfl,True.intro⟩
  | some p =>
   obtain⟨fs,d⟩:=ed p rfl
   obtain⟨mA,hn,_⟩:=Bs I.hok d
   obtain⟨od,ho,_⟩:=qK hn
   exact⟨_,some od,hx,rfl,rfl,ho⟩
 obtain⟨c0,d0,dt,sl0⟩:=o
 simp only at h2 h3
 subst h2 h3
 exact kia_tup (Du cl.cls cl.ga cl.bx cl.nga cl.ob cl.fo) I.kIn J h1 k (fun z=>nomatch z) fun tk=>⟨.bl b,H,I.tok tk,rfl,q⟩
theorem Bl{K:Frag}(h:X.K=K):iy X (.builtin "isinstance") (Hq K):=by subst h;exact EY
end
section
variable {X:Cx} {tg:Expr}
end
section
variable {X:Cx} {pins:OP} {σ:St} {H:Hp} {s:Shared}
end
end L2
namespace Kn
section
variable {α:Type}
end
end Kn
namespace L2
open PySem PySem.Spec PyProof.Rows PySem.W
section
variable {X:Cx} {pins:OP} {σ:St} {H:Hp} {s:Shared}
end
open AutoSeq1 (wpAny_loadPart')
open MeetsSeq MeetsSeq2 MeetsSeq3 SeqRoads2
section
variable {prog:Program} {w:World} {A:Around} {R:Result->Shared->Prop} {I:Addr} {fp wr:List Addr} {n:Nat} {P:Nat->Value->Prop} {St:Nat->Heap->Prop}
end
section
variable {X:Cx}
end
section
variable {X:Cx}
end
section
variable {X:Cx} {k:Nat} {f C y:Addr} {fd:FuncData} {ps:List Str} {sp:Sp} {x qual:Str} {st:Stmt} {p pos:Pos} {e:Expr} {es:List Expr} {t:TA} {pins0:OP} {E0':EV}
theorem Q6 (A:XIn X.K C qual st ps f fd) (G:uh X.prog X.w X.K X.mg X.base k f fd ps sp) (hr:bw (k+1) X.A) (hm:X.mg x=some (.ref C)) (c:ExC X.K C) (ha:PA (X.hand y pins0 E0') (e::es) t) (hg:Gl (X.hand y pins0 E0') x:=by rfl)
  (hdb:(x==("__debug__" : Str))=false:=by decide) (he:starEach (e::es) X.env=(false,eval e X.env)::starEach es X.env:=by rfl) (hpl:(backTo pos (starEach es X.env)).any (·.1)=false:=by rfl) :
  PE (X.hand y pins0 E0') (.Call (.Name x p) (e::es) [] pos) (FJ C sp [] E0 t):=by
 intro pins s σ H Q I h
 refine wpAny_Call_Name_kw (ik I hg hm ?_ hdb)
 refine callWith_K (h₀:=X.base) I.ok.mod.kin A.kp (thn (ha pos pins s σ H _ I h) fun us s1 ⟨vs,H1,I1,r,q⟩=>⟨I1.kIn,?_⟩) he hpl
 have hq:=q (s1.heap.objs.size+1) (I1.hok.fresh (le_succ _))
 have I2:=Inv.madeX (C:=C) (us:=us) I1
 rw[append_nil]at hq
 have r2:Vals (V.ref (s1.heap.objs.size+1)::vs) (Value.ref (s1.heap.objs.size+1)::us):=.cons rfl r
 have hl:(Value.ref (s1.heap.objs.size+1)::us++[]).length=ps.length:=by
  have e:=r2.length
  rw[G.len _ _ _ _ hq]at e
  rw[append_nil]
  exact e.symm
 have hus:us.length<=sizeLine:=by
  have:us.length<=ps.length:=by rw[<- hl,append_nil,length_cons];omega
  exact le_trans this (le_trans A.sm Za)
 obtain⟨nm,q,N,bs,bm,hdct,sn,sub,ab,col,dd,k0,k1,k2,k3,k5,hc,T⟩:=c
 have e0:=I2.env0
 have e1:Aw X.prog X.w X.K X.mg X.base X.A X.stack _ _:=⟨e0.frames,e0.mod,e0.bs,e0.bsz,e0.funs,e0.frf,e0.hok,e0.bare⟩
 refine wpAny_call (xg excBase_ValueError (T _ I1.kIn) (I1.kIn _ _ hc) (looks_findIn I1.kIn A.i) (fun self=>bind_fn I1.kIn self (beq_iff_eq.mp A.fn)) hus
  (codeAny_mono (G.run (X.A.under (.builtin "type.__call__" ⟨.ref C::us,[]⟩)) y X.stack _ _ ⟨Value.ref (s1.heap.objs.size+1)::us,[]⟩ (Value.ref (s1.heap.objs.size+1)::us) _ _ E0 (hr.make C us [])
  (e1.make C us []) (by have z:=A.b _ (Value.ref (s1.heap.objs.size+1)::us) I2.kIn hl;rw[append_nil]at z;exact z) r2 hq) fun r s' hq'=>?_))
 cases r with
 | error e=>exact hq'.elim
 | ok fl =>
  cases fl with
  | ret u =>
   obtain⟨v,H',I3,rv,ev,q3⟩:=I2.after hq'
   subst ev
   exact⟨rv,⟨V.ref (s1.heap.objs.size+1),H',I3,rfl,q3⟩⟩
  | next=>exact False.elim hq'
  | brk=>exact False.elim hq'
  | cont=>exact False.elim hq'
end
end L2
namespace Mine
open PySem PySem.Spec PyProof.Rows L2 PySem.Builtin PySem.Builtin.Str
theorem NB{c:Nat}:inL c=true↔97<=c/\c<=122:=by
 refine⟨fun h=>?_,fun h=>G6 h.1 h.2⟩
 unfold inL at h
 rw[StrLaws.found_one,decide_eq_true_eq]at h
 have:∀ n∈letters.cps.toList,97<=n/\n<=122:=by decide +kernel
 exact this c h
theorem G4{c:Nat}:inF c=true↔48<=c/\c<=57:=by
 refine⟨fun h=>?_,fun h=>Ht h.1 h.2⟩
 unfold inF at h
 rw[StrLaws.found_one,decide_eq_true_eq]at h
 have:∀ n∈NT.cps.toList,48<=n/\n<=57:=by decide +kernel
 exact this c h
theorem oG{z:Str}:nmB z=true↔cX z:=by
 refine⟨fun h=>?_,cX.nmB⟩
 unfold nmB at h
 rw[and_eq_true,and_eq_true,decide_eq_true_eq,decide_eq_true_eq,all_eq_true]at h
 exact⟨h.1.1,h.1.2,fun n hn=>NB.mp (h.2 n hn)⟩
theorem rM{d:Nat}(h:d<10):(Nat.toDigits 10 d).map Char.toNat=[48+d]:=by
 rw[Nat.toDigits_of_lt_base h]
 have:∀ n:Fin 10,[Nat.digitChar n.val].map Char.toNat=[48+n.val]:=by decide
 exact this ⟨d,h⟩
theorem digits_of:∀(n:Nat)(ds:List Nat),ds.length=n->ds≠[]->(∀ d∈ds,48<=d/\d<=57)->(ds.head? = some 48->ds=[48])->∃ m,(Nat.toDigits 10 m).map Char.toNat=ds:=by
 intro n
 induction n using Nat.strongRecOn with
 | _ n ih =>
  intro ds hn h0 hd hh
  have e:=List.dropLast_concat_getLast h0
  have hl:=hd _ (List.getLast_mem h0)
  generalize ds.getLast h0=d at e hl
  by_cases hi:ds.dropLast=[]
  ·rw[hi,nil_append]at e
   refine⟨d - 48,?_⟩
   rw[rM Zb,<- e,show 48+(d - 48)=d from by omega]
  ·have hlen:ds.dropLast.length<n:=by rw[List.length_dropLast,hn];have:=length_pos_iff.mpr h0;omega
   have h2:2<=ds.length:=by have:=length_pos_iff.mpr hi;rw[List.length_dropLast]at this;omega
   have hhd:ds.dropLast.head? = ds.head?:=by
    cases hq:ds.dropLast with
    | nil=>exact absurd hq hi
    | cons a r=>rw[hq]at e;rw[<- e];rfl
   have hno:ds.dropLast.head? ≠ some 48:=fun z=>by
    rw[hhd]at z
    have:=hh z
    rw[this]at h2
    simp at h2
   obtain⟨m,hm⟩:=ih _ hlen ds.dropLast rfl hi (fun x hx=>hd x ((List.dropLast_sublist ds).subset hx)) (fun z=>absurd z hno)
   have hm0:0<m:=by
    rcases Nat.eq_zero_or_pos m with z|z
    ·subst z
     rw[rM Za]at hm
     exact absurd (by rw[<- hm];rfl) hno
    ·exact z
   refine⟨10*m+(d - 48),?_⟩
   rw[<- Nat.toDigits_append_toDigits (b:=10) (n:=m) (d:=d - 48) Za hm0 Zb,map_append,hm,rM Zb,show 48+(d - 48)=d from by omega,e]
theorem xV:zero.cps.toList=[48]:=by decide +kernel
theorem wA{z:Str}(h:jC z=true):∃ m,m<10 ^ 20/\z=pJ m:=by
 unfold jC at h
 simp only[and_eq_true,decide_eq_true_eq,all_eq_true,Bool.not_eq_true',Bool.and_eq_false_iff,decide_eq_false_iff_not,Bool.not_eq_false',Bool.not_eq_true]at h
 obtain⟨⟨⟨h1,h2⟩,h3⟩,h4⟩:=h
 have h0:z.cps.toList≠[]:=fun e=>by rw[bZ,e]at h1;simp at h1
 obtain⟨m,hm⟩:=digits_of _ z.cps.toList rfl h0 (fun d hd=>G4.mp (h4 d hd)) (fun e=>by
  rcases h3 with k|k
  ·exact absurd e k
  ·have k:z=zero:=by simpa using k
   rw[k,xV])
 have e:z=pJ m:=cO (by rw[kY,hm])
 refine⟨m,?_,e⟩
 have:(Nat.toDigits 10 m).length<=20:=by rw[bZ,<- hm,length_map]at h2;exact h2
 exact(Nat.length_toDigits_le_iff Za Za).mp this
def cW(n:Nat)(z:Str):Bool:=decide (((Txt.split z ("." : Str)).length:Int)<=(n:Int))&&(Txt.split z ("." : Str)).all nmB
theorem GQ{n:Nat}{z:Str}(h:cW n z=true):∃ ys,ys≠[]/\ys.length<=n/\(∀ y∈ys,cX y)/\z=dotted ys:=by
 unfold cW at h
 rw[and_eq_true,decide_eq_true_eq,all_eq_true]at h
 refine⟨Txt.split z ("." : Str),?_,Zb,fun y hy=>oG.mp (h.2 y hy),?_⟩
 ·rw[vY];exact dR _ _
 ·rw[jm,vY];exact(StrLaws.join_split z _).symm
theorem Eh{n:Nat}{ys:List Str}(h0:ys≠[])(h1:ys.length<=n)(hn:∀ y∈ys,cX y):cW n (dotted ys)=true:=by
 unfold cW
 rw[cZ ys h0 hn,decide_eq_true Zb,all_eq_true.mpr fun y hy=>(hn y hy).nmB];rfl
theorem Gs{z:Str}:cW 4 z=true↔∃ ys,ir ys/\z=dotted ys:=by
 refine⟨fun h=>?_,fun⟨ys,g,e⟩=>by rw[e];exact Eh g.lo g.hi g.nm⟩
 obtain⟨ys,a,b,c,e⟩:=GQ h
 exact⟨ys,⟨a,b,c⟩,e⟩
theorem ends_app{z:Str}(h:Txt.endswith z brk=true):∃ a,z=a++brk:=by
 obtain⟨pre,e⟩:=zb h
 exact⟨⟨pre.toArray⟩,cO (by rw[bG,iJ,e])⟩
theorem vh{a b:Str}(h:a++brk=b++brk):a=b:=by
 apply cO
 have:=congrArg (fun x:Str=>x.cps.toList) h
 simp only[bG]at this
 exact List.append_cancel_right this
def RdW(z:Str):Prop:=∃ th,mW th/\z=wordOf th
theorem tM{a:Str}(hn:jC (a++brk)=false)(h:cW 4 a=false):¬RdW (a++brk):=by
 rintro⟨th,g,e⟩
 cases th with
 | num m=>rw[e]at hn;have:=(jQ (show m<10 ^ 20 from g)).1;rw[show wordOf (.num m)=pJ m from rfl,this]at hn;cases hn
 | nms c ys =>
  cases c with
  | true=>rw[vh (show a++brk=dotted ys++brk from e),Gs.mpr ⟨ys,g,rfl⟩]at h;cases h
  | false =>
   have k:=uD (ir.nm g)
   rw[<- (show a++brk=dotted ys from e),nJ]at k
   cases k
theorem qF{z:Str}(hn:jC z=false)(he:Txt.endswith z brk=false)(h:cW 4 z=false):¬RdW z:=by
 rintro⟨th,g,e⟩
 cases th with
 | num m=>rw[e]at hn;have:=(jQ (show m<10 ^ 20 from g)).1;rw[show wordOf (.num m)=pJ m from rfl,this]at hn;cases hn
 | nms c ys =>
  cases c with
  | true=>rw[show z=dotted ys++brk from e,nJ]at he;cases he
  | false=>rw[show z=dotted ys from e,Gs.mpr ⟨ys,g,rfl⟩]at h;cases h
theorem wC{ys zs:List Str}(gy:ir ys)(gz:ir zs)(e:dotted ys=dotted zs):ys=zs:=by
 have:=cZ ys gy.lo gy.nm
 rw[e,cZ zs gz.lo gz.nm]at this
 exact this.symm
theorem Mx{m n:Nat}(hm:m<10 ^ 20)(hn:n<10 ^ 20)(e:pJ m=pJ n):m=n:=by
 have h1:=(jQ hm).2.2.2
 rw[e,(jQ hn).2.2.2]at h1
 have:=Option.some.inj h1
 omega
theorem G3{m:Nat}{c:Bool}{ys:List Str}(hm:m<10 ^ 20)(g:ir ys)(e:pJ m=wordOf (.nms c ys)):False:=by
 obtain⟨lc,hlc,lo,hi⟩:=qZ g.lo g.nm
 have:lc∈(wordOf (.nms c ys)).cps.toList:=by
  cases c with
  | true=>show lc∈(dotted ys++brk).cps.toList;rw[bG];exact mem_append_left _ hlc
  | false=>exact hlc
 rw[<- e]at this
 have:=digit_range this
 omega
theorem wK{a b:Thg}(ga:mW a)(gb:mW b)(e:wordOf a=wordOf b):a=b:=by
 cases a with
 | num m =>
  cases b with
  | num n=>rw[Mx ga gb e]
  | nms c ys=>exact(G3 ga gb e).elim
 | nms c ys =>
  cases b with
  | num n=>exact(G3 gb ga e.symm).elim
  | nms d zs =>
   cases c with
   | true =>
    cases d with
    | true=>rw[wC ga gb (vh e)]
    | false =>
     have k:=uD (ir.nm gb)
     rw[<- (show dotted ys++brk=dotted zs from e),nJ]at k
     cases k
   | false =>
    cases d with
    | true =>
     have k:=uD (ir.nm ga)
     rw[(show dotted ys=dotted zs++brk from e),nJ]at k
     cases k
    | false=>rw[wC ga gb e]
theorem PQ{a b:Int}(ha:a=1\/a = -1)(hb:b=1\/b = -1)(e:sgw a=sgw b):a=b:=by
 rcases ha with rfl|rfl <;> rcases hb with rfl|rfl
 ·rfl
 ·exact absurd e Ze
 ·exact absurd e Ze
 ·rfl
theorem Gy{ts:List Trm}(g:cD ts){i:Nat}{w:Str}(h:(wordsOf ts)[2*i]? = some w):RdW w:=by
 cases ts with
 | nil=>exact absurd rfl g.lo
 | cons t0 tr =>
  cases i with
  | zero=>cases h;exact⟨t0.th,(g.ok t0 mem_cons_self).th,rfl⟩
  | succ i =>
   have hl:=dz g.lo
   have hi:=(List.getElem?_eq_some_iff.mp h).1
   rw[length_cons]at hl
   have hti:(t0::tr)[i+1]? = some (tr[i]'Zb):=by simp
   have:=(sZ hti).2
   rw[show 2*(i+1)=2*i+2 from by omega,this]at h
   cases h
   exact⟨_,(g.ok _ (mem_cons_of_mem _ (getElem_mem Zb))).th,rfl⟩
theorem Jt{ts:List Trm}(g:cD ts){i:Nat}{w:Str}(h:(wordsOf ts)[2*i+1]? = some w):∃ s:Int,(s=1\/s = -1)/\w=sgw s:=by
 cases ts with
 | nil=>exact absurd rfl g.lo
 | cons t0 tr =>
  have hl:=dz g.lo
  have hi:=(List.getElem?_eq_some_iff.mp h).1
  rw[length_cons]at hl
  have hti:(t0::tr)[i+1]? = some (tr[i]'Zb):=by simp
  have:=(sZ hti).1
  rw[this]at h
  cases h
  exact⟨_,(g.ok _ (mem_cons_of_mem _ (getElem_mem Zb))).sg,rfl⟩
theorem jk{ts us:List Trm}(gt:cD ts)(gu:cD us)(e:wordsOf ts=wordsOf us):ts=us:=by
 have l1:=dz gt.lo
 have l2:=dz gu.lo
 have p1:=length_pos_iff.mpr gt.lo
 have p2:=length_pos_iff.mpr gu.lo
 have hl:ts.length=us.length:=by rw[e]at l1;omega
 have tr_ext:∀ {a b:Trm},a.sg=b.sg->a.th=b.th->a=b:=fun{a b} x y=>by cases a;cases b;cases x;cases y;rfl
 refine ext_getElem hl fun i h1 h2=>?_
 cases i with
 | zero =>
  cases ts with
  | nil=>exact absurd rfl gt.lo
  | cons t0 tr =>
   cases us with
   | nil=>exact absurd rfl gu.lo
   | cons u0 ur =>
    refine tr_ext ((gt.hd t0 rfl).trans (gu.hd u0 rfl).symm) (wK (gt.ok t0 mem_cons_self).th (gu.ok u0 mem_cons_self).th ?_)
    have:=congrArg (·[0]?) e
    exact Option.some.inj this
 | succ i =>
  obtain⟨a1,a2⟩:=sZ (ts:=ts) (i:=i) (getElem?_eq_getElem h1)
  obtain⟨b1,b2⟩:=sZ (ts:=us) (i:=i) (getElem?_eq_getElem h2)
  rw[e,b1]at a1
  rw[e,b2]at a2
  have ga:=gt.ok _ (getElem_mem h1)
  have gb:=gu.ok _ (getElem_mem h2)
  exact tr_ext (PQ ga.sg gb.sg (Option.some.inj a1).symm) (wK ga.th gb.th (Option.some.inj a2).symm)
def RdE(ws:List Str):Prop:=∃ ts,cD ts/\ws=wordsOf ts
theorem qu{ws:List Str}(h:RdE ws):ws.length%2=1/\ws.length<=11:=by
 obtain⟨ts,g,rfl⟩:=h
 have:=dz g.lo
 have:=g.hi
 have:=length_pos_iff.mpr g.lo
 omega
theorem qj{ws:List Str}(h:RdE ws){i:Nat}{w:Str}(e:ws[2*i]? = some w):RdW w:=by
 obtain⟨ts,g,rfl⟩:=h
 exact Gy g e
theorem HB{ws:List Str}(h:RdE ws){i:Nat}{w:Str}(e:ws[2*i+1]? = some w):∃ s:Int,(s=1\/s = -1)/\w=sgw s:=by
 obtain⟨ts,g,rfl⟩:=h
 exact Jt g e
structure zz(ws:List Str)(i:Nat)(ts:List Trm):Prop where
 lo:ts.length=i+1
 ok:∀ t∈ts,qg t
 hd:∀ t,ts.head? = some t->t.sg=1
 ws:wordsOf ts=ws.take (2*i+1)
theorem zz.first{ws:List Str}{th:Thg}(g:mW th)(e:ws[0]? = some (wordOf th)):zz ws 0 [⟨1,th⟩]:=by
 refine⟨rfl,fun t ht=>?_,fun t ht=>?_,?_⟩
 ·rw[mem_singleton.mp ht];exact⟨.inl rfl,g⟩
 ·cases ht;rfl
 ·cases ws with
  | nil=>cases e
  | cons w r=>cases e;rfl
theorem zz.next{ws:List Str}{i:Nat}{ts:List Trm}(h:zz ws i ts){s:Int}{th:Thg}(hs:s=1\/s = -1)(g:mW th)(e1:ws[2*i+1]? = some (sgw s))(e2:ws[2*i+2]? = some (wordOf th)):zz ws (i+1) (ts++[⟨s,th⟩]):=by
 have h0:ts≠[]:=fun z=>by have:=h.lo;rw[z]at this;cases this
 refine⟨by rw[length_append,h.lo];rfl,fun t ht=>?_,fun t ht=>?_,?_⟩
 ·rcases mem_append.mp ht with k|k
  ·exact h.ok t k
  ·rw[mem_singleton.mp k];exact⟨hs,g⟩
 ·cases ts with
  | nil=>exact absurd rfl h0
  | cons a r=>exact h.hd t ht
 ·have k:ws.take (2*i+1+1+1)=ws.take (2*i+1)++[sgw s,wordOf th]:=by
   rw[List.take_succ (i:=2*i+1+1),e2,List.take_succ (i:=2*i+1),e1]
   simp
  rw[oV _ h0,h.ws,show 2*(i+1)+1=2*i+1+1+1 from by omega,k]
theorem zz.all{ws:List Str}{i:Nat}{ts:List Trm}(h:zz ws i ts)(hl:ws.length=2*i+1)(h6:i<=5):cD ts/\ws=wordsOf ts:=by
 refine⟨⟨fun z=>(by have:=h.lo;rw[z]at this;cases this),by have:=h.lo;omega,h.ok,h.hd⟩,?_⟩
 rw[h.ws,take_of_length_le Zb]
end Mine
namespace L2
open PySem PySem.Spec PyProof.Rows PySem.W
theorem IV {z:Str} {tf:TT} {te:TE} {τ0:L2.St} {H:Hp} {Fin:List V -> Hp -> Prop} (p:Nat -> Bool) (f:Nat -> V) (hn:z.length <= sizeLine)
  (htf:∀ c H' Q,aB H H' -> Q (p c) H' -> tf (τ0.set 0 (some (.str ⟨#[c]⟩))) H' Q)
  (hte:∀ c H' Q,c ∈ z.cps.toList -> aB H H' -> (∀ H'',aB H' H'' -> Q (f c) H'') -> te (τ0.set 0 (some (.str ⟨#[c]⟩))) H' Q)
  (hfin:∀ H',aB H H' -> Fin ((z.cps.toList.filter p).map f) H'):mF (dC 0) tf te (Its z) τ0 H Fin:=by
 have hz:z.cps.size = z.cps.toList.length:=by simp
 have hn':z.cps.toList.length <= sizeLine:=by rw [<- hz]; exact hn
 refine ⟨fun i m τ ys H'=>m = z.cps.size - i /\ i <= z.cps.size /\ ys = ((z.cps.toList.take i).filter p).map f /\ aB H H' /\ ∃ v,τ = τ0.set 0 v \/ τ = τ0,⟨z.cps.size,rfl,zero_le _,rfl,aB.refl _,none,.inr rfl⟩,?_⟩
 rintro i m τ ys H' ⟨rfl,hi,rfl,sm,v,hτ⟩
 by_cases hlt:i < z.cps.size
 ·refine .inr ⟨hlt,fun x H'' y=>?_⟩
  obtain ⟨e,c,hc,y⟩:=y
  subst e y
  have e2:τ.set 0 (some (V.str ⟨#[c]⟩)) = τ0.set 0 (some (V.str ⟨#[c]⟩)):=by
   rcases hτ with rfl | rfl
   ·rw [set_set]
   ·rfl
  unfold dC
  rw [e2]
  have hl:((z.cps.toList.take i).filter p).length <= i:=le_trans (List.length_filter_le _ _) (by rw [length_take]; omega)
  refine htf c H'' _ sm ?_
  dsimp only
  cases hp:p c with
  | true =>
   rw [if_pos rfl]
   refine hte c H'' _ (mem_of_getElem? hc) sm fun H4 s4=>?_
   refine ⟨by rw [length_map]; omega,z.cps.size - (i + 1),Zb,rfl,hlt,?_,sm.trans s4,_,.inl rfl⟩
   rw [take_add_one,hc,filter_append,map_append]
   simp [hp]
  | false =>
   rw [if_neg Za]
   refine ⟨z.cps.size - (i + 1),Zb,rfl,hlt,?_,sm,_,.inl rfl⟩
   rw [take_add_one,hc,filter_append]
   simp [hp]
 ·have e:i = z.cps.size:=by omega
  subst e
  exact .inl ⟨le_refl _,by have:=hfin H' sm; rw [hz,take_length]; exact this⟩
end L2
namespace Mine
open PySem PySem.Spec PyProof.Rows L2 PySem.Builtin PySem.Builtin.Str
theorem qD{z:Str}:Txt.slice z (some (-2)) none=brk↔Txt.endswith z brk=true:=by
 by_cases h2:2<=z.length
 ·have:=slice_closes_from_neg (x:=z) (i:=-2) (a:=(z.length:Int) - 2) (b:=(z.length:Int)) Za Zb Zb rfl
  have e:=eq_of_beq this
  have en:((z.length:Int) - 2).toNat=z.length - 2:=by omega
  have et:((z.length:Int) - ((z.length:Int) - 2)).toNat=2:=by omega
  rw[en,et]at e
  rw[e]
  constructor
  ·intro k
   have k2:=congrArg (fun x:Str=>x.cps.toList) k
   simp only[iJ]at k2
   have k3:(z.cps.toList.drop (z.length - 2)).take 2=[40,41]:=k2
   have hl:(z.cps.toList.drop (z.length - 2)).length<=2:=by rw[length_drop,<- bZ];omega
   rw[take_of_length_le hl]at k3
   have ez:z=(⟨(z.cps.toList.take (z.length - 2)).toArray⟩:Str)++brk:=cO (by rw[bG,iJ,<- k3];simp)
   rw[ez];exact nJ _
  ·intro k
   obtain⟨a,rfl⟩:=ends_app k
   apply cO
   rw[bM,kI,iJ]
   show((a++brk).cps.toList.drop (a.length+2 - 2)).take 2=[40,41]
   rw[bG,iJ,show a.length+2 - 2=a.length from by omega,bZ,List.drop_left];rfl
 ·constructor
  ·intro k
   have:=Txt.slice_le z (some (-2)) none
   rw[k,kI]at this
   omega
  ·intro k
   obtain⟨a,rfl⟩:=ends_app k
   rw[bM,kI]at h2
   omega
theorem Ig{z:Str}(hf:z.cps.toList.all inF=true)(h:RdW z):jC z=true:=by
 obtain⟨th,g,e⟩:=h
 cases th with
 | num m=>rw[e];exact(jQ g).1
 | nms c ys =>
  obtain⟨lc,hlc,lo,hi⟩:=qZ (ir.lo g) (ir.nm g)
  have:lc∈z.cps.toList:=by
   rw[e]
   cases c with
   | true=>show lc∈(dotted ys++brk).cps.toList;rw[bG];exact mem_append_left _ hlc
   | false=>exact hlc
  have:=G4.mp (all_eq_true.mp hf lc this)
  omega
section
open PySem PySem.Spec PyProof.Rows L2 PySem.Builtin PySem.Builtin.Str
theorem foldl_size{a:Array Nat}:∀ (k:Nat) (acc:Array Nat),((List.replicate k a).foldl (· ++ ·) acc).size=acc.size+k*a.size
 | 0,acc=>by simp
 | k+1,acc=>by
  rw[replicate_succ,List.foldl_cons,foldl_size k (acc++a),Array.size_append,Nat.add_mul]
  omega
theorem Jp{z:Str}(h1:z.length=1){n:Int}(h0:0<=n)(h2:n<=6000):MulOk z n/\(Txt.mul z n).length<=n.toNat:=by
 refine⟨⟨?_,fun hn _=>?_,fun hn _=>?_⟩,?_⟩
 ·rw[Bool.or_eq_false_iff];exact⟨decide_eq_false Zb,decide_eq_false Zb⟩
 ·rw[h1]
  have:(1:Int)<=(2 ^ 63 - 1) / n:=(Int.le_ediv_iff_mul_le Zb).mpr Zb
  omega
 ·rw[h1]
  unfold tooLong
  simp only[decide_eq_false_iff_not]
  have:n.toNat<=6000:=by omega
  exact fun k=>absurd (le_trans (le_of_lt k) (by omega:1*n.toNat<=6000)) Za
 ·unfold Txt.mul
  split
  ·exact zero_le _
  ·split
   ·rw[h1];omega
   ·show Array.size _<=_
    rw[foldl_size]
    have:z.cps.size=1:=h1
    rw[this];simp
end
end Mine
namespace L2
open PySem PySem.Spec PyProof.Rows PySem.W
theorem wk:∀{bs:List Bool}{us:List Value},Vals (bs.map V.bl) us->us=bs.map Value.bool
 | [],_,h=>by cases h;rfl
 | b::bs,_,h=>by
  cases h with
  | cons r t=>cases r;rw[wk t];rfl
def isT:Value->Bool|.bool b=>b|_=>false
theorem LK{A:Around}{s:Shared}{bs:List Bool}{y:Value}(h:y∈(bs.map Value.bool).toArray):SeqAt.EqAt A s y (.bool true) (isT y):=by
 obtain⟨b,_,rfl⟩:=mem_map.mp (List.mem_toArray.mp h)
 have:=SeqAt.EqAt.bool_bool (A:=A) (s:=s) b true
 rwa [show(b==true)=isT (.bool b)by cases b <;> rfl]at this
section
variable {X:Cx}
def Ou:V->List V->Hp->VK->Prop:=fun x vs H Q=>∃ (l:Addr) (bs:List Bool),x=.ref l/\vs=[.bl true]/\H l=some (.lst (bs.map V.bl))/\Q (.int ((bs.count true:Nat):Int)) H
theorem JK:MtM X "list.count" Ou:=by
 intro pins s σ H x vs v us Q I rx rv h
 obtain⟨l,bs,rfl,rfl,hH,q⟩:=h
 cases rx
 obtain⟨u,rfl,ru⟩:=vals1 rv
 cases ru
 obtain⟨z,its,n,r,hl,e⟩:=I.lstM hH
 have hi:=wk r
 subst hi
 refine call_meets F.slot_list_count ⟨_,e,rfl⟩ F.entry_list_count (F.args_list_count_2 _ _) (SeqAt.list_countAt l _ n _ _ (.bool true) isT) ⟨e,fun y hy=>LK hy,?_⟩
 have c:(bs.map Value.bool).countP isT=bs.count true:=by
  rw[List.countP_map,List.count];congr 1;funext b;cases b <;> rfl
 rw[List.toList_toArray,c]
 exact⟨.int _,H,I.tok _,⟨_,rfl⟩,q⟩
def Pb:V->List V->Hp->VK->Prop:=fun x vs H Q=>∃ (l:Addr) (bs:List Bool) (j:Nat),x=.ref l/\vs=[.bl true]/\H l=some (.lst (bs.map V.bl))/\bs[j]? = some true/\(∀ m,m<j->bs[m]? = some false)/\bs.length<=1000/\Q (.int (j:Int)) H
theorem Jh:MtM X "list.index" Pb:=by
 intro pins s σ H x vs v us Q I rx rv h
 obtain⟨l,bs,j,rfl,rfl,hH,hj,hno,h1000,q⟩:=h
 cases rx
 obtain⟨u,rfl,ru⟩:=vals1 rv
 cases ru
 obtain⟨z,its,n,r,hl,e⟩:=I.lstM hH
 have hi:=wk r
 subst hi
 have hjl:j<bs.length:=(List.getElem?_eq_some_iff.mp hj).1
 have at_:∀ m (hm:m<(bs.map Value.bool).toArray.size),isT (bs.map Value.bool).toArray[m]=(bs[m]'(by simpa using hm)):=fun m hm=>by simp[isT]
 refine call_meets F.slot_list_index ⟨_,e,rfl⟩ F.entry_list_index (F.args_list_index_2 _ _) (SeqAt.list_indexAt l _ n _ _ (.bool true) isT j (by simpa using hjl) Zb ?_ fun m hm hlt=>?_) ⟨e,fun y hy=>LK hy,?_⟩
 ·rw[at_]
  have:=List.getElem?_eq_some_iff.mp hj
  exact this.2
 ·rw[at_]
  exact(List.getElem?_eq_some_iff.mp (hno m hlt)).2
 ·exact⟨.int _,H,I.tok _,⟨_,rfl⟩,q⟩
end
end L2
namespace L2
open PySem PySem.Spec PyProof.Rows
theorem bj{N P:List Str}{s:Scope}(a:s.kind=.function:=by rfl)(b:s.isCoroutine=false:=by rfl)(c:s.isGenerator=false:=by rfl)(d:N.Nodup:=by decide +kernel)(e:N.take P.length=P:=by rfl)(f:∀ x∈P,s.names.lookup x=some .local\/s.names.lookup x=some .cell:=by decide +kernel)(g:∀ y∈s.names,y.2≠.free:=by decide +kernel):aM N P s:=⟨a,b,c,d,e,f,g⟩
section
variable {P:Program} {w:World} {K:Frag} {mg:Str->Option Value} {base:Heap} {C:Nat->Addr} {f:Addr} {fd:FuncData}
theorem Fun.oq {x qual:Str} {st:Stmt} {f:Addr} {fd:FuncData} {N ps:List Str} {k:Nat} {sp:Sp} (F:Fun K x qual st f fd) (S:aM N ps (aC st))
 (hbody:∀ (cdv:Value) (A:Around) (outer:List Env) (s:Shared) (H:Hp) (vs:List V) (Q:VK) (E:XK),bw k (A.deeper (envOfC qual (aC st) s.heap.objs.size f cdv))->sp vs H Q E->∃ t,PSs (pO CX0 P w K mg base N qual (aC st) f cdv A outer s H E).nox (cT st) t/\t {nx:=fun _ H'=>Q .non H',rt:=Q} (start N vs) H)
 (len:∀ vs H Q E,sp vs H Q E->vs.length=ps.length:=by intro vs H Q E h;repeat (first|(obtain⟨rfl,_⟩:=h;rfl)|obtain⟨_,h⟩:=h)):aO P w K mg base CX0 (k+1) f fd ps sp:=F.ok S len hbody
theorem Fun.oqX {x qual:Str} {st:Stmt} {f:Addr} {fd:FuncData} {N ps:List Str} {k:Nat} {sp:Sp} (F:Fun K x qual st f fd) (S:aM N ps (aC st))
 (hbody:∀ (cdv:Value) (A:Around) (outer:List Env) (s:Shared) (H:Hp) (vs:List V) (Q:VK) (E:XK),bw k (A.deeper (envOfC qual (aC st) s.heap.objs.size f cdv))->sp vs H Q E->∃ t,PSs (pO (CX1 P w) P w K mg base N qual (aC st) f cdv A outer s H E) (cT st) t/\t {nx:=fun _ H'=>Q .non H',rt:=Q} (start N vs) H)
 (len:∀ vs H Q E,sp vs H Q E->vs.length=ps.length:=by intro vs H Q E h;repeat (first|(obtain⟨rfl,_⟩:=h;rfl)|obtain⟨_,h⟩:=h)):aO P w K mg base (CX1 P w) (k+1) f fd ps sp:=F.okX S len hbody
end
end L2
namespace Mine
open PySem PySem.Spec PyProof.Rows L2
noncomputable section
structure TgX{α:Type}(x:α):Type
inductive AtX{α:Type}:List α->Nat->α->Prop where
 | hd {x:α} {l:List α}:AtX (x::l) 0 x
 | tl {x y:α} {l:List α} {n:Nat} (h:AtX l n x):AtX (y::l) (n+1) x
inductive LsX{α:Type}:List α->List α->Prop where
 | nl:LsX [] []
 | cs {x:α} {l m:List α} (h:LsX l m):LsX (x::l) (x::m)
def mkX{α:Type}{x:α}{l:List α}{n:Nat}(_:AtX l n x):TgX x:=⟨⟩
def mkY{α:Type}{p x:List α}(_:LsX p x):TgX x:=⟨⟩
noncomputable def exX{α:Type}{l:α}(_:TgX l):α:=l
local macro_rules|`(term| %[$n:num|$_])=>`(exX (⟨⟩:type_of% (mkX (show AtX PySem.Challenge.pw_drawhouse_k26_whole_part_texts.main.body $n _ from by repeat' constructor))))
def Z0:Stmt:=%[0|0]
def Z1:Stmt:=%[1|0]
def Z2:Stmt:=%[2|0]
def Z3:Stmt:=%[3|0]
def Z4:Stmt:=%[4|0]
def Z5:Stmt:=%[5|0]
def Z6:Stmt:=%[6|0]
def Z7:Stmt:=%[7|0]
def Z8:Stmt:=%[8|0]
def Z9:Stmt:=%[9|0]
def Z10:Stmt:=%[10|0]
def Z11:Stmt:=%[11|0]
def Z12:Stmt:=%[12|0]
def Z13:Stmt:=%[13|0]
def Z14:Stmt:=%[14|0]
def Z15:Stmt:=%[15|0]
def Z16:Stmt:=%[16|0]
def Z17:Stmt:=%[17|0]
def Z18:Stmt:=%[18|0]
def Z19:Stmt:=%[19|0]
def Z20:Stmt:=%[20|0]
def Z21:Stmt:=%[21|0]
def Z22:Stmt:=%[22|0]
def Z23:Stmt:=%[23|0]
def Z24:Stmt:=%[24|0]
def Z25:Stmt:=%[25|0]
def Z26:Stmt:=%[26|0]
def Z27:Stmt:=%[27|0]
def Z28:Stmt:=%[28|0]
def Z29:Stmt:=%[29|0]
def Z30:Stmt:=%[30|0]
def Z31:Stmt:=%[31|0]
def Z32:Stmt:=%[32|0]
def Z33:Stmt:=%[33|0]
def Z34:Stmt:=%[34|0]
def Z35:Stmt:=%[35|0]
def Z36:Stmt:=%[36|0]
def Z37:Stmt:=%[37|0]
def Z38:Stmt:=%[38|0]
def Z39:Stmt:=%[39|0]
def Z40:Stmt:=%[40|0]
def Z41:Stmt:=%[41|0]
def Z42:Stmt:=%[42|0]
def Z43:Stmt:=%[43|0]
def Z44:Stmt:=%[44|0]
def Z45:Stmt:=%[45|0]
def Z46:Stmt:=%[46|0]
def Z47:Stmt:=%[47|0]
def Z48:Stmt:=%[48|0]
def Z49:Stmt:=%[49|0]
def Z50:Stmt:=%[50|0]
def Z51:Stmt:=%[51|0]
def Z52:Stmt:=%[52|0]
def Z53:Stmt:=%[53|0]
def Z54:Stmt:=%[54|0]
def Z55:Stmt:=%[55|0]
def Z56:Stmt:=%[56|0]
def Z57:Stmt:=%[57|0]
def Z58:Stmt:=%[58|0]
def Z59:Stmt:=%[59|0]
def Z60:Stmt:=%[60|0]
def Z61:Stmt:=%[61|0]
def Z62:Stmt:=%[62|0]
def Z63:Stmt:=%[63|0]
def Z64:Stmt:=%[64|0]
def Z65:Stmt:=%[65|0]
def Z66:Stmt:=%[66|0]
def Z67:Stmt:=%[67|0]
def Z68:Stmt:=%[68|0]
def Z69:Stmt:=%[69|0]
def Z70:Stmt:=%[70|0]
def Z71:Stmt:=%[71|0]
def Z72:Stmt:=%[72|0]
def Z73:Stmt:=%[73|0]
def Z74:Stmt:=%[74|0]
def Z75:Stmt:=%[75|0]
def Z76:Stmt:=%[76|0]
def Z77:Stmt:=%[77|0]
def Z78:Stmt:=%[78|0]
def Z79:Stmt:=%[79|0]
def Z80:Stmt:=%[80|0]
def Z81:Stmt:=%[81|0]
def Z82:Stmt:=%[82|0]
def Z83:Stmt:=%[83|0]
def Z84:Stmt:=%[84|0]
def Z85:Stmt:=%[85|0]
def Z86:Stmt:=%[86|0]
def Z87:Stmt:=%[87|0]
def Z88:Stmt:=%[88|0]
def Z89:Stmt:=%[89|0]
def ZS:Scope:={kind:=PySem.ScopeKind.module,names:=exX (⟨⟩:type_of% (mkY (show LsX PySem.Challenge.pw_drawhouse_k26_whole_part_texts.main.scope.names _ from by repeat' constructor))),isGenerator:=false,isCoroutine:=false,more:=[]}
def pz:Program:={main:={body:=Z0::Z1::Z2::Z3::Z4::Z5::Z6::Z7::Z8::Z9::Z10::Z11::Z12::Z13::Z14::Z15::Z16::Z17::Z18::Z19::Z20::Z21::Z22::Z23::Z24::Z25::Z26::Z27::Z28::Z29::Z30::Z31::Z32::Z33::Z34::Z35::Z36::Z37::Z38::Z39::Z40::Z41::Z42::Z43::Z44::Z45::Z46::Z47::Z48::Z49::Z50::Z51::Z52::Z53::Z54::Z55::Z56::Z57::Z58::Z59::Z60::Z61::Z62::Z63::Z64::Z65::Z66::Z67::Z68::Z69::Z70::Z71::Z72::Z73::Z74::Z75::Z76::Z77::Z78::Z79::Z80::Z81::Z82::Z83::Z84::Z85::Z86::Z87::Z88::Z89::[],scope:=ZS,futureAnnotations:=false,file:= "/claim/cut.py",more:=[]},modules:=[],parses:=[],absent:=[],harvested:=[],given:={argv:=[],stdin:=[],environ:=(some [([76,67,95,65,76,76],[67,46,85,84,70,45,56])])}}
theorem Ug(zs:List Str):(zs.map V.str).all lX=true:=by
 rw[all_eq_true];intro v hv;obtain⟨z,_,rfl⟩:=mem_map.mp hv;rfl
theorem Xh:((".": Str)).length<=1:=by decide +kernel
def top(i:Nat):Stmt:=pz.main.body.getD i (.Pass ⟨0,0,0,0⟩)
def N7:Stmt->List Stmt
 | .ClassDef _ _ _ b _ _ _ _ _ _ _=>b
 | _=>[]
abbrev sb(i j:Nat):Stmt:=(N7 (top i)).getD j (.Pass ⟨0,0,0,0⟩)
abbrev lM:Stmt:=top 32
abbrev lK:Stmt:=top 33
abbrev iz:Stmt:=sb 4 0
abbrev ji:Stmt:=sb 5 0
abbrev nQ:Stmt:=sb 6 0
abbrev qC:Stmt:=top 19
abbrev mL:Stmt:=top 20
abbrev kj:Stmt:=top 21
abbrev lL:Stmt:=top 27
abbrev lJ:Stmt:=top 28
abbrev mU:Stmt:=top 29
abbrev lY:Stmt:=top 30
abbrev lN:Stmt:=top 31
abbrev pD:Stmt:=top 34
abbrev jH:Stmt:=top 47
abbrev gh:Stmt:=top 48
abbrev jX:Stmt:=top 49
abbrev jO:Stmt:=top 50
abbrev qT:Stmt:=top 51
abbrev tL:Stmt:=top 52
abbrev ug:Stmt:=top 53
abbrev lF:Stmt:=top 54
abbrev lU:Stmt:=top 55
abbrev eE:Stmt:=sb 36 0
abbrev ie:Stmt:=sb 36 1
abbrev eN:Stmt:=sb 36 2
abbrev jf:Stmt:=sb 36 3
abbrev iW:Stmt:=sb 38 0
abbrev jg:Stmt:=sb 38 1
abbrev ue:Stmt:=sb 38 2
abbrev fL:Stmt:=sb 39 0
abbrev iZ:Stmt:=sb 39 1
abbrev jL:Stmt:=sb 39 2
abbrev eU:Stmt:=sb 40 0
abbrev gJ:Stmt:=sb 40 1
abbrev jc:Stmt:=sb 40 2
abbrev eG:Stmt:=sb 41 0
abbrev il:Stmt:=sb 41 1
abbrev gW:Stmt:=sb 41 2
abbrev je:Stmt:=sb 41 3
abbrev eQ:Stmt:=sb 42 0
abbrev ig:Stmt:=sb 42 1
abbrev gR:Stmt:=sb 42 2
abbrev jh:Stmt:=sb 42 3
abbrev eV:Stmt:=sb 43 0
abbrev gM:Stmt:=sb 43 1
abbrev gH:Stmt:=sb 43 2
abbrev iT:Stmt:=sb 43 3
abbrev eX:Stmt:=sb 44 0
abbrev jb:Stmt:=sb 44 1
abbrev pH:Stmt:=top 57
abbrev qJ:Stmt:=top 58
abbrev jF:Stmt:=top 59
abbrev lw:Stmt:=top 60
abbrev oY:Stmt:=top 62
abbrev lQ:Stmt:=top 61
abbrev lZ:Stmt:=top 63
abbrev iU:Stmt:=top 64
abbrev pB:Stmt:=top 65
abbrev lG:Stmt:=top 66
abbrev oU:Stmt:=top 67
abbrev oM:Stmt:=top 68
abbrev qG:Stmt:=top 69
abbrev oA:Stmt:=top 70
abbrev jr:Stmt:=top 71
abbrev iY:Stmt:=top 72
abbrev f9:Stmt:=top 73
abbrev tU:Stmt:=top 74
abbrev n6:Stmt:=top 75
abbrev iV:Stmt:=top 76
abbrev fO:Stmt:=top 77
abbrev fW:Stmt:=top 78
abbrev o9:Stmt:=top 79
abbrev gf:Stmt:=top 80
abbrev gP:Stmt:=top 81
abbrev jG:Stmt:=top 82
abbrev jP:Stmt:=top 83
abbrev oR:Stmt:=top 84
abbrev o8:Stmt:=top 85
abbrev oX:Stmt:=top 86
abbrev qM:Stmt:=top 87
abbrev mR:Stmt:=top 88
abbrev Kz:Stmt:=top 89
end
def DX(ns:List Int)(k:Int):Int:=if k<(ns.length:Int)then Builtin.bitAnd (ns.getD k.toNat 0) (1*2 ^ (18000:Int).toNat - 1)else 0
def Ai(K:Frag):Sp:=fun vs H Q _=>∃ (a:Addr) (ns:List Int) (k:Int),vs=[.ref a,.int k]/\SqL K H a (ns.map V.int)/\0<=k/\Pur (.int (DX ns k)) H Q
section
variable {P:Program} {w:World} {K:Frag} {mg:MG} {base:Heap}
abbrev wW:List Str:=["_law_script", "_law_k"]
theorem QZ:aM ["_law_script", "_law_k"] wW (aC pH):=bj
theorem G7{f:Addr}{fd:FuncData}(F:Fun K "_law_cell" "_law_cell" pH f fd)(hlen:mg "len" = none):aO P w K mg base CX0 1 f fd wW (Ai K):=by
 refine F.oq QZ fun _ _ _ _ H _ Q E hr h=>?_
 ·obtain⟨a,ns,k,rfl,hS,h0,q⟩:=h
  refine⟨_,eZ (CQ (aD Kl (pv 1) (aJ aW Zd hlen boot_len (aj (pv 0) ao)) (aG _))
    (jd (mZ (aH Mm (aU aN (pv 0) (pv 1)) (aH rG (aH RL aq aq) aq)))) ul)
   (jd (mZ aq)),?_⟩
  refine⟨_,rfl,_,rfl,a,_,rfl,.inl hS,_,_,rfl,rfl,_,rfl,?_⟩
  rw[length_map]
  refine dF (fun hk=>?_) (fun hk=>?_)
  ·have hk2:ns[k.toNat]? = some (ns.getD k.toNat 0):=by
    rw[List.getD_eq_getElem?_getD,getElem?_eq_getElem Zb]
    rfl
   have hk3:(ns.map V.int)[k.toNat]? = some (V.int (ns.getD k.toNat 0)):=by rw[getElem?_map,hk2];rfl
   have hat:atI (ns.map V.int) k=some (V.int (ns.getD k.toNat 0)):=by
    have:=bL hk3
    rwa [show((k.toNat:Nat):Int)=k from by omega]at this
   refine⟨_,rfl,_,rfl,a,_,_,_,rfl,rfl,hS,hat,_,_,rfl,rfl,⟨Za,Za,Za⟩,_,_,rfl,rfl,_,_,rfl,rfl,?_⟩
   have e:DX ns k=Builtin.bitAnd (ns.getD k.toNat 0) (1*2 ^ (18000:Int).toNat - 1):=if_pos hk
   have q':=q H (aB.refl H)
   rw[e]at q'
   exact q'
  ·have e:DX ns k=0:=if_neg hk
   have q':=q H (aB.refl H)
   rw[e]at q'
   exact q'
abbrev xX:List Str:=["_law_cell_here", "_law_j"]
theorem Up:aM ["_law_cell_here", "_law_j"] xX (aC qJ):=bj
theorem Ag{f:Addr}{fd:FuncData}(F:Fun K "_law_sub" "_law_sub" qJ f fd):aO P w K mg base CX0 1 f fd xX Ep:=by
 refine F.oq Up fun _ _ _ _ H _ Q E hr h=>?_
 ·obtain⟨c,j,rfl,h0,h1,q⟩:=h
  refine⟨_,eZ (CQ (cC (aD bB (aH d8 (pv 0) aq) aq (aG _)) (cz (aD ju (aH uK (pv 0) (aH b7 (aH jB aq (pv 1)) aq)) aq (aG _)))).pt
    (jd (mZ (aH T4 (aH uK (pv 0) (aH jB aq (pv 1))) aq))) ul)
   (jd (mZ (aH jB (aH b7 (aH lW (aH lW (pv 0) aq) (aH b7 (pv 1) aq)) (aH jB aq (pv 1))) aq))),?_⟩
  have q':=q H (aB.refl H)
  have tail:sub c j=subB c j->KQ (tOp (rI Mh fun i j=>.int (i*j)) (tOp (rI0 fun i j=>.int (i+j)) (tOp (rI Rq fun i j=>.int (i / j)) (tOp (rI Rq fun i j=>.int (i / j)) (xY 0) (tC (.int 2))) (tOp (rI0 fun i j=>.int (i+j)) (xY 1) (tC (.int 1)))) (tOp (rI Mh fun i j=>.int (i*j)) (tC (.int 104729)) (xY 1))) (tC (.int 2)))
    {nx:=fun _ H'=>Q .non H',rt:=Q} (start ["_law_cell_here", "_law_j"] [V.int c,V.int j]) H:=fun e=>by
   rw[e]at q'
   exact⟨_,rfl,_,_,rfl,rfl,⟨Za,Za⟩,_,rfl,_,_,rfl,rfl,_,_,rfl,rfl,⟨Zb,Zb⟩,_,rfl,_,_,rfl,rfl,.inl ⟨Za,Za⟩,_,_,rfl,rfl,_,_,rfl,rfl,.inr ⟨Za,Za⟩,q'⟩
  refine⟨_,rfl,_,_,rfl,rfl,(by show(0:Int)<2;decide),rfl,_,rfl,?_⟩
  refine iw (fun hA=>?_) (fun hA=>?_)
  ·refine⟨_,rfl,_,rfl,_,_,rfl,rfl,.inl ⟨Za,Za⟩,_,_,rfl,rfl,_,_,rfl,rfl,(by show(0:Int)<=480*j+400;omega),_,_,rfl,rfl,_,rfl,?_⟩
   refine dF (fun hB=>?_) (fun hB=>?_)
   ·have e:sub c j=S9 c j:=if_pos ⟨hA,hB⟩
    rw[e]at q'
    exact⟨_,rfl,_,rfl,_,_,rfl,rfl,.inl ⟨Za,Za⟩,_,_,rfl,rfl,(by show(0:Int)<=480*j;omega),_,_,rfl,rfl,q'⟩
   ·exact tail (if_neg fun z=>hB z.2)
  ·refine bH ?_
   exact tail (if_neg fun z=>hA z.1)
abbrev gm:List Str:=["_law_cell_here", "_law_k", "_law_many"]
theorem uB:aM ["_law_cell_here", "_law_k", "_law_many", "_law_great", "_law_by", "_law_one"] gm (aC lw):=bj
theorem gZ{f:Addr}{fd:FuncData}(F:Fun K "_law_pick" "_law_pick" lw f fd):aO P w K mg base CX0 1 f fd gm jz:=by
 refine F.oq uB fun _ _ _ _ H _ Q E hr h=>?_
 ·obtain⟨c,k,m,rfl,h0,h1,hm,q⟩:=h
  refine⟨_,eZ (CQ (cC (aD bB (aH d8 (pv 0) aq) aq (aG _)) (cz (aD ju (aH uK (pv 0) aq) aq (aG _)))).pt
    (jd (mZ (aH d8 (aH Mm (aH uK (pv 0) (aH b7 aq (aH jB aq (pv 1)))) aq) (pv 2)))) ul)
   (eZ (pR (i:=3) uB.nd rfl (Or.inl rfl) aq)
   (eZ (pR (i:=4) uB.nd rfl (Or.inl rfl) (aU aN (bI (aj aq (aj aq (aj aq (aj aq (aj aq (aj aq (aj aq (aj aq ao))))))))) (aH d8 (pv 1) aq)))
   (eZ (pR (i:=4) uB.nd rfl (Or.inl rfl) (aH jB (pv 4) (aU aN (bI (aj aq (aj aq (aj aq (aj aq (aj aq ao)))))) (aH lW (pv 1) aq))))
   (eZ (pR (i:=5) uB.nd rfl (Or.inl rfl) (aH d8 (aH jB (aH b7 (aH d8 (aH lW (pv 0) aq) (pv 3)) aq) (pv 4)) (pv 3)))
   (eZ (pR (i:=5) uB.nd rfl (Or.inl rfl) (aH d8 (aH jB (pv 5) (pv 5)) aq))
   (jd (mZ (aH d8 (aH lW (aH d8 (aH jB (aH b7 (aH b7 (pv 5) (pv 1)) aq) (aH b7 (aH lW (pv 5) aq) aq)) aq) aq) (pv 2))))))))),?_⟩
  obtain⟨t1,t2,t3⟩:=Nm (k:=k%8) Zb Zb
  obtain⟨u1,u2,u3⟩:=Py (k:=k / 8) Zb Zb
  have a8:atI (tQ.map V.int) (k%8)=some (V.int (tQ.getD (k%8).toNat 0)):=by
   have:=bL (xs:=tQ.map V.int) (j:=(k%8).toNat) (by rw[getElem?_map,t1];rfl)
   rwa [show(((k%8).toNat:Nat):Int)=k%8 from by omega]at this
  have a5:atI (sY.map V.int) (k / 8)=some (V.int (sY.getD (k / 8).toNat 0)):=by
   have:=bL (xs:=sY.map V.int) (j:=(k / 8).toNat) (by rw[getElem?_map,u1];rfl)
   rwa [show(((k / 8).toNat:Nat):Int)=k / 8 from by omega]at this
  have g1:=Pn c k
  have g2:=NZ c k
  have g3:=Nx c k
  have g4:=Pr c k
  have ms:=Jz t2 t3 u2 u3
  refine⟨_,rfl,_,_,rfl,rfl,(by show(0:Int)<2;decide),rfl,_,rfl,?_⟩
  refine iw (fun hA=>?_) (fun hA=>?_)
  ·refine⟨_,rfl,_,_,rfl,rfl,(by show(0:Int)<=400;decide),_,_,rfl,rfl,_,rfl,?_⟩
   refine dF (fun hB=>?_) (fun hB=>?_)
   ·have e:pick c k m=QL c k m:=if_pos ⟨hA,hB⟩
    have q':=q H (aB.refl H)
    rw[e]at q'
    exact⟨_,rfl,_,rfl,_,_,rfl,rfl,.inl ⟨Za,Za⟩,_,_,rfl,rfl,_,_,rfl,rfl,(by show(0:Int)<=1+10*k;omega),_,_,rfl,rfl,_,rfl,_,_,rfl,rfl,hm,q'⟩
   ·have e:pick c k m=Mg c k m:=if_neg fun z=>hB z.2
    refine⟨by show 8<=sizeLine;decide,fun p hp=>?_⟩
    refine⟨_,rfl,_,_,rfl,rfl,(by show(0:Int)<8;decide),p,tQ.map V.int,_,_,rfl,rfl,SqL.of ak,a8,?_⟩
    refine⟨_,rfl,(by show 5<=sizeLine;decide),fun p2 hp2=>?_⟩
    refine⟨_,rfl,_,_,rfl,rfl,⟨Za,Za⟩,p2,sY.map V.int,_,_,rfl,rfl,SqL.of ak,a5,_,_,rfl,rfl,.inl ⟨Zb,Zb⟩,?_⟩
    refine⟨_,rfl,_,_,rfl,rfl,⟨Za,Za⟩,_,rfl,_,_,rfl,rfl,(by show(0:Int)<2305843009213693951;decide),_,_,rfl,rfl,_,rfl,_,_,rfl,rfl,.inr ⟨Zb,Zb⟩,_,rfl,_,_,rfl,rfl,(by show(0:Int)<2305843009213693951;decide),?_⟩
    refine⟨_,rfl,_,rfl,_,_,rfl,rfl,.inl ⟨(by show -(2 ^ 64)<CZ c k;omega),(by show CZ c k<2 ^ 64;omega)⟩,_,_,rfl,rfl,(by show(0:Int)<1000000000039;decide),?_⟩
    refine⟨_,rfl,_,rfl,_,_,rfl,rfl,_,_,rfl,rfl,_,rfl,_,_,rfl,rfl,⟨Za,Za⟩,_,_,rfl,rfl,_,_,rfl,rfl,.inl ⟨(by show -(2 ^ 64)<Eo c k+k+1;omega),(by show Eo c k+k+1<2 ^ 64;omega)⟩,_,_,rfl,rfl,(by show(0:Int)<67280421310721;decide),_,_,rfl,rfl,⟨Za,Za⟩,_,rfl,_,_,rfl,rfl,hm,?_⟩
    rw[e]at q
    exact q _ ((aB.new hp).put hp2)
  ·refine bH ?_
   have e:pick c k m=Mg c k m:=if_neg fun z=>hA z.1
   refine⟨by show 8<=sizeLine;decide,fun p hp=>?_⟩
   refine⟨_,rfl,_,_,rfl,rfl,(by show(0:Int)<8;decide),p,tQ.map V.int,_,_,rfl,rfl,SqL.of ak,a8,?_⟩
   refine⟨_,rfl,(by show 5<=sizeLine;decide),fun p2 hp2=>?_⟩
   refine⟨_,rfl,_,_,rfl,rfl,⟨Za,Za⟩,p2,sY.map V.int,_,_,rfl,rfl,SqL.of ak,a5,_,_,rfl,rfl,.inl ⟨Zb,Zb⟩,?_⟩
   refine⟨_,rfl,_,_,rfl,rfl,⟨Za,Za⟩,_,rfl,_,_,rfl,rfl,(by show(0:Int)<2305843009213693951;decide),_,_,rfl,rfl,_,rfl,_,_,rfl,rfl,.inr ⟨Zb,Zb⟩,_,rfl,_,_,rfl,rfl,(by show(0:Int)<2305843009213693951;decide),?_⟩
   refine⟨_,rfl,_,rfl,_,_,rfl,rfl,.inl ⟨(by show -(2 ^ 64)<CZ c k;omega),(by show CZ c k<2 ^ 64;omega)⟩,_,_,rfl,rfl,(by show(0:Int)<1000000000039;decide),?_⟩
   refine⟨_,rfl,_,rfl,_,_,rfl,rfl,_,_,rfl,rfl,_,rfl,_,_,rfl,rfl,⟨Za,Za⟩,_,_,rfl,rfl,_,_,rfl,rfl,.inl ⟨(by show -(2 ^ 64)<Eo c k+k+1;omega),(by show Eo c k+k+1<2 ^ 64;omega)⟩,_,_,rfl,rfl,(by show(0:Int)<67280421310721;decide),_,_,rfl,rfl,⟨Za,Za⟩,_,rfl,_,_,rfl,rfl,hm,?_⟩
   rw[e]at q
   exact q _ ((aB.new hp).put hp2)
abbrev Br:List Str:=["_law_cell_here"]
theorem Mi:aM ["_law_cell_here", "_law_letters"] Br (aC oY):=bj
theorem O1{f fp:Addr}{fd fdp:FuncData}(F:Fun K "_law_name" "_law_name" oY f fd)(A1:FnAt K mg "_law_pick" lw gm fp fdp)(hrg:mg "range" = none):aO P w K mg base CX0 2 f fd Br MF:=by
 have G1:aO P w K mg base CX0 1 fp fdp gm jz:=gZ A1.F
 refine F.oq Mi fun _ _ _ _ H _ Q E hr h=>?_
 ·obtain⟨c,rfl,q⟩:=h
  have hr1:bw 1 _:=hr
  refine⟨_,eZ (pR (i:=1) Mi.nd rfl (Or.inr rfl) aA)
   (jd (mZ (cM plainAttrs_str slot_str_join type_str_join gO aA
    (aj (cJ (N:=["_law_j", "_law_letters", "_law_cell_here"]) [none,some 1,some 0] rfl Zf
     (dY Zd hrg (aj (aH b7 aq (aV A1 G1 hr1 (aj (pv 0) (aj aq (aj aq ao))))) ao))
     (fun cl C fp s H=>aX (i:=0) (by decide +kernel:(["_law_j", "_law_letters", "_law_cell_here"]:List Str).Nodup) rfl (Or.inl rfl)) (fun cl C fp s H=>cY)
     (fun cl C fp s H=>aU uP (pv 1) (aV A1 G1 hr1 (aj (pv 2) (aj (aH b7 aq (pv 0)) (aj aq ao)))) (fun _ _=>rfl))) ao)))),?_⟩
  refine⟨rfl,?_⟩
  refine⟨_,rfl,c,30,8,rfl,Za,Za,Za,fun H1 s1=>?_⟩
  have b1:=cH c 30 (m:=8) Za
  have b2:=cI c 30 (m:=8) Za
  refine⟨_,_,rfl,rfl,_,rfl,Zb,Zb,?_⟩
  refine Gv (fun j=>V.str ⟨#[letter c j]⟩) (le_trans (show(1+pick c 30 8).toNat<=8 by omega) Za) (fun i H' Q' hi sm k'=>?_) (fun τ H Q Q' hh h=>hh _ _ h) (fun H' sm=>?_)
  ·refine⟨rfl,?_⟩
   have l1:=cH c (31+(0+(i:Int))) (m:=26) Za
   have l2:=cI c (31+(0+(i:Int))) (m:=26) Za
   have li:i<(1+pick c 30 8).toNat:=hi
   refine⟨_,rfl,_,rfl,_,rfl,_,_,rfl,rfl,c,31+(0+(i:Int)),26,rfl,Zb,Zb,Za,fun H2 s2=>?_⟩
   have lat:atI letters.cps.toList (pick c (31+(0+(i:Int))) 26)=some (97+(pick c (31+(0+(i:Int))) 26).toNat):=by
    have:=bL (wJ l1 l2)
    rwa [show(((pick c (31+(0+(i:Int))) 26).toNat:Nat):Int)=pick c (31+(0+(i:Int))) 26 from by omega]at this
   refine⟨letters,_,_,rfl,rfl,Ze,lat,?_⟩
   have e:V.str ⟨#[97+(pick c (31+(0+(i:Int))) 26).toNat]⟩=V.str ⟨#[letter c i]⟩:=by
    unfold letter
    rw[show(0+(i:Int))=(i:Int)from by omega]
   rw[e]
   exact k' H2 s2
  ·intro p hp
   refine⟨_,p,(List.range (1+pick c 30 8).toNat).map fun(j:Nat)=>(⟨#[letter c (j:Int)]⟩:Str),rfl,rfl,.inl (SqL.of ?_),?_,?_⟩
   ·rw[map_map]
    exact ak
   ·have h1:∀ y∈(List.range (1+pick c 30 8).toNat).map fun(j:Nat)=>(⟨#[letter c (j:Int)]⟩:Str),y.length<=1:=fun y hy=>by
     obtain⟨j,_,rfl⟩:=mem_map.mp hy
     exact le_refl 1
    have h2:=pF h1
    rw[length_map,length_range]at h2
    have h3:(("" : Str)).length=0:=by decide +kernel
    rw[length_map,length_range,h3]
    omega
   ·rw[Dk,Am]
    exact q _ ((s1.trans sm).put hp)
end
section
variable {P:Program} {w:World} {K:Frag} {mg:MG} {base:Heap}
abbrev uo:List Str:=["_law_cell_here", "_law_far"]
theorem LQ:aM ["_law_cell_here", "_law_far"] uo (aC jF):=bj
theorem JS{f:Addr}{fd:FuncData}(F:Fun K "_law_number" "_law_number" jF f fd):aO P w K mg base CX0 1 f fd uo Ex:=by
 refine F.oq LQ fun _ _ _ _ H _ Q E hr h=>?_
 ·obtain⟨c,far,rfl,h0,q⟩:=h
  refine⟨_,eZ (CQ (cC (aD bB (aH d8 (pv 0) aq) aq (aG _)) (cz (aD ju (aH uK (pv 0) aq) aq (aG _)))).pt
    (jd (mZ (aH d8 (aH uK (pv 0) aq) (pv 1)))) ul)
   (jd (mZ (aH d8 (aH lW (pv 0) aq) (pv 1)))),?_⟩
  have q':=q H (aB.refl H)
  refine⟨_,rfl,_,_,rfl,rfl,(by show(0:Int)<2;decide),rfl,_,rfl,?_⟩
  refine iw (fun hA=>?_) (fun hA=>?_)
  ·refine⟨_,rfl,_,_,rfl,rfl,(by show(0:Int)<=400;decide),_,_,rfl,rfl,_,rfl,?_⟩
   refine dF (fun hB=>?_) (fun hB=>?_)
   ·have e:number c far=c / 2 ^ (400:Int).toNat%far:=if_pos ⟨hA,hB⟩
    rw[e]at q'
    exact⟨_,rfl,_,_,rfl,rfl,(by show(0:Int)<=400;decide),_,rfl,_,_,rfl,rfl,h0,q'⟩
   ·have e:number c far=c / 2%far:=if_neg fun z=>hB z.2
    rw[e]at q'
    exact⟨_,rfl,_,_,rfl,rfl,⟨Za,Za⟩,_,rfl,_,_,rfl,rfl,h0,q'⟩
  ·refine bH ?_
   have e:number c far=c / 2%far:=if_neg fun z=>hA z.1
   rw[e]at q'
   exact⟨_,rfl,_,_,rfl,rfl,⟨Za,Za⟩,_,rfl,_,_,rfl,rfl,h0,q'⟩
end
abbrev my:List Str:=["kind", "thing"]
theorem uT:aM ["kind", "thing", "path"] my (aC lM):=bj
abbrev gA:List Str:=["terms"]
theorem jt:aM ["terms", "shown", "sign", "kind", "thing"] gA (aC lK):=bj
abbrev dG:List Str:=["self", "at"]
theorem wL:aM ["self", "at"] dG (aC iz):=bj
abbrev jn:List Str:=["self", "at"]
theorem Dj:aM ["self", "at"] jn (aC ji):=bj
abbrev nR:List Str:=["self", "at"]
theorem Jf:aM ["self", "at"] nR (aC nQ):=bj
abbrev iI:List Str:=["thing"]
theorem Ji:aM ["thing"] iI (aC qC):=bj
abbrev jw:List Str:=["text", "most"]
theorem uW:aM ["text", "most", "names"] jw (aC mL):=bj
abbrev fH:List Str:=["thing"]
theorem BL:aM ["thing"] fH (aC kj):=bj
abbrev lV:List Str:=["word"]
theorem DY:aM ["word"] lV (aC lL):=bj
abbrev mz:List Str:=["word"]
theorem Dt:aM ["word"] mz (aC lJ):=bj
abbrev mJ:List Str:=["sign", "word"]
theorem Dn:aM ["sign", "word"] mJ (aC mU):=bj
abbrev mH:List Str:=["word"]
theorem Fb:aM ["word"] mH (aC lY):=bj
abbrev mK:List Str:=["text"]
theorem lE:aM ["text", "words", "terms", "at"] mK (aC lN):=bj
abbrev pG:List Str:=["terms"]
theorem Gi:aM ["terms"] pG (aC pD):=bj
abbrev km:List Str:=["words"]
theorem Az:aM ["words"] km (aC jH):=bj
abbrev fX:List Str:=["words"]
theorem vG:aM ["words"] fX (aC gh):=bj
abbrev jT:List Str:=["words"]
theorem Al:aM ["words"] jT (aC jX):=bj
abbrev jD:List Str:=["words", "at"]
theorem BZ:aM ["words", "at"] jD (aC jO):=bj
abbrev qP:List Str:=["name", "terms"]
theorem JX:aM ["name", "terms"] qP (aC qT):=bj
abbrev tZ:List Str:=["words"]
theorem Cz:aM ["words", "first"] tZ (aC tL):=bj
abbrev uw:List Str:=["text", "at"]
theorem Ef:aM ["text", "at", "row"] uw (aC ug):=bj
abbrev lO:List Str:=["text"]
theorem uU:aM ["text", "words"] lO (aC lF):=bj
abbrev jo:List Str:=["text"]
theorem fc:aM ["text", "lines", "address", "rows", "at", "line", "row"] jo (aC lU):=bj
abbrev jU:List Str:=["self", "address", "rows"]
theorem zR:aM ["self", "address", "rows"] jU (aC eE):=bj
abbrev fV:List Str:=["self"]
theorem rn:aM ["self", "names"] fV (aC ie):=bj
abbrev fY:List Str:=["self", "name"]
theorem jy:aM ["self", "name", "at", "row"] fY (aC eN):=bj
abbrev jM:List Str:=["self"]
theorem BK:aM ["self"] jM (aC jf):=bj
abbrev oW:List Str:=["self"]
theorem Ad:aM ["self"] oW (aC iW):=bj
abbrev oJ:List Str:=["self"]
theorem zJ:aM ["self"] oJ (aC jg):=bj
abbrev Ea:List Str:=["self"]
abbrev mQ:List Str:=["self", "name", "terms"]
theorem CW:aM ["self", "name", "terms"] mQ (aC fL):=bj
abbrev ph:List Str:=["self"]
theorem zU:aM ["self"] ph (aC iZ):=bj
abbrev p8:List Str:=["self"]
theorem Eu:aM ["self"] p8 (aC jL):=bj
abbrev jE:List Str:=["self", "name", "terms"]
theorem Bu:aM ["self", "name", "terms"] jE (aC eU):=bj
abbrev mV:List Str:=["self"]
theorem yx:aM ["self"] mV (aC gJ):=bj
abbrev ou:List Str:=["self"]
theorem Ar:aM ["self"] ou (aC jc):=bj
abbrev jW:List Str:=["self", "address", "name"]
theorem Aq:aM ["self", "address", "name"] jW (aC eG):=bj
abbrev m7:List Str:=["self"]
theorem yz:aM ["self"] m7 (aC il):=bj
abbrev nC:List Str:=["self"]
theorem yp:aM ["self"] nC (aC gW):=bj
abbrev o6:List Str:=["self"]
theorem zV:aM ["self"] o6 (aC je):=bj
abbrev kJ:List Str:=["self", "address", "name"]
theorem BJ:aM ["self", "address", "name"] kJ (aC eQ):=bj
abbrev m8:List Str:=["self"]
theorem yw:aM ["self"] m8 (aC ig):=bj
abbrev mY:List Str:=["self"]
theorem yr:aM ["self"] mY (aC gR):=bj
abbrev oO:List Str:=["self"]
theorem zT:aM ["self"] oO (aC jh):=bj
abbrev jY:List Str:=["self", "word", "address", "name"]
theorem zA:aM ["self", "word", "address", "name"] jY (aC eV):=bj
abbrev m9:List Str:=["self"]
theorem yl:aM ["self"] m9 (aC gM):=bj
abbrev nD:List Str:=["self"]
theorem yq:aM ["self"] nD (aC gH):=bj
abbrev pK:List Str:=["self"]
theorem zN:aM ["self"] pK (aC iT):=bj
abbrev jJ:List Str:=["self", "terms"]
theorem Af:aM ["self", "terms"] jJ (aC eX):=bj
abbrev oH:List Str:=["self"]
theorem zG:aM ["self"] oH (aC jb):=bj
abbrev vU:List Str:=["_law_cell_here", "_law_many"]
theorem gQ:aM ["_law_cell_here", "_law_many", "_law_letters", "_law_size", "_law_one", "_law_two", "_law_base", "_law_odd", "_law_names_here", "_law_n", "_law_word_here", "_law_name_here"] vU (aC lQ):=bj
abbrev qz:List Str:=["_law_cell_here"]
theorem Hi:aM ["_law_cell_here", "_law_some"] qz (aC lZ):=bj
abbrev nO:List Str:=["_law_cell_here"]
theorem JQ:aM ["_law_cell_here"] nO (aC iU):=bj
abbrev Bw:List Str:=["_law_cell_here", "_law_first"]
theorem xJ:aM ["_law_cell_here", "_law_first", "_law_sign", "_law_way", "_law_far", "_law_names_here"] Bw (aC pB):=bj
abbrev vX:List Str:=["_law_cell_here"]
theorem Ow:aM ["_law_cell_here"] vX (aC lG):=bj
abbrev zL:List Str:=["_law_term_here"]
theorem zK:aM ["_law_term_here", "_law_sign", "_law_sort", "_law_thing"] zL (aC oU):=bj
abbrev Ci:List Str:=["_law_terms_here"]
theorem Cj:aM ["_law_terms_here", "_law_text_here", "_law_term_here"] Ci (aC oM):=bj
abbrev Hu:List Str:=["_law_cell_here", "_law_name_here"]
theorem Cv:aM ["_law_cell_here", "_law_name_here", "_law_sort", "_law_terms_here"] Hu (aC qG):=bj
abbrev xH:List Str:=["_law_row_here"]
theorem uH:aM ["_law_row_here", "_law_sort", "_law_name_here", "_law_address_here", "_law_word_here", "_law_terms_here"] xH (aC oA):=bj
abbrev qH:List Str:=["_law_found"]
theorem Ib:aM ["_law_found"] qH (aC jr):=bj
abbrev uv:List Str:=["_law_found", "_law_due_here"]
theorem KZ:aM ["_law_found", "_law_due_here"] uv (aC iY):=bj
abbrev pI:List Str:=["_law_found", "_law_due_here"]
theorem Fl:aM ["_law_found", "_law_due_here"] pI (aC f9):=bj
abbrev N6:List Str:=["_law_found", "_law_row_here"]
theorem Av:aM ["_law_found", "_law_row_here", "_law_sort", "_law_name_here", "_law_address_here", "_law_word_here", "_law_terms_here", "_law_flags", "_law_due_here"] N6 (aC tU):=bj
abbrev By:List Str:=["_law_found", "_law_row_here"]
theorem wO:aM ["_law_found", "_law_row_here", "_law_due_here", "_law_binds", "_law_asked", "_law_said_here"] By (aC n6):=bj
abbrev lz:List Str:=["_law_text_here"]
theorem CG:aM ["_law_text_here", "_law_sign"] lz (aC iV):=bj
abbrev jq:List Str:=["_law_text_here"]
theorem vg:aM ["_law_text_here", "_law_names_here"] jq (aC fO):=bj
abbrev pC:List Str:=["_law_word_here", "_law_sign"]
theorem iR:aM ["_law_word_here", "_law_sign", "_law_figures", "_law_sort", "_law_names_here"] pC (aC fW):=bj
abbrev xN:List Str:=["_law_words"]
theorem zX:aM ["_law_words", "_law_terms_here", "_law_k", "_law_term_here"] xN (aC o9):=bj
abbrev oF:List Str:=["_law_words"]
theorem xF:aM ["_law_words", "_law_terms_here"] oF (aC gf):=bj
abbrev qw:List Str:=["_law_text_here"]
theorem yS:aM ["_law_text_here", "_law_words"] qw (aC gP):=bj
abbrev tX:List Str:=["_law_words", "_law_cell_here"]
theorem nW:aM ["_law_words", "_law_cell_here", "_law_at", "_law_way", "_law_some", "_law_word_here"] tX (aC jG):=bj
abbrev qt:List Str:=["_law_text_here", "_law_cell_here"]
theorem nT:aM ["_law_text_here", "_law_cell_here", "_law_signs", "_law_at", "_law_sign", "_law_way"] qt (aC jP):=bj
abbrev zB:List Str:=["_law_e"]
theorem Gr:aM ["_law_e", "_law_flags", "_law_others"] zB (aC oR):=bj
abbrev BW:List Str:=["_law_thing"]
theorem KD:aM ["_law_thing", "_law_e"] BW (aC o8):=bj
abbrev Bm:List Str:=["_law_script", "_law_k", "_law_names_here"]
theorem uR:aM ["_law_script", "_law_k", "_law_names_here", "_law_cell_here", "_law_name_here", "_law_text_here", "_law_way"] Bm (aC oX):=bj
abbrev Hf:List Str:=["_law_lines"]
theorem Ds:aM ["_law_lines", "_law_head", "_law_rows", "_law_at", "_law_row_here"] Hf (aC qM):=bj
abbrev vN:List Str:=["_law_part", "_law_address_here", "_law_rows", "_law_text_here"]
theorem G8:aM ["_law_part", "_law_address_here", "_law_rows", "_law_text_here", "_law_at"] vN (aC mR):=bj
abbrev Qn:List Str:=["_law_script"]
theorem p7:aM ["_law_script", "_law_names_here", "_law_cell_here", "_law_head", "_law_lines", "_law_text_here", "_law_due_here", "_law_rows", "_law_turn", "_law_address_here"] Qn (aC Kz):=bj
section
variable {P:Program} {w:World} {K:Frag} {mg:MG} {base:Heap}
def QQ:Sp:=fun vs H Q _=>∃ z:Str,vs=[.str z]/\z.length<=10000/\Pur (.bl (jC z)) H Q
def Lx:Sp:=fun vs H Q _=>∃ (c:Int) (b:Bool),vs=[.int c,.bl b]/\∀ v H' t,aB H H'->qg t->(b=true->t.sg=1)->gG H' v t->Q v H'
def Kf:Sp:=fun vs H Q _=>∃ (v:V) (t:Trm),vs=[v]/\gG H v t/\qg t/\Pur (.str (wordOf t.th)) H Q
def uC:Sp:=fun vs H Q _=>∃ (l:Addr) (ts:List Trm),vs=[.ref l]/\dw H l ts/\cD ts/\Pur (.str (textOf ts)) H Q
def Od:Sp:=fun vs H Q _=>∃ i:Int,vs=[.int i]/\Pur (.bl true) H Q
def DN:Sp:=fun vs H Q _=>∃ (x y:V) (t:Trm),vs=[x,y]/\gG H x t/\gG H y t/\Pur (.bl true) H Q
def wB:Sp:=fun vs H Q _=>∃ (l r:Addr) (ts:List Trm),vs=[.ref l,.ref r]/\dw H l ts/\dw H r ts/\ts.length<=10/\Pur (.bl true) H Q
def HW(K:Frag):Sp:=fun vs H Q _=>∃ (a:Addr) (ns:List Int),vs=[.ref a]/\SqL K H a (ns.map V.int)/\ns.length<=63/\∀ H',Q (.bl true) H'
theorem zO{α:Type}{xs:List α}{c k:Int}(h:0<xs.length):∃ v,atI xs (pick c k (xs.length:Int))=some v/\v∈xs:=by
 have h1:=cH c k (m:=(xs.length:Int)) Zb
 have h2:=cI c k (m:=(xs.length:Int)) Zb
 have hl:(pick c k (xs.length:Int)).toNat<xs.length:=by omega
 refine⟨xs[(pick c k (xs.length:Int)).toNat],?_,getElem_mem hl⟩
 have:=bL (getElem?_eq_getElem hl)
 rwa [show(((pick c k (xs.length:Int)).toNat:Nat):Int)=pick c k (xs.length:Int)from by omega]at this
theorem JR(c:Int){far:Int}(h:0<far):0<=number c far:=by unfold number;split <;> exact emod_nonneg _ Zb
theorem JZ(c:Int){far:Int}(h:0<far):number c far<far:=by unfold number;split <;> exact emod_lt_of_pos _ h
theorem JP{n:Nat}(h:n<=11):Builtin.Range.small 1 (n:Int) 2=true:=by
 have k:∀ m:Fin 12,Builtin.Range.small 1 ((m.val:Nat):Int) 2=true:=by decide +kernel
 exact k ⟨n,Zb⟩
theorem iG:(((" " : Str)).length==0)=false:=by decide +kernel
theorem dJ:1000<=sizeLine:=by decide
def Aa:Sp:=fun vs H Q _=>∃ (x:V) (th:Thg),vs=[.str (kindOf th),x]/\rE H x th/\mW th/\Pur (.str (wordOf th)) H Q
theorem WK{c:Bool}{x y:V}{σ:L2.St}{H:Hp}{Q:VK}(h:Q (if c=true then x else y) H):if c=true then tC x σ H Q else tC y σ H Q:=by cases c <;> exact h
theorem RQ(s:Int):(if decide (V.int s=V.int 1)=true then V.str "+" else V.str "-")=V.str (sgw s):=by
 unfold sgw
 by_cases h:s=1
 ·rw[decide_eq_true (congrArg V.int h),if_pos h];rfl
 ·rw[decide_eq_false (fun e=>h (V.int.inj e)),if_neg h];rfl
theorem Iv(ts:List Trm):Txt.join (" " : Str) (wordsOf ts)=textOf ts:=by
 rw[blank_eq]
 exact StrLaws.glued_eq_join _ _
theorem wy:((" " : Str)).length=1:=by decide +kernel
def vK:Sp:=fun vs H Q _=>∃ c:Int,vs=[.int c]/\∀ z,cX z->Pur (.str z) H Q
def Fg:Sp:=fun vs H Q _=>∃ c:Int,vs=[.int c]/\∀ ys,mj ys->Pur (.str (dotted ys)) H Q
def Dr:Sp:=fun vs H Q _=>∃ c:Int,vs=[.int c]/\∀ l H' ts,H l=none->aB H H'->cD ts->dw H' l ts->Q (.ref l) H'
def Qx:Sp:=fun vs H Q _=>∃ (c:Int) (z:Str),vs=[.int c,.str z]/\cX z/\∀ v lt H' r,GoodR r->aB H H'->H lt=none->Ge H' v lt r->Q v H'
def zQ(C:Nat->Addr)(i:Nat):Sp:=fun vs H Q _=>∃ (x dx:Addr) (r:bC) (d:Addr),vs=[.ref x,.str r.nm,.ref d]/\r.so=i/\H x=some (.ins (C i) dx [])/\dw H d r.ts/\r.ts.length<=10 /\
 ∀ l H',H l=none->SameBut x H H'->dU C H' x l r->Q .non H'
def Aj(C:Nat->Addr)(i:Nat):Sp:=fun vs H Q _=>∃ (x dx:Addr) (r:bC),vs=[.ref x,.str r.ad,.str r.nm]/\r.so=i/\H x=some (.ins (C i) dx [])/\∀ H',SameBut x H H'->(∀ l,dU C H' x l r)->Q .non H'
def M5(C:Nat->Addr):Sp:=fun vs H Q _=>∃ (x dx:Addr) (r:bC),vs=[.ref x,.str r.wd,.str r.ad,.str r.nm]/\r.so=4/\H x=some (.ins (C 4) dx [])/\∀ H',SameBut x H H'->(∀ l,dU C H' x l r)->Q .non H'
def Mp(C:Nat->Addr):Sp:=fun vs H Q _=>∃ (x dx:Addr) (r:bC) (d:Addr),vs=[.ref x,.ref d]/\r.so=5/\H x=some (.ins (C 5) dx [])/\dw H d r.ts/\r.ts.length<=10 /\
 ∀ l H',H l=none->SameBut x H H'->dU C H' x l r->Q .non H'
def J4:Sp:=fun vs H Q _=>∃ v:V,vs=[v]/\Pur (.str "") H Q
def zF:Sp:=fun vs H Q _=>∃ v:V,vs=[v]/\∀ b H',H b=none->aB H H'->H' b=some (.lst [])->Q (.ref b) H'
def spB(C:Nat->Addr)(i:Nat):Sp:=fun vs H Q _=>∃ (a l:Addr) (r:bC),vs=[.ref a]/\r.so=i/\dU C H a l r/\Pur (.str r.nm) H Q
def spA(C:Nat->Addr)(i:Nat):Sp:=fun vs H Q _=>∃ (a l:Addr) (r:bC),vs=[.ref a]/\r.so=i/\dU C H a l r/\∀ b H',H b=none->aB H H'->H' b=some (.lst [.str r.ad])->Q (.ref b) H'
def spS(C:Nat->Addr)(i:Nat):Sp:=fun vs H Q _=>∃ (a l:Addr) (r:bC),vs=[.ref a]/\r.so=i/\dU C H a l r/\GoodR r/\Pur (.str (bO r)) H Q
structure Us(K:Frag)(C:Nat->Addr):Prop where
 c:∀ i,i<=6->RCl K (C i)
 kit:∀ i j,i<=6->j<=6->kitOne K (.ref (C i)) (.ref (C j))=some (nu i j)
 nn:∀ i,i<=6->dq K (C i) "name"
 nt:∀ i,i<=6->dq K (C i) "terms"
 na:∀ i,i<=6->dq K (C i) "address"
 nw:∀ i,i<=6->dq K (C i) "word"
theorem Om{z:Str}(h:(decide (1<=z.length)&&decide (z.length<=8)&&z.cps.toList.all fun n=>decide (97<=n)&&decide (n<=122))=true):cX z:=by
 simp only[and_eq_true,decide_eq_true_eq,all_eq_true]at h
 exact⟨h.1.1,h.1.2,fun n hn=>h.2 n hn⟩
theorem MK{v:V}(h:v∈[V.str "let",V.str "deed",V.str "be",V.str "draw",V.str "late",V.str "as",V.str "take",V.str "from",V.str "need",V.str "part"]):∃ z,v=.str z/\cX z:=by
 simp only[mem_cons,not_mem_nil,or_false]at h
 rcases h with rfl|rfl|rfl|rfl|rfl|rfl|rfl|rfl|rfl|rfl
 all_goals exact⟨_,rfl,Om Ze⟩
theorem R8{xs:List V}{ys:List Str}(hl:ys.length=xs.length)(h:∀ (i:Nat) v,xs[i]? = some v->∃ z,ys[i]? = some z/\v=.str z):xs=ys.map V.str:=by
 apply List.ext_getElem?
 intro i
 rw[getElem?_map]
 cases e:xs[i]? with
 | none =>
  have e2:ys[i]? = none:=by
   rw[List.getElem?_eq_none_iff]at e ⊢
   omega
  rw[e2];rfl
 | some v =>
  obtain⟨z,ez,rfl⟩:=h i v e
  rw[ez];rfl
theorem DK{xs:List V}(h:∀ (i:Nat) v,xs[i]? = some v->∃ z,v=V.str z/\cX z):∃ ys:List Str,ys.length=xs.length/\xs=ys.map V.str/\∀ y∈ys,cX y:=by
 obtain⟨ys,hyl,hys⟩:=mG (fun _ v z=>v=V.str z/\cX z) xs 0 (fun i v e=>h i v e)
 refine⟨ys,hyl,R8 hyl fun i v e=>?_,fun y hy=>?_⟩
 ·obtain⟨z,ez,rz,_⟩:=hys i v e
  exact⟨z,ez,rz⟩
 ·obtain⟨i,hi,e⟩:=getElem_of_mem hy
  have hx:xs[i]? = some (xs[i]'Zb):=getElem?_eq_getElem Zb
  obtain⟨z,ez,_,nz⟩:=hys i _ hx
  rw[getElem?_eq_getElem hi,e]at ez
  cases ez
  exact nz
theorem rE.unc{H:Hp}{x:V}{th:Thg}(h:rE H x th):rE H x (Rv th):=by
 cases th with
 | num m=>exact h
 | nms c ys=>exact h
theorem sF(i j:Nat)(h:nu i j=false:=by rfl)(hi:i<=5:=by decide)(hj:j<=5:=by decide):decide (V.str (cu i)=V.str (cu j))=false:=(wM hi hj).trans h
theorem sT(i:Nat):decide (V.str (cu i)=V.str (cu i))=true:=decide_eq_true rfl
theorem Oj{i:Nat}{x:V}(h:([V.str "let",V.str "deed",V.str "draw",V.str "late",V.str "take",V.str "need"]:List V)[i]? = some x):i<=5/\x=V.str (cu i):=by
 match i,h with
 | 0,h=>cases h;exact⟨Za,rfl⟩
 | 1,h=>cases h;exact⟨Za,rfl⟩
 | 2,h=>cases h;exact⟨Za,rfl⟩
 | 3,h=>cases h;exact⟨Za,rfl⟩
 | 4,h=>cases h;exact⟨Za,rfl⟩
 | 5,h=>cases h;exact⟨Za,rfl⟩
 | n+6,h=>simp at h
theorem six {n:Nat} (h:n <= 5):n = 0 \/ n = 1 \/ n = 2 \/ n = 3 \/ n = 4 \/ n = 5:=by
 cases n with
 | zero=>exact .inl rfl
 | succ n=>cases n with
  | zero=>exact .inr (.inl rfl)
  | succ n=>cases n with
   | zero=>exact .inr (.inr (.inl rfl))
   | succ n=>cases n with
    | zero=>exact .inr (.inr (.inr (.inl rfl)))
    | succ n=>cases n with
     | zero=>exact .inr (.inr (.inr (.inr (.inl rfl))))
     | succ n=>cases n with
      | zero=>exact .inr (.inr (.inr (.inr (.inr rfl))))
      | succ n=>exact absurd h Zb
theorem JW{k:Int}(h0:0<=k)(h1:k<6):atI [V.str "let",V.str "deed",V.str "draw",V.str "late",V.str "take",V.str "need"] k=some (V.str (cu k.toNat)):=by
 obtain⟨n,rfl⟩:=Int.eq_ofNat_of_zero_le h0
 have hn:n<=5:=by omega
 rcases six hn with rfl|rfl|rfl|rfl|rfl|rfl <;> rfl
def dal:List V:=[V.str "draw",V.str "late",V.str "take"]
def inD(i:Nat):Bool:=decide (i=2)||decide (i=3)||decide (i=4)
theorem uG{i:Nat}(h:i<=5):inV (V.str (cu i)) dal=inD i:=by
 have k:∀ i:Fin 6,inV (V.str (cu i.val)) dal=inD i.val:=by decide +kernel
 exact k ⟨i,Zb⟩
theorem SX{r:bC}(h:r.so<=5){k:Bool}(hk:k=inV (V.str (cu r.so)) dal):(List.replicate (if k=true then(1:Int)else 0).toNat [V.str r.ad]).flatten=(jV r).map V.str:=by
 obtain⟨so,nn,aa,ww,tt⟩:=r
 have h':so<=5:=h
 have hk':k=inD so:=hk.trans (uG h')
 subst hk'
 rcases six h' with rfl|rfl|rfl|rfl|rfl|rfl <;> rfl
theorem Iw{x:V}(k:Bool):([x]:List V).length*(if k=true then(1:Int)else 0).toNat<=sizeLine:=by
 cases k
 ·show 1*0<=sizeLine;decide
 ·show 1*1<=sizeLine;decide
theorem Q4(k:Bool):-(2 ^ 63)<=(if k=true then(1:Int)else 0):=by cases k <;> decide
theorem Sd(k:Bool):(if k=true then(1:Int)else 0)<2 ^ 63:=by cases k <;> decide
theorem d9{H:Hp}{C x dx:Addr}(hx:H x=none)(hdx:H dx=none):aB H (upd (upd H dx (.own x)) x (.ins C dx [])):=fun b o e=>by
 rw[aQ (aK e hx),aQ (aK e hdx)]
 exact e
theorem TY:(("let": Str)++(" " : Str)) = "let " := by decide +kernel
theorem RN:(("deed": Str)++(" " : Str)) = "deed " := by decide +kernel
theorem RC:(("draw": Str)++(" " : Str)) = "draw " := by decide +kernel
theorem S5:(("late": Str)++(" " : Str)) = "late " := by decide +kernel
theorem fQ:((" " : Str)).length=1:=by decide +kernel
theorem Bf:(cu 0).length=3:=by decide +kernel
theorem vM:(cu 1).length=4:=by decide +kernel
theorem vQ:(cu 2).length=4:=by decide +kernel
theorem vR:(cu 3).length=4:=by decide +kernel
def isCall(t:Trm):Bool:=match t.th with|.nms c _=>c|.num _=>false
theorem yE(t:Trm):decide (V.str (kindOf t.th)=V.str "call")=isCall t:=by
 unfold isCall
 cases t.th with
 | num m=>exact decide_eq_false (by show ¬ V.str "number" = V.str "call";decide +kernel)
 | nms c ys =>
  cases c
  ·exact decide_eq_false (by show ¬ V.str "path" = V.str "call";decide +kernel)
  ·exact decide_eq_true rfl
def QR:Sp:=fun vs H Q _=>∃ (l:Addr) (ts:List Trm),vs=[.ref l]/\dw H l ts/\ts.length<=10/\Pur (.bl (ts.any isCall)) H Q
theorem any_range{ts:List Trm}:((List.range ts.length).map fun i=>(ts[i]?).elim false isCall).any id=ts.any isCall:=by
 have e:(List.range ts.length).map (fun i=>(ts[i]?).elim false isCall)=ts.map isCall:=by
  apply ext_getElem
  ·simp
  ·intro i h1 h2
   have:i<ts.length:=by simpa using h1
   simp[this]
 rw[e,any_map]
 rfl
def Km(C:Nat->Addr)(H:Hp)(r:bC)(Q:VK):Prop:=∀ a l H',aB H H'->H a=none->H l=none->dU C H' a l r->Q (.ref a) H'
theorem Qe{r:bC}(g:GoodR r)(h:r.so=1):r.ts.any isCall=false:=by
 rw[any_eq_false]
 intro t ht k
 unfold isCall at k
 cases e:t.th with
 | num m=>rw[e]at k;cases k
 | nms c ys =>
  rw[e]at k
  cases c with
  | true=>exact g.dd h t ht ys e
  | false=>cases k
theorem pU{x y:Str}(h:y∈Txt.split x (" " : Str)):y.length<=x.length:=by rw[blank_eq]at h;exact rO h
def mX(C:Addr):Sp:=fun vs H Q _=>∃ (x:Addr) (n:Int),vs=[.ref x,.int n]/\H x=some (ExO true x C none)/\n.natAbs.log2<1920/\∀ p,H p=none->p≠x->Q .non (upd (upd H p (XdO p [("at",.int n)])) x (ExO true x C (some p)))
structure Ha(K:Frag)(C:Nat->Addr):Prop where
 x:rW K (C 22)
 a:dq K (C 22) "at"
 s21:Sub K (C 21) (C 21)
 s22:Sub K (C 22) (C 20)
 k:∀ j,20<=j->j<=33->kitOne K (.ref (C 22)) (.ref (C j))=some (decide (j=22\/j=20))
 v:kitOne K (.ref (C 22)) (.type "ValueError")=some true
def Xx(D:Addr)(H:Hp)(E:XK):Prop:=∀ x H',aB H H'->H x=none->H' x=some (ExO false x D none)->E (.ref x) none H'
theorem Xx.on{D:Addr}{H H1:Hp}{E:XK}(h:Xx D H E)(s:aB H H1):Xx D H1 E:=fun x H' s' hx e=>h x H' (s.trans s') (s.free hx) e
theorem Xx.go{D x:Addr}{H:Hp}{E:XK}(h:Xx D H E)(hx:H x=none):E (.ref x) none (upd (upd H x (ExO true x D none)) x (ExO false x D none)) :=
 h x _ (fun b o e=>by rw[aQ (aK e hx),aQ (aK e hx)];exact e) hx ak
def ni:Sp:=fun vs H Q _=>∃ z:Str,vs=[.str z]/\z.length<=6000/\Pur (.bl (nmB z)) H Q
def FT:Sp:=fun vs H Q _=>∃ (z:Str) (m:Nat),vs=[.str z,.int m]/\z.length<=6000/\Pur (.bl (cW m z)) H Q
def rY:Sp:=fun vs H Q _=>∃ z:Str,vs=[.str z]/\z.length<=6000/\Pur (.bl (cW 3 z)) H Q
def HH(C:Nat->Addr):Sp:=fun vs H Q E=>∃ z:Str,vs=[.str z]/\z.length<=6000/\(∀ ys,ir ys->z=dotted ys->∀ p H',aB H H'->H' p=some (.tup (ys.map V.str))->Q (.ref p) H')/\(cW 4 z=false->Xx (C 21) H E)
def Ck(C:Nat->Addr):Sp:=fun vs H Q E=>∃ (sg:Int) (z:Str),vs=[.int sg,.str z]/\z.length<=6000/\(∀ th,mW th->z=wordOf th->∀ v H',aB H H'->gG H' v ⟨sg,th⟩->Q v H')/\(¬RdW z->Xx (C 21) H E)
def Hs(C:Nat->Addr):Sp:=fun vs H Q E=>∃ z:Str,vs=[.str z]/\(∀ s:Int,(s=1\/s = -1)->z=sgw s->Pur (.int s) H Q)/\((¬∃ s:Int,(s=1\/s = -1)/\z=sgw s)->Xx (C 21) H E)
def Ho(C:Nat->Addr):Sp:=fun vs H Q E=>∃ z:Str,vs=[.str z]/\z.length<=6000/\(∀ ts,cD ts->Txt.split z (" " : Str)=wordsOf ts->∀ l H',H l=none->aB H H'->dw H' l ts->Q (.ref l) H')/\(¬RdE (Txt.split z (" " : Str))->Xx (C 21) H E)
theorem Eg{a b:Str}(ha:a.length<=1000)(hb:b.length<=6000):(a++b).length<=sizeLine:=by
 rw[bM];exact le_trans (show a.length+b.length<=7000 by omega) Za
theorem sG(c:Nat):∀ {W:List (List Nat)},W≠[]->(inter c W).length+1=(W.map List.length).sum+W.length
 | [],h=>absurd rfl h
 | [x],_=>by simp[inter]
 | x::y::r,_=>by
  have ih:=sG c (W:=y::r) Zc
  rw[bu c x Zc,length_append,length_cons,map_cons,sum_cons,length_cons (as:=y::r)]
  omega
theorem um(ys:List Str):Txt.join (" " : Str) ys=Str.join ⟨#[32]⟩ ys:=by
 rw[blank_eq]
 exact StrLaws.glued_eq_join _ ys
theorem uq{ys:List Str}(h:ys≠[]):(Txt.join (" " : Str) ys).length+1=(ys.map (·.length)).sum+ys.length:=by
 rw[um,bZ,bD,sG 32 (by simpa using h),map_map,length_map]
 have e:ys.map (List.length∘fun x:Str=>x.cps.toList)=ys.map (·.length):=List.map_congr_left fun y _=>(bZ y).symm
 rw[e]
def Wd(ws:List Str):Prop:=∃ z0:Str,z0.length<=6000/\ws=Txt.split z0 (" " : Str)
theorem Wd.ne{ws:List Str}(h:Wd ws):ws≠[]:=by obtain⟨z,_,rfl⟩:=h;rw[blank_eq];exact dR _ _
theorem Wd.free{ws:List Str}(h:Wd ws){w:Str}(hw:w∈ws):32∉w.cps.toList:=by
 obtain⟨z,_,rfl⟩:=h;rw[blank_eq]at hw;exact StrLaws.split_free _ 32 w hw
theorem Wd.len{ws:List Str}(h:Wd ws){w:Str}(hw:w∈ws):w.length<=6000:=by
 obtain⟨z,hz,rfl⟩:=h;exact le_trans (pU hw) hz
theorem Wd.sum{ws:List Str}(h:Wd ws):(ws.map (·.length)).sum+ws.length<=6001:=by
 have hn:=h.ne
 obtain⟨z,hz,e⟩:=h
 have:=uq hn
 rw[um,e,blank_eq,StrLaws.join_split]at this
 rw[e,blank_eq];omega
theorem Wd.drop{ws:List Str}(h:Wd ws)(k:Nat):((ws.drop k).map (·.length)).sum+(ws.drop k).length<=6001:=by
 have:=h.sum
 rw[<- List.take_append_drop k ws,map_append,List.sum_append,length_append]at this
 omega
theorem wQ{ws:List Str}(h:Wd ws){k:Nat}(hn:ws.drop k≠[]):Txt.split (Txt.join (" " : Str) (ws.drop k)) (" " : Str)=ws.drop k:=by
 rw[um,blank_eq]
 exact gk 32 _ hn fun y hy=>h.free (mem_of_mem_drop hy)
theorem Rh{ws:List Str}(h:RdE ws):ws≠[]:=fun z=>by have:=(qu h).1;rw[z]at this;cases this
theorem KR:¬RdW "" := qF Ze Ze Ze
theorem Tp:Txt.split (Txt.join (" " : Str) []) (" " : Str)=[("" : Str)]:=by decide +kernel
theorem Kd:¬ RdE [("" : Str)]:=fun h=>KR (qj h (i:=0) rfl)
def QC(C:Nat->Addr):Sp:=fun vs H Q E=>∃ (l:Addr) (k:Nat) (ws:List Str),vs=[.ref l,.int (k:Int)]/\H l=some (.lst (ws.map V.str))/\Wd ws/\(∀ ts,cD ts->ws.drop k=wordsOf ts->∀ l' H',H l'=none->aB H H'->dw H' l' ts->Q (.ref l') H')/\(¬RdE (ws.drop k)->Xx (C 21) H E)
def wAt(ws:List Str)(i:Nat):Str:=(ws[i]?).getD ""
def neB(ws:List Str):Bool:=decide (3<ws.length)&&(nmB (wAt ws 1)&&decide (wAt ws 2 = "be"))
def naB(ws:List Str):Bool:=decide (ws.length=4)&&(cW 3 (wAt ws 1)&&(decide (wAt ws 2 = "as")&&nmB (wAt ws 3)))
def nwB(ws:List Str):Bool:=decide (ws.length=6)&&(decide (wAt ws 2 = "from")&&(decide (wAt ws 4 = "as")&&(nmB (wAt ws 1)&&(cW 3 (wAt ws 3)&&nmB (wAt ws 5)))))
def Ql:Sp:=fun vs H Q _=>∃ (l:Addr) (ws:List Str),vs=[.ref l]/\H l=some (.lst (ws.map V.str))/\Wd ws/\Pur (.bl (neB ws)) H Q
def Qm:Sp:=fun vs H Q _=>∃ (l:Addr) (ws:List Str),vs=[.ref l]/\H l=some (.lst (ws.map V.str))/\Wd ws/\Pur (.bl (naB ws)) H Q
def QJ:Sp:=fun vs H Q _=>∃ (l:Addr) (ws:List Str),vs=[.ref l]/\H l=some (.lst (ws.map V.str))/\Wd ws/\Pur (.bl (nwB ws)) H Q
theorem cG{ws:List Str}{i:Nat}(h:i<ws.length):wAt ws i∈ws:=by unfold wAt;rw[getElem?_eq_getElem h];exact getElem_mem h
theorem aZ{ws:List Str}{i:Nat}(h:i<ws.length):atI (ws.map V.str) ((i:Nat):Int)=some (V.str (wAt ws i)):=bL (by rw[getElem?_map,getElem?_eq_getElem h];unfold wAt;rw[getElem?_eq_getElem h];rfl)
theorem lH{a b:Str}:decide (V.str a=V.str b)=decide (a=b):=by
 by_cases h:a=b
 ·rw[decide_eq_true h,decide_eq_true (congrArg V.str h)]
 ·rw[decide_eq_false h,decide_eq_false fun k=>h (V.str.inj k)]
theorem jN{n m:Nat}:decide (V.int (n:Int)=V.int (m:Int))=decide (n=m):=by
 by_cases h:n=m
 ·rw[decide_eq_true h,decide_eq_true (by rw[h])]
 ·rw[decide_eq_false h,decide_eq_false fun k=>h (by have:=V.int.inj k;omega)]
def RdR(ws:List Str):Prop:=∃ r,GoodR r/\ws=fP r
def a1:Str:= "a"
theorem Ma:cX a1:=oG.mp Ze
theorem Rj:∃ ys,mj ys/\a1=dotted ys:=⟨[a1],⟨Zc,Za,fun y hy=>by rw[mem_singleton.mp hy];exact Ma⟩,Ze⟩
def t1:List Trm:=[⟨1,.num 0⟩]
theorem S7:cD t1:=⟨by simp[t1],Za,fun t ht=>by rw[mem_singleton.mp ht];exact⟨.inl rfl,by show 0<10 ^ 20;decide⟩,fun t ht=>by cases ht;rfl⟩
theorem J2{nn:Str}{ts:List Trm}(h:cX nn)(g:cD ts):GoodR ⟨0,nn,a1,a1,ts⟩:=⟨(show 0<=5 by decide),(fun _=>h),(fun z=>by cases z),Rj,Ma,g,(fun z=>by cases z)⟩
theorem G9{nn:Str}{ts:List Trm}(h:cX nn)(g:cD ts)(hc:∀ t∈ts,isCall t=false):GoodR ⟨1,nn,a1,a1,ts⟩:=⟨(show 1<=5 by decide),(fun _=>h),(fun z=>by cases z),Rj,Ma,g,fun _ t ht ys e=>by have:=hc t ht;unfold isCall at this;rw[e]at this;cases this⟩
theorem vJ{so:Nat}{nn:Str}{ys:List Str}(hs:so=2\/so=3)(h:cX nn)(g:mj ys):GoodR ⟨so,nn,dotted ys,a1,t1⟩:=⟨(by show so<=5;omega),(fun _=>h),(fun z=>by have:so=5:=z;omega),⟨ys,g,rfl⟩,Ma,S7,(fun z=>by have:so=1:=z;omega)⟩
theorem GR{nn ww:Str}{ys:List Str}(h:cX nn)(hw:cX ww)(g:mj ys):GoodR ⟨4,nn,dotted ys,ww,t1⟩:=⟨(show 4<=5 by decide),(fun _=>h),(fun z=>by cases z),⟨ys,g,rfl⟩,hw,S7,(fun z=>by cases z)⟩
theorem Bp{ts:List Trm}(g:cD ts):GoodR ⟨5, "",a1,a1,ts⟩:=⟨(show 5<=5 by decide),(fun z=>absurd z (by show ¬ 5<5;decide)),(fun _=>rfl),Rj,Ma,g,(fun z=>by cases z)⟩
theorem pZ{ws:List Str}(h:neB ws=true):3<ws.length/\cX (wAt ws 1)/\ws=wAt ws 0::wAt ws 1 :: "be" :: ws.drop 3:=by
 unfold neB at h
 simp only[and_eq_true,decide_eq_true_eq]at h
 obtain⟨h3,h1,h2⟩:=h
 refine⟨h3,oG.mp h1,?_⟩
 match ws,h3,h2 with
 | a::b::c::d::r,_,h2=>rw[show c = "be" from h2];rfl
theorem Ru{z:Str}(h:cW 3 z=true):∃ ys,mj ys/\z=dotted ys:=by
 obtain⟨ys,a,b,c,e⟩:=GQ h
 exact⟨ys,⟨a,b,c⟩,e⟩
theorem wD{ws:List Str}(h:naB ws=true):ws.length=4/\∃ ys,mj ys/\wAt ws 1=dotted ys/\cX (wAt ws 3)/\ws=[wAt ws 0,dotted ys, "as",wAt ws 3]:=by
 unfold naB at h
 simp only[and_eq_true,decide_eq_true_eq]at h
 obtain⟨h4,h1,h2,h3⟩:=h
 obtain⟨ys,g,e⟩:=Ru h1
 refine⟨h4,ys,g,e,oG.mp h3,?_⟩
 rw[<- e]
 match ws,h4,h2 with
 | [a,b,c,d],_,h2=>rw[show c = "as" from h2];rfl
theorem Dd{ws:List Str}(h:nwB ws=true):ws.length=6/\∃ ys,mj ys/\wAt ws 3=dotted ys/\cX (wAt ws 1)/\cX (wAt ws 5)/\ws=[wAt ws 0,wAt ws 1, "from",dotted ys, "as",wAt ws 5]:=by
 unfold nwB at h
 simp only[and_eq_true,decide_eq_true_eq]at h
 obtain⟨h6,h2,h4,h1,h3,h5⟩:=h
 obtain⟨ys,g,e⟩:=Ru h3
 refine⟨h6,ys,g,e,oG.mp h1,oG.mp h5,?_⟩
 rw[<- e]
 match ws,h6,h2,h4 with
 | [a,b,c,d,e,f],_,h2,h4=>rw[show c = "from" from h2,show e = "as" from h4];rfl
theorem cP {ws:List Str} (h:RdR ws):(wAt ws 0 = "let" /\ neB ws = true /\ RdE (ws.drop 3)) \/ (wAt ws 0 = "deed" /\ neB ws = true /\ ∃ ts,cD ts /\ ws.drop 3 = wordsOf ts /\ ∀ t ∈ ts,isCall t = false) \/ (wAt ws 0 = "draw" /\ naB ws = true) \/ (wAt ws 0 = "late" /\ naB ws = true) \/ (wAt ws 0 = "take" /\ nwB ws = true) \/ (wAt ws 0 = "need" /\ RdE (ws.drop 1)):=by
 obtain ⟨⟨so,nn,aa,ww,tt⟩,g,rfl⟩:=h
 have h5:so <= 5:=g.so
 have gt:cD tt:=g.ts
 have gw:nmB ww = true:=(g.wd).nmB
 obtain ⟨ys,ga,ea⟩:=g.ad
 have gp:cW 3 aa = true:=by rw [show aa = dotted ys from ea]; exact Eh ga.lo ga.hi ga.nm
 have ln:∀ w0 w1 w2:Str,3 < (w0 :: w1 :: w2 :: wordsOf tt).length:=fun w0 w1 w2=>by
  have:=length_pos_iff.mpr (rQ gt.lo)
  simp only [length_cons]; omega
 rcases six h5 with rfl | rfl | rfl | rfl | rfl | rfl
 ·refine .inl ⟨rfl,?_,tt,gt,rfl⟩
  show (decide (3 < (("let" : Str) :: nn :: "be" :: wordsOf tt).length) && (nmB nn && decide (("be" : Str) = "be"))) = true
  rw [decide_eq_true (ln _ _ _),(g.nm (show 0 < 5 by decide)).nmB,decide_eq_true rfl]; rfl
 ·refine .inr (.inl ⟨rfl,?_,tt,gt,rfl,fun t ht=>?_⟩)
  ·show (decide (3 < (("deed" : Str) :: nn :: "be" :: wordsOf tt).length) && (nmB nn && decide (("be" : Str) = "be"))) = true
   rw [decide_eq_true (ln _ _ _),(g.nm (show 1 < 5 by decide)).nmB,decide_eq_true rfl]; rfl
  ·exact any_eq_false.mp (Qe g rfl) t ht |> fun z=>by simpa using z
 ·refine .inr (.inr (.inl ⟨rfl,?_⟩))
  show (true && (cW 3 aa && (decide (("as" : Str) = "as") && nmB nn))) = true
  rw [gp,(g.nm (show 2 < 5 by decide)).nmB,decide_eq_true rfl]; rfl
 ·refine .inr (.inr (.inr (.inl ⟨rfl,?_⟩)))
  show (true && (cW 3 aa && (decide (("as" : Str) = "as") && nmB nn))) = true
  rw [gp,(g.nm (show 3 < 5 by decide)).nmB,decide_eq_true rfl]; rfl
 ·refine .inr (.inr (.inr (.inr (.inl ⟨rfl,?_⟩))))
  show (true && (decide (("from" : Str) = "from") && (decide (("as" : Str) = "as") && (nmB ww && (cW 3 aa && nmB nn))))) = true
  rw [gp,gw,(g.nm (show 4 < 5 by decide)).nmB,decide_eq_true rfl,decide_eq_true rfl]; rfl
 ·exact .inr (.inr (.inr (.inr (.inr ⟨rfl,tt,gt,rfl⟩))))
def Qy(C:Nat->Addr):Sp:=fun vs H Q _=>∃ (nn:Str) (d:Addr) (ts:List Trm),vs=[.str nn,.ref d]/\cD ts/\dw H d ts/\(ts.any isCall=false->Km C H ⟨1,nn,a1,a1,ts⟩ Q)/\(ts.any isCall=true->Pur .non H Q)
def QW(C:Nat->Addr):Sp:=fun vs H Q E=>∃ (l:Addr) (ws:List Str),vs=[.ref l]/\H l=some (.lst (ws.map V.str))/\Wd ws/\(∀ r,GoodR r->ws=fP r->Km C H r Q)/\(¬RdR ws->Pur .non H Q/\Xx (C 21) H E)
def Xt(C:Nat->Addr)(i:Int)(H:Hp)(E:XK):Prop:=∀ x p H',aB H H'->H x=none->H' x=some (ExO false x (C 22) (some p))->H' p=some (XdO p [("at",.int i)])->E (.ref x) none H'
theorem Xt.go{C:Nat->Addr}{i:Int}{H H1:Hp}{E:XK}{x p:Addr}(h:Xt C i H E)(s:aB H H1)(hx:H1 x=none)(hp:upd H1 x (ExO true x (C 22) none) p=none)(hne:p≠x) :
  E (.ref x) none (upd (upd (upd (upd H1 x (ExO true x (C 22) none)) p (XdO p [("at",.int i)])) x (ExO true x (C 22) (some p))) x (ExO false x (C 22) (some p))):=by
 have hp1:H1 p=none:=by rw[aQ hne]at hp;exact hp
 refine h x p _ (fun b o e=>?_) (s.free hx) ak (by rw[aQ hne,aQ hne];exact ak)
 have e1:=s b o e
 have nx:=aK e1 hx
 have np:=aK e1 hp1
 rw[aQ nx,aQ nx,aQ np,aQ nx]
 exact e1
def Qv(C:Nat->Addr):Sp:=fun vs H Q E=>∃ (z:Str) (i:Int),vs=[.str z,.int i]/\z.length<=6000/\i.natAbs.log2<1920/\(∀ r,GoodR r->Txt.split z (" " : Str)=fP r->Km C H r Q)/\(¬RdR (Txt.split z (" " : Str))->Xt C i H E)
theorem Gm{X:Cx}{K':Frag}{W:L2.St->XK}{d:Addr}{ck:Nat}{cp pos:Pos}{e:Expr}{te:TE}(hK:X.K=K')(hw:rB X W)(hh:X.A.handled=some (.ref d))(he:PE X e te):QS X (.Raise (some e) (some (.Constant .none ck cp)) pos) (Hz K' d W te):=by
 subst hK;exact Ir hw hh he
theorem lD{X:Cx}{K:Frag}(h:X.K=K):iy X (.builtin "isinstance") (MP K):=by subst h;exact Gw
theorem Dp{X:Cx}{K:Frag}{e:Expr}{f:Str}{pos:Pos}{ta:TE}(h:X.K=K)(he:PE X e ta)(hb:attributeBase e f X.env (eval e X.env)=eval e X.env):PE X (.Attribute e f pos) (QF K ta f):=by subst h;exact Oi he hb
def Qj:Sp:=fun vs H Q _=>∃ (z:Str) (sg:Int),vs=[.str z,.int sg]/\z.length<=6000/\(∀ th,mW th->z=wordOf th->∀ v H',aB H H'->gG H' v ⟨sg,th⟩->Q v H')/\(¬RdW z->Pur .non H Q)
theorem Lz{p:Nat->Bool}{xs:List Nat}(h:(xs.filter p).length=xs.length):xs.all p=true:=all_eq_true.mpr (List.length_filter_eq_length_iff.mp h)
theorem LC{p:Nat->Bool}{xs:List Nat}(h:(xs.filter p).length≠xs.length):xs.all p=false:=by
 cases e:xs.all p with
 | false=>rfl
 | true=>exact absurd (List.length_filter_eq_length_iff.mpr (all_eq_true.mp e)) h
def M3:Sp:=fun vs H Q _=>∃ (l:Addr) (ws:List Str),vs=[.ref l]/\H l=some (.lst (ws.map V.str))/\(∀ w∈ws,w.length<=6000)/\ws.length<=7000/\(∀ ts,cD ts->ws=wordsOf ts->∀ l' H',H l'=none->aB H H'->dw H' l' ts->Q (.ref l') H')/\(¬RdE ws->Pur .non H Q)
theorem FP{n:Nat}(h:n<=11):Builtin.Range.small 0 (n:Int) 2=true:=by
 have k:∀ m:Fin 12,Builtin.Range.small 0 ((m.val:Nat):Int) 2=true:=by decide +kernel
 exact k ⟨n,Zb⟩
def HF(H:Hp)(v:V)(r:bC):Prop:=∃ p l,v=.ref p/\H p=some (.tup [.str (cu r.so),.str (if r.so=5 then "" else r.nm),.str (if r.so=2\/r.so=3\/r.so=4 then r.ad else ""),.str (if r.so=4 then r.wd else ""),.ref l])/\((r.so=0\/r.so=1\/r.so=5)->dw H l r.ts)/\(¬(r.so=0\/r.so=1\/r.so=5)->H l=some (.lst []))
def Qp:Sp:=fun vs H Q _=>∃ (l:Addr) (ws:List Str),vs=[.ref l]/\H l=some (.lst (ws.map V.str))/\Wd ws/\3<ws.length/\(wAt ws 0 = "let" \/ wAt ws 0 = "deed")/\(∀ r,GoodR r->ws=fP r->∀ v H',aB H H'->HF H' v r->Q v H')/\(¬RdR ws->Pur .non H Q)
theorem Wd.of{z:Str}(h:z.length<=6000):Wd (Txt.split z (" " : Str)):=⟨z,h,rfl⟩
theorem Wd.pos{ws:List Str}(h:Wd ws):0<ws.length:=length_pos_iff.mpr h.ne
def Hr:Sp:=fun vs H Q _=>∃ z:Str,vs=[.str z]/\z.length<=6000/\(∀ r,GoodR r->Txt.split z (" " : Str)=fP r->∀ v H',aB H H'->HF H' v r->Q v H')/\(¬RdR (Txt.split z (" " : Str))->Pur .non H Q)
def lA(H:Hp)(v:V)(lt:Addr)(r:bC):Prop:=∃ p aa ww,v=.ref p/\H p=some (.tup [.str (cu r.so),.str r.nm,.str aa,.str ww,.ref lt])/\(r.so=2\/r.so=3\/r.so=4->aa=r.ad)/\(r.so=4->ww=r.wd)/\(r.so=0\/r.so=1\/r.so=5->dw H lt r.ts)
theorem lA.same{H H':Hp}{v:V}{lt:Addr}{r:bC}(h:lA H v lt r)(s:aB H H'):lA H' v lt r:=by
 obtain⟨p,aa,ww,e,hp,h1,h2,t⟩:=h
 exact⟨p,aa,ww,e,s _ _ hp,h1,h2,fun k=>(t k).same s⟩
theorem Ge.tg{H:Hp}{v:V}{lt:Addr}{r:bC}(h:Ge H v lt r):lA H v lt r:=by
 obtain⟨p,e,hp,t⟩:=h
 exact⟨p,_,_,e,hp,fun _=>rfl,fun _=>rfl,fun _=>t⟩
theorem HF.tg{H:Hp}{v:V}{r:bC}(h:HF H v r)(g:GoodR r):∃ lt,lA H v lt r:=by
 obtain⟨p,l,e,hp,t,_⟩:=h
 have en:(if r.so=5 then("" : Str)else r.nm)=r.nm:=by
  by_cases k:r.so=5
  ·rw[if_pos k,g.no k]
  ·rw[if_neg k]
 rw[en]at hp
 exact⟨l,p,_,_,e,hp,fun k=>if_pos k,fun k=>if_pos k,t⟩
def zZ:Sp:=fun vs H Q _=>∃ (v:V) (lt:Addr) (r:bC),vs=[v]/\lA H v lt r/\GoodR r/\Pur (.str (bO r)) H Q
def Hc(C:Nat->Addr):Sp:=fun vs H Q _=>∃ (a l:Addr) (v:V) (lt:Addr) (r:bC),vs=[.ref a,v]/\dU C H a l r/\lA H v lt r/\GoodR r/\Pur (.bl true) H Q
theorem Oz{r:bC}{aa:Str}(h:r.so<=5)(ha:r.so=2\/r.so=3\/r.so=4->aa=r.ad){k:Bool}(hk:k=inV (V.str (cu r.so)) dal):(List.replicate (if k=true then(1:Int)else 0).toNat [V.str aa]).flatten=(jV r).map V.str:=by
 by_cases h2:r.so=2\/r.so=3\/r.so=4
 ·rw[ha h2];exact SX h hk
 ·have e0:jV r=[]:=if_neg h2
  have ek:k=false:=by
   rw[hk,uG h];unfold inD
   rw[decide_eq_false fun z=>h2 (.inl z),decide_eq_false fun z=>h2 (.inr (.inl z)),decide_eq_false fun z=>h2 (.inr (.inr z))];rfl
  rw[e0,ek];rfl
theorem yK{i j:Nat}(hi:i<=5)(hj:j<=5)(e:cu i=cu j):i=j:=by
 have:=wM hi hj
 rw[decide_eq_true (congrArg V.str e)]at this
 unfold nu at this
 rw[decide_eq_false (show ¬ j=6 by omega),Bool.or_false]at this
 exact of_decide_eq_true this.symm
theorem qN{r:bC}(g:GoodR r):(fP r).head? = some (cu r.so):=by
 obtain⟨so,nn,aa,ww,tt⟩:=r
 rcases six (show so<=5 from g.so)with rfl|rfl|rfl|rfl|rfl|rfl <;> rfl
theorem Je{C:Nat->Addr}{H:Hp}{a l:Addr}{r s:bC}(g:GoodR r)(h:GoodR s)(e:fP s=fP r)(ra:dU C H a l s):dU C H a l r:=by
 have e0:s.so=r.so:=yK h.so g.so (Option.some.inj ((qN h).symm.trans ((congrArg List.head? e).trans (qN g))))
 obtain⟨dx,fs,ha,hf⟩:=ra
 obtain⟨so,nn,aa,ww,tt⟩:=r
 obtain⟨so2,nn2,aa2,ww2,tt2⟩:=s
 obtain rfl:so2=so:=e0
 have gt:cD tt:=g.ts
 have ht:cD tt2:=h.ts
 refine⟨dx,fs,ha,?_⟩
 obtain⟨f1,f2,f3,f4,f5,f6,f7⟩:=hf
 rcases six (show so2<=5 from g.so)with rfl|rfl|rfl|rfl|rfl|rfl
 ·have e:("let" : Str)::nn2 :: "be" :: wordsOf tt2=("let" : Str)::nn :: "be" :: wordsOf tt:=e
  injection e with _ e;injection e with e1 e;injection e with _ e
  have e3:=jk ht gt e;cases e1;cases e3
  exact⟨f1,f2,fun k=>absurd k (by show ¬ (0=2\/0=3\/0=4);decide),fun k=>absurd k (by show ¬ 0=4;decide),f5,f6,f7⟩
 ·have e:("deed" : Str)::nn2 :: "be" :: wordsOf tt2=("deed" : Str)::nn :: "be" :: wordsOf tt:=e
  injection e with _ e;injection e with e1 e;injection e with _ e
  have e3:=jk ht gt e;cases e1;cases e3
  exact⟨f1,f2,fun k=>absurd k (by show ¬ (1=2\/1=3\/1=4);decide),fun k=>absurd k (by show ¬ 1=4;decide),f5,f6,f7⟩
 ·have e:[("draw" : Str),aa2, "as",nn2]=[("draw" : Str),aa, "as",nn]:=e
  injection e with _ e;injection e with e1 e;injection e with _ e;injection e with e2 e
  cases e1;cases e2
  exact⟨f1,fun k=>absurd k (by show ¬ (2=0\/2=1\/2=5);decide),f3,fun k=>absurd k (by show ¬ 2=4;decide),f5,f6,f7⟩
 ·have e:[("late" : Str),aa2, "as",nn2]=[("late" : Str),aa, "as",nn]:=e
  injection e with _ e;injection e with e1 e;injection e with _ e;injection e with e2 e
  cases e1;cases e2
  exact⟨f1,fun k=>absurd k (by show ¬ (3=0\/3=1\/3=5);decide),f3,fun k=>absurd k (by show ¬ 3=4;decide),f5,f6,f7⟩
 ·have e:[("take" : Str),ww2, "from",aa2, "as",nn2]=[("take" : Str),ww, "from",aa, "as",nn]:=e
  injection e with _ e;injection e with e1 e;injection e with _ e;injection e with e2 e;injection e with _ e;injection e with e3 e
  cases e1;cases e2;cases e3
  exact⟨f1,fun k=>absurd k (by show ¬ (4=0\/4=1\/4=5);decide),f3,f4,f5,f6,f7⟩
 ·have e:("need" : Str)::wordsOf tt2=("need" : Str)::wordsOf tt:=e
  injection e with _ e
  cases jk ht gt e
  exact⟨fun k=>absurd k (by show ¬ 5<5;decide),f2,fun k=>absurd k (by show ¬ (5=2\/5=3\/5=4);decide),fun k=>absurd k (by show ¬ 5=4;decide),f5,f6,f7⟩
theorem Ld{w a b:Str}:inV (V.str w) [V.str a,V.str b]=(decide (w=a)||decide (w=b)):=by
 show((a==w)||((b==w)||false))=_
 have k:∀ x:Str,(x==w)=decide (w=x):=fun x=>by
  by_cases h:w=x
  ·rw[decide_eq_true h];exact beq_iff_eq.mpr h.symm
  ·rw[decide_eq_false h];exact beq_eq_false_iff_ne.mpr fun z=>h z.symm
 rw[k,k,Bool.or_false]
theorem NQ{z:Str}(h:z ≠ ""):1<=z.length:=by
 rcases Nat.eq_zero_or_pos z.length with e|e
 ·exact absurd (cO (by rw[bZ]at e;rw[List.length_eq_zero_iff.mp e];decide +kernel)) h
 ·exact e
theorem OJ(k:Bool):MulOk "a" (if k=true then 1 else 0):=by
 cases k
 ·exact(Jp Ze Za Za).1
 ·exact(Jp Ze Za Za).1
theorem J8{z:Str}:1<=(z++Txt.mul "a" (if decide (V.str z=V.str "")=true then 1 else 0)).length/\(z++Txt.mul "a" (if decide (V.str z=V.str "")=true then 1 else 0)).length<=z.length+1:=by
 rw[bM]
 by_cases h:z = ""
 ·subst h
  decide +kernel
 ·rw[decide_eq_false fun k=>h (V.str.inj k)]
  have:=NQ h
  have e:(Txt.mul "a" (if false=true then(1:Int)else 0)).length=0:=by decide +kernel
  rw[e];omega
def wX:Sp:=fun vs H Q _=>∃ (z:Str) (c:Int),vs=[.str z,.int c]/\z.length<=5900/\∀ (y:Str) H',y.length<=z.length+2->aB H H'->Q (.str y) H'
def tot(ws:List Str):Nat:=(ws.map (·.length)).sum+ws.length
theorem dm(a b:List Str):tot (a++b)=tot a+tot b:=by unfold tot;rw[map_append,List.sum_append,length_append];omega
theorem tW(ws:List Str)(n:Nat):tot (ws.take n)+tot (ws.drop n)=tot ws:=by rw[<- dm,List.take_append_drop]
theorem DQ(ws:List Str)(n:Nat):tot (ws.drop (n+1))<=tot (ws.drop n):=by
 have:=tW (ws.drop n) 1
 rw[List.drop_drop]at this
 rw[Nat.add_comm]at this
 omega
theorem jZ(w:Str):tot [w]=w.length+1:=by unfold tot;simp
theorem Qh{ws:List Str}{w:Str}(h:w∈ws):w.length<tot ws:=by
 induction ws with
 | nil=>cases h
 | cons a r ih =>
  have e:tot (a::r)=a.length+1+tot r:=by rw[<- jZ a,<- dm];rfl
  rcases mem_cons.mp h with rfl|k
  ·omega
  ·have:=ih k;omega
theorem Hj(ws:List Str):ws.length<=tot ws:=by unfold tot;omega
def Dg:Sp:=fun vs H Q _=>∃ (l:Addr) (ws:List Str) (c:Int),vs=[.ref l,.int c]/\H l=some (.lst (ws.map V.str))/\ws≠[]/\tot ws<=600/\∀ p (ys:List Str) H',aB H H'->H' p=some (.lst (ys.map V.str))->tot ys<=5800->Q (.ref p) H'
theorem Th{y:Str}{j:Int}(h0:0<=j)(h1:j<=y.length):(Txt.slice y none (some j)).length<=j.toNat:=by
 rw[eq_of_beq (slice_closes_toL h0 h1),bZ]
 show((y.cps.toList.drop (0:Int).toNat).take (j - 0).toNat).toArray.toList.length<=_
 rw[List.toList_toArray,length_take]
 omega
theorem Hm{y:Str}{i:Int}(h0:0<=i)(h1:i<=y.length):(Txt.slice y (some i) none).length<=y.length - i.toNat:=by
 rw[eq_of_beq (slice_closes_fromL h0 h1 rfl),bZ]
 show((y.cps.toList.drop i.toNat).take ((y.length:Int) - i).toNat).toArray.toList.length<=_
 rw[List.toList_toArray,length_take]
 omega
theorem Qu{X:Cx}{b:List Stmt}{t:TS}{p:TS->Prop}(q:QSs X b t)(h:p t):∃ W,PSs X b W/\p W:=⟨t,q.h,h⟩
theorem K4{xs:List V}{k:Int}(h0:0<=k)(h1:k<xs.length):∃ v,atI xs k=some v/\v∈xs:=by
 obtain⟨n,rfl⟩:=Int.eq_ofNat_of_zero_le h0
 have hn:n<xs.length:=by omega
 exact⟨_,bL (getElem?_eq_getElem hn),getElem_mem hn⟩
def wl(n:Int):List V:=[V.str "+",V.str "-",V.str "",V.str "be",V.str "as",V.str "from",V.str "07",V.str (Txt.mul "9" n),V.str "a.b.c.d.e",V.str "a()",V.str "()"]++[V.str "a..b",V.str "abcdefghi",V.str "0",V.str "let",V.str "need",V.str "A",V.str "a.b.c.d"]
theorem Ny{n:Int}(h0:0<=n)(h1:n<=5000){v:V}(h:v∈wl n):∃ w,v=.str w/\w.length<=5000:=by
 have hm:=(Jp (z := "9") Ze h0 Zb).2
 have hs:∀ w:Str,w.length<=20->w.length<=5000:=fun w h=>by omega
 unfold wl at h
 simp only[cons_append,nil_append,mem_cons,not_mem_nil,or_false]at h
 rcases h with rfl|rfl|rfl|rfl|rfl|rfl|rfl|rfl|rfl|rfl|rfl|rfl|rfl|rfl|rfl|rfl|rfl|rfl
 all_goals first|exact⟨_,rfl,hs _ Ze⟩|exact⟨_,rfl,Zb⟩
theorem cuts(ws:List Str)(k:Nat):dO (ws.map V.str) none (some (k:Int))=(ws.take k).map V.str:=by rw[Fo,map_take]
theorem J1(ws:List Str)(k:Nat):dO (ws.map V.str) (some (k:Int)) none=(ws.drop k).map V.str:=by rw[tO,map_drop]
theorem Jq{r:bC}(g:GoodR r):(bO r).length<=520:=by
 have e1:=g.nl
 have e2:=g.al
 have e3:=g.tl
 have e4:=g.wd.hi
 obtain⟨so,nn,aa,ww,tt⟩:=r
 have h5:so<=5:=g.so
 have e1:nn.length<=8:=e1
 have e2:aa.length<=36:=e2
 have e3:(textOf tt).length<=480:=e3
 have e4:ww.length<=8:=e4
 rcases six h5 with rfl|rfl|rfl|rfl|rfl|rfl
 ·rw[Ey rfl];simp only[bM,tE,jx];omega
 ·rw[CN rfl];simp only[bM,pQ,jx];omega
 ·rw[Di rfl];simp only[bM,qm,d7];omega
 ·rw[DG rfl];simp only[bM,qd,d7];omega
 ·rw[CK rfl];simp only[bM,dX,len_from,d7];omega
 ·rw[Cq rfl];simp only[bM,ut];omega
theorem Jl{z:Str}:tot (Txt.split z (" " : Str))=z.length+1:=by
 have hn:Txt.split z (" " : Str)≠[]:=by rw[blank_eq];exact dR _ _
 have:=uq hn
 rw[um,blank_eq,StrLaws.join_split]at this
 unfold tot
 rw[blank_eq];omega
theorem Np{ys:List Str}:(Txt.join (" " : Str) ys).length<=tot ys:=by
 by_cases h:ys=[]
 ·subst h;decide +kernel
 ·have:=uq h;unfold tot;omega
theorem Pj{ws:List Str}(h:wAt ws 0 = "need")(n:¬RdE (ws.drop 1)):¬RdR ws:=fun r=>by
 rcases cP r with⟨k,_⟩|⟨k,_⟩|⟨k,_⟩|⟨k,_⟩|⟨k,_⟩|⟨k,m⟩ <;> first|exact absurd (h.symm.trans k) Ze|exact n m
section
variable {K:Frag} {HE C D:Addr}
theorem lR{nm q:Str}{N:Addr}{bs bm:List Value}{sn:List Str}{sub:List Value}{ab:Bool}{col:Option Bool}{dd:Option Addr}{k0 k1 k2 k3 k5:Option Value}(l:K.lookup C=some (excClassObj nm q C N bs bm true sn sub ab col dd k0 k1 k2 k3 k5 "ValueError.__new__")):lu K C bm:=⟨_,_,_,_,_,_,_,_,_,_,_,_,_,_,l⟩
theorem Gh{bm bm':List Value}(l:lu K C bm)(l':lu K D bm'):kitOne K (.ref C) (.ref D)=some ((Value.ref C::bm).contains (.ref D)):=by
 obtain⟨_,_,_,_,_,_,_,_,_,_,_,_,_,_,l⟩:=l
 obtain⟨_,_,_,_,_,_,_,_,_,_,_,_,_,_,l'⟩:=l'
 exact N5 l l'
theorem zE{bm:List Value}(l:lu K C bm):kitOne K (.ref C) (.ref C)=some true:=by rw[Gh l l];simp
theorem cF(l:lu K C (.ref HE::dD))(l':lu K D (.ref HE::dD))(h0:D≠HE)(h1:D≠C):kitOne K (.ref C) (.ref D)=some false:=by
 rw[Gh l l',contains_cons,contains_cons,Ri]
 have e0:(Value.ref D==Value.ref HE)=false:=beq_eq_false_iff_ne.mpr fun z=>h0 (Value.ref.inj z)
 have e1:(Value.ref D==Value.ref C)=false:=beq_eq_false_iff_ne.mpr fun z=>h1 (Value.ref.inj z)
 rw[e0,e1]
 rfl
theorem J7(l:lu K C (.ref HE::dD)):kitOne K (.ref C) (.type "ValueError")=some true:=by
 obtain⟨_,_,_,_,_,_,_,_,_,_,_,_,_,_,l⟩:=l
 rw[Sw Ze l]
 simp
theorem Gz(l:lu K C (.ref HE::dD)):Sub K C HE:=by
 obtain⟨_,_,_,_,_,_,_,_,_,_,_,_,_,_,l⟩:=l
 exact⟨_,_,_,_,_,_,_,_,_,_,_,_,_,_,_,_,_,l,Zc⟩
theorem Fx(l:lu K C (.ref HE::dD))(ga:findIn K (.ref C) "__getattribute__" = some (some (.builtin "BaseException.__getattribute__")))(nga:findIn K (.ref C) "__getattr__" = some none)
  (sa:findIn K (.ref C) "__setattr__" = some (some (.builtin "object.__setattr__")))(cl:findIn K (.ref C) "__class__" = some (some (.builtin "object.__class__")))
  (cg:specialIn K (.builtin "object.__class__") "__get__" = some (some (.builtin "getset_descriptor.__get__")))(ct:takesIn K (.builtin "object.__class__")=some true):rW K C:=by
 obtain⟨_,_,_,_,_,_,_,_,_,_,_,_,_,_,l⟩:=l
 exact O3 l rfl rfl ga nga sa cl cg ct
structure XI(K:Frag)(HE C f:Addr)(x:Str):Prop where
 A:nsIn K mainGlobals x=some (some (.ref C))
 l:lu K C (.ref HE::dD)
 e0:findIn K (.ref C) "__getattribute__" = some (some (.builtin "BaseException.__getattribute__"))
 e1:findIn K (.ref C) "__getattr__" = some none
 e2:findIn K (.ref C) "__setattr__" = some (some (.builtin "object.__setattr__"))
 e3:findIn K (.ref C) "__class__" = some (some (.builtin "object.__class__"))
 e4:findIn K (.ref C) "at" = some none
 e5:findIn K (.ref C) "__init__" = some (some (.ref f))
 kp:keepIn K (.ref C)=true
theorem bA{cs:List Addr}(h:cs.Nodup){i j:Nat}{a b:Addr}(ha:cs[i]? = some a)(hb:cs[j]? = some b)(hij:i≠j):a≠b:=fun e=>by
 subst e
 exact hij ((List.getElem?_inj (List.getElem?_eq_some_iff.mp ha).1 h).mp (ha.trans hb.symm))
theorem M6(l:lu K C (.ref HE::dD)){nm q:Str}{N:Addr}{bs:List Value}{sn:List Str}{sub:List Value}{ab:Bool}{col:Option Bool}{dd:Option Addr}{k0 k1 k2 k3 k5:Option Value}(h:K.lookup HE=some (excClassObj nm q HE N bs dD true sn sub ab col dd k0 k1 k2 k3 k5 "ValueError.__new__")):kitOne K (.ref C) (.ref HE)=some true:=by
 rw[Gh l (lR h)];simp
theorem Ob{bm:List Value}(l:lu K C bm):Sub K C C:=by
 obtain⟨_,_,_,_,_,_,_,_,_,_,_,_,_,_,l⟩:=l
 exact⟨_,_,_,_,_,_,_,_,_,_,_,_,_,_,_,_,_,l,Zc⟩
end
theorem stp{p:Nat->Prop}{a b:Nat}(h:p a)(k:∀ x,a+1<=x->x<=b->p x):∀ x,a<=x->x<=b->p x:=fun x h1 h2=>(Nat.eq_or_lt_of_le h1).elim (fun e=>e▸h) fun l=>k x l h2
theorem K7{p:Nat->Prop}(a:p 20)(b:p 21)(c:p 22)(d:p 23)(e:p 24)(f:p 25)(g:p 26)(h:p 27)(i:p 28)(j:p 29)(k:p 30)(l:p 31)(m:p 32)(n:p 33):∀ x,20<=x->x<=33->p x:=stp a (stp b (stp c (stp d (stp e (stp f (stp g (stp h (stp i (stp j (stp k (stp l (stp m (stp n fun _ h1 h2=>absurd (le_trans h1 h2) Za)))))))))))))
structure VH(K:Frag)(C:Addr):Prop where
 cl:RCl K C
 na:dq K C "address"
 nr:dq K C "rows"
 kit:kitOne K (.ref C) (.ref C)=some true
structure iB(rs:List bC):Prop where
 hi:rs.length<=12
 ok:∀ r∈rs,GoodR r
theorem iB.at{rs:List bC}(g:iB rs) {i:Nat} {r:bC} (h:rs[i]? = some r):GoodR r:=g.ok r (mem_of_getElem? h)
def xu(C:Nat->Addr)(H:Hp)(l:Addr)(rs:List bC):Prop:=∃ xs:List V,H l=some (.lst xs)/\xs.length=rs.length/\∀ (i:Nat) r,rs[i]? = some r->∃ a t,xs[i]? = some (.ref a)/\dU C H a t r
theorem xu.same{C:Nat->Addr}{H H':Hp}{l:Addr}{rs:List bC}(h:xu C H l rs)(s:aB H H'):xu C H' l rs:=by
 obtain⟨xs,hl,hn,hx⟩:=h
 refine⟨xs,s _ _ hl,hn,fun i r e=>?_⟩
 obtain⟨a,t,e2,ra⟩:=hx i r e
 exact⟨a,t,e2,ra.same s⟩
def o5(C:Nat->Addr)(H:Hp)(p:Addr)(ad:Str)(l:Addr)(rs:List bC):Prop:=∃ dx fs,H p=some (.ins (C 7) dx fs)/\fs.lookup ("address" : Str)=some (.str ad)/\fs.lookup ("rows" : Str)=some (.ref l) /\
 fs.lookup ("bound" : Str)=none/\fs.lookup ("place_of" : Str)=none/\fs.lookup ("text" : Str)=none/\xu C H l rs
theorem o5.same{C:Nat->Addr}{H H':Hp}{p:Addr}{ad:Str}{l:Addr}{rs:List bC}(h:o5 C H p ad l rs)(s:aB H H'):o5 C H' p ad l rs:=by
 obtain⟨dx,fs,e,a1,a2,a3,a4,a5,r⟩:=h
 exact⟨dx,fs,s _ _ e,a1,a2,a3,a4,a5,r.same s⟩
theorem dw.but{H H':Hp}{l x C dx:Addr}{ts:List Trm}{fs:List (Str×V)}(h:dw H l ts)(hx:H x=some (.ins C dx fs))(s:SameBut x H H'):dw H' l ts:=by
 obtain⟨xs,hl,hn,ht⟩:=h
 refine⟨xs,s _ _ hl (qi hl hx Zh),hn,fun i v e=>?_⟩
 obtain⟨t,et,tm⟩:=ht i v e
 exact⟨t,et,tm.but hx s⟩
theorem dU.but{C:Nat->Addr}{H H':Hp}{a t x D dx:Addr}{r:bC}(h:dU C H a t r)(g:GoodR r)(hx:H x=some (.ins D dx []))(s:SameBut x H H'):dU C H' a t r:=by
 obtain⟨dy,fs,e,f⟩:=h
 have ne:a≠x:=fun z=>by
  rw[z,hx]at e
  cases e
  rcases lt_or_ge r.so 5 with k|k
  ·exact absurd (f.nm k) Zh
  ·exact absurd (f.tm (.inr (.inr (Nat.le_antisymm g.so k)))).1 Zh
 exact⟨dy,fs,s _ _ e ne,f.nm,fun k=>⟨(f.tm k).1,(f.tm k).2.but hx s⟩,f.ad,f.wd,f.nb,f.na,f.ns⟩
def isE(v:V):Bool:=!decide (v=.str "")
def nF(rs:List bC):List V:=(rs.map fun r=>V.str r.nm).filter isE
def sS (rs:List bC) (z:Str):V:=if z = "" then .non else match rs.findIdx? (fun r=>decide (r.nm = z)) with | some i=>.int (i:Nat) | none=>.non
theorem Dy{rs:List bC}{z:Str}{i:Nat}{r:bC}(h:rs[i]? = some r)(e:r.nm=z)(hz:¬z = "")(hb:∀ (j:Nat) r,j<i->rs[j]? = some r->¬ r.nm=z):sS rs z=.int (i:Nat):=by
 unfold sS
 have hi:=(List.getElem?_eq_some_iff.mp h).1
 have f:rs.findIdx? (fun r=>decide (r.nm=z))=some i:=by
  rw[List.findIdx?_eq_some_iff_getElem]
  refine⟨hi,?_,fun j hj=>?_⟩
  ·rw[getElem?_eq_getElem hi]at h
   cases h
   exact decide_eq_true e
  ·have:=hb j _ hj (getElem?_eq_getElem (Nat.lt_trans hj hi))
   simpa using this
 rw[if_neg hz,f]
theorem Ly{rs:List bC}{z:Str}(hz:¬z = "")(hb:∀ (j:Nat) r,rs[j]? = some r->¬ r.nm=z):sS rs z=.non:=by
 unfold sS
 have f:rs.findIdx? (fun r=>decide (r.nm=z))=none:=by
  rw[List.findIdx?_eq_none_iff]
  intro r hr
  obtain⟨i,hi,e⟩:=getElem_of_mem hr
  exact decide_eq_false (hb i r (by rw[getElem?_eq_getElem hi,e]))
 rw[if_neg hz,f]
theorem xQ:(("part " : Str)).length=5:=by decide +kernel
theorem Ce:(("part " : Str)).cps.toList=(("part" : Str)).cps.toList++[32]:=by decide +kernel
theorem JH{ys:List Str}:("part " : Str)++dotted ys=Str.join ⟨#[32]⟩ [("part" : Str),dotted ys]:=by
 apply cO
 rw[bD,bG,Ce,map_cons,map_cons,map_nil,bu 32 _ Zc,gF]
 simp only[append_assoc,cons_append,nil_append]
def nG(ad:Str)(rs:List bC):Str:=Txt.join ("\n" : Str) (("part " ++ ad)::rs.map bO)
theorem tG:(("\n": Str))=⟨#[10]⟩:=by decide +kernel
theorem Ky:(("\n": Str)).length=1:=by decide +kernel
theorem Ab:((("\n": Str)).length==0)=false:=by decide +kernel
theorem Ni{ad:Str}{rs:List bC}(g:iB rs)(h:ad.length<=36):∀ y∈("part " ++ ad)::rs.map bO,y.length<=1000:=fun y hy=>by
 cases hy with
 | head=>rw[bM,xQ];omega
 | tail _ hy =>
  obtain⟨r,hr,rfl⟩:=mem_map.mp hy
  exact Kv (g.ok r hr)
theorem Gn{ad:Str}{rs:List bC}(g:iB rs)(h:ad.length<=36):((("part " ++ ad)::rs.map bO).map (·.length)).sum+(("part " ++ ad)::rs.map bO).length*(("\n" : Str)).length<=16777216:=by
 have h1:=pF (Ni g h)
 have h2:(("part " ++ ad)::rs.map bO).length<=13:=by rw[length_cons,length_map];exact Nat.succ_le_succ g.hi
 rw[Ky]
 omega
theorem qy(ys:List Str):Txt.join ("\n" : Str) ys=Str.join ⟨#[10]⟩ ys:=by
 rw[tG]
 exact StrLaws.glued_eq_join _ _
def J3(C:Nat->Addr):Sp:=fun vs H Q _=>∃ (x dx:Addr) (ad:Str) (d:Addr) (rs:List bC),vs=[.ref x,.str ad,.ref d]/\H x=some (.ins (C 7) dx [])/\xu C H d rs/\iB rs /\
 ∀ l H',H l=none->SameBut x H H'->o5 C H' x ad l rs->Q .non H'
def BX(C:Nat->Addr):Sp:=fun vs H Q _=>∃ (p:Addr) (ad:Str) (l:Addr) (rs:List bC),vs=[.ref p]/\o5 C H p ad l rs/\iB rs/\∀ b H',H b=none->aB H H'->H' b=some (.lst (nF rs))->Q (.ref b) H'
def Im(C:Nat->Addr):Sp:=fun vs H Q _=>∃ (p:Addr) (ad:Str) (l:Addr) (rs:List bC) (z:Str),vs=[.ref p,.str z]/\o5 C H p ad l rs/\iB rs/\Pur (sS rs z) H Q
def Ij(C:Nat->Addr):Sp:=fun vs H Q _=>∃ (p:Addr) (ad:Str) (l:Addr) (rs:List bC),vs=[.ref p]/\o5 C H p ad l rs/\iB rs/\ad.length<=36/\Pur (.str (nG ad rs)) H Q
inductive Oc where
 | text (i:Nat)
 | many (i:Nat)
 | twice (i:Nat)
 | part (rs:List bC)
inductive Scan:List Str->Nat->List bC->Oc->Prop where
 | nil {i:Nat}{rs:List bC}:Scan [] i rs (.part rs)
 | text {l:Str} {t:List Str} {i:Nat} {rs:List bC} (h:¬RdR (Txt.split l (" " : Str))):Scan (l::t) i rs (.text i)
 | many {l:Str} {t:List Str} {i:Nat} {rs:List bC} (h:RdR (Txt.split l (" " : Str))) (hi:12<i):Scan (l::t) i rs (.many i)
 | twice {l:Str} {t:List Str} {i:Nat} {rs:List bC} {r:bC} (g:GoodR r) (h:Txt.split l (" " : Str)=fP r) (hi:i<=12) (hn:r.nm ≠ "") (hm:r.nm∈rs.map (·.nm)):Scan (l::t) i rs (.twice i)
 | next {l:Str} {t:List Str} {i:Nat} {rs:List bC} {r:bC} {o:Oc} (g:GoodR r) (h:Txt.split l (" " : Str)=fP r) (hi:i<=12) (hm:r.nm = "" \/ r.nm∉rs.map (·.nm)) (s:Scan t (i+1) (rs++[r]) o):Scan (l::t) i rs o
theorem zg{r s:bC}(g:GoodR r)(h:GoodR s)(e:fP s=fP r):s.nm=r.nm:=by
 have e0:s.so=r.so:=yK h.so g.so (Option.some.inj ((qN h).symm.trans ((congrArg List.head? e).trans (qN g))))
 obtain⟨so,nn,aa,ww,tt⟩:=r
 obtain⟨so2,nn2,aa2,ww2,tt2⟩:=s
 obtain rfl:so2=so:=e0
 rcases six (show so2<=5 from g.so)with rfl|rfl|rfl|rfl|rfl|rfl
 ·have e:("let" : Str)::nn2 :: "be" :: wordsOf tt2=("let" : Str)::nn :: "be" :: wordsOf tt:=e
  injection e with _ e;injection e with e1 e
 ·have e:("deed" : Str)::nn2 :: "be" :: wordsOf tt2=("deed" : Str)::nn :: "be" :: wordsOf tt:=e
  injection e with _ e;injection e with e1 e
 ·have e:[("draw" : Str),aa2, "as",nn2]=[("draw" : Str),aa, "as",nn]:=e
  injection e with _ e;injection e with e1 e;injection e with _ e;injection e with e2 e
 ·have e:[("late" : Str),aa2, "as",nn2]=[("late" : Str),aa, "as",nn]:=e
  injection e with _ e;injection e with e1 e;injection e with _ e;injection e with e2 e
 ·have e:[("take" : Str),ww2, "from",aa2, "as",nn2]=[("take" : Str),ww, "from",aa, "as",nn]:=e
  injection e with _ e;injection e with e1 e;injection e with _ e;injection e with e2 e;injection e with _ e;injection e with e3 e
 ·exact(h.no rfl).trans (g.no rfl).symm
def hdB(ws:List Str):Bool:=decide (ws.length=2)&&(decide (wAt ws 0 = "part")&&cW 3 (wAt ws 1))
def XtD(D:Addr)(i:Int)(H:Hp)(E:XK):Prop:=∀ x p H',aB H H'->H x=none->H' x=some (ExO false x D (some p))->H' p=some (XdO p [("at",.int i)])->E (.ref x) none H'
def Ez(C:Nat->Addr):Sp:=fun vs H Q E=>∃ z:Str,vs=[.str z]/\z.length<=6000/\(hdB (Txt.split z (" " : Str))=true->Pur (.str (wAt (Txt.split z (" " : Str)) 1)) H Q)/\(hdB (Txt.split z (" " : Str))=false->Xt C 0 H E)
theorem xT{rs:List bC}{v:V}(h:v∈nF rs):∃ r∈rs,v=.str r.nm/\r.nm ≠ "" := by
 obtain⟨h1,h2⟩:=mem_filter.mp h
 obtain⟨r,hr,rfl⟩:=mem_map.mp h1
 refine⟨r,hr,rfl,fun e=>?_⟩
 rw[e]at h2
 exact absurd h2 Ze
theorem pY(rs:List bC):(nF rs).all lX=true:=by
 rw[all_eq_true]
 intro v hv
 obtain⟨r,_,rfl,_⟩:=xT hv
 rfl
theorem RT{x:Str}{xs:List V}(h:∀ v∈xs,∃ z,v=.str z/\z≠x):inV (.str x) xs=false:=by
 unfold inV
 rw[any_eq_false]
 intro v hv k
 obtain⟨z,rfl,hz⟩:=h v hv
 exact hz (by simpa [eqV] using k)
theorem J5{rs:List bC}{x:Str}(h:x = "" \/ x∉rs.map (·.nm)):inV (.str x) (nF rs)=false:=RT fun v hv=>by
 obtain⟨q,hq,rfl,hn⟩:=xT hv
 refine⟨_,rfl,fun e=>?_⟩
 rcases h with h|h
 ·exact hn (e.trans h)
 ·exact h (mem_map.mpr ⟨q,hq,e⟩)
theorem JC{rs:List bC}{x:Str}(hn:x ≠ "")(h:x∈rs.map (·.nm)):inV (.str x) (nF rs)=true:=by
 obtain⟨q,hq,rfl⟩:=mem_map.mp h
 refine Kh (mem_filter.mpr ⟨mem_map.mpr ⟨q,hq,rfl⟩,?_⟩)
 unfold isE
 rw[decide_eq_false fun z=>hn (V.str.inj z)];rfl
theorem Dc {K:Frag} {H:Hp} {n:Nat} {v:V} (h:lX v = true):DEq K H n v v:=by
 cases v with
 | non=>exact .non
 | bl b=>exact .bl b
 | int i=>exact .int i
 | str x=>exact .str x
 | _=>cases h
theorem JF{K:Frag}{H:Hp}{a b:Addr}{rs:List bC}(ha:H a=some (.lst (nF rs)))(hb:H b=some (.lst (nF rs))):DSq K H a b :=
 ⟨0,_,_,Za,rfl,.inr ⟨SqL.of ha,SqL.of hb⟩,fun i x y ex ey=>by rw[ex]at ey;cases ey;exact Dc (all_eq_true.mp (pY rs) x (mem_of_getElem? ex))⟩
theorem G5{K:Frag}:∀ {t:Value} {cs:List Value},(∀ c∈cs,kitOne K t c=some false)->kitAny K t cs=some false
 | _,[],_=>rfl
 | t,c::cs,h=>by
  unfold kitAny
  rw[h c mem_cons_self]
  exact G5 fun d hd=>h d (mem_cons_of_mem _ hd)
structure Fy(K:Frag)(C:Nat->Addr)(d:Nat):Prop where
 x:rW K (C d)
 a:dq K (C d) "at"
 s:Sub K (C d) (C 20)
 k:∀ j,20<=j->j<=33->kitOne K (.ref (C d)) (.ref (C j))=some (decide (j=d\/j=20))
 v:kitOne K (.ref (C d)) (.type "ValueError")=some true
theorem Ha.one{K:Frag}{C:Nat->Addr}(F:Ha K C):Fy K C 22:=⟨F.x,F.a,F.s22,F.k,F.v⟩
theorem XtD.go{C:Nat->Addr}{d:Nat}{i:Int}{H H1:Hp}{E:XK}{x p:Addr}(h:XtD (C d) i H E)(s:aB H H1)(hx:H1 x=none)(hp:upd H1 x (ExO true x (C d) none) p=none)(hne:p≠x) :
  E (.ref x) none (upd (upd (upd (upd H1 x (ExO true x (C d) none)) p (XdO p [("at",.int i)])) x (ExO true x (C d) (some p))) x (ExO false x (C d) (some p))):=by
 have hp1:H1 p=none:=by rw[aQ hne]at hp;exact hp
 refine h x p _ (fun b o e=>?_) (s.free hx) ak (by rw[aQ hne,aQ hne];exact ak)
 have e1:=s b o e
 have nx:=aK e1 hx
 have np:=aK e1 hp1
 rw[aQ nx,aQ nx,aQ np,aQ nx]
 exact e1
def three(d:Nat):Prop:=d=22\/d=31\/d=33
def dW(d:Nat):Str:=if d=22 then "text" else if d=31 then "many" else "twice"
def Ek(C:Nat->Addr):Sp:=fun vs H Q _=>∃ (x p:Addr) (d:Nat) (i:Int),vs=[.ref x]/\three d/\H x=some (ExO false x (C d) (some p))/\H p=some (XdO p [("at",.int i)])/\∀ q H',aB H H'->H' q=some (.tup [.str (dW d),.int i])->Q (.ref q) H'
def ocW:Oc->Str
 | .text _ => "text"
 | .many _ => "many"
 | .twice _ => "twice"
 | .part _ => "part"
def ocI:Oc->Nat
 | .text i=>i
 | .many i=>i
 | .twice i=>i
 | .part _=>0
def uz(ls:List Str):List Str:=Txt.split (wAt ls 0) (" " : Str)
def Hg(ls:List Str)(o:Oc):Prop:=(hdB (uz ls)=false/\o=.text 0)\/(hdB (uz ls)=true/\Scan (ls.drop 1) 1 [] o)
structure sW(ls:List Str):Prop where
 ne:ls≠[]
 hi:ls.length<=2000000
 le:∀ y∈ls,y.length<=6000
def OcQ(C:Nat->Addr)(ad:Str)(o:Oc)(H:Hp)(Q:VK)(E:XK):Prop:=match o with
 | .text i=>XtD (C 22) (i:Nat) H E
 | .many i=>XtD (C 31) (i:Nat) H E
 | .twice i=>XtD (C 33) (i:Nat) H E
 | .part rs=>∀ p l H',aB H H'->H p=none->o5 C H' p ad l rs->Q (.ref p) H'
def v7(K:Frag)(C:Nat->Addr):Sp:=fun vs H Q E=>∃ (z:Str) (ls:List Str) (o:Oc),vs=[.str z]/\z.length<=1000000/\ls=Txt.split z ("\n" : Str)/\sW ls/\Hg ls o/\OcQ C (wAt (uz ls) 1) o H Q E
def Dh(K:Frag):Sp:=fun vs H Q _=>∃ (z:Str) (ls:List Str) (o:Oc),vs=[.str z]/\z.length<=1000000/\ls=Txt.split z ("\n" : Str)/\sW ls/\Hg ls o/\∀ q H',aB H H'->H' q=some (.tup [.str (ocW o),.int (ocI o)])->Q (.ref q) H'
def yJ:Sp:=fun vs H Q _=>∃ c:Int,vs=[.int c,.int 13]/\∀ l H' (zs:List Str),aB H H'->zs.length=13->(∀ z∈zs,cX z)->H' l=some (.lst (zs.map V.str))->Q (.ref l) H'
theorem thirteen{bs:List Int}{m one two:Nat}(h:sr bs)(hm:m<=bs.length)(h1:one<m)(hne:two≠one){zs:List Str}(hz:∀ j:Nat,j<13->nj (pL bs m one two (0+(j:Int)))∈zs):13<=zs.length:=by
 have key:∀ n:Int,(pL bs m one two n)[one]? = some ((bs.getD one 0+n)%26):=fun n=>by
  unfold pL
  rw[List.getElem?_set_ne hne,getElem?_set_self (by rw[length_take];omega)]
 have nd:((List.range 13).map fun j:Nat=>nj (pL bs m one two (0+(j:Int)))).Nodup:=by
  refine List.pairwise_map.mpr (List.Pairwise.imp_of_mem (fun{a b} ha hb hlt e=>?_) List.pairwise_lt_range)
  have:=Tc e (Bt h _ _ _ _) (Bt h _ _ _ _) (key _) (key _)
  have:=mem_range.mp ha
  have:=mem_range.mp hb
  omega
 have:=yO _ zs nd fun x hx=>by
  obtain⟨j,hj,rfl⟩:=mem_map.mp hx
  exact hz j (mem_range.mp hj)
 rwa [length_map,length_range]at this
def HJ:List Str:=["lets", "bed", "ask", "drawn", "latex", "taken", "froma", "needs", "deeds", "party"]
theorem Nf:∀ z∈HJ,cX z:=fun z hz=>by
 simp only[HJ,mem_cons,not_mem_nil,or_false]at hz
 rcases hz with rfl|rfl|rfl|rfl|rfl|rfl|rfl|rfl|rfl|rfl
 all_goals exact oG.mp Ze
def Dq(K:Frag):Sp:=fun vs H Q _=>∃ (a:Addr) (ns:List Int) (k:Nat) (nl:Addr) (zs:List Str),vs=[.ref a,.int (k:Int),.ref nl]/\SqL K H a (ns.map V.int)/\H nl=some (.lst (zs.map V.str))/\zs.length=13/\(∀ z∈zs,cX z)/\∀ (y:Str) H',y.length<=5900->aB H H'->Q (.str y) H'
def lq(H:Hp)(b:Addr)(rs:List bC):Prop:=∃ xs:List V,H b=some (.lst xs)/\xs.length=rs.length/\∀ (i:Nat) r,rs[i]? = some r->∃ v lt,xs[i]? = some v/\lA H v lt r
theorem lq.same{H H':Hp}{b:Addr}{rs:List bC}(h:lq H b rs)(s:aB H H'):lq H' b rs:=by
 obtain⟨xs,hb,hl,hx⟩:=h
 refine⟨xs,s _ _ hb,hl,fun i r e=>?_⟩
 obtain⟨v,lt,e2,t⟩:=hx i r e
 exact⟨v,lt,e2,t.same s⟩
def GP:Sp:=fun vs H Q _=>∃ (l:Addr) (ls:List Str),vs=[.ref l]/\H l=some (.lst (ls.map V.str))/\sW ls/\∀ (o:Oc) (p q b:Addr) H',aB H H'->Hg ls o->H' p=some (.tup [.ref q,.ref b])->H' q=some (.tup [.str (ocW o),.int (ocI o)])->(∀ rs,o=.part rs->lq H' b rs)->Q (.ref p) H'
def Apart(rs:List bC):Prop:=∀ (i j:Nat) r q,rs[i]? = some r->rs[j]? = some q->r.nm=q.nm->r.nm ≠ "" -> i=j
def yU(C:Nat->Addr):Sp:=fun vs H Q _=>∃ (p:Addr) (ad:Str) (l b:Addr) (rs:List bC),vs=[.ref p,.str ad,.ref b,.str (nG ad rs)]/\o5 C H p ad l rs/\lq H b rs/\iB rs/\ad.length<=36/\Apart rs/\Pur (.bl true) H Q
theorem O7{l:Str}{r:bC}(g:GoodR r)(h:Txt.split l (" " : Str)=fP r):l=bO r:=by
 rw[JN g,<- h,blank_eq,StrLaws.join_split]
theorem Gu {rs:List bC} {r:bC} (h:Apart rs) (k:r.nm = "" \/ r.nm ∉ rs.map (·.nm)):Apart (rs ++ [r]):=by
 have at_:∀ {i:Nat} {q:bC},(rs ++ [r])[i]? = some q -> (i < rs.length /\ rs[i]? = some q) \/ (i = rs.length /\ q = r):=fun {i q} e=>by
  rcases lt_or_ge i rs.length with z | z
  ·rw [getElem?_append_left z] at e; exact .inl ⟨z,e⟩
  ·have hl:=(List.getElem?_eq_some_iff.mp e).1
   rw [length_append,List.length_singleton] at hl
   have:i = rs.length:=by omega
   subst this
   rw [getElem?_append_right (le_refl _),sub_self] at e
   exact .inr ⟨rfl,(Option.some.inj e).symm⟩
 intro i j a b ea eb e ne
 rcases at_ ea with ⟨hi,ea'⟩ | ⟨hi,hr⟩ <;> rcases at_ eb with ⟨hj,eb'⟩ | ⟨hj,hs⟩
 ·exact h i j a b ea' eb' e ne
 ·rcases k with k | k
  ·exact absurd (e.trans ((congrArg _ hs).trans k)) ne
  ·exact absurd (mem_map.mpr ⟨a,mem_of_getElem? ea',e.trans (congrArg _ hs)⟩) k
 ·rcases k with k | k
  ·exact absurd ((congrArg _ hr).trans k) ne
  ·exact absurd (mem_map.mpr ⟨b,mem_of_getElem? eb',e.symm.trans (congrArg _ hr)⟩) k
 ·rw [hi,hj]
theorem Ja{ls:List Str}{i:Nat}{rs:List bC}{o:Oc}(s:Scan ls i rs o):∀ {qs:List bC},o=.part qs->Apart rs->(∀ r∈rs,GoodR r)->rs.length+1=i->rs.length<=12->Apart qs/\iB qs/\qs.map bO=rs.map bO++ls:=by
 induction s with
 | nil=>intro qs e a g _ h;cases e;exact⟨a,⟨h,g⟩,(append_nil _).symm⟩
 | text=>intro qs e;cases e
 | many=>intro qs e;cases e
 | twice=>intro qs e;cases e
 | next g h hi hm s ih =>
  intro qs e a gs hl h12
  obtain⟨z1,z2,z3⟩:=ih e (Gu a hm) (fun x hx=>by
   rcases mem_append.mp hx with k|k
   ·exact gs x k
   ·rw[mem_singleton.mp k];exact g) (by rw[length_append];show _+1+1=_;omega) (by rw[length_append];show _+1<=_;omega)
  refine⟨z1,z2,?_⟩
  rw[z3,map_append,append_assoc,O7 g h];rfl
theorem IK:Apart []:=fun i j r q e=>by cases e
theorem K9{ls:List Str}(h:hdB (uz ls)=true):∃ ys,mj ys/\wAt (uz ls) 1=dotted ys/\wAt ls 0 = "part " ++ dotted ys:=by
 unfold hdB at h
 simp only[and_eq_true,decide_eq_true_eq]at h
 obtain⟨h2,h0,h1⟩:=h
 obtain⟨ys,g,e⟩:=Ru h1
 refine⟨ys,g,e,?_⟩
 rw[JH,<- e,<- StrLaws.join_split (wAt ls 0) (" " : Str),<- blank_eq]
 have e2:uz ls=[("part" : Str),wAt (uz ls) 1]:=by
  generalize uz ls=ws at h2 h0
  match ws,h2,h0 with
  | [a,b],_,h0=>rw[show a = "part" from h0];rfl
 exact congrArg (Str.join (" " : Str)) e2
theorem yP(c:Nat){V W:List (List Nat)}(hv:V≠[])(hw:W≠[]):inter c (V++W)=inter c V++c::inter c W:=by
 induction V with
 | nil=>exact absurd rfl hv
 | cons x r ih =>
  by_cases k:r=[]
  ·subst k;exact bu c x hw
  ·rw[cons_append,bu c x (by simp[k]),ih k,bu c x k,append_assoc,cons_append]
theorem De(c:Nat){ys:List Str}(h:ys≠[]):inter c ((ys.flatMap fun y=>Txt.split y ⟨#[c]⟩).map (·.cps.toList))=inter c (ys.map (·.cps.toList)):=by
 induction ys with
 | nil=>exact absurd rfl h
 | cons y r ih =>
  have e1:inter c ((Txt.split y ⟨#[c]⟩).map (·.cps.toList))=y.cps.toList:=by rw[<- bD,StrLaws.join_split]
  by_cases k:r=[]
  ·subst k
   rw[flatMap_cons,List.flatMap_nil,append_nil,e1];rfl
  ·have nf:∀ {zs:List Str},zs≠[]->((zs.flatMap fun y=>Txt.split y ⟨#[c]⟩).map (·.cps.toList))≠[]:=fun{zs} hz e=>by
    obtain⟨a,t,rfl⟩:=exists_cons_of_ne_nil hz
    rw[map_eq_nil_iff,flatMap_cons,List.append_eq_nil_iff]at e
    exact dR _ _ e.1
   rw[flatMap_cons,map_append,yP c (by simpa using dR y ⟨#[c]⟩) (nf k),e1,ih k,map_cons,bu c _ (by simpa using k)]
theorem uZ{ys:List Str}(h:ys≠[]):Txt.split (Txt.join ("\n" : Str) ys) ("\n" : Str)=ys.flatMap fun y=>Txt.split y ("\n" : Str):=by
 rw[qy,tG]
 have e:Str.join ⟨#[10]⟩ ys=Str.join ⟨#[10]⟩ (ys.flatMap fun y=>Txt.split y ⟨#[10]⟩):=cO (by rw[bD,bD,De 10 h])
 rw[e]
 refine gk 10 _ (fun z=>?_) fun y hy=>?_
 ·obtain⟨a,t,rfl⟩:=exists_cons_of_ne_nil h
  rw[flatMap_cons,List.append_eq_nil_iff]at z
  exact dR _ _ z.1
 ·obtain⟨x,_,hx⟩:=List.mem_flatMap.mp hy
  exact StrLaws.split_free x 10 y hx
theorem O4{h ad:Str}{rest:List Str}(e:Txt.split h ("\n" : Str)=("part " ++ ad)::rest)(f1:32∉ad.cps.toList)(f2:10∉ad.cps.toList):∃ w,(Txt.split h (" " : Str))[1]? = some w/\(Txt.split w ("\n" : Str))[0]? = some ad:=by
 have pf:32∉(("part" : Str)).cps.toList:=by decide +kernel
 have eh:h=Str.join ⟨#[10]⟩ (("part " ++ ad)::rest):=by rw[<- e,tG,StrLaws.join_split]
 rw[blank_eq]
 by_cases k:rest=[]
 ·subst k
  have e1:h=Str.join ⟨#[32]⟩ [("part" : Str),ad]:=by
   rw[eh]
   apply cO
   rw[bD,bD,map_cons,map_nil,gF,map_cons,map_cons,map_nil,bu 32 _ Zc,gF,bG,Ce]
   simp only[append_assoc,cons_append,nil_append]
  rw[e1,gk 32 _ Zc fun y hy=>by
   simp only[mem_cons,not_mem_nil,or_false]at hy
   rcases hy with rfl|rfl
   ·exact pf
   ·exact f1]
  refine⟨ad,rfl,?_⟩
  have e2:ad=Str.join ⟨#[10]⟩ [ad]:=cO (by rw[bD];rfl)
  rw[tG]
  have:=gk 10 [ad] Zc fun y hy=>by rw[mem_singleton.mp hy];exact f2
  rw[<- e2]at this
  rw[this];rfl
 ·obtain⟨u,us,eu⟩:=exists_cons_of_ne_nil (dR (Str.join ⟨#[10]⟩ rest) ⟨#[32]⟩)
  have er:Str.join ⟨#[10]⟩ rest=Str.join ⟨#[32]⟩ (u::us):=by rw[<- eu,StrLaws.join_split]
  have fu:∀ y∈u::us,32∉y.cps.toList:=fun y hy=>StrLaws.split_free _ 32 y (by rw[eu];exact hy)
  have e1:h=Str.join ⟨#[32]⟩ (("part" : Str)::(ad ++ "\n" ++ u)::us):=by
   rw[eh]
   have er':=congrArg (fun z:Str=>z.cps.toList) er
   simp only[bD]at er'
   apply cO
   have R:inter 32 ((("part" : Str)::(ad ++ "\n" ++ u)::us).map (·.cps.toList))=(("part" : Str)).cps.toList++32::inter 32 (((ad ++ "\n" ++ u)::us).map (·.cps.toList)):=bu 32 _ Zc
   rw[bD,bD,R,map_cons,bu 10 _ (by simpa using k),er',bG,Ce,map_cons,map_cons]
   have n1:(("\n" : Str)).cps.toList=[10]:=by decide +kernel
   by_cases ku:us=[]
   ·subst ku
    rw[map_nil,gF,gF,bG,bG,n1]
    simp only[append_assoc,cons_append,nil_append]
   ·rw[bu 32 _ (by simpa using ku),bu 32 _ (by simpa using ku),bG,bG,n1]
    simp only[append_assoc,cons_append,nil_append]
  have n1:(("\n" : Str)).cps.toList=[10]:=by decide +kernel
  rw[e1,gk 32 _ Zc fun y hy=>by
   rcases mem_cons.mp hy with rfl|hy
   ·exact pf
   ·rcases mem_cons.mp hy with rfl|hy
    ·rw[bG,bG,n1]
     simp only[mem_append,mem_singleton,not_or]
     exact⟨⟨f1,Za⟩,fu u mem_cons_self⟩
    ·exact fu y (mem_cons_of_mem _ hy)]
  refine⟨_,rfl,?_⟩
  rw[tG]
  have e2:(ad++⟨#[10]⟩++u:Str)=Str.join ⟨#[10]⟩ (ad::Txt.split u ⟨#[10]⟩):=by
   apply cO
   rw[bD,map_cons,bu 10 _ (by simpa using dR u ⟨#[10]⟩),<- bD,StrLaws.join_split,bG,bG]
   simp only[append_assoc,cons_append,nil_append]
  rw[e2,gk 10 _ Zc fun y hy=>by
   rcases mem_cons.mp hy with rfl|hy
   ·exact f2
   ·exact StrLaws.split_free _ 10 y hy]
  rfl
theorem XtD.on{D:Addr}{i:Int}{H H1:Hp}{E:XK}(h:XtD D i H E)(s:aB H H1):XtD D i H1 E:=fun x p H' s' hx e ep=>h x p H' (s.trans s') (s.free hx) e ep
theorem Scan.inv {l:Str} {t:List Str} {i:Nat} {rs:List bC} {o:Oc} (s:Scan (l :: t) i rs o):(¬ RdR (Txt.split l (" " : Str)) /\ o = .text i) \/ (RdR (Txt.split l (" " : Str)) /\ 12 < i /\ o = .many i) \/
  (∃ r,GoodR r /\ Txt.split l (" " : Str) = fP r /\ i <= 12 /\ r.nm ≠ "" /\ r.nm ∈ rs.map (·.nm) /\ o = .twice i) \/ (∃ r,GoodR r /\ Txt.split l (" " : Str) = fP r /\ i <= 12 /\ (r.nm = "" \/ r.nm ∉ rs.map (·.nm)) /\ Scan t (i + 1) (rs ++ [r]) o):=by
 cases s with
 | text h=>exact .inl ⟨h,rfl⟩
 | many h hi=>exact .inr (.inl ⟨h,hi,rfl⟩)
 | twice g h hi hn hm=>exact .inr (.inr (.inl ⟨_,g,h,hi,hn,hm,rfl⟩))
 | next g h hi hm s=>exact .inr (.inr (.inr ⟨_,g,h,hi,hm,s⟩))
theorem Mv{i:Nat}{rs:List bC}{o:Oc}(s:Scan [] i rs o):o=.part rs:=by cases s;rfl
theorem Ry{n:Nat}(h:n<=1000):n.log2<1920:=by
 refine Nat.lt_of_le_of_lt (Nat.log2_le_self n) Zb
def flg(d:Nat):List Bool:=[decide (22=d\/22=20),decide (31=d\/31=20),decide (33=d\/33=20)]
theorem Te{d:Nat}(h:three d):∃ j:Nat,(flg d).count true=1/\(flg d)[j]? = some true/\(∀ m,m<j->(flg d)[m]? = some false)/\atI [V.str "text",V.str "many",V.str "twice"] (j:Int)=some (.str (dW d)):=by
 rcases h with rfl|rfl|rfl
 ·exact⟨0,Za,Za,fun m hm=>absurd hm (Nat.not_lt_zero _),rfl⟩
 ·exact⟨1,Za,Za,fun m hm=>by obtain rfl:m=0:=Zb;decide,rfl⟩
 ·exact⟨2,Za,Za,fun m hm=>by rcases(by omega:m=0\/m=1)with rfl|rfl <;> decide,rfl⟩
theorem Nz{K:Frag}{C:Nat->Addr}{d:Nat}(xo:Fy K C d)(h:three d):kitAny K (.ref (C d)) ([C 23,C 24,C 25,C 26,C 21,C 27,C 28,C 29,C 30,C 32].map Value.ref)=some false:=by
 refine G5 fun c hc=>?_
 have e:([C 23,C 24,C 25,C 26,C 21,C 27,C 28,C 29,C 30,C 32].map Value.ref)=([23,24,25,26,21,27,28,29,30,32]:List Nat).map fun j=>Value.ref (C j):=rfl
 rw[e]at hc
 obtain⟨j,hj,rfl⟩:=mem_map.mp hc
 have k:∀ j∈([23,24,25,26,21,27,28,29,30,32]:List Nat),20<=j/\j<=33/\j≠22/\j≠31/\j≠33/\j≠20:=by decide
 obtain⟨k1,k2,k3,k4,k5,k6⟩:=k j hj
 rw[xo.k j k1 k2,decide_eq_false]
 rcases h with rfl|rfl|rfl <;> omega
theorem Kq{A B:Type}{P T:A->B->Prop}{G:Prop}(h:(∀ a b,P a b->T a b)->G)(k:∀ a b,P a b->T a b):G:=h k
theorem Ju{H H2:Hp}{Q:VK}{w:Str}{i:Int}(s:aB H H2)(k:∀ (p t b:Addr) H',aB H H'->H' p=some (.tup [.ref t,.ref b])->H' t=some (.tup [.str w,.int i])->Q (.ref p) H'){t b p:Addr}(ht:H2 t=none)(hb:upd H2 t (.tup [.str w,.int i]) b=none)(hp:upd (upd H2 t (.tup [.str w,.int i])) b (.lst []) p=none):Q (.ref p) (upd (upd (upd H2 t (.tup [.str w,.int i])) b (.lst [])) p (.tup [.ref t,.ref b])) :=
 k p t b _ (((s.put ht).put hb).put hp) ak ((aB.new hp) _ _ ((aB.new hb) _ _ ak))
theorem QD{H:Hp}{b lt:Addr}{rs:List bC}{ts:List Trm}(hb:lq H b rs)(t:dw H lt ts)(ne:ts≠[]):lt≠b:=by
 rintro rfl
 obtain⟨xs,hx,hl,he⟩:=hb
 obtain⟨ys,hy,hn,ht⟩:=t
 rw[hx]at hy
 cases hy
 have h0:0<rs.length:=by rw[<- hl,hn];exact length_pos_iff.mpr ne
 obtain⟨v,l2,e,p,aa,ww,rfl,hp,_⟩:=he 0 _ (getElem?_eq_getElem h0)
 obtain⟨t,_,p2,y,e2,hp2,_⟩:=ht 0 _ e
 cases e2
 rw[hp]at hp2
 cases hp2
theorem lA.upd{H:Hp}{b lt:Addr}{v:V}{r:bC}{xs:List V}{o:HO}(h:lA H v lt r)(hb:H b=some (.lst xs))(hne:r.so=0\/r.so=1\/r.so=5->lt≠b):lA (upd H b o) v lt r:=by
 obtain⟨p,aa,ww,e,hp,h1,h2,t⟩:=h
 exact⟨p,aa,ww,e,by rw[aQ (qi hp hb Zh)];exact hp,h1,h2,fun k=>(t k).upd hb (hne k)⟩
theorem lq.snoc{H:Hp}{b lt:Addr}{xs:List V}{rs:List bC}{v:V}{r:bC}(h:lq H b rs)(hb:H b=some (.lst xs))(g:∀ r∈rs,GoodR r)(gr:GoodR r)(t:lA H v lt r):lq (upd H b (.lst (xs++[v]))) b (rs++[r]):=by
 have key:∀ {v lt r},GoodR r->lA H v lt r->lA (upd H b (.lst (xs++[v]))) v lt r:=fun gr t=>t.upd hb fun k=>by
  obtain⟨_,_,_,_,_,_,_,tt⟩:=id t
  exact QD h (tt k) gr.ts.lo
 have h':=h
 obtain⟨ys,hy,hl,he⟩:=h'
 rw[hb]at hy
 cases hy
 refine⟨_,ak,by rw[length_append,length_append,hl];rfl,fun i q e=>?_⟩
 rcases lt_or_ge i rs.length with k|k
 ·rw[getElem?_append_left k]at e
  obtain⟨v2,l2,e2,t2⟩:=he i q e
  refine⟨v2,l2,by rw[getElem?_append_left Zb];exact e2,t2.upd hb fun k=>?_⟩
  obtain⟨_,_,_,_,_,_,_,tt⟩:=id t2
  exact QD h (tt k) (g q (mem_of_getElem? e)).ts.lo
 ·have hi:=(List.getElem?_eq_some_iff.mp e).1
  rw[length_append,List.length_singleton]at hi
  obtain rfl:i=rs.length:=by omega
  rw[getElem?_append_right (le_refl _),sub_self]at e
  cases e
  exact⟨v,lt,by rw[getElem?_append_right Zb,hl,sub_self];rfl,key gr t⟩
theorem SQ{A:Type}{P T:A->Prop}{G:Prop}(h:(∀ a,P a->T a)->G)(k:∀ a,P a->T a):G:=h k
theorem Jj(ws:List Str):(List.range ws.length).map (fun i=>V.str (wAt ws i))=ws.map V.str:=by
 refine ext_getElem Zc fun i h1 h2=>?_
 rw[List.getElem_map,List.getElem_map,List.getElem_range]
 unfold wAt
 rw[getElem?_eq_getElem (by simpa using h2)];rfl
theorem Qo{rs:List bC}{i:Nat}(hi:i<rs.length):(rs.map fun r=>V.str r.nm).getD i .non=V.str rs[i].nm:=by simp[List.getD,hi]
theorem Gg{rs:List bC}{n:Nat}(hn:n=rs.length):((List.range n).filter fun i=>isE ((rs.map fun r=>V.str r.nm).getD i .non)).map (fun i=>(rs.map fun r=>V.str r.nm).getD i .non)=nF rs:=by
 have em:(List.range n).map (fun i=>(rs.map fun r=>V.str r.nm).getD i .non)=rs.map fun r=>V.str r.nm:=by
  apply ext_getElem
  ·simp[hn]
  ·intro i h1 h2
   have:i<rs.length:=by simpa using h2
   simp[this]
 have e2:nF rs=((List.range n).map (fun i=>(rs.map fun r=>V.str r.nm).getD i .non)).filter isE:=by unfold nF;rw[em]
 rw[e2,List.filter_map]
 rfl
theorem Ke{H H':Hp}{ts:List V}{rs:List bC}(h:∀ (i:Nat) r,rs[i]? = some r->∃ v t,ts[i]? = some v/\lA H v t r)(hn:ts.length=rs.length){i:Nat}{x:V}(hx:ts[i]? = some x)(s:aB H H') :
  ∃ (pp:Addr) (zs:List V) (hi:i<rs.length),x=.ref pp/\H' pp=some (.tup (.str (cu rs[i].so)::.str rs[i].nm::zs)):=by
 have hi:i<rs.length:=by rw[<- hn];exact(List.getElem?_eq_some_iff.mp hx).1
 obtain⟨v,t,e,p,aa,ww,rfl,hp,_⟩:=h i _ (getElem?_eq_getElem hi)
 rw[hx]at e
 cases e
 exact⟨p,_,hi,rfl,s _ _ hp⟩
theorem HN{K:Frag}{H:Hp}{a b:Addr}{xs:List V}(ha:H a=some (.tup xs))(hb:H b=some (.tup xs))(h:xs.all lX=true):DSq K H a b :=
 ⟨0,_,_,Za,rfl,.inl ⟨SqT.of ha,SqT.of hb⟩,fun i x y ex ey=>by rw[ex]at ey;cases ey;exact Dc (all_eq_true.mp h x (mem_of_getElem? ex))⟩
theorem NP(k:Bool):MulOk "\n" (if k=true then 1 else 0):=by
 cases k
 ·exact(Jp Ze Za Za).1
 ·exact(Jp Ze Za Za).1
theorem O9 (k:Bool) {ys:List Str} (h:ys ≠ []):∃ L:List Str,Txt.join ("\n" : Str) ys ++ Txt.mul "\n" (if k = true then 1 else 0) = Txt.join ("\n" : Str) L /\ L.head? = ys.head? /\ L ≠ [] /\ L.length <= ys.length + 1 /\ ∀ y ∈ L,y ∈ ys \/ y = "" := by
 cases k with
 | false =>
  refine ⟨ys,?_,rfl,h,Zb,fun y hy=>.inl hy⟩
  apply cO
  rw [bG,show (Txt.mul "\n" (if false = true then (1:Int) else 0)).cps.toList = [] by decide +kernel,append_nil]
 | true =>
  refine ⟨ys ++ [("" : Str)],?_,?_,Zc,by rw [length_append]; exact le_refl _,fun y hy=>?_⟩
  ·apply cO
   rw [bG,show (Txt.mul "\n" (if true = true then (1:Int) else 0)).cps.toList = [10] by decide +kernel,qy,qy,bD,bD,map_append,yP 10 (by simpa using h) Zc]
   rfl
  ·obtain ⟨a,t,rfl⟩:=exists_cons_of_ne_nil h; rfl
  ·rcases mem_append.mp hy with z | z
   ·exact .inl z
   ·exact .inr (mem_singleton.mp z)
theorem Hb{ys:List Str}(h:ys≠[]):(Txt.join ("\n" : Str) ys).length+1=(ys.map (·.length)).sum+ys.length:=by
 rw[qy,bZ,bD,sG 10 (by simpa using h),map_map,length_map]
 have e:ys.map (List.length∘fun x:Str=>x.cps.toList)=ys.map (·.length):=List.map_congr_left fun y _=>(bZ y).symm
 rw[e]
theorem GX{ys:List Str}{m:Nat}(h:∀ y∈ys,y.length<=m):(ys.map (·.length)).sum<=ys.length*m:=by
 induction ys with
 | nil=>simp
 | cons y r ih =>
  have h1:=h y mem_cons_self
  have h2:=ih fun z hz=>h z (mem_cons_of_mem _ hz)
  rw[map_cons,sum_cons,length_cons,Nat.add_mul,Nat.one_mul]
  omega
theorem Li{L:List Str}(h:L≠[])(h1:L.length<=100)(h2:∀ y∈L,y.length<=5900):(Txt.join ("\n" : Str) L).length<=1000000/\sW (Txt.split (Txt.join ("\n" : Str) L) ("\n" : Str)):=by
 have k1:=Hb h
 have k2:=GX h2
 have k3:L.length*5900<=100*5900:=Nat.mul_le_mul_right _ h1
 have hz:(Txt.join ("\n" : Str) L).length<=1000000:=by omega
 have hn:=dR (Txt.join ("\n" : Str) L) ("\n" : Str)
 refine⟨hz,hn,?_,fun y hy=>?_⟩
 ·have:=Hb hn
  rw[qy,tG,StrLaws.join_split,<- tG]at this
  omega
 ·rw[uZ h]at hy
  obtain⟨x,hx,hy⟩:=List.mem_flatMap.mp hy
  rw[tG]at hy
  have:=rO hy
  have:=h2 x hx
  omega
theorem vI{xs:List V}(h:∀ (i:Nat) v,xs[i]? = some v->∃ y:Str,v=V.str y/\y.length<=5900):∃ ys:List Str,ys.length=xs.length/\xs=ys.map V.str/\∀ y∈ys,y.length<=5900:=by
 induction xs with
 | nil=>exact⟨[],rfl,rfl,fun y hy=>by cases hy⟩
 | cons x r ih =>
  obtain⟨y,rfl,hy⟩:=h 0 x rfl
  obtain⟨ys,e1,e2,e3⟩:=ih fun i v e=>h (i+1) v e
  refine⟨y::ys,by rw[length_cons,e1];rfl,by rw[e2];rfl,fun z hz=>?_⟩
  rcases mem_cons.mp hz with rfl|hz
  ·exact hy
  ·exact e3 z hz
def tx2:Str:= "part a\nneed 1\nneed"
theorem Qq:Txt.split tx2 ("\n" : Str)=[("part a" : Str), "need 1", "need"]:=by decide +kernel
theorem RP:sW (Txt.split tx2 ("\n" : Str)):=by
 rw[Qq]
 refine⟨Zc,Za,fun y hy=>?_⟩
 have lo:∀ {z:Str},z.length<=20->z.length<=6000:=fun h=>by omega
 simp only[mem_cons,not_mem_nil,or_false]at hy
 rcases hy with rfl|rfl|rfl <;> exact lo Ze
theorem Rt:Hg (Txt.split tx2 ("\n" : Str)) (.text 2):=by
 rw [Qq]
 refine .inr ⟨Ze,?_⟩
 have gt:cD [⟨1,.num 1⟩]:=⟨Zc,Za,fun t ht=>by rw [mem_singleton.mp ht]; exact ⟨.inl rfl,by show 1 < 10 ^ 20; decide⟩,fun t ht=>by cases ht; rfl⟩
 refine .next (Bp gt) Ze Za (.inl rfl) (.text (Pj Ze fun r=>?_))
 have:=(qu r).1
 rw [show Txt.split ("need" : Str) (" " : Str) = [("need" : Str)] by decide +kernel] at this
 cases this
theorem Ud {L:List Str} {h ad:Str} (hL:L.head? = some h) (e:wAt (Txt.split (Txt.join ("\n" : Str) L) ("\n" : Str)) 0 = "part " ++ ad) (f1:32∉ad.cps.toList) (f2:10∉ad.cps.toList):∃ w,(Txt.split h (" " : Str))[1]? = some w/\(Txt.split w ("\n" : Str))[0]? = some ad:=by
 obtain⟨t,rfl⟩:∃ t,L=h::t:=by
  cases L with
  | nil=>cases hL
  | cons a t=>cases hL;exact⟨t,rfl⟩
 rw[uZ Zc,flatMap_cons]at e
 obtain⟨x,xs,ex⟩:=exists_cons_of_ne_nil (dR h ("\n" : Str))
 rw[ex]at e
 exact O4 (ex.trans (by rw[show x = "part " ++ ad from e])) f1 f2
theorem Jx {ls:List Str} {rs:List bC} (hb:hdB (uz ls)=true) (ne:ls≠[]) (s:Scan (ls.drop 1) 1 [] (.part rs)):∃ ys,mj ys/\wAt (uz ls) 1=dotted ys/\wAt ls 0 = "part " ++ dotted ys/\Apart rs/\iB rs/\Txt.join ("\n" : Str) ls=nG (dotted ys) rs:=by
 obtain⟨ys,g,e1,e2⟩:=K9 hb
 obtain⟨a,gr,es⟩:=Ja s rfl IK (fun r hr=>by cases hr) rfl Za
 refine⟨ys,g,e1,e2,a,gr,?_⟩
 unfold nG
 rw[es,<- e2]
 obtain⟨x,t,rfl⟩:=exists_cons_of_ne_nil ne
 rfl
theorem Q3{ys:List Str}(h:mj ys):10∉(dotted ys).cps.toList:=fun k=>by
 rcases oK h.nm k with e|e
 ·cases e
 ·omega
theorem TQ (o:Oc):(∃ rs,o = .part rs) \/ decide (V.str (ocW o) = V.str "part") = false:=by
 have h1:("text" : Str) ≠ "part" := by decide +kernel
 have h2:("many" : Str) ≠ "part" := by decide +kernel
 have h3:("twice" : Str) ≠ "part" := by decide +kernel
 cases o with
 | part rs=>exact .inl ⟨rs,rfl⟩
 | text i=>exact .inr (decide_eq_false fun z=>h1 (V.str.inj z))
 | many i=>exact .inr (decide_eq_false fun z=>h2 (V.str.inj z))
 | twice i=>exact .inr (decide_eq_false fun z=>h3 (V.str.inj z))
theorem Ot:tx2.length<=1000000:=le_trans (show tx2.length<=20 by decide +kernel) Za
end
structure Tx(K:Frag)(mg:MG)(C:Nat->Addr):Prop where
 any:mg "any" = none
 enumerate:mg "enumerate" = none
 len:mg "len" = none
 range:mg "range" = none
 inst:mg "isinstance" = none
 t_str:mg "str" = none
 t_int:mg "int" = none
 t_bool:mg "bool" = none
 t_list:mg "list" = none
 t_tuple:mg "tuple" = none
 all:mg "all" = none
 max:mg "max" = none
 min:mg "min" = none
 zip:mg "zip" = none
 t_ValueError:mg "ValueError" = none
 g_LETTERS:∃ t,mg "LETTERS" = some (.str "abcdefghijklmnopqrstuvwxyz" t)
 g_MOST_LETTERS:∃ t,mg "MOST_LETTERS" = some (.int 8 t)
 g_MOST_NAMES:∃ t,mg "MOST_NAMES" = some (.int 3 t)
 g_FIGURES:∃ t,mg "FIGURES" = some (.str "0123456789" t)
 g_MOST_FIGURES:∃ t,mg "MOST_FIGURES" = some (.int 20 t)
 g_MOST_TERMS:∃ t,mg "MOST_TERMS" = some (.int 6 t)
 g_MOST_STEPS:∃ t,mg "MOST_STEPS" = some (.int 4 t)
 g_MOST_ROWS:∃ t,mg "MOST_ROWS" = some (.int 12 t)
 abj:∃ f fd,FnAt K mg "show_term" lM my f fd
 aaf:∃ f fd,FnAt K mg "show_expr" lK gA f fd
 aad:∃ f fd,FnAt K mg "is_name" qC iI f fd
 aas:∃ f fd,FnAt K mg "are_names" mL jw f fd
 aah:∃ f fd,FnAt K mg "is_address" kj fH f fd
 abw:∃ f fd,FnAt K mg "is_number" lL lV f fd
 aa3:∃ f fd,FnAt K mg "read_path" lJ mz f fd
 aaz:∃ f fd,FnAt K mg "read_term" mU mJ f fd
 abc:∃ f fd,FnAt K mg "read_sign" lY mH f fd
 aa6:∃ f fd,FnAt K mg "read_expr" lN mK f fd
 abn:∃ f fd,FnAt K mg "has_call" pD pG f fd
 aa1:∃ f fd,FnAt K mg "names_expr" jH km f fd
 aa4:∃ f fd,FnAt K mg "names_address" gh fX f fd
 aba:∃ f fd,FnAt K mg "names_word" jX jT f fd
 aaw:∃ f fd,FnAt K mg "terms_from" jO jD f fd
 abb:∃ f fd,FnAt K mg "deed_of" qT qP f fd
 abr:∃ f fd,FnAt K mg "row_of" tL tZ f fd
 abe:∃ f fd,FnAt K mg "row_at" ug uw f fd
 abt:∃ f fd,FnAt K mg "read_head" lF lO f fd
 aao:∃ f fd,FnAt K mg "read_part" lU jo f fd
 aaj:∃ f fd,FnAt K mg "_law_cell" pH wW f fd
 aac:∃ f fd,FnAt K mg "_law_sub" qJ xX f fd
 abq:∃ f fd,FnAt K mg "_law_number" jF uo f fd
 aaa:∃ f fd,FnAt K mg "_law_pick" lw gm f fd
 abx:∃ f fd,FnAt K mg "_law_name" oY Br f fd
 abm:∃ f fd,FnAt K mg "_law_names" lQ vU f fd
 aag:∃ f fd,FnAt K mg "_law_label" lZ qz f fd
 aau:∃ f fd,FnAt K mg "_law_address" iU nO f fd
 abo:∃ f fd,FnAt K mg "_law_term" pB Bw f fd
 aa7:∃ f fd,FnAt K mg "_law_terms" lG vX f fd
 aa0:∃ f fd,FnAt K mg "_law_word" oU zL f fd
 aax:∃ f fd,FnAt K mg "_law_text" oM Ci f fd
 abg:∃ f fd,FnAt K mg "_law_row" qG Hu f fd
 aan:∃ f fd,FnAt K mg "_law_said" oA xH f fd
 aaq:∃ f fd,FnAt K mg "_law_whole" jr qH f fd
 abl:∃ f fd,FnAt K mg "_law_term_is" iY uv f fd
 abd:∃ f fd,FnAt K mg "_law_terms_are" f9 pI f fd
 aa9:∃ f fd,FnAt K mg "_law_is" tU N6 f fd
 abu:∃ f fd,FnAt K mg "_law_says" n6 By f fd
 aab:∃ f fd,FnAt K mg "_law_is_name" iV lz f fd
 aak:∃ f fd,FnAt K mg "_law_is_address" fO jq f fd
 aa5:∃ f fd,FnAt K mg "_law_read_word" fW pC f fd
 aai:∃ f fd,FnAt K mg "_law_read" o9 xN f fd
 aby:∃ f fd,FnAt K mg "_law_read_told" gf oF f fd
 abf:∃ f fd,FnAt K mg "_law_read_row" gP qw f fd
 aa8:∃ f fd,FnAt K mg "_law_worded" jG tX f fd
 aap:∃ f fd,FnAt K mg "_law_signed" jP qt f fd
 abi:∃ f fd,FnAt K mg "_law_what" oR zB f fd
 aay:∃ f fd,FnAt K mg "_law_told" o8 BW f fd
 abv:∃ f fd,FnAt K mg "_law_line" oX Bm f fd
 abk:∃ f fd,FnAt K mg "_law_due" qM Hf f fd
 abh:∃ f fd,FnAt K mg "_law_holds" mR vN f fd
 i_Part:∃ f fd,MAt K "__init__" "Part.__init__" eE jU f fd/\Mk K (C 7) f
 m_Part_bound:∃ f fd,MAt K "bound" "Part.bound" ie fV f fd/\Meth K (C 7) "bound" f
 m_Part_place_of:∃ f fd,MAt K "place_of" "Part.place_of" eN fY f fd/\Meth K (C 7) "place_of" f
 m_Part_text:∃ f fd,MAt K "text" "Part.text" jf jM f fd/\Meth K (C 7) "text" f
 m_Row_binds:∃ f fd,MAt K "binds" "Row.binds" iW oW f fd/\Meth K (C 5) "binds" f/\Meth K (C 6) "binds" f
 m_Row_asked:∃ f fd,MAt K "asked" "Row.asked" jg oJ f fd/\Meth K (C 0) "asked" f/\Meth K (C 1) "asked" f/\Meth K (C 5) "asked" f/\Meth K (C 6) "asked" f
 m_Row_said:∃ f fd,MAt K "said" "Row.said" ue Ea f fd/\Meth K (C 6) "said" f
 i_Let:∃ f fd,MAt K "__init__" "Let.__init__" fL mQ f fd/\Mk K (C 0) f
 m_Let_binds:∃ f fd,MAt K "binds" "Let.binds" iZ ph f fd/\Meth K (C 0) "binds" f
 m_Let_said:∃ f fd,MAt K "said" "Let.said" jL p8 f fd/\Meth K (C 0) "said" f
 i_Deed:∃ f fd,MAt K "__init__" "Deed.__init__" eU jE f fd/\Mk K (C 1) f
 m_Deed_binds:∃ f fd,MAt K "binds" "Deed.binds" gJ mV f fd/\Meth K (C 1) "binds" f
 m_Deed_said:∃ f fd,MAt K "said" "Deed.said" jc ou f fd/\Meth K (C 1) "said" f
 i_Draw:∃ f fd,MAt K "__init__" "Draw.__init__" eG jW f fd/\Mk K (C 2) f
 m_Draw_binds:∃ f fd,MAt K "binds" "Draw.binds" il m7 f fd/\Meth K (C 2) "binds" f
 m_Draw_asked:∃ f fd,MAt K "asked" "Draw.asked" gW nC f fd/\Meth K (C 2) "asked" f
 m_Draw_said:∃ f fd,MAt K "said" "Draw.said" je o6 f fd/\Meth K (C 2) "said" f
 i_Late:∃ f fd,MAt K "__init__" "Late.__init__" eQ kJ f fd/\Mk K (C 3) f
 m_Late_binds:∃ f fd,MAt K "binds" "Late.binds" ig m8 f fd/\Meth K (C 3) "binds" f
 m_Late_asked:∃ f fd,MAt K "asked" "Late.asked" gR mY f fd/\Meth K (C 3) "asked" f
 m_Late_said:∃ f fd,MAt K "said" "Late.said" jh oO f fd/\Meth K (C 3) "said" f
 i_Take:∃ f fd,MAt K "__init__" "Take.__init__" eV jY f fd/\Mk K (C 4) f
 m_Take_binds:∃ f fd,MAt K "binds" "Take.binds" gM m9 f fd/\Meth K (C 4) "binds" f
 m_Take_asked:∃ f fd,MAt K "asked" "Take.asked" gH nD f fd/\Meth K (C 4) "asked" f
 m_Take_said:∃ f fd,MAt K "said" "Take.said" iT pK f fd/\Meth K (C 4) "said" f
 i_Need:∃ f fd,MAt K "__init__" "Need.__init__" eX jJ f fd/\Mk K (C 5) f
 m_Need_said:∃ f fd,MAt K "said" "Need.said" jb oH f fd/\Meth K (C 5) "said" f
 c_Let:mg "Let" = some (.ref (C 0))
 c_Deed:mg "Deed" = some (.ref (C 1))
 c_Draw:mg "Draw" = some (.ref (C 2))
 c_Late:mg "Late" = some (.ref (C 3))
 c_Take:mg "Take" = some (.ref (C 4))
 c_Need:mg "Need" = some (.ref (C 5))
 c_Row:mg "Row" = some (.ref (C 6))
 c_Part:mg "Part" = some (.ref (C 7))
 cn:MkN K (C 6)
 fam:Us K C
 pt:VH K (C 7)
 c_HouseError:mg "HouseError" = some (.ref (C 20))
 c_NoExpr:mg "NoExpr" = some (.ref (C 21))
 c_NoText:mg "NoText" = some (.ref (C 22))
 c_Clash:mg "Clash" = some (.ref (C 23))
 c_Double:mg "Double" = some (.ref (C 24))
 c_Fault:mg "Fault" = some (.ref (C 25))
 c_NoDrop:mg "NoDrop" = some (.ref (C 26))
 c_NoName:mg "NoName" = some (.ref (C 27))
 c_NoPart:mg "NoPart" = some (.ref (C 28))
 c_NoRow:mg "NoRow" = some (.ref (C 29))
 c_Orphan:mg "Orphan" = some (.ref (C 30))
 c_TooMany:mg "TooMany" = some (.ref (C 31))
 c_TooWide:mg "TooWide" = some (.ref (C 32))
 c_Twice:mg "Twice" = some (.ref (C 33))
 x_HouseError:ExC K (C 20)
 x_NoExpr:ExC K (C 21)
 x_NoText:ExC K (C 22)
 xf:Ha K C
 i_NoExpr:findIn K (.ref (C 21)) "__init__" = some (some (.builtin "ValueError.__init__"))
 k_NoExpr:keepIn K (.ref (C 21))=true
 i_NoText:∃ f fd,XIn K (C 22) "NoText.__init__" iz dG f fd
 x_TooMany:ExC K (C 31)
 x_Twice:ExC K (C 33)
 xm:Fy K C 31
 xw:Fy K C 33
 i_TooMany:∃ f fd,XIn K (C 31) "TooMany.__init__" ji jn f fd
 i_Twice:∃ f fd,XIn K (C 33) "Twice.__init__" nQ nR f fd
 ini1:specialIn K (.ref (C 20)) "__getattribute__" = some (some (.builtin "type.__getattribute__"))
 ini2:readsIn K (C 20) (.type "type")=true
 ini3:findCls K (.ref (C 20)) (.type "type") "__init__" = some (.val (.builtin "ValueError.__init__"))
section
variable {P:Program} {w:World} {K:Frag} {mg:MG} {base:Heap}
theorem Bv(T:Tx K mg C)(F:Fun K "show_term" "show_term" lM f fd):aO P w K mg base CX0 1 f fd my Aa:=by
 refine F.oq uT fun _ _ _ _ H _ Q E hr h=>?_
 ·obtain⟨x,th,rfl,hx,gth,q⟩:=h
  refine⟨_,QSs.h (au (bc (aD bB (pv 0) aA (aG _)) (az (aF (bR tK Zd T.t_str boot_str (aj (pv 1) ao)))) aL)
   (au (aY (i:=2) uT.nd rfl (Or.inl rfl) (cM plainAttrs_str slot_str_join type_str_join gO aA (aj (pv 1) ao)))
   (au (bc (aD bB (pv 0) aA (aG _)) (az (aF (aH aR (pv 2) aA))) aL)
   (az (aF (pv 2)))))),?_⟩
  have q0:=q H (aB.refl H)
  cases th with
  | num m =>
   cases hx
   exact⟨_,rfl,rfl,_,rfl,bh (decide_eq_true (show V.str (kindOf (.num m))=V.str "number" from rfl)) ⟨_,rfl,_,rfl,log2_small gth,q0⟩⟩
  | nms c ys =>
   have gn:ir ys:=gth
   obtain⟨r,rfl,hr'⟩:=hx
   have hs:(ys.map (·.length)).sum<=ys.length*8:=pF fun y hy=>(gn.nm y hy).hi
   have h4:=gn.hi
   have hdl:=gn.len
   cases c with
   | true =>
    refine⟨_,rfl,rfl,_,rfl,aP (decide_eq_false (show ¬ V.str "call" = V.str "number" by decide +kernel)) ?_⟩
    refine⟨rfl,_,rfl,_,r,ys,rfl,rfl,.inr (SqT.of hr'),by rw[BP];omega,?_⟩
    exact⟨_,rfl,rfl,_,rfl,bh (decide_eq_true (show V.str "call" = V.str "call" from rfl)) ⟨_,rfl,_,_,rfl,rfl,le_trans (show(dotted ys).length+brk.length<=1000 by rw[kI];omega) dJ,q0⟩⟩
   | false =>
    refine⟨_,rfl,rfl,_,rfl,aP (decide_eq_false (show ¬ V.str "path" = V.str "number" by decide +kernel)) ?_⟩
    refine⟨rfl,_,rfl,_,r,ys,rfl,rfl,.inr (SqT.of hr'),by rw[BP];omega,?_⟩
    exact⟨_,rfl,rfl,_,rfl,aP (decide_eq_false (show ¬ V.str "path" = V.str "call" by decide +kernel)) ⟨_,rfl,q0⟩⟩
theorem nY(T:Tx K mg C)(F:Fun K "show_expr" "show_expr" lK f fd):aO P w K mg base CX0 2 f fd gA uC:=by
 obtain⟨fbj,dbj,Abj⟩:=T.abj
 have Gbj:aO P w K mg base CX0 1 fbj dbj my Aa:=Bv T Abj.F
 refine F.oq jt fun _ _ _ _ H _ Q E hr h=>?_
 ·obtain⟨l,ts,rfl,⟨xs,hl,hxl,hx⟩,hg,q⟩:=h
  have hr1:bw 1 _:=hr
  refine⟨_,QSs.h (au (aY (i:=1) jt.nd rfl (Or.inl rfl) (bI ao))
   (au (lB PassesOwn.never rfl (dH (pv 0)) (jR (K:=K) (n:=3) rfl rfl (bK (aX (i:=2) jt.nd rfl (Or.inl rfl)) (bK (aX (i:=3) jt.nd rfl (Or.inl rfl)) (bK (aX (i:=4) jt.nd rfl (Or.inl rfl)) jK))))
   (au (bc (aD ju (aJ aW Zd T.len boot_len (aj (pv 1) ao)) aq (aG _)) (az (fM (cM plainAttrs_list PySem.F.slot_list_append PySem.F.type_list_append gq (pv 1) (aj (Lg (aD bB (pv 2) aq (aG _)) aA aA) ao)))) aL)
   (az (fM (cM plainAttrs_list PySem.F.slot_list_append PySem.F.type_list_append gq (pv 1) (aj (aV Abj Gbj hr1 (aj (pv 3) (aj (pv 4) ao))) ao))))))
   (az (aF (cM plainAttrs_str slot_str_join type_str_join gO aA (aj (pv 1) ao)))))),?_⟩
  have h6:=hg.hi
  refine⟨by show 0<=sizeLine;decide,fun d hd=>?_⟩
  refine⟨_,rfl,l,rfl,⟨_,SqL.of ((aB.new hd) _ _ hl)⟩,?_⟩
  refine Cr (xs:=xs) (fun i σ H'=>∃ v2 v3 v4,σ=[some (.ref l),some (.ref d),v2,v3,v4]/\aB H H'/\H' d=some (.lst ((wordsOf (ts.take i)).map V.str))) ⟨none,none,none,rfl,aB.new hd,ak⟩ ?_ ?_ ?_
  ·rintro i σ H' _ ⟨v2,v3,v4,rfl,sm,_⟩
   exact SqL.of (sm _ _ hl)
  ·rintro i x σ H3 hxi ⟨v2,v3,v4,rfl,sm,h3d⟩
   obtain⟨t,et,tm⟩:=hx i x hxi
   have gt:qg t:=hg.ok t (mem_of_getElem? et)
   obtain⟨p,y,rfl,hp,hy⟩:=tm.same sm
   have hi:i<ts.length:=(List.getElem?_eq_some_iff.mp et).1
   have hne:d≠p:=qi h3d hp Zh
   refine⟨p,_,rfl,SqT.of hp,rfl,_,_,rfl,_,_,rfl,_,_,rfl,rfl,?_⟩
   have e2:ts.take (i+1)=ts.take i++[t]:=by rw[take_add_one,et];rfl
   have wl:(wordsOf (ts.take i)).length<=12:=by
    cases htk:ts.take i with
    | nil=>simp[wordsOf]
    | cons u r =>
     rw[dz Zc,<- htk,length_take]
     omega
   have fin:∀ (ws:List Str) (Hx:Hp),ws.length<=13->aB H Hx->Hx d=some (.lst (ws.map V.str))->ws++[wordOf t.th]=wordsOf (ts.take (i+1)) ->
     Ku (tBM K "list" Hw (xY 1) (xq (Hl Aa [] E0 (xq (xY 3) (xq (xY 4) FQ))) FQ))
      {nx:=fun σ H'=>∃ v2 v3 v4,σ=[some (V.ref l),some (V.ref d),v2,v3,v4]/\aB H H'/\H' d=some (.lst ((wordsOf (ts.take (i+1))).map V.str)),rt:=Q,bk:=KQ (tBM K "str" (rJoin K) (tC (.str " ")) (xq (xY 1) FQ)) {nx:=fun _ H'=>Q .non H',rt:=Q},ct:=fun σ H'=>∃ v2 v3 v4,σ=[some (V.ref l),some (V.ref d),v2,v3,v4]/\aB H H'/\H' d=some (.lst ((wordsOf (ts.take (i+1))).map V.str))}
      [some (V.ref l),some (V.ref d),some (V.int t.sg),some (V.str (kindOf t.th)),some y] Hx:=by
    intro ws Hx hw sx hxd hws
    refine⟨_,rfl,.inl ⟨rfl,_,SqL.of hxd⟩,_,rfl,_,rfl,y,t.th,rfl,(hx i _ hxi).elim fun t' ⟨et',tm'⟩=>?_,gt.th,fun H4 s4=>?_⟩
    ·rw[et]at et';cases et'
     obtain⟨p',y',e',hp',hy'⟩:=tm'.same sx
     cases e'
     obtain⟨p0,y0,e0,hp0,hy0⟩:=tm
     cases e0
     have a1:=sm _ _ hp0
     rw[hp]at a1
     have a2:=sx _ _ hp0
     rw[hp']at a2
     injection a1 with a1;injection a1 with a1
     injection a2 with a2;injection a2 with a2
     have ey:y=y0:=by injection a1 with _ a1;injection a1 with _ a1;injection a1
     subst ey
     exact hy0.same sx
    ·refine⟨d,_,_,rfl,rfl,s4 _ _ hxd,lt_of_lt_of_le (show(ws.map V.str).length<1000 by rw[length_map];omega) dJ,?_⟩
     refine⟨_,_,_,rfl,(sx.trans s4).over hd,?_⟩
     rw[ak,<- hws,map_append]
     rfl
   refine⟨_,rfl,d,_,rfl,.inl (SqL.of h3d),_,_,rfl,rfl,_,rfl,dF (fun h=>?_) (fun h=>?_)⟩
   ·rw[length_map]at h
    have hne2:ts.take i≠[]:=fun z=>by rw[z]at h;simp[wordsOf]at h
    refine⟨_,rfl,.inl ⟨rfl,_,SqL.of h3d⟩,_,rfl,rfl,_,rfl,WK ?_⟩
    refine⟨d,_,V.str (sgw t.sg),rfl,by rw[RQ],h3d,lt_of_lt_of_le (show _<1000 by rw[length_map];omega) dJ,?_⟩
    refine fin (wordsOf (ts.take i)++[sgw t.sg]) _ (by rw[length_append];simp;omega) (sm.over hd) (by rw[ak,map_append];rfl) ?_
    rw[e2,oV t hne2,append_assoc]
    rfl
   ·rw[length_map]at h
    have hne2:ts.take i=[]:=by
     cases htk:ts.take i with
     | nil=>rfl
     | cons u r=>rw[htk]at h;simp[wordsOf]at h
    refine fin (wordsOf (ts.take i)) H3 Zb sm h3d ?_
    rw[e2,hne2]
    rfl
  ·rintro σ H3 ⟨v2,v3,v4,rfl,sm,h3d⟩
   rw[hxl,take_length]at h3d
   have wn:=dz hg.lo
   have ws:((wordsOf ts).map (·.length)).sum<=(wordsOf ts).length*38:=pF fun y hy=>by
    rcases uX hy with⟨t,ht,rfl⟩|⟨t,ht,rfl⟩
    ·exact wY (hg.ok t ht).th
    ·rw[Bq];decide
   have q':=q H3 sm
   rw[<- Iv]at q'
   exact⟨rfl,_,rfl,_,d,wordsOf ts,rfl,rfl,.inl (SqL.of h3d),by rw[wy];omega,q'⟩
theorem qe(T:Tx K mg C)(F:Fun K "__init__" "NoText.__init__" iz f fd):aO P w K mg base CX0 1 f fd dG (mX (C 22)):=by
 refine F.oq wL fun _ _ _ _ H _ Q E hr h=>?_
 ·obtain⟨x,n,rfl,hx,hi,q⟩:=h
  refine⟨_,QSs.h (au (fM (tR Zd T.c_HouseError T.ini1 T.ini2 T.ini3 (aj (pv 0) (aj (qI (mC aA (mC (Bb (pv 1)) zM))) ao))))
   (az (uc (pv 0) (pv 1)))),?_⟩
  refine⟨_,rfl,_,rfl,Ze,_,rfl,Or.inl ⟨_,rfl,hi,_,rfl,Eg Ze (le_trans (Dl hi) Za),Eg Ze (le_trans (Dl hi) Za),_,_,_,_,_,rfl,hx,T.x_NoText,?_⟩⟩
  exact⟨_,rfl,_,rfl,_,_,_,rfl,hx,T.xf.x,T.xf.a,fun p hp hne=>q p hp hne⟩
theorem zW(T:Tx K mg C)(F:Fun K "__init__" "NoText.__init__" iz f fd):uh P w K mg base 1 f fd dG (mX (C 22)):=by
 refine F.okH wL (fun vs H Q E h=>?_) (fun cdv A outer s H vs Q E y hr h=>?_)
 ·obtain⟨x,n,rfl,_⟩:=h
  rfl
 ·obtain⟨x,n,rfl,hx,hi,q⟩:=h
  refine⟨_,QSs.h (au (fM (tR Zd T.c_HouseError T.ini1 T.ini2 T.ini3 (aj (pv 0) (aj (qI (mC aA (mC (Bb (pv 1)) zM))) ao))))
   (az (uc (pv 0) (pv 1)))),?_⟩
  refine⟨_,rfl,_,rfl,Ze,_,rfl,Or.inl ⟨_,rfl,hi,_,rfl,Eg Ze (le_trans (Dl hi) Za),Eg Ze (le_trans (Dl hi) Za),_,_,_,_,_,rfl,hx,T.x_NoText,?_⟩⟩
  exact⟨_,rfl,_,rfl,_,_,_,rfl,hx,T.xf.x,T.xf.a,fun p hp hne=>q p hp hne⟩
theorem Ca(T:Tx K mg C)(F:Fun K "__init__" "TooMany.__init__" ji f fd):aO P w K mg base CX0 1 f fd jn (mX (C 31)):=by
 refine F.oq Dj fun _ _ _ _ H _ Q E hr h=>?_
 ·obtain⟨x,n,rfl,hx,hi,q⟩:=h
  refine⟨_,QSs.h (au (fM (tR Zd T.c_HouseError T.ini1 T.ini2 T.ini3 (aj (pv 0) (aj (qI (mC aA (mC (Bb (pv 1)) zM))) ao))))
   (az (uc (pv 0) (pv 1)))),?_⟩
  refine⟨_,rfl,_,rfl,Ze,_,rfl,Or.inl ⟨_,rfl,hi,_,rfl,Eg Ze (le_trans (Dl hi) Za),Eg Ze (le_trans (Dl hi) Za),_,_,_,_,_,rfl,hx,T.x_TooMany,?_⟩⟩
  exact⟨_,rfl,_,rfl,_,_,_,rfl,hx,T.xm.x,T.xm.a,fun p hp hne=>q p hp hne⟩
theorem Gp(T:Tx K mg C)(F:Fun K "__init__" "Twice.__init__" nQ f fd):aO P w K mg base CX0 1 f fd nR (mX (C 33)):=by
 refine F.oq Jf fun _ _ _ _ H _ Q E hr h=>?_
 ·obtain⟨x,n,rfl,hx,hi,q⟩:=h
  refine⟨_,QSs.h (au (fM (tR Zd T.c_HouseError T.ini1 T.ini2 T.ini3 (aj (pv 0) (aj (qI (mC aA (mC (Bb (pv 1)) zM))) ao))))
   (az (uc (pv 0) (pv 1)))),?_⟩
  refine⟨_,rfl,_,rfl,Ze,_,rfl,Or.inl ⟨_,rfl,hi,_,rfl,Eg Ze (le_trans (Dl hi) Za),Eg Ze (le_trans (Dl hi) Za),_,_,_,_,_,rfl,hx,T.x_Twice,?_⟩⟩
  exact⟨_,rfl,_,rfl,_,_,_,rfl,hx,T.xw.x,T.xw.a,fun p hp hne=>q p hp hne⟩
theorem xG(T:Tx K mg C)(F:Fun K "binds" "Row.binds" iW f fd):aO P w K mg base CX0 1 f fd oW J4:=by
 refine F.oq Ad fun _ _ _ _ H _ Q E hr h=>?_
 ·obtain⟨v,rfl,q⟩:=h
  exact⟨_,QSs.h (az (aF aA)),q H (aB.refl H)⟩
theorem kZ(T:Tx K mg C)(F:Fun K "asked" "Row.asked" jg f fd):aO P w K mg base CX0 1 f fd oJ zF:=by
 refine F.oq zJ fun _ _ _ _ H _ Q E hr h=>?_
 ·obtain⟨v,rfl,q⟩:=h
  exact⟨_,QSs.h (az (aF (bI ao))),by show 0<=sizeLine;decide,fun b hb=>q b _ hb (aB.new hb) ak⟩
theorem ux(T:Tx K mg C)(F:Fun K "__init__" "Let.__init__" fL f fd):aO P w K mg base CX0 1 f fd mQ (zQ C 0):=by
 refine F.oq CW fun _ _ _ _ H _ Q E hr h=>?_
 ·obtain⟨x,dx,r,d,rfl,hso,hx,hts,h10,q⟩:=h
  refine⟨_,QSs.h (au (gK (pv 0) (pv 1))
   (az (gK (pv 0) (bR kh Zd T.t_list boot_list (aj (pv 2) ao))))),?_⟩
  obtain⟨xs,hl,hxl,hxt⟩:=id hts
  have hdx:d≠x:=qi hl hx Zh
  refine⟨_,rfl,_,rfl,x,_,dx,_,rfl,hx,(T.fam.c 0 Za).cl,T.fam.nn 0 Za,lt_of_lt_of_le (zero_lt_one) Za,_,rfl,d,_,rfl,.inl (SqL.of (by rw[aQ hdx];exact hl)),fun l hlf=>⟨_,rfl,x,_,dx,_,rfl,(by rw[aQ (nH hlf).2.symm];exact ak),(T.fam.c 0 Za).cl,T.fam.nt 0 Za,lt_of_lt_of_le (Dw zero_lt_one) Za,?_⟩⟩
  obtain⟨hl0,hlx⟩:=nH hlf
  refine q l _ hl0 (sb3 hl0) ⟨dx,_,by rw[hso];exact ak,?_⟩
  refine⟨fun _=>(lkN Ze).trans lkP,fun _=>⟨lkP,xs,by rw[aQ hlx];exact ak,hxl,fun j y e=>?_⟩,fun k=>absurd k Zb,fun k=>absurd k Zb,(lkN Ze).trans (lkN Ze),(lkN Ze).trans (lkN Ze),(lkN Ze).trans (lkN Ze)⟩
  obtain⟨t,et,tm⟩:=hxt j y e
  exact⟨t,et,tm.but hx (sb3 hl0)⟩
theorem wH(T:Tx K mg C)(F:Fun K "binds" "Let.binds" iZ f fd):aO P w K mg base CX0 1 f fd ph (spB C 0):=by
 refine F.oq zU fun _ _ _ _ H _ Q E hr h=>?_
 ·obtain⟨a,l,r,rfl,hso,ra,q⟩:=h
  refine⟨_,QSs.h (az (aF (bU (pv 0) rfl))),?_⟩
  obtain⟨dx,fs,ha,hf⟩:=id ra
  rw[hso]at ha
  exact⟨_,rfl,rdF ha (T.fam.c 0 Za).cl (T.fam.nn 0 Za) (hf.nm (by rw[hso];decide)) (q H (aB.refl H))⟩
theorem yD(T:Tx K mg C)(F:Fun K "said" "Let.said" jL f fd):aO P w K mg base CX0 3 f fd p8 (spS C 0):=by
 obtain⟨faf,daf,Aaf⟩:=T.aaf
 have Gaf:aO P w K mg base CX0 2 faf daf gA uC:=nY T Aaf.F
 refine F.oq Eu fun _ _ _ _ H _ Q E hr h=>?_
 ·obtain⟨a,l,r,rfl,hso,ra,hg,q⟩:=h
  have hr2:bw 2 _:=hr
  refine⟨_,QSs.h (az (aF (aH aR (aH aR (aH aR aA (bU (pv 0) rfl)) aA) (aV Aaf Gaf hr2 (aj (bU (pv 0) rfl) ao))))),?_⟩
  obtain⟨dx,fs,ha,hf⟩:=id ra
  rw[hso]at ha
  have e1:=hg.nl
  have e2:=hg.al
  have e3:=hg.tl
  have e4:=hg.wd.hi
  rw[Ey hso]at q
  refine⟨_,rfl,rdF ha (T.fam.c 0 Za).cl (T.fam.nn 0 Za) (hf.nm (by rw[hso];decide)) ⟨_,_,rfl,rfl,abS (le_of_eq tE) e1,_,_,rfl,rfl,abS (alS (le_of_eq tE) e1) (le_of_eq jx),_,rfl,rdF ha (T.fam.c 0 Za).cl (T.fam.nt 0 Za) ((hf.tm (.inl hso)).1) ⟨l,r.ts,rfl,(hf.tm (.inl hso)).2,hg.ts,fun H2 s2=>⟨_,_,rfl,rfl,abS (alS (alS (le_of_eq tE) e1) (le_of_eq jx)) e3,q H2 s2⟩⟩⟩⟩
theorem rK(T:Tx K mg C)(F:Fun K "__init__" "Deed.__init__" eU f fd):aO P w K mg base CX0 1 f fd jE (zQ C 1):=by
 refine F.oq Bu fun _ _ _ _ H _ Q E hr h=>?_
 ·obtain⟨x,dx,r,d,rfl,hso,hx,hts,h10,q⟩:=h
  refine⟨_,QSs.h (au (gK (pv 0) (pv 1))
   (az (gK (pv 0) (bR kh Zd T.t_list boot_list (aj (pv 2) ao))))),?_⟩
  obtain⟨xs,hl,hxl,hxt⟩:=id hts
  have hdx:d≠x:=qi hl hx Zh
  refine⟨_,rfl,_,rfl,x,_,dx,_,rfl,hx,(T.fam.c 1 Za).cl,T.fam.nn 1 Za,lt_of_lt_of_le (zero_lt_one) Za,_,rfl,d,_,rfl,.inl (SqL.of (by rw[aQ hdx];exact hl)),fun l hlf=>⟨_,rfl,x,_,dx,_,rfl,(by rw[aQ (nH hlf).2.symm];exact ak),(T.fam.c 1 Za).cl,T.fam.nt 1 Za,lt_of_lt_of_le (Dw zero_lt_one) Za,?_⟩⟩
  obtain⟨hl0,hlx⟩:=nH hlf
  refine q l _ hl0 (sb3 hl0) ⟨dx,_,by rw[hso];exact ak,?_⟩
  refine⟨fun _=>(lkN Ze).trans lkP,fun _=>⟨lkP,xs,by rw[aQ hlx];exact ak,hxl,fun j y e=>?_⟩,fun k=>absurd k Zb,fun k=>absurd k Zb,(lkN Ze).trans (lkN Ze),(lkN Ze).trans (lkN Ze),(lkN Ze).trans (lkN Ze)⟩
  obtain⟨t,et,tm⟩:=hxt j y e
  exact⟨t,et,tm.but hx (sb3 hl0)⟩
theorem vy(T:Tx K mg C)(F:Fun K "binds" "Deed.binds" gJ f fd):aO P w K mg base CX0 1 f fd mV (spB C 1):=by
 refine F.oq yx fun _ _ _ _ H _ Q E hr h=>?_
 ·obtain⟨a,l,r,rfl,hso,ra,q⟩:=h
  refine⟨_,QSs.h (az (aF (bU (pv 0) rfl))),?_⟩
  obtain⟨dx,fs,ha,hf⟩:=id ra
  rw[hso]at ha
  exact⟨_,rfl,rdF ha (T.fam.c 1 Za).cl (T.fam.nn 1 Za) (hf.nm (by rw[hso];decide)) (q H (aB.refl H))⟩
theorem xM(T:Tx K mg C)(F:Fun K "said" "Deed.said" jc f fd):aO P w K mg base CX0 3 f fd ou (spS C 1):=by
 obtain⟨faf,daf,Aaf⟩:=T.aaf
 have Gaf:aO P w K mg base CX0 2 faf daf gA uC:=nY T Aaf.F
 refine F.oq Ar fun _ _ _ _ H _ Q E hr h=>?_
 ·obtain⟨a,l,r,rfl,hso,ra,hg,q⟩:=h
  have hr2:bw 2 _:=hr
  refine⟨_,QSs.h (az (aF (aH aR (aH aR (aH aR aA (bU (pv 0) rfl)) aA) (aV Aaf Gaf hr2 (aj (bU (pv 0) rfl) ao))))),?_⟩
  obtain⟨dx,fs,ha,hf⟩:=id ra
  rw[hso]at ha
  have e1:=hg.nl
  have e2:=hg.al
  have e3:=hg.tl
  have e4:=hg.wd.hi
  rw[CN hso]at q
  refine⟨_,rfl,rdF ha (T.fam.c 1 Za).cl (T.fam.nn 1 Za) (hf.nm (by rw[hso];decide)) ⟨_,_,rfl,rfl,abS (le_of_eq pQ) e1,_,_,rfl,rfl,abS (alS (le_of_eq pQ) e1) (le_of_eq jx),_,rfl,rdF ha (T.fam.c 1 Za).cl (T.fam.nt 1 Za) ((hf.tm (.inr (.inl hso))).1) ⟨l,r.ts,rfl,(hf.tm (.inr (.inl hso))).2,hg.ts,fun H2 s2=>⟨_,_,rfl,rfl,abS (alS (alS (le_of_eq pQ) e1) (le_of_eq jx)) e3,q H2 s2⟩⟩⟩⟩
theorem rF(T:Tx K mg C)(F:Fun K "__init__" "Draw.__init__" eG f fd):aO P w K mg base CX0 1 f fd jW (Aj C 2):=by
 refine F.oq Aq fun _ _ _ _ H _ Q E hr h=>?_
 ·obtain⟨x,dx,r,rfl,hso,hx,q⟩:=h
  refine⟨_,QSs.h (au (gK (pv 0) (pv 1))
   (az (gK (pv 0) (pv 2)))),?_⟩
  refine⟨_,rfl,_,rfl,x,_,dx,_,rfl,hx,(T.fam.c 2 Za).cl,T.fam.na 2 Za,lt_of_lt_of_le (zero_lt_one) Za,_,rfl,_,rfl,x,_,dx,_,rfl,ak,(T.fam.c 2 Za).cl,T.fam.nn 2 Za,lt_of_lt_of_le (Dw zero_lt_one) Za,?_⟩
  refine q _ (fun b o e hb=>by rw[aQ hb,aQ hb];exact e) fun l=>⟨dx,_,by rw[hso];exact ak,?_⟩
  exact⟨fun _=>lkP,fun k=>absurd k Zb,fun _=>(lkN Ze).trans lkP,fun k=>absurd k Zb,(lkN Ze).trans (lkN Ze),(lkN Ze).trans (lkN Ze),(lkN Ze).trans (lkN Ze)⟩
theorem vz(T:Tx K mg C)(F:Fun K "binds" "Draw.binds" il f fd):aO P w K mg base CX0 1 f fd m7 (spB C 2):=by
 refine F.oq yz fun _ _ _ _ H _ Q E hr h=>?_
 ·obtain⟨a,l,r,rfl,hso,ra,q⟩:=h
  refine⟨_,QSs.h (az (aF (bU (pv 0) rfl))),?_⟩
  obtain⟨dx,fs,ha,hf⟩:=id ra
  rw[hso]at ha
  exact⟨_,rfl,rdF ha (T.fam.c 2 Za).cl (T.fam.nn 2 Za) (hf.nm (by rw[hso];decide)) (q H (aB.refl H))⟩
theorem vD(T:Tx K mg C)(F:Fun K "asked" "Draw.asked" gW f fd):aO P w K mg base CX0 1 f fd nC (spA C 2):=by
 refine F.oq yp fun _ _ _ _ H _ Q E hr h=>?_
 ·obtain⟨a,l,r,rfl,hso,ra,q⟩:=h
  refine⟨_,QSs.h (az (aF (bI (aj (bU (pv 0) rfl) ao)))),?_⟩
  obtain⟨dx,fs,ha,hf⟩:=id ra
  rw[hso]at ha
  exact⟨_,rfl,rdF ha (T.fam.c 2 Za).cl (T.fam.na 2 Za) (hf.ad (.inl hso)) ⟨by show 1<=sizeLine;decide,fun b hb=>q b _ hb (aB.new hb) ak⟩⟩
theorem xW(T:Tx K mg C)(F:Fun K "said" "Draw.said" je f fd):aO P w K mg base CX0 1 f fd o6 (spS C 2):=by
 refine F.oq zV fun _ _ _ _ H _ Q E hr h=>?_
 ·obtain⟨a,l,r,rfl,hso,ra,hg,q⟩:=h
  refine⟨_,QSs.h (az (aF (aH aR (aH aR (aH aR aA (bU (pv 0) rfl)) aA) (bU (pv 0) rfl)))),?_⟩
  obtain⟨dx,fs,ha,hf⟩:=id ra
  rw[hso]at ha
  have e1:=hg.nl
  have e2:=hg.al
  have e3:=hg.tl
  have e4:=hg.wd.hi
  rw[Di hso]at q
  exact⟨_,rfl,rdF ha (T.fam.c 2 Za).cl (T.fam.na 2 Za) (hf.ad (.inl hso)) ⟨_,_,rfl,rfl,abS (le_of_eq qm) e2,_,_,rfl,rfl,abS (alS (le_of_eq qm) e2) (le_of_eq d7),_,rfl,rdF ha (T.fam.c 2 Za).cl (T.fam.nn 2 Za) (hf.nm (by rw[hso];decide)) ⟨_,_,rfl,rfl,abS (alS (alS (le_of_eq qm) e2) (le_of_eq d7)) e1,q H (aB.refl H)⟩⟩⟩
theorem rZ(T:Tx K mg C)(F:Fun K "__init__" "Late.__init__" eQ f fd):aO P w K mg base CX0 1 f fd kJ (Aj C 3):=by
 refine F.oq BJ fun _ _ _ _ H _ Q E hr h=>?_
 ·obtain⟨x,dx,r,rfl,hso,hx,q⟩:=h
  refine⟨_,QSs.h (au (gK (pv 0) (pv 1))
   (az (gK (pv 0) (pv 2)))),?_⟩
  refine⟨_,rfl,_,rfl,x,_,dx,_,rfl,hx,(T.fam.c 3 Za).cl,T.fam.na 3 Za,lt_of_lt_of_le (zero_lt_one) Za,_,rfl,_,rfl,x,_,dx,_,rfl,ak,(T.fam.c 3 Za).cl,T.fam.nn 3 Za,lt_of_lt_of_le (Dw zero_lt_one) Za,?_⟩
  refine q _ (fun b o e hb=>by rw[aQ hb,aQ hb];exact e) fun l=>⟨dx,_,by rw[hso];exact ak,?_⟩
  exact⟨fun _=>lkP,fun k=>absurd k Zb,fun _=>(lkN Ze).trans lkP,fun k=>absurd k Zb,(lkN Ze).trans (lkN Ze),(lkN Ze).trans (lkN Ze),(lkN Ze).trans (lkN Ze)⟩
theorem vm(T:Tx K mg C)(F:Fun K "binds" "Late.binds" ig f fd):aO P w K mg base CX0 1 f fd m8 (spB C 3):=by
 refine F.oq yw fun _ _ _ _ H _ Q E hr h=>?_
 ·obtain⟨a,l,r,rfl,hso,ra,q⟩:=h
  refine⟨_,QSs.h (az (aF (bU (pv 0) rfl))),?_⟩
  obtain⟨dx,fs,ha,hf⟩:=id ra
  rw[hso]at ha
  exact⟨_,rfl,rdF ha (T.fam.c 3 Za).cl (T.fam.nn 3 Za) (hf.nm (by rw[hso];decide)) (q H (aB.refl H))⟩
theorem vC(T:Tx K mg C)(F:Fun K "asked" "Late.asked" gR f fd):aO P w K mg base CX0 1 f fd mY (spA C 3):=by
 refine F.oq yr fun _ _ _ _ H _ Q E hr h=>?_
 ·obtain⟨a,l,r,rfl,hso,ra,q⟩:=h
  refine⟨_,QSs.h (az (aF (bI (aj (bU (pv 0) rfl) ao)))),?_⟩
  obtain⟨dx,fs,ha,hf⟩:=id ra
  rw[hso]at ha
  exact⟨_,rfl,rdF ha (T.fam.c 3 Za).cl (T.fam.na 3 Za) (hf.ad (.inr (.inl hso))) ⟨by show 1<=sizeLine;decide,fun b hb=>q b _ hb (aB.new hb) ak⟩⟩
theorem wG(T:Tx K mg C)(F:Fun K "said" "Late.said" jh f fd):aO P w K mg base CX0 1 f fd oO (spS C 3):=by
 refine F.oq zT fun _ _ _ _ H _ Q E hr h=>?_
 ·obtain⟨a,l,r,rfl,hso,ra,hg,q⟩:=h
  refine⟨_,QSs.h (az (aF (aH aR (aH aR (aH aR aA (bU (pv 0) rfl)) aA) (bU (pv 0) rfl)))),?_⟩
  obtain⟨dx,fs,ha,hf⟩:=id ra
  rw[hso]at ha
  have e1:=hg.nl
  have e2:=hg.al
  have e3:=hg.tl
  have e4:=hg.wd.hi
  rw[DG hso]at q
  exact⟨_,rfl,rdF ha (T.fam.c 3 Za).cl (T.fam.na 3 Za) (hf.ad (.inr (.inl hso))) ⟨_,_,rfl,rfl,abS (le_of_eq qd) e2,_,_,rfl,rfl,abS (alS (le_of_eq qd) e2) (le_of_eq d7),_,rfl,rdF ha (T.fam.c 3 Za).cl (T.fam.nn 3 Za) (hf.nm (by rw[hso];decide)) ⟨_,_,rfl,rfl,abS (alS (alS (le_of_eq qd) e2) (le_of_eq d7)) e1,q H (aB.refl H)⟩⟩⟩
theorem rC(T:Tx K mg C)(F:Fun K "__init__" "Take.__init__" eV f fd):aO P w K mg base CX0 1 f fd jY (M5 C):=by
 refine F.oq zA fun _ _ _ _ H _ Q E hr h=>?_
 ·obtain⟨x,dx,r,rfl,hso,hx,q⟩:=h
  refine⟨_,QSs.h (au (gK (pv 0) (pv 1))
   (au (gK (pv 0) (pv 2))
   (az (gK (pv 0) (pv 3))))),?_⟩
  refine⟨_,rfl,_,rfl,x,_,dx,_,rfl,hx,(T.fam.c 4 Za).cl,T.fam.nw 4 Za,lt_of_lt_of_le (zero_lt_one) Za,_,rfl,_,rfl,x,_,dx,_,rfl,ak,(T.fam.c 4 Za).cl,T.fam.na 4 Za,lt_of_lt_of_le (Dw zero_lt_one) Za,_,rfl,_,rfl,x,_,dx,_,rfl,ak,(T.fam.c 4 Za).cl,T.fam.nn 4 Za,lt_of_lt_of_le (Dw (Dw zero_lt_one)) Za,?_⟩
  refine q _ (fun b o e hb=>by rw[aQ hb,aQ hb,aQ hb];exact e) fun l=>⟨dx,_,by rw[hso];exact ak,?_⟩
  exact⟨fun _=>lkP,fun k=>absurd k Zb,fun _=>(lkN Ze).trans lkP,fun _=>(lkN Ze).trans ((lkN Ze).trans lkP),(lkN Ze).trans ((lkN Ze).trans (lkN Ze)),(lkN Ze).trans ((lkN Ze).trans (lkN Ze)),(lkN Ze).trans ((lkN Ze).trans (lkN Ze))⟩
theorem vp(T:Tx K mg C)(F:Fun K "binds" "Take.binds" gM f fd):aO P w K mg base CX0 1 f fd m9 (spB C 4):=by
 refine F.oq yl fun _ _ _ _ H _ Q E hr h=>?_
 ·obtain⟨a,l,r,rfl,hso,ra,q⟩:=h
  refine⟨_,QSs.h (az (aF (bU (pv 0) rfl))),?_⟩
  obtain⟨dx,fs,ha,hf⟩:=id ra
  rw[hso]at ha
  exact⟨_,rfl,rdF ha (T.fam.c 4 Za).cl (T.fam.nn 4 Za) (hf.nm (by rw[hso];decide)) (q H (aB.refl H))⟩
theorem vq(T:Tx K mg C)(F:Fun K "asked" "Take.asked" gH f fd):aO P w K mg base CX0 1 f fd nD (spA C 4):=by
 refine F.oq yq fun _ _ _ _ H _ Q E hr h=>?_
 ·obtain⟨a,l,r,rfl,hso,ra,q⟩:=h
  refine⟨_,QSs.h (az (aF (bI (aj (bU (pv 0) rfl) ao)))),?_⟩
  obtain⟨dx,fs,ha,hf⟩:=id ra
  rw[hso]at ha
  exact⟨_,rfl,rdF ha (T.fam.c 4 Za).cl (T.fam.na 4 Za) (hf.ad (.inr (.inr hso))) ⟨by show 1<=sizeLine;decide,fun b hb=>q b _ hb (aB.new hb) ak⟩⟩
theorem wu(T:Tx K mg C)(F:Fun K "said" "Take.said" iT f fd):aO P w K mg base CX0 1 f fd pK (spS C 4):=by
 refine F.oq zN fun _ _ _ _ H _ Q E hr h=>?_
 ·obtain⟨a,l,r,rfl,hso,ra,hg,q⟩:=h
  refine⟨_,QSs.h (az (aF (aH aR (aH aR (aH aR (aH aR (aH aR aA (bU (pv 0) rfl)) aA) (bU (pv 0) rfl)) aA) (bU (pv 0) rfl)))),?_⟩
  obtain⟨dx,fs,ha,hf⟩:=id ra
  rw[hso]at ha
  have e1:=hg.nl
  have e2:=hg.al
  have e3:=hg.tl
  have e4:=hg.wd.hi
  rw[CK hso]at q
  exact⟨_,rfl,rdF ha (T.fam.c 4 Za).cl (T.fam.nw 4 Za) (hf.wd hso) ⟨_,_,rfl,rfl,abS (le_of_eq dX) e4,_,_,rfl,rfl,abS (alS (le_of_eq dX) e4) (le_of_eq len_from),_,rfl,rdF ha (T.fam.c 4 Za).cl (T.fam.na 4 Za) (hf.ad (.inr (.inr hso))) ⟨_,_,rfl,rfl,abS (alS (alS (le_of_eq dX) e4) (le_of_eq len_from)) e2,_,_,rfl,rfl,abS (alS (alS (alS (le_of_eq dX) e4) (le_of_eq len_from)) e2) (le_of_eq d7),_,rfl,rdF ha (T.fam.c 4 Za).cl (T.fam.nn 4 Za) (hf.nm (by rw[hso];decide)) ⟨_,_,rfl,rfl,abS (alS (alS (alS (alS (le_of_eq dX) e4) (le_of_eq len_from)) e2) (le_of_eq d7)) e1,q H (aB.refl H)⟩⟩⟩⟩
theorem rT(T:Tx K mg C)(F:Fun K "__init__" "Need.__init__" eX f fd):aO P w K mg base CX0 1 f fd jJ (Mp C):=by
 refine F.oq Af fun _ _ _ _ H _ Q E hr h=>?_
 ·obtain⟨x,dx,r,d,rfl,hso,hx,hts,h10,q⟩:=h
  refine⟨_,QSs.h (az (gK (pv 0) (bR kh Zd T.t_list boot_list (aj (pv 1) ao)))),?_⟩
  obtain⟨xs,hl,hxl,hxt⟩:=id hts
  refine⟨_,rfl,d,_,rfl,.inl (SqL.of hl),fun l hl0=>⟨_,rfl,x,_,dx,_,rfl,(by rw[aQ (aK hx hl0)];exact hx),(T.fam.c 5 Za).cl,T.fam.nt 5 Za,lt_of_lt_of_le (zero_lt_one) Za,?_⟩⟩
  have hlx:l≠x:=(aK hx hl0).symm
  refine q l _ hl0 (sb2 hl0) ⟨dx,_,by rw[hso];exact ak,?_⟩
  refine⟨fun k=>absurd k Zb,fun _=>⟨lkP,xs,by rw[aQ hlx];exact ak,hxl,fun j y e=>?_⟩,fun k=>absurd k Zb,fun k=>absurd k Zb,lkN Ze,lkN Ze,lkN Ze⟩
  obtain⟨t,et,tm⟩:=hxt j y e
  exact⟨t,et,tm.but hx (sb2 hl0)⟩
theorem wV(T:Tx K mg C)(F:Fun K "said" "Need.said" jb f fd):aO P w K mg base CX0 3 f fd oH (spS C 5):=by
 obtain⟨faf,daf,Aaf⟩:=T.aaf
 have Gaf:aO P w K mg base CX0 2 faf daf gA uC:=nY T Aaf.F
 refine F.oq zG fun _ _ _ _ H _ Q E hr h=>?_
 ·obtain⟨a,l,r,rfl,hso,ra,hg,q⟩:=h
  have hr2:bw 2 _:=hr
  refine⟨_,QSs.h (az (aF (aH aR aA (aV Aaf Gaf hr2 (aj (bU (pv 0) rfl) ao))))),?_⟩
  obtain⟨dx,fs,ha,hf⟩:=id ra
  rw[hso]at ha
  have e1:=hg.nl
  have e2:=hg.al
  have e3:=hg.tl
  have e4:=hg.wd.hi
  rw[Cq hso]at q
  refine⟨_,rfl,rdF ha (T.fam.c 5 Za).cl (T.fam.nt 5 Za) ((hf.tm (.inr (.inr hso))).1) ⟨l,r.ts,rfl,(hf.tm (.inr (.inr hso))).2,hg.ts,fun H2 s2=>⟨_,_,rfl,rfl,abS (le_of_eq ut) e3,q H2 s2⟩⟩⟩
theorem n8(T:Tx K mg C)(F:Fun K "is_name" "is_name" qC f fd):aO P w K mg base CX0 1 f fd iI ni:=by
 refine F.oq Ji fun _ _ _ _ H _ Q E hr h=>?_
 ·obtain⟨z,rfl,hz,q⟩:=h
  refine⟨_,QSs.h (au (bc (cV (bQ (aJ b8 Zd T.inst boot_isinstance (aj (pv 0) (aj (cR (v:=.ty "str") Zd T.t_str boot_str rfl) ao))))) (az (aF gB)) aL)
   (au (bc (PW.pt (cU (aD Kl (aJ cL Zd T.len boot_len (aj (pv 0) ao)) aq (aG _)) (dI (aD ju (aJ cL Zd T.len boot_len (aj (pv 0) ao)) (qL T.g_MOST_LETTERS) (aG _))))) (az (aF gB)) aL)
   (az (aF (aJ (nP rfl) Zd T.all boot_all (aj (cJ (N:=["sign"]) [none] rfl Zf (zP (pv 0)) (fun cl C fp s H=>(aX (i:=0) (by decide +kernel:(["sign"]:List Str).Nodup) rfl (Or.inl rfl))) (fun cl C fp s H=>cY) (fun cl C fp s H=>(bY uF (pv 0) (Hn T.g_LETTERS) Zd))) ao)))))),?_⟩
  have hz':z.length<=sizeLine:=le_trans hz Za
  refine⟨_,rfl,_,_,_,_,rfl,.str _,cB,_,rfl,bH ?_⟩
  refine⟨_,rfl,_,rfl,hz',_,_,rfl,rfl,_,rfl,dF (fun h1=>pN ?_) (fun h1=>?_)⟩
  ·have e:nmB z=false:=by
    unfold nmB
    rw[decide_eq_false Zb];rfl
   have q':=q H (aB.refl H)
   rw[e]at q'
   exact q'
  refine⟨_,rfl,_,rfl,hz',_,_,rfl,rfl,_,rfl,dF (fun h2=>?_) (fun h2=>?_)⟩
  ·have e:nmB z=false:=by
    unfold nmB
    rw[decide_eq_false (show ¬ z.length<=8 by omega),Bool.and_false];rfl
   have q':=q H (aB.refl H)
   rw[e]at q'
   exact q'
  refine⟨_,rfl,z,rfl,?_⟩
  refine Fe (fun c=>V.bl (inL c)) hz' (fun c H' Q' hc sm k'=>?_) (fun H' sm p hp=>?_)
  ·exact⟨_,rfl,_,_,rfl,rfl,k' _ (aB.refl _)⟩
  ·refine⟨p,z.cps.toList.map inL,rfl,SqL.of (by rw[ak,map_map];rfl),?_⟩
   have e:nmB z=(z.cps.toList.map inL).all id:=by
    unfold nmB
    rw[decide_eq_true (show 1<=z.length by omega),decide_eq_true (show z.length<=8 by omega),all_map];rfl
   rw[e]at q
   exact q _ (sm.put hp)
theorem sX(T:Tx K mg C)(F:Fun K "are_names" "are_names" mL f fd):aO P w K mg base CX0 2 f fd jw FT:=by
 obtain⟨fad,dad,Aad⟩:=T.aad
 have Gad:aO P w K mg base CX0 1 fad dad iI ni:=n8 T Aad.F
 refine F.oq uW fun _ _ _ _ H _ Q E hr h=>?_
 ·obtain⟨z,m,rfl,hz,q⟩:=h
  unfold cW at q
  have hr1:bw 1 _:=hr
  refine⟨_,QSs.h (au (aY (i:=2) uW.nd rfl (Or.inl rfl) (cM plainAttrs_str slot_str_split type_str_split dj (pv 0) (aj aA ao)))
   (az (aF (dZ (bY HR (aJ aW Zd T.len boot_len (aj (pv 2) ao)) (pv 1) (aG _)) (iK (aJ (nP rfl) Zd T.all boot_all (aj (cJ (N:=["name"]) [none] rfl Zf (dH (pv 2)) (fun cl C fp s H=>(aX (i:=0) (by decide +kernel:(["name"]:List Str).Nodup) rfl (Or.inl rfl))) (fun cl C fp s H=>cY) (fun cl C fp s H=>(aV Aad Gad hr1 (aj (pv 0) ao)))) ao))))))),?_⟩
  refine⟨_,rfl,rfl,_,_,rfl,rfl,oZ,le_trans (show z.length+2<=6002 by omega) Za,fun p hp=>?_⟩
  have hlen:=iD z ("." : Str) (le_trans (show z.length+2<=6002 by omega) Za)
  refine⟨_,rfl,p,_,rfl,.inl (SqL.of ak),_,rfl,_,_,rfl,rfl,_,rfl,dF (fun h1=>?_) (fun h1=>?_)⟩
  ·rw[length_map]at h1
   refine⟨_,rfl,p,rfl,⟨_,SqL.of ak⟩,?_⟩
   refine kO (fun v=>match v with|.str y=>.bl (nmB y)|_=>.non) (by rw[length_map];exact hlen) (SqL.of ak) (fun x H' Q' hx sm k'=>?_) (fun H' sm p2 hp2=>?_)
   ·obtain⟨y,hy,rfl⟩:=mem_map.mp hx
    exact⟨_,rfl,y,rfl,le_trans (kW hy) hz,k'⟩
   ·refine⟨p2,(Txt.split z ("." : Str)).map nmB,rfl,SqL.of (by rw[ak,map_map,map_map];rfl),?_⟩
    have e:(decide (((Txt.split z ("." : Str)).length:Int)<=(m:Int))&&(Txt.split z ("." : Str)).all nmB)=((Txt.split z ("." : Str)).map nmB).all id:=by
     rw[decide_eq_true h1,all_map];rfl
    rw[e]at q
    exact q _ (((aB.new hp).trans sm).put hp2)
  ·rw[length_map]at h1
   have q':=q _ (aB.new (o:=.lst ((Txt.split z ("." : Str)).map V.str)) hp)
   rw[decide_eq_false h1]at q'
   exact q'
theorem m6(T:Tx K mg C)(F:Fun K "is_address" "is_address" kj f fd):aO P w K mg base CX0 3 f fd fH rY:=by
 obtain⟨fas,das,Aas⟩:=T.aas
 have Gas:aO P w K mg base CX0 2 fas das jw FT:=sX T Aas.F
 refine F.oq BL fun _ _ _ _ H _ Q E hr h=>?_
 ·obtain⟨z,rfl,hz,q⟩:=h
  have hr2:bw 2 _:=hr
  refine⟨_,QSs.h (az (aF (dZ (aJ b8 Zd T.inst boot_isinstance (aj (pv 0) (aj (cR (v:=.ty "str") Zd T.t_str boot_str rfl) ao))) (iK (aV Aas Gas hr2 (aj (pv 0) (aj (qL T.g_MOST_NAMES) ao))))))),?_⟩
  exact⟨_,rfl,_,_,_,_,rfl,.str _,cB,_,rfl,pN ⟨_,rfl,z,3,rfl,hz,q⟩⟩
theorem Ac(T:Tx K mg C)(F:Fun K "is_number" "is_number" lL f fd):aO P w K mg base CX0 1 f fd lV QQ:=by
 refine F.oq DY fun _ _ _ _ H _ Q E hr h=>?_
 ·obtain⟨z,rfl,hz,q⟩:=h
  refine⟨_,QSs.h (au (bc (PW.pt (cU (aD Kl (aJ cL Zd T.len boot_len (aj (pv 0) ao)) aq (aG _)) (dI (aD ju (aJ cL Zd T.len boot_len (aj (pv 0) ao)) (qL T.g_MOST_FIGURES) (aG _))))) (az (aF gB)) aL)
   (au (bc (PW.pt (cC (aD bB (aU uP (pv 0) aq) aA (aG _)) (cz (aD dM (pv 0) aA (aG _))))) (az (aF gB)) aL)
   (az (aF (aJ (nP rfl) Zd T.all boot_all (aj (cJ (N:=["sign"]) [none] rfl Zf (zP (pv 0)) (fun cl C fp s H=>(aX (i:=0) (by decide +kernel:(["sign"]:List Str).Nodup) rfl (Or.inl rfl))) (fun cl C fp s H=>cY) (fun cl C fp s H=>(bY uF (pv 0) (Hn T.g_FIGURES) Zd))) ao)))))),?_⟩
  have hz':z.length<=sizeLine:=le_trans hz Za
  have q0:=q H (aB.refl H)
  refine⟨_,rfl,_,rfl,hz',_,_,rfl,rfl,_,rfl,dF (fun h1=>pN ?_) (fun h1=>?_)⟩
  ·have e:jC z=false:=by
    unfold jC
    rw[decide_eq_false Zb];rfl
   rw[e]at q0
   exact q0
  refine⟨_,rfl,_,rfl,hz',_,_,rfl,rfl,_,rfl,dF (fun h2=>?_) (fun h2=>?_)⟩
  ·have e:jC z=false:=by
    unfold jC
    rw[decide_eq_false (show ¬ z.length<=20 by omega),Bool.and_false];rfl
   rw[e]at q0
   exact q0
  cases hcs:z.cps.toList with
  | nil=>exact absurd (by rw[bZ,hcs];rfl:z.length=0) Zb
  | cons c0 cr =>
  have hat:atI z.cps.toList 0=some c0:=bL (j:=0) (by rw[hcs];rfl)
  have rest:jC z=(z.cps.toList.map inF).all id->KQ (tCB (RK K fun bs=>bs.all id) (xq (HX [none] (Tz (xY 0)) (dC 0) qW (tOp (fun x y H Q=>∃ i j,x=.str i/\y=.str j/\Q (.bl (!(Builtin.Str.occurrences j i 0 j.length 1).isEmpty)) H) (xY 0) (tC (.str NT)))) FQ))
    {nx:=fun _ H'=>Q .non H',rt:=Q} (start ["word"] [V.str z]) H:=fun e=>by
   refine⟨_,rfl,z,rfl,?_⟩
   refine Fe (fun c=>V.bl (inF c)) hz' (fun c H' Q' hc sm k'=>?_) (fun H' sm p hp=>?_)
   ·exact⟨_,rfl,_,_,rfl,rfl,k' _ (aB.refl _)⟩
   ·refine⟨p,z.cps.toList.map inF,rfl,SqL.of (by rw[ak,map_map];rfl),?_⟩
    rw[e]at q
    exact q _ (sm.put hp)
  have hnum:jC z=(!(decide (c0=48) && !decide (z=zero))&&(z.cps.toList.map inF).all id):=by
   unfold jC
   rw[decide_eq_true (show 1<=z.length by omega),decide_eq_true (show z.length<=20 by omega),all_map,hcs]
   have:decide ((c0::cr).head? = some 48)=decide (c0=48):=by
    by_cases h:c0=48
    ·rw[decide_eq_true h,decide_eq_true (by rw[h];rfl)]
    ·rw[decide_eq_false h,decide_eq_false (fun z=>h (by simpa using z))]
   rw[this]
   rfl
  refine⟨_,rfl,z,_,c0,rfl,rfl,hz',hat,rfl,_,rfl,dF (fun h3=>?_) (fun h3=>?_)⟩
  ·have hc:c0=48:=by
    have e:(⟨#[c0]⟩:Str)=("0" : Str):=V.str.inj h3
    have e2:=congrArg (fun x:Str=>x.cps.toList) e
    have e3:(("0" : Str)).cps.toList=[48]:=by decide +kernel
    rw[e3]at e2
    simpa using e2
   by_cases hz0:z=zero
   ·have hv:V.str z=V.str "0" := congrArg V.str hz0
    refine⟨_,rfl,rfl,_,rfl,jA (decide_eq_true hv) (rest ?_)⟩
    rw[hnum,decide_eq_true hz0,Bool.not_true,Bool.and_false];rfl
   ·have hv:¬V.str z=V.str "0" := fun e=>hz0 (V.str.inj e)
    refine⟨_,rfl,rfl,_,rfl,iC (decide_eq_false hv) ?_⟩
    rw[hnum,decide_eq_true hc,decide_eq_false hz0]at q0
    exact q0
  ·have hc:¬c0=48:=fun e=>h3 (by subst e;exact congrArg V.str (cO Ze))
   refine bH (rest ?_)
   rw[hnum,decide_eq_false hc];rfl
theorem Ak(T:Tx K mg C)(F:Fun K "read_path" "read_path" lJ f fd):aO P w K mg base (CX1 P w) 3 f fd mz (HH C):=by
 obtain⟨fas,das,Aas⟩:=T.aas
 have Gas:aO P w K mg base CX0 2 fas das jw FT:=sX T Aas.F
 refine F.oqX Dt fun _ _ _ _ H _ Q E hr h=>?_
 ·obtain⟨z,rfl,hz,q,qx⟩:=h
  have hr2:bw 2 _:=hr
  refine⟨_,QSs.h (au (bc (cV (bQ (aV Aas Gas hr2 (aj (pv 0) (aj (qL T.g_MOST_STEPS) ao))))) (az (fU bW rfl (nU T.x_NoExpr T.i_NoExpr T.k_NoExpr Zd T.c_NoExpr (aj aA ao)))) aL)
   (az (aF (bR nA Zd T.t_tuple boot_tuple (aj (cM plainAttrs_str slot_str_split type_str_split dj (pv 0) (aj aA ao)) ao))))),?_⟩
  refine⟨_,rfl,z,4,rfl,hz,fun H1 s1=>⟨_,rfl,?_⟩⟩
  cases e:cW 4 z with
  | false=>exact iC rfl ⟨rfl,fun x hx=>⟨x,_,_,rfl,ak,T.x_NoExpr,((qx e).on s1).go hx⟩⟩
  | true =>
   obtain⟨ys,g,ez⟩:=Gs.mp e
   have hsp:=cZ ys g.lo g.nm
   refine jA rfl ?_
   refine⟨_,rfl,rfl,_,_,rfl,rfl,oZ,le_trans (show z.length+2<=6002 by omega) Za,fun p hp=>?_⟩
   refine⟨p,_,rfl,.inl ⟨SqL.of ak,fun r hr'=>?_⟩⟩
   refine q ys g ez r _ ((s1.put hp).put hr') ?_
   rw[ak,ez,hsp]
theorem An(T:Tx K mg C)(F:Fun K "read_term" "read_term" mU f fd):aO P w K mg base (CX1 P w) 4 f fd mJ (Ck C):=by
 obtain⟨fbw,dbw,Abw⟩:=T.abw
 have Gbw:aO P w K mg base CX0 1 fbw dbw lV QQ:=Ac T Abw.F
 obtain⟨fa3,da3,Aa3⟩:=T.aa3
 have Ga3:aO P w K mg base (CX1 P w) 3 fa3 da3 mz (HH C):=Ak T Aa3.F
 refine F.oqX Dn fun _ _ _ _ H _ Q E hr h=>?_
 ·obtain⟨sg,z,rfl,hz,q,qx⟩:=h
  have hr1:bw 1 _:=hr.mono Za
  have hr3:bw 3 _:=hr
  refine⟨_,QSs.h (au (bc (bQ (aV Abw Gbw hr1 (aj (pv 1) ao))) (az (aF (bT (aj (pv 0) (aj aA (aj (bR tV Zd T.t_int boot_int (aj (pv 1) ao)) ao)))))) aL)
   (au (bc (bQ (cM plainAttrs_str PySem.F.slot_str_endswith PySem.F.type_str_endswith Ew (pv 1) (aj aA ao))) (az (aF (bT (aj (pv 0) (aj aA (aj (gU Aa3 Ga3 hr3 bW (aj (bF pA (pv 1) bN (bJ (Er yc aq))) ao)) ao)))))) aL)
   (az (aF (bT (aj (pv 0) (aj aA (aj (gU Aa3 Ga3 hr3 bW (aj (pv 1) ao)) ao)))))))),?_⟩
  refine⟨_,rfl,z,rfl,Zb,fun H1 s1=>⟨_,rfl,?_⟩⟩
  cases en:jC z with
  | true =>
   obtain⟨m,hm,ez⟩:=wA en
   obtain⟨n1,n2,n3,n4⟩:=jQ hm
   refine bh rfl ?_
   refine⟨_,rfl,_,rfl,z,_,rfl,by rw[ez];exact n4,by rw[ez];omega,by show 3<=sizeLine;decide,fun p hp=>?_⟩
   exact q (.num m) hm ez _ _ (s1.put hp) ⟨p,_,rfl,ak,rfl⟩
  | false =>
   refine aP rfl ⟨_,rfl,rfl,_,_,rfl,rfl,_,rfl,?_⟩
   cases ee:Txt.endswith z ("()" : Str)with
   | true =>
    obtain⟨a,ea⟩:=ends_app (show Txt.endswith z brk=true from ee)
    subst ea
    have hla:a.length+2<=6000:=by rw[bM,kI]at hz;exact hz
    refine bh rfl ?_
    refine⟨_,rfl,_,rfl,_,rfl,_,rfl,_,rfl,le_trans hz Za,a,congrArg (fun t=>[V.str t]) (w6 a Zb),Zb,fun ys g e p2 H2 s2 hp2=>?_,fun e=>(qx (tM en e)).on s1⟩
    refine⟨by show 3<=sizeLine;decide,fun p hp=>?_⟩
    exact q (.nms true ys) g (by rw[e];rfl) _ _ ((s1.trans s2).put hp) ⟨p,_,rfl,ak,p2,rfl,(aB.new hp) _ _ hp2⟩
   | false =>
    refine aP rfl ?_
    refine⟨_,rfl,_,rfl,z,rfl,hz,fun ys g e p2 H2 s2 hp2=>?_,fun e=>(qx (qF en ee e)).on s1⟩
    refine⟨by show 3<=sizeLine;decide,fun p hp=>?_⟩
    exact q (.nms false ys) g e _ _ ((s1.trans s2).put hp) ⟨p,_,rfl,ak,p2,rfl,(aB.new hp) _ _ hp2⟩
theorem Ax(T:Tx K mg C)(F:Fun K "read_sign" "read_sign" lY f fd):aO P w K mg base (CX1 P w) 1 f fd mH (Hs C):=by
 refine F.oqX Fb fun _ _ _ _ H _ Q E hr h=>?_
 ·obtain⟨z,rfl,q,qx⟩:=h
  refine⟨_,QSs.h (au (bc (aD bB (pv 0) aA (aG _)) (az (aF aq)) aL)
   (au (bc (aD bB (pv 0) aA (aG _)) (az (aF (Er yc aq))) aL)
   (az (fU bW rfl (nU T.x_NoExpr T.i_NoExpr T.k_NoExpr Zd T.c_NoExpr (aj aA ao)))))),?_⟩
  refine⟨_,rfl,rfl,_,rfl,?_⟩
  by_cases e1:z = "+"
  ·exact bh (decide_eq_true (congrArg V.str e1)) (q 1 (.inl rfl) e1 H (aB.refl H))
  refine aP (decide_eq_false fun k=>e1 (V.str.inj k)) ⟨_,rfl,rfl,_,rfl,?_⟩
  by_cases e2:z = "-"
  ·exact bh (decide_eq_true (congrArg V.str e2)) ⟨_,rfl,q (-1) (.inr rfl) e2 H (aB.refl H)⟩
  refine aP (decide_eq_false fun k=>e2 (V.str.inj k)) ⟨rfl,fun x hx=>⟨x,_,_,rfl,ak,T.x_NoExpr,(qx ?_).go hx⟩⟩
  rintro⟨s,hs,k⟩
  rcases hs with rfl|rfl
  ·exact e1 k
  ·exact e2 k
theorem Ah(T:Tx K mg C)(F:Fun K "read_expr" "read_expr" lN f fd):aO P w K mg base (CX1 P w) 5 f fd mK (Ho C):=by
 obtain⟨faz,daz,Aaz⟩:=T.aaz
 have Gaz:aO P w K mg base (CX1 P w) 4 faz daz mJ (Ck C):=An T Aaz.F
 obtain⟨fbc,dbc,Abc⟩:=T.abc
 have Gbc:aO P w K mg base (CX1 P w) 1 fbc dbc mH (Hs C):=Ax T Abc.F
 refine F.oqX lE fun _ _ _ _ H _ Q E hr h=>?_
 ·obtain⟨z,rfl,hz,q,qx⟩:=h
  have hr1:bw 1 _:=hr.mono Za
  have hr4:bw 4 _:=hr
  refine⟨_,QSs.h (au (bc (cV (bQ (aJ b8 Zd T.inst boot_isinstance (aj (pv 0) (aj (cR (v:=.ty "str") Zd T.t_str boot_str rfl) ao))))) (az (fU bW rfl (nU T.x_NoExpr T.i_NoExpr T.k_NoExpr Zd T.c_NoExpr (aj aA ao)))) aL)
   (au (aY (i:=1) lE.nd rfl (Or.inl rfl) (cM plainAttrs_str slot_str_split type_str_split dj (pv 0) (aj aA ao)))
   (au (bc (aD bB (aH d8 (aJ aW Zd T.len boot_len (aj (pv 1) ao)) aq) aq (aG _)) (az (fU bW rfl (nU T.x_NoExpr T.i_NoExpr T.k_NoExpr Zd T.c_NoExpr (aj aA ao)))) aL)
   (au (bc (aD ju (aJ aW Zd T.len boot_len (aj (pv 1) ao)) (aH rG (aH jB aq (qL T.g_MOST_TERMS)) aq) (aG _)) (az (fU bW rfl (nU T.x_NoExpr T.i_NoExpr T.k_NoExpr Zd T.c_NoExpr (aj aA ao)))) aL)
   (au (aY (i:=2) lE.nd rfl (Or.inl rfl) (bI (aj (gU Aaz Gaz hr4 bW (aj aq (aj (aU aN (pv 1) aq) ao))) ao)))
   (au (lB PassesOwn.leaving rfl (zu Zd T.range (aj aq (aj (aJ aW Zd T.len boot_len (aj (pv 1) ao)) (aj aq ao)))) (aX (i:=3) lE.nd rfl (Or.inl rfl))
   (az (fM (cM plainAttrs_list PySem.F.slot_list_append PySem.F.type_list_append gq (pv 2) (aj (gU Aaz Gaz hr4 bW (aj (gU Abc Gbc hr1 bW (aj (aU aN (pv 1) (pv 3)) ao)) (aj (aU aN (pv 1) (aH b7 (pv 3) aq)) ao))) ao)))))
   (az (aF (pv 2))))))))),?_⟩
  refine⟨_,rfl,_,_,_,_,rfl,.str _,cB,_,rfl,bH ?_⟩
  refine⟨_,rfl,rfl,_,_,rfl,rfl,iG,le_trans (show z.length+2<=6002 by omega) Za,fun p hp=>?_⟩
  have hmem:∀ w∈Txt.split z (" " : Str),w.length<=6000:=fun w hw=>le_trans (pU hw) hz
  generalize Txt.split z (" " : Str)=ws at q qx hmem
  have s1:aB H (upd H p (.lst (ws.map V.str))):=aB.new hp
  have hp1:upd H p (.lst (ws.map V.str)) p=some (.lst (ws.map V.str)):=ak
  generalize upd H p (.lst (ws.map V.str))=H1 at s1 hp1
  refine⟨_,rfl,p,_,rfl,.inl (SqL.of hp1),_,_,rfl,rfl,(by show(0:Int)<2;decide),rfl,_,rfl,iw (fun h=>?_) (fun ho=>?_)⟩
  ·rw[length_map]at h
   exact⟨rfl,fun x hx=>⟨x,_,_,rfl,ak,T.x_NoExpr,((qx fun k=>by have:=(qu k).1;omega).on s1).go hx⟩⟩
  rw[length_map]at ho
  refine⟨_,rfl,p,_,rfl,.inl (SqL.of hp1),_,_,rfl,rfl,.inl ⟨Za,Za⟩,_,_,rfl,rfl,_,_,rfl,rfl,_,rfl,dF (fun h=>?_) (fun h11=>?_)⟩
  ·rw[length_map]at h
   exact⟨rfl,fun x hx=>⟨x,_,_,rfl,ak,T.x_NoExpr,((qx fun k=>by have:=(qu k).2;omega).on s1).go hx⟩⟩
  rw[length_map]at h11
  obtain⟨k,hk,hk5⟩:∃ k,ws.length=2*k+1/\k<=5:=⟨ws.length / 2,Zb,Zb⟩
  have hw0:ws[0]? = some (ws[0]'Zb):=getElem?_eq_getElem Zb
  generalize ws[0]'Zb=w0 at hw0
  refine⟨_,rfl,p,_,_,V.str w0,rfl,rfl,SqL.of hp1,bL (j:=0) (by rw[getElem?_map,hw0];rfl),1,w0,rfl,hmem w0 (mem_of_getElem? hw0),fun th0 g0 e0 v0 H2 s2 hv0=>⟨by show 1<=sizeLine;decide,fun l hl=>?_⟩,fun b=>(qx fun r=>b (qj r (i:=0) hw0)).on s1⟩
  have hfree:H l=none:=s1.free (s2.free hl)
  have hp2:H2 p=some (.lst (ws.map V.str)):=s2 _ _ hp1
  have hsize:Builtin.Range.rangeSize 1 ((ws.map V.str).length:Int) 2=(k:Int):=by
   rw[length_map,hk]
   unfold Builtin.Range.rangeSize
   rw[if_pos Za]
   split <;> omega
  refine⟨_,rfl,p,_,rfl,.inl (SqL.of ((aB.new hl) _ _ hp2)),1,_,2,rfl,Za,Za,?_,by rw[hsize];omega,?_⟩
  ·rw[length_map]
   exact JP Zb
  rw[hsize,Int.toNat_natCast]
  refine yf (fun i σ H'=>∃ v3 xs ts,σ=[some (.str z),some (.ref p),some (.ref l),v3]/\aB H2 H'/\H' l=some (.lst xs)/\xs.length=ts.length/\zz ws i ts/\∀ (j:Nat) x,xs[j]? = some x->∃ t,ts[j]? = some t/\gG H' x t)
   ⟨none,[v0],[⟨1,th0⟩],rfl,aB.new hl,ak,rfl,.first g0 (by rw[hw0,e0]),fun j x hj=>?_⟩ ?_ ?_
  ·cases j with
   | zero=>cases hj;exact⟨_,rfl,hv0.same (aB.new hl)⟩
   | succ j=>simp at hj
  ·rintro i σ H3 hi ⟨v3,xs,ts,rfl,sm,h3l,hxl,rd,hx⟩
   have hw1:ws[2*i+1]? = some (ws[2*i+1]'Zb):=getElem?_eq_getElem Zb
   have hw2:ws[2*i+2]? = some (ws[2*i+2]'Zb):=getElem?_eq_getElem Zb
   generalize ws[2*i+1]'Zb=w1 at hw1
   generalize ws[2*i+2]'Zb=w2 at hw2
   have hp3:H3 p=some (.lst (ws.map V.str)):=sm _ _ hp2
   have s03:aB H H3:=s1.trans (s2.trans sm)
   have a1:atI (ws.map V.str) (1+(i:Nat)*2)=some (V.str w1):=by
    have:=bL (xs:=ws.map V.str) (j:=2*i+1) (v:=V.str w1) (by rw[getElem?_map,hw1];rfl)
    rwa [show(((2*i+1:Nat)):Int)=1+(i:Nat)*2 from by omega]at this
   have a2:atI (ws.map V.str) (1+(i:Nat)*2+1)=some (V.str w2):=by
    have:=bL (xs:=ws.map V.str) (j:=2*i+2) (v:=V.str w2) (by rw[getElem?_map,hw2];rfl)
    rwa [show(((2*i+2:Nat)):Int)=1+(i:Nat)*2+1 from by omega]at this
   refine⟨_,rfl,.inl ⟨rfl,_,SqL.of h3l⟩,_,rfl,_,rfl,p,_,_,_,rfl,rfl,SqL.of hp3,a1,w1,rfl,fun s hs es H4 s4=>?_,fun b=>(qx fun r=>b (HB r hw1)).on s03⟩
   refine⟨_,rfl,_,rfl,_,_,rfl,rfl,p,_,_,_,rfl,rfl,SqL.of (s4 _ _ hp3),a2,s,w2,rfl,hmem w2 (mem_of_getElem? hw2),fun th g e v H5 s5 hv=>?_,fun b=>(qx fun r=>b (qj r (i:=i+1) hw2)).on (s03.trans s4)⟩
   have s35:=s4.trans s5
   have h5l:H5 l=some (.lst xs):=s35 _ _ h3l
   have tl:=rd.lo
   refine⟨l,_,_,rfl,rfl,h5l,lt_of_lt_of_le (show xs.length<1000 by omega) dJ,?_⟩
   refine⟨_,xs++[v],ts++[⟨s,th⟩],rfl,(sm.trans s35).over hl,ak,by rw[length_append,length_append,hxl];rfl,rd.next hs g (by rw[hw1,es]) (by rw[hw2,e]),fun j x hj=>?_⟩
   by_cases hjx:j<xs.length
   ·rw[getElem?_append_left hjx]at hj
    obtain⟨t,ht,tm⟩:=hx j x hj
    exact⟨t,by rw[getElem?_append_left Zb];exact ht,(tm.same s35).upd h5l⟩
   ·rw[getElem?_append_right Zb]at hj
    have hj0:j=xs.length:=by
     cases hh:j - xs.length with
     | zero=>omega
     | succ k=>rw[hh]at hj;simp at hj
    subst hj0
    rw[sub_self]at hj
    have:v=x:=by simpa using hj
    subst this
    exact⟨_,by rw[getElem?_append_right Zb,hxl,sub_self];rfl,gG.upd hv h5l⟩
  ·rintro σ H3 ⟨v3,xs,ts,rfl,sm,h3l,hxl,rd,hx⟩
   obtain⟨gs,ew⟩:=rd.all hk hk5
   exact⟨_,rfl,q ts gs ew l H3 hfree (s1.trans (s2.trans sm)) ⟨xs,h3l,hxl,hx⟩⟩
theorem CP(T:Tx K mg C)(F:Fun K "has_call" "has_call" pD f fd):aO P w K mg base CX0 1 f fd pG QR:=by
 refine F.oq Gi fun _ _ _ _ H _ Q E hr h=>?_
 ·obtain⟨l,ts,rfl,⟨xs,hl,hxl,hx⟩,h10,q⟩:=h
  refine⟨_,QSs.h (az (aF (aJ (Lq rfl) Zd T.any PyProof.Rows.boot_any (aj (cJ (N:=["term"]) [none] rfl Zf (dH (pv 0)) (fun cl C fp s H=>(aX (i:=0) (by decide +kernel:(["term"]:List Str).Nodup) rfl (Or.inl rfl))) (fun cl C fp s H=>cY) (fun cl C fp s H=>(bY bB (aU (tY (K:=K) rfl) (pv 0) aq) aA (aG _)))) ao)))),?_⟩
  refine⟨_,rfl,l,rfl,⟨_,SqL.of hl⟩,?_⟩
  refine iH (xs:=xs) (fun i=>V.bl ((ts[i]?).elim false isCall)) (le_trans (show xs.length<=1000 by omega) dJ) (SqL.of hl) (fun i x H' Q' ex sm k'=>?_) (fun H' sm p hp=>?_)
  ·obtain⟨t,et,tm⟩:=hx i x ex
   obtain⟨a,y,rfl,ha,_⟩:=tm.same sm
   have hk:=k' H' (aB.refl _)
   rw[et]at hk
   have hk':Q' (V.bl (isCall t)) H':=hk
   rw[<- yE]at hk'
   exact⟨_,rfl,a,_,_,V.str (kindOf t.th),rfl,rfl,SqT.of ha,rfl,rfl,hk'⟩
  ·refine⟨p,(List.range xs.length).map fun i=>(ts[i]?).elim false isCall,rfl,SqL.of (by rw[ak,map_map];rfl),?_⟩
   have q':=q _ (sm.put (o:=.lst ((List.range xs.length).map fun i=>V.bl ((ts[i]?).elim false isCall))) hp)
   rw[<- any_range,<- hxl]at q'
   exact q'
theorem yh(T:Tx K mg C)(F:Fun K "names_expr" "names_expr" jH f fd):aO P w K mg base CX0 2 f fd km Ql:=by
 obtain⟨fad,dad,Aad⟩:=T.aad
 have Gad:aO P w K mg base CX0 1 fad dad iI ni:=n8 T Aad.F
 refine F.oq Az fun _ _ _ _ H _ Q E hr h=>?_
 ·obtain⟨l,ws,rfl,hl,hw,q⟩:=h
  have hr1:bw 1 _:=hr
  refine⟨_,QSs.h (az (aF (dZ (bY ju (aJ aW Zd T.len boot_len (aj (pv 0) ao)) aq (aG _)) (dZ (aV Aad Gad hr1 (aj (aU aN (pv 0) aq) ao)) (iK (bY bB (aU aN (pv 0) aq) aA (aG _))))))),?_⟩
  refine⟨_,rfl,l,_,rfl,.inl (SqL.of hl),_,_,rfl,rfl,_,rfl,?_⟩
  rw[length_map]
  by_cases h3:3<ws.length
  ·refine bh (decide_eq_true Zb) ?_
   refine⟨_,rfl,l,_,_,_,rfl,rfl,SqL.of hl,aZ (i:=1) Zb,wAt ws 1,rfl,hw.len (cG Zb),fun H1 s1=>⟨_,rfl,?_⟩⟩
   have q':=q H1 s1
   unfold neB at q'
   rw[decide_eq_true h3,Bool.true_and]at q'
   cases e1:nmB (wAt ws 1)with
   | false =>
    rw[e1]at q'
    exact aP rfl q'
   | true =>
    rw[e1,Bool.true_and]at q'
    refine bh rfl ⟨_,rfl,l,_,_,_,rfl,rfl,SqL.of (s1 _ _ hl),aZ (i:=2) Zb,rfl,?_⟩
    rw[lH]
    exact q'
  ·have q':=q H (aB.refl H)
   unfold neB at q'
   rw[decide_eq_false h3,Bool.false_and]at q'
   have e:decide ((ws.length:Int)>3)=false:=decide_eq_false Zb
   rw[e]
   exact aP rfl q'
theorem uJ(T:Tx K mg C)(F:Fun K "names_address" "names_address" gh f fd):aO P w K mg base CX0 4 f fd fX Qm:=by
 obtain⟨fah,dah,Aah⟩:=T.aah
 have Gah:aO P w K mg base CX0 3 fah dah fH rY:=m6 T Aah.F
 obtain⟨fad,dad,Aad⟩:=T.aad
 have Gad:aO P w K mg base CX0 1 fad dad iI ni:=n8 T Aad.F
 refine F.oq vG fun _ _ _ _ H _ Q E hr h=>?_
 ·obtain⟨l,ws,rfl,hl,hw,q⟩:=h
  have hr1:bw 1 _:=hr.mono Za
  have hr3:bw 3 _:=hr
  refine⟨_,QSs.h (az (aF (dZ (bY bB (aJ aW Zd T.len boot_len (aj (pv 0) ao)) aq (aG _)) (dZ (aV Aah Gah hr3 (aj (aU aN (pv 0) aq) ao)) (dZ (bY bB (aU aN (pv 0) aq) aA (aG _)) (iK (aV Aad Gad hr1 (aj (aU aN (pv 0) aq) ao)))))))),?_⟩
  refine⟨_,rfl,l,_,rfl,.inl (SqL.of hl),rfl,_,rfl,?_⟩
  rw[length_map,show decide (V.int (ws.length:Int)=V.int 4)=decide (ws.length=4)from jN (m:=4)]
  by_cases h4:ws.length=4
  ·rw[decide_eq_true h4]
   refine bh rfl ?_
   refine⟨_,rfl,l,_,_,_,rfl,rfl,SqL.of hl,aZ (i:=1) Zb,wAt ws 1,rfl,hw.len (cG Zb),fun H1 s1=>⟨_,rfl,?_⟩⟩
   have q1:∀ H',aB H H'->Q (.bl (naB ws)) H':=q
   unfold naB at q1
   rw[decide_eq_true h4,Bool.true_and]at q1
   cases e1:cW 3 (wAt ws 1)with
   | false =>
    rw[e1]at q1
    exact aP rfl (q1 H1 s1)
   | true =>
    rw[e1,Bool.true_and]at q1
    refine bh rfl ⟨_,rfl,l,_,_,_,rfl,rfl,SqL.of (s1 _ _ hl),aZ (i:=2) Zb,rfl,_,rfl,?_⟩
    rw[lH]
    cases e2:decide (wAt ws 2 = "as")with
    | false =>
     rw[e2]at q1
     exact aP rfl (q1 H1 s1)
    | true =>
     rw[e2,Bool.true_and]at q1
     exact bh rfl ⟨_,rfl,l,_,_,_,rfl,rfl,SqL.of (s1 _ _ hl),aZ (i:=3) Zb,wAt ws 3,rfl,hw.len (cG Zb),fun H2 s2=>q1 H2 (s1.trans s2)⟩
  ·have q':=q H (aB.refl H)
   unfold naB at q'
   rw[decide_eq_false h4,Bool.false_and]at q'
   rw[decide_eq_false h4]
   exact aP rfl q'
theorem yC(T:Tx K mg C)(F:Fun K "names_word" "names_word" jX f fd):aO P w K mg base CX0 4 f fd jT QJ:=by
 obtain⟨fad,dad,Aad⟩:=T.aad
 have Gad:aO P w K mg base CX0 1 fad dad iI ni:=n8 T Aad.F
 obtain⟨fah,dah,Aah⟩:=T.aah
 have Gah:aO P w K mg base CX0 3 fah dah fH rY:=m6 T Aah.F
 refine F.oq Al fun _ _ _ _ H _ Q E hr h=>?_
 ·obtain⟨l,ws,rfl,hl,hw,q⟩:=h
  have hr1:bw 1 _:=hr.mono Za
  have hr3:bw 3 _:=hr
  refine⟨_,QSs.h (au (bc (PW.pt (cU (aD dM (aJ aW Zd T.len boot_len (aj (pv 0) ao)) aq (aG _)) (cU (aD dM (aU aN (pv 0) aq) aA (aG _)) (dI (aD dM (aU aN (pv 0) aq) aA (aG _)))))) (az (aF gB)) aL)
   (az (aF (dZ (aV Aad Gad hr1 (aj (aU aN (pv 0) aq) ao)) (dZ (aV Aah Gah hr3 (aj (aU aN (pv 0) aq) ao)) (iK (aV Aad Gad hr1 (aj (aU aN (pv 0) aq) ao)))))))),?_⟩
  refine⟨_,rfl,l,_,rfl,.inl (SqL.of hl),rfl,_,rfl,?_⟩
  rw[length_map,show decide (V.int (ws.length:Int)=V.int 6)=decide (ws.length=6)from jN (m:=6)]
  have q1:∀ H',aB H H'->Q (.bl (nwB ws)) H':=q
  unfold nwB at q1
  by_cases h6:ws.length=6
  ·rw[decide_eq_true h6]
   rw[decide_eq_true h6,Bool.true_and]at q1
   refine aP (show(!true)=false from rfl) ?_
   refine⟨_,rfl,l,_,_,_,rfl,rfl,SqL.of hl,aZ (i:=2) Zb,rfl,_,rfl,?_⟩
   rw[lH]
   cases e1:decide (wAt ws 2 = "from")with
   | false =>
    rw[e1]at q1
    exact q1 H (aB.refl H)
   | true =>
    rw[e1,Bool.true_and]at q1
    refine aP (show(!true)=false from rfl) ?_
    refine⟨_,rfl,l,_,_,_,rfl,rfl,SqL.of hl,aZ (i:=4) Zb,rfl,_,rfl,?_⟩
    rw[lH]
    cases e2:decide (wAt ws 4 = "as")with
    | false =>
     rw[e2]at q1
     exact q1 H (aB.refl H)
    | true =>
     rw[e2,Bool.true_and]at q1
     refine aP (show(!true)=false from rfl) ?_
     refine⟨_,rfl,l,_,_,_,rfl,rfl,SqL.of hl,aZ (i:=1) Zb,wAt ws 1,rfl,hw.len (cG Zb),fun H1 s1=>⟨_,rfl,?_⟩⟩
     cases e3:nmB (wAt ws 1)with
     | false =>
      rw[e3]at q1
      exact aP rfl (q1 H1 s1)
     | true =>
      rw[e3,Bool.true_and]at q1
      refine bh rfl ⟨_,rfl,l,_,_,_,rfl,rfl,SqL.of (s1 _ _ hl),aZ (i:=3) Zb,wAt ws 3,rfl,hw.len (cG Zb),fun H2 s2=>⟨_,rfl,?_⟩⟩
      cases e4:cW 3 (wAt ws 3)with
      | false =>
       rw[e4]at q1
       exact aP rfl (q1 H2 (s1.trans s2))
      | true =>
       rw[e4,Bool.true_and]at q1
       exact bh rfl ⟨_,rfl,l,_,_,_,rfl,rfl,SqL.of (s2 _ _ (s1 _ _ hl)),aZ (i:=5) Zb,wAt ws 5,rfl,hw.len (cG Zb),fun H3 s3=>q1 H3 (s1.trans (s2.trans s3))⟩
  ·rw[decide_eq_false h6]
   rw[decide_eq_false h6,Bool.false_and]at q1
   exact q1 H (aB.refl H)
theorem yo(T:Tx K mg C)(F:Fun K "terms_from" "terms_from" jO f fd):aO P w K mg base (CX1 P w) 6 f fd jD (QC C):=by
 obtain⟨fa6,da6,Aa6⟩:=T.aa6
 have Ga6:aO P w K mg base (CX1 P w) 5 fa6 da6 mK (Ho C):=Ah T Aa6.F
 refine F.oqX BZ fun _ _ _ _ H _ Q E hr h=>?_
 ·obtain⟨l,k,ws,rfl,hl,hw,q,qx⟩:=h
  have hr5:bw 5 _:=hr
  refine⟨_,QSs.h (az (aF (gU Aa6 Ga6 hr5 bW (aj (cM plainAttrs_str slot_str_join type_str_join gO aA (aj (bF cj (pv 0) (bJ (pv 1)) bN) ao)) ao)))),?_⟩
  have hd:=hw.drop k
  have ec:dO (ws.map V.str) (some (k:Int)) none=(ws.drop k).map V.str:=by rw[tO,<- map_drop]
  refine⟨rfl,_,rfl,_,rfl,_,rfl,l,_,rfl,SqL.of hl,fun p hp=>?_⟩
  refine⟨_,p,ws.drop k,rfl,rfl,.inl (SqL.of (ak.trans (congrArg (fun z=>some (HO.lst z)) ec))),by rw[wy];omega,?_⟩
  by_cases hn:ws.drop k=[]
  ·refine⟨_,rfl,?_,fun ts g e=>?_,fun _=>(qx fun r=>Rh r hn).on (aB.new hp)⟩
   ·rw[hn];decide +kernel
   ·rw[hn,Tp]at e
    exact absurd ⟨ts,g,e⟩ Kd
  ·refine⟨_,rfl,?_,fun ts g e l' H' hl' s' ht=>?_,fun r=>(qx ?_).on (aB.new hp)⟩
   ·have:=uq hn;omega
   ·rw[wQ hw hn]at e
    exact q ts g e l' H' ((aB.new hp).free hl') ((aB.new hp).trans s') ht
   ·rwa [wQ hw hn]at r
theorem Gq(T:Tx K mg C)(F:Fun K "deed_of" "deed_of" qT f fd):aO P w K mg base CX0 3 f fd qP (Qy C):=by
 obtain⟨fbn,dbn,Abn⟩:=T.abn
 have Gbn:aO P w K mg base CX0 1 fbn dbn pG QR:=CP T Abn.F
 obtain⟨fb8,db8,Ab8,M_Deed⟩:=T.i_Deed
 have Gb8:aO P w K mg base CX0 1 fb8 db8 jE (zQ C 1):=rK T Ab8.F
 refine F.oq JX fun _ _ _ _ H _ Q E hr h=>?_
 ·obtain⟨nn,d,ts,rfl,hg,htd,q,qn⟩:=h
  have hr1:bw 1 _:=hr.mono Za
  have hr2:bw 2 _:=hr
  refine⟨_,QSs.h (au (bc (bQ (aV Abn Gbn hr1 (aj (pv 1) ao))) (az (aF fG)) aL)
   (az (aF (u9 M_Deed Ab8.b Gb8 hr2 T.c_Deed (aj (pv 0) (aj (pv 1) ao)))))),?_⟩
  have h6:ts.length<=10:=le_trans hg.hi Za
  refine⟨_,rfl,d,ts,rfl,htd,h6,fun H1 s1=>⟨_,rfl,?_⟩⟩
  cases e:ts.any isCall with
  | true=>exact bh rfl (qn e H1 s1)
  | false =>
   refine aP rfl ?_
   exact⟨_,rfl,_,rfl,fun x dx hx hdx hne=>⟨x,dx,⟨1,nn,a1,a1,ts⟩,d,rfl,rfl,ak,(htd.same s1).same (d9 hx hdx),h6,fun l H' hl sb ra=>⟨rfl,q e x l H' (s1.trans fun b o e=>sb b o (d9 hx hdx b o e) (aK e hx)) (s1.free hx) (s1.free ((d9 hx hdx).free hl)) ra⟩⟩⟩
theorem JG(T:Tx K mg C)(F:Fun K "row_of" "row_of" tL f fd):aO P w K mg base (CX1 P w) 7 f fd tZ (QW C):=by
 obtain⟨fa1,da1,Aa1⟩:=T.aa1
 have Ga1:aO P w K mg base CX0 2 fa1 da1 km Ql:=yh T Aa1.F
 obtain⟨fbb,dbb,Abb⟩:=T.abb
 have Gbb:aO P w K mg base CX0 3 fbb dbb qP (Qy C):=Gq T Abb.F
 obtain⟨fa4,da4,Aa4⟩:=T.aa4
 have Ga4:aO P w K mg base CX0 4 fa4 da4 fX Qm:=uJ T Aa4.F
 obtain⟨fba,dba,Aba⟩:=T.aba
 have Gba:aO P w K mg base CX0 4 fba dba jT QJ:=yC T Aba.F
 obtain⟨faw,daw,Aaw⟩:=T.aaw
 have Gaw:aO P w K mg base (CX1 P w) 6 faw daw jD (QC C):=yo T Aaw.F
 obtain⟨fbz,dbz,Abz,M_Draw⟩:=T.i_Draw
 have Gbz:aO P w K mg base CX0 1 fbz dbz jW (Aj C 2):=rF T Abz.F
 obtain⟨fb4,db4,Ab4,M_Late⟩:=T.i_Late
 have Gb4:aO P w K mg base CX0 1 fb4 db4 kJ (Aj C 3):=rZ T Ab4.F
 obtain⟨fb7,db7,Ab7,M_Let⟩:=T.i_Let
 have Gb7:aO P w K mg base CX0 1 fb7 db7 mQ (zQ C 0):=ux T Ab7.F
 obtain⟨fb0,db0,Ab0,M_Need⟩:=T.i_Need
 have Gb0:aO P w K mg base CX0 1 fb0 db0 jJ (Mp C):=rT T Ab0.F
 obtain⟨fb9,db9,Ab9,M_Take⟩:=T.i_Take
 have Gb9:aO P w K mg base CX0 1 fb9 db9 jY (M5 C):=rC T Ab9.F
 refine F.oqX Cz fun _ _ _ _ H _ Q E hr h=>?_
 ·obtain⟨l,ws,rfl,hl,hw,q,qn⟩:=h
  have hr2:bw 2 _:=hr.mono Za
  have hr3:bw 3 _:=hr.mono Za
  have hr4:bw 4 _:=hr.mono Za
  have hr6:bw 6 _:=hr
  refine⟨_,QSs.h (au (aY (i:=1) Cz.nd rfl (Or.inl rfl) (aU aN (pv 0) aq))
   (au (bc (PW.pt (cC (aD bB (pv 1) aA (aG _)) (cz (bQ (aV Aa1 Ga1 hr2 (aj (pv 0) ao)))))) (az (aF (u9 M_Let Ab7.b Gb7 hr2 T.c_Let (aj (aU aN (pv 0) aq) (aj (gU Aaw Gaw hr6 bW (aj (pv 0) (aj aq ao))) ao))))) aL)
   (au (bc (PW.pt (cC (aD bB (pv 1) aA (aG _)) (cz (bQ (aV Aa1 Ga1 hr2 (aj (pv 0) ao)))))) (az (aF (aV Abb Gbb hr3 (aj (aU aN (pv 0) aq) (aj (gU Aaw Gaw hr6 bW (aj (pv 0) (aj aq ao))) ao))))) aL)
   (au (bc (PW.pt (cC (aD bB (pv 1) aA (aG _)) (cz (bQ (aV Aa4 Ga4 hr4 (aj (pv 0) ao)))))) (az (aF (u9 M_Draw Abz.b Gbz hr2 T.c_Draw (aj (aU aN (pv 0) aq) (aj (aU aN (pv 0) aq) ao))))) aL)
   (au (bc (PW.pt (cC (aD bB (pv 1) aA (aG _)) (cz (bQ (aV Aa4 Ga4 hr4 (aj (pv 0) ao)))))) (az (aF (u9 M_Late Ab4.b Gb4 hr2 T.c_Late (aj (aU aN (pv 0) aq) (aj (aU aN (pv 0) aq) ao))))) aL)
   (au (bc (PW.pt (cC (aD bB (pv 1) aA (aG _)) (cz (bQ (aV Aba Gba hr4 (aj (pv 0) ao)))))) (az (aF (u9 M_Take Ab9.b Gb9 hr2 T.c_Take (aj (aU aN (pv 0) aq) (aj (aU aN (pv 0) aq) (aj (aU aN (pv 0) aq) ao)))))) aL)
   (au (bc (aD bB (pv 1) aA (aG _)) (az (aF (u9 M_Need Ab0.b Gb0 hr2 T.c_Need (aj (gU Aaw Gaw hr6 bW (aj (pv 0) (aj aq ao))) ao)))) aL)
   (az (aF fG))))))))),?_⟩
  have h0:0<ws.length:=length_pos_iff.mpr hw.ne
  refine⟨_,rfl,l,_,_,_,rfl,rfl,SqL.of hl,aZ (i:=0) h0,?_⟩
  have sf:∀ {x y:Str},wAt ws 0=x->x≠y->decide (V.str (wAt ws 0)=V.str y)=false:=fun{x y} e n=>decide_eq_false fun z=>n (e.symm.trans (V.str.inj z))
  have so:∀ {y:Str},wAt ws 0≠y->decide (V.str (wAt ws 0)=V.str y)=false:=fun{y} n=>decide_eq_false fun z=>n (V.str.inj z)
  by_cases e0:wAt ws 0 = "let"
  ·refine⟨_,rfl,rfl,_,rfl,bh (decide_eq_true (congrArg V.str e0)) ⟨_,rfl,l,ws,rfl,hl,hw,fun H1 s1=>⟨_,rfl,?_⟩⟩⟩
   have hl1:=s1 _ _ hl
   cases e1:neB ws with
   | false =>
    have nr:¬RdR ws:=fun r=>by rcases cP r with⟨k,z⟩|⟨k,z⟩|⟨k,z⟩|⟨k,z⟩|⟨k,z⟩|⟨k,z⟩ <;> first|exact absurd (e0.symm.trans k) Ze|(rw[e1]at z;first|cases z.1|cases z)
    refine aP rfl ?_
    refine⟨_,rfl,rfl,_,rfl,aP (sf e0 Ze) (bH ?_)⟩
    refine⟨_,rfl,rfl,_,rfl,aP (sf e0 Ze) (bH ?_)⟩
    refine⟨_,rfl,rfl,_,rfl,aP (sf e0 Ze) (bH ?_)⟩
    refine⟨_,rfl,rfl,_,rfl,aP (sf e0 Ze) (bH ?_)⟩
    refine⟨_,rfl,rfl,_,rfl,aP (sf e0 Ze) ?_⟩
    exact(qn nr).1 H1 s1
   | true =>
    refine bh rfl ?_
    obtain⟨h3,hn,ew⟩:=pZ e1
    rw[e0]at ew
    refine⟨_,rfl,l,_,_,_,rfl,rfl,SqL.of hl1,aZ (i:=1) Zb,_,rfl,l,3,ws,rfl,hl1,hw,fun ts g et d H2 hd2 s2 htd=>fun x dx hx hdx hne=>⟨x,dx,⟨0,wAt ws 1,a1,a1,ts⟩,d,rfl,rfl,ak,htd.same (d9 hx hdx),le_trans g.hi Za,fun l' H' hl' sb ra=>⟨rfl,q _ (J2 hn g) (by rw[et]at ew;exact ew) x l' H' (s1.trans (s2.trans (fun b o e=>sb b o (d9 hx hdx b o e) (aK e hx)))) ((s1.trans s2).free hx) ((s1.trans s2).free ((d9 hx hdx).free hl')) ra⟩⟩,fun nr=>((qn fun r=>?_).2).on s1⟩
    rcases cP r with⟨k,_,z⟩|⟨k,_⟩|⟨k,_⟩|⟨k,_⟩|⟨k,_⟩|⟨k,_⟩ <;> first|exact nr z|exact absurd (e0.symm.trans k) Ze
  have n0:=e0
  clear e0
  by_cases e0:wAt ws 0 = "deed"
  ·refine⟨_,rfl,rfl,_,rfl,aP (sf e0 Ze) (bH ?_)⟩
   refine⟨_,rfl,rfl,_,rfl,bh (decide_eq_true (congrArg V.str e0)) ⟨_,rfl,l,ws,rfl,hl,hw,fun H1 s1=>⟨_,rfl,?_⟩⟩⟩
   have hl1:=s1 _ _ hl
   cases e1:neB ws with
   | false =>
    have nr:¬RdR ws:=fun r=>by rcases cP r with⟨k,z⟩|⟨k,z⟩|⟨k,z⟩|⟨k,z⟩|⟨k,z⟩|⟨k,z⟩ <;> first|exact absurd (e0.symm.trans k) Ze|(rw[e1]at z;first|cases z.1|cases z)
    refine aP rfl ?_
    refine⟨_,rfl,rfl,_,rfl,aP (sf e0 Ze) (bH ?_)⟩
    refine⟨_,rfl,rfl,_,rfl,aP (sf e0 Ze) (bH ?_)⟩
    refine⟨_,rfl,rfl,_,rfl,aP (sf e0 Ze) (bH ?_)⟩
    refine⟨_,rfl,rfl,_,rfl,aP (sf e0 Ze) ?_⟩
    exact(qn nr).1 H1 s1
   | true =>
    refine bh rfl ?_
    obtain⟨h3,hn,ew⟩:=pZ e1
    rw[e0]at ew
    refine⟨_,rfl,l,_,_,_,rfl,rfl,SqL.of hl1,aZ (i:=1) Zb,_,rfl,l,3,ws,rfl,hl1,hw,fun ts g et d H2 hd2 s2 htd=>⟨wAt ws 1,d,ts,rfl,g,htd,fun ec a l' H' s3 ha hl' ra=>?_,fun ec H' s3=>(qn fun r=>?_).1 H' (s1.trans (s2.trans s3))⟩,fun nr=>((qn fun r=>?_).2).on s1⟩
    ·exact q _ (G9 hn g fun t ht=>by simpa using any_eq_false.mp ec t ht) (by rw[et]at ew;exact ew) a l' H' (s1.trans (s2.trans s3)) ((s1.trans s2).free ha) ((s1.trans s2).free hl') ra
    ·rcases cP r with⟨k,_⟩|⟨k,_,us,gu,eu,hc⟩|⟨k,_⟩|⟨k,_⟩|⟨k,_⟩|⟨k,_⟩ <;> first|exact absurd (e0.symm.trans k) Ze|skip
     have:us=ts:=jk gu g (eu.symm.trans et)
     subst this
     rw[any_eq_false.mpr fun t ht=>by rw[hc t ht];decide]at ec
     cases ec
    ·rcases cP r with⟨k,_⟩|⟨k,_,us,gu,eu,_⟩|⟨k,_⟩|⟨k,_⟩|⟨k,_⟩|⟨k,_⟩ <;> first|exact absurd (e0.symm.trans k) Ze|exact nr ⟨us,gu,eu⟩
  have n1:=e0
  clear e0
  by_cases e0:wAt ws 0 = "draw"
  ·refine⟨_,rfl,rfl,_,rfl,aP (sf e0 Ze) (bH ?_)⟩
   refine⟨_,rfl,rfl,_,rfl,aP (sf e0 Ze) (bH ?_)⟩
   refine⟨_,rfl,rfl,_,rfl,bh (decide_eq_true (congrArg V.str e0)) ⟨_,rfl,l,ws,rfl,hl,hw,fun H1 s1=>⟨_,rfl,?_⟩⟩⟩
   have hl1:=s1 _ _ hl
   cases e1:naB ws with
   | false =>
    have nr:¬RdR ws:=fun r=>by rcases cP r with⟨k,z⟩|⟨k,z⟩|⟨k,z⟩|⟨k,z⟩|⟨k,z⟩|⟨k,z⟩ <;> first|exact absurd (e0.symm.trans k) Ze|(rw[e1]at z;first|cases z.1|cases z)
    refine aP rfl ?_
    refine⟨_,rfl,rfl,_,rfl,aP (sf e0 Ze) (bH ?_)⟩
    refine⟨_,rfl,rfl,_,rfl,aP (sf e0 Ze) (bH ?_)⟩
    refine⟨_,rfl,rfl,_,rfl,aP (sf e0 Ze) ?_⟩
    exact(qn nr).1 H1 s1
   | true =>
    refine bh rfl ?_
    obtain⟨h4,ys,ga,ey,hn,ew⟩:=wD e1
    rw[e0]at ew
    exact⟨_,rfl,l,_,_,_,rfl,rfl,SqL.of hl1,(aZ (i:=1) Zb).trans (congrArg (fun z=>some (V.str z)) ey),_,rfl,l,_,_,_,rfl,rfl,SqL.of hl1,aZ (i:=3) Zb,fun x dx hx hdx hne=>⟨x,dx,⟨2,wAt ws 3,dotted ys,a1,t1⟩,rfl,rfl,ak,fun H' sb ra=>⟨rfl,q _ (vJ (so:=2) Za hn ga) ew x x H' (s1.trans (fun b o e=>sb b o (d9 hx hdx b o e) (aK e hx))) (s1.free hx) (s1.free hx) (ra x)⟩⟩⟩
  have n2:=e0
  clear e0
  by_cases e0:wAt ws 0 = "late"
  ·refine⟨_,rfl,rfl,_,rfl,aP (sf e0 Ze) (bH ?_)⟩
   refine⟨_,rfl,rfl,_,rfl,aP (sf e0 Ze) (bH ?_)⟩
   refine⟨_,rfl,rfl,_,rfl,aP (sf e0 Ze) (bH ?_)⟩
   refine⟨_,rfl,rfl,_,rfl,bh (decide_eq_true (congrArg V.str e0)) ⟨_,rfl,l,ws,rfl,hl,hw,fun H1 s1=>⟨_,rfl,?_⟩⟩⟩
   have hl1:=s1 _ _ hl
   cases e1:naB ws with
   | false =>
    have nr:¬RdR ws:=fun r=>by rcases cP r with⟨k,z⟩|⟨k,z⟩|⟨k,z⟩|⟨k,z⟩|⟨k,z⟩|⟨k,z⟩ <;> first|exact absurd (e0.symm.trans k) Ze|(rw[e1]at z;first|cases z.1|cases z)
    refine aP rfl ?_
    refine⟨_,rfl,rfl,_,rfl,aP (sf e0 Ze) (bH ?_)⟩
    refine⟨_,rfl,rfl,_,rfl,aP (sf e0 Ze) ?_⟩
    exact(qn nr).1 H1 s1
   | true =>
    refine bh rfl ?_
    obtain⟨h4,ys,ga,ey,hn,ew⟩:=wD e1
    rw[e0]at ew
    exact⟨_,rfl,l,_,_,_,rfl,rfl,SqL.of hl1,(aZ (i:=1) Zb).trans (congrArg (fun z=>some (V.str z)) ey),_,rfl,l,_,_,_,rfl,rfl,SqL.of hl1,aZ (i:=3) Zb,fun x dx hx hdx hne=>⟨x,dx,⟨3,wAt ws 3,dotted ys,a1,t1⟩,rfl,rfl,ak,fun H' sb ra=>⟨rfl,q _ (vJ (so:=3) Za hn ga) ew x x H' (s1.trans (fun b o e=>sb b o (d9 hx hdx b o e) (aK e hx))) (s1.free hx) (s1.free hx) (ra x)⟩⟩⟩
  have n3:=e0
  clear e0
  by_cases e0:wAt ws 0 = "take"
  ·refine⟨_,rfl,rfl,_,rfl,aP (sf e0 Ze) (bH ?_)⟩
   refine⟨_,rfl,rfl,_,rfl,aP (sf e0 Ze) (bH ?_)⟩
   refine⟨_,rfl,rfl,_,rfl,aP (sf e0 Ze) (bH ?_)⟩
   refine⟨_,rfl,rfl,_,rfl,aP (sf e0 Ze) (bH ?_)⟩
   refine⟨_,rfl,rfl,_,rfl,bh (decide_eq_true (congrArg V.str e0)) ⟨_,rfl,l,ws,rfl,hl,hw,fun H1 s1=>⟨_,rfl,?_⟩⟩⟩
   have hl1:=s1 _ _ hl
   cases e1:nwB ws with
   | false =>
    have nr:¬RdR ws:=fun r=>by rcases cP r with⟨k,z⟩|⟨k,z⟩|⟨k,z⟩|⟨k,z⟩|⟨k,z⟩|⟨k,z⟩ <;> first|exact absurd (e0.symm.trans k) Ze|(rw[e1]at z;first|cases z.1|cases z)
    refine aP rfl ?_
    refine⟨_,rfl,rfl,_,rfl,aP (sf e0 Ze) ?_⟩
    exact(qn nr).1 H1 s1
   | true =>
    refine bh rfl ?_
    obtain⟨h6,ys,ga,ey,hn1,hn5,ew⟩:=Dd e1
    rw[e0]at ew
    exact⟨_,rfl,l,_,_,_,rfl,rfl,SqL.of hl1,aZ (i:=1) Zb,_,rfl,l,_,_,_,rfl,rfl,SqL.of hl1,(aZ (i:=3) Zb).trans (congrArg (fun z=>some (V.str z)) ey),_,rfl,l,_,_,_,rfl,rfl,SqL.of hl1,aZ (i:=5) Zb,fun x dx hx hdx hne=>⟨x,dx,⟨4,wAt ws 5,dotted ys,wAt ws 1,t1⟩,rfl,rfl,ak,fun H' sb ra=>⟨rfl,q _ (GR hn5 hn1 ga) ew x x H' (s1.trans (fun b o e=>sb b o (d9 hx hdx b o e) (aK e hx))) (s1.free hx) (s1.free hx) (ra x)⟩⟩⟩
  have n4:=e0
  clear e0
  by_cases e0:wAt ws 0 = "need"
  ·refine⟨_,rfl,rfl,_,rfl,aP (sf e0 Ze) (bH ?_)⟩
   refine⟨_,rfl,rfl,_,rfl,aP (sf e0 Ze) (bH ?_)⟩
   refine⟨_,rfl,rfl,_,rfl,aP (sf e0 Ze) (bH ?_)⟩
   refine⟨_,rfl,rfl,_,rfl,aP (sf e0 Ze) (bH ?_)⟩
   refine⟨_,rfl,rfl,_,rfl,aP (sf e0 Ze) (bH ?_)⟩
   refine⟨_,rfl,rfl,_,rfl,bh (decide_eq_true (congrArg V.str e0)) ?_⟩
   have ew:ws=("need" : Str)::ws.drop 1:=by rw[<- e0];cases ws with|nil=>exact absurd rfl hw.ne|cons a r=>rfl
   refine⟨_,rfl,l,1,ws,rfl,hl,hw,fun ts g et d H2 hd2 s2 htd=>fun x dx hx hdx hne=>⟨x,dx,⟨5, "",a1,a1,ts⟩,d,rfl,rfl,ak,htd.same (d9 hx hdx),le_trans g.hi Za,fun l' H' hl' sb ra=>⟨rfl,q _ (Bp g) (by rw[et]at ew;exact ew) x l' H' (s2.trans (fun b o e=>sb b o (d9 hx hdx b o e) (aK e hx))) (s2.free hx) (s2.free ((d9 hx hdx).free hl')) ra⟩⟩,fun nr=>(qn fun r=>?_).2⟩
   rcases cP r with⟨k,_⟩|⟨k,_⟩|⟨k,_⟩|⟨k,_⟩|⟨k,_⟩|⟨k,z⟩ <;> first|exact absurd (e0.symm.trans k) Ze|exact nr z
  have n5:=e0
  clear e0
  refine⟨_,rfl,rfl,_,rfl,aP (so n0) (bH ?_)⟩
  refine⟨_,rfl,rfl,_,rfl,aP (so n1) (bH ?_)⟩
  refine⟨_,rfl,rfl,_,rfl,aP (so n2) (bH ?_)⟩
  refine⟨_,rfl,rfl,_,rfl,aP (so n3) (bH ?_)⟩
  refine⟨_,rfl,rfl,_,rfl,aP (so n4) (bH ?_)⟩
  refine⟨_,rfl,rfl,_,rfl,aP (so n5) ?_⟩
  refine(qn fun r=>?_).1 H (aB.refl H)
  rcases cP r with⟨k,_⟩|⟨k,_⟩|⟨k,_⟩|⟨k,_⟩|⟨k,_⟩|⟨k,_⟩ <;> contradiction
theorem Jk(T:Tx K mg C)(F:Fun K "row_at" "row_at" ug f fd):aO P w K mg base (CX1 P w) 8 f fd uw (Qv C):=by
 obtain⟨fbr,dbr,Abr⟩:=T.abr
 have Gbr:aO P w K mg base (CX1 P w) 7 fbr dbr tZ (QW C):=JG T Abr.F
 obtain⟨fae,dae,Aae⟩:=T.i_NoText
 have Gae:aO P w K mg base CX0 1 fae dae dG (mX (C 22)):=qe T Aae.F
 have GH_i_NoText:uh P w K mg base 1 fae dae dG (mX (C 22)):=zW T Aae.F
 refine F.oqX Ef fun _ _ _ _ H _ Q E hr h=>?_
 ·obtain⟨z,i,rfl,hz,hi,q,qx⟩:=h
  have hr2:bw 2 _:=hr.mono Za
  have hr7:bw 7 _:=hr
  refine⟨_,QSs.h (au (P0 (fun x=>PassesOwnAt.leaving) bW T.x_NoExpr T.c_NoExpr rfl rfl (fun pins E W hw=>(az (aY (i:=2) Ef.nd rfl (Or.inl rfl) (gU Abr Gbr hr7 hw (aj (Lk (K:=K) rfl plainAttrs_str slot_str_split type_str_split dj (pv 0) (aj aA ao)) ao))))) aL (fun x pins hw=>(az (Gm (K':=K) rfl hw rfl (Q6 Aae GH_i_NoText hr2 T.c_NoText T.x_NoText (aj (pv 1) ao))))))
   (au (bc (aD Bx (pv 2) fG (aG _)) (az (fU bW rfl (Ei Aae Gae hr2 T.c_NoText T.x_NoText (aj (pv 1) ao)))) aL)
   (az (aF (pv 2))))),?_⟩
  refine⟨_,rfl,rfl,_,_,rfl,rfl,iG,le_trans (show z.length+2<=6002 by omega) Za,fun p hp=>?_⟩
  refine⟨p,Txt.split z (" " : Str),rfl,ak,⟨z,hz,rfl⟩,fun r g e a l H' s' ha hl ra=>?_,fun nr=>⟨fun H' s'=>?_,fun x H' s' hx ex=>?_⟩⟩
  ·refine⟨_,rfl,rfl,_,rfl,aP (decide_eq_false Zh) ?_⟩
   exact⟨_,rfl,q r g e a l H' ((aB.new hp).trans s') ((aB.new hp).free ha) ((aB.new hp).free hl) ra⟩
  ·refine⟨_,rfl,rfl,_,rfl,bh (decide_eq_true rfl) ?_⟩
   exact⟨_,rfl,fun x hx=>⟨x,i,rfl,ak,hi,fun p2 hp2 hne=>⟨rfl,x,C 22,some p2,rfl,ak,T.x_NoText,(qx nr).go ((aB.new hp).trans s') hx hp2 hne⟩⟩⟩
  ·refine⟨x,C 21,none,rfl,ex,T.xf.s21,?_⟩
   refine⟨_,rfl,fun x2 hx2=>⟨x2,i,rfl,ak,hi,fun p2 hp2 hne=>⟨rfl,x2,C 22,p2,C 21,false,rfl,ak,T.x_NoText,aK ex hx2,?_,(qx nr).go ((aB.new hp).trans s') hx2 hp2 hne⟩⟩⟩
   have n1:x≠x2:=aK ex hx2
   have n2:x≠p2:=aK ex (by rw[aQ hne]at hp2;exact hp2)
   rw[aQ n1,aQ n2,aQ n1]
   exact ex
theorem BV(T:Tx K mg C)(F:Fun K "read_head" "read_head" lF f fd):aO P w K mg base (CX1 P w) 4 f fd lO (Ez C):=by
 obtain⟨fah,dah,Aah⟩:=T.aah
 have Gah:aO P w K mg base CX0 3 fah dah fH rY:=m6 T Aah.F
 obtain⟨fae,dae,Aae⟩:=T.i_NoText
 have Gae:aO P w K mg base CX0 1 fae dae dG (mX (C 22)):=qe T Aae.F
 refine F.oqX uU fun _ _ _ _ H _ Q E hr h=>?_
 ·obtain⟨z,rfl,hz,q,qx⟩:=h
  have hr2:bw 2 _:=hr.mono Za
  have hr3:bw 3 _:=hr
  refine⟨_,QSs.h (au (aY (i:=1) uU.nd rfl (Or.inl rfl) (cM plainAttrs_str slot_str_split type_str_split dj (pv 0) (aj aA ao)))
   (au (bc (PW.pt (cU (aD dM (aJ aW Zd T.len boot_len (aj (pv 1) ao)) aq (aG _)) (cU (aD dM (aU aN (pv 1) aq) aA (aG _)) (dI (cV (bQ (aV Aah Gah hr3 (aj (aU aN (pv 1) aq) ao)))))))) (az (fU bW rfl (Ei Aae Gae hr2 T.c_NoText T.x_NoText (aj aq ao)))) aL)
   (az (aF (aU aN (pv 1) aq))))),?_⟩
  have hw:=Wd.of hz
  refine⟨_,rfl,rfl,_,_,rfl,rfl,iG,le_trans (show z.length+2<=6002 by omega) Za,fun l hl0=>?_⟩
  have s0:=aB.new hl0 (o:=.lst ((Txt.split z (" " : Str)).map V.str))
  have hl:upd H l (.lst ((Txt.split z (" " : Str)).map V.str)) l=some (.lst ((Txt.split z (" " : Str)).map V.str)):=ak
  generalize upd H l (.lst ((Txt.split z (" " : Str)).map V.str))=H0 at s0 hl
  generalize Txt.split z (" " : Str)=ws at hw q qx hl
  unfold hdB at q qx
  refine⟨_,rfl,l,_,rfl,.inl (SqL.of hl),rfl,_,rfl,?_⟩
  by_cases h2:ws.length=2
  ·refine aP (by rw[length_map,h2];decide) ?_
   rw[decide_eq_true h2,Bool.true_and]at q qx
   refine⟨_,rfl,l,_,_,_,rfl,rfl,SqL.of (hl),aZ (i:=0) Zb,rfl,_,rfl,?_⟩
   by_cases e0:wAt ws 0 = "part"
   ·refine aP (by rw[decide_eq_true (congrArg V.str e0)];rfl) ?_
    rw[decide_eq_true e0,Bool.true_and]at q qx
    refine⟨_,rfl,l,_,_,_,rfl,rfl,SqL.of (hl),aZ (i:=1) Zb,wAt ws 1,rfl,hw.len (cG Zb),fun H1 s1=>⟨_,rfl,?_⟩⟩
    cases e1:cW 3 (wAt ws 1)with
    | false=>exact iC rfl (fun x hx=>⟨x,0,rfl,ak,Za,fun p2 hp2 hne=>⟨rfl,x,C 22,some p2,rfl,ak,T.x_NoText,(qx e1).go (s0.trans s1) hx hp2 hne⟩⟩)
    | true=>exact jA rfl ⟨_,rfl,l,_,_,_,rfl,rfl,SqL.of (s1 _ _ hl),aZ (i:=1) Zb,q e1 H1 (s0.trans s1)⟩
   ·rw[decide_eq_false e0,Bool.false_and]at qx
    exact bh (by rw[decide_eq_false fun k=>e0 (V.str.inj k)];rfl) (fun x hx=>⟨x,0,rfl,ak,Za,fun p2 hp2 hne=>⟨rfl,x,C 22,some p2,rfl,ak,T.x_NoText,(qx rfl).go (s0) hx hp2 hne⟩⟩)
  ·rw[decide_eq_false h2,Bool.false_and]at qx
   exact bh (by rw[length_map];rw[show decide (V.int (ws.length:Int)=V.int 2)=decide (ws.length=2)from jN (m:=2),decide_eq_false h2];rfl) (fun x hx=>⟨x,0,rfl,ak,Za,fun p2 hp2 hne=>⟨rfl,x,C 22,some p2,rfl,ak,T.x_NoText,(qx rfl).go (s0) hx hp2 hne⟩⟩)
theorem iu{C:Addr}{m:Str}{f:Addr}{fd:FuncData}{q:Str}{st:Stmt}{ps:List Str}{k:Nat}{sp sp':Sp}(A:MAt K m q st ps f fd)(M:Meth K C m f)(G:aO P w K mg base CX0 k f fd ps sp)(hk:k<=3)(h:∀ vs H Q E,sp' vs H Q E->sp vs H Q E):VM P w K mg base 3 C m sp' :=
 ⟨f,fd,ps,M,(G.mono hk).imp h,A.b⟩
theorem rdB{C:Nat->Addr}(T:Tx K mg C){H:Hp}{a l:Addr}{r:bC}{Q:VK}(ra:dU C H a l r)(g:GoodR r)(q:Pur (.str r.nm) H Q):MV P w K mg base 3 "binds" (.ref a) H Q:=by
 obtain⟨so,nn,aa,ww,tt⟩:=r
 have h5:so<=5:=g.so
 obtain⟨dx,fs,ha,hf⟩:=id ra
 rcases six h5 with rfl|rfl|rfl|rfl|rfl|rfl
 ·obtain⟨f,fd,A,M⟩:=T.m_Let_binds
  exact⟨a,C 0,dx,fs,spB C 0,rfl,ha,hf.nb,(T.fam.c 0 Za).cl,iu A M (wH T A.F) Za (fun _ _ _ _ h=>h),a,l,_,rfl,rfl,ra,q⟩
 ·obtain⟨f,fd,A,M⟩:=T.m_Deed_binds
  exact⟨a,C 1,dx,fs,spB C 1,rfl,ha,hf.nb,(T.fam.c 1 Za).cl,iu A M (vy T A.F) Za (fun _ _ _ _ h=>h),a,l,_,rfl,rfl,ra,q⟩
 ·obtain⟨f,fd,A,M⟩:=T.m_Draw_binds
  exact⟨a,C 2,dx,fs,spB C 2,rfl,ha,hf.nb,(T.fam.c 2 Za).cl,iu A M (vz T A.F) Za (fun _ _ _ _ h=>h),a,l,_,rfl,rfl,ra,q⟩
 ·obtain⟨f,fd,A,M⟩:=T.m_Late_binds
  exact⟨a,C 3,dx,fs,spB C 3,rfl,ha,hf.nb,(T.fam.c 3 Za).cl,iu A M (vm T A.F) Za (fun _ _ _ _ h=>h),a,l,_,rfl,rfl,ra,q⟩
 ·obtain⟨f,fd,A,M⟩:=T.m_Take_binds
  exact⟨a,C 4,dx,fs,spB C 4,rfl,ha,hf.nb,(T.fam.c 4 Za).cl,iu A M (vp T A.F) Za (fun _ _ _ _ h=>h),a,l,_,rfl,rfl,ra,q⟩
 ·obtain⟨f,fd,A,M⟩:=T.m_Row_binds
  exact⟨a,C 5,dx,fs,J4,rfl,ha,hf.nb,(T.fam.c 5 Za).cl,iu A M.1 (xG T A.F) Za (fun _ _ _ _ h=>h),.ref a,rfl,by have e:nn = "" := g.no rfl;rw[<- e];exact q⟩
theorem rdA{C:Nat->Addr}(T:Tx K mg C){H:Hp}{a l:Addr}{r:bC}{Q:VK}(ra:dU C H a l r)(g:GoodR r)(q:∀ b H',H b=none->aB H H'->H' b=some (.lst ((jV r).map V.str))->Q (.ref b) H'):MV P w K mg base 3 "asked" (.ref a) H Q:=by
 obtain⟨so,nn,aa,ww,tt⟩:=r
 have h5:so<=5:=g.so
 obtain⟨dx,fs,ha,hf⟩:=id ra
 rcases six h5 with rfl|rfl|rfl|rfl|rfl|rfl
 ·obtain⟨f,fd,A,M⟩:=T.m_Row_asked
  exact⟨a,C 0,dx,fs,zF,rfl,ha,hf.na,(T.fam.c 0 Za).cl,iu A M.1 (kZ T A.F) Za (fun _ _ _ _ h=>h),.ref a,rfl,fun b H' h1 h2 h3=>q b H' h1 h2 h3⟩
 ·obtain⟨f,fd,A,M⟩:=T.m_Row_asked
  exact⟨a,C 1,dx,fs,zF,rfl,ha,hf.na,(T.fam.c 1 Za).cl,iu A M.2.1 (kZ T A.F) Za (fun _ _ _ _ h=>h),.ref a,rfl,fun b H' h1 h2 h3=>q b H' h1 h2 h3⟩
 ·obtain⟨f,fd,A,M⟩:=T.m_Draw_asked
  exact⟨a,C 2,dx,fs,spA C 2,rfl,ha,hf.na,(T.fam.c 2 Za).cl,iu A M (vD T A.F) Za (fun _ _ _ _ h=>h),a,l,_,rfl,rfl,ra,fun b H' h1 h2 h3=>q b H' h1 h2 h3⟩
 ·obtain⟨f,fd,A,M⟩:=T.m_Late_asked
  exact⟨a,C 3,dx,fs,spA C 3,rfl,ha,hf.na,(T.fam.c 3 Za).cl,iu A M (vC T A.F) Za (fun _ _ _ _ h=>h),a,l,_,rfl,rfl,ra,fun b H' h1 h2 h3=>q b H' h1 h2 h3⟩
 ·obtain⟨f,fd,A,M⟩:=T.m_Take_asked
  exact⟨a,C 4,dx,fs,spA C 4,rfl,ha,hf.na,(T.fam.c 4 Za).cl,iu A M (vq T A.F) Za (fun _ _ _ _ h=>h),a,l,_,rfl,rfl,ra,fun b H' h1 h2 h3=>q b H' h1 h2 h3⟩
 ·obtain⟨f,fd,A,M⟩:=T.m_Row_asked
  exact⟨a,C 5,dx,fs,zF,rfl,ha,hf.na,(T.fam.c 5 Za).cl,iu A M.2.2.1 (kZ T A.F) Za (fun _ _ _ _ h=>h),.ref a,rfl,fun b H' h1 h2 h3=>q b H' h1 h2 h3⟩
theorem rdS{C:Nat->Addr}(T:Tx K mg C){H:Hp}{a l:Addr}{r:bC}{Q:VK}(ra:dU C H a l r)(g:GoodR r)(q:Pur (.str (bO r)) H Q):MV P w K mg base 3 "said" (.ref a) H Q:=by
 obtain⟨so,nn,aa,ww,tt⟩:=r
 have h5:so<=5:=g.so
 obtain⟨dx,fs,ha,hf⟩:=id ra
 rcases six h5 with rfl|rfl|rfl|rfl|rfl|rfl
 ·obtain⟨f,fd,A,M⟩:=T.m_Let_said
  exact⟨a,C 0,dx,fs,spS C 0,rfl,ha,hf.ns,(T.fam.c 0 Za).cl,iu A M (yD T A.F) Za (fun _ _ _ _ h=>h),a,l,_,rfl,rfl,ra,g,q⟩
 ·obtain⟨f,fd,A,M⟩:=T.m_Deed_said
  exact⟨a,C 1,dx,fs,spS C 1,rfl,ha,hf.ns,(T.fam.c 1 Za).cl,iu A M (xM T A.F) Za (fun _ _ _ _ h=>h),a,l,_,rfl,rfl,ra,g,q⟩
 ·obtain⟨f,fd,A,M⟩:=T.m_Draw_said
  exact⟨a,C 2,dx,fs,spS C 2,rfl,ha,hf.ns,(T.fam.c 2 Za).cl,iu A M (xW T A.F) Za (fun _ _ _ _ h=>h),a,l,_,rfl,rfl,ra,g,q⟩
 ·obtain⟨f,fd,A,M⟩:=T.m_Late_said
  exact⟨a,C 3,dx,fs,spS C 3,rfl,ha,hf.ns,(T.fam.c 3 Za).cl,iu A M (wG T A.F) Za (fun _ _ _ _ h=>h),a,l,_,rfl,rfl,ra,g,q⟩
 ·obtain⟨f,fd,A,M⟩:=T.m_Take_said
  exact⟨a,C 4,dx,fs,spS C 4,rfl,ha,hf.ns,(T.fam.c 4 Za).cl,iu A M (wu T A.F) Za (fun _ _ _ _ h=>h),a,l,_,rfl,rfl,ra,g,q⟩
 ·obtain⟨f,fd,A,M⟩:=T.m_Need_said
  exact⟨a,C 5,dx,fs,spS C 5,rfl,ha,hf.ns,(T.fam.c 5 Za).cl,iu A M (wV T A.F) Za (fun _ _ _ _ h=>h),a,l,_,rfl,rfl,ra,g,q⟩
theorem rJ(T:Tx K mg C)(F:Fun K "__init__" "Part.__init__" eE f fd):aO P w K mg base CX0 1 f fd jU (J3 C):=by
 refine F.oq zR fun _ _ _ _ H _ Q E hr h=>?_
 ·obtain⟨x,dx,ad,d,rs,rfl,hx,hrs,h12,q⟩:=h
  refine⟨_,QSs.h (au (gK (pv 0) (pv 1))
   (az (gK (pv 0) (bR kh Zd T.t_list boot_list (aj (pv 2) ao))))),?_⟩
  obtain⟨xs,hl,hxl,hxt⟩:=id hrs
  have hdx:d≠x:=qi hl hx Zh
  refine⟨_,rfl,_,rfl,x,_,dx,_,rfl,hx,T.pt.cl.cl,T.pt.na,lt_of_lt_of_le (zero_lt_one) Za,_,rfl,d,_,rfl,.inl (SqL.of (by rw[aQ hdx];exact hl)),fun l hlf=>⟨_,rfl,x,_,dx,_,rfl,(by rw[aQ (nH hlf).2.symm];exact ak),T.pt.cl.cl,T.pt.nr,lt_of_lt_of_le (Dw zero_lt_one) Za,?_⟩⟩
  obtain⟨hl0,hlx⟩:=nH hlf
  refine q l _ hl0 (sb3 hl0) ⟨dx,_,ak,(lkN Ze).trans lkP,lkP,(lkN Ze).trans (lkN Ze),(lkN Ze).trans (lkN Ze),(lkN Ze).trans (lkN Ze),?_⟩
  refine⟨xs,by rw[aQ hlx];exact ak,hxl,fun j r e=>?_⟩
  obtain⟨a,t,e2,ra⟩:=hxt j r e
  exact⟨a,t,e2,ra.but (h12.at e) hx (sb3 hl0)⟩
theorem pM (T:Tx K mg C) (F:Fun K "bound" "Part.bound" ie f fd):aO P w K mg base CX0 4 f fd fV (BX C):=by
 refine F.oq rn fun _ _ _ _ H _ Q E hr h=>?_
 ·obtain ⟨p,ad,l,rs,rfl,hp,hg,q⟩:=h
  have hr3:bw 3 _:=hr
  refine ⟨_,QSs.h (au (vO (N:=["row"]) [none] (i:=1) rn.nd rfl (Or.inl rfl) rfl Zf (dH (bU (pv 0) rfl)) (fun cl C fp s H=>(aX (i:=0) (by decide +kernel:(["row"]:List Str).Nodup) rfl (Or.inl rfl))) (fun cl C fp s H=>cY) (fun cl C fp s H=>(jj (P:=P) (w:=w) (K:=K) (mg:=mg) (base:=base) rfl rfl rfl rfl rfl hr3 (pv 0))))
   (az (aF (cJ (N:=["name"]) [none] rfl Zf (dH (pv 1)) (fun cl C fp s H=>(aX (i:=0) (by decide +kernel:(["name"]:List Str).Nodup) rfl (Or.inl rfl))) (fun cl C fp s H=>(Fz (aD dM (pv 0) aA (aG _)))) (fun cl C fp s H=>(pv 0)))))),?_⟩
  obtain ⟨dx,fs,ea,a1,a2,a3,a4,a5,hr0⟩:=id hp
  obtain ⟨xs,hl,hxl,hxt⟩:=id hr0
  refine ⟨_,rfl,rdF ea T.pt.cl.cl T.pt.nr a2 ?_⟩
  have hx12:xs.length <= sizeLine:=le_trans (show xs.length <= 12 by rw [hxl]; exact hg.hi) Za
  refine ⟨l,rfl,⟨xs,SqL.of hl⟩,?_⟩
  refine iH (fun i=>(rs.map fun r=>V.str r.nm).getD i .non) hx12 (SqL.of hl) (fun i x H' Q' hx sm k=>?_) (fun H' sm b hb=>?_)
  ·have hi:i < rs.length:=by rw [<- hxl]; exact (List.getElem?_eq_some_iff.mp hx).1
   obtain ⟨a,t,e2,ra⟩:=hxt i rs[i] (getElem?_eq_getElem hi)
   obtain rfl:x = .ref a:=by rw [hx] at e2; exact Option.some.inj e2
   refine ⟨_,rfl,rdB T (ra.same sm) (hg.at (getElem?_eq_getElem hi)) fun H'' s''=>?_⟩
   have e:(rs.map fun r=>V.str r.nm).getD i .non = V.str rs[i].nm:=by simp [List.getD,hi]
   rw [<- e]
   exact k H'' s''
  ·have em:(List.range xs.length).map (fun i=>(rs.map fun r=>V.str r.nm).getD i .non) = rs.map fun r=>V.str r.nm:=by
    apply ext_getElem
    ·simp [hxl]
    ·intro i h1 h2
     have:i < rs.length:=by simpa using h2
     simp [this]
   rw [em]
   refine ⟨_,rfl,b,rfl,⟨_,SqL.of ak⟩,?_⟩
   refine Gk isE (by rw [length_map,<- hxl]; exact hx12) (SqL.of ak) (fun x H2 Q2 hx s2 k=>?_) (fun x H2 Q2 hx s2 k=>?_) (fun H2 s2 c hc=>?_)
   ·obtain ⟨r,_,rfl⟩:=mem_map.mp hx
    exact ⟨_,rfl,rfl,_,rfl,k H2 (aB.refl H2)⟩
   ·exact ⟨_,rfl,k H2 (aB.refl H2)⟩
   ·exact q c _ (sm.free ((aB.new hb).free (s2.free hc))) (sm.trans ((aB.new hb).trans (s2.put hc))) ak
theorem sE (T:Tx K mg C) (F:Fun K "place_of" "Part.place_of" eN f fd):aO P w K mg base CX0 4 f fd fY (Im C):=by
 refine F.oq jy fun _ _ _ _ H _ Q E hr h=>?_
 ·obtain ⟨p,ad,l,rs,z,rfl,hp,hg,q⟩:=h
  have hr3:bw 3 _:=hr
  refine ⟨_,QSs.h (au (bc (aD bB (pv 1) aA (aG _)) (az (aF fG)) aL)
   (au (lB PassesOwn.never rfl (Oe (K:=K) rfl Zd T.enumerate (aj (bU (pv 0) rfl) ao)) (jR (K:=K) (n:=2) rfl rfl (bK (aX (i:=2) jy.nd rfl (Or.inl rfl)) (bK (aX (i:=3) jy.nd rfl (Or.inl rfl)) jK)))
   (az (bc (aD bB (jj (P:=P) (w:=w) (K:=K) (mg:=mg) (base:=base) rfl rfl rfl rfl rfl hr3 (pv 3)) (pv 1) (aG _)) (az (aF (pv 2))) aL)))
   (az (aF fG)))),?_⟩
  obtain ⟨dx,fs,ea,a1,a2,a3,a4,a5,hr0⟩:=id hp
  obtain ⟨xs,hl,hxl,hxt⟩:=id hr0
  refine ⟨_,rfl,rfl,_,rfl,dF (fun he=>?_) (fun he=>?_)⟩
  ·have q':=q H (aB.refl H)
   unfold sS at q'
   rw [if_pos (V.str.inj he)] at q'
   exact q'
  ·have hz:¬ z = "" := fun e=>he (congrArg V.str e)
   refine ⟨_,rfl,rdF ea T.pt.cl.cl T.pt.nr a2 ⟨l,rfl,⟨xs,SqL.of hl⟩,?_⟩⟩
   refine Fd (xs:=xs) (fun i σ H2=>∃ v1 v2,σ = [some (.ref p),some (.str z),v1,v2] /\ aB H H2 /\ ∀ (j:Nat) r,j < i -> rs[j]? = some r -> ¬ r.nm = z) ⟨none,none,rfl,aB.refl _,fun j r h=>absurd h (Nat.not_lt_zero _)⟩ (fun i σ H2 hi hv=>?_) (fun i x p0 σ H2 hx hv hp0=>?_) (fun σ H2 hv=>?_)
   ·obtain ⟨v1,v2,rfl,sm,hb⟩:=hv
    exact sm.seq (SqL.of hl)
   ·obtain ⟨v1,v2,rfl,sm,hb⟩:=hv
    have hi:i < rs.length:=by rw [<- hxl]; exact (List.getElem?_eq_some_iff.mp hx).1
    obtain ⟨a,t,e2,ra⟩:=hxt i rs[i] (getElem?_eq_getElem hi)
    obtain rfl:x = .ref a:=by rw [hx] at e2; exact Option.some.inj e2
    refine ⟨p0,_,rfl,SqT.of ak,rfl,_,_,rfl,_,_,rfl,rfl,?_⟩
    refine ⟨_,rfl,rdB T (ra.same (sm.put hp0)) (hg.at (getElem?_eq_getElem hi)) fun H3 s3=>⟨_,rfl,rfl,_,rfl,dF (fun hy=>?_) (fun hn=>?_)⟩⟩
    ·have q':=q H3 ((sm.put hp0).trans s3)
     rw [Dy (getElem?_eq_getElem hi) (V.str.inj hy) hz hb,show ((i:Nat):Int) = 0 + (i:Int) from (zero_add _).symm] at q'
     exact ⟨_,rfl,q'⟩
    ·refine ⟨_,_,rfl,(sm.put hp0).trans s3,fun j r hj e=>?_⟩
     rcases lt_or_ge j i with k | k
     ·exact hb j r k e
     ·obtain rfl:j = i:=by omega
      rw [getElem?_eq_getElem hi] at e
      cases e
      exact fun z=>hn (congrArg V.str z)
   ·obtain ⟨v1,v2,rfl,sm,hb⟩:=hv
    have q':=q H2 sm
    rw [Ly hz fun j r e=>hb j r (by rw [hxl]; exact (List.getElem?_eq_some_iff.mp e).1) e] at q'
    exact q'
theorem wj (T:Tx K mg C) (F:Fun K "text" "Part.text" jf f fd):aO P w K mg base CX0 4 f fd jM (Ij C):=by
 refine F.oq BK fun _ _ _ _ H _ Q E hr h=>?_
 ·obtain ⟨p,ad,l,rs,rfl,hp,hg,h36,q⟩:=h
  have hr3:bw 3 _:=hr
  refine ⟨_,QSs.h (az (aF (cM plainAttrs_str slot_str_join type_str_join gO aA (aj (aH eY (bI (aj (aH aR aA (bU (pv 0) rfl)) ao)) (cJ (N:=["row"]) [none] rfl Zf (dH (bU (pv 0) rfl)) (fun cl C fp s H=>(aX (i:=0) (by decide +kernel:(["row"]:List Str).Nodup) rfl (Or.inl rfl))) (fun cl C fp s H=>cY) (fun cl C fp s H=>(jj (P:=P) (w:=w) (K:=K) (mg:=mg) (base:=base) rfl rfl rfl rfl rfl hr3 (pv 0))))) ao)))),?_⟩
  obtain ⟨dx,fs,ea,a1,a2,a3,a4,a5,hr0⟩:=id hp
  obtain ⟨xs,hl,hxl,hxt⟩:=id hr0
  have hx12:xs.length <= sizeLine:=le_trans (show xs.length <= 12 by rw [hxl]; exact hg.hi) Za
  refine ⟨rfl,_,rfl,rdF ea T.pt.cl.cl T.pt.na a1 ⟨_,_,rfl,rfl,by rw [xQ]; exact le_trans (Nat.add_le_add_left h36 5) Za,by show 1 <= sizeLine; decide,fun b hb=>?_⟩⟩
  have sb:aB H (upd H b (.lst [V.str ("part " ++ ad)])):=aB.new hb
  refine ⟨_,rfl,rdF (sb _ _ ea) T.pt.cl.cl T.pt.nr a2 ⟨l,rfl,⟨xs,SqL.of (sb _ _ hl)⟩,?_⟩⟩
  refine iH (fun i=>(rs.map fun r=>V.str (bO r)).getD i .non) hx12 (SqL.of (sb _ _ hl)) (fun i x H' Q' hx sm k=>?_) (fun H' sm c hc=>?_)
  ·have hi:i < rs.length:=by rw [<- hxl]; exact (List.getElem?_eq_some_iff.mp hx).1
   obtain ⟨a,t,e2,ra⟩:=hxt i rs[i] (getElem?_eq_getElem hi)
   obtain rfl:x = .ref a:=by rw [hx] at e2; exact Option.some.inj e2
   refine ⟨_,rfl,rdS T (ra.same (sb.trans sm)) (hg.at (getElem?_eq_getElem hi)) fun H'' s''=>?_⟩
   have e:(rs.map fun r=>V.str (bO r)).getD i .non = V.str (bO rs[i]):=by simp [List.getD,hi]
   rw [<- e]
   exact k H'' s''
  ·have em:(List.range xs.length).map (fun i=>(rs.map fun r=>V.str (bO r)).getD i .non) = rs.map fun r=>V.str (bO r):=by
    apply ext_getElem
    ·simp [hxl]
    ·intro i h1 h2
     have:i < rs.length:=by simpa using h2
     simp [this]
   rw [em]
   have hbc:b ≠ c:=fun z=>by rw [z] at sm; exact absurd (sm _ _ ak) (by rw [hc]; intro z; cases z)
   refine ⟨b,c,_,_,rfl,rfl,by rw [aQ hbc]; exact sm _ _ ak,ak,by rw [length_map]; exact le_trans (Nat.add_le_add_left hg.hi 1) Za,fun d hd=>?_⟩
   have sA:aB H (upd H' c (.lst (rs.map fun r=>V.str (bO r)))):=(sb.trans sm).put hc
   refine ⟨_,d,("part " ++ ad) :: rs.map bO,rfl,rfl,.inl (SqL.of (ak.trans (by rw [map_cons,map_map]; rfl))),?_,?_⟩
   ·exact Gn hg h36
   ·exact q _ (sA.put hd)
theorem tH(T:Tx K mg C)(F:Fun K "read_part" "read_part" lU f fd):aO P w K mg base (CX1 P w) 9 f fd jo (v7 K C):=by
 obtain⟨fbt,dbt,Abt⟩:=T.abt
 have Gbt:aO P w K mg base (CX1 P w) 4 fbt dbt lO (Ez C):=BV T Abt.F
 obtain⟨fbe,dbe,Abe⟩:=T.abe
 have Gbe:aO P w K mg base (CX1 P w) 8 fbe dbe uw (Qv C):=Jk T Abe.F
 obtain⟨fav,dav,Aav,M_bound⟩:=T.m_Part_bound
 have Gav:aO P w K mg base CX0 4 fav dav fV (BX C):=pM T Aav.F
 obtain⟨fb5,db5,Ab5⟩:=T.i_TooMany
 have Gb5:aO P w K mg base CX0 1 fb5 db5 jn (mX (C 31)):=Ca T Ab5.F
 obtain⟨fb6,db6,Ab6⟩:=T.i_Twice
 have Gb6:aO P w K mg base CX0 1 fb6 db6 nR (mX (C 33)):=Gp T Ab6.F
 obtain⟨fae,dae,Aae⟩:=T.i_NoText
 have Gae:aO P w K mg base CX0 1 fae dae dG (mX (C 22)):=qe T Aae.F
 obtain⟨fbp,dbp,Abp,M_Part⟩:=T.i_Part
 have Gbp:aO P w K mg base CX0 1 fbp dbp jU (J3 C):=rJ T Abp.F
 refine F.oqX fc fun _ _ _ _ H _ Q E hr h=>?_
 ·obtain⟨z,ls,o,rfl,hz,els,ok,sc,oq⟩:=h
  have hr2:bw 2 _:=hr.mono Za
  have hr3:bw 3 _:=hr.mono Za
  have hr4:bw 4 _:=hr.mono Za
  have hr8:bw 8 _:=hr
  refine⟨_,QSs.h (au (bc (cV (bQ (aJ b8 Zd T.inst boot_isinstance (aj (pv 0) (aj (cR (v:=.ty "str") Zd T.t_str boot_str rfl) ao))))) (az (fU bW rfl (Ei Aae Gae hr2 T.c_NoText T.x_NoText (aj aq ao)))) aL)
   (au (aY (i:=1) fc.nd rfl (Or.inl rfl) (cM plainAttrs_str slot_str_split type_str_split dj (pv 0) (aj aA ao)))
   (au (aY (i:=2) fc.nd rfl (Or.inl rfl) (gU Abt Gbt hr4 bW (aj (aU aN (pv 1) aq) ao)))
   (au (aY (i:=3) fc.nd rfl (Or.inl rfl) (bI ao))
   (au (lB PassesOwn.leaving rfl (La (K:=K) rfl Zd T.enumerate (aj (bF cj (pv 1) (bJ aq) bN) ao)) (jR (K:=K) (n:=2) rfl rfl (bK (aX (i:=4) fc.nd rfl (Or.inl rfl)) (bK (aX (i:=5) fc.nd rfl (Or.inl rfl)) jK)))
   (au (aY (i:=6) fc.nd rfl (Or.inl rfl) (gU Abe Gbe hr8 bW (aj (pv 5) (aj (pv 4) ao))))
   (au (bc (aD ju (pv 4) (qL T.g_MOST_ROWS) (aG _)) (az (fU bW rfl (Ei Ab5 Gb5 hr2 T.c_TooMany T.x_TooMany (aj (pv 4) ao)))) aL)
   (au (bc (aD iQ (jj (P:=P) (w:=w) (K:=K) (mg:=mg) (base:=base) rfl rfl rfl rfl rfl hr3 (pv 6)) (wZ (u9 M_Part Abp.b Gbp hr2 T.c_Part (aj (pv 2) (aj (pv 3) ao))) T.pt.cl.cl M_bound Gav hr4 Aav.b .nil vf) Zd) (az (fU bW rfl (Ei Ab6 Gb6 hr2 T.c_Twice T.x_Twice (aj (pv 4) ao)))) aL)
   (az (fM (cM plainAttrs_list PySem.F.slot_list_append PySem.F.type_list_append gq (pv 3) (aj (pv 6) ao))))))))
   (az (aF (u9 M_Part Abp.b Gbp hr2 T.c_Part (aj (pv 2) (aj (pv 3) ao)))))))))),?_⟩
  refine⟨_,rfl,_,_,_,_,rfl,.str _,cB,_,rfl,bH ?_⟩
  refine⟨_,rfl,rfl,_,_,rfl,rfl,Ab,le_trans (show z.length+2<=1000002 by omega) Za,fun p hp=>?_⟩
  rw[<- els]
  have h0:aB H (upd H p (.lst (ls.map V.str))):=aB.new hp
  have hp0:(upd H p (.lst (ls.map V.str))) p=some (.lst (ls.map V.str)):=ak
  generalize upd H p (.lst (ls.map V.str))=H0 at h0 hp0
  have h1:0<ls.length:=length_pos_iff.mpr ok.ne
  refine⟨_,rfl,p,_,_,V.str (wAt ls 0),rfl,rfl,SqL.of hp0,aZ h1,wAt ls 0,rfl,ok.le _ (cG h1),fun hb H1 s1=>?_,fun hb=>?_⟩
  case _ =>
   obtain sc:Scan (ls.drop 1) 1 [] o:=by
    rcases sc with⟨hb2,_⟩|⟨_,sc⟩
    ·exact absurd (hb2.symm.trans hb) Za
    ·exact sc
   change aB H0 H1 at s1
   change OcQ C (wAt (Txt.split (wAt ls 0) (" " : Str)) 1) o H Q E at oq
   generalize wAt (Txt.split (wAt ls 0) (" " : Str)) 1=ad at oq ⊢
   have hp1:=s1 _ _ hp0
   refine⟨by show 0<=sizeLine;decide,fun b hb=>?_⟩
   have s2:aB H1 (upd H1 b (.lst [])):=aB.new hb
   refine⟨_,rfl,_,rfl,p,_,rfl,SqL.of (s2 _ _ hp1),fun c hc=>?_⟩
   have ec:dO (ls.map V.str) (some 1) none=(ls.drop 1).map V.str:=J1 ls 1
   rw[ec]
   have s3:aB (upd H1 b (.lst [])) (upd (upd H1 b (.lst [])) c (.lst ((ls.drop 1).map V.str))):=aB.new hc
   have hbc:b≠c:=fun z=>by rw[z,ak]at hc;cases hc
   generalize hH3:upd (upd H1 b (.lst [])) c (.lst ((ls.drop 1).map V.str))=H3 at s3
   have hb3:H3 b=some (.lst []):=s3 _ _ ak
   have hc3:H3 c=some (.lst ((ls.drop 1).map V.str)):=by rw[<- hH3];exact ak
   have sH:aB H H3:=h0.trans (s1.trans (s2.trans s3))
   have hb0:H b=none:=(h0.trans s1).free hb
   refine⟨c,rfl,⟨_,SqL.of hc3⟩,?_⟩
   refine Fd (xs:=(ls.drop 1).map V.str) (fun i σ H2=>∃ v4 v5 v6 xs,∃ rs:List bC,σ=[some (.str z),some (.ref p),some (.str ad),some (.ref b),v4,v5,v6]/\SameBut b H3 H2/\H2 b=some (.lst xs)/\xs.length=i/\rs.length=i/\i<=12/\(∀ r∈rs,GoodR r)/\Scan (ls.drop (i+1)) (i+1) rs o/\∀ (j:Nat) r,rs[j]? = some r->∃ a t,xs[j]? = some (.ref a)/\dU C H2 a t r/\t≠b)
    ⟨none,none,none,[],[],rfl,fun _ _ e _=>e,hb3,rfl,rfl,Za,(fun r hr=>by cases hr),sc,fun j r h=>by cases h⟩ (fun i σ H2 hi hv=>?_) (fun i x p0 σ H2 hx hv hp0=>?_) (fun σ H2 hv=>?_)
   ·obtain⟨v4,v5,v6,xs,rs,rfl,sb,hb2,_⟩:=hv
    exact SqL.of (sb _ _ hc3 hbc.symm)
   ·obtain⟨v4,v5,v6,xs,rs,rfl,sb,hb2,hxl,hrl,i12,hgr,scn,hxt⟩:=hv
    have hg:iB rs:=⟨Zb,hgr⟩
    rw[getElem?_map]at hx
    obtain⟨l,el,rfl⟩:∃ l,(ls.drop 1)[i]? = some l/\x=V.str l:=by
     cases e:(ls.drop 1)[i]? with
     | none=>rw[e]at hx;cases hx
     | some y=>rw[e]at hx;cases hx;exact⟨y,rfl,rfl⟩
    have hll:l.length<=6000:=ok.le l (mem_of_mem_drop (mem_of_getElem? el))
    have ed:ls.drop (i+1)=l::ls.drop (i+1+1):=by
     rw[List.getElem?_drop,Nat.add_comm]at el
     obtain⟨hi,e⟩:=List.getElem?_eq_some_iff.mp el
     rw[List.drop_eq_getElem_cons hi,e]
    rw[ed]at scn
    have s4:aB H2 (upd H2 p0 (.tup [.int (1+(i:Int)),.str l])):=aB.new hp0
    have sH2:aB H H2:=fun bb o e=>sb bb o (sH bb o e) (aK e hb0)
    have ei:((i+1:Nat):Int)=1+(i:Int):=by omega
    have lg:(1+(i:Int)).natAbs.log2<1920:=Ry Zb
    refine⟨p0,_,rfl,SqT.of ak,rfl,_,_,rfl,_,_,rfl,rfl,?_⟩
    refine⟨_,rfl,_,rfl,l,1+(i:Int),rfl,hll,lg,fun r gr er a t H4 s5 ha ht ra=>?_,fun nr=>?_⟩
    case _ =>
     have s24:aB H2 H4:=s4.trans s5
     have sHA:aB H H4:=sH2.trans s24
     by_cases h12:12<i+1
     ·refine⟨_,rfl,_,_,rfl,rfl,_,rfl,bh (decide_eq_true Zb) ?_⟩
      rcases scn.inv with⟨nr,_⟩|⟨_,_,rfl⟩|⟨_,_,_,h,_⟩|⟨_,_,_,h,_⟩
      ·exact absurd ⟨r,gr,er⟩ nr
      ·have oq:XtD (C 31) ((i+1:Nat):Int) H E:=oq
       rw[ei]at oq
       exact⟨_,rfl,fun x hx=>⟨x,_,rfl,ak,lg,fun p2 hp2 hne=>⟨rfl,x,C 31,some p2,rfl,ak,T.x_TooMany,oq.go sHA hx hp2 hne⟩⟩⟩
      ·omega
      ·omega
     refine⟨_,rfl,_,_,rfl,rfl,_,rfl,aP (decide_eq_false Zb) ?_⟩
     refine⟨_,rfl,rdB T ra gr fun H5 s6=>?_⟩
     have s25:aB H2 H5:=s24.trans s6
     refine⟨_,rfl,_,rfl,fun x dx hx hdx hne=>?_⟩
     have sn:aB H5 (upd (upd H5 dx (.own x)) x (.ins (C 7) dx [])):=d9 hx hdx
     refine⟨x,dx,ad,b,rs,rfl,ak,⟨xs,(s25.trans sn) _ _ hb2,by rw[hxl,hrl],fun j r e=>?_⟩,hg,fun l2 H6 hl2 sb6 pa=>⟨rfl,?_⟩⟩
     ·obtain⟨a2,t2,q1,q2,_⟩:=hxt j r e
      exact⟨a2,t2,q1,q2.same (s25.trans sn)⟩
     have s56:aB H5 H6:=fun bb o e=>sb6 bb o (sn bb o e) (aK e hx)
     obtain⟨dy,fs,ep,_,_,n1,_⟩:=id pa
     refine⟨x,dy,fs,rfl,ep,n1,x,ad,l2,rs,rfl,pa,hg,fun c2 H7 hc2 s7 hl7=>?_⟩
     have s27:aB H2 H7:=s25.trans (s56.trans s7)
     have s47:aB H4 H7:=s6.trans (s56.trans s7)
     rcases scn.inv with⟨nr,_⟩|⟨_,h,_⟩|⟨r0,g0,e0,_,hn,hm,rfl⟩|⟨r0,g0,e0,hi0,hm,scn2⟩
     ·exact absurd ⟨r,gr,er⟩ nr
     ·exact absurd h h12
     ·have en:=zg g0 gr (er.symm.trans e0)
      refine⟨c2,_,rfl,.inl (SqL.of hl7),rfl,pY _,_,rfl,bh (by rw[en];exact JC hn hm) ?_⟩
      have oq:XtD (C 33) ((i+1:Nat):Int) H E:=oq
      rw[ei]at oq
      exact⟨_,rfl,fun x hx=>⟨x,_,rfl,ak,lg,fun p2 hp2 hne=>⟨rfl,x,C 33,some p2,rfl,ak,T.x_Twice,oq.go (sH2.trans s27) hx hp2 hne⟩⟩⟩
     have en:=zg g0 gr (er.symm.trans e0)
     refine⟨c2,_,rfl,.inl (SqL.of hl7),rfl,pY _,_,rfl,aP (by rw[en];exact J5 hm) ?_⟩
     have hb7:=s27 _ _ hb2
     refine⟨_,rfl,.inl ⟨rfl,_,SqL.of hb7⟩,_,rfl,b,xs,.ref a,rfl,rfl,hb7,by rw[hxl];exact Nat.lt_of_le_of_lt i12 Za,?_⟩
     refine⟨_,_,_,xs++[.ref a],rs++[r0],rfl,fun bb o e hbb=>by rw[aQ hbb];exact s27 _ _ (sb bb o e hbb),ak,by rw[length_append,hxl];rfl,by rw[length_append,hrl];rfl,hi0,fun x hx=>?_,scn2,fun j r1 e=>?_⟩
     ·rcases mem_append.mp hx with k|k
      ·exact hgr x k
      ·rw[mem_singleton.mp k];exact g0
     rcases lt_or_ge j i with k|k
     ·rw[getElem?_append_left Zb]at e
      obtain⟨a2,t2,q1,q2,q3⟩:=hxt j r1 e
      exact⟨a2,t2,by rw[getElem?_append_left Zb];exact q1,(q2.same s27).upd hb7 q3,q3⟩
     ·have hj:=(List.getElem?_eq_some_iff.mp e).1
      rw[length_append,hrl]at hj
      obtain rfl:j=i:=by have:([r0]:List bC).length=1:=rfl;omega
      rw[getElem?_append_right Zb,hrl,sub_self]at e
      cases e
      have htb:t≠b:=fun z=>by rw[z,s4 _ _ hb2]at ht;cases ht
      exact⟨a,t,by rw[getElem?_append_right Zb,hxl,sub_self];rfl,((Je g0 gr (er.symm.trans e0) ra).same s47).upd hb7 htb,htb⟩
    case _ =>
     rcases scn.inv with⟨_,rfl⟩|⟨h,_⟩|⟨r,g,h,_⟩|⟨r,g,h,_⟩
     ·have oq:XtD (C 22) ((i+1:Nat):Int) H E:=oq
      rw[ei]at oq
      exact XtD.on oq (sH2.trans s4)
     ·exact absurd h nr
     ·exact absurd ⟨r,g,h⟩ nr
     ·exact absurd ⟨r,g,h⟩ nr
   ·obtain⟨v4,v5,v6,xs,rs,rfl,sb,hb2,hxl,hrl,i12,hgr,scn,hxt⟩:=hv
    have hg:iB rs:=⟨Zb,hgr⟩
    rw[length_map,length_drop]at scn
    have e0:ls.drop (ls.length - 1+1)=[]:=List.drop_eq_nil_of_le Zb
    rw[e0]at scn
    obtain rfl:=Mv scn
    have sH2:aB H H2:=fun bb o e=>sb bb o (sH bb o e) (aK e hb0)
    refine⟨_,rfl,_,rfl,fun x dx hx hdx hne=>?_⟩
    have sn:aB H2 (upd (upd H2 dx (.own x)) x (.ins (C 7) dx [])):=d9 hx hdx
    refine⟨x,dx,ad,b,rs,rfl,ak,⟨xs,sn _ _ hb2,by rw[hxl,hrl],fun j r e=>?_⟩,hg,fun l2 H6 hl2 sb6 pa=>⟨rfl,?_⟩⟩
    ·obtain⟨a2,t2,q1,q2,_⟩:=hxt j r e
     exact⟨a2,t2,q1,q2.same sn⟩
    ·have s26:aB H2 H6:=fun bb o e=>sb6 bb o (sn bb o e) (aK e hx)
     exact oq x l2 H6 (sH2.trans s26) (sH2.free hx) pa
  case _ =>
   rcases sc with⟨_,rfl⟩|⟨hb2,_⟩
   ·exact XtD.on oq h0
   ·exact absurd (hb.symm.trans hb2) Za
theorem Ay(T:Tx K mg C)(F:Fun K "_law_names" "_law_names" lQ f fd):aO P w K mg base CX0 2 f fd vU yJ:=by
 obtain⟨faa,daa,Aaa⟩:=T.aaa
 have Gaa:aO P w K mg base CX0 1 faa daa gm jz:=gZ Aaa.F
 refine F.oq gQ fun _ _ _ _ H _ Q E hr h=>?_
 ·obtain⟨c,rfl,q⟩:=h
  have hr1:bw 1 _:=hr
  refine⟨_,QSs.h (au (aY (i:=2) gQ.nd rfl (Or.inr rfl) aA)
   (au (aY (i:=3) gQ.nd rfl (Or.inl rfl) (aH b7 aq (aV Aaa Gaa hr1 (aj (pv 0) (aj aq (aj aq ao))))))
   (au (aY (i:=4) gQ.nd rfl (Or.inl rfl) (aV Aaa Gaa hr1 (aj (pv 0) (aj aq (aj (pv 3) ao)))))
   (au (aY (i:=5) gQ.nd rfl (Or.inl rfl) (aH d8 (aH b7 (aH b7 (pv 4) aq) (aV Aaa Gaa hr1 (aj (pv 0) (aj aq (aj (aH rG (pv 3) aq) ao))))) (pv 3)))
   (au (aY (i:=6) gQ.nd rfl (Or.inr rfl) (cJ (N:=["_law_j", "_law_cell_here"]) [none,some 0] rfl Zf (dY Zd T.range (aj aq ao)) (fun cl C fp s H=>(aX (i:=0) (by decide +kernel:(["_law_j", "_law_cell_here"]:List Str).Nodup) rfl (Or.inl rfl))) (fun cl C fp s H=>cY) (fun cl C fp s H=>(aV Aaa Gaa hr1 (aj (pv 1) (aj (aH b7 aq (pv 0)) (aj aq ao)))))))
   (au (aY (i:=7) gQ.nd rfl (Or.inl rfl) (Ao (bz aA (bz aA (bz aA (bz aA (bz aA (bz aA (bz aA (bz aA (bz aA (bz aA wN))))))))))))
   (au (aY (i:=8) gQ.nd rfl (Or.inl rfl) (aU aN (bI (aj (pv 7) (aj (cJ (N:=["_law_j", "_law_letters", "_law_base"]) [none,some 2,some 6] rfl Zf (dY Zd T.range (aj aq ao)) (fun cl C fp s H=>(aX (i:=0) (by decide +kernel:(["_law_j", "_law_letters", "_law_base"]:List Str).Nodup) rfl (Or.inl rfl))) (fun cl C fp s H=>cY) (fun cl C fp s H=>(Lk (K:=K) rfl plainAttrs_str slot_str_join type_str_join (K3 rfl) aA (aj (cJ (N:=["_law_k", "_law_letters"]) [none,some 1] rfl Zf (Mw (K:=K) rfl (bF (Mj (K:=K) rfl) (pv 2) bN (bJ (aH b7 (pv 0) aq)))) (fun cl C fp s H=>(aX (i:=0) (by decide +kernel:(["_law_k", "_law_letters"]:List Str).Nodup) rfl (Or.inl rfl))) (fun cl C fp s H=>cY) (fun cl C fp s H=>(aU uP (pv 1) (pv 0)))) ao)))) (aj (bI ao) ao)))) (aV Aaa Gaa hr1 (aj (pv 0) (aj aq (aj aq ao))))))
   (au (lB PassesOwn.never rfl (dY Zd T.range (aj (pv 1) ao)) (aX (i:=9) gQ.nd rfl (Or.inl rfl))
   (au (aY (i:=10) gQ.nd rfl (Or.inl rfl) (bF cj (pv 6) bN (bJ (pv 3))))
   (au (uL (aH d8 (aH b7 (aU aN (pv 6) (pv 4)) (pv 9)) aq) (K6 (pv 10) (pv 4) set_list))
   (au (uL (aH d8 (aH b7 (aU aN (pv 6) (pv 5)) (aH lW (pv 9) aq)) aq) (K6 (pv 10) (pv 5) set_list))
   (au (aY (i:=11) gQ.nd rfl (Or.inl rfl) (cM plainAttrs_str slot_str_join type_str_join gO aA (aj (cJ (N:=["_law_k", "_law_letters"]) [none,some 2] rfl Zf (dH (pv 10)) (fun cl C fp s H=>(aX (i:=0) (by decide +kernel:(["_law_k", "_law_letters"]:List Str).Nodup) rfl (Or.inl rfl))) (fun cl C fp s H=>cY) (fun cl C fp s H=>(aU uP (pv 1) (pv 0)))) ao)))
   (az (bc (aD uy (pv 11) (pv 8) Zd) (az (fM (cM plainAttrs_list PySem.F.slot_list_append PySem.F.type_list_append gq (pv 8) (aj (pv 11) ao)))) aL)))))))
   (az (aF (bF cj (pv 8) bN (bJ (pv 1))))))))))))),?_⟩
  have z1:=cH c 0 (m:=7) Za
  have z2:=cI c 0 (m:=7) Za
  refine⟨_,rfl,c,0,7,rfl,Za,Za,Za,fun H1 s1=>⟨_,_,rfl,rfl,?_⟩⟩
  generalize pick c 0 7=sz at z1 z2
  have o1:=cH c 1 (m:=2+sz) Zb
  have o2:=cI c 1 (m:=2+sz) Zb
  refine⟨_,rfl,_,rfl,c,1,2+sz,rfl,Za,Za,Zb,fun H2 s2=>?_⟩
  generalize pick c 1 (2+sz)=one at o1 o2
  have t1:=cH c 2 (m:=2+sz - 1) Zb
  have t2:=cI c 2 (m:=2+sz - 1) Zb
  refine⟨_,rfl,_,_,rfl,rfl,_,rfl,_,rfl,_,_,rfl,rfl,c,2,2+sz - 1,rfl,Za,Za,Zb,fun H3 s3=>⟨_,_,rfl,rfl,_,rfl,_,_,rfl,rfl,by show(0:Int)<2+sz;omega,?_⟩⟩
  obtain⟨w0,w1,wne⟩:=Sh (m:=2+sz) Zb o1 o2 t1 t2
  obtain⟨two,htwo⟩:∃ two,two=(one+1+pick c 2 (2+sz - 1))%(2+sz):=⟨_,rfl⟩
  rw[<- htwo]at w0 w1 wne
  refine⟨_,rfl,Za,Za,gC (fun i v H'=>∃ b:Int,v=V.int b/\0<=b/\b<26) (fun i v H' H'' h _=>h) (by show 8<=sizeLine;decide) (fun i H' Q' hi sm k'=>?_) (fun xs H4 s4 hl hx B hB=>?_)⟩
  ·have hi':i<8:=hi
   exact⟨_,rfl,_,rfl,_,_,rfl,rfl,c,3+(0+(i:Int)),26,rfl,Zb,Zb,Za,fun H5 s5=>k' _ H5 s5 ⟨_,rfl,cH c _ Za,cI c _ Za⟩⟩
  obtain⟨bs,hbl,rfl,hbr⟩:=ints_of hx
  have hb8:bs.length=8:=by rw[length_map]at hl;exact hl
  have s03:aB H H4:=s1.trans (s2.trans (s3.trans s4))
  have hB0:H B=none:=s03.free hB
  have s04:aB H (upd H4 B (.lst (bs.map V.int))):=s03.put hB
  have hB4:(upd H4 B (.lst (bs.map V.int))) B=some (.lst (bs.map V.int)):=ak
  generalize upd H4 B (.lst (bs.map V.int))=H5 at s04 hB4
  refine⟨by show 10<=sizeLine;decide,fun O hO=>?_⟩
  have s05:aB H5 (upd H5 O (.lst [V.str "lets",V.str "bed",V.str "ask",V.str "drawn",V.str "latex",V.str "taken",V.str "froma",V.str "needs",V.str "deeds",V.str "party"])):=aB.new hO
  have hO6:(upd H5 O (.lst [V.str "lets",V.str "bed",V.str "ask",V.str "drawn",V.str "latex",V.str "taken",V.str "froma",V.str "needs",V.str "deeds",V.str "party"])) O=some (.lst (HJ.map V.str)):=ak
  generalize upd H5 O (.lst [V.str "lets",V.str "bed",V.str "ask",V.str "drawn",V.str "latex",V.str "taken",V.str "froma",V.str "needs",V.str "deeds",V.str "party"])=H6 at s05 hO6
  have hB6:=s05 _ _ hB4
  have hOB:O≠B:=(aK hB4 hO).symm
  refine⟨_,rfl,_,rfl,Za,Za,gC (fun i v H'=>v=V.str (nj (bs.take (i+1)))) (fun i v H' H'' h _=>h) (by show 8<=sizeLine;decide) (fun i H' Q' hi sm k'=>?_) (fun xs H7 s7 hl7 hx7 PR hPR=>?_)⟩
  ·have hi':i<8:=hi
   have ec:dO (bs.map V.int) none (some (0+(i:Int)+1))=(bs.take (i+1)).map V.int:=by
    rw[HS Zb,show(0+(i:Int)+1).toNat=i+1 from by omega]
   refine⟨rfl,_,rfl,_,rfl,_,_,rfl,rfl,_,rfl,B,_,rfl,SqL.of (sm _ _ hB6),fun w hw=>⟨w,rfl,⟨_,SqL.of ak⟩,?_⟩⟩
   have h8:(bs.take (i+1)).length<=8:=by rw[length_take];omega
   refine yX (ks:=bs.take (i+1)) h8 (hbr.take _) (SqL.of (ak.trans (by rw[ec]))) (fun b H' Q h0 h1 s k=>⟨_,rfl,_,rfl,letters,_,_,rfl,rfl,Ze,lat h0 h1,k⟩) (fun H8 s8 d hd=>?_)
   exact⟨_,d,_,rfl,rfl,.inl (SqL.of ak),wI h8,k' _ _ (((aB.new hw).trans s8).put hd) (congrArg V.str (Ii _))⟩
  obtain rfl:xs=(sV bs).map V.str:=(Oq (fun i=>V.str (nj (bs.take (i+1)))) hl7 hx7).trans (by unfold sV;rw[map_map];rfl)
  have s07:aB H6 (upd H7 PR (.lst ((sV bs).map V.str))):=s7.put hPR
  have hP8:(upd H7 PR (.lst ((sV bs).map V.str))) PR=some (.lst ((sV bs).map V.str)):=ak
  have hPB:PR≠B:=(aK (s7 _ _ hB6) hPR).symm
  have hP0:H PR=none:=(s04.trans (s05.trans s7)).free hPR
  generalize upd H7 PR (.lst ((sV bs).map V.str))=H8 at s07 hP8
  refine⟨by show 0<=sizeLine;decide,fun Em hEm=>⟨by show 3<=sizeLine;decide,fun W hW=>?_⟩⟩
  have hEB:Em≠B:=(aK (s07 _ _ hB6) hEm).symm
  have hE0:H Em=none:=(s04.trans (s05.trans s07)).free hEm
  have s8:aB H8 (upd H8 Em (.lst [])):=aB.new hEm
  have hE9:(upd H8 Em (.lst [])) Em=some (.lst ([].map V.str)):=ak
  generalize upd H8 Em (.lst [])=H9 at s8 hE9 hW
  have s9:aB H9 (upd H9 W (.lst [V.ref O,V.ref PR,V.ref Em])):=aB.new hW
  have hW10:(upd H9 W (.lst [V.ref O,V.ref PR,V.ref Em])) W=some (.lst [V.ref O,V.ref PR,V.ref Em]):=ak
  generalize upd H9 W (.lst [V.ref O,V.ref PR,V.ref Em])=H10 at s9 hW10
  have p1:=cH c 11 (m:=3) Za
  have p2:=cI c 11 (m:=3) Za
  refine⟨_,rfl,c,11,3,rfl,Za,Za,Za,fun H11 s11=>?_⟩
  have hcase:∃ (nl:Addr) (zs:List Str),atI [V.ref O,V.ref PR,V.ref Em] (pick c 11 3)=some (.ref nl)/\H11 nl=some (.lst (zs.map V.str))/\(∀ z∈zs,cX z)/\zs.length<=10/\nl≠B/\H nl=none:=by
   generalize pick c 11 3=k at p1 p2
   rcases(by omega:k=0\/k=1\/k=2)with rfl|rfl|rfl
   ·exact⟨O,HJ,bL (j:=0) rfl,s11 _ _ (s9 _ _ (s8 _ _ (s07 _ _ hO6))),Nf,Za,hOB,s04.free hO⟩
   ·exact⟨PR,sV bs,bL (j:=1) rfl,s11 _ _ (s9 _ _ (s8 _ _ hP8)),Oa hbr hb8,by unfold sV;rw[length_map,length_range];decide,hPB,hP0⟩
   ·exact⟨Em,[],bL (j:=2) rfl,s11 _ _ (s9 _ _ hE9),(fun z hz=>by cases hz),Za,hEB,hE0⟩
  obtain⟨nl,zs0,hat,hn11,nm0,len0,hnB,hn0⟩:=hcase
  have hB11:=s11 _ _ (s9 _ _ (s8 _ _ (s07 _ _ hB6)))
  have s0:aB H H11:=s04.trans (s05.trans (s07.trans (s8.trans (s9.trans s11))))
  refine⟨W,_,_,_,rfl,rfl,SqL.of (s11 _ _ hW10),hat,?_⟩
  refine⟨_,rfl,_,rfl,Za,Za,?_⟩
  have hm8:(2+sz).toNat<=bs.length:=by omega
  have hmi:((2+sz).toNat:Int)=2+sz:=by omega
  refine qQ (fun i σ H2=>∃ v9 v10 v11,∃ zs:List Str,σ=[some (.int c),some (.int 13),some (.str "abcdefghijklmnopqrstuvwxyz"),some (.int (2+sz)),some (.int one),some (.int two),some (.ref B),some (.ref O),some (.ref nl),v9,v10,v11]/\aB H H2/\H2 B=some (.lst (bs.map V.int))/\H2 nl=some (.lst (zs.map V.str))/\(∀ z∈zs,cX z)/\zs.length<=10+i/\∀ j:Nat,j<i->nj (pL bs (2+sz).toNat one.toNat two.toNat (0+(j:Int)))∈zs)
   ⟨none,none,none,zs0,(by rw[htwo];rfl),s0,hB11,hn11,nm0,len0,fun j hj=>absurd hj (Nat.not_lt_zero _)⟩ ?_ ?_
  ·rintro i σ H2 hi ⟨v9,v10,v11,zs,rfl,sm,hB2,hn2,hnm,hlen,hc⟩
   have hi12:i<13:=hi
   have ec:dO (bs.map V.int) none (some (2+sz))=(bs.take (2+sz).toNat).map V.int:=HS Zb
   refine⟨_,rfl,_,rfl,_,rfl,B,_,rfl,SqL.of hB2,fun w hw=>?_⟩
   have sw:aB H2 (upd H2 w (.lst (dO (bs.map V.int) none (some (2+sz))))):=aB.new hw
   have hw3:(upd H2 w (.lst (dO (bs.map V.int) none (some (2+sz))))) w=some (.lst ((bs.take (2+sz).toNat).map V.int)):=ak.trans (by rw[ec])
   have hwB:w≠B:=(aK hB2 hw).symm
   have hwn:w≠nl:=(aK hn2 hw).symm
   generalize upd H2 w (.lst (dO (bs.map V.int) none (some (2+sz))))=H3 at sw hw3
   have tl:(bs.take (2+sz).toNat).length=(2+sz).toNat:=by rw[length_take,min_eq_left hm8]
   refine⟨_,rfl,_,rfl,B,_,_,_,rfl,rfl,SqL.of (sw _ _ hB2),Mu o1 Zb,_,rfl,_,_,rfl,rfl,_,_,rfl,rfl,by show(0:Int)<26;decide,_,rfl,_,rfl,w,_,_,one.toNat,rfl,rfl,hw3,QM o1 (by rw[length_map,tl];omega),?_⟩
   have s3:aB H2 (upd H3 w (.lst (((bs.take (2+sz).toNat).map V.int).set one.toNat (V.int ((bs.getD one.toNat 0+(0+(i:Int)))%26))))):=sw.over hw
   have hw4:(upd H3 w (.lst (((bs.take (2+sz).toNat).map V.int).set one.toNat (V.int ((bs.getD one.toNat 0+(0+(i:Int)))%26))))) w=some (.lst (((bs.take (2+sz).toNat).set one.toNat ((bs.getD one.toNat 0+(0+(i:Int)))%26)).map V.int)):=ak.trans (by rw[List.map_set])
   generalize upd H3 w (.lst (((bs.take (2+sz).toNat).map V.int).set one.toNat (V.int ((bs.getD one.toNat 0+(0+(i:Int)))%26))))=H4 at s3 hw4
   refine⟨_,rfl,_,rfl,B,_,_,_,rfl,rfl,SqL.of (s3 _ _ hB2),Mu w0 Zb,_,rfl,_,_,rfl,rfl,⟨Za,Za⟩,_,_,rfl,rfl,_,_,rfl,rfl,by show(0:Int)<26;decide,_,rfl,_,rfl,w,_,_,two.toNat,rfl,rfl,hw4,QM w0 (by rw[length_map,length_set,tl];omega),?_⟩
   have s4:aB H2 (upd H4 w (.lst ((((bs.take (2+sz).toNat).set one.toNat ((bs.getD one.toNat 0+(0+(i:Int)))%26)).map V.int).set two.toNat (V.int ((bs.getD two.toNat 0+(0+(i:Int)) / 26)%26))))):=s3.over hw
   have hw5:(upd H4 w (.lst ((((bs.take (2+sz).toNat).set one.toNat ((bs.getD one.toNat 0+(0+(i:Int)))%26)).map V.int).set two.toNat (V.int ((bs.getD two.toNat 0+(0+(i:Int)) / 26)%26))))) w=some (.lst ((pL bs (2+sz).toNat one.toNat two.toNat (0+(i:Int))).map V.int)):=ak.trans (by unfold pL;simp only[List.map_set])
   generalize upd H4 w (.lst ((((bs.take (2+sz).toNat).set one.toNat ((bs.getD one.toNat 0+(0+(i:Int)))%26)).map V.int).set two.toNat (V.int ((bs.getD two.toNat 0+(0+(i:Int)) / 26)%26))))=H5 at s4 hw5
   have cl:(pL bs (2+sz).toNat one.toNat two.toNat (0+(i:Int))).length=(2+sz).toNat:=MJ hm8
   have cr:=Bt hbr (2+sz).toNat one.toNat two.toNat (0+(i:Int))
   generalize hks:pL bs (2+sz).toNat one.toNat two.toNat (0+(i:Int))=ks at hw5 cl cr
   have k8:ks.length<=8:=by omega
   refine⟨rfl,_,rfl,w,rfl,⟨_,SqL.of hw5⟩,yX (ks:=ks) k8 cr (SqL.of hw5) (fun b H' Q h0 h1 s k=>⟨_,rfl,_,rfl,letters,_,_,rfl,rfl,Ze,lat h0 h1,k⟩) (fun H6 s6 d hd=>⟨_,d,_,rfl,rfl,.inl (SqL.of ak),wI k8,?_⟩)⟩
   have s7:aB H2 (upd H6 d (.lst ((ks.map fun k=>(⟨#[97+k.toNat]⟩:Str)).map V.str))):=(s4.trans s6).put hd
   generalize upd H6 d (.lst ((ks.map fun k=>(⟨#[97+k.toNat]⟩:Str)).map V.str))=H7 at s7
   have ew:=Ii ks
   generalize Txt.join ("" : Str) (ks.map fun k=>(⟨#[97+k.toNat]⟩:Str))=nn at ew
   subst ew
   have hn7:=s7 _ _ hn2
   have hB7:=s7 _ _ hB2
   have nw:cX (nj ks):=Qz Zb k8 cr
   have hfl:(zs.map V.str).all lX=true:=by rw[all_eq_true];intro v hv;obtain⟨z,_,rfl⟩:=mem_map.mp hv;rfl
   by_cases hin:inV (V.str (nj ks)) (zs.map V.str)=true
   ·refine⟨_,rfl,_,rfl,nl,_,rfl,.inl (SqL.of hn7),rfl,hfl,_,rfl,aP (by rw[hin];rfl) ?_⟩
    refine⟨_,_,_,zs,rfl,sm.trans s7,hB7,hn7,hnm,Zb,fun j hj=>?_⟩
    rcases lt_or_ge j i with k|k
    ·exact hc j k
    ·obtain rfl:j=i:=by omega
     rw[hks]
     obtain⟨z,hz,e⟩:=mem_map.mp (KH hin)
     rw[<- V.str.inj e]
     exact hz
   ·have hin2:inV (V.str (nj ks)) (zs.map V.str)=false:=by simpa using hin
    refine⟨_,rfl,_,rfl,nl,_,rfl,.inl (SqL.of hn7),rfl,hfl,_,rfl,bh (by rw[hin2];rfl) ?_⟩
    refine⟨_,rfl,.inl ⟨rfl,_,SqL.of hn7⟩,_,rfl,nl,_,_,rfl,rfl,hn7,lt_of_lt_of_le (show(zs.map V.str).length<1000 by rw[length_map];omega) dJ,?_⟩
    have s8:aB H (upd H7 nl (.lst (zs.map V.str++[V.str (nj ks)]))):=(sm.trans s7).over hn0
    refine⟨_,_,_,zs++[nj ks],rfl,s8,by rw[aQ hnB.symm];exact hB7,ak.trans (by rw[map_append];rfl),fun z hz=>?_,by rw[length_append];show zs.length+1<=_;omega,fun j hj=>?_⟩
    ·rcases mem_append.mp hz with hz|hz
     ·exact hnm z hz
     ·rw[mem_singleton.mp hz];exact nw
    ·rcases lt_or_ge j i with k|k
     ·exact mem_append_left _ (hc j k)
     ·obtain rfl:j=i:=by omega
      rw[hks]
      exact mem_append_right _ Zc
  ·rintro σ H2 ⟨v9,v10,v11,zs,rfl,sm,hB2,hn2,hnm,hlen,hc⟩
   have h12:13<=zs.length:=thirteen hbr hm8 (show one.toNat<(2+sz).toNat by omega) (show two.toNat≠one.toNat by omega) (fun j hj=>hc j hj)
   have ec:dO (zs.map V.str) none (some 13)=(zs.take 13).map V.str:=(Fo _ 13).trans (map_take ..).symm
   refine⟨_,rfl,_,rfl,_,rfl,nl,_,rfl,SqL.of hn2,fun p hp=>?_⟩
   exact q p _ (zs.take 13) (sm.put hp) (by rw[length_take,min_eq_left h12]) (fun z hz=>hnm z (List.mem_of_mem_take hz)) (ak.trans (by rw[ec]))
theorem pq(T:Tx K mg C)(F:Fun K "_law_label" "_law_label" lZ f fd):aO P w K mg base CX0 3 f fd qz vK:=by
 obtain⟨faa,daa,Aaa⟩:=T.aaa
 obtain⟨fbx,dbx,Abx⟩:=T.abx
 have Gbx:aO P w K mg base CX0 2 fbx dbx Br MF:=O1 Abx.F Aaa T.range
 have Gaa:aO P w K mg base CX0 1 faa daa gm jz:=gZ Aaa.F
 refine F.oq Hi fun _ _ _ _ H _ Q E hr h=>?_
 ·obtain⟨c,rfl,q⟩:=h
  have hr1:bw 1 _:=hr.mono Za
  have hr2:bw 2 _:=hr
  refine⟨_,QSs.h (au (aY (i:=1) Hi.nd rfl (Or.inl rfl) (Ao (bz aA (bz aA (bz aA (bz aA (bz aA (bz aA (bz aA (bz aA (bz aA (bz aA wN))))))))))))
   (au (bc (aD bB (aV Aaa Gaa hr1 (aj (pv 0) (aj aq (aj aq ao)))) aq (aG _)) (az (aF (aU aN (pv 1) (aV Aaa Gaa hr1 (aj (pv 0) (aj aq (aj aq ao))))))) aL)
   (az (aF (aV Abx Gbx hr2 (aj (pv 0) ao)))))),?_⟩
  refine⟨by show 10<=sizeLine;decide,fun p hp=>?_⟩
  refine⟨_,rfl,c,28,5,rfl,Za,Za,Za,fun H1 s1=>⟨rfl,_,rfl,iw (fun _=>?_) (fun _=>?_)⟩⟩
  ·obtain⟨v,hat,hm⟩:=zO (xs:=[V.str "let",V.str "deed",V.str "be",V.str "draw",V.str "late",V.str "as",V.str "take",V.str "from",V.str "need",V.str "part"]) (c:=c) (k:=29) (Nat.succ_pos _)
   obtain⟨z,rfl,hz⟩:=MK hm
   exact⟨_,rfl,_,rfl,c,29,10,rfl,Za,Za,Za,fun H2 s2=>⟨p,_,_,_,rfl,rfl,SqL.of (s2 _ _ (s1 _ _ ak)),hat,q z hz H2 ((aB.new hp).trans (s1.trans s2))⟩⟩
  ·exact⟨_,rfl,c,rfl,fun H2 s2=>q (name c) (Ip c) H2 ((aB.new hp).trans (s1.trans s2))⟩
theorem pX(T:Tx K mg C)(F:Fun K "_law_address" "_law_address" iU f fd):aO P w K mg base CX0 4 f fd nO Fg:=by
 obtain⟨fag,dag,Aag⟩:=T.aag
 have Gag:aO P w K mg base CX0 3 fag dag qz vK:=pq T Aag.F
 obtain⟨fac,dac,Aac⟩:=T.aac
 have Gac:aO P w K mg base CX0 1 fac dac xX Ep:=Ag Aac.F
 obtain⟨faa,daa,Aaa⟩:=T.aaa
 have Gaa:aO P w K mg base CX0 1 faa daa gm jz:=gZ Aaa.F
 refine F.oq JQ fun _ _ _ _ H _ Q E hr h=>?_
 ·obtain⟨c,rfl,q⟩:=h
  have hr1:bw 1 _:=hr.mono Za
  have hr3:bw 3 _:=hr
  refine⟨_,QSs.h (az (aF (cM plainAttrs_str slot_str_join type_str_join gO aA (aj (cJ (N:=["_law_j", "_law_cell_here"]) [none,some 0] rfl Zf (dY Zd T.range (aj (aH b7 aq (aV Aaa Gaa hr1 (aj (pv 0) (aj aq (aj aq ao))))) ao)) (fun cl C fp s H=>(aX (i:=0) (by decide +kernel:(["_law_j", "_law_cell_here"]:List Str).Nodup) rfl (Or.inl rfl))) (fun cl C fp s H=>cY) (fun cl C fp s H=>(aV Aag Gag hr3 (aj (aV Aac Gac hr1 (aj (pv 1) (aj (pv 0) ao))) ao)))) ao)))),?_⟩
  have m1:=cH c 27 (m:=3) Za
  have m2:=cI c 27 (m:=3) Za
  refine⟨rfl,?_⟩
  refine⟨_,rfl,c,27,3,rfl,Za,Za,Za,fun H1 s1=>?_⟩
  refine⟨_,_,rfl,rfl,_,rfl,Zb,Zb,?_⟩
  refine gC (fun i v H'=>∃ z,v=V.str z/\cX z) (fun i v H' H'' h _=>h) (le_trans (show(1+pick c 27 3).toNat<=8 by omega) Za) (fun i H' Q' hi sm k'=>?_) (fun xs H2 s2 hl hx p hp=>?_)
  ·have hi':i<(1+pick c 27 3).toNat:=hi
   exact⟨_,rfl,_,rfl,c,0+(i:Int),rfl,Zb,Zb,fun H3 s3=>⟨_,rfl,fun z hz H4 s4=>k' _ H4 (s3.trans s4) ⟨z,rfl,hz⟩⟩⟩
  ·obtain⟨ys,hyl,rfl,hyn⟩:=DK hx
   have hs:(ys.map (·.length)).sum<=ys.length*8:=pF fun y hy=>(hyn y hy).hi
   refine⟨_,p,ys,rfl,rfl,.inl (SqL.of ak),by rw[BP];omega,q ys ⟨fun z=>?_,Zb,hyn⟩ _ ((s1.trans s2).put hp)⟩
   rw[z,map_nil,length_nil]at hl
   omega
theorem Do(T:Tx K mg C)(F:Fun K "_law_term" "_law_term" pB f fd):aO P w K mg base CX0 4 f fd Bw Lx:=by
 obtain⟨faa,daa,Aaa⟩:=T.aaa
 have Gaa:aO P w K mg base CX0 1 faa daa gm jz:=gZ Aaa.F
 obtain⟨fag,dag,Aag⟩:=T.aag
 have Gag:aO P w K mg base CX0 3 fag dag qz vK:=pq T Aag.F
 obtain⟨fac,dac,Aac⟩:=T.aac
 have Gac:aO P w K mg base CX0 1 fac dac xX Ep:=Ag Aac.F
 obtain⟨fbq,dbq,Abq⟩:=T.abq
 have Gbq:aO P w K mg base CX0 1 fbq dbq uo Ex:=JS Abq.F
 refine F.oq xJ fun _ _ _ _ H _ Q E hr h=>?_
 ·obtain⟨c,b,rfl,q⟩:=h
  have hr1:bw 1 _:=hr.mono Za
  have hr3:bw 3 _:=hr
  refine⟨_,QSs.h (au (aY (i:=2) xJ.nd rfl (Or.inl rfl) (aU aN (bI (aj aq (aj (aH rG aq (aH jB aq (aV Aaa Gaa hr1 (aj (pv 0) (aj aq (aj aq ao)))))) ao))) (bR fK Zd T.t_int boot_int (aj (Ft (pv 1)) ao))))
   (au (aY (i:=3) xJ.nd rfl (Or.inl rfl) (aV Aaa Gaa hr1 (aj (pv 0) (aj aq (aj aq ao)))))
   (au (bc (aD bB (pv 3) aq (aG _)) (au (aY (i:=4) xJ.nd rfl (Or.inl rfl) (aU aN (bI (aj aq (aj aq (aj (aH Lh aq aq) (aj (aH Lh aq aq) ao))))) (aV Aaa Gaa hr1 (aj (pv 0) (aj aq (aj aq ao))))))
   (az (aF (bT (aj (pv 2) (aj aA (aj (aU aN (bI (aj (aV Abq Gbq hr1 (aj (pv 0) (aj (pv 4) ao))) (aj aq (aj (aH rG (pv 4) aq) ao)))) (aV Aaa Gaa hr1 (aj (pv 0) (aj aq (aj aq ao))))) ao))))))) aL)
   (au (vO (N:=["_law_j", "_law_cell_here"]) [none,some 0] (i:=5) xJ.nd rfl (Or.inl rfl) rfl Zf (dY Zd T.range (aj (aH b7 aq (aV Aaa Gaa hr1 (aj (pv 0) (aj aq (aj aq ao))))) ao)) (fun cl C fp s H=>(aX (i:=0) (by decide +kernel:(["_law_j", "_law_cell_here"]:List Str).Nodup) rfl (Or.inl rfl))) (fun cl C fp s H=>cY) (fun cl C fp s H=>(aV Aag Gag hr3 (aj (aV Aac Gac hr1 (aj (pv 1) (aj (pv 0) ao))) ao))))
   (az (aF (bT (aj (pv 2) (aj (aU aN (bI (aj aA (aj aA ao))) (bR fK Zd T.t_int boot_int (aj (bY bB (pv 3) aq (aG _)) ao))) (aj (bR nA Zd T.t_tuple boot_tuple (aj (pv 5) ao)) ao)))))))))),?_⟩
  have k1:=cH c 1 (m:=2) Za
  have k2:=cI c 1 (m:=2) Za
  refine⟨_,rfl,c,1,2,rfl,Za,Za,Za,fun H1 s1=>⟨_,_,rfl,rfl,.inl ⟨Za,Za⟩,_,_,rfl,rfl,by show 2<=sizeLine;decide,fun p hp=>?_⟩⟩
  have hat:atI [V.int 1,V.int (1 - 2*pick c 1 2)] (if(!b)=true then 1 else 0)=some (V.int (if b=true then 1 else 1 - 2*pick c 1 2)):=by cases b <;> rfl
  refine⟨_,rfl,_,rfl,.inr ⟨_,rfl,p,_,_,_,rfl,rfl,SqL.of ak,hat,?_⟩⟩
  have hsg:(if b=true then(1:Int)else 1 - 2*pick c 1 2)=1\/(if b=true then(1:Int)else 1 - 2*pick c 1 2) = -1:=by split <;> omega
  have hfst:b=true->(if b=true then(1:Int)else 1 - 2*pick c 1 2)=1:=fun e=>if_pos e
  generalize (if b=true then(1:Int)else 1 - 2*pick c 1 2)=sg at hsg hfst
  have s2:aB H (upd H1 p (.lst [V.int 1,V.int (1 - 2*pick c 1 2)])):=s1.put hp
  generalize upd H1 p (.lst [V.int 1,V.int (1 - 2*pick c 1 2)])=H2 at s2
  refine⟨_,rfl,c,2,4,rfl,Za,Za,Za,fun H3 s3=>?_⟩
  generalize pick c 2 4=way
  refine⟨_,rfl,rfl,_,rfl,iw (fun _=>?_) (fun _=>?_)⟩
  ·refine⟨_,_,rfl,rfl,⟨Za,Za,Za⟩,_,_,rfl,rfl,⟨Za,Za,Za⟩,by show 4<=sizeLine;decide,fun p2 hp2=>?_⟩
   obtain⟨fv,hfat,hfm⟩:=zO (xs:=[V.int 10,V.int 1000,V.int (10 ^ (10:Int).toNat),V.int (10 ^ (20:Int).toNat)]) (c:=c) (k:=3) (Nat.succ_pos _)
   have hfar:∃ far:Int,fv=.int far/\0<far/\far<=10 ^ 20:=by
    simp only[mem_cons,not_mem_nil,or_false]at hfm
    rcases hfm with rfl|rfl|rfl|rfl
    ·exact⟨_,rfl,Za,Za⟩
    ·exact⟨_,rfl,Za,Za⟩
    ·exact⟨_,rfl,Za,Za⟩
    ·exact⟨_,rfl,Za,Za⟩
   obtain⟨far,rfl,f0,f1⟩:=hfar
   refine⟨_,rfl,c,3,4,rfl,Za,Za,Za,fun H4 s4=>⟨p2,_,_,V.int far,rfl,rfl,SqL.of (s4 _ _ ak),hfat,?_⟩⟩
   have s24:aB H H4:=s2.trans (s3.trans ((aB.new hp2).trans s4))
   refine⟨_,rfl,_,rfl,_,rfl,c,far,rfl,f0,fun H5 s5=>⟨_,rfl,_,_,rfl,rfl,by show 3<=sizeLine;decide,fun p3 hp3=>?_⟩⟩
   have n0:=JR c f0
   have n1:=JZ c f0
   obtain⟨nv,hnat,hnm⟩:=zO (xs:=[V.int (number c far),V.int 0,V.int (far - 1)]) (c:=c) (k:=4) (Nat.succ_pos _)
   have hnum:∃ m:Nat,nv=.int ((m:Nat):Int)/\m<10 ^ 20:=by
    have key:∀ n:Int,0<=n->n<far->∃ m:Nat,V.int n=.int ((m:Nat):Int)/\m<10 ^ 20:=fun n h0 h1=>by
     obtain⟨m,rfl⟩:=Int.eq_ofNat_of_zero_le h0
     exact⟨m,rfl,Zb⟩
    simp only[mem_cons,not_mem_nil,or_false]at hnm
    rcases hnm with rfl|rfl|rfl
    ·exact key _ n0 n1
    ·exact key 0 Zb f0
    ·exact key (far - 1) Zb Zb
   obtain⟨m,rfl,hm⟩:=hnum
   refine⟨_,rfl,c,4,3,rfl,Za,Za,Za,fun H6 s6=>⟨p3,_,_,V.int ((m:Nat):Int),rfl,rfl,SqL.of (s6 _ _ ak),hnat,by show 3<=sizeLine;decide,fun p4 hp4=>?_⟩⟩
   exact q _ _ ⟨sg,.num m⟩ ((s24.trans (s5.trans ((aB.new hp3).trans s6))).put hp4) ⟨hsg,hm⟩ hfst ⟨p4,_,rfl,ak,rfl⟩
  ·have m1:=cH c 5 (m:=4) Za
   have m2:=cI c 5 (m:=4) Za
   refine⟨_,rfl,c,5,4,rfl,Za,Za,Za,fun H4 s4=>?_⟩
   refine⟨_,_,rfl,rfl,_,rfl,Zb,Zb,?_⟩
   refine gC (fun i v H'=>∃ z,v=V.str z/\cX z) (fun i v H' H'' h _=>h) (le_trans (show(1+pick c 5 4).toNat<=8 by omega) Za) (fun j H' Q' hj sm k'=>?_) (fun xs H5 s5 hl hx d hd5=>?_)
   ·have hj':j<(1+pick c 5 4).toNat:=hj
    exact⟨_,rfl,_,rfl,c,0+(j:Int),rfl,Zb,Zb,fun H6 s6=>⟨_,rfl,fun z hz H7 s7=>k' _ H7 (s6.trans s7) ⟨z,rfl,hz⟩⟩⟩
   ·obtain⟨ys,hyl,rfl,hyn⟩:=DK hx
    have hgn:ir ys:=by
     refine⟨fun z=>?_,Zb,hyn⟩
     rw[z,map_nil,length_nil]at hl
     omega
    have s6:aB H (upd H5 d (.lst (ys.map V.str))):=(s2.trans (s3.trans (s4.trans s5))).put hd5
    have hdd:upd H5 d (.lst (ys.map V.str)) d=some (.lst (ys.map V.str)):=ak
    generalize upd H5 d (.lst (ys.map V.str))=H6 at s6 hdd
    refine⟨_,rfl,by show 2<=sizeLine;decide,fun p2 hp2=>?_⟩
    have hkat:atI [V.str "path",V.str "call"] (if decide (V.int way=V.int 3)=true then 1 else 0)=some (V.str (kindOf (.nms (decide (V.int way=V.int 3)) ys))):=by cases decide (V.int way=V.int 3) <;> rfl
    refine⟨_,rfl,rfl,.inr ⟨_,rfl,p2,_,_,_,rfl,rfl,SqL.of ak,hkat,?_⟩⟩
    refine⟨_,rfl,d,_,rfl,.inl ⟨SqL.of ((aB.new hp2) _ _ hdd),fun p3 hp3=>⟨by show 3<=sizeLine;decide,fun p4 hp4=>?_⟩⟩⟩
    refine q _ _ ⟨sg,.nms (decide (V.int way=V.int 3)) ys⟩ (((s6.put hp2).put hp3).put hp4) ⟨hsg,hgn⟩ hfst ⟨p4,_,rfl,ak,p3,rfl,?_⟩
    exact(aB.new hp4) _ _ ak
theorem Ae(T:Tx K mg C)(F:Fun K "_law_terms" "_law_terms" lG f fd):aO P w K mg base CX0 5 f fd vX Dr:=by
 obtain⟨fbo,dbo,Abo⟩:=T.abo
 have Gbo:aO P w K mg base CX0 4 fbo dbo Bw Lx:=Do T Abo.F
 obtain⟨fac,dac,Aac⟩:=T.aac
 have Gac:aO P w K mg base CX0 1 fac dac xX Ep:=Ag Aac.F
 obtain⟨faa,daa,Aaa⟩:=T.aaa
 have Gaa:aO P w K mg base CX0 1 faa daa gm jz:=gZ Aaa.F
 refine F.oq Ow fun _ _ _ _ H _ Q E hr h=>?_
 ·obtain⟨c,rfl,q⟩:=h
  have hr1:bw 1 _:=hr.mono Za
  have hr4:bw 4 _:=hr
  refine⟨_,QSs.h (az (aF (cJ (N:=["_law_k", "_law_cell_here"]) [none,some 0] rfl Zf (dY Zd T.range (aj (aH b7 aq (aV Aaa Gaa hr1 (aj (pv 0) (aj aq (aj aq ao))))) ao)) (fun cl C fp s H=>(aX (i:=0) (by decide +kernel:(["_law_k", "_law_cell_here"]:List Str).Nodup) rfl (Or.inl rfl))) (fun cl C fp s H=>cY) (fun cl C fp s H=>(aV Abo Gbo hr4 (aj (aV Aac Gac hr1 (aj (pv 1) (aj (aH b7 aq (aH jB aq (pv 0))) ao))) (aj (bY bB (pv 0) aq (aG _)) ao))))))),?_⟩
  have m1:=cH c 0 (m:=6) Za
  have m2:=cI c 0 (m:=6) Za
  refine⟨_,rfl,c,0,6,rfl,Za,Za,Za,fun H1 s1=>?_⟩
  refine⟨_,_,rfl,rfl,_,rfl,Zb,Zb,?_⟩
  refine gC (fun i v H'=>∃ t,qg t/\(i=0->t.sg=1)/\gG H' v t) (fun i v H' H'' ⟨t,a,b,d⟩ s=>⟨t,a,b,d.same s⟩) (le_trans (show(1+pick c 0 6).toNat<=8 by omega) Za) (fun i H' Q' hi sm k'=>?_) (fun xs H2 s2 hl hx p hp=>?_)
  ·have hi':i<(1+pick c 0 6).toNat:=hi
   refine⟨_,rfl,_,rfl,_,_,rfl,rfl,.inl ⟨Za,Za⟩,_,_,rfl,rfl,c,1+5*(0+(i:Int)),rfl,Zb,Zb,fun H3 s3=>?_⟩
   refine⟨_,rfl,rfl,_,_,rfl,fun v H4 t s4 gt g0 tm=>?_⟩
   refine k' v H4 (s3.trans s4) ⟨t,gt,fun e=>g0 (decide_eq_true ?_),tm⟩
   subst e
   rfl
  ·obtain⟨ts,htl,hts⟩:=mG (fun i v t=>qg t/\(i=0->t.sg=1)/\gG H2 v t) xs 0 (fun i v e=>by rw[Nat.zero_add];exact hx i v e)
   have back:∀ (i:Nat) t,ts[i]? = some t->∃ v,xs[i]? = some v:=fun i t e=>by
    have hi:=(List.getElem?_eq_some_iff.mp e).1
    exact⟨xs[i]'Zb,getElem?_eq_getElem Zb⟩
   refine q p _ ts ((s1.trans s2).free hp) ((s1.trans s2).put hp) ⟨fun z=>?_,Zb,fun t ht=>?_,fun t ht=>?_⟩ ⟨xs,ak,htl.symm,fun i x e=>?_⟩
   ·rw[z]at htl;simp at htl;omega
   ·obtain⟨i,hi,e⟩:=getElem_of_mem ht
    have e':ts[i]? = some t:=by rw[getElem?_eq_getElem hi,e]
    obtain⟨v,hv⟩:=back i t e'
    obtain⟨t',et,gt,_⟩:=hts i v hv
    rw[e']at et;cases et
    exact gt
   ·have e':ts[0]? = some t:=by rw[<- List.head?_eq_getElem?];exact ht
    obtain⟨v,hv⟩:=back 0 t e'
    obtain⟨t',et,_,g0,_⟩:=hts 0 v hv
    rw[e']at et;cases et
    exact g0 rfl
   ·obtain⟨t,et,_,_,tm⟩:=hts i x e
    exact⟨t,et,tm.same (aB.new hp)⟩
theorem Cy(T:Tx K mg C)(F:Fun K "_law_word" "_law_word" oU f fd):aO P w K mg base CX0 1 f fd zL Kf:=by
 refine F.oq zK fun _ _ _ _ H _ Q E hr h=>?_
 ·obtain⟨v,t,rfl,tm,gt,q⟩:=h
  refine⟨_,QSs.h (au (uL (pv 0) (jR (K:=K) (n:=3) rfl rfl (bK (aX (i:=1) zK.nd rfl (Or.inl rfl)) (bK (aX (i:=2) zK.nd rfl (Or.inl rfl)) (bK (aX (i:=3) zK.nd rfl (Or.inl rfl)) jK)))))
   (au (bc (aD bB (pv 2) aA (aG _)) (az (aF (bR tK Zd T.t_str boot_str (aj (pv 3) ao)))) aL)
   (az (aF (aH aR (cM plainAttrs_str slot_str_join type_str_join gO aA (aj (pv 3) ao)) (aH nZ aA (bR fK Zd T.t_int boot_int (aj (bY bB (pv 2) aA (aG _)) ao)))))))),?_⟩
  obtain⟨p,x,rfl,hp,hx⟩:=tm
  refine⟨_,rfl,p,_,rfl,SqT.of hp,rfl,_,_,rfl,_,_,rfl,_,_,rfl,rfl,?_⟩
  have gth:=gt.th
  have q0:=q H (aB.refl H)
  generalize t.th=th at hx gth q0 hp
  cases th with
  | num m =>
   cases hx
   exact⟨_,rfl,rfl,_,rfl,bh (decide_eq_true (show V.str (kindOf (.num m))=V.str "number" from rfl)) ⟨_,rfl,_,rfl,log2_small gth,q0⟩⟩
  | nms c ys =>
   have gn:ir ys:=gth
   obtain⟨r,rfl,hr'⟩:=hx
   have hkn:¬V.str (kindOf (.nms c ys))=V.str "number" := by
    cases c
    ·show ¬ V.str "path" = V.str "number";decide +kernel
    ·show ¬ V.str "call" = V.str "number";decide +kernel
   refine⟨_,rfl,rfl,_,rfl,aP (decide_eq_false hkn) ?_⟩
   have hs:(ys.map (·.length)).sum<=ys.length*8:=pF fun y hy=>(gn.nm y hy).hi
   have h4:=gn.hi
   have hdl:=gn.len
   refine⟨rfl,_,rfl,_,r,ys,rfl,rfl,.inr (SqT.of hr'),by rw[BP];omega,?_⟩
   have hk:decide (V.str (kindOf (.nms c ys))=V.str "call")=c:=by
    cases c
    ·exact decide_eq_false (by show ¬ V.str "path" = V.str "call";decide +kernel)
    ·exact decide_eq_true rfl
   refine⟨_,rfl,rfl,.inr ⟨_,rfl,brk,_,rfl,rfl,FW _,_,_,rfl,rfl,?_,?_⟩⟩
   ·rw[HD]
    have:(dotted ys).length+(if decide (V.str (kindOf (.nms c ys))=V.str "call")=true then brk else Str.empty).length<=1000:=by
     split
     ·rw[kI];omega
     ·show(dotted ys).length+0<=1000;omega
    exact le_trans this dJ
   ·show Q (.str (dotted ys++Txt.mul brk (if decide (V.str (kindOf (.nms c ys))=V.str "call")=true then 1 else 0))) H
    rw[HD,hk]
    cases c with
    | true=>exact q0
    | false =>
     rw[if_neg Za,JD]
     exact q0
theorem CV(T:Tx K mg C)(F:Fun K "_law_text" "_law_text" oM f fd):aO P w K mg base CX0 2 f fd Ci uC:=by
 obtain⟨fa0,da0,Aa0⟩:=T.aa0
 have Ga0:aO P w K mg base CX0 1 fa0 da0 zL Kf:=Cy T Aa0.F
 refine F.oq Cj fun _ _ _ _ H _ Q E hr h=>?_
 ·obtain⟨l,ts,rfl,⟨xs,hl,hxl,hx⟩,hg,q⟩:=h
  have hr1:bw 1 _:=hr
  refine⟨_,QSs.h (au (aY (i:=1) Cj.nd rfl (Or.inl rfl) (aV Aa0 Ga0 hr1 (aj (aU aN (pv 0) aq) ao)))
   (au (lB PassesOwn.never rfl (dH (bF cj (pv 0) (bJ aq) bN)) (aX (i:=2) Cj.nd rfl (Or.inl rfl))
   (az (aY (i:=1) Cj.nd rfl (Or.inl rfl) (aH aR (aH aR (pv 1) (aU aN (bI (aj aA (aj aA ao))) (bR fK Zd T.t_int boot_int (aj (bY bB (aU gj (pv 2) aq) aq (aG _)) ao)))) (aV Aa0 Ga0 hr1 (aj (pv 2) ao))))))
   (az (aF (pv 1))))),?_⟩
  cases ts with
  | nil=>exact absurd rfl hg.lo
  | cons t0 tr =>
  cases xs with
  | nil=>simp at hxl
  | cons x0 xr =>
  obtain⟨t0',e0,tm0⟩:=hx 0 x0 rfl
  cases e0
  have h6:=hg.hi
  have hll:xr.length=tr.length:=by simpa using hxl
  refine⟨_,rfl,l,_,_,x0,rfl,rfl,SqL.of hl,bL (j:=0) rfl,x0,t0,rfl,tm0,hg.ok t0 mem_cons_self,fun H1 s1=>?_⟩
  refine⟨_,rfl,_,rfl,l,_,rfl,SqL.of (s1 _ _ hl),fun p hp=>?_⟩
  rw[Ko]
  have s2:aB H (upd H1 p (.lst (List.drop 1 (x0::xr)))):=s1.put hp
  refine⟨p,rfl,⟨_,SqL.of ak⟩,?_⟩
  have hp2':upd H1 p (.lst (List.drop 1 (x0::xr))) p=some (.lst xr):=ak
  generalize upd H1 p (.lst (List.drop 1 (x0::xr)))=H2 at s2 hp2'
  refine Cr (xs:=xr) (fun i σ H'=>∃ v2,σ=[some (.ref l),some (.str (textOf ((t0::tr).take (i+1)))),v2]/\aB H2 H') ⟨none,rfl,aB.refl _⟩ ?_ ?_ ?_
  ·rintro i σ H' _ ⟨v2,rfl,sm⟩
   exact SqL.of (sm _ _ hp2')
  ·rintro i x σ H3 hxi ⟨v2,rfl,sm⟩
   obtain⟨t,et,tm⟩:=hx (i+1) x (by simpa using hxi)
   have gt:qg t:=hg.ok t (mem_of_getElem? et)
   have tm3:gG H3 x t:=tm.same (s2.trans sm)
   obtain⟨a,y,rfl,ha,hy⟩:=id tm3
   have wl:=wY gt.th
   have tl:=wF (ts:=(t0::tr).take (i+1)) fun t ht=>hg.ok t (List.mem_of_mem_take ht)
   have tll:((t0::tr).take (i+1)).length<=6:=by rw[length_take];omega
   have gl:=PP t.sg
   have hgat:atI [V.str " - ",V.str " + "] (if decide (V.int t.sg=V.int 1)=true then 1 else 0)=some (V.str (gap t.sg)):=by
    unfold gap
    by_cases h:t.sg=1
    ·rw[decide_eq_true (congrArg V.int h),if_pos h];rfl
    ·rw[decide_eq_false (fun e=>h (V.int.inj e)),if_neg h];rfl
   refine⟨_,rfl,by show 2<=sizeLine;decide,fun b hb=>?_⟩
   refine⟨_,rfl,a,_,_,V.int t.sg,rfl,rfl,SqT.of ((aB.new hb) _ _ ha),rfl,rfl,.inr ⟨_,rfl,b,_,_,_,rfl,rfl,SqL.of ak,hgat,?_⟩⟩
   refine⟨_,_,rfl,rfl,le_trans (show _<=1000 by omega) dJ,_,rfl,_,t,rfl,tm3.same (aB.new hb),gt,fun H4 s4=>?_⟩
   refine⟨_,_,rfl,rfl,le_trans (show _<=1000 by rw[bM];omega) dJ,?_⟩
   refine⟨some (V.ref a),?_,sm.trans ((aB.new hb).trans s4)⟩
   have e3:textOf ((t0::tr).take (i+1+1))=textOf ((t0::tr).take (i+1))++gap t.sg++wordOf t.th:=by
    rw[take_add_one (i:=i+1),et]
    exact Ed t Zc
   rw[e3]
   rfl
  ·rintro σ H3 ⟨v2,rfl,sm⟩
   have e:(t0::tr).take (xr.length+1)=t0::tr:=take_of_length_le Zg
   have q':=q H3 (s2.trans sm)
   rw[<- e]at q'
   exact⟨_,rfl,q'⟩
theorem Gf(T:Tx K mg C)(F:Fun K "_law_row" "_law_row" qG f fd):aO P w K mg base CX0 6 f fd Hu Qx:=by
 obtain⟨fa7,da7,Aa7⟩:=T.aa7
 have Ga7:aO P w K mg base CX0 5 fa7 da7 vX Dr:=Ae T Aa7.F
 obtain⟨faa,daa,Aaa⟩:=T.aaa
 have Gaa:aO P w K mg base CX0 1 faa daa gm jz:=gZ Aaa.F
 obtain⟨fau,dau,Aau⟩:=T.aau
 have Gau:aO P w K mg base CX0 4 fau dau nO Fg:=pX T Aau.F
 obtain⟨fag,dag,Aag⟩:=T.aag
 have Gag:aO P w K mg base CX0 3 fag dag qz vK:=pq T Aag.F
 obtain⟨fac,dac,Aac⟩:=T.aac
 have Gac:aO P w K mg base CX0 1 fac dac xX Ep:=Ag Aac.F
 refine F.oq Cv fun _ _ _ _ H _ Q E hr h=>?_
 ·obtain⟨c,z,rfl,hz,q⟩:=h
  have hr1:bw 1 _:=hr.mono Za
  have hr3:bw 3 _:=hr.mono Za
  have hr4:bw 4 _:=hr.mono Za
  have hr5:bw 5 _:=hr
  refine⟨_,QSs.h (au (Nr (i:=2) Cv.nd rfl (Or.inl rfl) (Ua aN (Og (bz aA (bz aA (bz aA (bz aA (bz aA (bz aA wN))))))) (aV Aaa Gaa hr1 (aj (pv 0) (aj aq (aj aq ao))))))
   (au (aY (i:=3) Cv.nd rfl (Or.inl rfl) (aV Aa7 Ga7 hr5 (aj (pv 0) ao)))
   (au (bc (aD bB (pv 2) aA (aG _)) (az (vO (N:=["_law_sign", "_law_kind", "_law_thing"]) [none,none,none] (i:=3) Cv.nd rfl (Or.inl rfl) rfl Zf (dH (pv 3)) (fun cl C fp s H=>(jR (K:=K) (n:=3) rfl rfl (bK (aX (i:=0) (by decide +kernel:(["_law_sign", "_law_kind", "_law_thing"]:List Str).Nodup) rfl (Or.inl rfl)) (bK (aX (i:=1) (by decide +kernel:(["_law_sign", "_law_kind", "_law_thing"]:List Str).Nodup) rfl (Or.inl rfl)) (bK (aX (i:=2) (by decide +kernel:(["_law_sign", "_law_kind", "_law_thing"]:List Str).Nodup) rfl (Or.inl rfl)) jK))))) (fun cl C fp s H=>cY) (fun cl C fp s H=>(bT (aj (pv 0) (aj (aU (Ej (K:=K) rfl) (bI (aj aA (aj (pv 1) ao))) (bR fK Zd T.t_int boot_int (aj (bY bB (pv 1) aA (aG _)) ao))) (aj (pv 2) ao))))))) aL)
   (au (bc (aD bB (pv 2) aA (aG _)) (az (aY (i:=1) Cv.nd rfl (Or.inl rfl) aA)) aL)
   (az (aF (bT (aj (pv 2) (aj (pv 1) (aj (aV Aau Gau hr4 (aj (aV Aac Gac hr1 (aj (pv 0) (aj aq ao))) ao)) (aj (aV Aag Gag hr3 (aj (aV Aac Gac hr1 (aj (pv 0) (aj aq ao))) ao)) (aj (pv 3) ao)))))))))))),?_⟩
  have k1:=cH c 10 (m:=6) Za
  have k2:=cI c 10 (m:=6) Za
  refine⟨by show 6<=sizeLine;decide,fun p hp=>?_⟩
  refine⟨_,rfl,c,10,6,rfl,Za,Za,Za,fun H1 s1=>⟨p,_,_,_,rfl,rfl,SqL.of (s1 _ _ ak),JW k1 k2,?_⟩⟩
  have hso:(pick c 10 6).toNat<=5:=by omega
  generalize (pick c 10 6).toNat=so at hso
  refine⟨_,rfl,c,rfl,fun l H2 ts hlf s2 hgt hts=>?_⟩
  have s02:aB H H2:=(aB.new hp).trans (s1.trans s2)
  have hl0:H l=none:=((aB.new hp).trans s1).free hlf
  by_cases h1:so=1
  ·subst h1
   refine⟨_,rfl,rfl,_,rfl,bh (sT 1) ?_⟩
   obtain⟨xs,hl2,hxl,hxt⟩:=id hts
   have h6:=hgt.hi
   refine⟨_,rfl,l,rfl,⟨_,SqL.of hl2⟩,Gx (xs:=xs) (fun τ=>∃ u v w,τ=[u,v,w]) (fun i v H'=>∃ t,ts[i]? = some t/\gG H' v (unc t)) (fun i v H' H'' ⟨t,et,tm⟩ s=>⟨t,et,tm.same s⟩) (le_trans (show xs.length<=1000 by omega) dJ) (SqL.of hl2) ⟨_,_,_,rfl⟩ (fun i x τ H' Q' hx sm hS k'=>?_) (fun ys H3 s3 hyl hys lt hlt=>?_)⟩
   ·obtain⟨u,v,w,rfl⟩:=hS
    obtain⟨t,et,tm⟩:=hxt i x hx
    obtain⟨pp,y,rfl,hpp,hy⟩:=tm.same sm
    refine⟨pp,_,rfl,SqT.of hpp,rfl,_,_,rfl,_,_,rfl,_,_,rfl,rfl,?_⟩
    refine⟨_,rfl,_,rfl,by show 2<=sizeLine;decide,fun p2 hp2=>⟨_,rfl,rfl,.inr ⟨_,rfl,p2,_,_,_,rfl,rfl,SqL.of ak,Mz t.th,_,rfl,by show 3<=sizeLine;decide,fun p3 hp3=>?_⟩⟩⟩
    exact k' _ _ _ ⟨_,_,_,rfl⟩ ((aB.new hp2).put hp3) ⟨t,et,p3,y,rfl,ak,hy.unc.same ((aB.new hp2).put hp3)⟩
   have s4:aB H2 (upd H3 lt (.lst ys)):=s3.put hlt
   have ht4:dw (upd H3 lt (.lst ys)) lt (ts.map unc):=⟨ys,ak,by rw[length_map,hyl,hxl],fun i v e=>by
    obtain⟨t,et,tm⟩:=hys i v e
    exact⟨unc t,by rw[getElem?_map,et];rfl,tm.same (aB.new hlt)⟩⟩
   have hlt0:H lt=none:=(s02.trans s3).free hlt
   generalize upd H3 lt (.lst ys)=H4 at s4 ht4
   refine⟨_,rfl,rfl,_,rfl,aP (sF 1 5) ?_⟩
   refine⟨_,rfl,_,rfl,_,rfl,c,31,rfl,Za,Za,fun H5 s5=>⟨_,rfl,fun ys hys H6 s6=>⟨_,rfl,c,35,rfl,Za,Za,fun H7 s7=>⟨_,rfl,fun wz hwz H8 s8=>⟨_,rfl,by show 5<=sizeLine;decide,fun p2 hp2=>?_⟩⟩⟩⟩⟩
   have s38:aB H4 (upd H8 p2 (.tup [.str (cu 1),.str z,.str (dotted ys),.str wz,.ref lt])):=(s5.trans (s6.trans (s7.trans s8))).put hp2
   exact q _ lt _ ⟨1,z,dotted ys,wz,ts.map unc⟩ ⟨Zb,fun _=>hz,fun k=>by simp at k,⟨ys,hys,rfl⟩,hwz,Io hgt,fun _=>Sv⟩ ((s02.trans s4).trans s38) hlt0 ⟨p2,rfl,ak,ht4.same s38⟩
  by_cases h5:so=5
  ·subst h5
   refine⟨_,rfl,rfl,_,rfl,aP (sF 5 1) ?_⟩
   refine⟨_,rfl,rfl,_,rfl,bh (sT 5) ?_⟩
   refine⟨_,rfl,_,rfl,_,rfl,c,31,rfl,Za,Za,fun H5 s5=>⟨_,rfl,fun ys hys H6 s6=>⟨_,rfl,c,35,rfl,Za,Za,fun H7 s7=>⟨_,rfl,fun wz hwz H8 s8=>⟨_,rfl,by show 5<=sizeLine;decide,fun p2 hp2=>?_⟩⟩⟩⟩⟩
   have s38:aB H2 (upd H8 p2 (.tup [.str (cu 5),.str "",.str (dotted ys),.str wz,.ref l])):=(s5.trans (s6.trans (s7.trans s8))).put hp2
   exact q _ l _ ⟨5, "",dotted ys,wz,ts⟩ ⟨Zb,fun k=>by simp at k,fun _=>rfl,⟨ys,hys,rfl⟩,hwz,hgt,fun k=>by simp at k⟩ (s02.trans s38) hl0 ⟨p2,rfl,ak,hts.same s38⟩
  ·refine⟨_,rfl,rfl,_,rfl,aP (sF so 1 (by unfold nu;rw[decide_eq_false h1];rfl) hso) ?_⟩
   refine⟨_,rfl,rfl,_,rfl,aP (sF so 5 (by unfold nu;rw[decide_eq_false h5];rfl) hso) ?_⟩
   refine⟨_,rfl,_,rfl,_,rfl,c,31,rfl,Za,Za,fun H5 s5=>⟨_,rfl,fun ys hys H6 s6=>⟨_,rfl,c,35,rfl,Za,Za,fun H7 s7=>⟨_,rfl,fun wz hwz H8 s8=>⟨_,rfl,by show 5<=sizeLine;decide,fun p2 hp2=>?_⟩⟩⟩⟩⟩
   have s38:aB H2 (upd H8 p2 (.tup [.str (cu so),.str z,.str (dotted ys),.str wz,.ref l])):=(s5.trans (s6.trans (s7.trans s8))).put hp2
   exact q _ l _ ⟨so,z,dotted ys,wz,ts⟩ ⟨Zb,fun _=>hz,fun k=>absurd k h5,⟨ys,hys,rfl⟩,hwz,hgt,fun k=>absurd k h1⟩ (s02.trans s38) hl0 ⟨p2,rfl,ak,hts.same s38⟩
theorem u5(T:Tx K mg C)(F:Fun K "_law_said" "_law_said" oA f fd):aO P w K mg base CX0 3 f fd xH zZ:=by
 obtain⟨fax,dax,Aax⟩:=T.aax
 have Gax:aO P w K mg base CX0 2 fax dax Ci uC:=CV T Aax.F
 refine F.oq uH fun _ _ _ _ H _ Q E hr h=>?_
 ·obtain⟨v,lt,r,rfl,rt,hg,q⟩:=h
  have hr2:bw 2 _:=hr
  refine⟨_,QSs.h (au (uL (pv 0) (jR (K:=K) (n:=5) rfl rfl (bK (aX (i:=1) uH.nd rfl (Or.inl rfl)) (bK (aX (i:=2) uH.nd rfl (Or.inl rfl)) (bK (aX (i:=3) uH.nd rfl (Or.inl rfl)) (bK (aX (i:=4) uH.nd rfl (Or.inl rfl)) (bK (aX (i:=5) uH.nd rfl (Or.inl rfl)) jK)))))))
   (au (bc (PW.pt (cU (aD bB (pv 1) aA (aG _)) (dI (aD bB (pv 1) aA (aG _))))) (az (aF (aH aR (aH aR (aH aR (aH aR (pv 1) aA) (pv 3)) aA) (pv 2)))) aL)
   (au (bc (aD bB (pv 1) aA (aG _)) (az (aF (aH aR (aH aR (aH aR (aH aR (aH aR aA (pv 4)) aA) (pv 3)) aA) (pv 2)))) aL)
   (au (bc (aD bB (pv 1) aA (aG _)) (az (aF (aH aR aA (aV Aax Gax hr2 (aj (pv 5) ao))))) aL)
   (az (aF (aH aR (aH aR (aH aR (aH aR (pv 1) aA) (pv 2)) aA) (aV Aax Gax hr2 (aj (pv 5) ao))))))))),?_⟩
  obtain⟨p,aa',ww',rfl,hp,hA,hW,htt⟩:=id rt
  obtain⟨so,nn,aa,ww,tt⟩:=r
  have h5:so<=5:=hg.so
  have e1:nn.length<=8:=hg.nl
  have e2:aa.length<=36:=hg.al
  have e3:(textOf tt).length<=480:=hg.tl
  have e4:ww.length<=8:=hg.wd.hi
  have gts:cD tt:=hg.ts
  refine⟨_,rfl,p,_,rfl,SqT.of hp,rfl,_,_,rfl,_,_,rfl,_,_,rfl,_,_,rfl,_,_,rfl,rfl,?_⟩
  rcases six h5 with rfl|rfl|rfl|rfl|rfl|rfl
  ·have e:bO ⟨0,nn,aa,ww,tt⟩=cu 0 ++ " " ++ nn ++ " be " ++ textOf tt:=by rw[Ey rfl];show _=("let" : Str) ++ " " ++ nn ++ " be " ++ textOf tt;rw[TY]
   rw[e]at q
   refine⟨_,rfl,rfl,_,rfl,aP (sF 0 2) ⟨_,rfl,rfl,_,rfl,aP (sF 0 3) ⟨_,rfl,rfl,_,rfl,aP (sF 0 4) ⟨_,rfl,rfl,_,rfl,aP (sF 0 5) ?_⟩⟩⟩⟩
   exact⟨_,rfl,_,_,rfl,rfl,abS (le_of_eq Bf) (le_of_eq fQ),_,rfl,_,_,rfl,rfl,abS (alS (le_of_eq Bf) (le_of_eq fQ)) e1,_,_,rfl,rfl,abS (alS (alS (le_of_eq Bf) (le_of_eq fQ)) e1) (le_of_eq jx),_,rfl,lt,tt,rfl,htt (.inl rfl),gts,fun H' s'=>⟨_,_,rfl,rfl,abS (alS (alS (alS (le_of_eq Bf) (le_of_eq fQ)) e1) (le_of_eq jx)) e3,q H' s'⟩⟩
  ·have e:bO ⟨1,nn,aa,ww,tt⟩=cu 1 ++ " " ++ nn ++ " be " ++ textOf tt:=by rw[CN rfl];show _=("deed" : Str) ++ " " ++ nn ++ " be " ++ textOf tt;rw[RN]
   rw[e]at q
   refine⟨_,rfl,rfl,_,rfl,aP (sF 1 2) ⟨_,rfl,rfl,_,rfl,aP (sF 1 3) ⟨_,rfl,rfl,_,rfl,aP (sF 1 4) ⟨_,rfl,rfl,_,rfl,aP (sF 1 5) ?_⟩⟩⟩⟩
   exact⟨_,rfl,_,_,rfl,rfl,abS (le_of_eq vM) (le_of_eq fQ),_,rfl,_,_,rfl,rfl,abS (alS (le_of_eq vM) (le_of_eq fQ)) e1,_,_,rfl,rfl,abS (alS (alS (le_of_eq vM) (le_of_eq fQ)) e1) (le_of_eq jx),_,rfl,lt,tt,rfl,htt (.inr (.inl rfl)),gts,fun H' s'=>⟨_,_,rfl,rfl,abS (alS (alS (alS (le_of_eq vM) (le_of_eq fQ)) e1) (le_of_eq jx)) e3,q H' s'⟩⟩
  ·have eA:aa=aa':=(hA (.inl rfl)).symm
   subst eA
   have e:bO ⟨2,nn,aa,ww,tt⟩=cu 2 ++ " " ++ aa ++ " as " ++ nn:=by rw[Di rfl];show _=("draw" : Str) ++ " " ++ aa ++ " as " ++ nn;rw[RC]
   rw[e]at q
   refine⟨_,rfl,rfl,_,rfl,bh (sT 2) (pN ?_)⟩
   exact⟨_,rfl,_,_,rfl,rfl,abS (le_of_eq vQ) (le_of_eq fQ),_,rfl,_,_,rfl,rfl,abS (alS (le_of_eq vQ) (le_of_eq fQ)) e2,_,_,rfl,rfl,abS (alS (alS (le_of_eq vQ) (le_of_eq fQ)) e2) (le_of_eq d7),_,rfl,_,_,rfl,rfl,abS (alS (alS (alS (le_of_eq vQ) (le_of_eq fQ)) e2) (le_of_eq d7)) e1,q H (aB.refl H)⟩
  ·have eA:aa=aa':=(hA (.inr (.inl rfl))).symm
   subst eA
   have e:bO ⟨3,nn,aa,ww,tt⟩=cu 3 ++ " " ++ aa ++ " as " ++ nn:=by rw[DG rfl];show _=("late" : Str) ++ " " ++ aa ++ " as " ++ nn;rw[S5]
   rw[e]at q
   refine⟨_,rfl,rfl,_,rfl,aP (sF 3 2) ⟨_,rfl,rfl,_,rfl,bh (sT 3) ?_⟩⟩
   exact⟨_,rfl,_,_,rfl,rfl,abS (le_of_eq vR) (le_of_eq fQ),_,rfl,_,_,rfl,rfl,abS (alS (le_of_eq vR) (le_of_eq fQ)) e2,_,_,rfl,rfl,abS (alS (alS (le_of_eq vR) (le_of_eq fQ)) e2) (le_of_eq d7),_,rfl,_,_,rfl,rfl,abS (alS (alS (alS (le_of_eq vR) (le_of_eq fQ)) e2) (le_of_eq d7)) e1,q H (aB.refl H)⟩
  ·have eA:aa=aa':=(hA (.inr (.inr rfl))).symm
   subst eA
   have eW:ww=ww':=(hW rfl).symm
   subst eW
   rw[CK (r:=⟨4,nn,aa,ww,tt⟩) rfl]at q
   refine⟨_,rfl,rfl,_,rfl,aP (sF 4 2) ⟨_,rfl,rfl,_,rfl,aP (sF 4 3) ⟨_,rfl,rfl,_,rfl,bh (sT 4) ?_⟩⟩⟩
   exact⟨_,rfl,_,_,rfl,rfl,abS (le_of_eq dX) e4,_,_,rfl,rfl,abS (alS (le_of_eq dX) e4) (le_of_eq len_from),_,rfl,_,_,rfl,rfl,abS (alS (alS (le_of_eq dX) e4) (le_of_eq len_from)) e2,_,_,rfl,rfl,abS (alS (alS (alS (le_of_eq dX) e4) (le_of_eq len_from)) e2) (le_of_eq d7),_,rfl,_,_,rfl,rfl,abS (alS (alS (alS (alS (le_of_eq dX) e4) (le_of_eq len_from)) e2) (le_of_eq d7)) e1,q H (aB.refl H)⟩
  ·rw[Cq (r:=⟨5,nn,aa,ww,tt⟩) rfl]at q
   refine⟨_,rfl,rfl,_,rfl,aP (sF 5 2) ⟨_,rfl,rfl,_,rfl,aP (sF 5 3) ⟨_,rfl,rfl,_,rfl,aP (sF 5 4) ⟨_,rfl,rfl,_,rfl,bh (sT 5) ?_⟩⟩⟩⟩
   exact⟨_,rfl,lt,tt,rfl,htt (.inr (.inr rfl)),gts,fun H' s'=>⟨_,_,rfl,rfl,abS (le_of_eq ut) e3,q H' s'⟩⟩
theorem Cg(T:Tx K mg C)(F:Fun K "_law_whole" "_law_whole" jr f fd):aO P w K mg base CX0 1 f fd qH Od:=by
 refine F.oq Ib fun _ _ _ _ H _ Q E hr h=>?_
 ·obtain⟨i,rfl,q⟩:=h
  refine⟨_,QSs.h (az (aF (dZ (aJ b8 Zd T.inst boot_isinstance (aj (pv 0) (aj (cR (v:=.ty "int") Zd T.t_int boot_int rfl) ao))) (iK (Ft (aJ b8 Zd T.inst boot_isinstance (aj (pv 0) (aj (cR (v:=.ty "bool") Zd T.t_bool boot_bool rfl) ao)))))))),?_⟩
  exact⟨_,rfl,_,_,_,_,rfl,.int _,cB,_,rfl,pN ⟨_,rfl,_,_,_,false,rfl,.int _,Kp Ze Ze Ze,_,rfl,q H (aB.refl H)⟩⟩
theorem yg(T:Tx K mg C)(F:Fun K "_law_whole" "_law_whole" jr f fd):uh P w K mg base 1 f fd qH Od:=by
 refine F.okH Ib (fun vs H Q E h=>?_) (fun cdv A outer s H vs Q E y hr h=>?_)
 ·obtain⟨i,rfl,_⟩:=h
  rfl
 ·obtain⟨i,rfl,q⟩:=h
  refine⟨_,QSs.h (az (aF (dZ (aJ (yd (K:=K) rfl) Zd T.inst boot_isinstance (aj (pv 0) (aj (cR (v:=.ty "int") Zd T.t_int boot_int rfl) ao))) (iK (Ft (aJ (yd (K:=K) rfl) Zd T.inst boot_isinstance (aj (pv 0) (aj (cR (v:=.ty "bool") Zd T.t_bool boot_bool rfl) ao)))))))),?_⟩
  exact⟨_,rfl,_,_,_,_,rfl,.int _,cB,_,rfl,pN ⟨_,rfl,_,_,_,false,rfl,.int _,Kp Ze Ze Ze,_,rfl,q H (aB.refl H)⟩⟩
theorem xn(T:Tx K mg C)(F:Fun K "_law_term_is" "_law_term_is" iY f fd):aO P w K mg base CX0 2 f fd uv DN:=by
 obtain⟨faq,daq,Aaq⟩:=T.aaq
 have Gaq:aO P w K mg base CX0 1 faq daq qH Od:=Cg T Aaq.F
 refine F.oq KZ fun _ _ _ _ H _ Q E hr h=>?_
 ·obtain⟨x,y,t,rfl,t1,t2,q⟩:=h
  have hr1:bw 1 _:=hr
  refine⟨_,QSs.h (au (bc (PW.pt (cU (cV (bQ (aJ b8 Zd T.inst boot_isinstance (aj (pv 0) (aj (cR (v:=.ty "tuple") Zd T.t_tuple boot_tuple rfl) ao))))) (cU (aD dM (aJ aW Zd T.len boot_len (aj (pv 0) ao)) aq (aG _)) (cU (cV (bQ (aV Aaq Gaq hr1 (aj (aU gj (pv 0) aq) ao)))) (dI (cV (bQ (aJ b8 Zd T.inst boot_isinstance (aj (aU gj (pv 0) aq) (aj (cR (v:=.ty "str") Zd T.t_str boot_str rfl) ao)))))))))) (az (aF gB)) aL)
   (au (bc (aD bB (aU gj (pv 1) aq) aA (aG _)) (az (aF (dZ (aV Aaq Gaq hr1 (aj (aU gj (pv 0) aq) ao)) (iK (bY (zH (K:=K) rfl hr.units) (pv 0) (pv 1) (aG _)))))) aL)
   (az (aF (dZ (aJ b8 Zd T.inst boot_isinstance (aj (aU gj (pv 0) aq) (aj (cR (v:=.ty "tuple") Zd T.t_tuple boot_tuple rfl) ao))) (iK (bY (zH (K:=K) rfl hr.units) (pv 0) (pv 1) (aG _)))))))),?_⟩
  obtain⟨p,a,rfl,hp,ha⟩:=t1
  obtain⟨r,b,rfl,hr',hb⟩:=t2
  refine⟨_,rfl,_,_,_,_,rfl,.tup hp,cB,_,rfl,bH ?_⟩
  refine⟨_,rfl,p,_,rfl,.inr (SqT.of hp),rfl,_,rfl,qY rfl ?_⟩
  refine⟨_,rfl,p,_,_,V.int t.sg,rfl,rfl,SqT.of hp,rfl,t.sg,rfl,fun H1 s1=>⟨_,rfl,bH ?_⟩⟩
  refine⟨_,rfl,p,_,_,V.str (kindOf t.th),rfl,rfl,SqT.of (s1 _ _ hp),rfl,_,_,_,_,rfl,.str _,cB,_,rfl,bH ?_⟩
  refine⟨_,rfl,r,_,_,V.str (kindOf t.th),rfl,rfl,SqT.of (s1 _ _ hr'),rfl,rfl,_,rfl,?_⟩
  show if decide (V.str (kindOf t.th)=V.str "number")=true then _ else _
  have d1:DSq K H1 p r:=gG.dsq (s1 _ _ hp) (s1 _ _ hr') (ha.same s1) (hb.same s1)
  cases hth:t.th with
  | num m =>
   rw[hth]at ha
   cases ha
   refine bh (decide_eq_true (show V.str (kindOf (.num m))=V.str "number" from rfl)) ⟨_,rfl,p,_,_,V.int ((m:Nat):Int),rfl,rfl,SqT.of (s1 _ _ hp),rfl,_,rfl,fun H2 s2=>⟨_,rfl,pN ?_⟩⟩
   refine⟨_,rfl,_,rfl,p,r,rfl,rfl,?_,q H2 (s1.trans s2)⟩
   exact gG.dsq (s2 _ _ (s1 _ _ hp)) (s2 _ _ (s1 _ _ hr')) (by rw[hth];rfl) (hb.same (s1.trans s2))
  | nms c ys =>
   have hkn:¬V.str (kindOf (.nms c ys))=V.str "number" := by
    cases c
    ·show ¬ V.str "path" = V.str "number";decide +kernel
    ·show ¬ V.str "call" = V.str "number";decide +kernel
   have ha':=ha
   rw[hth]at ha'
   obtain⟨k,rfl,hk⟩:=ha'
   refine aP (decide_eq_false hkn) ⟨_,rfl,p,_,_,V.ref k,rfl,rfl,SqT.of (s1 _ _ hp),rfl,_,_,_,_,rfl,.tup (s1 _ _ hk),cB,_,rfl,pN ?_⟩
   exact⟨_,rfl,_,rfl,p,r,rfl,rfl,d1,q H1 s1⟩
theorem uI(T:Tx K mg C)(F:Fun K "_law_terms_are" "_law_terms_are" f9 f fd):aO P w K mg base CX0 3 f fd pI wB:=by
 obtain⟨fbl,dbl,Abl⟩:=T.abl
 have Gbl:aO P w K mg base CX0 2 fbl dbl uv DN:=xn T Abl.F
 refine F.oq Fl fun _ _ _ _ H _ Q E hr h=>?_
 ·obtain⟨l,r,ts,rfl,⟨xs,hl,hxl,hx⟩,⟨ys,hr',hyl,hy⟩,h10,q⟩:=h
  have hr2:bw 2 _:=hr
  refine⟨_,QSs.h (au (bc (PW.pt (cU (cV (bQ (aJ b8 Zd T.inst boot_isinstance (aj (pv 0) (aj (cR (v:=.ty "list") Zd T.t_list boot_list rfl) ao))))) (dI (aD dM (aJ aW Zd T.len boot_len (aj (pv 0) ao)) (aJ aW Zd T.len boot_len (aj (pv 1) ao)) (aG _))))) (az (aF gB)) aL)
   (az (aF (aJ (nP rfl) Zd T.all boot_all (aj (cJ (N:=["_law_one", "_law_other"]) [none,none] rfl Zf (Mq (K:=K) rfl Zd T.zip (aj (pv 0) (aj (pv 1) ao))) (fun cl C fp s H=>(jR (K:=K) (n:=2) rfl rfl (bK (aX (i:=0) (by decide +kernel:(["_law_one", "_law_other"]:List Str).Nodup) rfl (Or.inl rfl)) (bK (aX (i:=1) (by decide +kernel:(["_law_one", "_law_other"]:List Str).Nodup) rfl (Or.inl rfl)) jK)))) (fun cl C fp s H=>cY) (fun cl C fp s H=>(aV Abl Gbl hr2 (aj (pv 0) (aj (pv 1) ao))))) ao))))),?_⟩
  refine⟨_,rfl,_,_,_,_,rfl,.lst hl,cB,_,rfl,bH ?_⟩
  refine⟨_,rfl,l,_,rfl,.inl (SqL.of hl),_,rfl,r,_,rfl,.inl (SqL.of hr'),rfl,_,rfl,qY (by rw[hxl,hyl]) ?_⟩
  refine⟨_,rfl,_,rfl,l,r,rfl,⟨_,SqL.of hl⟩,⟨_,SqL.of hr'⟩,?_⟩
  refine Kr (xs:=xs) (ys:=ys) (fun _=>V.bl true) (le_trans (show xs.length<=1000 by omega) dJ) Zb (SqL.of hl) (SqL.of hr') (fun i x y H' Q' ex ey sm k'=>?_) (fun H' sm p hp=>?_)
  ·obtain⟨t,et,tm⟩:=hx i x ex
   obtain⟨t',et',tm'⟩:=hy i y ey
   rw[et]at et';cases et'
   exact⟨_,rfl,_,rfl,x,y,t,rfl,tm.same sm,tm'.same sm,k'⟩
  ·refine⟨p,(List.range xs.length).map fun _=>true,rfl,SqL.of (by rw[ak,map_map];rfl),?_⟩
   have e:((List.range xs.length).map fun _=>true).all id=true:=by simp
   have q2:Pur (.bl (((List.range xs.length).map fun _=>true).all id)) H Q:=by rw[e];exact q
   exact q2 _ (sm.put hp)
theorem CT(T:Tx K mg C)(F:Fun K "_law_says" "_law_says" n6 f fd):aO P w K mg base CX0 4 f fd By (Hc C):=by
 obtain⟨fan,dan,Aan⟩:=T.aan
 have Gan:aO P w K mg base CX0 3 fan dan xH zZ:=u5 T Aan.F
 refine F.oq wO fun _ _ _ _ H _ Q E hr h=>?_
 ·obtain⟨a,l,v,lt,r,rfl,ra,rt,hg,q⟩:=h
  have hr3:bw 3 _:=hr
  refine⟨_,QSs.h (au (aY (i:=2) wO.nd rfl (Or.inl rfl) (aH Rg (bI (aj (aU gj (pv 1) aq) ao)) (bR fK Zd T.t_int boot_int (aj (bY iQ (aU gj (pv 1) aq) (bT (aj aA (aj aA (aj aA ao)))) Zd) ao))))
   (au (aY (i:=3) wO.nd rfl (Or.inl rfl) (jj (P:=P) (w:=w) (K:=K) (mg:=mg) (base:=base) rfl rfl rfl rfl rfl hr3 (pv 0)))
   (au (aY (i:=4) wO.nd rfl (Or.inl rfl) (jj (P:=P) (w:=w) (K:=K) (mg:=mg) (base:=base) rfl rfl rfl rfl rfl hr3 (pv 0)))
   (au (aY (i:=5) wO.nd rfl (Or.inl rfl) (jj (P:=P) (w:=w) (K:=K) (mg:=mg) (base:=base) rfl rfl rfl rfl rfl hr3 (pv 0)))
   (au (bc (PW.pt (cU (cV (bQ (aJ b8 Zd T.inst boot_isinstance (aj (pv 3) (aj (cR (v:=.ty "str") Zd T.t_str boot_str rfl) ao))))) (cU (aD dM (pv 3) (aU gj (pv 1) aq) (aG _)) (cU (cV (bQ (aJ b8 Zd T.inst boot_isinstance (aj (pv 4) (aj (cR (v:=.ty "list") Zd T.t_list boot_list rfl) ao))))) (dI (aD (Bj (K:=K) rfl hr.units) (pv 4) (pv 2) (aG _))))))) (az (aF gB)) aL)
   (au (fM (cM plainAttrs_list PySem.F.slot_list_append PySem.F.type_list_append gq (pv 4) (aj aA ao)))
   (az (aF (dZ (aJ b8 Zd T.inst boot_isinstance (aj (pv 5) (aj (cR (v:=.ty "str") Zd T.t_str boot_str rfl) ao))) (dZ (bY bB (pv 5) (aV Aan Gan hr3 (aj (pv 1) ao)) (aG _)) (iK (bY (zH (K:=K) rfl hr.units) (jj (P:=P) (w:=w) (K:=K) (mg:=mg) (base:=base) rfl rfl rfl rfl rfl hr3 (pv 0)) (pv 2) (aG _))))))))))))),?_⟩
  obtain⟨p,aa',ww',rfl,hp,hA,hW,htt⟩:=id rt
  have h5:=hg.so
  refine⟨_,rfl,p,_,_,V.str aa',rfl,rfl,SqT.of hp,rfl,by show 1<=sizeLine;decide,fun d0 hd0=>?_⟩
  refine⟨_,rfl,p,_,_,V.str (cu r.so),rfl,rfl,SqT.of ((aB.new hd0) _ _ hp),rfl,by show 3<=sizeLine;decide,fun t0 ht0=>?_⟩
  refine⟨t0,_,rfl,.inr (SqT.of ak),rfl,rfl,.inr ⟨_,rfl,d0,_,_,rfl,rfl,(aB.new ht0) _ _ ak,Q4 _,Sd _,Iw _,fun d hd=>?_⟩⟩
  refine⟨_,rfl,rdB T (ra.same (((aB.new hd0).put ht0).put hd)) hg fun H2 s2=>?_⟩
  have s02:aB H H2:=(((aB.new hd0).put ht0).put hd).trans s2
  have hdd:H2 d=some (.lst ((jV r).map V.str)):=(s2 _ _ ak).trans (congrArg (fun z=>some (HO.lst z)) (Oz h5 hA rfl))
  refine⟨_,rfl,rdA T (ra.same s02) hg fun b H3 hb s3 hbl=>?_⟩
  refine⟨_,rfl,rdS T (ra.same (s02.trans s3)) hg fun H4 s4=>?_⟩
  have s04:aB H H4:=s02.trans (s3.trans s4)
  have hb4:=s4 _ _ hbl
  have hd4:=s4 _ _ (s3 _ _ hdd)
  refine⟨_,rfl,_,_,_,_,rfl,.str _,cB,_,rfl,bH ?_⟩
  refine⟨_,rfl,_,rfl,p,_,_,V.str r.nm,rfl,rfl,SqT.of (s04 _ _ hp),rfl,rfl,_,rfl,qY rfl ?_⟩
  refine⟨_,rfl,_,_,_,_,rfl,.lst hb4,cB,_,rfl,bH ?_⟩
  refine⟨_,rfl,_,rfl,b,d,rfl,rfl,CJ hb4 hd4,_,rfl,bH ?_⟩
  refine⟨_,rfl,.inl ⟨rfl,_,SqL.of hb4⟩,b,_,_,rfl,rfl,hb4,lt_of_lt_of_le (show((jV r).map V.str).length<1000 by rw[length_map];unfold jV;split <;> simp) dJ,?_⟩
  have s25:aB H2 (upd H4 b (.lst ((jV r).map V.str++[V.str "a"]))):=(s3.trans s4).over hb
  generalize upd H4 b (.lst ((jV r).map V.str++[V.str "a"]))=H5 at s25
  have s05:aB H H5:=s02.trans s25
  refine⟨_,rfl,_,_,_,_,rfl,.str _,cB,_,rfl,pN ?_⟩
  refine⟨_,rfl,_,rfl,_,lt,r,rfl,rt.same s05,hg,fun H6 s6=>⟨rfl,_,rfl,bh (decide_eq_true rfl) ?_⟩⟩
  exact⟨_,rfl,rdA T (ra.same (s05.trans s6)) hg fun b2 H7 hb2 s7 hb2l=>⟨_,rfl,b2,d,rfl,rfl,CJ hb2l (s7 _ _ (s6 _ _ (s25 _ _ hdd))),q H7 (s05.trans (s6.trans s7))⟩⟩
theorem Iu(T:Tx K mg C)(F:Fun K "_law_is" "_law_is" tU f fd):aO P w K mg base CX0 5 f fd N6 (Hc C):=by
 obtain⟨fbd,dbd,Abd⟩:=T.abd
 have Gbd:aO P w K mg base CX0 3 fbd dbd pI wB:=uI T Abd.F
 obtain⟨fbu,dbu,Abu⟩:=T.abu
 have Gbu:aO P w K mg base CX0 4 fbu dbu By (Hc C):=CT T Abu.F
 refine F.oq Av fun _ _ _ _ H _ Q E hr h=>?_
 ·obtain⟨a,l,v,lt,r,rfl,ra,rt,hg,q⟩:=h
  have hr3:bw 3 _:=hr.mono Za
  have hr4:bw 4 _:=hr
  refine⟨_,QSs.h (au (uL (pv 1) (jR (K:=K) (n:=5) rfl rfl (bK (aX (i:=2) Av.nd rfl (Or.inr rfl)) (bK (aX (i:=3) Av.nd rfl (Or.inl rfl)) (bK (aX (i:=4) Av.nd rfl (Or.inl rfl)) (bK (aX (i:=5) Av.nd rfl (Or.inl rfl)) (bK (aX (i:=6) Av.nd rfl (Or.inl rfl)) jK)))))))
   (au (aY (i:=7) Av.nd rfl (Or.inl rfl) (bI (aj (aJ fB Zd T.inst boot_isinstance (aj (pv 0) (aj (DW T.c_Let) ao))) (aj (aJ fB Zd T.inst boot_isinstance (aj (pv 0) (aj (DW T.c_Deed) ao))) (aj (aJ fB Zd T.inst boot_isinstance (aj (pv 0) (aj (DW T.c_Draw) ao))) (aj (aJ fB Zd T.inst boot_isinstance (aj (pv 0) (aj (DW T.c_Late) ao))) ao))))))
   (au (aY (i:=7) Av.nd rfl (Or.inl rfl) (aH eY (pv 7) (bI (aj (aJ fB Zd T.inst boot_isinstance (aj (pv 0) (aj (DW T.c_Take) ao))) (aj (aJ fB Zd T.inst boot_isinstance (aj (pv 0) (aj (DW T.c_Need) ao))) ao)))))
   (au (vO (N:=["_law_one", "_law_sort"]) [none,some 2] (i:=8) Av.nd rfl (Or.inl rfl) rfl Zf (RW (bT (aj aA (aj aA (aj aA (aj aA (aj aA (aj aA ao)))))))) (fun cl C fp s H=>(aX (i:=0) (by decide +kernel:(["_law_one", "_law_sort"]:List Str).Nodup) rfl (Or.inl rfl))) (fun cl C fp s H=>cY) (fun cl C fp s H=>(bY bB (pv 1) (pv 0) (aG _))))
   (au (bc (PW.pt (cU (cV (bQ (aJ fB Zd T.inst boot_isinstance (aj (pv 0) (aj (DW T.c_Row) ao))))) (cU (aD (Bj (K:=K) rfl hr.units) (pv 7) (pv 8) (aG _)) (dI (cV (bQ (aV Abu Gbu hr4 (aj (pv 0) (aj (pv 1) ao))))))))) (az (aF gB)) aL)
   (au (bc (PW.pt (cC (aD dM (pv 2) aA (aG _)) (cz (PW.pt (cU (cV (bQ (aJ b8 Zd T.inst boot_isinstance (aj (bU (pv 0) rfl) (aj (cR (v:=.ty "str") Zd T.t_str boot_str rfl) ao))))) (dI (aD dM (bU (pv 0) rfl) (pv 3) (aG _)))))))) (az (aF gB)) aL)
   (au (bc (PW.pt (cC (aD bB (pv 2) aA (aG _)) (cz (PW.pt (cU (cV (bQ (aJ b8 Zd T.inst boot_isinstance (aj (bU (pv 0) rfl) (aj (cR (v:=.ty "str") Zd T.t_str boot_str rfl) ao))))) (dI (aD dM (bU (pv 0) rfl) (pv 5) (aG _)))))))) (az (aF gB)) aL)
   (au (bc (aD iQ (pv 2) (bT (aj aA (aj aA (aj aA ao)))) Zd) (az (aF (dZ (aJ b8 Zd T.inst boot_isinstance (aj (bU (pv 0) rfl) (aj (cR (v:=.ty "str") Zd T.t_str boot_str rfl) ao))) (iK (bY bB (bU (pv 0) rfl) (pv 4) (aG _)))))) aL)
   (az (aF (aV Abd Gbd hr3 (aj (bU (pv 0) rfl) (aj (pv 6) ao))))))))))))),?_⟩
  obtain⟨p,aa',ww',rfl,hp,hA,hW,htt⟩:=id rt
  obtain⟨dx,fs,ha,hf⟩:=id ra
  have h5:=hg.so
  refine⟨_,rfl,p,_,rfl,SqT.of hp,rfl,_,_,rfl,_,_,rfl,_,_,rfl,_,_,rfl,_,_,rfl,rfl,?_⟩
  have ty:∀ H',aB H H'->qU K H' (.ref a) (.ref (C r.so)):=fun H' s=>(T.fam.c r.so Zb).ty (s _ _ ha)
  have kt:∀ j,j<=6->kitOne K (.ref (C r.so)) (.ref (C j))=some (nu r.so j):=fun j hj=>T.fam.kit r.so j Zb hj
  have kt6:kitOne K (.ref (C r.so)) (.ref (C 6))=some true:=by rw[kt 6 Za];unfold nu;simp
  refine⟨_,rfl,_,_,_,_,rfl,ty _ (aB.refl H),kt 0 Za,_,rfl,_,_,_,_,rfl,ty _ (aB.refl H),kt 1 Za,_,rfl,_,_,_,_,rfl,ty _ (aB.refl H),kt 2 Za,_,rfl,_,_,_,_,rfl,ty _ (aB.refl H),kt 3 Za,by show 4<=sizeLine;decide,fun f1 hf1=>?_⟩
  refine⟨_,rfl,_,rfl,_,_,_,_,rfl,ty _ (aB.new hf1),kt 4 Za,_,rfl,_,_,_,_,rfl,ty _ (aB.new hf1),kt 5 Za,by show 2<=sizeLine;decide,fun f2 hf2=>?_⟩
  refine⟨f1,f2,_,_,rfl,rfl,(aB.new hf2) _ _ ak,ak,by show 4+2<=sizeLine;decide,fun f3 hf3=>?_⟩
  refine⟨by show 6<=sizeLine;decide,fun t1 ht1=>⟨t1,rfl,⟨_,SqT.of ak⟩,JT (xs:=[V.str "let",V.str "deed",V.str "draw",V.str "late",V.str "take",V.str "need"]) (fun j=>V.bl (nu r.so j)) (by show 6<=sizeLine;decide) (SqT.of ak) (fun i x H' Q' hx sm k'=>?_) (fun H5 s5 d hd=>?_)⟩⟩
  ·obtain⟨hi,rfl⟩:=Oj hx
   refine⟨_,rfl,_,rfl,rfl,?_⟩
   have k2:=k' H' (aB.refl _)
   rw[<- wM h5 hi]at k2
   exact k2
  have s05:=(((((aB.new hf1).put hf2).put hf3).put ht1).trans s5).put (o:=.lst ((List.range 6).map fun j=>V.bl (nu r.so j))) hd
  have hb1:=(aB.new (o:=.lst ((List.range 6).map fun j=>V.bl (nu r.so j))) hd) _ _ (s5 _ _ ((aB.new ht1) _ _ ak))
  refine⟨_,rfl,_,_,_,_,rfl,ty _ s05,kt6,_,rfl,bH ?_⟩
  refine⟨_,rfl,_,rfl,f3,d,rfl,rfl,Jc (bs:=[nu r.so 0,nu r.so 1,nu r.so 2,nu r.so 3,nu r.so 4,nu r.so 5]) hb1 ak,_,rfl,bH ?_⟩
  refine⟨_,rfl,_,rfl,a,l,_,lt,r,rfl,ra.same s05,rt.same s05,hg,fun H7 s7=>⟨_,rfl,bH ?_⟩⟩
  have s07:aB H H7:=s05.trans s7
  have ha7:=s07 _ _ ha
  have hf7:=hf.same s07
  have q7:∀ H',aB H7 H'->Q (.bl true) H':=fun H' s=>q H' (s07.trans s)
  clear hb1 s05
  obtain⟨so,nn,aa,ww,tt⟩:=r
  have hc:so<=5:=h5
  have h6:tt.length<=10:=le_trans hg.ts.hi Za
  have cl:=(T.fam.c so (le_trans hc Za)).cl
  have n1:=T.fam.nn so (le_trans hc Za)
  have n2:=T.fam.na so (le_trans hc Za)
  have n3:=T.fam.nt so (le_trans hc Za)
  by_cases h5':so=5
  ·subst h5'
   have dd:=uG (i:=5) Za
   refine⟨_,rfl,rfl,_,rfl,jA (sT 5) (bH ?_)⟩
   refine⟨_,rfl,rfl,_,rfl,aP (sF 5 4) (bH ?_)⟩
   refine⟨_,rfl,by show 3<=sizeLine;decide,fun t2 ht2=>⟨t2,_,rfl,.inr (SqT.of ak),rfl,rfl,_,rfl,aP dd ?_⟩⟩
   have ha7:=(aB.new (o:=.tup dal) ht2) _ _ ha7
   exact⟨_,rfl,rdF ha7 cl n3 ((hf7.tm (.inr (.inr rfl))).1) ⟨_,rfl,l,lt,tt,rfl,(hf7.tm (.inr (.inr rfl))).2.same (aB.new ht2),((htt (.inr (.inr rfl))).same s07).same (aB.new ht2),h6,fun H' s'=>q7 H' ((aB.new ht2).trans s')⟩⟩
  have l5:so<5:=Nat.lt_of_le_of_ne hc h5'
  have f5:decide (V.str (cu so)=V.str (cu 5))=false:=sF so 5 (by unfold nu;rw[decide_eq_false h5'];rfl) hc
  have nm7:=hf7.nm l5
  by_cases h4':so=4
  ·subst h4'
   have eA:aa=aa':=(hA (.inr (.inr rfl))).symm
   subst eA
   have eW:ww=ww':=(hW rfl).symm
   subst eW
   have n4:=T.fam.nw 4 Za
   have w7:=hf7.wd rfl
   have dd:=uG (i:=4) Za
   refine⟨_,rfl,rfl,_,rfl,iC f5 ⟨_,rfl,rdF ha7 cl n1 (nm7) ⟨_,_,_,_,rfl,.str _,cB,_,rfl,bH ⟨_,rfl,rdF ha7 cl n1 (nm7) ⟨_,rfl,rfl,_,rfl,qY rfl ?_⟩⟩⟩⟩⟩
   refine⟨_,rfl,rfl,_,rfl,bh (sT 4) ⟨_,rfl,rdF ha7 cl n4 (w7) ⟨_,_,_,_,rfl,.str _,cB,_,rfl,bH ⟨_,rfl,rdF ha7 cl n4 (w7) ⟨_,rfl,rfl,_,rfl,qY rfl ?_⟩⟩⟩⟩⟩
   refine⟨_,rfl,by show 3<=sizeLine;decide,fun t2 ht2=>⟨t2,_,rfl,.inr (SqT.of ak),rfl,rfl,_,rfl,bh dd ?_⟩⟩
   have ha7:=(aB.new (o:=.tup dal) ht2) _ _ ha7
   exact⟨_,rfl,rdF ha7 cl n2 (hf7.ad (.inr (.inr rfl))) ⟨_,_,_,_,rfl,.str _,cB,_,rfl,pN ⟨_,rfl,rdF ha7 cl n2 (hf7.ad (.inr (.inr rfl))) ⟨_,rfl,rfl,by rw[decide_eq_true rfl];exact q7 _ (aB.new ht2)⟩⟩⟩⟩
  have f4:decide (V.str (cu so)=V.str (cu 4))=false:=sF so 4 (by unfold nu;rw[decide_eq_false h4'];rfl) hc
  refine⟨_,rfl,rfl,_,rfl,iC f5 ⟨_,rfl,rdF ha7 cl n1 (nm7) ⟨_,_,_,_,rfl,.str _,cB,_,rfl,bH ⟨_,rfl,rdF ha7 cl n1 (nm7) ⟨_,rfl,rfl,_,rfl,qY rfl ?_⟩⟩⟩⟩⟩
  refine⟨_,rfl,rfl,_,rfl,aP f4 (bH ?_)⟩
  by_cases h23:so=2\/so=3
  ·have dd:inV (V.str (cu so)) dal=true:=by rw[uG hc];rcases h23 with rfl|rfl <;> rfl
   have eA:aa=aa':=(hA (h23.elim .inl fun k=>.inr (.inl k))).symm
   subst eA
   have a7:=hf7.ad (h23.elim .inl fun k=>.inr (.inl k))
   refine⟨_,rfl,by show 3<=sizeLine;decide,fun t2 ht2=>⟨t2,_,rfl,.inr (SqT.of ak),rfl,rfl,_,rfl,bh dd ?_⟩⟩
   have ha7:=(aB.new (o:=.tup dal) ht2) _ _ ha7
   exact⟨_,rfl,rdF ha7 cl n2 (a7) ⟨_,_,_,_,rfl,.str _,cB,_,rfl,pN ⟨_,rfl,rdF ha7 cl n2 (a7) ⟨_,rfl,rfl,by rw[decide_eq_true rfl];exact q7 _ (aB.new ht2)⟩⟩⟩⟩
  ·have h01:so=0\/so=1:=by omega
   have dd:inV (V.str (cu so)) dal=false:=by rw[uG hc];rcases h01 with rfl|rfl <;> rfl
   have t7:=hf7.tm (h01.elim .inl fun k=>.inr (.inl k))
   refine⟨_,rfl,by show 3<=sizeLine;decide,fun t2 ht2=>⟨t2,_,rfl,.inr (SqT.of ak),rfl,rfl,_,rfl,aP dd ?_⟩⟩
   have ha7:=(aB.new (o:=.tup dal) ht2) _ _ ha7
   exact⟨_,rfl,rdF ha7 cl n3 (t7.1) ⟨_,rfl,l,lt,tt,rfl,t7.2.same (aB.new ht2),((htt (h01.elim .inl fun k=>.inr (.inl k))).same s07).same (aB.new ht2),h6,fun H' s'=>q7 H' ((aB.new ht2).trans s')⟩⟩
theorem gY(T:Tx K mg C)(F:Fun K "_law_is_name" "_law_is_name" iV f fd):aO P w K mg base CX0 1 f fd lz ni:=by
 refine F.oq CG fun _ _ _ _ H _ Q E hr h=>?_
 ·obtain⟨z,rfl,hz,q⟩:=h
  refine⟨_,QSs.h (au (lB PassesOwn.never rfl (zP (pv 0)) (aX (i:=1) CG.nd rfl (Or.inl rfl))
   (az (bc (aD Bk (pv 1) aA Zd) (az (aF gB)) aL)))
   (az (aF (MN HR HR aq (aJ cL Zd T.len boot_len (aj (pv 0) ao)) aq)))),?_⟩
  have hz':z.length<=sizeLine:=le_trans hz Za
  refine⟨_,rfl,z,rfl,?_⟩
  refine Qc (fun i σ H2=>∃ v,σ=[some (.str z),v]/\H2=H/\(z.cps.toList.take i).all inL=true) ⟨none,rfl,rfl,rfl⟩ ?_ ?_
  ·rintro i ch σ H2 hc ⟨v,rfl,rfl,hal⟩
   refine⟨_,rfl,_,_,rfl,rfl,_,rfl,?_⟩
   show if(!inL ch)=true then _ else _
   cases hi:inL ch with
   | false =>
    refine pN ?_
    have e:nmB z=false:=by
     unfold nmB
     have:z.cps.toList.all inL=false:=by
      rw[List.all_eq_false]
      exact⟨ch,mem_of_getElem? hc,by rw[hi];decide⟩
     rw[this,Bool.and_false]
    have q':=q H2 (aB.refl H2)
    rw[e]at q'
    exact q'
   | true =>
    refine bH ⟨_,rfl,rfl,?_⟩
    rw[take_add_one,hc,List.all_append,hal]
    show(true&&(inL ch&&true))=true
    rw[hi];rfl
  ·rintro σ H2 ⟨v,rfl,rfl,hal⟩
   have hz2:z.cps.size=z.cps.toList.length:=by simp
   rw[hz2,take_length]at hal
   have q':=q H2 (aB.refl H2)
   unfold nmB at q'
   rw[hal,Bool.and_true]at q'
   refine⟨_,rfl,_,rfl,hz',_,_,rfl,rfl,_,rfl,dF (fun h1=>⟨_,_,rfl,rfl,?_⟩) (fun h1=>?_)⟩
   ·rw[decide_eq_true (show 1<=z.length by omega),Bool.true_and]at q'
    have e:decide ((z.length:Int)<=8)=decide (z.length<=8):=by
     by_cases h:z.length<=8
     ·rw[decide_eq_true h,decide_eq_true Zb]
     ·rw[decide_eq_false h,decide_eq_false Zb]
    rw[<- e]at q'
    exact q'
   ·rw[decide_eq_false (show ¬ 1<=z.length by omega),Bool.false_and]at q'
    exact q'
theorem lC(T:Tx K mg C)(F:Fun K "_law_is_address" "_law_is_address" fO f fd):aO P w K mg base CX0 2 f fd jq rY:=by
 obtain⟨fab,dab,Aab⟩:=T.aab
 have Gab:aO P w K mg base CX0 1 fab dab lz ni:=gY T Aab.F
 refine F.oq vg fun _ _ _ _ H _ Q E hr h=>?_
 ·obtain⟨z,rfl,hz,q⟩:=h
  unfold cW at q
  have hr1:bw 1 _:=hr
  refine⟨_,QSs.h (au (aY (i:=1) vg.nd rfl (Or.inl rfl) (cM plainAttrs_str slot_str_split type_str_split dj (pv 0) (aj aA ao)))
   (az (aF (dZ (bY HR (aJ aW Zd T.len boot_len (aj (pv 1) ao)) aq (aG _)) (iK (aJ (nP rfl) Zd T.all boot_all (aj (cJ (N:=["_law_name_here"]) [none] rfl Zf (dH (pv 1)) (fun cl C fp s H=>(aX (i:=0) (by decide +kernel:(["_law_name_here"]:List Str).Nodup) rfl (Or.inl rfl))) (fun cl C fp s H=>cY) (fun cl C fp s H=>(aV Aab Gab hr1 (aj (pv 0) ao)))) ao))))))),?_⟩
  refine⟨_,rfl,rfl,_,_,rfl,rfl,oZ,le_trans (show z.length+2<=6002 by omega) Za,fun p hp=>?_⟩
  have hlen:=iD z ("." : Str) (le_trans (show z.length+2<=6002 by omega) Za)
  refine⟨_,rfl,p,_,rfl,.inl (SqL.of ak),_,_,rfl,rfl,_,rfl,dF (fun h1=>?_) (fun h1=>?_)⟩
  ·rw[length_map]at h1
   refine⟨_,rfl,p,rfl,⟨_,SqL.of ak⟩,?_⟩
   refine kO (fun v=>match v with|.str y=>.bl (nmB y)|_=>.non) (by rw[length_map];exact hlen) (SqL.of ak) (fun x H' Q' hx sm k'=>?_) (fun H' sm p2 hp2=>?_)
   ·obtain⟨y,hy,rfl⟩:=mem_map.mp hx
    exact⟨_,rfl,y,rfl,le_trans (kW hy) hz,k'⟩
   ·refine⟨p2,(Txt.split z ("." : Str)).map nmB,rfl,SqL.of (by rw[ak,map_map,map_map];rfl),?_⟩
    have e:(decide (((Txt.split z ("." : Str)).length:Int)<=((3:Nat):Int))&&(Txt.split z ("." : Str)).all nmB)=((Txt.split z ("." : Str)).map nmB).all id:=by
     rw[decide_eq_true (show((Txt.split z ("." : Str)).length:Int)<=((3:Nat):Int)from h1),all_map];rfl
    rw[e]at q
    exact q _ (((aB.new hp).trans sm).put hp2)
  ·rw[length_map]at h1
   have q':=q _ (aB.new (o:=.lst ((Txt.split z ("." : Str)).map V.str)) hp)
   rw[decide_eq_false (show ¬ ((Txt.split z ("." : Str)).length:Int)<=((3:Nat):Int)from h1)]at q'
   exact q'
theorem uE(T:Tx K mg C)(F:Fun K "_law_read_word" "_law_read_word" fW f fd):aO P w K mg base CX0 2 f fd pC Qj:=by
 obtain⟨fab,dab,Aab⟩:=T.aab
 have Gab:aO P w K mg base CX0 1 fab dab lz ni:=gY T Aab.F
 refine F.oq iR fun _ _ _ _ H _ Q E hr h=>?_
 ·obtain⟨z,sg,rfl,hz,q,qn⟩:=h
  have hr1:bw 1 _:=hr
  refine⟨_,QSs.h (au (aY (i:=2) iR.nd rfl (Or.inl rfl) (aJ aW Zd T.len boot_len (aj (cJ (N:=["_law_one"]) [none] rfl Zf (zP (pv 0)) (fun cl C fp s H=>(aX (i:=0) (by decide +kernel:(["_law_one"]:List Str).Nodup) rfl (Or.inl rfl))) (fun cl C fp s H=>(Fz (aD uF (pv 0) aA Zd))) (fun cl C fp s H=>(pv 0))) ao)))
   (au (bc (PW.pt (cC (aD dM (pv 0) aA (aG _)) (cz (aD bB (pv 2) (aJ cL Zd T.len boot_len (aj (pv 0) ao)) (aG _))))) (au (bc (PW.pt (cU (aD ju (aJ cL Zd T.len boot_len (aj (pv 0) ao)) aq (aG _)) (dI (PW.pt (cC (aD bB (aU uP (pv 0) aq) aA (aG _)) (cz (aD ju (aJ cL Zd T.len boot_len (aj (pv 0) ao)) aq (aG _)))))))) (az (aF fG)) aL)
   (az (aF (bT (aj (pv 1) (aj aA (aj (bR tV Zd T.t_int boot_int (aj (pv 0) ao)) ao))))))) aL)
   (au (aY (i:=3) iR.nd rfl (Or.inl rfl) aA)
   (au (bc (aD bB (bF pA (pv 0) (bJ (Er yc aq)) bN) aA (aG _)) (au (aY (i:=3) iR.nd rfl (Or.inl rfl) aA)
   (az (aY (i:=0) iR.nd rfl (Or.inl rfl) (bF pA (pv 0) bN (bJ (Er yc aq)))))) aL)
   (au (aY (i:=4) iR.nd rfl (Or.inl rfl) (cM plainAttrs_str slot_str_split type_str_split dj (pv 0) (aj aA ao)))
   (au (bc (PW.pt (cU (aD ju (aJ aW Zd T.len boot_len (aj (pv 4) ao)) aq (aG _)) (dI (cV (bQ (aJ (nP rfl) Zd T.all boot_all (aj (cJ (N:=["_law_name_here"]) [none] rfl Zf (dH (pv 4)) (fun cl C fp s H=>(aX (i:=0) (by decide +kernel:(["_law_name_here"]:List Str).Nodup) rfl (Or.inl rfl))) (fun cl C fp s H=>cY) (fun cl C fp s H=>(aV Aab Gab hr1 (aj (pv 0) ao)))) ao))))))) (az (aF fG)) aL)
   (az (aF (bT (aj (pv 1) (aj (pv 3) (aj (bR nA Zd T.t_tuple boot_tuple (aj (pv 4) ao)) ao)))))))))))),?_⟩
  have hz':z.length<=sizeLine:=le_trans hz Za
  refine⟨_,rfl,z,rfl,?_⟩
  refine IV inF (fun c=>V.str ⟨#[c]⟩) hz' (fun c H' Q' sm k'=>?_) (fun c H' Q' hc sm k'=>?_) (fun H' sm p hp=>?_)
  ·exact⟨_,rfl,_,_,rfl,rfl,_,rfl,k'⟩
  ·exact⟨_,rfl,k' _ (aB.refl _)⟩
  refine⟨p,_,rfl,.inl (SqL.of ak),?_⟩
  have s1:=sm.put hp (o:=.lst ((z.cps.toList.filter inF).map fun c=>V.str ⟨#[c]⟩))
  generalize upd H' p (.lst ((z.cps.toList.filter inF).map fun c=>V.str ⟨#[c]⟩))=H1 at s1
  rw[length_map]
  refine⟨_,rfl,rfl,_,rfl,?_⟩
  by_cases e0:z = ""
  ·have en:jC z=false:=by rw[e0];decide +kernel
   refine aP (by rw[e0];rfl) (bH ?_)
   refine⟨_,rfl,_,rfl,_,rfl,z,rfl,hz',rfl,_,rfl,?_⟩
   cases ee:Txt.endswith z brk with
   | true =>
    refine bh (decide_eq_true (congrArg V.str (qD.mpr ee))) ?_
    obtain⟨a,rfl⟩:=ends_app ee
    have hla:a.length+2<=6000:=by rw[bM,kI]at hz;exact hz
    refine⟨_,rfl,_,rfl,_,rfl,a++brk,rfl,hz',?_⟩
    rw[w6 a Zb]
    have la:a.length<=6000:=by omega
    refine⟨_,rfl,rfl,_,_,rfl,rfl,oZ,le_trans (show a.length+2<=6002 by omega) Za,fun p2 hp2=>?_⟩
    have hlen:=iD a ("." : Str) (le_trans (show a.length+2<=6002 by omega) Za)
    have s2:=s1.put hp2 (o:=.lst ((Txt.split a ("." : Str)).map V.str))
    have k2:upd H1 p2 (.lst ((Txt.split a ("." : Str)).map V.str)) p2=some (.lst ((Txt.split a ("." : Str)).map V.str)):=ak
    generalize upd H1 p2 (.lst ((Txt.split a ("." : Str)).map V.str))=H2 at s2 k2
    refine⟨_,rfl,p2,_,rfl,.inl (SqL.of k2),_,_,rfl,rfl,_,rfl,dF (fun h4=>pN ?_) (fun h4=>?_)⟩
    ·rw[length_map]at h4
     have ep:cW 4 a=false:=by unfold cW;rw[decide_eq_false Zb];rfl
     exact qn (tM en ep) H2 s2
    rw[length_map]at h4
    refine⟨_,rfl,p2,rfl,⟨_,SqL.of k2⟩,?_⟩
    refine kO (fun v=>match v with|.str y=>.bl (nmB y)|_=>.non) (by rw[length_map];exact hlen) (SqL.of k2) (fun x H' Q' hx sm k'=>?_) (fun H3 s3 p3 hp3=>?_)
    ·obtain⟨y,hy,rfl⟩:=mem_map.mp hx
     exact⟨_,rfl,y,rfl,le_trans (kW hy) la,k'⟩
    refine⟨p3,(Txt.split a ("." : Str)).map nmB,rfl,SqL.of (by rw[ak,map_map,map_map];rfl),_,rfl,?_⟩
    have s4:=(s2.trans s3).put hp3 (o:=.lst (((Txt.split a ("." : Str)).map V.str).map fun v=>match v with|.str y=>V.bl (nmB y)|_=>V.non))
    have k4:=(aB.new hp3 (o:=.lst (((Txt.split a ("." : Str)).map V.str).map fun v=>match v with|.str y=>V.bl (nmB y)|_=>V.non))) _ _ (s3 _ _ k2)
    have ea:((Txt.split a ("." : Str)).map nmB).all id=cW 4 a:=by
     unfold cW
     rw[decide_eq_true (show((Txt.split a ("." : Str)).length:Int)<=((4:Nat):Int)by omega),all_map];rfl
    cases ep:cW 4 a with
    | false=>exact iC (ea.trans ep) (qn (tM en ep) _ s4)
    | true =>
     obtain⟨ys,g,ey⟩:=Gs.mp ep
     refine jA (ea.trans ep) ⟨_,rfl,_,rfl,_,rfl,p2,_,rfl,.inl ⟨SqL.of k4,fun r hr'=>⟨by show 3<=sizeLine;decide,fun p5 hp5=>?_⟩⟩⟩
     have hsp:Txt.split a ("." : Str)=ys:=by rw[ey];exact cZ ys g.lo g.nm
     exact q (.nms true ys) g (by rw[ey];rfl) _ _ ((s4.put hr').put hp5) ⟨p5,_,rfl,ak,r,rfl,(aB.new hp5) _ _ (by rw[ak,hsp])⟩
   | false =>
    refine aP (decide_eq_false fun k=>by have:=qD.mp (V.str.inj k);rw[ee]at this;cases this) ?_
    have la:z.length<=6000:=by omega
    refine⟨_,rfl,rfl,_,_,rfl,rfl,oZ,le_trans (show z.length+2<=6002 by omega) Za,fun p2 hp2=>?_⟩
    have hlen:=iD z ("." : Str) (le_trans (show z.length+2<=6002 by omega) Za)
    have s2:=s1.put hp2 (o:=.lst ((Txt.split z ("." : Str)).map V.str))
    have k2:upd H1 p2 (.lst ((Txt.split z ("." : Str)).map V.str)) p2=some (.lst ((Txt.split z ("." : Str)).map V.str)):=ak
    generalize upd H1 p2 (.lst ((Txt.split z ("." : Str)).map V.str))=H2 at s2 k2
    refine⟨_,rfl,p2,_,rfl,.inl (SqL.of k2),_,_,rfl,rfl,_,rfl,dF (fun h4=>pN ?_) (fun h4=>?_)⟩
    ·rw[length_map]at h4
     have ep:cW 4 z=false:=by unfold cW;rw[decide_eq_false Zb];rfl
     exact qn (qF en ee ep) H2 s2
    rw[length_map]at h4
    refine⟨_,rfl,p2,rfl,⟨_,SqL.of k2⟩,?_⟩
    refine kO (fun v=>match v with|.str y=>.bl (nmB y)|_=>.non) (by rw[length_map];exact hlen) (SqL.of k2) (fun x H' Q' hx sm k'=>?_) (fun H3 s3 p3 hp3=>?_)
    ·obtain⟨y,hy,rfl⟩:=mem_map.mp hx
     exact⟨_,rfl,y,rfl,le_trans (kW hy) la,k'⟩
    refine⟨p3,(Txt.split z ("." : Str)).map nmB,rfl,SqL.of (by rw[ak,map_map,map_map];rfl),_,rfl,?_⟩
    have s4:=(s2.trans s3).put hp3 (o:=.lst (((Txt.split z ("." : Str)).map V.str).map fun v=>match v with|.str y=>V.bl (nmB y)|_=>V.non))
    have k4:=(aB.new hp3 (o:=.lst (((Txt.split z ("." : Str)).map V.str).map fun v=>match v with|.str y=>V.bl (nmB y)|_=>V.non))) _ _ (s3 _ _ k2)
    have ea:((Txt.split z ("." : Str)).map nmB).all id=cW 4 z:=by
     unfold cW
     rw[decide_eq_true (show((Txt.split z ("." : Str)).length:Int)<=((4:Nat):Int)by omega),all_map];rfl
    cases ep:cW 4 z with
    | false=>exact iC (ea.trans ep) (qn (qF en ee ep) _ s4)
    | true =>
     obtain⟨ys,g,ey⟩:=Gs.mp ep
     refine jA (ea.trans ep) ⟨_,rfl,_,rfl,_,rfl,p2,_,rfl,.inl ⟨SqL.of k4,fun r hr'=>⟨by show 3<=sizeLine;decide,fun p5 hp5=>?_⟩⟩⟩
     have hsp:Txt.split z ("." : Str)=ys:=by rw[ey];exact cZ ys g.lo g.nm
     exact q (.nms false ys) g (by rw[ey];rfl) _ _ ((s4.put hr').put hp5) ⟨p5,_,rfl,ak,r,rfl,(aB.new hp5) _ _ (by rw[ak,hsp])⟩
  ·refine bh (by rw[decide_eq_false fun k=>e0 (V.str.inj k)];rfl) ?_
   refine⟨_,rfl,_,rfl,z,rfl,hz',rfl,_,rfl,?_⟩
   by_cases ef:(z.cps.toList.filter inF).length=z.length
   ·have hall:z.cps.toList.all inF=true:=Lz (by rw[ef,bZ])
    refine bh (decide_eq_true (by rw[ef])) ?_
    refine⟨_,rfl,z,rfl,hz',_,_,rfl,rfl,_,rfl,dF (fun h20=>pN ?_) (fun h20=>?_)⟩
    ·exact qn (fun r=>by have:=Ig hall r;unfold jC at this;rw[decide_eq_false (show ¬ z.length<=20 by omega)]at this;simp at this) H1 s1
    cases hcs:z.cps.toList with
    | nil=>exact absurd (cO (by rw[hcs];decide +kernel)) e0
    | cons c0 cr =>
    have hat:atI z.cps.toList 0=some c0:=bL (j:=0) (by rw[hcs];rfl)
    have hl1:1<=z.length:=by rw[bZ,hcs,length_cons];omega
    have hnum:jC z = !(decide (c0=48) && !decide (z=zero)):=by
     unfold jC
     rw[decide_eq_true hl1,decide_eq_true (show z.length<=20 by omega),hall,hcs]
     have:decide ((c0::cr).head? = some 48)=decide (c0=48):=by
      by_cases h:c0=48
      ·rw[decide_eq_true h,decide_eq_true (by rw[h];rfl)]
      ·rw[decide_eq_false h,decide_eq_false (fun z=>h (by simpa using z))]
     rw[this,Bool.and_true];rfl
    refine⟨_,rfl,z,_,c0,rfl,rfl,hz',hat,rfl,_,rfl,dF (fun h3=>?_) (fun h3=>?_)⟩
    ·have hc:c0=48:=by
      have e:(⟨#[c0]⟩:Str)=("0" : Str):=V.str.inj h3
      have e2:=congrArg (fun x:Str=>x.cps.toList) e
      have e3:(("0" : Str)).cps.toList=[48]:=by decide +kernel
      rw[e3]at e2
      simpa using e2
     refine⟨_,rfl,z,rfl,hz',_,_,rfl,rfl,_,rfl,dF (fun h1=>?_) (fun h1=>?_)⟩
     ·have hne:¬z=zero:=fun k=>by rw[k]at h1;revert h1;decide +kernel
      have en:jC z=false:=by rw[hnum,decide_eq_true hc,decide_eq_false hne];rfl
      exact qn (fun r=>by rw[Ig hall r]at en;cases en) H1 s1
     ·have hz0:z=zero:=cO (by
       rw[hcs,xV,hc]
       have:cr.length=0:=by have:=bZ z;rw[hcs,length_cons]at this;omega
       rw[List.length_eq_zero_iff.mp this])
      have en:jC z=true:=by rw[hnum,hz0,decide_eq_true rfl,Bool.not_true,Bool.and_false];rfl
      obtain⟨m,hm,ez⟩:=wA en
      obtain⟨n1,n2,n3,n4⟩:=jQ hm
      refine⟨_,rfl,_,rfl,z,_,rfl,by rw[ez];exact n4,by rw[ez];omega,by show 3<=sizeLine;decide,fun p5 hp5=>?_⟩
      exact q (.num m) hm ez _ _ (s1.put hp5) ⟨p5,_,rfl,ak,rfl⟩
    ·have hc:¬c0=48:=fun e=>h3 (by subst e;exact congrArg V.str (cO Ze))
     have en:jC z=true:=by rw[hnum,decide_eq_false hc];rfl
     obtain⟨m,hm,ez⟩:=wA en
     obtain⟨n1,n2,n3,n4⟩:=jQ hm
     refine⟨_,rfl,_,rfl,z,_,rfl,by rw[ez];exact n4,by rw[ez];omega,by show 3<=sizeLine;decide,fun p5 hp5=>?_⟩
     exact q (.num m) hm ez _ _ (s1.put hp5) ⟨p5,_,rfl,ak,rfl⟩
   ·have hall:z.cps.toList.all inF=false:=LC (by rw[<- bZ];exact ef)
    have en:jC z=false:=by unfold jC;rw[hall,Bool.and_false]
    refine aP (decide_eq_false fun k=>ef (by have:=V.int.inj k;omega)) ?_
    refine⟨_,rfl,_,rfl,_,rfl,z,rfl,hz',rfl,_,rfl,?_⟩
    cases ee:Txt.endswith z brk with
    | true =>
     refine bh (decide_eq_true (congrArg V.str (qD.mpr ee))) ?_
     obtain⟨a,rfl⟩:=ends_app ee
     have hla:a.length+2<=6000:=by rw[bM,kI]at hz;exact hz
     refine⟨_,rfl,_,rfl,_,rfl,a++brk,rfl,hz',?_⟩
     rw[w6 a Zb]
     have la:a.length<=6000:=by omega
     refine⟨_,rfl,rfl,_,_,rfl,rfl,oZ,le_trans (show a.length+2<=6002 by omega) Za,fun p2 hp2=>?_⟩
     have hlen:=iD a ("." : Str) (le_trans (show a.length+2<=6002 by omega) Za)
     have s2:=s1.put hp2 (o:=.lst ((Txt.split a ("." : Str)).map V.str))
     have k2:upd H1 p2 (.lst ((Txt.split a ("." : Str)).map V.str)) p2=some (.lst ((Txt.split a ("." : Str)).map V.str)):=ak
     generalize upd H1 p2 (.lst ((Txt.split a ("." : Str)).map V.str))=H2 at s2 k2
     refine⟨_,rfl,p2,_,rfl,.inl (SqL.of k2),_,_,rfl,rfl,_,rfl,dF (fun h4=>pN ?_) (fun h4=>?_)⟩
     ·rw[length_map]at h4
      have ep:cW 4 a=false:=by unfold cW;rw[decide_eq_false Zb];rfl
      exact qn (tM en ep) H2 s2
     rw[length_map]at h4
     refine⟨_,rfl,p2,rfl,⟨_,SqL.of k2⟩,?_⟩
     refine kO (fun v=>match v with|.str y=>.bl (nmB y)|_=>.non) (by rw[length_map];exact hlen) (SqL.of k2) (fun x H' Q' hx sm k'=>?_) (fun H3 s3 p3 hp3=>?_)
     ·obtain⟨y,hy,rfl⟩:=mem_map.mp hx
      exact⟨_,rfl,y,rfl,le_trans (kW hy) la,k'⟩
     refine⟨p3,(Txt.split a ("." : Str)).map nmB,rfl,SqL.of (by rw[ak,map_map,map_map];rfl),_,rfl,?_⟩
     have s4:=(s2.trans s3).put hp3 (o:=.lst (((Txt.split a ("." : Str)).map V.str).map fun v=>match v with|.str y=>V.bl (nmB y)|_=>V.non))
     have k4:=(aB.new hp3 (o:=.lst (((Txt.split a ("." : Str)).map V.str).map fun v=>match v with|.str y=>V.bl (nmB y)|_=>V.non))) _ _ (s3 _ _ k2)
     have ea:((Txt.split a ("." : Str)).map nmB).all id=cW 4 a:=by
      unfold cW
      rw[decide_eq_true (show((Txt.split a ("." : Str)).length:Int)<=((4:Nat):Int)by omega),all_map];rfl
     cases ep:cW 4 a with
     | false=>exact iC (ea.trans ep) (qn (tM en ep) _ s4)
     | true =>
      obtain⟨ys,g,ey⟩:=Gs.mp ep
      refine jA (ea.trans ep) ⟨_,rfl,_,rfl,_,rfl,p2,_,rfl,.inl ⟨SqL.of k4,fun r hr'=>⟨by show 3<=sizeLine;decide,fun p5 hp5=>?_⟩⟩⟩
      have hsp:Txt.split a ("." : Str)=ys:=by rw[ey];exact cZ ys g.lo g.nm
      exact q (.nms true ys) g (by rw[ey];rfl) _ _ ((s4.put hr').put hp5) ⟨p5,_,rfl,ak,r,rfl,(aB.new hp5) _ _ (by rw[ak,hsp])⟩
    | false =>
     refine aP (decide_eq_false fun k=>by have:=qD.mp (V.str.inj k);rw[ee]at this;cases this) ?_
     have la:z.length<=6000:=by omega
     refine⟨_,rfl,rfl,_,_,rfl,rfl,oZ,le_trans (show z.length+2<=6002 by omega) Za,fun p2 hp2=>?_⟩
     have hlen:=iD z ("." : Str) (le_trans (show z.length+2<=6002 by omega) Za)
     have s2:=s1.put hp2 (o:=.lst ((Txt.split z ("." : Str)).map V.str))
     have k2:upd H1 p2 (.lst ((Txt.split z ("." : Str)).map V.str)) p2=some (.lst ((Txt.split z ("." : Str)).map V.str)):=ak
     generalize upd H1 p2 (.lst ((Txt.split z ("." : Str)).map V.str))=H2 at s2 k2
     refine⟨_,rfl,p2,_,rfl,.inl (SqL.of k2),_,_,rfl,rfl,_,rfl,dF (fun h4=>pN ?_) (fun h4=>?_)⟩
     ·rw[length_map]at h4
      have ep:cW 4 z=false:=by unfold cW;rw[decide_eq_false Zb];rfl
      exact qn (qF en ee ep) H2 s2
     rw[length_map]at h4
     refine⟨_,rfl,p2,rfl,⟨_,SqL.of k2⟩,?_⟩
     refine kO (fun v=>match v with|.str y=>.bl (nmB y)|_=>.non) (by rw[length_map];exact hlen) (SqL.of k2) (fun x H' Q' hx sm k'=>?_) (fun H3 s3 p3 hp3=>?_)
     ·obtain⟨y,hy,rfl⟩:=mem_map.mp hx
      exact⟨_,rfl,y,rfl,le_trans (kW hy) la,k'⟩
     refine⟨p3,(Txt.split z ("." : Str)).map nmB,rfl,SqL.of (by rw[ak,map_map,map_map];rfl),_,rfl,?_⟩
     have s4:=(s2.trans s3).put hp3 (o:=.lst (((Txt.split z ("." : Str)).map V.str).map fun v=>match v with|.str y=>V.bl (nmB y)|_=>V.non))
     have k4:=(aB.new hp3 (o:=.lst (((Txt.split z ("." : Str)).map V.str).map fun v=>match v with|.str y=>V.bl (nmB y)|_=>V.non))) _ _ (s3 _ _ k2)
     have ea:((Txt.split z ("." : Str)).map nmB).all id=cW 4 z:=by
      unfold cW
      rw[decide_eq_true (show((Txt.split z ("." : Str)).length:Int)<=((4:Nat):Int)by omega),all_map];rfl
     cases ep:cW 4 z with
     | false=>exact iC (ea.trans ep) (qn (qF en ee ep) _ s4)
     | true =>
      obtain⟨ys,g,ey⟩:=Gs.mp ep
      refine jA (ea.trans ep) ⟨_,rfl,_,rfl,_,rfl,p2,_,rfl,.inl ⟨SqL.of k4,fun r hr'=>⟨by show 3<=sizeLine;decide,fun p5 hp5=>?_⟩⟩⟩
      have hsp:Txt.split z ("." : Str)=ys:=by rw[ey];exact cZ ys g.lo g.nm
      exact q (.nms false ys) g (by rw[ey];rfl) _ _ ((s4.put hr').put hp5) ⟨p5,_,rfl,ak,r,rfl,(aB.new hp5) _ _ (by rw[ak,hsp])⟩
theorem u6 (T:Tx K mg C) (F:Fun K "_law_read" "_law_read" o9 f fd):aO P w K mg base CX0 3 f fd xN M3:=by
 obtain ⟨fa5,da5,Aa5⟩:=T.aa5
 have Ga5:aO P w K mg base CX0 2 fa5 da5 pC Qj:=uE T Aa5.F
 refine F.oq zX fun _ _ _ _ H _ Q E hr h=>?_
 ·obtain ⟨l,ws,rfl,hl,hmem,hlen,q,qn⟩:=h
  have hr2:bw 2 _:=hr
  refine ⟨_,QSs.h (au (bc (PW.pt (cU (aD ju (aJ aW Zd T.len boot_len (aj (pv 0) ao)) aq (aG _)) (dI (aD bB (aH d8 (aJ aW Zd T.len boot_len (aj (pv 0) ao)) aq) aq (aG _))))) (az (aF fG)) aL)
   (au (aY (i:=1) zX.nd rfl (Or.inl rfl) (bI ao))
   (au (lB PassesOwn.never rfl (zu Zd T.range (aj aq (aj (aJ aW Zd T.len boot_len (aj (pv 0) ao)) (aj aq ao)))) (aX (i:=2) zX.nd rfl (Or.inl rfl))
   (au (bc (PW.pt (cC (aD ju (pv 2) aq (aG _)) (cz (aD uy (aU aN (pv 0) (aH rG (pv 2) aq)) (bT (aj aA (aj aA ao))) Zd)))) (az (aF fG)) aL)
   (au (aY (i:=3) zX.nd rfl (Or.inl rfl) (aV Aa5 Ga5 hr2 (aj (aU aN (pv 0) (pv 2)) (aj (aU aN (bI (aj aq (aj (Er yc aq) ao))) (bR fK Zd T.t_int boot_int (aj (dZ (bY ju (pv 2) aq (aG _)) (iK (bY bB (aU aN (pv 0) (aH rG (pv 2) aq)) aA (aG _)))) ao))) ao))))
   (au (bc (aD Bx (pv 3) fG (aG _)) (az (aF fG)) aL)
   (az (fM (cM plainAttrs_list PySem.F.slot_list_append PySem.F.type_list_append gq (pv 1) (aj (pv 3) ao))))))))
   (az (aF (pv 1)))))),?_⟩
  refine ⟨_,rfl,l,_,rfl,.inl (SqL.of hl),_,_,rfl,rfl,_,rfl,dF (fun h11=>pN ?_) (fun h11=>?_)⟩
  ·rw [length_map] at h11
   exact qn (fun r=>by have:=(qu r).2; omega) H (aB.refl H)
  rw [length_map] at h11
  refine ⟨_,rfl,l,_,rfl,.inl (SqL.of hl),_,_,rfl,rfl,(by show (0:Int) < 2; decide),rfl,_,rfl,iw (fun h=>?_) (fun ho=>?_)⟩
  ·rw [length_map] at h
   exact qn (fun r=>by have:=(qu r).1; omega) H (aB.refl H)
  rw [length_map] at ho
  obtain ⟨k,hk,hk5⟩:∃ k,ws.length = 2 * k + 1 /\ k <= 5:=⟨ws.length / 2,Zb,Zb⟩
  refine ⟨by show 0 <= sizeLine; decide,fun L hL=>?_⟩
  have hsize:Builtin.Range.rangeSize 0 ((ws.map V.str).length:Int) 2 = ((k + 1:Nat):Int):=by
   rw [length_map,hk]
   unfold Builtin.Range.rangeSize
   rw [if_pos Za]
   split <;> omega
  refine ⟨_,rfl,l,_,rfl,.inl (SqL.of ((aB.new hL) _ _ hl)),0,_,2,rfl,Za,Za,?_,by rw [hsize]; omega,?_⟩
  ·rw [length_map]
   exact FP Zb
  rw [hsize,Int.toNat_natCast]
  refine yf (fun i σ H'=>∃ v2 v3 xs ts,σ = [some (.ref l),some (.ref L),v2,v3] /\ aB H H' /\ H' L = some (.lst xs) /\ xs.length = ts.length /\ ((i = 0 /\ ts = []) \/ ∃ j,i = j + 1 /\ zz ws j ts) /\ ∀ (j:Nat) x,xs[j]? = some x -> ∃ t,ts[j]? = some t /\ gG H' x t)
   ⟨none,none,[],[],rfl,aB.new hL,ak,rfl,.inl ⟨rfl,rfl⟩,fun j x hj=>by simp at hj⟩ ?_ ?_
  ·rintro i σ H3 hi ⟨v2,v3,xs,ts,rfl,sm,h3L,hxl,rd,hx⟩
   have hw2:ws[2 * i]? = some (ws[2 * i]'Zb):=getElem?_eq_getElem Zb
   generalize ws[2 * i]'Zb = w2 at hw2
   have hl3:H3 l = some (.lst (ws.map V.str)):=sm _ _ hl
   have a2:atI (ws.map V.str) (0 + (i:Nat) * 2) = some (V.str w2):=by
    have:=bL (xs:=ws.map V.str) (j:=2 * i) (v:=V.str w2) (by rw [getElem?_map,hw2]; rfl)
    rwa [show (((2 * i:Nat)):Int) = 0 + (i:Nat) * 2 from by omega] at this
   refine ⟨_,rfl,_,_,rfl,rfl,_,rfl,?_⟩
   rcases rd with ⟨rfl,rfl⟩ | ⟨j,rfl,rd⟩
   ·refine aP Za (bH ?_)
    refine ⟨_,rfl,_,rfl,l,_,_,_,rfl,rfl,SqL.of hl3,a2,_,rfl,by show 2 <= sizeLine; decide,fun p1 hp1=>?_⟩
    refine ⟨_,rfl,_,_,rfl,rfl,_,rfl,aP Za ?_⟩
    refine .inr ⟨_,rfl,p1,_,_,V.int 1,rfl,rfl,SqL.of ak,rfl,?_⟩
    have s4:=sm.put hp1 (o:=.lst [V.int 1,V.int (-1)])
    refine ⟨w2,1,rfl,hmem w2 (mem_of_getElem? hw2),fun th g e v H5 s5 hv=>?_,fun b H5 s5=>?_⟩
    ·obtain ⟨pp,xx,rfl,e1,e2⟩:=id hv
     have s35:aB H H5:=s4.trans s5
     have h5L:H5 L = some (.lst xs):=s5 _ _ ((aB.new hp1) _ _ h3L)
     refine ⟨_,rfl,rfl,_,rfl,aP (decide_eq_false Zh) ?_⟩
     refine ⟨_,rfl,.inl ⟨rfl,_,SqL.of h5L⟩,_,rfl,L,_,_,rfl,rfl,h5L,lt_of_lt_of_le (show xs.length < 1000 by rw [hxl]; decide) dJ,?_⟩
     have hx0:xs = []:=List.length_eq_zero_iff.mp hxl
     subst hx0
     refine ⟨_,_,[V.ref pp],[⟨1,th⟩],rfl,s35.over hL,ak,rfl,.inr ⟨0,rfl,.first g (by rw [<- e]; exact hw2)⟩,fun j x hj=>?_⟩
     cases j with
     | zero=>cases hj; exact ⟨_,rfl,gG.upd hv h5L⟩
     | succ j=>simp at hj
    ·refine ⟨_,rfl,rfl,_,rfl,bh (decide_eq_true rfl) ?_⟩
     exact qn (fun r=>b (qj r (i:=0) hw2)) H5 (s4.trans s5)
   ·refine bh (decide_eq_true Zb) ?_
    have hw1:ws[2 * j + 1]? = some (ws[2 * j + 1]'Zb):=getElem?_eq_getElem Zb
    generalize ws[2 * j + 1]'Zb = w1 at hw1
    have a1:atI (ws.map V.str) (0 + ((j + 1:Nat):Int) * 2 - 1) = some (V.str w1):=by
     have:=bL (xs:=ws.map V.str) (j:=2 * j + 1) (v:=V.str w1) (by rw [getElem?_map,hw1]; rfl)
     rwa [show (((2 * j + 1:Nat)):Int) = 0 + ((j + 1:Nat):Int) * 2 - 1 from by omega] at this
    refine ⟨_,rfl,_,rfl,_,_,rfl,rfl,l,_,_,_,rfl,rfl,SqL.of hl3,a1,by show 2 <= sizeLine; decide,fun p1 hp1=>?_⟩
    have s4:=sm.put hp1 (o:=.tup [V.str "+",V.str "-"])
    refine ⟨p1,_,rfl,.inr (SqT.of ak),rfl,rfl,_,rfl,?_⟩
    by_cases ew:w1 = "+" \/ w1 = "-"
    ·have ei:(!inV (V.str w1) [V.str "+",V.str "-"]) = false:=by rcases ew with k | k <;> rw [k] <;> decide +kernel
     refine aP ei ?_
     have k1:=(aB.new hp1 (o:=.tup [V.str "+",V.str "-"])) _ _ h3L
     have hl4:=(aB.new hp1 (o:=.tup [V.str "+",V.str "-"])) _ _ hl3
     have sn:=aB.new hp1 (o:=.tup [V.str "+",V.str "-"])
     generalize upd H3 p1 (.tup [V.str "+",V.str "-"]) = H4 at s4 k1 hl4 sn
     refine ⟨_,rfl,_,rfl,l,_,_,_,rfl,rfl,SqL.of hl4,a2,_,rfl,by show 2 <= sizeLine; decide,fun p2 hp2=>?_⟩
     have hl5:=(aB.new hp2 (o:=.lst [V.int 1,V.int (-1)])) _ _ hl4
     refine ⟨_,rfl,_,_,rfl,rfl,_,rfl,bh (decide_eq_true Zb) ?_⟩
     refine ⟨_,rfl,_,rfl,_,_,rfl,rfl,l,_,_,_,rfl,rfl,SqL.of hl5,a1,rfl,?_⟩
     have hs:∃ s:Int,(s = 1 \/ s = -1) /\ w1 = sgw s /\ atI [V.int 1,V.int (-1)] (if decide (V.str w1 = V.str "-") = true then 1 else 0) = some (V.int s):=by
      rcases ew with k | k
      ·exact ⟨1,.inl rfl,k,by rw [k]; decide +kernel⟩
      ·exact ⟨-1,.inr rfl,k,by rw [k]; decide +kernel⟩
     obtain ⟨s,hs1,hs2,hs3⟩:=hs
     refine .inr ⟨_,rfl,p2,_,_,V.int s,rfl,rfl,SqL.of ak,hs3,?_⟩
     have s6:=s4.put hp2 (o:=.lst [V.int 1,V.int (-1)])
     refine ⟨w2,s,rfl,hmem w2 (mem_of_getElem? hw2),fun th g e v H5 s5 hv=>?_,fun b H5 s5=>?_⟩
     ·obtain ⟨pp,xx,rfl,e1,e2⟩:=id hv
      have s35:aB H H5:=s6.trans s5
      have h5L:H5 L = some (.lst xs):=s5 _ _ ((aB.new hp2) _ _ k1)
      have sx:aB H3 H5:=sn.trans ((aB.new hp2).trans s5)
      have tl:=rd.lo
      refine ⟨_,rfl,rfl,_,rfl,aP (decide_eq_false Zh) ?_⟩
      refine ⟨_,rfl,.inl ⟨rfl,_,SqL.of h5L⟩,_,rfl,L,_,_,rfl,rfl,h5L,lt_of_lt_of_le (show xs.length < 1000 by omega) dJ,?_⟩
      refine ⟨_,_,xs ++ [V.ref pp],ts ++ [⟨s,th⟩],rfl,s35.over hL,ak,by rw [length_append,length_append,hxl]; rfl,.inr ⟨j + 1,rfl,rd.next hs1 g (by rw [hw1,hs2]) (by rw [show 2 * j + 2 = 2 * (j + 1) from by omega,hw2,e])⟩,fun j' x hj=>?_⟩
      by_cases hjx:j' < xs.length
      ·rw [getElem?_append_left hjx] at hj
       obtain ⟨t,ht,tm⟩:=hx j' x hj
       exact ⟨t,by rw [getElem?_append_left Zb]; exact ht,(tm.same sx).upd h5L⟩
      ·rw [getElem?_append_right Zb] at hj
       have hj0:j' = xs.length:=by
        cases hh:j' - xs.length with
        | zero=>omega
        | succ k=>rw [hh] at hj; simp at hj
       subst hj0
       rw [sub_self] at hj
       have:V.ref pp = x:=by simpa using hj
       subst this
       exact ⟨_,by rw [getElem?_append_right Zb,hxl,sub_self]; rfl,gG.upd hv h5L⟩
     ·refine ⟨_,rfl,rfl,_,rfl,bh (decide_eq_true rfl) ?_⟩
      exact qn (fun r=>b (qj r (i:=j + 1) hw2)) H5 (s6.trans s5)
    ·have ei:(!inV (V.str w1) [V.str "+",V.str "-"]) = true:=by
      have n1:((("+" : Str)) == w1) = false:=beq_eq_false_iff_ne.mpr fun k=>ew (.inl k.symm)
      have n2:((("-" : Str)) == w1) = false:=beq_eq_false_iff_ne.mpr fun k=>ew (.inr k.symm)
      show (!((("+" : Str) == w1) || ((("-" : Str) == w1) || false))) = true
      rw [n1,n2]; rfl
     refine bh ei ?_
     exact qn (fun r=>by
      obtain ⟨s,hs,k⟩:=HB r hw1
      rcases hs with rfl | rfl
      ·exact ew (.inl k)
      ·exact ew (.inr k)) _ s4
  ·rintro σ H3 ⟨v2,v3,xs,ts,rfl,sm,h3L,hxl,rd,hx⟩
   rcases rd with ⟨z,_⟩ | ⟨j,ej,rd⟩
   ·cases z
   ·obtain rfl:j = k:=by omega
    obtain ⟨gs,ew⟩:=rd.all hk hk5
    exact ⟨_,rfl,q ts gs ew L H3 hL sm ⟨xs,h3L,hxl,hx⟩⟩
theorem uM(T:Tx K mg C)(F:Fun K "_law_read_told" "_law_read_told" gf f fd):aO P w K mg base CX0 4 f fd oF Qp:=by
 obtain⟨fai,dai,Aai⟩:=T.aai
 have Gai:aO P w K mg base CX0 3 fai dai xN M3:=u6 T Aai.F
 obtain⟨fab,dab,Aab⟩:=T.aab
 have Gab:aO P w K mg base CX0 1 fab dab lz ni:=gY T Aab.F
 refine F.oq xF fun _ _ _ _ H _ Q E hr h=>?_
 ·obtain⟨l,ws,rfl,hl,hw,h3,h01,q,qn⟩:=h
  have hr1:bw 1 _:=hr.mono Za
  have hr3:bw 3 _:=hr
  refine⟨_,QSs.h (au (aY (i:=1) xF.nd rfl (Or.inl rfl) (aV Aai Gai hr3 (aj (bF cj (pv 0) (bJ aq) bN) ao)))
   (au (bc (PW.pt (cU (aD dM (aU aN (pv 0) aq) aA (aG _)) (cU (cV (bQ (aV Aab Gab hr1 (aj (aU aN (pv 0) aq) ao)))) (dI (aD Bx (pv 1) fG (aG _)))))) (az (aF fG)) aL)
   (au (bc (PW.pt (cC (aD bB (aU aN (pv 0) aq) aA (aG _)) (cz (aD iQ aA (cJ (N:=["_law_term_here"]) [none] rfl Zf (dH (pv 1)) (fun cl C fp s H=>(aX (i:=0) (by decide +kernel:(["_law_term_here"]:List Str).Nodup) rfl (Or.inl rfl))) (fun cl C fp s H=>cY) (fun cl C fp s H=>(aU (tY (K:=K) rfl) (pv 0) aq))) Zd)))) (az (aF fG)) aL)
   (az (aF (bT (aj (aU aN (pv 0) aq) (aj (aU aN (pv 0) aq) (aj aA (aj aA (aj (pv 1) ao))))))))))),?_⟩
  have ec:dO (ws.map V.str) (some ((3:Nat):Int)) none=(ws.drop 3).map V.str:=by rw[tO,<- map_drop]
  have hd:=hw.drop 3
  refine⟨_,rfl,_,rfl,l,_,rfl,SqL.of hl,fun p hp=>?_⟩
  have s1:=aB.new hp (o:=.lst ((ws.drop 3).map V.str))
  refine⟨p,ws.drop 3,rfl,ak.trans (congrArg (fun z=>some (HO.lst z)) ec),fun w hw'=>hw.len (mem_of_mem_drop hw'),Zb,fun ts g et L H2 hL s2 htm=>?_,fun nr H2 s2=>?_⟩
  ·have hl2:=s2 _ _ ((aB.new hp) _ _ hl)
   have s12:=(aB.new hp).trans s2
   refine⟨_,rfl,l,_,_,_,rfl,rfl,SqL.of hl2,aZ (i:=2) Zb,rfl,_,rfl,?_⟩
   by_cases e2:wAt ws 2 = "be"
   ·refine aP (by rw[decide_eq_true (congrArg V.str e2)];rfl) ?_
    refine⟨_,rfl,l,_,_,_,rfl,rfl,SqL.of hl2,aZ (i:=1) Zb,wAt ws 1,rfl,hw.len (cG Zb),fun H3 s3=>⟨_,rfl,?_⟩⟩
    cases e1:nmB (wAt ws 1)with
    | false=>exact iC rfl (qn (fun r=>by
     have n:neB ws=true:=by
      rcases cP r with⟨k,n,z⟩|⟨k,n,us,gu,eu,hc⟩|⟨k,n⟩|⟨k,n⟩|⟨k,n⟩|⟨k,n⟩
      ·exact n
      ·exact n
      all_goals (rcases h01 with e|e <;> exact absurd (e.symm.trans k) Ze)
     unfold neB at n
     simp only[and_eq_true,decide_eq_true_eq]at n
     rw[n.2.1]at e1;cases e1) H3 (s12.trans s3))
    | true =>
     refine jA rfl ?_
     refine⟨_,rfl,rfl,_,rfl,aP (decide_eq_false Zh) ?_⟩
     have hl3:=s3 _ _ hl2
     have hn:neB ws=true:=by unfold neB;rw[decide_eq_true h3,e1,decide_eq_true e2];rfl
     obtain⟨_,hn1,ew⟩:=pZ hn
     refine⟨_,rfl,l,_,_,_,rfl,rfl,SqL.of hl3,aZ (i:=0) Zb,rfl,_,rfl,?_⟩
     rcases h01 with e0|e0
     ·refine aP (decide_eq_false fun k=>absurd (e0.symm.trans (V.str.inj k)) Ze) (bH ?_)
      refine⟨_,rfl,l,_,_,_,rfl,rfl,SqL.of hl3,aZ (i:=0) Zb,_,rfl,l,_,_,_,rfl,rfl,SqL.of hl3,aZ (i:=1) Zb,_,rfl,by show 5<=sizeLine;decide,fun p5 hp5=>?_⟩
      refine q ⟨0,wAt ws 1,a1,a1,ts⟩ (J2 hn1 g) (by rw[e0,et]at ew;exact ew) _ _ ((s12.trans s3).put hp5) ⟨p5,L,rfl,by rw[ak,e0];rfl,fun _=>?_,fun k=>absurd (.inl rfl) k⟩
      exact(htm.same s3).same (aB.new hp5)
     ·refine bh (decide_eq_true (congrArg V.str e0)) ?_
      obtain⟨xs,hxL,hxl,hx⟩:=htm.same s3
      refine⟨_,rfl,L,rfl,⟨_,SqL.of hxL⟩,?_⟩
      have g6:=g.hi
      refine iH (xs:=xs) (fun i=>V.str ((ts[i]?).elim (("" : Str)) fun t:Trm=>kindOf t.th)) (le_trans (show xs.length<=1000 by omega) dJ) (SqL.of hxL) (fun i x H' Q' ex sm k'=>?_) (fun H' sm p5 hp5=>?_)
      ·obtain⟨t,et',tm⟩:=hx i x ex
       obtain⟨a,y,rfl,ha,_⟩:=tm.same sm
       have hk:=k' H' (aB.refl _)
       rw[et']at hk
       exact⟨_,rfl,a,_,_,V.str (kindOf t.th),rfl,rfl,SqT.of ha,rfl,hk⟩
      refine⟨p5,_,rfl,.inl (SqL.of ak),rfl,?_,_,rfl,?_⟩
      ·rw[all_eq_true];intro v hv;obtain⟨z,_,rfl⟩:=mem_map.mp hv;rfl
      have s5:=((s12.trans s3).trans sm).put hp5 (o:=.lst ((List.range xs.length).map fun i=>V.str ((ts[i]?).elim (("" : Str)) fun t:Trm=>kindOf t.th)))
      have ei:inV (V.str "call") ((List.range xs.length).map fun i=>V.str ((ts[i]?).elim (("" : Str)) fun t:Trm=>kindOf t.th))=ts.any isCall:=by
       rw[hxl,<- any_range]
       unfold inV
       rw[any_map,any_map]
       have ef:((fun y=>eqV y (V.str "call"))∘fun i:Nat=>V.str ((ts[i]?).elim (("" : Str)) fun t:Trm=>kindOf t.th))=(id∘fun i:Nat=>(ts[i]?).elim false isCall):=funext fun(i:Nat)=>by
        show(((ts[i]?).elim (("" : Str)) fun t:Trm=>kindOf t.th)==("call" : Str))=(ts[i]?).elim false isCall
        cases ts[i]? with
        | none=>decide +kernel
        | some t =>
         have:=yE t
         rw[lH]at this
         show(kindOf t.th==("call" : Str))=isCall t
         rw[<- this]
         by_cases h:kindOf t.th=("call" : Str)
         ·rw[decide_eq_true h];exact beq_iff_eq.mpr h
         ·rw[decide_eq_false h];exact beq_eq_false_iff_ne.mpr h
       rw[ef]
      cases ec2:ts.any isCall with
      | true =>
       refine bh (ei.trans ec2) ?_
       exact qn (fun r=>by
        rcases cP r with⟨k,_⟩|⟨k,_,us,gu,eu,hc⟩|⟨k,_⟩|⟨k,_⟩|⟨k,_⟩|⟨k,_⟩ <;> first|exact absurd (e0.symm.trans k) Ze|skip
        have:us=ts:=jk gu g (eu.symm.trans et)
        subst this
        rw[any_eq_false.mpr fun t ht=>by rw[hc t ht];decide]at ec2
        cases ec2) _ s5
      | false =>
       refine aP (ei.trans ec2) ?_
       have hl5:=(aB.new hp5 (o:=.lst ((List.range xs.length).map fun i=>V.str ((ts[i]?).elim (("" : Str)) fun t:Trm=>kindOf t.th)))) _ _ (sm _ _ hl3)
       have ht5:dw (upd H' p5 (.lst ((List.range xs.length).map fun i=>V.str ((ts[i]?).elim (("" : Str)) fun t:Trm=>kindOf t.th)))) L ts:=((htm.same s3).same sm).same (aB.new hp5)
       refine⟨_,rfl,l,_,_,_,rfl,rfl,SqL.of hl5,aZ (i:=0) Zb,_,rfl,l,_,_,_,rfl,rfl,SqL.of hl5,aZ (i:=1) Zb,_,rfl,by show 5<=sizeLine;decide,fun p6 hp6=>?_⟩
       refine q ⟨1,wAt ws 1,a1,a1,ts⟩ (G9 hn1 g fun t ht=>by simpa using any_eq_false.mp ec2 t ht) (by rw[e0,et]at ew;exact ew) _ _ (s5.put hp6) ⟨p6,L,rfl,by rw[ak,e0];rfl,fun _=>?_,fun k=>absurd (.inr (.inl rfl)) k⟩
       exact ht5.same (aB.new hp6)
   ·refine bh (by rw[decide_eq_false fun k=>e2 (V.str.inj k)];rfl) ?_
    exact qn (fun r=>by
     have n:neB ws=true:=by
      rcases cP r with⟨k,n,z⟩|⟨k,n,us,gu,eu,hc⟩|⟨k,n⟩|⟨k,n⟩|⟨k,n⟩|⟨k,n⟩
      ·exact n
      ·exact n
      all_goals (rcases h01 with e|e <;> exact absurd (e.symm.trans k) Ze)
     unfold neB at n
     simp only[and_eq_true,decide_eq_true_eq]at n
     exact e2 n.2.2) H2 s12
  ·have hl2:=s2 _ _ ((aB.new hp) _ _ hl)
   have s12:=(aB.new hp).trans s2
   have nrr:¬RdR ws:=(fun r=>by
    rcases cP r with⟨k,n,z⟩|⟨k,n,us,gu,eu,hc⟩|⟨k,n⟩|⟨k,n⟩|⟨k,n⟩|⟨k,n⟩
    ·exact nr z
    ·exact nr ⟨us,gu,eu⟩
    all_goals (rcases h01 with e|e <;> exact absurd (e.symm.trans k) Ze))
   refine⟨_,rfl,l,_,_,_,rfl,rfl,SqL.of hl2,aZ (i:=2) Zb,rfl,_,rfl,?_⟩
   by_cases e2:wAt ws 2 = "be"
   ·refine aP (by rw[decide_eq_true (congrArg V.str e2)];rfl) ?_
    refine⟨_,rfl,l,_,_,_,rfl,rfl,SqL.of hl2,aZ (i:=1) Zb,wAt ws 1,rfl,hw.len (cG Zb),fun H3 s3=>⟨_,rfl,?_⟩⟩
    cases e1:nmB (wAt ws 1)with
    | false=>exact iC rfl (qn nrr H3 (s12.trans s3))
    | true =>
     refine jA rfl ?_
     refine⟨_,rfl,rfl,_,rfl,bh (decide_eq_true rfl) ?_⟩
     exact qn nrr H3 (s12.trans s3)
   ·refine bh (by rw[decide_eq_false fun k=>e2 (V.str.inj k)];rfl) ?_
    exact qn nrr H2 s12
theorem vB(T:Tx K mg C)(F:Fun K "_law_read_row" "_law_read_row" gP f fd):aO P w K mg base CX0 5 f fd qw Hr:=by
 obtain⟨fby,dby,Aby⟩:=T.aby
 have Gby:aO P w K mg base CX0 4 fby dby oF Qp:=uM T Aby.F
 obtain⟨fai,dai,Aai⟩:=T.aai
 have Gai:aO P w K mg base CX0 3 fai dai xN M3:=u6 T Aai.F
 obtain⟨fak,dak,Aak⟩:=T.aak
 have Gak:aO P w K mg base CX0 2 fak dak jq rY:=lC T Aak.F
 obtain⟨fab,dab,Aab⟩:=T.aab
 have Gab:aO P w K mg base CX0 1 fab dab lz ni:=gY T Aab.F
 refine F.oq yS fun _ _ _ _ H _ Q E hr h=>?_
 ·obtain⟨z,rfl,hz,q,qn⟩:=h
  have hr1:bw 1 _:=hr.mono Za
  have hr2:bw 2 _:=hr.mono Za
  have hr3:bw 3 _:=hr.mono Za
  have hr4:bw 4 _:=hr
  refine⟨_,QSs.h (au (aY (i:=1) yS.nd rfl (Or.inl rfl) (cM plainAttrs_str slot_str_split type_str_split dj (pv 0) (aj aA ao)))
   (au (bc (PW.pt (cC (aD bB (aU aN (pv 1) aq) aA (aG _)) (cz (aD Qa (aV Aai Gai hr3 (aj (bF cj (pv 1) (bJ aq) bN) ao)) fG (aG _))))) (az (aF (bT (aj aA (aj aA (aj aA (aj aA (aj (aV Aai Gai hr3 (aj (bF cj (pv 1) (bJ aq) bN) ao)) ao)))))))) aL)
   (au (bc (PW.pt (cC (aD iQ (aU aN (pv 1) aq) (bT (aj aA (aj aA ao))) Zd) (cz (aD ju (aJ aW Zd T.len boot_len (aj (pv 1) ao)) aq (aG _))))) (az (aF (aV Aby Gby hr4 (aj (pv 1) ao)))) aL)
   (au (bc (PW.pt (cC (aD iQ (aU aN (pv 1) aq) (bT (aj aA (aj aA ao))) Zd) (cC (aD bB (aJ aW Zd T.len boot_len (aj (pv 1) ao)) aq (aG _)) (cz (aD bB (aU aN (pv 1) aq) aA (aG _)))))) (az (bc (PW.pt (cC (bQ (aV Aak Gak hr2 (aj (aU aN (pv 1) aq) ao))) (cz (bQ (aV Aab Gab hr1 (aj (aU aN (pv 1) aq) ao)))))) (az (aF (bT (aj (aU aN (pv 1) aq) (aj (aU aN (pv 1) aq) (aj (aU aN (pv 1) aq) (aj aA (aj (bI ao) ao)))))))) aL)) aL)
   (au (bc (PW.pt (cC (aD bB (aU aN (pv 1) aq) aA (aG _)) (cC (aD bB (aJ aW Zd T.len boot_len (aj (pv 1) ao)) aq (aG _)) (cC (aD bB (aU aN (pv 1) aq) aA (aG _)) (cz (aD bB (aU aN (pv 1) aq) aA (aG _))))))) (az (bc (PW.pt (cC (bQ (aV Aab Gab hr1 (aj (aU aN (pv 1) aq) ao))) (cC (bQ (aV Aak Gak hr2 (aj (aU aN (pv 1) aq) ao))) (cz (bQ (aV Aab Gab hr1 (aj (aU aN (pv 1) aq) ao))))))) (az (aF (bT (aj aA (aj (aU aN (pv 1) aq) (aj (aU aN (pv 1) aq) (aj (aU aN (pv 1) aq) (aj (bI ao) ao)))))))) aL)) aL)
   (az (aF fG))))))),?_⟩
  have hw:=Wd.of hz
  refine⟨_,rfl,rfl,_,_,rfl,rfl,iG,le_trans (show z.length+2<=6002 by omega) Za,fun l hl0=>?_⟩
  have s0:=aB.new hl0 (o:=.lst ((Txt.split z (" " : Str)).map V.str))
  have hl:upd H l (.lst ((Txt.split z (" " : Str)).map V.str)) l=some (.lst ((Txt.split z (" " : Str)).map V.str)):=ak
  generalize upd H l (.lst ((Txt.split z (" " : Str)).map V.str))=H0 at s0 hl
  generalize Txt.split z (" " : Str)=ws at hw q qn hl
  have h0:0<ws.length:=hw.pos
  have ec:dO (ws.map V.str) (some ((1:Nat):Int)) none=(ws.drop 1).map V.str:=by rw[tO,<- map_drop]
  refine⟨_,rfl,l,_,_,_,rfl,rfl,SqL.of hl,aZ (i:=0) h0,rfl,_,rfl,?_⟩
  by_cases e0:wAt ws 0 = "need"
  ·refine bh (decide_eq_true (congrArg V.str e0)) ?_
   have hd:=hw.drop 1
   refine⟨_,rfl,_,rfl,l,_,rfl,SqL.of hl,fun p hp=>?_⟩
   refine⟨p,ws.drop 1,rfl,ak.trans (congrArg (fun z=>some (HO.lst z)) ec),fun w hw'=>hw.len (mem_of_mem_drop hw'),Zb,fun ts g et L H2 hL s2 htm=>?_,fun nr H2 s2=>?_⟩
   ·have hl2:=s2 _ _ ((aB.new hp) _ _ hl)
    have s12:=s0.trans ((aB.new hp).trans s2)
    refine⟨rfl,_,rfl,bh (by rw[decide_eq_false (fun k=>by cases k)];rfl) ?_⟩
    refine⟨_,rfl,_,rfl,l,_,rfl,SqL.of hl2,fun p2 hp2=>?_⟩
    refine⟨p2,ws.drop 1,rfl,ak.trans (congrArg (fun z=>some (HO.lst z)) ec),fun w hw'=>hw.len (mem_of_mem_drop hw'),Zb,fun ts2 g2 et2 L2 H3 hL2 s3 htm2=>?_,fun nr=>absurd ⟨ts,g,et⟩ nr⟩
    have s13:=s12.trans ((aB.new hp2).trans s3)
    refine⟨by show 5<=sizeLine;decide,fun p5 hp5=>?_⟩
    refine q ⟨5, "",a1,a1,ts2⟩ (Bp g2) ?_ _ _ (s13.put hp5) ⟨p5,L2,rfl,ak,fun _=>htm2.same (aB.new hp5),fun k=>absurd (.inr (.inr rfl)) k⟩
    show ws=("need" : Str)::wordsOf ts2
    rw[<- et2]
    match ws,h0,e0 with
    | a::r,_,e0=>exact congrArg (· :: r) e0
   ·have hl2:=s2 _ _ ((aB.new hp) _ _ hl)
    have s12:=s0.trans ((aB.new hp).trans s2)
    refine⟨rfl,_,rfl,aP Za ?_⟩
    have nrr:¬RdR ws:=fun r=>by
     rcases cP r with⟨k,_⟩|⟨k,_⟩|⟨k,_⟩|⟨k,_⟩|⟨k,_⟩|⟨k,n⟩ <;> first|exact absurd (e0.symm.trans k) Ze|exact nr n
    refine⟨_,rfl,l,_,_,_,rfl,rfl,SqL.of hl2,aZ (i:=0) h0,by show 2<=sizeLine;decide,fun p1 hp1=>⟨p1,_,rfl,.inr (SqT.of ak),rfl,rfl,_,rfl,?_⟩⟩
    refine aP (by rw[e0];decide +kernel) (bH ?_)
    have hl3:=(aB.new hp1 (o:=.tup [V.str "let",V.str "deed"])) _ _ hl2
    refine⟨_,rfl,l,_,_,_,rfl,rfl,SqL.of hl3,aZ (i:=0) h0,by show 2<=sizeLine;decide,fun p3 hp3=>⟨p3,_,rfl,.inr (SqT.of ak),rfl,rfl,_,rfl,?_⟩⟩
    refine aP (by rw[e0];decide +kernel) (bH ?_)
    have hl4:=(aB.new hp3 (o:=.tup [V.str "draw",V.str "late"])) _ _ hl3
    refine⟨_,rfl,l,_,_,_,rfl,rfl,SqL.of hl4,aZ (i:=0) h0,rfl,_,rfl,aP (by rw[e0];decide +kernel) (bH ?_)⟩
    exact qn nrr _ ((s12.put hp1).put hp3)
  ·refine aP (decide_eq_false fun k=>e0 (V.str.inj k)) (bH ?_)
   refine⟨_,rfl,l,_,_,_,rfl,rfl,SqL.of hl,aZ (i:=0) h0,by show 2<=sizeLine;decide,fun p1 hp1=>⟨p1,_,rfl,.inr (SqT.of ak),rfl,rfl,_,rfl,?_⟩⟩
   have hl1:=(aB.new hp1 (o:=.tup [V.str "let",V.str "deed"])) _ _ hl
   have s1:=s0.put hp1 (o:=.tup [V.str "let",V.str "deed"])
   by_cases e1:wAt ws 0 = "let" \/ wAt ws 0 = "deed"
   ·refine bh (Ld.trans (by rcases e1 with k|k <;> rw[k] <;> decide +kernel)) ?_
    refine⟨_,rfl,l,_,rfl,.inl (SqL.of hl1),_,_,rfl,rfl,_,rfl,dF (fun h3=>?_) (fun h3=>?_)⟩
    ·rw[length_map]at h3
     exact⟨_,rfl,l,ws,rfl,hl1,hw,Zb,e1,fun r g e v H2 s2 rt=>q r g e v H2 (s1.trans s2) rt,fun nr H2 s2=>qn nr H2 (s1.trans s2)⟩
    ·rw[length_map]at h3
     have nrr:¬RdR ws:=fun r=>by
      rcases cP r with⟨k,n,z⟩|⟨k,n,z⟩|⟨k,n⟩|⟨k,n⟩|⟨k,n⟩|⟨k,n⟩
      ·have:=(pZ n).1;omega
      ·have:=(pZ n).1;omega
      all_goals (rcases e1 with e|e <;> exact absurd (e.symm.trans k) Ze)
     refine⟨_,rfl,l,_,_,_,rfl,rfl,SqL.of (hl1),aZ (i:=0) Zb,by show 2<=sizeLine;decide,fun p3 hp3=>⟨p3,_,rfl,.inr (SqT.of ak),rfl,rfl,_,rfl,?_⟩⟩
     refine aP (Ld.trans (by rcases e1 with k|k <;> rw[k] <;> decide +kernel)) (bH ?_)
     have hl4:=(aB.new hp3 (o:=.tup [V.str "draw",V.str "late"])) _ _ hl1
     refine⟨_,rfl,l,_,_,_,rfl,rfl,SqL.of (hl4),aZ (i:=0) Zb,rfl,_,rfl,aP (by rcases e1 with k|k <;> rw[k] <;> decide +kernel) (bH ?_)⟩
     exact qn nrr _ (s1.put hp3)
   ·refine aP (Ld.trans (by rw[decide_eq_false fun k=>e1 (.inl k),decide_eq_false fun k=>e1 (.inr k)];rfl)) (bH ?_)
    refine⟨_,rfl,l,_,_,_,rfl,rfl,SqL.of (hl1),aZ (i:=0) Zb,by show 2<=sizeLine;decide,fun p3 hp3=>⟨p3,_,rfl,.inr (SqT.of ak),rfl,rfl,_,rfl,?_⟩⟩
    have hl2:=(aB.new hp3 (o:=.tup [V.str "draw",V.str "late"])) _ _ hl1
    have s2:=s1.put hp3 (o:=.tup [V.str "draw",V.str "late"])
    generalize upd (upd H0 p1 (.tup [V.str "let",V.str "deed"])) p3 (.tup [V.str "draw",V.str "late"])=H2 at hl2 s2
    by_cases e2:wAt ws 0 = "draw" \/ wAt ws 0 = "late"
    ·refine bh (Ld.trans (by rcases e2 with k|k <;> rw[k] <;> decide +kernel)) ?_
     have et:decide (V.str (wAt ws 0)=V.str "take")=false:=by rcases e2 with k|k <;> rw[k] <;> decide +kernel
     have nna:naB ws=false->¬ RdR ws:=fun z r=>by
      rcases cP r with⟨k,n⟩|⟨k,n⟩|⟨k,n⟩|⟨k,n⟩|⟨k,n⟩|⟨k,n⟩
      ·exact e1 (.inl k)
      ·exact e1 (.inr k)
      ·rw[n]at z;cases z
      ·rw[n]at z;cases z
      all_goals (rcases e2 with e|e <;> exact absurd (e.symm.trans k) Ze)
     have nna':=nna
     unfold naB at nna
     refine⟨_,rfl,l,_,rfl,.inl (SqL.of hl2),rfl,_,rfl,?_⟩
     by_cases h4:ws.length=4
     ·refine bh (by rw[length_map,h4];exact decide_eq_true rfl) ?_
      rw[decide_eq_true h4,Bool.true_and]at nna
      refine⟨_,rfl,l,_,_,_,rfl,rfl,SqL.of (hl2),aZ (i:=2) Zb,rfl,_,rfl,?_⟩
      by_cases e3:wAt ws 2 = "as"
      ·refine bh (decide_eq_true (congrArg V.str e3)) ?_
       rw[decide_eq_true e3,Bool.true_and]at nna
       refine⟨_,rfl,l,_,_,_,rfl,rfl,SqL.of (hl2),aZ (i:=1) Zb,wAt ws 1,rfl,hw.len (cG Zb),fun H3 s3=>⟨_,rfl,?_⟩⟩
       have hl3:=s3 _ _ hl2
       cases e4:cW 3 (wAt ws 1)with
       | false =>
        rw[e4,Bool.false_and]at nna
        exact aP rfl (bH ⟨_,rfl,l,_,_,_,rfl,rfl,SqL.of (hl3),aZ (i:=0) Zb,rfl,_,rfl,aP et (bH (qn (nna rfl) _ (s2.trans s3)))⟩)
       | true =>
        rw[e4,Bool.true_and]at nna
        refine bh rfl ⟨_,rfl,l,_,_,_,rfl,rfl,SqL.of (hl3),aZ (i:=3) Zb,wAt ws 3,rfl,hw.len (cG Zb),fun H4 s4=>⟨_,rfl,?_⟩⟩
        have hl4:=s4 _ _ hl3
        cases e5:nmB (wAt ws 3)with
        | false=>exact aP rfl ⟨_,rfl,l,_,_,_,rfl,rfl,SqL.of (hl4),aZ (i:=0) Zb,rfl,_,rfl,aP et (bH (qn (nna e5) _ ((s2.trans s3).trans s4)))⟩
        | true =>
         have na:naB ws=true:=by unfold naB;rw[decide_eq_true h4,decide_eq_true e3,e4,e5];rfl
         obtain⟨_,ys,ga,ey,hn3,ew⟩:=wD na
         refine bh rfl ⟨_,rfl,l,_,_,_,rfl,rfl,SqL.of (hl4),aZ (i:=0) Zb,_,rfl,l,_,_,_,rfl,rfl,SqL.of (hl4),aZ (i:=3) Zb,_,rfl,l,_,_,_,rfl,rfl,SqL.of (hl4),aZ (i:=1) Zb,by show 0<=sizeLine;decide,fun L hL=>⟨by show 5<=sizeLine;decide,fun p5 hp5=>?_⟩⟩
         have s6:=(((s2.trans s3).trans s4).put hL (o:=.lst [])).put hp5 (o:=.tup [V.str (wAt ws 0),V.str (wAt ws 3),V.str (wAt ws 1),V.str "",V.ref L])
         have hL6:upd (upd H4 L (.lst [])) p5 (.tup [V.str (wAt ws 0),V.str (wAt ws 3),V.str (wAt ws 1),V.str "",V.ref L]) L=some (.lst []):=(aB.new hp5) _ _ ak
         rcases e2 with k|k
         ·exact q ⟨2,wAt ws 3,dotted ys,a1,t1⟩ (vJ (.inl rfl) hn3 ga) (by rw[k]at ew;exact ew) _ _ s6 ⟨p5,L,rfl,by rw[ak,k,ey];rfl,fun z=>absurd z (by show ¬ (2=0\/2=1\/2=5);decide),fun _=>hL6⟩
         ·exact q ⟨3,wAt ws 3,dotted ys,a1,t1⟩ (vJ (.inr rfl) hn3 ga) (by rw[k]at ew;exact ew) _ _ s6 ⟨p5,L,rfl,by rw[ak,k,ey];rfl,fun z=>absurd z (by show ¬ (3=0\/3=1\/3=5);decide),fun _=>hL6⟩
      ·rw[decide_eq_false e3,Bool.false_and,Bool.and_false]at nna
       exact aP (decide_eq_false fun k=>e3 (V.str.inj k)) ⟨_,rfl,l,_,_,_,rfl,rfl,SqL.of (hl2),aZ (i:=0) Zb,rfl,_,rfl,aP et (bH (qn (nna rfl) _ (s2)))⟩
     ·rw[decide_eq_false h4,Bool.false_and]at nna
      exact aP (by rw[length_map];exact(jN (m:=4)).trans (decide_eq_false h4)) (bH ⟨_,rfl,l,_,_,_,rfl,rfl,SqL.of (hl2),aZ (i:=0) Zb,rfl,_,rfl,aP et (bH (qn (nna rfl) _ (s2)))⟩)
    ·refine aP (Ld.trans (by rw[decide_eq_false fun k=>e2 (.inl k),decide_eq_false fun k=>e2 (.inr k)];rfl)) (bH ?_)
     have nnw:nwB ws=false->¬ RdR ws:=fun z r=>by
      rcases cP r with⟨k,n⟩|⟨k,n⟩|⟨k,n⟩|⟨k,n⟩|⟨k,n⟩|⟨k,n⟩
      ·exact e1 (.inl k)
      ·exact e1 (.inr k)
      ·exact e2 (.inl k)
      ·exact e2 (.inr k)
      ·rw[n]at z;cases z
      ·exact e0 k
     refine⟨_,rfl,l,_,_,_,rfl,rfl,SqL.of (hl2),aZ (i:=0) Zb,rfl,_,rfl,?_⟩
     by_cases e3:wAt ws 0 = "take"
     ·refine bh (decide_eq_true (congrArg V.str e3)) ?_
      unfold nwB at nnw
      refine⟨_,rfl,l,_,rfl,.inl (SqL.of hl2),rfl,_,rfl,?_⟩
      by_cases h6:ws.length=6
      ·refine bh (by rw[length_map,h6];exact decide_eq_true rfl) ?_
       rw[decide_eq_true h6,Bool.true_and]at nnw
       refine⟨_,rfl,l,_,_,_,rfl,rfl,SqL.of (hl2),aZ (i:=2) Zb,rfl,_,rfl,?_⟩
       by_cases e4:wAt ws 2 = "from"
       ·refine bh (decide_eq_true (congrArg V.str e4)) ?_
        rw[decide_eq_true e4,Bool.true_and]at nnw
        refine⟨_,rfl,l,_,_,_,rfl,rfl,SqL.of (hl2),aZ (i:=4) Zb,rfl,_,rfl,?_⟩
        by_cases e5:wAt ws 4 = "as"
        ·refine bh (decide_eq_true (congrArg V.str e5)) ?_
         rw[decide_eq_true e5,Bool.true_and]at nnw
         refine⟨_,rfl,l,_,_,_,rfl,rfl,SqL.of (hl2),aZ (i:=1) Zb,wAt ws 1,rfl,hw.len (cG Zb),fun H3 s3=>⟨_,rfl,?_⟩⟩
         have hl3:=s3 _ _ hl2
         cases e6:nmB (wAt ws 1)with
         | false =>
          rw[e6,Bool.false_and]at nnw
          exact aP rfl (bH (qn (nnw rfl) _ (s2.trans s3)))
         | true =>
          rw[e6,Bool.true_and]at nnw
          refine bh rfl ⟨_,rfl,l,_,_,_,rfl,rfl,SqL.of (hl3),aZ (i:=3) Zb,wAt ws 3,rfl,hw.len (cG Zb),fun H4 s4=>⟨_,rfl,?_⟩⟩
          have hl4:=s4 _ _ hl3
          cases e7:cW 3 (wAt ws 3)with
          | false =>
           rw[e7,Bool.false_and]at nnw
           exact aP rfl (bH (qn (nnw rfl) _ ((s2.trans s3).trans s4)))
          | true =>
           rw[e7,Bool.true_and]at nnw
           refine bh rfl ⟨_,rfl,l,_,_,_,rfl,rfl,SqL.of (hl4),aZ (i:=5) Zb,wAt ws 5,rfl,hw.len (cG Zb),fun H5 s5=>⟨_,rfl,?_⟩⟩
           have hl5:=s5 _ _ hl4
           cases e8:nmB (wAt ws 5)with
           | false=>exact aP rfl (qn (nnw e8) _ (((s2.trans s3).trans s4).trans s5))
           | true =>
            have nw:nwB ws=true:=by unfold nwB;rw[decide_eq_true h6,decide_eq_true e4,decide_eq_true e5,e6,e7,e8];rfl
            obtain⟨_,ys,ga,ey,hn1,hn5,ew⟩:=Dd nw
            refine bh rfl ⟨_,rfl,l,_,_,_,rfl,rfl,SqL.of (hl5),aZ (i:=5) Zb,_,rfl,l,_,_,_,rfl,rfl,SqL.of (hl5),aZ (i:=3) Zb,_,rfl,l,_,_,_,rfl,rfl,SqL.of (hl5),aZ (i:=1) Zb,by show 0<=sizeLine;decide,fun L hL=>⟨by show 5<=sizeLine;decide,fun p5 hp5=>?_⟩⟩
            have s6:=((((s2.trans s3).trans s4).trans s5).put hL (o:=.lst [])).put hp5 (o:=.tup [V.str "take",V.str (wAt ws 5),V.str (wAt ws 3),V.str (wAt ws 1),V.ref L])
            have hL6:upd (upd H5 L (.lst [])) p5 (.tup [V.str "take",V.str (wAt ws 5),V.str (wAt ws 3),V.str (wAt ws 1),V.ref L]) L=some (.lst []):=(aB.new hp5) _ _ ak
            exact q ⟨4,wAt ws 5,dotted ys,wAt ws 1,t1⟩ (GR hn5 hn1 ga) (by rw[e3]at ew;exact ew) _ _ s6 ⟨p5,L,rfl,by rw[ak,ey];rfl,fun z=>absurd z (by show ¬ (4=0\/4=1\/4=5);decide),fun _=>hL6⟩
        ·rw[decide_eq_false e5,Bool.false_and]at nnw
         exact aP (decide_eq_false fun k=>e5 (V.str.inj k)) (qn (nnw rfl) _ s2)
       ·rw[decide_eq_false e4,Bool.false_and]at nnw
        exact aP (decide_eq_false fun k=>e4 (V.str.inj k)) (bH (qn (nnw rfl) _ s2))
      ·rw[decide_eq_false h6,Bool.false_and]at nnw
       exact aP (by rw[length_map];exact(jN (m:=6)).trans (decide_eq_false h6)) (bH (qn (nnw rfl) _ s2))
     ·refine aP (decide_eq_false fun k=>e3 (V.str.inj k)) (bH ?_)
      exact qn (fun r=>by
       rcases cP r with⟨k,n⟩|⟨k,n⟩|⟨k,n⟩|⟨k,n⟩|⟨k,n⟩|⟨k,n⟩
       ·exact e1 (.inl k)
       ·exact e1 (.inr k)
       ·exact e2 (.inl k)
       ·exact e2 (.inr k)
       ·exact e3 k
       ·exact e0 k) _ s2
theorem ym(T:Tx K mg C)(F:Fun K "_law_worded" "_law_worded" jG f fd):aO P w K mg base CX0 2 f fd tX Dg:=by
 obtain⟨faa,daa,Aaa⟩:=T.aaa
 have Gaa:aO P w K mg base CX0 1 faa daa gm jz:=gZ Aaa.F
 refine F.oq nW fun _ _ _ _ H _ Q E hr h=>?_
 ·obtain⟨l,ws,c,rfl,hl,hne,ht,q⟩:=h
  have hr1:bw 1 _:=hr
  refine Qu ((au (aY (i:=2) nW.nd rfl (Or.inl rfl) (aV Aaa Gaa hr1 (aj (pv 1) (aj aq (aj (aJ aW Zd T.len boot_len (aj (pv 0) ao)) ao)))))
   (au (aY (i:=3) nW.nd rfl (Or.inl rfl) (aV Aaa Gaa hr1 (aj (pv 1) (aj aq (aj aq ao)))))
   (au (aY (i:=4) nW.nd rfl (Or.inl rfl) (Ao (bz aA (bz aA (bz aA (bz aA (bz aA (bz aA (bz aA (bz (aH nZ aA (aH b7 aq (aV Aaa Gaa hr1 (aj (pv 1) (aj aq (aj aq ao)))))) (bz aA (bz aA (bz aA wN)))))))))))))
   (au (aY (i:=4) nW.nd rfl (Or.inl rfl) (aH eY (pv 4) (Ao (bz aA (bz aA (bz aA (bz aA (bz aA (bz aA (bz aA wN))))))))))
   (au (aY (i:=5) nW.nd rfl (Or.inl rfl) (aU aN (pv 4) (aV Aaa Gaa hr1 (aj (pv 1) (aj aq (aj aq ao))))))
   (au (bc (aD bB (pv 3) aq (aG _)) (az (aF (aH eY (aH eY (bF cj (pv 0) bN (bJ (pv 2))) (bI (aj (pv 5) ao))) (bF cj (pv 0) (bJ (aH b7 (pv 2) aq)) bN)))) aL)
   (au (bc (aD bB (pv 3) aq (aG _)) (az (aF (aH eY (bF cj (pv 0) bN (bJ (pv 2))) (bF cj (pv 0) (bJ (aH b7 (pv 2) aq)) bN)))) aL)
   (au (bc (aD bB (pv 3) aq (aG _)) (az (aF (aH eY (bF cj (pv 0) bN (bJ (aH b7 (pv 2) aq))) (bF cj (pv 0) (bJ (pv 2)) bN)))) aL)
   (au (bc (aD bB (pv 3) aq (aG _)) (az (aF (aH eY (pv 0) (bI (aj aA (aj (pv 5) ao)))))) aL)
   (au (bc (aD bB (pv 3) aq (aG _)) (az (aF (aH eY (bI (aj (pv 5) ao)) (pv 0)))) aL)
   (au (bc (aD bB (pv 3) aq (aG _)) (az (aF (aH eY (aH eY (bF cj (pv 0) bN (bJ (pv 2))) (bI (aj (aH aR (aU aN (pv 0) (pv 2)) aA) ao))) (bF cj (pv 0) (bJ (aH b7 (pv 2) aq)) bN)))) aL)
   (au (bc (aD bB (pv 3) aq (aG _)) (az (aF (aH eY (aH eY (bF cj (pv 0) bN (bJ aq)) (bI (aj (pv 5) ao))) (bF cj (pv 0) (bJ aq) bN)))) aL)
   (au (bc (aD bB (pv 3) aq (aG _)) (az (aF (aH eY (aH eY (bF cj (pv 0) bN (bJ (pv 2))) (bI (aj (aH aR (aU aN (pv 0) (pv 2)) aA) ao))) (bF cj (pv 0) (bJ (aH b7 (pv 2) aq)) bN)))) aL)
   (az (aF (aH eY (bI (aj aA ao)) (bF cj (pv 0) (bJ aq) bN)))))))))))))))))) ?_
  have hpos:0<ws.length:=length_pos_iff.mpr hne
  have hlen:=Hj ws
  have big:20000<=sizeLine:=by decide
  refine⟨_,rfl,_,rfl,l,_,rfl,.inl (SqL.of hl),c,6,_,rfl,Za,Za,by rw[length_map];omega,fun H1 s1=>?_⟩
  have g0:=cH c 6 (m:=((ws.map V.str).length:Int)) (by rw[length_map];omega)
  have g1:=cI c 6 (m:=((ws.map V.str).length:Int)) (by rw[length_map];omega)
  generalize pick c 6 ((ws.map V.str).length:Int)=at_ at g0 g1
  rw[length_map]at g1
  obtain⟨k,rfl⟩:=Int.eq_ofNat_of_zero_le g0
  have hk:k<ws.length:=by omega
  refine⟨_,rfl,c,7,9,rfl,Za,Za,Za,fun H2 s2=>?_⟩
  have n0:=cH c 9 (m:=700) Za
  have n1:=cI c 9 (m:=700) Za
  refine⟨_,rfl,c,9,700,rfl,Za,Za,Za,fun H3 s3=>⟨_,_,rfl,rfl,_,_,rfl,rfl,(Jp Ze Zb Zb).1,by show 11<=sizeLine;decide,fun A hA=>?_⟩⟩
  refine⟨_,rfl,by show 7<=sizeLine;decide,fun B hB=>⟨A,B,_,_,rfl,rfl,(aB.new hB) _ _ ak,ak,by show 11+7<=sizeLine;decide,fun D hD0=>?_⟩⟩
  have n2:0<=4301+pick c 9 700:=by omega
  have n3:4301+pick c 9 700<=5000:=by omega
  generalize 4301+pick c 9 700=n at n2 n3 hB hD0 ⊢
  have hD:upd (upd (upd H3 A (.lst ((wl n).take 11))) B (.lst ((wl n).drop 11))) D (.lst (wl n)) D=some (.lst (wl n)):=ak
  refine⟨_,rfl,_,rfl,c,8,18,rfl,Za,Za,Za,fun H4 s4=>?_⟩
  have s04:aB H H4:=((((s1.trans (s2.trans s3)).put hA).put hB).put hD0).trans s4
  obtain⟨v,ev,hv⟩:=K4 (xs:=wl n) (cH c 8 (m:=18) Za) (cI c 8 (m:=18) Za)
  obtain⟨w,rfl,hw⟩:=Ny n2 n3 hv
  refine⟨D,_,_,V.str w,rfl,rfl,SqL.of (s4 _ _ hD),ev,?_⟩
  have hl4:=s04 _ _ hl
  clear hD ev hv s4 hD0 hB hA
  have hcl:∀ lo hi,(dO (ws.map V.str) lo hi).length<=600:=fun lo hi=>le_trans (Ik _ _ _) (by rw[length_map];omega)
  have hwl:(wAt ws k).length<tot ws:=Qh (cG hk)
  have lb:((".b" : Str)).length=2:=by decide +kernel
  have lc:(("()" : Str)).length=2:=by decide +kernel
  have ck1:dO (ws.map V.str) (some ((k:Int)+1)) none=(ws.drop (k+1)).map V.str:=J1 ws (k+1)
  have ct1:dO (ws.map V.str) none (some ((k:Int)+1))=(ws.take (k+1)).map V.str:=cuts ws (k+1)
  have c1:=hcl none (some (k:Int))
  have c2:=hcl (some ((k:Int)+1)) none
  have c3:=hcl none (some ((k:Int)+1))
  have c4:=hcl (some (k:Int)) none
  have c5:=hcl none (some 1)
  have c6:=hcl (some 2) none
  have c7:=hcl (some 1) none
  have c8:(ws.map V.str).length<=600:=by rw[length_map];omega
  have d1:=tW ws k
  have d2:=tW ws (k+1)
  have d3:=DQ ws k
  have d4:=tW ws 1
  have d5:=tW ws 2
  have d6:tot (ws.drop 2)<=tot (ws.drop 1):=DQ ws 1
  refine⟨_,rfl,rfl,_,rfl,iw (fun _=>?_) (fun _=>?_)⟩
  ·refine⟨_,rfl,_,rfl,_,rfl,l,_,rfl,SqL.of hl4,fun p0 hp0=>⟨_,rfl,by show 1<=sizeLine;decide,fun p1 hp1=>⟨p0,p1,_,_,rfl,rfl,((aB.new hp1) _ _ ak),ak,by first|omega|(simp only[length_append,length_cons,length_nil];omega),fun p2 hp2=>⟨_,rfl,_,rfl,_,_,rfl,rfl,_,rfl,l,_,rfl,SqL.of ((aB.new hp2) _ _ ((aB.new hp1) _ _ ((aB.new hp0) _ _ hl4))),fun p3 hp3=>⟨p2,p3,_,_,rfl,rfl,((aB.new hp3) _ _ ak),ak,by first|omega|(simp only[length_append,length_cons,length_nil];omega),fun p4 hp4=>q p4 (ws.take k++[w]++ws.drop (k+1)) _ (((((s04.put hp0).put hp1).put hp2).put hp3).put hp4) (ak.trans ?_) ?_⟩⟩⟩⟩⟩
   ·exact congrArg (fun z=>some (HO.lst z)) (by rw[cuts,ck1,map_append,map_append];rfl)
   ·rw[dm,dm,jZ];omega
  refine⟨_,rfl,rfl,_,rfl,iw (fun _=>?_) (fun _=>?_)⟩
  ·refine⟨_,rfl,_,rfl,_,rfl,l,_,rfl,SqL.of hl4,fun p0 hp0=>⟨_,rfl,_,rfl,_,_,rfl,rfl,_,rfl,l,_,rfl,SqL.of ((aB.new hp0) _ _ hl4),fun p1 hp1=>⟨p0,p1,_,_,rfl,rfl,((aB.new hp1) _ _ ak),ak,by first|omega|(simp only[length_append,length_cons,length_nil];omega),fun p2 hp2=>q p2 (ws.take k++ws.drop (k+1)) _ (((s04.put hp0).put hp1).put hp2) (ak.trans ?_) ?_⟩⟩⟩
   ·exact congrArg (fun z=>some (HO.lst z)) (by rw[cuts,ck1,map_append])
   ·rw[dm];omega
  refine⟨_,rfl,rfl,_,rfl,iw (fun _=>?_) (fun _=>?_)⟩
  ·refine⟨_,rfl,_,rfl,_,_,rfl,rfl,_,rfl,l,_,rfl,SqL.of hl4,fun p0 hp0=>⟨_,rfl,_,rfl,_,rfl,l,_,rfl,SqL.of ((aB.new hp0) _ _ hl4),fun p1 hp1=>⟨p0,p1,_,_,rfl,rfl,((aB.new hp1) _ _ ak),ak,by first|omega|(simp only[length_append,length_cons,length_nil];omega),fun p2 hp2=>q p2 (ws.take (k+1)++ws.drop k) _ (((s04.put hp0).put hp1).put hp2) (ak.trans ?_) ?_⟩⟩⟩
   ·exact congrArg (fun z=>some (HO.lst z)) (by rw[ct1,J1,map_append])
   ·rw[dm];omega
  refine⟨_,rfl,rfl,_,rfl,iw (fun _=>?_) (fun _=>?_)⟩
  ·refine⟨_,rfl,_,rfl,by show 2<=sizeLine;decide,fun p0 hp0=>⟨l,p0,_,_,rfl,rfl,((aB.new hp0) _ _ hl4),ak,by first|omega|(simp only[length_append,length_cons,length_nil];omega),fun p1 hp1=>q p1 (ws++[("+" : Str),w]) _ ((s04.put hp0).put hp1) (ak.trans ?_) ?_⟩⟩
   ·exact congrArg (fun z=>some (HO.lst z)) (by rw[map_append];rfl)
   ·rw[show[("+" : Str),w]=[("+" : Str)]++[w]from rfl,dm,dm,jZ,jZ,show(("+" : Str)).length=1 by decide +kernel];omega
  refine⟨_,rfl,rfl,_,rfl,iw (fun _=>?_) (fun _=>?_)⟩
  ·refine⟨_,rfl,by show 1<=sizeLine;decide,fun p0 hp0=>⟨_,rfl,p0,l,_,_,rfl,rfl,ak,((aB.new hp0) _ _ hl4),by first|omega|(simp only[length_append,length_cons,length_nil];omega),fun p1 hp1=>q p1 ([w]++ws) _ ((s04.put hp0).put hp1) (ak.trans ?_) ?_⟩⟩
   ·exact congrArg (fun z=>some (HO.lst z)) (by rw[map_append];rfl)
   ·rw[dm,jZ];omega
  refine⟨_,rfl,rfl,_,rfl,iw (fun _=>?_) (fun _=>?_)⟩
  ·refine⟨_,rfl,_,rfl,_,rfl,l,_,rfl,SqL.of hl4,fun p0 hp0=>⟨_,rfl,_,rfl,l,_,_,_,rfl,rfl,SqL.of ((aB.new hp0) _ _ hl4),aZ (i:=k) hk,_,_,rfl,rfl,by rw[lb];omega,by show 1<=sizeLine;decide,fun p1 hp1=>⟨p0,p1,_,_,rfl,rfl,((aB.new hp1) _ _ ak),ak,by first|omega|(simp only[length_append,length_cons,length_nil];omega),fun p2 hp2=>⟨_,rfl,_,rfl,_,_,rfl,rfl,_,rfl,l,_,rfl,SqL.of ((aB.new hp2) _ _ ((aB.new hp1) _ _ ((aB.new hp0) _ _ hl4))),fun p3 hp3=>⟨p2,p3,_,_,rfl,rfl,((aB.new hp3) _ _ ak),ak,by first|omega|(simp only[length_append,length_cons,length_nil];omega),fun p4 hp4=>q p4 (ws.take k++[wAt ws k++(".b" : Str)]++ws.drop (k+1)) _ (((((s04.put hp0).put hp1).put hp2).put hp3).put hp4) (ak.trans ?_) ?_⟩⟩⟩⟩⟩
   ·exact congrArg (fun z=>some (HO.lst z)) (by rw[cuts,ck1,map_append,map_append];rfl)
   ·rw[dm,dm,jZ,bM,lb];omega
  refine⟨_,rfl,rfl,_,rfl,iw (fun _=>?_) (fun _=>?_)⟩
  ·refine⟨_,rfl,_,rfl,l,_,rfl,SqL.of hl4,fun p0 hp0=>⟨_,rfl,by show 1<=sizeLine;decide,fun p1 hp1=>⟨p0,p1,_,_,rfl,rfl,((aB.new hp1) _ _ ak),ak,by first|omega|(simp only[length_append,length_cons,length_nil];omega),fun p2 hp2=>⟨_,rfl,_,rfl,l,_,rfl,SqL.of ((aB.new hp2) _ _ ((aB.new hp1) _ _ ((aB.new hp0) _ _ hl4))),fun p3 hp3=>⟨p2,p3,_,_,rfl,rfl,((aB.new hp3) _ _ ak),ak,by first|omega|(simp only[length_append,length_cons,length_nil];omega),fun p4 hp4=>q p4 (ws.take 1++[w]++ws.drop 2) _ (((((s04.put hp0).put hp1).put hp2).put hp3).put hp4) (ak.trans ?_) ?_⟩⟩⟩⟩⟩
   ·exact congrArg (fun z=>some (HO.lst z)) (by rw[show dO (ws.map V.str) none (some 1)=(ws.take 1).map V.str from cuts ws 1,show dO (ws.map V.str) (some 2) none=(ws.drop 2).map V.str from J1 ws 2,map_append,map_append];rfl)
   ·rw[dm,dm,jZ];omega
  refine⟨_,rfl,rfl,_,rfl,iw (fun _=>?_) (fun _=>?_)⟩
  ·refine⟨_,rfl,_,rfl,_,rfl,l,_,rfl,SqL.of hl4,fun p0 hp0=>⟨_,rfl,_,rfl,l,_,_,_,rfl,rfl,SqL.of ((aB.new hp0) _ _ hl4),aZ (i:=k) hk,_,_,rfl,rfl,by rw[lc];omega,by show 1<=sizeLine;decide,fun p1 hp1=>⟨p0,p1,_,_,rfl,rfl,((aB.new hp1) _ _ ak),ak,by first|omega|(simp only[length_append,length_cons,length_nil];omega),fun p2 hp2=>⟨_,rfl,_,rfl,_,_,rfl,rfl,_,rfl,l,_,rfl,SqL.of ((aB.new hp2) _ _ ((aB.new hp1) _ _ ((aB.new hp0) _ _ hl4))),fun p3 hp3=>⟨p2,p3,_,_,rfl,rfl,((aB.new hp3) _ _ ak),ak,by first|omega|(simp only[length_append,length_cons,length_nil];omega),fun p4 hp4=>q p4 (ws.take k++[wAt ws k++("()" : Str)]++ws.drop (k+1)) _ (((((s04.put hp0).put hp1).put hp2).put hp3).put hp4) (ak.trans ?_) ?_⟩⟩⟩⟩⟩
   ·exact congrArg (fun z=>some (HO.lst z)) (by rw[cuts,ck1,map_append,map_append];rfl)
   ·rw[dm,dm,jZ,bM,lc];omega
  refine⟨by show 1<=sizeLine;decide,fun p0 hp0=>⟨_,rfl,_,rfl,l,_,rfl,SqL.of ((aB.new hp0) _ _ hl4),fun p1 hp1=>⟨p0,p1,_,_,rfl,rfl,((aB.new hp1) _ _ ak),ak,by first|omega|(simp only[length_append,length_cons,length_nil];omega),fun p2 hp2=>q p2 ([("need" : Str)]++ws.drop 1) _ (((s04.put hp0).put hp1).put hp2) (ak.trans ?_) ?_⟩⟩⟩
  ·exact congrArg (fun z=>some (HO.lst z)) (by rw[show dO (ws.map V.str) (some 1) none=(ws.drop 1).map V.str from J1 ws 1,map_append];rfl)
  ·rw[dm,jZ,show(("need" : Str)).length=4 by decide +kernel];omega
theorem qX(T:Tx K mg C)(F:Fun K "_law_signed" "_law_signed" jP f fd):aO P w K mg base CX0 2 f fd qt wX:=by
 obtain⟨faa,daa,Aaa⟩:=T.aaa
 have Gaa:aO P w K mg base CX0 1 faa daa gm jz:=gZ Aaa.F
 refine F.oq nT fun _ _ _ _ H _ Q E hr h=>?_
 ·obtain⟨z,c,rfl,h2,q⟩:=h
  have hr1:bw 1 _:=hr
  refine⟨_,QSs.h (au (aY (i:=2) nT.nd rfl (Or.inl rfl) aA)
   (au (aY (i:=0) nT.nd rfl (Or.inl rfl) (aH aR (pv 0) (aH nZ aA (bR fK Zd T.t_int boot_int (aj (bY bB (pv 0) aA (aG _)) ao)))))
   (au (aY (i:=3) nT.nd rfl (Or.inl rfl) (aV Aaa Gaa hr1 (aj (pv 1) (aj aq (aj (aJ cL Zd T.len boot_len (aj (pv 0) ao)) ao)))))
   (au (aY (i:=4) nT.nd rfl (Or.inl rfl) (aU uP (pv 2) (aV Aaa Gaa hr1 (aj (pv 1) (aj aq (aj (aJ cL Zd T.len boot_len (aj (pv 2) ao)) ao))))))
   (au (aY (i:=5) nT.nd rfl (Or.inl rfl) (aV Aaa Gaa hr1 (aj (pv 1) (aj aq (aj aq ao)))))
   (au (bc (aD bB (pv 5) aq (aG _)) (az (aF (aH aR (aH aR (bF pA (pv 0) bN (bJ (pv 3))) (pv 4)) (bF pA (pv 0) (bJ (pv 3)) bN)))) aL)
   (au (bc (aD bB (pv 5) aq (aG _)) (az (aF (aH aR (aH aR (bF pA (pv 0) bN (bJ (pv 3))) (pv 4)) (bF pA (pv 0) (bJ (aH b7 (pv 3) aq)) bN)))) aL)
   (au (bc (aD bB (pv 5) aq (aG _)) (az (aF (aH aR (pv 0) (pv 4)))) aL)
   (az (aF (aH aR (bF pA (pv 0) bN (bJ (pv 3))) (bF pA (pv 0) (bJ (aH b7 (pv 3) aq)) bN)))))))))))),?_⟩
  obtain⟨k1,k2⟩:=J8 (z:=z)
  refine⟨_,rfl,_,rfl,rfl,.inr ⟨_,rfl,_,_,rfl,rfl,OJ _,_,_,rfl,rfl,by rw[<- bM];exact le_trans (show _<=6000 by omega) Za,?_⟩⟩
  generalize z++Txt.mul "a" (if decide (V.str z=V.str "")=true then 1 else 0)=y at k1 k2
  have hz':y.length<=sizeLine:=le_trans (show y.length<=6000 by omega) Za
  refine⟨_,rfl,_,rfl,_,rfl,hz',c,3,(y.length:Int),rfl,Za,Za,Zb,fun H1 s1=>?_⟩
  refine⟨_,rfl,_,rfl,_,rfl,_,rfl,Ze,c,4,_,rfl,Za,Za,Ze,fun H2 s2=>?_⟩
  refine PL Ze Ze fun ch=>?_
  refine⟨_,rfl,c,5,4,rfl,Za,Za,Za,fun H3 s3=>?_⟩
  have sm:aB H H3:=s1.trans (s2.trans s3)
  have l2:((⟨#[ch]⟩:Str)).length=1:=rfl
  have big:20000<=sizeLine:=by decide
  have g0:=cH c 3 (m:=(y.length:Int)) Zb
  have g1:=cI c 3 (m:=(y.length:Int)) Zb
  generalize pick c 3 (y.length:Int)=at_ at g0 g1
  have a1:=Th (y:=y) g0 Zb
  have a2:=Hm (y:=y) g0 Zb
  have a3:=Hm (y:=y) (i:=at_+1) Zb Zb
  have b1:(Txt.slice y none (some at_)).length+(Txt.slice y (some at_) none).length<=y.length:=by clear k1 k2 h2 big;omega
  have b2:(Txt.slice y none (some at_)).length+(Txt.slice y (some (at_+1)) none).length<=y.length:=by clear k1 k2 h2 big;omega
  clear a1 a2 a3 g0 g1 k1
  refine⟨_,rfl,rfl,_,rfl,iw (fun _=>?_) (fun _=>?_)⟩
  ·exact⟨_,rfl,_,rfl,_,rfl,y,rfl,hz',_,rfl,_,_,rfl,rfl,Zb,_,rfl,_,rfl,_,rfl,y,rfl,hz',_,_,rfl,rfl,by rw[bM];omega,q _ _ (by rw[bM,bM];omega) sm⟩
  refine⟨_,rfl,rfl,_,rfl,iw (fun _=>?_) (fun _=>?_)⟩
  ·exact⟨_,rfl,_,rfl,_,rfl,y,rfl,hz',_,rfl,_,_,rfl,rfl,Zb,_,rfl,_,rfl,_,_,rfl,rfl,_,rfl,y,rfl,hz',_,_,rfl,rfl,by rw[bM];omega,q _ _ (by rw[bM,bM];omega) sm⟩
  refine⟨_,rfl,rfl,_,rfl,iw (fun _=>?_) (fun _=>?_)⟩
  ·exact⟨_,rfl,_,rfl,_,_,rfl,rfl,Zb,q _ _ (by rw[bM];omega) sm⟩
  exact⟨_,rfl,_,rfl,_,rfl,y,rfl,hz',_,rfl,_,rfl,_,_,rfl,rfl,_,rfl,y,rfl,hz',_,_,rfl,rfl,Zb,q _ _ (by rw[bM];omega) sm⟩
theorem Dz(T:Tx K mg C)(F:Fun K "_law_what" "_law_what" oR f fd):uh P w K mg base 2 f fd zB (Ek C):=by
 obtain⟨faq,daq,Aaq⟩:=T.aaq
 have GH_law_whole:uh P w K mg base 1 faq daq qH Od:=yg T Aaq.F
 refine F.okH Gr (fun vs H Q E h=>?_) (fun cdv A outer s H vs Q E y hr h=>?_)
 ·obtain⟨x,p,d,i,rfl,_⟩:=h
  rfl
 ·obtain⟨x,p,d,i,rfl,h3,hx,hp,q⟩:=h
  have hr1:bw 1 _:=hr
  refine⟨_,QSs.h (au (aY (i:=1) Gr.nd rfl (Or.inl rfl) (bI (aj (aJ (lD (K:=K) rfl) Zd T.inst boot_isinstance (aj (pv 0) (aj (fJ T.c_NoText) ao))) (aj (aJ (lD (K:=K) rfl) Zd T.inst boot_isinstance (aj (pv 0) (aj (fJ T.c_TooMany) ao))) (aj (aJ (lD (K:=K) rfl) Zd T.inst boot_isinstance (aj (pv 0) (aj (fJ T.c_Twice) ao))) ao)))))
   (au (aY (i:=2) Gr.nd rfl (Or.inl rfl) (aJ (Bl (K:=K) rfl) Zd T.inst boot_isinstance (aj (pv 0) (aj (bT (aj (fJ T.c_Clash) (aj (fJ T.c_Double) (aj (fJ T.c_Fault) (aj (fJ T.c_NoDrop) (aj (fJ T.c_NoExpr) (aj (fJ T.c_NoName) (aj (fJ T.c_NoPart) (aj (fJ T.c_NoRow) (aj (fJ T.c_Orphan) (aj (fJ T.c_TooWide) ao))))))))))) ao))))
   (au (bc (PW.pt (cU (aD dM (cM plainAttrs_list PySem.F.slot_list_count PySem.F.type_list_count JK (pv 1) (aj gB ao)) aq (aG _)) (cU (bQ (pv 2)) (cU (cV (bQ (aJ (lD (K:=K) rfl) Zd T.inst boot_isinstance (aj (pv 0) (aj (cR (v:=.ty "ValueError") Zd T.t_ValueError vo rfl) ao))))) (dI (cV (bQ (Le Aaq GH_law_whole hr1 (aj (Dp (K:=K) rfl (pv 0) rfl) ao))))))))) (az (aF (bT (aj aA (aj aq ao))))) aL)
   (az (aF (bT (aj (aU (Ej (K:=K) rfl) (bI (aj aA (aj aA (aj aA ao)))) (cM plainAttrs_list PySem.F.slot_list_index PySem.F.type_list_index Jh (pv 1) (aj gB ao))) (aj (Dp (K:=K) rfl (pv 0) rfl) ao)))))))),?_⟩
  have xo:Fy K C d:=by
   rcases h3 with rfl|rfl|rfl
   ·exact T.xf.one
   ·exact T.xm
   ·exact T.xw
  have hd:∀ {H':Hp},aB H H'->∀ p',some p=some p'->∃ fs,H' p'=some (XdO p' fs):=fun s p' e=>⟨_,by cases e;exact s _ _ hp⟩
  have s0:=aB.refl H
  refine⟨_,rfl,_,x,C d,some p,_,_,_,rfl,rfl,hx,hd s0,xo.x,xo.k 22 Za Za,_,rfl,_,x,C d,some p,_,_,_,rfl,rfl,hx,hd s0,xo.x,xo.k 31 Za Za,_,rfl,_,x,C d,some p,_,_,_,rfl,rfl,hx,hd s0,xo.x,xo.k 33 Za Za,by show 3<=sizeLine;decide,fun l hl=>?_⟩
  have s1:aB H (upd H l (.lst ((flg d).map V.bl))):=aB.new hl
  have hl1:upd H l (.lst ((flg d).map V.bl)) l=some (.lst ((flg d).map V.bl)):=ak
  change ∃ _,_
  refine⟨_,rfl,by show 10<=sizeLine;decide,fun tp htp=>?_⟩
  have s2:=s1.put htp (o:=.tup ([C 23,C 24,C 25,C 26,C 21,C 27,C 28,C 29,C 30,C 32].map V.ref))
  refine⟨false,x,C d,some p,tp,[C 23,C 24,C 25,C 26,C 21,C 27,C 28,C 29,C 30,C 32],false,rfl,ak,s2 _ _ hx,hd s2,xo.x,Nz xo h3,?_⟩
  have hl2:=(aB.new htp (o:=.tup ([C 23,C 24,C 25,C 26,C 21,C 27,C 28,C 29,C 30,C 32].map V.ref))) _ _ hl1
  obtain⟨j,c1,c2,c3,c4⟩:=Te h3
  refine⟨_,rfl,.inl ⟨rfl,_,SqL.of hl2⟩,l,flg d,rfl,rfl,hl2,?_⟩
  rw[c1]
  refine⟨rfl,_,rfl,aP Za ?_⟩
  refine⟨_,rfl,_,rfl,bH ?_⟩
  refine⟨_,rfl,_,x,C d,some p,_,_,_,rfl,rfl,s2 _ _ hx,hd s2,xo.x,xo.v,_,rfl,bH ?_⟩
  refine⟨_,rfl,_,x,C d,p,_,_,rfl,s2 _ _ hx,s2 _ _ hp,xo.x,xo.a,rfl,i,rfl,fun H3 s3=>⟨_,rfl,bH ?_⟩⟩
  have s03:=s2.trans s3
  refine⟨by show 3<=sizeLine;decide,fun wl hwl=>?_⟩
  have s4:=s03.put hwl (o:=.lst [V.str "text",V.str "many",V.str "twice"])
  have hl4:=(aB.new hwl (o:=.lst [V.str "text",V.str "many",V.str "twice"])) _ _ (s3 _ _ hl2)
  refine⟨_,rfl,.inl ⟨rfl,_,SqL.of hl4⟩,l,flg d,j,rfl,rfl,hl4,c2,c3,(by show 3<=1000;decide),?_⟩
  refine⟨wl,_,_,_,rfl,rfl,SqL.of ak,c4,?_⟩
  refine⟨_,rfl,_,x,C d,p,_,_,rfl,s4 _ _ hx,s4 _ _ hp,xo.x,xo.a,rfl,by show 2<=sizeLine;decide,fun t ht=>?_⟩
  exact q t _ (s4.put ht) ak
theorem Dm(T:Tx K mg C)(F:Fun K "_law_told" "_law_told" o8 f fd):aO P w K mg base CX0 10 f fd BW (Dh K):=by
 obtain⟨fao,dao,Aao⟩:=T.aao
 have Gao:aO P w K mg base (CX1 P w) 9 fao dao jo (v7 K C):=tH T Aao.F
 obtain⟨fbi,dbi,Abi⟩:=T.abi
 have Gbi:uh P w K mg base 2 fbi dbi zB (Ek C):=Dz T Abi.F
 refine F.oq KD fun _ _ _ _ H _ Q E hr h=>?_
 ·obtain⟨z,ls,o,rfl,hz,els,ok,sc,q⟩:=h
  have hr2:bw 2 _:=hr.mono Za
  have hr9:bw 9 _:=hr
  refine⟨_,QSs.h (au (KN (i:=1) T.x_HouseError T.c_HouseError KD.nd rfl rfl rfl rfl (fun pins E W hw=>(az (fM (gU Aao Gao hr9 hw (aj (pv 0) ao))))) aL (fun x pins=>(az (aF (Le Abi Gbi hr2 (aj (pv 1) ao))))))
   (az (aF (bT (aj aA (aj aq ao)))))),?_⟩
  refine⟨_,rfl,z,ls,o,rfl,hz,els,ok,sc,?_⟩
  cases o with
  | text i =>
   intro x p H' s' hx0 ex ep
   exact⟨x,C 22,some p,rfl,ex,T.xf.s22,_,rfl,x,p,22,i,rfl,.inl rfl,ex,ep,fun q' H2 s2 hq=>q q' H2 (s'.trans s2) hq⟩
  | many i =>
   intro x p H' s' hx0 ex ep
   exact⟨x,C 31,some p,rfl,ex,T.xm.s,_,rfl,x,p,31,i,rfl,.inr (.inl rfl),ex,ep,fun q' H2 s2 hq=>q q' H2 (s'.trans s2) hq⟩
  | twice i =>
   intro x p H' s' hx0 ex ep
   exact⟨x,C 33,some p,rfl,ex,T.xw.s,_,rfl,x,p,33,i,rfl,.inr (.inr rfl),ex,ep,fun q' H2 s2 hq=>q q' H2 (s'.trans s2) hq⟩
  | part rs =>
   intro p l H' s' _ _
   exact⟨by show 2<=sizeLine;decide,fun t ht=>q t _ (s'.put ht) ak⟩
theorem DP(T:Tx K mg C)(F:Fun K "_law_line" "_law_line" oX f fd):aO P w K mg base CX0 7 f fd Bm (Dq K):=by
 obtain⟨faj,daj,Aaj⟩:=T.aaj
 have Gaj:aO P w K mg base CX0 1 faj daj wW (Ai K):=G7 Aaj.F T.len
 obtain⟨fan,dan,Aan⟩:=T.aan
 have Gan:aO P w K mg base CX0 3 fan dan xH zZ:=u5 T Aan.F
 obtain⟨faa,daa,Aaa⟩:=T.aaa
 have Gaa:aO P w K mg base CX0 1 faa daa gm jz:=gZ Aaa.F
 obtain⟨fbg,dbg,Abg⟩:=T.abg
 have Gbg:aO P w K mg base CX0 6 fbg dbg Hu Qx:=Gf T Abg.F
 obtain⟨fap,dap,Aap⟩:=T.aap
 have Gap:aO P w K mg base CX0 2 fap dap qt wX:=qX T Aap.F
 obtain⟨fa8,da8,Aa8⟩:=T.aa8
 have Ga8:aO P w K mg base CX0 2 fa8 da8 tX Dg:=ym T Aa8.F
 refine F.oq uR fun _ _ _ _ H _ Q E hr h=>?_
 ·obtain⟨a,ns,k,nl,zs,rfl,ha,hn,h13,hnm,q⟩:=h
  have hr1:bw 1 _:=hr.mono Za
  have hr2:bw 2 _:=hr.mono Za
  have hr3:bw 3 _:=hr.mono Za
  have hr6:bw 6 _:=hr
  refine⟨_,QSs.h (au (aY (i:=3) uR.nd rfl (Or.inl rfl) (aV Aaj Gaj hr1 (aj (pv 0) (aj (aH b7 aq (pv 1)) ao))))
   (au (aY (i:=4) uR.nd rfl (Or.inl rfl) (aU aN (pv 2) (aH d8 (pv 1) aq)))
   (au (bc (aD bB (aV Aaa Gaa hr1 (aj (pv 3) (aj aq (aj aq ao)))) aq (aG _)) (az (aY (i:=4) uR.nd rfl (Or.inl rfl) (aU aN (pv 2) (aV Aaa Gaa hr1 (aj (pv 3) (aj aq (aj aq ao))))))) aL)
   (au (aY (i:=5) uR.nd rfl (Or.inl rfl) (aV Aan Gan hr3 (aj (aV Abg Gbg hr6 (aj (pv 3) (aj (pv 4) ao))) ao)))
   (au (aY (i:=6) uR.nd rfl (Or.inl rfl) (aV Aaa Gaa hr1 (aj (pv 3) (aj aq (aj aq ao)))))
   (au (bc (aD bB (pv 6) aq (aG _)) (az (aF (aV Aap Gap hr2 (aj (pv 5) (aj (pv 3) ao))))) aL)
   (au (bc (aD bB (pv 6) aq (aG _)) (az (aF (cM plainAttrs_str slot_str_join type_str_join gO aA (aj (aV Aa8 Ga8 hr2 (aj (cM plainAttrs_str slot_str_split type_str_split dj (pv 5) (aj aA ao)) (aj (pv 3) ao))) ao)))) aL)
   (az (aF (pv 5)))))))))),?_⟩
  refine⟨_,rfl,_,rfl,_,_,rfl,rfl,a,ns,2+(k:Int),rfl,ha,Zb,fun H1 s1=>?_⟩
  generalize DX ns (2+(k:Int))=c
  have hk:(k:Int)%13=((k%13:Nat):Int):=by omega
  have hk2:k%13<zs.length:=by omega
  refine⟨_,rfl,_,rfl,_,_,rfl,rfl,(by show(0:Int)<13;decide),nl,_,_,V.str (wAt zs (k%13)),rfl,rfl,SqL.of (s1 _ _ hn),by rw[hk];exact aZ hk2,?_⟩
  apply Kq (P:=fun(z:Str) (H':Hp)=>aB H H'/\cX z)
  ·intro rest
   refine⟨_,rfl,c,12,8,rfl,Za,Za,Za,fun H2 s2=>?_⟩
   by_cases h0:pick c 12 8=0
   ·refine⟨rfl,_,rfl,bh (by rw[h0];decide) ?_⟩
    have p1:=cH c 13 (m:=13) Za
    have p2:=cI c 13 (m:=13) Za
    obtain⟨j,ej⟩:=Int.eq_ofNat_of_zero_le p1
    have hj:j<zs.length:=by omega
    refine⟨_,rfl,_,rfl,c,13,13,rfl,Za,Za,Za,fun H3 s3=>⟨nl,_,_,V.str (wAt zs j),rfl,rfl,SqL.of ((s1.trans (s2.trans s3)) _ _ hn),by rw[ej];exact aZ hj,?_⟩⟩
    have hz:=hnm _ (cG hj)
    generalize wAt zs j=z at hz ⊢
    exact rest z H3 ⟨s1.trans (s2.trans s3),hz⟩
   ·refine⟨rfl,_,rfl,aP (decide_eq_false fun z=>h0 (V.int.inj z)) ?_⟩
    exact rest _ H2 ⟨s1.trans s2,hnm _ (cG hk2)⟩
  ·rintro z H2 ⟨s2,hz⟩
   refine⟨_,rfl,_,rfl,c,z,rfl,hz,fun v lt H3 r g s3 hlt rt=>?_⟩
   have rg:=rt.tg
   refine⟨v,lt,r,rfl,rg,g,fun H4 s4=>?_⟩
   have hl:=Jq g
   generalize bO r=y at hl ⊢
   have s04:=s2.trans (s3.trans s4)
   refine⟨_,rfl,c,14,12,rfl,Za,Za,Za,fun H5 s5=>?_⟩
   by_cases w0:pick c 14 12=0
   ·refine⟨_,rfl,rfl,_,rfl,bh (by rw[w0];decide) ?_⟩
    exact⟨_,rfl,_,rfl,y,c,rfl,Zb,fun y2 H6 hl2 s6=>q y2 H6 Zb (s04.trans (s5.trans s6))⟩
   refine⟨_,rfl,rfl,_,rfl,aP (decide_eq_false fun z=>w0 (V.int.inj z)) ?_⟩
   by_cases w1:pick c 14 12=1
   ·refine⟨_,rfl,rfl,_,rfl,bh (by rw[w1];decide) ?_⟩
    refine⟨rfl,_,rfl,rfl,_,_,rfl,rfl,iG,le_trans (show y.length+2<=6002 by omega) Za,fun p hp=>⟨_,rfl,p,_,c,rfl,ak,(by rw[blank_eq];exact dR _ _),by rw[Jl];omega,fun p2 ys H8 s8 hy ht=>?_⟩⟩
    have jl:(Txt.join (" " : Str) ys).length<=5800:=le_trans Np ht
    have ty:=Hj ys
    exact⟨_,p2,ys,rfl,rfl,.inl (SqL.of hy),by unfold tot at ht;rw[wy];omega,q _ _ Zb (s04.trans (s5.trans ((aB.new hp).trans s8)))⟩
   refine⟨_,rfl,rfl,_,rfl,aP (decide_eq_false fun z=>w1 (V.int.inj z)) ?_⟩
   exact⟨_,rfl,q y H5 Zb (s04.trans s5)⟩
theorem Fi(T:Tx K mg C)(F:Fun K "_law_due" "_law_due" qM f fd):aO P w K mg base CX0 6 f fd Hf GP:=by
 obtain⟨fbf,dbf,Abf⟩:=T.abf
 have Gbf:aO P w K mg base CX0 5 fbf dbf qw Hr:=vB T Abf.F
 obtain⟨fak,dak,Aak⟩:=T.aak
 have Gak:aO P w K mg base CX0 2 fak dak jq rY:=lC T Aak.F
 refine F.oq Ds fun _ _ _ _ H _ Q E hr h=>?_
 ·obtain⟨l,ls,rfl,hl,ok,q⟩:=h
  have hr2:bw 2 _:=hr.mono Za
  have hr5:bw 5 _:=hr
  refine⟨_,QSs.h (au (aY (i:=1) Ds.nd rfl (Or.inl rfl) (cM plainAttrs_str slot_str_split type_str_split dj (aU aN (pv 0) aq) (aj aA ao)))
   (au (bc (PW.pt (cU (aD dM (aJ aW Zd T.len boot_len (aj (pv 1) ao)) aq (aG _)) (cU (aD dM (aU aN (pv 1) aq) aA (aG _)) (dI (cV (bQ (aV Aak Gak hr2 (aj (aU aN (pv 1) aq) ao)))))))) (az (aF (bT (aj (bT (aj aA (aj aq ao))) (aj (bI ao) ao))))) aL)
   (au (aY (i:=2) Ds.nd rfl (Or.inl rfl) (bI ao))
   (au (lB PassesOwn.never rfl (JV Zd T.range (aj aq (aj (aJ aW Zd T.len boot_len (aj (pv 0) ao)) ao))) (aX (i:=3) Ds.nd rfl (Or.inl rfl))
   (au (aY (i:=4) Ds.nd rfl (Or.inl rfl) (aV Abf Gbf hr5 (aj (aU aN (pv 0) (pv 3)) ao)))
   (au (bc (aD Bx (pv 4) fG (aG _)) (az (aF (bT (aj (bT (aj aA (aj (pv 3) ao))) (aj (bI ao) ao))))) aL)
   (au (bc (aD ju (pv 3) aq (aG _)) (az (aF (bT (aj (bT (aj aA (aj (pv 3) ao))) (aj (bI ao) ao))))) aL)
   (au (bc (PW.pt (cC (aD dM (aU gj (pv 4) aq) aA (aG _)) (cz (aD iQ (aU gj (pv 4) aq) (cJ (N:=["_law_one"]) [none] rfl Zf (dH (pv 2)) (fun cl C fp s H=>(aX (i:=0) (by decide +kernel:(["_law_one"]:List Str).Nodup) rfl (Or.inl rfl))) (fun cl C fp s H=>cY) (fun cl C fp s H=>(aU (tY (K:=K) rfl) (pv 0) aq))) Zd)))) (az (aF (bT (aj (bT (aj aA (aj (pv 3) ao))) (aj (bI ao) ao))))) aL)
   (az (fM (cM plainAttrs_list PySem.F.slot_list_append PySem.F.type_list_append gq (pv 2) (aj (pv 4) ao)))))))))
   (az (aF (bT (aj (bT (aj aA (aj aq ao))) (aj (pv 2) ao))))))))),?_⟩
  have h1:0<ls.length:=length_pos_iff.mpr ok.ne
  have h6:=ok.le _ (cG h1)
  have q0:hdB (uz ls)=false->∀ (p2 p b:Addr) H',aB H H'->H' p=some (.tup [.ref p2,.ref b])->H' p2=some (.tup [.str "text",.int 0])->Q (.ref p) H':=fun hb p2 p b H' s hp hp2=>q (.text 0) p p2 b H' s (.inl ⟨hb,rfl⟩) hp hp2 (fun _ e=>by cases e)
  have q1:hdB (uz ls)=true->∀ o,Scan (ls.drop 1) 1 [] o->∀ (p q' b:Addr) H',aB H H'->H' p=some (.tup [.ref q',.ref b])->H' q'=some (.tup [.str (ocW o),.int (ocI o)])->(∀ rs,o=.part rs->lq H' b rs)->Q (.ref p) H':=fun hb o sc p q' b H' s hp hq hr=>q o p q' b H' s (.inr ⟨hb,sc⟩) hp hq hr
  clear q
  unfold uz at q0 q1
  refine⟨_,rfl,l,_,_,V.str (wAt ls 0),rfl,rfl,SqL.of hl,aZ h1,rfl,_,_,rfl,rfl,iG,le_trans (show(wAt ls 0).length+2<=6002 by omega) Za,fun hd hhd=>?_⟩
  have s0:=aB.new hhd (o:=.lst ((Txt.split (wAt ls 0) (" " : Str)).map V.str))
  have hh:upd H hd (.lst ((Txt.split (wAt ls 0) (" " : Str)).map V.str)) hd=some (.lst ((Txt.split (wAt ls 0) (" " : Str)).map V.str)):=ak
  generalize upd H hd (.lst ((Txt.split (wAt ls 0) (" " : Str)).map V.str))=H0 at s0 hh
  have hw:=Wd.of h6
  generalize Txt.split (wAt ls 0) (" " : Str)=ws at hw q0 q1 hh
  unfold hdB at q0 q1
  refine⟨_,rfl,hd,_,rfl,.inl (SqL.of hh),rfl,_,rfl,?_⟩
  by_cases h2:ws.length=2
  case neg =>
   rw[decide_eq_false h2,Bool.false_and]at q0
   exact bh (by rw[length_map];rw[show decide (V.int (ws.length:Int)=V.int 2)=decide (ws.length=2)from jN (m:=2),decide_eq_false h2];rfl) ⟨by show 2<=sizeLine;decide,fun t ht=>⟨by show 0<=sizeLine;decide,fun b hb=>⟨by show 2<=sizeLine;decide,fun p hp=>Ju s0 (fun p t b H' s a c=>q0 rfl t p b H' s a c) ht hb hp⟩⟩⟩
  refine aP (by rw[length_map,h2];decide) ?_
  rw[decide_eq_true h2,Bool.true_and]at q0 q1
  refine⟨_,rfl,hd,_,_,_,rfl,rfl,SqL.of hh,aZ (i:=0) Zb,rfl,_,rfl,?_⟩
  by_cases e0:wAt ws 0 = "part"
  case neg =>
   rw[decide_eq_false e0,Bool.false_and]at q0
   exact bh (by rw[decide_eq_false fun k=>e0 (V.str.inj k)];rfl) ⟨by show 2<=sizeLine;decide,fun t ht=>⟨by show 0<=sizeLine;decide,fun b hb=>⟨by show 2<=sizeLine;decide,fun p hp=>Ju s0 (fun p t b H' s a c=>q0 rfl t p b H' s a c) ht hb hp⟩⟩⟩
  refine aP (by rw[decide_eq_true (congrArg V.str e0)];rfl) ?_
  rw[decide_eq_true e0,Bool.true_and]at q0 q1
  refine⟨_,rfl,hd,_,_,_,rfl,rfl,SqL.of hh,aZ (i:=1) Zb,wAt ws 1,rfl,hw.len (cG Zb),fun H1 s1=>⟨_,rfl,?_⟩⟩
  have s01:=s0.trans s1
  cases e1:cW 3 (wAt ws 1)with
  | false=>exact iC rfl ⟨by show 2<=sizeLine;decide,fun t ht=>⟨by show 0<=sizeLine;decide,fun b hb=>⟨by show 2<=sizeLine;decide,fun p hp=>Ju s01 (fun p t b H' s a c=>q0 e1 t p b H' s a c) ht hb hp⟩⟩⟩
  | true =>
  have q1:=q1 e1
  clear q0
  refine jA rfl ?_
  refine⟨by show 0<=sizeLine;decide,fun b hb=>?_⟩
  have hb0:=s01.free hb
  have s2:=s01.put hb (o:=.lst [])
  have hb2:upd H1 b (.lst []) b=some (.lst []):=ak
  generalize upd H1 b (.lst [])=H2 at s2 hb2
  have hl2:=s2 _ _ hl
  have hlb:l≠b:=aK hl hb0
  refine⟨_,rfl,l,_,rfl,.inl (SqL.of hl2),?_⟩
  have ok1:=ok.hi
  have hln:((ls.map V.str).length:Int)<=2000000:=by rw[length_map];omega
  have hln1:(1:Int)<=((ls.map V.str).length:Int):=by rw[length_map];omega
  have en:(((ls.map V.str).length:Int) - 1).toNat=ls.length - 1:=by rw[length_map];omega
  generalize hm:((ls.map V.str).length:Int)=m at hln hln1 en
  refine⟨_,_,rfl,⟨Za,Za,?_,?_⟩,?_⟩
  ·exact Int.le_trans Za hln1
  ·exact Int.le_trans (show m+1<=2000001 by omega) Za
  rw[en]
  refine qQ (fun i σ H3=>∃ v3 v4,∃ rs:List bC,σ=[some (.ref l),some (.ref hd),some (.ref b),v3,v4]/\SameBut b H2 H3/\rs.length=i/\i<=12/\(∀ r∈rs,GoodR r)/\(∀ o,Scan (ls.drop (i+1)) (i+1) rs o->Scan (ls.drop 1) 1 [] o)/\lq H3 b rs)
   ⟨none,none,[],rfl,fun _ _ e _=>e,rfl,Za,(fun r hr=>by cases hr),fun o s=>s,[],hb2,rfl,fun i r e=>by cases e⟩ ?_ ?_
  ·rintro i σ H3 hi ⟨v3,v4,rs,rfl,sb,hrl,i12,hgr,sc,rg⟩
   have hi1:i+1<ls.length:=by omega
   have ei:(1:Int)+(i:Int)=((i+1:Nat):Int):=by omega
   have ed:ls.drop (i+1)=wAt ls (i+1)::ls.drop (i+1+1):=by
    rw[List.drop_eq_getElem_cons hi1];unfold wAt;rw[getElem?_eq_getElem hi1];rfl
   have h6:=ok.le _ (cG hi1)
   have hat:=aZ hi1
   generalize wAt ls (i+1)=y at ed h6 hat
   rw[ed]at sc
   rw[ei]
   have s3:aB H H3:=fun c o e=>sb c o (s2 c o e) (aK e hb0)
   have hl3:=sb _ _ hl2 hlb
   refine⟨_,rfl,_,rfl,l,_,_,V.str y,rfl,rfl,SqL.of hl3,hat,y,rfl,h6,fun r g er v H4 s4 rt=>?_,fun nr H4 s4=>?_⟩
   case _ =>
    obtain⟨lt,tg⟩:=rt.tg g
    obtain⟨p,aa,ww,rfl,hp,_⟩:=id tg
    have s34:=s3.trans s4
    refine⟨_,rfl,rfl,_,rfl,aP (decide_eq_false Zh) ?_⟩
    by_cases h12:12<i+1
    ·refine⟨_,rfl,_,_,rfl,rfl,_,rfl,bh (decide_eq_true Zb) ?_⟩
     exact⟨_,rfl,by show 2<=sizeLine;decide,fun t ht=>⟨by show 0<=sizeLine;decide,fun b hb=>⟨by show 2<=sizeLine;decide,fun p hp=>Ju s34 (fun p t b H' s a c=>q1 (.many (i+1)) (sc _ (.many ⟨r,g,er⟩ h12)) p t b H' s a c (fun _ e=>by cases e)) ht hb hp⟩⟩⟩
    refine⟨_,rfl,_,_,rfl,rfl,_,rfl,aP (decide_eq_false Zb) ?_⟩
    apply SQ (P:=fun(H':Hp)=>aB H4 H'/\(r.nm = "" \/ r.nm∉rs.map (·.nm)))
    ·intro rest
     refine⟨_,rfl,p,_,_,_,rfl,rfl,SqT.of hp,bL (j:=1) rfl,rfl,_,rfl,?_⟩
     by_cases hn:r.nm = ""
     case neg =>
      refine bh (by rw[decide_eq_false fun z=>hn (V.str.inj z)];rfl) ?_
      obtain⟨xs,hb3,hxl,hxt⟩:=id rg
      have hb4:=s4 _ _ hb3
      refine⟨_,rfl,p,_,_,_,rfl,rfl,SqT.of hp,bL (j:=1) rfl,_,rfl,b,rfl,⟨_,SqL.of hb4⟩,iH (fun i=>V.str (wAt (rs.map (·.nm)) i)) (le_trans (show xs.length<=12 by omega) Za) (SqL.of hb4) (fun i x H' Q' hx sm k=>?_) (fun H5 s5 lc hlc=>?_)⟩
      ·obtain⟨p2,zs,hi,rfl,hp2⟩:=Ke hxt hxl hx (s4.trans sm)
       have k2:=k H' (aB.refl _)
       rw[show wAt (rs.map (·.nm)) i=rs[i].nm by unfold wAt;rw[getElem?_map,getElem?_eq_getElem hi];rfl]at k2
       exact⟨_,rfl,p2,_,_,_,rfl,rfl,SqT.of hp2,bL (j:=1) rfl,k2⟩
      have el:(List.range xs.length).map (fun i=>V.str (wAt (rs.map (·.nm)) i))=(rs.map (·.nm)).map V.str:=by rw[<- Jj,length_map,hxl]
      rw[el]
      have s6:aB H4 (upd H5 lc (.lst ((rs.map (·.nm)).map V.str))):=s5.put hlc
      have hc6:upd H5 lc (.lst ((rs.map (·.nm)).map V.str)) lc=some (.lst ((rs.map (·.nm)).map V.str)):=ak
      generalize upd H5 lc (.lst ((rs.map (·.nm)).map V.str))=H6 at s6 hc6
      have hfl:((rs.map (·.nm)).map V.str).all lX=true:=by rw[all_eq_true];intro v hv;obtain⟨z,_,rfl⟩:=mem_map.mp hv;rfl
      refine⟨lc,_,rfl,.inl (SqL.of hc6),rfl,hfl,_,rfl,?_⟩
      by_cases hin:inV (V.str r.nm) ((rs.map (·.nm)).map V.str)=true
      case neg=>exact aP (by simpa using hin) (rest H6 ⟨s6,.inr fun z=>hin (Kh (mem_map.mpr ⟨_,z,rfl⟩))⟩)
      refine bh hin ?_
      have hm:r.nm∈rs.map (·.nm):=by
       obtain⟨z,hz,e⟩:=mem_map.mp (KH hin)
       rw[<- V.str.inj e];exact hz
      exact⟨_,rfl,by show 2<=sizeLine;decide,fun t ht=>⟨by show 0<=sizeLine;decide,fun b hb=>⟨by show 2<=sizeLine;decide,fun p hp=>Ju (s34.trans s6) (fun p t b H' s a c=>q1 (.twice (i+1)) (sc _ (.twice g er Zb hn hm)) p t b H' s a c (fun _ e=>by cases e)) ht hb hp⟩⟩⟩
     refine aP (by rw[hn];decide) ?_
     exact bH (rest H4 ⟨aB.refl _,.inl hn⟩)
    ·rintro H5 ⟨s5,hm⟩
     have rg5:=rg
     obtain⟨xs,hb3,hxl,_⟩:=id rg
     have s35:=s4.trans s5
     have hb5:=s35 _ _ hb3
     refine⟨_,rfl,.inl ⟨rfl,_,SqL.of hb5⟩,_,rfl,b,xs,.ref p,rfl,rfl,hb5,by rw[hxl,hrl];exact Nat.lt_of_le_of_lt i12 Za,?_⟩
     refine⟨_,_,rs++[r],rfl,fun c o e hc=>by rw[aQ hc];exact s35 _ _ (sb c o e hc),by rw[length_append,hrl];rfl,Zb,fun x hx=>?_,fun o so=>sc o (.next g er Zb hm so),(rg.same s35).snoc hb5 hgr g (tg.same s5)⟩
     rcases mem_append.mp hx with k|k
     ·exact hgr x k
     ·rw[mem_singleton.mp k];exact g
   case _ =>
    refine⟨_,rfl,rfl,_,rfl,bh (decide_eq_true rfl) ?_⟩
    exact⟨_,rfl,by show 2<=sizeLine;decide,fun t ht=>⟨by show 0<=sizeLine;decide,fun b hb=>⟨by show 2<=sizeLine;decide,fun p hp=>Ju (s3.trans s4) (fun p t b H' s a c=>q1 (.text (i+1)) (sc _ (.text nr)) p t b H' s a c (fun _ e=>by cases e)) ht hb hp⟩⟩⟩
  ·rintro σ H3 ⟨v3,v4,rs,rfl,sb,hrl,i12,hgr,sc,rg⟩
   have s3:aB H H3:=fun c o e=>sb c o (s2 c o e) (aK e hb0)
   have e0:ls.drop (ls.length - 1+1)=[]:=List.drop_eq_nil_of_le Zb
   rw[e0]at sc
   refine⟨by show 2<=sizeLine;decide,fun t ht=>⟨_,rfl,by show 2<=sizeLine;decide,fun p hp=>?_⟩⟩
   have s5:=(aB.new ht (o:=.tup [.str "part",.int 0])).put hp (o:=.tup [.ref t,.ref b])
   exact q1 (.part rs) (sc _ .nil) p t b _ (s3.trans s5) ak ((aB.new hp) _ _ ak) (fun rs' e=>by cases e;exact rg.same s5)
theorem BR(T:Tx K mg C)(F:Fun K "_law_holds" "_law_holds" mR f fd):aO P w K mg base CX0 6 f fd vN (yU C):=by
 obtain⟨fa9,da9,Aa9⟩:=T.aa9
 have Ga9:aO P w K mg base CX0 5 fa9 da9 N6 (Hc C):=Iu T Aa9.F
 obtain⟨fav,dav,Aav,M_bound⟩:=T.m_Part_bound
 have Gav:aO P w K mg base CX0 4 fav dav fV (BX C):=pM T Aav.F
 obtain⟨fb1,db1,Ab1,M_place_of⟩:=T.m_Part_place_of
 have Gb1:aO P w K mg base CX0 4 fb1 db1 fY (Im C):=sE T Ab1.F
 obtain⟨fb3,db3,Ab3,M_text⟩:=T.m_Part_text
 have Gb3:aO P w K mg base CX0 4 fb3 db3 jM (Ij C):=wj T Ab3.F
 refine F.oq G8 fun _ _ _ _ H _ Q E hr h=>?_
 ·obtain⟨p,ad,l,b,rs,rfl,hp,ht,hg,had,hap,q⟩:=h
  have hr4:bw 4 _:=hr.mono Za
  have hr5:bw 5 _:=hr
  refine⟨_,QSs.h (au (bc (PW.pt (cU (cV (bQ (aJ fB Zd T.inst boot_isinstance (aj (pv 0) (aj (DW T.c_Part) ao))))) (cU (aD dM (bU (pv 0) rfl) (pv 1) (aG _)) (cU (aD dM (aJ aW Zd T.len boot_len (aj (bU (pv 0) rfl) ao)) (aJ aW Zd T.len boot_len (aj (pv 2) ao)) (aG _)) (dI (aD dM (wZ (pv 0) T.pt.cl.cl M_text Gb3 hr4 Ab3.b .nil vf) (pv 3) (aG _))))))) (az (aF gB)) aL)
   (au (lB PassesOwn.never rfl (dY Zd T.range (aj (aJ aW Zd T.len boot_len (aj (pv 2) ao)) ao)) (aX (i:=4) G8.nd rfl (Or.inl rfl))
   (au (bc (cV (bQ (aV Aa9 Ga9 hr5 (aj (aU aN (bU (pv 0) rfl) (pv 4)) (aj (aU aN (pv 2) (pv 4)) ao))))) (az (aF gB)) aL)
   (az (bc (PW.pt (cC (aD dM (aU gj (aU aN (pv 2) (pv 4)) aq) aA (aG _)) (cz (aD dM (Ov (pv 0) T.pt.cl.cl M_place_of Gb1 hr4 Ab1.b .nil vf (aj (aU gj (aU aN (pv 2) (pv 4)) aq) ao)) (pv 4) (aG _))))) (az (aF gB)) aL))))
   (az (aF (bY (zH (K:=K) rfl hr.units) (wZ (pv 0) T.pt.cl.cl M_bound Gav hr4 Aav.b .nil vf) (cJ (N:=["_law_row_here"]) [none] rfl Zf (dH (pv 2)) (fun cl C fp s H=>(aX (i:=0) (by decide +kernel:(["_law_row_here"]:List Str).Nodup) rfl (Or.inl rfl))) (fun cl C fp s H=>(Fz (aD dM (aU (tY (K:=K) rfl) (pv 0) aq) aA (aG _)))) (fun cl C fp s H=>(aU (tY (K:=K) rfl) (pv 0) aq))) (aG _)))))),?_⟩
  obtain⟨dx,fs,ea,a1,a2,a3,a4,a5,hr0⟩:=id hp
  obtain⟨xs,hl,hxl,hxt⟩:=id hr0
  obtain⟨ts,htl,htn,htt⟩:=id ht
  have h12:rs.length<=12:=hg.hi
  refine⟨_,rfl,_,_,_,_,rfl,T.pt.cl.ty ea,T.pt.kit,_,rfl,bH ⟨_,rfl,rdF ea T.pt.cl.cl T.pt.na a1 ⟨_,rfl,rfl,_,rfl,qY rfl ?_⟩⟩⟩
  refine⟨_,rfl,rdF ea T.pt.cl.cl T.pt.nr a2 ⟨l,_,rfl,.inl (SqL.of hl),_,rfl,b,_,rfl,.inl (SqL.of htl),rfl,_,rfl,qY (by rw[hxl,htn]) ?_⟩⟩
  refine⟨_,rfl,p,dx,fs,rfl,ea,a5,p,ad,l,rs,rfl,hp,hg,had,fun H1 s1=>⟨_,rfl,rfl,_,rfl,qY rfl ?_⟩⟩
  refine⟨_,rfl,b,_,rfl,.inl (SqL.of (s1 _ _ htl)),_,rfl,Zb,Zb,?_⟩
  refine qQ (fun i σ H2=>∃ v4,σ=[some (.ref p),some (.str ad),some (.ref b),some (.str (nG ad rs)),v4]/\aB H H2) ⟨none,rfl,s1⟩ ?_ ?_
  ·rintro i σ H2 hi ⟨v4,rfl,s2⟩
   have hi:i<rs.length:=by rw[<- htn];omega
   have er:rs[i]? = some rs[i]:=getElem?_eq_getElem hi
   obtain⟨a,t,ex,ra⟩:=hxt i _ er
   obtain⟨tv,tt,et,rt⟩:=htt i _ er
   obtain⟨tp,aa,ww,rfl,htp,_⟩:=id rt
   have gr:=hg.at er
   have ax:atI xs (0+(i:Int))=some (.ref a):=by rw[zero_add];exact bL ex
   have at_:atI ts (0+(i:Int))=some (.ref tp):=by rw[zero_add];exact bL et
   refine⟨_,rfl,rdF (s2 _ _ ea) T.pt.cl.cl T.pt.nr a2 ⟨_,rfl,l,_,_,_,rfl,rfl,SqL.of (s2 _ _ hl),ax,_,rfl,_,rfl,b,_,_,_,rfl,rfl,SqL.of (s2 _ _ htl),at_,a,t,.ref tp,tt,rs[i],rfl,ra.same s2,rt.same s2,gr,fun H3 s3=>⟨_,rfl,bH ?_⟩⟩⟩
   have s23:=s2.trans s3
   by_cases hn:rs[i].nm = ""
   ·refine⟨_,rfl,_,rfl,b,_,_,_,rfl,rfl,SqL.of (s23 _ _ htl),at_,tp,_,_,V.str rs[i].nm,rfl,rfl,SqT.of (s23 _ _ htp),rfl,rfl,_,rfl,jA (decide_eq_true (congrArg V.str hn)) (bH ?_)⟩
    exact⟨_,rfl,s23⟩
   ·have hpv:sS rs rs[i].nm=.int (i:Nat):=Dy er rfl hn fun j r hj e z=>absurd (hap j i r _ e er z (by rw[z];exact hn)) (ne_of_lt hj)
    refine⟨_,rfl,_,rfl,b,_,_,_,rfl,rfl,SqL.of (s23 _ _ htl),at_,tp,_,_,V.str rs[i].nm,rfl,rfl,SqT.of (s23 _ _ htp),rfl,rfl,_,rfl,iC (decide_eq_false fun z=>hn (V.str.inj z)) ?_⟩
    refine⟨_,rfl,p,dx,fs,rfl,s23 _ _ ea,a4,_,rfl,_,rfl,b,_,_,_,rfl,rfl,SqL.of (s23 _ _ htl),at_,tp,_,_,V.str rs[i].nm,rfl,rfl,SqT.of (s23 _ _ htp),rfl,p,ad,l,rs,rs[i].nm,rfl,hp.same s23,hg,fun H4 s4=>?_⟩
    rw[hpv]
    exact⟨_,rfl,rfl,_,rfl,qY (by rw[zero_add]) ⟨_,rfl,s23.trans s4⟩⟩
  ·rintro σ H2 ⟨v4,rfl,s2⟩
   have hx12:ts.length<=sizeLine:=le_trans (show ts.length<=12 by omega) Za
   refine⟨_,rfl,p,dx,fs,rfl,s2 _ _ ea,a3,p,ad,l,rs,rfl,hp.same s2,hg,fun c H4 hc s4 hcl=>?_⟩
   have s24:=s2.trans s4
   refine⟨_,rfl,b,rfl,⟨_,SqL.of (s24 _ _ htl)⟩,Es (fun i=>isE ((rs.map fun r=>V.str r.nm).getD i .non)) (fun i=>(rs.map fun r=>V.str r.nm).getD i .non) hx12 (SqL.of (s24 _ _ htl)) (fun i x H' Q' hx sm k=>?_) (fun i x H' Q' hx sm k=>?_) (fun H' sm b2 hb2=>?_)⟩
   ·obtain⟨pp,zs,hi,rfl,hpp⟩:=Ke htt htn hx (s24.trans sm)
    have k2:Q' (isE ((rs.map fun r=>V.str r.nm).getD i .non)) H':=k H' (aB.refl _)
    rw[Qo hi]at k2
    exact⟨_,rfl,pp,_,_,V.str rs[i].nm,rfl,rfl,SqT.of hpp,bL (j:=1) rfl,rfl,_,rfl,k2⟩
   ·obtain⟨pp,zs,hi,rfl,hpp⟩:=Ke htt htn hx (s24.trans sm)
    have k2:Q' ((rs.map fun r=>V.str r.nm).getD i .non) H':=k H' (aB.refl _)
    rw[Qo hi]at k2
    exact⟨_,rfl,pp,_,_,V.str rs[i].nm,rfl,rfl,SqT.of hpp,bL (j:=1) rfl,k2⟩
   have em:=Gg (rs:=rs) htn
   rw[em]
   exact⟨c,b2,rfl,rfl,JF ((sm.put hb2) _ _ hcl) ak,q _ (s24.trans (sm.put hb2))⟩
theorem Rk (T:Tx K mg C) (F:Fun K "law" "law" Kz f fd):aO P w K mg base CX0 11 f fd Qn (HW K):=by
 obtain ⟨fbm,dbm,Abm⟩:=T.abm
 have Gbm:aO P w K mg base CX0 2 fbm dbm vU yJ:=Ay T Abm.F
 obtain ⟨faj,daj,Aaj⟩:=T.aaj
 have Gaj:aO P w K mg base CX0 1 faj daj wW (Ai K):=G7 Aaj.F T.len
 obtain ⟨fbk,dbk,Abk⟩:=T.abk
 have Gbk:aO P w K mg base CX0 6 fbk dbk Hf GP:=Fi T Abk.F
 obtain ⟨fau,dau,Aau⟩:=T.aau
 have Gau:aO P w K mg base CX0 4 fau dau nO Fg:=pX T Aau.F
 obtain ⟨faa,daa,Aaa⟩:=T.aaa
 have Gaa:aO P w K mg base CX0 1 faa daa gm jz:=gZ Aaa.F
 obtain ⟨fap,dap,Aap⟩:=T.aap
 have Gap:aO P w K mg base CX0 2 fap dap qt wX:=qX T Aap.F
 obtain ⟨fbv,dbv,Abv⟩:=T.abv
 have Gbv:aO P w K mg base CX0 7 fbv dbv Bm (Dq K):=DP T Abv.F
 obtain ⟨fay,day,Aay⟩:=T.aay
 have Gay:aO P w K mg base CX0 10 fay day BW (Dh K):=Dm T Aay.F
 obtain ⟨fbh,dbh,Abh⟩:=T.abh
 have Gbh:aO P w K mg base CX0 6 fbh dbh vN (yU C):=BR T Abh.F
 obtain ⟨fao,dao,Aao⟩:=T.aao
 have Gao:aO P w K mg base (CX1 P w) 9 fao dao jo (v7 K C):=tH T Aao.F
 refine F.oq p7 fun _ _ _ _ H _ Q E hr h=>?_
 ·obtain ⟨a,ns,rfl,ha,hlen,q⟩:=h
  have hr1:bw 1 _:=hr.mono Za
  have hr2:bw 2 _:=hr.mono Za
  have hr4:bw 4 _:=hr.mono Za
  have hr6:bw 6 _:=hr.mono Za
  have hr7:bw 7 _:=hr.mono Za
  have hr9:bw 9 _:=hr.mono Za
  have hr10:bw 10 _:=hr
  refine Qu ((au (aY (i:=1) p7.nd rfl (Or.inr rfl) (aV Abm Gbm hr2 (aj (aV Aaj Gaj hr1 (aj (pv 0) (aj aq ao))) (aj aq ao))))
   (au (aY (i:=2) p7.nd rfl (Or.inl rfl) (aV Aaj Gaj hr1 (aj (pv 0) (aj aq ao))))
   (au (aY (i:=3) p7.nd rfl (Or.inl rfl) (aH aR aA (aV Aau Gau hr4 (aj (pv 2) ao))))
   (au (bc (aD bB (aV Aaa Gaa hr1 (aj (pv 2) (aj aq (aj aq ao)))) aq (aG _)) (az (aY (i:=3) p7.nd rfl (Or.inl rfl) (aV Aap Gap hr2 (aj (pv 3) (aj (pv 2) ao))))) aL)
   (au (aY (i:=4) p7.nd rfl (Or.inl rfl) (aH eY (bI (aj (pv 3) ao)) (cJ (N:=["_law_k", "_law_script", "_law_names_here"]) [none,some 0,some 1] rfl Zf (dY Zd T.range (aj (aJ aW Zd T.len boot_len (aj (bF cj (pv 0) (bJ aq) (bJ aq)) ao)) ao)) (fun cl C fp s H=>(aX (i:=0) (by decide +kernel:(["_law_k", "_law_script", "_law_names_here"]:List Str).Nodup) rfl (Or.inl rfl))) (fun cl C fp s H=>cY) (fun cl C fp s H=>(aV Abv Gbv hr7 (aj (pv 1) (aj (pv 0) (aj (pv 2) ao))))))))
   (au (aY (i:=5) p7.nd rfl (Or.inl rfl) (aH aR (cM plainAttrs_str slot_str_join type_str_join gO aA (aj (pv 4) ao)) (aH nZ aA (bR fK Zd T.t_int boot_int (aj (bY bB (aV Aaa Gaa hr1 (aj (pv 2) (aj aq (aj aq ao)))) aq (aG _)) ao)))))
   (au (uL (aV Abk Gbk hr6 (aj (cM plainAttrs_str slot_str_split type_str_split dj (pv 5) (aj aA ao)) ao)) (jR (K:=K) (n:=2) rfl rfl (bK (aX (i:=6) p7.nd rfl (Or.inl rfl)) (bK (aX (i:=7) p7.nd rfl (Or.inl rfl)) jK))))
   (au (lB PassesOwn.never rfl (dY Zd T.range (aj aq ao)) (aX (i:=8) p7.nd rfl (Or.inl rfl))
   (au (bc (PW.pt (cU (aD (Bj (K:=K) rfl hr.units) (aV Aay Gay hr10 (aj (pv 5) ao)) (pv 6) (aG _)) (dI (aD (Bj (K:=K) rfl hr.units) (aV Aay Gay hr10 (aj aA ao)) (bT (aj aA (aj aq ao))) (aG _))))) (az (aF gB)) aL)
   (az (bc (aD bB (aU gj (pv 6) aq) aA (aG _)) (au (aY (i:=9) p7.nd rfl (Or.inl rfl) (aU aN (cM plainAttrs_str slot_str_split type_str_split dj (aU aN (cM plainAttrs_str slot_str_split type_str_split dj (aU aN (pv 4) aq) (aj aA ao)) aq) (aj aA ao)) aq))
   (az (bc (cV (bQ (aV Abh Gbh hr6 (aj (gU Aao Gao hr9 Pz (aj (pv 5) ao)) (aj (pv 9) (aj (pv 7) (aj (pv 5) ao))))))) (az (aF gB)) aL))) aL))))
   (az (aF gB))))))))))) ?_
  refine ⟨_,rfl,a,ns,1,rfl,ha,Za,fun H1 s1=>⟨_,rfl,fun nl H2 zs s2 h13 hnm hn=>?_⟩⟩
  refine ⟨_,rfl,a,ns,0,rfl,(s1.trans s2).seq ha,Za,fun H3 s3=>?_⟩
  generalize DX ns 0 = c
  refine ⟨_,rfl,c,rfl,fun ys ga H4 s4=>⟨_,_,rfl,rfl,?_⟩⟩
  have h41:(("part " : Str) ++ dotted ys).length <= 41:=by rw [bM,xQ]; have:=ga.len; omega
  refine ⟨by rw [<- bM]; exact le_trans h41 Za,?_⟩
  generalize ("part " : Str) ++ dotted ys = hd0 at h41 ⊢
  have s02:=s1.trans s2
  apply Kq (P:=fun (hd:Str) (H':Hp)=>aB H2 H' /\ hd.length <= 100)
  ·intro rest
   refine ⟨_,rfl,c,1,8,rfl,Za,Za,Za,fun H5 s5=>?_⟩
   by_cases h0:pick c 1 8 = 0
   ·refine ⟨rfl,_,rfl,bh (by rw [h0]; decide) ?_⟩
    exact ⟨_,rfl,_,rfl,hd0,c,rfl,Zb,fun y H6 hy s6=>rest y H6 ⟨s3.trans (s4.trans (s5.trans s6)),Zb⟩⟩
   ·refine ⟨rfl,_,rfl,aP (decide_eq_false fun z=>h0 (V.int.inj z)) ?_⟩
    exact rest hd0 H5 ⟨s3.trans (s4.trans s5),Zb⟩
  clear s3 s4 h41
  rintro hd H5 ⟨s5,hh⟩
  have s05:=s02.trans s5
  refine ⟨_,rfl,by show 1 <= sizeLine; decide,fun l0 hl0=>?_⟩
  have s6:=s05.put hl0 (o:=.lst [V.str hd])
  have hl6:upd H5 l0 (.lst [V.str hd]) l0 = some (.lst ([hd].map V.str)):=ak
  have hn6:=(s5.put hl0 (o:=.lst [V.str hd])) _ _ hn
  generalize upd H5 l0 (.lst [V.str hd]) = H6 at s6 hl6 hn6
  refine ⟨_,rfl,_,rfl,_,rfl,a,_,rfl,s6.seq ha,fun sl hsl=>?_⟩
  have s7:=s6.put hsl (o:=.lst (dO (ns.map V.int) (some 2) (some 18)))
  have cl:(dO (ns.map V.int) (some 2) (some 18)).length <= 63:=le_trans (Ik _ _ _) (by rw [length_map]; exact hlen)
  have hsl7:upd H6 sl (.lst (dO (ns.map V.int) (some 2) (some 18))) sl = some (.lst (dO (ns.map V.int) (some 2) (some 18))):=ak
  have hl7:=(aB.new hsl (o:=.lst (dO (ns.map V.int) (some 2) (some 18)))) _ _ hl6
  have hn7:=(aB.new hsl (o:=.lst (dO (ns.map V.int) (some 2) (some 18)))) _ _ hn6
  generalize dO (ns.map V.int) (some 2) (some 18) = cs at cl s7 hsl7 hl7 hn7 ⊢
  generalize upd H6 sl (.lst cs) = H7 at s7 hsl7 hl7 hn7 ⊢
  refine ⟨sl,_,rfl,.inl (SqL.of hsl7),_,rfl,Zb,Zb,gC (fun i v H'=>∃ y:Str,v = V.str y /\ y.length <= 5900) (fun i v H' H'' h _=>h) (le_trans (show _ <= 63 by omega) Za) (fun i H' Q' hi sm k'=>?_) (fun xs H8 s8 hl hx p hp=>?_)⟩
  ·exact ⟨_,rfl,_,rfl,_,rfl,a,ns,i,nl,zs,by rw [zero_add]; rfl,(s7.trans sm).seq ha,sm _ _ hn7,h13,hnm,fun y H'' hy sy=>k' _ H'' sy ⟨y,rfl,hy⟩⟩
  obtain ⟨ws,ewl,rfl,hws⟩:=vI hx
  have hw63:ws.length <= 63:=by rw [ewl,hl]; omega
  have s9:=(s7.trans s8).put hp (o:=.lst (ws.map V.str))
  have hl9:=(s8.put hp (o:=.lst (ws.map V.str))) _ _ hl7
  have hp9:upd H8 p (.lst (ws.map V.str)) p = some (.lst (ws.map V.str)):=ak
  generalize upd H8 p (.lst (ws.map V.str)) = H9 at s9 hl9 hp9 ⊢
  refine ⟨l0,p,_,_,rfl,rfl,hl9,hp9,le_trans (show ([hd].map V.str).length + (ws.map V.str).length <= 64 by rw [length_map,length_map]; show 1 + _ <= _; omega) Za,fun pl hpl=>?_⟩
  have s10:=s9.put hpl (o:=.lst ([hd].map V.str ++ ws.map V.str))
  have hl10:upd H9 pl (.lst ([hd].map V.str ++ ws.map V.str)) pl = some (.lst ((hd :: ws).map V.str)):=ak
  generalize upd H9 pl (.lst ([hd].map V.str ++ ws.map V.str)) = H10 at s10 hl10 ⊢
  have h59:∀ y ∈ hd :: ws,y.length <= 5900:=fun y hy=>by
   rcases mem_cons.mp hy with rfl | hy
   ·omega
   ·exact hws y hy
  have h64:(hd :: ws).length <= 64:=by rw [length_cons]; omega
  have hjb:((hd :: ws).map (·.length)).sum + (hd :: ws).length * (("\n" : Str)).length <= 16777216:=by
   have k1:=GX h59
   have k2:(hd :: ws).length * 5900 <= 64 * 5900:=Nat.mul_le_mul_right _ h64
   rw [Ky]; omega
  refine ⟨rfl,_,rfl,_,pl,hd :: ws,rfl,rfl,.inl (SqL.of hl10),hjb,?_⟩
  refine ⟨_,rfl,c,2,8,rfl,Za,Za,Za,fun H11 s11=>⟨rfl,?_⟩⟩
  generalize decide (V.int (pick c 2 8) = V.int 0) = k
  obtain ⟨L,eL,hL,neL,lnL,memL⟩:=O9 k (ys:=hd :: ws) Zc
  obtain ⟨hz,ok⟩:=Li neL Zb (fun y hy=>by
   rcases memL y hy with m | rfl
   ·exact h59 y m
   ·exact le_trans (show (("" : Str)).length <= 1 by decide +kernel) Za)
  refine .inr ⟨_,rfl,_,_,rfl,rfl,NP _,_,_,rfl,rfl,by rw [<- bM,eL]; exact le_trans hz Za,?_⟩
  rw [<- eL] at hz ok
  generalize Txt.join ("\n" : Str) (hd :: ws) ++ Txt.mul "\n" (if k = true then 1 else 0) = z at eL hz ok ⊢
  have hl11:=s11 _ _ hl10
  have s11:=s10.trans s11
  refine ⟨_,rfl,rfl,_,_,rfl,rfl,Ab,le_trans (show z.length + 2 <= 1000002 by omega) Za,fun lp hlp=>⟨lp,_,rfl,ak,ok,fun o p2 q2 b2 H12 s12 sc hp2 hq2 hr2=>?_⟩⟩
  have s12':=(aB.new hlp (o:=.lst ((Txt.split z ("\n" : Str)).map V.str))).trans s12
  refine ⟨p2,_,rfl,SqT.of hp2,rfl,_,_,rfl,_,_,rfl,rfl,?_⟩
  refine ⟨_,rfl,Za,Za,?_⟩
  refine qQ (fun i σ H'=>∃ v8 v9,σ = [some (.ref a),some (.ref nl),some (.int c),some (.str hd),some (.ref pl),some (.str z),some (.ref q2),some (.ref b2),v8,v9] /\ aB H12 H') ⟨none,none,rfl,aB.refl _⟩ ?_ ?_
  ·rintro i σ H13 _ ⟨v8,v9,rfl,s13⟩
   refine ⟨_,rfl,z,_,o,rfl,hz,rfl,ok,sc,fun t1 H14 s14 ht1=>⟨_,rfl,t1,q2,rfl,rfl,HN ht1 (s14 _ _ (s13 _ _ hq2)) rfl,_,rfl,bH ?_⟩⟩
   refine ⟨tx2,_,.text 2,rfl,Ot,rfl,RP,Rt,fun t2 H15 s15 ht2=>⟨by show 2 <= sizeLine; decide,fun t3 ht3=>⟨t2,t3,rfl,rfl,HN ((aB.new ht3) _ _ ht2) ak rfl,_,rfl,bH ?_⟩⟩⟩
   have s16:=((s13.trans (s14.trans s15)).put ht3 (o:=.tup [.str "text",.int 2]))
   generalize upd H15 t3 (.tup [.str "text",.int 2]) = H16 at s16 ⊢
   clear s14 s15 ht1 ht2 ht3
   refine ⟨_,rfl,q2,_,_,_,rfl,rfl,SqT.of (s16 _ _ hq2),bL (j:=0) rfl,rfl,_,rfl,?_⟩
   rcases TQ o with ⟨rs,rfl⟩ | e
   case inr=>exact aP e ⟨_,_,rfl,s16⟩
   refine bh (decide_eq_true rfl) ?_
   obtain ⟨hb,sc2⟩:hdB (uz (Txt.split z ("\n" : Str))) = true /\ Scan ((Txt.split z ("\n" : Str)).drop 1) 1 [] (.part rs):=by
    rcases sc with ⟨_,e⟩ | h
    ·cases e
    ·exact h
   obtain ⟨ys2,ga2,e1,e2,hap,hgr,et⟩:=Jx hb ok.ne sc2
   have ez:z = nG (dotted ys2) rs:=by rw [<- et,qy,tG,StrLaws.join_split]
   obtain ⟨w,ew,ead⟩:=Ud (hL.trans rfl) (by rw [<- eL]; exact e2) (Pq ga2) (Q3 ga2)
   have hw:w.length <= 5900:=le_trans (pU (mem_of_getElem? ew)) Zb
   have hl16:=s16 _ _ (s12' _ _ hl11)
   refine ⟨_,rfl,pl,_,_,V.str hd,rfl,rfl,SqL.of hl16,bL (j:=0) rfl,rfl,_,_,rfl,rfl,iG,le_trans (show hd.length + 2 <= 102 by omega) Za,fun u1 hu1=>⟨u1,_,_,V.str w,rfl,rfl,SqL.of ak,bL (j:=1) (by rw [getElem?_map,ew]; rfl),rfl,_,_,rfl,rfl,Ab,le_trans (show w.length + 2 <= 6000 by omega) Za,fun u2 hu2=>⟨u2,_,_,V.str (dotted ys2),rfl,rfl,SqL.of ak,bL (j:=0) (by rw [getElem?_map,ead]; rfl),?_⟩⟩⟩
   have s17:=(s16.put hu1 (o:=.lst ((Txt.split hd (" " : Str)).map V.str))).put hu2 (o:=.lst ((Txt.split w ("\n" : Str)).map V.str))
   generalize upd (upd H16 u1 (.lst ((Txt.split hd (" " : Str)).map V.str))) u2 (.lst ((Txt.split w ("\n" : Str)).map V.str)) = H17 at s17 ⊢
   refine ⟨_,rfl,z,_,.part rs,rfl,hz,rfl,ok,sc,fun pp l H18 s18 hpp pa=>?_⟩
   rw [e1] at pa
   exact ⟨_,rfl,_,rfl,_,rfl,pp,dotted ys2,l,b2,rs,by rw [<- ez]; rfl,pa,(hr2 rs rfl).same (s17.trans s18),hgr,ga2.len,hap,fun H19 s19=>⟨_,rfl,bH ⟨_,_,rfl,s17.trans (s18.trans s19)⟩⟩⟩
  ·rintro σ H13 _
   exact q _
end
def FI(K:Frag)(x:Str)(st:Stmt):Prop:=∃ f fd,nsIn K mainGlobals x=some (some (.ref f))/\Fun K x x st f fd
theorem fi {K:Frag} {x:Str} {st:Stmt} {f:Addr} {oc:Value} {od an:Option Addr} {osl:Array (Option Value)} {kV doc pm cdv ct:Value} (a:nsIn K mainGlobals x=some (some (.ref f))) (l:K.lookup f=some ⟨oc,od,.func (fnOf x x (eO st) (cT st) (aC st) .none kV doc pm an cdv ct),osl⟩) (c:codeIn K cdv x=true) (k:keepIn K (.ref f)=true):FI K x st:=⟨f,_,a,M7 l c k⟩
def MI(K:Frag)(g:Addr)(x q:Str)(st:Stmt):Prop:=(∃ fd,Fun K x q st g fd)/\isFn K (.ref g)=true/\keepIn K (.ref g)=true
theorem mi {K:Frag} {x q:Str} {st:Stmt} {f:Addr} {oc:Value} {od an:Option Addr} {osl:Array (Option Value)} {kV doc pm cdv ct:Value} (l:K.lookup f=some ⟨oc,od,.func (fnOf x q (eO st) (cT st) (aC st) .none kV doc pm an cdv ct),osl⟩) (c:codeIn K cdv q=true) (k:keepIn K (.ref f)=true) (i:isFn K (.ref f)=true):MI K f x q st:=⟨⟨_,M7 l c k⟩,i,k⟩
structure CI(K:Frag)(C:Addr)(x:Str):Prop where
 A:nsIn K mainGlobals x=some (some (.ref C))
 pg:plainGet K C Str.empty=true
 hd:hasDictIn K C=true
 po:plainOver K C=true
 sa:findIn K (.ref C) "__setattr__" = some (some (.builtin "object.__setattr__"))
 mq:makesIn K C=true
 kc:keepIn K (.ref C)=true
 ca:findIn K (.ref C) "__class__" = some (some (.builtin "object.__class__"))
 mo:mroIn K C (.type "object")=some true
 ty:typeIn K (.ref C)=some (.type "type")
 mm:mroIn K C (.ref C)=some true
def BA(x q:Str)(st:Stmt)(ps:List Str)(n:Nat):Prop:=∀ (kV doc pm:Value) (an:Option Addr) (cdv ct:Value) (us:List Value),us.length=n->bindArgs (fnOf x q (eO st) (cT st) (aC st) .none kV doc pm an cdv ct) ⟨us,[]⟩=pure (ps.zip us)
theorem ba1 {x q:Str} {st:Stmt} {ps:List Str} (h:∀ (kV doc pm:Value) (an:Option Addr) (cdv ct a:Value),bindArgs (fnOf x q (eO st) (cT st) (aC st) .none kV doc pm an cdv ct) ⟨[a],[]⟩=pure (ps.zip [a]):=by exact fun _ _ _ _ _ _ _=>rfl):BA x q st ps 1:=fun _ _ _ _ _ _ us hl=>by obtain⟨a,rfl⟩:=T5 hl;exact h ..
theorem ba2 {x q:Str} {st:Stmt} {ps:List Str} (h:∀ (kV doc pm:Value) (an:Option Addr) (cdv ct a b:Value),bindArgs (fnOf x q (eO st) (cT st) (aC st) .none kV doc pm an cdv ct) ⟨[a,b],[]⟩=pure (ps.zip [a,b]):=by exact fun _ _ _ _ _ _ _ _=>rfl):BA x q st ps 2:=fun _ _ _ _ _ _ us hl=>by obtain⟨a,b,rfl⟩:=T3 hl;exact h ..
theorem ba3 {x q:Str} {st:Stmt} {ps:List Str} (h:∀ (kV doc pm:Value) (an:Option Addr) (cdv ct a b c:Value),bindArgs (fnOf x q (eO st) (cT st) (aC st) .none kV doc pm an cdv ct) ⟨[a,b,c],[]⟩=pure (ps.zip [a,b,c]):=by exact fun _ _ _ _ _ _ _ _ _=>rfl):BA x q st ps 3:=fun _ _ _ _ _ _ us hl=>by obtain⟨a,b,c,rfl⟩:=TX hl;exact h ..
theorem ba4 {x q:Str} {st:Stmt} {ps:List Str} (h:∀ (kV doc pm:Value) (an:Option Addr) (cdv ct a b c d:Value),bindArgs (fnOf x q (eO st) (cT st) (aC st) .none kV doc pm an cdv ct) ⟨[a,b,c,d],[]⟩=pure (ps.zip [a,b,c,d]):=by exact fun _ _ _ _ _ _ _ _ _ _=>rfl):BA x q st ps 4:=fun _ _ _ _ _ _ us hl=>by obtain⟨a,b,c,d,rfl⟩:=Wq hl;exact h ..
theorem fat{K:Frag}{h:Heap}{mg:MG}{x:Str}{st:Stmt}{ps:List Str}(X:K.In h)(G:h.Ns mainGlobals mg)(b:BA x x st ps ps.length)(i:FI K x st):∃ f fd,FnAt K mg x st ps f fd:=by
 obtain⟨f,fd,a,F⟩:=i
 exact⟨f,fd,F,F.binds b,mg_of X G a⟩
theorem iM{K:Frag}{g:Addr}{x q:Str}{st:Stmt}{ps:List Str}{p:Addr->Prop}(b:BA x q st ps ps.length)(i:MI K g x q st)(z:isFn K (.ref g)=true->keepIn K (.ref g)=true->p g):∃ f fd,MAt K x q st ps f fd/\p f:=by
 obtain⟨⟨fd,F⟩,i1,i2⟩:=i
 exact⟨g,fd,⟨F,F.binds b⟩,z i1 i2⟩
theorem Su {l:OpenLaw} {w:World} {K:Frag} {h:Heap} {mg:MG} {fa g0 g1 g2 g3 g4 g5 g6 g7 g8 g9 g10 g11 g12 g13 g14 g15 g16 g17 g18 g19 g20 g21 g22 g23 g24 g25 g26 C0 C1 C2 C3 C4 C5 C6 C7 gx22 gx31 gx33 C21 C22 C23 C24 C25 C26 C27 C28 C29 C30 C31 C32 C33 C20 N20:Addr} (X:K.In h) (G:h.Ns mainGlobals mg) (hfa:mg "law" = some (.ref fa))
  {nm20 qn20:Str} {bs20 sub20:List Value} {sn20:List Str} {ab20:Bool} {col20:Option Bool} {dd20:Option Addr} {x020 x120 x220 x320 x520:Option Value} {oN:Value} {dN:Option Addr} {esN:Array DictEntry} {nN:Nat} {slN:Array (Option Value)}
  {tk0 tk1 tk2 tk3 tk4 tk5 tk6 tk7:Tok}
  (h0:FI K "show_term" lM)
  (h1:FI K "show_expr" lK)
  (h2:FI K "is_name" qC)
  (h3:FI K "are_names" mL)
  (h4:FI K "is_address" kj)
  (h5:FI K "is_number" lL)
  (h6:FI K "read_path" lJ)
  (h7:FI K "read_term" mU)
  (h8:FI K "read_sign" lY)
  (h9:FI K "read_expr" lN)
  (h10:FI K "has_call" pD)
  (h11:FI K "names_expr" jH)
  (h12:FI K "names_address" gh)
  (h13:FI K "names_word" jX)
  (h14:FI K "terms_from" jO)
  (h15:FI K "deed_of" qT)
  (h16:FI K "row_of" tL)
  (h17:FI K "row_at" ug)
  (h18:FI K "read_head" lF)
  (h19:FI K "read_part" lU)
  (h20:FI K "_law_cell" pH)
  (h21:FI K "_law_sub" qJ)
  (h22:FI K "_law_number" jF)
  (h23:FI K "_law_pick" lw)
  (h24:FI K "_law_name" oY)
  (h25:FI K "_law_names" lQ)
  (h26:FI K "_law_label" lZ)
  (h27:FI K "_law_address" iU)
  (h28:FI K "_law_term" pB)
  (h29:FI K "_law_terms" lG)
  (h30:FI K "_law_word" oU)
  (h31:FI K "_law_text" oM)
  (h32:FI K "_law_row" qG)
  (h33:FI K "_law_said" oA)
  (h34:FI K "_law_whole" jr)
  (h35:FI K "_law_term_is" iY)
  (h36:FI K "_law_terms_are" f9)
  (h37:FI K "_law_is" tU)
  (h38:FI K "_law_says" n6)
  (h39:FI K "_law_is_name" iV)
  (h40:FI K "_law_is_address" fO)
  (h41:FI K "_law_read_word" fW)
  (h42:FI K "_law_read" o9)
  (h43:FI K "_law_read_told" gf)
  (h44:FI K "_law_read_row" gP)
  (h45:FI K "_law_worded" jG)
  (h46:FI K "_law_signed" jP)
  (h47:FI K "_law_what" oR)
  (h48:FI K "_law_told" o8)
  (h49:FI K "_law_line" oX)
  (h50:FI K "_law_due" qM)
  (h51:FI K "_law_holds" mR)
  (h52:FI K "law" Kz)
  (D0:CI K C0 "Let")
  (D1:CI K C1 "Deed")
  (D2:CI K C2 "Draw")
  (D3:CI K C3 "Late")
  (D4:CI K C4 "Take")
  (D5:CI K C5 "Need")
  (D6:CI K C6 "Row")
  (D7:CI K C7 "Part")
  (nf0x0:findIn K (.ref C0) "name" = some none)
  (nf0x1:findIn K (.ref C0) "terms" = some none)
  (nf0x2:findIn K (.ref C0) "address" = some none)
  (nf0x3:findIn K (.ref C0) "word" = some none)
  (mm0x1:mroIn K C0 (.ref C1)=some false)
  (mm0x2:mroIn K C0 (.ref C2)=some false)
  (mm0x3:mroIn K C0 (.ref C3)=some false)
  (mm0x4:mroIn K C0 (.ref C4)=some false)
  (mm0x5:mroIn K C0 (.ref C5)=some false)
  (mm0x6:mroIn K C0 (.ref C6)=some true)
  (nf1x0:findIn K (.ref C1) "name" = some none)
  (nf1x1:findIn K (.ref C1) "terms" = some none)
  (nf1x2:findIn K (.ref C1) "address" = some none)
  (nf1x3:findIn K (.ref C1) "word" = some none)
  (mm1x0:mroIn K C1 (.ref C0)=some false)
  (mm1x2:mroIn K C1 (.ref C2)=some false)
  (mm1x3:mroIn K C1 (.ref C3)=some false)
  (mm1x4:mroIn K C1 (.ref C4)=some false)
  (mm1x5:mroIn K C1 (.ref C5)=some false)
  (mm1x6:mroIn K C1 (.ref C6)=some true)
  (nf2x0:findIn K (.ref C2) "name" = some none)
  (nf2x1:findIn K (.ref C2) "terms" = some none)
  (nf2x2:findIn K (.ref C2) "address" = some none)
  (nf2x3:findIn K (.ref C2) "word" = some none)
  (mm2x0:mroIn K C2 (.ref C0)=some false)
  (mm2x1:mroIn K C2 (.ref C1)=some false)
  (mm2x3:mroIn K C2 (.ref C3)=some false)
  (mm2x4:mroIn K C2 (.ref C4)=some false)
  (mm2x5:mroIn K C2 (.ref C5)=some false)
  (mm2x6:mroIn K C2 (.ref C6)=some true)
  (nf3x0:findIn K (.ref C3) "name" = some none)
  (nf3x1:findIn K (.ref C3) "terms" = some none)
  (nf3x2:findIn K (.ref C3) "address" = some none)
  (nf3x3:findIn K (.ref C3) "word" = some none)
  (mm3x0:mroIn K C3 (.ref C0)=some false)
  (mm3x1:mroIn K C3 (.ref C1)=some false)
  (mm3x2:mroIn K C3 (.ref C2)=some false)
  (mm3x4:mroIn K C3 (.ref C4)=some false)
  (mm3x5:mroIn K C3 (.ref C5)=some false)
  (mm3x6:mroIn K C3 (.ref C6)=some true)
  (nf4x0:findIn K (.ref C4) "name" = some none)
  (nf4x1:findIn K (.ref C4) "terms" = some none)
  (nf4x2:findIn K (.ref C4) "address" = some none)
  (nf4x3:findIn K (.ref C4) "word" = some none)
  (mm4x0:mroIn K C4 (.ref C0)=some false)
  (mm4x1:mroIn K C4 (.ref C1)=some false)
  (mm4x2:mroIn K C4 (.ref C2)=some false)
  (mm4x3:mroIn K C4 (.ref C3)=some false)
  (mm4x5:mroIn K C4 (.ref C5)=some false)
  (mm4x6:mroIn K C4 (.ref C6)=some true)
  (nf5x0:findIn K (.ref C5) "name" = some none)
  (nf5x1:findIn K (.ref C5) "terms" = some none)
  (nf5x2:findIn K (.ref C5) "address" = some none)
  (nf5x3:findIn K (.ref C5) "word" = some none)
  (mm5x0:mroIn K C5 (.ref C0)=some false)
  (mm5x1:mroIn K C5 (.ref C1)=some false)
  (mm5x2:mroIn K C5 (.ref C2)=some false)
  (mm5x3:mroIn K C5 (.ref C3)=some false)
  (mm5x4:mroIn K C5 (.ref C4)=some false)
  (mm5x6:mroIn K C5 (.ref C6)=some true)
  (nf6x0:findIn K (.ref C6) "name" = some none)
  (nf6x1:findIn K (.ref C6) "terms" = some none)
  (nf6x2:findIn K (.ref C6) "address" = some none)
  (nf6x3:findIn K (.ref C6) "word" = some none)
  (mm6x0:mroIn K C6 (.ref C0)=some false)
  (mm6x1:mroIn K C6 (.ref C1)=some false)
  (mm6x2:mroIn K C6 (.ref C2)=some false)
  (mm6x3:mroIn K C6 (.ref C3)=some false)
  (mm6x4:mroIn K C6 (.ref C4)=some false)
  (mm6x5:mroIn K C6 (.ref C5)=some false)
  (nf7x0:findIn K (.ref C7) "address" = some none)
  (nf7x1:findIn K (.ref C7) "rows" = some none)
  (u0x7:findIn K (.ref C7) "__init__" = some (some (.ref g0)))
  (j0:MI K g0 "__init__" "Part.__init__" eE)
  (u1x7:findIn K (.ref C7) "bound" = some (some (.ref g1)))
  (j1:MI K g1 "bound" "Part.bound" ie)
  (u2x7:findIn K (.ref C7) "place_of" = some (some (.ref g2)))
  (j2:MI K g2 "place_of" "Part.place_of" eN)
  (u3x7:findIn K (.ref C7) "text" = some (some (.ref g3)))
  (j3:MI K g3 "text" "Part.text" jf)
  (u4x5:findIn K (.ref C5) "binds" = some (some (.ref g4)))
  (u4x6:findIn K (.ref C6) "binds" = some (some (.ref g4)))
  (j4:MI K g4 "binds" "Row.binds" iW)
  (u5x0:findIn K (.ref C0) "asked" = some (some (.ref g5)))
  (u5x1:findIn K (.ref C1) "asked" = some (some (.ref g5)))
  (u5x5:findIn K (.ref C5) "asked" = some (some (.ref g5)))
  (u5x6:findIn K (.ref C6) "asked" = some (some (.ref g5)))
  (j5:MI K g5 "asked" "Row.asked" jg)
  (u6x6:findIn K (.ref C6) "said" = some (some (.ref g6)))
  (j6:MI K g6 "said" "Row.said" ue)
  (u7x0:findIn K (.ref C0) "__init__" = some (some (.ref g7)))
  (j7:MI K g7 "__init__" "Let.__init__" fL)
  (u8x0:findIn K (.ref C0) "binds" = some (some (.ref g8)))
  (j8:MI K g8 "binds" "Let.binds" iZ)
  (u9x0:findIn K (.ref C0) "said" = some (some (.ref g9)))
  (j9:MI K g9 "said" "Let.said" jL)
  (u10x1:findIn K (.ref C1) "__init__" = some (some (.ref g10)))
  (j10:MI K g10 "__init__" "Deed.__init__" eU)
  (u11x1:findIn K (.ref C1) "binds" = some (some (.ref g11)))
  (j11:MI K g11 "binds" "Deed.binds" gJ)
  (u12x1:findIn K (.ref C1) "said" = some (some (.ref g12)))
  (j12:MI K g12 "said" "Deed.said" jc)
  (u13x2:findIn K (.ref C2) "__init__" = some (some (.ref g13)))
  (j13:MI K g13 "__init__" "Draw.__init__" eG)
  (u14x2:findIn K (.ref C2) "binds" = some (some (.ref g14)))
  (j14:MI K g14 "binds" "Draw.binds" il)
  (u15x2:findIn K (.ref C2) "asked" = some (some (.ref g15)))
  (j15:MI K g15 "asked" "Draw.asked" gW)
  (u16x2:findIn K (.ref C2) "said" = some (some (.ref g16)))
  (j16:MI K g16 "said" "Draw.said" je)
  (u17x3:findIn K (.ref C3) "__init__" = some (some (.ref g17)))
  (j17:MI K g17 "__init__" "Late.__init__" eQ)
  (u18x3:findIn K (.ref C3) "binds" = some (some (.ref g18)))
  (j18:MI K g18 "binds" "Late.binds" ig)
  (u19x3:findIn K (.ref C3) "asked" = some (some (.ref g19)))
  (j19:MI K g19 "asked" "Late.asked" gR)
  (u20x3:findIn K (.ref C3) "said" = some (some (.ref g20)))
  (j20:MI K g20 "said" "Late.said" jh)
  (u21x4:findIn K (.ref C4) "__init__" = some (some (.ref g21)))
  (j21:MI K g21 "__init__" "Take.__init__" eV)
  (u22x4:findIn K (.ref C4) "binds" = some (some (.ref g22)))
  (j22:MI K g22 "binds" "Take.binds" gM)
  (u23x4:findIn K (.ref C4) "asked" = some (some (.ref g23)))
  (j23:MI K g23 "asked" "Take.asked" gH)
  (u24x4:findIn K (.ref C4) "said" = some (some (.ref g24)))
  (j24:MI K g24 "said" "Take.said" iT)
  (u25x5:findIn K (.ref C5) "__init__" = some (some (.ref g25)))
  (j25:MI K g25 "__init__" "Need.__init__" eX)
  (u26x5:findIn K (.ref C5) "said" = some (some (.ref g26)))
  (j26:MI K g26 "said" "Need.said" jb)
  (A20:nsIn K mainGlobals "HouseError" = some (some (.ref C20)))
  (B20:K.lookup C20=some (excClassObj nm20 qn20 C20 N20 bs20 dD true sn20 sub20 ab20 col20 dd20 x020 x120 x220 x320 x520 "ValueError.__new__"))
  (X22:XI K C20 C22 gx22 "NoText")
  (jx22:MI K gx22 "__init__" "NoText.__init__" iz)
  (X31:XI K C20 C31 gx31 "TooMany")
  (jx31:MI K gx31 "__init__" "TooMany.__init__" ji)
  (X33:XI K C20 C33 gx33 "Twice")
  (jx33:MI K gx33 "__init__" "Twice.__init__" nQ)
  (A21:nsIn K mainGlobals "NoExpr" = some (some (.ref C21)))
  (B21:lu K C21 (.ref C20::dD))
  (A23:nsIn K mainGlobals "Clash" = some (some (.ref C23)))
  (B23:lu K C23 (.ref C20::dD))
  (A24:nsIn K mainGlobals "Double" = some (some (.ref C24)))
  (B24:lu K C24 (.ref C20::dD))
  (A25:nsIn K mainGlobals "Fault" = some (some (.ref C25)))
  (B25:lu K C25 (.ref C20::dD))
  (A26:nsIn K mainGlobals "NoDrop" = some (some (.ref C26)))
  (B26:lu K C26 (.ref C20::dD))
  (A27:nsIn K mainGlobals "NoName" = some (some (.ref C27)))
  (B27:lu K C27 (.ref C20::dD))
  (A28:nsIn K mainGlobals "NoPart" = some (some (.ref C28)))
  (B28:lu K C28 (.ref C20::dD))
  (A29:nsIn K mainGlobals "NoRow" = some (some (.ref C29)))
  (B29:lu K C29 (.ref C20::dD))
  (A30:nsIn K mainGlobals "Orphan" = some (some (.ref C30)))
  (B30:lu K C30 (.ref C20::dD))
  (A32:nsIn K mainGlobals "TooWide" = some (some (.ref C32)))
  (B32:lu K C32 (.ref C20::dD))
  (iE:findIn K (.ref C21) "__init__" = some (some (.builtin "ValueError.__init__")))
  (kE:keepIn K (.ref C21)=true)
  (y1:specialIn K (.ref C20) "__getattribute__" = some (some (.builtin "type.__getattribute__")))
  (y2:readsIn K C20 (.type "type")=true)
  (y3:findCls K (.ref C20) (.type "type") "__init__" = some (.val (.builtin "ValueError.__init__")))
  (NH:K.lookup N20=some ⟨oN,dN,.dict esN nN,slN⟩)
  (SK:t8 esN=true)
  (NI:nsFind esN "__init__" = none)
  (ND:[C20,C21,C22,C23,C24,C25,C26,C27,C28,C29,C30,C31,C32,C33].Nodup)
  (oi:findIn K (.ref C6) "__init__" = some (some (.builtin "object.__init__")))
  (cg:specialIn K (.builtin "object.__class__") "__get__" = some (some (.builtin "getset_descriptor.__get__")))
  (ctk:takesIn K (.builtin "object.__class__")=some true)
  (gc0:nsIn K mainGlobals "LETTERS" = some (some (.str "abcdefghijklmnopqrstuvwxyz" tk0)))
  (gc1:nsIn K mainGlobals "MOST_LETTERS" = some (some (.int 8 tk1)))
  (gc2:nsIn K mainGlobals "MOST_NAMES" = some (some (.int 3 tk2)))
  (gc3:nsIn K mainGlobals "FIGURES" = some (some (.str "0123456789" tk3)))
  (gc4:nsIn K mainGlobals "MOST_FIGURES" = some (some (.int 20 tk4)))
  (gc5:nsIn K mainGlobals "MOST_TERMS" = some (some (.int 6 tk5)))
  (gc6:nsIn K mainGlobals "MOST_STEPS" = some (some (.int 4 tk6)))
  (gc7:nsIn K mainGlobals "MOST_ROWS" = some (some (.int 12 tk7)))
  (z0:nsIn K mainGlobals "any" = some none)
  (z1:nsIn K mainGlobals "enumerate" = some none)
  (z2:nsIn K mainGlobals "len" = some none)
  (z3:nsIn K mainGlobals "range" = some none)
  (z4:nsIn K mainGlobals "isinstance" = some none)
  (z5:nsIn K mainGlobals "str" = some none)
  (z6:nsIn K mainGlobals "int" = some none)
  (z7:nsIn K mainGlobals "bool" = some none)
  (z8:nsIn K mainGlobals "list" = some none)
  (z9:nsIn K mainGlobals "tuple" = some none)
  (z10:nsIn K mainGlobals "all" = some none)
  (z11:nsIn K mainGlobals "max" = some none)
  (z12:nsIn K mainGlobals "min" = some none)
  (z13:nsIn K mainGlobals "zip" = some none)
  (z14:nsIn K mainGlobals "ValueError" = some none) :
  ∃ fd:FuncData,(∀ (s:Shared) (v:Value),BindsTo s fd ⟨[v],[]⟩ [("_law_script",v)])/\∀ base:Heap,K.In base->base.Ns mainGlobals mg->aO l.prog w K mg base CX0 11 fa fd ["_law_script"] (HW K):=by
 have R0:RCl K C0:=⟨⟨D0.pg,D0.hd,D0.po,D0.sa⟩,D0.ca,cg,ctk,D0.mo⟩
 have R1:RCl K C1:=⟨⟨D1.pg,D1.hd,D1.po,D1.sa⟩,D1.ca,cg,ctk,D1.mo⟩
 have R2:RCl K C2:=⟨⟨D2.pg,D2.hd,D2.po,D2.sa⟩,D2.ca,cg,ctk,D2.mo⟩
 have R3:RCl K C3:=⟨⟨D3.pg,D3.hd,D3.po,D3.sa⟩,D3.ca,cg,ctk,D3.mo⟩
 have R4:RCl K C4:=⟨⟨D4.pg,D4.hd,D4.po,D4.sa⟩,D4.ca,cg,ctk,D4.mo⟩
 have R5:RCl K C5:=⟨⟨D5.pg,D5.hd,D5.po,D5.sa⟩,D5.ca,cg,ctk,D5.mo⟩
 have R6:RCl K C6:=⟨⟨D6.pg,D6.hd,D6.po,D6.sa⟩,D6.ca,cg,ctk,D6.mo⟩
 have R7:RCl K C7:=⟨⟨D7.pg,D7.hd,D7.po,D7.sa⟩,D7.ca,cg,ctk,D7.mo⟩
 have FM:Us K (fun i=>[C0,C1,C2,C3,C4,C5,C6,C7,0,0,0,0,0,0,0,0,0,0,0,0,C20,C21,C22,C23,C24,C25,C26,C27,C28,C29,C30,C31,C32,C33].getD i 0):=⟨uQ R0 R1 R2 R3 R4 R5 R6,fun i j h1 h2=>uQ (p:=fun i=>∀ j,j<=6->kitOne K (.ref ([C0,C1,C2,C3,C4,C5,C6,C7,0,0,0,0,0,0,0,0,0,0,0,0,C20,C21,C22,C23,C24,C25,C26,C27,C28,C29,C30,C31,C32,C33].getD i 0)) (.ref ([C0,C1,C2,C3,C4,C5,C6,C7,0,0,0,0,0,0,0,0,0,0,0,0,C20,C21,C22,C23,C24,C25,C26,C27,C28,C29,C30,C31,C32,C33].getD j 0))=some (nu i j)) (uQ (bf D0.mm D0.mm D0.mo D0.ty) (bf mm0x1 D1.mm D1.mo D1.ty) (bf mm0x2 D2.mm D2.mo D2.ty) (bf mm0x3 D3.mm D3.mo D3.ty) (bf mm0x4 D4.mm D4.mo D4.ty) (bf mm0x5 D5.mm D5.mo D5.ty) (bf mm0x6 D6.mm D6.mo D6.ty)) (uQ (bf mm1x0 D0.mm D0.mo D0.ty) (bf D1.mm D1.mm D1.mo D1.ty) (bf mm1x2 D2.mm D2.mo D2.ty) (bf mm1x3 D3.mm D3.mo D3.ty) (bf mm1x4 D4.mm D4.mo D4.ty) (bf mm1x5 D5.mm D5.mo D5.ty) (bf mm1x6 D6.mm D6.mo D6.ty)) (uQ (bf mm2x0 D0.mm D0.mo D0.ty) (bf mm2x1 D1.mm D1.mo D1.ty) (bf D2.mm D2.mm D2.mo D2.ty) (bf mm2x3 D3.mm D3.mo D3.ty) (bf mm2x4 D4.mm D4.mo D4.ty) (bf mm2x5 D5.mm D5.mo D5.ty) (bf mm2x6 D6.mm D6.mo D6.ty)) (uQ (bf mm3x0 D0.mm D0.mo D0.ty) (bf mm3x1 D1.mm D1.mo D1.ty) (bf mm3x2 D2.mm D2.mo D2.ty) (bf D3.mm D3.mm D3.mo D3.ty) (bf mm3x4 D4.mm D4.mo D4.ty) (bf mm3x5 D5.mm D5.mo D5.ty) (bf mm3x6 D6.mm D6.mo D6.ty)) (uQ (bf mm4x0 D0.mm D0.mo D0.ty) (bf mm4x1 D1.mm D1.mo D1.ty) (bf mm4x2 D2.mm D2.mo D2.ty) (bf mm4x3 D3.mm D3.mo D3.ty) (bf D4.mm D4.mm D4.mo D4.ty) (bf mm4x5 D5.mm D5.mo D5.ty) (bf mm4x6 D6.mm D6.mo D6.ty)) (uQ (bf mm5x0 D0.mm D0.mo D0.ty) (bf mm5x1 D1.mm D1.mo D1.ty) (bf mm5x2 D2.mm D2.mo D2.ty) (bf mm5x3 D3.mm D3.mo D3.ty) (bf mm5x4 D4.mm D4.mo D4.ty) (bf D5.mm D5.mm D5.mo D5.ty) (bf mm5x6 D6.mm D6.mo D6.ty)) (uQ (bf mm6x0 D0.mm D0.mo D0.ty) (bf mm6x1 D1.mm D1.mo D1.ty) (bf mm6x2 D2.mm D2.mo D2.ty) (bf mm6x3 D3.mm D3.mo D3.ty) (bf mm6x4 D4.mm D4.mo D4.ty) (bf mm6x5 D5.mm D5.mo D5.ty) (bf D6.mm D6.mm D6.mo D6.ty)) i h1 j h2,uQ nf0x0 nf1x0 nf2x0 nf3x0 nf4x0 nf5x0 nf6x0,uQ nf0x1 nf1x1 nf2x1 nf3x1 nf4x1 nf5x1 nf6x1,uQ nf0x2 nf1x2 nf2x2 nf3x2 nf4x2 nf5x2 nf6x2,uQ nf0x3 nf1x3 nf2x3 nf3x3 nf4x3 nf5x3 nf6x3⟩
 have XF:Ha K (fun i=>[C0,C1,C2,C3,C4,C5,C6,C7,0,0,0,0,0,0,0,0,0,0,0,0,C20,C21,C22,C23,C24,C25,C26,C27,C28,C29,C30,C31,C32,C33].getD i 0):=⟨Fx X22.l X22.e0 X22.e1 X22.e2 X22.e3 cg ctk,X22.e4,Ob B21,Gz X22.l,K7 (M6 X22.l B20) (cF X22.l B21 (bA ND (i:=1) (j:=0) rfl rfl Za) (bA ND (i:=1) (j:=2) rfl rfl Za)) (zE X22.l) (cF X22.l B23 (bA ND (i:=3) (j:=0) rfl rfl Za) (bA ND (i:=3) (j:=2) rfl rfl Za)) (cF X22.l B24 (bA ND (i:=4) (j:=0) rfl rfl Za) (bA ND (i:=4) (j:=2) rfl rfl Za)) (cF X22.l B25 (bA ND (i:=5) (j:=0) rfl rfl Za) (bA ND (i:=5) (j:=2) rfl rfl Za)) (cF X22.l B26 (bA ND (i:=6) (j:=0) rfl rfl Za) (bA ND (i:=6) (j:=2) rfl rfl Za)) (cF X22.l B27 (bA ND (i:=7) (j:=0) rfl rfl Za) (bA ND (i:=7) (j:=2) rfl rfl Za)) (cF X22.l B28 (bA ND (i:=8) (j:=0) rfl rfl Za) (bA ND (i:=8) (j:=2) rfl rfl Za)) (cF X22.l B29 (bA ND (i:=9) (j:=0) rfl rfl Za) (bA ND (i:=9) (j:=2) rfl rfl Za)) (cF X22.l B30 (bA ND (i:=10) (j:=0) rfl rfl Za) (bA ND (i:=10) (j:=2) rfl rfl Za)) (cF X22.l X31.l (bA ND (i:=11) (j:=0) rfl rfl Za) (bA ND (i:=11) (j:=2) rfl rfl Za)) (cF X22.l B32 (bA ND (i:=12) (j:=0) rfl rfl Za) (bA ND (i:=12) (j:=2) rfl rfl Za)) (cF X22.l X33.l (bA ND (i:=13) (j:=0) rfl rfl Za) (bA ND (i:=13) (j:=2) rfl rfl Za)),J7 X22.l⟩
 have XO31:Fy K (fun i=>[C0,C1,C2,C3,C4,C5,C6,C7,0,0,0,0,0,0,0,0,0,0,0,0,C20,C21,C22,C23,C24,C25,C26,C27,C28,C29,C30,C31,C32,C33].getD i 0) 31:=⟨Fx X31.l X31.e0 X31.e1 X31.e2 X31.e3 cg ctk,X31.e4,Gz X31.l,K7 (M6 X31.l B20) (cF X31.l B21 (bA ND (i:=1) (j:=0) rfl rfl Za) (bA ND (i:=1) (j:=11) rfl rfl Za)) (cF X31.l X22.l (bA ND (i:=2) (j:=0) rfl rfl Za) (bA ND (i:=2) (j:=11) rfl rfl Za)) (cF X31.l B23 (bA ND (i:=3) (j:=0) rfl rfl Za) (bA ND (i:=3) (j:=11) rfl rfl Za)) (cF X31.l B24 (bA ND (i:=4) (j:=0) rfl rfl Za) (bA ND (i:=4) (j:=11) rfl rfl Za)) (cF X31.l B25 (bA ND (i:=5) (j:=0) rfl rfl Za) (bA ND (i:=5) (j:=11) rfl rfl Za)) (cF X31.l B26 (bA ND (i:=6) (j:=0) rfl rfl Za) (bA ND (i:=6) (j:=11) rfl rfl Za)) (cF X31.l B27 (bA ND (i:=7) (j:=0) rfl rfl Za) (bA ND (i:=7) (j:=11) rfl rfl Za)) (cF X31.l B28 (bA ND (i:=8) (j:=0) rfl rfl Za) (bA ND (i:=8) (j:=11) rfl rfl Za)) (cF X31.l B29 (bA ND (i:=9) (j:=0) rfl rfl Za) (bA ND (i:=9) (j:=11) rfl rfl Za)) (cF X31.l B30 (bA ND (i:=10) (j:=0) rfl rfl Za) (bA ND (i:=10) (j:=11) rfl rfl Za)) (zE X31.l) (cF X31.l B32 (bA ND (i:=12) (j:=0) rfl rfl Za) (bA ND (i:=12) (j:=11) rfl rfl Za)) (cF X31.l X33.l (bA ND (i:=13) (j:=0) rfl rfl Za) (bA ND (i:=13) (j:=11) rfl rfl Za)),J7 X31.l⟩
 have XO33:Fy K (fun i=>[C0,C1,C2,C3,C4,C5,C6,C7,0,0,0,0,0,0,0,0,0,0,0,0,C20,C21,C22,C23,C24,C25,C26,C27,C28,C29,C30,C31,C32,C33].getD i 0) 33:=⟨Fx X33.l X33.e0 X33.e1 X33.e2 X33.e3 cg ctk,X33.e4,Gz X33.l,K7 (M6 X33.l B20) (cF X33.l B21 (bA ND (i:=1) (j:=0) rfl rfl Za) (bA ND (i:=1) (j:=13) rfl rfl Za)) (cF X33.l X22.l (bA ND (i:=2) (j:=0) rfl rfl Za) (bA ND (i:=2) (j:=13) rfl rfl Za)) (cF X33.l B23 (bA ND (i:=3) (j:=0) rfl rfl Za) (bA ND (i:=3) (j:=13) rfl rfl Za)) (cF X33.l B24 (bA ND (i:=4) (j:=0) rfl rfl Za) (bA ND (i:=4) (j:=13) rfl rfl Za)) (cF X33.l B25 (bA ND (i:=5) (j:=0) rfl rfl Za) (bA ND (i:=5) (j:=13) rfl rfl Za)) (cF X33.l B26 (bA ND (i:=6) (j:=0) rfl rfl Za) (bA ND (i:=6) (j:=13) rfl rfl Za)) (cF X33.l B27 (bA ND (i:=7) (j:=0) rfl rfl Za) (bA ND (i:=7) (j:=13) rfl rfl Za)) (cF X33.l B28 (bA ND (i:=8) (j:=0) rfl rfl Za) (bA ND (i:=8) (j:=13) rfl rfl Za)) (cF X33.l B29 (bA ND (i:=9) (j:=0) rfl rfl Za) (bA ND (i:=9) (j:=13) rfl rfl Za)) (cF X33.l B30 (bA ND (i:=10) (j:=0) rfl rfl Za) (bA ND (i:=10) (j:=13) rfl rfl Za)) (cF X33.l X31.l (bA ND (i:=11) (j:=0) rfl rfl Za) (bA ND (i:=11) (j:=13) rfl rfl Za)) (cF X33.l B32 (bA ND (i:=12) (j:=0) rfl rfl Za) (bA ND (i:=12) (j:=13) rfl rfl Za)) (zE X33.l),J7 X33.l⟩
 have EX:∀ {C:Addr},lu K C (.ref C20::dD)->ExC K C:=fun{C} l=>by
  obtain⟨_,_,_,_,_,_,_,_,_,_,_,_,_,_,l⟩:=l
  exact Nv B20 NH SK NI l
 have IX22:∃ f fd,XIn K C22 "NoText.__init__" iz dG f fd:=by
  obtain⟨⟨fd,F⟩,i1,i2⟩:=jx22
  exact⟨gx22,fd,F,F.binds ba2,X22.e5,i1,X22.kp,Za⟩
 have IX31:∃ f fd,XIn K C31 "TooMany.__init__" ji jn f fd:=by
  obtain⟨⟨fd,F⟩,i1,i2⟩:=jx31
  exact⟨gx31,fd,F,F.binds ba2,X31.e5,i1,X31.kp,Za⟩
 have IX33:∃ f fd,XIn K C33 "Twice.__init__" nQ nR f fd:=by
  obtain⟨⟨fd,F⟩,i1,i2⟩:=jx33
  exact⟨gx33,fd,F,F.binds ba2,X33.e5,i1,X33.kp,Za⟩
 have TT:Tx K mg (fun i=>[C0,C1,C2,C3,C4,C5,C6,C7,0,0,0,0,0,0,0,0,0,0,0,0,C20,C21,C22,C23,C24,C25,C26,C27,C28,C29,C30,C31,C32,C33].getD i 0):=⟨mg_none_of X G z0,mg_none_of X G z1,mg_none_of X G z2,mg_none_of X G z3,mg_none_of X G z4,mg_none_of X G z5,mg_none_of X G z6,mg_none_of X G z7,mg_none_of X G z8,mg_none_of X G z9,mg_none_of X G z10,mg_none_of X G z11,mg_none_of X G z12,mg_none_of X G z13,mg_none_of X G z14,⟨_,mg_of X G gc0⟩,⟨_,mg_of X G gc1⟩,⟨_,mg_of X G gc2⟩,⟨_,mg_of X G gc3⟩,⟨_,mg_of X G gc4⟩,⟨_,mg_of X G gc5⟩,⟨_,mg_of X G gc6⟩,⟨_,mg_of X G gc7⟩,fat X G ba2 h0,fat X G ba1 h1,fat X G ba1 h2,fat X G ba2 h3,fat X G ba1 h4,fat X G ba1 h5,fat X G ba1 h6,fat X G ba2 h7,fat X G ba1 h8,fat X G ba1 h9,fat X G ba1 h10,fat X G ba1 h11,fat X G ba1 h12,fat X G ba1 h13,fat X G ba2 h14,fat X G ba2 h15,fat X G ba1 h16,fat X G ba2 h17,fat X G ba1 h18,fat X G ba1 h19,fat X G ba2 h20,fat X G ba2 h21,fat X G ba2 h22,fat X G ba3 h23,fat X G ba1 h24,fat X G ba2 h25,fat X G ba1 h26,fat X G ba1 h27,fat X G ba2 h28,fat X G ba1 h29,fat X G ba1 h30,fat X G ba1 h31,fat X G ba2 h32,fat X G ba1 h33,fat X G ba1 h34,fat X G ba2 h35,fat X G ba2 h36,fat X G ba2 h37,fat X G ba2 h38,fat X G ba1 h39,fat X G ba1 h40,fat X G ba2 h41,fat X G ba1 h42,fat X G ba1 h43,fat X G ba1 h44,fat X G ba2 h45,fat X G ba2 h46,fat X G ba1 h47,fat X G ba1 h48,fat X G ba3 h49,fat X G ba1 h50,fat X G ba4 h51,iM ba3 j0 fun i k=>⟨D7.mq,u0x7,i,D7.kc⟩,iM ba1 j1 fun i k=>⟨u1x7,i,k⟩,iM ba2 j2 fun i k=>⟨u2x7,i,k⟩,iM ba1 j3 fun i k=>⟨u3x7,i,k⟩,iM ba1 j4 fun i k=>⟨⟨u4x5,i,k⟩,⟨u4x6,i,k⟩⟩,iM ba1 j5 fun i k=>⟨⟨u5x0,i,k⟩,⟨u5x1,i,k⟩,⟨u5x5,i,k⟩,⟨u5x6,i,k⟩⟩,iM ba1 j6 fun i k=>⟨u6x6,i,k⟩,iM ba3 j7 fun i k=>⟨D0.mq,u7x0,i,D0.kc⟩,iM ba1 j8 fun i k=>⟨u8x0,i,k⟩,iM ba1 j9 fun i k=>⟨u9x0,i,k⟩,iM ba3 j10 fun i k=>⟨D1.mq,u10x1,i,D1.kc⟩,iM ba1 j11 fun i k=>⟨u11x1,i,k⟩,iM ba1 j12 fun i k=>⟨u12x1,i,k⟩,iM ba3 j13 fun i k=>⟨D2.mq,u13x2,i,D2.kc⟩,iM ba1 j14 fun i k=>⟨u14x2,i,k⟩,iM ba1 j15 fun i k=>⟨u15x2,i,k⟩,iM ba1 j16 fun i k=>⟨u16x2,i,k⟩,iM ba3 j17 fun i k=>⟨D3.mq,u17x3,i,D3.kc⟩,iM ba1 j18 fun i k=>⟨u18x3,i,k⟩,iM ba1 j19 fun i k=>⟨u19x3,i,k⟩,iM ba1 j20 fun i k=>⟨u20x3,i,k⟩,iM ba4 j21 fun i k=>⟨D4.mq,u21x4,i,D4.kc⟩,iM ba1 j22 fun i k=>⟨u22x4,i,k⟩,iM ba1 j23 fun i k=>⟨u23x4,i,k⟩,iM ba1 j24 fun i k=>⟨u24x4,i,k⟩,iM ba2 j25 fun i k=>⟨D5.mq,u25x5,i,D5.kc⟩,iM ba1 j26 fun i k=>⟨u26x5,i,k⟩,mg_of X G D0.A,mg_of X G D1.A,mg_of X G D2.A,mg_of X G D3.A,mg_of X G D4.A,mg_of X G D5.A,mg_of X G D6.A,mg_of X G D7.A,⟨D6.mq,oi,D6.kc⟩,FM,⟨R7,nf7x0,nf7x1,bf D7.mm D7.mm D7.mo D7.ty⟩,mg_of X G A20,mg_of X G A21,mg_of X G X22.A,mg_of X G A23,mg_of X G A24,mg_of X G A25,mg_of X G A26,mg_of X G A27,mg_of X G A28,mg_of X G A29,mg_of X G A30,mg_of X G X31.A,mg_of X G A32,mg_of X G X33.A,Sg B20,EX B21,EX X22.l,XF,iE,kE,IX22,EX X31.l,EX X33.l,XO31,XO33,IX31,IX33,y1,y2,y3⟩
 obtain⟨f,fd,a,F⟩:=h52
 cases hfa.symm.trans (mg_of X G a)
 obtain⟨oc,od,kV,doc,pm,an,cdv,ct,osl,rfl,lk,hcd⟩:=id F.ex
 exact⟨_,fun s v=>.of_eq rfl,fun base _ _=>Rk TT F⟩
theorem walk {l:OpenLaw} {q:Program} {loose:List Str} {XP:(Str->Option Value)->Heap->Prop} {YP:World->Heap->Prop} {d:DefRec} {K:Params->Frag} (hn:l.most=some 63) (hdf:d.params.defaults=[])
  (hY:∀ (w:World) (h:Heap),YP w h->(K w.params).In h)
  (F:∀ (w:World) (mg:MG) (fa:Addr) (h:Heap),(K w.params).In h->h.Ns mainGlobals mg->mg d.name=some (.ref fa) ->
   ∃ fd:FuncData,(∀ (s:Shared) (u:Value),BindsTo s fd ⟨[u],[]⟩ [("_law_script",u)])/\∀ base:Heap,(K w.params).In base->base.Ns mainGlobals mg->aO l.prog w (K w.params) mg base CX0 11 fa fd ["_law_script"] (HW (K w.params))) :
  WalkO q loose XP YP l.row.toRowW d [] (fun f vs=>PySem.call f vs) :=
 L2.Qd (n:=63) (k:=11) (x := "_law_script") (CX:=fun _=>CX0) (sp:=fun w=>HW (K w.params)) hn Za hdf ⟨rfl,Za,Za⟩ hY F (fun _ _ a ns hl _ hS=>⟨a,ns,rfl,hS,hl,fun _=>rfl⟩) fun _ _ _ _ _ z=>z
noncomputable section
noncomputable abbrev ke(P:Params)(x:Str)(t:Nat)(v:Value):DictEntry:=⟨PyData.keyHash P x,.str x t,v⟩
noncomputable abbrev nq(b:Bool)(o:Obj):Str:=match o.data with|.fields a=>(match a.toList with|.str n _::.str q _::_=>bif b then n else q|_ => "")|_ => ""
noncomputable abbrev kf(s:Stmt)(s0:Obj)(m:Value)(c:Nat):Obj:={cls:=.type "function",data:=.func {name:=nq true s0,qualname:=nq false s0,params:=L2.eO s,body:=.stmts (L2.cT s),scope:=L2.aC s,globals:=3,closure:=[],defaults:=.none,kwdefaults:=.none,pyModule:=m,code:=.ref c}}
noncomputable abbrev kc(n q:Str)(a b c:Nat)(l k:Int)(f r:Nat)(t:Bool)(g:Int)(u:Nat)(x y z:Value)(v:Nat)(m:Int)(e:Nat):Obj:={cls:=.type "code",data:=.fields #[.str n a,.str q b,.str "/claim/cut.py" c,.int l 0,.int k 0,.int 0 0,.int 0 0,.int f 0,.ref r,.bool t,.int g 0,.ref u,x,y,z,.ref v,.int m 0,.int l 0,.str "/claim/cut.py" e]}
noncomputable abbrev kt(n:Str)(b s:Value)(m:List Value)(d:Nat)(x:Option Value)(t u:Nat)(w:String)(l:List Value):Obj:={cls:=.type "type",data:=.cls {name:=n,bases:=[b],mro:=s::m,ns:=d,qualname:=n,subclasses:=l},slots:=#[x,none,some (.str n t),some (.str n u),some (.builtin w),some (.bool true)]}
noncomputable abbrev kd(n q:Str)(a:Nat)(l k:Int)(f r m:Nat):Obj:=kc n q a (a+1) (a+2) l k f r true 181 (r+1) .none (.ref (r+2)) (.ref (r+3)) (r+4) m (m+1)
noncomputable abbrev kb(n q:Str)(a:Nat)(l k:Int)(f r m:Nat):Obj:=kc n q a (a+1) (a+2) l k f r true 181 (r+1) .none .none .none (r+2) m (m+1)
noncomputable abbrev ku(n:Str)(a:Nat)(l k:Int)(f r m:Nat):Obj:=kd n n a l k f r m
noncomputable abbrev kv(n:Str)(a:Nat)(l k:Int)(f r m:Nat):Obj:=kb n n a l k f r m
noncomputable abbrev g1(t a:Nat):Obj:={cls:=.type "getset_descriptor",data:=.fields #[.str "__dict__" t,.ref a,.builtin "function.__dict__",.builtin "function.__dict__#set"]}
noncomputable abbrev g2(t a:Nat):Obj:={cls:=.type "getset_descriptor",data:=.fields #[.str "__weakref__" t,.ref a,.builtin "ExceptionGroup.__weakref__",.none]}
abbrev mE:List Value:=[.type "ValueError",.type "Exception",.type "BaseException",.type "object"]
abbrev mO:List Value:=[.type "object"]
noncomputable abbrev ks(P:Params)(t r:Nat):DictEntry:=ke P "__static_attributes__" t (.ref r)
noncomputable abbrev kw(P:Params)(t r:Nat):DictEntry:=ke P "__weakref__" t (.ref r)
noncomputable abbrev kx(P:Params)(t r:Nat):DictEntry:=ke P "__dict__" t (.ref r)
noncomputable abbrev ki(P:Params)(t r:Nat):DictEntry:=ke P "__init__" t (.ref r)
noncomputable abbrev ko(P:Params)(t:Nat):DictEntry:=ke P "__doc__" t .none
noncomputable abbrev kz(P:Params)(m:Value)(a:Nat)(l:Int)(r:List DictEntry)(k:Nat):Obj:={cls:=.type "dict",data:=.dict (List.toArray (ke P "__module__" a m::ke P "__firstlineno__" (a+4) (.int l (a+3))::r)) k}
abbrev cN:Value:=.str "drawhouse.errors" 187
abbrev Q0:Value:=.str "drawhouse.words" 520
abbrev Ec:Value:=.str "drawhouse.exprs" 547
abbrev Fp:Value:=.str "drawhouse.parts" 621
abbrev dh:Value:=.str "drawhouse.rows" 676
abbrev zY:Value:=.str "drawhouse.reader" 979
abbrev cQ:Value:=.str "law_drawhouse_k26_whole_part_texts" 1058
abbrev n0(P:Params)(r:List DictEntry):List DictEntry:=ke P "__doc__" 166 .none::ke P "__package__" 167 .none::ke P "__loader__" 168 (.builtin "__main__.__loader__#opaque")::ke P "__spec__" 169 .none::ke P "__annotations__" 170 (.ref 6)::ke P "__builtins__" 171 (.ref 4)::ke P "__file__" 173 (.str "/claim/cut.py" 172)::ke P "__cached__" 174 .none::ke P "HouseError" 206 (.ref 24)::ke P "NoExpr" 222 (.ref 37)::ke P "TooWide" 238 (.ref 49)::ke P "NoText" 263 (.ref 68)::ke P "TooMany" 288 (.ref 87)::ke P "Twice" 313 (.ref 106)::r
abbrev n1(P:Params)(r:List DictEntry):List DictEntry:=ke P "Double" 338 (.ref 125)::ke P "Orphan" 363 (.ref 144)::ke P "Clash" 388 (.ref 163)::ke P "NoRow" 413 (.ref 182)::ke P "NoPart" 438 (.ref 201)::ke P "NoDrop" 463 (.ref 220)::r
abbrev n2(P:Params)(r:List DictEntry):List DictEntry:=ke P "NoName" 488 (.ref 239)::ke P "Fault" 519 (.ref 258)::ke P "LETTERS" 523 (.str "abcdefghijklmnopqrstuvwxyz" 522)::ke P "MOST_LETTERS" 525 (.int 8 524)::ke P "MOST_NAMES" 527 (.int 3 526)::ke P "is_name" 533 (.ref 265)::ke P "are_names" 539 (.ref 270)::ke P "is_address" 546 (.ref 277)::ke P "FIGURES" 550 (.str "0123456789" 549)::ke P "MOST_FIGURES" 552 (.int 20 551)::ke P "MOST_TERMS" 554 (.int 6 553)::ke P "MOST_STEPS" 556 (.int 4 555)::ke P "is_number" 562 (.ref 282)::ke P "read_path" 569 (.ref 289)::ke P "read_term" 577 (.ref 296)::ke P "read_sign" 584 (.ref 303)::ke P "read_expr" 594 (.ref 310)::ke P "show_term" 603 (.ref 317)::ke P "show_expr" 614 (.ref 324)::ke P "has_call" 620 (.ref 329)::ke P "Part" 675 (.ref 363)::ke P "Row" 718 (.ref 398)::r
abbrev n3(P:Params)(r:List DictEntry):List DictEntry:=ke P "Let" 759 (.ref 433)::ke P "Deed" 800 (.ref 466)::ke P "Draw" 848 (.ref 506)::ke P "Late" 896 (.ref 546)::r
abbrev n4(P:Params)(r:List DictEntry):List DictEntry:=ke P "Take" 946 (.ref 586)::ke P "Need" 978 (.ref 612)::ke P "MOST_ROWS" 982 (.int 12 981)::ke P "names_expr" 989 (.ref 621)::ke P "names_address" 996 (.ref 628)::ke P "names_word" 1003 (.ref 635)::ke P "terms_from" 1011 (.ref 642)::ke P "deed_of" 1019 (.ref 649)::ke P "row_of" 1027 (.ref 656)::ke P "row_at" 1036 (.ref 663)::ke P "read_head" 1044 (.ref 670)::ke P "read_part" 1057 (.ref 677)::ke P "_law_cell" 1067 (.ref 684)::ke P "_law_sub" 1075 (.ref 691)::ke P "_law_number" 1083 (.ref 698)::ke P "_law_pick" 1095 (.ref 705)::ke P "_law_names" 1101 (.ref 710)::ke P "_law_name" 1107 (.ref 715)::ke P "_law_label" 1115 (.ref 722)::ke P "_law_address" 1121 (.ref 727)::ke P "_law_term" 1127 (.ref 732)::ke P "_law_terms" 1133 (.ref 737)::ke P "_law_word" 1143 (.ref 744)::ke P "_law_text" 1152 (.ref 751)::ke P "_law_row" 1158 (.ref 756)::ke P "_law_said" 1170 (.ref 763)::ke P "_law_whole" 1177 (.ref 770)::ke P "_law_term_is" 1185 (.ref 777)::ke P "_law_terms_are" 1191 (.ref 782)::ke P "_law_is" 1197 (.ref 787)::ke P "_law_says" 1209 (.ref 794)::ke P "_law_is_name" 1217 (.ref 801)::ke P "_law_is_address" 1223 (.ref 806)::ke P "_law_read_word" 1229 (.ref 811)::ke P "_law_read" 1239 (.ref 818)::r
abbrev n5(P:Params)(r:List DictEntry):List DictEntry:=ke P "_law_read_told" 1245 (.ref 823)::ke P "_law_read_row" 1253 (.ref 830)::ke P "_law_worded" 1265 (.ref 837)::ke P "_law_signed" 1277 (.ref 844)::ke P "_law_what" 1286 (.ref 851)::ke P "_law_told" 1294 (.ref 858)::ke P "_law_line" 1307 (.ref 865)::ke P "_law_due" 1313 (.ref 870)::ke P "_law_holds" 1319 (.ref 875)::ke P "law" 1325 (.ref 880)::r
abbrev k3(P:Params):Obj:={cls:=.type "dict",data:=.dict (List.toArray (ke P "__name__" 165 (.str "law_drawhouse_k26_whole_part_texts" 1058)::n0 P (n1 P (n2 P (n3 P (n4 P (n5 P ([])))))))) 92}
abbrev k23(P:Params):Obj:=kz P cN 196 2 [ks P 201 22,kw P 203 25,ko P 204] 3
abbrev k24:=kt "HouseError" (.type "ValueError") (.ref 24) mE 23 (some (.ref 15)) 189 197 "ValueError.__new__" [.ref 37,.ref 49,.ref 68,.ref 87,.ref 106,.ref 125,.ref 144,.ref 163,.ref 182,.ref 201,.ref 220,.ref 239,.ref 258]
abbrev k25:=g2 202 24
abbrev k36(P:Params):Obj:=kz P cN 214 4 [ks P 219 35,ko P 220] 2
abbrev k37:=kt "NoExpr" (.ref 24) (.ref 37) (.ref 24::mE) 36 (some (.ref 28)) 207 215 "ValueError.__new__" []
abbrev k48(P:Params):Obj:=kz P cN 230 6 [ks P 235 47,ko P 236] 2
abbrev k49:=kt "TooWide" (.ref 24) (.ref 49) (.ref 24::mE) 48 (some (.ref 40)) 223 231 "ValueError.__new__" []
abbrev k64:=kd "__init__" "NoText.__init__" 251 10 2 3 59 256
abbrev k65:=kf (Mine.sb 4 0) k64 cN 64
abbrev k67(P:Params):Obj:=kz P cN 246 8 [ki P 258 65,ks P 260 66,ko P 261] 2
abbrev k68:=kt "NoText" (.ref 24) (.ref 68) (.ref 24::mE) 67 (some (.ref 52)) 239 247 "ValueError.__new__" []
abbrev k83:=kd "__init__" "TooMany.__init__" 276 15 2 3 78 281
abbrev k84:=kf (Mine.sb 5 0) k83 cN 83
abbrev k86(P:Params):Obj:=kz P cN 271 13 [ki P 283 84,ks P 285 85,ko P 286] 2
abbrev k87:=kt "TooMany" (.ref 24) (.ref 87) (.ref 24::mE) 86 (some (.ref 71)) 264 272 "ValueError.__new__" []
abbrev k102:=kd "__init__" "Twice.__init__" 301 20 2 3 97 306
abbrev k103:=kf (Mine.sb 6 0) k102 cN 102
abbrev k105(P:Params):Obj:=kz P cN 296 18 [ki P 308 103,ks P 310 104,ko P 311] 2
abbrev k106:=kt "Twice" (.ref 24) (.ref 106) (.ref 24::mE) 105 (some (.ref 90)) 289 297 "ValueError.__new__" []
abbrev k121:=kd "__init__" "Double.__init__" 326 25 2 3 116 331
abbrev k122:=kf (Mine.sb 7 0) k121 cN 121
abbrev k124(P:Params):Obj:=kz P cN 321 23 [ki P 333 122,ks P 335 123,ko P 336] 2
abbrev k125:=kt "Double" (.ref 24) (.ref 125) (.ref 24::mE) 124 (some (.ref 109)) 314 322 "ValueError.__new__" []
abbrev k140:=kd "__init__" "Orphan.__init__" 351 30 2 3 135 356
abbrev k141:=kf (Mine.sb 8 0) k140 cN 140
abbrev k143(P:Params):Obj:=kz P cN 346 28 [ki P 358 141,ks P 360 142,ko P 361] 2
abbrev k144:=kt "Orphan" (.ref 24) (.ref 144) (.ref 24::mE) 143 (some (.ref 128)) 339 347 "ValueError.__new__" []
abbrev k159:=kd "__init__" "Clash.__init__" 376 35 2 3 154 381
abbrev k160:=kf (Mine.sb 9 0) k159 cN 159
abbrev k162(P:Params):Obj:=kz P cN 371 33 [ki P 383 160,ks P 385 161,ko P 386] 2
abbrev k163:=kt "Clash" (.ref 24) (.ref 163) (.ref 24::mE) 162 (some (.ref 147)) 364 372 "ValueError.__new__" []
abbrev k178:=kd "__init__" "NoRow.__init__" 401 40 2 3 173 406
abbrev k179:=kf (Mine.sb 10 0) k178 cN 178
abbrev k181(P:Params):Obj:=kz P cN 396 38 [ki P 408 179,ks P 410 180,ko P 411] 2
abbrev k182:=kt "NoRow" (.ref 24) (.ref 182) (.ref 24::mE) 181 (some (.ref 166)) 389 397 "ValueError.__new__" []
abbrev k197:=kd "__init__" "NoPart.__init__" 426 45 2 3 192 431
abbrev k198:=kf (Mine.sb 11 0) k197 cN 197
abbrev k200(P:Params):Obj:=kz P cN 421 43 [ki P 433 198,ks P 435 199,ko P 436] 2
abbrev k201:=kt "NoPart" (.ref 24) (.ref 201) (.ref 24::mE) 200 (some (.ref 185)) 414 422 "ValueError.__new__" []
abbrev k216:=kd "__init__" "NoDrop.__init__" 451 50 2 3 211 456
abbrev k217:=kf (Mine.sb 12 0) k216 cN 216
abbrev k219(P:Params):Obj:=kz P cN 446 48 [ki P 458 217,ks P 460 218,ko P 461] 2
abbrev k220:=kt "NoDrop" (.ref 24) (.ref 220) (.ref 24::mE) 219 (some (.ref 204)) 439 447 "ValueError.__new__" []
abbrev k235:=kd "__init__" "NoName.__init__" 476 55 2 3 230 481
abbrev k236:=kf (Mine.sb 13 0) k235 cN 235
abbrev k238(P:Params):Obj:=kz P cN 471 53 [ki P 483 236,ks P 485 237,ko P 486] 2
abbrev k239:=kt "NoName" (.ref 24) (.ref 239) (.ref 24::mE) 238 (some (.ref 223)) 464 472 "ValueError.__new__" []
abbrev k254:=kd "__init__" "Fault.__init__" 501 60 5 3 249 509
abbrev k255:=kf (Mine.sb 14 0) k254 cN 254
abbrev k257(P:Params):Obj:=kz P cN 496 58 [ki P 511 255,ks P 516 256,ko P 517] 2
abbrev k258:=kt "Fault" (.ref 24) (.ref 258) (.ref 24::mE) 257 (some (.ref 242)) 489 497 "ValueError.__new__" []
abbrev k264:=kv "is_name" 528 70 1 3 261 531
abbrev k265:=kf (Mine.top 19) k264 Q0 264
abbrev k269:=kv "are_names" 534 76 2 3 266 537
abbrev k270:=kf (Mine.top 20) k269 Q0 269
abbrev k276:=ku "is_address" 540 79 1 3 271 544
abbrev k277:=kf (Mine.top 21) k276 Q0 276
abbrev k281:=kv "is_number" 557 86 1 3 278 560
abbrev k282:=kf (Mine.top 27) k281 Ec 281
abbrev k288:=ku "read_path" 563 92 1 3 283 567
abbrev k289:=kf (Mine.top 28) k288 Ec 288
abbrev k295:=ku "read_term" 570 96 2 3 290 575
abbrev k296:=kf (Mine.top 29) k295 Ec 295
abbrev k302:=ku "read_sign" 578 102 1 3 297 582
abbrev k303:=kf (Mine.top 30) k302 Ec 302
abbrev k309:=ku "read_expr" 585 108 1 3 304 592
abbrev k310:=kf (Mine.top 31) k309 Ec 309
abbrev k316:=ku "show_term" 595 120 2 3 311 601
abbrev k317:=kf (Mine.top 32) k316 Ec 316
abbrev k323:=ku "show_expr" 604 127 1 3 318 612
abbrev k324:=kf (Mine.top 33) k323 Ec 323
abbrev k328:=kv "has_call" 615 134 1 3 325 618
abbrev k329:=kf (Mine.top 34) k328 Ec 328
abbrev k342:=kd "__init__" "Part.__init__" 635 139 3 3 337 641
abbrev k343:=kf (Mine.sb 36 0) k342 Fp 342
abbrev k347:=kb "bound" "Part.bound" 644 143 1 3 344 647
abbrev k348:=kf (Mine.sb 36 1) k347 Fp 347
abbrev k354:=kd "place_of" "Part.place_of" 650 147 2 3 349 657
abbrev k355:=kf (Mine.sb 36 2) k354 Fp 354
abbrev k359:=kb "text" "Part.text" 660 155 1 3 356 663
abbrev k360:=kf (Mine.sb 36 3) k359 Fp 359
abbrev k362(P:Params):Obj:=kz P Fp 630 137 [ki P 643 343,ke P "bound" 649 (.ref 348),ke P "place_of" 659 (.ref 355),ke P "text" 665 (.ref 360),ks P 668 361,kx P 670 364,kw P 672 365,ko P 673] 4
abbrev k363:=kt "Part" (.type "object") (.ref 363) mO 362 none 623 631 "object.__new__" []
abbrev k364:=g1 669 363
abbrev k365:=g2 671 363
abbrev k380:=kd "binds" "Row.binds" 690 160 1 3 375 694
abbrev k381:=kf (Mine.sb 38 0) k380 dh 380
abbrev k387:=kd "asked" "Row.asked" 697 163 1 3 382 701
abbrev k388:=kf (Mine.sb 38 1) k387 dh 387
abbrev k394:=kd "said" "Row.said" 704 166 1 3 389 708
abbrev k395:=kf (Mine.sb 38 2) k394 dh 394
abbrev k397(P:Params):Obj:=kz P dh 685 158 [ke P "binds" 696 (.ref 381),ke P "asked" 703 (.ref 388),ke P "said" 710 (.ref 395),ks P 711 396,kx P 713 399,kw P 715 400,ko P 716] 4
abbrev k398:=kt "Row" (.type "object") (.ref 398) mO 397 none 678 686 "object.__new__" [.ref 433,.ref 466,.ref 506,.ref 546,.ref 586,.ref 612]
abbrev k399:=g1 712 398
abbrev k400:=g2 714 398
abbrev k415:=kd "__init__" "Let.__init__" 731 170 3 3 410 737
abbrev k416:=kf (Mine.sb 39 0) k415 dh 415
abbrev k422:=kd "binds" "Let.binds" 740 174 1 3 417 744
abbrev k423:=kf (Mine.sb 39 1) k422 dh 422
abbrev k429:=kd "said" "Let.said" 747 177 1 3 424 751
abbrev k430:=kf (Mine.sb 39 2) k429 dh 429
abbrev k432(P:Params):Obj:=kz P dh 726 168 [ki P 739 416,ke P "binds" 746 (.ref 423),ke P "said" 753 (.ref 430),ks P 756 431,ko P 757] 2
abbrev k433:=kt "Let" (.ref 398) (.ref 433) (.ref 398::mO) 432 (some (.ref 403)) 719 727 "object.__new__" []
abbrev k448:=kd "__init__" "Deed.__init__" 772 181 3 3 443 778
abbrev k449:=kf (Mine.sb 40 0) k448 dh 448
abbrev k455:=kd "binds" "Deed.binds" 781 185 1 3 450 785
abbrev k456:=kf (Mine.sb 40 1) k455 dh 455
abbrev k462:=kd "said" "Deed.said" 788 188 1 3 457 792
abbrev k463:=kf (Mine.sb 40 2) k462 dh 462
abbrev k465(P:Params):Obj:=kz P dh 767 179 [ki P 780 449,ke P "binds" 787 (.ref 456),ke P "said" 794 (.ref 463),ks P 797 464,ko P 798] 2
abbrev k466:=kt "Deed" (.ref 398) (.ref 466) (.ref 398::mO) 465 (some (.ref 436)) 760 768 "object.__new__" []
abbrev k481:=kd "__init__" "Draw.__init__" 813 192 3 3 476 819
abbrev k482:=kf (Mine.sb 41 0) k481 dh 481
abbrev k488:=kd "binds" "Draw.binds" 822 196 1 3 483 826
abbrev k489:=kf (Mine.sb 41 1) k488 dh 488
abbrev k495:=kd "asked" "Draw.asked" 829 199 1 3 490 833
abbrev k496:=kf (Mine.sb 41 2) k495 dh 495
abbrev k502:=kd "said" "Draw.said" 836 202 1 3 497 840
abbrev k503:=kf (Mine.sb 41 3) k502 dh 502
abbrev k505(P:Params):Obj:=kz P dh 808 190 [ki P 821 482,ke P "binds" 828 (.ref 489),ke P "asked" 835 (.ref 496),ke P "said" 842 (.ref 503),ks P 845 504,ko P 846] 2
abbrev k506:=kt "Draw" (.ref 398) (.ref 506) (.ref 398::mO) 505 (some (.ref 469)) 801 809 "object.__new__" []
abbrev k521:=kd "__init__" "Late.__init__" 861 206 3 3 516 867
abbrev k522:=kf (Mine.sb 42 0) k521 dh 521
abbrev k528:=kd "binds" "Late.binds" 870 210 1 3 523 874
abbrev k529:=kf (Mine.sb 42 1) k528 dh 528
abbrev k535:=kd "asked" "Late.asked" 877 213 1 3 530 881
abbrev k536:=kf (Mine.sb 42 2) k535 dh 535
abbrev k542:=kd "said" "Late.said" 884 216 1 3 537 888
abbrev k543:=kf (Mine.sb 42 3) k542 dh 542
abbrev k545(P:Params):Obj:=kz P dh 856 204 [ki P 869 522,ke P "binds" 876 (.ref 529),ke P "asked" 883 (.ref 536),ke P "said" 890 (.ref 543),ks P 893 544,ko P 894] 2
abbrev k546:=kt "Late" (.ref 398) (.ref 546) (.ref 398::mO) 545 (some (.ref 509)) 849 857 "object.__new__" []
abbrev k561:=kd "__init__" "Take.__init__" 909 220 4 3 556 916
abbrev k562:=kf (Mine.sb 43 0) k561 dh 561
abbrev k568:=kd "binds" "Take.binds" 919 225 1 3 563 923
abbrev k569:=kf (Mine.sb 43 1) k568 dh 568
abbrev k575:=kd "asked" "Take.asked" 926 228 1 3 570 930
abbrev k576:=kf (Mine.sb 43 2) k575 dh 575
abbrev k582:=kd "said" "Take.said" 933 231 1 3 577 937
abbrev k583:=kf (Mine.sb 43 3) k582 dh 582
abbrev k585(P:Params):Obj:=kz P dh 904 218 [ki P 918 562,ke P "binds" 925 (.ref 569),ke P "asked" 932 (.ref 576),ke P "said" 939 (.ref 583),ks P 943 584,ko P 944] 2
abbrev k586:=kt "Take" (.ref 398) (.ref 586) (.ref 398::mO) 585 (some (.ref 549)) 897 905 "object.__new__" []
abbrev k601:=kd "__init__" "Need.__init__" 959 235 2 3 596 964
abbrev k602:=kf (Mine.sb 44 0) k601 dh 601
abbrev k608:=kd "said" "Need.said" 967 238 1 3 603 971
abbrev k609:=kf (Mine.sb 44 1) k608 dh 608
abbrev k611(P:Params):Obj:=kz P dh 954 233 [ki P 966 602,ke P "said" 973 (.ref 609),ks P 975 610,ko P 976] 2
abbrev k612:=kt "Need" (.ref 398) (.ref 612) (.ref 398::mO) 611 (some (.ref 589)) 947 955 "object.__new__" []
abbrev k620:=ku "names_expr" 983 242 1 3 615 987
abbrev k621:=kf (Mine.top 47) k620 zY 620
abbrev k627:=ku "names_address" 990 244 1 3 622 994
abbrev k628:=kf (Mine.top 48) k627 zY 627
abbrev k634:=ku "names_word" 997 246 1 3 629 1001
abbrev k635:=kf (Mine.top 49) k634 zY 634
abbrev k641:=ku "terms_from" 1004 250 2 3 636 1009
abbrev k642:=kf (Mine.top 50) k641 zY 641
abbrev k648:=ku "deed_of" 1012 252 2 3 643 1017
abbrev k649:=kf (Mine.top 51) k648 zY 648
abbrev k655:=ku "row_of" 1020 256 1 3 650 1025
abbrev k656:=kf (Mine.top 52) k655 zY 655
abbrev k662:=ku "row_at" 1028 271 2 3 657 1034
abbrev k663:=kf (Mine.top 53) k662 zY 662
abbrev k669:=ku "read_head" 1037 279 1 3 664 1042
abbrev k670:=kf (Mine.top 54) k669 zY 669
abbrev k676:=ku "read_part" 1045 284 1 3 671 1055
abbrev k677:=kf (Mine.top 55) k676 zY 676
abbrev k683:=ku "_law_cell" 1060 299 2 3 678 1065
abbrev k684:=kf (Mine.top 57) k683 cQ 683
abbrev k690:=ku "_law_sub" 1068 303 2 3 685 1073
abbrev k691:=kf (Mine.top 58) k690 cQ 690
abbrev k697:=ku "_law_number" 1076 307 2 3 692 1081
abbrev k698:=kf (Mine.top 59) k697 cQ 697
abbrev k704:=ku "_law_pick" 1084 311 3 3 699 1093
abbrev k705:=kf (Mine.top 60) k704 cQ 704
abbrev k709:=kv "_law_names" 1096 320 2 3 706 1099
abbrev k710:=kf (Mine.top 61) k709 cQ 709
abbrev k714:=kv "_law_name" 1102 336 1 3 711 1105
abbrev k715:=kf (Mine.top 62) k714 cQ 714
abbrev k721:=ku "_law_label" 1108 339 1 3 716 1113
abbrev k722:=kf (Mine.top 63) k721 cQ 721
abbrev k726:=kv "_law_address" 1116 344 1 3 723 1119
abbrev k727:=kf (Mine.top 64) k726 cQ 726
abbrev k731:=kv "_law_term" 1122 346 2 3 728 1125
abbrev k732:=kf (Mine.top 65) k731 cQ 731
abbrev k736:=kv "_law_terms" 1128 354 1 3 733 1131
abbrev k737:=kf (Mine.top 66) k736 cQ 736
abbrev k743:=ku "_law_word" 1134 356 1 3 738 1141
abbrev k744:=kf (Mine.top 67) k743 cQ 743
abbrev k750:=ku "_law_text" 1144 361 1 3 745 1150
abbrev k751:=kf (Mine.top 68) k750 cQ 750
abbrev k755:=kv "_law_row" 1153 366 2 3 752 1156
abbrev k756:=kf (Mine.top 69) k755 cQ 755
abbrev k762:=ku "_law_said" 1159 374 1 3 757 1168
abbrev k763:=kf (Mine.top 70) k762 cQ 762
abbrev k769:=ku "_law_whole" 1171 383 1 3 764 1175
abbrev k770:=kf (Mine.top 71) k769 cQ 769
abbrev k776:=ku "_law_term_is" 1178 385 2 3 771 1183
abbrev k777:=kf (Mine.top 72) k776 cQ 776
abbrev k781:=kv "_law_terms_are" 1186 391 2 3 778 1189
abbrev k782:=kf (Mine.top 73) k781 cQ 781
abbrev k786:=kv "_law_is" 1192 395 2 3 783 1195
abbrev k787:=kf (Mine.top 74) k786 cQ 786
abbrev k793:=ku "_law_says" 1198 409 2 3 788 1207
abbrev k794:=kf (Mine.top 75) k793 cQ 793
abbrev k800:=ku "_law_is_name" 1210 418 1 3 795 1215
abbrev k801:=kf (Mine.top 76) k800 cQ 800
abbrev k805:=kv "_law_is_address" 1218 423 1 3 802 1221
abbrev k806:=kf (Mine.top 77) k805 cQ 805
abbrev k810:=kv "_law_read_word" 1224 426 2 3 807 1227
abbrev k811:=kf (Mine.top 78) k810 cQ 810
abbrev k817:=ku "_law_read" 1230 440 1 3 812 1237
abbrev k818:=kf (Mine.top 79) k817 cQ 817
abbrev k822:=kv "_law_read_told" 1240 452 1 3 819 1243
abbrev k823:=kf (Mine.top 80) k822 cQ 822
abbrev k829:=ku "_law_read_row" 1246 459 1 3 824 1251
abbrev k830:=kf (Mine.top 81) k829 cQ 829
abbrev k836:=ku "_law_worded" 1254 472 2 3 831 1263
abbrev k837:=kf (Mine.top 82) k836 cQ 836
abbrev k843:=ku "_law_signed" 1266 495 2 3 838 1275
abbrev k844:=kf (Mine.top 83) k843 cQ 843
abbrev k850:=ku "_law_what" 1278 508 1 3 845 1284
abbrev k851:=kf (Mine.top 84) k850 cQ 850
abbrev k857:=ku "_law_told" 1287 514 1 3 852 1292
abbrev k858:=kf (Mine.top 85) k857 cQ 857
abbrev k864:=ku "_law_line" 1295 520 3 3 859 1305
abbrev k865:=kf (Mine.top 86) k864 cQ 864
abbrev k869:=kv "_law_due" 1308 532 1 3 866 1311
abbrev k870:=kf (Mine.top 87) k869 cQ 869
abbrev k874:=kv "_law_holds" 1314 547 4 3 871 1317
abbrev k875:=kf (Mine.top 88) k874 cQ 874
abbrev k879:=kv "law" 1320 556 1 3 876 1323
abbrev k880:=kf (Mine.top 89) k879 cQ 879
def myK:Params->Frag:=fun P =>
 (nat_lit 2,{cls:=Value.none,data:=Data.dict #[]}) ::
 (nat_lit 3,k3 P) ::
 (nat_lit 23,k23 P) ::
 (nat_lit 24,k24) ::
 (nat_lit 25,k25) ::
 (nat_lit 36,k36 P) ::
 (nat_lit 37,k37) ::
 (nat_lit 48,k48 P) ::
 (nat_lit 49,k49) ::
 (nat_lit 64,k64) ::
 (nat_lit 65,k65) ::
 (nat_lit 67,k67 P) ::
 (nat_lit 68,k68) ::
 (nat_lit 83,k83) ::
 (nat_lit 84,k84) ::
 (nat_lit 86,k86 P) ::
 (nat_lit 87,k87) ::
 (nat_lit 102,k102) ::
 (nat_lit 103,k103) ::
 (nat_lit 105,k105 P) ::
 (nat_lit 106,k106) ::
 (nat_lit 121,k121) ::
 (nat_lit 122,k122) ::
 (nat_lit 124,k124 P) ::
 (nat_lit 125,k125) ::
 (nat_lit 140,k140) ::
 (nat_lit 141,k141) ::
 (nat_lit 143,k143 P) ::
 (nat_lit 144,k144) ::
 (nat_lit 159,k159) ::
 (nat_lit 160,k160) ::
 (nat_lit 162,k162 P) ::
 (nat_lit 163,k163) ::
 (nat_lit 178,k178) ::
 (nat_lit 179,k179) ::
 (nat_lit 181,k181 P) ::
 (nat_lit 182,k182) ::
 (nat_lit 197,k197) ::
 (nat_lit 198,k198) ::
 (nat_lit 200,k200 P) ::
 (nat_lit 201,k201) ::
 (nat_lit 216,k216) ::
 (nat_lit 217,k217) ::
 (nat_lit 219,k219 P) ::
 (nat_lit 220,k220) ::
 (nat_lit 235,k235) ::
 (nat_lit 236,k236) ::
 (nat_lit 238,k238 P) ::
 (nat_lit 239,k239) ::
 (nat_lit 254,k254) ::
 (nat_lit 255,k255) ::
 (nat_lit 257,k257 P) ::
 (nat_lit 258,k258) ::
 (nat_lit 264,k264) ::
 (nat_lit 265,k265) ::
 (nat_lit 269,k269) ::
 (nat_lit 270,k270) ::
 (nat_lit 276,k276) ::
 (nat_lit 277,k277) ::
 (nat_lit 281,k281) ::
 (nat_lit 282,k282) ::
 (nat_lit 288,k288) ::
 (nat_lit 289,k289) ::
 (nat_lit 295,k295) ::
 (nat_lit 296,k296) ::
 (nat_lit 302,k302) ::
 (nat_lit 303,k303) ::
 (nat_lit 309,k309) ::
 (nat_lit 310,k310) ::
 (nat_lit 316,k316) ::
 (nat_lit 317,k317) ::
 (nat_lit 323,k323) ::
 (nat_lit 324,k324) ::
 (nat_lit 328,k328) ::
 (nat_lit 329,k329) ::
 (nat_lit 342,k342) ::
 (nat_lit 343,k343) ::
 (nat_lit 347,k347) ::
 (nat_lit 348,k348) ::
 (nat_lit 354,k354) ::
 (nat_lit 355,k355) ::
 (nat_lit 359,k359) ::
 (nat_lit 360,k360) ::
 (nat_lit 362,k362 P) ::
 (nat_lit 363,k363) ::
 (nat_lit 364,k364) ::
 (nat_lit 365,k365) ::
 (nat_lit 380,k380) ::
 (nat_lit 381,k381) ::
 (nat_lit 387,k387) ::
 (nat_lit 388,k388) ::
 (nat_lit 394,k394) ::
 (nat_lit 395,k395) ::
 (nat_lit 397,k397 P) ::
 (nat_lit 398,k398) ::
 (nat_lit 399,k399) ::
 (nat_lit 400,k400) ::
 (nat_lit 415,k415) ::
 (nat_lit 416,k416) ::
 (nat_lit 422,k422) ::
 (nat_lit 423,k423) ::
 (nat_lit 429,k429) ::
 (nat_lit 430,k430) ::
 (nat_lit 432,k432 P) ::
 (nat_lit 433,k433) ::
 (nat_lit 448,k448) ::
 (nat_lit 449,k449) ::
 (nat_lit 455,k455) ::
 (nat_lit 456,k456) ::
 (nat_lit 462,k462) ::
 (nat_lit 463,k463) ::
 (nat_lit 465,k465 P) ::
 (nat_lit 466,k466) ::
 (nat_lit 481,k481) ::
 (nat_lit 482,k482) ::
 (nat_lit 488,k488) ::
 (nat_lit 489,k489) ::
 (nat_lit 495,k495) ::
 (nat_lit 496,k496) ::
 (nat_lit 502,k502) ::
 (nat_lit 503,k503) ::
 (nat_lit 505,k505 P) ::
 (nat_lit 506,k506) ::
 (nat_lit 521,k521) ::
 (nat_lit 522,k522) ::
 (nat_lit 528,k528) ::
 (nat_lit 529,k529) ::
 (nat_lit 535,k535) ::
 (nat_lit 536,k536) ::
 (nat_lit 542,k542) ::
 (nat_lit 543,k543) ::
 (nat_lit 545,k545 P) ::
 (nat_lit 546,k546) ::
 (nat_lit 561,k561) ::
 (nat_lit 562,k562) ::
 (nat_lit 568,k568) ::
 (nat_lit 569,k569) ::
 (nat_lit 575,k575) ::
 (nat_lit 576,k576) ::
 (nat_lit 582,k582) ::
 (nat_lit 583,k583) ::
 (nat_lit 585,k585 P) ::
 (nat_lit 586,k586) ::
 (nat_lit 601,k601) ::
 (nat_lit 602,k602) ::
 (nat_lit 608,k608) ::
 (nat_lit 609,k609) ::
 (nat_lit 611,k611 P) ::
 (nat_lit 612,k612) ::
 (nat_lit 620,k620) ::
 (nat_lit 621,k621) ::
 (nat_lit 627,k627) ::
 (nat_lit 628,k628) ::
 (nat_lit 634,k634) ::
 (nat_lit 635,k635) ::
 (nat_lit 641,k641) ::
 (nat_lit 642,k642) ::
 (nat_lit 648,k648) ::
 (nat_lit 649,k649) ::
 (nat_lit 655,k655) ::
 (nat_lit 656,k656) ::
 (nat_lit 662,k662) ::
 (nat_lit 663,k663) ::
 (nat_lit 669,k669) ::
 (nat_lit 670,k670) ::
 (nat_lit 676,k676) ::
 (nat_lit 677,k677) ::
 (nat_lit 683,k683) ::
 (nat_lit 684,k684) ::
 (nat_lit 690,k690) ::
 (nat_lit 691,k691) ::
 (nat_lit 697,k697) ::
 (nat_lit 698,k698) ::
 (nat_lit 704,k704) ::
 (nat_lit 705,k705) ::
 (nat_lit 709,k709) ::
 (nat_lit 710,k710) ::
 (nat_lit 714,k714) ::
 (nat_lit 715,k715) ::
 (nat_lit 721,k721) ::
 (nat_lit 722,k722) ::
 (nat_lit 726,k726) ::
 (nat_lit 727,k727) ::
 (nat_lit 731,k731) ::
 (nat_lit 732,k732) ::
 (nat_lit 736,k736) ::
 (nat_lit 737,k737) ::
 (nat_lit 743,k743) ::
 (nat_lit 744,k744) ::
 (nat_lit 750,k750) ::
 (nat_lit 751,k751) ::
 (nat_lit 755,k755) ::
 (nat_lit 756,k756) ::
 (nat_lit 762,k762) ::
 (nat_lit 763,k763) ::
 (nat_lit 769,k769) ::
 (nat_lit 770,k770) ::
 (nat_lit 776,k776) ::
 (nat_lit 777,k777) ::
 (nat_lit 781,k781) ::
 (nat_lit 782,k782) ::
 (nat_lit 786,k786) ::
 (nat_lit 787,k787) ::
 (nat_lit 793,k793) ::
 (nat_lit 794,k794) ::
 (nat_lit 800,k800) ::
 (nat_lit 801,k801) ::
 (nat_lit 805,k805) ::
 (nat_lit 806,k806) ::
 (nat_lit 810,k810) ::
 (nat_lit 811,k811) ::
 (nat_lit 817,k817) ::
 (nat_lit 818,k818) ::
 (nat_lit 822,k822) ::
 (nat_lit 823,k823) ::
 (nat_lit 829,k829) ::
 (nat_lit 830,k830) ::
 (nat_lit 836,k836) ::
 (nat_lit 837,k837) ::
 (nat_lit 843,k843) ::
 (nat_lit 844,k844) ::
 (nat_lit 850,k850) ::
 (nat_lit 851,k851) ::
 (nat_lit 857,k857) ::
 (nat_lit 858,k858) ::
 (nat_lit 864,k864) ::
 (nat_lit 865,k865) ::
 (nat_lit 869,k869) ::
 (nat_lit 870,k870) ::
 (nat_lit 874,k874) ::
 (nat_lit 875,k875) ::
 (nat_lit 879,k879) ::
 (nat_lit 880,k880) ::
 []
end
end Mine
set_option maxHeartbeats 0
namespace Hd
noncomputable section
open PySem PySem.W PySem.Calls PyProof.Rows Mine
noncomputable def put (t:BT):Nat -> Obj -> BT:=BT.rec (motive:=fun _=>Nat -> Obj -> BT) (fun _ o=>.node o .nil .nil) (fun v l r x y i o=>match i with | 0=>.node o l r | j + 1=>bif Nat.beq (j % 2) 0 then .node v (x (j / 2) o) r else .node v l (y (j / 2) o)) t
noncomputable def Jr(t:BT)(l:List (Nat×Obj)):BT:=l.foldl (fun t p=>put t p.1 p.2) t
noncomputable def fo(s:Stmt)(n q m:Str)(t c:Nat):Obj:=⟨.type "function",none,.func {name:=n,qualname:=q,params:=L2.eO s,body:=.stmts (L2.cT s),scope:=L2.aC s,globals:=3,closure:=[],defaults:=.none,kwdefaults:=.none,pyModule:=.str m t,code:=.ref c},#[]⟩
noncomputable def pf(s:Stmt)(n q:Str):Obj:=⟨.none,none,.func {name:=n,qualname:=q,params:=L2.eO s,body:=.stmts (L2.cT s),scope:=L2.aC s,globals:=0,closure:=[],defaults:=.none,kwdefaults:=.none},#[]⟩
noncomputable def tu(l:List Value):Obj:=⟨.type "tuple",none,.seq l.toArray,#[]⟩
def eT:Obj:=tu []
def eF:Obj:={cls:=.none,data:=.fields #[]}
noncomputable def co(n q:Str)(a b c:Nat)(l k:Int)(f r:Nat)(t:Bool)(g:Int)(u:Nat)(x y z:Value)(v:Nat)(m:Int)(e:Nat):Obj:={cls:=.type "code",data:=.fields #[.str n a,.str q b,.str "/claim/cut.py" c,.int l 0,.int k 0,.int 0 0,.int 0 0,.int f 0,.ref r,.bool t,.int g 0,.ref u,x,y,z,.ref v,.int m 0,.int l 0,.str "/claim/cut.py" e]}
noncomputable def pl(t:BT)(a:Nat)(l:List Obj):BT:=List.rec (motive:=fun _=>BT->Nat->BT) (fun t _=>t) (fun o _ f t a=>f (put t a o) (a+1)) l t a
noncomputable def fm(c d:Nat)(m:Value):Obj:={cls:=.type "frame",slots:=#[some (.ref c),some (.ref 3),some (.ref d),none,some m,none,some (.ref 0)]}
noncomputable def su(x:Nat):Obj:={cls:=.type "super",data:=.fields #[.ref x,.ref x,.ref x]}
noncomputable def ib(x:Nat):Obj:={cls:=.type "builtin_function_or_method",data:=.fields #[.builtin "object.__init_subclass__",.ref x]}
noncomputable def cc(n:Str)(a:Nat)(l:Int)(r:Nat)(b:Int):Obj:={cls:=.type "code",data:=.fields #[.str n a,.str n (a+1),.str "/claim/cut.py" (a+2),.int l 0,.int 0 0,.int 0 0,.int 0 0,.int 0 0,.ref r,.bool false,.int 181 0,.ref (r+1),.none,.none,.none,.none,.int b 0,.int l 0,.str "/claim/cut.py" (a+4)]}
noncomputable def di(P:Params)(m:Value)(n:Str)(a:Nat)(l:Int)(r:List DictEntry)(k:Nat):Obj:={cls:=.type "dict",data:=.dict (List.toArray (ke P "__module__" a m::ke P "__qualname__" (a+2) (.str n (a+1))::ke P "__firstlineno__" (a+4) (.int l (a+3))::r)) k}
noncomputable def f3(a b:Int)(c:Nat)(r:List Value):List Value:=.int a 0::.int b 0::.ref c::r
noncomputable def fl(l:List Value):Obj:={cls:=.none,data:=.fields l.toArray}
noncomputable def tv(t:Nat)(l:List Str):List Value:=List.rec (motive:=fun _=>Nat->List Value) (fun _=>[]) (fun x _ f t=>.str x t::f (t+1)) l t
noncomputable def tw(t:Nat)(l:List Str):Obj:=tu (tv t l)
noncomputable def df(s:Stmt)(v c f:Obj)(r:List Obj):List Obj:=eT::eF::v::eT::pf s (nq true c) (nq false c)::c::f::r
noncomputable def de(s:Stmt)(c f:Obj)(r:List Obj):List Obj:=eT::eF::pf s (nq true c) (nq false c)::c::f::r
def env:Env:={scope:=pz.main.scope,locals:=mainNs,globals:=mainNs,cells:=[],code:=Value.ref 13,frame:=some 14}
def cE:Code:=.body (behindTheImports pz) env
def fr:List Frame:=[topFrame {line:=0,col:=0,endLine:=0,endCol:=0}]
noncomputable def sl(a n:Nat):List Stmt:=((behindTheImports pz).drop a).take n
def Tw:Value:=.str "__main__" 164
def o12:Obj:=fl (f3 2 0 20 (f3 4 0 33 (f3 6 0 45 (f3 8 0 57 (f3 13 0 76 (f3 18 0 95 (f3 23 0 114 (f3 28 0 133 (f3 33 0 152 (f3 38 0 171 (f3 43 0 190 (f3 48 0 209 (f3 53 0 228 (f3 58 0 247 (f3 70 0 264 (f3 76 0 269 (f3 79 0 276 (f3 86 0 281 (f3 92 0 288 (f3 96 0 295 (f3 102 0 302 (f3 108 0 309 (f3 120 0 316 (f3 127 0 323 (f3 134 0 328 (f3 137 0 335 (f3 158 0 373 (f3 168 0 408 (f3 179 0 441 (f3 190 0 474 (f3 204 0 514 (f3 218 0 554 (f3 233 0 594 (f3 242 0 620 (f3 244 0 627 (f3 246 0 634 (f3 250 0 641 (f3 252 0 648 (f3 256 0 655 (f3 271 0 662 (f3 279 0 669 (f3 284 0 676 (f3 299 0 683 (f3 303 0 690 (f3 307 0 697 (f3 311 0 704 (f3 320 0 709 (f3 336 0 714 (f3 339 0 721 (f3 344 0 726 (f3 346 0 731 (f3 354 0 736 (f3 356 0 743 (f3 361 0 750 (f3 366 0 755 (f3 374 0 762 (f3 383 0 769 (f3 385 0 776 (f3 391 0 781 (f3 395 0 786 (f3 409 0 793 (f3 418 0 800 (f3 423 0 805 (f3 426 0 810 (f3 440 0 817 (f3 452 0 822 (f3 459 0 829 (f3 472 0 836 (f3 495 0 843 (f3 508 0 850 (f3 514 0 857 (f3 520 0 864 (f3 532 0 869 (f3 547 0 874 (f3 556 0 879 [])))))))))))))))))))))))))))))))))))))))))))))))))))))))))))))))))))))))))))
def o16:Obj:={cls:=.type "builtin_function_or_method",data:=.fields #[.builtin "type.__prepare__",.type "type"]}
variable (P:Params) (r:List Obj)
def hA0:List Obj:=boot_o_0 P::boot_o_1 P::boot_o_2 P::boot_o_3 P::boot_o_4 P::boot_o_5 P::boot_o_6 P::boot_o_7 P::boot_o_8 P::boot_o_9 P::boot_o_10 P::eT::eF::cc "<module>" 182 1 11 185::fm 13 3 Tw::r
def hA:Heap:=⟨Array.mk (hA0 P []),{}⟩
noncomputable def Lp(w:World)(os:OsState):Option (Shared×Thread):=topGo treeTable pz w 11 (some (Value.ref 6)) 12 ⟨boot_heap w.params,Array.mk [],boot_drawn,boot_toks,os⟩ (topStub pz)
noncomputable def Rp(w:World)(os:OsState):Option (Shared×Thread):=some (⟨hA w.params,Array.mk [],{},nat_lit 187,os⟩,⟨denote treeTable cE,cE,{line:=0,col:=0,endLine:=0,endCol:=0},fr⟩)
theorem rLp:Lp=Lp:=rfl
name_quick Lp for Hd.Lp by Hd.rLp
theorem rRp:Rp=Rp:=rfl
name_quick Rp for Hd.Rp by Hd.rRp
theorem qp:PySem.W.Fast.Lp=PySem.W.Fast.Rp:=by kernel_rfl
theorem ep:Lp=Rp:=PySem.W.Fast.Lp_eq.trans (qp.trans PySem.W.Fast.Rp_eq.symm)
def t0:BT:=pl .nil 0 (hA0 P [])
def Lb(w:World)(os:OsState):Option (Flow×Shared×Code×Pos):=segRun treeTable pz w 11 (some (Value.ref 6)) 1 1 ⟨hA w.params,Array.mk [],{},nat_lit 187,os⟩ (blockOf (behindTheImports pz) env cE {line:=0,col:=0,endLine:=0,endCol:=0} fr)
def Rb(w:World)(os:OsState):Option (Flow×Shared×Code×Pos):=some (.next,SharedT.abs ⟨t0 w.params,nat_lit 15,{},Array.mk [],{},nat_lit 187,os⟩,cE,{line:=0,col:=0,endLine:=0,endCol:=0})
theorem rLb:Lb=Lb:=rfl
name_quick Lb for Hd.Lb by Hd.rLb
theorem rRb:Rb=Rb:=rfl
name_quick Rb for Hd.Rb by Hd.rRb
theorem qb:PySem.W.Fast.Lb=PySem.W.Fast.Rb:=by kernel_rfl
theorem eb:Lb=Rb:=PySem.W.Fast.Lb_eq.trans (qb.trans PySem.W.Fast.Rb_eq.symm)
def c0:List Obj:=boot_o_0 P::boot_o_1 P::boot_o_2 P::k3 P::boot_o_4 P::boot_o_5 P::boot_o_6 P::boot_o_7 P::boot_o_8 P::boot_o_9 P::boot_o_10 P::eT::o12::cc "<module>" 182 1 11 185::fm 13 3 Tw::r
def c15:List Obj:=tu [.type "ValueError"]::o16::di P cN "HouseError" 196 2 [ks P 201 22] 4::eT::eF::cc "HouseError" 191 2 18 194::fm 20 17 cN::eT::k23 P::k24::r
def c25:List Obj:=k25::su 24::ib 24::tu [.ref 24]::o16::di P cN "NoExpr" 214 4 [ks P 219 35] 4::eT::eF::cc "NoExpr" 209 4 31 212::fm 33 30 cN::r
def c35:List Obj:=eT::k36 P::k37::su 37::ib 37::tu [.ref 24]::o16::di P cN "TooWide" 230 6 [ks P 235 47] 4::eT::eF::r
def c45:List Obj:=cc "TooWide" 225 6 43 228::fm 45 42 cN::eT::k48 P::k49::su 49::ib 49::tu [.ref 24]::o16::di P cN "NoText" 246 8 [ki P 258 65,ks P 260 66] 5::r
def c55(P:Params)(r:List Obj):List Obj:=eT::fl (f3 10 4 64 [])::cc "NoText" 241 8 55 244::fm 57 54 cN::r
def c59:List Obj:=df (Mine.sb 4 0) (tw 254 ["self", "at"]) k64 k65 (tw 259 ["at"]::k67 P::k68::r)
def c69:List Obj:=su 68::ib 68::tu [.ref 24]::o16::di P cN "TooMany" 271 13 [ki P 283 84,ks P 285 85] 5::eT::fl (f3 15 4 83 [])::cc "TooMany" 266 13 74 269::fm 76 73 cN::r
def c78:List Obj:=df (Mine.sb 5 0) (tw 279 ["self", "at"]) k83 k84 (tw 284 ["at"]::k86 P::k87::r)
def c88:List Obj:=su 87::ib 87::tu [.ref 24]::o16::di P cN "Twice" 296 18 [ki P 308 103,ks P 310 104] 5::eT::fl (f3 20 4 102 [])::cc "Twice" 291 18 93 294::fm 95 92 cN::r
def c97:List Obj:=df (Mine.sb 6 0) (tw 304 ["self", "at"]) k102 k103 (tw 309 ["at"]::k105 P::k106::r)
def VP(P:Params)(r:List Obj):List Obj:=su 106::ib 106::r
def C0:List Obj:=c15 P (c25 P (c35 P (c45 P (c55 P (c59 P (c69 P (c78 P (c88 P (c97 P (VP P (r)))))))))))
def t1:BT:=Jr (pl (t0 P) 15 (C0 P [])) ((3,{cls:=.type "dict",data:=.dict (List.toArray (ke P "__name__" 165 (.str "drawhouse.errors" 187)::n0 P ([]))) 15})::(12,fl (f3 2 0 20 (f3 4 0 33 (f3 6 0 45 (f3 8 0 57 (f3 13 0 76 (f3 18 0 95 [])))))))::(24,{cls:=.type "type",data:=.cls {name:=Str.ofString "HouseError",bases:=[.type "ValueError"],mro:=[.ref 24,.type "ValueError",.type "Exception",.type "BaseException",.type "object"],ns:=23,qualname:=Str.ofString "HouseError",subclasses:=[.ref 37,.ref 49,.ref 68,.ref 87,.ref 106]},slots:=#[some (.ref 15),none,some (.str "HouseError" 189),some (.str "HouseError" 197),some (.builtin "ValueError.__new__"),some (.bool true)]})::[])
def L0(w:World)(os:OsState):Option (Flow×SharedT×Code×Pos):=segRunT treeTable pz w 11 (some (Value.ref 6)) 1 1357 ⟨t0 w.params,nat_lit 15,{},Array.mk [],{},nat_lit 187,os⟩ (piecesOf (sl 0 7) env cE {line:=0,col:=0,endLine:=0,endCol:=0} fr)
def R0(w:World)(os:OsState):Option (Flow×SharedT×Code×Pos):=some (.next,⟨t1 w.params,nat_lit 109,{},Array.mk [],{},nat_lit 314,os⟩,cE,{line:=18,col:=0,endLine:=22,endCol:=20})
theorem rL0:L0=L0:=rfl
name_quick L0 for Hd.L0 by Hd.rL0
theorem rR0:R0=R0:=rfl
name_quick R0 for Hd.R0 by Hd.rR0
theorem q0:PySem.W.Fast.L0=PySem.W.Fast.R0:=by kernel_rfl
theorem e0:L0=R0:=PySem.W.Fast.L0_eq.trans (q0.trans PySem.W.Fast.R0_eq.symm)
def WR:List Obj:=tu [.ref 24]::o16::di P cN "Double" 321 23 [ki P 333 122,ks P 335 123] 5::eT::fl (f3 25 4 121 [])::cc "Double" 316 23 112 319::fm 114 111 cN::r
def Ws:List Obj:=df (Mine.sb 7 0) (tw 329 ["self", "at"]) k121 k122 (tw 334 ["at"]::k124 P::k125::r)
def WX:List Obj:=su 125::ib 125::tu [.ref 24]::o16::di P cN "Orphan" 346 28 [ki P 358 141,ks P 360 142] 5::eT::fl (f3 30 4 140 [])::cc "Orphan" 341 28 131 344::fm 133 130 cN::r
def Wr:List Obj:=df (Mine.sb 8 0) (tw 354 ["self", "at"]) k140 k141 (tw 359 ["at"]::k143 P::k144::r)
def Wz:List Obj:=su 144::ib 144::tu [.ref 24]::o16::di P cN "Clash" 371 33 [ki P 383 160,ks P 385 161] 5::eT::fl (f3 35 4 159 [])::cc "Clash" 366 33 150 369::fm 152 149 cN::r
def Ut:List Obj:=df (Mine.sb 9 0) (tw 379 ["self", "at"]) k159 k160 (tw 384 ["at"]::k162 P::k163::r)
def U5:List Obj:=su 163::ib 163::tu [.ref 24]::o16::di P cN "NoRow" 396 38 [ki P 408 179,ks P 410 180] 5::eT::fl (f3 40 4 178 [])::cc "NoRow" 391 38 169 394::fm 171 168 cN::r
def WT:List Obj:=df (Mine.sb 10 0) (tw 404 ["self", "at"]) k178 k179 (tw 409 ["at"]::k181 P::k182::r)
def VR:List Obj:=su 182::ib 182::tu [.ref 24]::o16::di P cN "NoPart" 421 43 [ki P 433 198,ks P 435 199] 5::eT::fl (f3 45 4 197 [])::cc "NoPart" 416 43 188 419::fm 190 187 cN::r
def Vk:List Obj:=df (Mine.sb 11 0) (tw 429 ["self", "address"]) k197 k198 (tw 434 ["address"]::k200 P::k201::r)
def Uu:List Obj:=su 201::ib 201::tu [.ref 24]::o16::di P cN "NoDrop" 446 48 [ki P 458 217,ks P 460 218] 5::eT::fl (f3 50 4 216 [])::cc "NoDrop" 441 48 207 444::fm 209 206 cN::r
def U9:List Obj:=df (Mine.sb 12 0) (tw 454 ["self", "address"]) k216 k217 (tw 459 ["address"]::k219 P::k220::r)
def WD(P:Params)(r:List Obj):List Obj:=su 220::ib 220::r
def C1:List Obj:=WR P (Ws P (WX P (Wr P (Wz P (Ut P (U5 P (WT P (VR P (Vk P (Uu P (U9 P (WD P (r)))))))))))))
def t2:BT:=Jr (pl (t1 P) 109 (C1 P [])) ((3,{cls:=.type "dict",data:=.dict (List.toArray (ke P "__name__" 165 (.str "drawhouse.errors" 187)::n0 P (n1 P ([])))) 21})::(12,fl (f3 2 0 20 (f3 4 0 33 (f3 6 0 45 (f3 8 0 57 (f3 13 0 76 (f3 18 0 95 (f3 23 0 114 (f3 28 0 133 (f3 33 0 152 (f3 38 0 171 (f3 43 0 190 (f3 48 0 209 [])))))))))))))::(24,{cls:=.type "type",data:=.cls {name:=Str.ofString "HouseError",bases:=[.type "ValueError"],mro:=[.ref 24,.type "ValueError",.type "Exception",.type "BaseException",.type "object"],ns:=23,qualname:=Str.ofString "HouseError",subclasses:=[.ref 37,.ref 49,.ref 68,.ref 87,.ref 106,.ref 125,.ref 144,.ref 163,.ref 182,.ref 201,.ref 220]},slots:=#[some (.ref 15),none,some (.str "HouseError" 189),some (.str "HouseError" 197),some (.builtin "ValueError.__new__"),some (.bool true)]})::[])
def L1(w:World)(os:OsState):Option (Flow×SharedT×Code×Pos):=segRunT treeTable pz w 11 (some (Value.ref 6)) 1 1471 ⟨t1 w.params,nat_lit 109,{},Array.mk [],{},nat_lit 314,os⟩ (piecesOf (sl 7 6) env cE {line:=18,col:=0,endLine:=22,endCol:=20} fr)
def R1(w:World)(os:OsState):Option (Flow×SharedT×Code×Pos):=some (.next,⟨t2 w.params,nat_lit 223,{},Array.mk [],{},nat_lit 464,os⟩,cE,{line:=48,col:=0,endLine:=52,endCol:=30})
theorem rL1:L1=L1:=rfl
name_quick L1 for Hd.L1 by Hd.rL1
theorem rR1:R1=R1:=rfl
name_quick R1 for Hd.R1 by Hd.rR1
theorem q1:PySem.W.Fast.L1=PySem.W.Fast.R1:=by kernel_rfl
theorem e1:L1=R1:=PySem.W.Fast.L1_eq.trans (q1.trans PySem.W.Fast.R1_eq.symm)
def Wy:List Obj:=tu [.ref 24]::o16::di P cN "NoName" 471 53 [ki P 483 236,ks P 485 237] 5::eT::fl (f3 55 4 235 [])::cc "NoName" 466 53 226 469::fm 228 225 cN::r
def W0:List Obj:=df (Mine.sb 13 0) (tw 479 ["self", "name"]) k235 k236 (tw 484 ["name"]::k238 P::k239::r)
def Vd:List Obj:=su 239::ib 239::tu [.ref 24]::o16::di P cN "Fault" 496 58 [ki P 511 255,ks P 516 256] 5::eT::fl (f3 60 4 254 [])::cc "Fault" 491 58 245 494::fm 247 244 cN::r
def Ux:List Obj:=df (Mine.sb 14 0) (tw 504 ["self", "word", "trail", "whose", "name"]) k254 k255 (tw 512 ["name", "trail", "whose", "word"]::k257 P::k258::r)
def W6(P:Params)(r:List Obj):List Obj:=su 258::ib 258::de (Mine.top 19) k264 k265 (r)
def W2(P:Params)(r:List Obj):List Obj:=de (Mine.top 20) k269 k270 (r)
def Vu(P:Params)(r:List Obj):List Obj:=df (Mine.top 21) (tw 543 ["thing"]) k276 k277 (r)
def Wn(P:Params)(r:List Obj):List Obj:=de (Mine.top 27) k281 k282 (r)
def Vf(P:Params)(r:List Obj):List Obj:=df (Mine.top 28) (tw 566 ["word"]) k288 k289 (r)
def Vs(P:Params)(r:List Obj):List Obj:=df (Mine.top 29) (tw 573 ["sign", "word"]) k295 k296 (r)
def U3(P:Params)(r:List Obj):List Obj:=df (Mine.top 30) (tw 581 ["word"]) k302 k303 (r)
def Vl(P:Params)(r:List Obj):List Obj:=df (Mine.top 31) (tw 588 ["text", "words", "terms", "at"]) k309 k310 (r)
def U7(P:Params)(r:List Obj):List Obj:=df (Mine.top 32) (tw 598 ["kind", "thing", "path"]) k316 k317 (r)
def WF(P:Params)(r:List Obj):List Obj:=df (Mine.top 33) (tw 607 ["terms", "shown", "sign", "kind", "thing"]) k323 k324 (r)
def VB:List Obj:=de (Mine.top 34) k328 k329 (eT::o16::di P Fp "Part" 630 137 [ki P 643 343,ke P "bound" 649 (.ref 348),ke P "place_of" 659 (.ref 355),ke P "text" 665 (.ref 360),ks P 668 361] 8::eT::fl (f3 139 4 342 (f3 143 4 347 (f3 147 4 354 (f3 155 4 359 []))))::r)
def Vz(P:Params)(r:List Obj):List Obj:=cc "Part" 625 137 333 628::fm 335 332 Fp::df (Mine.sb 36 0) (tw 638 ["self", "address", "rows"]) k342 k343 (r)
def V0(P:Params)(r:List Obj):List Obj:=de (Mine.sb 36 1) k347 k348 (r)
def Vt(P:Params)(r:List Obj):List Obj:=df (Mine.sb 36 2) (tw 653 ["self", "name", "at", "row"]) k354 k355 (r)
def VV:List Obj:=de (Mine.sb 36 3) k359 k360 (tw 666 ["address", "rows"]::k362 P::k363::k364::k365::r)
def UL:List Obj:=su 363::ib 363::eT::o16::di P dh "Row" 685 158 [ke P "binds" 696 (.ref 381),ke P "asked" 703 (.ref 388),ke P "said" 710 (.ref 395),ks P 711 396] 7::eT::fl (f3 160 4 380 (f3 163 4 387 (f3 166 4 394 [])))::cc "Row" 680 158 371 683::fm 373 370 dh::r
def V7(P:Params)(r:List Obj):List Obj:=df (Mine.sb 38 0) (tw 693 ["self"]) k380 k381 (r)
def V9(P:Params)(r:List Obj):List Obj:=df (Mine.sb 38 1) (tw 700 ["self"]) k387 k388 (r)
def Vo:List Obj:=df (Mine.sb 38 2) (tw 707 ["self"]) k394 k395 (eT::k397 P::k398::r)
def Wv(P:Params)(r:List Obj):List Obj:=k399::k400::su 398::ib 398::r
def C2:List Obj:=Wy P (W0 P (Vd P (Ux P (W6 P (W2 P (Vu P (Wn P (Vf P (Vs P (U3 P (Vl P (U7 P (WF P (VB P (Vz P (V0 P (Vt P (VV P (UL P (V7 P (V9 P (Vo P (Wv P (r))))))))))))))))))))))))
def t3:BT:=Jr (pl (t2 P) 223 (C2 P [])) ((3,{cls:=.type "dict",data:=.dict (List.toArray (ke P "__name__" 165 (.str "drawhouse.rows" 676)::n0 P (n1 P (n2 P ([]))))) 43})::(12,fl (f3 2 0 20 (f3 4 0 33 (f3 6 0 45 (f3 8 0 57 (f3 13 0 76 (f3 18 0 95 (f3 23 0 114 (f3 28 0 133 (f3 33 0 152 (f3 38 0 171 (f3 43 0 190 (f3 48 0 209 (f3 53 0 228 (f3 58 0 247 (f3 70 0 264 (f3 76 0 269 (f3 79 0 276 (f3 86 0 281 (f3 92 0 288 (f3 96 0 295 (f3 102 0 302 (f3 108 0 309 (f3 120 0 316 (f3 127 0 323 (f3 134 0 328 (f3 137 0 335 (f3 158 0 373 []))))))))))))))))))))))))))))::(24,k24)::(398,{cls:=.type "type",data:=.cls {name:=Str.ofString "Row",bases:=[.type "object"],mro:=[.ref 398,.type "object"],ns:=397,qualname:=Str.ofString "Row" },slots:=#[none,none,some (.str "Row" 678),some (.str "Row" 686),some (.builtin "object.__new__"),some (.bool true)]})::[])
def L2(w:World)(os:OsState):Option (Flow×SharedT×Code×Pos):=segRunT treeTable pz w 11 (some (Value.ref 6)) 1 1509 ⟨t2 w.params,nat_lit 223,{},Array.mk [],{},nat_lit 464,os⟩ (piecesOf (sl 13 26) env cE {line:=48,col:=0,endLine:=52,endCol:=30} fr)
def R2(w:World)(os:OsState):Option (Flow×SharedT×Code×Pos):=some (.next,⟨t3 w.params,nat_lit 403,{},Array.mk [],{},nat_lit 719,os⟩,cE,{line:=158,col:=0,endLine:=167,endCol:=17})
theorem rL2:L2=L2:=rfl
name_quick L2 for Hd.L2 by Hd.rL2
theorem rR2:R2=R2:=rfl
name_quick R2 for Hd.R2 by Hd.rR2
theorem q2:PySem.W.Fast.L2=PySem.W.Fast.R2:=by kernel_rfl
theorem e2:L2=R2:=PySem.W.Fast.L2_eq.trans (q2.trans PySem.W.Fast.R2_eq.symm)
def WL:List Obj:=tu [.ref 398]::o16::di P dh "Let" 726 168 [ki P 739 416,ke P "binds" 746 (.ref 423),ke P "said" 753 (.ref 430),ks P 756 431] 7::eT::fl (f3 170 4 415 (f3 174 4 422 (f3 177 4 429 [])))::cc "Let" 721 168 406 724::fm 408 405 dh::r
def Vv(P:Params)(r:List Obj):List Obj:=df (Mine.sb 39 0) (tw 734 ["self", "name", "terms"]) k415 k416 (r)
def Vw(P:Params)(r:List Obj):List Obj:=df (Mine.sb 39 1) (tw 743 ["self"]) k422 k423 (r)
def Vg:List Obj:=df (Mine.sb 39 2) (tw 750 ["self"]) k429 k430 (tw 754 ["name", "terms"]::k432 P::k433::r)
def V6:List Obj:=su 433::ib 433::tu [.ref 398]::o16::di P dh "Deed" 767 179 [ki P 780 449,ke P "binds" 787 (.ref 456),ke P "said" 794 (.ref 463),ks P 797 464] 7::eT::fl (f3 181 4 448 (f3 185 4 455 (f3 188 4 462 [])))::cc "Deed" 762 179 439 765::fm 441 438 dh::r
def Uz(P:Params)(r:List Obj):List Obj:=df (Mine.sb 40 0) (tw 775 ["self", "name", "terms"]) k448 k449 (r)
def VF(P:Params)(r:List Obj):List Obj:=df (Mine.sb 40 1) (tw 784 ["self"]) k455 k456 (r)
def VL:List Obj:=df (Mine.sb 40 2) (tw 791 ["self"]) k462 k463 (tw 795 ["name", "terms"]::k465 P::k466::r)
def Vh:List Obj:=su 466::ib 466::tu [.ref 398]::o16::di P dh "Draw" 808 190 [ki P 821 482,ke P "binds" 828 (.ref 489),ke P "asked" 835 (.ref 496),ke P "said" 842 (.ref 503),ks P 845 504] 8::eT::fl (f3 192 4 481 (f3 196 4 488 (f3 199 4 495 (f3 202 4 502 []))))::cc "Draw" 803 190 472 806::fm 474 471 dh::r
def WP(P:Params)(r:List Obj):List Obj:=df (Mine.sb 41 0) (tw 816 ["self", "address", "name"]) k481 k482 (r)
def Vb(P:Params)(r:List Obj):List Obj:=df (Mine.sb 41 1) (tw 825 ["self"]) k488 k489 (r)
def U0(P:Params)(r:List Obj):List Obj:=df (Mine.sb 41 2) (tw 832 ["self"]) k495 k496 (r)
def U8:List Obj:=df (Mine.sb 41 3) (tw 839 ["self"]) k502 k503 (tw 843 ["address", "name"]::k505 P::k506::r)
def Wl:List Obj:=su 506::ib 506::tu [.ref 398]::o16::di P dh "Late" 856 204 [ki P 869 522,ke P "binds" 876 (.ref 529),ke P "asked" 883 (.ref 536),ke P "said" 890 (.ref 543),ks P 893 544] 8::eT::fl (f3 206 4 521 (f3 210 4 528 (f3 213 4 535 (f3 216 4 542 []))))::cc "Late" 851 204 512 854::fm 514 511 dh::r
def Vn(P:Params)(r:List Obj):List Obj:=df (Mine.sb 42 0) (tw 864 ["self", "address", "name"]) k521 k522 (r)
def Xd(P:Params)(r:List Obj):List Obj:=df (Mine.sb 42 1) (tw 873 ["self"]) k528 k529 (r)
def Ve(P:Params)(r:List Obj):List Obj:=df (Mine.sb 42 2) (tw 880 ["self"]) k535 k536 (r)
def Xf:List Obj:=df (Mine.sb 42 3) (tw 887 ["self"]) k542 k543 (tw 891 ["address", "name"]::k545 P::k546::r)
def Wa(P:Params)(r:List Obj):List Obj:=su 546::ib 546::r
def C3:List Obj:=WL P (Vv P (Vw P (Vg P (V6 P (Uz P (VF P (VL P (Vh P (WP P (Vb P (U0 P (U8 P (Wl P (Vn P (Xd P (Ve P (Xf P (Wa P (r)))))))))))))))))))
def t4:BT:=Jr (pl (t3 P) 403 (C3 P [])) ((3,{cls:=.type "dict",data:=.dict (List.toArray (ke P "__name__" 165 (.str "drawhouse.rows" 676)::n0 P (n1 P (n2 P (n3 P ([])))))) 47})::(12,fl (f3 2 0 20 (f3 4 0 33 (f3 6 0 45 (f3 8 0 57 (f3 13 0 76 (f3 18 0 95 (f3 23 0 114 (f3 28 0 133 (f3 33 0 152 (f3 38 0 171 (f3 43 0 190 (f3 48 0 209 (f3 53 0 228 (f3 58 0 247 (f3 70 0 264 (f3 76 0 269 (f3 79 0 276 (f3 86 0 281 (f3 92 0 288 (f3 96 0 295 (f3 102 0 302 (f3 108 0 309 (f3 120 0 316 (f3 127 0 323 (f3 134 0 328 (f3 137 0 335 (f3 158 0 373 (f3 168 0 408 (f3 179 0 441 (f3 190 0 474 (f3 204 0 514 []))))))))))))))))))))))))))))))))::(398,{cls:=.type "type",data:=.cls {name:=Str.ofString "Row",bases:=[.type "object"],mro:=[.ref 398,.type "object"],ns:=397,qualname:=Str.ofString "Row",subclasses:=[.ref 433,.ref 466,.ref 506,.ref 546]},slots:=#[none,none,some (.str "Row" 678),some (.str "Row" 686),some (.builtin "object.__new__"),some (.bool true)]})::[])
def L3(w:World)(os:OsState):Option (Flow×SharedT×Code×Pos):=segRunT treeTable pz w 11 (some (Value.ref 6)) 1 1299 ⟨t3 w.params,nat_lit 403,{},Array.mk [],{},nat_lit 719,os⟩ (piecesOf (sl 39 4) env cE {line:=158,col:=0,endLine:=167,endCol:=17} fr)
def R3(w:World)(os:OsState):Option (Flow×SharedT×Code×Pos):=some (.next,⟨t4 w.params,nat_lit 549,{},Array.mk [],{},nat_lit 897,os⟩,cE,{line:=204,col:=0,endLine:=217,endCol:=58})
theorem rL3:L3=L3:=rfl
name_quick L3 for Hd.L3 by Hd.rL3
theorem rR3:R3=R3:=rfl
name_quick R3 for Hd.R3 by Hd.rR3
theorem q3:PySem.W.Fast.L3=PySem.W.Fast.R3:=by kernel_rfl
theorem e3:L3=R3:=PySem.W.Fast.L3_eq.trans (q3.trans PySem.W.Fast.R3_eq.symm)
def Xe:List Obj:=tu [.ref 398]::o16::di P dh "Take" 904 218 [ki P 918 562,ke P "binds" 925 (.ref 569),ke P "asked" 932 (.ref 576),ke P "said" 939 (.ref 583),ks P 943 584] 8::eT::fl (f3 220 4 561 (f3 225 4 568 (f3 228 4 575 (f3 231 4 582 []))))::cc "Take" 899 218 552 902::fm 554 551 dh::r
def Wc(P:Params)(r:List Obj):List Obj:=df (Mine.sb 43 0) (tw 912 ["self", "word", "address", "name"]) k561 k562 (r)
def Vy(P:Params)(r:List Obj):List Obj:=df (Mine.sb 43 1) (tw 922 ["self"]) k568 k569 (r)
def Vr(P:Params)(r:List Obj):List Obj:=df (Mine.sb 43 2) (tw 929 ["self"]) k575 k576 (r)
def We:List Obj:=df (Mine.sb 43 3) (tw 936 ["self"]) k582 k583 (tw 940 ["address", "name", "word"]::k585 P::k586::r)
def W4:List Obj:=su 586::ib 586::tu [.ref 398]::o16::di P dh "Need" 954 233 [ki P 966 602,ke P "said" 973 (.ref 609),ks P 975 610] 6::eT::fl (f3 235 4 601 (f3 238 4 608 []))::cc "Need" 949 233 592 952::fm 594 591 dh::r
def VN(P:Params)(r:List Obj):List Obj:=df (Mine.sb 44 0) (tw 962 ["self", "terms"]) k601 k602 (r)
def Ww:List Obj:=df (Mine.sb 44 1) (tw 970 ["self"]) k608 k609 (tw 974 ["terms"]::k611 P::k612::r)
def VD(P:Params)(r:List Obj):List Obj:=su 612::ib 612::df (Mine.top 47) (tw 986 ["words"]) k620 k621 (r)
def V5(P:Params)(r:List Obj):List Obj:=df (Mine.top 48) (tw 993 ["words"]) k627 k628 (r)
def WY(P:Params)(r:List Obj):List Obj:=df (Mine.top 49) (tw 1000 ["words"]) k634 k635 (r)
def Vi(P:Params)(r:List Obj):List Obj:=df (Mine.top 50) (tw 1007 ["words", "at"]) k641 k642 (r)
def Wg(P:Params)(r:List Obj):List Obj:=df (Mine.top 51) (tw 1015 ["name", "terms"]) k648 k649 (r)
def VJ(P:Params)(r:List Obj):List Obj:=df (Mine.top 52) (tw 1023 ["words", "first"]) k655 k656 (r)
def Wj(P:Params)(r:List Obj):List Obj:=df (Mine.top 53) (tw 1031 ["text", "at", "row"]) k662 k663 (r)
def Vx(P:Params)(r:List Obj):List Obj:=df (Mine.top 54) (tw 1040 ["text", "words"]) k669 k670 (r)
def Wb(P:Params)(r:List Obj):List Obj:=df (Mine.top 55) (tw 1048 ["text", "lines", "address", "rows", "at", "line", "row"]) k676 k677 (r)
def Vq(P:Params)(r:List Obj):List Obj:=df (Mine.top 57) (tw 1063 ["_law_script", "_law_k"]) k683 k684 (r)
def W9(P:Params)(r:List Obj):List Obj:=df (Mine.top 58) (tw 1071 ["_law_cell_here", "_law_j"]) k690 k691 (r)
def W8(P:Params)(r:List Obj):List Obj:=df (Mine.top 59) (tw 1079 ["_law_cell_here", "_law_far"]) k697 k698 (r)
def W5(P:Params)(r:List Obj):List Obj:=df (Mine.top 60) (tw 1087 ["_law_cell_here", "_law_k", "_law_many", "_law_great", "_law_by", "_law_one"]) k704 k705 (r)
def Wx(P:Params)(r:List Obj):List Obj:=de (Mine.top 61) k709 k710 (de (Mine.top 62) k714 k715 (r))
def Vc(P:Params)(r:List Obj):List Obj:=df (Mine.top 63) (tw 1111 ["_law_cell_here", "_law_some"]) k721 k722 (r)
def UJ(P:Params)(r:List Obj):List Obj:=de (Mine.top 64) k726 k727 (de (Mine.top 65) k731 k732 (r))
def V2(P:Params)(r:List Obj):List Obj:=de (Mine.top 66) k736 k737 (r)
def Xc(P:Params)(r:List Obj):List Obj:=df (Mine.top 67) (tw 1137 ["_law_term_here", "_law_sign", "_law_sort", "_law_thing"]) k743 k744 (r)
def V4(P:Params)(r:List Obj):List Obj:=df (Mine.top 68) (tw 1147 ["_law_terms_here", "_law_text_here", "_law_term_here"]) k750 k751 (r)
def WN(P:Params)(r:List Obj):List Obj:=de (Mine.top 69) k755 k756 (r)
def VG(P:Params)(r:List Obj):List Obj:=df (Mine.top 70) (tw 1162 ["_law_row_here", "_law_sort", "_law_name_here", "_law_address_here", "_law_word_here", "_law_terms_here"]) k762 k763 (r)
def Uv(P:Params)(r:List Obj):List Obj:=df (Mine.top 71) (tw 1174 ["_law_found"]) k769 k770 (r)
def WM(P:Params)(r:List Obj):List Obj:=df (Mine.top 72) (tw 1181 ["_law_found", "_law_due_here"]) k776 k777 (r)
def UG(P:Params)(r:List Obj):List Obj:=de (Mine.top 73) k781 k782 (de (Mine.top 74) k786 k787 (r))
def Wo(P:Params)(r:List Obj):List Obj:=df (Mine.top 75) (tw 1201 ["_law_found", "_law_row_here", "_law_due_here", "_law_binds", "_law_asked", "_law_said_here"]) k793 k794 (r)
def Wk(P:Params)(r:List Obj):List Obj:=df (Mine.top 76) (tw 1213 ["_law_text_here", "_law_sign"]) k800 k801 (r)
def Wf(P:Params)(r:List Obj):List Obj:=de (Mine.top 77) k805 k806 (de (Mine.top 78) k810 k811 (r))
def Vj(P:Params)(r:List Obj):List Obj:=df (Mine.top 79) (tw 1233 ["_law_words", "_law_terms_here", "_law_k", "_law_term_here"]) k817 k818 (r)
def C4:List Obj:=Xe P (Wc P (Vy P (Vr P (We P (W4 P (VN P (Ww P (VD P (V5 P (WY P (Vi P (Wg P (VJ P (Wj P (Vx P (Wb P (Vq P (W9 P (W8 P (W5 P (Wx P (Vc P (UJ P (V2 P (Xc P (V4 P (WN P (VG P (Uv P (WM P (UG P (Wo P (Wk P (Wf P (Vj P (r))))))))))))))))))))))))))))))))))))
def t5:BT:=Jr (pl (t4 P) 549 (C4 P [])) ((3,{cls:=.type "dict",data:=.dict (List.toArray (ke P "__name__" 165 (.str "law_drawhouse_k26_whole_part_texts" 1058)::n0 P (n1 P (n2 P (n3 P (n4 P ([]))))))) 82})::(12,fl (f3 2 0 20 (f3 4 0 33 (f3 6 0 45 (f3 8 0 57 (f3 13 0 76 (f3 18 0 95 (f3 23 0 114 (f3 28 0 133 (f3 33 0 152 (f3 38 0 171 (f3 43 0 190 (f3 48 0 209 (f3 53 0 228 (f3 58 0 247 (f3 70 0 264 (f3 76 0 269 (f3 79 0 276 (f3 86 0 281 (f3 92 0 288 (f3 96 0 295 (f3 102 0 302 (f3 108 0 309 (f3 120 0 316 (f3 127 0 323 (f3 134 0 328 (f3 137 0 335 (f3 158 0 373 (f3 168 0 408 (f3 179 0 441 (f3 190 0 474 (f3 204 0 514 (f3 218 0 554 (f3 233 0 594 (f3 242 0 620 (f3 244 0 627 (f3 246 0 634 (f3 250 0 641 (f3 252 0 648 (f3 256 0 655 (f3 271 0 662 (f3 279 0 669 (f3 284 0 676 (f3 299 0 683 (f3 303 0 690 (f3 307 0 697 (f3 311 0 704 (f3 320 0 709 (f3 336 0 714 (f3 339 0 721 (f3 344 0 726 (f3 346 0 731 (f3 354 0 736 (f3 356 0 743 (f3 361 0 750 (f3 366 0 755 (f3 374 0 762 (f3 383 0 769 (f3 385 0 776 (f3 391 0 781 (f3 395 0 786 (f3 409 0 793 (f3 418 0 800 (f3 423 0 805 (f3 426 0 810 (f3 440 0 817 []))))))))))))))))))))))))))))))))))))))))))))))))))))))))))))))))))::(398,k398)::[])
def L4(w:World)(os:OsState):Option (Flow×SharedT×Code×Pos):=segRunT treeTable pz w 11 (some (Value.ref 6)) 1 1585 ⟨t4 w.params,nat_lit 549,{},Array.mk [],{},nat_lit 897,os⟩ (piecesOf (sl 43 37) env cE {line:=204,col:=0,endLine:=217,endCol:=58} fr)
def R4(w:World)(os:OsState):Option (Flow×SharedT×Code×Pos):=some (.next,⟨t5 w.params,nat_lit 819,{},Array.mk [],{},nat_lit 1240,os⟩,cE,{line:=440,col:=0,endLine:=451,endCol:=26})
theorem rL4:L4=L4:=rfl
name_quick L4 for Hd.L4 by Hd.rL4
theorem rR4:R4=R4:=rfl
name_quick R4 for Hd.R4 by Hd.rR4
theorem q4:PySem.W.Fast.L4=PySem.W.Fast.R4:=by kernel_rfl
theorem e4:L4=R4:=PySem.W.Fast.L4_eq.trans (q4.trans PySem.W.Fast.R4_eq.symm)
def WW(P:Params)(r:List Obj):List Obj:=de (Mine.top 80) k822 k823 (r)
def U6(P:Params)(r:List Obj):List Obj:=df (Mine.top 81) (tw 1249 ["_law_text_here", "_law_words"]) k829 k830 (r)
def UW(P:Params)(r:List Obj):List Obj:=df (Mine.top 82) (tw 1257 ["_law_words", "_law_cell_here", "_law_at", "_law_way", "_law_some", "_law_word_here"]) k836 k837 (r)
def Wh(P:Params)(r:List Obj):List Obj:=df (Mine.top 83) (tw 1269 ["_law_text_here", "_law_cell_here", "_law_signs", "_law_at", "_law_sign", "_law_way"]) k843 k844 (r)
def Wm(P:Params)(r:List Obj):List Obj:=df (Mine.top 84) (tw 1281 ["_law_e", "_law_flags", "_law_others"]) k850 k851 (r)
def Vm(P:Params)(r:List Obj):List Obj:=df (Mine.top 85) (tw 1290 ["_law_thing", "_law_e"]) k857 k858 (r)
def UV(P:Params)(r:List Obj):List Obj:=df (Mine.top 86) (tw 1298 ["_law_script", "_law_k", "_law_names_here", "_law_cell_here", "_law_name_here", "_law_text_here", "_law_way"]) k864 k865 (r)
def Uy(P:Params)(r:List Obj):List Obj:=de (Mine.top 87) k869 k870 (de (Mine.top 88) k874 k875 (r))
def W7(P:Params)(r:List Obj):List Obj:=de (Mine.top 89) k879 k880 (r)
def C5:List Obj:=WW P (U6 P (UW P (Wh P (Wm P (Vm P (UV P (Uy P (W7 P (r)))))))))
def t6:BT:=Jr (pl (t5 P) 819 (C5 P [])) ((3,k3 P)::(12,o12)::[])
def L5(w:World)(os:OsState):Option (Flow×SharedT×Code×Pos):=segRunT treeTable pz w 11 (some (Value.ref 6)) 1 299 ⟨t5 w.params,nat_lit 819,{},Array.mk [],{},nat_lit 1240,os⟩ (piecesOf (sl 80 10) env cE {line:=440,col:=0,endLine:=451,endCol:=26} fr)
def R5(w:World)(os:OsState):Option (Flow×SharedT×Code×Pos):=some (.next,⟨t6 w.params,nat_lit 881,{},Array.mk [],{},nat_lit 1326,os⟩,cE,{line:=556,col:=0,endLine:=572,endCol:=15})
theorem rL5:L5=L5:=rfl
name_quick L5 for Hd.L5 by Hd.rL5
theorem rR5:R5=R5:=rfl
name_quick R5 for Hd.R5 by Hd.rR5
theorem q5:PySem.W.Fast.L5=PySem.W.Fast.R5:=by kernel_rfl
theorem e5:L5=R5:=PySem.W.Fast.L5_eq.trans (q5.trans PySem.W.Fast.R5_eq.symm)
def hF:Heap:=⟨Array.mk (c0 P (C0 P (C1 P (C2 P (C3 P (C4 P (C5 P ([])))))))),{}⟩
def Lf(w:World)(os:OsState):Option Shared:=topRun treeTable pz w 11 (some (Value.ref 6)) 2 (SharedT.abs ⟨t6 w.params,nat_lit 881,{},Array.mk [],{},nat_lit 1326,os⟩) ⟨doneF .next,cE,{line:=556,col:=0,endLine:=572,endCol:=15},fr⟩
def Rf(w:World)(os:OsState):Option Shared:=some ⟨hF w.params,Array.mk [],{},nat_lit 1326,os⟩
theorem rLf:Lf=Lf:=rfl
name_quick Lf for Hd.Lf by Hd.rLf
theorem rRf:Rf=Rf:=rfl
name_quick Rf for Hd.Rf by Hd.rRf
theorem qf:PySem.W.Fast.Lf=PySem.W.Fast.Rf:=by kernel_rfl
theorem ef:Lf=Rf:=PySem.W.Fast.Lf_eq.trans (qf.trans PySem.W.Fast.Rf_eq.symm)
theorem ed:(behindTheImports pz).drop 90=[]:=by kernel_rfl
theorem pd{w:World}{k m n N:Nat}{s s' r:Shared}{c:Code}{pos p':Pos}(h:segRun treeTable pz w 11 (some (Value.ref 6)) 1 n s (piecesOf (sl k m) env c pos fr)=some (.next,s',c,p'))
  (k2:topRun treeTable pz w 11 (some (Value.ref 6)) N s' (restOf ((behindTheImports pz).drop (k+m)) env c p' fr)=some r):topRun treeTable pz w 11 (some (Value.ref 6)) (n+N) s (restOf ((behindTheImports pz).drop k) env c pos fr)=some r:=by
 have z:=piece_app h k2
 have e:sl k m++(behindTheImports pz).drop (k+m)=(behindTheImports pz).drop k:=by
  unfold sl
  rw[<- List.drop_drop]
  exact List.take_append_drop m _
 rwa [e]at z
theorem run(w:World)(os:OsState):topRun treeTable pz w 11 (some (Value.ref 6)) (12+(1+(1357+(1471+(1509+(1299+(1585+(299+(2))))))))) ⟨boot_heap w.params,Array.mk [],boot_drawn,boot_toks,os⟩ (topStub pz)=some ⟨hF w.params,Array.mk [],{},nat_lit 1326,os⟩ :=
 go_top (congrFun (congrFun ep w) os) (piece_block (congrFun (congrFun eb w) os)
  (pd (k:=0) (m:=7) (segRun_of (congrFun (congrFun e0 w) os))
  (pd (k:=7) (m:=6) (segRun_of (congrFun (congrFun e1 w) os))
  (pd (k:=13) (m:=26) (segRun_of (congrFun (congrFun e2 w) os))
  (pd (k:=39) (m:=4) (segRun_of (congrFun (congrFun e3 w) os))
  (pd (k:=43) (m:=37) (segRun_of (congrFun (congrFun e4 w) os))
  (pd (k:=80) (m:=10) (segRun_of (congrFun (congrFun e5 w) os))
  (by rw[show 80+10=90 from rfl,ed];exact piece_nil (congrFun (congrFun ef w) os)))))))))
def qv:Program:={pz with main:={pz.main with body:=(1::2::3::4::5::6::7::8::9::10::11::12::13::14::16::17::18::19::20::21::23::24::25::26::27::28::29::30::31::32::33::34::36::38::39::40::41::42::43::44::46::47::48::49::50::51::52::53::54::55::57::58::59::60::61::62::63::64::65::66::67::68::69::70::71::72::73::74::75::76::77::78::79::80::81::82::83::84::85::86::87::88::89::[]).filterMap fun i=>pz.main.body[i]?}}
def loose:List Str:=[]
def lv:List (Str×WData):=[]
def rz:OpenLaw:={prog:=pz,name:=(PySem.Str.ofString "law"),about:=[(PySem.Str.ofString "read_part")],foot:=33,most:=some 63,bound:=none,writes:=false}
def xt(s:Shared):Bool:=xlAt qv lv s&&recOk (RowW.records (OpenRow.toRowW (OpenLaw.row rz))) s
def as:List Addr:=nat_lit 2::nat_lit 3::nat_lit 23::nat_lit 24::nat_lit 25::nat_lit 36::nat_lit 37::nat_lit 48::nat_lit 49::nat_lit 64::nat_lit 65::nat_lit 67::nat_lit 68::nat_lit 83::nat_lit 84::nat_lit 86::nat_lit 87::nat_lit 102::nat_lit 103::nat_lit 105::nat_lit 106::nat_lit 121::nat_lit 122::nat_lit 124::nat_lit 125::nat_lit 140::nat_lit 141::nat_lit 143::nat_lit 144::nat_lit 159::nat_lit 160::nat_lit 162::nat_lit 163::nat_lit 178::nat_lit 179::nat_lit 181::nat_lit 182::nat_lit 197::nat_lit 198::nat_lit 200::nat_lit 201::nat_lit 216::nat_lit 217::nat_lit 219::nat_lit 220::nat_lit 235::nat_lit 236::nat_lit 238::nat_lit 239::nat_lit 254::nat_lit 255::nat_lit 257::nat_lit 258::nat_lit 264::nat_lit 265::nat_lit 269::nat_lit 270::nat_lit 276::nat_lit 277::nat_lit 281::nat_lit 282::nat_lit 288::nat_lit 289::nat_lit 295::nat_lit 296::nat_lit 302::nat_lit 303::nat_lit 309::nat_lit 310::nat_lit 316::nat_lit 317::nat_lit 323::nat_lit 324::nat_lit 328::nat_lit 329::nat_lit 342::nat_lit 343::nat_lit 347::nat_lit 348::nat_lit 354::nat_lit 355::nat_lit 359::nat_lit 360::nat_lit 362::nat_lit 363::nat_lit 364::nat_lit 365::nat_lit 380::nat_lit 381::nat_lit 387::nat_lit 388::nat_lit 394::nat_lit 395::nat_lit 397::nat_lit 398::nat_lit 399::nat_lit 400::nat_lit 415::nat_lit 416::nat_lit 422::nat_lit 423::nat_lit 429::nat_lit 430::nat_lit 432::nat_lit 433::nat_lit 448::nat_lit 449::nat_lit 455::nat_lit 456::nat_lit 462::nat_lit 463::nat_lit 465::nat_lit 466::nat_lit 481::nat_lit 482::nat_lit 488::nat_lit 489::nat_lit 495::nat_lit 496::nat_lit 502::nat_lit 503::nat_lit 505::nat_lit 506::nat_lit 521::nat_lit 522::nat_lit 528::nat_lit 529::nat_lit 535::nat_lit 536::nat_lit 542::nat_lit 543::nat_lit 545::nat_lit 546::nat_lit 561::nat_lit 562::nat_lit 568::nat_lit 569::nat_lit 575::nat_lit 576::nat_lit 582::nat_lit 583::nat_lit 585::nat_lit 586::nat_lit 601::nat_lit 602::nat_lit 608::nat_lit 609::nat_lit 611::nat_lit 612::nat_lit 620::nat_lit 621::nat_lit 627::nat_lit 628::nat_lit 634::nat_lit 635::nat_lit 641::nat_lit 642::nat_lit 648::nat_lit 649::nat_lit 655::nat_lit 656::nat_lit 662::nat_lit 663::nat_lit 669::nat_lit 670::nat_lit 676::nat_lit 677::nat_lit 683::nat_lit 684::nat_lit 690::nat_lit 691::nat_lit 697::nat_lit 698::nat_lit 704::nat_lit 705::nat_lit 709::nat_lit 710::nat_lit 714::nat_lit 715::nat_lit 721::nat_lit 722::nat_lit 726::nat_lit 727::nat_lit 731::nat_lit 732::nat_lit 736::nat_lit 737::nat_lit 743::nat_lit 744::nat_lit 750::nat_lit 751::nat_lit 755::nat_lit 756::nat_lit 762::nat_lit 763::nat_lit 769::nat_lit 770::nat_lit 776::nat_lit 777::nat_lit 781::nat_lit 782::nat_lit 786::nat_lit 787::nat_lit 793::nat_lit 794::nat_lit 800::nat_lit 801::nat_lit 805::nat_lit 806::nat_lit 810::nat_lit 811::nat_lit 817::nat_lit 818::nat_lit 822::nat_lit 823::nat_lit 829::nat_lit 830::nat_lit 836::nat_lit 837::nat_lit 843::nat_lit 844::nat_lit 850::nat_lit 851::nat_lit 857::nat_lit 858::nat_lit 864::nat_lit 865::nat_lit 869::nat_lit 870::nat_lit 874::nat_lit 875::nat_lit 879::nat_lit 880::[]
theorem ke(P:Params):as=(Mine.myK P).map (·.1):=by kernel_rfl
def Ls(w:World):Bool×Nat×Option Value:=((boot_heap w.params).isNs mainGlobals&&(Array.mk []:Array GenState).size==0,(boot_heap w.params).objs.size,(boot_heap w.params).nsMap mainGlobals "__annotations__")
def Rs(w:World):Bool×Nat×Option Value:=(true,11,some (Value.ref 6))
theorem es:Ls=Rs:=by kernel_rfl
def Lk0(w:World)(os:OsState):Bool:=staticsOk (importedModules pz.main.body) (boot_heap w.params) (hF w.params)&&namesBound pz (hF w.params)&&gensDone ⟨hF w.params,Array.mk [],{},nat_lit 1326,os⟩&&laidKept (boot_heap w.params) (hF w.params)
def Rk0(_:World)(_:OsState):Bool:=true
theorem rLk0:Lk0=Lk0:=rfl
name_quick Lk0 for Hd.Lk0 by Hd.rLk0
theorem qk0:PySem.W.Fast.Lk0=Rk0:=by kernel_rfl
theorem ek0:Lk0=Rk0:=PySem.W.Fast.Lk0_eq.trans qk0
def Lk1(w:World)(os:OsState):=(openSeen qv loose (importedModules pz.main.body) xt true ⟨hF w.params,Array.mk [],{},nat_lit 1326,os⟩).1
def Rk1(_:World)(_:OsState):=(openGood qv loose).1
theorem rLk1:Lk1=Lk1:=rfl
name_quick Lk1 for Hd.Lk1 by Hd.rLk1
theorem rRk1:Rk1=Rk1:=rfl
name_quick Rk1 for Hd.Rk1 by Hd.rRk1
theorem qk1:PySem.W.Fast.Lk1=PySem.W.Fast.Rk1:=by kernel_rfl
theorem ek1:Lk1=Rk1:=PySem.W.Fast.Lk1_eq.trans (qk1.trans PySem.W.Fast.Rk1_eq.symm)
def Lk2(w:World)(os:OsState):=(openSeen qv loose (importedModules pz.main.body) xt true ⟨hF w.params,Array.mk [],{},nat_lit 1326,os⟩).2.1
def Rk2(_:World)(_:OsState):=(openGood qv loose).2.1
theorem rLk2:Lk2=Lk2:=rfl
name_quick Lk2 for Hd.Lk2 by Hd.rLk2
theorem qk2:PySem.W.Fast.Lk2=Rk2:=by kernel_rfl
theorem ek2:Lk2=Rk2:=PySem.W.Fast.Lk2_eq.trans qk2
def Lk3(w:World)(os:OsState):=(openSeen qv loose (importedModules pz.main.body) xt true ⟨hF w.params,Array.mk [],{},nat_lit 1326,os⟩).2.2.1
def Rk3(_:World)(_:OsState):=(openGood qv loose).2.2.1
theorem rLk3:Lk3=Lk3:=rfl
name_quick Lk3 for Hd.Lk3 by Hd.rLk3
theorem qk3:PySem.W.Fast.Lk3=Rk3:=by kernel_rfl
theorem ek3:Lk3=Rk3:=PySem.W.Fast.Lk3_eq.trans qk3
def Lk4(w:World)(os:OsState):=(openSeen qv loose (importedModules pz.main.body) xt true ⟨hF w.params,Array.mk [],{},nat_lit 1326,os⟩).2.2.2.1
def Rk4(_:World)(_:OsState):=(openGood qv loose).2.2.2.1
theorem rLk4:Lk4=Lk4:=rfl
name_quick Lk4 for Hd.Lk4 by Hd.rLk4
theorem qk4:PySem.W.Fast.Lk4=Rk4:=by kernel_rfl
theorem ek4:Lk4=Rk4:=PySem.W.Fast.Lk4_eq.trans qk4
def Lk5(w:World)(os:OsState):=(openSeen qv loose (importedModules pz.main.body) xt true ⟨hF w.params,Array.mk [],{},nat_lit 1326,os⟩).2.2.2.2.1
def Rk5(_:World)(_:OsState):=(openGood qv loose).2.2.2.2.1
theorem rLk5:Lk5=Lk5:=rfl
name_quick Lk5 for Hd.Lk5 by Hd.rLk5
theorem rRk5:Rk5=Rk5:=rfl
name_quick Rk5 for Hd.Rk5 by Hd.rRk5
theorem qk5:PySem.W.Fast.Lk5=PySem.W.Fast.Rk5:=by kernel_rfl
theorem ek5:Lk5=Rk5:=PySem.W.Fast.Lk5_eq.trans (qk5.trans PySem.W.Fast.Rk5_eq.symm)
def Lk6(w:World)(os:OsState):=(openSeen qv loose (importedModules pz.main.body) xt true ⟨hF w.params,Array.mk [],{},nat_lit 1326,os⟩).2.2.2.2.2.1
def Rk6(_:World)(_:OsState):=(openGood qv loose).2.2.2.2.2.1
theorem rLk6:Lk6=Lk6:=rfl
name_quick Lk6 for Hd.Lk6 by Hd.rLk6
theorem rRk6:Rk6=Rk6:=rfl
name_quick Rk6 for Hd.Rk6 by Hd.rRk6
theorem qk6:PySem.W.Fast.Lk6=PySem.W.Fast.Rk6:=by kernel_rfl
theorem ek6:Lk6=Rk6:=PySem.W.Fast.Lk6_eq.trans (qk6.trans PySem.W.Fast.Rk6_eq.symm)
def Lk7(w:World)(os:OsState):=(openSeen qv loose (importedModules pz.main.body) xt true ⟨hF w.params,Array.mk [],{},nat_lit 1326,os⟩).2.2.2.2.2.2.1
def Rk7(_:World)(_:OsState):=(openGood qv loose).2.2.2.2.2.2.1
theorem rLk7:Lk7=Lk7:=rfl
name_quick Lk7 for Hd.Lk7 by Hd.rLk7
theorem rRk7:Rk7=Rk7:=rfl
name_quick Rk7 for Hd.Rk7 by Hd.rRk7
theorem qk7:PySem.W.Fast.Lk7=PySem.W.Fast.Rk7:=by kernel_rfl
theorem ek7:Lk7=Rk7:=PySem.W.Fast.Lk7_eq.trans (qk7.trans PySem.W.Fast.Rk7_eq.symm)
def Lk8(w:World)(os:OsState):=(openSeen qv loose (importedModules pz.main.body) xt true ⟨hF w.params,Array.mk [],{},nat_lit 1326,os⟩).2.2.2.2.2.2.2.1
def Rk8(_:World)(_:OsState):=(openGood qv loose).2.2.2.2.2.2.2.1
theorem rLk8:Lk8=Lk8:=rfl
name_quick Lk8 for Hd.Lk8 by Hd.rLk8
theorem rRk8:Rk8=Rk8:=rfl
name_quick Rk8 for Hd.Rk8 by Hd.rRk8
theorem qk8:PySem.W.Fast.Lk8=PySem.W.Fast.Rk8:=by kernel_rfl
theorem ek8:Lk8=Rk8:=PySem.W.Fast.Lk8_eq.trans (qk8.trans PySem.W.Fast.Rk8_eq.symm)
def Lk9(w:World)(os:OsState):=(openSeen qv loose (importedModules pz.main.body) xt true ⟨hF w.params,Array.mk [],{},nat_lit 1326,os⟩).2.2.2.2.2.2.2.2
def Rk9(_:World)(_:OsState):=(openGood qv loose).2.2.2.2.2.2.2.2
theorem rLk9:Lk9=Lk9:=rfl
name_quick Lk9 for Hd.Lk9 by Hd.rLk9
theorem rRk9:Rk9=Rk9:=rfl
name_quick Rk9 for Hd.Rk9 by Hd.rRk9
theorem qk9:PySem.W.Fast.Lk9=PySem.W.Fast.Rk9:=by kernel_rfl
theorem ek9:Lk9=Rk9:=PySem.W.Fast.Lk9_eq.trans (qk9.trans PySem.W.Fast.Rk9_eq.symm)
def V3(w:World)(_:OsState):List (Option Obj):=as.map (hF w.params).get?
def W3(w:World)(_:OsState):List (Option Obj):=(Mine.myK w.params).map fun p=>some p.2
theorem Wi:V3=W3:=by kernel_rfl
theorem c{α:Type}{f g:World->OsState->α}(h:f=g){w:World}{os:OsState}:f w os=g w os:=h▸rfl
theorem ek(w:World):(fun os=>((staticsOk (importedModules pz.main.body) (boot_heap w.params) (hF w.params)&&namesBound pz (hF w.params)&&gensDone ⟨hF w.params,Array.mk [],{},nat_lit 1326,os⟩&&laidKept (boot_heap w.params) (hF w.params)),openSeen qv loose (importedModules pz.main.body) xt true ⟨hF w.params,Array.mk [],{},nat_lit 1326,os⟩,Hook.obs (kHook Mine.myK as ke) ⟨hF w.params,Array.mk [],{},nat_lit 1326,os⟩))=fun _=>(true,openGood qv loose,Hook.val (kHook Mine.myK as ke) w) :=
 funext fun os=>Prod.ext (congrFun (congrFun ek0 w) os) (Prod.ext (Prod.ext (c ek1) (Prod.ext (c ek2) (Prod.ext (c ek3) (Prod.ext (c ek4) (Prod.ext (c ek5) (Prod.ext (c ek6) (Prod.ext (c ek7) (Prod.ext (c ek8) (c ek9))))))))) (congrFun (congrFun Wi w) os))
theorem op:opening pz=plainProg pz.main.scope.names:=by kernel_rfl
theorem fn(s:Shared):fenceModules? pz s=some s:=by kernel_rfl
theorem left:LeftO pz qv loose xt (Hook.obs (kHook Mine.myK as ke)) (Hook.val (kHook Mine.myK as ke)) 15154 true:=by
 refine LeftO.of_pieces (boot_open op rfl fn) (congrFun es) run rfl ek
theorem re:PySem.Challenge.rw_drawhouse_k26_whole_part_texts=rz:=rfl
end
end Hd
open PySem PySem.W PyProof.Rows
set_option maxRecDepth 100000 in
set_option maxHeartbeats 0 in
theorem PySem.Challenge.cw_drawhouse_k26_whole_part_texts_holds : PySem.Challenge.rw_drawhouse_k26_whole_part_texts.Holds := by
 rw[Hd.re];w_on;o_law
 refine holds_open (r:=OpenLaw.row Hd.rz) (q:=Hd.qv) (loose:=Hd.loose) (Xt:=Hd.xt) (XP:=XL Hd.qv Hd.lv) (Yf:=Hook.obs (kHook Mine.myK Hd.as Hd.ke)) (Ya:=Hook.val (kHook Mine.myK Hd.as Hd.ke))
  (YP:=Hook.says (kHook Mine.myK Hd.as Hd.ke)) Hd.left (Hook.of (kHook Mine.myK Hd.as Hd.ke)) (Hook.keeps (kHook Mine.myK Hd.as Hd.ke)) (fun s e=>xl_of s (Bool.and_eq_true_iff.mp e).1) XL.keeps Zd Zd Zd
  (fun s e=>recFacts_of (Bool.and_eq_true_iff.mp e).2) rfl (by assumption) Ze ⟨rfl,rfl,rfl,rfl,rfl,Ze⟩ ?hw ?hc
 (case hw=>exact⟨[.list []],Ze,Ze⟩)
 have _:(PySem.Challenge.rw_drawhouse_k26_whole_part_texts,Mine.myK)=(PySem.Challenge.rw_drawhouse_k26_whole_part_texts,Mine.myK):=by(k_fill;rfl)
 refine Mine.walk (l:=Hd.rz) rfl rfl (fun w h Y=>PySem.W.kIn_of Y) ?F
 case F =>
  intro w mg fa h KX G hmg
  refine' Mine.Su KX G hmg (Mine.fi ?_ ?_ ?_ ?_) (Mine.fi ?_ ?_ ?_ ?_) (Mine.fi ?_ ?_ ?_ ?_) (Mine.fi ?_ ?_ ?_ ?_) (Mine.fi ?_ ?_ ?_ ?_) (Mine.fi ?_ ?_ ?_ ?_) (Mine.fi ?_ ?_ ?_ ?_) (Mine.fi ?_ ?_ ?_ ?_) (Mine.fi ?_ ?_ ?_ ?_) (Mine.fi ?_ ?_ ?_ ?_) (Mine.fi ?_ ?_ ?_ ?_) (Mine.fi ?_ ?_ ?_ ?_) (Mine.fi ?_ ?_ ?_ ?_) (Mine.fi ?_ ?_ ?_ ?_) (Mine.fi ?_ ?_ ?_ ?_) (Mine.fi ?_ ?_ ?_ ?_) (Mine.fi ?_ ?_ ?_ ?_) (Mine.fi ?_ ?_ ?_ ?_) (Mine.fi ?_ ?_ ?_ ?_) (Mine.fi ?_ ?_ ?_ ?_) (Mine.fi ?_ ?_ ?_ ?_) (Mine.fi ?_ ?_ ?_ ?_) (Mine.fi ?_ ?_ ?_ ?_) (Mine.fi ?_ ?_ ?_ ?_) (Mine.fi ?_ ?_ ?_ ?_) (Mine.fi ?_ ?_ ?_ ?_) (Mine.fi ?_ ?_ ?_ ?_) (Mine.fi ?_ ?_ ?_ ?_) (Mine.fi ?_ ?_ ?_ ?_) (Mine.fi ?_ ?_ ?_ ?_) (Mine.fi ?_ ?_ ?_ ?_) (Mine.fi ?_ ?_ ?_ ?_) (Mine.fi ?_ ?_ ?_ ?_) (Mine.fi ?_ ?_ ?_ ?_) (Mine.fi ?_ ?_ ?_ ?_) (Mine.fi ?_ ?_ ?_ ?_) (Mine.fi ?_ ?_ ?_ ?_) (Mine.fi ?_ ?_ ?_ ?_) (Mine.fi ?_ ?_ ?_ ?_) (Mine.fi ?_ ?_ ?_ ?_) (Mine.fi ?_ ?_ ?_ ?_) (Mine.fi ?_ ?_ ?_ ?_) (Mine.fi ?_ ?_ ?_ ?_) (Mine.fi ?_ ?_ ?_ ?_) (Mine.fi ?_ ?_ ?_ ?_) (Mine.fi ?_ ?_ ?_ ?_) (Mine.fi ?_ ?_ ?_ ?_) (Mine.fi ?_ ?_ ?_ ?_) (Mine.fi ?_ ?_ ?_ ?_) (Mine.fi ?_ ?_ ?_ ?_) (Mine.fi ?_ ?_ ?_ ?_) (Mine.fi ?_ ?_ ?_ ?_) (Mine.fi ?_ ?_ ?_ ?_) ⟨?_,?_,?_,?_,?_,?_,?_,?_,?_,?_,?_⟩ ⟨?_,?_,?_,?_,?_,?_,?_,?_,?_,?_,?_⟩ ⟨?_,?_,?_,?_,?_,?_,?_,?_,?_,?_,?_⟩ ⟨?_,?_,?_,?_,?_,?_,?_,?_,?_,?_,?_⟩ ⟨?_,?_,?_,?_,?_,?_,?_,?_,?_,?_,?_⟩ ⟨?_,?_,?_,?_,?_,?_,?_,?_,?_,?_,?_⟩ ⟨?_,?_,?_,?_,?_,?_,?_,?_,?_,?_,?_⟩ ⟨?_,?_,?_,?_,?_,?_,?_,?_,?_,?_,?_⟩ ?_ ?_ ?_ ?_ ?_ ?_ ?_ ?_ ?_ ?_ ?_ ?_ ?_ ?_ ?_ ?_ ?_ ?_ ?_ ?_ ?_ ?_ ?_ ?_ ?_ ?_ ?_ ?_ ?_ ?_ ?_ ?_ ?_ ?_ ?_ ?_ ?_ ?_ ?_ ?_ ?_ ?_ ?_ ?_ ?_ ?_ ?_ ?_ ?_ ?_ ?_ ?_ ?_ ?_ ?_ ?_ ?_ ?_ ?_ ?_ ?_ ?_ ?_ ?_ ?_ ?_ ?_ ?_ ?_ ?_ ?_ ?_ ?_ (Mine.mi ?_ ?_ ?_ ?_) ?_ (Mine.mi ?_ ?_ ?_ ?_) ?_ (Mine.mi ?_ ?_ ?_ ?_) ?_ (Mine.mi ?_ ?_ ?_ ?_) ?_ ?_ (Mine.mi ?_ ?_ ?_ ?_) ?_ ?_ ?_ ?_ (Mine.mi ?_ ?_ ?_ ?_) ?_ (Mine.mi ?_ ?_ ?_ ?_) ?_ (Mine.mi ?_ ?_ ?_ ?_) ?_ (Mine.mi ?_ ?_ ?_ ?_) ?_ (Mine.mi ?_ ?_ ?_ ?_) ?_ (Mine.mi ?_ ?_ ?_ ?_) ?_ (Mine.mi ?_ ?_ ?_ ?_) ?_ (Mine.mi ?_ ?_ ?_ ?_) ?_ (Mine.mi ?_ ?_ ?_ ?_) ?_ (Mine.mi ?_ ?_ ?_ ?_) ?_ (Mine.mi ?_ ?_ ?_ ?_) ?_ (Mine.mi ?_ ?_ ?_ ?_) ?_ (Mine.mi ?_ ?_ ?_ ?_) ?_ (Mine.mi ?_ ?_ ?_ ?_) ?_ (Mine.mi ?_ ?_ ?_ ?_) ?_ (Mine.mi ?_ ?_ ?_ ?_) ?_ (Mine.mi ?_ ?_ ?_ ?_) ?_ (Mine.mi ?_ ?_ ?_ ?_) ?_ (Mine.mi ?_ ?_ ?_ ?_) ?_ (Mine.mi ?_ ?_ ?_ ?_) ?_ (Mine.mi ?_ ?_ ?_ ?_) ?_ (Mine.mi ?_ ?_ ?_ ?_) ?_ ?_ ⟨?_,(Mine.lR ?_),?_,?_,?_,?_,?_,?_,?_⟩ (Mine.mi ?_ ?_ ?_ ?_) ⟨?_,(Mine.lR ?_),?_,?_,?_,?_,?_,?_,?_⟩ (Mine.mi ?_ ?_ ?_ ?_) ⟨?_,(Mine.lR ?_),?_,?_,?_,?_,?_,?_,?_⟩ (Mine.mi ?_ ?_ ?_ ?_) ?_ (Mine.lR ?_) ?_ (Mine.lR ?_) ?_ (Mine.lR ?_) ?_ (Mine.lR ?_) ?_ (Mine.lR ?_) ?_ (Mine.lR ?_) ?_ (Mine.lR ?_) ?_ (Mine.lR ?_) ?_ (Mine.lR ?_) ?_ (Mine.lR ?_) ?_ ?_ ?_ ?_ ?_ ?_ ?uSK ?uNI ?uND ?_ ?_ ?_ ?_ ?_ ?_ ?_ ?_ ?_ ?_ ?_ ?_ ?_ ?_ ?_ ?_ ?_ ?_ ?_ ?_ ?_ ?_ ?_ ?_ ?_ ?_
  any_goals k_is
  (case uSK=>rfl);(case uNI=>rfl);(case uND=>decide)
#print axioms PySem.Challenge.cw_drawhouse_k26_whole_part_texts_holds
