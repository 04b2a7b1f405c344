import PyProof.Rows.All
import Wide.All
import OpenK.AllK
import Wide.FinOn
import Lean
import PyProof.EqAt
import PyProof.EqKinds
import PyProof.TupleCall
import KE.KIntText
import PyProof.ZipIter
import PyProof.EnumFor
import PyProof.EnumMake
import PyProof.ExcClass3
import PyProof.ExcFactsAll.ValueError
import PyProof.ExcArgs
import PyProof.InstStoreFacts
import PyProof.ExcBaseAll.ValueError
import PyProof.Rows.FStr
import KE.KRevSl
import KE.KDictSum
import PyProof.NeKinds
import PyProof.MinMaxWalk
import KE.KDictOf
import PyProof.AttrMissSeq
import KE.KItemsList
import PyProof.DictValues
import PyProof.Rows.SetFrom
import PyProof.SetRoads
import PySem.Challenge.RW_drawhouse_k37_whole_knots
set_option Elab.async false
set_option linter.all false
set_option maxRecDepth 100000
abbrev OP:=List (PySem.Addr×PySem.Obj)
abbrev EV:=PySem.Value->PySem.Shared->Prop
abbrev MG:=PySem.Str->Option PySem.Value
open PySem.W (instObj methodObj Frag lookIn plainGet hasDictIn findIn handedIn plainGet_of isFn plainOver takerIn makesIn typeIn emptyDict keepIn specialIn takesIn mroIn kitOne kia_one kitx_list kitx_dict callWith_K methodCall_KW fnOf codeIn OpenLaw WalkO readsIn findCls nsIn mg_of mg_none_of)
open Nat (lt_of_lt_of_le lt_irrefl ne_of_lt le_trans le_of_lt ne_of_gt le_refl zero_le le_of_eq lt_succ_self le_succ lt_succ_of_lt lt_or_ge not_lt le_of_succ_le not_lt_zero le_succ_of_le zero_lt_one zero_add)
open List (mem_filter mem_range mem_cons_self mem_cons_of_mem mem_cons mem_append mem_append_left mem_append_right any_eq_false length_cons map_cons length_map append_nil nodup_cons length_take getElem?_append_right getElem?_append_left getElem?_map mem_of_getElem? length_append size_toArray any_cons length_singleton map_nil find?_cons length_nil mem_map map_eq_nil_iff getElem?_take append_assoc lookup_cons all_eq_true mem_singleton set_set length_range map_append ext_getElem getElem?_eq_getElem filter_append filter_cons length_filter_le take_length map_map mem_of_mem_take any_eq_true contains_cons ext_getElem? getElem_of_mem getElem_mem filter_congr mem_flatten nodup_nil filter_filter not_mem_nil length_take_le getElem?_inj filter_map dropLast_concat_getLast nil_append map_take map_drop length_pos_iff take_succ length_take_le')
open Array (length_toList getElem?_toList toList_extract getElem?_eq_none)
open Int (toNat_natCast)
open Bool (and_eq_true eq_false_iff)
open PySem (list_append boot_len)
open Option (map_some bind_some)
open List.Pairwise (imp_of_mem)
open PySem.F (plain_extend_loop plainAttrs_str slot_str_split type_str_split slot_str_join type_str_join plainAttrs_list slot_list_extend type_list_extend)
open PySem.Challenge (pw_drawhouse_k37_whole_knots rw_drawhouse_k37_whole_knots)
open List.Perm (eq_of_pairwise)
open PyProof.Rows (boot_list boot_any boot_sorted)
theorem Z0{p:Prop}(h:p:=by decide):p:=h
theorem Z1{p:Prop}(h:p:=by omega):p:=h
theorem Z2{p:Prop}(h:p:=by simp):p:=h
theorem Z3{p:Prop}(h:p:=by rfl):p:=h
theorem Z4{p:Prop}(h:p:=by decide +kernel):p:=h
theorem Z5{p:Prop}(h:p:=by kernel_rfl):p:=h
theorem Z6{p:Prop}(h:p:=by simp;omega):p:=h
theorem Z7{p:Prop}(h:p:=by intro z;cases z):p:=h
namespace L2
open PySem PySem.Spec PyProof.Rows
abbrev Key:=Sum Int Str
def vW:Key->Value->Bool
 | .inl k,v=>Value.isInt k v
 | .inr x,v=>Value.isStrOf x v
def Qi(w:World):Key->Int
 | .inl k=>hashInt k
 | .inr x=>hashStr w x
theorem bV:∀ {k:Key} {v:Value},vW k v = true -> (∃ i t,k = Sum.inl i /\ v = Value.int i t) \/ (∃ x t,k = Sum.inr x /\ v = Value.str x t)
 | .inl i,v,h=>by
  obtain ⟨t,e⟩:=Value.isInt_shape (k:=i) (v:=v) h
  exact .inl ⟨i,t,rfl,e⟩
 | .inr x,v,h=>by
  obtain ⟨t,e⟩:=Value.isStrOf_shape (x:=x) (v:=v) h
  exact .inr ⟨x,t,rfl,e⟩
theorem Ez(i:Int)(t:Tok):vW (.inl i) (.int i t)=true:=by simp[vW,Value.isInt]
theorem El(x:Str)(t:Tok):vW (.inr x) (.str x t)=true:=by simp[vW,Value.isStrOf]
theorem Ni(a b:Int):decide ((Sum.inl a:Key)=Sum.inl b)=(a==b):=by
 by_cases e:a=b
 ·subst e;simp
 ·have h:¬(Sum.inl a:Key)=Sum.inl b:=fun q=>e (Sum.inl.inj q)
  rw[decide_eq_false h]
  exact(beq_eq_false_iff_ne.mpr e).symm
theorem Nh(a b:Str):decide ((Sum.inr a:Key)=Sum.inr b)=decide (a=b):=by
 by_cases e:a=b
 ·subst e;simp
 ·have h:¬(Sum.inr a:Key)=Sum.inr b:=fun q=>e (Sum.inr.inj q)
  rw[decide_eq_false h,decide_eq_false e]
theorem LC(a:Int)(b:Str):decide ((Sum.inl a:Key)=Sum.inr b)=false:=decide_eq_false (fun q=>nomatch q)
theorem M7(a:Str)(b:Int):decide ((Sum.inr a:Key)=Sum.inl b)=false:=decide_eq_false (fun q=>nomatch q)
def bN(prog:Program)(w:World):PySem.KeyKind prog w Key where
 is:=vW
 hash:=Qi w
 inj:=fun v a b ha hb=>by
  rcases bV ha with⟨i,t,rfl,rfl⟩|⟨x,t,rfl,rfl⟩
  ·rcases bV hb with⟨j,u,rfl,e⟩|⟨y,u,rfl,e⟩
   ·injection e with e1 _;rw[e1]
   ·exact nomatch e
  ·rcases bV hb with⟨j,u,rfl,e⟩|⟨y,u,rfl,e⟩
   ·exact nomatch e
   ·injection e with e1 _;rw[e1]
 byValue:=fun k v h=>by
  rcases bV h with⟨i,t,rfl,rfl⟩|⟨x,t,rfl,rfl⟩ <;> rfl
 pyHash:=fun hv h=>by
  rcases bV hv with⟨i,t,rfl,rfl⟩|⟨x,t,rfl,rfl⟩
  ·exact wpAny_pyHash_int h
  ·exact wpAny_pyHash_str h
 eqBool:=fun hu hv h=>by
  rcases bV hu with⟨i,t,rfl,rfl⟩|⟨x,t,rfl,rfl⟩
  ·rcases bV hv with⟨j,u,rfl,rfl⟩|⟨y,u,rfl,rfl⟩
   ·rw[Ni]at h;exact wpAny_eqBool_int h
   ·rw[LC]at h;exact SeqAt.EqAt.int_str i t y u _ _ _ _ h
  ·rcases bV hv with⟨j,u,rfl,rfl⟩|⟨y,u,rfl,rfl⟩
   ·rw[M7]at h;exact SeqAt.EqAt.str_int x t j u _ _ _ _ h
   ·rw[Nh]at h;exact wpAny_eqBool_str h
 «strs»:=fun k x t v h=>by
  rcases bV h with⟨i,u,rfl,e⟩|⟨y,u,rfl,e⟩
  ·exact nomatch e
  ·injection e with e1 _
   subst e1
   cases v <;> rfl
theorem zb(prog:Program)(w:World)(i:Int)(t:Tok):(bN prog w).is (.inl i) (.int i t)=true:=Ez i t
theorem yN(prog:Program)(w:World)(x:Str)(t:Tok):(bN prog w).is (.inr x) (.str x t)=true:=El x t
inductive V where
 | non|bl (b:Bool)|int (i:Int)|str (x:Str)|byt (b:Array UInt8)|flt (b:UInt64)|ref (a:Addr)|ty (n:String)
 deriving DecidableEq
def RelV:V->Value->Prop
 | .non,u=>u=Value.none
 | .bl b,u=>u=Value.bool b
 | .int i,u=>∃ t,u=Value.int i t
 | .str x,u=>∃ t,u=Value.str x t
 | .byt b,u=>∃ t,u=Value.bytes b t
 | .flt b,u=>∃ t,u=Value.float b t
 | .ref a,u=>u=Value.ref a
 | .ty n,u=>u=Value.type n
abbrev Vals:List V->List Value->Prop:=Paired RelV
theorem Vals.length{xs:List V}{us:List Value}(r:Vals xs us):xs.length=us.length:=Paired.length r
theorem Vals.get:∀{xs:List V}{us:List Value}{i:Nat}{x:V},Vals xs us->xs[i]? = some x->∃ u,us[i]? = some u/\RelV x u
 | _,_,_,_,.nil,e=>by simp at e
 | _,_,0,_,.cons r _,e=>by simp at e;subst e;exact⟨_,rfl,r⟩
 | _,_,i+1,x,.cons _ t,e=>by
  obtain⟨u,h1,h2⟩:=Vals.get (i:=i) (x:=x) t (by simpa using e)
  exact⟨u,by simpa using h1,h2⟩
theorem Vals.append:∀ {xs ys:List V} {us ws:List Value},Vals xs us->Vals ys ws->Vals (xs++ys) (us++ws)
 | _,_,_,_,.nil,s=>s
 | _,_,_,_,.cons r t,s=>.cons r (Vals.append t s)
theorem Vals.take:∀ {xs:List V} {us:List Value} (n:Nat),Vals xs us->Vals (xs.take n) (us.take n)
 | _,_,0,_=>.nil
 | _,_,_+1,.nil=>.nil
 | _,_,n+1,.cons r t=>.cons r (Vals.take n t)
theorem Vals.drop:∀ {xs:List V} {us:List Value} (n:Nat),Vals xs us->Vals (xs.drop n) (us.drop n)
 | _,_,0,r=>r
 | _,_,_+1,.nil=>.nil
 | _,_,n+1,.cons _ t=>Vals.drop n t
def lJ:Option V->Option Value->Prop
 | some v,some u=>RelV v u
 | none,none=>True
 | _,_=>False
def KV{κ:Type}:List (κ×V)->List (κ×Value)->Prop:=Paired fun(p:κ×V) (q:κ×Value)=>p.1=q.1/\RelV p.2 q.2
def kV:Key->V
 | .inl i=>.int i
 | .inr x=>.str x
inductive HO where
 | lst (xs:List V)
 | tup (xs:List V)
 | dK (kvs:List (Key×V))|dT (kvs:List (List Key×V))
 | set (S:Int->Bool) (n:Nat)
 | ins (C dx:Addr) (fs:List (Str×V))
 | own (x:Addr)
 | xd (fs:List (Str×V))
 | met (f x:Addr)
 | rng (lo hi:Int)
 | frz (o:Obj) (u:HO)
 | tbl (ps:Array Value)
 | ext (φ:Heap->Prop)
abbrev Hp:=Addr->Option HO
def upd(H:Hp)(a:Addr)(o:HO):Hp:=fun b=>if b=a then some o else H b
theorem ao{H:Hp}{a:Addr}{o:HO}:upd H a o a=some o:=by unfold upd;rw[if_pos rfl]
theorem aD{H:Hp}{a b:Addr}{o:HO}(h:b≠a):upd H a o b=H b:=by unfold upd;rw[if_neg h]
theorem eZ{H:Hp}{a b:Addr}{o u:HO}(h:H a=some o)(h':H b=some u)(d:o≠u):a≠b:=by
 intro e;subst e;rw[h]at h';exact d (Option.some.inj h')
theorem aF{H:Hp}{a b:Addr}{o:HO}(h:H a=some o)(h':H b=none):a≠b:=by
 intro e;subst e;rw[h]at h';cases h'
section
variable (P:Program) (w:World)
def bD(H:Hp)(h:Heap)(a:Addr):HO->Prop
 | .lst xs=>xs.length<=sizeLine/\∃ (its:List Value) (n:Nat),Vals xs its/\h.get? a=some {cls:=.type "list",data:=.seq its.toArray n}
 | .tup xs=>xs.length<=sizeLine/\∃ its:List Value,Vals xs its/\IsTup h a its.toArray
 | .dK kvs=>kvs.length<=sizeLine/\(a==sysModules)=false/\∃ vs,KV kvs vs/\h.DictOf (bN P w) a vs
 | .dT kvs=>kvs.length<=sizeLine/\(a==sysModules)=false/\∃ xs:List (List Key×Addr×Value),
   Paired (fun(p:List Key×V) (q:List Key×Addr×Value)=>p.1=q.1/\H q.2.1=some (.tup (p.1.map kV))/\RelV p.2 q.2.2) kvs xs /\
   ∃ o es ep,h.get? a=some o/\o.ExactDict/\o.data=.dict es ep/\es.toList=xs.map (entryOfKey (tupleKind (bN P w)))/\(xs.map (·.1)).Nodup
 | .set S n=>h.SetOf (intKind P w) a S n
 | .ins C dx fs=>H dx=some (.own a)/\fs.length<=1000/\dx≠a/\h.get? a=some (instObj C dx) /\
   ∃ mA,h.Ns1 dx mA/\(∀ f,lJ (fs.lookup f) (mA f))/\PySem.Within mA (fs.map (·.1))
 | .own _=>∃ o,h.get? a=some o
 | .xd fs=>∃ mA,h.Ns1 a mA/\∀ f,lJ (fs.lookup f) (mA f)
 | .rng lo hi=>∃ t u v,h.get? a=some {cls:=.type "range",data:=.fields #[.int lo t,.int hi u,.int 1 v]}
 | .frz o u=>h.get? a=some o/\bD H h a u
 | .tbl ps=>h.get? a=some {cls:=.none,data:=.fields ps}
 | .met f x=>h.get? a=some (methodObj (.ref f) (.ref x))
 | .ext φ=>φ h/\(∃ o,h.get? a=some o)/\∀ h1 h2:Heap,φ h1->(∀ o,h1.get? a=some o->h2.get? a=some o)->φ h2
def HOk(H:Hp)(h:Heap):Prop:=∀ a o,H a=some o->bD P w H h a o
end
section
variable {P:Program} {w:World} {H H':Hp} {h h':Heap} {a:Addr} {o:HO}
theorem bD.lt(x:bD P w H h a o):a<h.objs.size:=by
 cases o with
 | lst xs=>obtain⟨_,_,_,_,e⟩:=x;exact Heap.lt_size e
 | tup xs=>obtain⟨_,_,_,p⟩:=x;exact p.lt
 | dK kvs=>obtain⟨_,_,_,_,o,_,_,e,_⟩:=x;exact Heap.lt_size e
 | dT kvs=>obtain⟨_,_,_,_,o,_,_,e,_⟩:=x;exact Heap.lt_size e
 | set S n=>obtain⟨o,_,_,_,e,_⟩:=x;exact Heap.lt_size e
 | ins C dx fs=>obtain⟨_,_,_,e,_⟩:=x;exact Heap.lt_size e
 | own y=>obtain⟨_,e⟩:=x;exact Heap.lt_size e
 | xd fs=>obtain⟨_,⟨_,_,_,e,_⟩,_⟩:=x;exact Heap.lt_size e
 | rng lo hi=>obtain⟨_,_,_,e⟩:=x;exact Heap.lt_size e
 | frz ob u=>obtain⟨e,_⟩:=x;exact Heap.lt_size e
 | tbl ps=>exact Heap.lt_size (show h.get? a=some _ from x)
 | met f y=>exact Heap.lt_size (show h.get? a=some _ from x)
 | ext φ=>obtain⟨_,⟨_,e⟩,_⟩:=x;exact Heap.lt_size e
theorem Paired.mapP{α β:Type}{F G:α->β->Prop}:∀ {l₁:List α} {l₂:List β},Paired F l₁ l₂->(∀ a b,F a b->G a b)->Paired G l₁ l₂
 | _,_,.nil,_=>.nil
 | _,_,.cons r t,f=>.cons (f _ _ r) (Paired.mapP t f)
theorem bD.stay(x:bD P w H h a o)(k:∀ b u,(b=a\/H b=some (.own a))->h.get? b=some u->h'.get? b=some u)
  (ho:∀ b,H b=some (.own a)->H' b=some (.own a))(ht:∀ b xs,H b=some (.tup xs)->H' b=some (.tup xs)):bD P w H' h' a o:=by
 induction o with
 | lst xs=>obtain⟨z,its,n,r,e⟩:=x;exact⟨z,its,n,r,k _ _ (.inl rfl) e⟩
 | tup xs=>obtain⟨z,its,r,ob,e,c⟩:=x;exact⟨z,its,r,ob,k _ _ (.inl rfl) e,c⟩
 | dK kvs=>obtain⟨z,y,vs,r,ob,es,ep,e,c⟩:=x;exact⟨z,y,vs,r,ob,es,ep,k _ _ (.inl rfl) e,c⟩
 | dT kvs =>
  obtain⟨z,y,xs,r,ob,es,ep,e,c⟩:=x
  exact⟨z,y,xs,Paired.mapP r fun p q z=>⟨z.1,ht _ _ z.2.1,z.2.2⟩,ob,es,ep,k _ _ (.inl rfl) e,c⟩
 | set S n=>obtain⟨ob,es,ep,t,e,c⟩:=x;exact⟨ob,es,ep,t,k _ _ (.inl rfl) e,c⟩
 | ins C dx fs =>
  obtain⟨d,z,ne,e,mA,⟨od,es,ep,e2,c⟩,r⟩:=x
  exact⟨ho _ d,z,ne,k _ _ (.inl rfl) e,mA,⟨od,es,ep,k _ _ (.inr d) e2,c⟩,r⟩
 | own y=>obtain⟨ob,e⟩:=x;exact⟨ob,k _ _ (.inl rfl) e⟩
 | xd fs=>obtain⟨mA,⟨od,es,ep,e,c⟩,r⟩:=x;exact⟨mA,⟨od,es,ep,k _ _ (.inl rfl) e,c⟩,r⟩
 | rng lo hi=>obtain⟨t,u,v,e⟩:=x;exact⟨t,u,v,k _ _ (.inl rfl) e⟩
 | frz ob u ih=>obtain⟨e,q⟩:=x;exact⟨k _ _ (.inl rfl) e,ih q⟩
 | tbl ps =>
  have e:h.get? a=some {cls:=.none,data:=.fields ps}:=x
  show h'.get? a=some {cls:=.none,data:=.fields ps}
  exact k a _ (.inl rfl) e
 | met f y =>
  have e:h.get? a=some (methodObj (.ref f) (.ref y)):=x
  show h'.get? a=some (methodObj (.ref f) (.ref y))
  exact k a _ (.inl rfl) e
 | ext φ=>obtain⟨p,⟨o,e⟩,st⟩:=x;exact⟨st _ _ p fun o q=>k _ _ (.inl rfl) q,⟨o,k _ _ (.inl rfl) e⟩,st⟩
theorem HOk.lt(x:HOk P w H h)(e:H a=some o):a<h.objs.size:=(x a o e).lt
theorem HOk.fresh(x:HOk P w H h)(e:h.objs.size<=a):H a=none:=by
 cases q:H a with
 | none=>rfl
 | some u=>exact absurd (lt_of_lt_of_le (x.lt q) e) (lt_irrefl _)
theorem HOk.kept(x:HOk P w H h)(k:∀ b u,h.get? b=some u->h'.get? b=some u):HOk P w H h':=fun a o e =>
 (x a o e).stay (fun b u _ q=>k b u q) (fun _ q=>q) fun _ _ q=>q
theorem HOk.laid(x:HOk P w H h)(k:∀ b u,h.get? b=some u->h'.get? b=some u)(hp:h.objs.size<=a)(new:bD P w (upd H a o) h' a o):HOk P w (upd H a o) h':=fun b u e=>by
 have hn:=x.fresh hp
 by_cases hb:b=a
 ·subst hb;rw[ao]at e;cases e;exact new
 ·rw[aD hb]at e
  exact(x b u e).stay (fun c v _ q=>k c v q) (fun c q=>by rw[aD (aF q hn)];exact q) fun c xs q=>by rw[aD (aF q hn)];exact q
end
def Rd(H:Hp)(a:Addr)(u:HO):Prop:=H a=some u\/∃ o,H a=some (.frz o u)
theorem Rd.ok{P:Program}{w:World}{H:Hp}{h:Heap}{a:Addr}{u:HO}(r:Rd H a u)(x:HOk P w H h):bD P w H h a u:=by
 rcases r with r|⟨o,r⟩
 ·exact x a u r
 ·obtain⟨_,q⟩:=x a _ r
  exact q
def Mut:Option HO->Prop
 | some (.lst _)=>True
 | some (.dK _)=>True
 | some (.dT _)=>True
 | some (.set _ _)=>True
 | some (.ins _ _ _)=>True
 | some (.ext _)=>True
 | _=>False
section
variable {P:Program} {w:World} {H:Hp} {h h':Heap} {x e:Addr} {o':HO}
theorem HOk.write(ok:HOk P w H h)(mu:Mut (H x))(he:e=x\/H e=some (.own x))(k:∀ b u,b≠e->h.get? b=some u->h'.get? b=some u)(heo:∃ u,h'.get? e=some u)
  (new:bD P w (upd H x o') h' x o'):HOk P w (upd H x o') h':=fun b u q=>by
 have nown:∀ c y,H c=some (.own y)->c≠x:=fun c y r z=>by subst z;rw[r]at mu;exact mu
 have ntup:∀ c xs,H c=some (.tup xs)->c≠x:=fun c xs r z=>by subst z;rw[r]at mu;exact mu
 by_cases hb:b=x
 ·subst hb;rw[ao]at q;cases q;exact new
 ·rw[aD hb]at q
  by_cases hbe:b=e
  ·have q':H b=some (.own x):=by
    rcases he with z|z
    ·exact absurd (hbe.trans z) hb
    ·rw[hbe];exact z
   rw[q]at q';cases q'
   obtain⟨v,hv⟩:=heo
   exact⟨v,by rw[hbe];exact hv⟩
  ·refine(ok b u q).stay (fun c v hc r=>k c v ?_ r) (fun c r=>by rw[aD (nown c b r)];exact r) fun c xs r=>by rw[aD (ntup c xs r)];exact r
   rcases hc with rfl|hc
   ·exact hbe
   ·rintro rfl
    rcases he with z|z
    ·exact nown c b hc z
    ·rw[hc]at z;cases z;exact hb rfl
end
structure Un(fs ex:List Addr)(H H':Hp)(h h':Heap):Prop where
 keep:∀ b o,h.get? b=some o->H b=none->b∉fs->b∉ex->h'.get? b=some o
 slot:∀ b o,h.get? b=some o->H b=none->b∈fs->b∉ex->∃ sl,h'.get? b=some {o with slots:=sl}
 free:∀ b o,h.get? b=some o->H b=none->b∉ex->H' b=none
 there:∀ b o,h.get? b=some o->b∉ex->∃ o',h'.get? b=some o'
 tups:∀ b xs,H b=some (.tup xs)->H' b=some (.tup xs)
 frzs:∀ b o u,H b=some (.frz o u)->H' b=some (.frz o u)
 tbls:∀ b ps,H b=some (.tbl ps)->∃ more,H' b=some (.tbl (ps++more))
section
variable {fs fs' ex ex':List Addr} {H H1 H2:Hp} {h h1 h2 h':Heap} {a x e:Addr} {o:HO}
theorem Un.any(u:Un fs ex H H1 h h1){b:Addr}{ob:Obj}(q:h.get? b=some ob)(n:H b=none)(hx:b∉ex):∃ sl,h1.get? b=some {ob with slots:=sl}:=by
 by_cases hb:b∈fs
 ·exact u.slot b ob q n hb hx
 ·exact⟨ob.slots,u.keep b ob q n hb hx⟩
theorem Un.kept(k:∀ b u,h.get? b=some u->h'.get? b=some u):Un fs ex H H h h' :=
 ⟨fun b ob q _ _ _=>k b ob q,fun b ob q _ _ _=>⟨ob.slots,k b ob q⟩,fun _ _ _ n _=>n,fun b ob q _=>⟨ob,k b ob q⟩,fun _ _ q=>q,fun _ _ _ q=>q,fun _ ps q=>⟨#[],by rw[q];simp⟩⟩
theorem Un.refl:Un fs ex H H h h:=Un.kept fun _ _ q=>q
theorem Un.laid(k:∀ b u,h.get? b=some u->h'.get? b=some u)(hp:h.objs.size<=a)(hn:H a=none):Un fs ex H (upd H a o) h h' where
 keep:=fun b u q _ _ _=>k b u q
 slot:=fun b u q _ _ _=>⟨u.slots,k b u q⟩
 free:=fun b u q n _=>by rw[aD (ne_of_lt (lt_of_lt_of_le (Heap.lt_size q) hp))];exact n
 there:=fun b u q _=>⟨u,k b u q⟩
 tups:=fun b xs q=>by rw[aD (aF q hn)];exact q
 frzs:=fun b u xs q=>by rw[aD (aF q hn)];exact q
 tbls:=fun b ps q=>⟨#[],by rw[aD (aF q hn),q];simp⟩
theorem Un.write(mu:Mut (H x))(he:e=x\/H e=some (.own x))(k:∀ b u,b≠e->h.get? b=some u->h'.get? b=some u)(heo:∃ u,h'.get? e=some u):Un fs ex H (upd H x o) h h':=by
 have hx:∀ b,H b=none->b≠x:=fun b n z=>by subst z;rw[n]at mu;exact mu
 have hb:∀ b,H b=none->b≠e:=fun b n z=>by
  subst z
  rcases he with r|r
  ·exact hx b n r
  ·rw[n]at r;cases r
 have hm:∀ b u,H b=some u->¬ Mut (some u)->b≠x:=fun b u q nm z=>by subst z;rw[q]at mu;exact nm mu
 refine⟨fun b u q n _ _=>k b u (hb b n) q,fun b u q n _ _=>⟨u.slots,k b u (hb b n) q⟩,fun b u q n _=>by rw[aD (hx b n)];exact n,fun b u q _=>?_,
  fun b xs q=>by rw[aD (hm b _ q fun z=>z)];exact q,fun b u xs q=>by rw[aD (hm b _ q fun z=>z)];exact q,fun b ps q=>⟨#[],by rw[aD (hm b _ q fun z=>z),q];simp⟩⟩
 by_cases hbe:b=e
 ·subst hbe;exact heo
 ·exact⟨u,k b u hbe q⟩
end
def trk(h:Heap)(H:Hp):List Addr:=(List.range h.objs.size).filter fun a=>(H a).isSome
def wJ(h:Heap)(H:Hp):Heap:=PySem.W.hideAll h (trk h H)
theorem Fe(h:Heap)(H:Hp):(wJ h H).objs.size=h.objs.size:=PySem.W.hideAll_size _ _
theorem Gi{h:Heap}{H:Hp}{b:Addr}{o:Obj}(e:h.get? b=some o)(n:H b=none):(wJ h H).get? b=some o :=
 PySem.W.hideAll_get _ e fun hm=>by
  have q:(H b).isSome=true:=(mem_filter.mp hm).2
  rw[n]at q;simp at q
theorem Ky{h:Heap}{H:Hp}{b:Addr}{o:Obj}(e:(wJ h H).get? b=some o):h.get? b=some o/\H b=none:=by
 have e':h.get? b=some o:=PySem.W.of_hideAll (trk h H) e
 refine⟨e',?_⟩
 cases q:H b with
 | none=>rfl
 | some x =>
  have hm:b∈trk h H:=mem_filter.mpr ⟨mem_range.mpr (Heap.lt_size e'),by simp[q]⟩
  have z:(wJ h H).get? b=none:=PySem.W.hideAll_none (trk h H) hm
  rw[z]at e;cases e
structure Mod(K:Frag)(mg:MG)(base:Heap):Prop where
 kin:K.In base
 glob:base.Ns mainGlobals mg
 blt:∃ mb,base.Ns builtinsNs mb/\∀ x:Str,x ≠ "__name__" -> mb x=bootBuiltins x
 nolimit:base.NoLimit
structure Cx where
 prog:Program
 w:World
 K:Frag
 mg:Str->Option Value
 base:Heap
 A:Around
 N:List Str
 s₀:Shared
 H₀:Hp
 env:Env
 outer:List Env
 stack:List Env
 ex:List Addr
 fn:Str->Bool
 calm:Bool
 pn:OP
 xe:Value->Shared->Prop
def frs(l:List Env):List Addr:=l.filterMap (·.frame)
abbrev Cx.fs(X:Cx):List Addr:=frs X.outer
def Vis(sc:Scope)(x:Str):Prop:=sc.names.lookup x=some .local\/sc.names.lookup x=some .cell\/sc.names.lookup x=some .free
def Loc(sc:Scope)(x:Str):Prop:=sc.names.lookup x=some .local\/sc.names.lookup x=some .cell
def Look(env:Env)(h:Heap)(m:MG)(x:Str)(u:Value):Prop :=
 (env.kindOf x=some .local/\m x=some u)\/((env.kindOf x=some .cell\/env.kindOf x=some .free)/\∃ c,env.cells.lookup x=some c/\h.IsCell c (some u))
structure Cx.Ok(X:Cx):Prop where
 mod:Mod X.K X.mg X.base
 kind:X.env.scope.kind=.function
 glob:X.env.globals=mainGlobals
 blt:X.env.builtins=builtinsNs
 above:X.s₀.heap.objs.size<=X.env.locals
 inj:∀ x y c,X.env.cells.lookup x=some c->X.env.cells.lookup y=some c->x=y
 has:∀ x,(X.env.kindOf x=some .cell\/X.env.kindOf x=some .free)->∃ c,X.env.cells.lookup x=some c
 cab:∀ x c,X.fn x=true->X.env.cells.lookup x=some c->X.s₀.heap.objs.size<=c
 hd:X.calm=true->X.A.handled=none
 frames:X.A.frames=some X.stack
 stk:X.stack=X.outer\/(X.stack=X.env::X.outer/\X.env.frame=some X.env.locals)
 exf:∀ b∈X.ex,b≠X.env.locals/\∀ x c,X.env.cells.lookup x=some c->c≠b
 bs:∀ b o,X.base.get? b=some o->X.s₀.heap.get? b=some o/\X.H₀ b=none
 bsz:X.base.objs.size<=X.s₀.heap.objs.size
 noex:∀ b o,X.base.get? b=some o->b∉X.ex
 exfs:∀ b∈X.ex,b∉X.fs
 funs:X.s₀.heap.FunFrames X.base X.outer
 frf:∀ b∈X.fs,X.H₀ b=none
structure Inv(X:Cx)(pins:OP)(σ:List (Option V))(H:Hp)(s:Shared):Prop where
 ok:X.Ok
 os:s.os=X.s₀.os
 bare:AllBare s.gens
 base:Un X.fs X.ex X.H₀ H X.s₀.heap s.heap
 loc:∃ m,s.heap.Ns X.env.locals m/\∀ (i:Nat) (x:Str) (v:V),X.N[i]? = some x->σ[i]? = some (some v)->Vis X.env.scope x->∃ u,RelV v u/\Look X.env s.heap m x u
 cell:∀ x c,X.env.cells.lookup x=some c->∃ v,s.heap.IsCell c v
 free:H X.env.locals=none
 freeC:∀ x c,X.env.cells.lookup x=some c->H c=none
 pin:∀ p∈X.pn++pins,s.heap.get? p.1=some p.2/\H p.1=none/\p.1≠X.env.locals/\p.1∉X.fs/\∀ v,p.2.data≠.cell v
 hok:HOk X.prog X.w H s.heap
 len:σ.length=X.N.length
section
variable {X:Cx} {pins:OP} {σ:List (Option V)} {H H':Hp} {s:Shared} {h':Heap}
theorem Cx.Ok.nofr(ok:X.Ok){b:Addr}{o:Obj}(e:X.base.get? b=some o):b∉X.fs:=fun hb=>by
 have:=(ok.funs.mem hb).1
 rw[e]at this;cases this
theorem Inv.bs(I:Inv X pins σ H s):∀ b o,X.base.get? b=some o->s.heap.get? b=some o/\H b=none:=fun b o e =>
 ⟨I.base.keep b o (I.ok.bs b o e).1 (I.ok.bs b o e).2 (I.ok.nofr e) (I.ok.noex b o e),I.base.free b o (I.ok.bs b o e).1 (I.ok.bs b o e).2 (I.ok.noex b o e)⟩
theorem Inv.bk(I:Inv X pins σ H s):∀ b o,X.base.get? b=some o->s.heap.get? b=some o:=fun b o e=>(I.bs b o e).1
theorem Inv.mod(I:Inv X pins σ H s):Mod X.K X.mg X.base:=I.ok.mod
theorem Inv.kIn(I:Inv X pins σ H s):X.K.In s.heap:=I.ok.mod.kin.keeps I.bk
theorem Inv.lt(I:Inv X pins σ H s):X.env.locals<s.heap.objs.size:=let⟨_,hn,_⟩:=I.loc;hn.lt
theorem Inv.sz(I:Inv X pins σ H s):X.s₀.heap.objs.size<=s.heap.objs.size:=le_trans I.ok.above (le_of_lt I.lt)
theorem Inv.nofs(I:Inv X pins σ H s){a:Addr}(h:s.heap.objs.size<=a):a∉X.fs:=fun hb=>by
 obtain⟨_,o,ho,_⟩:=I.ok.funs.mem hb
 exact absurd (lt_of_lt_of_le (Heap.lt_size ho) (le_trans I.sz h)) (lt_irrefl _)
theorem Inv.cne(I:Inv X pins σ H s):∀ x c,X.env.cells.lookup x=some c->c≠X.env.locals:=fun x c e z=>by
 obtain⟨v,o,ho,hd⟩:=I.cell x c e
 obtain⟨m,⟨o',es,ep,ho',hd',_⟩,_⟩:=I.loc
 rw[z,ho']at ho;cases ho;rw[hd']at hd;cases hd
theorem Inv.funs(I:Inv X pins σ H s):s.heap.FunFrames X.base X.outer:=by
 have all:∀ (l:List Env),(∀ b∈frs l,b∈X.fs)->X.s₀.heap.FunFrames X.base l->s.heap.FunFrames X.base l:=by
  intro l
  induction l with
  | nil=>intro _ _;trivial
  | cons env r ih =>
   intro hs hl
   obtain⟨hk,⟨L,o,hf,hn,ho,hd⟩,hr⟩:=hl
   have hL:L∈X.fs:=hs L (by unfold frs;rw[List.filterMap_cons,hf];exact mem_cons_self)
   obtain⟨sl,e⟩:=I.base.slot L o ho (I.ok.frf L hL) hL fun z=>I.ok.exfs L z hL
   exact⟨hk,⟨L,_,hf,hn,e,hd⟩,ih (fun b hb=>hs b (by unfold frs;rw[List.filterMap_cons,hf];exact mem_cons_of_mem _ hb)) hr⟩
 exact all X.outer (fun _ hb=>hb) I.ok.funs
theorem Inv.stack (I:Inv X pins σ H s):s.heap.FunFrames X.base X.stack:=by
 rcases I.ok.stk with e | ⟨e,hf⟩
 ·rw [e]; exact I.funs
 ·rw [e]
  obtain ⟨m,hn,_⟩:=I.loc
  refine .cons (by rw [I.ok.kind]; decide) hf hn ?_ I.funs
  exact Heap.get?_none_of_le (le_trans I.ok.bsz I.ok.above)
theorem Inv.stkSub(I:Inv X pins σ H s):∀ b∈frs X.stack,b∈X.env.locals::X.fs:=fun b hb=>by
 rcases I.ok.stk with e|⟨e,hf⟩
 ·rw[e]at hb;exact mem_cons_of_mem _ hb
 ·rw[e]at hb
  unfold frs at hb
  rw[List.filterMap_cons,hf]at hb
  exact hb
theorem Inv.stkFree(I:Inv X pins σ H s):∀ b∈frs X.stack,H b=none:=fun b hb=>by
 rcases mem_cons.mp (I.stkSub b hb)with e|hb
 ·rw[e];exact I.free
 ·obtain⟨_,o,ho,_⟩:=I.ok.funs.mem hb
  exact I.base.free b o ho (I.ok.frf b hb) fun z=>I.ok.exfs b z hb
theorem Inv.step {g':Array GenState} {t':Nat} {d':Drawn} {ch:List Addr} (I:Inv X pins σ H s)
  (hch:∀ b ∈ ch,(b ∈ X.ex \/ X.s₀.heap.objs.size <= b) /\ b ≠ X.env.locals /\ (∀ x c,X.env.cells.lookup x = some c -> c ≠ b) /\ ∀ p ∈ X.pn ++ pins,p.1 ≠ b)
  (keep:∀ b o,b ≠ X.env.locals -> b ∉ X.fs -> b ∉ ch -> s.heap.get? b = some o -> H b = none -> h'.get? b = some o)
  (slot:∀ b o,b ≠ X.env.locals -> b ∈ X.fs -> b ∉ ch -> s.heap.get? b = some o -> H b = none -> ∃ sl,h'.get? b = some { o with slots:=sl }) (free:∀ b o,b ∉ ch -> s.heap.get? b = some o -> H b = none -> H' b = none)
  (there:∀ b o,b ∉ ch -> s.heap.get? b = some o -> ∃ o',h'.get? b = some o')
  (tups:∀ b xs,H b = some (.tup xs) -> H' b = some (.tup xs)) (frzs:∀ b o u,H b = some (.frz o u) -> H' b = some (.frz o u)) (tbls:∀ b ps,H b = some (.tbl ps) -> ∃ more,H' b = some (.tbl (ps ++ more)))
  (ns:∀ m,s.heap.Ns X.env.locals m -> h'.Ns X.env.locals m) (hok:HOk X.prog X.w H' h') (hg:AllBare g') :
  Inv X pins σ H' { s with heap:=h',gens:=g',drawn:=d',toks:=t' }:=by
 have neL:∀ b o,X.s₀.heap.get? b = some o -> b ≠ X.env.locals:=fun b o e=>ne_of_lt (lt_of_lt_of_le (Heap.lt_size e) I.ok.above)
 have neC:∀ b o,X.s₀.heap.get? b = some o -> b ∉ X.ex -> b ∉ ch:=fun b o e hx hb=>by
  rcases (hch b hb).1 with z | z
  ·exact hx z
  ·exact absurd (lt_of_lt_of_le (Heap.lt_size e) z) (lt_irrefl _)
 have cellK:∀ x c,X.env.cells.lookup x = some c -> ∀ v,s.heap.IsCell c v -> h'.IsCell c v:=fun x c e v ⟨o,ho,hd⟩=>by
  have nch:c ∉ ch:=fun z=>(hch c z).2.2.1 x c e rfl
  by_cases hc:c ∈ X.fs
  ·obtain ⟨sl,q⟩:=slot c o (I.cne x c e) hc nch ho (I.freeC x c e)
   exact ⟨_,q,hd⟩
  ·exact ⟨o,keep c o (I.cne x c e) hc nch ho (I.freeC x c e),hd⟩
 refine ⟨I.ok,I.os,hg,⟨fun b o e n hb hx=>?_,fun b o e n hb hx=>?_,fun b o e n hx=>?_,fun b o e hx=>?_,fun b xs e=>tups b xs (I.base.tups b xs e),fun b o xs e=>frzs b o xs (I.base.frzs b o xs e),fun b ps e=>?_⟩,?_,fun x c e=>?_,?_,fun x c e=>?_,fun p hp=>?_,hok,I.len⟩
 ·exact keep b o (neL b o e) hb (neC b o e hx) (I.base.keep b o e n hb hx) (I.base.free b o e n hx)
 ·obtain ⟨sl,e1⟩:=I.base.slot b o e n hb hx
  obtain ⟨sl',e2⟩:=slot b _ (neL b o e) hb (neC b o e hx) e1 (I.base.free b o e n hx)
  exact ⟨sl',e2⟩
 ·obtain ⟨o',e1⟩:=I.base.there b o e hx
  exact free b o' (neC b o e hx) e1 (I.base.free b o e n hx)
 ·obtain ⟨o',e1⟩:=I.base.there b o e hx
  exact there b o' (neC b o e hx) e1
 ·obtain ⟨m1,e1⟩:=I.base.tbls b ps e
  obtain ⟨m2,e2⟩:=tbls b _ e1
  exact ⟨m1 ++ m2,by rw [e2,Array.append_assoc]⟩
 ·obtain ⟨m,hn,hl⟩:=I.loc
  refine ⟨m,ns m hn,fun i x v e1 e2 e3=>?_⟩
  obtain ⟨u,r,l⟩:=hl i x v e1 e2 e3
  refine ⟨u,r,?_⟩
  rcases l with l | ⟨k,c,e,z⟩
  ·exact .inl l
  ·exact .inr ⟨k,c,e,cellK x c e _ z⟩
 ·obtain ⟨v,z⟩:=I.cell x c e
  exact ⟨v,cellK x c e v z⟩
 ·obtain ⟨m,⟨o,_,_,ho,_⟩,_⟩:=I.loc
  exact free _ o (fun z=>(hch _ z).2.1 rfl) ho I.free
 ·obtain ⟨v,o,ho,hd⟩:=I.cell x c e
  exact free c o (fun z=>(hch c z).2.2.1 x c e rfl) ho (I.freeC x c e)
 ·obtain ⟨e,n,ne,nf,d⟩:=I.pin p hp
  have nch:p.1 ∉ ch:=fun z=>(hch p.1 z).2.2.2 p hp rfl
  exact ⟨keep p.1 p.2 ne nf nch e n,free p.1 p.2 nch e n,ne,nf,d⟩
theorem Inv.un{t':Nat}(I:Inv X pins σ H s)(u:Un X.fs [] H H' s.heap h')(hok:HOk X.prog X.w H' h'):Inv X pins σ H' {s with heap:=h',toks:=t'}:=by
 obtain⟨m,⟨o,es,ep,ho,r⟩,_⟩:=id I.loc
 obtain⟨sl,hL⟩:=u.any ho I.free Z2
 exact I.step (g':=s.gens) (d':=s.drawn) (ch:=[]) (fun _ z=>nomatch z) (fun b o _ hb _ e n=>u.keep b o e n hb Z2) (fun b o _ hb _ e n=>u.slot b o e n hb Z2) (fun b o _ e n=>u.free b o e n Z2) (fun b o _ e=>u.there b o e Z2) u.tups u.frzs u.tbls (fun m' hm=>by
  obtain⟨o',es',ep',ho',r'⟩:=hm
  rw[ho]at ho';cases ho'
  exact⟨_,es',ep',hL,r'⟩) hok I.bare
theorem Inv.call{g':Array GenState}{t':Nat}{d':Drawn}{ch:List Addr}(I:Inv X pins σ H s)(u:Un (frs X.stack) ch H H' s.heap h')(hok:HOk X.prog X.w H' h')(hg:AllBare g')
  (hch:∀ b∈ch,(b∈X.ex\/X.s₀.heap.objs.size<=b)/\b≠X.env.locals/\(∀ x c,X.env.cells.lookup x=some c->c≠b)/\∀ p∈X.pn++pins,p.1≠b) :
  Inv X pins σ H' {s with heap:=h',gens:=g',drawn:=d',toks:=t'}:=by
 obtain⟨m,⟨o,es,ep,ho,r⟩,_⟩:=id I.loc
 obtain⟨sl,hL⟩:=u.any ho I.free fun z=>(hch _ z).2.1 rfl
 exact I.step (ch:=ch) hch (fun b o hL hb hc e n=>u.keep b o e n (fun z=>(mem_cons.mp (I.stkSub b z)).elim hL hb) hc) (fun b o _ _ hc e n=>u.any e n hc) (fun b o hc e n=>u.free b o e n hc) (fun b o hc e=>u.there b o e hc) u.tups u.frzs u.tbls (fun m' hm=>by
  obtain⟨o',es',ep',ho',r'⟩:=hm
  rw[ho]at ho';cases ho'
  exact⟨_,es',ep',hL,r'⟩) hok hg
theorem Inv.turned{t':Nat}{it:Addr}(I:Inv X pins σ H s)(k:∀ b o,b≠it->s.heap.get? b=some o->h'.get? b=some o)(hn:H it=none)(hL:it≠X.env.locals)
  (h1:it∈X.ex\/X.s₀.heap.objs.size<=it)(h2:∀ x c,X.env.cells.lookup x=some c->c≠it)(h3:∀ p∈X.pn++pins,p.1≠it):Inv X pins σ H {s with heap:=h',toks:=t'}:=by
 have nit:∀ b u,H b=some u->b≠it:=fun b u e z=>by rw[z,hn]at e;cases e
 refine I.step (g':=s.gens) (d':=s.drawn) (ch:=[it]) (fun b hb=>?_) (fun b o _ _ hc e _=>k b o (fun z=>hc (by simp[z])) e) (fun b o _ _ hc e _=>⟨o.slots,k b o (fun z=>hc (by simp[z])) e⟩) (fun _ _ _ _ n=>n)
  (fun b o hc e=>⟨o,k b o (fun z=>hc (by simp[z])) e⟩) (fun _ _ e=>e) (fun _ _ _ e=>e) (fun b ps e=>⟨#[],by rw[e];simp⟩) (fun m hm=>?_) (fun b u e=>?_) I.bare
 ·have e:b=it:=by simpa using hb
  subst e
  exact⟨h1,hL,h2,h3⟩
 ·obtain⟨o,es,ep,ho,r⟩:=hm
  exact⟨o,es,ep,k _ o (Ne.symm hL) ho,r⟩
 ·refine(I.hok b u e).stay (fun c v hc q=>k c v ?_ q) (fun _ q=>q) fun _ _ q=>q
  rcases hc with z|z
  ·rw[z];exact nit b u e
  ·exact nit c _ z
theorem Inv.tok(I:Inv X pins σ H s)(t:Nat):Inv X pins σ H {s with toks:=t}:=I.un (h':=s.heap) (t':=t) Un.refl I.hok
theorem Inv.kept{t':Nat}(I:Inv X pins σ H s)(k:∀ b u,s.heap.get? b=some u->h'.get? b=some u):Inv X pins σ H {s with heap:=h',toks:=t'}:=I.un (Un.kept k) (I.hok.kept k)
theorem Inv.laid{a:Addr}{o:HO}{t':Nat}(I:Inv X pins σ H s)(k:∀ b u,s.heap.get? b=some u->h'.get? b=some u)(hp:s.heap.objs.size<=a)(new:bD X.prog X.w (upd H a o) h' a o) :
  Inv X pins σ (upd H a o) {s with heap:=h',toks:=t'}:=I.un (Un.laid k hp (I.hok.fresh hp)) (I.hok.laid k hp new)
theorem Inv.write{x e:Addr}{o:HO}{t':Nat}(I:Inv X pins σ H s)(mu:Mut (H x))(he:e=x\/H e=some (.own x))(k:∀ b u,b≠e->s.heap.get? b=some u->h'.get? b=some u)(heo:∃ u,h'.get? e=some u)
  (new:bD X.prog X.w (upd H x o) h' x o):Inv X pins σ (upd H x o) {s with heap:=h',toks:=t'}:=I.un (Un.write mu he k heo) (I.hok.write mu he k heo new)
theorem Inv.pins_of{pins':OP}(I:Inv X pins σ H s)(h:∀ p∈pins',s.heap.get? p.1=some p.2/\H p.1=none/\p.1≠X.env.locals/\p.1∉X.fs/\∀ v,p.2.data≠.cell v):Inv X pins' σ H s :=
 ⟨I.ok,I.os,I.bare,I.base,I.loc,I.cell,I.free,I.freeC,fun p hp=>(mem_append.mp hp).elim (fun z=>I.pin p (mem_append_left _ z)) (h p),I.hok,I.len⟩
theorem zz{N:List Str}(hN:N.Nodup){i j:Nat}{x:Str}(a:N[i]? = some x)(b:N[j]? = some x):i=j:=by
 obtain⟨h1,e1⟩:=List.getElem?_eq_some_iff.mp a
 obtain⟨h2,e2⟩:=List.getElem?_eq_some_iff.mp b
 exact(List.getElem_inj hN).mp (e1.trans e2.symm)
theorem vP {M:Model} {A:Around} {E:EV} {i:Nat} {x:Str} {v:V} {u:Value} {Q:Unit -> Shared -> Prop} (I:Inv X pins σ H s) (hN:X.N.Nodup) (hi:X.N[i]? = some x) (hx:Loc X.env.scope x) (r:RelV v u)
  (h:∀ s',Inv X pins (σ.set i (some v)) H s' -> (∃ a,Heap.SameBut a s.heap s'.heap /\ (a = X.env.locals \/ X.env.cells.lookup x = some a)) -> Q () s') (hf:X.fn x = true \/ X.env.scope.names.lookup x = some .local:=by first | exact .inl rfl | exact .inr rfl | assumption):wpAny M A (storeName X.env x u) Q E s:=by
 obtain ⟨m,hn,hl⟩:=id I.loc
 have hcls:(X.env.scope.kind == .class || (X.env.scope.kind == .module && X.env.locals != X.env.globals)) = false:=by rw [I.ok.kind]; rfl
 have hiσ:i < σ.length:=by rw [I.len]; exact (List.getElem?_eq_some_iff.mp hi).1
 have cne:=I.cne
 have tracked:∀ {a:Addr} {h':Heap},(∃ o,s.heap.get? a = some o /\ H a = none) -> Heap.SameBut a s.heap h' -> HOk X.prog X.w H h':=fun {a h'} ha hs b ob e=>by
  obtain ⟨_,_,hfree⟩:=ha
  refine (I.hok b ob e).stay (fun c w' hc q=>(hs.2 c ?_).trans q) (fun _ q=>q) fun _ _ q=>q
  rintro rfl
  rcases hc with rfl | hc
  ·rw [hfree] at e; cases e
  ·rw [hfree] at hc; cases hc
 rcases hx with hk | hk
 ·refine wpAny_storeName_local hk hn (fun h' hn' hs=>?_) hcls
  obtain ⟨oL,_,_,hoL,_⟩:=id hn
  refine h _ ⟨I.ok,I.os,I.bare,⟨fun b o e n hb hx=>?_,fun b o e n hb hx=>?_,I.base.free,fun b o e hx=>?_,I.base.tups,I.base.frzs,I.base.tbls⟩,⟨_,hn',fun j y v' e1 e2 e3=>?_⟩,fun y c e=>?_,I.free,I.freeC,fun p hp=>?_,tracked ⟨oL,hoL,I.free⟩ hs,by simpa using I.len⟩ ⟨_,hs,.inl rfl⟩
  ·exact (hs.2 b (ne_of_lt (lt_of_lt_of_le (Heap.lt_size e) I.ok.above))).trans (I.base.keep b o e n hb hx)
  ·obtain ⟨sl,e1⟩:=I.base.slot b o e n hb hx
   exact ⟨sl,(hs.2 b (ne_of_lt (lt_of_lt_of_le (Heap.lt_size e) I.ok.above))).trans e1⟩
  ·obtain ⟨o',e1⟩:=I.base.there b o e hx
   exact ⟨o',(hs.2 b (ne_of_lt (lt_of_lt_of_le (Heap.lt_size e) I.ok.above))).trans e1⟩
  ·by_cases hj:j = i
   ·subst hj
    rw [hi] at e1; cases e1
    rw [List.getElem?_set_self hiσ] at e2
    cases e2
    exact ⟨u,r,.inl ⟨hk,Z2⟩⟩
   ·rw [List.getElem?_set_ne (Ne.symm hj)] at e2
    obtain ⟨u',r',q⟩:=hl j y v' e1 e2 e3
    refine ⟨u',r',?_⟩
    rcases q with ⟨k,e⟩ | ⟨k,c,e,z⟩
    ·refine .inl ⟨k,?_⟩
     have:y ≠ x:=fun e=>hj (zz hN e1 (e ▸ hi))
     simp [this,e]
    ·exact .inr ⟨k,c,e,z.sameBut hs (cne y c e)⟩
  ·obtain ⟨w',z⟩:=I.cell y c e
   exact ⟨w',z.sameBut hs (cne y c e)⟩
  ·obtain ⟨e,n,ne,nf,d⟩:=I.pin p hp
   exact ⟨(hs.2 p.1 ne).trans e,n,ne,nf,d⟩
 ·have hfn:X.fn x = true:=by
   rcases hf with z | z
   ·exact z
   ·rw [z] at hk; cases hk
  obtain ⟨c,hc⟩:=I.ok.has x (.inl hk)
  obtain ⟨w',z⟩:=I.cell x c hc
  refine wpAny_storeName_cell I.ok.kind hk hc z (fun h' hc' hs=>?_)
  obtain ⟨oc,hoc,hocd⟩:=id z
  refine h { s with heap:=h' } ⟨I.ok,I.os,I.bare,⟨fun b o e n hb hx=>?_,fun b o e n hb hx=>?_,I.base.free,fun b o e hx=>?_,I.base.tups,I.base.frzs,I.base.tbls⟩,⟨m,hn.sameBut hs (Ne.symm (cne x c hc)),fun j y v' e1 e2 e3=>?_⟩,fun y c' e=>?_,I.free,I.freeC,fun p hp=>?_,tracked ⟨oc,hoc,I.freeC x c hc⟩ hs,by simpa using I.len⟩ ⟨c,hs,.inr hc⟩
  ·exact (hs.2 b (ne_of_lt (lt_of_lt_of_le (Heap.lt_size e) (I.ok.cab x c hfn hc)))).trans (I.base.keep b o e n hb hx)
  ·obtain ⟨sl,e1⟩:=I.base.slot b o e n hb hx
   exact ⟨sl,(hs.2 b (ne_of_lt (lt_of_lt_of_le (Heap.lt_size e) (I.ok.cab x c hfn hc)))).trans e1⟩
  ·obtain ⟨o',e1⟩:=I.base.there b o e hx
   exact ⟨o',(hs.2 b (ne_of_lt (lt_of_lt_of_le (Heap.lt_size e) (I.ok.cab x c hfn hc)))).trans e1⟩
  ·by_cases hj:j = i
   ·subst hj
    rw [hi] at e1; cases e1
    rw [List.getElem?_set_self hiσ] at e2
    cases e2
    exact ⟨u,r,.inr ⟨.inl hk,c,hc,hc'⟩⟩
   ·rw [List.getElem?_set_ne (Ne.symm hj)] at e2
    obtain ⟨u',r',q⟩:=hl j y v' e1 e2 e3
    refine ⟨u',r',?_⟩
    rcases q with q | ⟨k,c',e,z'⟩
    ·exact .inl q
    ·refine .inr ⟨k,c',e,z'.sameBut hs ?_⟩
     rintro rfl
     exact hj (zz hN e1 (I.ok.inj _ _ _ e hc ▸ hi))
  ·by_cases hcc:c' = c
   ·subst hcc; exact ⟨_,hc'⟩
   ·obtain ⟨w2,z2⟩:=I.cell y c' e
    exact ⟨w2,z2.sameBut hs hcc⟩
  ·obtain ⟨e,n,ne,nf,d⟩:=I.pin p hp
   refine ⟨(hs.2 p.1 ?_).trans e,n,ne,nf,d⟩
   intro q
   rw [q,hoc] at e
   have q':oc = p.2:=Option.some.inj e
   exact d w' (by rw [<- q']; exact hocd)
theorem yL {M:Model} {A:Around} {E:EV} {i:Nat} {x:Str} {v:V} {u:Value} {Q:Unit -> Shared -> Prop} (I:Inv X pins σ H s) (hN:X.N.Nodup) (hi:X.N[i]? = some x) (hx:Loc X.env.scope x) (r:RelV v u)
  (h:∀ s',Inv X pins (σ.set i (some v)) H s' -> Q () s') (hf:X.fn x = true \/ X.env.scope.names.lookup x = some .local:=by first | exact .inl rfl | exact .inr rfl | assumption):wpAny M A (storeName X.env x u) Q E s :=
 vP I hN hi hx r (fun s' I' _=>h s' I') hf
theorem Inv.call'{s':Shared}{ch:List Addr}(I:Inv X pins σ H s)(ho:s'.os=s.os)(u:Un (frs X.stack) ch H H' s.heap s'.heap)(hok:HOk X.prog X.w H' s'.heap)(hg:AllBare s'.gens)
  (hch:∀ b∈ch,(b∈X.ex\/X.s₀.heap.objs.size<=b)/\b≠X.env.locals/\(∀ x c,X.env.cells.lookup x=some c->c≠b)/\∀ p∈X.pn++pins,p.1≠b):Inv X pins σ H' s':=by
 obtain⟨h',g',d',t',o'⟩:=s'
 have e:o'=s.os:=ho
 subst e
 exact I.call (g':=g') (t':=t') (d':=d') u hok hg hch
end
abbrev XK:=Value->Option Addr->Hp->Prop
abbrev St:=List (Option V)
abbrev VK:=V->Hp->Prop
abbrev TE:=St->Hp->VK->Prop
abbrev TT:=St->Hp->(Bool->Hp->Prop)->Prop
abbrev TA:=St->Hp->(List V->Hp->Prop)->Prop
structure Ends where
 nx:St->Hp->Prop
 rt:VK
 bk:St->Hp->Prop:=fun _ _=>False
 ct:St->Hp->Prop:=fun _ _=>False
abbrev TS:=Ends->St->Hp->Prop
def EP(X:Cx)(pins:OP)(σ:St)(Q:VK)(u:Value)(s':Shared):Prop:=∃ v H',Inv X pins σ H' s'/\RelV v u/\Q v H'
def TP(X:Cx)(pins:OP)(σ:St)(Q:Bool->Hp->Prop)(b:Bool)(s':Shared):Prop:=∃ H',Inv X pins σ H' s'/\Q b H'
def AP(X:Cx)(pins:OP)(σ:St)(Q:List V->Hp->Prop)(us:List Value)(s':Shared):Prop:=∃ vs H',Inv X pins σ H' s'/\Vals vs us/\Q vs H'
def SP(X:Cx)(pins:OP)(D:Ends)(f:Flow)(s':Shared):Prop :=
 match f with
 | .next=>∃ σ' H',Inv X pins σ' H' s'/\D.nx σ' H'
 | .brk=>∃ σ' H',Inv X pins σ' H' s'/\D.bk σ' H'
 | .cont=>∃ σ' H',Inv X pins σ' H' s'/\D.ct σ' H'
 | .ret u=>∃ v σ' H',Inv X pins σ' H' s'/\RelV v u/\D.rt v H'
def PE(X:Cx)(e:Expr)(t:TE):Prop :=
 ∀ (pins:OP) (s:Shared) (σ:St) (H:Hp) (Q:VK),Inv X pins σ H s->t σ H Q->wpAny (model X.prog X.w) X.A (eval e X.env) (EP X pins σ Q) X.xe s
def PT(X:Cx)(e:Expr)(t:TT):Prop :=
 ∀ (pins:OP) (s:Shared) (σ:St) (H:Hp) (Q:Bool->Hp->Prop),Inv X pins σ H s->t σ H Q->wpAny (model X.prog X.w) X.A (isTrue e X.env (eval e X.env)) (TP X pins σ Q) X.xe s
def PW(X:Cx)(e:Expr)(t:TT):Prop :=
 ∀ (whole:Sem Value) (pins:OP) (s:Shared) (σ:St) (H:Hp) (Q:Bool->Hp->Prop),Inv X pins σ H s->t σ H Q->wpAny (model X.prog X.w) X.A (isTrue e X.env whole) (TP X pins σ Q) X.xe s
theorem PW.pt{X:Cx}{e:Expr}{t:TT}(h:PW X e t):PT X e t:=h _
def PA(X:Cx)(es:List Expr)(t:TA):Prop :=
 ∀ (pos:Pos) (pins:OP) (s:Shared) (σ:St) (H:Hp) (Q:List V->Hp->Prop),Inv X pins σ H s->t σ H Q->wpAny (model X.prog X.w) X.A (spliced (backTo pos (starEach es X.env))) (AP X pins σ Q) X.xe s
def PS(X:Cx)(st:Stmt)(t:TS):Prop :=
 ∀ (pins:OP) (s:Shared) (σ:St) (H:Hp) (D:Ends),Inv X pins σ H s->t D σ H->wpAny (model X.prog X.w) X.A (exec st X.env) (SP X pins D) X.xe s
def PSs(X:Cx)(st:List Stmt)(t:TS):Prop :=
 ∀ (pins:OP) (s:Shared) (σ:St) (H:Hp) (D:Ends),Inv X pins σ H s->t D σ H->wpAny (model X.prog X.w) X.A (execs st X.env) (SP X pins D) X.xe s
theorem thn{α:Type}{t:Sem α}{Q Q':α->Shared->Prop}{M:Model}{A:Around}{E:EV}{s:Shared}(h:wpAny M A t Q E s)(hQ:∀ a s,Q a s->Q' a s):wpAny M A t Q' E s:=wpAny_mono h hQ fun _ _ x=>x
section
variable {X:Cx}
def Pq(i:Nat):TE:=fun σ H Q=>∃ v,σ[i]? = some (some v)/\Q v H
def tC(v:V):TE:=fun _ H Q=>Q v H
theorem Ml{i:Nat}{x:Str}{pos:Pos}(hN:X.N[i]? = some x)(hv:Vis X.env.scope x)(hd:(x==("__debug__" : Str))=false:=by decide)(hcd:(x==("__classdict__" : Str))=false:=by decide):PE X (.Name x pos) (Pq i):=by
 intro pins s σ H Q I h
 obtain⟨v,e,h⟩:=h
 obtain⟨m,hn,hl⟩:=I.loc
 obtain⟨u,r,l⟩:=hl i x v hN e hv
 have fin:EP X pins σ Q u s:=⟨v,H,I,r,h⟩
 rcases l with⟨hk,hm⟩|⟨hk,c,hc,hcell⟩
 ·exact wpAny_Name (wpAny_loadName_local I.ok.kind hk hn hm fin) hd
 ·rcases hk with hk|hk
  ·exact wpAny_Name (wpAny_loadName_cell I.ok.kind hk hc hcell fin) hd
  ·exact wpAny_Name (wpAny_loadName_free I.ok.kind hk hc hcell fin hcd) hd
theorem aB{i j pos}:PE X (.Constant (.int i) j pos) (tC (.int i)):=fun _ _ _ H _ I h=>wpAny_Constant_int ⟨.int i,H,I.tok _,⟨_,rfl⟩,h⟩
theorem eN{b j pos}:PE X (.Constant (.bool b) j pos) (tC (.bl b)):=fun _ _ _ H _ I h=>Constant_bool ⟨.bl b,H,I,rfl,h⟩
theorem Aw{j pos}:PE X (.Constant .none j pos) (tC .non):=fun _ _ _ H _ I h=>Constant_none ⟨.non,H,I,rfl,h⟩
theorem aM{x j pos}:PE X (.Constant (.str x) j pos) (tC (.str x)):=fun _ _ _ H _ I h=>Calls.Constant_str ⟨.str x,H,I.tok _,⟨_,rfl⟩,h⟩
def Gl(X:Cx)(x:Str):Prop:=X.env.kindOf x=some .globalImplicit
theorem oH{E:EV}{pins:OP}{s:Shared}{σ:St}{H:Hp}{x:Str}{u:Value}{pos:Pos}{Q:EV}(I:Inv X pins σ H s)(hg:Gl X x)(hm:X.mg x=some u)(h:Q u s)
  (hd:(x==("__debug__" : Str))=false:=by decide):wpAny (model X.prog X.w) X.A (eval (.Name x pos) X.env) Q E s :=
 Calls.Name_function_global I.ok.kind hg (Calls.loadGlobal_global (by rw[I.ok.glob];exact I.mod.glob.keeps I.bk) hm h) hd
theorem uW{E:EV}{pins:OP}{s:Shared}{σ:St}{H:Hp}{x:Str}{u:Value}{pos:Pos}{Q:EV}(I:Inv X pins σ H s)(hg:Gl X x)(hm:X.mg x=none)(hv:bootBuiltins x=some u)(h:Q u s)
  (hn:x ≠ "__name__" := by decide)(hd:(x==("__debug__" : Str))=false:=by decide):wpAny (model X.prog X.w) X.A (eval (.Name x pos) X.env) Q E s:=by
 obtain⟨mb,h1,h2⟩:=I.mod.blt
 exact Calls.Name_function_global I.ok.kind hg (Calls.loadGlobal_builtin (by rw[I.ok.glob];exact I.mod.glob.keeps I.bk) hm (by rw[I.ok.blt];exact h1.keeps I.bk) ((h2 x hn).trans hv) h) hd
theorem Dc{x:Str}{v:V}{u:Value}{pos:Pos}(hg:Gl X x)(hm:X.mg x=some u)(r:RelV v u)(hd:(x==("__debug__" : Str))=false:=by decide):PE X (.Name x pos) (tC v) :=
 fun _ _ _ H _ I h=>oH I hg hm ⟨v,H,I,r,h⟩ hd
variable {a b:Expr} {ta tb:TE} {pos:Pos}
def PC(X:Cx)(op:CmpOp)(a b:Expr)(t:TE):Prop :=
 ∀ (pins:OP) (s:Shared) (σ:St) (H:Hp) (Q:VK),Inv X pins σ H s->t σ H Q ->
  wpAny (model X.prog X.w) X.A (eval a X.env) (fun v s₁=>wpAny (model X.prog X.w) X.A (eval b X.env) (fun u s₂=>wpAny (model X.prog X.w) X.A (compareOp op v u) (EP X pins σ Q) X.xe s₂) X.xe s₁) X.xe s
def tB(t:TE):TT:=fun σ H Q=>t σ H fun x H1=>∃ c,x=.bl c/\Q c H1
theorem Bq{op:CmpOp}{t:TE}(h:PC X op a b t)(h1:behindInMarks op b=false:=by first|exact nobehind _ Z0 Z0|rfl):PT X (.Compare a [op] [b] pos) (tB t):=by
 intro pins s σ H Q I hw
 refine wpAny_isTrue_Compare1 (thn (h pins s σ H _ I hw) fun v s1 h1=>thn h1 fun u s2 h2=>thn h2 fun c s3 ⟨x,H1,I1,r1,q1⟩=>?_) h1
 obtain⟨d,rfl,q⟩:=q1
 cases r1
 exact wpAny_truthy_bool ⟨H1,I1,q⟩
theorem kE {e:Expr} {t:TE} (h:PE X e t) (he:∀ whole,isTrue e X.env whole=(do let v <- whole;standAt e.pos;holding [v] (truthy v)):=by intro _;rfl):PT X e (tB t):=by
 intro pins s σ H Q I hw
 refine isTrue_plain (thn (h pins s σ H _ I hw) fun v s1 ⟨x,H1,I1,r1,q1⟩=>?_) (he _)
 obtain⟨d,rfl,q⟩:=q1
 cases r1
 exact wpAny_truthy_bool ⟨H1,I1,q⟩
variable {tA tB':TT} {rest:List Expr}
def QQ(t u:TT):TT:=fun σ H Q=>t σ H fun c H1=>if c=true then u σ H1 Q else Q false H1
def tOr(t u:TT):TT:=fun σ H Q=>t σ H fun c H1=>if c=true then Q true H1 else u σ H1 Q
def SN(t:TT):TT:=fun σ H Q=>t σ H fun c H1=>Q (!c) H1
theorem tM(ha:PT X a tA):PW X (.BoolOp .And [a] pos) tA:=by
 intro wh pins s σ H Q I h
 refine isTrue_and (thn (ha pins s σ H Q I h) fun c s1 e=>?_)
 cases c with
 | true=>exact isTrue_and_nil e
 | false=>exact e
theorem xq(ha:PT X a tA):PW X (.BoolOp .Or [a] pos) tA:=by
 intro wh pins s σ H Q I h
 refine isTrue_or (thn (ha pins s σ H Q I h) fun c s1 e=>?_)
 cases c with
 | false=>exact isTrue_or_nil e
 | true=>exact e
theorem uZ(ha:PT X a tA)(hb:PW X (.BoolOp .And (b::rest) pos) tB'):PW X (.BoolOp .And (a::b::rest) pos) (QQ tA tB'):=by
 intro wh pins s σ H Q I h
 refine isTrue_and (thn (ha pins s σ H _ I h) fun c s1 ⟨H1,I1,q1⟩=>?_)
 cases c with
 | true=>exact hb wh pins s1 σ H1 Q I1 q1
 | false=>exact⟨H1,I1,q1⟩
theorem vH(ha:PT X a tA)(hb:PW X (.BoolOp .Or (b::rest) pos) tB'):PW X (.BoolOp .Or (a::b::rest) pos) (tOr tA tB'):=by
 intro wh pins s σ H Q I h
 refine isTrue_or (thn (ha pins s σ H _ I h) fun c s1 ⟨H1,I1,q1⟩=>?_)
 cases c with
 | true=>exact⟨H1,I1,q1⟩
 | false=>exact hb wh pins s1 σ H1 Q I1 q1
theorem t7(ha:PT X a tA):PT X (.UnaryOp .Not a pos) (SN tA):=by
 intro pins s σ H Q I h
 exact isTrue_not (ha pins s σ H (fun c H1=>Q (!c) H1) I h)
def Oz(ta tb:TE):TE:=fun σ H Q=>ta σ H fun x H1=>∃ c,x=.bl c/\if c=true then tb σ H1 Q else Q (.bl false) H1
theorem FP{op}{t:TE}(h:PE X a t):PE X (.BoolOp op [a] pos) t:=fun pins s σ H Q I hw=>BoolOp_one (h pins s σ H Q I hw)
theorem Hu(ha:PE X a ta)(hb:PE X (.BoolOp .And (b::rest) pos) tb):PE X (.BoolOp .And (a::b::rest) pos) (Oz ta tb):=by
 intro pins s σ H Q I h
 refine BoolOp_and (thn (ha pins s σ H _ I h) fun v s1 ⟨x,H1,I1,r1,q1⟩=>?_)
 obtain⟨c,rfl,q1⟩:=q1
 cases r1
 refine wpAny_truthy_bool ?_
 cases c with
 | true=>exact hb pins s1 σ H1 Q I1 q1
 | false=>exact⟨.bl false,H1,I1,rfl,q1⟩
def tIf(t:TT)(ta tb:TE):TE:=fun σ H Q=>t σ H fun c H1=>if c=true then ta σ H1 Q else tb σ H1 Q
theorem GJ{c:Expr}(hc:PT X c tA)(ha:PE X a ta)(hb:PE X b tb):PE X (.IfExp c a b pos) (tIf tA ta tb):=by
 intro pins s σ H Q I h
 refine wpAny_IfExp (thn (hc pins s σ H _ I h) fun d s1 ⟨H1,I1,q1⟩=>?_)
 cases d with
 | true=>exact ha pins s1 σ H1 Q I1 q1
 | false=>exact hb pins s1 σ H1 Q I1 q1
end
def SqL(K:Frag)(H:Hp)(a:Addr)(xs:List V):Prop :=
 Rd H a (.lst xs) \/
  ∃ (o:Obj) (its:Array Value) (n:Nat),K.lookup a=some o/\o.cls=.type "list" /\ o.dict=none/\o.data=.seq its n/\its.size<=sizeLine/\Vals xs its.toList
def SqT(K:Frag)(H:Hp)(a:Addr)(xs:List V):Prop :=
 Rd H a (.tup xs) \/
  ∃ (o:Obj) (its:Array Value) (n:Nat),K.lookup a=some o/\o.cls=.type "tuple" /\ o.data=.seq its n/\its.size<=sizeLine/\Vals xs its.toList
def Qs:Value->Option V
 | .none=>some .non
 | .bool b=>some (.bl b)
 | .int i _=>some (.int i)
 | .str x _=>some (.str x)
 | .bytes b _=>some (.byt b)
 | .float b _=>some (.flt b)
 | .ref a=>some (.ref a)
 | .type n=>some (.ty n)
 | _=>none
theorem RelV.abs{x:V}{u:Value}(r:RelV x u):Qs u=some x:=by
 cases x with
 | non=>cases r;rfl
 | bl _=>cases r;rfl
 | int _=>obtain⟨t,rfl⟩:=r;rfl
 | str _=>obtain⟨t,rfl⟩:=r;rfl
 | byt _=>obtain⟨t,rfl⟩:=r;rfl
 | flt _=>obtain⟨t,rfl⟩:=r;rfl
 | ref _=>cases r;rfl
 | ty _=>cases r;rfl
theorem RelV.inj{x y:V}{u:Value}(r:RelV x u)(q:RelV y u):x=y:=Option.some.inj (r.abs.symm.trans q.abs)
theorem Vals.inj:∀ {xs ys:List V} {us:List Value},Vals xs us->Vals ys us->xs=ys
 | _,_,_,.nil,.nil=>rfl
 | _,_,_,.cons r t,.cons r' t'=>by rw[r.inj r',Vals.inj t t']
section
variable {X:Cx} {pins:OP} {σ:St} {H:Hp} {s:Shared} {a:Addr} {xs ys:List V}
theorem SqL.of{K:Frag}(h:H a=some (.lst xs)):SqL K H a xs:=.inl (.inl h)
theorem SqT.of{K:Frag}(h:H a=some (.tup xs)):SqT K H a xs:=.inl (.inl h)
theorem Inv.list(I:Inv X pins σ H s)(h:SqL X.K H a xs):∃ its:List Value,Vals xs its/\PlainL s.heap a its.toArray/\xs.length<=sizeLine:=by
 rcases h with h|⟨o,its,n,hk,hc,hd,hs,hz,r⟩
 ·obtain⟨z,its,n,r,e⟩:=h.ok I.hok
  exact⟨its,r,⟨_,n,e,rfl,rfl,rfl⟩,z⟩
 ·refine⟨its.toList,r,⟨o,n,I.kIn a o hk,hc,hd,by simpa using hs⟩,?_⟩
  have e:=r.length
  simp only[length_toList]at e
  omega
theorem Inv.tuple(I:Inv X pins σ H s)(h:SqT X.K H a xs):∃ its:List Value,Vals xs its/\IsTup s.heap a its.toArray/\xs.length<=sizeLine:=by
 rcases h with h|⟨o,its,n,hk,hc,hs,hz,r⟩
 ·obtain⟨z,its,r,p⟩:=h.ok I.hok
  exact⟨its,r,p,z⟩
 ·refine⟨its.toList,r,⟨o,I.kIn a o hk,hc,n,by simpa using hs⟩,?_⟩
  have e:=r.length
  simp only[length_toList]at e
  omega
theorem Inv.list_inj(I:Inv X pins σ H s)(h:SqL X.K H a xs)(h':SqL X.K H a ys):xs=ys:=by
 obtain⟨its,r,⟨o,n,e,_,_,d⟩,_⟩:=I.list h
 obtain⟨its',r',⟨o',n',e',_,_,d'⟩,_⟩:=I.list h'
 rw[e]at e';cases e'
 rw[d]at d'
 injection d' with d1 _
 have:its=its':=by simpa using congrArg Array.toList d1
 subst this
 exact r.inj r'
end
abbrev Cx.wish(X:Cx)(E:EV):Cx:={X with xe:=E}
abbrev Cx.nox(X:Cx):Cx:=X.wish fun _ _=>False
theorem Cx.Ok.wish{X:Cx}(ok:X.Ok)(E:EV):(X.wish E).Ok :=
 ⟨ok.mod,ok.kind,ok.glob,ok.blt,ok.above,ok.inj,ok.has,ok.cab,ok.hd,ok.frames,ok.stk,ok.exf,ok.bs,ok.bsz,ok.noex,ok.exfs,ok.funs,ok.frf⟩
theorem Cx.Ok.unwish{X:Cx}{E:EV}(ok:(X.wish E).Ok):X.Ok :=
 ⟨ok.mod,ok.kind,ok.glob,ok.blt,ok.above,ok.inj,ok.has,ok.cab,ok.hd,ok.frames,ok.stk,ok.exf,ok.bs,ok.bsz,ok.noex,ok.exfs,ok.funs,ok.frf⟩
section
variable {X:Cx} {pins:OP} {σ:St} {H:Hp} {s:Shared} {E:EV}
theorem Inv.wish(I:Inv X pins σ H s)(E:EV):Inv (X.wish E) pins σ H s:=⟨I.ok.wish E,I.os,I.bare,I.base,I.loc,I.cell,I.free,I.freeC,I.pin,I.hok,I.len⟩
theorem Inv.unwish(I:Inv (X.wish E) pins σ H s):Inv X pins σ H s:=⟨I.ok.unwish,I.os,I.bare,I.base,I.loc,I.cell,I.free,I.freeC,I.pin,I.hok,I.len⟩
theorem SP.unwish{D:Ends}{f:Flow}{s':Shared}(h:SP (X.wish E) pins D f s'):SP X pins D f s':=by
 cases f with
 | next=>obtain⟨σ',H',I,q⟩:=h;exact⟨σ',H',I.unwish,q⟩
 | brk=>obtain⟨σ',H',I,q⟩:=h;exact⟨σ',H',I.unwish,q⟩
 | cont=>obtain⟨σ',H',I,q⟩:=h;exact⟨σ',H',I.unwish,q⟩
 | ret u=>obtain⟨v,σ',H',I,r,q⟩:=h;exact⟨v,σ',H',I.unwish,r,q⟩
theorem PSs.nox{st:List Stmt}{t:TS}(h:PSs X.nox st t):PSs X st t:=fun pins s σ H D I hw =>
 wpAny_mono (h pins s σ H D (I.wish _) hw) (fun _ _ q=>q.unwish) fun _ _ z=>False.elim z
end
section
variable {X:Cx} {st:Stmt} {rest:List Stmt} {t u:TS} {e:Expr} {te:TE} {pos:Pos}
def Lw:TS:=fun D σ H=>D.nx σ H
def PQ(t u:TS):TS:=fun D σ H=>t {D with nx:=u D} σ H
theorem wN:PSs X [] Lw:=fun _ _ σ H _ I h=>wpAny_execs_nil ⟨σ,H,I,h⟩
theorem gY(h1:PS X st t)(h2:PSs X rest u):PSs X (st::rest) (PQ t u):=by
 intro pins s σ H D I h
 refine wpAny_execs_cons (thn (h1 pins s σ H {D with nx:=u D} I h) fun f s1 q=>?_)
 cases f with
 | next =>
  obtain⟨σ',H',I',q⟩:=q
  exact h2 pins s1 σ' H' D I' q
 | ret v=>exact q
 | brk=>exact q
 | cont=>exact q
theorem qJ(h1:PS X st t):PSs X [st] t:=by
 intro pins s σ H D I h
 refine wpAny_execs_cons (thn (h1 pins s σ H D I h) fun f s1 q=>?_)
 cases f with
 | next=>exact wpAny_execs_nil q
 | ret v=>exact q
 | brk=>exact q
 | cont=>exact q
theorem Inv.quiet{pins:OP}{σ:St}{H:Hp}{s:Shared}(I:Inv X pins σ H s):interactive X.env=false:=by simp[interactive,I.ok.kind]
def KY(te:TE):TS:=fun D σ H=>te σ H fun _ H1=>D.nx σ H1
theorem Ko(he:PE X e te)(hs:swapsWith e none pos.line X.env=pure false:=by rfl):PS X (.Expr e pos) (KY te):=by
 intro pins s σ H D I h
 exact wpAny_Expr_any (thn (he pins s σ H _ I h) fun v s1 ⟨x,H1,I1,r1,q1⟩=>⟨σ,H1,I1,q1⟩) I.quiet hs
def Pg(te:TE):TS:=fun D σ H=>te σ H D.rt
theorem uC(he:PE X e te):PS X (.Return (some e) pos) (Pg te):=by
 intro pins s σ H D I h
 exact wpAny_Return_some (thn (he pins s σ H _ I h) fun v s1 ⟨x,H1,I1,r1,q1⟩=>⟨x,σ,H1,I1,r1,q1⟩)
def Qc(c:TT)(t u:TS):TS:=fun D σ H=>c σ H fun b H1=>if b=true then t D σ H1 else u D σ H1
theorem Iw{c:Expr}{a b:List Stmt}{tc:TT}(hc:PT X c tc)(ha:PSs X a t)(hb:PSs X b u):PS X (.If c a b pos) (Qc tc t u):=by
 intro pins s σ H D I h
 refine wpAny_If (thn (hc pins s σ H _ I h) fun d s1 ⟨H1,I1,q1⟩=>?_)
 cases d with
 | true=>exact ha pins s1 σ H1 D I1 q1
 | false=>exact hb pins s1 σ H1 D I1 q1
def Ir:TS:=fun _ _ _=>False
theorem Hz:PS X st Ir:=fun _ _ _ _ _ _ h=>h.elim
end
abbrev TG:=V->St->Hp->(St->Hp->Prop)->Prop
abbrev TGs:=List V->St->Hp->(St->Hp->Prop)->Prop
def PG(X:Cx)(target:Expr)(t:TG):Prop :=
 ∀ (pins:OP) (s:Shared) (σ:St) (H:Hp) (v:V) (u:Value) (Q:St->Hp->Prop),Inv X pins σ H s->RelV v u->t v σ H Q ->
  wpAny (model X.prog X.w) X.A (assign target X.env u) (fun _ s'=>∃ σ' H',Inv X pins σ' H' s'/\Q σ' H') X.xe s
def PGs(X:Cx)(ts:List Expr)(t:TGs):Prop :=
 ∀ (pins:OP) (s:Shared) (σ:St) (H:Hp) (vs:List V) (us:List Value) (Q:St->Hp->Prop),Inv X pins σ H s->Vals vs us->t vs σ H Q ->
  wpAny (model X.prog X.w) X.A (assignInOrder ((assignEach ts X.env).map (·.2)) us) (fun _ s'=>∃ σ' H',Inv X pins σ' H' s'/\Q σ' H') X.xe s
section
variable {X:Cx} {pos:Pos}
def iV(i:Nat):TG:=fun v σ H Q=>Q (σ.set i (some v)) H
theorem aG {i:Nat} {x:Str} (hN:X.N.Nodup) (hi:X.N[i]? = some x) (hx:Loc X.env.scope x) (hf:X.fn x = true \/ X.env.scope.names.lookup x = some .local:=by first | exact .inl rfl | exact .inr rfl | assumption):PG X (.Name x pos) (iV i):=by
 intro pins s σ H v u Q I r h
 exact wpAny_assign_Name (yL I hN hi hx r (fun s' I'=>⟨_,H,I',h⟩) hf)
def Ss:TGs:=fun vs σ H Q=>vs=[]/\Q σ H
def O3(t:TG)(u:TGs):TGs:=fun vs σ H Q=>∃ v r,vs=v::r/\t v σ H fun σ' H'=>u r σ' H' Q
theorem yf:PGs X [] Ss:=by
 intro pins s σ H vs us Q I r h
 obtain⟨e,h⟩:=h
 subst e
 cases r
 exact assignInOrder_nil ⟨σ,H,I,h⟩
theorem eY{e:Expr}{es:List Expr}{t:TG}{u:TGs}(h1:PG X e t)(h2:PGs X es u)
  (hs:(assignEach (e::es) X.env).map (·.2)=assign e X.env::(assignEach es X.env).map (·.2):=by rfl):PGs X (e::es) (O3 t u):=by
 intro pins s σ H vs us Q I r h
 obtain⟨v,vr,e1,h⟩:=h
 subst e1
 cases r with
 | cons r rr =>
  rw[hs]
  refine assignInOrder_cons (thn (h1 pins s σ H _ _ _ I r h) fun _ s1 ⟨σ1,H1,I1,q1⟩=>?_)
  exact h2 pins s1 σ1 H1 _ _ Q I1 rr q1
def Ou(K:Frag)(n:Nat)(t:TGs):TG:=fun v σ H Q=>∃ a xs,v=.ref a/\SqT K H a xs/\xs.length=n/\t xs σ H Q
theorem N8{es:List Expr}{k:Nat}{t:TGs}{n:Nat}(hc:X.calm=true)(h:PGs X es t)
  (hn:(assignEach es X.env).length=n:=by rfl)(hst:(assignEach es X.env).findIdx? (·.1)=none:=by rfl):PG X (.Tuple es k pos) (Ou X.K n t):=by
 intro pins s σ H v u Q I r hw
 obtain⟨a,xs,e1,hq,hl,hw⟩:=hw
 subst e1
 cases r
 obtain⟨its,rv,ht,hz⟩:=I.tuple hq
 refine assign_Tuple_tuple (I.ok.hd hc) ht (by simp[hn,<- hl,rv.length]) hst fun h' hx=>?_
 have I1:Inv X pins σ H {s with heap:=h'}:=I.kept (t':=s.toks) fun b o e=>hx b o (ne_of_lt (Heap.lt_size e)) e
 exact h pins _ σ H xs _ Q I1 (by simpa using rv) hw
def Aa(te:TE)(g:TG):TS:=fun D σ H=>te σ H fun x H1=>g x σ H1 D.nx
theorem Np{tg e:Expr}{te:TE}{g:TG}(he:PE X e te)(hg:PG X tg g)(hs:swapsWithSole [tg] e pos.line X.env=pure false:=by rfl)(hw:swappedStores [tg] e X.env=pure none:=by rfl)
  (h1:(assignEach [tg] X.env).map (·.2)=[assign tg X.env]:=by rfl):PS X (.Assign [tg] e pos) (Aa te g):=by
 intro pins s σ H D I h
 refine wpAny_Assign_stores (thn (he pins s σ H _ I h) fun v s1 ⟨x,H1,I1,r1,q1⟩=>?_) hs hw
 rw[h1]
 exact thn (hg pins s1 σ H1 x v _ I1 r1 q1) fun _ s2 q=>q
theorem pX {i:Nat} {x:Str} {e:Expr} {te:TE} {pos':Pos} (hN:X.N.Nodup) (hi:X.N[i]? = some x) (hx:Loc X.env.scope x) (he:PE X e te) (hs:swapsWith e (some (.Name x pos')) pos.line X.env = pure false:=by rfl) (hf:X.fn x = true \/ X.env.scope.names.lookup x = some .local:=by first | exact .inl rfl | exact .inr rfl | assumption) :
  PS X (.Assign [.Name x pos'] e pos) (Aa te (iV i)):=by
 intro pins s σ H D I h
 refine wpAny_Assign_Name (thn (he pins s σ H _ I h) fun v s1 ⟨y,H1,I1,r1,q1⟩=>?_) hs
 exact yL I1 hN hi hx r1 (fun s2 I2=>⟨_,H1,I2,q1⟩) hf
end
section
variable {X:Cx} {pos:Pos}
def Ms(c:TT)(tb:TS):TS:=fun D σ H=>∃ W:Nat->St->Hp->Prop,(∃ m,W m σ H)/\∀ m σ H,W m σ H ->
 c σ H fun b H1=>if b=true then ∃ N:St->Hp->Prop,(∀ σ' H',N σ' H'->∃ m',m'<m/\W m' σ' H')/\tb {D with nx:=N,ct:=N,bk:=D.nx} σ H1 else D.nx σ H1
theorem uD{c:Expr}{body:List Stmt}{tc:TT}{tb:TS}(hp:PassesOwn (model X.prog X.w) X.A X.env X.xe)(hc:PT X c tc)(hb:PSs X body tb):PS X (.While c body [] pos) (Ms tc tb):=by
 intro pins s σ H D I h
 obtain⟨W,⟨m0,w0⟩,turn⟩:=h
 refine wpAny_While (codeAny_whileLoop (fun n s'=>∃ σ' H',Inv X pins σ' H' s'/\W n σ' H') ?_ m0 ⟨σ,H,I,w0⟩)
 rintro n s1 ⟨σ1,H1,I1,w1⟩
 refine wpAny_passesOwn hp (thn (hc pins s1 σ1 H1 _ I1 (turn n σ1 H1 w1)) fun b s2 ⟨H2,I2,q2⟩=>?_)
 cases b with
 | true =>
  obtain⟨N,hN,q2⟩:=q2
  rw[if_pos rfl]
  refine wpAny_passesOwn hp (thn (hb pins s2 σ1 H2 _ I2 q2) fun f s3 q3=>?_)
  cases f with
  | next =>
   obtain⟨σ3,H3,I3,n3⟩:=q3
   obtain⟨m',hm,w3⟩:=hN σ3 H3 n3
   exact⟨m',hm,σ3,H3,I3,w3⟩
  | cont =>
   obtain⟨σ3,H3,I3,n3⟩:=q3
   obtain⟨m',hm,w3⟩:=hN σ3 H3 n3
   exact⟨m',hm,σ3,H3,I3,w3⟩
  | brk=>exact q3
  | ret v=>exact q3
 | false =>
  rw[if_neg Bool.false_ne_true]
  exact wpAny_execs_nil ⟨σ1,H2,I2,q2⟩
end
structure It where
 go:Nat->Hp->Prop
 yld:Nat->Hp->V->Hp->Prop
 stop:Nat->Hp->Prop
def qd(X:Cx)(pins:OP)(H:Hp)(b:Addr):Prop :=
 H b=none/\b≠X.env.locals/\b∉X.fs/\(b∈X.ex\/X.s₀.heap.objs.size<=b)/\(∀ x c,X.env.cells.lookup x=some c->c≠b)/\∀ p∈X.pn++pins,p.1≠b
theorem Inv.fpOk{X:Cx}{pins:OP}{σ:St}{H H':Hp}{s:Shared}{b:Addr}(I:Inv X pins σ H s)(hb:s.heap.objs.size<=b)(hn:H' b=none):qd X pins H' b:=by
 refine⟨hn,ne_of_gt (lt_of_lt_of_le I.lt hb),I.nofs hb,.inr (le_trans I.sz hb),fun x c e z=>?_,fun p hp z=>?_⟩
 ·obtain⟨v,q⟩:=I.cell x c e
  exact absurd (lt_of_lt_of_le q.lt (by rw[z];exact hb)) (lt_irrefl _)
 ·exact absurd (lt_of_lt_of_le (Heap.lt_size (I.pin p hp).1) (by rw[z];exact hb)) (lt_irrefl _)
structure Turn(P:Program)(w:World)(K:Frag)(tg:Expr)(J:It)(fp:List Addr)(it:Addr)(tn:Nat->Heap->Prop):Prop where
 mem:it∈fp
 obj:∀ i h,tn i h->∀ b∈fp,∃ o,h.get? b=some o/\∀ v,o.data≠.cell v
 keep:∀ i h h',tn i h->(∀ b∈fp,∀ o,h.get? b=some o->h'.get? b=some o)->tn i h'
 item:∀ (X:Cx),X.prog=P->X.w=w->X.K=K->X.calm=true->∀ (i:Nat) (pins:OP) (s:Shared) (σ:St) (H:Hp) (E:EV),Inv X pins σ H s->(∀ b∈fp,qd X pins H b)->tn i s.heap->J.go i H ->
  wpAny (model P w) X.A (pyNext (.ref it)) (fun r s1=>∃ u,r=some u /\
   wpAny (model P w) X.A (letOwnedTupleGo tg (.ref it) u) (fun _ s2=>∃ x H',Inv X pins σ H' s2/\RelV x u/\J.yld i H x H'/\tn (i+1) s2.heap/\∀ b∈fp,H' b=none) E s1) E s
 done:∀ (X:Cx),X.prog=P->X.w=w->X.K=K->X.calm=true->∀ (i:Nat) (pins:OP) (s:Shared) (σ:St) (H:Hp) (E:EV),Inv X pins σ H s->(∀ b∈fp,qd X pins H b)->tn i s.heap->J.stop i H ->
  wpAny (model P w) X.A (pyNext (.ref it)) (fun r s1=>r=none/\Inv X pins σ H s1) E s
 self:∀ (A:Around) (i:Nat) (s:Shared) (Q:EV) (E:EV),tn i s.heap->Q (.ref it) s->wpAny (model P w) A (pyIter (.ref it)) Q E s
abbrev TI:=St->Hp->(It->Hp->Prop)->Prop
def PIE(X:Cx)(pins:OP)(σ:St)(tg:Expr)(R:It->Hp->Prop)(itv:Value)(s2:Shared):Prop :=
 ∃ (it:Addr) (fp:List Addr) (tn:Nat->Heap->Prop) (J:It) (H':Hp),itv=.ref it/\Inv X pins σ H' s2/\Turn X.prog X.w X.K tg J fp it tn/\tn 0 s2.heap/\(∀ b∈fp,qd X pins H' b)/\R J H'
def PI(X:Cx)(tg iter:Expr)(wi:TI):Prop :=
 ∀ (pins:OP) (s:Shared) (σ:St) (H:Hp) (R:It->Hp->Prop),Inv X pins σ H s->wi σ H R ->
  wpAny (model X.prog X.w) X.A (eval iter X.env) (fun v s1=>wpAny (model X.prog X.w) X.A (pyIter v) (PIE X pins σ tg R) X.xe s1) X.xe s
theorem CJ{M:Model}{A:Around}{E:EV}{s:Shared}{tg:Expr}{it:Addr}{u:Value}{o:Obj}{n:String}{vs:Array Value}{Q:Unit->Shared->Prop}(ho:s.heap.get? it=some o)(hc:o.cls=.type n)(hd:o.data=.fields vs)
  (hn:["enumerate", "zip", "dict_itemiterator", "dict_reverseitemiterator", "odict_iterator", "itertools.zip_longest", "itertools.pairwise"].contains n=false)(hQ:Q () s):wpAny M A (letOwnedTupleGo tg (.ref it) u) Q E s:=by
 unfold letOwnedTupleGo
 cases tg <;> first
  | exact wpAny_pure hQ
  | (cases u <;> first
    | exact wpAny_pure hQ
    | (refine wpAny_bind (wpAny_load ho ?_)
       rw[hc,hd]
       show wpAny M A (if(["enumerate", "zip", "dict_itemiterator", "dict_reverseitemiterator", "odict_iterator", "itertools.zip_longest", "itertools.pairwise"].contains n&&vs[0]? == some (rawInt _))=true then _ else _) Q E s
       rw[if_neg (by intro h;rw[hn,Bool.false_and]at h;cases h)]
       exact wpAny_pure hQ))
def Itl(K:Frag)(a:Addr):It :=
 ⟨fun i H=>∃ xs x,SqL K H a xs/\xs[i]? = some x,fun i H x H'=>H'=H/\∀ xs,SqL K H a xs->xs[i]? = some x,fun i H=>∃ xs,SqL K H a xs/\xs.length<=i⟩
def Itr(lo:Int)(n:Nat):It:=⟨fun i _=>i<n,fun i H x H'=>H'=H/\x=.int (lo+i),fun i _=>n<=i⟩
theorem DP{P:Program}{w:World}{K:Frag}{tg:Expr}(a it:Addr):Turn P w K tg (Itl K a) [it] it (fun i h=>h.IsListIter it a i) where
 mem:=by simp
 obj:=fun i h st b hb=>by
  have e:b=it:=by simpa using hb
  subst e
  obtain⟨o,e,c,d⟩:=st
  exact⟨o,e,fun v z=>by rw[d]at z;cases z⟩
 keep:=fun i h h' st k=>st.at fun o e=>k it Z2 o e
 item:=by
  intro X hP hw hK hc i pins s σ H E I hf st hg
  subst hP hw hK
  obtain⟨xs,x,hq,hx⟩:=hg
  obtain⟨its,rv,p,hz⟩:=I.list hq
  obtain⟨u,hu,ru⟩:=rv.get hx
  obtain⟨f0,f1,f2,f3,f4,f5⟩:=hf it Z2
  refine wpAny_pyNext_list_item st p.isList (x:=u) (by simpa using hu) fun h' st' sb=>?_
  have I1:Inv X pins σ H {s with heap:=h'}:=I.turned (t':=s.toks) (fun b o hb e=>(sb.2 b hb).trans e) f0 f1 f3 f4 f5
  obtain⟨o,e,c,d⟩:=id st'
  exact⟨u,rfl,CJ (s:={s with heap:=h'}) e c d Z0 ⟨x,H,I1,ru,⟨rfl,fun ys hy=>by rw[I.list_inj hy hq];exact hx⟩,st',fun b hb=>(hf b hb).1⟩⟩
 done:=by
  intro X hP hw hK hc i pins s σ H E I hf st hg
  subst hP hw hK
  obtain⟨xs,hq,hx⟩:=hg
  obtain⟨its,rv,p,hz⟩:=I.list hq
  obtain⟨f0,f1,f2,f3,f4,f5⟩:=hf it Z2
  have hl:=rv.length
  exact wpAny_pyNext_list_end (I.ok.hd hc) st p.isList Z6 fun h' eb=>⟨rfl,I.turned (t':=s.toks) (fun b o hb e=>eb b o hb e) f0 f1 f3 f4 f5⟩
 self:=fun _ _ _ _ _ st h=>wpAny_pyIter_listiter st h
theorem Ay{P:Program}{w:World}{K:Frag}{tg:Expr}(it:Addr)(lo:Int)(n:Nat):Turn P w K tg (Itr lo n) [it] it (fun i h=>IsRangeIter h it (lo+(i:Nat)*1) ((n:Int) - (i:Nat)) 1) where
 mem:=by simp
 obj:=fun i h st b hb=>by
  have e:b=it:=by simpa using hb
  subst e
  exact⟨_,st,fun v z=>by
   have z':Data.fields _=Data.cell v:=z
   cases z'⟩
 keep:=fun i h h' st k=>k it Z2 _ st
 item:=by
  intro X hP hw hK hc i pins s σ H E I hf st hg
  subst hP hw hK
  obtain⟨f0,f1,f2,f3,f4,f5⟩:=hf it Z2
  have W:=Walks.range (prog:=X.prog) (w:=X.w) (I.ok.hd hc) it lo 1 n
  refine W.item i s _ _ hg st fun v h' tk hv st' kk=>?_
  obtain⟨t,rfl⟩:=hv
  have I1:Inv X pins σ H {s with heap:=h',toks:=tk}:=I.turned (fun b o hb e=>kk b o (by simpa using hb) e) f0 f1 f3 f4 f5
  refine⟨_,rfl,CJ (s:={s with heap:=h',toks:=tk}) (n := "range_iterator") st' rfl rfl Z0 ⟨.int (lo+i),H,I1,⟨t,?_⟩,⟨rfl,rfl⟩,st',fun b hb=>(hf b hb).1⟩⟩
  rw[Int.mul_one]
 done:=by
  intro X hP hw hK hc i pins s σ H E I hf st hg
  subst hP hw hK
  obtain⟨f0,f1,f2,f3,f4,f5⟩:=hf it Z2
  exact wpAny_pyNext_range_end (I.ok.hd hc) st (by have:n<=i:=hg;omega) fun h' eb=>⟨rfl,I.turned (t':=s.toks) (fun b o hb e=>eb b o hb e) f0 f1 f3 f4 f5⟩
 self:=fun _ _ _ _ _ st h=>wpAny_pyIter_rangeiter st h
section
variable {X:Cx} {tg:Expr}
def Lg(K:Frag)(tl:TE):TI:=fun σ H R=>tl σ H fun x H1=>∃ a,x=.ref a/\(∃ xs,SqL K H1 a xs)/\R (Itl K a) H1
theorem aR{l:Expr}{tl:TE}(hl:PE X l tl):PI X tg l (Lg X.K tl):=by
 intro pins s σ H R I h
 refine thn (hl pins s σ H _ I h) fun v s1 ⟨x,H1,I1,r1,q1⟩=>?_
 obtain⟨a,e,⟨xs,hq⟩,q⟩:=q1
 subst e
 cases r1
 obtain⟨its,rv,p,hz⟩:=I1.list hq
 refine wpAny_pyIter_list p.isList ?_
 refine⟨s1.heap.objs.size,[s1.heap.objs.size],_,_,H1,rfl,I1.kept (t':=s1.toks) fun b o e=>Heap.get?_push_of_some _ e,DP a _,⟨_,Heap.get?_push_size _ rfl,rfl,rfl⟩,fun b hb=>?_,q⟩
 have e:b=s1.heap.objs.size:=by simpa using hb
 subst e
 exact I1.fpOk (le_refl _) (I1.hok.fresh (le_refl _))
theorem yP{pins:OP}{σ:St}{H:Hp}{s:Shared}{R:It->Hp->Prop}{E:EV}{lo hi:Int}{t u v:Tok}{tk:Nat}(I:Inv X pins σ H s)(h1:-(2 ^ 62)<=lo)(h2:lo<2 ^ 62)(h3:-(2 ^ 62)<=hi)(h4:hi<2 ^ 62)
  (q:R (Itr lo (hi - lo).toNat) H):wpAny (model X.prog X.w) X.A (pyIter (.ref s.heap.objs.size)) (PIE X pins σ tg R) E {s with heap:=s.heap.push {cls:=.type "range",data:=.fields #[.int lo t,.int hi u,.int 1 v]},toks:=tk}:=by
 refine wpAny_pyIter_range (IsRange.new ..) (small_one h1 h2 h3 h4) ?_
 have I1:Inv X pins σ H {s with heap:=s.heap.push {cls:=.type "range",data:=.fields #[.int lo t,.int hi u,.int 1 v]},toks:=tk}:=I.kept fun b o e=>Heap.get?_push_of_some _ e
 refine⟨(s.heap.push {cls:=.type "range",data:=.fields #[.int lo t,.int hi u,.int 1 v]}).objs.size,[(s.heap.push {cls:=.type "range",data:=.fields #[.int lo t,.int hi u,.int 1 v]}).objs.size],_,_,H,rfl,
  I1.kept (t':=tk) fun b o e=>Heap.get?_push_of_some _ e,Ay _ lo (hi - lo).toNat,?_,fun b hb=>?_,q⟩
 ·have e1:lo+((0:Nat):Int)*1=lo:=by simp
  have e2:(((hi - lo).toNat:Nat):Int) - ((0:Nat):Int)=Builtin.Range.rangeSize lo hi 1:=by rw[rangeSize_one];split <;> omega
  show IsRangeIter _ _ (lo+((0:Nat):Int)*1) ((((hi - lo).toNat:Nat):Int) - ((0:Nat):Int)) 1
  rw[e1,e2]
  exact Heap.get?_push_size _ rfl
 ·have e:b=(s.heap.push {cls:=.type "range",data:=.fields #[.int lo t,.int hi u,.int 1 v]}).objs.size:=by simpa using hb
  subst e
  exact I1.fpOk (le_refl _) (I1.hok.fresh (le_refl _))
def O9(ta:TA):TI:=fun σ H R=>ta σ H fun vs H1=>∃ j:Int,vs=[.int j] /\ -(2 ^ 62)<=j/\j<2 ^ 62/\R (Itr 0 j.toNat) H1
def PP(ta:TA):TI:=fun σ H R=>ta σ H fun vs H1=>∃ i j:Int,vs=[.int i,.int j]/\(-(2 ^ 62)<=i/\i<2 ^ 62 /\ -(2 ^ 62)<=j/\j<2 ^ 62)/\R (Itr i (j - i).toNat) H1
theorem iR{a:Expr}{ta:TA}{p pos:Pos}(hg:Gl X "range")(hm:X.mg "range" = none)(ha:PA X [a] ta)(hs:starEach [a] X.env=[(false,eval a X.env)]:=by rfl):PI X tg (.Call (.Name "range" p) [a] [] pos) (O9 ta):=by
 intro pins s σ H R I h
 refine Call_ (uW I hg hm boot_range (PyProof.Rows.callWith_type1 (thn (ha pos pins s σ H _ I h) fun us s1 ⟨vs,H1,I1,r1,q1⟩=>?_) hs rfl))
 obtain⟨j,e,q1,q2,q⟩:=q1
 subst e
 cases r1 with
 | cons r rr =>
  cases rr
  obtain⟨t,rfl⟩:=r
  exact call_range_1 (yP I1 Z1 Z1 q1 q2 (by simpa using q))
theorem rG{a b:Expr}{ta:TA}{p pos:Pos}(hg:Gl X "range")(hm:X.mg "range" = none)(ha:PA X [a,b] ta)(hs:starEach [a,b] X.env=[(false,eval a X.env),(false,eval b X.env)]:=by rfl)(hs2:starEach [b] X.env=[(false,eval b X.env)]:=by rfl) :
  PI X tg (.Call (.Name "range" p) [a,b] [] pos) (PP ta):=by
 intro pins s σ H R I h
 refine Call_ (uW I hg hm boot_range (PyProof.Rows.callWith_type1 (thn (ha pos pins s σ H _ I h) fun us s1 ⟨vs,H1,I1,r1,q1⟩=>?_) (by rw[hs,hs2]) (by rw[hs2];rfl)))
 obtain⟨i,j,e,⟨q1,q2,q3,q4⟩,q⟩:=q1
 subst e
 cases r1 with
 | cons r rr =>
  cases rr with
  | cons r' rr =>
   cases rr
   obtain⟨t,rfl⟩:=r
   obtain⟨t',rfl⟩:=r'
   exact call_range_2 (yP I1 q1 q2 q3 q4 q)
def Qf(wi:TI)(g:TG)(tb:TS):TS:=fun D σ H=>wi σ H fun J H1=>∃ W:Nat->Nat->St->Hp->Prop,(∃ m,W 0 m σ H1)/\∀ i m σ H,W i m σ H ->
 (J.stop i H/\D.nx σ H)\/(J.go i H/\∃ N:St->Hp->Prop,(∀ σ' H',N σ' H'->∃ m',m'<m/\W (i+1) m' σ' H')/\∀ x H',J.yld i H x H'->g x σ H' fun σ2 H2=>tb {D with nx:=N,ct:=N,bk:=D.nx} σ2 H2)
def rF(fp:List Addr)(h:Heap):OP:=fp.filterMap fun b=>(h.get? b).map fun o=>(b,o)
theorem gm{fp:List Addr}{h:Heap}{b:Addr}{o:Obj}(hb:b∈fp)(e:h.get? b=some o):(b,o)∈rF fp h:=List.mem_filterMap.mpr ⟨b,hb,by rw[e];rfl⟩
theorem DW{fp:List Addr}{h:Heap}{p:Addr×Obj}(hp:p∈rF fp h):p.1∈fp/\h.get? p.1=some p.2:=by
 obtain⟨b,hb,e⟩:=List.mem_filterMap.mp hp
 cases q:h.get? b with
 | none=>rw[q]at e;cases e
 | some o =>
  rw[q]at e
  have e':(b,o)=p:=Option.some.inj e
  subst e'
  exact⟨hb,q⟩
theorem Inv.pinned{pins:OP}{σ:St}{H:Hp}{s:Shared}{fp:List Addr}(I:Inv X pins σ H s)(hf:∀ b∈fp,qd X pins H b)(ho:∀ b∈fp,∃ o,s.heap.get? b=some o/\∀ v,o.data≠.cell v):Inv X (pins++rF fp s.heap) σ H s :=
 I.pins_of fun p hp=>(mem_append.mp hp).elim (fun z=>I.pin p (mem_append_right _ z)) fun z=>by
  obtain⟨hb,e⟩:=DW z
  obtain⟨f0,f1,f2,_⟩:=hf p.1 hb
  obtain⟨o,e',d⟩:=ho p.1 hb
  rw[e]at e';cases e'
  exact⟨e,f0,f1,f2,d⟩
theorem Inv.unpinned{pins pl:OP}{σ:St}{H:Hp}{s:Shared}(I:Inv X (pins++pl) σ H s):Inv X pins σ H s:=I.pins_of fun p hp=>I.pin p (mem_append_right _ (mem_append_left _ hp))
theorem MJ{iter:Expr}{body:List Stmt}{wi:TI}{g:TG}{tb:TS}{pos:Pos}(hp:PassesOwn (model X.prog X.w) X.A X.env X.xe)(hc:X.calm=true)(hi:PI X tg iter wi)(hg:PG X tg g)(hb:PSs X body tb)
  (hs:∀ x,foldedSetIterable iter X.env x=pure x:=by intro _;rfl):PS X (.For tg iter body [] pos) (Qf wi g tb):=by
 intro pins s σ H D I h
 refine wpAny_For (thn (hi pins s σ H _ I h) fun v s1 h1=>thn h1 fun itv s2 h2=>?_) hs
 obtain⟨it,fp,tn,J,H2,e,I2,T,st2,f2,W,⟨m0,w0⟩,turn⟩:=h2
 subst e
 have stat:∀ {H':Hp},(∀ b∈fp,H' b=none)->∀ b∈fp,qd X pins H' b:=fun hn b hb=>⟨hn b hb,(f2 b hb).2⟩
 refine codeAny_forLoop_any (fun n s'=>∃ i σ' H',Inv X pins σ' H' s'/\tn i s'.heap/\(∀ b∈fp,H' b=none)/\W i n σ' H') ?_ m0 ⟨0,σ,H2,I2,st2,fun b hb=>(f2 b hb).1,w0⟩
 rintro n s3 ⟨i,σ3,H3,I3,st3,fr3,w3⟩
 rcases turn i n σ3 H3 w3 with⟨stop,qn⟩|⟨go,N,hN,step⟩
 ·refine wpAny_passesOwn hp (thn (T.done X rfl rfl rfl hc i pins s3 σ3 H3 X.xe I3 (stat fr3) st3 stop) fun r s4 ⟨hr,I4⟩=>?_)
  subst hr
  exact wpAny_execs_nil ⟨σ3,H3,I4,qn⟩
 ·refine wpAny_passesOwn hp (thn (T.item X rfl rfl rfl hc i pins s3 σ3 H3 X.xe I3 (stat fr3) st3 go) fun r s4 ⟨u,hr,h4⟩=>?_)
  subst hr
  refine wpAny_passesOwn hp (thn h4 fun _ s5 ⟨x,H5,I5,r5,y5,st5,fr5⟩=>?_)
  have I5':=I5.pinned (stat fr5) (T.obj _ _ st5)
  refine wpAny_passesOwn hp (thn (hg _ s5 σ3 H5 x u _ I5' r5 (step x H5 y5)) fun _ s6 ⟨σ6,H6,I6,q6⟩=>?_)
  refine wpAny_passesOwn hp (thn (hb _ s6 σ6 H6 _ I6 q6) fun f s7 q7=>?_)
  have again:∀ {σ7:St} {H7:Hp},Inv X (pins++rF fp s5.heap) σ7 H7 s7->N σ7 H7->∃ m,m<n/\∃ i σ' H',Inv X pins σ' H' s7/\tn i s7.heap/\(∀ b∈fp,H' b=none)/\W i m σ' H':=fun{σ7 H7} I7 n7=>by
   obtain⟨m',hm,w7⟩:=hN σ7 H7 n7
   refine⟨m',hm,i+1,σ7,H7,I7.unpinned,T.keep _ _ _ st5 fun b hb o e=>(I7.pin (b,o) (mem_append_right _ (mem_append_right _ (gm hb e)))).1,fun b hb=>?_,w7⟩
   obtain⟨o,e,d⟩:=T.obj _ _ st5 b hb
   exact(I7.pin (b,o) (mem_append_right _ (mem_append_right _ (gm hb e)))).2.1
  cases f with
  | next=>obtain⟨σ7,H7,I7,n7⟩:=q7;exact again I7 n7
  | cont=>obtain⟨σ7,H7,I7,n7⟩:=q7;exact again I7 n7
  | brk=>obtain⟨σ7,H7,I7,q7⟩:=q7;exact⟨σ7,H7,I7.unpinned,q7⟩
  | ret v=>obtain⟨x7,σ7,H7,I7,r7,q7⟩:=q7;exact⟨x7,σ7,H7,I7.unpinned,r7,q7⟩
end
theorem bU {K:Frag} {a:Addr} {xs:List V} {g:TG} {tb:TS} {D:Ends} {σ:St} {H:Hp} (Pv:Nat -> St -> Hp -> Prop) (h0:Pv 0 σ H) (hl:∀ i σ H,i <= xs.length -> Pv i σ H -> SqL K H a xs)
  (hs:∀ i x σ H,xs[i]? = some x -> Pv i σ H -> g x σ H fun σ2 H2=>tb { D with nx:=Pv (i + 1),ct:=Pv (i + 1),bk:=D.nx } σ2 H2) (hd:∀ σ H,Pv xs.length σ H -> D.nx σ H) :
  ∃ W:Nat -> Nat -> St -> Hp -> Prop,(∃ m,W 0 m σ H) /\ ∀ i m σ H,W i m σ H ->
   ((Itl K a).stop i H /\ D.nx σ H) \/ ((Itl K a).go i H /\ ∃ N:St -> Hp -> Prop,(∀ σ' H',N σ' H' -> ∃ m',m' < m /\ W (i + 1) m' σ' H') /\ ∀ x H',(Itl K a).yld i H x H' -> g x σ H' fun σ2 H2=>tb { D with nx:=N,ct:=N,bk:=D.nx } σ2 H2):=by
 refine ⟨fun i m σ H=>m = xs.length - i /\ i <= xs.length /\ Pv i σ H,⟨xs.length,Z2,zero_le _,h0⟩,?_⟩
 rintro i m σ H ⟨rfl,hi,p⟩
 have q:=hl i σ H hi p
 by_cases hlt:i < xs.length
 ·refine .inr ⟨⟨xs,xs[i],q,by simp [hlt]⟩,Pv (i + 1),fun σ' H' p'=>⟨xs.length - (i + 1),Z1,rfl,hlt,p'⟩,fun x H' y=>?_⟩
  obtain ⟨e,y⟩:=y
  subst e
  exact hs i x σ _ (y xs q) p
 ·have e:i = xs.length:=by omega
  subst e
  exact .inl ⟨⟨xs,q,le_refl _⟩,hd σ H p⟩
theorem oE {lo:Int} {n:Nat} {g:TG} {tb:TS} {D:Ends} {σ:St} {H:Hp} (Pv:Nat -> St -> Hp -> Prop) (h0:Pv 0 σ H)
  (hs:∀ i σ H,i < n -> Pv i σ H -> g (.int (lo + i)) σ H fun σ2 H2=>tb { D with nx:=Pv (i + 1),ct:=Pv (i + 1),bk:=D.nx } σ2 H2) (hd:∀ σ H,Pv n σ H -> D.nx σ H) :
  ∃ W:Nat -> Nat -> St -> Hp -> Prop,(∃ m,W 0 m σ H) /\ ∀ i m σ H,W i m σ H ->
   ((Itr lo n).stop i H /\ D.nx σ H) \/ ((Itr lo n).go i H /\ ∃ N:St -> Hp -> Prop,(∀ σ' H',N σ' H' -> ∃ m',m' < m /\ W (i + 1) m' σ' H') /\ ∀ x H',(Itr lo n).yld i H x H' -> g x σ H' fun σ2 H2=>tb { D with nx:=N,ct:=N,bk:=D.nx } σ2 H2):=by
 refine ⟨fun i m σ H=>m = n - i /\ i <= n /\ Pv i σ H,⟨n,Z2,zero_le _,h0⟩,?_⟩
 rintro i m σ H ⟨rfl,hi,p⟩
 by_cases hlt:i < n
 ·refine .inr ⟨hlt,Pv (i + 1),fun σ' H' p'=>⟨n - (i + 1),Z1,rfl,hlt,p'⟩,fun x H' y=>?_⟩
  obtain ⟨e,y⟩:=y
  subst e y
  exact hs i σ _ hlt p
 ·have e:i = n:=by omega
  subst e
  exact .inl ⟨le_refl _,hd σ H p⟩
abbrev R2:=V->V->Hp->VK->Prop
def OpR(X:Cx)(f:Value->Value->Sem Value)(r:R2):Prop :=
 ∀ (pins:OP) (s:Shared) (σ:St) (H:Hp) (x y:V) (v u:Value) (Q:VK),Inv X pins σ H s->RelV x v->RelV y u->r x y H Q ->
  wpAny (model X.prog X.w) X.A (f v u) (EP X pins σ Q) X.xe s
def UnR(X:Cx)(f:Value->Sem Value)(r:V->Hp->VK->Prop):Prop :=
 ∀ (pins:OP) (s:Shared) (σ:St) (H:Hp) (x:V) (v:Value) (Q:VK),Inv X pins σ H s->RelV x v->r x H Q ->
  wpAny (model X.prog X.w) X.A (f v) (EP X pins σ Q) X.xe s
def mD(X:Cx)(f:Value)(r:List V->Hp->VK->Prop):Prop :=
 ∀ (pins:OP) (s:Shared) (σ:St) (H:Hp) (xs:List V) (us:List Value) (Q:VK),Inv X pins σ H s->Vals xs us->r xs H Q ->
  wpAny (model X.prog X.w) X.A (call f us) (EP X pins σ Q) X.xe s
def tOp(r:R2)(ta tb:TE):TE:=fun σ H Q=>ta σ H fun x H1=>tb σ H1 fun y H2=>r x y H2 Q
def tUn(r:V->Hp->VK->Prop)(ta:TE):TE:=fun σ H Q=>ta σ H fun x H1=>r x H1 Q
def rI(C:Int->Int->Prop)(g:Int->Int->V):R2:=fun x y H Q=>∃ i j,x=.int i/\y=.int j/\C i j/\Q (g i j) H
def rI0(g:Int->Int->V):R2:=fun x y H Q=>∃ i j,x=.int i/\y=.int j/\Q (g i j) H
def rU(g:Int->V):V->Hp->VK->Prop:=fun x H Q=>∃ i,x=.int i/\Q (g i) H
section
variable {X:Cx} {a b c:Expr} {ta tb tc:TE} {pos:Pos}
theorem NB(ha:PE X a ta)(hb:PE X b tb){pins:OP}{s:Shared}{σ:St}{H:Hp}{R:V->V->Hp->Prop}(I:Inv X pins σ H s)
  (h:ta σ H fun x H1=>tb σ H1 fun y H2=>R x y H2){Q:EV}{f:Value->Value->Sem Value}
  (hf:∀ v u s2 x y H2,Inv X pins σ H2 s2->RelV x v->RelV y u->R x y H2->wpAny (model X.prog X.w) X.A (f v u) Q X.xe s2) :
  wpAny (model X.prog X.w) X.A (eval a X.env) (fun v s₁=>wpAny (model X.prog X.w) X.A (eval b X.env) (fun u s₂=>wpAny (model X.prog X.w) X.A (f v u) Q X.xe s₂) X.xe s₁) X.xe s:=by
 refine thn (ha pins s σ H _ I h) fun v s1 ⟨x,H1,I1,r1,q1⟩=>?_
 refine thn (hb pins s1 σ H1 _ I1 q1) fun u s2 ⟨y,H2,I2,r2,q2⟩=>?_
 exact hf v u s2 x y H2 I2 r1 r2 q2
theorem aV{op:Operator}{r:R2}(ho:OpR X (binaryOp op) r)(ha:PE X a ta)(hb:PE X b tb):PE X (.BinOp a op b pos) (tOp r ta tb):=by
 intro pins s σ H Q I h
 exact wpAny_BinOp (NB ha hb I h fun v u s2 x y H2 I2 rx ry q=>ho pins s2 σ H2 x y v u Q I2 rx ry q)
theorem qM{op:UnaryOp}{r:V->Hp->VK->Prop}(ho:UnR X (unaryOp op) r)(ha:PE X a ta):PE X (.UnaryOp op a pos) (tUn r ta):=by
 intro pins s σ H Q I h
 exact UnaryOp_ (thn (ha pins s σ H _ I h) fun v s1 ⟨x,H1,I1,r1,q1⟩=>ho pins s1 σ H1 x v Q I1 r1 q1)
theorem opI {f:Value->Value->Sem Value} {C:Int->Int->Prop} {g:Int->Int->Int}
  (rule:∀ (i j:Int) (t u:Tok) (s:Shared) (Q:EV) (E:EV),C i j->Q (.int (g i j) s.toks) {s with toks:=s.toks+1}->wpAny (model X.prog X.w) X.A (f (.int i t) (.int j u)) Q E s) :
  OpR X f (rI C fun i j=>.int (g i j)):=by
 intro pins s σ H x y v u Q I rx ry h
 obtain⟨i,j,rfl,rfl,hc,q⟩:=h
 obtain⟨t,rfl⟩:=rx
 obtain⟨t',rfl⟩:=ry
 exact rule i j t t' s _ _ hc ⟨.int (g i j),H,I.tok _,⟨_,rfl⟩,q⟩
theorem Oc {f:Value->Value->Sem Value} {g:Int->Int->Int}
  (rule:∀ (i j:Int) (t u:Tok) (s:Shared) (Q:EV) (E:EV),Q (.int (g i j) s.toks) {s with toks:=s.toks+1}->wpAny (model X.prog X.w) X.A (f (.int i t) (.int j u)) Q E s) :
  OpR X f (rI0 fun i j=>.int (g i j)):=by
 intro pins s σ H x y v u Q I rx ry h
 obtain⟨i,j,rfl,rfl,q⟩:=h
 obtain⟨t,rfl⟩:=rx
 obtain⟨t',rfl⟩:=ry
 exact rule i j t t' s _ _ ⟨.int (g i j),H,I.tok _,⟨_,rfl⟩,q⟩
theorem Lz {f:Value->Value->Sem Value} {g:Int->Int->Bool}
  (rule:∀ (i j:Int) (t u:Tok) (s:Shared) (Q:EV) (E:EV),Q (.bool (g i j)) s->wpAny (model X.prog X.w) X.A (f (.int i t) (.int j u)) Q E s) :
  OpR X f (rI0 fun i j=>.bl (g i j)):=by
 intro pins s σ H x y v u Q I rx ry h
 obtain⟨i,j,rfl,rfl,q⟩:=h
 obtain⟨t,rfl⟩:=rx
 obtain⟨t',rfl⟩:=ry
 exact rule i j t t' s _ _ ⟨.bl (g i j),H,I,rfl,q⟩
def RL(i j:Int):Prop:=0<j/\j<1073741824
def Ri(i j:Int):Prop:=0<=j/\j<=1000000/\i.natAbs<2 ^ 64
def Nm(i j:Int):Prop:=(-(2 ^ 64)<i/\i<2 ^ 64)\/(-(2 ^ 64)<j/\j<2 ^ 64)
theorem Nm.ok {i j:Int} (h:Nm i j):IntMulOk i j:=by
 rcases h with ⟨h1,h2⟩ | ⟨h1,h2⟩
 ·exact .of_left (intBits_le_64 h1 h2)
 ·exact .of_right (intBits_le_64 h1 h2)
theorem Bk(k:Nat):(0:Int)<=2 ^ k:=by
 rw[two_pow_cast]
 exact Int.natCast_nonneg _
theorem d9:OpR X (binaryOp .Add) (rI0 fun i j=>.int (i+j)):=Oc fun _ _ _ _ _ _ _ q=>add_int q
theorem Gg:OpR X (binaryOp .Sub) (rI0 fun i j=>.int (i - j)):=Oc fun _ _ _ _ _ _ _ q=>sub_int q
theorem pM:OpR X (binaryOp .Mult) (rI Nm fun i j=>.int (i*j)):=opI fun _ _ _ _ _ _ _ hc q=>mul_int q hc.ok
theorem tV:OpR X (binaryOp .FloorDiv) (rI RL fun i j=>.int (i / j)):=opI fun i j _ _ _ _ _ hc q=>by
 have h1:(0:Int)<j:=hc.1
 have h2:j<1073741824:=hc.2
 exact floordiv_int Z1 (by rw[Int.fdiv_eq_ediv_of_nonneg i Z1];exact q) (.inl (PyProof.noPylong_small Z1))
theorem lO:OpR X (binaryOp .Mod) (rI (fun _ j=>0<j) fun i j=>.int (i%j)):=opI fun i j _ _ _ _ _ hc q=>by
 have h1:(0:Int)<j:=hc
 exact mod_int' Z1 (by rw[Int.fmod_eq_emod_of_nonneg i Z1];exact q)
theorem M8:OpR X (binaryOp .LShift) (rI Ri fun i j=>.int (i*2 ^ j.toNat)):=opI fun _ _ _ _ _ _ _ hc q=>lshift_int_small hc.1 hc.2.1 hc.2.2 q
theorem Je:OpR X (binaryOp .RShift) (rI (fun _ j=>0<=j) fun i j=>.int (i / 2 ^ j.toNat)):=opI fun i j _ _ _ _ _ hc q =>
 rshift_int hc (by rw[Int.fdiv_eq_ediv_of_nonneg i (Bk _)];exact q)
theorem Jh:OpR X (binaryOp .BitAnd) (rI0 fun i j=>.int (Builtin.bitAnd i j)):=Oc fun _ _ _ _ _ _ _ q=>and_int q
theorem unI {f:Value->Sem Value} {g:Int->Int}
  (rule:∀ (i:Int) (t:Tok) (s:Shared) (Q:EV) (E:EV),Q (.int (g i) s.toks) {s with toks:=s.toks+1}->wpAny (model X.prog X.w) X.A (f (.int i t)) Q E s) :
  UnR X f (rU fun i=>.int (g i)):=by
 intro pins s σ H x v Q I rx h
 obtain⟨i,rfl,q⟩:=h
 obtain⟨t,rfl⟩:=rx
 exact rule i t s _ _ ⟨.int (g i),H,I.tok _,⟨_,rfl⟩,q⟩
theorem kO:UnR X (unaryOp .USub) (rU fun i=>.int (-i)):=unI fun _ _ _ _ _ q=>neg_int q
end
def Ph:V->V->Bool
 | .non,.non=>true|.non,.int _=>true|.int _,.non=>true|.non,.bl _=>true|.bl _,.non=>true|.non,.str _=>true|.str _,.non=>true
 | .int _,.int _=>true|.bl _,.bl _=>true|.str _,.str _=>true|.byt _,.byt _=>true
 | .int _,.str _=>true|.str _,.int _=>true|.bl _,.str _=>true|.str _,.bl _=>true
 | _,_=>false
def rEq:R2:=fun x y H Q=>Ph x y=true/\Q (.bl (decide (x=y))) H
def rNe:R2:=fun x y H Q=>Ph x y=true/\Q (.bl (!decide (x=y))) H
theorem Cp{i j:Int}:decide (V.int i=V.int j)=(i==j):=by
 rw[Bool.eq_iff_iff]
 simp
theorem Fy{i j:Bool}:decide (V.bl i=V.bl j)=(i==j):=by
 rw[Bool.eq_iff_iff]
 simp
theorem Cz{i j:Str}:decide (V.str i=V.str j)=(i==j):=by
 rw[Bool.eq_iff_iff]
 simp
theorem Dt{i j:Array UInt8}:decide (V.byt i=V.byt j)=(i.toList==j.toList):=by
 rw[Bool.eq_iff_iff]
 cases i
 cases j
 simp
section
variable {X:Cx} {a b c:Expr} {ta tb tc:TE} {pos:Pos}
theorem bC{pins:OP}{σ:St}{H:Hp}{s:Shared}{Q:VK}{k k':Bool}(I:Inv X pins σ H s)(q:Q (.bl k) H)(e:k=k'):EP X pins σ Q (.bool k') s:=by
 subst e
 exact⟨.bl k,H,I,rfl,q⟩
theorem dI:OpR X (compareOp .Eq) rEq:=by
 intro pins s σ H x y v u Q I rx ry h
 obtain⟨hs,q⟩:=h
 cases x with
 | non =>
  cases rx
  cases y with
  | non=>cases ry;exact PySem.EqNone.eq_none_none (bC I q Z2)
  | bl j=>cases ry;exact PySem.EqNone.eq_none_bool (bC I q Z2)
  | int j=>obtain⟨t',rfl⟩:=ry;exact PySem.EqNone.eq_none_int (bC I q Z2)
  | str j=>obtain⟨t',rfl⟩:=ry;exact PySem.EqNone.eq_none_str (bC I q Z2)
  | _=>exact absurd (show false=true from hs) Bool.false_ne_true
 | bl i =>
  cases rx
  cases y with
  | non=>cases ry;exact PySem.EqNone.eq_bool_none (bC I q Z2)
  | bl j=>cases ry;exact eq_bool (bC I q Fy)
  | str j=>obtain⟨t',rfl⟩:=ry;exact PySem.EqMixed.eq_bool_str (bC I q Z2)
  | _=>exact absurd (show false=true from hs) Bool.false_ne_true
 | int i =>
  obtain⟨t,rfl⟩:=rx
  cases y with
  | non=>cases ry;exact PySem.EqNone.eq_int_none (bC I q Z2)
  | int j=>obtain⟨t',rfl⟩:=ry;exact eq_int (bC I q Cp)
  | str j=>obtain⟨t',rfl⟩:=ry;exact PySem.EqMixed.eq_int_str (bC I q Z2)
  | _=>exact absurd (show false=true from hs) Bool.false_ne_true
 | str i =>
  obtain⟨t,rfl⟩:=rx
  cases y with
  | non=>cases ry;exact PySem.EqNone.eq_str_none (bC I q Z2)
  | bl j=>cases ry;exact PySem.EqMixed.eq_str_bool (bC I q Z2)
  | int j=>obtain⟨t',rfl⟩:=ry;exact PySem.EqMixed.eq_str_int (bC I q Z2)
  | str j=>obtain⟨t',rfl⟩:=ry;exact eq_str (bC I q Cz)
  | _=>exact absurd (show false=true from hs) Bool.false_ne_true
 | byt i =>
  obtain⟨t,rfl⟩:=rx
  cases y with
  | byt j=>obtain⟨t',rfl⟩:=ry;exact PySem.W.eq_bytes (bC I q Dt)
  | _=>exact absurd (show false=true from hs) Bool.false_ne_true
 | _=>cases y <;> exact absurd (show false=true from hs) Bool.false_ne_true
theorem wF:OpR X (compareOp .NotEq) rNe:=by
 intro pins s σ H x y v u Q I rx ry h
 obtain⟨hs,q⟩:=h
 cases x with
 | non =>
  cases rx
  cases y with
  | non=>cases ry;exact PySem.EqNone.ne_none_none (bC I q Z2)
  | bl j=>cases ry;exact PySem.EqNone.ne_none_bool (bC I q Z2)
  | int j=>obtain⟨t',rfl⟩:=ry;exact PySem.EqNone.ne_none_int (bC I q Z2)
  | str j=>obtain⟨t',rfl⟩:=ry;exact PySem.EqNone.ne_none_str (bC I q Z2)
  | _=>exact absurd (show false=true from hs) Bool.false_ne_true
 | bl i =>
  cases rx
  cases y with
  | non=>cases ry;exact PySem.EqNone.ne_bool_none (bC I q Z2)
  | bl j=>cases ry;exact ne_bool (bC I q (congrArg not Fy))
  | str j=>obtain⟨t',rfl⟩:=ry;exact PySem.EqMixed.ne_bool_str (bC I q Z2)
  | _=>exact absurd (show false=true from hs) Bool.false_ne_true
 | int i =>
  obtain⟨t,rfl⟩:=rx
  cases y with
  | non=>cases ry;exact PySem.EqNone.ne_int_none (bC I q Z2)
  | int j=>obtain⟨t',rfl⟩:=ry;exact ne_int (bC I q (congrArg not Cp))
  | str j=>obtain⟨t',rfl⟩:=ry;exact PySem.EqMixed.ne_int_str (bC I q Z2)
  | _=>exact absurd (show false=true from hs) Bool.false_ne_true
 | str i =>
  obtain⟨t,rfl⟩:=rx
  cases y with
  | non=>cases ry;exact PySem.EqNone.ne_str_none (bC I q Z2)
  | bl j=>cases ry;exact PySem.EqMixed.ne_str_bool (bC I q Z2)
  | int j=>obtain⟨t',rfl⟩:=ry;exact PySem.EqMixed.ne_str_int (bC I q Z2)
  | str j=>obtain⟨t',rfl⟩:=ry;exact ne_str (bC I q (congrArg not Cz))
  | _=>exact absurd (show false=true from hs) Bool.false_ne_true
 | byt i =>
  obtain⟨t,rfl⟩:=rx
  cases y with
  | byt j=>obtain⟨t',rfl⟩:=ry;exact PySem.W.ne_bytes (bC I q (congrArg not Dt))
  | _=>exact absurd (show false=true from hs) Bool.false_ne_true
 | _=>cases y <;> exact absurd (show false=true from hs) Bool.false_ne_true
theorem za:OpR X (compareOp .Lt) (rI0 fun i j=>.bl (decide (i<j))):=Lz fun _ _ _ _ _ _ _ q=>lt_int q
theorem zO:OpR X (compareOp .Gt) (rI0 fun i j=>.bl (decide (j<i))):=Lz fun _ _ _ _ _ _ _ q=>gt_int q
theorem PL:OpR X (compareOp .GtE) (rI0 fun i j=>.bl (decide (j<=i))):=Lz fun _ _ _ _ _ _ _ q=>ge_int q
theorem vM:OpR X (compareOp .In) (fun x y H Q=>∃ i j,x=.str i/\y=.str j/\Q (.bl (!(Builtin.Str.occurrences j i 0 j.length 1).isEmpty)) H):=by
 intro pins s σ H x y v u Q I rx ry h
 obtain⟨i,j,rfl,rfl,q⟩:=h
 obtain⟨t,rfl⟩:=rx
 obtain⟨t',rfl⟩:=ry
 exact in_str (bC I q rfl)
theorem Mt:OpR X (compareOp .Is) (fun x y H Q=>y=.non/\Q (.bl (decide (x=.non))) H):=by
 intro pins s σ H x y v u Q I rx ry h
 obtain⟨rfl,q⟩:=h
 cases ry
 refine is_none_gen (bC I q ?_)
 cases x <;> first
  | (cases rx;rfl)
  | (obtain⟨t,rfl⟩:=rx;rfl)
theorem Jy:OpR X (compareOp .IsNot) (fun x y H Q=>y=.non/\Q (.bl (!decide (x=.non))) H):=by
 intro pins s σ H x y v u Q I rx ry h
 obtain⟨rfl,q⟩:=h
 cases ry
 refine isnot_none_gen (bC I q ?_)
 cases x <;> first
  | (cases rx;rfl)
  | (obtain⟨t,rfl⟩:=rx;rfl)
theorem aQ(b:Expr){op:CmpOp}(h:op≠.In:=by decide)(h2:op≠.NotIn:=by decide):behindInMarks op b=false:=by
 have e1:(op==CmpOp.In)=false:=by cases op <;> first|rfl|exact absurd rfl h
 have e2:(op==CmpOp.NotIn)=false:=by cases op <;> first|rfl|exact absurd rfl h2
 cases b <;> simp[behindInMarks,e1,e2]
theorem iI{op:CmpOp}{r:R2}(ho:OpR X (compareOp op) r)(ha:PE X a ta)(hb:PE X b tb)(hm:behindInMarks op b=false):PE X (.Compare a [op] [b] pos) (tOp r ta tb):=by
 intro pins s σ H Q I h
 exact wpAny_Compare1 (NB ha hb I h fun v u s2 x y H2 I2 rx ry q=>ho pins s2 σ H2 x y v u Q I2 rx ry q) hm
def Pn(t:TE):TT:=fun σ H Q=>t σ H fun x H'=>∃ k,x=.bl k/\Q k H'
theorem aH{op:CmpOp}{r:R2}(ho:OpR X (compareOp op) r)(ha:PE X a ta)(hb:PE X b tb)(hm:behindInMarks op b=false):PT X (.Compare a [op] [b] pos) (Pn (tOp r ta tb)):=by
 intro pins s σ H Q I h
 refine wpAny_isTrue_Compare1 (thn (ha pins s σ H _ I h) fun v s1 ⟨x,H1,I1,r1,q1⟩=>thn (hb pins s1 σ H1 _ I1 q1) fun u s2 ⟨y,H2,I2,r2,q2⟩ =>
  thn (ho pins s2 σ H2 x y v u _ I2 r1 r2 q2) fun c s3 ⟨z,H3,I3,r3,k,e,q3⟩=>?_) hm
 subst e
 cases r3
 exact wpAny_truthy_bool ⟨H3,I3,q3⟩
theorem xx:(sizeLine:Nat)<2 ^ 63:=by rw[sizeLine_eq];decide
theorem bA:OpR X (binaryOp .Add) (fun x y H Q=>∃ i j,x=.str i/\y=.str j/\i.length+j.length<=sizeLine/\Q (.str (i++j)) H):=by
 intro pins s σ H x y v u Q I rx ry h
 obtain⟨i,j,rfl,rfl,hz,q⟩:=h
 obtain⟨t,rfl⟩:=rx
 obtain⟨t',rfl⟩:=ry
 exact add_str (fun t' tk=>⟨.str (i++j),H,I.tok _,⟨_,rfl⟩,q⟩) hz
theorem vals1{x:V}{us:List Value}(r:Vals [x] us):∃ u,us=[u]/\RelV x u:=by
 cases r with
 | cons r1 r2=>cases r2;exact⟨_,rfl,r1⟩
theorem vals2{x y:V}{us:List Value}(r:Vals [x,y] us):∃ u w',us=[u,w']/\RelV x u/\RelV y w':=by
 cases r with
 | cons r1 r2 =>
  cases r2 with
  | cons r3 r4=>cases r4;exact⟨_,_,rfl,r1,r3⟩
theorem Eo(hc:X.calm=true):mD X (.builtin "min") (fun xs H Q=>∃ i j,xs=[.int i,.int j]/\Q (.int (if j<i then j else i)) H):=by
 intro pins s σ H xs us Q I r h
 obtain⟨i,j,rfl,q⟩:=h
 obtain⟨u,w',rfl,⟨t,rfl⟩,⟨t',rfl⟩⟩:=vals2 r
 refine min_two_ints (I.ok.hd hc) fun h' tk k=>⟨_,H,I.kept k,?_,q⟩
 by_cases hj:j<i
 ·rw[if_pos hj,if_pos hj];exact⟨_,rfl⟩
 ·rw[if_neg hj,if_neg hj];exact⟨_,rfl⟩
end
structure Bu(h:Heap)(x dx C:Addr)(mA:MG):Prop where
 obj:h.get? x=some (instObj C dx)
 ns:h.Ns1 dx mA
 ne:dx≠x
theorem Em{h:Heap}{dx:Addr}{mA:MG}(n:h.Ns1 dx mA):∃ od,h.get? dx=some od/\∀ name,lookIn name od=some (mA name):=by
 obtain⟨o,es,ep,ho,hd,hk,_,hm⟩:=n
 refine⟨o,ho,fun name=>?_⟩
 have e:=hm name
 unfold nsFind findBy at e
 rw[<- Array.find?_toList]at e
 unfold lookIn
 rw[hd]
 dsimp only
 split
 ·rename_i y q
  rw[q]at e
  exact congrArg some e
 ·rename_i q
  rw[q]at e
  have a:es.toList.any (·.refKey)=false:=by
   rw[any_eq_false]
   intro y hy
   obtain⟨z,t,hkey⟩:=hk y (Array.mem_toList_iff.mp hy)
   simp[DictEntry.refKey,hkey]
  have a':¬es.toList.any (·.refKey)=true:=by rw[a];exact Bool.false_ne_true
  rw[if_neg a']
  exact congrArg some e
theorem Bu.look{h:Heap}{x dx C:Addr}{mA:MG}(I:Bu h x dx C mA):∃ od,PySem.W.InstAt h x (instObj C dx) C (some od)/\∀ name,lookIn name od=some (mA name) :=
 let⟨od,ho,hl⟩:=Em I.ns
 ⟨od,⟨I.obj,rfl,rfl,ho⟩,hl⟩
section
variable {prog:Program} {w:World} {A:Around} {E:EV} {s:Shared} {K:Frag} {x dx C f:Addr} {mA:MG} {name:Str} {v:Value}
theorem J4{expr:Bool}{Q:EV}(X:K.In s.heap)(I:Bu s.heap x dx C mA)(hg:plainGet K C name=true)(hh:hasDictIn K C=true)
  (ha:findIn K (.ref C) name=some none)(hv:mA name=some v)(hv':handedIn v=true)(h:Q v {s with toks:=s.toks+1}) :
  wpAny (model prog w) A (getAttr (.ref x) name expr) Q E s:=by
 obtain⟨od,J,hl⟩:=I.look
 exact PySem.W.get_value X J (plainGet_of hg).1 (PySem.W.findObj_own hh ha rfl (by rw[hl,hv])) hv' h
theorem Gv{pl:Sem Bool}{Q:Value×List Value->Shared->Prop}(X:K.In s.heap)(I:Bu s.heap x dx C mA)(hg:plainGet K C name=true)
  (hf:findIn K (.ref C) name=some (some (.ref f)))(ht:isFn K (.ref f)=true)(hv:mA name=none)(h:Q (.ref f,[.ref x]) s) :
  wpAny (model prog w) A (getMethod (.ref x) name pl) Q E s:=by
 obtain⟨od,J,hl⟩:=I.look
 exact PySem.W.method_fn X J (plainGet_of hg).1 (plainGet_of hg).2 hf (beq_iff_eq.mp ht) (by show(lookIn name od).map (·.isSome)=some false;rw[hl,hv];rfl) h
theorem Kr {ns:List Str} {Q:Unit->Shared->Prop} (X:K.In s.heap) (I:Bu s.heap x dx C mA)
  (hs:findIn K (.ref C) "__setattr__" = some (some (.builtin "object.__setattr__"))) (hp:plainOver K C=true) (ht:takerIn K C name=some none) (hh:hasDictIn K C=true)
  (hw:PySem.Within mA ns) (hsz:ns.length<=sizeLine)
  (h:∀ h',Bu h' x dx C (fun y=>if y=name then some v else mA y)->Heap.SameBut dx s.heap h'->Q () {s with heap:=h',toks:=s.toks+2}) :
  wpAny (model prog w) A (setAttr (.ref x) name v) Q E s:=by
 obtain⟨od,J,hl⟩:=I.look
 refine PySem.W.set_plain X J hs (PySem.W.osa_open (s:={s with toks:=s.toks+1}) (r:=none) X J hp ht fun b=>?_)
 obtain⟨cd,hc,hd'⟩:=PySem.W.any_some hh
 have hx:s.heap.get? x=some ⟨.ref C,some dx,.plain,#[]⟩:=I.obj
 refine wpAny_bind (wpAny_pure (wpAny_bind (wpAny_bind (wpAny_loadPart hx (wpAny_bind (PySem.W.Looks.here (s:={s with toks:=s.toks+1}) (PySem.W.looks_clsIn X hc) ?_))))))
 rw[hd']
 refine wpAny_pure (a:=some dx) (wpAny_bind (wpAny_pure (wpAny_bind ?_)))
 refine wpAny_nsSet1 (s:={s with toks:=s.toks+1}) I.ns fun h' hn2 hs2=>?_
 obtain⟨oD,esD,epD,hoD,hdD,hcD⟩:=hn2.count (PySem.Within.cons name v hw)
 refine wpAny_bind (wpAny_lookBehind hoD (by rw[hdD];exact pastItsLine_dict (le_trans hcD (by rw[length_cons];omega))) ?_)
 exact wpAny_pure (h _ ⟨(hs2.2 _ (Ne.symm I.ne)).trans I.obj,hn2,I.ne⟩ hs2)
theorem G7 {R:Result->Shared->Prop} {vs:List Value} {kw:List (Str×Value)} (X:K.In s.heap) (hm:makesIn K C=true)
  (hi:findIn K (.ref C) "__init__" = some (some (.ref f))) (hf:typeIn K (.ref f)=some (.type "function"))
  (h:codeAny (model prog w) (A.under (.builtin "type.__call__" ⟨.ref C::vs,kw⟩)) (.call (.ref f) ⟨.ref (s.heap.objs.size+1)::vs,kw⟩) (PySem.W.InitBack (s.heap.objs.size+1) R)
   {s with heap:=(s.heap.push emptyDict).push (instObj C s.heap.objs.size)}) :
  codeAny (model prog w) A (.call (.ref C) ⟨vs,kw⟩) R s:=by
 obtain⟨hh,g,d,t,os⟩:=s
 exact PySem.W.make_core (PySem.W.makes_of X hm) (PySem.W.looks_findIn X hi) (fun self=>PySem.W.bind_fn X self hf) (.inl rfl) h
end
def jU(f:Str)(v:V):List (Str×V)->List (Str×V)
 | []=>[(f,v)]
 | (g,x)::r=>if g=f then(g,v)::r else(g,x)::jU f v r
theorem jn(f g:Str)(v:V):∀ fs:List (Str×V),(jU f v fs).lookup g=if g=f then some v else fs.lookup g
 | []=>by
  show List.lookup g [(f,v)]=_
  by_cases h:g=f
  ·have hb:(g==f)=true:=beq_iff_eq.mpr h
   simp only[List.lookup,hb,if_pos h]
  ·have hb:(g==f)=false:=beq_eq_false_iff_ne.mpr h
   simp only[List.lookup,hb,if_neg h]
 | (k,x)::r=>by
  have ih:=jn f g v r
  rw[show jU f v ((k,x)::r)=(if k=f then(k,v)::r else(k,x)::jU f v r)from rfl]
  by_cases hk:k=f
  ·rw[if_pos hk]
   by_cases h:g=k
   ·have hb:(g==k)=true:=beq_iff_eq.mpr h
    simp only[List.lookup,hb,if_pos (h.trans hk)]
   ·have hb:(g==k)=false:=beq_eq_false_iff_ne.mpr h
    simp only[List.lookup,hb,if_neg (fun e:g=f=>h (e.trans hk.symm))]
  ·rw[if_neg hk]
   by_cases h:g=k
   ·have hb:(g==k)=true:=beq_iff_eq.mpr h
    simp only[List.lookup,hb,if_neg (fun e:g=f=>hk (h.symm.trans e))]
   ·have hb:(g==k)=false:=beq_eq_false_iff_ne.mpr h
    simp only[List.lookup,hb]
    exact ih
theorem qU(f:Str)(v:V):∀ fs:List (Str×V),f∈(jU f v fs).map (·.1)/\∀ g,g∈fs.map (·.1)->g∈(jU f v fs).map (·.1)
 | []=>⟨by simp[jU],fun g h=>by simp at h⟩
 | (k,x)::r=>by
  obtain⟨i1,i2⟩:=qU f v r
  rw[show jU f v ((k,x)::r)=(if k=f then(k,v)::r else(k,x)::jU f v r)from rfl]
  by_cases hk:k=f
  ·rw[if_pos hk]
   subst hk
   exact⟨Z2,fun g h=>by simpa using h⟩
  ·rw[if_neg hk]
   refine⟨?_,fun g h=>?_⟩
   ·rw[map_cons]
    exact mem_cons_of_mem _ i1
   ·rw[map_cons]at h ⊢
    rcases mem_cons.mp h with e|e
    ·exact mem_cons.mpr (.inl e)
    ·exact mem_cons_of_mem _ (i2 g e)
theorem ni(f:Str)(v:V):∀ fs:List (Str×V),(jU f v fs).length<=fs.length+1
 | []=>by simp[jU]
 | (k,x)::r=>by
  have ih:=ni f v r
  rw[show jU f v ((k,x)::r)=(if k=f then(k,v)::r else(k,x)::jU f v r)from rfl]
  by_cases hk:k=f
  ·rw[if_pos hk,length_cons,length_cons];omega
  ·rw[if_neg hk,length_cons,length_cons];omega
theorem lJ.some_of{v:V}{o:Option Value}(r:lJ (some v) o):∃ u,o=some u/\RelV v u:=by
 cases o with
 | none=>exact(show False from r).elim
 | some u=>exact⟨u,rfl,r⟩
theorem lJ.none_of{o:Option Value}(r:lJ none o):o=none:=by
 cases o with
 | none=>rfl
 | some u=>exact(show False from r).elim
theorem Es{v:V}{u:Value}(r:RelV v u):handedIn u=true:=by
 cases v with
 | non=>cases(show u=Value.none from r);rfl
 | bl b=>cases(show u=Value.bool b from r);rfl
 | int i=>obtain⟨t,e⟩:=(show ∃ t,u=Value.int i t from r);cases e;rfl
 | str x=>obtain⟨t,e⟩:=(show ∃ t,u=Value.str x t from r);cases e;rfl
 | byt b=>obtain⟨t,e⟩:=(show ∃ t,u=Value.bytes b t from r);cases e;rfl
 | flt b=>obtain⟨t,e⟩:=(show ∃ t,u=Value.float b t from r);cases e;rfl
 | ref a=>cases(show u=Value.ref a from r);rfl
 | ty n=>cases(show u=Value.type n from r);rfl
section
variable {P:Program} {w:World} {H H':Hp} {h h':Heap} {a C dx:Addr} {fs fs':List (Str×V)}
theorem tQ(hok:HOk P w H h)(e:H a=some (.ins C dx fs)):∃ mA,Bu h a dx C mA/\(∀ f,lJ (fs.lookup f) (mA f))/\PySem.Within mA (fs.map (·.1))/\fs.length<=1000/\H dx=some (.own a):=by
 obtain⟨d,z,ne,ob,mA,n,r,q⟩:=(show bD P w H h a (.ins C dx fs)from hok a _ e)
 exact⟨mA,⟨ob,n,ne⟩,r,q,z,d⟩
end
structure Cls(K:Frag)(C:Addr):Prop where
 pg:plainGet K C Str.empty=true
 hd:hasDictIn K C=true
 po:plainOver K C=true
 sa:findIn K (.ref C) "__setattr__" = some (some (.builtin "object.__setattr__"))
theorem Cls.get{K:Frag}{C:Addr}(c:Cls K C)(f:Str):plainGet K C f=true:=c.pg
def cQ(K:Frag)(C:Addr)(f:Str):Prop:=findIn K (.ref C) f=some none
theorem cQ.taker{K:Frag}{C:Addr}{f:Str}(n:cQ K C f):takerIn K C f=some none:=by
 unfold takerIn
 rw[show findIn K (.ref C) f=some none from n]
 rfl
structure Meth(K:Frag)(C:Addr)(m:Str)(f:Addr):Prop where
 at_:findIn K (.ref C) m=some (some (.ref f))
 fn:isFn K (.ref f)=true
 kp:keepIn K (.ref f)=true
section
variable {X:Cx} {pins:OP} {σ:St} {H:Hp} {s:Shared} {a C dx:Addr} {fs:List (Str×V)} {f:Str} {v:V} {A:Around} {E:EV}
theorem BP{b:Bool}{Q:EV}(I:Inv X pins σ H s)(e:H a=some (.ins C dx fs))(c:Cls X.K C)(n:cQ X.K C f)(l:fs.lookup f=some v)
  (h:∀ u s',Inv X pins σ H s'->RelV v u->Q u s'):wpAny (model X.prog X.w) A (getAttr (.ref a) f b) Q E s:=by
 obtain⟨mA,O,r,_,_,_⟩:=tQ I.hok e
 obtain⟨u,hu,ru⟩:=lJ.some_of (v:=v) (o:=mA f) (by rw[<- l];exact r f)
 exact J4 I.kIn O (c.get f) c.hd n hu (Es ru) (h u _ (I.tok _) ru)
theorem lR{m:Str}{g:Addr}{pl:Sem Bool}{Q:Value×List Value->Shared->Prop}(I:Inv X pins σ H s)(e:H a=some (.ins C dx fs))(c:Cls X.K C)(k:Meth X.K C m g)(l:fs.lookup m=none)
  (h:Q (.ref g,[.ref a]) s):wpAny (model X.prog X.w) A (getMethod (.ref a) m pl) Q E s:=by
 obtain⟨mA,O,r,_,_,_⟩:=tQ I.hok e
 have hn:mA m=none:=lJ.none_of (by rw[<- l];exact r m)
 exact Gv I.kIn O (c.get m) k.at_ k.fn hn h
theorem BR{y:V}{u:Value}{Q:Unit->Shared->Prop}(I:Inv X pins σ H s)(e:H a=some (.ins C dx fs))(c:Cls X.K C)(n:cQ X.K C f)(hl:fs.length<1000)(ry:RelV y u)
  (h:∀ s',Inv X pins σ (upd H a (.ins C dx (jU f y fs))) s'->Q () s'):wpAny (model X.prog X.w) A (setAttr (.ref a) f u) Q E s:=by
 obtain⟨mA,O,r,wi,_,ho⟩:=tQ I.hok e
 have hz:(fs.map (·.1)).length<=sizeLine:=by rw[length_map,sizeLine_eq];omega
 refine Kr I.kIn O c.sa c.po n.taker c.hd wi hz fun h' O' sb=>h _ ?_
 have hd:∃ o,h'.get? dx=some o:=let⟨o,_,_,e',_⟩:=O'.ns;⟨o,e'⟩
 refine I.write (x:=a) (e:=dx) (by rw[e];exact True.intro) (.inr ho) (fun b q hb z=>(sb.2 b hb).trans z) hd ?_
 refine⟨by rw[aD O.ne];exact ho,?_,O.ne,O'.obj,_,O'.ns,fun g=>?_,fun g hg=>?_⟩
 ·have:=ni f y fs;omega
 ·show lJ ((jU f y fs).lookup g) (if g=f then some u else mA g)
  rw[jn]
  by_cases q:g=f
  ·rw[if_pos q,if_pos q];exact ry
  ·rw[if_neg q,if_neg q];exact r g
 ·by_cases q:g=f
  ·rw[q];exact(qU f y fs).1
  ·refine(qU f y fs).2 g (wi g fun z=>hg ?_)
   show(if g=f then some u else mA g)=none
   rw[if_neg q];exact z
theorem Inv.made(I:Inv X pins σ H s):Inv X pins σ (upd (upd H s.heap.objs.size (.own (s.heap.objs.size+1))) (s.heap.objs.size+1) (.ins C s.heap.objs.size []))
  {s with heap:=(s.heap.push emptyDict).push (instObj C s.heap.objs.size)}:=by
 have e1:(s.heap.push emptyDict).get? s.heap.objs.size=some emptyDict:=Heap.get?_push_size s.heap rfl
 have e2:((s.heap.push emptyDict).push (instObj C s.heap.objs.size)).get? (s.heap.objs.size+1)=some (instObj C s.heap.objs.size):=by
  have:=Heap.get?_push_size (s.heap.push emptyDict) (o:=instObj C s.heap.objs.size) rfl
  rwa [Heap.size_push]at this
 have e3:(s.heap.push emptyDict).Ns s.heap.objs.size (fun _=>none):=⟨emptyDict,#[],_,e1,rfl,(fun e he=>absurd he Z2),fun _=>rfl⟩
 have I1:=I.laid (a:=s.heap.objs.size) (o:=.own (s.heap.objs.size+1)) (h':=s.heap.push emptyDict) (t':=s.toks) (fun b u q=>Heap.get?_push_of_some _ q) (le_refl _) ⟨_,e1⟩
 refine I1.laid (a:=s.heap.objs.size+1) (o:=.ins C s.heap.objs.size []) (t':=s.toks) (fun b u q=>Heap.get?_push_of_some _ q) (le_of_eq (Heap.size_push _ _)) ?_
 have ne:s.heap.objs.size≠s.heap.objs.size+1:=ne_of_lt (lt_succ_self _)
 refine⟨by rw[aD ne,ao],zero_le _,ne,e2,fun _=>none,(Heap.Ns1.of_empty e3).at fun o q=>Heap.get?_push_of_some _ q,fun _=>True.intro,fun y hy=>absurd rfl hy⟩
theorem JL {prog:Program} {w:World} {env:Env} {e:Expr} {f:Str} {pos:Pos} {s:Shared} {Q:EV} (hb:attributeBase e f env (eval e env)=eval e env)
  (h:wpAny (model prog w) A (eval e env) (fun o s₁=>wpAny (model prog w) A (getAttr o f true) Q E s₁) E s):wpAny (model prog w) A (eval (.Attribute e f pos) env) Q E s :=
 Attribute_any_ h (by rw[arm_eval_Attribute,hb])
end
def Od(K:Frag)(ta:TE)(f:Str):TE:=fun σ H Q=>ta σ H fun x H1=>∃ a C dx fs v,x=.ref a/\H1 a=some (.ins C dx fs)/\Cls K C/\cQ K C f/\fs.lookup f=some v/\Q v H1
def OD(K:Frag)(ta tv:TE)(f:Str):TS:=fun D σ H=>tv σ H fun y H1=>ta σ H1 fun x H2=>∃ a C dx fs,x=.ref a/\H2 a=some (.ins C dx fs)/\Cls K C/\cQ K C f/\fs.length<1000 /\
 D.nx σ (upd H2 a (.ins C dx (jU f y fs)))
section
variable {X:Cx} {o e value:Expr} {f:Str} {pos pos' tpos:Pos} {ta tv:TE}
theorem cA(he:PE X e ta)(hb:attributeBase e f X.env (eval e X.env)=eval e X.env):PE X (.Attribute e f pos) (Od X.K ta f):=by
 intro pins s σ H Q I h
 refine JL hb (thn (he pins s σ H _ I h) fun u s1 hz=>?_)
 obtain⟨x,H1,I1,rx,a,C,dx,fs,v,ex,ea,c,n,l,q⟩:=hz
 subst ex
 obtain rfl:u=Value.ref a:=rx
 exact BP I1 ea c n l fun u' s2 I2 ru=>⟨v,H1,I2,ru,q⟩
theorem MT(ha:PE X o ta)(hv:PE X value tv)(hs:swapsWith value (some (.Attribute o f pos')) pos.line X.env=pure false):PS X (.Assign [.Attribute o f pos'] value pos) (OD X.K ta tv f):=by
 intro pins s σ H D I h
 refine plainObj_wpAny_Assign_Attribute (thn (hv pins s σ H _ I h) fun u s1 ⟨y,H1,I1,ry,q⟩=>thn (ha pins s1 σ H1 _ I1 q) fun ov s2 hz=>?_) hs
 obtain⟨x,H2,I2,rx,a,C,dx,fs,ex,ea,c,n,l,q2⟩:=hz
 subst ex
 obtain rfl:ov=Value.ref a:=rx
 exact BR I2 ea c n l ry fun s3 I3=>⟨σ,_,I3,q2⟩
end
section
variable {X:Cx} {pins:OP} {σ:St} {H:Hp} {s:Shared} {A:Around} {E:EV} {Q:EV} {c:Value} {b:Bool}
inductive pC(K:Frag)(H:Hp):V->Value->Prop where
 | non:pC K H .non (.type "NoneType")
 | bl (x:Bool):pC K H (.bl x) (.type "bool")
 | int (i:Int):pC K H (.int i) (.type "int")
 | str (x:Str):pC K H (.str x) (.type "str")
 | flt (x:UInt64):pC K H (.flt x) (.type "float")
 | lst {a:Addr} {xs:List V} (e:H a=some (.lst xs)):pC K H (.ref a) (.type "list")
 | frz {a:Addr} {o:Obj} {xs:List V} (e:H a=some (.frz o (.lst xs))):pC K H (.ref a) (.type "list")
 | tup {a:Addr} {xs:List V} (e:H a=some (.tup xs)):pC K H (.ref a) (.type "tuple")
 | dK {a:Addr} {kvs:List (Key×V)} (e:H a=some (.dK kvs)):pC K H (.ref a) (.type "dict")
 | dT {a:Addr} {kvs:List (List Key×V)} (e:H a=some (.dT kvs)):pC K H (.ref a) (.type "dict")
 | ins {a C dx:Addr} {fs:List (Str×V)} (e:H a=some (.ins C dx fs)) (cl:Cls K C) (ha:findIn K (.ref C) "__class__" = some (some (.builtin "object.__class__")))
   (hn:specialIn K (.builtin "object.__class__") "__get__" = some (some (.builtin "getset_descriptor.__get__"))) (htk:takesIn K (.builtin "object.__class__")=some true)
   (hm:mroIn K C (.type "object")=some true):pC K H (.ref a) (.ref C)
theorem Eg {x:V} {u t:Value} (I:Inv X pins σ H s) (rx:RelV x u) (ty:pC X.K H x t) (e:kitOne X.K t c=some b) (h:∀ tk,Q (.bool b) {s with toks:=tk}) :
  wpAny (model X.prog X.w) A (call (.builtin "isinstance") [u,c]) Q E s:=by
 cases ty with
 | non=>cases(show u=Value.none from rx);exact kia_one PySem.W.kitx_none I.kIn True.intro e (fun z=>nomatch z) h
 | bl y=>cases(show u=Value.bool y from rx);exact kia_one PySem.W.kitx_bool I.kIn True.intro e (fun z=>nomatch z) h
 | int i=>obtain⟨t,q⟩:=(show ∃ t,u=Value.int i t from rx);cases q;exact kia_one PySem.W.kitx_int I.kIn True.intro e (fun z=>nomatch z) h
 | str y=>obtain⟨t,q⟩:=(show ∃ t,u=Value.str y t from rx);cases q;exact kia_one PySem.W.kitx_str I.kIn True.intro e (fun z=>nomatch z) h
 | flt y=>obtain⟨t,q⟩:=(show ∃ t,u=Value.float y t from rx);cases q;exact kia_one PySem.W.kitx_float I.kIn True.intro e (fun z=>nomatch z) h
 | @lst a xs ea =>
  cases(show u=Value.ref a from rx)
  obtain⟨_,_,n,_,h1⟩:=(show bD X.prog X.w H s.heap a (.lst xs)from I.hok a _ ea)
  exact kia_one kitx_list I.kIn ⟨_,h1,rfl⟩ e (fun z=>nomatch z) h
 | @frz a ob xs ea =>
  cases(show u=Value.ref a from rx)
  obtain⟨_,_,_,n,_,h1⟩:=(show bD X.prog X.w H s.heap a (.frz ob (.lst xs))from I.hok a _ ea)
  exact kia_one kitx_list I.kIn ⟨_,h1,rfl⟩ e (fun z=>nomatch z) h
 | @tup a xs ea =>
  cases(show u=Value.ref a from rx)
  obtain⟨_,_,_,p⟩:=(show bD X.prog X.w H s.heap a (.tup xs)from I.hok a _ ea)
  obtain⟨o,h1,h2,_⟩:=p
  exact kia_one PySem.W.kitx_tuple I.kIn ⟨o,h1,h2⟩ e (fun z=>nomatch z) h
 | @dK a kvs ea =>
  cases(show u=Value.ref a from rx)
  obtain⟨_,_,vs,_,p⟩:=(show bD X.prog X.w H s.heap a (.dK kvs)from I.hok a _ ea)
  obtain⟨o,es,ep,h1,h2,_⟩:=p
  exact kia_one kitx_dict I.kIn ⟨o,h1,h2.1⟩ e (fun z=>nomatch z) h
 | @dT a kvs ea =>
  cases(show u=Value.ref a from rx)
  obtain⟨_,_,xs,_,o,es,ep,h1,h2,_⟩:=(show bD X.prog X.w H s.heap a (.dT kvs)from I.hok a _ ea)
  exact kia_one kitx_dict I.kIn ⟨o,h1,h2.1⟩ e (fun z=>nomatch z) h
 | @ins a C dx fs ea cl ha hn htk hm =>
  cases(show u=Value.ref a from rx)
  obtain⟨mA,O,_⟩:=tQ I.hok ea
  obtain⟨od,J,_⟩:=O.look
  exact kia_one (PySem.W.kitx_own (cl.get _) cl.hd ha hn htk hm) I.kIn J e (fun z=>nomatch z) h
end
structure aP(k:Nat)(A:Around):Prop where
 hd:A.handled=none
 dp:A.depth+3*k+5<recursionLimit
 un:A.units+16*k+200<cLine
theorem aP.mono{j k:Nat}{A:Around}(r:aP k A)(h:j<=k):aP j A:=⟨r.hd,by have:=r.dp;omega,by have:=r.un;omega⟩
theorem aP.deeper{k:Nat}{A:Around}(r:aP (k+1) A)(env:Env):aP k (A.deeper env) :=
 ⟨r.hd,by have:=r.dp;show A.depth+1+3*k+5<_;omega,by have:=r.un;show A.units+3+16*k+200<_;omega⟩
theorem Bo{A:Around}{C:Addr}{us:List Value}{kw:List (Str×Value)}:(A.under (.builtin "type.__call__" ⟨.ref C::us,kw⟩)).depth=A.depth+1:=by
 first|rfl|simp[Around.under,Code.weight,Code.isCreation,Code.isGuard,Code.isCaller,Code.frames,Code.isFrame,guardIds]
theorem zU{A:Around}{C:Addr}{us:List Value}{kw:List (Str×Value)}:(A.under (.builtin "type.__call__" ⟨.ref C::us,kw⟩)).units=A.units+1:=by
 first|rfl|simp[Around.under,Code.cUnits,Code.frames,Code.isFrame]
theorem aP.make{k:Nat}{A:Around}(r:aP (k+1) A)(C:Addr)(us:List Value)(kw:List (Str×Value)):aP k (A.under (.builtin "type.__call__" ⟨.ref C::us,kw⟩)) :=
 ⟨r.hd,by have:=r.dp;rw[Bo];omega,by have:=r.un;rw[zU];omega⟩
theorem aP.depth{k:Nat}{A:Around}(r:aP k A):A.depth<recursionLimit:=by have:=r.dp;omega
theorem aP.units{k:Nat}{A:Around}(r:aP k A):A.units+64<cLine:=by have:=r.un;omega
def Mz:TA:=fun _ H Q=>Q [] H
def Lh(ta:TE)(tr:TA):TA:=fun σ H Q=>ta σ H fun x H1=>tr σ H1 fun xs H2=>Q (x::xs) H2
section
variable {X:Cx} {e:Expr} {es:List Expr} {te:TE} {t:TA} {pos:Pos}
theorem aq:PA X [] Mz:=fun _ _ _ _ H Q I h=>Calls.spliced_nil ⟨[],H,I,.nil,h⟩
theorem ak(ha:PE X e te)(hr:PA X es t)(hs:starEach (e::es) X.env=(false,eval e X.env)::starEach es X.env:=by rfl):PA X (e::es) (Lh te t):=by
 intro pos pins s σ H Q I h
 rw[hs]
 show wpAny _ _ (spliced ((false,eval e X.env)::backTo pos (starEach es X.env))) _ _ s
 refine Calls.spliced_cons (thn (ha pins s σ H _ I h) fun u s1 ⟨x,H1,I1,r1,q1⟩=>?_)
 exact thn (hr pos pins s1 σ H1 _ I1 q1) fun us s2 ⟨xs,H2,I2,r2,q2⟩=>⟨x::xs,H2,I2,.cons r1 r2,q2⟩
def S8(t:TA):TE:=fun σ H Q=>t σ H fun xs H1=>xs.length<=sizeLine/\∀ p,H1 p=none->Q (.ref p) (upd H1 p (.tup xs))
def Nf(t:TA):TE:=fun σ H Q=>t σ H fun xs H1=>xs.length<=sizeLine/\∀ p,H1 p=none->Q (.ref p) (upd H1 p (.lst xs))
theorem nT{x1}(h:PA X es t):PE X (.Tuple es x1 pos) (S8 t):=by
 intro pins s σ H Q I hq
 refine wpAny_Tuple_spliced (thn (h pos pins s σ H _ I hq) fun us s1 ⟨xs,H1,I1,r,z,q⟩=>⟨by rw[<- r.length];exact z,?_⟩)
 have hf:H1 s1.heap.objs.size=none:=I1.hok.fresh (le_refl _)
 refine⟨.ref s1.heap.objs.size,upd H1 s1.heap.objs.size (.tup xs),I1.laid (t':=s1.toks) (fun b u e=>Heap.get?_push_of_some _ e) (le_refl _) ?_,rfl,q _ hf⟩
 exact⟨z,us,r,⟨_,Heap.get?_push_size _ rfl,rfl,_,rfl⟩⟩
theorem bF(h:PA X es t):PE X (.List es pos) (Nf t):=by
 intro pins s σ H Q I hq
 refine wpAny_List_spliced (thn (h pos pins s σ H _ I hq) fun us s1 ⟨xs,H1,I1,r,z,q⟩=>⟨by rw[<- r.length];exact z,?_⟩)
 have hf:H1 s1.heap.objs.size=none:=I1.hok.fresh (le_refl _)
 refine⟨.ref s1.heap.objs.size,upd H1 s1.heap.objs.size (.lst xs),I1.laid (t':=s1.toks) (fun b u e=>Heap.get?_push_of_some _ e) (le_refl _) ?_,rfl,q _ hf⟩
 exact⟨z,us,0,r,Heap.get?_push_size _ rfl⟩
end
abbrev Sp:=List V->Hp->VK->XK->Prop
abbrev CXT:=List Env->Hp->Shared->XK->Value->Shared->Prop
structure zZ(P:Program)(w:World)(K:Frag)(mg:MG)(base:Heap)(A:Around)(outer:List Env)(s:Shared)(H:Hp):Prop where
 frames:A.frames=some outer
 mod:Mod K mg base
 bs:∀ b o,base.get? b=some o->s.heap.get? b=some o/\H b=none
 bsz:base.objs.size<=s.heap.objs.size
 funs:s.heap.FunFrames base outer
 frf:∀ b∈frs outer,H b=none
 hok:HOk P w H s.heap
 bare:AllBare s.gens
def CE(outer:List Env)(P:Program)(w:World)(H:Hp)(s:Shared)(Q:VK)(u:Value)(s':Shared):Prop :=
 ∃ v H',s'.os=s.os/\AllBare s'.gens/\Un (frs outer) [] H H' s.heap s'.heap/\HOk P w H' s'.heap/\RelV v u/\Q v H'
def CR(CX:CXT)(outer:List Env)(P:Program)(w:World)(H:Hp)(s:Shared)(Q:VK)(E:XK)(r:Result)(s':Shared):Prop :=
 match r with
 | .ok (.ret u)=>CE outer P w H s Q u s'
 | .ok _=>False
 | .error e=>CX outer H s E e s'
structure aK(P:Program)(w:World)(K:Frag)(mg:MG)(base:Heap)(CX:CXT)(k:Nat)(f:Addr)(fd:FuncData)(ps:List Str)(sp:Sp):Prop where
 len:∀ vs H Q E,sp vs H Q E->vs.length=ps.length
 run:∀ (A:Around) (outer:List Env) (s:Shared) (H:Hp) (args:Args) (us:List Value) (vs:List V) (Q:VK) (E:XK),aP k A->zZ P w K mg base A outer s H->BindsTo s fd args (ps.zip us)->Vals vs us->sp vs H Q E ->
  codeAny (model P w) A (.call (.ref f) args) (CR CX outer P w H s Q E) s
theorem aK.mono{P:Program}{w:World}{K:Frag}{mg:MG}{base:Heap}{CX:CXT}{j k:Nat}{f:Addr}{fd:FuncData}{ps:List Str}{sp:Sp}(F:aK P w K mg base CX j f fd ps sp)(h:j<=k) :
  aK P w K mg base CX k f fd ps sp:=⟨F.len,fun A outer s H args us vs Q E hr=>F.run A outer s H args us vs Q E (hr.mono h)⟩
theorem aK.imp{P:Program}{w:World}{K:Frag}{mg:MG}{base:Heap}{CX:CXT}{k:Nat}{f:Addr}{fd:FuncData}{ps:List Str}{sp sp':Sp}(F:aK P w K mg base CX k f fd ps sp)
  (h:∀ vs H Q E,sp' vs H Q E->sp vs H Q E):aK P w K mg base CX k f fd ps sp' :=
 ⟨fun vs H Q E q=>F.len vs H Q E (h _ _ _ _ q),fun A outer s H args us vs Q E hr he hb hv hs=>F.run A outer s H args us vs Q E hr he hb hv (h _ _ _ _ hs)⟩
theorem zZ.make{P:Program}{w:World}{K:Frag}{mg:MG}{base:Heap}{A:Around}{outer:List Env}{s:Shared}{H:Hp}(e:zZ P w K mg base A outer s H)(C:Addr)(us:List Value)(kw:List (Str×Value)) :
  zZ P w K mg base (A.under (.builtin "type.__call__" ⟨.ref C::us,kw⟩)) outer s H:=⟨by first|exact e.frames|(simpa [Around.under,Code.envs,Code.isFrame,pushEnvs] using e.frames),e.mod,e.bs,e.bsz,e.funs,e.frf,e.hok,e.bare⟩
section
variable {X:Cx} {pins:OP} {σ:St} {H:Hp} {s s':Shared}
theorem Inv.env0(I:Inv X pins σ H s):zZ X.prog X.w X.K X.mg X.base X.A X.stack s H :=
 ⟨I.ok.frames,I.ok.mod,I.bs,le_trans I.ok.bsz I.sz,I.stack,I.stkFree,I.hok,I.bare⟩
theorem Inv.after{Q:VK}{u:Value}(I:Inv X pins σ H s)(h:CE X.stack X.prog X.w H s Q u s'):EP X pins σ Q u s':=by
 obtain⟨v,H',os,bare,un,hok,r,q⟩:=h
 obtain⟨hh,g,d,t,os'⟩:=s'
 obtain rfl:os'=s.os:=os
 exact⟨v,H',I.call (h':=hh) (g':=g) (d':=d) (t':=t) (ch:=[]) un hok bare (fun b z=>absurd z Z2),r,q⟩
end
def K7(sp:Sp)(dvs:List V)(E:XK)(t:TA):TE:=fun σ H Q=>t σ H fun vs H1=>sp (vs++dvs) H1 Q E
def K5(C:Addr)(m:Str)(sp:Sp)(dvs:List V)(E:XK)(ta:TE)(t:TA):TE:=fun σ H Q=>ta σ H fun x H1=>∃ a dx fs,x=.ref a/\H1 a=some (.ins C dx fs)/\fs.lookup m=none /\
 t σ H1 fun vs H2=>sp (x::(vs++dvs)) H2 Q E
def Lj(C:Addr)(sp:Sp)(dvs:List V)(E:XK)(t:TA):TE:=fun σ H Q=>t σ H fun vs H1=>∀ x dx,H1 x=none->H1 dx=none->dx≠x ->
 sp (.ref x::(vs++dvs)) (upd (upd H1 dx (.own x)) x (.ins C dx [])) (fun v H2=>v=.non/\Q (.ref x) H2) E
def Binds(K:Frag)(fd:FuncData)(ps:List Str)(ds:List Value):Prop :=
 ∀ (s:Shared) (us:List Value),K.In s.heap->(us++ds).length=ps.length->BindsTo s fd ⟨us,[]⟩ (ps.zip (us++ds))
theorem Binds.all {K:Frag} {fd:FuncData} {ps:List Str} (h:∀ us:List Value,us.length = ps.length -> bindArgs fd ⟨us,[]⟩ = pure (ps.zip us)):Binds K fd ps []:=fun s us _ hl=>by
 rw [append_nil] at hl ⊢
 exact .of_eq (h us hl)
def jN(CX:CXT)(X:Cx)(E:XK):Prop:=∀ (pins:OP) (σ:St) (H:Hp) (s:Shared) (e:Value) (s':Shared),Inv X pins σ H s->CX X.stack H s E e s'->X.xe e s'
section
variable {X:Cx} {CX:CXT} {k:Nat} {f C:Addr} {fd:FuncData} {ps:List Str} {sp:Sp} {dvs:List V} {ds:List Value} {E:XK} {x m:Str} {p pos apos:Pos} {e o:Expr} {es:List Expr} {ta:TE} {t:TA}
theorem wI{pins:OP}{σ:St}{H:Hp}{s:Shared}{Q:VK}{us:List Value}{vs:List V}(F:aK X.prog X.w X.K X.mg X.base CX k f fd ps sp)(hr:aP k X.A)(hb:Binds X.K fd ps ds)(hd:Vals dvs ds)(hx:jN CX X E)
  (I:Inv X pins σ H s)(r:Vals vs us)(h:sp (vs++dvs) H Q E):wpAny (model X.prog X.w) X.A (call (.ref f) us) (EP X pins σ Q) X.xe s:=by
 have r2:Vals (vs++dvs) (us++ds):=r.append hd
 have hl:(us++ds).length=ps.length:=by rw[<- r2.length];exact F.len _ _ _ _ h
 refine wpAny_call (codeAny_mono (F.run X.A X.stack s H ⟨us,[]⟩ (us++ds) (vs++dvs) Q E hr I.env0 (hb s us I.kIn hl) r2 h) fun r s' hq=>?_)
 cases r with
 | error e=>exact hx pins σ H s e s' I hq
 | ok fl =>
  cases fl with
  | ret u=>exact I.after hq
  | next=>exact False.elim hq
  | brk=>exact False.elim hq
  | cont=>exact False.elim hq
theorem JH(F:aK X.prog X.w X.K X.mg X.base CX k f fd ps sp)(hr:aP k X.A)(hg:Gl X x)(hm:X.mg x=some (.ref f))(hk:keepIn X.K (.ref f)=true)(hb:Binds X.K fd ps ds)(hd:Vals dvs ds)(hx:jN CX X E)
  (ha:PA X (e::es) t)(hdb:(x==("__debug__" : Str))=false:=by decide)(he:starEach (e::es) X.env=(false,eval e X.env)::starEach es X.env:=by rfl)(hpl:(backTo pos (starEach es X.env)).any (·.1)=false:=by rfl) :
  PE X (.Call (.Name x p) (e::es) [] pos) (K7 sp dvs E t):=by
 intro pins s σ H Q I h
 refine wpAny_Call_Name_kw (oH I hg hm ?_ hdb)
 refine callWith_K (h₀:=X.base) I.ok.mod.kin hk (thn (ha pos pins s σ H _ I h) fun us s1 ⟨vs,H1,I1,r,q⟩=>⟨I1.kIn,?_⟩) he hpl
 exact wI F hr hb hd hx I1 r q
theorem tO {pl:Sem Bool} (he:PE X o ta) (c:Cls X.K C) (hm:Meth X.K C m f) (F:aK X.prog X.w X.K X.mg X.base CX k f fd ps sp) (hr:aP k X.A) (hb:Binds X.K fd ps ds) (hd:Vals dvs ds) (hx:jN CX X E) (ha:PA X (e::es) t)
  (hst:starEach (e::es) X.env=(false,eval e X.env)::starEach es X.env:=by rfl) (hpl:(backTo pos (starEach es X.env)).any (·.1)=false:=by rfl)
  (ht:eval (.Call (.Attribute o m apos) (e::es) [] pos) X.env=(do
   let ov <- eval o X.env
   standAt apos.atName
   let(f,first) <- holding [ov] (getMethod ov m pl)
   callWith pos f first (backTo pos (starEach (e::es) X.env)) (backToKw pos (keywordEach [] X.env))):=by rfl) :
  PE X (.Call (.Attribute o m apos) (e::es) [] pos) (K5 C m sp dvs E ta t):=by
 intro pins s σ H Q I h
 refine methodCall_KW (pl:=pl) (thn (he pins s σ H _ I h) fun u s1 ⟨x,H1,I1,rx,a,dx,fs,ex,ea,l,q⟩=>?_) ht
 subst ex
 obtain rfl:u=Value.ref a:=rx
 refine lR I1 ea c hm l ?_
 refine callWith_K (first:=[.ref a]) (h₀:=X.base) I.ok.mod.kin hm.kp (thn (ha pos pins s1 σ H1 _ I1 q) fun us s2 ⟨vs,H2,I2,r,q2⟩=>⟨I2.kIn,?_⟩) hst hpl
 exact wI (us:=.ref a::us) (vs:=.ref a::vs) F hr hb hd hx I2 (.cons rfl r) q2
theorem u5 {pl:Sem Bool} (he:PE X o ta) (c:Cls X.K C) (hm:Meth X.K C m f) (F:aK X.prog X.w X.K X.mg X.base CX k f fd ps sp) (hr:aP k X.A) (hb:Binds X.K fd ps ds) (hd:Vals dvs ds) (hx:jN CX X E)
  (ht:eval (.Call (.Attribute o m apos) [] [] pos) X.env=(do
   let ov <- eval o X.env
   standAt apos.atName
   let(f,first) <- holding [ov] (getMethod ov m pl)
   callWith pos f first (backTo pos (starEach [] X.env)) (backToKw pos (keywordEach [] X.env))):=by rfl) :
  PE X (.Call (.Attribute o m apos) [] [] pos) (K5 C m sp dvs E ta Mz):=by
 intro pins s σ H Q I h
 refine methodCall_KW (pl:=pl) (thn (he pins s σ H _ I h) fun u s1 ⟨x,H1,I1,rx,a,dx,fs,ex,ea,l,q⟩=>?_) ht
 subst ex
 obtain rfl:u=Value.ref a:=rx
 refine lR I1 ea c hm l ?_
 exact PySem.W.callWith_K0 (first:=[.ref a]) I1.kIn hm.kp (wI (us:=[.ref a]) (vs:=[.ref a]) F hr hb hd hx I1 (.cons rfl .nil) q)
structure Mk(K:Frag)(C f:Addr):Prop where
 makes:makesIn K C=true
 init:findIn K (.ref C) "__init__" = some (some (.ref f))
 fn:isFn K (.ref f)=true
 kp:keepIn K (.ref C)=true
theorem G8 {pins:OP} {σ:St} {H:Hp} {s:Shared} {Q:VK} {us:List Value} {vs:List V} (M:Mk X.K C f) (F:aK X.prog X.w X.K X.mg X.base CX k f fd ps sp) (hr:aP (k+1) X.A) (hb:Binds X.K fd ps ds) (hd:Vals dvs ds)
  (hx:jN CX X E) (I:Inv X pins σ H s) (r:Vals vs us)
  (h:∀ x dx,H x=none->H dx=none->dx≠x->sp (.ref x::(vs++dvs)) (upd (upd H dx (.own x)) x (.ins C dx [])) (fun v H2=>v=.non/\Q (.ref x) H2) E) :
  wpAny (model X.prog X.w) X.A (call (.ref C) us) (EP X pins σ Q) X.xe s:=by
 have hq:=h (s.heap.objs.size+1) s.heap.objs.size (I.hok.fresh (le_succ _)) (I.hok.fresh (le_refl _)) (ne_of_lt (lt_succ_self _))
 have I2:=Inv.made (C:=C) I
 have r2:Vals (V.ref (s.heap.objs.size+1)::(vs++dvs)) (Value.ref (s.heap.objs.size+1)::(us++ds)):=.cons rfl (r.append hd)
 have hl:(Value.ref (s.heap.objs.size+1)::us++ds).length=ps.length:=by
  have e:=r2.length
  rw[F.len _ _ _ _ hq]at e
  exact e.symm
 refine wpAny_call (G7 (f:=f) I.kIn M.makes M.init (beq_iff_eq.mp M.fn) (codeAny_mono (F.run _ X.stack _ _ ⟨Value.ref (s.heap.objs.size+1)::us,[]⟩ (Value.ref (s.heap.objs.size+1)::(us++ds)) _ _ E (hr.make C us [])
  (I2.env0.make C us []) (hb _ (Value.ref (s.heap.objs.size+1)::us) I2.kIn hl) r2 hq) fun r s' hq'=>?_))
 cases r with
 | error e=>exact hx pins σ _ _ e s' I2 hq'
 | ok fl =>
  cases fl with
  | ret u =>
   obtain⟨v,H',I3,rv,ev,q3⟩:=I2.after hq'
   subst ev
   exact⟨rv,⟨V.ref (s.heap.objs.size+1),H',I3,rfl,q3⟩⟩
  | next=>exact False.elim hq'
  | brk=>exact False.elim hq'
  | cont=>exact False.elim hq'
theorem J1(M:Mk X.K C f)(F:aK X.prog X.w X.K X.mg X.base CX k f fd ps sp)(hr:aP (k+1) X.A)(hg:Gl X x)(hm:X.mg x=some (.ref C))(hb:Binds X.K fd ps ds)(hd:Vals dvs ds)(hx:jN CX X E)
  (ha:PA X (e::es) t)(hdb:(x==("__debug__" : Str))=false:=by decide)(he:starEach (e::es) X.env=(false,eval e X.env)::starEach es X.env:=by rfl)(hpl:(backTo pos (starEach es X.env)).any (·.1)=false:=by rfl) :
  PE X (.Call (.Name x p) (e::es) [] pos) (Lj C sp dvs E t):=by
 intro pins s σ H Q I h
 refine wpAny_Call_Name_kw (oH I hg hm ?_ hdb)
 refine callWith_K (h₀:=X.base) I.ok.mod.kin M.kp (thn (ha pos pins s σ H _ I h) fun us s1 ⟨vs,H1,I1,r,q⟩=>⟨I1.kIn,?_⟩) he hpl
 exact G8 M F hr hb hd hx I1 r q
end
section
variable {X:Cx} {CX:CXT} {k:Nat} {f C:Addr} {fd:FuncData} {ps ks:List Str} {sp:Sp} {E:XK} {x m:Str} {p pos apos kpos:Pos} {e o:Expr} {es:List Expr} {kws:List Keyword} {te ta:TE} {t tk:TA} {nm:Option Str}
variable {g:List Value->List Value->List Value} {gV:List V->List V->List V}
end
structure aJ(N P:List Str)(sc:Scope):Prop where
 kind:sc.kind=.function
 co:sc.isCoroutine=false
 gen:sc.isGenerator=false
 nd:N.Nodup
 pre:N.take P.length=P
 par:∀ x∈P,sc.names.lookup x=some .local\/sc.names.lookup x=some .cell
 nofree:∀ y∈sc.names,y.2≠.free
theorem wg{kindOf:Str->Option NameKind}{x:Str}:∀ {binds:List (Str×Value)} {m:MG},(∀ v,(x,v)∉binds)->bindL kindOf binds m x=m x
 | [],_,_=>rfl
 | (n,v)::r,m,h=>by
  unfold bindL
  rw[wg fun w hw=>h w (mem_cons_of_mem _ hw)]
  split
  ·have:x≠n:=by rintro rfl;exact h v mem_cons_self
   simp[this]
  ·rfl
theorem vL{kindOf:Str->Option NameKind}{x:Str}:∀ {binds:List (Str×Value)} {m:MG},(∀ v,(x,v)∉binds)->bindC kindOf binds m x=m x
 | [],_,_=>rfl
 | (n,v)::r,m,h=>by
  unfold bindC
  rw[vL fun w hw=>h w (mem_cons_of_mem _ hw)]
  split
  ·rfl
  ·have:x≠n:=by rintro rfl;exact h v mem_cons_self
   simp[this]
theorem wC{kindOf:Str->Option NameKind}{x:Str}{v:Value}:∀ {P:List Str} {vs:List Value} {i:Nat} {m:MG},P.Nodup->P[i]? = some x->vs[i]? = some v->kindOf x=some .local ->
  bindL kindOf (P.zip vs) m x=some v
 | [],_,_,_,_,h,_,_=>by simp at h
 | _::_,[],_,_,_,_,h,_=>by simp at h
 | p::P,w::vs,0,m,nd,h1,h2,hk=>by
  simp at h1 h2;subst h1;subst h2
  show bindL kindOf ((p,w)::P.zip vs) m p=_
  unfold bindL
  rw[wg fun v hv=>(nodup_cons.mp nd).1 (List.of_mem_zip hv).1,if_pos hk]
  simp
 | p::P,w::vs,i+1,m,nd,h1,h2,hk=>by
  show bindL kindOf ((p,w)::P.zip vs) m x=_
  unfold bindL
  exact wC (i:=i) (nodup_cons.mp nd).2 (by simpa using h1) (by simpa using h2) hk
theorem vO{kindOf:Str->Option NameKind}{x:Str}{v:Value}:∀ {P:List Str} {vs:List Value} {i:Nat} {m:MG},P.Nodup->P[i]? = some x->vs[i]? = some v->kindOf x≠some .local ->
  bindC kindOf (P.zip vs) m x=some v
 | [],_,_,_,_,h,_,_=>by simp at h
 | _::_,[],_,_,_,_,h,_=>by simp at h
 | p::P,w::vs,0,m,nd,h1,h2,hk=>by
  simp at h1 h2;subst h1;subst h2
  show bindC kindOf ((p,w)::P.zip vs) m p=_
  unfold bindC
  rw[vL fun v hv=>(nodup_cons.mp nd).1 (List.of_mem_zip hv).1,if_neg hk]
  simp
 | p::P,w::vs,i+1,m,nd,h1,h2,hk=>by
  show bindC kindOf ((p,w)::P.zip vs) m x=_
  unfold bindC
  exact vO (i:=i) (nodup_cons.mp nd).2 (by simpa using h1) (by simpa using h2) hk
def start(N:List Str)(vs:List V):St:=vs.map some++List.replicate (N.length - vs.length) none
def pO(CX:CXT)(P:Program)(w:World)(K:Frag)(mg:MG)(base:Heap)(N:List Str)(qual:Str)(scope:Scope)(f:Addr)(cd:Value)(A:Around)(outer:List Env)(s:Shared)(H:Hp)(E:XK):Cx where
 prog:=P
 w:=w
 K:=K
 mg:=mg
 base:=base
 A:=A.deeper (envOfC qual scope s.heap.objs.size f cd)
 N:=N
 s₀:=s
 H₀:=H
 env:=envOfC qual scope s.heap.objs.size f cd
 outer:=outer
 stack:=envOfC qual scope s.heap.objs.size f cd::outer
 ex:=[]
 calm:=true
 fn:=fun _=>true
 pn:=[]
 xe:=fun e s'=>wpAny (model P w) (A.deeper (envOfC qual scope s.heap.objs.size f cd)) («leaving» (envOfC qual scope s.heap.objs.size f cd) e) (fun _ s''=>CX outer H s E e s'') (fun e' s''=>CX outer H s E e' s'') s'
theorem zT{sc:Scope}{n:Nat}{x:Str}(h:sc.names.lookup x=some .cell):∃ c,(cellsFrom n sc.names []).lookup x=some c:=by
 have q:=PySem.W.cellsFrom_some sc.names n [] (.inl h)
 exact Option.isSome_iff_exists.mp q
theorem Ff {CX:CXT} {P:Program} {w:World} {K:Frag} {mg:MG} {base:Heap} {N ps:List Str} {qual:Str} {scope:Scope} {f:Addr} {cd:Value} {A:Around} {outer:List Env} {s s1:Shared} {H:Hp} {E:XK} {us:List Value} {vs:List V}
  (S:aJ N ps scope) (hd:A.handled = none) (e0:zZ P w K mg base A outer s H) (hl:vs.length = ps.length) (r:Vals vs us)
  (x:InCallC s s.heap.objs.size (bindL (envOfC qual scope s.heap.objs.size f cd).kindOf (ps.zip us) fun _=>none) (cellsFrom (s.heap.objs.size + 1) scope.names []) (bindC (envOfC qual scope s.heap.objs.size f cd).kindOf (ps.zip us) fun _=>none) s1) :
  Inv (pO CX P w K mg base N qual scope f cd A outer s H E) [] (start N vs) H s1:=by
 have hpl:ps.length <= N.length:=by have:=congrArg List.length S.pre; rw [length_take] at this; omega
 obtain ⟨h1,tk,rfl,hk⟩:=x.done
 have noA:∀ b:Addr,b ∉ (pO CX P w K mg base N qual scope f cd A outer s H E).ex:=fun b z=>absurd (show b ∈ ([]:List Addr) from z) Z2
 refine ⟨⟨e0.mod,S.kind,rfl,rfl,le_refl _,fun y z c h1 h2=>?_,fun y hy=>?_,fun y c _ h=>?_,fun _=>hd,Around.frames_deeper e0.frames,.inr ⟨rfl,rfl⟩,fun b z=>absurd z (noA b),e0.bs,e0.bsz,fun b _ _=>noA b,fun b z=>absurd z (noA b),e0.funs,e0.frf⟩,
  rfl,e0.bare,Un.kept hk,⟨_,x.toInCall.ns,fun i y v h1 h2 h3=>?_⟩,fun y c h=>⟨_,x.cell y c h⟩,e0.hok.fresh (le_refl _),fun y c h=>?_,fun p hp=>absurd (show p ∈ ([]:OP) from hp) Z2,e0.hok.kept hk,?_⟩
 ·exact name_of_addr x.apart (PySem.mem_of_lookup h1) (PySem.mem_of_lookup h2)
 ·have hy:scope.names.lookup y = some .cell \/ scope.names.lookup y = some .free:=hy
  rcases hy with hy | hy
  ·exact zT hy
  ·exact absurd rfl (S.nofree _ (PySem.mem_of_lookup hy))
 ·exact le_of_lt (x.above y c (PySem.mem_of_lookup h))
 ·have hi:i < vs.length:=by
   unfold start at h2
   by_cases hi:i < vs.length
   ·exact hi
   ·rw [getElem?_append_right (by simpa using hi)] at h2
    rw [List.getElem?_replicate] at h2
    split at h2 <;> cases h2
  have ha:vs[i]? = some v:=by
   unfold start at h2
   rw [getElem?_append_left (by simpa using hi),getElem?_map] at h2
   cases e:vs[i]? with
   | none=>rw [e] at h2; cases h2
   | some a=>rw [e] at h2; cases h2; rfl
  obtain ⟨u,hu,rv⟩:=r.get ha
  have hp:ps[i]? = some y:=by
   rw [<- S.pre,List.getElem?_take_of_lt Z1]; exact h1
  have ndP:ps.Nodup:=by rw [<- S.pre]; exact S.nd.sublist (List.take_sublist _ _)
  refine ⟨u,rv,?_⟩
  rcases S.par y (mem_of_getElem? hp) with k | k
  ·exact .inl ⟨k,wC ndP hp hu k⟩
  ·obtain ⟨c,e⟩:=zT (n:=s.heap.objs.size + 1) k
   refine .inr ⟨.inl k,c,e,?_⟩
   have q:=x.cell y c e
   rw [vO ndP hp hu (by show scope.names.lookup y ≠ _; rw [k]; decide)] at q
   exact q
 ·exact e0.hok.fresh (le_of_lt (x.above y c (PySem.mem_of_lookup h)))
 ·unfold start
  show _ = N.length
  rw [length_append,length_map,List.length_replicate]
  omega
theorem K3 {CX:CXT} {P:Program} {w:World} {K:Frag} {mg:MG} {base:Heap} {k:Nat} {f:Addr} {name qual:Str} {params:Arguments} {body:List Stmt} {scope:Scope} {dV kV doc pm cdv ct oc:Value} {an od:Option Addr}
  {osl:Array (Option Value)} {N ps:List Str} {sp:Sp} (lk:K.lookup f = some ⟨oc,od,.func (fnOf name qual params body scope dV kV doc pm an cdv ct),osl⟩) (hcd:codeIn K cdv qual = true) (S:aJ N ps scope)
  (len:∀ vs H Q E,sp vs H Q E -> vs.length = ps.length)
  (hbody:∀ (A:Around) (outer:List Env) (s:Shared) (H:Hp) (vs:List V) (Q:VK) (E:XK),aP k (A.deeper (envOfC qual scope s.heap.objs.size f cdv)) -> sp vs H Q E ->
   ∃ t,PSs (pO CX P w K mg base N qual scope f cdv A outer s H E) body t /\ t { nx:=fun _ H'=>Q .non H',rt:=Q } (start N vs) H) :
  aK P w K mg base CX (k + 1) f (fnOf name qual params body scope dV kV doc pm an cdv ct) ps sp:=by
 refine ⟨len,fun A outer s H args us vs Q E hr e0 hb r hsp=>?_⟩
 have hl:=len _ _ _ _ hsp
 have KX:K.In s.heap:=e0.mod.kin.keeps fun b o e=>(e0.bs b o e).1
 have lim:s.heap.NoLimit:=e0.mod.nolimit.keeps fun b o e=>(e0.bs b o e).1
 have hkind:∀ y ∈ ps.zip us,scope.names.lookup y.1 = some .local \/ (scope.names.lookup y.1 = some .cell /\ ((cellsFrom (s.heap.objs.size + 1) scope.names []).lookup y.1).isSome = true):=fun ⟨n,v⟩ hy=>by
  rcases S.par n (List.of_mem_zip hy).1 with q | q
  ·exact .inl q
  ·exact .inr ⟨q,PySem.W.cellsFrom_some _ _ _ (.inl q)⟩
 refine codeAny_call_function hr.depth (KX _ _ lk) rfl S.co S.gen rfl (PySem.W.codeRec_of KX hcd) (hb _ _ _ _ ?_)
 refine wpAny_newFunctionEnv_cells S.kind hkind fun env he s1 x=>?_
 subst he
 refine ⟨lim.keeps x.toInCall.keep,codeAny_func ?_⟩
 obtain ⟨t,ht,hq⟩:=hbody A outer s H vs Q E (hr.deeper _) hsp
 have I:Inv (pO CX P w K mg base N qual scope f cdv A outer s H E) [] (start N vs) H s1:=Ff S hr.hd e0 hl r x
 refine wpAny_mono (ht [] s1 (start N vs) H _ I hq) (fun fl s' hs=>?_) fun e s' hs=>hs
 have fin:∀ {σ':St} {H':Hp} {v:V} {u:Value},Inv (pO CX P w K mg base N qual scope f cdv A outer s H E) [] σ' H' s' -> RelV v u -> Q v H' -> CE outer P w H s Q u s' :=
  fun {σ' H' v u} J rv q=>⟨v,H',J.os,J.bare,J.base,J.hok,rv,q⟩
 cases fl with
 | ret u =>
  obtain ⟨v,σ',H',J,rv,q⟩:=hs
  exact fin J rv q
 | next =>
  obtain ⟨σ',H',J,q⟩:=hs
  exact fin (v:=V.non) (u:=Value.none) J rfl q
 | brk =>
  obtain ⟨_,_,_,q⟩:=hs
  exact False.elim q
 | cont =>
  obtain ⟨_,_,_,q⟩:=hs
  exact False.elim q
section
variable {X:Cx} {x:Str} {p pos:Pos} {e:Expr} {es:List Expr} {t:TA} {id T:String} {r:List V->Hp->VK->Prop}
def tCB(r:List V->Hp->VK->Prop)(t:TA):TE:=fun σ H Q=>t σ H fun vs H1=>r vs H1 Q
theorem bc(hc:mD X (.builtin id) r)(hg:Gl X x)(hm:X.mg x=none)(hv:bootBuiltins x=some (.builtin id))(ha:PA X (e::es) t)(hn:x ≠ "__name__" := by decide)(hdb:(x==("__debug__" : Str))=false:=by decide)
  (he:starEach (e::es) X.env=(false,eval e X.env)::starEach es X.env:=by rfl)(hpl:(backTo pos (starEach es X.env)).any (·.1)=false:=by rfl):PE X (.Call (.Name x p) (e::es) [] pos) (tCB r t):=by
 intro pins s σ H Q I h
 refine wpAny_Call_Name_kw (uW I hg hm hv ?_ hn hdb)
 exact PyProof.Rows.callWith_builtin1 (thn (ha pos pins s σ H _ I h) fun us s1 ⟨vs,H1,I1,r1,q1⟩=>hc pins s1 σ H1 vs us Q I1 r1 q1) he hpl
theorem eQ(hc:mD X (.type T) r)(hg:Gl X x)(hm:X.mg x=none)(hv:bootBuiltins x=some (.type T))(ha:PA X (e::es) t)(hn:x ≠ "__name__" := by decide)(hdb:(x==("__debug__" : Str))=false:=by decide)
  (he:starEach (e::es) X.env=(false,eval e X.env)::starEach es X.env:=by rfl)(hpl:(backTo pos (starEach es X.env)).any (·.1)=false:=by rfl):PE X (.Call (.Name x p) (e::es) [] pos) (tCB r t):=by
 intro pins s σ H Q I h
 refine wpAny_Call_Name_kw (uW I hg hm hv ?_ hn hdb)
 exact PyProof.Rows.callWith_type1 (thn (ha pos pins s σ H _ I h) fun us s1 ⟨vs,H1,I1,r1,q1⟩=>hc pins s1 σ H1 vs us Q I1 r1 q1) he hpl
end
end L2
namespace HT
open PySem PyProof.Rows
section
open PySem.SeqAt
open PySem.AutoSeq1 (wpAny_loadPart')
open PySem.MeetsSeq PySem.MeetsSeq2 PySem.MeetsSeq3
end
section
variable {prog:Program} {w:World} {A:Around} {E:EV} {s:Shared}
def sIx(n d:Nat):Option Int->Nat
 | none=>d
 | some v=>if v<0 then(v+(n:Int)).toNat else min v.toNat n
theorem sIx_none(n d:Nat):sIx n d none=d:=rfl
theorem sIx_nat(n d k:Nat):sIx n d (some (k:Int))=min k n:=by
 show(if(k:Int)<0 then((k:Int)+(n:Int)).toNat else min (k:Int).toNat n)=min k n
 rw[if_neg Z1,toNat_natCast]
end
end HT
namespace L2
open PySem PySem.Spec PyProof.Rows
abbrev TO:=St->Hp->(Option Int->Hp->Prop)->Prop
def PO(X:Cx)(e:Option Expr)(t:TO):Prop :=
 ∀ (pins:OP) (s:Shared) (σ:St) (H:Hp) (Q:Option Int->Hp->Prop),Inv X pins σ H s->t σ H Q ->
  wpAny (model X.prog X.w) X.A (evalPart e X.env) (fun u s'=>∃ o H',Inv X pins σ H' s'/\IsPart u o/\Q o H') X.xe s
def KQ:TO:=fun _ H Q=>Q none H
def Pa(t:TE):TO:=fun σ H Q=>t σ H fun x H1=>∃ i,x=.int i/\Q (some i) H1
section
variable {X:Cx} {e:Expr} {te:TE} {lo hi:Option Expr} {tl th:TO} {pos p2:Pos}
theorem kj:PO X none KQ:=by
 intro pins s σ H Q I h
 rw[evalPart_none]
 exact wpAny_pure ⟨none,H,I,.none,h⟩
theorem iD(h:PE X e te):PO X (some e) (Pa te):=by
 intro pins s σ H Q I hw
 rw[evalPart_some]
 refine thn (h pins s σ H _ I hw) fun u s1 ⟨x,H1,I1,r1,q1⟩=>?_
 obtain⟨i,rfl,q⟩:=q1
 obtain⟨t,rfl⟩:=r1
 exact⟨some i,H1,I1,.int i t,q⟩
def SlR(X:Cx)(r:V->Option Int->Option Int->Hp->VK->Prop):Prop :=
 ∀ (pins:OP) (s:Shared) (σ:St) (H:Hp) (x:V) (v vl vu:Value) (lo hi:Option Int) (sl:Addr) (Q:VK),Inv X pins σ H s->RelV x v->s.heap.IsSliceOf sl vl vu .none->IsPart vl lo->IsPart vu hi->r x lo hi H Q ->
  ∃ T id,typeLookup (.type T) "__getitem__" = pure (some (.builtin id))/\s.TypeIs v T/\wpAny (model X.prog X.w) X.A (getItem v (.ref sl)) (EP X pins σ Q) X.xe s
def tSl(r:V->Option Int->Option Int->Hp->VK->Prop)(te:TE)(tl th:TO):TE:=fun σ H Q=>te σ H fun x H1=>tl σ H1 fun l H2=>th σ H2 fun u H3=>r x l u H3 Q
theorem ir{r:V->Option Int->Option Int->Hp->VK->Prop}(hr:SlR X r)(he:PE X e te)(hl:PO X lo tl)(hu:PO X hi th):PE X (.Subscript e (.Slice lo hi none p2) pos) (tSl r te tl th):=by
 intro pins s σ H Q I h
 refine Subscript_ (thn (he pins s σ H _ I h) fun v s1 ⟨x,H1,I1,r1,q1⟩=>?_)
 refine wpAny_Slice (thn (hl pins s1 σ H1 _ I1 q1) fun vl s2 ⟨l,H2,I2,pl,q2⟩=>thn (hu pins s2 σ H2 _ I2 q2) fun vu s3 ⟨u,H3,I3,pu,q3⟩=>?_)
 rw[evalPart_none]
 refine wpAny_pure ?_
 have I4:Inv X pins σ H3 {s3 with heap:=s3.heap.push {cls:=.type "slice",data:=.fields #[vl,vu,.none]}}:=I3.kept (t':=s3.toks) fun b ob q=>Heap.get?_push_of_some _ q
 obtain⟨T,id,hT,ht,hg⟩:=hr pins {s3 with heap:=s3.heap.push {cls:=.type "slice",data:=.fields #[vl,vu,.none]}} σ H3 x v vl vu l u s3.heap.objs.size Q I4 r1 (Heap.IsSliceOf.new ..) pl pu q3
 show wpAny (model X.prog X.w) X.A (subscriptTail e (.Slice lo hi none p2) v (.ref s3.heap.objs.size)) (EP X pins σ Q) X.xe {s3 with heap:=s3.heap.push {cls:=.type "slice",data:=.fields #[vl,vu,.none]}}
 exact tail_any (ops:=[.ref s3.heap.objs.size,v]) ht hT hg (by with_unfolding_all rfl)
def iy(xs:List V)(lo hi:Option Int):List V:=(xs.drop (HT.sIx xs.length 0 lo)).take (HT.sIx xs.length xs.length hi - HT.sIx xs.length 0 lo)
theorem yU(xs:List V)(lo hi:Option Int):(iy xs lo hi).length<=xs.length:=by
 unfold iy
 rw[length_take,List.length_drop]
 omega
end
def ixN(n:Nat)(i:Int):Option Nat:=if 0<=i then(if i<n then some i.toNat else none)else if -(n:Int)<=i then some (i+n).toNat else none
def atI{α:Type}(xs:List α)(i:Int):Option α:=(ixN xs.length i).bind fun j=>xs[j]?
theorem J2{n:Nat}{i:Int}{j:Nat}(h:ixN n i=some j):seqIndex? i n=some j/\j<n /\ -(n:Int)<=i/\i<n:=by
 unfold ixN at h
 by_cases h0:0<=i
 ·rw[if_pos h0]at h
  by_cases h1:i<n
  ·rw[if_pos h1]at h
   have e:i.toNat=j:=Option.some.inj h
   exact⟨by rw[seqIndex_of h0 h1,e],Z1,Z1,h1⟩
  ·rw[if_neg h1]at h;cases h
 ·rw[if_neg h0]at h
  by_cases h1:-(n:Int)<=i
  ·rw[if_pos h1]at h
   have e:(i+n).toNat=j:=Option.some.inj h
   exact⟨by rw[seqIndex_neg Z1 h1,e],Z1,h1,Z1⟩
  ·rw[if_neg h1]at h;cases h
theorem xG{α:Type}{xs:List α}{i:Int}{v:α}(h:atI xs i=some v):∃ j,seqIndex? i xs.length=some j/\xs[j]? = some v/\j<xs.length /\ -(xs.length:Int)<=i/\i<xs.length:=by
 unfold atI at h
 cases e:ixN xs.length i with
 | none=>rw[e]at h;cases h
 | some j =>
  rw[e]at h
  obtain⟨h1,h2,h3,h4⟩:=J2 e
  exact⟨j,h1,h,h2,h3,h4⟩
theorem bK{α:Type}{xs:List α}{j:Nat}{v:α}(h:xs[j]? = some v):atI xs (j:Int)=some v:=by
 have hj:j<xs.length:=(List.getElem?_eq_some_iff.mp h).1
 have e:ixN xs.length (j:Int)=some j:=by
  unfold ixN
  rw[if_pos Z1,if_pos Z1];simp
 unfold atI;rw[e];exact h
def CZ(b:Expr):Prop:=∀ o i,subscripted b false o i=operate [o,i] (getItem o i)
def IxR(X:Cx)(r:R2):Prop :=
 ∀ (value slice:Expr) (pins:OP) (s:Shared) (σ:St) (H:Hp) (x y:V) (v u:Value) (Q:VK),Inv X pins σ H s->RelV x v->RelV y u->r x y H Q ->
  subscripted slice false v u=operate [v,u] (getItem v u)->wpAny (model X.prog X.w) X.A (subscriptTail value slice v u) (EP X pins σ Q) X.xe s
def MtR(X:Cx)(id:String)(r:V->List V->Hp->VK->Prop):Prop :=
 ∀ (pins:OP) (s:Shared) (σ:St) (H:Hp) (x:V) (xs:List V) (v:Value) (us:List Value) (Q:VK),Inv X pins σ H s->RelV x v->Vals xs us->r x xs H Q ->
  wpAny (model X.prog X.w) X.A (call (.builtin id) (v::us)) (EP X pins σ Q) X.xe s
section
variable {X:Cx} {a b:Expr} {ta tb:TE} {pos:Pos}
theorem bL{r:R2}(hr:IxR X r)(ha:PE X a ta)(hb:PE X b tb)(hs:CZ b:=by exact fun _ _=>rfl):PE X (.Subscript a b pos) (tOp r ta tb):=by
 intro pins s σ H Q I h
 exact Subscript_ (NB ha hb I h fun v u s2 x y H2 I2 rx ry q=>hr a b pins s2 σ H2 x y v u Q I2 rx ry q (hs _ _))
def Ox(K:Frag):R2:=fun x y H Q=>∃ p xs i v,x=.ref p/\y=.int i/\SqL K H p xs/\atI xs i=some v/\Q v H
def PK(K:Frag):R2:=fun x y H Q=>∃ p xs i v,x=.ref p/\y=.int i/\SqT K H p xs/\atI xs i=some v/\Q v H
def QB:R2:=fun x y H Q=>∃ z i c,x=.str z/\y=.int i/\z.length<=sizeLine/\atI z.cps.toList i=some c/\Q (.str ⟨#[c]⟩) H
theorem bu:IxR X (Ox X.K):=by
 intro value slice pins s σ H x y v u Q I rx ry h hs
 obtain⟨p,xs,i,z,rfl,rfl,hq,he,q⟩:=h
 cases rx
 obtain⟨t,rfl⟩:=ry
 obtain⟨its,r,pl,hz⟩:=I.list hq
 obtain⟨j,h1,h2,h3,h4,h5⟩:=xG he
 obtain⟨w,ew,rw'⟩:=r.get h2
 have hl:=r.length
 have hn:=xx
 have fin:EP X pins σ Q w s:=⟨z,H,I,rw',q⟩
 by_cases h0:0<=i
 ·have hj:i.toNat=j:=by
   rw[seqIndex_of h0 h5]at h1
   exact Option.some.inj h1
  exact item_listR pl.isList h0 Z1 (by rw[hj];simpa using ew) fin hs
 ·have hj:(i+(its.toArray.size:Int)).toNat=j:=by
   rw[seqIndex_neg Z1 h4]at h1
   rw[size_toArray,<- hl]
   exact Option.some.inj h1
  exact subscriptTail_builtinR (x:=w) pl.isList.typeIs slot_list_getitem.lookup
   (wpAny_getItem_list_neg (Q:=fun r s'=>r=w/\EP X pins σ Q r s') pl.isList Z1 (by rw[size_toArray] <;> omega) Z1 (by rw[hj];simpa using ew) ⟨rfl,fin⟩) hs
theorem Ah:IxR X (PK X.K):=by
 intro value slice pins s σ H x y v u Q I rx ry h hs
 obtain⟨p,xs,i,z,rfl,rfl,hq,he,q⟩:=h
 cases rx
 obtain⟨t,rfl⟩:=ry
 obtain⟨its,r,pl,hz⟩:=I.tuple hq
 obtain⟨j,h1,h2,h3,h4,h5⟩:=xG he
 obtain⟨w,ew,rw'⟩:=r.get h2
 have hl:=r.length
 have hn:=xx
 have fin:EP X pins σ Q w s:=⟨z,H,I,rw',q⟩
 exact subscriptTail_builtinR (x:=w) pl.typeIs slot_tuple_getitem.lookup
  (getItem_tuple (j:=j) (Q:=fun r s'=>r=w/\EP X pins σ Q r s') pl Z1 Z1 (by rw[size_toArray,<- hl];exact h1) (by simpa using ew) ⟨rfl,fin⟩) hs
theorem Hl:IxR X QB:=by
 intro value slice pins s σ H x y v u Q I rx ry h hs
 obtain⟨z,i,c,rfl,rfl,hz,he,q⟩:=h
 obtain⟨t,rfl⟩:=rx
 obtain⟨t',rfl⟩:=ry
 obtain⟨j,h1,h2,h3,h4,h5⟩:=xG he
 have hl:z.cps.toList.length=z.length:=by simp[Str.length]
 rw[hl]at h1 h4 h5
 have hn:=xx
 exact tail_any (typeIs_str s z t) slot_str_getitem.lookup (getItem_str (c:=c) (by
  have e1:decide (i < -(2 ^ 63:Int))=false:=decide_eq_false Z1
  have e2:decide (i>=2 ^ 63)=false:=decide_eq_false Z1
  rw[e1,e2,Bool.or_false]) (by rw[h1];simpa using h2) ⟨.str ⟨#[c]⟩,H,I.tok _,⟨_,rfl⟩,q⟩) hs
theorem yr(lo hi:Option Int)(n:Nat):(sliceBounds lo hi none n).1=((HT.sIx n 0 lo:Nat):Int)/\(sliceBounds lo hi none n).2.1=((HT.sIx n n hi:Nat):Int)/\(sliceBounds lo hi none n).2.2=1:=by
 refine⟨?_,?_,rfl⟩
 ·cases lo with
  | none=>simp[sliceBounds,HT.sIx]
  | some i =>
   simp only[sliceBounds,HT.sIx,Option.getD_none,show(1:Int)>0 by decide,if_true]
   by_cases h:i<0
   ·simp only[h,if_true] <;> omega
   ·simp only[h,if_false] <;> omega
 ·cases hi with
  | none=>simp[sliceBounds,HT.sIx]
  | some i =>
   simp only[sliceBounds,HT.sIx,Option.getD_none,show(1:Int)>0 by decide,if_true]
   by_cases h:i<0
   ·simp only[h,if_true] <;> omega
   ·simp only[h,if_false] <;> omega
theorem vq(its:List Value)(lo hi:Option Int):slicePick its.toArray lo hi none=((its.drop (HT.sIx its.length 0 lo)).take (HT.sIx its.length its.length hi - HT.sIx its.length 0 lo)).toArray:=by
 obtain⟨h1,h2,h3⟩:=yr lo hi its.toArray.size
 unfold slicePick
 rw[h1,h2,h3]
 simp only[sliceRange_one,pick_run,size_toArray] <;> rfl
def Oq(K:Frag):V->Option Int->Option Int->Hp->VK->Prop:=fun x lo hi H Q=>∃ a xs,x=.ref a/\SqL K H a xs/\∀ p,H p=none->Q (.ref p) (upd H p (.lst (iy xs lo hi)))
theorem oh:SlR X (Oq X.K):=by
 intro pins s σ H x v vl vu lo hi sl Q I rx hs pl pu h
 obtain⟨a,xs,rfl,hx,q⟩:=h
 cases rx
 obtain⟨its,r,ht,hz⟩:=I.list hx
 have hlen:=r.length
 refine⟨"list",_,slot_list_getitem.lookup,ht.isList.typeIs,?_⟩
 refine wpAny_getItem_list_slice ht.isList hs pl pu .none Z2 ?_ (by rw[size_toArray] <;> omega)
 rw[vq,<- hlen]
 refine⟨.ref s.heap.objs.size,_,I.laid (t':=s.toks) (o:=.lst (iy xs lo hi)) (fun b ob q=>Heap.get?_push_of_some _ q) (le_refl _) ?_,rfl,q _ (I.hok.fresh (le_refl _))⟩
 exact⟨le_trans (yU xs lo hi) hz,_,0,(r.drop (HT.sIx xs.length 0 lo)).take (HT.sIx xs.length xs.length hi - HT.sIx xs.length 0 lo),Heap.get?_push_size _ rfl⟩
def dm:V->Bool
 | .non=>true
 | .bl _=>true
 | .int _=>true
 | .str _=>true
 | _=>false
def eqV:V->V->Bool
 | .non,.non=>true
 | .bl a,.bl b=>a==b
 | .bl a,.int b=>(if a then 1 else 0)==b
 | .int a,.bl b=>a==(if b then 1 else 0)
 | .int a,.int b=>a==b
 | .str a,.str b=>a==b
 | _,_=>false
theorem Mx{A:Around}{s:Shared}{y x:V}{u v:Value}(ry:RelV y u)(rx:RelV x v)(fy:dm y=true)(fx:dm x=true):SeqAt.EqAt A s u v (eqV y x):=by
 cases y with
 | non =>
  cases ry
  cases x with
  | non=>cases rx;exact SeqAt.EqAt.same _
  | bl b=>cases rx;exact SeqAt.EqAt.none_bool b
  | int b=>obtain⟨t,rfl⟩:=rx;exact SeqAt.EqAt.none_int b t
  | str b=>obtain⟨t,rfl⟩:=rx;exact SeqAt.EqAt.none_str b t
  | _=>exact absurd (show false=true from fx) Bool.false_ne_true
 | bl a =>
  cases ry
  cases x with
  | non=>cases rx;exact SeqAt.EqAt.bool_none a
  | bl b=>cases rx;exact SeqAt.EqAt.bool_bool a b
  | int b=>obtain⟨t,rfl⟩:=rx;exact SeqAt.EqAt.bool_int a b t
  | str b=>obtain⟨t,rfl⟩:=rx;exact SeqAt.EqAt.bool_str a b t
  | _=>exact absurd (show false=true from fx) Bool.false_ne_true
 | int a =>
  obtain⟨t',rfl⟩:=ry
  cases x with
  | non=>cases rx;exact SeqAt.EqAt.int_none a t'
  | bl b=>cases rx;exact SeqAt.EqAt.int_bool a t' b
  | int b=>obtain⟨t,rfl⟩:=rx;exact SeqAt.EqAt.int_int a t' b t
  | str b=>obtain⟨t,rfl⟩:=rx;exact SeqAt.EqAt.int_str a t' b t
  | _=>exact absurd (show false=true from fx) Bool.false_ne_true
 | str a =>
  obtain⟨t',rfl⟩:=ry
  cases x with
  | non=>cases rx;exact SeqAt.EqAt.str_none a t'
  | bl b=>cases rx;exact SeqAt.EqAt.str_bool a t' b
  | int b=>obtain⟨t,rfl⟩:=rx;exact SeqAt.EqAt.str_int a t' b t
  | str b=>obtain⟨t,rfl⟩:=rx;exact SeqAt.EqAt.str_str a t' b t
  | _=>exact absurd (show false=true from fx) Bool.false_ne_true
 | _=>exact absurd (show false=true from fy) Bool.false_ne_true
def eqU(x:V)(u:Value):Bool:=match u with
 | .none=>eqV .non x
 | .bool b=>eqV (.bl b) x
 | .int i _=>eqV (.int i) x
 | .str z _=>eqV (.str z) x
 | _=>false
theorem Gb{x y:V}{u:Value}(r:RelV y u)(f:dm y=true):eqU x u=eqV y x:=by
 cases y with
 | non=>cases r;rfl
 | bl b=>cases r;rfl
 | int i=>obtain⟨t,rfl⟩:=r;rfl
 | str z=>obtain⟨t,rfl⟩:=r;rfl
 | _=>exact absurd (show false=true from f) Bool.false_ne_true
theorem qT{x:V}:∀ {xs:List V} {us:List Value},Vals xs us->xs.all dm=true->us.any (eqU x)=xs.any fun y=>eqV y x
 | _,_,.nil,_=>rfl
 | y::xs,u::us,.cons r t,f=>by
  rw[List.all_cons,and_eq_true]at f
  rw[any_cons,any_cons,Gb r f.1,qT t f.2]
theorem nu{A:Around}{s:Shared}{x:V}{v:Value}(rx:RelV x v)(fx:dm x=true):∀ {xs:List V} {us:List Value},Vals xs us->xs.all dm=true->∀ u∈us,SeqAt.EqAt A s u v (eqU x u)
 | _,_,.nil,_=>fun u hu=>by cases hu
 | y::xs,u::us,.cons r t,f=>fun u' hu=>by
  rw[List.all_cons,and_eq_true]at f
  rcases mem_cons.mp hu with rfl|hu
  ·rw[Gb r f.1];exact Mx r rx f.1 fx
  ·exact nu rx fx t f.2 u' hu
def inV(x:V)(xs:List V):Bool:=xs.any fun y=>eqV y x
def rIn(K:Frag)(neg:Bool):R2:=fun x y H Q=>∃ p xs,y=.ref p/\(SqL K H p xs\/SqT K H p xs)/\dm x=true/\xs.all dm=true/\Q (.bl (if neg then !inV x xs else inV x xs)) H
theorem ou:OpR X (compareOp .In) (rIn X.K false):=by
 intro pins s σ H x y v u Q I rx ry h
 obtain⟨p,xs,rfl,hq,fx,fs,q⟩:=h
 cases ry
 rcases hq with hq|hq
 ·obtain⟨its,r,pl,hz⟩:=I.list hq
  refine SeqAt.in_listAt (eqU x) pl.isList (fun w hw=>nu rx fx r fs w (by simpa using hw)) ⟨.bl _,H,I,rfl,?_⟩
  rw[show its.toArray.any (eqU x)=its.any (eqU x)by simp,qT r fs]
  exact q
 ·obtain⟨its,r,pl,hz⟩:=I.tuple hq
  refine SeqAt.in_tupleAt (eqU x) pl (fun w hw=>nu rx fx r fs w (by simpa using hw)) ⟨.bl _,H,I,rfl,?_⟩
  rw[show its.toArray.any (eqU x)=its.any (eqU x)by simp,qT r fs]
  exact q
theorem fU:OpR X (compareOp .NotIn) (rIn X.K true):=by
 intro pins s σ H x y v u Q I rx ry h
 obtain⟨p,xs,rfl,hq,fx,fs,q⟩:=h
 cases ry
 rcases hq with hq|hq
 ·obtain⟨its,r,pl,hz⟩:=I.list hq
  refine SeqAt.notIn_listAt (eqU x) pl.isList (fun w hw=>nu rx fx r fs w (by simpa using hw)) ⟨.bl _,H,I,rfl,?_⟩
  rw[show its.toArray.any (eqU x)=its.any (eqU x)by simp,qT r fs]
  exact q
 ·obtain⟨its,r,pl,hz⟩:=I.tuple hq
  refine SeqAt.notIn_tupleAt (eqU x) pl (fun w hw=>nu rx fx r fs w (by simpa using hw)) ⟨.bl _,H,I,rfl,?_⟩
  rw[show its.toArray.any (eqU x)=its.any (eqU x)by simp,qT r fs]
  exact q
theorem aW:mD X (.builtin "len") (fun xs H Q=>∃ p ys,xs=[.ref p]/\(SqL X.K H p ys\/SqT X.K H p ys)/\Q (.int ys.length) H):=by
 intro pins s σ H xs us Q I r h
 obtain⟨p,ys,rfl,hq,q⟩:=h
 obtain⟨u,rfl,rx⟩:=vals1 r
 cases rx
 have hn:=xx
 rcases hq with hq|hq
 ·obtain⟨its,r',pl,hz⟩:=I.list hq
  have hlen:=r'.length
  exact Calls.call_len_list pl.isList (by simp only[size_toArray] <;> omega) ⟨.int ys.length,H,I.tok _,⟨s.toks+1,by rw[size_toArray,hlen]⟩,q⟩
 ·obtain⟨its,r',pl,hz⟩:=I.tuple hq
  have hlen:=r'.length
  exact len_tuple pl (by simp only[size_toArray] <;> omega) ⟨.int ys.length,H,I.tok _,⟨s.toks+1,by rw[size_toArray,hlen]⟩,q⟩
theorem dD:mD X (.type "list") (fun xs H Q=>∃ p ys,xs=[.ref p]/\(SqL X.K H p ys\/SqT X.K H p ys)/\∀ l,H l=none->Q (.ref l) (upd H l (.lst ys))):=by
 intro pins s σ H xs us Q I r h
 obtain⟨p,ys,rfl,hq,q⟩:=h
 obtain⟨u,rfl,rx⟩:=vals1 r
 cases rx
 have fin:∀ (its:List Value),Vals ys its->ys.length<=sizeLine->∀ (h':Heap) (c':Nat),(∀ b o',s.heap.get? b=some o'->h'.get? b=some o') ->
   h'.get? s.heap.objs.size=some {cls:=.type "list",dict:=none,data:=.seq its.toArray c',slots:=#[]}->EP X pins σ Q (.ref s.heap.objs.size) {s with heap:=h'}:=fun its r' hz h' c' kp e =>
  ⟨.ref s.heap.objs.size,_,I.laid (t':=s.toks) kp (le_refl _) (show bD X.prog X.w _ h' _ (.lst ys)from⟨hz,its,c',r',e⟩),rfl,q _ (I.hok.fresh (le_refl _))⟩
 rcases hq with hq|hq
 ·obtain⟨its,r',pl,hz⟩:=I.list hq
  have hlen:=r'.length
  obtain⟨o,ho,hc,n,hd⟩:=pl.isList
  exact call_list_seq p (.inl rfl) ho hc hd (fun h' c' kp e=>fin its r' hz h' c' kp e) (by simp only[size_toArray] <;> omega)
 ·obtain⟨its,r',pl,hz⟩:=I.tuple hq
  have hlen:=r'.length
  obtain⟨o,ho,hc,n,hd⟩:=pl
  exact call_list_seq p (.inr rfl) ho hc hd (fun h' c' kp e=>fin its r' hz h' c' kp e) (by simp only[size_toArray] <;> omega)
theorem vD:mD X (.type "tuple") (fun xs H Q=>∃ p ys,xs=[.ref p]/\((SqL X.K H p ys/\∀ l,H l=none->Q (.ref l) (upd H l (.tup ys)))\/(SqT X.K H p ys/\Q (.ref p) H))):=by
 intro pins s σ H xs us Q I r h
 obtain⟨p,ys,rfl,h⟩:=h
 obtain⟨u,rfl,rx⟩:=vals1 r
 cases rx
 rcases h with⟨hq,q⟩|⟨hq,q⟩
 ·obtain⟨its,r',pl,hz⟩:=I.list hq
  have hlen:=r'.length
  refine call_tuple_list pl.isList (fun h' kp=>?_) (by simp only[size_toArray] <;> omega)
  have I1:Inv X pins σ H {s with heap:=h'}:=I.kept (t':=s.toks) kp
  have I2:Inv X pins σ (upd H h'.objs.size (.tup ys)) {s with heap:=h'.push {cls:=.type "tuple",data:=.seq its.toArray}} :=
   I1.laid (t':=s.toks) (fun b o e=>Heap.get?_push_of_some _ e) (le_refl _) (show bD X.prog X.w _ _ _ (.tup ys)from⟨hz,its,r',IsTup.new _ _⟩)
  exact⟨.ref h'.objs.size,_,I2,rfl,q _ (I1.hok.fresh (le_refl _))⟩
 ·obtain⟨its,r',pl,hz⟩:=I.tuple hq
  exact call_tuple_same pl ⟨.ref p,H,I,rfl,q⟩
def tyV(K:Frag)(T:String)(x:V)(H:Hp):Prop:=match x with
 | .str _=>T = "str"
 | .int _=>T = "int"
 | .ref p=>(T = "list" /\ ∃ xs,SqL K H p xs)\/(T = "tuple" /\ ∃ o,K.lookup p=some o/\o.cls=.type "tuple" /\ o.dict=none) \/
   (T = "dict" /\ ((∃ kvs,H p=some (.dK kvs))\/∃ kvs,H p=some (.dT kvs)))\/(T = "set" /\ ∃ S n,H p=some (.set S n))
 | _=>False
theorem GX{pins:OP}{σ:St}{H:Hp}{s:Shared}{T:String}{x:V}{v:Value}(I:Inv X pins σ H s)(r:RelV x v)(ty:tyV X.K T x H) :
  s.TypeIs v T/\∀ a,v=.ref a->∃ ob,s.heap.get? a=some ob/\ob.dict=none:=by
 cases x with
 | str z =>
  obtain⟨t,rfl⟩:=r
  cases(show T = "str" from ty)
  exact⟨typeIs_str s z t,fun _ e=>nomatch e⟩
 | int i =>
  obtain⟨t,rfl⟩:=r
  cases(show T = "int" from ty)
  exact⟨typeIs_int s i t,fun _ e=>nomatch e⟩
 | ref p =>
  cases r
  rcases ty with⟨rfl,xs,hq⟩|⟨rfl,o,hk,hc,hd⟩|⟨rfl,hk⟩|⟨rfl,S,n,hk⟩
  ·obtain⟨its,_,pl,_⟩:=I.list hq
   refine⟨pl.isList.typeIs,fun a e=>?_⟩
   cases e
   obtain⟨o,n,e,c,hd,_⟩:=pl
   exact⟨o,e,hd⟩
  ·refine⟨⟨o,I.kIn p o hk,hc⟩,fun a e=>?_⟩
   cases e
   exact⟨o,I.kIn _ o hk,hd⟩
  ·have z:∃ o,s.heap.get? p=some o/\o.ExactDict:=by
    rcases hk with⟨kvs,hk⟩|⟨kvs,hk⟩
    ·obtain⟨_,_,_,_,o,_,_,e,ex,_⟩:=I.hok p _ hk
     exact⟨o,e,ex⟩
    ·obtain⟨_,_,_,_,o,_,_,e,ex,_⟩:=I.hok p _ hk
     exact⟨o,e,ex⟩
   obtain⟨o,e,ex⟩:=z
   refine⟨⟨o,e,ex.1⟩,fun a e2=>?_⟩
   cases e2
   exact⟨o,e,ex.2.1⟩
  ·obtain⟨o,_,_,_,e,ex,_⟩:=I.hok p _ hk
   refine⟨⟨o,e,ex.1⟩,fun a e2=>?_⟩
   cases e2
   exact⟨o,e,ex.2.1⟩
 | _=>exact False.elim ty
def S6(K:Frag)(T:String)(r:V->List V->Hp->VK->Prop)(to:TE):TE:=fun σ H Q=>to σ H fun x H1=>tyV K T x H1/\r x [] H1 Q
def tBM(K:Frag)(T:String)(r:V->List V->Hp->VK->Prop)(to:TE)(t:TA):TE:=fun σ H Q=>to σ H fun x H1=>tyV K T x H1/\t σ H1 fun xs H2=>r x xs H2 Q
variable {o e:Expr} {es:List Expr} {to:TE} {t:TA} {name:Str} {apos cpos:Pos} {T id:String} {r:V->List V->Hp->VK->Prop}
theorem BJ(pa:PlainAttrs T)(slot:Slot T name id)(hty:typeOf (.builtin id)=pure (.type "method_descriptor"))(hm:MtR X id r)(ho:PE X o to)
  (hbase:attributeBase o name X.env (eval o X.env)=eval o X.env:=by rfl)(hline:(apos.endLine==cpos.line)=true:=by rfl):PE X (.Call (.Attribute o name apos) [] [] cpos) (S6 X.K T r to):=by
 intro pins s σ H Q I h
 refine wpAny_Call_method0_late hbase hline (thn (ho pins s σ H _ I h) fun v s1 ⟨x,H1,I1,r1,ty,q1⟩=>?_)
 obtain⟨h1,h2⟩:=GX I1 r1 ty
 exact⟨T,id,pa,slot,hty,h1,h2,Calls.callWith_builtin rfl (PySem.evalArgs_none (hm pins s1 σ H1 x [] v [] Q I1 r1 .nil q1))⟩
theorem fW(pa:PlainAttrs T)(slot:Slot T name id)(hty:typeOf (.builtin id)=pure (.type "method_descriptor"))(hm:MtR X id r)(ho:PE X o to)(ha:PA X (e::es) t)
  (hbase:attributeBase o name X.env (eval o X.env)=eval o X.env:=by rfl)
  (hfew:((backTo cpos (starEach (e::es) X.env)).all (fun x=>!x.1)&&(backToKw cpos (keywordEach [] X.env)).all (fun x=>x.1.isSome)
   && decide ((e::es).length+([]:List Keyword).length+(if([]:List Keyword).isEmpty then 0 else 1)<30))=true:=by rfl)
  (hline:(apos.endLine==cpos.line)=true:=by rfl)(hs:starEach (e::es) X.env=(false,eval e X.env)::starEach es X.env:=by rfl)(hplain:(backTo cpos (starEach es X.env)).any (·.1)=false:=by rfl) :
  PE X (.Call (.Attribute o name apos) (e::es) [] cpos) (tBM X.K T r to t):=by
 intro pins s σ H Q I h
 refine wpAny_Call_method_late hbase hfew hline rfl (thn (ho pins s σ H _ I h) fun v s1 ⟨x,H1,I1,r1,ty,q1⟩=>?_)
 obtain⟨h1,h2⟩:=GX I1 r1 ty
 refine⟨T,id,pa,slot,hty,h1,h2,?_⟩
 have hA:=ha cpos pins s1 σ H1 _ I1 q1
 rw[hs]at hA ⊢
 refine Calls.callWith_builtin (by show(false||(backTo cpos (starEach es X.env)).any (·.1))=false;rw[hplain] <;> rfl) (Calls.evalArgs_plain ?_)
 exact thn hA fun us s2 ⟨vs,H2,I2,r2,q2⟩=>hm pins s2 σ H2 x vs v us Q I2 r1 r2 q2
end
def MtM(X:Cx)(id:String)(r:V->List V->Hp->VK->Prop):Prop :=
 ∀ (pins:OP) (s:Shared) (σ:St) (H:Hp) (x:V) (xs:List V) (v:Value) (us:List Value) (Q:VK),Inv X pins σ H s->RelV x v->Vals xs us->r x xs H Q ->
  wpAny (model X.prog X.w) X.A (call (.builtin id) (v::us)) (EP X pins σ Q) X.xe s
theorem Vals.one:∀ {x:V} {us:List Value},Vals [x] us->∃ u,us=[u]/\RelV x u
 | _,_,.cons r .nil=>⟨_,rfl,r⟩
theorem Vals.zero:∀ {us:List Value},Vals [] us->us=[]
 | _,.nil=>rfl
theorem Vals.dropLast {xs:List V} {us:List Value} (h:Vals xs us):Vals xs.dropLast us.dropLast:=by
 induction h with
 | nil=>exact .nil
 | cons r t ih =>
  cases t with
  | nil=>exact .nil
  | cons q t'=>exact .cons r ih
theorem Vals.eraseIdx:∀ {xs:List V} {us:List Value} (i:Nat),Vals xs us->Vals (xs.eraseIdx i) (us.eraseIdx i)
 | _,_,_,.nil=>.nil
 | _,_,0,.cons _ t=>t
 | _,_,i+1,.cons r t=>.cons r (Vals.eraseIdx i t)
theorem Vals.reverse {xs:List V} {us:List Value} (h:Vals xs us):Vals xs.reverse us.reverse:=by
 induction h with
 | nil=>exact .nil
 | cons r t ih=>rw [List.reverse_cons,List.reverse_cons]; exact Vals.append ih (.cons r .nil)
theorem Ar{α:Type}(l:List α):l.eraseIdx (l.length - 1)=l.dropLast:=by
 induction l with
 | nil=>rfl
 | cons a r ih =>
  cases r with
  | nil=>rfl
  | cons b r =>
   have e:(a::b::r).length - 1=((b::r).length - 1)+1:=by
    have h1:(a::b::r).length=r.length+2:=rfl
    have h2:(b::r).length=r.length+1:=rfl
    omega
   rw[e,List.eraseIdx_cons_succ,ih]
   all_goals rfl
theorem vQ{α:Type}:∀ (l:List α) (i:Nat),(l.eraseIdx i).length<=l.length
 | [],_=>le_refl _
 | _::_,0=>le_succ _
 | _::r,i+1=>Nat.succ_le_succ (vQ r i)
section
variable {X:Cx} {pins:OP} {σ:St} {H:Hp} {s:Shared} {l b:Addr} {xs ys zs:List V}
theorem Inv.lset{its its':List Value}{n:Nat}{f:Array Value->Array Value}{t':Nat}(I:Inv X pins σ H s)(hH:H l=some (.lst xs))
  (e:s.heap.get? l=some {cls:=.type "list",data:=.seq its.toArray n})(hf:f its.toArray=its'.toArray)(hv:Vals ys its')(hz:ys.length<=sizeLine) :
  Inv X pins σ (upd H l (.lst ys)) {s with heap:=s.heap.update l (Obj.mapSeq f),toks:=t'}:=by
 have q:=PySem.IsL.update e f
 rw[hf]at q
 refine I.write (x:=l) (e:=l) (by rw[hH];exact trivial) (.inl rfl) (fun b' u hb hu=>(Heap.get?_update_other s.heap (Obj.mapSeq f) (Ne.symm hb)).trans hu) ⟨_,q⟩ ?_
 exact⟨hz,its',_,hv,q⟩
theorem Inv.lnew{its:List Value}{t':Nat}(I:Inv X pins σ H s)(hv:Vals ys its)(hz:ys.length<=sizeLine) :
  Inv X pins σ (upd H s.heap.objs.size (.lst ys)) {s with heap:=s.heap.push {cls:=.type "list",data:=.seq its.toArray},toks:=t'} :=
 I.laid (fun _ _ q=>Heap.get?_push_of_some _ q) (le_refl _) ⟨hz,its,0,hv,Heap.get?_push_size _ rfl⟩
theorem Inv.fresh(I:Inv X pins σ H s):H s.heap.objs.size=none:=I.hok.fresh (le_refl _)
theorem Inv.lstM(I:Inv X pins σ H s)(hH:H l=some (.lst xs)):xs.length<=sizeLine/\∃ (its:List Value) (n:Nat),Vals xs its/\xs.length=its.length/\s.heap.get? l=some {cls:=.type "list",data:=.seq its.toArray n}:=by
 obtain⟨z,its,n,r,e⟩:=I.hok l _ hH
 exact⟨z,its,n,r,r.length,e⟩
theorem Gw{n:Nat}(h:n<=sizeLine):Builtin.List.listTooLong n=false:=by
 unfold Builtin.List.listTooLong
 exact decide_eq_false Z1
end
section
variable {X:Cx}
def Ka:V->List V->Hp->VK->Prop:=fun x vs H Q=>∃ l xs y,x=.ref l/\vs=[y]/\H l=some (.lst xs)/\xs.length<sizeLine/\Q .non (upd H l (.lst (xs++[y])))
theorem jV:MtM X "list.append" Ka:=by
 intro pins s σ H x vs v us Q I rx rv h
 obtain⟨l,xs,y,rfl,rfl,hH,hz,q⟩:=h
 cases rx
 obtain⟨u,rfl,ru⟩:=rv.one
 obtain⟨z,its,n,r,hl,e⟩:=I.lstM hH
 refine call_meets F.slot_list_append ⟨_,e,rfl⟩ F.entry_list_append (F.args_list_append_2 _ _) (list_append l its.toArray n u (by rw[size_toArray];omega)) ⟨e,?_⟩
 refine⟨.non,_,I.lset (its':=its++[u]) hH e Z2 (r.append (.cons ru .nil)) ?_,rfl,q⟩
 rw[length_append,length_singleton]
 omega
def Jz:V->List V->Hp->VK->Prop:=fun x vs H Q=>∃ l b xs zs,x=.ref l/\vs=[.ref b]/\H l=some (.lst xs)/\H b=some (.lst zs)/\xs.length+zs.length<=sizeLine/\Q .non (upd H l (.lst (xs++zs)))
theorem rJ:MtM X "list.extend" Jz:=by
 intro pins s σ H x vs v us Q I rx rv h
 obtain⟨l,b,xs,zs,rfl,rfl,hH,hB,hz,q⟩:=h
 cases rx
 obtain⟨u,rfl,ru⟩:=rv.one
 cases ru
 obtain⟨z,its,n,r,hl,e⟩:=I.lstM hH
 obtain⟨z2,its2,n2,r2,hl2,e2⟩:=I.lstM hB
 have hsz:its.toArray.size+its2.toArray.size<=sizeLine:=by rw[size_toArray,size_toArray];omega
 have hlong:¬(!its.toArray.isEmpty&&Builtin.List.listTooLong (its.toArray.size+its2.toArray.size))=true:=by
  rw[Gw hsz,Bool.and_false]
  exact Bool.false_ne_true
 refine call_meets F.slot_list_extend ⟨_,e,rfl⟩ F.entry_list_extend (F.args_list_extend_2 _ _)
  (AutoSeq1.list_extend_list_list_0 l its.toArray n b its2.toArray n2 hlong (by rw[size_toArray];omega) Z1) ⟨e,e2,?_⟩
 refine⟨.non,_,I.lset (its':=its++its2) hH e Z2 (r.append r2) ?_,rfl,q⟩
 rw[length_append]
 omega
def Sw:V->List V->Hp->VK->Prop:=fun x vs H Q=>∃ l xs y,x=.ref l/\vs=[]/\H l=some (.lst xs)/\xs[xs.length - 1]? = some y/\Q y (upd H l (.lst xs.dropLast))
theorem M3:MtM X "list.pop" Sw:=by
 intro pins s σ H x vs v us Q I rx rv h
 obtain⟨l,xs,y,rfl,rfl,hH,hy,q⟩:=h
 cases rx
 have hus:=rv.zero
 subst hus
 obtain⟨z,its,n,r,hl,e⟩:=I.lstM hH
 obtain⟨u,hu,ru⟩:=r.get hy
 have hy':its.toArray[its.toArray.size - 1]? = some u:=by
  show its.toArray[its.length - 1]? = some u
  rw[<- getElem?_toList,<- hl]
  exact hu
 refine call_meets F.slot_list_pop ⟨_,e,rfl⟩ F.entry_list_pop (F.args_list_pop_1 _) (MeetsSeq.list_pop_last l its.toArray n u hy' (by rw[size_toArray];omega)) ⟨e,?_⟩
 refine⟨y,_,I.lset (its':=its.dropLast) hH e ?_ r.dropLast ?_,ru,q⟩
 ·show its.toArray.eraseIdxIfInBounds (its.toArray.size - 1)=its.dropLast.toArray
  rw[size_toArray,List.eraseIdxIfInBounds_toArray,Ar]
 ·rw[List.length_dropLast]
  omega
def MN:V->List V->Hp->VK->Prop:=fun x vs H Q=>∃ l xs i k y,x=.ref l/\vs=[.int i]/\H l=some (.lst xs) /\ -(2 ^ 63)<=i/\i<2 ^ 63/\seqIndex? i xs.length=some k/\xs[k]? = some y/\Q y (upd H l (.lst (xs.eraseIdx k)))
theorem G5:MtM X "list.pop" MN:=by
 intro pins s σ H x vs v us Q I rx rv h
 obtain⟨l,xs,i,k,y,rfl,rfl,hH,h1,h2,hk,hy,q⟩:=h
 cases rx
 obtain⟨u,rfl,ru⟩:=rv.one
 obtain⟨t,rfl⟩:=ru
 obtain⟨z,its,n,r,hl,e⟩:=I.lstM hH
 obtain⟨w,hw,rw'⟩:=r.get hy
 refine call_meets F.slot_list_pop ⟨_,e,rfl⟩ F.entry_list_pop (F.args_list_pop_2 _ _)
  (MeetsSeq.list_pop_at l its.toArray n i t k w (fitsIndex_both h1 h2) (by rw[size_toArray,<- hl];exact hk) (by rw[<- getElem?_toList];exact hw) (by rw[size_toArray];omega)) ⟨e,?_⟩
 refine⟨y,_,I.lset (its':=its.eraseIdx k) hH e ?_ (r.eraseIdx k) ?_,rw',q⟩
 ·show its.toArray.eraseIdxIfInBounds k=(its.eraseIdx k).toArray
  rw[List.eraseIdxIfInBounds_toArray]
 ·have:=vQ xs k
  omega
def Gu:V->List V->Hp->VK->Prop:=fun x vs H Q=>∃ l xs,x=.ref l/\vs=[]/\H l=some (.lst xs)/\Q .non (upd H l (.lst xs.reverse))
theorem By:MtM X "list.reverse" Gu:=by
 intro pins s σ H x vs v us Q I rx rv h
 obtain⟨l,xs,rfl,rfl,hH,q⟩:=h
 cases rx
 have hus:=rv.zero
 subst hus
 obtain⟨z,its,n,r,hl,e⟩:=I.lstM hH
 refine call_meets F.slot_list_reverse ⟨_,e,rfl⟩ F.entry_list_reverse (F.args_list_reverse_1 _) (AutoSeq1.list_reverse_list_0 l its.toArray n (by rw[size_toArray];omega)) ⟨e,?_⟩
 refine⟨.non,_,I.lset (its':=its.reverse) hH e Z2 r.reverse ?_,rfl,q⟩
 rw[List.length_reverse]
 omega
def Su:R2:=fun x y H Q=>∃ l b xs zs,x=.ref l/\y=.ref b/\H l=some (.lst xs)/\H b=some (.lst zs)/\xs.length+zs.length<=sizeLine/\∀ p,H p=none->Q (.ref p) (upd H p (.lst (xs++zs)))
theorem lN:OpR X (binaryOp .Add) Su:=by
 intro pins s σ H x y v u Q I rx ry h
 obtain⟨l,b,xs,zs,rfl,rfl,hH,hB,hz,q⟩:=h
 cases rx
 cases ry
 obtain⟨z,its,n,r,hl,e⟩:=I.lstM hH
 obtain⟨z2,its2,n2,r2,hl2,e2⟩:=I.lstM hB
 refine PySem.P.add_list e e2 ?_ (by rw[size_toArray,size_toArray];omega)
 have ea:its.toArray++its2.toArray=(its++its2).toArray:=by simp
 rw[ea]
 exact⟨.ref _,_,I.lnew (t':=s.toks) (r.append r2) (by rw[length_append];omega),rfl,q _ I.fresh⟩
end
section
variable {prog:Program} {w:World} {A:Around} {E:EV} {s:Shared}
end
section
variable {X:Cx}
end
end L2
namespace Att
open PySem PySem.W PySem.Calls PyProof.Rows
theorem rT {P:Params} {h:Heap}:∀ (ns:List Int) (vs:List Value),WellAll P h vs (ns.map WData.int) -> IntsAre vs ns:=by
 intro ns
 induction ns with
 | nil =>
  intro vs w
  rw [map_nil] at w
  cases w
  exact .nil
 | cons n ns ih =>
  intro vs w
  rw [map_cons] at w
  cases w with
  | cons a b =>
   cases a
   exact .cons _ _ (ih _ b)
theorem Ex{l:OpenLaw}{n:Nat}(hn:l.most=some n){P:Params}{h:Heap}{args:List WData}{vals:List Value}
  (hpre:l.row.toRowW.claim.pre args=true)(hwl:WellAll P h vals args) :
  ∃ a vs ns,vals=[Value.ref a]/\args=[WData.list (ns.map WData.int)]/\h.get? a=some {cls:=.type "list",data:=.seq vs.toArray}/\IntsAre vs ns/\ns.length<=n:=by
 have hsh:WShape.hasAll [] args [.list .int]=true:=(pre_splitW hpre).1
 have hc:l.pre.holds [] {args:=args}=true:=(pre_splitW hpre).2
 obtain⟨d,r,rfl,h1,h2⟩:=hasAllW_cons hsh
 obtain rfl:=hasAllW_nil h2
 obtain⟨xs,rfl,h3⟩:=hasW_list h1
 obtain⟨ns,rfl⟩:=items_int h3
 have hlen:ns.length<=n:=by
  unfold OpenLaw.pre at hc
  have h4:(WTm.not (.lt (.lit (.int (n:Int))) (.len (.arg 0)))).holds [] {args:=[.list (ns.map .int)]}=true:=by
   have h4:=(holds_andW hc).1
   rw[hn]at h4
   exact h4
  have h5:=condW_of h4 (w_not (w_lt w_lit (w_len_list (w_arg rfl))))
  rw[length_map]at h5
  refine Nat.le_of_not_lt fun q=>?_
  have q':(n:Int)<((ns.length:Nat):Int):=by omega
  first
   | (rw[decide_eq_true q']at h5;exact absurd h5 Z0)
   | (simp at h5;omega)
 cases hwl with
 | cons w1 w2 =>
  cases w2
  cases w1 with
  | list ho hall=>exact⟨_,_,ns,rfl,rfl,ho,rT ns _ hall,hlen⟩
theorem Fl(l:OpenLaw)(args:List WData):l.row.toRowW.claim.post args (.bool true) args=true :=
 postW_of (r:=l.row.toRowW) (X:=(true==true))
  (show WShape.has [] (.bool true) .bool=true by first|rfl|decide|simp[WShape.has,WShape.arms,WShape.armsAll])
  (show(WTm.eq .res (.lit (.bool true))).value [] {args:=args,res:=some (.bool true),after:=args}=some (.bool (true==true))from w_eq_bool (w_res rfl) w_lit) rfl
theorem attach_call {l:OpenLaw} {n:Nat} {q:Program} {loose:List Str} {XP:(Str->Option Value)->Heap->Prop} {YP:World->Heap->Prop} {d:DefRec}
  (hn:l.most=some n) (hdf:d.params.defaults=[])
  (call:∀ (w:World) (s₀ s₁:Shared) (mg mb:MG) (fa:Addr) (o:Obj) (pm cd doc:Value) (a:Addr) (vs:List Value) (ns:List Int),
   Ground q loose [] XP w s₀ mg mb s₁.heap->YP w s₁.heap ->
   s₁.heap.get? fa=some o->o.data=.func (docDef d.name d.params d.body d.scope pm cd doc)->s₁.heap.CodeRec cd d.name->mg d.name=some (.ref fa) ->
   s₁.heap.get? a=some {cls:=.type "list",data:=.seq vs.toArray}->IntsAre vs ns->ns.length<=n->s₁.gens = #[] ->
   codeAny (model l.prog w) callerA (.call (.ref fa) ⟨[.ref a],[]⟩) (fun r s'=>r=.ok (.ret (.bool true))/\OldK s₁.heap s'.heap/\s'.os=s₁.os/\AllBare s'.gens) s₁) :
  WalkO q loose XP YP l.row.toRowW d [] (fun f vs=>PySem.call f vs):=by
 intro w s₀ s₁ mg mb G Y fa o pm cd doc dV kV ho hd hcd hD hmg hg args vals as hpre hlay hrd hwl hlo
 obtain rfl:dV=.none:=Dflts.none hD hdf
 obtain rfl:kV=.none:=Dflts.noKw hD
 obtain⟨a,vs,ns,rfl,rfl,hobj,hints,hlen⟩:=Ex hn hpre hwl
 refine enter_call (codeAny_mono (call w s₀ s₁ mg mb fa o pm cd doc a vs ns G Y ho (fd_plain hd) hcd hmg hobj hints hlen hg) fun r s' hq=>?_)
 obtain⟨rfl,h2,h3,h4⟩:=hq
 exact⟨.inl ⟨.bool true,.bool true,[],rfl,fun _=>rfl,.bool true,Fl l _,fun _=>⟨List.Pairwise.nil,fun _ hm=>(nomatch hm)⟩⟩,h2,h3,h4⟩
section
variable {prog:Program} {w:World} {A:Around} {E:EV} {s:Shared} {K:Frag}
end
end Att
namespace L2
open PySem PySem.Spec PyProof.Rows
theorem wj:∀ {vs:List Value} {ns:List Int},IntsAre vs ns->Vals (ns.map V.int) vs
 | _,_,.nil=>.nil
 | _,_,.cons n t h=>.cons ⟨t,rfl⟩ (wj h)
def Only(H:Hp):Prop:=∀ b,H b=none\/∃ o xs,H b=some (.frz o (.lst xs))
theorem Jo {P:Program} {w:World} {K:Frag} {mg mb:MG} {CX:CXT} {k:Nat} {fa a:Addr} {fd:FuncData} {x:Str} {sp:Sp} {s₁:Shared} {vs:List Value} {ns:List Int}
  (KX:K.In s₁.heap) (hns:s₁.heap.Ns mainGlobals mg) (hb:s₁.heap.Ns builtinsNs mb) (hbb:∀ x:Str,x ≠ "__name__" -> mb x = bootBuiltins x) (hlim:s₁.heap.NoLimit) (hg:s₁.gens = #[])
  (ha:s₁.heap.get? a = some { cls:=.type "list",data:=.seq vs.toArray }) (hi:IntsAre vs ns) (hl:ns.length <= sizeLine) (hr:aP k callerA)
  (F:∀ base:Heap,K.In base -> base.Ns mainGlobals mg -> aK P w K mg base CX k fa fd [x] sp) (hbind:∀ (s:Shared) (u:Value),BindsTo s fd ⟨[u],[]⟩ [(x,u)])
  (hsp:∀ H:Hp,Only H -> SqL K H a (ns.map V.int) -> sp [.ref a] H (fun v _=>v = .bl true) fun _ _ _=>False)
  (hCX:∀ H e s',CX [] H s₁ (fun _ _ _=>False) e s' -> False) :
  codeAny (model P w) callerA (.call (.ref fa) ⟨[.ref a],[]⟩) (fun r s'=>r = .ok (.ret (.bool true)) /\ OldK s₁.heap s'.heap /\ s'.os = s₁.os /\ AllBare s'.gens) s₁:=by
 have rv:=wj hi
 have lenV:=hi.length
 have core:∀ H:Hp,Only H -> SqL K H a (ns.map V.int) -> HOk P w H s₁.heap -> (∀ b,H b ≠ none -> b = a) -> (H a ≠ none -> K.lookup a = none) ->
   codeAny (model P w) callerA (.call (.ref fa) ⟨[.ref a],[]⟩) (fun r s'=>r = .ok (.ret (.bool true)) /\ OldK s₁.heap s'.heap /\ s'.os = s₁.os /\ AllBare s'.gens) s₁:=by
  intro H hO hS hok hA hK
  have base_of:∀ {b:Addr} {o:Obj},s₁.heap.get? b = some o -> H b = none -> (wJ s₁.heap H).get? b = some o:=fun e n=>Gi e n
  have noA:∀ {b:Addr} {o:Obj} {es:Array DictEntry} {ep:Nat},s₁.heap.get? b = some o -> o.data = .dict es ep -> H b = none:=fun {b o es ep} e d=>by
   cases q:H b with
   | none=>rfl
   | some u =>
    have e':b = a:=hA b (by rw [q]; simp)
    subst e'
    rw [ha] at e; cases e
    have d':Data.seq vs.toArray _ = Data.dict es ep:=d
    cases d'
  have nsK:∀ {b:Addr} {m:MG},s₁.heap.Ns b m -> (wJ s₁.heap H).Ns b m:=fun {b m} ⟨o,es,ep,e,d,r⟩=>⟨o,es,ep,base_of e (noA e d),d,r⟩
  have hKb:K.In (wJ s₁.heap H):=fun b o e=>base_of (KX b o e) (by
   cases q:H b with
   | none=>rfl
   | some u =>
    have e':b = a:=hA b (by rw [q]; simp)
    subst e'
    rw [hK (by rw [q]; simp)] at e; cases e)
  have hM:Mod K mg (wJ s₁.heap H):=⟨hKb,nsK hns,⟨mb,nsK hb,hbb⟩,let ⟨mc,h1,h2⟩:=hlim; ⟨mc,nsK h1,h2⟩⟩
  have e0:zZ P w K mg (wJ s₁.heap H) callerA [] s₁ H:=⟨rfl,hM,fun b o e=>Ky e,le_of_eq (Fe _ _),trivial,fun b hb=>absurd (show b ∈ ([]:List Addr) from hb) Z2,hok,.of_eq hg⟩
  refine codeAny_mono ((F _ hKb (nsK hns)).run callerA [] s₁ H ⟨[.ref a],[]⟩ [.ref a] [.ref a] _ _ hr e0 (hbind s₁ (.ref a)) (.cons rfl .nil) (hsp H hO hS)) fun r s' h=>?_
  cases r with
  | error e=>exact (hCX H e s' h).elim
  | ok fl =>
   cases fl with
   | next=>exact False.elim h
   | brk=>exact False.elim h
   | cont=>exact False.elim h
   | ret u =>
    obtain ⟨v,H',os,bare,un,hok',r',q⟩:=h
    have q':v = .bl true:=q
    subst q'
    obtain rfl:u = Value.bool true:=r'
    refine ⟨rfl,OldK.of_keep fun b o e=>?_,os,bare⟩
    cases q:H b with
    | none=>exact un.keep b o e q (by intro z; exact absurd (show b ∈ ([]:List Addr) from z) Z2) Z2
    | some u =>
     rcases hO b with z | ⟨ob,xs,z⟩
     ·rw [q] at z; cases z
     ·have z2:=un.frzs b ob _ z
      obtain ⟨e1,_⟩:=hok b _ z
      obtain ⟨e2,_⟩:=hok' b _ z2
      rw [e] at e1; cases e1
      exact e2
 cases hk:K.lookup a with
 | some o =>
  have e:=KX a o hk
  rw [ha] at e
  cases e
  refine core (fun _=>none) (fun _=>.inl rfl) (.inr ⟨_,vs.toArray,_,hk,rfl,rfl,rfl,by rw [size_toArray,lenV]; exact hl,by simpa using rv⟩) (fun b u z=>by have z':(none:Option HO) = some u:=z; cases z') (fun b z=>absurd rfl z) fun z=>absurd rfl z
 | none =>
  refine core (fun b=>if b = a then some (.frz { cls:=.type "list",data:=.seq vs.toArray } (.lst (ns.map V.int))) else none) (fun b=>?_) (.inl (.inr ⟨{ cls:=.type "list",data:=.seq vs.toArray },if_pos rfl⟩)) (fun b u z=>?_) (fun b z=>?_) fun _=>hk
  ·by_cases hb:b = a
   ·exact .inr ⟨_,_,if_pos hb⟩
   ·exact .inl (if_neg hb)
  ·by_cases hb:b = a
   ·have z':=(if_pos hb).symm.trans z
    cases z'
    subst hb
    exact ⟨ha,by rw [length_map]; exact hl,vs,_,rv,ha⟩
   ·have z':=(if_neg hb).symm.trans z
    cases z'
  ·by_cases hb:b = a
   ·exact hb
   ·exact absurd (if_neg hb) z
theorem J0 {l:OpenLaw} {n k:Nat} {q:Program} {loose:List Str} {XP:(Str->Option Value)->Heap->Prop} {YP:World->Heap->Prop} {d:DefRec} {K:Params->Frag} {CX:World->CXT} {sp:World->Sp} {x:Str}
  (hn:l.most=some n) (hn2:n<=sizeLine) (hdf:d.params.defaults=[]) (hr:aP k callerA)
  (hY:∀ (w:World) (h:Heap),YP w h->(K w.params).In h)
  (F:∀ (w:World) (mg:MG) (fa:Addr) (h:Heap),(K w.params).In h->h.Ns mainGlobals mg->mg d.name=some (.ref fa) ->
   ∃ fd:FuncData,(∀ (s:Shared) (u:Value),BindsTo s fd ⟨[u],[]⟩ [(x,u)]) /\
    ∀ base:Heap,(K w.params).In base->base.Ns mainGlobals mg->aK l.prog w (K w.params) mg base (CX w) k fa fd [x] (sp w))
  (hsp:∀ (w:World) (H:Hp) (a:Addr) (ns:List Int),ns.length<=n->Only H->SqL (K w.params) H a (ns.map V.int)->sp w [.ref a] H (fun v _=>v=.bl true) fun _ _ _=>False)
  (hCX:∀ (w:World) (H:Hp) (s:Shared) (e:Value) (s':Shared),CX w [] H s (fun _ _ _=>False) e s'->False) :
  WalkO q loose XP YP l.row.toRowW d [] (fun f vs=>PySem.call f vs):=by
 refine Att.attach_call hn hdf fun w s₀ s₁ mg mb fa o pm cd doc a vs ns G Y ho hd hcd hmg hobj hints hlen hg=>?_
 have KX:=hY w _ Y
 obtain⟨fd,hb,hF⟩:=F w mg fa _ KX G.T.g hmg
 exact Jo KX G.T.g G.T.b G.T.builtins G.T.nolimit hg hobj hints (le_trans hlen hn2) hr hF hb (fun H hO hS=>hsp w H a ns hlen hO hS) fun H e s'=>hCX w H s₁ e s'
def cY(s:Stmt):Arguments:=match s with
 | .FunctionDef _ a _ _ _ _ _ _ _ _=>a
 | _=>{posonlyargs:=[],args:=[],vararg:=none,kwonlyargs:=[],kw_defaults:=[],kwarg:=none,defaults:=[]}
def b7(s:Stmt):List Stmt:=match s with
 | .FunctionDef _ _ b _ _ _ _ _ _ _=>b
 | _=>[]
def aC(s:Stmt):Scope:=match s with
 | .FunctionDef _ _ _ _ _ _ sc _ _ _=>sc
 | _=>{kind:=.function,names:=[],isGenerator:=false,isCoroutine:=false}
abbrev CX0:CXT:=fun _ _ _ _ _ _=>False
abbrev E0:XK:=fun _ _ _=>False
theorem nP{X:Cx}:jN CX0 X E0:=fun _ _ _ _ _ _ _ h=>h.elim
structure Fun(K:Frag)(x qual:Str)(st:Stmt)(f:Addr)(fd:FuncData):Prop where
 ex:∃ (oc:Value) (od:Option Addr) (kV doc pm:Value) (an:Option Addr) (cdv ct:Value) (osl:Array (Option Value)),
  fd=fnOf x qual (cY st) (b7 st) (aC st) .none kV doc pm an cdv ct/\K.lookup f=some ⟨oc,od,.func fd,osl⟩/\codeIn K cdv qual=true
 kp:keepIn K (.ref f)=true
section
variable {P:Program} {w:World} {K:Frag} {mg:MG} {base:Heap}
theorem Fun.ok {x qual:Str} {st:Stmt} {f:Addr} {fd:FuncData} {N ps:List Str} {k:Nat} {sp:Sp} (F:Fun K x qual st f fd) (S:aJ N ps (aC st)) (len:∀ vs H Q E,sp vs H Q E->vs.length=ps.length)
  (hbody:∀ (cdv:Value) (A:Around) (outer:List Env) (s:Shared) (H:Hp) (vs:List V) (Q:VK) (E:XK),aP k (A.deeper (envOfC qual (aC st) s.heap.objs.size f cdv))->sp vs H Q E ->
   ∃ t,PSs (pO CX0 P w K mg base N qual (aC st) f cdv A outer s H E).nox (b7 st) t/\t {nx:=fun _ H'=>Q .non H',rt:=Q} (start N vs) H):aK P w K mg base CX0 (k+1) f fd ps sp:=by
 obtain⟨oc,od,kV,doc,pm,an,cdv,ct,osl,rfl,lk,hcd⟩:=F.ex
 refine K3 lk hcd S len fun A outer s H vs Q E hr hsp=>?_
 obtain⟨t,h,q⟩:=hbody cdv A outer s H vs Q E hr hsp
 exact⟨t,h.nox,q⟩
theorem Fun.binds {x qual:Str} {st:Stmt} {f:Addr} {fd:FuncData} {ps:List Str} (F:Fun K x qual st f fd)
  (h:∀ (kV doc pm:Value) (an:Option Addr) (cdv ct:Value) (us:List Value),us.length = ps.length -> bindArgs (fnOf x qual (cY st) (b7 st) (aC st) .none kV doc pm an cdv ct) ⟨us,[]⟩ = pure (ps.zip us)):Binds K fd ps []:=by
 obtain ⟨oc,od,kV,doc,pm,an,cdv,ct,osl,rfl,lk,hcd⟩:=F.ex
 exact .all (h kV doc pm an cdv ct)
theorem Hc {x qual:Str} {st:Stmt} {f:Addr} {oc:Value} {od an:Option Addr} {osl:Array (Option Value)} {kV doc pm cdv ct:Value} (l:K.lookup f=some ⟨oc,od,.func (fnOf x qual (cY st) (b7 st) (aC st) .none kV doc pm an cdv ct),osl⟩)
  (c:codeIn K cdv qual=true) (k:keepIn K (.ref f)=true):Fun K x qual st f (fnOf x qual (cY st) (b7 st) (aC st) .none kV doc pm an cdv ct):=⟨⟨oc,od,kV,doc,pm,an,cdv,ct,osl,rfl,l,c⟩,k⟩
end
section
variable {X:Cx}
theorem pv(i:Nat){x:Str}{pos:Pos}(hN:X.N[i]? = some x:=by rfl)(hv:Vis X.env.scope x:=by first|exact Or.inl rfl|exact Or.inr (Or.inl rfl)|exact Or.inr (Or.inr rfl))(hd:(x==("__debug__" : Str))=false:=by decide)
  (hcd:(x==("__classdict__" : Str))=false:=by decide):PE X (.Name x pos) (Pq i):=Ml hN hv hd hcd
end
theorem oO{A B:Prop}(h:B):if false=true then A else B:=by
 rw[if_neg Bool.false_ne_true]
 exact h
theorem Om{A B:Prop}(h:A):if true=true then A else B:=by
 rw[if_pos rfl]
 exact h
def az(H H':Hp):Prop:=∀ b o,H b=some o->H' b=some o
theorem az.refl(H:Hp):az H H:=fun _ _ h=>h
theorem az.trans{H H1 H2:Hp}(a:az H H1)(b:az H1 H2):az H H2:=fun c o h=>b c o (a c o h)
theorem az.free{H H':Hp}(e:az H H'){l:Addr}(h:H' l=Option.none):H l=Option.none:=by
 cases q:H l with
 | none=>rfl
 | some o =>
  rw[e l o q]at h
  cases h
theorem az.seq {K:Frag} {H H':Hp} {a:Addr} {xs:List V} (e:az H H') (h:SqL K H a xs):SqL K H' a xs:=by
 rcases h with (h | ⟨o,h⟩) | h
 ·exact .inl (.inl (e _ _ h))
 ·exact .inl (.inr ⟨o,e _ _ h⟩)
 ·exact .inr h
section
variable {κ:Type} [DecidableEq κ]
def fP(kvs:List (κ×V))(k:κ):Option V:=(kvs.find? fun kv=>decide (kv.1=k)).map (·.2)
def putK(kvs:List (κ×V))(k:κ)(v:V):List (κ×V) :=
 if(kvs.any fun kv=>decide (kv.1=k))=true then kvs.map (fun kv=>if kv.1=k then(kv.1,v)else kv)else kvs++[(k,v)]
theorem du{p:κ×V}{r:List (κ×V)}{k:κ}(e:p.1=k):fP (p::r) k=some p.2:=by simp[fP,find?_cons,e]
theorem dC{p:κ×V}{r:List (κ×V)}{k:κ}(e:¬p.1=k):fP (p::r) k=fP r k:=by simp[fP,find?_cons,e]
theorem jW(k:κ):∀ kvs:List (κ×V),(kvs.any fun kv=>decide (kv.1=k))=(fP kvs k).isSome
 | []=>rfl
 | p::r=>by
  rw[any_cons]
  by_cases e:p.1=k
  ·simp only[du e,decide_eq_true e,Bool.true_or,Option.isSome_some]
  ·rw[dC e,decide_eq_false e,Bool.false_or];exact jW k r
theorem zx(k j:κ)(y:V):∀ kvs:List (κ×V),fP (kvs.map fun kv=>if kv.1=k then(kv.1,y)else kv) j=(fP kvs j).map fun x=>if j=k then y else x
 | []=>rfl
 | p::r=>by
  have ih:=zx k j y r
  rw[map_cons]
  by_cases h:p.1=k
  ·rw[if_pos h]
   by_cases e:p.1=j
   ·rw[du (p:=(p.1,y)) e,du e,map_some,if_pos (e.symm.trans h)]
   ·rw[dC (p:=(p.1,y)) e,dC e,ih]
  ·rw[if_neg h]
   by_cases e:p.1=j
   ·rw[du (p:=p) e,du e,map_some,if_neg (fun z=>h (e.trans z))]
   ·rw[dC (p:=p) e,dC e,ih]
theorem wz(k j:κ)(y:V):∀ kvs:List (κ×V),fP kvs k=none->fP (kvs++[(k,y)]) j=if j=k then some y else fP kvs j
 | [],_=>by
  by_cases e:k=j
  ·rw[if_pos e.symm];exact du (p:=(k,y)) e
  ·rw[if_neg (fun z=>e z.symm)];exact dC (p:=(k,y)) e
 | p::r,hn=>by
  rw[List.cons_append]
  have hk:¬p.1=k:=fun z=>by rw[du z]at hn;cases hn
  rw[dC hk]at hn
  have ih:=wz k j y r hn
  by_cases e:p.1=j
  ·rw[du e,du e,if_neg (fun z=>hk (e.trans z))]
  ·rw[dC e,dC e,ih]
theorem qD(kvs:List (κ×V))(k j:κ)(y:V):fP (putK kvs k y) j=if j=k then some y else fP kvs j:=by
 unfold putK
 by_cases a:(kvs.any fun kv=>decide (kv.1=k))=true
 ·rw[if_pos a,zx]
  rw[jW]at a
  by_cases e:j=k
  ·obtain⟨x,hx⟩:=Option.isSome_iff_exists.mp a
   rw[if_pos e,e,hx,map_some,if_pos rfl]
  ·rw[if_neg e]
   cases fP kvs j with
   | none=>rfl
   | some x=>rw[map_some,if_neg e]
 ·rw[if_neg a]
  refine wz k j y kvs ?_
  rw[jW]at a
  cases q:fP kvs k with
  | none=>rfl
  | some x=>rw[q]at a;exact(a rfl).elim
theorem ik(kvs:List (κ×V))(k:κ)(v:V):(putK kvs k v).length<=kvs.length+1:=by
 unfold putK
 split
 ·rw[length_map];omega
 ·rw[length_append,length_cons,length_nil];omega
theorem lJ.isSome_eq{o:Option V}{u:Option Value}(r:lJ o u):o.isSome=u.isSome:=by
 cases o with
 | none=>cases u with
  | none=>rfl
  | some _=>exact(show False from r).elim
 | some _=>cases u with
  | none=>exact(show False from r).elim
  | some _=>rfl
theorem KV.val{kvs:List (κ×V)}{vs:List (κ×Value)}(r:KV kvs vs)(k:κ):lJ (fP kvs k) (valueAt vs k):=by
 unfold KV at r
 induction r with
 | nil=>exact True.intro
 | @cons p q ps qs h t ih =>
  obtain⟨h1,h2⟩:=h
  by_cases e:p.1=k
  ·have e':q.1=k:=h1.symm.trans e
   have b:valueAt (q::qs) k=some q.2:=by simp[valueAt,find?_cons,e']
   rw[du e,b];exact h2
  ·have e':¬q.1=k:=fun z=>e (h1.trans z)
   have b:valueAt (q::qs) k=valueAt qs k:=by simp[valueAt,find?_cons,e']
   rw[dC e,b];exact ih
theorem KV.any{kvs:List (κ×V)}{vs:List (κ×Value)}(r:KV kvs vs)(k:κ):(kvs.any fun kv=>decide (kv.1=k))=vs.any fun kv=>decide (kv.1=k):=by
 unfold KV at r
 induction r with
 | nil=>rfl
 | cons h t ih=>rw[any_cons,any_cons,ih,h.1]
theorem KV.repl {kvs:List (κ × V)} {vs:List (κ × Value)} (r:KV kvs vs) (k:κ) {y:V} {u:Value} (ry:RelV y u) :
  KV (kvs.map fun kv=>if kv.1 = k then (kv.1,y) else kv) (vs.map fun kv=>if kv.1 = k then (kv.1,u) else kv):=by
 unfold KV at r ⊢
 induction r with
 | nil=>exact .nil
 | @cons p q ps qs h t ih =>
  rw [map_cons,map_cons]
  refine .cons ?_ ih
  obtain ⟨h1,h2⟩:=h
  by_cases e:p.1 = k
  ·rw [if_pos e,if_pos (h1.symm.trans e)]; exact ⟨h1,ry⟩
  ·rw [if_neg e,if_neg (fun z=>e (h1.trans z))]; exact ⟨h1,h2⟩
theorem KV.put{kvs:List (κ×V)}{vs:List (κ×Value)}(r:KV kvs vs)(k:κ){y:V}{u:Value}(ry:RelV y u):KV (putK kvs k y) (stored vs k u):=by
 unfold putK stored
 rw[r.any k]
 by_cases e:(vs.any fun kv=>decide (kv.1=k))=true
 ·rw[if_pos e,if_pos e];exact r.repl k ry
 ·rw[if_neg e,if_neg e];exact Paired.snoc r ⟨rfl,ry⟩
theorem KV.length{kvs:List (κ×V)}{vs:List (κ×Value)}(r:KV kvs vs):kvs.length=vs.length:=Paired.length r
end
theorem zQ{P:Program}{w:World}{k:Key}{u:Value}(r:RelV (kV k) u):(bN P w).is k u=true:=by
 cases k with
 | inl i=>obtain⟨t,e⟩:=(show ∃ t,u=Value.int i t from r);subst e;exact zb P w i t
 | inr x=>obtain⟨t,e⟩:=(show ∃ t,u=Value.str x t from r);subst e;exact yN P w x t
theorem vI {P:Program} {w:World}:∀ {ks:List Key} {us:List Value},Vals (ks.map kV) us -> ItemsAre (bN P w) ks us
 | [],_,r=>by rw [map_nil] at r; cases r; exact .nil
 | k :: ks,_,r=>by
  rw [map_cons] at r
  cases r with
  | cons h t=>exact .cons (zQ h) (vI t)
abbrev KT(H:Hp):List (List Key×V)->List (List Key×Addr×Value)->Prop:=Paired fun p q=>p.1=q.1/\H q.2.1=some (.tup (p.1.map kV))/\RelV p.2 q.2.2
theorem KT.val{H:Hp}{kvs:List (List Key×V)}{xs:List (List Key×Addr×Value)}(r:KT H kvs xs)(k:List Key):lJ (fP kvs k) ((atKey xs k).map (·.2)):=by
 induction r with
 | nil=>exact True.intro
 | @cons p q ps qs h t ih =>
  obtain⟨h1,_,h2⟩:=h
  by_cases e:p.1=k
  ·have e':q.1=k:=h1.symm.trans e
   have b:atKey (q::qs) k=some q.2:=by simp[atKey,find?_cons,e']
   rw[du e,b];exact h2
  ·have e':¬q.1=k:=fun z=>e (h1.trans z)
   have b:atKey (q::qs) k=atKey qs k:=by simp[atKey,find?_cons,e']
   rw[dC e,b];exact ih
theorem KT.repl {H:Hp} {kvs:List (List Key × V)} {xs:List (List Key × Addr × Value)} (r:KT H kvs xs) (k:List Key) {y:V} {u:Value} (ry:RelV y u) :
  KT H (kvs.map fun kv=>if kv.1 = k then (kv.1,y) else kv) (xs.map (putAt k u)):=by
 induction r with
 | nil=>exact .nil
 | @cons p q ps qs h t ih =>
  rw [map_cons,map_cons]
  refine .cons ?_ ih
  obtain ⟨h1,h2,h3⟩:=h
  unfold putAt
  by_cases e:p.1 = k
  ·rw [if_pos e,if_pos (h1.symm.trans e)]; exact ⟨h1,h2,ry⟩
  ·rw [if_neg e,if_neg (fun z=>e (h1.trans z))]; exact ⟨h1,h2,h3⟩
theorem KT.put{H:Hp}{kvs:List (List Key×V)}{xs:List (List Key×Addr×Value)}(r:KT H kvs xs)(k:List Key){b:Addr}{y:V}{u:Value}(hb:H b=some (.tup (k.map kV)))(ry:RelV y u) :
  KT H (putK kvs k y) (storedH xs k b u):=by
 have e:(kvs.any fun kv=>decide (kv.1=k))=(atKey xs k).isSome:=by
  rw[jW,(r.val k).isSome_eq,Option.isSome_map]
 unfold putK storedH
 rw[e]
 by_cases q:(atKey xs k).isSome=true
 ·rw[if_pos q,if_pos q];exact r.repl k ry
 ·rw[if_neg q,if_neg q];exact Paired.snoc r ⟨rfl,hb,ry⟩
theorem KT.keeps{H H':Hp}{kvs:List (List Key×V)}{xs:List (List Key×Addr×Value)}(r:KT H kvs xs)(ht:∀ b ys,H b=some (.tup ys)->H' b=some (.tup ys)):KT H' kvs xs :=
 Paired.mapP r fun _ _ z=>⟨z.1,ht _ _ z.2.1,z.2.2⟩
section
variable {P:Program} {w:World} {H:Hp} {h:Heap} {a:Addr}
theorem Ld{u:HO}(ok:HOk P w H h)(e:Rd H a u):bD P w H h a u:=e.ok ok
theorem BV{kvs:List (Key×V)}(ok:HOk P w H h)(e:Rd H a (.dK kvs)):kvs.length<=sizeLine/\(a==sysModules)=false/\∃ vs,KV kvs vs/\h.DictOf (bN P w) a vs :=
 show bD P w H h a (.dK kvs)from Ld ok e
theorem GQ{kvs:List (Key×V)}(ok:HOk P w H h)(e:H a=some (.dK kvs)):kvs.length<=sizeLine/\(a==sysModules)=false/\∃ vs,KV kvs vs/\h.DictOf (bN P w) a vs:=BV ok (.inl e)
theorem xm{ks:List Key}(ok:HOk P w H h)(e:H a=some (.tup (ks.map kV))):(tupleKind (bN P w)).is h ks a:=by
 obtain⟨_,its,r,o,h1,h2,n,h3⟩:=(show bD P w H h a (.tup (ks.map kV))from ok a _ e)
 exact⟨o,its.toArray,n,h1,h2,h3,by simpa using vI r⟩
theorem Cq{kvs:List (List Key×V)}(ok:HOk P w H h)(e:Rd H a (.dT kvs)):kvs.length<=sizeLine/\(a==sysModules)=false /\
  ∃ xs,KT H kvs xs/\h.DictOfH (tupleKind (bN P w)) a xs:=by
 obtain⟨z,y,xs,r,o,es,ep,h1,h2,h3,h4,h5⟩:=(show bD P w H h a (.dT kvs)from Ld ok e)
 refine⟨z,y,xs,r,o,es,ep,h1,h2,h3,h4,fun x hx=>?_,h5⟩
 have all:∀ {l:List (List Key×V)} {m:List (List Key×Addr×Value)},KT H l m->∀ x∈m,(tupleKind (bN P w)).is h x.1 x.2.1:=by
  intro l m q
  induction q with
  | nil=>intro x hx;exact nomatch hx
  | @cons p q ps qs hq t ih =>
   intro x hx
   rcases mem_cons.mp hx with e|hx
   ·subst e
    exact xm ok (by rw[<- hq.1];exact hq.2.1)
   ·exact ih x hx
 exact all r x hx
theorem Pr{kvs:List (List Key×V)}(ok:HOk P w H h)(e:H a=some (.dT kvs)):kvs.length<=sizeLine/\(a==sysModules)=false /\
  ∃ xs,KT H kvs xs/\h.DictOfH (tupleKind (bN P w)) a xs:=Cq ok (.inl e)
end
def mH(H:Hp)(a:Addr)(y:V)(r:Option V):Prop :=
 (∃ kvs k,Rd H a (.dK kvs)/\y=kV k/\r=fP kvs k)\/∃ kvs k b,Rd H a (.dT kvs)/\y=.ref b/\H b=some (.tup (k.map kV))/\r=fP kvs k
def vh(H:Hp)(a:Addr)(y v:V)(H':Hp):Prop :=
 (∃ kvs k,H a=some (.dK kvs)/\y=kV k/\kvs.length<sizeLine/\H'=upd H a (.dK (putK kvs k v))) \/
 ∃ kvs k b,H a=some (.dT kvs)/\y=.ref b/\H b=some (.tup (k.map kV))/\kvs.length<sizeLine/\H'=upd H a (.dT (putK kvs k v))
theorem mH.k{H:Hp}{a:Addr}{kvs:List (Key×V)}{k:Key}(e:H a=some (.dK kvs)):mH H a (kV k) (fP kvs k):=.inl ⟨kvs,k,.inl e,rfl,rfl⟩
theorem vh.k{H:Hp}{a:Addr}{kvs:List (Key×V)}{k:Key}{v:V}(e:H a=some (.dK kvs))(hl:kvs.length<sizeLine):vh H a (kV k) v (upd H a (.dK (putK kvs k v))):=.inl ⟨kvs,k,e,rfl,hl,rfl⟩
section
variable {X:Cx} {pins:OP} {σ:St} {H:Hp} {s:Shared} {a:Addr} {y v:V} {u r:Value} {o:Option V} {A:Around} {E:EV}
theorem Inv.big(I:Inv X pins σ H s):sysModules<s.heap.objs.size:=by
 have h:mainGlobals<s.heap.objs.size:=(I.mod.glob.keeps I.bk).lt
 exact Nat.lt_trans Z0 h
theorem DK{Q:EV}(hu:A.units+1<cLine)(I:Inv X pins σ H s)(g:mH H a y (some v))(ry:RelV y u)(h:∀ w' s',Inv X pins σ H s'->RelV v w'->Q w' s') :
  wpAny (model X.prog X.w) A (getItem (.ref a) u) Q E s:=by
 rcases g with⟨kvs,k,e,ey,l⟩|⟨kvs,k,b,e,ey,eb,l⟩
 ·subst ey
  obtain⟨z,hd,vs,rel,dd⟩:=BV I.hok e
  obtain⟨w',hw,rw'⟩:=lJ.some_of (v:=v) (o:=valueAt vs k) (by rw[l];exact rel.val k)
  exact wpAny_getItem_of (zQ ry) dd.mapOf hw (h w' _ (I.tok _) rw')
 ·subst ey
  cases(show u=Value.ref b from ry)
  obtain⟨z,hd,xs,rel,dd⟩:=Cq I.hok e
  obtain⟨w',hw,rw'⟩:=lJ.some_of (v:=v) (o:=(atKey xs k).map (·.2)) (by rw[l];exact rel.val k)
  obtain⟨p,hp,hp2⟩:=Option.map_eq_some_iff.mp hw
  refine wpAny_getItem_heap (tupleKind_room_in1 hu) (xm I.hok eb) dd hp ?_
  rw[hp2]
  exact h w' _ (I.tok _) rw'
theorem J6{Q:EV}(hu:A.units+1<cLine)(I:Inv X pins σ H s)(g:mH H a y o)(ry:RelV y u)(h:∀ s',Inv X pins σ H s'->Q (.bool (!o.isSome)) s') :
  wpAny (model X.prog X.w) A (compareOp .NotIn u (.ref a)) Q E s:=by
 rcases g with⟨kvs,k,e,ey,l⟩|⟨kvs,k,b,e,ey,eb,l⟩
 ·subst ey
  obtain⟨z,hd,vs,rel,dd⟩:=BV I.hok e
  refine wpAny_notIn_of (zQ ry) hd dd.mapOf ?_
  rw[<- (rel.val k).isSome_eq,<- l]
  exact h _ (I.tok _)
 ·subst ey
  cases(show u=Value.ref b from ry)
  obtain⟨z,hd,xs,rel,dd⟩:=Cq I.hok e
  refine wpAny_notIn_heap (tupleKind_room_in1 hu) (xm I.hok eb) hd dd ?_
  have q:=(rel.val k).isSome_eq
  rw[Option.isSome_map]at q
  rw[<- q,<- l]
  exact h _ (I.tok _)
theorem xM{h':Heap}{t':Nat}{ob:HO}(I:Inv X pins σ H s)(mu:Mut (H a))(hs:Heap.SameBut a s.heap h')(he:∃ q,h'.get? a=some q)(new:bD X.prog X.w (upd H a ob) h' a ob) :
  Inv X pins σ (upd H a ob) {s with heap:=h',toks:=t'} :=
 I.write (x:=a) (e:=a) mu (.inl rfl) (fun b q hb z=>(hs.2 b hb).trans z) he new
theorem Ii{P:Program}{w:World}{H':Hp}{h':Heap}{kvs:List (Key×V)}{vs:List (Key×Value)}(z:kvs.length<=sizeLine)(hd:(a==sysModules)=false)(rel:KV kvs vs)(dd:h'.DictOf (bN P w) a vs) :
  bD P w H' h' a (.dK kvs):=⟨z,hd,vs,rel,dd⟩
theorem Ew{H':Hp}{Q:Unit->Shared->Prop}(hu:A.units+1<cLine)(I:Inv X pins σ H s)(g:vh H a y v H')(ry:RelV y u)(rv:RelV v r)(h:∀ s',Inv X pins σ H' s'->Q () s') :
  wpAny (model X.prog X.w) A (setItem (.ref a) u r) Q E s:=by
 rcases g with⟨kvs,k,e,ey,l,eH⟩|⟨kvs,k,b,e,ey,eb,l,eH⟩
 ·subst ey eH
  obtain⟨z,hd,vs,rel,dd⟩:=GQ I.hok e
  have hz:vs.length<=sizeLine:=by rw[<- rel.length];exact z
  have hl:(putK kvs k v).length<=sizeLine:=by have:=ik kvs k v;omega
  refine wpAny_setItem_pairs (hsz:=hz) (zQ ry) dd fun h' dd' hs=>h _ ?_
  have he:∃ q,h'.get? a=some q:=let⟨q,_,_,hq,_⟩:=dd';⟨q,hq⟩
  exact xM I (by rw[e];exact True.intro) hs he (Ii hl hd (rel.put k rv) dd')
 ·subst ey eH
  cases(show u=Value.ref b from ry)
  obtain⟨z,hd,xs,rel,dd⟩:=Pr I.hok e
  have hz:xs.length<=sizeLine:=by rw[<- Paired.length rel];exact z
  have hl:(putK kvs k v).length<=sizeLine:=by have:=ik kvs k v;omega
  refine wpAny_setItem_heap (hsz:=hz) (tupleKind_room_in1 hu) (xm I.hok eb) dd fun h' dd' hs=>h _ ?_
  obtain⟨q,es,ep,hq,h2,h3,h4,_,h5⟩:=dd'
  refine xM I (by rw[e];exact True.intro) hs ⟨q,hq⟩ ⟨hl,hd,_,(rel.put k eb rv).keeps fun c ys ec=>?_,q,es,ep,hq,h2,h3,h4,h5⟩
  rw[aD (eZ ec e (fun z=>nomatch z))]
  exact ec
end
section
variable {X:Cx} {pins:OP} {σ:St} {H:Hp} {s:Shared} {a:Addr} {kvs:List (Key×V)} {k:Key} {u:Value} {A:Around} {E:EV}
end
def Oi(i:Expr):Prop:=∀ ov iv,subscripted i false ov iv=operate [ov,iv] (getItem ov iv)
theorem Kw {prog:Program} {w:World} {A:Around} {E:EV} {s:Shared} {env:Env} {value slice:Expr} {pos:Pos} {T id:String} {Q:EV}
  (hl:typeLookup (.type T) "__getitem__" = pure (some (.builtin id))) (hs:Oi slice)
  (h:wpAny (model prog w) A (eval value env) (fun o s₁=>wpAny (model prog w) A (eval slice env) (fun i s₂=>s₂.TypeIs o T/\wpAny (model prog w) A (getItem o i) Q E s₂) E s₁) E s) :
  wpAny (model prog w) A (eval (.Subscript value slice pos) env) Q E s:=by
 refine Subscript_ (wpAny_mono h (fun o s₁ h₁=>wpAny_mono h₁ (fun i s₂ h₂=>?_) fun _ _ x=>x) fun _ _ x=>x)
 obtain⟨hT,h₂⟩:=h₂
 unfold subscriptTail
 refine wpAny_bind ?_
 rw[getitemInPython_of_ne hT.not_modules]
 refine wpAny_bind (wpAny_specialOf hT hl ?_)
 have fin:wpAny (model prog w) A (subscripted slice false o i) (fun r s₃=>wpAny (model prog w) A (letTemporaryGo value o r >>= fun _=>pure r) Q E s₃) E s₂:=by
  rw[hs o i]
  exact wpAny_operating (wpAny_mono h₂ (fun r s₃ h₃=>wpAny_bind (wpAny_letTemporaryGo (wpAny_pure h₃))) fun _ _ x=>x)
 first
  | exact wpAny_pure (wpAny_bind fin)
  | exact wpAny_bind (wpAny_pure (wpAny_bind fin))
  | exact wpAny_bind fin
theorem zu{X:Cx}{pins:OP}{σ:St}{H:Hp}{s:Shared}{a:Addr}{y:V}{o:Option V}(I:Inv X pins σ H s)(g:mH H a y o):s.TypeIs (.ref a) "dict" := by
 rcases g with⟨kvs,k,e,_,_⟩|⟨kvs,k,b,e,_,_,_⟩
 ·obtain⟨_,_,vs,_,dd⟩:=BV I.hok e
  exact dd.typeIs
 ·obtain⟨_,_,xs,_,dd⟩:=Cq I.hok e
  exact dd.typeIs
def O1(td ty:TE):TE:=fun σ H Q=>td σ H fun x H1=>ty σ H1 fun y H2=>∃ a v,x=.ref a/\mH H2 a y (some v)/\Q v H2
def JF(ty td:TE):TE:=fun σ H Q=>ty σ H fun y H1=>td σ H1 fun x H2=>∃ a o,x=.ref a/\mH H2 a y o/\Q (.bl (!o.isSome)) H2
def Pz(td ty tv:TE):TS:=fun D σ H=>tv σ H fun v H1=>td σ H1 fun x H2=>ty σ H2 fun y H3=>∃ a H4,x=.ref a/\vh H3 a y v H4/\D.nx σ H4
section
variable {X:Cx} {o i e value:Expr} {pos pos' tpos:Pos} {td ty tv:TE}
theorem gU(hu:X.A.units+1<cLine)(ho:PE X o td)(hi:PE X i ty)(hs:Oi i):PE X (.Subscript o i pos) (O1 td ty):=by
 intro pins s σ H Q I h
 refine Kw PySem.F.slot_dict_getitem.lookup hs (thn (ho pins s σ H _ I h) fun u s1 ⟨x,H1,I1,rx,q1⟩=>thn (hi pins s1 σ H1 _ I1 q1) fun iv s2 ⟨y,H2,I2,ry,a,v,ex,g,q2⟩=>?_)
 subst ex
 obtain rfl:u=Value.ref a:=rx
 exact⟨zu I2 g,DK hu I2 g ry fun w' s3 I3 rw'=>⟨v,H2,I3,rw',q2⟩⟩
theorem qW(hu:X.A.units+1<cLine)(hi:PE X i ty)(ho:PE X o td):PC X .NotIn i o (JF ty td):=by
 intro pins s σ H Q I h
 refine thn (hi pins s σ H _ I h) fun iv s1 ⟨y,H1,I1,ry,q1⟩=>thn (ho pins s1 σ H1 _ I1 q1) fun u s2 ⟨x,H2,I2,rx,a,ov,ex,g,q2⟩=>?_
 subst ex
 obtain rfl:u=Value.ref a:=rx
 exact J6 hu I2 g ry fun s3 I3=>⟨.bl (!ov.isSome),H2,I3,rfl,q2⟩
theorem oM(hu:X.A.units+1<cLine)(ho:PE X o td)(hi:PE X i ty)(hv:PE X value tv)(hs:swapsWith value (some (.Subscript o i pos')) pos.line X.env=pure false) :
  PS X (.Assign [.Subscript o i pos'] value pos) (Pz td ty tv):=by
 intro pins s σ H D I h
 refine wpAny_Assign_Subscript (thn (hv pins s σ H _ I h) fun r s1 ⟨v,H1,I1,rv,q1⟩=>thn (ho pins s1 σ H1 _ I1 q1) fun u s2 ⟨x,H2,I2,rx,q2⟩=>thn (hi pins s2 σ H2 _ I2 q2) fun iv s3 ⟨y,H3,I3,ry,a,H4,ex,g,q3⟩=>?_) hs
 subst ex
 obtain rfl:u=Value.ref a:=rx
 exact Ew hu I3 g ry rv fun s4 I4=>⟨σ,H4,I4,q3⟩
end
theorem yE{P:Program}{w:World}{H:Hp}(h:Heap)(hb:sysModules<h.objs.size):bD P w H (h.push {cls:=.type "dict",data:=.dict #[]}) h.objs.size (.dK []) :=
 ⟨zero_le _,beq_eq_false_iff_ne.mpr (Ne.symm (ne_of_lt hb)),[],.nil,Heap.DictOf.new h⟩
def Mw:TE:=fun _ H Q=>∀ p,H p=none->Q (.ref p) (upd H p (.dK []))
section
variable {X:Cx} {pos:Pos}
theorem nj:PE X (.Dict [] [] pos) Mw:=fun pins s σ H Q I h =>
 wpAny_Dict_empty ⟨.ref s.heap.objs.size,_,I.laid (a:=s.heap.objs.size) (o:=.dK []) (t':=s.toks) (fun _ _ q=>Heap.get?_push_of_some _ q) (le_refl _) (yE s.heap I.big),rfl,h _ (I.hok.fresh (le_refl _))⟩
end
def Af:List (TE×TE)->St->Hp->(List (V×V)->Hp->Prop)->Prop
 | [],_,H,Q=>Q [] H
 | (tk,tv)::r,σ,H,Q=>tk σ H fun x H1=>tv σ H1 fun y H2=>Af r σ H2 fun ps H3=>Q ((x,y)::ps) H3
abbrev VV:List (V×V)->List (Value×Value)->Prop:=Paired fun p q=>RelV p.1 q.1/\RelV p.2 q.2
def PPs(X:Cx)(pos:Pos)(keys:List (Option Expr))(values:List Expr)(trs:List (TE×TE)):Prop :=
 ∀ (pins:OP) (s:Shared) (σ:St) (H:Hp) (Q:List (V×V)->Hp->Prop),Inv X pins σ H s->Af trs σ H Q ->
  wpAny (model X.prog X.w) X.A (evalPairs (pairTrees keys values X.env pos)) (fun vs s'=>∃ ps H',Inv X pins σ H' s'/\VV ps vs/\Q ps H') X.xe s
theorem JZ{X:Cx}{pos:Pos}:PPs X pos [] [] []:=fun pins s σ H Q I h=>pairTrees_nil_walk ⟨[],H,I,.nil,h⟩
theorem Im{X:Cx}{pos:Pos}{k v:Expr}{ks:List (Option Expr)}{vs:List Expr}{tk tv:TE}{trs:List (TE×TE)}(hk:PE X k tk)(hv:PE X v tv)(hr:PPs X pos ks vs trs) :
  PPs X pos (some k::ks) (v::vs) ((tk,tv)::trs):=fun pins s σ H Q I h =>
 pairTrees_cons_walk (thn (hk pins s σ H _ I h) fun u s1 ⟨x,H1,I1,rx,q1⟩=>thn (hv pins s1 σ H1 _ I1 q1) fun w2 s2 ⟨y,H2,I2,ry,q2⟩ =>
  thn (hr pins s2 σ H2 _ I2 q2) fun ws s3 ⟨ps,H3,I3,rel,q3⟩=>⟨(x,y)::ps,H3,I3,.cons ⟨rx,ry⟩ rel,q3⟩)
def mJ(kvs more:List (Key×V)):List (Key×V):=more.foldl (fun acc kv=>putK acc kv.1 kv.2) kvs
theorem KV.merge:∀ {more:List (Key×V)} {rs:List (Key×Value)} {kvs:List (Key×V)} {vs:List (Key×Value)},KV more rs->KV kvs vs->KV (mJ kvs more) (merged vs rs):=by
 intro more rs kvs vs r
 unfold KV at r
 induction r generalizing kvs vs with
 | nil=>intro q;exact q
 | @cons p q ps qs h t ih =>
  intro r0
  have e:KV (putK kvs p.1 p.2) (stored vs q.1 q.2):=by
   have:=r0.put p.1 h.2
   rw[<- h.1];exact this
  exact ih e
theorem oV:∀(more kvs:List (Key×V)),(mJ kvs more).length<=kvs.length+more.length
 | [],kvs=>by show kvs.length<=kvs.length+0;omega
 | p::r,kvs=>by
  have h1:=oV r (putK kvs p.1 p.2)
  have h2:=ik kvs p.1 p.2
  show(mJ (putK kvs p.1 p.2) r).length<=_
  rw[length_cons];omega
theorem uy{P:Program}{w:World}:∀ {kvs:List (Key×V)} {ws:List (Value×Value)},VV (kvs.map fun kv=>(kV kv.1,kv.2)) ws->∃ rs,Carries (bN P w) ws rs/\KV kvs rs
 | [],_,r=>by rw[map_nil]at r;cases r;exact⟨[],True.intro,.nil⟩
 | p::kvs,_,r=>by
  rw[map_cons]at r
  cases r with
  | @cons a b as bs h t =>
   obtain⟨rs,c,q⟩:=uy (P:=P) (w:=w) t
   obtain⟨b1,b2⟩:=b
   exact⟨(p.1,b2)::rs,⟨zQ h.1,rfl,c⟩,.cons ⟨rfl,h.2⟩ q⟩
def Pk(trs:List (TE×TE)):TE:=fun σ H Q=>∀ p,H p=none->Af trs σ (upd H p (.dK [])) fun ps H2=>H2 p=some (.dK [])/\∃ kvs:List (Key×V),ps=kvs.map (fun kv=>(kV kv.1,kv.2))/\kvs.length<=15/\Q (.ref p) (upd H2 p (.dK (mJ [] kvs)))
theorem Kd{X:Cx}{pos:Pos}{keys:List (Option Expr)}{values:List Expr}{trs:List (TE×TE)}(h:PPs X pos keys values trs)(hall:keys.all (·.isSome)=true)(hl:keys.length=values.length)(h0:keys≠[])
  (h15:keys.length<=15):PE X (.Dict keys values pos) (Pk trs):=by
 intro pins s σ H Q I q
 have hn:=I.hok.fresh (le_refl s.heap.objs.size)
 have I1:=I.laid (a:=s.heap.objs.size) (o:=.dK []) (h':=s.heap.push {cls:=.type "dict",data:=.dict #[]}) (t':=s.toks) (fun _ _ q=>Heap.get?_push_of_some _ q) (le_refl _) (yE s.heap I.big)
 refine wpAny_Dict_walk (knd:=bN X.prog X.w) hall hl h0 h15 (thn (h pins _ σ _ _ I1 (q _ hn)) fun ws s2 ⟨ps,H2,I2,rel,e,kvs,ep,lk,q2⟩=>?_)
 subst ep
 obtain⟨rs,c,rk⟩:=uy (P:=X.prog) (w:=X.w) rel
 obtain⟨z,hd,vs0,r0,dd⟩:=GQ I2.hok e
 cases r0
 refine⟨rs,c,dd,fun h' dd' hs=>⟨.ref s.heap.objs.size,_,?_,rfl,q2⟩⟩
 have hz:(mJ [] kvs).length<=sizeLine:=by
  have h1:=oV kvs []
  rw[length_nil]at h1
  rw[sizeLine_eq];omega
 have he:∃ q,h'.get? s.heap.objs.size=some q:=let⟨q,_,_,hq,_⟩:=dd';⟨q,hq⟩
 exact xM I2 (by rw[e];exact True.intro) hs he (Ii hz hd (rk.merge .nil) dd')
section
variable {X:Cx} {pins:OP} {σ:St} {H:Hp} {s:Shared} {a:Addr} {y d:V} {u r:Value} {o:Option V} {A:Around} {E:EV}
end
section
variable {X:Cx} {o e f:Expr} {apos cpos:Pos} {td ty tx:TE}
end
section
variable {X:Cx} {pins:OP} {σ:St} {H:Hp} {s:Shared} {a:Addr} {kvs:List (Key×V)} {A:Around} {E:EV}
end
section
variable {X:Cx} {pins:OP} {σ:St} {H:Hp} {s:Shared} {a:Addr} {y:V} {u:Value} {A:Around} {E:EV}
end
end L2
set_option maxHeartbeats 4000000
namespace Mine
open PySem PySem.Builtin PySem.Builtin.Str
theorem iW{a b:Str}(h:a.cps.toList=b.cps.toList):a=b:=by
 cases a;cases b
 exact congrArg Str.mk (Array.toList_inj.mp h)
theorem gq(a:Str):a.length=a.cps.toList.length:=by simp[Str.length]
theorem cG(a b:Str):(a++b).cps.toList=a.cps.toList++b.cps.toList:=by
 show(a.cps++b.cps).toList=_
 simp
def inter(c:Nat):List (List Nat)->List Nat
 | []=>[]
 | [x]=>x
 | x::y::r=>x++c::inter c (y::r)
theorem lB(c:Nat):∀ ys:List Str,(Str.join ⟨#[c]⟩ ys).cps.toList=inter c (ys.map (·.cps.toList))
 | []=>by simp[Str.join,inter,Str.empty]
 | [x]=>rfl
 | x::y::r=>by
  have ih:=lB c (y::r)
  show((x++(⟨#[c]⟩:Str))++Str.join ⟨#[c]⟩ (y::r)).cps.toList=_
  rw[cG,cG,ih]
  simp[inter]
theorem mQ:∀ ys:List Str,(Str.join ⟨#[]⟩ ys).cps.toList=(ys.map (·.cps.toList)).flatten
 | []=>by simp[Str.join,Str.empty]
 | [x]=>by simp[Str.join]
 | x::y::r=>by
  have ih:=mQ (y::r)
  show((x++(⟨#[]⟩:Str))++Str.join ⟨#[]⟩ (y::r)).cps.toList=_
  rw[cG,cG,ih]
  simp
theorem yI{c:Nat}:∀ {x y R S:List Nat},c∉x->c∉y->(R=[]\/∃ r,R=c::r)->(S=[]\/∃ r,S=c::r)->x++R=y++S->x=y/\R=S
 | [],[],R,S,_,_,_,_,h=>⟨rfl,h⟩
 | [],b::y,R,S,_,hy,hR,_,h=>by
  rcases hR with rfl|⟨r,rfl⟩
  ·cases h
  ·have e:c=b:=(List.cons.inj h).1
   exact absurd (by rw[<- e];exact mem_cons_self) hy
 | a::x,[],R,S,hx,_,_,hS,h=>by
  rcases hS with rfl|⟨r,rfl⟩
  ·cases h
  ·have e:a=c:=(List.cons.inj h).1
   exact absurd (by rw[e];exact mem_cons_self) hx
 | a::x,b::y,R,S,hx,hy,hR,hS,h=>by
  obtain⟨e,h'⟩:=List.cons.inj h
  obtain⟨e2,e3⟩:=yI (x:=x) (y:=y) (fun z=>hx (mem_cons_of_mem _ z)) (fun z=>hy (mem_cons_of_mem _ z)) hR hS h'
  exact⟨by rw[e,e2],e3⟩
theorem pW(c:Nat)(x:List Nat)(r:List (List Nat)):∃ R,inter c (x::r)=x++R/\(R=[]\/∃ q,R=c::q)/\(R=[]↔r=[])/\(∀ q,R=c::q->q=inter c r):=by
 cases r with
 | nil=>exact⟨[],by simp[inter],.inl rfl,Z2,fun q h=>nomatch h⟩
 | cons y r=>exact⟨c::inter c (y::r),rfl,.inr ⟨_,rfl⟩,Z2,fun q h=>(List.cons.inj h).2.symm⟩
theorem wB{c:Nat}:∀ {xs ys:List (List Nat)},(∀ x∈xs,c∉x)->(∀ y∈ys,c∉y)->xs≠[]->ys≠[]->inter c xs=inter c ys->xs=ys
 | [],_,_,_,h,_,_=>absurd rfl h
 | _,[],_,_,_,h,_=>absurd rfl h
 | x::xs,y::ys,hx,hy,_,_,h=>by
  obtain⟨R,e1,f1,g1,q1⟩:=pW c x xs
  obtain⟨S,e2,f2,g2,q2⟩:=pW c y ys
  rw[e1,e2]at h
  obtain⟨a,b⟩:=yI (hx x mem_cons_self) (hy y mem_cons_self) f1 f2 h
  subst a;subst b
  cases xs with
  | nil =>
   have:ys=[]:=g2.mp (g1.mpr rfl)
   rw[this]
  | cons x' xs' =>
   have hR:R≠[]:=fun z=>by cases g1.mp z
   have hys:ys≠[]:=fun z=>hR (g2.mpr z)
   rcases f1 with z|⟨q,z⟩
   ·exact absurd z hR
   ·have i1:=q1 q z
    have i2:=q2 q z
    rw[wB (fun u hu=>hx u (mem_cons_of_mem _ hu)) (fun u hu=>hy u (mem_cons_of_mem _ hu)) Z2 hys (i1.symm.trans i2)]
theorem oY:∀{xs ys:List Str},xs.map (·.cps.toList)=ys.map (·.cps.toList)->xs=ys
 | [],[],_=>rfl
 | [],_::_,h=>by cases h
 | _::_,[],h=>by cases h
 | x::xs,y::ys,h=>by
  obtain⟨a,b⟩:=List.cons.inj h
  rw[iW a,oY b]
theorem Hw(x y:Str):Txt.split x y≠[]:=by
 unfold Txt.split
 split
 ·simp
 ·split
  ·simp
  ·intro h
   have:=congrArg List.length h
   rw[length_partsBetween]at this
   simp at this
theorem Ao(c:Nat)(ys:List Str)(h0:ys≠[])(hf:∀ y∈ys,c∉y.cps.toList):Txt.split (Str.join ⟨#[c]⟩ ys) ⟨#[c]⟩=ys:=by
 refine oY (wB (c:=c) ?_ ?_ ?_ ?_ ?_)
 ·intro x hx
  obtain⟨z,hz,rfl⟩:=mem_map.mp hx
  exact StrLaws.split_free _ c z hz
 ·intro x hx
  obtain⟨z,hz,rfl⟩:=mem_map.mp hx
  exact hf z hz
 ·intro h;exact Hw _ _ (map_eq_nil_iff.mp h)
 ·intro h;exact h0 (map_eq_nil_iff.mp h)
 ·rw[<- lB,<- lB,StrLaws.join_split]
theorem ux(x:Str)(c i:Nat):StrLaws.At x ⟨#[c]⟩ x.length i↔x.cps.toList[i]? = some c:=by
 unfold StrLaws.At subAt
 have e1:((⟨#[c]⟩:Str)).length=1:=rfl
 rw[e1]
 constructor
 ·rintro⟨h1,h2⟩
  have h3:x.cps.extract i (i+1) = #[c]:=by simpa using h2
  have h4:=congrArg Array.toList h3
  rw[toList_extract,List.extract_eq_take_drop]at h4
  have h5:x.cps.toList[i]? = ((x.cps.toList.drop i).take (i+1 - i))[0]?:=by
   rw[getElem?_take,if_pos Z1,List.getElem?_drop];simp
  rw[h5,h4];rfl
 ·intro h
  have hlt:i<x.cps.toList.length:=(List.getElem?_eq_some_iff.mp h).1
  refine⟨by rw[gq];omega,?_⟩
  have:x.cps.extract i (i+1) = #[c]:=by
   apply Array.toList_inj.mp
   rw[toList_extract,List.extract_eq_take_drop]
   have e:i+1 - i=1:=by omega
   rw[e,List.drop_eq_getElem_cons hlt]
   have:x.cps.toList[i]=c:=(List.getElem?_eq_some_iff.mp h).2
   rw[this];rfl
  rw[this];simp
theorem Fd{x:Str}{c:Nat}(h:c∉x.cps.toList):lastOccurrence x ⟨#[c]⟩ 0 x.length=none:=by
 rcases StrLaws.last_spec x ⟨#[c]⟩with⟨e,_⟩|⟨i,_,hi,_⟩
 ·exact e
 ·exact absurd (mem_of_getElem? ((ux x c i).mp hi)) h
theorem DR{a b:Str}{c:Nat}(h:c∉b.cps.toList):lastOccurrence (a++(⟨#[c]⟩:Str)++b) ⟨#[c]⟩ 0 (a++(⟨#[c]⟩:Str)++b).length=some a.length:=by
 have hc:(a++(⟨#[c]⟩:Str)++b).cps.toList=a.cps.toList++c::b.cps.toList:=by rw[cG,cG];simp
 have here:(a++(⟨#[c]⟩:Str)++b).cps.toList[a.length]? = some c:=by
  rw[hc,gq,getElem?_append_right (le_refl _)];simp
 rcases StrLaws.last_spec (a++(⟨#[c]⟩:Str)++b) ⟨#[c]⟩with⟨_,hn⟩|⟨i,e,hi,hn⟩
 ·exact absurd ((ux _ c _).mpr here) (hn _)
 ·rw[e]
  have hi':=(ux _ c i).mp hi
  have h1:¬i<a.length:=fun z=>hn a.length z ((ux _ c _).mpr here)
  have h2:¬a.length<i:=fun z=>by
   rw[hc,gq]at *
   rw[getElem?_append_right Z1]at hi'
   obtain⟨k,hk⟩:∃ k,i - a.cps.toList.length=k+1:=⟨i - a.cps.toList.length - 1,Z1⟩
   rw[hk]at hi'
   exact h (mem_of_getElem? (by simpa using hi'))
  congr 1
  omega
theorem Hx(a b:Str):strSub (a++b) 0 a.length=a:=by
 apply iW
 unfold strSub
 show((a++b).cps.extract 0 a.length).toList=_
 rw[toList_extract,List.extract_eq_take_drop,cG,gq]
 simp
theorem Fz(a b:Str):strSub (a++b) a.length (a++b).length=b:=by
 apply iW
 unfold strSub
 show((a++b).cps.extract a.length (a++b).length).toList=_
 rw[toList_extract,List.extract_eq_take_drop,cG,gq,gq,cG]
 simp
 exact List.take_of_length_le Z2
theorem join_snoc(s:Str)(b:Str):∀ xs:List Str,xs≠[]->Str.join s (xs++[b])=Str.join s xs++s++b
 | [],h=>absurd rfl h
 | [x],_=>rfl
 | x::y::r,_=>by
  have ih:=join_snoc s b (y::r) Z2
  show x++s++Str.join s (y::r++[b])=(x++s++Str.join s (y::r))++s++b
  rw[ih]
  apply iW
  simp only[cG,append_assoc]
def qm:List Int:=[48271,1000003,15485863,32452843,49979687,67867967,86028121,104395301]
def qL:List Int:=[179424673,373587883,573259391,776531401,982451653]
def K8(c k many:Int):Int:=Builtin.bitAnd (c / 2 ^ (1+10*k).toNat) 1023%many
def yD(c k:Int):Int:=(c / 2%2305843009213693951+1)*(qm.getD (k%8).toNat 0*qL.getD (k / 8).toNat 0)%2305843009213693951
def yH(c k:Int):Int:=yD c k*yD c k%1000000000039
def FQ(c k many:Int):Int:=(yH c k+k+1)*(yH c k / 10007+48271)%67280421310721 / 31%many
def pick(c k many:Int):Int:=if c%2=1/\0<c / 2 ^ (400:Int).toNat then K8 c k many else FQ c k many
theorem jD(c k:Int){m:Int}(h:0<m):0<=pick c k m:=by
 unfold pick;split
 ·exact Int.emod_nonneg _ Z1
 ·exact Int.emod_nonneg _ Z1
theorem km(c k:Int){m:Int}(h:0<m):pick c k m<m:=by
 unfold pick;split
 ·exact Int.emod_lt_of_pos _ h
 ·exact Int.emod_lt_of_pos _ h
theorem JD(c k:Int):0<=yD c k:=Int.emod_nonneg _ Z0
theorem JQ(c k:Int):yD c k<2305843009213693951:=Int.emod_lt_of_pos _ Z0
theorem Kg(c k:Int):0<=yH c k:=Int.emod_nonneg _ Z0
theorem JM(c k:Int):yH c k<1000000000039:=Int.emod_lt_of_pos _ Z0
theorem JX{k:Int}(h0:0<=k)(h1:k<8):qm[k.toNat]? = some (qm.getD k.toNat 0)/\0<qm.getD k.toNat 0/\qm.getD k.toNat 0<1000000000:=by
 have:∀ n:Fin 8,qm[n.val]? = some (qm.getD n.val 0)/\0<qm.getD n.val 0/\qm.getD n.val 0<1000000000:=by decide
 exact this ⟨k.toNat,Z1⟩
theorem JG{k:Int}(h0:0<=k)(h1:k<5):qL[k.toNat]? = some (qL.getD k.toNat 0)/\0<qL.getD k.toNat 0/\qL.getD k.toNat 0<1000000000:=by
 have:∀ n:Fin 5,qL[n.val]? = some (qL.getD n.val 0)/\0<qL.getD n.val 0/\qL.getD n.val 0<1000000000:=by decide
 exact this ⟨k.toNat,Z1⟩
theorem Fq{a b:Int}(ha:0<a)(ha':a<1000000000)(hb:0<b)(hb':b<1000000000):0<a*b/\a*b<1000000000000000000:=by
 have h1:=Int.mul_pos ha hb
 have h2:a*b<=1000000000*b:=Int.mul_le_mul_of_nonneg_right Z1 Z1
 exact⟨h1,Z1⟩
structure cB(x:Str):Prop where
 lo:1<=x.length
 hi:x.length<=8
 ok:∀ n∈x.cps.toList,97<=n/\n<=122
theorem cB.nodot{x:Str}(h:cB x):46∉x.cps.toList:=fun z=>by have:=h.ok 46 z;omega
def letters:Str:= "abcdefghijklmnopqrstuvwxyz"
theorem Bs{k:Int}(h0:0<=k)(h1:k<26):letters.cps.toList[k.toNat]? = some (97+k.toNat):=by
 have:∀ n:Fin 26,letters.cps.toList[n.val]? = some (97+n.val):=by decide +kernel
 exact this ⟨k.toNat,Z1⟩
theorem pH:((".": Str))=⟨#[46]⟩:=by decide +kernel
theorem Ga:(("": Str))=⟨#[]⟩:=by decide +kernel
def dotted(ys:List Str):Str:=Txt.join ("." : Str) ys
theorem cI(ys:List Str):dotted ys=Str.join ⟨#[46]⟩ ys:=by
 unfold dotted
 rw[pH]
 exact StrLaws.glued_eq_join _ ys
theorem cj(ys:List Str)(h0:ys≠[])(hn:∀ y∈ys,cB y):Txt.split (dotted ys) ("." : Str)=ys:=by
 rw[cI,pH]
 exact Ao 46 ys h0 fun y hy=>(hn y hy).nodot
theorem Fj(y:Str)(h:cB y):Txt.rpartition y ("." : Str)=(Str.empty,Str.empty,y):=by
 unfold Txt.rpartition
 rw[pH,Fd h.nodot]
theorem uL(xs:List Str)(b:Str)(h0:xs≠[])(h:cB b):Txt.rpartition (dotted (xs++[b])) ("." : Str)=(dotted xs,(".": Str),b):=by
 unfold Txt.rpartition
 rw[cI,cI,pH,join_snoc _ _ _ h0,DR h.nodot]
 show(strSub (Str.join ⟨#[46]⟩ xs++(⟨#[46]⟩:Str)++b) 0 (Str.join ⟨#[46]⟩ xs).length,_,strSub _ _ _)=_
 have e1:strSub (Str.join ⟨#[46]⟩ xs++(⟨#[46]⟩:Str)++b) 0 (Str.join ⟨#[46]⟩ xs).length=Str.join ⟨#[46]⟩ xs:=by
  have:Str.join ⟨#[46]⟩ xs++(⟨#[46]⟩:Str)++b=Str.join ⟨#[46]⟩ xs++((⟨#[46]⟩:Str)++b):=iW (by simp only[cG,append_assoc])
  rw[this];exact Hx _ _
 have e2:strSub (Str.join ⟨#[46]⟩ xs++(⟨#[46]⟩:Str)++b) ((Str.join ⟨#[46]⟩ xs).length+(⟨#[46]⟩:Str).length) (Str.join ⟨#[46]⟩ xs++(⟨#[46]⟩:Str)++b).length=b:=by
  have l1:(Str.join ⟨#[46]⟩ xs).length+(⟨#[46]⟩:Str).length=(Str.join ⟨#[46]⟩ xs++(⟨#[46]⟩:Str)).length:=by rw[gq,gq,gq,cG,length_append]
  rw[l1];exact Fz _ _
 rw[e1,e2]
theorem xZ{ys:List Str}{n:Nat}(h:∀ y∈ys,y.length<=n):(ys.map (·.length)).sum<=ys.length*n:=by
 induction ys with
 | nil=>simp
 | cons y r ih =>
  have h1:=h y mem_cons_self
  have h2:=ih fun z hz=>h z (mem_cons_of_mem _ hz)
  simp only[map_cons,List.sum_cons,length_cons,Nat.add_mul,Nat.one_mul]
  omega
theorem Be(ys:List Str):(dotted ys).length<=(ys.map (·.length)).sum+ys.length:=by
 rw[cI]
 have:=StrLaws.join_length_le ⟨#[46]⟩ ys
 have e:(⟨#[46]⟩:Str).length=1:=rfl
 rw[e]at this
 omega
end Mine
namespace L2
open PySem PySem.Spec PyProof.Rows
section
variable {X:Cx}
theorem CG {ys:List Str}:∀ {us:List Value},Vals (ys.map V.str) us -> StrsAre us ys:=by
 induction ys with
 | nil=>intro us r; rw [map_nil] at r; cases r; exact .nil
 | cons y ys ih =>
  intro us r
  rw [map_cons] at r
  cases r with
  | cons r1 r2 =>
   obtain ⟨t,e⟩:=r1
   subst e
   exact .cons y t (ih r2)
theorem vK:∀ (l:List (Str×Tok)),Vals ((l.map (·.1)).map V.str) (strValues l)
 | []=>.nil
 | (y,t)::l=>.cons ⟨t,rfl⟩ (vK l)
def rJoin(K:Frag):V->List V->Hp->VK->Prop:=fun x vs H Q=>∃ sep p ys,x=.str sep/\vs=[.ref p]/\(SqL K H p (ys.map V.str)\/SqT K H p (ys.map V.str)) /\
 (ys.map (·.length)).sum+ys.length*sep.length<=16777216/\Q (.str (Txt.join sep ys)) H
theorem yq:MtR X "str.join" (rJoin X.K):=by
 intro pins s σ H x vs v us Q I rx rv h
 obtain⟨sep,p,ys,rfl,rfl,hq,hz,q⟩:=h
 obtain⟨t,rfl⟩:=rx
 obtain⟨u,rfl,ru⟩:=vals1 rv
 cases(show u=Value.ref p from ru)
 rcases hq with hq|hq
 ·obtain⟨its,r,pl,_⟩:=I.list hq
  exact join_list pl.isList (by simpa using CG r) hz fun t' k=>⟨.str _,H,I.tok k,⟨t',rfl⟩,q⟩
 ·obtain⟨its,r,pl,_⟩:=I.tuple hq
  exact join_tuple pl (by simpa using CG r) hz fun t' k=>⟨.str _,H,I.tok k,⟨t',rfl⟩,q⟩
def MP:V->List V->Hp->VK->Prop:=fun x vs H Q=>∃ z sep,x=.str z/\vs=[.str sep]/\(sep.length==0)=false/\z.length+2<=sizeLine /\
 ∀ p,H p=none->Q (.ref p) (upd H p (.lst ((Txt.split z sep).map V.str)))
theorem Fv(z sep:Str)(h:z.length+2<=sizeLine):(Txt.split z sep).length<=sizeLine:=by
 unfold Txt.split
 split
 ·simp;omega
 ·split
  ·simp;omega
  ·have e1:=StrLaws.occ_length_le z sep 0 z.length (z.length+1)
   rw[length_partsBetween];omega
theorem qz:MtR X "str.split" MP:=by
 intro pins s σ H x vs v us Q I rx rv h
 obtain⟨z,sep,rfl,rfl,hy,hz,q⟩:=h
 obtain⟨t,rfl⟩:=rx
 obtain⟨u,rfl,ru⟩:=vals1 rv
 obtain⟨t2,rfl⟩:=ru
 have fin:∀ (l:List (Str×Tok)) (k:Nat),l.map (·.1)=Txt.split z sep ->
   EP X pins σ Q (.ref s.heap.objs.size) {s with heap:=s.heap.push {cls:=.type "list",data:=.seq (strValues l).toArray},toks:=k}:=fun l k e=>by
  have hv:=vK l
  rw[e]at hv
  exact⟨.ref s.heap.objs.size,_,I.lnew hv (by rw[length_map];exact Fv z sep hz),rfl,q _ I.fresh⟩
 have few:(Builtin.Str.partsBetween z (Builtin.Str.occurrences z sep 0 z.length (z.length+1)) sep.length).length<=sizeLine:=by
  have e1:=StrLaws.occ_length_le z sep 0 z.length (z.length+1)
  rw[length_partsBetween];omega
 cases h1:(decide (z.length<sep.length)||decide (Builtin.Str.strKind z<Builtin.Str.strKind sep))
 ·cases hf:(Builtin.Str.occurrences z sep 0 z.length (z.length+1)).isEmpty
  ·refine call_meets F.slot_str_split (typeIs_str _ _ _) F.entry_str_split (F.args_str_split_2 _ _) (meets_str_split_sep z sep t t2 h1 hy hf Z1 few) ?_
   rw[strsFrom_eq]
   exact fin (numbered s.toks _) _ ((numbered_texts _ _).trans (by unfold Txt.split;rw[if_neg (by rw[h1];exact Bool.false_ne_true),if_neg (by rw[hf];exact Bool.false_ne_true)]))
  ·refine call_meets F.slot_str_split (typeIs_str _ _ _) F.entry_str_split (F.args_str_split_2 _ _) (meets_str_split_not_found z sep t t2 h1 hy hf) ?_
   exact fin [(z,t)] s.toks (by unfold Txt.split;rw[if_neg (by rw[h1];exact Bool.false_ne_true),if_pos hf] <;> rfl)
 ·refine call_meets F.slot_str_split (typeIs_str _ _ _) F.entry_str_split (F.args_str_split_2 _ _) (meets_str_split_cannot_occur z sep t t2 h1) ?_
  exact fin [(z,t)] s.toks (by unfold Txt.split;rw[if_pos h1] <;> rfl)
def NK:V->List V->Hp->VK->Prop:=fun x vs H Q=>∃ z sep,x=.str z/\vs=[.str sep]/\(sep.length==0)=false/\z.length<=sizeLine /\
 ∀ p,H p=none->Q (.ref p) (upd H p (.tup [.str (Txt.rpartition z sep).1,.str (Txt.rpartition z sep).2.1,.str (Txt.rpartition z sep).2.2]))
theorem Inv.tnew{pins:OP}{σ:St}{H:Hp}{s:Shared}{ys:List V}{its:List Value}{t':Nat}(I:Inv X pins σ H s)(hv:Vals ys its)(hz:ys.length<=sizeLine) :
  Inv X pins σ (upd H s.heap.objs.size (.tup ys)) {s with heap:=s.heap.push {cls:=.type "tuple",data:=.seq its.toArray},toks:=t'} :=
 I.laid (fun b o e=>Heap.get?_push_of_some _ e) (le_refl _) (show bD X.prog X.w _ _ _ (.tup ys)from⟨hz,its,hv,IsTup.new _ _⟩)
theorem u6(a b c:Str)(t u v:Tok):Vals [.str a,.str b,.str c] [.str a t,.str b u,.str c v]:=.cons ⟨t,rfl⟩ (.cons ⟨u,rfl⟩ (.cons ⟨v,rfl⟩ .nil))
theorem yG:MtR X "str.rpartition" NK:=by
 intro pins s σ H x vs v us Q I rx rv h
 obtain⟨z,sep,rfl,rfl,hy,hz,q⟩:=h
 obtain⟨t,rfl⟩:=rx
 obtain⟨u,rfl,ru⟩:=vals1 rv
 obtain⟨t2,rfl⟩:=ru
 refine call_meets F.slot_str_rpartition (typeIs_str _ _ _) F.entry_str_rpartition (F.args_str_rpartition_2 _ _) (meets_str_rpartition z sep t t2 hy hz) ?_
 have q':=q
 unfold Txt.rpartition at q'
 revert q'
 cases Builtin.Str.lastOccurrence z sep 0 z.length with
 | none=>intro q';exact⟨.ref s.heap.objs.size,_,I.tnew (u6 _ _ _ _ _ _) (by show 3<=sizeLine;decide),rfl,q' _ I.fresh⟩
 | some i=>intro q';exact⟨.ref s.heap.objs.size,_,I.tnew (u6 _ _ _ _ _ _) (by show 3<=sizeLine;decide),rfl,q' _ I.fresh⟩
end
theorem xX{env:Env}:∀ (ns:List (Str×NameKind)) (acc:List (Str×Addr)),(∀ y∈ns,y.2=.free->∃ c,env.cells.lookup y.1=some c)->(∀ p∈acc,env.cells.lookup p.1=some p.2) ->
  ∃ cl:List (Str×Addr),(forIn ns acc fun(y:Str×NameKind) (cs:List (Str×Addr))=>(match y with
   | (name,kind)=>if(kind==NameKind.free)=true then(do let c <- cellOf env name;pure (ForInStep.yield ((name,c)::cs)))else pure (ForInStep.yield cs):Sem (ForInStep (List (Str×Addr)))))=pure cl /\
   (∀ p∈cl,env.cells.lookup p.1=some p.2)/\(∀ p∈acc,p∈cl)/\∀ y∈ns,y.2=.free->∃ c,(y.1,c)∈cl
 | [],acc,_,ha=>⟨acc,rfl,ha,fun _ h=>h,fun _ h=>nomatch h⟩
 | (n,k)::r,acc,hn,ha=>by
  have hr:∀ y∈r,y.2=.free->∃ c,env.cells.lookup y.1=some c:=fun y hy=>hn y (mem_cons_of_mem _ hy)
  by_cases hk:k=NameKind.free
  ·subst hk
   obtain⟨c,hc⟩:=hn (n,.free) mem_cons_self rfl
   have hc':env.cells.lookup n=some c:=hc
   obtain⟨cl,e,h1,h2,h3⟩:=xX r ((n,c)::acc) hr (fun p hp=>by
    rcases mem_cons.mp hp with rfl|hp
    ·exact hc'
    ·exact ha p hp)
   refine⟨cl,?_,h1,fun p hp=>h2 p (mem_cons_of_mem _ hp),fun y hy hf=>?_⟩
   ·rw[List.forIn_cons]
    have e1:cellOf env n=pure c:=by unfold cellOf;rw[hc']
    simp only[beq_self_eq_true,if_true,e1,pure_bind]
    exact e
   ·rcases mem_cons.mp hy with rfl|hy
    ·exact⟨c,h2 _ mem_cons_self⟩
    ·exact h3 y hy hf
  ·obtain⟨cl,e,h1,h2,h3⟩:=xX r acc hr ha
   refine⟨cl,?_,h1,h2,fun y hy hf=>?_⟩
   ·rw[List.forIn_cons]
    have hb:(k==NameKind.free)=false:=by simpa using hk
    simp only[hb,Bool.false_eq_true,if_false,pure_bind]
    exact e
   ·rcases mem_cons.mp hy with rfl|hy
    ·exact absurd hf hk
    ·exact h3 y hy hf
theorem wy{α:Type}:∀ {l:List (Str×α)} {x:Str} {c:α},(x,c)∈l->∃ d,l.lookup x=some d
 | [],_,_,h=>nomatch h
 | (y,d)::r,x,c,h=>by
  by_cases e:x=y
  ·subst e;exact⟨d,by simp[lookup_cons]⟩
  ·have hb:(x==y)=false:=by simpa using e
   rcases mem_cons.mp h with z|z
   ·cases z;exact absurd rfl e
   ·obtain⟨d',h'⟩:=wy z
    exact⟨d',by simp only[lookup_cons,hb];exact h'⟩
theorem Cd{scope:Scope}{env:Env}(h:∀ y∈scope.names,y.2=.free->∃ c,env.cells.lookup y.1=some c) :
  ∃ cl:List (Str×Addr),closureFor scope env=pure cl/\(∀ x c,cl.lookup x=some c->env.cells.lookup x=some c)/\∀ x,(x,NameKind.free)∈scope.names->∃ c,cl.lookup x=some c:=by
 obtain⟨cl,e,h1,_,h3⟩:=xX (env:=env) scope.names [] h (fun p hp=>nomatch hp)
 refine⟨cl,?_,fun x c q=>h1 (x,c) (PySem.mem_of_lookup q),fun x hx=>?_⟩
 ·simp only[closureFor]
  simp only[bind_pure]
  exact e
 ·obtain⟨c,hc⟩:=h3 (x,.free) hx rfl
  exact wy hc
def oR(osc sc:Scope)(oN:List Str):List (Option Nat)->List Str->Bool
 | [],[]=>true
 | none::r,_::n=>oR osc sc oN r n
 | some k::r,x::n=>(oN[k]? == some x)&&(sc.names.lookup x==some .free)&&oR osc sc oN r n
 | _,_=>false
theorem qG{osc sc:Scope}{oN:List Str}:∀ {ix:List (Option Nat)} {N:List Str},oR osc sc oN ix N=true->ix.length=N.length
 | [],[],_=>rfl
 | none::_,_::_,h=>congrArg (· + 1) (qG (by simpa [oR] using h))
 | some _::_,_::_,h=>congrArg (· + 1) (qG (by simp[oR]at h;exact h.2))
 | [],_::_,h=>by simp[oR]at h
 | none::_,[],h=>by simp[oR]at h
 | some _::_,[],h=>by simp[oR]at h
theorem tR{osc sc:Scope}{oN:List Str}:∀ {ix:List (Option Nat)} {N:List Str} (i k:Nat),oR osc sc oN ix N=true->ix[i]? = some (some k)->∃ x,N[i]? = some x/\oN[k]? = some x/\sc.names.lookup x=some .free
 | [],_,_,_,_,e=>by simp at e
 | none::_,[],_,_,h,_=>by simp[oR]at h
 | some _::_,[],_,_,h,_=>by simp[oR]at h
 | none::r,x::n,0,_,_,e=>by simp at e
 | none::r,x::n,i+1,k,h,e=>by
  obtain⟨y,h1,h2⟩:=tR (ix:=r) (N:=n) i k (by simpa [oR] using h) (by simpa using e)
  exact⟨y,by simpa using h1,h2⟩
 | some j::r,x::n,0,k,h,e=>by
  simp[oR]at h
  simp at e
  subst e
  exact⟨x,Z2,h.1.1,h.1.2⟩
 | some j::r,x::n,i+1,k,h,e=>by
  simp[oR]at h
  obtain⟨y,h1,h2⟩:=tR (ix:=r) (N:=n) i k h.2 (by simpa using e)
  exact⟨y,by simpa using h1,h2⟩
def m7(osc:Scope)(oN N:List Str)(ix:List (Option Nat))(sc:Scope):Bool :=
 (sc.kind==.function)&&sc.names.all (fun y=>(y.2!=.cell)&&((y.2!=.local)||(sc.names.lookup y.1==some .local))&&((y.2!=.free)||((osc.names.lookup y.1==some .cell)||(osc.names.lookup y.1==some .free))))&&oR osc sc oN ix N
theorem pJ{env:Env}:∀ {names:List (Str×NameKind)} {x:Str},names.lookup x=some .free ->
  (names.map fun(n,k)=>if(k==NameKind.free&&env.scope.kind==.function&&env.kindOf n==some .cell)then(n,NameKind.cell)else(n,k)).lookup x=some .cell \/
  (names.map fun(n,k)=>if(k==NameKind.free&&env.scope.kind==.function&&env.kindOf n==some .cell)then(n,NameKind.cell)else(n,k)).lookup x=some .free
 | [],_,h=>by simp at h
 | (n,k)::r,x,h=>by
  have ih:=@pJ env r x
  simp only[map_cons]
  cases hx:x==n with
  | true =>
   simp only[lookup_cons,hx]at h
   cases h
   by_cases hc:(NameKind.free==NameKind.free&&env.scope.kind==.function&&env.kindOf n==some .cell)=true
   ·left;rw[if_pos hc];simp only[lookup_cons,hx]
   ·right;rw[if_neg hc];simp only[lookup_cons,hx]
  | false =>
   simp only[lookup_cons,hx]at h
   by_cases hc:(k==NameKind.free&&env.scope.kind==.function&&env.kindOf n==some .cell)=true
   ·rw[if_pos hc];simp only[lookup_cons,hx];exact ih h
   ·rw[if_neg hc];simp only[lookup_cons,hx];exact ih h
theorem uN{env:Env}:∀ {names:List (Str×NameKind)} {x:Str},(∀ y∈names,y.2≠NameKind.cell) ->
  ((names.map fun(n,k)=>if(k==NameKind.free&&env.scope.kind==.function&&env.kindOf n==some .cell)then(n,NameKind.cell)else(n,k)).lookup x=some .cell \/
  (names.map fun(n,k)=>if(k==NameKind.free&&env.scope.kind==.function&&env.kindOf n==some .cell)then(n,NameKind.cell)else(n,k)).lookup x=some .free)->(x,NameKind.free)∈names
 | [],_,_,h=>by simp at h
 | (n,k)::r,x,hn,h=>by
  have ih:=@uN env r x fun y hy=>hn y (mem_cons_of_mem _ hy)
  simp only[map_cons]at h
  by_cases hc:(k==NameKind.free&&env.scope.kind==.function&&env.kindOf n==some .cell)=true
  ·rw[if_pos hc]at h
   cases hx:x==n with
   | true =>
    have e:x=n:=by simpa using hx
    have e2:k=NameKind.free:=by simp at hc;exact hc.1.1
    subst e;subst e2
    exact mem_cons_self
   | false =>
    simp only[lookup_cons,hx]at h
    exact mem_cons_of_mem _ (ih h)
  ·rw[if_neg hc]at h
   cases hx:x==n with
   | true =>
    have e:x=n:=by simpa using hx
    subst e
    simp only[lookup_cons,hx]at h
    rcases h with h|h
    ·cases h;exact absurd rfl (hn (x,.cell) mem_cons_self)
    ·cases h;exact mem_cons_self
   | false =>
    simp only[lookup_cons,hx]at h
    exact mem_cons_of_mem _ (ih h)
def blk(X:Cx)(N:List Str)(sc:Scope)(cl:List (Str×Addr))(C:Addr)(fp:List Addr)(s:Shared)(H:Hp):Cx :=
 {X with N:=N,s₀:=s,H₀:=H,env:=compEnvC sc cl C X.env,outer:=X.stack,ex:=fp,fn:=fun _=>false,pn:=[],xe:=fun _ _=>False}
def lift(ix:List (Option Nat))(σ:St):St:=ix.map fun o=>o.bind fun k=>(σ[k]?).bind id
def PF(X:Cx)(ifs:List Expr)(t:TT):Prop :=
 ∀ (pins:OP) (s:Shared) (σ:St) (H:Hp) (Q:Bool->Hp->Prop),Inv X pins σ H s->t σ H Q ->
  wpAny (model X.prog X.w) X.A (forIn ifs true fun c r=>if r=true then do let ok <- isTrue c X.env (eval c X.env);pure (ForInStep.yield ok)else pure (ForInStep.yield r)) (TP X pins σ Q) X.xe s
def DG:TT:=fun _ H Q=>Q true H
theorem cJ{X:Cx}:PF X [] DG:=fun pins s σ H Q I h=>wpAny_tests_nil ⟨H,I,h⟩
theorem d8{X:Cx}{c:Expr}{t:TT}(hc:PT X c t):PF X [c] t:=fun pins s σ H Q I h=>wpAny_tests_one (hc pins s σ H Q I h)
def qj(g:TG)(tf:TT)(te:TE)(J:It)(σ0:St)(H1:Hp)(Fin:List V->Hp->Prop):Prop :=
 ∃ W:Nat->Nat->St->List V->Hp->Prop,(∃ m,W 0 m σ0 [] H1)/\∀ i m τ ys H,W i m τ ys H ->
  (J.stop i H/\Fin ys H)\/(J.go i H/\∀ x H',J.yld i H x H'->g x τ H' fun τ2 H2=>tf τ2 H2 fun b H3 =>
   if b=true then te τ2 H3 fun y H4=>ys.length<sizeLine/\∃ m',m'<m/\W (i+1) m' τ2 (ys++[y]) H4 else ∃ m',m'<m/\W (i+1) m' τ2 ys H3)
def CN(ix:List (Option Nat))(wi:TI)(g:TG)(tf:TT)(te:TE):TE:=fun σ H Q=>wi σ H fun J H1=>qj g tf te J (lift ix σ) H1 fun ys H'=>∀ p,H' p=none->Q (.ref p) (upd H' p (.lst ys))
theorem Lr {P:Program} {w:World} {A:Around} {R:Result->Shared->Prop} {s:Shared} {el tg src:Expr} {fs:List Expr} {sc:Scope} {ps:Pos} {iv ac:Value} {en:Env} (J:Nat->Shared->Prop)
  (turn:∀ n s,J n s->wpAny (model P w) A (pyNext iv) (fun r s1=>match r with
   | none=>R (.ok .next) s1
   | some v=>wpAny (model P w) A (letOwnedTupleGo tg iv v) (fun _ s2=>wpAny (model P w) A (assign tg en v) (fun _ s3 =>
     wpAny (model P w) A (forIn fs true fun c r=>if r=true then do let ok <- isTrue c en (eval c en);pure (ForInStep.yield ok)else pure (ForInStep.yield r)) (fun ok s4 =>
      if ok=true then wpAny (model P w) A (eval el en) (fun x s5=>wpAny (model P w) A (call (.builtin "list.append") [ac,x]) (fun _ s6=>∃ m,m<n/\J m s6) (fun _ _=>False) s5) (fun _ _=>False) s4
      else ∃ m,m<n/\J m s4) (fun _ _=>False) s3) (fun _ _=>False) s2) (fun _ _=>False) s1) (fun _ _=>False) s)
  (n:Nat) (h:J n s):codeAny (model P w) A (.compLoop (.ListComp el [⟨tg,src,fs,0⟩] sc ps) 0 iv ac en) R s:=by
 have ab:∀ {α:Type} {t:Sem α} {Q Q':α->Shared->Prop} {E:EV} {s:Shared},wpAny (model P w) A t Q (fun _ _=>False) s->(∀ a s,Q a s->Q' a s)->wpAny (model P w) A t Q' E s :=
  fun h hq=>wpAny_mono h hq fun _ _ f=>f.elim
 refine codeAny_loop rfl J (fun n s hJ=>?_) n h
 show wpAny _ A ((compTurn (.ListComp el [⟨tg,src,fs,0⟩] sc ps) 0 iv ac en).onRaise (fun x=>do noteFrame x en;theTreesLotGoes x)) _ _ s
 refine wpAny_noted ?_
 rw[compTurn_list]
 refine wpAny_bind (wpAny_standAt (wpAny_bind (ab (turn n s hJ) fun r s1 h1=>?_)))
 cases r with
 | none=>exact wpAny_pure h1
 | some v =>
  refine wpAny_bind (ab h1 fun _ s2 h2=>wpAny_bind (ab h2 fun _ s3 h3=>wpAny_bind (ab h3 fun ok s4 h4=>?_)))
  cases ok with
  | false=>exact wpAny_pure ⟨rfl,h4⟩
  | true=>exact wpAny_bind (wpAny_bind (ab h4 fun x s5 h5=>wpAny_bind (ab h5 fun _ s6 h6=>wpAny_pure (wpAny_pure ⟨rfl,h6⟩))))
section
variable {X:Cx} {pins:OP} {σ:St} {H2:Hp} {s2:Shared} {N:List Str} {ix:List (Option Nat)} {sc:Scope} {cl:List (Str×Addr)}
theorem Mp(I:Inv X pins σ H2 s2)(hb:m7 X.env.scope X.N N ix sc=true)(c1:∀ x c,cl.lookup x=some c->X.env.cells.lookup x=some c)(c2:∀ x,(x,NameKind.free)∈sc.names->∃ c,cl.lookup x=some c)
  {fp:List Addr}(hf:∀ b∈fp,qd X pins H2 b)(hfo:∀ b∈fp,∃ o,s2.heap.get? b=some o){C:Addr}(hC:s2.heap.objs.size<=C):(blk X N sc cl C fp s2 H2).Ok:=by
 unfold m7 at hb
 simp only[and_eq_true]at hb
 obtain⟨⟨hk,hn⟩,hi⟩:=hb
 have nocell:∀ y∈sc.names,y.2≠NameKind.cell:=fun y hy=>by
  have:=all_eq_true.mp hn y hy
  simp only[and_eq_true]at this
  simpa using this.1.1
 refine⟨I.ok.mod,?_,I.ok.glob,I.ok.blt,hC,fun x y c h1 h2=>I.ok.inj x y c (c1 x c h1) (c1 y c h2),fun x hx=>?_,fun x c hx=>?_,I.ok.hd,I.ok.frames,.inl rfl,fun b hb=>⟨?_,fun x c h=>?_⟩,I.bs,le_trans I.ok.bsz I.sz,fun b o e hb=>?_,fun b hb hs=>?_,I.stack,I.stkFree⟩
 ·show(relabel sc X.env).kind=.function
  exact eq_of_beq hk
 ·exact c2 x (uN nocell hx)
 ·cases hx
 ·show b≠C
  obtain⟨o,e⟩:=hfo b hb
  exact ne_of_lt (lt_of_lt_of_le (Heap.lt_size e) hC)
 ·obtain⟨_,_,_,_,h5,_⟩:=hf b hb
  exact h5 x c (c1 x c h)
 ·obtain⟨_,_,_,h4,_,_⟩:=hf b hb
  rcases h4 with h4|h4
  ·exact I.ok.noex b o e h4
  ·exact absurd (lt_of_lt_of_le (Heap.lt_size (I.ok.bs b o e).1) h4) (lt_irrefl _)
 ·obtain⟨_,h2,h3,_⟩:=hf b hb
  rcases mem_cons.mp (I.stkSub b hs)with z|z
  ·exact h2 z
  ·exact h3 z
theorem Un.grow{fs ex:List Addr}{H H':Hp}{h h':Heap}{D:Addr}{o:HO}(u:Un fs ex H H' h h')(hD:h.objs.size<=D)(hn:H D=none):Un fs ex H (upd H' D o) h h':=by
 have lt:∀ {b:Addr} {ob:Obj},h.get? b=some ob->b≠D:=fun e z=>by
  subst z;exact absurd (lt_of_lt_of_le (Heap.lt_size e) hD) (lt_irrefl _)
 refine⟨u.keep,u.slot,fun b ob e n hx=>by rw[aD (lt e)];exact u.free b ob e n hx,u.there,fun b xs e=>?_,fun b ob v e=>?_,fun b ps e=>?_⟩
 ·rw[aD (aF e hn)];exact u.tups b xs e
 ·rw[aD (aF e hn)];exact u.frzs b ob v e
 ·obtain⟨m,q⟩:=u.tbls b ps e
  exact⟨m,by rw[aD (aF e hn)];exact q⟩
theorem HOk.grow{P:Program}{w:World}{H:Hp}{h:Heap}{D:Addr}{o:HO}(x:HOk P w H h)(hn:H D=none)(new:bD P w (upd H D o) h D o):HOk P w (upd H D o) h:=fun b u e=>by
 by_cases hb:b=D
 ·subst hb;rw[ao]at e;cases e;exact new
 ·rw[aD hb]at e
  exact(x b u e).stay (fun _ _ _ q=>q) (fun c q=>by rw[aD (aF q hn)];exact q) fun c xs q=>by rw[aD (aF q hn)];exact q
theorem Cr{ix:List (Option Nat)}{σ:St}{i:Nat}{v:V}(h:(lift ix σ)[i]? = some (some v)):∃ k,ix[i]? = some (some k)/\σ[k]? = some (some v):=by
 unfold lift at h
 rw[getElem?_map]at h
 cases e:ix[i]? with
 | none=>rw[e]at h;cases h
 | some o =>
  rw[e]at h
  cases o with
  | none=>simp at h
  | some k =>
   refine⟨k,rfl,?_⟩
   simp only[map_some,bind_some,Option.some.injEq]at h
   cases q:σ[k]? with
   | none=>rw[q]at h;cases h
   | some z=>rw[q]at h;have h':z=some v:=h;rw[h']
theorem vU {el tg src:Expr} {ifs:List Expr} {pos:Pos} {g:TG} {tf:TT} {te:TE} {J:It} {fp:List Addr} {it:Addr} {tn:Nat -> Heap -> Prop} {E:EV} {Fin:List V -> Hp -> Prop} {RR:Value -> Addr -> Result -> Shared -> Prop}
  (I:Inv X pins σ H2 s2) (hc:X.calm = true) (hb:m7 X.env.scope X.N N ix sc = true) (c1:∀ x c,cl.lookup x = some c -> X.env.cells.lookup x = some c) (c2:∀ x,(x,NameKind.free) ∈ sc.names -> ∃ c,cl.lookup x = some c)
  (T:Turn X.prog X.w X.K tg J fp it tn) (st:tn 0 s2.heap) (hf:∀ b ∈ fp,qd X pins H2 b)
  (hg:∀ C fp,PG (blk X N sc cl C fp s2 H2) tg g) (hfs:∀ C fp,PF (blk X N sc cl C fp s2 H2) ifs tf) (he:∀ C fp,PE (blk X N sc cl C fp s2 H2) el te)
  (hW:qj g tf te J (lift ix σ) H2 Fin)
  (hRR:∀ D C s' ys H',H' D = none -> (∃ m,s'.heap.Ns C m) -> Inv X pins σ (upd H' D (.lst ys)) s' -> qd X pins (upd H' D (.lst ys)) C -> Fin ys H' -> RR (.ref D) C (.ok .next) s') :
  wpAny (model X.prog X.w) X.A (newList []) (fun acc s3=>wpAny (model X.prog X.w) X.A (newFunctionEnv sc X.env.globals cl [] X.env.qual none .none (some X.env)) (fun cenv s4 =>
   codeAny (model X.prog X.w) X.A (.compStart (.ListComp el [⟨tg,src,ifs,0⟩] sc pos) 0 (.ref it) acc { cenv with scope:=relabel sc X.env }) (RR acc cenv.locals) s4) E s3) E s2:=by
 obtain ⟨W,⟨m0,w0⟩,turn⟩:=hW
 have hb':=hb
 unfold m7 at hb'
 simp only [and_eq_true] at hb'
 obtain ⟨⟨hk,hn⟩,hi⟩:=hb'
 have nocell:∀ y ∈ sc.names,y.2 ≠ NameKind.cell:=fun y hy=>by
  have:=all_eq_true.mp hn y hy
  simp only [and_eq_true] at this
  simpa using this.1.1
 have hkind:sc.kind = .function:=eq_of_beq hk
 refine wpAny_newObj_type (wpAny_newFunctionEnv nocell (by intro y hy; simp at hy) (fun h1 hns hsb=>?_) hkind)
 dsimp only at hns hsb ⊢
 generalize hP:s2.heap.push { cls:=.type "list",dict:=none,data:=.seq ([]:List Value).toArray } = P2 at hns hsb ⊢
 have hC:P2.objs.size = s2.heap.objs.size + 1:=by rw [<- hP,Heap.size_push]
 have hDC:s2.heap.objs.size ≠ P2.objs.size:=by rw [hC]; exact ne_of_lt (lt_succ_self _)
 have hCle:s2.heap.objs.size <= P2.objs.size:=by rw [hC]; omega
 have fpo:∀ b ∈ fp,∃ o,s2.heap.get? b = some o:=fun b hb=>let ⟨o,e,_⟩:=T.obj _ _ st b hb; ⟨o,e⟩
 have old:∀ b o,s2.heap.get? b = some o -> h1.get? b = some o:=fun b o e=>by
  refine (hsb.2 b ?_).trans (Heap.get?_push_of_some _ (hP ▸ Heap.get?_push_of_some _ e))
  rw [hC]; exact ne_of_lt (lt_succ_of_lt (Heap.lt_size e))
 have hacc:h1.get? s2.heap.objs.size = some { cls:=.type "list",dict:=none,data:=.seq ([]:List Value).toArray } :=
  (hsb.2 _ hDC).trans (Heap.get?_push_of_some _ (hP ▸ Heap.get?_push_size _ rfl))
 have bok:(blk X N sc cl P2.objs.size fp s2 H2).Ok:=Mp I hb c1 c2 hf fpo hCle
 have frD:∀ {b:Addr},s2.heap.objs.size <= b -> b ∉ frs X.stack:=fun hb hz=>by
  rcases mem_cons.mp (I.stkSub _ hz) with z | z
  ·exact absurd (z ▸ hb) (Nat.not_le.mpr I.lt)
  ·exact I.nofs hb z
 have cellD:∀ x c,cl.lookup x = some c -> c < s2.heap.objs.size:=fun x c e=>by
  obtain ⟨v,q⟩:=I.cell x c (c1 x c e)
  exact q.lt
 have I0:Inv (blk X N sc cl P2.objs.size fp s2 H2) [(s2.heap.objs.size,{ cls:=.type "list",dict:=none,data:=.seq ([]:List Value).toArray })] (lift ix σ) H2 { s2 with heap:=h1,toks:=s2.toks + ([]:List (Str × Value)).length }:=by
  refine ⟨bok,rfl,I.bare,Un.kept old,⟨_,hns,fun i x v e1 e2 e3=>?_⟩,fun x c e=>?_,I.hok.fresh hCle,fun x c e=>I.freeC x c (c1 x c e),fun p hp=>?_,I.hok.kept old,?_⟩
  ·obtain ⟨k,q1,q2⟩:=Cr e2
   obtain ⟨y,z1,z2,z3⟩:=tR i k hi q1
   have e1':N[i]? = some x:=e1
   rw [e1'] at z1
   cases z1
   have hin:(x,NameKind.free) ∈ sc.names:=PySem.mem_of_lookup z3
   obtain ⟨c,hcl⟩:=c2 x hin
   have okind:X.env.scope.names.lookup x = some .cell \/ X.env.scope.names.lookup x = some .free:=by
    have:=all_eq_true.mp hn _ hin
    simp only [and_eq_true] at this
    simpa using this.2
   obtain ⟨m,hm,hl⟩:=I.loc
   obtain ⟨u,r,l⟩:=hl k x v z2 q2 (by rcases okind with z | z; exact .inr (.inl z); exact .inr (.inr z))
   refine ⟨u,r,.inr ⟨pJ z3,c,hcl,?_⟩⟩
   rcases l with ⟨lk,_⟩ | ⟨_,c',hc',z⟩
   ·have lk':X.env.scope.names.lookup x = some .local:=lk
    rcases okind with q | q <;> rw [q] at lk' <;> cases lk'
   ·rw [c1 x c hcl] at hc'
    cases hc'
    obtain ⟨oc,ho,hd⟩:=z
    exact ⟨oc,old _ _ ho,hd⟩
  ·obtain ⟨v,oc,ho,hd⟩:=I.cell x c (c1 x c e)
   exact ⟨v,oc,old _ _ ho,hd⟩
  ·have hp':p = (s2.heap.objs.size,{ cls:=.type "list",dict:=none,data:=.seq ([]:List Value).toArray }):=by
    rcases mem_append.mp hp with z | z
    ·exact absurd (show p ∈ ([]:OP) from z) Z2
    ·simpa using z
   subst hp'
   exact ⟨hacc,I.fresh,hDC,frD (le_refl _),fun v z=>by cases z⟩
  ·show (lift ix σ).length = N.length
   unfold lift
   rw [length_map]
   exact qG hi
 have stat:∀ {o:Obj} {H':Hp},(∀ b ∈ fp,H' b = none) -> ∀ b ∈ fp,qd (blk X N sc cl P2.objs.size fp s2 H2) [(s2.heap.objs.size,o)] H' b:=fun {o H'} hz b hb=>by
  obtain ⟨_,g2,g3,g4,g5,g6⟩:=hf b hb
  obtain ⟨ob,eb⟩:=fpo b hb
  have lb:=Heap.lt_size eb
  refine ⟨hz b hb,?_,?_,.inl hb,fun x c e=>g5 x c (c1 x c e),fun p hp=>?_⟩
  ·show b ≠ P2.objs.size
   rw [hC]; exact ne_of_lt (lt_succ_of_lt lb)
  ·intro hz
   rcases mem_cons.mp (I.stkSub b hz) with z | z
   ·exact g2 z
   ·exact g3 z
  ·have hp':p = (s2.heap.objs.size,o):=by
    rcases mem_append.mp hp with z | z
    ·exact absurd (show p ∈ ([]:OP) from z) Z2
    ·simpa using z
   subst hp'
   show s2.heap.objs.size ≠ b
   exact ne_of_gt lb
 have loop:∀ s4:Shared,s4 = { s2 with heap:=h1,toks:=s2.toks + ([]:List (Str × Value)).length } ->
   codeAny (model X.prog X.w) X.A (.compLoop (.ListComp el [⟨tg,src,ifs,0⟩] sc pos) 0 (.ref it) (.ref s2.heap.objs.size) (compEnvC sc cl P2.objs.size X.env)) (RR (.ref s2.heap.objs.size) P2.objs.size) s4:=by
  rintro s4 rfl
  refine Lr (fun n s'=>∃ (i:Nat) (τ:St) (ys:List V) (its:List Value) (k:Nat) (H':Hp),Vals ys its /\ ys.length <= sizeLine /\
    Inv (blk X N sc cl P2.objs.size fp s2 H2) [(s2.heap.objs.size,{ cls:=.type "list",data:=.seq its.toArray k })] τ H' s' /\ tn i s'.heap /\ (∀ b ∈ fp,H' b = none) /\ W i n τ ys H') ?_ m0
   ⟨0,_,[],[],0,H2,.nil,zero_le _,I0,T.keep _ _ _ st fun b _ o e=>old b o e,fun b hb=>(hf b hb).1,w0⟩
  rintro n s5 ⟨i,τ,ys,its,k,H5,rv,hz,I5,st5,fr5,w5⟩
  rcases turn i n τ ys H5 w5 with ⟨stop,fin⟩ | ⟨go,step⟩
  ·refine thn (T.done (blk X N sc cl P2.objs.size fp s2 H2) rfl rfl rfl hc i _ s5 τ H5 (fun _ _=>False) I5 (stat fr5) st5 stop) fun r s6 ⟨hr,I6⟩=>?_
   subst hr
   obtain ⟨m,hns6,_⟩:=I6.loc
   obtain ⟨gD,fD,_,_,_⟩:=I6.pin (s2.heap.objs.size,{ cls:=.type "list",data:=.seq its.toArray k }) (mem_append_right _ Z2)
   have fD':H5 s2.heap.objs.size = none:=fD
   refine hRR _ _ s6 ys H5 fD' ⟨m,hns6⟩ ?_ (I.fpOk hCle ?_) fin
   ·refine I.call' (ch:=fp) I6.os (Un.grow I6.base (le_refl _) I.fresh) (HOk.grow I6.hok fD' ⟨hz,its,k,rv,gD⟩) I6.bare fun b hb=>?_
    obtain ⟨_,g2,_,g4,g5,g6⟩:=hf b hb
    exact ⟨g4,g2,g5,g6⟩
   ·rw [aD (Ne.symm hDC)]
    exact I6.free
  ·refine thn (T.item (blk X N sc cl P2.objs.size fp s2 H2) rfl rfl rfl hc i _ s5 τ H5 (fun _ _=>False) I5 (stat fr5) st5 go) fun r s6 ⟨u,hr,h6⟩=>?_
   subst hr
   refine thn h6 fun _ s7 ⟨x,H7,I7,r7,y7,st7,fr7⟩=>?_
   have I7':=I7.pinned (stat fr7) (T.obj _ _ st7)
   refine thn (hg _ _ _ s7 τ H7 x u _ I7' r7 (step x H7 y7)) fun _ s8 ⟨τ8,H8,I8,q8⟩=>?_
   refine thn (hfs _ _ _ s8 τ8 H8 _ I8 q8) fun ok s9 ⟨H9,I9,q9⟩=>?_
   have tail:∀ {s':Shared} {τ':St} {H':Hp},Inv (blk X N sc cl P2.objs.size fp s2 H2) ([(s2.heap.objs.size,{ cls:=.type "list",data:=.seq its.toArray k })] ++ rF fp s7.heap) τ' H' s' ->
     (s'.heap.get? s2.heap.objs.size = some { cls:=.type "list",data:=.seq its.toArray k } /\ H' s2.heap.objs.size = none) /\ (∀ b ∈ fp,∀ o,s7.heap.get? b = some o -> s'.heap.get? b = some o) /\ ∀ b ∈ fp,H' b = none:=fun {s' τ' H'} I'=>by
    refine ⟨?_,fun b hb o e=>(I'.pin (b,o) (mem_append_right _ (mem_append_right _ (gm hb e)))).1,fun b hb=>?_⟩
    ·obtain ⟨a1,a2,_⟩:=I'.pin (s2.heap.objs.size,{ cls:=.type "list",data:=.seq its.toArray k }) (mem_append_right _ (mem_append_left _ Z2))
     exact ⟨a1,a2⟩
    ·obtain ⟨o,e,_⟩:=T.obj _ _ st7 b hb
     exact (I'.pin (b,o) (mem_append_right _ (mem_append_right _ (gm hb e)))).2.1
   cases ok with
   | false =>
    obtain ⟨m',hm,w9⟩:=q9
    obtain ⟨_,k2,k3⟩:=tail I9
    exact ⟨m',hm,i + 1,τ8,ys,its,k,H9,rv,hz,I9.unpinned,T.keep _ _ _ st7 k2,k3,w9⟩
   | true =>
    refine thn (he _ _ _ s9 τ8 H9 _ I9 q9) fun v s10 ⟨y,H10,I10,r10,hl,m',hm,w10⟩=>?_
    obtain ⟨⟨gD,fD⟩,k2,k3⟩:=tail I10
    have hlen:=rv.length
    refine call_meets F.slot_list_append ⟨_,gD,rfl⟩ F.entry_list_append (F.args_list_append_2 _ _) (list_append s2.heap.objs.size its.toArray k v (by rw [size_toArray]; omega)) ⟨gD,?_⟩
    obtain ⟨k',q⟩:∃ k',(s10.heap.update s2.heap.objs.size (Obj.mapSeq (·.push v))).get? s2.heap.objs.size = some { cls:=.type "list",data:=.seq (its ++ [v]).toArray k' }:=by
     have q:=PySem.IsL.update gD (·.push v)
     rw [show (its.toArray.push v) = (its ++ [v]).toArray from by simp] at q
     exact ⟨_,q⟩
    have other:∀ b o,b ≠ s2.heap.objs.size -> s10.heap.get? b = some o -> (s10.heap.update s2.heap.objs.size (Obj.mapSeq (·.push v))).get? b = some o:=fun b o hb e=>(Heap.get?_update_other s10.heap _ (Ne.symm hb)).trans e
    have Ia:Inv (blk X N sc cl P2.objs.size fp s2 H2) [] τ8 H10 { s10 with heap:=s10.heap.update s2.heap.objs.size (Obj.mapSeq (·.push v)),toks:=s10.toks } :=
     (I10.pins_of (pins':=[]) fun p hp=>nomatch hp).turned other fD hDC (.inr (le_refl _)) (fun x c e=>ne_of_lt (cellD x c e)) fun p hp=>absurd (show p ∈ ([]:OP) from hp) Z2
    refine ⟨m',hm,i + 1,τ8,ys ++ [y],its ++ [v],k',H10,rv.append (.cons r10 .nil),by rw [length_append,length_singleton]; omega,?_,T.keep _ _ _ st7 fun b hb o e=>?_,k3,w10⟩
    ·refine Ia.pins_of fun p hp=>?_
     have hp':=mem_singleton.mp hp
     subst hp'
     exact ⟨q,fD,hDC,frD (le_refl _),fun v z=>by cases z⟩
    ·obtain ⟨ob,eb⟩:=fpo b hb
     exact other b o (ne_of_lt (Heap.lt_size eb)) (k2 b hb o e)
 exact codeAny_compStart_list (loop _ rfl) (T.self X.A 0 _ _ _ (T.keep _ _ _ st fun b _ o e=>old b o e) (loop _ rfl))
end
section
variable {X:Cx} {N:List Str} {ix:List (Option Nat)} {sc:Scope} {el tg src:Expr} {ifs:List Expr} {wi:TI} {g:TG} {tf:TT} {te:TE} {pos:Pos}
theorem Inv.clos{pins:OP}{σ:St}{H:Hp}{s:Shared}(I:Inv X pins σ H s)(hb:m7 X.env.scope X.N N ix sc=true) :
  ∃ cl:List (Str×Addr),closureFor sc X.env=pure cl/\(∀ x c,cl.lookup x=some c->X.env.cells.lookup x=some c)/\∀ x,(x,NameKind.free)∈sc.names->∃ c,cl.lookup x=some c:=by
 refine Cd fun y hy hf=>I.ok.has y.1 ?_
 unfold m7 at hb
 simp only[and_eq_true]at hb
 have:=all_eq_true.mp hb.1.2 y hy
 simp only[and_eq_true]at this
 have h2:=this.2
 rw[hf]at h2
 have h3:X.env.scope.names.lookup y.1=some .cell\/X.env.scope.names.lookup y.1=some .free:=by simpa using h2
 exact h3
theorem vY(hb:m7 X.env.scope X.N N ix sc=true):sc.kind=.function/\∀ y∈sc.names,y.2=.local->sc.names.lookup y.1=some .local:=by
 unfold m7 at hb
 simp only[and_eq_true]at hb
 refine⟨eq_of_beq hb.1.1,fun y hy hl=>?_⟩
 have:=all_eq_true.mp hb.1.2 y hy
 simp only[and_eq_true]at this
 have h2:=this.1.2
 rw[hl]at h2
 simpa using h2
theorem bJ(ix:List (Option Nat))(hc:X.calm=true)(hb:m7 X.env.scope X.N N ix sc=true)(hi:PI X tg src wi)
  (hg:∀ cl C fp s H,PG (blk X N sc cl C fp s H) tg g)(hf:∀ cl C fp s H,PF (blk X N sc cl C fp s H) ifs tf)(he:∀ cl C fp s H,PE (blk X N sc cl C fp s H) el te)
  (hs:∀ x,foldedSetIterable src X.env x=pure x:=by intro _;rfl):PE X (.ListComp el [⟨tg,src,ifs,0⟩] sc pos) (CN ix wi g tf te):=by
 intro pins s σ H Q I h
 obtain⟨cl,hcl,c1,c2⟩:=I.clos hb
 obtain⟨hk,hn⟩:=vY hb
 rw[eval_ListComp]
 refine wpAny_comprehension_free (use:=none) rfl hs hcl hk hn (thn (hi pins s σ H _ I h) fun xv s1 h1=>thn h1 fun itv s2 h2=>?_)
 obtain⟨it,fp,tn,J,H2,rfl,I2,T,st,f2,hW⟩:=h2
 refine vU (RR:=fun acc C=>compPost (model X.prog X.w) X.A X.xe none (EP X pins σ Q) acc C) I2 hc hb c1 c2 T st f2 (fun C fp=>hg cl C fp s2 H2) (fun C fp=>hf cl C fp s2 H2) (fun C fp=>he cl C fp s2 H2) hW ?_
 intro D C s' ys H' hD ⟨m,hm⟩ I' fC fin
 refine⟨m,hm,fun h' hs'=>⟨.ref D,_,?_,rfl,fin D hD⟩⟩
 obtain⟨g1,g2,_,g4,g5,g6⟩:=fC
 exact I'.turned (t':=s'.toks) (fun b o hb e=>(hs'.2 b hb).trans e) g1 g2 g4 g5 g6
theorem JK (ix:List (Option Nat)) {i:Nat} {x:Str} {pos' spos:Pos} (hN:X.N.Nodup) (hxi:X.N[i]? = some x) (hx:Loc X.env.scope x) (hc:X.calm = true) (hb:m7 X.env.scope X.N N ix sc = true) (hi:PI X tg src wi)
  (hg:∀ cl C fp s H,PG (blk X N sc cl C fp s H) tg g) (hf:∀ cl C fp s H,PF (blk X N sc cl C fp s H) ifs tf) (he:∀ cl C fp s H,PE (blk X N sc cl C fp s H) el te)
  (hsw:swapsWith (.ListComp el [⟨tg,src,ifs,0⟩] sc pos) (some (.Name x pos')) spos.line X.env = pure true:=by rfl)
  (hfn:X.fn x = true \/ X.env.scope.names.lookup x = some .local:=by first | exact .inl rfl | exact .inr rfl | assumption)
  (hs:∀ x,foldedSetIterable src X.env x = pure x:=by intro _; rfl):PS X (.Assign [.Name x pos'] (.ListComp el [⟨tg,src,ifs,0⟩] sc pos) spos) (Aa (CN ix wi g tf te) (iV i)):=by
 intro pins s σ H D0 I h
 obtain ⟨cl,hcl,c1,c2⟩:=I.clos hb
 obtain ⟨hk,hn⟩:=vY hb
 rw [exec_Assign_Name_used _ _ _ _ hsw]
 refine wpAny_bind (wpAny_standAt (wpAny_bind ?_))
 show wpAny _ X.A (do let _ <- comprehension (.ListComp el [⟨tg,src,ifs,0⟩] sc pos) sc X.env _ (newList []) false (eval src X.env) (some (assign (.Name x pos') X.env))) _ _ s
 refine wpAny_bind (thn (wpAny_comprehension_free (use:=some (assign (.Name x pos') X.env)) (Q:=fun _ s'=>SP X pins D0 .next s') rfl hs hcl hk hn (thn (hi pins s σ H _ I h) fun xv s1 h1=>thn h1 fun itv s2 h2=>?_)) fun _ s' hq=>wpAny_pure (wpAny_pure hq))
 obtain ⟨it,fp,tn,J,H2,rfl,I2,T,st,f2,hW⟩:=h2
 refine vU (RR:=fun acc C=>compPost (model X.prog X.w) X.A X.xe (some (assign (.Name x pos') X.env)) (fun _ s'=>SP X pins D0 .next s') acc C) I2 hc hb c1 c2 T st f2 (fun C fp=>hg cl C fp s2 H2) (fun C fp=>hf cl C fp s2 H2) (fun C fp=>he cl C fp s2 H2) hW ?_
 intro D C s' ys H' hD ⟨m,hm⟩ I' fC fin
 obtain ⟨g1,g2,_,g4,g5,g6⟩:=fC
 show wpAny _ X.A (assign (.Name x pos') X.env (.ref D)) _ _ _
 refine wpAny_assign_Name (vP (v:=.ref D) I' hN hxi hx rfl (fun s'' I'' ⟨a,sb,ha⟩=>?_) hfn)
 have hCa:C ≠ a:=by
  rcases ha with z | z
  ·rw [z]; exact g2
  ·exact fun e=>g5 x a z e.symm
 refine ⟨m,hm.sameBut sb hCa,fun h' hs'=>⟨_,_,I''.turned (t':=s''.toks) (fun b o hb e=>(hs'.2 b hb).trans e) g1 g2 g4 g5 g6,fin D hD⟩⟩
end
theorem uH {lo:Int} {n:Nat} {tf:TT} {te:TE} {τ0:St} {H:Hp} {Fin:List V -> Hp -> Prop} (f:Nat -> V) (hn:n <= sizeLine)
  (hte:∀ i H' Q,i < n -> az H H' -> (∀ H'',az H' H'' -> Q (f i) H'') -> tf (τ0.set 0 (some (.int (lo + i)))) H' fun b H3=>b = true /\ te (τ0.set 0 (some (.int (lo + i)))) H3 Q)
  (mono:∀ τ H Q Q',(∀ b H1,Q b H1 -> Q' b H1) -> tf τ H Q -> tf τ H Q')
  (hfin:∀ H',az H H' -> Fin ((List.range n).map f) H'):qj (iV 0) tf te (Itr lo n) τ0 H Fin:=by
 refine ⟨fun i m τ ys H'=>m = n - i /\ i <= n /\ ys = (List.range i).map f /\ az H H' /\ ∃ v,τ = τ0.set 0 v \/ τ = τ0,⟨n,rfl,zero_le _,rfl,az.refl _,none,.inr rfl⟩,?_⟩
 rintro i m τ ys H' ⟨rfl,hi,rfl,sm,v,hτ⟩
 by_cases hlt:i < n
 ·refine .inr ⟨hlt,fun x H'' y=>?_⟩
  obtain ⟨e,y⟩:=y
  subst e y
  have e2:τ.set 0 (some (V.int (lo + i))) = τ0.set 0 (some (V.int (lo + i))):=by
   rcases hτ with rfl | rfl
   ·rw [set_set]
   ·rfl
  show tf (τ.set 0 (some (V.int (lo + i)))) H'' _
  rw [e2]
  refine mono _ _ _ _ ?_ (hte i H'' (fun y H4=>((List.range i).map f).length < sizeLine /\ ∃ m',m' < n - i /\ (m' = n - (i + 1) /\ i + 1 <= n /\ (List.range i).map f ++ [y] = (List.range (i + 1)).map f /\ az H H4 /\ ∃ v,τ0.set 0 (some (V.int (lo + i))) = τ0.set 0 v \/ τ0.set 0 (some (V.int (lo + i))) = τ0)) hlt sm fun H4 s4=>?_)
  ·rintro b H1 ⟨rfl,q⟩
   rw [if_pos rfl]
   exact q
  ·refine ⟨by rw [length_map,length_range]; omega,n - (i + 1),Z1,rfl,hlt,by rw [List.range_succ,map_append]; rfl,sm.trans s4,_,.inl rfl⟩
 ·have e:i = n:=by omega
  subst e
  exact .inl ⟨le_refl _,hfin H' sm⟩
theorem fZ{c A B:Prop}[Decidable c](h1:c->A)(h2:¬c->B):if decide c=true then A else B:=by
 by_cases h:c
 ·rw[if_pos (decide_eq_true h)];exact h1 h
 ·rw[if_neg (by simpa using h)];exact h2 h
theorem OJ{i j:Int}{A B:Prop}(h1:i=j->A)(h2:¬i=j->B):if decide (V.int i=V.int j)=true then A else B :=
 fZ (fun h=>h1 (V.int.inj h)) fun h=>h2 fun e=>h (congrArg V.int e)
theorem Ln{x y:V}{A B:Prop}(e:x=y)(h:B):if(!decide (x=y))=true then A else B:=by
 rw[if_neg (by simp[e])];exact h
theorem az.new{H:Hp}{p:Addr}{o:HO}(h:H p=none):az H (upd H p o):=fun b u e=>by
 rw[aD (aF e h)];exact e
theorem az.put{H H':Hp}{p:Addr}{o:HO}(s:az H H')(h:H' p=none):az H (upd H' p o):=s.trans (az.new h)
theorem az.over{H H':Hp}{p:Addr}{o:HO}(s:az H H')(h:H p=none):az H (upd H' p o):=fun b u e=>by
 rw[aD (aF e h)];exact s b u e
structure FnAt(K:Frag)(mg:MG)(x:Str)(st:Stmt)(ps:List Str)(f:Addr)(fd:FuncData):Prop where
 F:Fun K x x st f fd
 b:Binds K fd ps []
 m:mg x=some (.ref f)
section
variable {X:Cx} {k:Nat} {f:Addr} {fd:FuncData} {ps:List Str} {sp:Sp} {x:Str} {st:Stmt} {p pos:Pos} {e:Expr} {es:List Expr} {t:TA}
theorem aY(A:FnAt X.K X.mg x st ps f fd)(G:aK X.prog X.w X.K X.mg X.base CX0 k f fd ps sp)(hr:aP k X.A)(ha:PA X (e::es) t)(hg:Gl X x:=by rfl)
  (hdb:(x==("__debug__" : Str))=false:=by decide)(he:starEach (e::es) X.env=(false,eval e X.env)::starEach es X.env:=by rfl)(hpl:(backTo pos (starEach es X.env)).any (·.1)=false:=by rfl) :
  PE X (.Call (.Name x p) (e::es) [] pos) (K7 sp [] E0 t):=JH G hr hg A.m A.F.kp A.b .nil nP ha hdb he hpl
end
def Pur(v:V)(H:Hp)(Q:VK):Prop:=∀ H',az H H'->Q v H'
end L2
namespace Mine
open PySem PySem.Spec PyProof.Rows L2
def pB:Sp:=fun vs H Q _=>∃ (c k m:Int),vs=[.int c,.int k,.int m]/\0<=k/\k<40/\0<m/\Pur (.int (pick c k m)) H Q
end Mine
namespace L2
open PySem PySem.Spec PyProof.Rows
section
variable {X:Cx}
theorem NT{bs:List Bool}:∀ {us:List Value} {i:Nat} {v:Value},Vals (bs.map V.bl) us->us[i]? = some v->v=.bool (bs.getD i false):=by
 induction bs with
 | nil=>intro us i v r h;rw[map_nil]at r;cases r;simp at h
 | cons b bs ih =>
  intro us i v r h
  rw[map_cons]at r
  cases r with
  | cons r1 r2 =>
   cases i with
   | zero =>
    have r1':_=Value.bool b:=r1
    simp at h
    rw[<- h,r1']
    rfl
   | succ i=>exact ih r2 (by simpa using h)
theorem range_any(bs:List Bool):(List.range bs.length).any (fun i=>bs.getD i false)=bs.any id:=by
 have e:(List.range bs.length).map (fun i=>bs.getD i false)=bs:=by
  apply ext_getElem
  ·simp
  ·intro i h1 h2
   simp[List.getD_eq_getElem?_getD,h2]
 conv=>rhs;rw[<- e]
 rw[List.any_map];rfl
def Rw(K:Frag)(f:List Bool->Bool):List V->Hp->VK->Prop:=fun xs H Q=>∃ p bs,xs=[.ref p]/\SqL K H p (bs.map V.bl)/\Q (.bl (f bs)) H
end
section
variable {X:Cx} {K:Frag}
theorem uK(h:X.K=K):MtR X "str.join" (rJoin K):=by subst h;exact yq
theorem uw(h:X.K=K):SlR X (Oq K):=by subst h;exact oh
theorem zG(h:X.K=K):IxR X (Ox K):=by subst h;exact bu
theorem ym(h:X.K=K):IxR X (PK K):=by subst h;exact Ah
theorem zr{tg l:Expr}{tl:TE}(h:X.K=K)(hl:PE X l tl):PI X tg l (Lg K tl):=by subst h;exact aR hl
variable {o e:Expr} {es:List Expr} {to:TE} {t:TA} {name:Str} {apos cpos:Pos} {T id:String} {r:V->List V->Hp->VK->Prop}
theorem xU(h:X.K=K)(pa:PlainAttrs T)(slot:Slot T name id)(hty:typeOf (.builtin id)=pure (.type "method_descriptor"))(hm:MtR X id r)(ho:PE X o to)(ha:PA X (e::es) t)
  (hbase:attributeBase o name X.env (eval o X.env)=eval o X.env:=by rfl)
  (hfew:((backTo cpos (starEach (e::es) X.env)).all (fun x=>!x.1)&&(backToKw cpos (keywordEach [] X.env)).all (fun x=>x.1.isSome)
   && decide ((e::es).length+([]:List Keyword).length+(if([]:List Keyword).isEmpty then 0 else 1)<30))=true:=by rfl)
  (hline:(apos.endLine==cpos.line)=true:=by rfl)(hs:starEach (e::es) X.env=(false,eval e X.env)::starEach es X.env:=by rfl)(hplain:(backTo cpos (starEach es X.env)).any (·.1)=false:=by rfl) :
  PE X (.Call (.Attribute o name apos) (e::es) [] cpos) (tBM K T r to t):=by
 subst h
 exact fW pa slot hty hm ho ha hbase hfew hline hs hplain
end
structure QS(X:Cx)(st:Stmt)(t:TS):Prop where
 h:PS X st t
structure QSs(X:Cx)(st:List Stmt)(t:TS):Prop where
 h:PSs X st t
section
variable {X:Cx} {st:Stmt} {rest:List Stmt} {t u:TS} {e:Expr} {te:TE} {pos:Pos}
theorem aU:QSs X [] Lw:=⟨wN⟩
theorem au(h1:QS X st t)(h2:QSs X rest u):QSs X (st::rest) (PQ t u):=⟨gY h1.h h2.h⟩
theorem aA(h1:QS X st t):QSs X [st] t:=⟨qJ h1.h⟩
theorem p6:QS X st Ir:=⟨Hz⟩
theorem cU(he:PE X e te)(hs:swapsWith e none pos.line X.env=pure false:=by rfl):QS X (.Expr e pos) (KY te):=⟨Ko he hs⟩
theorem aL(he:PE X e te):QS X (.Return (some e) pos) (Pg te):=⟨uC he⟩
theorem bG{c:Expr}{a b:List Stmt}{tc:TT}(hc:PT X c tc)(ha:QSs X a t)(hb:QSs X b u):QS X (.If c a b pos) (Qc tc t u):=⟨Iw hc ha.h hb.h⟩
theorem bY{tg iter:Expr}{body:List Stmt}{wi:TI}{g:TG}{tb:TS}(hp:PassesOwn (model X.prog X.w) X.A X.env X.xe)(hc:X.calm=true)(hi:PI X tg iter wi)(hg:PG X tg g)(hb:QSs X body tb)(hs:∀ x,foldedSetIterable iter X.env x=pure x:=by intro _;rfl):QS X (.For tg iter body [] pos) (Qf wi g tb):=⟨MJ hp hc hi hg hb.h hs⟩
theorem GC{tg:Expr}{g:TG}(he:PE X e te)(hg:PG X tg g)(hs:swapsWithSole [tg] e pos.line X.env=pure false:=by rfl)(hw:swappedStores [tg] e X.env=pure none:=by rfl)
  (h1:(assignEach [tg] X.env).map (·.2)=[assign tg X.env]:=by rfl):QS X (.Assign [tg] e pos) (Aa te g):=⟨Np he hg hs hw h1⟩
theorem aO {i:Nat} {x:Str} {pos':Pos} (hN:X.N.Nodup) (hi:X.N[i]? = some x) (hx:Loc X.env.scope x) (he:PE X e te) (hs:swapsWith e (some (.Name x pos')) pos.line X.env = pure false:=by rfl) (hf:X.fn x = true \/ X.env.scope.names.lookup x = some .local:=by first | exact .inl rfl | exact .inr rfl | assumption) :
  QS X (.Assign [.Name x pos'] e pos) (Aa te (iV i)):=⟨pX hN hi hx he hs hf⟩
end
section
variable {X:Cx} {N:List Str} {sc:Scope} {el tg src:Expr} {ifs:List Expr} {wi:TI} {g:TG} {tf:TT} {te:TE} {pos:Pos}
theorem iQ (ix:List (Option Nat)) {i:Nat} {x:Str} {pos' spos:Pos} (hN:X.N.Nodup) (hxi:X.N[i]? = some x) (hx:Loc X.env.scope x) (hc:X.calm = true) (hb:m7 X.env.scope X.N N ix sc = true) (hi:PI X tg src wi)
  (hg:∀ cl C fp s H,PG (blk X N sc cl C fp s H) tg g) (hf:∀ cl C fp s H,PF (blk X N sc cl C fp s H) ifs tf) (he:∀ cl C fp s H,PE (blk X N sc cl C fp s H) el te)
  (hsw:swapsWith (.ListComp el [⟨tg,src,ifs,0⟩] sc pos) (some (.Name x pos')) spos.line X.env = pure true:=by rfl)
  (hfn:X.fn x = true \/ X.env.scope.names.lookup x = some .local:=by first | exact .inl rfl | exact .inr rfl | assumption)
  (hs:∀ x,foldedSetIterable src X.env x = pure x:=by intro _; rfl):QS X (.Assign [.Name x pos'] (.ListComp el [⟨tg,src,ifs,0⟩] sc pos) spos) (Aa (CN ix wi g tf te) (iV i)) :=
 ⟨JK ix hN hxi hx hc hb hi hg hf he hsw hfn hs⟩
end
structure QA(X:Cx)(es:List Expr)(t:TA):Prop where
 h:PA X es t
section
variable {X:Cx} {e:Expr} {es:List Expr} {te:TE} {t:TA} {pos:Pos}
theorem Jb:QA X [] Mz:=⟨aq⟩
theorem cF(ha:PE X e te)(hr:QA X es t)(hs:starEach (e::es) X.env=(false,eval e X.env)::starEach es X.env:=by rfl):QA X (e::es) (Lh te t):=⟨ak ha hr.h hs⟩
theorem LR(h:QA X es t):PE X (.List es pos) (Nf t):=bF h.h
end
structure QE(X:Cx)(e:Expr)(t:TE):Prop where
 h:PE X e t
section
variable {X:Cx} {a b e:Expr} {ta tb te:TE} {es:List Expr} {t:TA} {pos:Pos}
theorem Kc(h:QA X es t):QE X (.List es pos) (Nf t):=⟨bF h.h⟩
theorem P0{r:R2}(hr:IxR X r)(ha:QE X a ta)(hb:PE X b tb)(hs:CZ b:=by exact fun _ _=>rfl):QE X (.Subscript a b pos) (tOp r ta tb):=⟨bL hr ha.h hb hs⟩
theorem J8 {i:Nat} {x:Str} {pos':Pos} (hN:X.N.Nodup) (hi:X.N[i]? = some x) (hx:Loc X.env.scope x) (he:QE X e te) (hs:swapsWith e (some (.Name x pos')) pos.line X.env = pure false:=by rfl) (hf:X.fn x = true \/ X.env.scope.names.lookup x = some .local:=by first | exact .inl rfl | exact .inr rfl | assumption) :
  QS X (.Assign [.Name x pos'] e pos) (Aa te (iV i)):=⟨pX hN hi hx he.h hs hf⟩
end
section
variable {X:Cx} {x:Str} {pos:Pos}
theorem JV{y:Int}(h:∃ t,X.mg x=some (.int y t))(hg:Gl X x:=by rfl)(hd:(x==("__debug__" : Str))=false:=by decide):PE X (.Name x pos) (tC (.int y)):=by
 obtain⟨t,e⟩:=h
 exact Dc hg e ⟨t,rfl⟩ hd
end
end L2
namespace Mine
open PySem PySem.Spec PyProof.Rows L2 PySem.Builtin PySem.Builtin.Str
theorem gh(a b:Str):(a++b).length=a.length+b.length:=by rw[gq,gq,gq,cG,length_append]
theorem bO:1000<=sizeLine:=by decide
end Mine
namespace L2
open PySem PySem.Spec PyProof.Rows
theorem eO{b:Bool}{A B:Prop}(e:b=true)(h:A):if b=true then A else B:=by rw[if_pos e];exact h
theorem bI{b:Bool}{A B:Prop}(e:b=false)(h:B):if b=true then A else B:=by rw[if_neg (by rw[e];decide)];exact h
theorem xJ{b:Bool}{A B:Prop}(e:b=true)(h:B):if(!b)=true then A else B:=by rw[if_neg (by rw[e];decide)];exact h
theorem Br{b:Bool}{A B:Prop}(e:b=false)(h:A):if(!b)=true then A else B:=by rw[if_pos (by rw[e];decide)];exact h
end L2
namespace Mine
open PySem PySem.Spec PyProof.Rows L2 PySem.Builtin PySem.Builtin.Str
theorem oX{ys:List Str}(h0:ys≠[])(h:∀ y∈ys,cB y):∃ c∈(dotted ys).cps.toList,97<=c/\c<=122:=by
 cases ys with
 | nil=>exact absurd rfl h0
 | cons y r =>
  have hy:=h y mem_cons_self
  cases e:y.cps.toList with
  | nil=>have:=hy.lo;rw[gq,e]at this;simp at this
  | cons c q =>
   have hc:c∈y.cps.toList:=by rw[e];simp
   refine⟨c,?_,hy.ok c hc⟩
   rw[cI,lB]
   obtain⟨R,e1,_⟩:=pW 46 y.cps.toList (r.map (·.cps.toList))
   rw[map_cons,e1]
   exact mem_append_left _ hc
end Mine
namespace L2
open PySem PySem.Spec PyProof.Rows
inductive DEq(K:Frag)(H:Hp):Nat->V->V->Prop where
 | non {n:Nat}:DEq K H n .non .non
 | bl {n:Nat} (b:Bool):DEq K H n (.bl b) (.bl b)
 | int {n:Nat} (i:Int):DEq K H n (.int i) (.int i)
 | str {n:Nat} (x:Str):DEq K H n (.str x) (.str x)
 | same {n:Nat} (a:Addr):DEq K H n (.ref a) (.ref a)
 | tup {n:Nat} {a b:Addr} {xs ys:List V} (ha:SqT K H a xs) (hb:SqT K H b ys) (hl:xs.length=ys.length) (h:∀ (i:Nat) x y,xs[i]? = some x->ys[i]? = some y->DEq K H n x y):DEq K H (n+1) (.ref a) (.ref b)
 | lst {n:Nat} {a b:Addr} {xs ys:List V} (ha:SqL K H a xs) (hb:SqL K H b ys) (hl:xs.length=ys.length) (h:∀ (i:Nat) x y,xs[i]? = some x->ys[i]? = some y->DEq K H n x y):DEq K H (n+1) (.ref a) (.ref b)
section
variable {X:Cx} {pins:OP} {σ:St} {H:Hp} {s:Shared}
theorem Vals.at{xs:List V}{us:List Value} (r:Vals xs us) {j:Nat} (h:j<us.length):∃ x,xs[j]? = some x/\RelV x us[j]:=by
 have hl:=r.length
 have hx:xs[j]? = some xs[j]:=getElem?_eq_getElem Z1
 obtain⟨u,hu,ru⟩:=r.get hx
 rw[getElem?_eq_getElem h]at hu
 cases hu
 exact⟨_,hx,ru⟩
theorem jT(n:Nat):(List.range n).all (fun _=>true)=true:=by simp
theorem DEq.at(I:Inv X pins σ H s){n:Nat} {x y:V} (d:DEq X.K H n x y):∀ {A:Around} {u v:Value},A.units+n<cLine->RelV x u->RelV y v->SeqAt.EqAt A s u v true:=by
 induction d with
 | non=>intro A u v hu ru rv;cases ru;cases rv;exact SeqAt.EqAt.same _
 | bl b=>intro A u v hu ru rv;cases ru;cases rv;exact SeqAt.EqAt.same _
 | int i =>
  intro A u v hu ru rv
  obtain⟨t,rfl⟩:=ru
  obtain⟨t',rfl⟩:=rv
  have:=SeqAt.EqAt.int_int (A:=A) (s:=s) i t i t'
  rwa [beq_self_eq_true]at this
 | str x =>
  intro A u v hu ru rv
  obtain⟨t,rfl⟩:=ru
  obtain⟨t',rfl⟩:=rv
  have:=SeqAt.EqAt.str_str (A:=A) (s:=s) x t x t'
  rwa [beq_self_eq_true]at this
 | same a=>intro A u v hu ru rv;cases ru;cases rv;exact SeqAt.EqAt.same _
 | @tup n a b xs ys ha hb hl h ih =>
  intro A u v hu ru rv
  cases ru;cases rv
  by_cases hab:a=b
  ·subst hab;exact SeqAt.EqAt.same _
  ·obtain⟨us,r1,p1,_⟩:=I.tuple ha
   obtain⟨ws,r2,p2,_⟩:=I.tuple hb
   have l1:=r1.length
   have l2:=r2.length
   have:=SeqAt.RcAt.tuples (A:=A) (s:=s) (e:=fun _=>true) (show s.heap.IsTuple a us.toArray from p1) (show s.heap.IsTuple b ws.toArray from p2) Z1 fun j h1 h2=>by
    have h1':j<us.length:=by simpa using h1
    have h2':j<ws.length:=by simpa using h2
    obtain⟨x,ex,rx⟩:=r1.at h1'
    obtain⟨y,ey,ry⟩:=r2.at h2'
    exact ih j x y ex ey (A:=A.in1) (show A.units+1+n<cLine by omega) (by simpa using rx) (by simpa using ry)
   rw[jT,show(us.toArray.size==ws.toArray.size)=true from by simp;omega]at this
   exact SeqAt.EqAt.of_refs hab this
 | @lst n a b xs ys ha hb hl h ih =>
  intro A u v hu ru rv
  cases ru;cases rv
  by_cases hab:a=b
  ·subst hab;exact SeqAt.EqAt.same _
  ·obtain⟨us,r1,p1,_⟩:=I.list ha
   obtain⟨ws,r2,p2,_⟩:=I.list hb
   have l1:=r1.length
   have l2:=r2.length
   have:=SeqAt.RcAt.lists (A:=A) (s:=s) (e:=fun _=>true) p1.isList p2.isList Z6 Z1 fun j h1 h2=>by
    have h1':j<us.length:=by simpa using h1
    have h2':j<ws.length:=by simpa using h2
    obtain⟨x,ex,rx⟩:=r1.at h1'
    obtain⟨y,ey,ry⟩:=r2.at h2'
    exact ih j x y ex ey (A:=A.in1) (show A.units+1+n<cLine by omega) (by simpa using rx) (by simpa using ry)
   rw[jT]at this
   exact SeqAt.EqAt.of_refs hab this
def DSq(K:Frag)(H:Hp)(a b:Addr):Prop:=∃ (n:Nat) (xs ys:List V),n<=60/\xs.length=ys.length/\((SqT K H a xs/\SqT K H b ys)\/(SqL K H a xs/\SqL K H b ys))/\∀ (i:Nat) x y,xs[i]? = some x->ys[i]? = some y->DEq K H n x y
def Qh(K:Frag)(r:Bool):R2:=fun x y H Q=>∃ a b,x=.ref a/\y=.ref b/\DSq K H a b/\Q (.bl r) H
theorem Hs{K:Frag}(hK:X.K=K)(hu:X.A.units+64<cLine):OpR X (compareOp .Eq) (Qh K true):=by
 subst hK
 intro pins s σ H x y v u Q I rx ry h
 obtain⟨a,b,rfl,rfl,⟨n,xs,ys,hn,hl,hs,hd⟩,q⟩:=h
 cases rx;cases ry
 have fin:EP X pins σ Q (.bool true) s:=⟨.bl true,H,I,rfl,q⟩
 rcases hs with⟨ha,hb⟩|⟨ha,hb⟩
 ·obtain⟨us,r1,p1,_⟩:=I.tuple ha
  obtain⟨ws,r2,p2,_⟩:=I.tuple hb
  have l1:=r1.length
  have l2:=r2.length
  refine SeqAt.eq_tupleAt (e:=fun _=>true) (show s.heap.IsTuple a us.toArray from p1) (show s.heap.IsTuple b ws.toArray from p2) Z1 (fun j h1 h2=>?_) ?_
  ·have h1':j<us.length:=by simpa using h1
   have h2':j<ws.length:=by simpa using h2
   obtain⟨x,ex,rx⟩:=r1.at h1'
   obtain⟨y,ey,ry⟩:=r2.at h2'
   exact DEq.at I (hd j x y ex ey) (A:=X.A.in1) (show X.A.units+1+n<cLine by omega) (by simpa using rx) (by simpa using ry)
  ·rw[jT,show(us.toArray.size==ws.toArray.size)=true from by simp;omega]
   exact fin
 ·obtain⟨us,r1,p1,_⟩:=I.list ha
  obtain⟨ws,r2,p2,_⟩:=I.list hb
  have l1:=r1.length
  have l2:=r2.length
  refine SeqAt.eq_listAt (e:=fun _=>true) p1.isList p2.isList Z6 Z1 (fun j h1 h2=>?_) ?_
  ·have h1':j<us.length:=by simpa using h1
   have h2':j<ws.length:=by simpa using h2
   obtain⟨x,ex,rx⟩:=r1.at h1'
   obtain⟨y,ey,ry⟩:=r2.at h2'
   exact DEq.at I (hd j x y ex ey) (A:=X.A.in1) (show X.A.units+1+n<cLine by omega) (by simpa using rx) (by simpa using ry)
  ·rw[jT]
   exact fin
theorem wL{K:Frag}(hK:X.K=K)(hu:X.A.units+64<cLine):OpR X (compareOp .NotEq) (Qh K false):=by
 subst hK
 intro pins s σ H x y v u Q I rx ry h
 obtain⟨a,b,rfl,rfl,⟨n,xs,ys,hn,hl,hs,hd⟩,q⟩:=h
 cases rx;cases ry
 have fin:EP X pins σ Q (.bool false) s:=⟨.bl false,H,I,rfl,q⟩
 rcases hs with⟨ha,hb⟩|⟨ha,hb⟩
 ·obtain⟨us,r1,p1,_⟩:=I.tuple ha
  obtain⟨ws,r2,p2,_⟩:=I.tuple hb
  have l1:=r1.length
  have l2:=r2.length
  have:=SeqAt.RcNeAt.tuples (A:=X.A) (s:=s) (e:=fun _=>true) (show s.heap.IsTuple a us.toArray from p1) (show s.heap.IsTuple b ws.toArray from p2) Z1 fun j h1 h2=>by
   have h1':j<us.length:=by simpa using h1
   have h2':j<ws.length:=by simpa using h2
   obtain⟨x,ex,rx⟩:=r1.at h1'
   obtain⟨y,ey,ry⟩:=r2.at h2'
   exact DEq.at I (hd j x y ex ey) (A:=X.A.in1) (show X.A.units+1+n<cLine by omega) (by simpa using rx) (by simpa using ry)
  rw[jT,show(us.toArray.size==ws.toArray.size)=true from by simp;omega]at this
  exact this X.prog X.w X.xe _ fin
 ·obtain⟨us,r1,p1,_⟩:=I.list ha
  obtain⟨ws,r2,p2,_⟩:=I.list hb
  have l1:=r1.length
  have l2:=r2.length
  have:=SeqAt.RcNeAt.lists (A:=X.A) (s:=s) (e:=fun _=>true) p1.isList p2.isList Z6 Z1 fun j h1 h2=>by
   have h1':j<us.length:=by simpa using h1
   have h2':j<ws.length:=by simpa using h2
   obtain⟨x,ex,rx⟩:=r1.at h1'
   obtain⟨y,ey,ry⟩:=r2.at h2'
   exact DEq.at I (hd j x y ex ey) (A:=X.A.in1) (show X.A.units+1+n<cLine by omega) (by simpa using rx) (by simpa using ry)
  rw[jT]at this
  exact this X.prog X.w X.xe _ fin
end
section
variable {X:Cx} {K:Frag}
theorem xj{es:List Expr}{k:Nat}{t:TGs}{n:Nat}{pos:Pos}(hK:X.K=K)(hc:X.calm=true)(h:PGs X es t)
  (hn:(assignEach es X.env).length=n:=by rfl)(hst:(assignEach es X.env).findIdx? (·.1)=none:=by rfl):PG X (.Tuple es k pos) (Ou K n t):=by subst hK;exact N8 hc h hn hst
end
section
variable {X:Cx} {K:Frag} {tg:Expr}
end
section
variable {X:Cx} {K:Frag}
theorem yF(hc:X.calm=true):mD X (.builtin "any") (Rw X.K fun bs=>bs.any id):=by
 intro pins s σ H xs us Q I r h
 obtain⟨p,bs,rfl,hq,q⟩:=h
 obtain⟨u,rfl,rx⟩:=vals1 r
 cases(show u=Value.ref p from rx)
 obtain⟨its,rv,pl,hz⟩:=I.list hq
 have hlen:=rv.length
 rw[length_map]at hlen
 have hne:p≠s.heap.objs.size:=by
  obtain⟨o,e,_⟩:=pl.isList
  exact ne_of_lt (Heap.lt_size e)
 refine call_any_walk (wpAny_pyIter_list pl.isList ?_)
 refine⟨s.heap.objs.size,_,_,_,_,_,fun i=>bs.getD i false,rfl,Walks.list (show X.A.in1.handled=none from I.ok.hd hc) s.heap.objs.size p hne its.toArray,⟨⟨_,Heap.get?_push_size _ rfl,rfl,rfl⟩,?_⟩,fun i v s' Q' E' hP hQ=>?_,fun h' tk kk=>?_⟩
 ·exact pl.isList.at fun o e=>Heap.get?_push_of_some _ e
 ·have e:=NT rv (by simpa using hP)
  subst e
  exact wpAny_truthy_bool hQ
 ·have e:(List.range its.toArray.size).any (fun i=>bs.getD i false)=bs.any id:=by rw[size_toArray,<- hlen];exact range_any bs
  rw[e]
  refine⟨.bl _,H,I.kept fun b o e=>?_,rfl,q⟩
  exact kk b o (fun z=>absurd (Heap.lt_size e) (by rw[mem_singleton.mp z];exact lt_irrefl _)) (Heap.get?_push_of_some _ e)
end
theorem bM {K:Frag} {a:Addr} {xs:List V} {tf:TT} {te:TE} {τ0:St} {H:Hp} {Fin:List V -> Hp -> Prop} (p:V -> Bool) (hn:xs.length <= sizeLine) (hl:SqL K H a xs)
  (htf:∀ x H' (Q:Bool -> Hp -> Prop),x ∈ xs -> az H H' -> (∀ H'',az H' H'' -> Q (p x) H'') -> tf (τ0.set 0 (some x)) H' Q)
  (hte:∀ x H' (Q:VK),x ∈ xs -> az H H' -> (∀ H'',az H' H'' -> Q x H'') -> te (τ0.set 0 (some x)) H' Q)
  (hfin:∀ H',az H H' -> Fin (xs.filter p) H'):qj (iV 0) tf te (Itl K a) τ0 H Fin:=by
 refine ⟨fun i m τ ys H'=>m = xs.length - i /\ i <= xs.length /\ ys = (xs.take i).filter p /\ az H H' /\ ∃ v,τ = τ0.set 0 v \/ τ = τ0,⟨xs.length,rfl,zero_le _,rfl,az.refl _,none,.inr rfl⟩,?_⟩
 rintro i m τ ys H' ⟨rfl,hi,rfl,sm,v,hτ⟩
 by_cases hlt:i < xs.length
 ·refine .inr ⟨⟨xs,xs[i],sm.seq hl,by simp [hlt]⟩,fun x H'' y=>?_⟩
  obtain ⟨e,y⟩:=y
  subst e
  have hx:=y xs (sm.seq hl)
  have e2:τ.set 0 (some x) = τ0.set 0 (some x):=by
   rcases hτ with rfl | rfl
   ·rw [set_set]
   ·rfl
  unfold iV
  rw [e2]
  have e3:(xs.take (i + 1)).filter p = (xs.take i).filter p ++ (if p x = true then [x] else []):=by
   rw [List.take_add_one,hx,filter_append]
   congr 1
   show [x].filter p = _
   rw [filter_cons]
   rfl
  refine htf x H'' _ (mem_of_getElem? hx) sm fun H4 s4=>?_
  cases hp:p x with
  | true =>
   rw [if_pos rfl]
   refine hte x H4 _ (mem_of_getElem? hx) (sm.trans s4) fun H5 s5=>?_
   refine ⟨?_,xs.length - (i + 1),Z1,rfl,hlt,?_,sm.trans (s4.trans s5),_,.inl rfl⟩
   ·have:=length_filter_le p (xs.take i)
    rw [length_take] at this
    omega
   ·rw [e3,hp]; rfl
  | false =>
   rw [if_neg Z0]
   refine ⟨xs.length - (i + 1),Z1,rfl,hlt,?_,sm.trans s4,_,.inl rfl⟩
   rw [e3,hp]; simp
 ·have e:i = xs.length:=by omega
  subst e
  exact .inl ⟨⟨xs,sm.seq hl,le_refl _⟩,by have:=hfin H' sm; rw [take_length]; exact this⟩
end L2
namespace Mine
open PySem PySem.Spec PyProof.Rows L2 PySem.Builtin PySem.Builtin.Str
inductive Thg where
 | num (m:Nat)
 | nms (c:Bool) (ys:List Str)
structure Trm where
 sg:Int
 th:Thg
def kindOf:Thg->Str
 | .num _ => "number"
 | .nms c _=>if c=true then "call" else "path"
structure De(ys:List Str):Prop where
 lo:ys≠[]
 hi:ys.length<=4
 nm:∀ y∈ys,cB y
def Nk:Thg->Prop
 | .num m=>m<10 ^ 20
 | .nms _ ys=>De ys
structure O7(t:Trm):Prop where
 sg:t.sg=1\/t.sg = -1
 th:Nk t.th
structure Bg(ts:List Trm):Prop where
 lo:ts≠[]
 hi:ts.length<=6
 ok:∀ t∈ts,O7 t
 hd:∀ t,ts.head? = some t->t.sg=1
theorem De.len{ys:List Str}(h:De ys):(dotted ys).length<=36:=by
 have h1:=Be ys
 have h2:(ys.map (·.length)).sum<=ys.length*8:=xZ fun y hy=>(h.nm y hy).hi
 have:=h.hi
 omega
end Mine
namespace L2
open PySem PySem.Spec PyProof.Rows
theorem nF {lo:Int} {n:Nat} {te:TE} {τ0:St} {H:Hp} {Fin:List V -> Hp -> Prop} (R:Nat -> V -> Hp -> Prop) (hm:∀ i v H' H'',R i v H' -> az H' H'' -> R i v H'') (hn:n <= sizeLine)
  (hte:∀ (i:Nat) H' (Q:VK),i < n -> az H H' -> (∀ v H'',az H' H'' -> R i v H'' -> Q v H'') -> te (τ0.set 0 (some (.int (lo + i)))) H' Q)
  (hfin:∀ ys H',az H H' -> ys.length = n -> (∀ (i:Nat) v,ys[i]? = some v -> R i v H') -> Fin ys H'):qj (iV 0) DG te (Itr lo n) τ0 H Fin:=by
 refine ⟨fun i m τ ys H'=>m = n - i /\ i <= n /\ ys.length = i /\ (∀ (j:Nat) v,ys[j]? = some v -> R j v H') /\ az H H' /\ ∃ v,τ = τ0.set 0 v \/ τ = τ0,⟨n,rfl,zero_le _,rfl,fun j v h=>by simp at h,az.refl _,none,.inr rfl⟩,?_⟩
 rintro i m τ ys H' ⟨rfl,hi,hl,hr,sm,v,hτ⟩
 by_cases hlt:i < n
 ·refine .inr ⟨hlt,fun x H'' y=>?_⟩
  obtain ⟨e,y⟩:=y
  subst e y
  have e2:τ.set 0 (some (V.int (lo + i))) = τ0.set 0 (some (V.int (lo + i))):=by
   rcases hτ with rfl | rfl
   ·rw [set_set]
   ·rfl
  unfold iV DG
  rw [e2]
  dsimp only
  rw [if_pos rfl]
  refine hte i H'' _ hlt sm fun v H4 s4 hv=>?_
  refine ⟨Z1,n - (i + 1),Z1,rfl,hlt,by rw [length_append,hl]; rfl,fun j u hj=>?_,sm.trans s4,_,.inl rfl⟩
  by_cases hji:j < ys.length
  ·rw [getElem?_append_left hji] at hj
   exact hm _ _ _ _ (hr j u hj) s4
  ·rw [getElem?_append_right Z1] at hj
   have hj0:j - ys.length = 0:=by
    cases hh:j - ys.length with
    | zero=>rfl
    | succ k=>rw [hh] at hj; simp at hj
   rw [hj0] at hj
   have:j = i:=by omega
   subst this
   have:v = u:=by simpa using hj
   subst this
   exact hv
 ·have e:i = n:=by omega
  subst e
  exact .inl ⟨le_refl _,hfin ys H' sm hl hr⟩
theorem dZ {K:Frag} {a:Addr} {xs:List V} {te:TE} {τ0:St} {H:Hp} {Fin:List V -> Hp -> Prop} (f:Nat -> V) (hn:xs.length <= sizeLine) (hl:SqL K H a xs)
  (hte:∀ (i:Nat) x H' (Q:VK),xs[i]? = some x -> az H H' -> (∀ H'',az H' H'' -> Q (f i) H'') -> te (τ0.set 0 (some x)) H' Q)
  (hfin:∀ H',az H H' -> Fin ((List.range xs.length).map f) H'):qj (iV 0) DG te (Itl K a) τ0 H Fin:=by
 refine ⟨fun i m τ ys H'=>m = xs.length - i /\ i <= xs.length /\ ys = (List.range i).map f /\ az H H' /\ ∃ v,τ = τ0.set 0 v \/ τ = τ0,⟨xs.length,rfl,zero_le _,rfl,az.refl _,none,.inr rfl⟩,?_⟩
 rintro i m τ ys H' ⟨rfl,hi,rfl,sm,v,hτ⟩
 by_cases hlt:i < xs.length
 ·refine .inr ⟨⟨xs,xs[i],sm.seq hl,by simp [hlt]⟩,fun x H'' y=>?_⟩
  obtain ⟨e,y⟩:=y
  subst e
  have hx:=y xs (sm.seq hl)
  have e2:τ.set 0 (some x) = τ0.set 0 (some x):=by
   rcases hτ with rfl | rfl
   ·rw [set_set]
   ·rfl
  unfold iV DG
  rw [e2]
  dsimp only
  rw [if_pos rfl]
  refine hte i x H'' _ hx sm fun H4 s4=>?_
  exact ⟨by rw [length_map,length_range]; omega,xs.length - (i + 1),Z1,rfl,hlt,by rw [List.range_succ,map_append]; rfl,sm.trans s4,_,.inl rfl⟩
 ·have e:i = xs.length:=by omega
  subst e
  exact .inl ⟨⟨xs,sm.seq hl,le_refl _⟩,hfin H' sm⟩
end L2
namespace Mine
open PySem PySem.Spec PyProof.Rows L2 PySem.Builtin PySem.Builtin.Str
def JT(H:Hp)(x:V):Thg->Prop
 | .num m=>x=.int ((m:Nat):Int)
 | .nms _ ys=>∃ q,x=.ref q/\H q=some (.tup (ys.map V.str))
def Ac(H:Hp)(v:V)(t:Trm):Prop:=∃ p x,v=.ref p/\H p=some (.tup [.int t.sg,.str (kindOf t.th),x])/\JT H x t.th
def mU(H:Hp)(l:Addr)(ts:List Trm):Prop:=∃ xs,H l=some (.lst xs)/\xs.length=ts.length/\∀ (i:Nat) x,xs[i]? = some x->∃ t,ts[i]? = some t/\Ac H x t
theorem JT.same{H H':Hp}{x:V}{th:Thg}(h:JT H x th)(s:az H H'):JT H' x th:=by
 cases th with
 | num m=>exact h
 | nms c ys=>obtain⟨q,e,hq⟩:=h;exact⟨q,e,s _ _ hq⟩
theorem Ac.same{H H':Hp}{v:V}{t:Trm}(h:Ac H v t)(s:az H H'):Ac H' v t:=by
 obtain⟨p,x,e,hp,hx⟩:=h
 exact⟨p,x,e,s _ _ hp,hx.same s⟩
theorem mU.same{H H':Hp}{l:Addr}{ts:List Trm}(h:mU H l ts)(s:az H H'):mU H' l ts:=by
 obtain⟨xs,hl,hn,hx⟩:=h
 refine⟨xs,s _ _ hl,hn,fun i x e=>?_⟩
 obtain⟨t,ht,tm⟩:=hx i x e
 exact⟨t,ht,tm.same s⟩
theorem iw{α β:Type}(P:Nat->α->β->Prop):∀ (ys:List α) (k:Nat),(∀ (i:Nat) v,ys[i]? = some v->∃ t,P (k+i) v t)->∃ ts:List β,ts.length=ys.length/\∀ (i:Nat) v,ys[i]? = some v->∃ t,ts[i]? = some t/\P (k+i) v t
 | [],k,_=>⟨[],rfl,fun i v h=>by simp at h⟩
 | y::ys,k,h=>by
  obtain⟨t0,h0⟩:=h 0 y rfl
  obtain⟨ts,hl,ht⟩:=iw P ys (k+1) fun i v e=>by
   have:=h (i+1) v (by simpa using e)
   rwa [show k+(i+1)=k+1+i from by omega]at this
  refine⟨t0::ts,by simp[hl],fun i v e=>?_⟩
  cases i with
  | zero=>cases e;exact⟨t0,rfl,h0⟩
  | succ i =>
   obtain⟨t,e2,p⟩:=ht i v (by simpa using e)
   refine⟨t,by simpa using e2,?_⟩
   rwa [show k+(i+1)=k+1+i from by omega]
end Mine
namespace L2
open PySem PySem.Spec PyProof.Rows PySem.W
section
variable {X:Cx} {x:Str} {pos:Pos}
theorem RP{y:Addr}(h:X.mg x=some (.ref y))(hg:Gl X x:=by rfl)(hd:(x==("__debug__" : Str))=false:=by decide):PE X (.Name x pos) (tC (.ref y)):=Dc hg h rfl hd
def My(K:Frag):List V->Hp->VK->Prop:=fun xs H Q=>∃ x t c b,xs=[x,.ref c]/\pC K H x t/\kitOne K t (.ref c)=some b/\Q (.bl b) H
theorem BL:mD X (.builtin "isinstance") (My X.K):=by
 intro pins s σ H xs us Q I r h
 obtain⟨x,t,c,b,rfl,ty,e,q⟩:=h
 obtain⟨u,u2,rfl,rx,ry⟩:=vals2 r
 cases(show u2=Value.ref c from ry)
 exact Eg I rx ty e fun tk=>⟨.bl b,H,I.tok tk,rfl,q⟩
end
structure RCl(K:Frag)(C:Addr):Prop where
 cl:Cls K C
 ha:findIn K (.ref C) "__class__" = some (some (.builtin "object.__class__"))
 hn:specialIn K (.builtin "object.__class__") "__get__" = some (some (.builtin "getset_descriptor.__get__"))
 htk:takesIn K (.builtin "object.__class__")=some true
 hm:mroIn K C (.type "object")=some true
theorem RCl.ty{K:Frag}{C a dx:Addr}{H:Hp}{fs:List (Str×V)}(c:RCl K C)(e:H a=some (.ins C dx fs)):pC K H (.ref a) (.ref C):=.ins e c.cl c.ha c.hn c.htk c.hm
structure MkN(K:Frag)(C:Addr):Prop where
 makes:makesIn K C=true
 init:findIn K (.ref C) "__init__" = some (some (.builtin "object.__init__"))
 kp:keepIn K (.ref C)=true
section
variable {X:Cx} {C:Addr} {x:Str} {p pos:Pos}
end
section
variable {X:Cx} {C f:Addr} {k:Nat} {fd:FuncData} {ps:List Str} {sp:Sp} {x:Str} {p pos:Pos} {e:Expr} {es:List Expr} {t:TA}
theorem jZ(M:Mk X.K C f)(b:Binds X.K fd ps [])(G:aK X.prog X.w X.K X.mg X.base CX0 k f fd ps sp)(hr:aP (k+1) X.A)(hm:X.mg x=some (.ref C))(ha:PA X (e::es) t)(hg:Gl X x:=by rfl)
  (hdb:(x==("__debug__" : Str))=false:=by decide)(he:starEach (e::es) X.env=(false,eval e X.env)::starEach es X.env:=by rfl)(hpl:(backTo pos (starEach es X.env)).any (·.1)=false:=by rfl) :
  PE X (.Call (.Name x p) (e::es) [] pos) (Lj C sp [] E0 t):=J1 M G hr hg hm b .nil nP ha hdb he hpl
end
def VM(P:Program)(w:World)(K:Frag)(mg:MG)(base:Heap)(k:Nat)(C:Addr)(m:Str)(sp:Sp):Prop:=∃ f fd ps,Meth K C m f/\aK P w K mg base CX0 k f fd ps sp/\Binds K fd ps []
def MV(P:Program)(w:World)(K:Frag)(mg:MG)(base:Heap)(k:Nat)(m:Str)(x:V)(H:Hp)(Q:VK):Prop :=
 ∃ a C dx fs sp,x=.ref a/\H a=some (.ins C dx fs)/\fs.lookup m=none/\Cls K C/\VM P w K mg base k C m sp/\sp [x] H Q E0
def Ny(P:Program)(w:World)(K:Frag)(mg:MG)(base:Heap)(k:Nat)(m:Str)(ta:TE):TE:=fun σ H Q=>ta σ H fun x H1=>MV P w K mg base k m x H1 Q
section
variable {X:Cx} {P:Program} {w:World} {K:Frag} {mg:MG} {base:Heap} {k:Nat} {m:Str} {o:Expr} {ta:TE} {pos apos:Pos}
theorem zH {pl:Sem Bool} (h1:X.prog=P) (h2:X.w=w) (h3:X.K=K) (h4:X.mg=mg) (h5:X.base=base) (hr:aP k X.A) (he:PE X o ta)
  (ht:eval (.Call (.Attribute o m apos) [] [] pos) X.env=(do
   let ov <- eval o X.env
   standAt apos.atName
   let(f,first) <- holding [ov] (getMethod ov m pl)
   callWith pos f first (backTo pos (starEach [] X.env)) (backToKw pos (keywordEach [] X.env))):=by rfl) :
  PE X (.Call (.Attribute o m apos) [] [] pos) (Ny P w K mg base k m ta):=by
 subst h1 h2 h3 h4 h5
 intro pins s σ H Q I h
 refine methodCall_KW (pl:=pl) (thn (he pins s σ H _ I h) fun u s1 hz=>?_) ht
 obtain⟨x,H1,I1,rx,a,C,dx,fs,sp,ex,ea,l,c,⟨f,fd,ps,hm,F,hb⟩,q⟩:=hz
 subst ex
 obtain rfl:u=Value.ref a:=rx
 refine lR I1 ea c hm l ?_
 exact PySem.W.callWith_K0 (first:=[.ref a]) I1.kIn hm.kp (wI (us:=[.ref a]) (vs:=[.ref a]) (dvs:=[]) (ds:=[]) F hr hb .nil nP I1 (.cons rfl .nil) q)
end
section
variable {X:Cx} {o value:Expr} {f:Str} {pos pos':Pos} {ta tv:TE}
theorem d7(ha:PE X o ta)(hv:PE X value tv)(hs:swapsWith value (some (.Attribute o f pos')) pos.line X.env=pure false:=by rfl):QS X (.Assign [.Attribute o f pos'] value pos) (OD X.K ta tv f):=⟨MT ha hv hs⟩
end
structure MAt(K:Frag)(m q:Str)(st:Stmt)(ps:List Str)(f:Addr)(fd:FuncData):Prop where
 F:Fun K m q st f fd
 b:Binds K fd ps []
theorem rdF{K:Frag}{H:Hp}{a C dx:Addr}{fs:List (Str×V)}{v:V}{f:Str}{q:V->Prop}(ha:H a=some (.ins C dx fs))(c:Cls K C)(n:cQ K C f)(l:fs.lookup f=some v)(h:q v) :
  ∃ a' C' dx' fs' v',V.ref a=.ref a'/\H a'=some (.ins C' dx' fs')/\Cls K C'/\cQ K C' f/\fs'.lookup f=some v'/\q v':=⟨a,C,dx,fs,v,rfl,ha,c,n,l,h⟩
theorem rM{p:Nat->Prop}(h0:p 0)(h1:p 1)(h2:p 2)(h3:p 3)(h4:p 4)(h5:p 5)(h6:p 6)(i:Nat)(h:i<=6):p i:=by
 cases i with
 | zero=>exact h0
 | succ i=>cases i with
  | zero=>exact h1
  | succ i=>cases i with
   | zero=>exact h2
   | succ i=>cases i with
    | zero=>exact h3
    | succ i=>cases i with
     | zero=>exact h4
     | succ i=>cases i with
      | zero=>exact h5
      | succ i=>cases i with
       | zero=>exact h6
       | succ i=>exact absurd h Z1
theorem jR{H:Hp}{p b:Addr}{o:HO}(h:upd H p o b=none):H b=none/\b≠p:=by
 unfold upd at h
 split at h
 ·cases h
 ·exact⟨h,‹_›⟩
theorem lkP{f:Str}{y:V}{fs:List (Str×V)}:(jU f y fs).lookup f=some y:=by rw[jn,if_pos rfl]
theorem lkN{f g:Str}{y:V}{fs:List (Str×V)}(h:¬g=f):(jU f y fs).lookup g=fs.lookup g:=by rw[jn,if_neg h]
theorem zE{f:Str}{y:V}{fs:List (Str×V)}{n:Nat}(h:fs.length<n):(jU f y fs).length<n+1:=by have:=ni f y fs;omega
def SameBut(x:Addr)(H H':Hp):Prop:=∀ b o,H b=some o->b≠x->H' b=some o
theorem sb3{H:Hp}{x l:Addr}{o1 o2 o3:HO}(hl:H l=none):SameBut x H (upd (upd (upd H x o1) l o2) x o3):=fun b o e hb=>by
 rw[aD hb,aD (aF e hl),aD hb];exact e
theorem sb2{H:Hp}{x l:Addr}{o1 o2:HO}(hl:H l=none):SameBut x H (upd (upd H l o1) x o2):=fun b o e hb=>by
 rw[aD hb,aD (aF e hl)];exact e
theorem aN{K:Frag}{C D:Addr}{b:Bool}(m:mroIn K C (.ref D)=some b)(sD:mroIn K D (.ref D)=some true)(o:mroIn K D (.type "object")=some true)(ty:typeIn K (.ref D)=some (.type "type")):kitOne K (.ref C) (.ref D)=some b:=by
 unfold kitOne
 by_cases e:(Value.ref C==Value.ref D)=true
 ·rw[if_pos e]
  have e':C=D:=by cases eq_of_beq e;rfl
  subst e'
  rw[m]at sD;exact sD.symm
 ·rw[if_neg e]
  cases h:clsIn K D with
  | none=>unfold mroIn at o;rw[h]at o;cases o
  | some cd =>
   show(if((clsIn K D).isSome&&typeIn K (.ref D)==some (.type "type"))=true then mroIn K C (.ref D)else none)=_
   rw[h,ty,if_pos Z2,m]
theorem gj {K:Frag} {a:Addr} {xs:List V} {g:TG} {te:TE} {τ0:St} {H:Hp} {Fin:List V -> Hp -> Prop} (S:St -> Prop) (R:Nat -> V -> Hp -> Prop) (hm:∀ i v H' H'',R i v H' -> az H' H'' -> R i v H'') (hn:xs.length <= sizeLine) (hl:SqL K H a xs) (h0:S τ0)
  (hte:∀ (i:Nat) x τ H' (Q:St -> V -> Hp -> Prop),xs[i]? = some x -> az H H' -> S τ -> (∀ τ2 v H'',S τ2 -> az H' H'' -> R i v H'' -> Q τ2 v H'') -> g x τ H' fun τ2 H2=>te τ2 H2 fun y H4=>Q τ2 y H4)
  (hfin:∀ ys H',az H H' -> ys.length = xs.length -> (∀ (i:Nat) v,ys[i]? = some v -> R i v H') -> Fin ys H'):qj g DG te (Itl K a) τ0 H Fin:=by
 refine ⟨fun i m τ ys H'=>m = xs.length - i /\ i <= xs.length /\ ys.length = i /\ (∀ (j:Nat) v,ys[j]? = some v -> R j v H') /\ az H H' /\ S τ,⟨xs.length,rfl,zero_le _,rfl,fun j v h=>by simp at h,az.refl _,h0⟩,?_⟩
 rintro i m τ ys H' ⟨rfl,hi,hyl,hr,sm,hS⟩
 by_cases hlt:i < xs.length
 ·refine .inr ⟨⟨xs,xs[i],sm.seq hl,by simp [hlt]⟩,fun x H'' y=>?_⟩
  obtain ⟨e,y⟩:=y
  subst e
  have hx:=y xs (sm.seq hl)
  have key:=hte i x τ H'' (fun τ2 y H4=>ys.length < sizeLine /\ ∃ m',m' < xs.length - i /\ (m' = xs.length - (i + 1) /\ i + 1 <= xs.length /\ (ys ++ [y]).length = i + 1 /\ (∀ (j:Nat) v,(ys ++ [y])[j]? = some v -> R j v H4) /\ az H H4 /\ S τ2)) hx sm hS fun τ2 v H4 s2 s4 hv=>by
   refine ⟨Z1,xs.length - (i + 1),Z1,rfl,hlt,by rw [length_append,hyl]; rfl,fun j u hj=>?_,sm.trans s4,s2⟩
   by_cases hji:j < ys.length
   ·rw [getElem?_append_left hji] at hj
    exact hm _ _ _ _ (hr j u hj) s4
   ·rw [getElem?_append_right Z1] at hj
    have hj0:j - ys.length = 0:=by
     cases hh:j - ys.length with
     | zero=>rfl
     | succ k=>rw [hh] at hj; simp at hj
    rw [hj0] at hj
    have:j = i:=by omega
    subst this
    have:v = u:=by simpa using hj
    subst this
    exact hv
  exact key
 ·have e:i = xs.length:=by omega
  subst e
  exact .inl ⟨⟨xs,sm.seq hl,le_refl _⟩,hfin ys H' sm hyl hr⟩
theorem len0{α:Type}{us:List α}(h:us.length=0):us=[]:=List.length_eq_zero_iff.mp h
theorem Dg{α:Type}{us:List α}{n:Nat}(h:us.length=n+1):∃ a r,us=a::r/\r.length=n:=by
 cases us with
 | nil=>cases h
 | cons a r=>exact⟨a,r,rfl,Nat.succ.inj h⟩
theorem Qe{α:Type}{us:List α}(h:us.length=1):∃ a,us=[a]:=by
 obtain⟨a,r,rfl,k⟩:=Dg h
 exact⟨a,by rw[len0 k]⟩
theorem Qg{α:Type}{us:List α}(h:us.length=2):∃ a b,us=[a,b]:=by
 obtain⟨a,r,rfl,k⟩:=Dg h
 obtain⟨b,rfl⟩:=Qe k
 exact⟨a,b,rfl⟩
theorem O8{α:Type}{us:List α}(h:us.length=3):∃ a b c,us=[a,b,c]:=by
 obtain⟨a,r,rfl,k⟩:=Dg h
 obtain⟨b,c,rfl⟩:=Qg k
 exact⟨a,b,c,rfl⟩
theorem RG{α:Type}{us:List α}(h:us.length=4):∃ a b c d,us=[a,b,c,d]:=by
 obtain⟨a,r,rfl,k⟩:=Dg h
 obtain⟨b,c,d,rfl⟩:=O8 k
 exact⟨a,b,c,d,rfl⟩
end L2
namespace Mine
open PySem PySem.Spec PyProof.Rows L2 PySem.Builtin PySem.Builtin.Str
structure cu where
 so:Nat
 nm:Str
 ad:Str
 wd:Str
 ts:List Trm
def mG:Nat->Str
 | 0 => "let"
 | 1 => "deed"
 | 2 => "draw"
 | 3 => "late"
 | 4 => "take"
 | _ => "need"
structure bW(ys:List Str):Prop where
 lo:ys≠[]
 hi:ys.length<=3
 nm:∀ y∈ys,cB y
structure GoodR(r:cu):Prop where
 so:r.so<=5
 nm:r.so<5->cB r.nm
 no:r.so=5->r.nm = ""
 ad:∃ ys,bW ys/\r.ad=dotted ys
 wd:cB r.wd
 ts:Bg r.ts
 dd:r.so=1->∀ t∈r.ts,∀ ys,t.th≠.nms true ys
theorem bW.len{ys:List Str}(h:bW ys):(dotted ys).length<=36:=De.len ⟨h.lo,le_trans h.hi Z0,h.nm⟩
theorem GoodR.nl{r:cu}(h:GoodR r):r.nm.length<=8:=by
 rcases lt_or_ge r.so 5 with k|k
 ·exact(h.nm k).hi
 ·rw[h.no (by have:=h.so;omega)];decide
def dq(r:cu):List Str:=if r.so=2\/r.so=3\/r.so=4 then[r.ad]else[]
theorem abS{a b:Str}{m n:Nat}(ha:a.length<=m)(hb:b.length<=n)(h:m+n<=1000:=by decide):a.length+b.length<=sizeLine:=le_trans (Nat.add_le_add ha hb) (le_trans h bO)
theorem alS{a b:Str}{m n:Nat}(ha:a.length<=m)(hb:b.length<=n):(a++b).length<=m+n:=by rw[gh];exact Nat.add_le_add ha hb
structure JN(H:Hp)(fs:List (Str×V))(l:Addr)(r:cu):Prop where
 nm:r.so<5->fs.lookup ("name" : Str)=some (.str r.nm)
 tm:r.so=0\/r.so=1\/r.so=5->fs.lookup ("terms" : Str)=some (.ref l)/\mU H l r.ts
 ad:r.so=2\/r.so=3\/r.so=4->fs.lookup ("address" : Str)=some (.str r.ad)
 wd:r.so=4->fs.lookup ("word" : Str)=some (.str r.wd)
 nb:fs.lookup ("binds" : Str)=none
 na:fs.lookup ("asked" : Str)=none
 ns:fs.lookup ("said" : Str)=none
def dU(C:Nat->Addr)(H:Hp)(a l:Addr)(r:cu):Prop:=∃ dx fs,H a=some (.ins (C r.so) dx fs)/\JN H fs l r
theorem JN.same{H H':Hp}{fs:List (Str×V)}{l:Addr}{r:cu}(h:JN H fs l r)(s:az H H'):JN H' fs l r :=
 ⟨h.nm,fun k=>⟨(h.tm k).1,(h.tm k).2.same s⟩,h.ad,h.wd,h.nb,h.na,h.ns⟩
theorem dU.same{C:Nat->Addr}{H H':Hp}{a l:Addr}{r:cu}(h:dU C H a l r)(s:az H H'):dU C H' a l r:=by
 obtain⟨dx,fs,e,f⟩:=h
 exact⟨dx,fs,s _ _ e,f.same s⟩
theorem Ac.but{H H':Hp}{v:V}{t:Trm}{x C dx:Addr}{fs:List (Str×V)}(h:Ac H v t)(hx:H x=some (.ins C dx fs))(s:SameBut x H H'):Ac H' v t:=by
 obtain⟨p,y,e,hp,hy⟩:=h
 refine⟨p,y,e,s _ _ hp (eZ hp hx Z7),?_⟩
 cases hth:t.th with
 | num m=>rw[hth]at hy;exact hy
 | nms c zs =>
  rw[hth]at hy
  obtain⟨q,e,hq⟩:=hy
  exact⟨q,e,s _ _ hq (eZ hq hx Z7)⟩
def vA(i j:Nat):Bool:=decide (i=j)||decide (j=6)
theorem Gm{i j:Nat}(hi:i<=5)(hj:j<=5):decide (V.str (mG i)=V.str (mG j))=vA i j:=by
 have k:∀ i j:Fin 6,decide (V.str (mG i.val)=V.str (mG j.val))=vA i.val j.val:=by decide +kernel
 exact k ⟨i,Z1⟩ ⟨j,Z1⟩
end Mine
namespace L2
open PySem PySem.Spec PyProof.Rows PySem.W
section
variable {X:Cx} {pos:Pos} {t:TS}
end
theorem Gy(xs:List V)(k:Nat):iy xs (some (k:Int)) none=xs.drop k:=by
 unfold iy
 rw[HT.sIx_none,HT.sIx_nat]
 rw[List.take_of_length_le (by rw[List.length_drop];exact le_refl _)]
 by_cases h:k<=xs.length
 ·rw[Nat.min_eq_left h]
 ·rw[Nat.min_eq_right Z1,List.drop_length,List.drop_eq_nil_of_le Z1]
end L2
namespace Mine
open PySem PySem.Spec PyProof.Rows L2 PySem.Builtin PySem.Builtin.Str
end Mine
namespace En
open PySem PySem.Spec PyProof.Rows
section
variable {prog:Program} {w:World} {A:Around} {E:EV} {s:Shared}
theorem next_item {e j l:Addr} {i:Nat} {k:Int} {its:Array Value} {x old:Value} {Q:Option Value->Shared->Prop}
  (q1:IsEnum s.heap e j k old) (q2:s.heap.IsListIter j l i) (q3:s.heap.IsList l its) (q4:its[i]? = some x) (ne:e≠j)
  (kQ:∀ h',IsEnumOut h' e j (k+1) x s.heap.objs.size->h'.IsListIter j l (i+1)->h'.get? s.heap.objs.size=some {cls:=.type "tuple",data:=.seq #[.int k s.toks,x]} ->
   (∀ b o,b≠e->b≠j->s.heap.get? b=some o->h'.get? b=some o)->Q (some (.ref s.heap.objs.size)) {s with heap:=h',toks:=s.toks+1}) :
  wpAny (model prog w) A (pyNext (.ref e)) Q E s:=by
 have ty:s.TypeIs (.ref e) "enumerate" := ⟨_,q1,rfl⟩
 unfold pyNext
 refine wpAny_bind (wpAny_attempt (wpAny_callSpecial?_slot (name:=Str.ofString "__next__") ty F.slot_enumerate_next (wpAny_call_entry F.slot_enumerate_next ty F.entry_enumerate_next ?_ (F.args_enumerate_next_1 _))))
 obtain⟨hp,g,d,tk,os⟩:=s
 show wpAny _ _ (field (.ref e) 2 >>= _) _ _ _
 refine wpAny_bind (wpAny_field q1 rfl (x:=.ref j) rfl (wpAny_bind (wpAny_nextOf_list_item q2 q3 q4 fun h1 r1 z1=>?_)))
 replace z1:Heap.SameBut j hp h1:=z1
 have a1:IsEnum h1 e j k old:=(z1.2 e ne).trans q1
 show wpAny _ _ (field (.ref e) 3 >>= _) _ _ ⟨h1,g,d,tk,os⟩
 refine wpAny_bind (wpAny_field a1 rfl (x:=rawInt k) rfl ?_)
 show wpAny _ _ (field (.ref e) 4 >>= _) _ _ ⟨h1,g,d,tk,os⟩
 refine wpAny_bind (wpAny_field a1 rfl (x:=.none) rfl ?_)
 show wpAny _ _ (mkInt k >>= _) _ _ ⟨h1,g,d,tk,os⟩
 refine wpAny_bind (wpAny_mkInt ?_)
 show wpAny _ _ (setField (.ref e) 3 (rawInt (k+1)) >>= _) _ _ ⟨h1,g,d,tk+1,os⟩
 refine wpAny_bind (wpAny_setField_rec a1 Z2 fun h2 a2 z2=>?_)
 replace z2:Heap.SameBut e h1 h2:=z2
 replace a2:IsEnum h2 e j (k+1) old:=a2
 show wpAny _ _ (setField (.ref e) 4 .none >>= _) _ _ ⟨h2,g,d,tk+1,os⟩
 refine wpAny_bind (wpAny_setField_rec a2 Z2 fun h3 a3 z3=>?_)
 replace z3:Heap.SameBut e h2 h3:=z3
 replace a3:IsEnum h3 e j (k+1) old:=a3
 show wpAny _ _ (newTuple [.int k tk,x] >>= _) _ _ ⟨h3,g,d,tk+1,os⟩
 refine wpAny_bind (wpAny_newTuple ?_)
 have a4:IsEnum (h3.push {cls:=.type "tuple",data:=.seq #[.int k tk,x]}) e j (k+1) old:=Heap.get?_push_of_some _ a3
 generalize hh:h3.push {cls:=.type "tuple",data:=.seq #[.int k tk,x]}=h4 at a4
 have sz:h3.objs.size=hp.objs.size:=by rw[z3.1,z2.1,z1.1]
 have el:e<hp.objs.size:=Heap.lt_size q1
 have t4:h4.get? hp.objs.size=some {cls:=.type "tuple",data:=.seq #[.int k tk,x]}:=by rw[<- hh,<- sz];exact Heap.get?_push_size _ rfl
 have k4:∀ b o,b≠e->b≠j->hp.get? b=some o->h4.get? b=some o:=fun b o be bi hb=>by
  rw[<- hh];exact Heap.get?_push_of_some _ (z3.extBut b o be (z2.extBut b o be (z1.extBut b o bi hb)))
 have r4:h4.IsListIter j l (i+1):=by
  rw[<- hh];obtain⟨o,ho,r⟩:=(r1.extBut z2.extBut (Ne.symm ne)).extBut z3.extBut (Ne.symm ne);exact⟨o,Heap.get?_push_of_some _ ho,r⟩
 show wpAny _ _ (Builtin.SmallTypes.ownedTupleIsFree (.ref e) >>= _) _ _ ⟨h4,g,d,tk+1,os⟩
 rw[sz]
 clear hh a3 z3 a2 z2 a1 z1 r1 sz h3 h2 h1
 refine wpAny_bind ?_
 unfold Builtin.SmallTypes.ownedTupleIsFree
 refine wpAny_bind (wpAny_field a4 rfl (x:=.none) rfl (wpAny_pure ?_))
 simp only[if_true]
 refine wpAny_bind (wpAny_rule (wpAny_bind (wpAny_field a4 rfl (x:=old) rfl (wpAny_bind (wpAny_setField_rec a4 Z2 fun h5 a5 z5=>?_)))))
 replace z5:Heap.SameBut e h4 h5:=z5
 replace a5:IsEnum h5 e j (k+1) x:=a5
 show wpAny _ _ (Builtin.SmallTypes.ownedTupleHandOut (.ref e) (.ref hp.objs.size) >>= _) _ _ ⟨h5,g,d,tk+1,os⟩
 refine wpAny_bind ?_
 unfold Builtin.SmallTypes.ownedTupleHandOut
 refine wpAny_bind (wpAny_setField_rec a5 Z2 fun h6 a6 z6=>?_)
 replace z6:Heap.SameBut e h5 h6:=z6
 replace a6:IsEnumOut h6 e j (k+1) x hp.objs.size:=a6
 refine wpAny_setField_rec a6 Z2 fun h7 a7 z7=>?_
 replace z7:Heap.SameBut e h6 h7:=z7
 replace a7:IsEnumOut h7 e j (k+1) x hp.objs.size:=a7
 refine wpAny_bind (wpAny_letGo (wpAny_pure ⟨_,rfl,wpAny_pure (kQ h7 a7 ?_ ?_ ?_)⟩))
 ·exact((r4.extBut z5.extBut (Ne.symm ne)).extBut z6.extBut (Ne.symm ne)).extBut z7.extBut (Ne.symm ne)
 ·exact z7.extBut _ _ (ne_of_gt el) (z6.extBut _ _ (ne_of_gt el) (z5.extBut _ _ (ne_of_gt el) t4))
 ·exact fun b o be bi hb=>z7.extBut b o be (z6.extBut b o be (z5.extBut b o be (k4 b o be bi hb)))
theorem next_end{e j l:Addr}{i:Nat}{k:Int}{its:Array Value}{old:Value}{Q:Option Value->Shared->Prop}(hh:A.handled=none)
  (q1:IsEnum s.heap e j k old)(q2:s.heap.IsListIter j l i)(q3:s.heap.IsList l its)(q4:its[i]? = none)
  (kQ:∀ h',Heap.ExtBut j s.heap h'->Q none {s with heap:=h'}):wpAny (model prog w) A (pyNext (.ref e)) Q E s:=by
 have ty:s.TypeIs (.ref e) "enumerate" := ⟨_,q1,rfl⟩
 unfold pyNext
 refine wpAny_bind (wpAny_attempt (wpAny_callSpecial?_slot (name:=Str.ofString "__next__") ty F.slot_enumerate_next (wpAny_call_entry F.slot_enumerate_next ty F.entry_enumerate_next ?_ (F.args_enumerate_next_1 _))))
 show wpAny _ _ (field (.ref e) 2 >>= _) _ _ _
 refine wpAny_bind (wpAny_field q1 rfl (x:=.ref j) rfl (wpAny_bind (wpAny_nextOf_list_end hh q2 q3 q4 fun h' x hx ho=>?_)))
 obtain⟨o,ho,hc⟩:=ho
 exact wpAny_bind (wpAny_isInstance (T := "StopIteration") (b:=true) ⟨o,ho,hc⟩ isSubtype_stop (wpAny_pure (kQ _ hx)))
end
end En
namespace L2
open PySem PySem.Spec PyProof.Rows
def Ite(K:Frag)(a:Addr)(k:Int):It :=
 ⟨fun i H=>∃ xs x,SqL K H a xs/\xs[i]? = some x,fun i H v H'=>∃ p x,v=.ref p/\H p=none/\(∀ xs,SqL K H a xs->xs[i]? = some x)/\H'=upd H p (.tup [.int (k+i),x]),fun i H=>∃ xs,SqL K H a xs/\xs.length<=i⟩
theorem Fb{P:Program}{w:World}{K:Frag}{elts:List Expr}{x1:Nat}{tpos:Pos}(a e j:Addr)(k:Int)(ne:e≠j) :
  Turn P w K (.Tuple elts x1 tpos) (Ite K a k) [e,j] e (fun i h=>(∃ old,IsEnum h e j (k+i) old)/\h.IsListIter j a i) where
 mem:=.head _
 obj:=fun i h st c hc=>by
  obtain⟨⟨old,hz⟩,h1⟩:=st
  cases hc with
  | head=>exact⟨_,hz,fun v z=>by cases z⟩
  | tail _ hc=>cases hc with
   | head=>obtain⟨o,e,_,d⟩:=h1;exact⟨o,e,fun v z=>by rw[d]at z;cases z⟩
   | tail _ hc=>cases hc
 keep:=fun i h h' st k=>by
  obtain⟨⟨old,hz⟩,h1⟩:=st
  exact⟨⟨old,k e (.head _) _ hz⟩,h1.at fun o e=>k j (.tail _ (.head _)) o e⟩
 item:=by
  intro X hP hw hK hc i pins s σ H E I hf st hg
  subst hP hw hK
  obtain⟨xs,x,hq,hx⟩:=hg
  obtain⟨⟨old,hz⟩,h1⟩:=st
  obtain⟨us,rv,p,hsz⟩:=I.list hq
  obtain⟨u,hu,ru⟩:=rv.get hx
  have lt:∀ {c o},s.heap.get? c=some o->c≠s.heap.objs.size:=fun e=>ne_of_lt (Heap.lt_size e)
  refine En.next_item hz h1 p.isList (x:=u) (by simpa using hu) ne fun h' a1 a2 a3 hk=>?_
  refine⟨_,rfl,wpAny_letOwnedTupleGo_enum a1 fun h'' hz' hs'=>?_⟩
  have hfr:H s.heap.objs.size=none:=I.hok.fresh (le_refl _)
  have hT:h''.get? s.heap.objs.size=some {cls:=.type "tuple",data:=.seq #[.int (k+i) s.toks,u]}:=(hs'.2 _ (Ne.symm (lt hz))).trans a3
  have kk:∀ c o,c≠e->c≠j->s.heap.get? c=some o->h''.get? c=some o:=fun c o q1 q2 e'=>(hs'.2 c q1).trans (hk c o q1 q2 e')
  have fe:=hf e (.head _)
  have fj:=hf j (.tail _ (.head _))
  have hch:∀ c,c∉[e,j]->c≠e/\c≠j:=fun c hc=>⟨fun z=>hc (z▸.head _),fun z=>hc (z▸.tail _ (.head _))⟩
  have trk:∀ c o,H c=some o->c≠e/\c≠j:=fun c o q=>⟨(fun z=>by rw[z,fe.1]at q;cases q),(fun z=>by rw[z,fj.1]at q;cases q)⟩
  have I1:Inv X pins σ (upd H s.heap.objs.size (.tup [.int (k+i),x])) {s with heap:=h'',toks:=s.toks+1}:=by
   refine I.step (g':=s.gens) (d':=s.drawn) (t':=s.toks+1) (ch:=[e,j]) (fun c hc=>?_) (fun c o _ _ hc e' _=>?_) (fun c o _ _ hc e' _=>?_) (fun c o hc e' n=>?_) (fun c o hc e'=>?_) (fun c q e'=>?_) (fun c o q e'=>?_) (fun c q e'=>?_) (fun m hm=>?_) (fun c o e'=>?_) I.bare
   ·cases hc with
    | head=>exact⟨fe.2.2.2.1,fe.2.1,fe.2.2.2.2.1,fe.2.2.2.2.2⟩
    | tail _ hc=>cases hc with
     | head=>exact⟨fj.2.2.2.1,fj.2.1,fj.2.2.2.2.1,fj.2.2.2.2.2⟩
     | tail _ hc=>cases hc
   ·exact kk c o (hch c hc).1 (hch c hc).2 e'
   ·exact⟨o.slots,kk c o (hch c hc).1 (hch c hc).2 e'⟩
   ·rw[aD (lt e')];exact n
   ·exact⟨o,kk c o (hch c hc).1 (hch c hc).2 e'⟩
   ·rw[aD (aF e' hfr)];exact e'
   ·rw[aD (aF e' hfr)];exact e'
   ·exact⟨#[],by rw[aD (aF e' hfr),e'];simp⟩
   ·obtain⟨o,es,ep,ho,r⟩:=hm
    exact⟨o,es,ep,kk _ o (Ne.symm fe.2.1) (Ne.symm fj.2.1) ho,r⟩
   ·by_cases hcT:c=s.heap.objs.size
    ·subst hcT
     rw[ao]at e'
     cases e'
     exact⟨by show 2<=sizeLine;decide,[.int (k+i) s.toks,u],.cons ⟨_,rfl⟩ (.cons ru .nil),⟨_,hT,rfl,_,rfl⟩⟩
    ·rw[aD hcT]at e'
     obtain⟨q1,q2⟩:=trk c o e'
     refine(I.hok c o e').stay (fun d w' hd q=>?_) (fun d q=>?_) fun d w' q=>?_
     ·have:d≠e/\d≠j:=by
       rcases hd with rfl|hd
       ·exact⟨q1,q2⟩
       ·exact trk d _ hd
      exact kk d w' this.1 this.2 q
     ·rw[aD (aF q hfr)];exact q
     ·rw[aD (aF q hfr)];exact q
  refine⟨.ref s.heap.objs.size,_,I1,rfl,⟨s.heap.objs.size,x,rfl,hfr,fun zs hq'=>by rw[I.list_inj hq' hq];exact hx,rfl⟩,?_,fun c hc=>?_⟩
  ·refine⟨⟨u,?_⟩,a2.at fun o q=>(hs'.2 j (Ne.symm ne)).trans q⟩
   have:=hz'
   rwa [show k+(i:Int)+1=k+((i+1:Nat):Int)from by omega]at this
  ·have hc0:=(hf c hc).1
   have hne:c≠s.heap.objs.size:=by
    cases hc with
    | head=>exact lt hz
    | tail _ hc=>cases hc with
     | head=>obtain⟨_,q,_⟩:=h1;exact lt q
     | tail _ hc=>cases hc
   rw[aD hne];exact hc0
 done:=by
  intro X hP hw hK hc i pins s σ H E I hf st hg
  subst hP hw hK
  obtain⟨xs,hq,hend⟩:=hg
  obtain⟨⟨old,hz⟩,h1⟩:=st
  obtain⟨us,rv,p,hsz⟩:=I.list hq
  have l1:=rv.length
  refine En.next_end (I.ok.hd hc) hz h1 p.isList Z6 fun h' hk=>⟨rfl,?_⟩
  have fj:=hf j (.tail _ (.head _))
  exact I.turned (t':=s.toks) (fun b o hb q=>hk b o hb q) fj.1 fj.2.1 fj.2.2.2.1 fj.2.2.2.2.1 fj.2.2.2.2.2
 self:=fun A i s Q E st h=>by
  obtain⟨⟨old,hz⟩,_⟩:=st
  exact wpAny_pyIter_enum hz h
section
variable {X:Cx} {K:Frag}
def Pu(K:Frag)(k:Int)(ta:TA):TI:=fun σ H R=>ta σ H fun vs H1=>∃ a,vs=[.ref a]/\(∃ xs,SqL K H1 a xs)/\R (Ite K a k) H1
theorem J7{a:Expr}{ta:TA}{p pos:Pos}{elts:List Expr}{x1:Nat}{tpos:Pos}(hK:X.K=K)(hg:Gl X "enumerate")(hm:X.mg "enumerate" = none)(ha:PA X [a] ta)(hs:starEach [a] X.env=[(false,eval a X.env)]:=by rfl) :
  PI X (.Tuple elts x1 tpos) (.Call (.Name "enumerate" p) [a] [] pos) (Pu K 0 ta):=by
 subst hK
 intro pins s σ H R I h
 refine Call_ (uW I hg hm boot_enumerate (PyProof.Rows.callWith_type1 (thn (ha pos pins s σ H _ I h) fun us s1 ⟨vs,H1,I1,r1,q1⟩=>?_) (by rw[hs];rfl) rfl))
 obtain⟨a1,e,⟨xs,hx⟩,q⟩:=q1
 subst e
 obtain⟨u,rfl,rx⟩:=vals1 r1
 cases rx
 obtain⟨vs1,_,p1,_⟩:=I1.list hx
 refine call_enumerate_list p1.isList fun h' z1 z2 z3 zk=>?_
 refine wpAny_pyIter_enum z1 ?_
 have I2:Inv X pins σ H1 {s1 with heap:=h'}:=I1.kept (t':=s1.toks) zk
 refine⟨_,[s1.heap.objs.size+1,s1.heap.objs.size],_,_,H1,rfl,I2,Fb a1 _ _ 0 (Nat.succ_ne_self _),⟨⟨_,z1⟩,z2⟩,fun c hc=>?_,q⟩
 have hle:s1.heap.objs.size<=c:=by
  cases hc with
  | head=>exact le_succ _
  | tail _ hc=>cases hc with
   | head=>exact le_refl _
   | tail _ hc=>cases hc
 exact I1.fpOk hle (I1.hok.fresh hle)
end
end L2
namespace En
open PySem PySem.Spec PyProof.Rows
open AutoSeq1 (wpAny_loadPart')
section
variable {prog:Program} {w:World} {A:Around} {E:EV} {s:Shared}
end
end En
namespace L2
open PySem PySem.Spec PyProof.Rows
section
variable {X:Cx} {K:Frag}
end
theorem FT {K:Frag} {a:Addr} {k:Int} {xs:List V} {g:TG} {tb:TS} {D:Ends} {σ:St} {H:Hp} (Pv:Nat -> St -> Hp -> Prop) (h0:Pv 0 σ H) (hl:∀ i σ H,i <= xs.length -> Pv i σ H -> SqL K H a xs)
  (hs:∀ (i:Nat) x p σ H,xs[i]? = some x -> Pv i σ H -> H p = none -> g (.ref p) σ (upd H p (.tup [.int (k + i),x])) fun σ2 H2=>tb { D with nx:=Pv (i + 1),ct:=Pv (i + 1),bk:=D.nx } σ2 H2) (hd:∀ σ H,Pv xs.length σ H -> D.nx σ H) :
  ∃ W:Nat -> Nat -> St -> Hp -> Prop,(∃ m,W 0 m σ H) /\ ∀ i m σ H,W i m σ H ->
   ((Ite K a k).stop i H /\ D.nx σ H) \/ ((Ite K a k).go i H /\ ∃ N:St -> Hp -> Prop,(∀ σ' H',N σ' H' -> ∃ m',m' < m /\ W (i + 1) m' σ' H') /\ ∀ x H',(Ite K a k).yld i H x H' -> g x σ H' fun σ2 H2=>tb { D with nx:=N,ct:=N,bk:=D.nx } σ2 H2):=by
 refine ⟨fun i m σ H=>m = xs.length - i /\ i <= xs.length /\ Pv i σ H,⟨xs.length,Z2,zero_le _,h0⟩,?_⟩
 rintro i m σ H ⟨rfl,hi,p⟩
 have q:=hl i σ H hi p
 by_cases hlt:i < xs.length
 ·refine .inr ⟨⟨xs,xs[i],q,by simp [hlt]⟩,Pv (i + 1),fun σ' H' p'=>⟨xs.length - (i + 1),Z1,rfl,hlt,p'⟩,fun x H' y=>?_⟩
  obtain ⟨p0,x0,rfl,hp,hx,rfl⟩:=y
  exact hs i x0 p0 σ _ (hx xs q) p hp
 ·have e:i = xs.length:=by omega
  subst e
  exact .inl ⟨⟨xs,q,le_refl _⟩,hd σ H p⟩
section
variable {X:Cx} {e:Expr} {te:TE} {pos:Pos}
theorem wA{K:Frag}(h:X.K=K):OpR X (compareOp .NotIn) (rIn K true):=by subst h;exact fU
end
section
variable {X:Cx}
end
theorem Gs(xs:List V)(k:Nat):iy xs none (some (k:Int))=xs.take k:=by
 unfold iy
 rw[HT.sIx_none,HT.sIx_nat,List.drop_zero,Nat.sub_zero]
 by_cases h:k<=xs.length
 ·rw[Nat.min_eq_left h]
 ·rw[Nat.min_eq_right Z1,take_length,List.take_of_length_le Z1]
theorem KR{xs:List V}{n:Nat}(f:Nat->V)(hl:xs.length=n)(h:∀ (i:Nat) v,xs[i]? = some v->v=f i):xs=(List.range n).map f:=by
 apply ext_getElem
 ·rw[length_map,length_range,hl]
 ·intro i h1 h2
  rw[h i _ (getElem?_eq_getElem h1)]
  simp
end L2
namespace Mine
open PySem PySem.Spec PyProof.Rows L2 PySem.Builtin PySem.Builtin.Str
def nO(ks:List Int):Str:=⟨(ks.map fun k=>97+k.toNat).toArray⟩
def yu(ks:List Int):Prop:=∀ k∈ks,0<=k/\k<26
theorem mR(ks:List Int):(nO ks).cps.toList=ks.map fun k=>97+k.toNat:=by simp[nO]
theorem xO(ks:List Int):(nO ks).length=ks.length:=by simp[nO,Str.length]
theorem KZ{ks:List Int}(h1:1<=ks.length)(h8:ks.length<=8)(h:yu ks):cB (nO ks):=⟨by rw[xO];exact h1,by rw[xO];exact h8,fun n hn=>by
 rw[mR]at hn
 obtain⟨k,hk,rfl⟩:=mem_map.mp hn
 have:=h k hk
 omega⟩
theorem JR(ks:List Int):Txt.join ("" : Str) (ks.map fun k=>(⟨#[97+k.toNat]⟩:Str))=nO ks:=by
 rw[Ga]
 show glued _ _=_
 rw[StrLaws.glued_eq_join]
 apply iW
 rw[mQ,map_map,mR]
 induction ks with
 | nil=>rfl
 | cons a r ih=>simp only[map_cons,List.flatten_cons,ih] <;> rfl
theorem yu.take{ks:List Int}(h:yu ks)(n:Nat):yu (ks.take n):=fun k hk=>h k (mem_of_mem_take hk)
def zM(bs:List Int):List Str:=(List.range 8).map fun i=>nO (bs.take (i+1))
theorem JP{bs:List Int}(h:yu bs)(hl:bs.length=8):∀ z∈zM bs,cB z:=fun z hz=>by
 obtain⟨i,hi,rfl⟩:=mem_map.mp hz
 have hi:=mem_range.mp hi
 exact KZ (by rw[length_take];omega) (by rw[length_take];omega) (h.take _)
theorem lat{b:Int}(h0:0<=b)(h1:b<26):atI letters.cps.toList b=some (97+b.toNat):=by
 have h:=bK (Bs h0 h1)
 rwa [show((b.toNat:Nat):Int)=b from by omega]at h
theorem n6{zs:List Str}{x:Str}(h:zs.Nodup)(hx:x∉zs):(zs++[x]).Nodup:=by
 refine List.pairwise_append.mpr ⟨h,List.pairwise_singleton _ _,fun a ha b hb=>?_⟩
 rw[mem_singleton.mp hb]
 exact fun e=>hx (e▸ha)
theorem Ak{ks:List Int}(h:ks.length<=8):((ks.map fun k=>(⟨#[97+k.toNat]⟩:Str)).map (·.length)).sum+(ks.map fun k=>(⟨#[97+k.toNat]⟩:Str)).length*(("" : Str)).length<=16777216:=by
 have h1:((ks.map fun k=>(⟨#[97+k.toNat]⟩:Str)).map (·.length)).sum<=(ks.map fun k=>(⟨#[97+k.toNat]⟩:Str)).length*1:=xZ fun y hy=>by
  obtain⟨k,_,rfl⟩:=mem_map.mp hy
  exact le_refl 1
 have h2:(("" : Str)).length=0:=by decide +kernel
 rw[h2]
 rw[length_map]at h1 ⊢
 omega
theorem rB{s:Str}{zs:List V}(h:V.str s∈zs):inV (.str s) zs=true:=by
 unfold inV
 rw[any_eq_true]
 exact⟨_,h,by simp[eqV]⟩
end Mine
namespace L2
open PySem PySem.Spec PyProof.Rows PySem.W
abbrev cz(C:Addr)(dx:Option Addr)(vs:Array Value):Obj:={cls:=.ref C,dict:=dx,data:=.fields vs}
section
variable {prog:Program} {w:World} {A:Around} {R:Result->Shared->Prop} {h:Heap} {g:Array GenState} {d:Drawn} {t:Nat} {os:OsState}
variable {nm q:Str} {C N:Addr} {f:Value} {bs bm bmB:List Value} {hdct:Bool} {sn:List Str} {sub:List Value} {ab:Bool} {col:Option Bool} {dd:Option Addr} {k0 k1 k2 k3 k5:Option Value} {B newId initId:String}
theorem Ji (F:ExcBaseFacts B newId initId bmB) (T:OwnTail h bmB bm) {rest:List Value}
  (hC:h.get? C=some (excClassObj nm q C N bs bm hdct sn sub ab col dd k0 k1 k2 k3 k5 newId)) (hi:Looks (model prog w) h (typeLookup (.ref C) "__init__") (some f))
  (hb:∀ self,Looks (model prog w) h (bindSpecial f self) (f,[self])) (hrest:rest.length<=sizeLine)
  (hq:codeAny (model prog w) (A.under (.builtin "type.__call__" ⟨.ref C::rest,[]⟩)) (.call f ⟨.ref (h.objs.size+1)::rest,[]⟩) (InitBack (h.objs.size+1) R)
   ⟨(h.push {cls:=.type "tuple",data:=.seq rest.toArray}).push (cz C none #[.ref h.objs.size,.none,.none,.none,.bool false,.none]),g,d,t,os⟩) :
  codeAny (model prog w) A (.call (.ref C) ⟨rest,[]⟩) R ⟨h,g,d,t,os⟩:=by
 have f1:=PySem.tc_lookup
 have f2:=PySem.tc_bind (.ref C)
 have hT:(⟨h,g,d,t,os⟩:Shared).TypeIs (.ref C) "type" := ⟨_,hC,rfl⟩
 refine codeAny_of_tree ?_
 show wpAny _ _ (callAny (.ref C) _) _ _ _
 repeat (any_goals (first|assumption|with_reducible refine wpAny_loadPart_at hC ?_|wp_step))
 refine⟨rfl,?_⟩
 refine codeAny_call_builtin_at (Code.quiet_builtin _ Z4) PySem.entry_typeCall (wpAny_check_type_call_sub hC ?_)
 repeat (first|with_reducible refine wpAny_loadPart_at hC ?_|with_reducible refine wpAny_madeBy_exc hC ?_|wp_step)
 refine codeAny_call_builtin_code (Code.quiet_builtin _ F.quiet) (wpAny_check_new_subT F T hC ?_)
 refine codeAny_exc_new_subT F T hC ?_ hrest
 show wpAny _ _ _ _ _ _
 have kp:∀ b o,h.get? b=some o->((h.push {cls:=.type "tuple",data:=.seq rest.toArray}).push {cls:=.ref C,data:=.fields #[.ref h.objs.size,.none,.none,.none,.bool false,.none]}).get? b=some o:=fun b o e=>Heap.get?_push_of_some _ (Heap.get?_push_of_some _ e)
 have hC₁:=kp _ _ hC
 have hget:((h.push {cls:=.type "tuple",data:=.seq rest.toArray}).push {cls:=.ref C,data:=.fields #[.ref h.objs.size,.none,.none,.none,.bool false,.none]}).get? (h.objs.size+1)=some {cls:=.ref C,data:=.fields #[.ref h.objs.size,.none,.none,.none,.bool false,.none]}:=by heap_get
 have hcC:(Value.ref C::bm).contains (.ref C)=true:=by simp
 have t1:Looks (model prog w) ((h.push {cls:=.type "tuple",data:=.seq rest.toArray}).push {cls:=.ref C,data:=.fields #[.ref h.objs.size,.none,.none,.none,.bool false,.none]}) (typeOf (.ref (h.objs.size+1))) (.ref C):=(Looks.ld hget).andThen .now
 have s1:Looks (model prog w) ((h.push {cls:=.type "tuple",data:=.seq rest.toArray}).push {cls:=.ref C,data:=.fields #[.ref h.objs.size,.none,.none,.none,.bool false,.none]}) (isSubtype (.ref C) (.ref C)) true:=fun A' Q' E' s' k q'=>by
  obtain⟨h',g',d',tk',os'⟩:=s'
  refine wpAny_isSubtype_exc (k _ _ hC₁) ?_
  rw[hcC]
  exact q'
 have i1:=hi.keeps kp
 have b1:=(hb (.ref (h.objs.size+1))).keeps kp
 show wpAny _ _ _ _ _ ⟨(h.push {cls:=.type "tuple",data:=.seq rest.toArray}).push {cls:=.ref C,data:=.fields #[.ref h.objs.size,.none,.none,.none,.bool false,.none]},g,d,t,os⟩
 unfold isInstance callSpecial? specialOf
 repeat (first|with_reducible refine wpAny_call ?_|lk)
 refine codeAny_mono hq fun r s' z=>?_
 rcases r with e|(v|_|_|_) <;> first|exact z|exact z.elim|skip
 obtain⟨rfl,z⟩:=z
 exact wpAny_pure (wpAny_pure z)
theorem DY(F:ExcBaseFacts B newId initId bmB)(T:OwnTail h bmB bm){e:Addr}{dx:Option Addr}{t0:Addr}{a1 a2 a3 a4 a5 v:Value}
  (hC:h.get? C=some (excClassObj nm q C N bs bm hdct sn sub ab col dd k0 k1 k2 k3 k5 newId))(he:h.get? e=some {cls:=.ref C,dict:=dx,data:=.fields #[.ref t0,a1,a2,a3,a4,a5]})
  (hq:∀ h',(∀ b o,b≠e->h.get? b=some o->h'.get? b=some o)->h'.get? e=some {cls:=.ref C,dict:=dx,data:=.fields #[.ref h.objs.size,a1,a2,a3,a4,a5]}->R (.ok (.ret .none)) ⟨h',g,d,t,os⟩) :
  codeAny (model prog w) A (.call (.builtin initId) ⟨[.ref e,v],[]⟩) R ⟨h,g,d,t,os⟩:=by
 refine(codeAny_call_builtin F.init.plain F.initEntry (wpAny_check_init_subT F T hC he rfl ?_))
 wp_walk
 have hne:e≠h.objs.size:=ne_of_lt (Heap.lt_size he)
 refine hq _ (fun b o hb ho=>?_) ?_
 ·rw[Heap.get?_update_other _ _ (Ne.symm hb)]
  exact Heap.get?_push_of_some _ ho
 ·rw[Heap.get?_update_self _ (Heap.get?_push_of_some _ he) rfl]
  rfl
theorem Ip{E:EV}(F:ExcBaseFacts B newId initId bmB)(T:OwnTail h bmB bm){e:Addr}{dx:Option Addr}{t0:Addr}{a1 a2 a3 a4 a5 v:Value}{Q:EV}
  (hC:h.get? C=some (excClassObj nm q C N bs bm hdct sn sub ab col dd k0 k1 k2 k3 k5 newId))(he:h.get? e=some {cls:=.ref C,dict:=dx,data:=.fields #[.ref t0,a1,a2,a3,a4,a5]})
  (hq:∀ h',(∀ b o,b≠e->h.get? b=some o->h'.get? b=some o)->h'.get? e=some {cls:=.ref C,dict:=dx,data:=.fields #[.ref h.objs.size,a1,a2,a3,a4,a5]}->Q .none ⟨h',g,d,t,os⟩) :
  wpAny (model prog w) A (call (.builtin initId) [.ref e,v]) Q E ⟨h,g,d,t,os⟩:=by
 refine wpAny_call (DY F T hC he fun h' k e'=>?_)
 exact hq h' k e'
end
section
variable {prog:Program} {w:World} {A:Around} {E:EV} {s:Shared} {K:Frag} {x C:Addr} {ox:Obj} {od:Option Obj} {name:Str} {expr:Bool} {Q:EV}
end
section
variable {prog:Program} {w:World} {A:Around} {E:EV} {s:Shared} {K:Frag} {x C:Addr} {ox:Obj} {od:Option Obj} {name:Str} {expr:Bool} {Q:EV}
end
end L2
namespace L2
open PySem PySem.Spec PyProof.Rows PySem.W Builtin Builtin.ObjectAttr
def cH:List Value->Bool
 | .ref _::r=>cH r
 | l=>l==[.type "ValueError",.type "Exception",.type "BaseException",.type "object"]
theorem pL(c:Addr)(r:List Value):cH (.ref c::r)=cH r:=by rw[cH]
theorem uv:∀{l:List Value},cH l=true->(∃ c r,l=.ref c::r)\/l=[.type "ValueError",.type "Exception",.type "BaseException",.type "object"]
 | .ref c::r,_=>.inl ⟨c,r,rfl⟩
 | [],e=>by cases e
 | .type n::r,e=>.inr (eq_of_beq (by unfold cH at e;exact e))
 | .none::r,e=>.inr (eq_of_beq (by unfold cH at e;exact e))
 | .bool _::r,e=>.inr (eq_of_beq (by unfold cH at e;exact e))
 | .int _ _::r,e=>.inr (eq_of_beq (by unfold cH at e;exact e))
 | .str _ _::r,e=>.inr (eq_of_beq (by unfold cH at e;exact e))
 | .builtin _::r,e=>.inr (eq_of_beq (by unfold cH at e;exact e))
 | .float _ _::r,e=>.inr (eq_of_beq (by unfold cH at e;exact e))
 | .bytes _ _::r,e=>.inr (eq_of_beq (by unfold cH at e;exact e))
 | .ellipsis::r,e=>.inr (eq_of_beq (by unfold cH at e;exact e))
 | .notImplemented::r,e=>.inr (eq_of_beq (by unfold cH at e;exact e))
theorem o8(self:Value):∀ {l:List Value},cH l=true->refuseLoop self "__setattr__" l=pure ()
 | l,e=>by
  rcases uv e with⟨c,r,rfl⟩|rfl
  ·rw[refuseLoop_ref];exact o8 self (l:=r) (by rw[pL]at e;exact e)
  ·exact PySem.F.store_ValueError.passes self
termination_by l=>l.length
theorem pA:∀ {l:List Value},cH l=true->l.contains (.type "object")=true
 | l,e=>by
  rcases uv e with⟨c,r,rfl⟩|rfl
  ·rw[contains_cons,pA (l:=r) (by rw[pL]at e;exact e),Bool.or_true]
  ·decide
termination_by l=>l.length
def yg(K:Frag)(C:Addr):Bool:=(clsIn K C).any fun cd=>cH cd.mro
section
variable {prog:Program} {w:World} {A:Around} {s:Shared} {K:Frag} {x C:Addr} {R:Result->Shared->Prop}
theorem Er {ox:Obj} {od:Option Obj} {name:Str} {tk:Tok} {v:Value} {r:Option Value} (X:K.In s.heap) (I:InstAt s.heap x ox C od) (hp:yg K C = true) (ht:takerIn K C name = some r)
  (h:∀ b,wpAny (model prog w) A.in1 (match r with | some a=>Builtin.ObjectAttr.setByDescriptor a (.ref x) v | none=>Builtin.ObjectAttr.storeInOwnDict (.ref x) (.ref C) (.str name tk) name v b)
   (fun fin s'=>match fin with | .done f=>R (.ok f) s' | .again c'=>c'.quiet = true /\ codeAny (model prog w) A c' R s') (fun e s'=>R (.error e) s') s) :
  codeAny (model prog w) A (.call (.builtin "object.__setattr__") ⟨[.ref x,.str name tk,v],[]⟩) R s:=by
 have SF:=PySem.F.store_object
 obtain ⟨cd,hc,ho⟩:=any_some hp
 have ne:cd.mro.isEmpty = false:=by cases q:cd.mro with | nil=>rw [q] at ho; cases ho | cons _ _=>rfl
 have sub:Looks (model prog w) s.heap (isInstance (.ref x) (.type "object")) true:=I.type.andThen (looks_mroIn X (by unfold mroIn; rw [hc,bind_some,if_neg (by rw [ne]; decide),pA ho]))
 refine codeAny_call_builtin SF.slot.plain SF.entry (@check_slot (model prog w) _ _ s "object.__setattr__" "object" "__setattr__" (.ref x) [.str name tk,v] [] _ SF.kind SF.split sub (SF.args (.ref x) (.str name tk) v) ?_)
 obtain ⟨attr,ha,hr⟩:=Option.bind_eq_some_iff.mp ht
 have hm:Looks (model prog w) s.heap (mroOf (.ref C)) cd.mro:=(looks_clsIn X hc).andThen .now
 have L3:Looks (model prog w) s.heap (storeTaker? attr) r:=by
  cases attr with
  | none=>cases hr; exact .now
  | some a =>
   obtain ⟨b,hb,rfl⟩:=Option.map_eq_some_iff.mp hr
   refine (looks_takesIn X hb).andThen ?_
   cases b <;> exact .now
 rw [osa_eq,refuse_eq]
 refine wpAny_bind (wpAny_bind (I.type.here (wpAny_bind (hm.here ?_))))
 rw [o8 _ ho]
 refine wpAny_pure (wpAny_bind (I.type.here (wpAny_bind ((looks_findIn X ha).here (wpAny_bind (L3.here ?_))))))
 exact h _
end
section
variable {prog:Program} {w:World} {A:Around} {E:EV} {s:Shared} {K:Frag} {x C:Addr} {name:Str} {v:Value} {vs:Array Value}
theorem Gj {Q:Unit->Shared->Prop} (X:K.In s.heap) (hx:s.heap.get? x=some (cz C none vs))
  (hs:findIn K (.ref C) "__setattr__" = some (some (.builtin "object.__setattr__"))) (hp:yg K C=true) (ht:takerIn K C name=some none) (hh:hasDictIn K C=true)
  (h:∀ h' t',(∀ b o,b≠x->s.heap.get? b=some o->h'.get? b=some o)->h'.get? x=some (cz C (some s.heap.objs.size) vs)->h'.Ns1 s.heap.objs.size (fun y=>if y=name then some v else none) ->
   Q () {s with heap:=h',toks:=t'}) :
  wpAny (model prog w) A (setAttr (.ref x) name v) Q E s:=by
 have I:InstAt s.heap x (cz C none vs) C none:=⟨hx,rfl,rfl,True.intro⟩
 refine set_plain X I hs (Er (s:={s with toks:=s.toks+1}) (r:=none) X I hp ht fun b=>?_)
 obtain⟨cd,hc,hd'⟩:=any_some hh
 refine wpAny_bind (wpAny_pure (wpAny_bind (wpAny_bind (wpAny_loadPart hx (wpAny_bind (Looks.here (s:={s with toks:=s.toks+1}) (looks_clsIn X hc) ?_))))))
 rw[hd']
 have hx₁:(s.heap.push {cls:=.type "dict",data:=.dict #[]}).get? x=some (cz C none vs):=Heap.get?_push_of_some _ hx
 have hxs:x≠s.heap.objs.size:=ne_of_lt (Heap.lt_size hx)
 refine wpAny_bind (wpAny_alloc' ?_)
 refine wpAny_bind (wpAny_update' hx₁ ?_)
 refine wpAny_pure ?_
 have hgd:((s.heap.push {cls:=.type "dict",data:=.dict #[]}).update x fun o=>{cls:=o.cls,dict:=some s.heap.objs.size,data:=o.data,slots:=o.slots}).get? s.heap.objs.size
   = some {cls:=.type "dict",data:=.dict #[]} :=
  (Heap.get?_update_ne _ _ _ _ hxs.symm).trans (Heap.get?_push_at rfl rfl)
 have hnd:((s.heap.push {cls:=.type "dict",data:=.dict #[]}).update x fun o=>{cls:=o.cls,dict:=some s.heap.objs.size,data:=o.data,slots:=o.slots}).Ns s.heap.objs.size (fun _=>none) :=
  ⟨_,#[],_,hgd,rfl,fun e he=>absurd he Z2,fun _=>rfl⟩
 show wpAny _ _ (storeInDict s.heap.objs.size (.str name s.toks) name v) _ _ _
 unfold storeInDict newKeyGuard
 refine wpAny_bind (wpAny_pure (wpAny_bind (wpAny_nsSet1 (Heap.Ns1.of_empty hnd) fun h' hn' hs=>?_)))
 obtain⟨oD,esD,epD,hoD,hdD,hcD⟩:=hn'.count (Within.cons name v Within.nil)
 refine wpAny_bind (wpAny_lookBehind hoD (by rw[hdD];exact pastItsLine_dict (le_trans hcD (by rw[length_cons,length_nil,sizeLine_eq];omega))) ?_)
 refine wpAny_pure (h _ _ (fun b ob hbx hb=>?_) ?_ hn')
 ·exact(hs.2 b (ne_of_lt (Heap.lt_size hb))).trans ((Heap.get?_update_ne _ _ _ _ hbx).trans (Heap.get?_push_of_some _ hb))
 ·exact(hs.2 x hxs).trans (Heap.get?_update_self _ hx₁ rfl)
end
end L2
namespace L2
open PySem PySem.Spec PyProof.Rows PySem.W
def NP(fl:Bool)(dx:Option Addr)(a1 a2:Value):Prop:=(fl=true->a1=.none)/\(dx=none->a2=.none)
def ExO(fl:Bool)(x C:Addr)(dx:Option Addr):HO:=.ext fun h=>∃ t0 a1 a2 a3 a4 a5,h.get? x=some (cz C dx #[.ref t0,a1,a2,a3,a4,a5])/\NP fl dx a1 a2
def XdO(p:Addr)(fs:List (Str×V)):HO:=.ext fun h=>∃ mA,h.Ns1 p mA/\(∀ f,lJ (fs.lookup f) (mA f))/\Within mA (fs.map (·.1))
section
variable {P:Program} {w:World} {H:Hp} {h:Heap} {fl:Bool} {x p C:Addr} {dx:Option Addr} {fs:List (Str×V)}
theorem uF{t0:Addr}{a1 a2 a3 a4 a5:Value}(e:h.get? x=some (cz C dx #[.ref t0,a1,a2,a3,a4,a5]))(hfl:NP fl dx a1 a2):bD P w H h x (ExO fl x C dx) :=
 ⟨⟨_,_,_,_,_,_,e,hfl⟩,⟨_,e⟩,fun h1 h2 ⟨t0,a1,a2,a3,a4,a5,q,z⟩ k=>⟨t0,a1,a2,a3,a4,a5,k _ q,z⟩⟩
theorem M4 {mA:MG} (n:h.Ns1 p mA) (r:∀ f,lJ (fs.lookup f) (mA f)) (wi:Within mA (fs.map (·.1))):bD P w H h p (XdO p fs) :=
 ⟨⟨mA,n,r,wi⟩,let⟨o,_,_,e,_⟩:=n;⟨o,e⟩,fun h1 h2 ⟨mA,⟨o,es,ep,e,c⟩,r⟩ k=>⟨mA,⟨o,es,ep,k _ e,c⟩,r⟩⟩
theorem qy(hok:HOk P w H h)(e:H x=some (ExO fl x C dx)):∃ t0 a1 a2 a3 a4 a5,h.get? x=some (cz C dx #[.ref t0,a1,a2,a3,a4,a5])/\NP fl dx a1 a2:=(show bD P w H h x (ExO fl x C dx)from hok x _ e).1
end
structure JW(K:Frag)(C:Addr):Prop where
 ga:findIn K (.ref C) "__getattribute__" = some (some (.builtin "BaseException.__getattribute__"))
 bx:mroIn K C (.type "BaseException")=some true
 nga:findIn K (.ref C) "__getattr__" = some none
 ob:mroIn K C (.type "object")=some true
 hd:hasDictIn K C=true
 ov:yg K C=true
 sa:findIn K (.ref C) "__setattr__" = some (some (.builtin "object.__setattr__"))
 cl:findIn K (.ref C) "__class__" = some (some (.builtin "object.__class__"))
 cg:specialIn K (.builtin "object.__class__") "__get__" = some (some (.builtin "getset_descriptor.__get__"))
 ct:takesIn K (.builtin "object.__class__")=some true
section
variable {X:Cx} {pins:OP} {σ:St} {H:Hp} {s:Shared} {fl:Bool} {a C dx:Addr} {fs:List (Str×V)} {f:Str} {v:V} {A:Around} {E:EV}
theorem Jk{y:V}{u:Value}{Q:Unit->Shared->Prop}(I:Inv X pins σ H s)(e:H a=some (ExO fl a C none))(c:JW X.K C)(n:cQ X.K C f)(ry:RelV y u)
  (h:∀ p s',H p=none->p≠a->Inv X pins σ (upd (upd H p (XdO p [(f,y)])) a (ExO fl a C (some p))) s'->Q () s'):wpAny (model X.prog X.w) A (setAttr (.ref a) f u) Q E s:=by
 obtain⟨t0,a1,a2,a3,a4,a5,hx,hfl⟩:=qy I.hok e
 have hlt:a<s.heap.objs.size:=Heap.lt_size hx
 have hne:s.heap.objs.size≠a:=ne_of_gt hlt
 refine Gj I.kIn hx c.sa c.ov n.taker c.hd fun h' t' k hx' hn'=>h s.heap.objs.size _ (I.hok.fresh (le_refl _)) hne ?_
 have g1:(h'.update a fun _=>cz C none #[.ref t0,a1,a2,a3,a4,a5]).get? a=some (cz C none #[.ref t0,a1,a2,a3,a4,a5]):=Heap.get?_update_self _ hx' rfl
 have g2:∀ b,b≠a->(h'.update a fun _=>cz C none #[.ref t0,a1,a2,a3,a4,a5]).get? b=h'.get? b:=fun b hb=>Heap.get?_update_ne _ _ _ _ hb
 have I1:=I.laid (a:=s.heap.objs.size) (o:=XdO s.heap.objs.size [(f,y)]) (h':=h'.update a fun _=>cz C none #[.ref t0,a1,a2,a3,a4,a5]) (t':=t') (fun b o q=>by
   by_cases hb:b=a
   ·subst hb;rw[hx]at q;cases q;exact g1
   ·rw[g2 b hb];exact k b o hb q) (le_refl _) (by
   obtain⟨o,es,ep,q,r⟩:=hn'
   refine M4 ⟨o,es,ep,by rw[g2 _ hne];exact q,r⟩ (fun g=>?_) (fun g hg=>?_)
   ·show lJ (List.lookup g [(f,y)]) (if g=f then some u else none)
    by_cases z:g=f
    ·have hb:(g==f)=true:=beq_iff_eq.mpr z
     simp only[List.lookup,hb,if_pos z];exact ry
    ·have hb:(g==f)=false:=beq_eq_false_iff_ne.mpr z
     simp only[List.lookup,hb,if_neg z];exact True.intro
   ·by_cases z:g=f
    ·rw[z];simp
    ·exact absurd (if_neg z) hg)
 refine I1.write (x:=a) (e:=a) (o:=ExO fl a C (some s.heap.objs.size)) (t':=t') (h':=h') (by rw[aD hne.symm,e];exact True.intro) (.inl rfl) (fun b o hb q=>by rw[<- g2 b hb];exact q) ⟨_,hx'⟩ (uF hx' ⟨hfl.1,fun z=>by cases z⟩)
end
def Fw(K:Frag)(ta tv:TE)(f:Str):TS:=fun D σ H=>tv σ H fun y H1=>ta σ H1 fun x H2=>∃ fl a C,x=.ref a/\H2 a=some (ExO fl a C none)/\JW K C/\cQ K C f /\
 ∀ p,H2 p=none->p≠a->D.nx σ (upd (upd H2 p (XdO p [(f,y)])) a (ExO fl a C (some p)))
section
variable {X:Cx} {o e value:Expr} {f:Str} {pos pos' tpos:Pos} {ta tv:TE}
theorem Jd(ha:PE X o ta)(hv:PE X value tv)(hs:swapsWith value (some (.Attribute o f pos')) pos.line X.env=pure false):PS X (.Assign [.Attribute o f pos'] value pos) (Fw X.K ta tv f):=by
 intro pins s σ H D I h
 refine plainObj_wpAny_Assign_Attribute (thn (hv pins s σ H _ I h) fun u s1 ⟨y,H1,I1,ry,q⟩=>thn (ha pins s1 σ H1 _ I1 q) fun ov s2 ⟨x,H2,I2,rx,fl,a,C,ex,ea,c,n,q2⟩=>?_) hs
 subst ex
 obtain rfl:ov=Value.ref a:=rx
 exact Jk I2 ea c n ry fun p s3 h1 h2 I3=>⟨σ,_,I3,q2 p h1 h2⟩
end
abbrev TJ:=Str->St->Hp->VK->Prop
def PJ(X:Cx)(es:List Expr)(t:TJ):Prop :=
 ∀ (pins:OP) (s:Shared) (σ:St) (H:Hp) (out:Str) (Q:VK),Inv X pins σ H s->t out σ H Q->wpAny (model X.prog X.w) X.A (joinParts out (evalEach es X.env)) (EP X pins σ Q) X.xe s
def RV:TJ:=fun out _ H Q=>out.length<=sizeLine/\Q (.str out) H
def Pb(te:TE)(tr:TJ):TJ:=fun out σ H Q=>te σ H fun x H1=>∃ y:Str,x=.str y/\(out++y).length<=sizeLine/\tr (out++y) σ H1 Q
def QX(te:TE):TE:=fun σ H Q=>te σ H fun x H1=>(∃ i:Int,x=.int i/\i.natAbs.log2<1920/\Q (.str (toString i)) H1)\/∃ y:Str,x=.str y/\y.length<=sizeLine/\Q (.str y) H1
section
variable {X:Cx} {e v1 v2:Expr} {es:List Expr} {te:TE} {tr:TJ} {pos:Pos}
theorem MK:PJ X [] RV:=fun pins s σ H out Q I ⟨h1,h2⟩=>joinParts_nil ⟨.str out,H,I.tok _,⟨_,rfl⟩,h2⟩ h1
theorem CQ(he:PE X e te)(hr:PJ X es tr)(hs:evalEach (e::es) X.env=eval e X.env::evalEach es X.env:=by rfl):PJ X (e::es) (Pb te tr):=by
 intro pins s σ H out Q I h
 rw[hs]
 refine joinParts_cons (thn (he pins s σ H _ I h) fun u s1 ⟨x,H1,I1,rx,y,ex,hl,q⟩=>?_)
 subst ex
 obtain⟨t,rfl⟩:=(show ∃ t,u=Value.str y t from rx)
 exact⟨hl,hr pins s1 σ H1 _ Q I1 q⟩
theorem Eu(h:PJ X (v1::v2::es) tr):PE X (.JoinedStr (v1::v2::es) pos) (tr Str.empty):=fun pins s σ H Q I q=>JoinedStr_many (h pins s σ H _ Q I q)
theorem M9(he:PE X e te):PE X (.FormattedValue e (-1) none pos) (QX te):=by
 intro pins s σ H Q I h
 refine FormattedValue_plain (thn (he pins s σ H _ I h) fun u s1 ⟨x,H1,I1,rx,q⟩=>?_)
 rcases q with⟨i,ex,hl,q⟩|⟨y,ex,hl,q⟩
 ·subst ex
  obtain⟨t,rfl⟩:=(show ∃ t,u=Value.int i t from rx)
  exact formatField_int_small hl ⟨.str (toString i),H1,I1.tok _,⟨_,rfl⟩,q⟩
 ·subst ex
  obtain⟨t,rfl⟩:=(show ∃ t,u=Value.str y t from rx)
  exact formatField_str (fun t' tk=>⟨.str y,H1,I1.tok _,⟨_,rfl⟩,q⟩) hl
end
abbrev uR:List Value:=[.type "ValueError",.type "Exception",.type "BaseException",.type "object"]
def ExC(K:Frag)(C:Addr):Prop:=∃ nm q N bs bm hdct sn sub ab col dd k0 k1 k2 k3 k5,K.lookup C=some (excClassObj nm q C N bs bm hdct sn sub ab col dd k0 k1 k2 k3 k5 "ValueError.__new__")/\∀ h,K.In h->OwnTail h uR bm
theorem GP{H:Hp}{a:Addr}{o:HO}(e:H a=some o):upd H a o=H:=by
 funext b
 by_cases hb:b=a
 ·subst hb;rw[ao,e]
 ·rw[aD hb]
section
variable {X:Cx} {pins:OP} {σ:St} {H:Hp} {s:Shared} {fl:Bool} {a C B:Addr} {dx:Option Addr} {A:Around} {E:EV}
theorem HH{u:Value}{Q:EV}(I:Inv X pins σ H s)(e:H a=some (ExO fl a C dx))(c:ExC X.K C)(h:∀ s',Inv X pins σ H s'->Q .none s') :
  wpAny (model X.prog X.w) A (call (.builtin "ValueError.__init__") [.ref a,u]) Q E s:=by
 obtain⟨nm,q,N,bs,bm,hdct,sn,sub,ab,col,dd,k0,k1,k2,k3,k5,hc,T⟩:=c
 obtain⟨t0,a1,a2,a3,a4,a5,hx,hfl⟩:=qy I.hok e
 obtain⟨hh,g,d,t,os⟩:=s
 refine Ip PySem.F.excBase_ValueError (T _ I.kIn) (I.kIn _ _ hc) hx fun h' k hx'=>h _ ?_
 have z:=I.write (x:=a) (e:=a) (o:=ExO fl a C dx) (t':=t) (h':=h') (by rw[e];exact True.intro) (.inl rfl) (fun b o hb q=>k b o hb q) ⟨_,hx'⟩ (uF hx' hfl)
 rwa [GP e]at z
def NZ(K:Frag)(t:TA):TE:=fun σ H Q=>t σ H fun vs H1=>∃ fl a C dx y,vs=[.ref a,y]/\H1 a=some (ExO fl a C dx)/\ExC K C/\Q .non H1
theorem FZ {x:Str} {e1:Expr} {es:List Expr} {t:TA} {p apos pos:Pos} {pl:Sem Bool} (hg:Gl X x) (hm:X.mg x=some (.ref B)) (hs:specialIn X.K (.ref B) "__getattribute__" = some (some (.builtin "type.__getattribute__")))
  (hr:readsIn X.K B (.type "type")=true) (hf:findCls X.K (.ref B) (.type "type") "__init__" = some (.val (.builtin "ValueError.__init__"))) (ha:PA X (e1::es) t)
  (hdb:(x==("__debug__" : Str))=false:=by decide) (he:starEach (e1::es) X.env=(false,eval e1 X.env)::starEach es X.env:=by rfl) (hpl:(backTo pos (starEach es X.env)).any (·.1)=false:=by rfl)
  (ht:eval (.Call (.Attribute (.Name x p) "__init__" apos) (e1::es) [] pos) X.env=(do
   let ov <- eval (.Name x p) X.env
   standAt apos.atName
   let(f,first) <- holding [ov] (getMethod ov "__init__" pl)
   callWith pos f first (backTo pos (starEach (e1::es) X.env)) (backToKw pos (keywordEach [] X.env))):=by rfl) :
  PE X (.Call (.Attribute (.Name x p) "__init__" apos) (e1::es) [] pos) (NZ X.K t):=by
 intro pins s σ H Q I h
 refine methodCall_KW (pl:=pl) (oH I hg hm ?_ hdb) ht
 refine method_cls I.kIn hs (cls_value I.kIn hr hf rfl ?_)
 have I0:Inv X pins σ H {s with toks:=s.toks+1}:=I.tok _
 refine PyProof.Rows.callWith_builtin1 (thn (ha pos pins _ σ H _ I0 h) fun us s1 ⟨vs,H1,I1,r1,fl,a,C,dx,y,ev,ea,c,q1⟩=>?_) he hpl
 subst ev
 obtain⟨u,u2,rfl,rx,_⟩:=vals2 r1
 obtain rfl:u=Value.ref a:=rx
 exact HH I1 ea c fun s' I'=>⟨.non,H1,I',rfl,q1⟩
end
def Il(C:Addr)(sp:Sp)(dvs:List V)(E:XK)(t:TA):TE:=fun σ H Q=>t σ H fun vs H1=>∀ x,H1 x=none ->
 sp (.ref x::(vs++dvs)) (upd H1 x (ExO true x C none)) (fun v H2=>v=.non/\Q (.ref x) H2) E
section
variable {X:Cx} {CX:CXT} {k:Nat} {f C:Addr} {fd:FuncData} {ps:List Str} {sp:Sp} {dvs:List V} {ds:List Value} {E:XK} {x:Str} {p pos:Pos} {e:Expr} {es:List Expr} {t:TA}
theorem Inv.madeX{pins:OP}{σ:St}{H:Hp}{s:Shared}{us:List Value}(I:Inv X pins σ H s):Inv X pins σ (upd H (s.heap.objs.size+1) (ExO true (s.heap.objs.size+1) C none))
  {s with heap:=(s.heap.push {cls:=.type "tuple",data:=.seq us.toArray}).push (cz C none #[.ref s.heap.objs.size,.none,.none,.none,.bool false,.none])}:=by
 have hget:((s.heap.push {cls:=.type "tuple",data:=.seq us.toArray}).push (cz C none #[.ref s.heap.objs.size,.none,.none,.none,.bool false,.none])).get? (s.heap.objs.size+1)=some (cz C none #[.ref s.heap.objs.size,.none,.none,.none,.bool false,.none]):=by heap_get
 exact I.laid (a:=s.heap.objs.size+1) (t':=s.toks) (fun b u q=>Heap.get?_push_of_some _ (Heap.get?_push_of_some _ q)) (le_succ _) (uF hget ⟨fun _=>rfl,fun _=>rfl⟩)
theorem Ei {pins:OP} {σ:St} {H:Hp} {s:Shared} {Q:VK} {us:List Value} {vs:List V} (c:ExC X.K C) (hi:findIn X.K (.ref C) "__init__" = some (some (.ref f))) (hf:isFn X.K (.ref f)=true)
  (F:aK X.prog X.w X.K X.mg X.base CX k f fd ps sp) (hr:aP (k+1) X.A) (hb:Binds X.K fd ps ds) (hd:Vals dvs ds) (hx:jN CX X E) (I:Inv X pins σ H s) (r:Vals vs us) (hps:ps.length<=1000)
  (h:∀ x,H x=none->sp (.ref x::(vs++dvs)) (upd H x (ExO true x C none)) (fun v H2=>v=.non/\Q (.ref x) H2) E) :
  wpAny (model X.prog X.w) X.A (call (.ref C) us) (EP X pins σ Q) X.xe s:=by
 have hq:=h (s.heap.objs.size+1) (I.hok.fresh (le_succ _))
 have I2:=Inv.madeX (C:=C) (us:=us) I
 have r2:Vals (V.ref (s.heap.objs.size+1)::(vs++dvs)) (Value.ref (s.heap.objs.size+1)::(us++ds)):=.cons rfl (r.append hd)
 have hl:(Value.ref (s.heap.objs.size+1)::us++ds).length=ps.length:=by
  have e:=r2.length
  rw[F.len _ _ _ _ hq]at e
  exact e.symm
 have hus:us.length<=sizeLine:=by
  have:us.length<=ps.length:=by rw[<- hl,length_append,length_cons];omega
  exact le_trans this (le_trans hps Z0)
 obtain⟨nm,q,N,bs,bm,hdct,sn,sub,ab,col,dd,k0,k1,k2,k3,k5,hc,T⟩:=c
 refine wpAny_call (Ji PySem.F.excBase_ValueError (T _ I.kIn) (I.kIn _ _ hc) (looks_findIn I.kIn hi) (fun self=>bind_fn I.kIn self (beq_iff_eq.mp hf)) hus
  (codeAny_mono (F.run _ X.stack _ _ ⟨Value.ref (s.heap.objs.size+1)::us,[]⟩ (Value.ref (s.heap.objs.size+1)::(us++ds)) _ _ E (hr.make C us [])
  (I2.env0.make C us []) (hb _ (Value.ref (s.heap.objs.size+1)::us) I2.kIn hl) r2 hq) fun r s' hq'=>?_))
 cases r with
 | error e=>exact hx pins σ _ _ e s' I2 hq'
 | ok fl =>
  cases fl with
  | ret u =>
   obtain⟨v,H',I3,rv,ev,q3⟩:=I2.after hq'
   subst ev
   exact⟨rv,⟨V.ref (s.heap.objs.size+1),H',I3,rfl,q3⟩⟩
  | next=>exact False.elim hq'
  | brk=>exact False.elim hq'
  | cont=>exact False.elim hq'
theorem Gq(c:ExC X.K C)(hi:findIn X.K (.ref C) "__init__" = some (some (.ref f)))(hf:isFn X.K (.ref f)=true)(hkp:keepIn X.K (.ref C)=true)
  (F:aK X.prog X.w X.K X.mg X.base CX k f fd ps sp)(hr:aP (k+1) X.A)(hg:Gl X x)(hm:X.mg x=some (.ref C))(hb:Binds X.K fd ps ds)(hd:Vals dvs ds)(hx:jN CX X E)(hps:ps.length<=1000)
  (ha:PA X (e::es) t)(hdb:(x==("__debug__" : Str))=false:=by decide)(he:starEach (e::es) X.env=(false,eval e X.env)::starEach es X.env:=by rfl)(hpl:(backTo pos (starEach es X.env)).any (·.1)=false:=by rfl) :
  PE X (.Call (.Name x p) (e::es) [] pos) (Il C sp dvs E t):=by
 intro pins s σ H Q I h
 refine wpAny_Call_Name_kw (oH I hg hm ?_ hdb)
 refine callWith_K (h₀:=X.base) I.ok.mod.kin hkp (thn (ha pos pins s σ H _ I h) fun us s1 ⟨vs,H1,I1,r,q⟩=>⟨I1.kIn,?_⟩) he hpl
 exact Ei c hi hf F hr hb hd hx I1 r hps q
end
def qx(es:Array DictEntry):Bool:=es.toList.all fun e=>match e.key with|.str _ _=>true|_=>false
theorem Bh{es:Array DictEntry}(e:qx es=true):StrKeys es:=by
 intro d hd
 have:=all_eq_true.mp e d (Array.mem_toList_iff.mpr hd)
 split at this
 ·rename_i x t q;exact⟨x,t,q⟩
 ·cases this
theorem Qa{K:Frag}{N:Addr}{oN:Value}{dN:Option Addr}{es:Array DictEntry}{nn:Nat}{sl:Array (Option Value)}{h:Heap}(X:K.In h)(l:K.lookup N=some ⟨oN,dN,.dict es nn,sl⟩)(e:qx es=true):h.Ns N (nsFind es) :=
 ⟨_,es,nn,X _ _ l,rfl,Bh e,fun _=>rfl⟩
section
variable {K:Frag} {C D N HE M:Addr} {nm q nm' q':Str} {bs bs' bm bm':List Value} {sn sn':List Str} {sub sub':List Value} {ab ab' hdct hdct':Bool} {col col':Option Bool} {dd dd':Option Addr} {k0 k1 k2 k3 k5 j0 j1 j2 j3 j5:Option Value} {oN:Value} {dN:Option Addr} {es:Array DictEntry} {nn:Nat} {sl:Array (Option Value)} {i i':String}
theorem Mj(l:K.lookup HE=some (excClassObj nm q HE N bs uR hdct sn sub ab col dd k0 k1 k2 k3 k5 "ValueError.__new__")):ExC K HE :=
 ⟨_,_,_,_,_,_,_,_,_,_,_,_,_,_,_,_,l,fun h X=>.base⟩
theorem Jt(l:K.lookup HE=some (excClassObj nm q HE N bs uR hdct sn sub ab col dd k0 k1 k2 k3 k5 i))(n:K.lookup N=some ⟨oN,dN,.dict es nn,sl⟩)(e:qx es=true)(hi:nsFind es "__init__" = none)
  (l':K.lookup C=some (excClassObj nm' q' C M bs' (.ref HE::uR) hdct' sn' sub' ab' col' dd' j0 j1 j2 j3 j5 "ValueError.__new__")):ExC K C :=
 ⟨_,_,_,_,_,_,_,_,_,_,_,_,_,_,_,_,l',fun h X=>.own (X _ _ l) (Qa X n e) hi .base⟩
theorem ul(l:K.lookup C=some (excClassObj nm q C N bs bm hdct sn sub ab col dd k0 k1 k2 k3 k5 i)):∃ cd,clsIn K C=some cd/\cd.mro=.ref C::bm/\cd.hasDict=hdct:=⟨_,by unfold clsIn;rw[l],rfl,rfl⟩
theorem Bf{b:Value}(l:K.lookup C=some (excClassObj nm q C N bs bm hdct sn sub ab col dd k0 k1 k2 k3 k5 i)):mroIn K C b=some ((Value.ref C::bm).contains b):=by
 obtain⟨cd,h1,h2,_⟩:=ul l
 unfold mroIn
 rw[h1,bind_some,h2,if_neg Z2]
theorem Jx(l:K.lookup C=some (excClassObj nm q C N bs bm hdct sn sub ab col dd k0 k1 k2 k3 k5 i))(l':K.lookup D=some (excClassObj nm' q' D M bs' bm' hdct' sn' sub' ab' col' dd' j0 j1 j2 j3 j5 i')) :
  kitOne K (.ref C) (.ref D)=some ((Value.ref C::bm).contains (.ref D)):=by
 unfold kitOne
 by_cases e:(Value.ref C==Value.ref D)=true
 ·rw[if_pos e,eq_of_beq e];simp
 ·rw[if_neg e]
  obtain⟨cd,h1,_⟩:=ul l'
  have h2:typeIn K (.ref D)=some (.type "type"):=by show(K.lookup D).map (·.cls)=_;rw[l'];rfl
  show(if((clsIn K D).isSome&&typeIn K (.ref D)==some (.type "type"))=true then mroIn K C (.ref D)else none)=_
  rw[h1,h2,if_pos Z2,Bf l]
theorem Kv(l:K.lookup C=some (excClassObj nm q C N bs bm true sn sub ab col dd k0 k1 k2 k3 k5 i))(hb:cH bm=true)(hbe:bm.contains (.type "BaseException")=true)
  (ga:findIn K (.ref C) "__getattribute__" = some (some (.builtin "BaseException.__getattribute__")))(nga:findIn K (.ref C) "__getattr__" = some none)
  (sa:findIn K (.ref C) "__setattr__" = some (some (.builtin "object.__setattr__")))(cl:findIn K (.ref C) "__class__" = some (some (.builtin "object.__class__")))
  (cg:specialIn K (.builtin "object.__class__") "__get__" = some (some (.builtin "getset_descriptor.__get__")))(ct:takesIn K (.builtin "object.__class__")=some true):JW K C:=by
 obtain⟨cd,h1,h2,h3⟩:=ul l
 refine⟨ga,?_,nga,?_,?_,?_,sa,cl,cg,ct⟩
 ·rw[Bf l,contains_cons,hbe,Bool.or_true]
 ·rw[Bf l,contains_cons,pA hb,Bool.or_true]
 ·unfold hasDictIn;rw[h1];exact h3
 ·unfold yg;rw[h1];show cH cd.mro=true;rw[h2,pL];exact hb
end
structure XIn(K:Frag)(C:Addr)(qual:Str)(st:Stmt)(ps:List Str)(f:Addr)(fd:FuncData):Prop where
 F:Fun K "__init__" qual st f fd
 b:Binds K fd ps []
 i:findIn K (.ref C) "__init__" = some (some (.ref f))
 fn:isFn K (.ref f)=true
 kp:keepIn K (.ref C)=true
 sm:ps.length<=1000
section
variable {X:Cx} {k:Nat} {f C:Addr} {fd:FuncData} {ps:List Str} {sp:Sp} {x qual:Str} {st:Stmt} {p pos pos':Pos} {e o value:Expr} {es:List Expr} {t:TA} {ta tv:TE} {g:Str}
theorem K4(A:XIn X.K C qual st ps f fd)(G:aK X.prog X.w X.K X.mg X.base CX0 k f fd ps sp)(hr:aP (k+1) X.A)(hm:X.mg x=some (.ref C))(c:ExC X.K C)(ha:PA X (e::es) t)(hg:Gl X x:=by rfl)
  (hdb:(x==("__debug__" : Str))=false:=by decide)(he:starEach (e::es) X.env=(false,eval e X.env)::starEach es X.env:=by rfl)(hpl:(backTo pos (starEach es X.env)).any (·.1)=false:=by rfl) :
  PE X (.Call (.Name x p) (e::es) [] pos) (Il C sp [] E0 t):=Gq c A.i A.fn A.kp G hr hg hm A.b .nil nP A.sm ha hdb he hpl
theorem GF(ha:PE X o ta)(hv:PE X value tv)(hs:swapsWith value (some (.Attribute o g pos')) pos.line X.env=pure false:=by rfl):QS X (.Assign [.Attribute o g pos'] value pos) (Fw X.K ta tv g):=⟨Jd ha hv hs⟩
end
structure wG(fr:List Addr)(e:Addr)(old:Option Addr)(h h':Heap):Prop where
 keep:∀ b o,h.get? b=some o->b≠e->some b≠old->b∉fr->h'.get? b=some o
 slot:∀ b o,h.get? b=some o->b≠e->some b≠old->∃ sl,h'.get? b=some {o with slots:=sl}
 there:∀ b o,h.get? b=some o->∃ o',h'.get? b=some o'
 size:h.objs.size<=h'.objs.size
def zp(h:Heap)(T:Addr):Prop:=∃ oT ts,h.get? T=some oT/\oT.data=.fields ts/\ts[3]? = some .none
theorem N7{o:Obj}{vs:Array Value}(hd:o.data=.fields vs)(f:Array Value->Array Value):Obj.mapFields f o={o with data:=.fields (f vs)}:=by
 obtain⟨c,d,dt,sl⟩:=o
 cases(show dt=.fields vs from hd)
 rfl
theorem yd{o:Obj}{vs:Array Value}(hd:o.data=.fields vs):o.isFreed=false:=Obj.isFreed_of_fields hd
section
variable {M:Model} {A:Around} {E:EV} {s:Shared} {base:Heap} {env:Env} {outer:List Env} {L e:Addr} {oe:Obj} {vs:Array Value} {Q:Unit->Shared->Prop}
theorem Cm {head:Value} {nx:Bool} (hfr:A.frames = some (env :: outer)) (hl:s.heap.FunFrames base (env :: outer)) (hf:env.frame = some L) (he:s.heap.get? e = some oe) (hd:oe.data = .fields vs) (hsz:1 < vs.size)
  (h:∀ h' T,wG (frs (env :: outer)) e none s.heap h' -> h'.get? e = some { oe with data:=.fields (vs.setIfInBounds 1 (.ref T)) } -> s.heap.objs.size <= T -> zp h' T -> Q () { s with heap:=h' }) :
  wpAny M A (do
   let a <- frameOf env
   let pl <- entryPlaceOf L nx
   let b <- EntryCells.newEntry head a .none (rawInt L) .none pl
   setField (.ref e) 1 b) (fun _ s'=>wpAny M A (setFlight (.ref e) none) Q E s') E s:=by
 have en:e ∉ frs (env :: outer):=fun hm=>by
  obtain ⟨_,o,ho,hn⟩:=hl.mem hm
  rw [he] at ho; cases ho; exact hn vs hd
 have elt:e < s.heap.objs.size:=Heap.lt_size he
 refine wpAny_bind (wpAny_frameOf_fun hfr hl hf fun g1 G1=>?_)
 refine wpAny_bind (wpAny_entryPlaceOf fun pl hpl=>?_)
 unfold EntryCells.newEntry newFields
 refine wpAny_bind (wpAny_newObj_type ?_ (hpl.sizeOk5 _ _ _ _ _))
 have e1:g1.get? e = some oe:=(G1.2.1 e en).trans he
 have z1:g1.objs.size = s.heap.objs.size:=G1.1
 have hts:(([head,.ref L,.none,rawInt L,.none] ++ (if pl.isEmpty then List.replicate 6 Value.none else pl)).toArray:Array Value).size > 3:=by
  simp only [size_toArray,length_append,length_cons,length_nil]
  omega
 generalize (([head,.ref L,.none,rawInt L,.none] ++ (if pl.isEmpty then List.replicate 6 Value.none else pl)).toArray:Array Value) = tv at hts
 have t2:=Heap.get?_push_size g1 (o:={ cls:=.type "traceback",dict:=none,data:=.fields tv }) rfl
 have k2:∀ b o,g1.get? b = some o -> (g1.push { cls:=.type "traceback",dict:=none,data:=.fields tv }).get? b = some o:=fun b o q=>Heap.get?_push_of_some _ q
 have z2:(g1.push { cls:=.type "traceback",dict:=none,data:=.fields tv }).objs.size = g1.objs.size + 1:=Heap.size_push _ _
 generalize g1.push { cls:=.type "traceback",dict:=none,data:=.fields tv } = g2 at t2 k2 z2
 have Tne:g1.objs.size ≠ e:=ne_of_gt (by rw [z1]; exact elt)
 refine wpAny_setField (k2 _ _ e1) hd hsz ?_
 have e3:=Heap.get?_update_self (h:=g2) (Obj.mapFields (·.setIfInBounds 1 (Value.ref g1.objs.size))) (k2 _ _ e1) (by rw [N7 hd]; exact yd rfl)
 rw [N7 hd] at e3
 have o3:∀ b,b ≠ e -> (g2.update e (Obj.mapFields (·.setIfInBounds 1 (Value.ref g1.objs.size)))).get? b = g2.get? b:=fun b hb=>Heap.get?_update_other _ _ (Ne.symm hb)
 have z3:(g2.update e (Obj.mapFields (·.setIfInBounds 1 (Value.ref g1.objs.size)))).objs.size = g2.objs.size:=by cases g2; simp [Heap.update]
 generalize g2.update e (Obj.mapFields (·.setIfInBounds 1 (Value.ref g1.objs.size))) = g3 at e3 o3 z3
 unfold setFlight
 refine wpAny_bind (wpAny_field e3 rfl (x:=.ref g1.objs.size) (by simp [hsz]) ?_)
 rw [if_pos (show (Value.ref g1.objs.size != Value.none) = true from by simp)]
 have t3:=(o3 _ Tne).trans t2
 refine wpAny_setField t3 rfl hts ?_
 have t4:=Heap.get?_update_self (h:=g3) (Obj.mapFields (·.setIfInBounds 3 ((none:Option Addr).elim Value.none fun f=>rawInt f))) t3 (yd rfl)
 have o4:∀ b,b ≠ g1.objs.size -> (g3.update g1.objs.size (Obj.mapFields (·.setIfInBounds 3 ((none:Option Addr).elim Value.none fun f=>rawInt f)))).get? b = g3.get? b:=fun b hb=>Heap.get?_update_other _ _ (Ne.symm hb)
 have z4:(g3.update g1.objs.size (Obj.mapFields (·.setIfInBounds 3 ((none:Option Addr).elim Value.none fun f=>rawInt f)))).objs.size = g3.objs.size:=by cases g3; simp [Heap.update]
 generalize g3.update g1.objs.size (Obj.mapFields (·.setIfInBounds 3 ((none:Option Addr).elim Value.none fun f=>rawInt f))) = g4 at t4 o4 z4
 have all:∀ b o,b ≠ e -> g1.get? b = some o -> g4.get? b = some o:=fun b o hb q=>by
  rw [o4 b (ne_of_lt (Heap.lt_size q)),o3 b hb]; exact k2 b o q
 have e4:g4.get? e = some { oe with data:=.fields (vs.setIfInBounds 1 (.ref g1.objs.size)) }:=(o4 e (Ne.symm Tne)).trans e3
 refine h g4 g1.objs.size ⟨fun b o q hb _ hn=>all b o hb ((G1.2.1 b hn).trans q),fun b o q hb _=>?_,fun b o q=>?_,Z1⟩ e4 Z1 ⟨_,_,t4,rfl,by simp [hts]⟩
 ·obtain ⟨sl,q1⟩:=G1.2.2 b o q
  exact ⟨sl,all b _ hb q1⟩
 ·by_cases hb:b = e
  ·subst hb; exact ⟨_,e4⟩
  ·obtain ⟨sl,q1⟩:=G1.2.2 b o q
   exact ⟨_,all b _ hb q1⟩
theorem Bw (hfr:A.frames=some (env::outer)) (hl:s.heap.FunFrames base (env::outer)) (hf:env.frame=some L) (he:s.heap.get? e=some oe) (hd:oe.data=.fields vs) (h1:vs[1]? = some .none)
  (h:∀ h' T,wG (frs (env::outer)) e none s.heap h'->h'.get? e=some {oe with data:=.fields (vs.setIfInBounds 1 (.ref T))}->s.heap.objs.size<=T->zp h' T->Q () {s with heap:=h'}) :
  wpAny M A (noteFrame (.ref e) env) (fun _ s'=>wpAny M A (setFlight (.ref e) none) Q E s') E s:=by
 unfold noteFrame
 simp only[hf]
 refine wpAny_bind (wpAny_field he hd h1 ?_)
 rw[if_neg Z0]
 exact Cm hfr hl hf he hd (Array.getElem?_eq_some_iff.mp h1).1 h
theorem DQ {T0:Addr} (hfr:A.frames = some (env :: outer)) (hl:s.heap.FunFrames base (env :: outer)) (hf:env.frame = some L) (he:s.heap.get? e = some oe) (hd:oe.data = .fields vs) (h1:vs[1]? = some (.ref T0)) (hT:zp s.heap T0) (hne:T0 ≠ e)
  (h:∀ h' T,wG (frs (env :: outer)) e (some T0) s.heap h' -> h'.get? e = some { oe with data:=.fields (vs.setIfInBounds 1 (.ref T)) } -> s.heap.objs.size <= T -> zp h' T -> Q () { s with heap:=h' }) :
  wpAny M A (noteFrame (.ref e) env) (fun _ s'=>wpAny M A (setFlight (.ref e) none) Q E s') E s:=by
 obtain ⟨oT,ts,hT,hdT,h3⟩:=hT
 unfold noteFrame
 simp only [hf]
 refine wpAny_bind (wpAny_field he hd h1 ?_)
 rw [if_pos (show (Value.ref T0 != Value.none) = true from by simp)]
 refine wpAny_bind (wpAny_field hT hdT h3 ?_)
 rw [if_neg (show ¬ ((Value.none == rawInt L) = true) from by simp [rawInt])]
 refine wpAny_bind (wpAny_setField hT hdT (Array.getElem?_eq_some_iff.mp h3).1 ?_)
 have Tf:T0 ∉ frs (env :: outer):=fun hm=>by
  obtain ⟨_,o,ho,hn⟩:=hl.mem hm
  rw [hT] at ho; cases ho; exact hn ts hdT
 have t1:=Heap.get?_update_self (h:=s.heap) (Obj.mapFields (·.setIfInBounds 3 Value.none)) hT (by rw [N7 hdT]; exact yd rfl)
 have o1:∀ b,b ≠ T0 -> (s.heap.update T0 (Obj.mapFields (·.setIfInBounds 3 Value.none))).get? b = s.heap.get? b:=fun b hb=>Heap.get?_update_other _ _ (Ne.symm hb)
 have z1:(s.heap.update T0 (Obj.mapFields (·.setIfInBounds 3 Value.none))).objs.size = s.heap.objs.size:=by cases s.heap; simp [Heap.update]
 generalize s.heap.update T0 (Obj.mapFields (·.setIfInBounds 3 Value.none)) = g at t1 o1 z1
 refine Cm (s:={ s with heap:=g }) hfr (hl.of_keeps fun b o q hn=>⟨o,(o1 b fun z=>?_).trans q,rfl⟩) hf ((o1 e (Ne.symm hne)).trans he) hd (Array.getElem?_eq_some_iff.mp h1).1 fun h' T N x hz tb=>h h' T ⟨fun b o q hb hT0 hn=>?_,fun b o q hb hT0=>?_,fun b o q=>?_,le_trans (le_of_eq z1.symm) N.size⟩ x (le_trans (le_of_eq z1.symm) hz) tb
 ·subst z; rw [hT] at q; cases q; exact hn ts hdT
 ·exact N.keep b o ((o1 b fun z=>hT0 (by rw [z])).trans q) hb Z2 hn
 ·exact N.slot b o ((o1 b fun z=>hT0 (by rw [z])).trans q) hb Z2
 ·by_cases z:b = T0
  ·subst z; exact N.there _ _ t1
  ·exact N.there _ _ ((o1 b z).trans q)
end
theorem Jl{P:Program}{w:World}{H:Hp}{h h':Heap}{fr:List Addr}{x C:Addr}{dx old:Option Addr}(ok:HOk P w H h)(N:wG fr x old h h')(hx:H x=some (ExO false x C dx))
  (hx':∃ t0 a1 a2 a3 a4 a5,h'.get? x=some (cz C dx #[.ref t0,a1,a2,a3,a4,a5])/\(dx=none->a2=.none))(hfr:∀ b∈fr,H b=none)(hold:∀ T,old=some T->H T=none):HOk P w H h':=fun a o e=>by
 by_cases ha:a=x
 ·subst ha
  rw[hx]at e
  cases e
  obtain⟨t0,a1,a2,a3,a4,a5,q,q2⟩:=hx'
  exact uF q ⟨fun z=>(by cases z),q2⟩
 ·refine(ok a o e).stay (fun b u hb q=>?_) (fun _ q=>q) fun _ _ q=>q
  have hbn:∃ v,H b=some v:=by
   rcases hb with rfl|hb
   ·exact⟨_,e⟩
   ·exact⟨_,hb⟩
  obtain⟨v,hv⟩:=hbn
  refine N.keep b u q (fun z=>?_) (fun z=>?_) (fun z=>?_)
  ·subst z
   rcases hb with z|hb
   ·exact ha z.symm
   ·rw[hx]at hb;cases hb
  ·have:=hold b z.symm
   rw[hv]at this;cases this
  ·have:=hfr b z
   rw[hv]at this;cases this
theorem Hg{fs fr:List Addr}{H0 H1:Hp}{h0 h1 h2:Heap}{x:Addr}{old:Option Addr}{o:HO}(u:Un fs [] H0 H1 h0 h1)(N:wG fr x old h1 h2)(hx:H1 x=some o)
  (hT:∀ T,old=some T->h0.objs.size<=T)(hfr:∀ b∈fr,b∈fs\/h0.objs.size<=b):Un fs [] H0 H1 h0 h2 where
 keep:=fun b ob q n hb he=>by
  refine N.keep b ob (u.keep b ob q n hb he) (fun z=>?_) (fun z=>?_) (fun z=>?_)
  ·have:=u.free b ob q n he
   rw[z,hx]at this;cases this
  ·exact absurd (Heap.lt_size q) (not_lt.mpr (hT b z.symm))
  ·rcases hfr b z with k|k
   ·exact hb k
   ·exact absurd (Heap.lt_size q) (not_lt.mpr k)
 slot:=fun b ob q n hb he=>by
  obtain⟨sl,q1⟩:=u.slot b ob q n hb he
  obtain⟨sl2,q2⟩:=N.slot b _ q1 (fun z=>by have:=u.free b ob q n he;rw[z,hx]at this;cases this) (fun z=>absurd (Heap.lt_size q) (not_lt.mpr (hT b z.symm)))
  exact⟨sl2,q2⟩
 free:=u.free
 there:=fun b ob q he=>by
  obtain⟨o',q1⟩:=u.there b ob q he
  exact N.there b o' q1
 tups:=u.tups
 frzs:=u.frzs
 tbls:=u.tbls
def Fly(h:Heap)(x:Addr)(v:Value):Prop:=∃ oe vs,h.get? x=some oe/\oe.data=.fields vs/\vs[1]? = some v
def CX1(P:Program)(w:World):CXT:=fun outer H s E e s'=>∃ x C dx T H',e=.ref x/\s'.os=s.os/\AllBare s'.gens/\Un (frs outer) [] H H' s.heap s'.heap/\HOk P w H' s'.heap/\H' x=some (ExO false x C dx) /\
 Fly s'.heap x (.ref T)/\zp s'.heap T/\H' T=none/\s.heap.objs.size<=T/\E e none H'
section
variable {X:Cx} {pins:OP} {σ:St} {H H1:Hp} {s s1:Shared} {x C:Addr} {dx:Option Addr}
structure Rz(X:Cx)(pins:OP)(σ:St)(H1:Hp)(s1:Shared)(H:Hp)(x C:Addr)(dx:Option Addr)(T:Addr)(s:Shared):Prop where
 pre:Inv X pins σ H1 s1
 os:s.os=s1.os
 bare:AllBare s.gens
 un:Un (frs X.stack) [] H1 H s1.heap s.heap
 hok:HOk X.prog X.w H s.heap
 at_:H x=some (ExO false x C dx)
 fly:Fly s.heap x (.ref T)
 tb:zp s.heap T
 off:H T=none
 new:s1.heap.objs.size<=T
theorem Rz.inv{T:Addr}(r:Rz X pins σ H1 s1 H x C dx T s):Inv X pins σ H s:=r.pre.call' r.os r.un r.hok r.bare (fun b z=>absurd z Z2)
theorem Oh{C:Addr}{dx:Option Addr}{t0 T:Addr}{a1 a2 a3 a4 a5:Value}:({cz C dx #[.ref t0,a1,a2,a3,a4,a5]with data:=.fields ((#[.ref t0,a1,a2,a3,a4,a5]:Array Value).setIfInBounds 1 (.ref T))}:Obj)=cz C dx #[.ref t0,.ref T,a2,a3,a4,a5]:=rfl
theorem Lk {old:Option Addr} {T:Addr} {h':Heap} {t0:Addr} {a2 a3 a4 a5:Value} (hst:X.stack=X.env::X.outer) (I:Inv X pins σ H1 s1) (os:s.os=s1.os) (bare:AllBare s.gens) (u:Un (frs X.stack) [] H1 H s1.heap s.heap) (hok:HOk X.prog X.w H s.heap) (hx:H x=some (ExO false x C dx)) (N:wG (frs (X.env::X.outer)) x old s.heap h')
  (ex:h'.get? x=some (cz C dx #[.ref t0,.ref T,a2,a3,a4,a5])) (h2:dx=none->a2=.none) (hT:s.heap.objs.size<=T) (hs:s1.heap.objs.size<=s.heap.objs.size) (tb:zp h' T) (hold:∀ T0,old=some T0->H T0=none/\s1.heap.objs.size<=T0):Rz X pins σ H1 s1 H x C dx T {s with heap:=h'} where
 pre:=I
 os:=os
 bare:=bare
 un:=Hg u N hx (fun T0 e=>(hold T0 e).2) fun b hb=>.inl (by rw[hst];exact hb)
 hok:=by
  have fr:∀ b∈frs (X.env::X.outer),H b=none:=fun b hb=>by
   have hb:b∈frs X.stack:=by rw[hst];exact hb
   obtain⟨_,o,ho,_⟩:=I.stack.mem hb
   exact u.free b o ho (I.stkFree b hb) Z2
  exact Jl hok N hx ⟨_,_,_,_,_,_,ex,h2⟩ fr fun T0 e=>(hold T0 e).1
 at_:=hx
 fly:=⟨_,_,ex,rfl,rfl⟩
 tb:=tb
 off:=hok.fresh hT
 new:=le_trans hs hT
theorem Gh{h:Heap}{t0:Addr}{a1 a2 a3 a4 a5 v:Value}(e:h.get? x=some (cz C dx #[.ref t0,a1,a2,a3,a4,a5]))(hf:Fly h x v):(#[.ref t0,a1,a2,a3,a4,a5]:Array Value)[1]? = some v:=by
 obtain⟨oe,vs,e2,hd,h1⟩:=hf
 rw[e]at e2
 cases e2
 cases(show Data.fields #[.ref t0,a1,a2,a3,a4,a5]=.fields vs from hd)
 exact h1
theorem Do {M:Model} {A:Around} {E:EV} {Q:Unit->Shared->Prop} (hA:A.frames=some X.stack) (hst:X.stack=X.env::X.outer) (hfm:X.env.frame=some X.env.locals) (I:Inv X pins σ H1 s1) (os:s.os=s1.os) (bare:AllBare s.gens) (u:Un (frs X.stack) [] H1 H s1.heap s.heap) (hok:HOk X.prog X.w H s.heap)
  (hs:s1.heap.objs.size<=s.heap.objs.size) (hx:H x=some (ExO false x C dx)) (hf:Fly s.heap x .none\/∃ T0,Fly s.heap x (.ref T0)/\zp s.heap T0/\H T0=none/\s1.heap.objs.size<=T0)
  (q:∀ T s',Rz X pins σ H1 s1 H x C dx T s'->Q () s'):wpAny M A (noteFrame (.ref x) X.env) (fun _ s'=>wpAny M A (setFlight (.ref x) none) Q E s') E s:=by
 obtain⟨t0,a1,a2,a3,a4,a5,e,hfl⟩:=qy hok hx
 have fun2:s.heap.FunFrames X.base (X.env::X.outer):=by
  have f:=(I.call' os u hok bare (fun b z=>absurd z Z2)).stack
  rwa [hst]at f
 rcases hf with hf|⟨T0,hf,hT0,hn,hz⟩
 ·refine Bw (hA.trans (congrArg some hst)) fun2 hfm e rfl (Gh e hf) fun h' T N ex hT tb=>q T _ ?_
  exact Lk hst I os bare u hok hx N (ex.trans (congrArg some Oh)) hfl.2 hT hs tb fun T0 z=>by cases z
 ·refine DQ (hA.trans (congrArg some hst)) fun2 hfm e rfl (Gh e hf) hT0 (aF hx hn).symm fun h' T N ex hT tb=>q T _ ?_
  exact Lk hst I os bare u hok hx N (ex.trans (congrArg some Oh)) hfl.2 hT hs tb fun T1 z=>by cases z;exact⟨hn,hz⟩
end
section
variable {P:Program} {w:World} {K:Frag} {mg:MG} {base:Heap} {N:List Str} {qual:Str} {scope:Scope} {f:Addr} {cd:Value} {A:Around} {outer:List Env} {s:Shared} {H:Hp} {E E1:XK}
theorem leave1{pins:OP}{σ:St}{H1:Hp}{s1:Shared}{x C:Addr}{dx:Option Addr}(I:Inv (pO (CX1 P w) P w K mg base N qual scope f cd A outer s H E) pins σ H1 s1)(hx:H1 x=some (ExO false x C dx))(hf:Fly s1.heap x .none)(q:E (.ref x) none H1) :
  (pO (CX1 P w) P w K mg base N qual scope f cd A outer s H E).xe (.ref x) s1:=by
 show wpAny _ _ (leaving _ _) _ _ _
 unfold leaving
 refine wpAny_bind (Do (X:=pO (CX1 P w) P w K mg base N qual scope f cd A outer s H E) I.ok.frames rfl rfl I rfl I.bare Un.refl I.hok (le_refl _) hx (.inl hf) fun T s' r=>?_)
 exact⟨x,C,dx,T,H1,rfl,r.inv.os,r.bare,r.inv.base,r.hok,hx,r.fly,r.tb,r.off,le_trans I.sz r.new,q⟩
theorem O6(hE:∀ e H',E1 e none H'->E e none H'):jN (CX1 P w) (pO (CX1 P w) P w K mg base N qual scope f cd A outer s H E) E1:=fun pins σ H1 s1 e s' I h=>by
 obtain⟨x,C,dx,T,H',rfl,os,bare,un,hok,hx,fl,tb,hn,hz,q⟩:=h
 show wpAny _ _ (leaving _ _) _ _ _
 unfold leaving
 have hs:s1.heap.objs.size<=s'.heap.objs.size:=le_trans hz (le_of_lt (by obtain⟨_,_,e,_⟩:=tb;exact Heap.lt_size e))
 refine wpAny_bind (Do (X:=pO (CX1 P w) P w K mg base N qual scope f cd A outer s H E) I.ok.frames rfl rfl I os bare un hok hs hx (.inr ⟨T,fl,tb,hn,hz⟩) fun T2 s2 r=>?_)
 exact⟨x,C,dx,T2,H',rfl,r.inv.os,r.bare,r.inv.base,r.hok,hx,r.fly,r.tb,r.off,le_trans I.sz r.new,hE _ _ q⟩
end
structure Dy(X:Cx)(W:St->XK):Prop where
 made:∀ {pins:OP} {σ:St} {H:Hp} {s:Shared} {x C:Addr} {dx:Option Addr},Inv X pins σ H s->H x=some (ExO false x C dx)->Fly s.heap x .none->W σ (.ref x) none H->X.xe (.ref x) s
 came:∀ {pins:OP} {σ:St} {H:Hp} {s s':Shared} {e:Value},Inv X pins σ H s->CX1 X.prog X.w X.stack H s (W σ) e s'->X.xe e s'
theorem jP{P:Program}{w:World}{K:Frag}{mg:MG}{base:Heap}{N:List Str}{qual:Str}{scope:Scope}{f:Addr}{cd:Value}{A:Around}{outer:List Env}{s:Shared}{H:Hp}{E:XK} :
  Dy (pO (CX1 P w) P w K mg base N qual scope f cd A outer s H E) (fun _=>E) :=
 ⟨fun I hx hf q=>leave1 I hx hf q,fun{pins σ H1 s1 s' e} I h=>O6 (fun _ _ q=>q) pins σ H1 s1 e s' I h⟩
section
variable {X:Cx} {W:St->XK} {k:Nat} {f C:Addr} {fd:FuncData} {ps:List Str} {sp:Sp} {x:Str} {st:Stmt} {p pos rpos:Pos} {e:Expr} {es:List Expr} {t:TA}
def N6(sp:Sp)(W:St->XK)(t:TA):TE:=fun σ H Q=>t σ H fun vs H1=>sp vs H1 Q (W σ)
theorem Di{pins:OP}{σ:St}{H:Hp}{s:Shared}{Q:VK}{us:List Value}{vs:List V}(hw:Dy X W)(F:aK X.prog X.w X.K X.mg X.base (CX1 X.prog X.w) k f fd ps sp)(hr:aP k X.A)(hb:Binds X.K fd ps [])
  (I:Inv X pins σ H s)(r:Vals vs us)(h:sp vs H Q (W σ)):wpAny (model X.prog X.w) X.A (call (.ref f) us) (EP X pins σ Q) X.xe s:=by
 have hl:(us++[]).length=ps.length:=by rw[append_nil,<- r.length];exact F.len _ _ _ _ h
 refine wpAny_call (codeAny_mono (F.run X.A X.stack s H ⟨us,[]⟩ (us++[]) vs Q (W σ) hr I.env0 (hb s us I.kIn hl) (by rw[append_nil];exact r) h) fun r s' hq=>?_)
 cases r with
 | error e=>exact hw.came I hq
 | ok fl =>
  cases fl with
  | ret u=>exact I.after hq
  | next=>exact False.elim hq
  | brk=>exact False.elim hq
  | cont=>exact False.elim hq
theorem dJ(A:FnAt X.K X.mg x st ps f fd)(F:aK X.prog X.w X.K X.mg X.base (CX1 X.prog X.w) k f fd ps sp)(hr:aP k X.A)(hw:Dy X W)(ha:PA X (e::es) t)(hg:Gl X x:=by rfl)(hdb:(x==("__debug__" : Str))=false:=by decide)(he:starEach (e::es) X.env=(false,eval e X.env)::starEach es X.env:=by rfl)(hpl:(backTo pos (starEach es X.env)).any (·.1)=false:=by rfl) :
  PE X (.Call (.Name x p) (e::es) [] pos) (N6 sp W t):=by
 intro pins s σ H Q I h
 refine wpAny_Call_Name_kw (oH I hg A.m ?_ hdb)
 refine callWith_K (h₀:=X.base) I.ok.mod.kin A.F.kp (thn (ha pos pins s σ H _ I h) fun us s1 ⟨vs,H1,I1,r,q⟩=>⟨I1.kIn,?_⟩) he hpl
 exact Di hw F hr A.b I1 r q
end
section
variable {P:Program} {w:World} {K:Frag} {mg:MG} {base:Heap}
theorem Fun.okX {x qual:Str} {st:Stmt} {f:Addr} {fd:FuncData} {N ps:List Str} {k:Nat} {sp:Sp} (F:Fun K x qual st f fd) (S:aJ N ps (aC st)) (len:∀ vs H Q E,sp vs H Q E->vs.length=ps.length)
  (hbody:∀ (cdv:Value) (A:Around) (outer:List Env) (s:Shared) (H:Hp) (vs:List V) (Q:VK) (E:XK),aP k (A.deeper (envOfC qual (aC st) s.heap.objs.size f cdv))->sp vs H Q E ->
   ∃ t,PSs (pO (CX1 P w) P w K mg base N qual (aC st) f cdv A outer s H E) (b7 st) t/\t {nx:=fun _ H'=>Q .non H',rt:=Q} (start N vs) H):aK P w K mg base (CX1 P w) (k+1) f fd ps sp:=by
 obtain⟨oc,od,kV,doc,pm,an,cdv,ct,osl,rfl,lk,hcd⟩:=F.ex
 exact K3 lk hcd S len fun A outer s H vs Q E hr h=>hbody cdv A outer s H vs Q E hr h
end
section
variable {M:Model} {A:Around} {E:EV} {s:Shared} {env:Env}
theorem Dw{x:Sem Value}{Q:Flow->Shared->Prop}(hh:A.handled=none)
  (h:wpAny M A x (fun v s1=>∃ e C dx vs,∃ nm q N bs bm hdct sn sub ab col dd k0 k1 k2 k3 k5 nid,v=.ref e/\s1.heap.get? C=some (excClassObj nm q C N bs bm hdct sn sub ab col dd k0 k1 k2 k3 k5 nid)/\bm.contains (.type "BaseException")=true/\s1.heap.get? e=some (cz C dx vs)/\vs[1]? = some .none/\E (.ref e) s1) E s) :
  wpAny M A (raiseStmt env (some x) none) Q E s:=by
 unfold raiseStmt
 refine wpAny_bind (thn h fun v s1 hz=>?_)
 obtain⟨e,C,dx,vs,nm,q,N,bs,bm,hdct,sn,sub,ab,col,dd,k0,k1,k2,k3,k5,nid,rfl,hC,hb,he,h1,hE⟩:=hz
 obtain⟨hp,g,d,t,os⟩:=s1
 refine wpAny_bind (wpAny_pure ?_)
 have nt:∀ {Q2:Bool->Shared->Prop},Q2 false ⟨hp,g,d,t,os⟩->wpAny M A (isType (.ref e)) Q2 E ⟨hp,g,d,t,os⟩:=fun{Q2} h2=>by
  unfold isType loadHead
  exact wpAny_bind (wpAny_loadPart he (wpAny_pure h2))
 refine wpAny_bind (wpAny_holding ?_)
 unfold excFromValue isExcClass isInstance
 refine wpAny_bind (wpAny_bind (nt ?_))
 rw[if_neg Z0]
 refine wpAny_pure ?_
 rw[if_neg Z0]
 refine wpAny_bind (wpAny_bind (wpAny_typeOf_ref he (wpAny_isSubtype_exc hC ?_)))
 rw[contains_cons,hb,Bool.or_true,if_pos rfl]
 refine wpAny_pure ?_
 dsimp only
 refine wpAny_bind (nt ?_)
 rw[if_neg Z0]
 unfold raisedInstance
 refine wpAny_bind (wpAny_bind (wpAny_typeOf_ref he (wpAny_bind (wpAny_typeOf_ref hC ?_))))
 rw[if_pos (show((excClassObj nm q C N bs bm hdct sn sub ab col dd k0 k1 k2 k3 k5 nid).cls==Value.type "type")=true from by rfl)]
 refine wpAny_pure ?_
 unfold setFlight
 refine wpAny_bind (wpAny_bind (wpAny_field he rfl h1 ?_))
 rw[if_neg Z0]
 exact wpAny_pure (wpAny_raiseNew_none hh hE)
end
theorem Ey{h:Heap}{bm:List Value}(T:OwnTail h uR bm):bm.contains (.type "BaseException")=true:=by
 induction T with
 | base=>rfl
 | own _ _ _ _ ih=>rw[contains_cons,ih,Bool.or_true]
section
variable {X:Cx} {W:St->XK} {pos:Pos} {e:Expr} {te:TE}
theorem Inv.flown{pins:OP}{σ:St}{H:Hp}{s:Shared}{x C:Addr}{dx:Option Addr}{fl:Bool}(I:Inv X pins σ H s)(hx:H x=some (ExO fl x C dx)):Inv X pins σ (upd H x (ExO false x C dx)) s:=by
 obtain⟨t0,a1,a2,a3,a4,a5,e,hfl⟩:=qy I.hok hx
 exact I.write (x:=x) (e:=x) (o:=ExO false x C dx) (t':=s.toks) (h':=s.heap) (by rw[hx];exact True.intro) (.inl rfl) (fun b o hb q=>q) ⟨_,e⟩ (uF e ⟨fun z=>(by cases z),hfl.2⟩)
def Nj(K:Frag)(W:St->XK)(te:TE):TS:=fun _ σ H=>te σ H fun v H1=>∃ x C dx,v=.ref x/\H1 x=some (ExO true x C dx)/\ExC K C/\W σ (.ref x) none (upd H1 x (ExO false x C dx))
theorem zN(hw:Dy X W)(hc:X.calm=true)(he:PE X e te):QS X (.Raise (some e) none pos) (Nj X.K W te):=⟨by
 intro pins s σ H D I h
 rw[arm_exec_Raise]
 refine wpAny_bind (wpAny_standAt ?_)
 refine Dw (x:=do let v <- eval e X.env;standAt pos;pure v) (I.ok.hd hc) (wpAny_bind (thn (he pins s σ H _ I h) fun u s1 hz=>?_))
 obtain⟨vv,H1,I1,r,x,C,dx,rfl,hx,c,q⟩:=hz
 obtain rfl:u=Value.ref x:=r
 obtain⟨nm,q',N,bs,bm,hdct,sn,sub,ab,col,dd,k0,k1,k2,k3,k5,hcl,hT⟩:=c
 obtain⟨t0,a1,a2,a3,a4,a5,e1,hn⟩:=qy I1.hok hx
 have h1:(#[.ref t0,a1,a2,a3,a4,a5]:Array Value)[1]? = some .none:=by rw[hn.1 rfl];rfl
 refine wpAny_bind (wpAny_standAt (wpAny_pure ⟨x,C,dx,_,nm,q',N,bs,bm,hdct,sn,sub,ab,col,dd,k0,k1,k2,k3,k5,_,rfl,I1.kIn _ _ hcl,Ey (hT _ I1.kIn),e1,h1,?_⟩))
 exact hw.made (I1.flown hx) ao ⟨_,_,e1,rfl,h1⟩ q⟩
end
section
variable {M:Model} {A:Around} {E:EV} {s:Shared}
end
section
variable {X:Cx} {pins:OP} {σ:St} {H:Hp} {s:Shared}
end
section
variable {X:Cx} {pins pins':OP} {σ:St} {H:Hp} {s:Shared} {E:EV} {x:Addr}
end
def Sub(K:Frag)(C D:Addr):Prop:=∃ nm q N bs bm hdct sn sub ab col dd k0 k1 k2 k3 k5 nid,K.lookup C=some (excClassObj nm q C N bs bm hdct sn sub ab col dd k0 k1 k2 k3 k5 nid)/\(Value.ref C::bm).contains (.ref D)=true
section
variable {X:Cx} {pins:OP} {σ:St} {H0 H1:Hp} {s0 s2:Shared} {x C D T:Addr} {dx:Option Addr} {cx n:Str} {i:Nat} {np hpos pos:Pos} {b₀:Stmt} {suite body orelse:List Stmt} {rest:List ExceptHandler} {ts to:TS} {En:Ends} {E:EV}
end
section
variable {X:Cx} {W:St->XK} {k:Nat} {f C:Addr} {fd:FuncData} {ps:List Str} {sp:Sp} {m:Str} {p pos apos:Pos} {e o:Expr} {es:List Expr} {ta:TE} {t:TA}
def Oa(C:Addr)(m:Str)(sp:Sp)(W:St->XK)(ta:TE)(t:TA):TE:=fun σ H Q=>ta σ H fun x H1=>∃ a dx fs,x=.ref a/\H1 a=some (.ins C dx fs)/\fs.lookup m=none/\t σ H1 fun vs H2=>sp (x::vs) H2 Q (W σ)
theorem Hv {pl:Sem Bool} (he:PE X o ta) (c:Cls X.K C) (hm:Meth X.K C m f) (F:aK X.prog X.w X.K X.mg X.base (CX1 X.prog X.w) k f fd ps sp) (hr:aP k X.A) (hb:Binds X.K fd ps []) (hw:Dy X W) (ha:PA X (e::es) t)
  (hst:starEach (e::es) X.env=(false,eval e X.env)::starEach es X.env:=by rfl) (hpl:(backTo pos (starEach es X.env)).any (·.1)=false:=by rfl)
  (ht:eval (.Call (.Attribute o m apos) (e::es) [] pos) X.env=(do
   let ov <- eval o X.env
   standAt apos.atName
   let(f,first) <- holding [ov] (getMethod ov m pl)
   callWith pos f first (backTo pos (starEach (e::es) X.env)) (backToKw pos (keywordEach [] X.env))):=by rfl) :
  PE X (.Call (.Attribute o m apos) (e::es) [] pos) (Oa C m sp W ta t):=by
 intro pins s σ H Q I h
 refine methodCall_KW (pl:=pl) (thn (he pins s σ H _ I h) fun u s1 ⟨x,H1,I1,rx,a,dx,fs,ex,ea,l,q⟩=>?_) ht
 subst ex
 obtain rfl:u=Value.ref a:=rx
 refine lR I1 ea c hm l ?_
 refine callWith_K (first:=[.ref a]) (h₀:=X.base) I.ok.mod.kin hm.kp (thn (ha pos pins s1 σ H1 _ I1 q) fun us s2 ⟨vs,H2,I2,r,q2⟩=>⟨I2.kIn,?_⟩) hst hpl
 exact Di (us:=.ref a::us) (vs:=.ref a::vs) hw F hr hb I2 (.cons rfl r) q2
theorem yX:MtR X "str.count" (fun x vs H Q=>∃ z y,x=.str z/\vs=[.str y]/\Q (.int (Txt.count z y)) H):=by
 intro pins s σ H x vs v us Q I rx rv h
 obtain⟨z,y,rfl,rfl,q⟩:=h
 obtain⟨t,rfl⟩:=rx
 obtain⟨u,rfl,t2,rfl⟩:=vals1 rv
 exact SC.count ⟨.int _,H,I.tok _,⟨_,rfl⟩,q⟩
theorem dH:Dy X (fun _=>E0):=⟨fun _ _ _ q=>q.elim,fun _ z=>by obtain⟨_,_,_,_,_,_,_,_,_,_,_,_,_,_,_,q⟩:=z;exact q.elim⟩
theorem ug{K:Frag}(h:X.K=K):OpR X (compareOp .In) (rIn K false):=by subst h;exact ou
theorem nU{K:Frag}{m:Str}(h:X.K=K)(he:PE X e ta)(hb:attributeBase e m X.env (eval e X.env)=eval e X.env):PE X (.Attribute e m pos) (Od K ta m):=by subst h;exact cA he hb
theorem uU:∀ {ys:List Str} {us:List Value},Vals (ys.map V.str) us -> StrsAre us ys
 | [],_,h=>by cases h; exact .nil
 | y :: ys,_,h=>by
  cases h with
  | cons r t =>
   obtain ⟨tk,rfl⟩:=r
   exact .cons y tk (uU t)
theorem qH:∀ {ys:List Str} {us:List Value},StrsAre us ys->Vals (ys.map V.str) us
 | _,_,.nil=>.nil
 | _,_,.cons y t h=>.cons ⟨t,rfl⟩ (qH h)
theorem lC:mD X (.builtin "sorted") (fun xs H Q=>∃ p ys,xs=[.ref p]/\SqL X.K H p (ys.map V.str)/\ys.length<64/\∀ l ys',ys'.Perm ys->sortedS ys'=true->H l=none->Q (.ref l) (upd H l (.lst (ys'.map V.str)))):=by
 intro pins s σ H xs us Q I r h
 obtain⟨p,ys,rfl,hl,hn,q⟩:=h
 obtain⟨u,rfl,ru⟩:=vals1 r
 obtain rfl:u=Value.ref p:=ru
 obtain⟨its,hv,hp,_⟩:=I.list hl
 have hlen:its.length=ys.length:=by have:=hv.length;rw[length_map]at this;exact this.symm
 refine sorted_strs hp.isList (uU hv) Z1 fun out ss' h1 h2 h3=>?_
 obtain⟨e,he⟩:=sortedAll_at s.heap its out
 have hz:(ss'.map V.str).length<=sizeLine:=by rw[length_map,h2.length_eq];exact le_trans (le_of_lt hn) Z0
 refine⟨.ref (s.heap.objs.size+1),_,I.laid (a:=s.heap.objs.size+1) (o:=.lst (ss'.map V.str)) (t':=s.toks) (fun b o z=>sortedAll_old z) (le_succ _) ?_,rfl,q _ ss' h2 h3 (I.hok.fresh (le_succ _))⟩
 exact⟨hz,out.toList,e,qH h1,by simpa [seqObj] using he⟩
end
section
variable {X:Cx} {W:St->XK} {k:Nat} {f C:Addr} {fd:FuncData} {ps:List Str} {sp:Sp} {x:Str} {p p2 pos:Pos} {e stp:Expr} {es:List Expr} {te tf:TE} {tk:TO} {t:TA}
end
theorem KD{P:Program}{w:World}{z:Str}{u:Value}(h:(bN P w).is (.inr z) u=true):∃ t,u=.str z t:=Value.isStrOf_shape (x:=z) (v:=u) h
theorem u9:∀ {us:List Value} {ks:List Str},us.length = ks.length -> (∀ (j:Nat) v k,us[j]? = some v -> ks[j]? = some k -> ∃ t,v = .str k t) -> StrsAre us ks
 | [],[],_,_=>.nil
 | u :: us,k :: ks,hl,h=>by
  obtain ⟨t,rfl⟩:=h 0 u k rfl rfl
  exact .cons k t (u9 (by simpa using hl) fun j v k' e1 e2=>h (j + 1) v k' e1 e2)
 | [],_ :: _,hl,_=>by simp at hl
 | _ :: _,[],hl,_=>by simp at hl
section
variable {prog:Program} {w:World} {A:Around} {E:EV} {s:Shared}
theorem yZ {d:Addr} {kvs:List (Key×Value)} {ks:List Str} {Q:EV} (hh:A.handled=none) (lo:(d==sysModules)=false) (hD:s.heap.DictOf (bN prog w) d kvs) (hk:kvs.map (·.1)=ks.map Sum.inr) (h64:ks.length<64)
  (h:∀ (h1 h':Heap) (tk:Nat) (out:Array Value) (ss':List Str) (e:Nat),(∀ b o,s.heap.get? b=some o->h1.get? b=some o)->(∀ b o,h1.get? b=some o->h'.get? b=some o)->h'.get? h1.objs.size=some (seqObj "list" out e)->StrsAre out.toList ss'->ss'.Perm ks->sortedS ss'=true->Q (.ref h1.objs.size) {s with heap:=h',toks:=tk}) :
  wpAny (model prog w) A (call (.builtin "sorted") [.ref d]) Q E s:=by
 obtain⟨ep,hat⟩:=hD.dictAt
 have hlen:kvs.length=ks.length:=by have:=congrArg List.length hk;simpa using this
 have hsz:kvs.length<=sizeLine:=le_trans (show kvs.length<=64 by omega) Z0
 refine Calls.call_function_entry kind_sorted plain_sorted entry_sorted (args_sorted1 _) ?_
 unfold Builtin.«sorted»
 refine wpAny_bind (m:=checkCount "sorted" 1 1 _) (wpAny_pure ?_)
 refine wpAny_bind (kdu_collect (A:=A.in1) (kdl_dict (knd:=bN prog w) (kvs:=kvs) (ep:=ep) lo) hh hat hsz fun h' tk acc hk' hacc=>?_)
 have hl:acc.toList.length=kvs.length:=by rw[length_toList];exact hacc.1
 have hS:StrsAre acc.toList ks:=u9 Z1 fun j v k e1 e2=>by
  obtain⟨k2,x,e3,e4⟩:=hacc.2 j v (by rw[<- getElem?_toList];exact e1)
  have e5:(kvs.map (·.1))[j]? = some k2:=by rw[getElem?_map,e3];rfl
  rw[hk,getElem?_map,e2]at e5
  cases e5
  exact KD e4
 refine wpAny_bind (wpAny_newList ?_ (by rw[hl];exact hsz))
 have hoL:(h'.push (seqObj "list" acc.toList.toArray 0)).get? h'.objs.size=some (seqObj "list" acc.toList.toArray 0):=Heap.get?_push_size _ rfl
 refine wpAny_bind (wpAny_holding (wpAny_call_entry slot_list_sort ⟨_,hoL,rfl⟩ entry_list_sort (list_sort_treeK strKind_oneLt hoL hS.keysOf (fun v₁ v₂ rest e=>keyKind_strs (by rw[<- e];exact hS)) Z1 fun st' a1 a2=>⟨_,rfl,?_⟩) (args_list_sort _)))
 obtain⟨ss',b1,b2,b3⟩:=sorted_out_str hS a1 a2
 obtain⟨e,he⟩:=sortedHeap_at (out:=(arrOf st').map (·.2)) hoL
 refine wpAny_pure ⟨_,rfl,h h' _ _ _ ss' e hk' (fun b o hb=>?_) he b1 b2 b3⟩
 have hlt:=Heap.lt_size hb
 rw[sortedHeap_old (ne_of_lt hlt) (by rw[size_push'];exact lt_succ_of_lt hlt),Heap.get?_push_ne _ _ _ (ne_of_lt hlt)]
 exact hb
end
section
variable {X:Cx}
theorem Df:∀{kvs:List (Key×V)}{vs:List (Key×Value)},KV kvs vs->vs.map (·.1)=kvs.map (·.1):=by
 intro kvs vs r
 unfold KV at r
 induction r with
 | nil=>rfl
 | cons h t ih=>rw[map_cons,map_cons,ih,h.1]
theorem wV(hc:X.calm=true):mD X (.builtin "sorted") (fun xs H Q=>∃ p kvs ks,xs=[.ref p]/\H p=some (.dK kvs)/\kvs.map (·.1)=ks.map Sum.inr/\ks.length<64/\∀ l ys',ys'.Perm ks->sortedS ys'=true->H l=none->Q (.ref l) (upd H l (.lst (ys'.map V.str)))):=by
 intro pins s σ H xs us Q I r h
 obtain⟨p,kvs,ks,rfl,hl,hk,hn,q⟩:=h
 obtain⟨u,rfl,ru⟩:=vals1 r
 obtain rfl:u=Value.ref p:=ru
 obtain⟨_,lo,vs,rv,hD⟩:=GQ I.hok hl
 refine yZ (I.ok.hd hc) lo hD (by rw[Df rv];exact hk) hn fun h1 h' tk out ss' e k1 k2 he b1 b2 b3=>?_
 have I1:Inv X pins σ H {s with heap:=h1,toks:=tk}:=I.kept (t':=tk) k1
 have hz:(ss'.map V.str).length<=sizeLine:=by rw[length_map,b2.length_eq];exact le_trans (le_of_lt hn) Z0
 refine⟨.ref h1.objs.size,_,I1.laid (a:=h1.objs.size) (o:=.lst (ss'.map V.str)) (t':=tk) k2 (le_refl _) ?_,rfl,q _ ss' b2 b3 (I1.hok.fresh (le_refl _))⟩
 exact⟨hz,out.toList,e,qH b1,by simpa [seqObj] using he⟩
end
section
variable {P:Program} {w:World} {K:Frag} {mg:MG} {base:Heap}
end
section
variable {X:Cx} {k:Nat} {f y:Addr} {fd:FuncData} {ps:List Str} {sp:Sp} {x:Str} {st:Stmt} {p pos:Pos} {e:Expr} {es:List Expr} {t:TA} {pins0:OP} {E0':EV}
end
section
variable {X:Cx} {W:St->XK} {k:Nat} {f C:Addr} {fd:FuncData} {ps:List Str} {sp:Sp} {x:Str} {p pos:Pos} {e:Expr} {es:List Expr} {t:TA}
end
section
variable {X:Cx}
end
def Itd(d:Addr)(o:Obj)(kvs:List (Key×V)):It:=⟨fun i H=>H d=some (.frz o (.dK kvs))/\i<kvs.length,fun i H x H'=>H'=H/\∃ k v,kvs[i]? = some (k,v)/\x=kV k,fun i H=>H d=some (.frz o (.dK kvs))/\kvs.length<=i⟩
theorem Js{P:Program}{w:World}{k:Key}{u:Value}(h:(bN P w).is k u=true):RelV (kV k) u:=by
 rcases bV h with⟨i,t,rfl,rfl⟩|⟨x,t,rfl,rfl⟩
 ·exact⟨t,rfl⟩
 ·exact⟨t,rfl⟩
theorem K6:∀{kvs:List (Key×V)}{vs:List (Key×Value)},KV kvs vs->∀ {i:Nat}{k:Key}{x:Value},vs[i]? = some (k,x)->∃ v,kvs[i]? = some (k,v):=by
 intro kvs vs r
 unfold KV at r
 induction r with
 | nil=>intro i k x e;simp at e
 | @cons p q ps qs h t ih =>
  intro i k x e
  cases i with
  | zero =>
   cases e
   have h1:p.1=k:=h.1
   exact⟨p.2,by rw[<- h1];rfl⟩
  | succ i=>exact ih e
theorem xV{kvs:List (Key×V)}{vs:List (Key×Value)}(r:KV kvs vs):kvs.length=vs.length:=by have:=congrArg List.length (Df r);simpa using this.symm
theorem Ec{P:Program}{w:World}{K:Frag}{tg:Expr}{d it:Addr}{o:Obj}{kvs:List (Key×V)}{vs:List (Key×Value)}{ep:Nat}(hne:d≠it)(r:KV kvs vs)(ho:∀ h:Heap,h.get? d=some o->h.DictAt (bN P w) d vs ep) :
  Turn P w K tg (Itd d o kvs) [it] it (fun i h=>h.IsKeyIter it d i vs.length ep) where
 mem:=by simp
 obj:=fun i h st b hb=>by
  have e:b=it:=by simpa using hb
  subst e
  obtain⟨o,e,c,d⟩:=st
  exact⟨o,e,fun v z=>by rw[d]at z;cases z⟩
 keep:=fun i h h' st k=>st.at fun o e=>k it Z2 o e
 item:=by
  intro X hP hw hK hc i pins s σ H E I hf st hg
  subst hP hw hK
  obtain⟨hd,hi⟩:=hg
  obtain⟨hget,_⟩:=(show bD X.prog X.w H s.heap d (.frz o (.dK kvs))from I.hok d _ hd)
  obtain⟨f0,f1,f2,f3,f4,f5⟩:=hf it Z2
  refine(Walks.dictKeys (I.ok.hd hc) it d hne vs ep).item i s _ E (by rw[<- xV r];exact hi) ⟨st,ho _ hget⟩ fun v h' tk hp hst hk=>?_
  obtain⟨k,x,hx,hkv⟩:=hp
  obtain⟨y,hy⟩:=K6 r hx
  have I1:Inv X pins σ H {s with heap:=h',toks:=tk}:=I.turned (t':=tk) (fun b o hb e=>hk b o (by simpa using hb) e) f0 f1 f3 f4 f5
  obtain⟨o2,e2,c2,d2⟩:=id hst.1
  exact⟨v,rfl,CJ (s:={s with heap:=h',toks:=tk}) e2 c2 d2 Z0 ⟨kV k,H,I1,Js hkv,⟨rfl,k,y,hy,rfl⟩,hst.1,fun b hb=>(hf b hb).1⟩⟩
 done:=by
  intro X hP hw hK hc i pins s σ H E I hf st hg
  subst hP hw hK
  obtain⟨hd,hi⟩:=hg
  obtain⟨hget,_⟩:=(show bD X.prog X.w H s.heap d (.frz o (.dK kvs))from I.hok d _ hd)
  obtain⟨f0,f1,f2,f3,f4,f5⟩:=hf it Z2
  exact wpAny_pyNext_dict_end (I.ok.hd hc) st (ho _ hget) (by rw[List.getElem?_eq_none_iff,<- xV r];exact hi) fun h' eb=>⟨rfl,I.turned (t':=s.toks) (fun b o hb e=>eb b o hb e) f0 f1 f3 f4 f5⟩
 self:=fun _ _ _ _ _ st h=>wpAny_pyIter_keyiter st h
section
variable {X:Cx} {tg:Expr}
def Ot(tl:TE):TI:=fun σ H R=>tl σ H fun x H1=>∃ d kvs,x=.ref d/\((∃ o,H1 d=some (.frz o (.dK kvs))/\R (Itd d o kvs) H1)\/(H1 d=some (.dK kvs)/\∀ o,R (Itd d o kvs) (upd H1 d (.frz o (.dK kvs)))))
theorem xH{l:Expr}{tl:TE}(hl:PE X l tl):PI X tg l (Ot tl):=by
 intro pins s σ H R I h
 refine thn (hl pins s σ H _ I h) fun v s1 ⟨x,H1,I1,r1,q1⟩=>?_
 obtain⟨d,kvs,e,q⟩:=q1
 subst e
 cases r1
 obtain⟨o,H2,hd,I2,q2⟩:∃ o H2,H2 d=some (.frz o (.dK kvs))/\Inv X pins σ H2 s1/\R (Itd d o kvs) H2:=by
  rcases q with⟨o,hd,q⟩|⟨hd,q⟩
  ·exact⟨o,H1,hd,I1,q⟩
  ·have hob:=I1.hok d _ hd
   obtain⟨z,lo,vs,rv,hD⟩:=(show bD X.prog X.w H1 s1.heap d (.dK kvs)from hob)
   obtain⟨o,es,ep,ho,rest⟩:=id hD
   refine⟨o,_,ao,I1.write (x:=d) (e:=d) (o:=.frz o (.dK kvs)) (t':=s1.toks) (by rw[hd];exact True.intro) (.inl rfl) (fun b u _ e=>e) ⟨o,ho⟩ ⟨ho,z,lo,vs,rv,hD⟩,q o⟩
 obtain⟨hget,z,lo,vs,rv,hD⟩:=(show bD X.prog X.w H2 s1.heap d (.frz o (.dK kvs))from I2.hok d _ hd)
 obtain⟨ep,hat⟩:=hD.dictAt
 refine wpAny_pyIter_dict lo hat ?_
 have hdl:d≠s1.heap.objs.size:=ne_of_lt (Heap.lt_size hget)
 refine⟨s1.heap.objs.size,[s1.heap.objs.size],_,_,H2,rfl,I2.kept (t':=s1.toks) fun b o e=>Heap.get?_push_of_some _ e,Ec (vs:=vs) (ep:=ep) hdl rv (fun h e=>?_),⟨_,Heap.get?_push_size _ rfl,rfl,rfl⟩,fun b hb=>?_,q2⟩
 ·obtain⟨o2,es,ho2,rest⟩:=id hat
  rw[hget]at ho2
  cases ho2
  exact⟨_,es,e,rest⟩
 ·have e:b=s1.heap.objs.size:=by simpa using hb
  subst e
  exact I2.fpOk (le_refl _) (I2.hok.fresh (le_refl _))
end
theorem Gf {d:Addr} {o:Obj} {kvs:List (Key × V)} {g:TG} {tb:TS} {D:Ends} {σ:St} {H:Hp} (Pv:Nat -> St -> Hp -> Prop) (h0:Pv 0 σ H) (hl:∀ i σ H,i <= kvs.length -> Pv i σ H -> H d = some (.frz o (.dK kvs)))
  (hs:∀ i k v σ H,kvs[i]? = some (k,v) -> Pv i σ H -> g (kV k) σ H fun σ2 H2=>tb { D with nx:=Pv (i + 1),ct:=Pv (i + 1),bk:=D.nx } σ2 H2) (hd:∀ σ H,Pv kvs.length σ H -> D.nx σ H) :
  ∃ W:Nat -> Nat -> St -> Hp -> Prop,(∃ m,W 0 m σ H) /\ ∀ i m σ H,W i m σ H ->
   ((Itd d o kvs).stop i H /\ D.nx σ H) \/ ((Itd d o kvs).go i H /\ ∃ N:St -> Hp -> Prop,(∀ σ' H',N σ' H' -> ∃ m',m' < m /\ W (i + 1) m' σ' H') /\ ∀ x H',(Itd d o kvs).yld i H x H' -> g x σ H' fun σ2 H2=>tb { D with nx:=N,ct:=N,bk:=D.nx } σ2 H2):=by
 refine ⟨fun i m σ H=>m = kvs.length - i /\ i <= kvs.length /\ Pv i σ H,⟨kvs.length,Z2,zero_le _,h0⟩,?_⟩
 rintro i m σ H ⟨rfl,hi,p⟩
 have q:=hl i σ H hi p
 by_cases hlt:i < kvs.length
 ·refine .inr ⟨⟨q,hlt⟩,Pv (i + 1),fun σ' H' p'=>⟨kvs.length - (i + 1),Z1,rfl,hlt,p'⟩,fun x H' y=>?_⟩
  obtain ⟨e,k,v,hx,rfl⟩:=y
  subst e
  exact hs i k v σ _ hx p
 ·have e:i = kvs.length:=by omega
  subst e
  exact .inl ⟨⟨q,le_refl _⟩,hd σ H p⟩
theorem t8 {d:Addr} {o:Obj} {kvs:List (Key × V)} {tf:TT} {te:TE} {τ0:St} {H:Hp} {Fin:List V -> Hp -> Prop} (p:V -> Bool) (hn:kvs.length <= sizeLine) (hl:H d = some (.frz o (.dK kvs)))
  (htf:∀ x H' (Q:Bool -> Hp -> Prop),x ∈ kvs.map (fun kv=>kV kv.1) -> az H H' -> (∀ H'',az H' H'' -> Q (p x) H'') -> tf (τ0.set 0 (some x)) H' Q)
  (hte:∀ x H' (Q:VK),x ∈ kvs.map (fun kv=>kV kv.1) -> az H H' -> (∀ H'',az H' H'' -> Q x H'') -> te (τ0.set 0 (some x)) H' Q)
  (hfin:∀ H',az H H' -> Fin ((kvs.map fun kv=>kV kv.1).filter p) H'):qj (iV 0) tf te (Itd d o kvs) τ0 H Fin:=by
 have hxl:(kvs.map fun kv=>kV kv.1).length = kvs.length:=length_map _
 have hxa:∀ {i:Nat} {k:Key} {v:V},kvs[i]? = some (k,v) -> (kvs.map fun kv=>kV kv.1)[i]? = some (kV k):=fun {i k v} e=>by rw [getElem?_map,e]; rfl
 generalize (kvs.map fun kv=>kV kv.1) = xs at htf hte hfin hxl hxa
 refine ⟨fun i m τ ys H'=>m = xs.length - i /\ i <= xs.length /\ ys = (xs.take i).filter p /\ az H H' /\ ∃ v,τ = τ0.set 0 v \/ τ = τ0,⟨xs.length,rfl,zero_le _,rfl,az.refl _,none,.inr rfl⟩,?_⟩
 rintro i m τ ys H' ⟨rfl,hi,rfl,sm,v,hτ⟩
 by_cases hlt:i < xs.length
 ·refine .inr ⟨⟨sm _ _ hl,Z1⟩,fun x H'' y=>?_⟩
  obtain ⟨e,k,v,hx,rfl⟩:=y
  subst e
  have hx:=hxa hx
  have e2:τ.set 0 (some (kV k)) = τ0.set 0 (some (kV k)):=by
   rcases hτ with rfl | rfl
   ·rw [set_set]
   ·rfl
  unfold iV
  rw [e2]
  have e3:(xs.take (i + 1)).filter p = (xs.take i).filter p ++ (if p (kV k) = true then [kV k] else []):=by
   rw [List.take_add_one,hx,filter_append]
   congr 1
   show [kV k].filter p = _
   rw [filter_cons]
   rfl
  refine htf (kV k) H'' _ (mem_of_getElem? hx) sm fun H4 s4=>?_
  cases hp:p (kV k) with
  | true =>
   rw [if_pos rfl]
   refine hte (kV k) H4 _ (mem_of_getElem? hx) (sm.trans s4) fun H5 s5=>?_
   refine ⟨?_,xs.length - (i + 1),Z1,rfl,hlt,?_,sm.trans (s4.trans s5),_,.inl rfl⟩
   ·have:=length_filter_le p (xs.take i)
    rw [length_take] at this
    omega
   ·rw [e3,hp]; rfl
  | false =>
   rw [if_neg Z0]
   refine ⟨xs.length - (i + 1),Z1,rfl,hlt,?_,sm.trans s4,_,.inl rfl⟩
   rw [e3,hp]; simp
 ·have e:i = xs.length:=by omega
  subst e
  exact .inl ⟨⟨sm _ _ hl,Z1⟩,by have:=hfin H' sm; rw [take_length]; exact this⟩
theorem jy:∀{ls ms:List Str},ls.map V.str=ms.map V.str->ls=ms
 | [],[],_=>rfl
 | [],_::_,h=>by cases h
 | _::_,[],h=>by cases h
 | l::ls,m::ms,h=>by
  rw[map_cons,map_cons]at h
  obtain⟨h1,h2⟩:=List.cons.inj h
  rw[V.str.inj h1,jy h2]
section
variable {X:Cx} {pins:OP} {σ:St} {H:Hp} {s:Shared}
theorem wD(I:Inv X pins σ H s){a b:Addr}{ls ms:List Str}(ha:SqL X.K H a (ls.map V.str))(hb:SqL X.K H b (ms.map V.str)){A:Around}(hu:A.units<cLine):SeqAt.EqAt A s (.ref a) (.ref b) (decide (ls=ms)):=by
 by_cases hab:a=b
 ·subst hab
  have e:ls=ms:=jy (I.list_inj ha hb)
  rw[decide_eq_true e]
  exact SeqAt.EqAt.same _
 ·obtain⟨us,r1,p1,_⟩:=I.list ha
  obtain⟨ws,r2,p2,_⟩:=I.list hb
  have l1:=r1.length
  have l2:=r2.length
  rw[length_map]at l1 l2
  by_cases hl:ls.length=ms.length
  ·have:=SeqAt.RcAt.lists (A:=A) (s:=s) (e:=fun j=>decide (ls[j]? = ms[j]?)) p1.isList p2.isList Z6 hu fun j h1 h2=>by
    have h1':j<us.length:=by simpa using h1
    have h2':j<ws.length:=by simpa using h2
    obtain⟨x,ex,rx⟩:=r1.at h1'
    obtain⟨y,ey,ry⟩:=r2.at h2'
    rw[getElem?_map]at ex ey
    cases e1:ls[j]? with
    | none=>rw[e1]at ex;cases ex
    | some z1 =>
     cases e2:ms[j]? with
     | none=>rw[e2]at ey;cases ey
     | some z2 =>
      rw[e1]at ex;rw[e2]at ey
      cases ex;cases ey
      obtain⟨t,et⟩:=rx
      obtain⟨t',et'⟩:=ry
      have:=SeqAt.EqAt.str_str (A:=A.in1) (s:=s) z1 t z2 t'
      have ed:(z1==z2)=decide (some z1=some z2):=by
       by_cases k:z1=z2
       ·subst k;simp
       ·rw[decide_eq_false (fun h=>k (Option.some.inj h))];simpa using k
      rw[ed]at this
      simpa [et,et'] using this
   have ea:(List.range us.toArray.size).all (fun j=>decide (ls[j]? = ms[j]?))=decide (ls=ms):=by
    by_cases k:ls=ms
    ·subst k;simp
    ·rw[decide_eq_false k,eq_false_iff]
     intro h
     refine k (ext_getElem? fun j=>?_)
     rw[all_eq_true]at h
     by_cases hj:j<us.length
     ·exact of_decide_eq_true (h j (by simpa using hj))
     ·rw[List.getElem?_eq_none Z1,List.getElem?_eq_none Z1]
   rw[ea]at this
   exact SeqAt.EqAt.of_refs hab this
  ·have:=SeqAt.RcAt.lists_lengths (A:=A) (s:=s) p1.isList p2.isList Z6 hu
   rw[decide_eq_false (fun h=>hl (congrArg List.length h))]
   exact SeqAt.EqAt.of_refs hab this
def Hy(K:Frag)(H:Hp)(p:Addr)(lss:List (List Str)):Prop:=∃ xs:List V,SqL K H p xs/\xs.length=lss.length/\∀ (i:Nat) ls,lss[i]? = some ls->∃ b,xs[i]? = some (.ref b)/\SqL K H b (ls.map V.str)
def S9(K:Frag)(neg:Bool):R2:=fun x y H Q=>∃ a p ls lss,x=.ref a/\y=.ref p/\SqL K H a (ls.map V.str)/\Hy K H p lss/\Q (.bl (if neg then !decide (ls∈lss)else decide (ls∈lss))) H
theorem Ng(I:Inv X pins σ H s){a p:Addr}{ls:List Str}{lss:List (List Str)}(ha:SqL X.K H a (ls.map V.str))(hp:Hy X.K H p lss)(hu:X.A.units+1<cLine) :
  ∃ (its:List Value) (e:Value->Bool),s.heap.IsList p its.toArray/\(∀ u∈its,SeqAt.EqAt X.A.in1 s u (.ref a) (e u)/\SeqAt.EqAt X.A s u (.ref a) (e u))/\its.any e=decide (ls∈lss):=by
 classical
 obtain⟨xs,hx,hxl,hxt⟩:=hp
 obtain⟨its,r,pl,hz⟩:=I.list hx
 have hl:=r.length
 have at_:∀ {j:Nat} {u:Value},its[j]? = some u->∃ b ls',lss[j]? = some ls'/\u=.ref b/\SqL X.K H b (ls'.map V.str):=fun{j u} e=>by
  have hj:j<its.length:=(List.getElem?_eq_some_iff.mp e).1
  have hj2:j<lss.length:=by omega
  obtain⟨b,eb,hb⟩:=hxt j _ (getElem?_eq_getElem hj2)
  obtain⟨u',eu,ru⟩:=r.get eb
  rw[e]at eu
  cases eu
  exact⟨b,_,getElem?_eq_getElem hj2,ru,hb⟩
 let e:Value->Bool:=fun u=>decide (∃ b,u=.ref b/\SqL X.K H b (ls.map V.str))
 have ee:∀ {b:Addr} {ls':List Str},SqL X.K H b (ls'.map V.str)->e (.ref b)=decide (ls'=ls):=fun{b ls'} hb=>by
  by_cases k:ls'=ls
  ·subst k
   rw[decide_eq_true rfl]
   exact decide_eq_true ⟨b,rfl,hb⟩
  ·rw[decide_eq_false k]
   refine decide_eq_false fun⟨b2,e2,h2⟩=>k ?_
   cases e2
   exact jy (I.list_inj hb h2)
 refine⟨its,e,pl.isList,fun u hu2=>?_,?_⟩
 ·obtain⟨j,hj,ej⟩:=getElem_of_mem hu2
  obtain⟨b,ls',_,rfl,hb⟩:=at_ (j:=j) (u:=u) (by rw[getElem?_eq_getElem hj,ej])
  rw[ee hb]
  exact⟨wD I hb ha (show X.A.units+1<cLine from hu),wD I hb ha Z1⟩
 ·by_cases k:ls∈lss
  ·rw[decide_eq_true k,any_eq_true]
   obtain⟨j,hj,ej⟩:=getElem_of_mem k
   have hj2:j<its.length:=by omega
   obtain⟨b,ls',e1,e2,hb⟩:=at_ (j:=j) (u:=its[j]) (getElem?_eq_getElem hj2)
   rw[getElem?_eq_getElem hj,ej]at e1
   cases e1
   exact⟨_,getElem_mem hj2,by rw[e2,ee hb];exact decide_eq_true rfl⟩
  ·rw[decide_eq_false k,any_eq_false]
   intro u hu2 he
   obtain⟨j,hj,ej⟩:=getElem_of_mem hu2
   obtain⟨b,ls',e1,rfl,hb⟩:=at_ (j:=j) (u:=u) (by rw[getElem?_eq_getElem hj,ej])
   rw[ee hb]at he
   exact k (of_decide_eq_true he▸mem_of_getElem? e1)
theorem Eh{K:Frag}(hK:X.K=K)(hu:X.A.units+64<cLine):OpR X (compareOp .NotIn) (S9 K true):=by
 subst hK
 intro pins s σ H x y v u Q I rx ry h
 obtain⟨a,p,ls,lss,rfl,rfl,ha,hp,q⟩:=h
 cases rx;cases ry
 obtain⟨its,e,hl,he,hany⟩:=Ng I ha hp Z1
 refine SeqAt.notIn_listAt e hl (fun w hw=>?_) ⟨.bl _,H,I,rfl,?_⟩
 ·first|exact(he w (by simpa using hw)).1|exact(he w (by simpa using hw)).2
 ·rw[show its.toArray.any e=its.any e by simp,hany]
  exact q
end
end L2
namespace Kn
section
variable {α:Type}
theorem tK[DecidableEq α]:∀ {xs zs:List α},xs.Nodup->(∀ x∈xs,x∈zs)->xs.length<=zs.length
 | [],_,_,_=>zero_le _
 | x::xs,zs,h,hs=>by
  have hx:x∈zs:=hs x Z2
  have h2:x∉xs:=(nodup_cons.mp h).1
  have:=tK (zs:=zs.erase x) (nodup_cons.mp h).2 fun y hy=>(List.mem_erase_of_ne (fun e:y=x=>h2 (e▸hy))).mpr (hs y (mem_cons_of_mem _ hy))
  rw[List.length_erase_of_mem hx]at this
  have h3:=List.length_pos_of_mem hx
  rw[length_cons]
  omega
theorem vR:∀{zs:List α}{p q:α->Bool},(∀ x∈zs,p x=true->q x=true)->(zs.filter p).length<=(zs.filter q).length
 | [],_,_,_=>le_refl _
 | x::zs,p,q,h=>by
  have ih:=vR (zs:=zs) (p:=p) (q:=q) fun y hy=>h y (mem_cons_of_mem _ hy)
  rw[filter_cons,filter_cons]
  by_cases hp:p x=true
  ·rw[if_pos hp,if_pos (h x Z2 hp),length_cons,length_cons];omega
  ·rw[if_neg hp]
   split
   ·rw[length_cons];omega
   ·exact ih
theorem vN:∀{zs:List α}{p q:α->Bool}{z:α},(∀ x∈zs,p x=true->q x=true)->z∈zs->q z=true->p z=false->(zs.filter p).length<(zs.filter q).length
 | [],_,_,_,_,hz,_,_=>by cases hz
 | x::zs,p,q,z,h,hz,hq,hp=>by
  have h':∀ y∈zs,p y=true->q y=true:=fun y hy=>h y (mem_cons_of_mem _ hy)
  rw[filter_cons,filter_cons]
  by_cases e:x=z
  ·subst e
   rw[if_pos hq,if_neg (by rw[hp];decide),length_cons]
   exact Nat.lt_succ_of_le (vR h')
  ·have ih:=vN h' ((mem_cons.mp hz).resolve_left (fun k=>e k.symm)) hq hp
   by_cases hx:p x=true
   ·rw[if_pos hx,if_pos (h x Z2 hx),length_cons,length_cons];omega
   ·rw[if_neg hx]
    split
    ·rw[length_cons];omega
    ·exact ih
structure Kgr(zs:List α)(nb:α->List α)(R:α->α->Prop):Prop where
 nd:zs.Nodup
 cl:∀ z∈zs,∀ y∈nb z,y∈zs
 st:∀ z y,y∈nb z->R z y
 tr:∀ x y z,R x y->R y z->R x z
open Classical in
noncomputable def knB (R:α->α->Prop) (z y:α):Bool:=decide (y=z\/(R z y/\R y z))
open Classical in
theorem lV {R:α->α->Prop} {z y:α}:knB R z y=true↔(y=z\/(R z y/\R y z)):=by unfold knB;exact decide_eq_true_iff
noncomputable def knot(zs:List α)(R:α->α->Prop)(z:α):List α:=zs.filter (knB R z)
theorem cN{zs:List α}{R:α->α->Prop}{z y:α}:y∈knot zs R z↔y∈zs/\(y=z\/(R z y/\R y z)):=by
 unfold knot
 rw[mem_filter,lV]
theorem iT{zs:List α}{R:α->α->Prop}{z:α}(h:z∈zs):z∈knot zs R z:=cN.mpr ⟨h,.inl rfl⟩
theorem qw {zs:List α} {nb:α -> List α} {R:α -> α -> Prop} (g:Kgr zs nb R) {z y:α} (h:y ∈ knot zs R z):knot zs R y = knot zs R z:=by
 obtain ⟨_,h⟩:=cN.mp h
 rcases h with rfl | ⟨h1,h2⟩
 ·rfl
 ·unfold knot
  refine filter_congr fun x _=>Bool.eq_iff_iff.mpr (lV.trans (Iff.trans ⟨fun k=>?_,fun k=>?_⟩ lV.symm))
  ·rcases k with rfl | ⟨k1,k2⟩
   ·exact .inr ⟨h1,h2⟩
   ·exact .inr ⟨g.tr _ _ _ h1 k1,g.tr _ _ _ k2 h2⟩
  ·rcases k with rfl | ⟨k1,k2⟩
   ·exact .inr ⟨h2,h1⟩
   ·exact .inr ⟨g.tr _ _ _ h2 k1,g.tr _ _ _ k2 h1⟩
open Classical in
noncomputable def isF (zs:List α) (R:α->α->Prop) (z:α):Bool:=decide ((knot zs R z).head? = some z)
noncomputable def bj(zs:List α)(R:α->α->Prop):List (List α):=(zs.filter (isF zs R)).map (knot zs R)
open Classical in
theorem sX {zs:List α} {R:α->α->Prop} {z:α}:isF zs R z=true↔(knot zs R z).head? = some z:=by unfold isF;exact decide_eq_true_iff
theorem Hk{zs:List α}{nb:α->List α}{R:α->α->Prop}(g:Kgr zs nb R){z f:α}(h:(knot zs R z).head? = some f):isF zs R f=true/\knot zs R f=knot zs R z/\f∈zs:=by
 have hm:f∈knot zs R z:=List.mem_of_mem_head? h
 have e:=qw g hm
 exact⟨sX.mpr (by rw[e];exact h),e,(cN.mp hm).1⟩
theorem vV{k:List α}{z:α}(h:z∈k):∃ f,k.head? = some f:=by
 cases k with
 | nil=>cases h
 | cons f t=>exact⟨f,rfl⟩
theorem je{zs:List α}{nb:α->List α}{R:α->α->Prop}(g:Kgr zs nb R){k:List α}:k∈bj zs R↔∃ z∈zs,k=knot zs R z:=by
 unfold bj
 rw[mem_map]
 constructor
 ·rintro⟨z,hz,rfl⟩
  exact⟨z,(mem_filter.mp hz).1,rfl⟩
 ·rintro⟨z,hz,rfl⟩
  obtain⟨f,hf⟩:=vV (iT (R:=R) hz)
  obtain⟨h1,h2,h3⟩:=Hk g hf
  exact⟨f,mem_filter.mpr ⟨h3,h1⟩,h2⟩
theorem FJ{zs:List α}{R:α->α->Prop}{lt:α->α->Prop}(h:zs.Pairwise lt):(bj zs R).Pairwise fun k l=>∃ a b,k.head? = some a/\l.head? = some b/\lt a b:=by
 unfold bj
 rw[List.pairwise_map]
 refine imp_of_mem (fun{a b} ha hb hab=>?_) (h.sublist List.filter_sublist)
 exact⟨a,b,sX.mp (mem_filter.mp ha).2,sX.mp (mem_filter.mp hb).2,hab⟩
theorem CW{zs:List α}{nb:α->List α}{R:α->α->Prop}(g:Kgr zs nb R):(bj zs R).Nodup:=by
 refine List.Pairwise.imp ?_ (FJ (R:=R) (lt:=fun a b=>a≠b) g.nd)
 rintro k l ⟨a,b,h1,h2,h3⟩ rfl
 exact h3 (Option.some.inj (h1.symm.trans h2))
def may(nb:α->List α)(pl k:List α):Prop:=∀ a∈k,∀ y∈nb a,y∈k\/y∈pl
open Classical in
noncomputable def cand (nb:α->List α) (ks dn:List (List α)):List (List α):=ks.filter fun k=>decide (k∉dn/\may nb dn.flatten k)
noncomputable def nxt(nb:α->List α)(ks dn:List (List α)):List α:=(cand nb ks dn).headD []
noncomputable def run(nb:α->List α)(ks:List (List α)):Nat->List (List α)
 | 0=>[]
 | n+1=>run nb ks n++[nxt nb ks (run nb ks n)]
noncomputable def p8(zs:List α)(nb:α->List α)(R:α->α->Prop):List (List α):=run nb (bj zs R) (bj zs R).length
open Classical in
theorem Kf {zs:List α} {nb:α -> List α} {R:α -> α -> Prop} (g:Kgr zs nb R) {dn:List (List α)}:∀ (n:Nat) (z:α),z ∈ zs -> knot zs R z ∉ dn -> (zs.filter fun x=>decide (x = z \/ R z x)).length <= n -> cand nb (bj zs R) dn ≠ []:=by
 intro n
 induction n with
 | zero =>
  intro z hz _ hn
  have:z ∈ zs.filter fun x=>decide (x = z \/ R z x):=mem_filter.mpr ⟨hz,Z2⟩
  have:=List.length_pos_of_mem this
  omega
 | succ n ih =>
  intro z hz hd hn
  by_cases hm:may nb dn.flatten (knot zs R z)
  ·exact List.ne_nil_of_mem (mem_filter.mpr ⟨(je g).mpr ⟨z,hz,rfl⟩,decide_eq_true ⟨hd,hm⟩⟩)
  ·unfold may at hm
   simp only [Classical.not_forall,not_or] at hm
   obtain ⟨a,ha,y,hy,hyk,hyd⟩:=hm
   obtain ⟨haz,ha2⟩:=cN.mp ha
   have hyz:=g.cl a haz y hy
   have hzy:R z y:=by
    rcases ha2 with rfl | ⟨h1,_⟩
    ·exact g.st _ _ hy
    ·exact g.tr _ _ _ h1 (g.st _ _ hy)
   refine ih y hyz (fun k=>hyd (mem_flatten.mpr ⟨_,k,iT hyz⟩)) ?_
   refine Nat.le_of_lt_succ (lt_of_lt_of_le (vN (z:=z) (fun x _ hx=>?_) hz Z2 ?_) hn)
   ·rw [decide_eq_true_iff] at hx ⊢
    rcases hx with rfl | hx
    ·exact .inr hzy
    ·exact .inr (g.tr _ _ _ hzy hx)
   ·rw [decide_eq_false_iff_not]
    rintro (rfl | k)
    ·exact hyk (iT hz)
    ·exact hyk (cN.mpr ⟨hyz,.inr ⟨hzy,k⟩⟩)
structure zg(nb:α->List α)(ks:List (List α))(i:Nat):Prop where
 len:(run nb ks i).length=i
 nd:(run nb ks i).Nodup
 sub:∀ k∈run nb ks i,k∈ks
open Classical in
theorem yK {nb:α->List α} {ks:List (List α)} (hn:ks.Nodup) {i:Nat} (r:zg nb ks i) (h:i<ks.length):∃ k∈ks,k∉run nb ks i:=by
 apply Classical.byContradiction
 intro hno
 have:∀ k∈ks,k∈run nb ks i:=fun k hk=>Classical.byContradiction fun z=>hno ⟨k,hk,z⟩
 have:=tK hn this
 rw[r.len]at this
 omega
theorem qP{zs:List α}{nb:α->List α}{R:α->α->Prop}(g:Kgr zs nb R){i:Nat}(r:zg nb (bj zs R) i)(h:i<(bj zs R).length):∃ t,cand nb (bj zs R) (run nb (bj zs R) i)=nxt nb (bj zs R) (run nb (bj zs R) i)::t:=by
 obtain⟨k,hk,hd⟩:=yK (CW g) r h
 obtain⟨z,hz,rfl⟩:=(je g).mp hk
 have:=Kf g (dn:=run nb (bj zs R) i) _ z hz hd (le_refl _)
 unfold nxt
 cases e:cand nb (bj zs R) (run nb (bj zs R) i)with
 | nil=>exact absurd e this
 | cons u t=>exact⟨t,rfl⟩
open Classical in
theorem yR {nb:α->List α} {ks dn:List (List α)} {k:List α}:k∈cand nb ks dn↔k∈ks/\k∉dn/\may nb dn.flatten k:=by
 unfold cand
 rw[mem_filter,decide_eq_true_iff]
theorem nM{zs:List α}{nb:α->List α}{R:α->α->Prop}(g:Kgr zs nb R):∀ {i:Nat},i<=(bj zs R).length->zg nb (bj zs R) i
 | 0,_=>⟨rfl,nodup_nil,fun k hk=>by cases hk⟩
 | i+1,h=>by
  have r:=nM g (le_of_succ_le h)
  obtain⟨t,e⟩:=qP g r h
  have hm:nxt nb (bj zs R) (run nb (bj zs R) i)∈cand nb (bj zs R) (run nb (bj zs R) i):=by rw[e];simp
  obtain⟨h1,h2,_⟩:=yR.mp hm
  refine⟨?_,?_,fun k hk=>?_⟩
  ·show(run nb (bj zs R) i++[_]).length=i+1
   rw[length_append,r.len];rfl
  ·show(run nb (bj zs R) i++[_]).Nodup
   rw[List.nodup_append]
   refine⟨r.nd,Z2,fun a ha b hb e=>h2 ?_⟩
   rw[mem_singleton.mp hb]at e
   exact e▸ha
  ·rcases mem_append.mp hk with k|k
   ·exact r.sub _ k
   ·rw[mem_singleton.mp k];exact h1
open Classical in
noncomputable def left (ks dn:List (List α)):List (List α):=ks.filter fun k=>decide (k∉dn)
open Classical in
theorem Gd {nb:α->List α} {ks dn:List (List α)}:(left ks dn).filter (fun k=>decide (may nb dn.flatten k))=cand nb ks dn:=by
 unfold left cand
 rw[filter_filter]
 refine filter_congr fun k _=>?_
 by_cases h1:k∈dn
 ·simp[h1]
 ·by_cases h2:may nb dn.flatten k
  ·simp[h1,h2]
  ·simp[h1,h2]
open Classical in
theorem Fp {ks dn:List (List α)} {f:List α}:(left ks dn).filter (fun k=>!decide (k=f))=left ks (dn++[f]):=by
 unfold left
 rw[filter_filter]
 refine filter_congr fun k _=>?_
 by_cases h1:k∈dn
 ·simp[h1]
 ·by_cases h2:k=f
  ·simp[h1,h2]
  ·simp[h1,h2]
open Classical in
theorem zq {nb:α->List α} {ks:List (List α)} (hn:ks.Nodup) {i:Nat} (r:zg nb ks i) (hi:i<=ks.length):left ks (run nb ks i)=[]↔i=ks.length:=by
 constructor
 ·intro h
  apply Classical.byContradiction
  intro hne
  obtain⟨k,hk,hd⟩:=yK hn r Z1
  have:k∈left ks (run nb ks i):=mem_filter.mpr ⟨hk,decide_eq_true hd⟩
  rw[h]at this
  cases this
 ·intro h
  refine List.eq_nil_iff_forall_not_mem.mpr fun k hk=>?_
  obtain⟨h1,h2⟩:=mem_filter.mp hk
  have h2:=of_decide_eq_true h2
  have:(k::run nb ks i).length<=ks.length:=tK (nodup_cons.mpr ⟨h2,r.nd⟩) fun x hx=>by
   rcases mem_cons.mp hx with rfl|hx
   ·exact h1
   ·exact r.sub x hx
  rw[length_cons,r.len]at this
  omega
end
end Kn
namespace L2
open PySem PySem.Spec PyProof.Rows PySem.W
section
variable {X:Cx} {pins:OP} {σ:St} {H:Hp} {s:Shared}
theorem Aq{A:Around}{ls ms:List Str}{us ws:List Value}(r1:Vals (ls.map V.str) us)(r2:Vals (ms.map V.str) ws) :
  ∀ j (h1:j<us.toArray.size) (h2:j<ws.toArray.size),SeqAt.EqAt A s us.toArray[j] ws.toArray[j] (decide (ls[j]? = ms[j]?)):=fun j h1 h2=>by
 have h1':j<us.length:=by simpa using h1
 have h2':j<ws.length:=by simpa using h2
 obtain⟨x,ex,rx⟩:=r1.at h1'
 obtain⟨y,ey,ry⟩:=r2.at h2'
 rw[getElem?_map]at ex ey
 cases e1:ls[j]? with
 | none=>rw[e1]at ex;cases ex
 | some z1 =>
  cases e2:ms[j]? with
  | none=>rw[e2]at ey;cases ey
  | some z2 =>
   rw[e1]at ex;rw[e2]at ey
   cases ex;cases ey
   obtain⟨t,et⟩:=rx
   obtain⟨t',et'⟩:=ry
   have:=SeqAt.EqAt.str_str (A:=A) (s:=s) z1 t z2 t'
   have ed:(z1==z2)=decide (some z1=some z2):=by
    by_cases k:z1=z2
    ·subst k;simp
    ·rw[decide_eq_false (fun h=>k (Option.some.inj h))];simpa using k
   rw[ed]at this
   simpa [et,et'] using this
theorem Bd{ls ms:List Str}{n:Nat}(hn:ls.length=n)(hl:ls.length=ms.length):(List.range n).all (fun j=>decide (ls[j]? = ms[j]?))=decide (ls=ms):=by
 by_cases k:ls=ms
 ·subst k;simp
 ·rw[decide_eq_false k,eq_false_iff]
  intro h
  refine k (ext_getElem? fun j=>?_)
  rw[all_eq_true]at h
  by_cases hj:j<n
  ·exact of_decide_eq_true (h j (by simpa using hj))
  ·rw[List.getElem?_eq_none Z1,List.getElem?_eq_none Z1]
def Rj(K:Frag)(neg:Bool):R2:=fun x y H Q=>∃ (a b:Addr) (ls ms:List Str),x=.ref a/\y=.ref b/\SqL K H a (ls.map V.str)/\SqL K H b (ms.map V.str)/\Q (.bl (if neg then !decide (ls=ms)else decide (ls=ms))) H
theorem Jj{K:Frag}(hK:X.K=K)(hu:X.A.units+64<cLine):OpR X (compareOp .NotEq) (Rj K true):=by
 subst hK
 intro pins s σ H x y v u Q I rx ry h
 obtain⟨a,b,ls,ms,rfl,rfl,ha,hb,q⟩:=h
 cases rx;cases ry
 obtain⟨us,r1,p1,_⟩:=I.list ha
 obtain⟨ws,r2,p2,_⟩:=I.list hb
 have l1:=r1.length
 have l2:=r2.length
 rw[length_map]at l1 l2
 have fin:EP X pins σ Q (.bool (!decide (ls=ms))) s:=⟨.bl _,H,I,rfl,q⟩
 by_cases hl:ls.length=ms.length
 ·have:=SeqAt.RcNeAt.lists (A:=X.A) (s:=s) p1.isList p2.isList Z6 Z1 (Aq r1 r2)
  rw[Bd Z6 hl]at this
  exact this X.prog X.w X.xe _ fin
 ·have:=SeqAt.RcNeAt.lists_lengths (A:=X.A) (s:=s) p1.isList p2.isList Z6 Z1
  rw[decide_eq_false (fun h=>hl (congrArg List.length h))]at fin
  exact this X.prog X.w X.xe _ fin
end
open AutoSeq1 (wpAny_loadPart')
open MeetsSeq MeetsSeq2 MeetsSeq3 SeqRoads2
section
variable {prog:Program} {w:World} {A:Around} {R:Result->Shared->Prop} {I:Addr} {fp wr:List Addr} {n:Nat} {P:Nat->Value->Prop} {St:Nat->Heap->Prop}
end
section
variable {X:Cx}
end
section
variable {X:Cx}
end
section
variable {X:Cx} {pins:OP} {σ:St} {H:Hp} {s:Shared}
end
section
variable {prog:Program} {w:World} {A:Around} {E:EV} {s:Shared}
section
variable {K:Type} [DecidableEq K] {knd:KeyKind prog w K}
end
end
section
variable {X:Cx}
end
theorem Inv.thaw{X:Cx}{pins:OP}{σ σ1:St}{H H1:Hp}{s s1:Shared}{d:Addr}{o:Obj}{kvs:List (Key×V)}(I:Inv X pins σ H s)(hd:H d=some (.dK kvs))(I1:Inv X pins σ1 H1 s1)(h1:H1 d=some (.frz o (.dK kvs))):Inv X pins σ1 (upd H1 d (.dK kvs)) s1:=by
 have ne:∀ b,H b=none->b≠d:=fun b e z=>by rw[z,hd]at e;cases e
 refine⟨I1.ok,I1.os,I1.bare,⟨I1.base.keep,I1.base.slot,fun b ob q n hx=>?_,I1.base.there,fun b xs q=>?_,fun b ob u q=>?_,fun b ps q=>?_⟩,I1.loc,I1.cell,?_,fun x c e=>?_,fun p hp=>?_,fun b u e=>?_,I1.len⟩
 ·rw[aD (ne b (I.base.free b ob q n hx))];exact I1.base.free b ob q n hx
 ·have z:b≠d:=fun z=>by have:=I.base.tups b xs q;rw[z,hd]at this;cases this
  rw[aD z];exact I1.base.tups b xs q
 ·have z:b≠d:=fun z=>by have:=I.base.frzs b ob u q;rw[z,hd]at this;cases this
  rw[aD z];exact I1.base.frzs b ob u q
 ·have z:b≠d:=fun z=>by obtain⟨m,k⟩:=I.base.tbls b ps q;rw[z,hd]at k;cases k
  rw[aD z];exact I1.base.tbls b ps q
 ·rw[aD (ne _ I.free)];exact I1.free
 ·rw[aD (ne _ (I.freeC x c e))];exact I1.freeC x c e
 ·obtain⟨p1,p2,p3⟩:=I1.pin p hp
  exact⟨p1,by rw[aD (ne _ (I.pin p hp).2.1)];exact p2,p3⟩
 ·by_cases hb:b=d
  ·subst hb
   rw[ao]at e
   cases e
   obtain⟨_,q⟩:=(show bD X.prog X.w H1 s1.heap b (.frz o (.dK kvs))from I1.hok b _ h1)
   exact q
  ·rw[aD hb]at e
   exact(I1.hok b u e).stay (fun c v _ q=>q) (fun c q=>by rw[aD fun z=>by rw[z,h1]at q;cases q];exact q) fun c xs q=>by rw[aD fun z=>by rw[z,h1]at q;cases q];exact q
def Qd(ts:TS):TS:=fun D σ H=>∃ d kvs,H d=some (.dK kvs)/\ts ⟨fun σ1 H1=>∃ o,H1 d=some (.frz o (.dK kvs))/\D.nx σ1 (upd H1 d (.dK kvs)),fun _ _=>False,fun _ _=>False,fun _ _=>False⟩ σ H
theorem Ke{X:Cx}{st:Stmt}{ts:TS}(h:QS X st ts):QS X st (Qd ts):=⟨by
 intro pins s σ H D I hh
 obtain⟨d,kvs,hd,hh⟩:=hh
 refine thn (h.h pins s σ H _ I hh) fun f s1 hf=>?_
 cases f with
 | next =>
  obtain⟨σ1,H1,I1,o,h1,q⟩:=hf
  exact⟨σ1,_,I.thaw hd I1 h1,q⟩
 | brk=>obtain⟨_,_,_,x⟩:=hf;exact x.elim
 | cont=>obtain⟨_,_,_,x⟩:=hf;exact x.elim
 | ret u=>obtain⟨_,_,_,_,_,x⟩:=hf;exact x.elim⟩
theorem MF:∀{kvs:List (Key×V)}{vs:List (Key×Value)},KV kvs vs->∀ {i:Nat}{k k':Key}{v:V}{x:Value},kvs[i]? = some (k,v)->vs[i]? = some (k',x)->RelV v x:=by
 intro kvs vs r
 unfold KV at r
 induction r with
 | nil=>intro i k k' v x e;simp at e
 | @cons p q ps qs h t ih =>
  intro i k k' v x e1 e2
  cases i with
  | zero=>cases e1;cases e2;exact h.2
  | succ i=>exact ih e1 e2
section
variable {X:Cx}
end
def VlO(r d:Addr):HO:=.ext fun h=>h.IsValuesView r d
def Itv(d:Addr)(o:Obj)(kvs:List (Key×V)):It:=⟨fun i H=>H d=some (.frz o (.dK kvs))/\i<kvs.length,fun i H x H'=>H'=H/\∃ k,kvs[i]? = some (k,x),fun i H=>H d=some (.frz o (.dK kvs))/\kvs.length<=i⟩
theorem DN{P:Program}{w:World}{K:Frag}{tg:Expr}{d it:Addr}{o:Obj}{kvs:List (Key×V)}{vs:List (Key×Value)}{ep:Nat}(hne:d≠it)(r:KV kvs vs)(ho:∀ h:Heap,h.get? d=some o->h.DictAt (bN P w) d vs ep) :
  Turn P w K tg (Itv d o kvs) [it] it (fun i h=>h.IsValIter it d i vs.length ep) where
 mem:=by simp
 obj:=fun i h st b hb=>by
  have e:b=it:=by simpa using hb
  subst e
  obtain⟨o,e,c,d⟩:=st
  exact⟨o,e,fun v z=>by rw[d]at z;cases z⟩
 keep:=fun i h h' st k=>st.at fun o e=>k it Z2 o e
 item:=by
  intro X hP hw hK hc i pins s σ H E I hf st hg
  subst hP hw hK
  obtain⟨hd,hi⟩:=hg
  obtain⟨hget,_⟩:=(show bD X.prog X.w H s.heap d (.frz o (.dK kvs))from I.hok d _ hd)
  obtain⟨f0,f1,f2,f3,f4,f5⟩:=hf it Z2
  refine(Walks.dictValues (I.ok.hd hc) it d hne vs ep).item i s _ E (by rw[<- xV r];exact hi) ⟨st,ho _ hget⟩ fun v h' tk hp hst hk=>?_
  obtain⟨k,hx⟩:=hp
  obtain⟨y,hy⟩:=K6 r hx
  have ry:=MF r hy hx
  have I1:Inv X pins σ H {s with heap:=h',toks:=tk}:=I.turned (t':=tk) (fun b o hb e=>hk b o (by simpa using hb) e) f0 f1 f3 f4 f5
  obtain⟨o2,e2,c2,d2⟩:=id hst.1
  exact⟨v,rfl,CJ (s:={s with heap:=h',toks:=tk}) e2 c2 d2 Z0 ⟨y,H,I1,ry,⟨rfl,k,hy⟩,hst.1,fun b hb=>(hf b hb).1⟩⟩
 done:=by
  intro X hP hw hK hc i pins s σ H E I hf st hg
  subst hP hw hK
  obtain⟨hd,hi⟩:=hg
  obtain⟨hget,_⟩:=(show bD X.prog X.w H s.heap d (.frz o (.dK kvs))from I.hok d _ hd)
  obtain⟨f0,f1,f2,f3,f4,f5⟩:=hf it Z2
  exact wpAny_pyNext_values_end (I.ok.hd hc) st (ho _ hget) (by rw[List.getElem?_eq_none_iff,<- xV r];exact hi) fun h' eb=>⟨rfl,I.turned (t':=s.toks) (fun b o hb e=>eb b o hb e) f0 f1 f3 f4 f5⟩
 self:=fun _ _ _ _ _ st h=>wpAny_pyIter_valiter st h
section
variable {X:Cx} {tg:Expr}
def Py:V->List V->Hp->VK->Prop:=fun x vs H Q=>∃ d kvs,x=.ref d/\vs=[]/\Rd H d (.dK kvs)/\∀ r,H r=none->Q (.ref r) (upd H r (VlO r d))
theorem Eb:MtM X "dict.values" Py:=by
 intro pins s σ H x vs v us Q I rx rv h
 obtain⟨d,kvs,rfl,rfl,hd,q⟩:=h
 cases rx
 have hus:=rv.zero
 subst hus
 obtain⟨z,lo,ws,rel,hD⟩:=(show bD X.prog X.w H s.heap d (.dK kvs)from hd.ok I.hok)
 refine call_meetsIn PySem.F.slot_dict_values hD.typeIs PySem.F.entry_dict_values (PySem.F.args_dict_values_1 _) (meets_dict_values (bN X.prog X.w) d lo) ⟨⟨ws,hD⟩,?_⟩
 have hn:H s.heap.objs.size=none:=I.hok.fresh (le_refl _)
 exact⟨.ref _,_,I.laid (o:=VlO _ d) (t':=s.toks) (fun b u e=>Heap.get?_push_of_some _ e) (le_refl _) ⟨⟨_,Heap.get?_push_size _ rfl,rfl,rfl⟩,⟨_,Heap.get?_push_size _ rfl⟩,fun h1 h2 ⟨o,e,c⟩ k=>⟨o,k _ e,c⟩⟩,rfl,q _ hn⟩
def O4(tl:TE):TI:=fun σ H R=>tl σ H fun x H1=>∃ r d kvs,x=.ref r/\H1 r=some (VlO r d)/\r≠d/\H1 d=some (.dK kvs)/\∀ o,R (Itv d o kvs) (upd H1 d (.frz o (.dK kvs)))
theorem J5{l:Expr}{tl:TE}(hl:PE X l tl):PI X tg l (O4 tl):=by
 intro pins s σ H R I h
 refine thn (hl pins s σ H _ I h) fun v s1 ⟨x,H1,I1,r1,q1⟩=>?_
 obtain⟨r,d,kvs,e,hr,hrd,hd,q⟩:=q1
 subst e
 cases r1
 have hv:s1.heap.IsValuesView r d:=(show bD X.prog X.w H1 s1.heap r (VlO r d)from I1.hok r _ hr).1
 obtain⟨o,H2,hd,I2,q2⟩:∃ o H2,H2 d=some (.frz o (.dK kvs))/\Inv X pins σ H2 s1/\R (Itv d o kvs) H2:=by
  have hob:=I1.hok d _ hd
  obtain⟨z,lo,vs,rv,hD⟩:=(show bD X.prog X.w H1 s1.heap d (.dK kvs)from hob)
  obtain⟨o,es,ep,ho,rest⟩:=id hD
  refine⟨o,_,ao,I1.write (x:=d) (e:=d) (o:=.frz o (.dK kvs)) (t':=s1.toks) (by rw[hd];exact True.intro) (.inl rfl) (fun b u _ e=>e) ⟨o,ho⟩ ⟨ho,z,lo,vs,rv,hD⟩,q o⟩
 obtain⟨hget,z,lo,vs,rv,hD⟩:=(show bD X.prog X.w H2 s1.heap d (.frz o (.dK kvs))from I2.hok d _ hd)
 obtain⟨ep,hat⟩:=hD.dictAt
 refine wpAny_pyIter_values hv hat ?_
 have hdl:d≠s1.heap.objs.size:=ne_of_lt (Heap.lt_size hget)
 refine⟨s1.heap.objs.size,[s1.heap.objs.size],_,_,H2,rfl,I2.kept (t':=s1.toks) fun b o e=>Heap.get?_push_of_some _ e,DN (vs:=vs) (ep:=ep) hdl rv (fun h e=>?_),⟨_,Heap.get?_push_size _ rfl,rfl,rfl⟩,fun b hb=>?_,q2⟩
 ·obtain⟨o2,es,ho2,rest⟩:=id hat
  rw[hget]at ho2
  cases ho2
  exact⟨_,es,e,rest⟩
 ·have e:b=s1.heap.objs.size:=by simpa using hb
  subst e
  exact I2.fpOk (le_refl _) (I2.hok.fresh (le_refl _))
end
theorem Ja {d:Addr} {o:Obj} {kvs:List (Key × V)} {g:TG} {tb:TS} {D:Ends} {σ:St} {H:Hp} (Pv:Nat -> St -> Hp -> Prop) (h0:Pv 0 σ H) (hl:∀ i σ H,i <= kvs.length -> Pv i σ H -> H d = some (.frz o (.dK kvs)))
  (hs:∀ i k v σ H,kvs[i]? = some (k,v) -> Pv i σ H -> g v σ H fun σ2 H2=>tb { D with nx:=Pv (i + 1),ct:=Pv (i + 1),bk:=D.nx } σ2 H2) (hd:∀ σ H,Pv kvs.length σ H -> D.nx σ H) :
  ∃ W:Nat -> Nat -> St -> Hp -> Prop,(∃ m,W 0 m σ H) /\ ∀ i m σ H,W i m σ H ->
   ((Itv d o kvs).stop i H /\ D.nx σ H) \/ ((Itv d o kvs).go i H /\ ∃ N:St -> Hp -> Prop,(∀ σ' H',N σ' H' -> ∃ m',m' < m /\ W (i + 1) m' σ' H') /\ ∀ x H',(Itv d o kvs).yld i H x H' -> g x σ H' fun σ2 H2=>tb { D with nx:=N,ct:=N,bk:=D.nx } σ2 H2):=by
 refine ⟨fun i m σ H=>m = kvs.length - i /\ i <= kvs.length /\ Pv i σ H,⟨kvs.length,Z2,zero_le _,h0⟩,?_⟩
 rintro i m σ H ⟨rfl,hi,p⟩
 have q:=hl i σ H hi p
 by_cases hlt:i < kvs.length
 ·refine .inr ⟨⟨q,hlt⟩,Pv (i + 1),fun σ' H' p'=>⟨kvs.length - (i + 1),Z1,rfl,hlt,p'⟩,fun x H' y=>?_⟩
  obtain ⟨e,k,hx⟩:=y
  subst e
  exact hs i k x σ _ hx p
 ·have e:i = kvs.length:=by omega
  subst e
  exact .inl ⟨⟨q,le_refl _⟩,hd σ H p⟩
theorem Nv(t:SetTable)(n:Nat):(t.orStandIn n).led=t.led/\(t.plain=false->(t.orStandIn n).plain=false):=by
 unfold SetTable.orStandIn
 split
 ·exact⟨rfl,fun h=>h⟩
 ·exact⟨rfl,fun _=>rfl⟩
theorem Dz(t:SetTable)(es:Array (Int×Value))(h:Int)(x:Value):(layNew t es h x).2.1.led=t.led/\(t.plain=false->(layNew t es h x).2.1.plain=false):=by
 unfold layNew
 split
 ·exact Nv _ _
 ·exact⟨rfl,fun _=>rfl⟩
theorem zf(t:SetTable)(es:Array (Int×Value))(n:Nat):(relayAll t es n).2.1.led=t.led/\(t.plain=false->(relayAll t es n).2.1.plain=false):=by
 unfold relayAll
 split
 ·rename_i t' order e
  have hl:t'.led=t.led/\t'.plain=t.plain:=by
   unfold SetTable.relaid SetTable.laid at e
   cases ho:SetTable.layClean (SetTable.sizeAbove n - 1) (es.map (·.1))with
   | none=>rw[ho]at e;cases e
   | some ow=>rw[ho]at e;cases e;exact⟨rfl,rfl⟩
  dsimp only
  split
  ·exact⟨hl.1,fun h=>hl.2.trans h⟩
  ·exact⟨rfl,fun _=>rfl⟩
 ·exact⟨rfl,fun _=>rfl⟩
def uP(e:Int×Value):Str:=match e.2 with
 | .str k _=>k
 | _ => ""
def pY(P:Program)(w:World)(h:Heap)(a:Addr)(led:Bool)(ys:List Str):Prop :=
 ∃ o es ep t,h.get? a=some o/\o.ExactSet/\o.data=.set es ep t/\ElemsOf (strKind P w) es.toList/\(es.toList.map uP).Perm ys/\ys.Nodup/\es.size<scanBound/\t.fits es.size=true/\t.led=led/\(ys≠[]->t.plain=false)
section
variable {prog:Program} {w:World} {A:Around} {E:EV} {s:Shared}
theorem key_is {k:Str} {e:Int×Value} (h:ElemsOf (strKind prog w) [e]):(strKind prog w).is k e.2=true↔uP e=k:=by
 obtain⟨⟨k',hk',_⟩,_⟩:=h e Z2
 obtain⟨t,et⟩:=Value.isStrOf_shape (x:=k') (v:=e.2) hk'
 have e1:uP e=k':=by unfold uP;rw[et]
 rw[e1]
 constructor
 ·intro hk
  exact((strKind prog w).inj e.2 k k' hk hk').symm
 ·rintro rfl;exact hk'
theorem Dr{a:Addr}{o:Obj}{es:Array (Int×Value)}{ep:Nat}{t:SetTable}{h:Heap}(ho:h.get? a=some o)(hex:o.ExactSet)(hd:o.data=.set es ep t){es':Array (Int×Value)}{t':SetTable}{ys:List Str}{led:Bool}
  (hel:ElemsOf (strKind prog w) es'.toList)(hp:(es'.toList.map uP).Perm ys)(nd:ys.Nodup)(hb:es'.size<scanBound)(hf:t'.fits es'.size=true)(hl:t'.led=led)(hpl:t'.plain=false) :
  (h.update a (Obj.putSet es' t')).get? a=some {o with data:=.set es' (ep+1) t'}/\pY prog w (h.update a (Obj.putSet es' t')) a led ys:=by
 have hg:(h.update a (Obj.putSet es' t')).get? a=some {o with data:=.set es' (ep+1) t'}:=by
  have:=Heap.get?_update_self (Obj.putSet es' t') ho (by rw[putSet_of es' t' hd];rfl)
  rw[putSet_of es' t' hd]at this;exact this
 exact⟨hg,_,es',ep+1,t',hg,hex,rfl,hel,hp,nd,hb,hf,hl,fun _=>hpl⟩
theorem Pj{a:Addr}{ys:List Str}{led:Bool}{k:Str}{tk:Tok}{Q:Bool->Shared->Prop}(hS:pY prog w s.heap a led ys)(hroom:ys.length+1<scanBound)
  (h:∀ b h',Heap.SameBut a s.heap h'->pY prog w h' a led (if k∈ys then ys else ys++[k])->Q b {s with heap:=h'}) :
  wpAny (model prog w) A (setAddHashed a (.str k tk) ((strKind prog w).hash k)) Q E s:=by
 obtain⟨o,es,ep,t,ho,hex,hd,hel,hp,nd,hb,hf,hl,hpl⟩:=hS
 have hkey:(strKind prog w).is k (.str k tk)=true:=strKind_is _ _ _ _
 have hsc:(Value.str k tk).scannable=true:=rfl
 have hn:es.size=ys.length:=by rw[<- hp.length_eq,length_map,length_toList]
 have mem:∀ k',k'∈ys↔∃ e∈es.toList,(strKind prog w).is k' e.2=true:=fun k'=>by
  rw[<- hp.mem_iff,mem_map]
  constructor
  ·rintro⟨e,he,rfl⟩
   exact⟨e,he,(key_is fun x hx=>by rw[mem_singleton.mp hx];exact hel e he).mpr rfl⟩
  ·rintro⟨e,he,hk⟩
   exact⟨e,he,(key_is fun x hx=>by rw[mem_singleton.mp hx];exact hel e he).mp hk⟩
 unfold setAddHashed setAddHashedIn
 refine wpAny_holding (wpAny_bind (wpAny_setState_of ho hd hf ?_))
 dsimp only
 rw[byScan_of hsc hb hel]
 simp only[↓reduceIte]
 unfold setAddByScan
 refine wpAny_bind ?_
 refine wpAny_bind (wpAny_rule ?_)
 refine wpAny_bind (wpAny_setScan_of hkey ho hd hf hel ?_)
 cases hr:List.findIdx? (fun e=>(strKind prog w).is k e.2) es.toList with
 | some j =>
  dsimp only
  obtain⟨hj,hpj,_⟩:=List.findIdx?_eq_some_iff_getElem.mp hr
  have hk:k∈ys:=(mem k).mpr ⟨es.toList[j],getElem_mem hj,hpj⟩
  refine wpAny_pure (wpAny_pure ?_)
  have e:s={s with heap:=s.heap}:=by cases s;rfl
  rw[e]
  exact h false s.heap (Heap.SameBut.refl a s.heap) (by rw[if_pos hk];exact⟨o,es,ep,t,ho,hex,hd,hel,hp,nd,hb,hf,hl,hpl⟩)
 | none =>
  dsimp only
  have hk:k∉ys:=fun hk=>by
   obtain⟨e,he,hpe⟩:=(mem k).mp hk
   have:=List.findIdx?_eq_none_iff.mp hr e he
   rw[hpe]at this;exact Bool.noConfusion this
  have hgw:∀ (b:Bool) {s₁:Shared} {Q':Unit->Shared->Prop},Q' () s₁->wpAny (model prog w) A (match b with|true=>rule "set.scan.the-table-gave-way" | false=>pure ()) Q' E s₁ :=
   fun b s₁ Q' hq=>by cases b <;> first|exact wpAny_pure hq|exact wpAny_rule hq
  have hperm:=layNew_perm t es ((strKind prog w).hash k) (.str k tk)
  have hfits:=layNew_fits t es ((strKind prog w).hash k) (.str k tk)
  have hlp:=Dz t es ((strKind prog w).hash k) (.str k tk)
  generalize hL:layNew t es ((strKind prog w).hash k) (.str k tk)=L at hperm hfits hlp ⊢
  obtain⟨es1,t1,wasDummy,gave⟩:=L
  dsimp only at hperm hfits hlp ⊢
  rw[Array.toList_push]at hperm
  have hel1:ElemsOf (strKind prog w) es1.toList:=(hel.push hkey hsc).perm hperm
  have hp1:(es1.toList.map uP).Perm (ys++[k]):=by
   have:=hperm.map uP
   rw[map_append]at this
   exact this.trans (hp.append_right _)
  have nd1:(ys++[k]).Nodup:=by
   refine List.pairwise_append.mpr ⟨nd,List.pairwise_singleton _ _,fun a ha b hb=>?_⟩
   rw[mem_singleton.mp hb]
   exact fun e=>hk (e▸ha)
  have hb1:es1.size<scanBound:=by rw[<- length_toList,hperm.length_eq,length_append,length_toList,hn];exact hroom
  refine wpAny_bind (hgw _ ?_)
  have tail:∀ t2:SetTable,t2.fits es1.size=true->t2.led=led->t2.plain=false->wpAny (model prog w) A (do
    storeSet a es1 t2
    if(!wasDummy&&t2.tooFull)=true then do
      (match(relayAll t2 es1 (SetTable.grown es1.size)).2.2 with|true=>rule "set.scan.the-table-gave-way" | false=>pure ())
      storeSet a (relayAll t2 es1 (SetTable.grown es1.size)).1 (relayAll t2 es1 (SetTable.grown es1.size)).2.1
      pure (some true)
     else pure (some true)) (fun r s'=>wpAny (model prog w) A (match r with|some added=>pure added|none=>setAddHashedIn a (.str k tk) ((strKind prog w).hash k) 99999) Q E s') E s:=fun t2 f2 l2 p2=>by
   refine wpAny_bind (wpAny_storeSet_of ho hd ?_ (fits_of_scanBound hb1))
   obtain⟨ho1,hS1⟩:=Dr (prog:=prog) (w:=w) ho hex hd hel1 hp1 nd1 hb1 f2 l2 p2
   have hsb1:=Heap.SameBut.update s.heap a (Obj.putSet es1 t2)
   split
   ·have hpr:=relayAll_perm t2 es1 (SetTable.grown es1.size)
    have hfr:=relayAll_fits t2 es1 (SetTable.grown es1.size)
    have hlr:=zf t2 es1 (SetTable.grown es1.size)
    generalize hRl:relayAll t2 es1 (SetTable.grown es1.size)=Rl at hpr hfr hlr ⊢
    obtain⟨es2,t3,gave2⟩:=Rl
    dsimp only at hpr hfr hlr ⊢
    have hsz:es2.size=es1.size:=by rw[<- length_toList,hpr.length_eq,length_toList]
    have hb2:es2.size<scanBound:=by rw[hsz];exact hb1
    refine wpAny_bind (hgw _ ?_)
    refine wpAny_bind (wpAny_storeSet_of ho1 rfl ?_ (fits_of_scanBound hb2))
    obtain⟨_,hS2⟩:=Dr (prog:=prog) (w:=w) ho1 hex rfl (hel1.perm hpr) ((hpr.map uP).trans hp1) nd1 hb2 hfr (hlr.1.trans l2) (hlr.2 p2)
    exact wpAny_pure (wpAny_pure (h true _ (hsb1.trans (Heap.SameBut.update _ a _)) (by rw[if_neg hk];exact hS2)))
   ·exact wpAny_pure (wpAny_pure (h true _ hsb1 (by rw[if_neg hk];exact hS1)))
  split
  ·refine wpAny_bind ?_
   rw[hashByValue_scannable 8 hsc]
   refine wpAny_pure ?_
   exact tail _ (SetTable.fits_plain_off hfits) (hlp.1.trans hl) rfl
  ·rename_i hpf
   refine wpAny_bind (wpAny_pure ?_)
   simp only[↓reduceIte]
   exact tail _ hfits (hlp.1.trans hl) (by simpa using hpf)
end
section
variable {prog:Program} {w:World} {A:Around} {R:Result->Shared->Prop} {I:Addr} {fp wr:List Addr} {G:Array GenState->Array GenState->Prop} {n:Nat} {P:Nat->Value->Prop} {St:Nat->Shared->Prop}
theorem pY.at{h h':Heap} {a:Addr} {led:Bool} {ys:List Str} (x:pY prog w h a led ys) (e:∀ o,h.get? a=some o->h'.get? a=some o):pY prog w h' a led ys:=by
 obtain⟨o,es,ep,t,ho,r⟩:=x
 exact⟨o,es,ep,t,e _ ho,r⟩
theorem G9 (W:WalksS prog w A.in1 I fp wr G n P St) (S:Addr) (hSf:S ∉ fp) (val:Nat -> Str) (hval:∀ i v,P i v -> ∃ t,v = .str (val i) t) (hb:n + 1 < scanBound) (led:Bool) :
  ∀ (k i:Nat) (s:Shared) (ys:List Str),n - i = k -> i <= n -> St i s -> pY prog w s.heap S led ys -> ys.length <= i ->
   (∀ s' ys',Moved (S :: wr) G s s' -> pY prog w s'.heap S led ys' -> ys'.length <= n -> (∀ y,y ∈ ys' ↔ y ∈ ys \/ ∃ j,i <= j /\ j < n /\ val j = y) -> R (.ok (.ret .none)) s') ->
   codeAny (model prog w) A (.builtin "set.update.loop" ⟨[.ref S,.ref I],[]⟩) R s:=by
 have hSw:S ∉ wr:=fun h=>hSf (W.sub _ h)
 have hsub:∀ b ∈ wr,b ∈ S :: wr:=fun b hb=>mem_cons_of_mem _ hb
 intro k
 induction k with
 | zero =>
  intro i s ys hk hi hst hS hl hR
  have hin:i = n:=by omega
  subst hin
  refine codeAny_builtin F.entry_set_update_loop ?_
  rw [Around.under_plainId F.plain_set_update_loop _]
  show wpAny _ A.in1 (pyNext (.ref I) >>= _) _ _ s
  refine wpAny_bind (W.done s _ _ hst fun s' hm=>?_)
  show wpAny _ A.in1 (ret Value.none) _ _ s'
  exact wpAny_pure (hR s' ys (hm.mono hsub) (hS.at fun o e=>hm.heap S _ hSw e) hl fun y=>⟨.inl,fun h=>h.elim id fun ⟨j,h1,h2,_⟩=>absurd h2 Z1⟩)
 | succ k ih =>
  intro i s ys hk hi hst hS hl hR
  have hlt:i < n:=by omega
  refine codeAny_builtin F.entry_set_update_loop ?_
  rw [Around.under_plainId F.plain_set_update_loop _]
  show wpAny _ A.in1 (pyNext (.ref I) >>= _) _ _ s
  refine wpAny_bind (W.item i s _ _ hlt hst fun v s' hP hst' hm=>?_)
  obtain ⟨t,rfl⟩:=hval i v hP
  have hS':pY prog w s'.heap S led ys:=hS.at fun o e=>hm.heap S _ hSw e
  show wpAny _ A.in1 (holding [Value.str (val i) t] (setAdd S (.str (val i) t)) >>= _) _ _ s'
  refine wpAny_bind (wpAny_holding ?_)
  unfold setAdd
  refine wpAny_holding ?_
  refine wpAny_bind ((strKind prog w).pyHash (k:=val i) (strKind_is _ _ _ _) ?_)
  refine Pj (s:={ s' with toks:=s'.toks + 1 }) hS' Z1 fun b h' hsb hS2=>?_
  refine wpAny_pure ⟨plainId_quiet F.plain_set_update_loop _,ih (i + 1) _ _ Z1 hlt (W.frame _ s' _ _ hst' (le_succ _) fun b hb o e=>?_) hS2 ?_ fun s'' ys'' hm'' hS'' hl'' hy=>?_⟩
  ·rw [hsb.2 b (fun h:b = S=>hSf (by rw [<- h]; exact hb))]; exact e
  ·split
   ·omega
   ·rw [length_append,length_singleton]; omega
  ·refine hR s'' ys'' (Moved.trans W.gtrans ((hm.mono hsub).then_heap (le_succ _) fun b o hb e=>?_) hm'') hS'' hl'' fun y=>?_
   ·rw [hsb.2 b (fun h:b = S=>hb (by rw [h]; exact mem_cons_self))]; exact e
   ·rw [hy y]
    have e:y ∈ (if val i ∈ ys then ys else ys ++ [val i]) ↔ y ∈ ys \/ val i = y:=by
     split
     ·rename_i hm; exact ⟨.inl,fun h=>h.elim id fun e=>e ▸ hm⟩
     ·rw [mem_append,mem_singleton]; exact ⟨fun h=>h.elim .inl fun e=>.inr e.symm,fun h=>h.elim .inl fun e=>.inr e.symm⟩
    rw [e]
    constructor
    ·rintro ((h | h) | ⟨j,h1,h2,h3⟩)
     ·exact .inl h
     ·exact .inr ⟨i,le_refl _,hlt,h⟩
     ·exact .inr ⟨j,Z1,h2,h3⟩
    ·rintro (h | ⟨j,h1,h2,h3⟩)
     ·exact .inl (.inl h)
     ·rcases lt_or_ge i j with k | k
      ·exact .inr ⟨j,k,h2,h3⟩
      ·obtain rfl:j = i:=by omega
       exact .inl (.inr h3)
end
section
variable {prog:Program} {w:World} {A:Around} {E:EV} {s:Shared}
def ut(w:World):Bool:=!(w.params.followText "set-order")
abbrev dB(w:World):Obj:={cls:=.type "set",dict:=none,data:=.set #[] 0 (.fresh 0 0 (ut w))}
theorem Hh (a:Value) {Q₁:EV} (h:Q₁ (.ref s.heap.objs.size) {s with heap:=s.heap.push (dB w)}) :
  codeAny (model prog w) A (.call (.builtin "set.__new__") ⟨[.type "set",a],[]⟩) (wants Q₁ E) s:=by
 refine codeAny_of_tree ?_
 show wpAny _ A.in1 (do checkBuiltinCall "set.__new__" ⟨[.type "set",a],[]⟩;again (.builtin "set.__new__" ⟨[.type "set",a],[]⟩)) _ _ s
 refine wpAny_bind (wpAny_of_eq (F.newCall_set_1 a) (wpAny_pure ⟨plainId_quiet F.plain_set_new _,codeAny_builtin F.entry_set_new ?_⟩))
 rw[Around.under_plainId F.plain_set_new _]
 unfold Builtin.«set.__new__» Builtin.Frozenset.newClass
 have hsub:=sub_set_self
 obtain⟨hp,g,d,tk,os⟩:=s
 dsimp only
 wp_walk
 refine wpAny_askSetting (wpAny_pure ?_)
 dsimp only
 simp only[newObj]
 refine wpAny_bind (wpAny_alloc (wpAny_pure ?_))
 exact wpAny_pure h
theorem Cw:∀ {vs:List Value} {ks:List Str},StrsAre vs ks->∀ (i:Nat) (v:Value),vs[i]? = some v->∃ t,v=.str (ks.getD i "") t
 | _,_,.nil,i,v,h=>by simp at h
 | _,_,.cons k t r,0,v,h=>by cases h;exact⟨t,rfl⟩
 | _,_,.cons k t r,i+1,v,h=>Cw r i v h
theorem uX:∀ {vs:List Value} {ks:List Str},StrsAre vs ks->vs.length=ks.length
 | _,_,.nil=>rfl
 | _,_,.cons k t r=>congrArg (· + 1) (uX r)
theorem Ea{h:Heap}{a:Addr}(e:h.get? a=some (dB w)):pY prog w h a (ut w) [] :=
 ⟨_,#[],0,_,e,⟨rfl,rfl,rfl⟩,rfl,(fun e he=>by simp at he),List.Perm.refl _,List.Pairwise.nil,Z0,rfl,rfl,fun z=>absurd rfl z⟩
theorem Jf {l:Addr} {items:Array Value} {ks:List Str} {Q:EV} (hh:A.handled = none) (hl:s.heap.IsList l items) (hi:StrsAre items.toList ks) (hb:items.size + 1 < scanBound)
  (h:∀ (h':Heap) (tk:Nat) (ys:List Str),pY prog w h' s.heap.objs.size (ut w) ys -> (∀ y,y ∈ ys ↔ y ∈ ks) -> ys.length <= ks.length -> (∀ b o,b < s.heap.objs.size -> s.heap.get? b = some o -> h'.get? b = some o) -> Q (.ref s.heap.objs.size) { s with heap:=h',toks:=tk }) :
  wpAny (model prog w) A (call (.type "set") [.ref l]) Q E s:=by
 obtain ⟨c,tl,hmro⟩:=F.called_set.mro
 have hmade:=F.called_set.made
 have hsub:=F.called_set.sub
 refine wpAny_call (codeAny_of_tree ?_)
 show wpAny _ _ (callAny (.type "set") _) _ _ _
 refine wpAny_pure ⟨Code.quiet_builtin _ Z4,codeAny_builtin F.entry_type_call ?_⟩
 rw [Around.under_plain (weight_type_call_type "set" [.ref l] []) rfl]
 have h1:=F.called_set.notType
 have h2:=F.called_set.canCreate
 have hct:=F.typeCall_set_1 (.ref l)
 repeat (any_goals (first | assumption | wp_step))
 refine codeAny_mono (Hh (w:=w) (.ref l) (E:=E) (Q₁:=fun obj s₁=>obj = .ref s.heap.objs.size /\ s₁ = { s with heap:=s.heap.push (dB w) }) ⟨rfl,rfl⟩) fun r s₁ hr=>?_
 cases r with
 | error e=>exact hr
 | ok fl =>
  cases fl with
  | ret obj =>
   obtain ⟨rfl,rfl⟩:=hr
   have hS:(s.heap.push (dB w)).get? s.heap.objs.size = some (dB w):=Heap.get?_push_size _ rfl
   have hT:Shared.TypeIs { s with heap:=s.heap.push (dB w) } (.ref s.heap.objs.size) "set" := ⟨_,hS,rfl⟩
   have hli:=F.called_set.init.lookup
   have hbi:=F.called_set.init.bind (.ref s.heap.objs.size)
   repeat (any_goals (first | assumption | wp_step))
   refine codeAny_mono (codeAny_call_builtin (R:=wants (fun r s₂=>r = .none /\ ∃ h' tk ys,s₂ = { s with heap:=h',toks:=tk } /\ pY prog w h' s.heap.objs.size (ut w) ys /\ (∀ y,y ∈ ys ↔ y ∈ ks) /\ ys.length <= ks.length /\
     (∀ b o,b < s.heap.objs.size -> s.heap.get? b = some o -> h'.get? b = some o)) E) F.called_set.init.plain F.entry_set_init (check_set_init_1 hT ?_)) fun r₂ s₂ hr₂=>?_
   ·obtain ⟨ol,hol,hcl,nl,hdl⟩:=hl
    obtain ⟨ocls,odict,odata,oslots⟩:=ol
    simp only at hcl hdl
    subst hcl; subst hdl
    have hol':(s.heap.push (dB w)).get? l = some { cls:=.type "list",dict:=odict,data:=.seq items nl,slots:=oslots }:=Heap.get?_push_of_some _ hol
    have hsls:=F.sub_list_set
    have hslf:=F.sub_list_frozenset
    have hne:(Value.type "list" == Value.type "dict") = false:=by decide
    have hl1:(s.heap.push (dB w)).IsList l items:=⟨_,hol',rfl,nl,rfl⟩
    unfold Builtin.«set.__init__» noKeywords Builtin.Frozenset.updateFrom
    generalize hPI:pyIter = PI
    wp_walk
    subst hPI
    refine wpAny_pyIter_list hl1 ?_
    refine wpAny_bind (wpAny_runValue ?_)
    have hlS:l < s.heap.objs.size:=Heap.lt_size hol
    have hh3:A.in1.in1.in1.handled = none:=by simp [hh]
    have hneI:l ≠ (s.heap.push (dB w)).objs.size:=by rw [Heap.size_push]; exact ne_of_lt (lt_succ_of_lt hlS)
    have hSf:s.heap.objs.size ∉ [(s.heap.push (dB w)).objs.size,l]:=by
     rw [Heap.size_push]; simp only [mem_cons,mem_singleton,not_mem_nil,or_false,not_or]
     exact ⟨ne_of_lt (lt_succ_self _),ne_of_gt hlS⟩
    have hval:∀ (i:Nat) (v:Value),items[i]? = some v -> ∃ t,v = .str ((fun i=>ks.getD i "") i) t:=fun i v hv=>Cw hi i v (by rw [getElem?_toList]; exact hv)
    have hlen:items.size = ks.length:=by rw [<- length_toList]; exact uX hi
    refine G9 ((Walks.list hh3 _ l hneI items).toS) s.heap.objs.size hSf (fun i=>ks.getD i "") hval hb (ut w) (items.size - 0) 0 _ [] Z1 (zero_le _)
     ⟨⟨_,Heap.get?_push_size _ rfl,rfl,rfl⟩,(hl1.push _)⟩ (Ea (Heap.get?_push_of_some _ hS)) (zero_le _) ?hR
    case hR =>
     intro s' ys' hm hS' hly hy
     obtain ⟨h',g',d',tk',os'⟩:=s'
     have eg:g' = s.gens:=hm.gens
     have ed:d' = s.drawn:=hm.drawn
     have eo:os' = s.os:=hm.os
     subst eg; subst ed; subst eo
     show wpAny _ _ _ _ _ _
     refine wpAny_pure ?_
     show wpAny _ _ (ret Value.none) _ _ _
     refine wpAny_pure ⟨rfl,h',tk',ys',rfl,hS',fun y=>?_,by rw [<- hlen]; exact hly,fun b o hb e=>?_⟩
     ·rw [hy y]
      constructor
      ·rintro (h | ⟨j,_,h2,h3⟩)
       ·cases h
       ·have hj:j < ks.length:=by rw [<- hlen]; exact h2
        have:ks.getD j "" = ks[j]:=by simp [hj]
        rw [<- h3,this]
        exact getElem_mem hj
      ·intro h
       obtain ⟨j,hj,e⟩:=getElem_of_mem h
       exact .inr ⟨j,zero_le _,by rw [hlen]; exact hj,by simp [hj,e]⟩
     ·have hb1:b ≠ s.heap.objs.size:=ne_of_lt hb
      have hb2:b ≠ (s.heap.push (dB w)).objs.size:=by rw [Heap.size_push]; exact ne_of_lt (lt_succ_of_lt hb)
      exact hm.heap b o (by simp only [mem_cons,mem_singleton,not_mem_nil,or_false,not_or]; exact ⟨hb1,hb2⟩) (Heap.get?_push_of_some _ (Heap.get?_push_of_some _ e))
   ·cases r₂ with
    | error e=>exact hr₂
    | ok fl₂ =>
     cases fl₂ with
     | ret r =>
      obtain ⟨rfl,h',tk,ys,rfl,hS',hy,hly,hk'⟩:=hr₂
      repeat (any_goals (first | assumption | wp_step))
      exact h _ _ ys hS' hy hly hk'
     | _=>exact hr₂.elim
  | _=>exact hr.elim
end
theorem uf:entryFor table "set.__iter__" = some Builtin.«frozenset.__iter__»:=entryFor_alias (id' := "frozenset.__iter__") Z5 rfl Z4 Z5
theorem gR:Slot "set_iterator" "__next__" "set_iterator.__next__" :=
 .of (owner := "set_iterator") (n := "__next__") (by rw [typeLookup_type,builtinLookup_eq_fast]; kernel_rfl) Z4 Z4 Z4
  (by first | exact .inl Z4 | exact .inr Z4) (by rw [isSubtype_type]; kernel_rfl)
theorem qN:entryFor table "set_iterator.__next__" = some Builtin.«set_iterator.__next__»:=entryFor_of_tree Z5
theorem yM:Manifest.owners.lookup (String.ofList ['r','o','t','a','r','e','t','i','_','t','e','s'].reverse)=some Manifest.sig_set_iterator:=by kernel_rfl
theorem sV(a:Value):argsOk "set_iterator.__next__" ⟨[a],[]⟩:=by
 unfold argsOk;rw[signature?_of (id := "set_iterator.__next__") (n:=['_','_','t','x','e','n','_','_']) (o:=['r','o','t','a','r','e','t','i','_','t','e','s']) Z5 yM];kernel_rfl
def SIt(h:Heap)(it a:Addr)(first:Value)(i n ep:Nat):Prop:=∃ o,h.get? it=some o/\o.cls=.type "set_iterator" /\ o.data=.fields #[first,.int i 0,.ref a,.int n 0,.int ep 0]
def mX(h:Heap)(a:Addr)(es:Array (Int×Value))(ep:Nat)(t:SetTable):Prop:=∃ o,h.get? a=some o/\o.cls=.type "set" /\ o.data=.set es ep t/\t.fits es.size=true
theorem SIt.at{h h':Heap} {it a:Addr} {f:Value} {i n ep:Nat} (x:SIt h it a f i n ep) (e:∀ o,h.get? it=some o->h'.get? it=some o):SIt h' it a f i n ep:=let⟨o,ho,r⟩:=x;⟨o,e _ ho,r⟩
theorem mX.at{h h':Heap} {a:Addr} {es:Array (Int×Value)} {ep:Nat} {t:SetTable} (x:mX h a es ep t) (e:∀ o,h.get? a=some o->h'.get? a=some o):mX h' a es ep t:=let⟨o,ho,r⟩:=x;⟨o,e _ ho,r⟩
theorem SIt.ty{s:Shared}{it a:Addr}{f:Value}{i n ep:Nat}(x:SIt s.heap it a f i n ep):s.TypeIs (.ref it) "set_iterator" := let⟨o,ho,hc,_⟩:=x;⟨o,ho,hc⟩
section
variable {prog:Program} {w:World} {A:Around} {E:EV} {s:Shared}
theorem Dk {it a:Addr} {slot i ep nxt:Nat} {es:Array (Int×Value)} {t:SetTable} {x:Value} {Q:Option Value->Shared->Prop} (hit:SIt s.heap it a (.int slot 0) i es.size ep) (hs:mX s.heap a es ep t)
  (hn:∀ (A:Around) (E:EV) (Q:Option (Value×Nat)->Shared->Prop),Q (some (x,nxt)) s->wpAny (model prog w) A (setNext a slot i ep) Q E s)
  (hQ:∀ h',SIt h' it a (.int nxt 0) (i+1) es.size ep->Heap.SameBut it s.heap h'->Q (some x) {s with heap:=h'}):wpAny (model prog w) A (pyNext (.ref it)) Q E s:=by
 obtain⟨o,ho,hc,hd⟩:=id hit
 obtain⟨os,hos,hcs,hds,hf⟩:=id hs
 unfold pyNext
 refine wpAny_bind (wpAny_attempt (wpAny_callSpecial?_slot (name:=Str.ofString "__next__") hit.ty gR (wpAny_call_entry gR hit.ty qN ?_ (sV _))))
 unfold Builtin.«set_iterator.__next__»
 refine wpAny_bind (wpAny_pure ?_)
 refine wpAny_bind (wpAny_fieldsOf ho hd ?_)
 dsimp only
 refine wpAny_bind (wpAny_setEntries_of hos hds hf ?_)
 rw[if_neg Z2]
 simp only[toNat_natCast]
 refine wpAny_bind (hn _ _ _ ?_)
 dsimp only
 refine wpAny_bind (wpAny_setField ho hd Z2 ?_)
 have ho1:=Heap.get?_update_self (Obj.mapFields (·.setIfInBounds 0 (rawInt (nxt:Int)))) ho (Obj.isFreed_of_fields (Obj.data_mapFields hd _))
 have hd1:=Obj.data_mapFields hd (·.setIfInBounds 0 (rawInt (nxt:Int)))
 refine wpAny_bind (wpAny_setField (s:={s with heap:=s.heap.update it (Obj.mapFields (·.setIfInBounds 0 (rawInt (nxt:Int))))}) ho1 hd1 Z2 ?_)
 have ho2:=Heap.get?_update_self (Obj.mapFields (·.setIfInBounds 1 (rawInt ((i:Int)+1)))) ho1 (Obj.isFreed_of_fields (Obj.data_mapFields hd1 _))
 refine wpAny_pure ⟨_,rfl,wpAny_pure (hQ _ ⟨_,ho2,(Obj.cls_mapFields ..).trans ((Obj.cls_mapFields ..).trans hc),?_⟩ ((Heap.SameBut.update ..).trans (Heap.SameBut.update ..)))⟩
 rw[Obj.data_mapFields hd1]
 simp[rawInt]
theorem vZ{Q:Option Value->Shared->Prop}(hh:A.handled=none)(hQ:∀ h',(∀ b o,s.heap.get? b=some o->h'.get? b=some o)->Q none {s with heap:=h'}) :
  wpAny (model prog w) A.in1 (do let e <- newExc (.type "StopIteration") [];raiseNew e:Sem Fin)
   (fun fin s'=>∃ v,fin=Fin.done (Flow.ret v)/\wpAny (model prog w) A (pure (some v)) Q E s')
   (fun e s'=>wpAny (model prog w) A (do let b <- isInstance e (.type "StopIteration");if b=true then pure none else throw e) Q E s') s:=by
 refine wpAny_bind ?_
 simp only[newExc,newTuple]
 refine wpAny_bind (wpAny_newObj_type ?_ (by size_fits))
 refine wpAny_bind (m:=firstArgMember _ _) (wpAny_of_eq (a:=Value.none) (by first|rfl|(simp only[firstArgMember];rfl)) ?_)
 refine wpAny_newObj_type ?_ (by size_fits)
 simp only[raiseNew]
 refine wpAny_bind (wpAny_handled ?_)
 rw[show A.in1.handled=none from hh]
 refine wpAny_bind (wpAny_pure (wpAny_throw ?_))
 refine wpAny_bind (wpAny_isInstance (T := "StopIteration") (b:=true) ⟨_,Heap.get?_push_size _ rfl,rfl⟩ isSubtype_stop ?_)
 exact wpAny_pure (hQ _ fun b o e=>Heap.get?_push_of_some _ (Heap.get?_push_of_some _ e))
theorem Hq{it a:Addr}{slot i ep:Nat}{es:Array (Int×Value)}{t:SetTable}{Q:Option Value->Shared->Prop}(hh:A.handled=none)(hit:SIt s.heap it a (.int slot 0) i es.size ep)(hs:mX s.heap a es ep t)
  (hn:∀ (A:Around)(E:EV)(Q:Option (Value×Nat)->Shared->Prop),Q none s->wpAny (model prog w) A (setNext a slot i ep) Q E s)
  (hQ:∀ h',(∀ b o,b≠it->s.heap.get? b=some o->h'.get? b=some o)->Q none {s with heap:=h'}):wpAny (model prog w) A (pyNext (.ref it)) Q E s:=by
 obtain⟨o,ho,hc,hd⟩:=id hit
 obtain⟨os,hos,hcs,hds,hf⟩:=id hs
 unfold pyNext
 refine wpAny_bind (wpAny_attempt (wpAny_callSpecial?_slot (name:=Str.ofString "__next__") hit.ty gR (wpAny_call_entry gR hit.ty qN ?_ (sV _))))
 unfold Builtin.«set_iterator.__next__»
 refine wpAny_bind (wpAny_pure ?_)
 refine wpAny_bind (wpAny_fieldsOf ho hd ?_)
 dsimp only
 refine wpAny_bind (wpAny_setEntries_of hos hds hf ?_)
 rw[if_neg Z2]
 simp only[toNat_natCast]
 refine wpAny_bind (hn _ _ _ ?_)
 dsimp only
 refine wpAny_bind (wpAny_setField ho hd Z2 ?_)
 refine vZ (s:={s with heap:=s.heap.update it (Obj.mapFields (·.setIfInBounds 2 .none))}) hh fun h' hk=>hQ h' fun b o hb e=>hk b o ?_
 rw[(Heap.SameBut.update s.heap it (Obj.mapFields (·.setIfInBounds 2 .none))).2 b hb]
 exact e
def TpI(h:Heap)(tp:Addr)(ps:List Nat):Prop:=∃ o e,h.get? tp=some o/\o.data=.seq (ps.map fun(p:Nat)=>rawInt (p:Int)).toArray e
theorem TpI.at{h h':Heap} {tp:Addr} {ps:List Nat} (x:TpI h tp ps) (e:∀ o,h.get? tp=some o->h'.get? tp=some o):TpI h' tp ps:=let⟨o,c,ho,r⟩:=x;⟨o,c,e _ ho,r⟩
theorem Kh {it a tp:Addr} {i ep pl:Nat} {es:Array (Int×Value)} {t:SetTable} {ps:List Nat} {hx:Int} {x:Value} {Q:Option Value->Shared->Prop} (hit:SIt s.heap it a (.ref tp) i es.size ep) (hs:mX s.heap a es ep t) (htp:TpI s.heap tp ps) (hp:ps[i]? = some pl) (he:es[pl]? = some (hx,x))
  (hQ:∀ h',SIt h' it a (.ref tp) (i+1) es.size ep->Heap.SameBut it s.heap h'->Q (some x) {s with heap:=h'}):wpAny (model prog w) A (pyNext (.ref it)) Q E s:=by
 obtain⟨o,ho,hc,hd⟩:=id hit
 obtain⟨os,hos,hcs,hds,hf⟩:=id hs
 obtain⟨ot,et,hot,hdt⟩:=htp
 unfold pyNext
 refine wpAny_bind (wpAny_attempt (wpAny_callSpecial?_slot (name:=Str.ofString "__next__") hit.ty gR (wpAny_call_entry gR hit.ty qN ?_ (sV _))))
 unfold Builtin.«set_iterator.__next__»
 refine wpAny_bind (wpAny_pure ?_)
 refine wpAny_bind (wpAny_fieldsOf ho hd ?_)
 dsimp only
 refine wpAny_bind (wpAny_setEntries_of hos hds hf ?_)
 rw[if_neg Z2]
 unfold seqItems?
 dsimp only
 refine wpAny_bind (wpAny_bind (wpAny_load hot ?_))
 rw[hdt]
 refine wpAny_pure ?_
 dsimp only
 have ep1:(ps.map fun(p:Nat)=>rawInt (p:Int)).toArray[((i:Nat):Int).toNat]? = some (rawInt (pl:Int)):=by
  rw[toNat_natCast,List.getElem?_toArray,getElem?_map,hp];rfl
 rw[ep1]
 dsimp only[rawInt]
 unfold setNextDrawn
 refine wpAny_bind (wpAny_bind (wpAny_setState_of hos hds hf ?_))
 dsimp only
 rw[if_neg Z2]
 simp only[toNat_natCast,he]
 refine wpAny_pure ?_
 refine wpAny_bind (wpAny_setField ho hd Z2 ?_)
 have ho1:=Heap.get?_update_self (Obj.mapFields (·.setIfInBounds 1 (Value.int ((i:Int)+1) 0))) ho (Obj.isFreed_of_fields (Obj.data_mapFields hd _))
 refine wpAny_pure ⟨_,rfl,wpAny_pure (hQ _ ⟨_,ho1,(Obj.cls_mapFields ..).trans hc,?_⟩ (Heap.SameBut.update ..))⟩
 rw[Obj.data_mapFields hd]
 simp
theorem Nu{it a tp:Addr}{i ep:Nat}{es:Array (Int×Value)}{t:SetTable}{ps:List Nat}{Q:Option Value->Shared->Prop}(hh:A.handled=none)(hit:SIt s.heap it a (.ref tp) i es.size ep)(hs:mX s.heap a es ep t)(htp:TpI s.heap tp ps)(hp:ps[i]? = none)
  (hQ:∀ h',(∀ b o,b≠it->s.heap.get? b=some o->h'.get? b=some o)->Q none {s with heap:=h'}):wpAny (model prog w) A (pyNext (.ref it)) Q E s:=by
 obtain⟨o,ho,hc,hd⟩:=id hit
 obtain⟨os,hos,hcs,hds,hf⟩:=id hs
 obtain⟨ot,et,hot,hdt⟩:=htp
 unfold pyNext
 refine wpAny_bind (wpAny_attempt (wpAny_callSpecial?_slot (name:=Str.ofString "__next__") hit.ty gR (wpAny_call_entry gR hit.ty qN ?_ (sV _))))
 unfold Builtin.«set_iterator.__next__»
 refine wpAny_bind (wpAny_pure ?_)
 refine wpAny_bind (wpAny_fieldsOf ho hd ?_)
 dsimp only
 refine wpAny_bind (wpAny_setEntries_of hos hds hf ?_)
 rw[if_neg Z2]
 unfold seqItems?
 dsimp only
 refine wpAny_bind (wpAny_bind (wpAny_load hot ?_))
 rw[hdt]
 refine wpAny_pure ?_
 dsimp only
 have ep1:(ps.map fun(p:Nat)=>rawInt (p:Int)).toArray[((i:Nat):Int).toNat]? = none:=by
  rw[toNat_natCast,List.getElem?_toArray,getElem?_map,hp];rfl
 rw[ep1]
 dsimp only
 refine wpAny_bind (wpAny_setField ho hd Z2 ?_)
 have ho1:=Heap.get?_update_self (Obj.mapFields (·.setIfInBounds 0 (rawInt 0))) ho (Obj.isFreed_of_fields (Obj.data_mapFields hd _))
 have hd1:=Obj.data_mapFields hd (·.setIfInBounds 0 (rawInt 0))
 refine wpAny_bind (wpAny_setField (s:={s with heap:=s.heap.update it (Obj.mapFields (·.setIfInBounds 0 (rawInt 0)))}) ho1 hd1 Z2 ?_)
 refine vZ (s:={s with heap:=(s.heap.update it (Obj.mapFields (·.setIfInBounds 0 (rawInt 0)))).update it (Obj.mapFields (·.setIfInBounds 2 .none))}) hh fun h' hk=>hQ h' fun b o hb e=>hk b o ?_
 have sb:=(Heap.SameBut.update s.heap it (Obj.mapFields (·.setIfInBounds 0 (rawInt 0)))).trans (Heap.SameBut.update _ it (Obj.mapFields (·.setIfInBounds 2 .none)))
 rw[sb.2 b hb]
 exact e
end
theorem pq{α:Type}:∀ {l:List α} {i:Nat} {x:α},l[i]? = some x->(x::l.eraseIdx i).Perm l
 | [],_,_,h=>by cases h
 | y::l,0,x,h=>by cases h;exact List.Perm.refl _
 | y::l,i+1,x,h=>(List.Perm.swap y x _).trans ((pq (l:=l) (i:=i) h).cons y)
theorem Ce{α:Type}(f:Nat->Nat):∀ (n k:Nat) (l:List α) (out:Array α),l.length<=n->(pickOrder.go f n k l out).toList.Perm (out.toList++l)
 | 0,k,l,out,h=>by
  obtain rfl:l=[]:=List.length_eq_zero_iff.mp Z1
  unfold pickOrder.go
  rw[append_nil]
 | n+1,k,l,out,h=>by
  unfold pickOrder.go
  cases e:l[f k%l.length]? with
  | none =>
   dsimp only
   have:l.length<=f k%l.length:=List.getElem?_eq_none_iff.mp e
   have hz:l=[]:=by
    rcases Nat.eq_zero_or_pos l.length with z|z
    ·exact List.length_eq_zero_iff.mp z
    ·exact absurd (Nat.mod_lt (f k) z) Z1
   rw[hz,append_nil]
  | some x =>
   dsimp only
   obtain⟨hi,ex⟩:=List.getElem?_eq_some_iff.mp e
   have hl:(l.eraseIdx (f k%l.length)).length<=n:=by rw[List.length_eraseIdx_of_lt hi];omega
   refine(Ce f n (k+1) _ _ hl).trans ?_
   rw[Array.toList_push,append_assoc]
   refine List.Perm.append_left _ ?_
   exact pq e
theorem qY{α:Type}(f:Nat->Nat)(xs:Array α):(pickOrder f xs).toList.Perm xs.toList:=by
 unfold pickOrder
 have:=Ce f xs.size 0 xs.toList #[] (by rw[length_toList];exact le_refl _)
 simpa using this
section
variable {prog:Program} {w:World} {A:Around} {E:EV} {s:Shared} {a:Addr} {es:Array (Int×Value)} {ep:Nat} {t:SetTable}
theorem FW(hb:w.params.followText "set-order" = true)(hs:mX s.heap a es ep t){slot i:Nat}{Q:Option (Value×Nat)->Shared->Prop}(h:Q (((pickOrder (w.params.setOrder a ep) es)[i]?).map fun e=>(e.2,slot)) s):wpAny (model prog w) A (setNext a slot i ep) Q E s:=by
 obtain⟨o,ho,hc,hd,hf⟩:=hs
 unfold setNext
 refine wpAny_bind (wpAny_setState_of ho hd hf ?_)
 dsimp only
 unfold setsByText
 refine wpAny_bind (wpAny_bind (wpAny_askSetting (wpAny_pure ?_)))
 rw[if_pos (by exact hb),if_neg Z2]
 refine wpAny_bind ?_
 unfold setWalk
 refine wpAny_bind (wpAny_setState_of ho hd hf ?_)
 dsimp only
 unfold setsByText
 refine wpAny_bind (wpAny_bind (wpAny_askSetting (wpAny_pure ?_)))
 rw[if_pos (by exact hb)]
 exact wpAny_bind (wpAny_askSetting (wpAny_pure (wpAny_pure h)))
theorem Ij(hb:w.params.followText "set-order" = false)(hs:mX s.heap a es ep t)(hl:t.led=true)(hz:es.size<=1){slot i:Nat}{Q:Option (Value×Nat)->Shared->Prop}
  (h:Q (match es[SetTable.below t.place slot]?,t.place[SetTable.below t.place slot]? with|some (_,x),some j=>some (x,j+1)|_,_=>none) s):wpAny (model prog w) A (setNext a slot i ep) Q E s:=by
 obtain⟨o,ho,hc,hd,hf⟩:=hs
 unfold setNext
 refine wpAny_bind (wpAny_setState_of ho hd hf ?_)
 dsimp only
 unfold setsByText
 refine wpAny_bind (wpAny_bind (wpAny_askSetting (wpAny_pure ?_)))
 rw[if_neg (by show ¬ w.params.followText "set-order" = true;rw[hb];decide),if_neg (by show ¬ (!t.plain&&decide (es.size>1))=true;rw[decide_eq_false Z1,Bool.and_false];decide)]
 refine wpAny_bind (m:=_) (wpAny_of_eq (a:=()) ?_ ?_)
 ·show(if(!t.led && !es.isEmpty)=true then unsupported "set:maker-not-led" else pure ())=pure ()
  rw[hl];rfl
 ·exact wpAny_pure h
theorem Fo{src:Source}{n:Nat}{Q:Nat->Shared->Prop}(hn:n≠0)(h:∀ i d,i<n->Q i {s with drawn:=d}):wpAny (model prog w) A (choose src n) Q E s:=fun _ _ _=>⟨hn,h _ _ (Nat.mod_lt _ (Nat.pos_of_ne_zero hn))⟩
theorem Ca{α:Type}:∀ (n:Nat) (xs:List α) (s:Shared) {Q:List α->Shared->Prop},xs.length=n->(∀ p d,p.Perm xs->Q p {s with drawn:=d})->wpAny (model prog w) A (drawOrder n xs) Q E s
 | 0,xs,s,Q,hn,h=>by
  obtain rfl:xs=[]:=List.length_eq_zero_iff.mp hn
  unfold drawOrder
  have e:s={s with drawn:=s.drawn}:=by cases s;rfl
  rw[e]
  exact wpAny_pure (h [] _ (List.Perm.refl _))
 | n+1,x::xs,s,Q,hn,h=>by
  unfold drawOrder
  refine wpAny_bind (Fo Z2 fun i d hi=>?_)
  have e:(x::xs)[i]? = some ((x::xs)[i]):=getElem?_eq_getElem hi
  rw[e]
  dsimp only
  refine wpAny_bind (Ca n _ _ (by rw[List.length_eraseIdx_of_lt hi,hn];rfl) fun p d' hp=>?_)
  exact wpAny_pure (h _ d' ((hp.cons _).trans (pq e)))
abbrev itO(first:Value)(a:Addr)(n ep:Nat):Obj:={cls:=.type "set_iterator",data:=.fields #[first,.int (0:Nat) 0,.ref a,.int n 0,.int ep 0]}
theorem Gp (hs:mX s.heap a es ep t) (hz:es.size<=sizeLine) {Q:EV}
  (h1:(w.params.followText "set-order" = true\/¬ (t.plain=false/\es.size>1))->Q (.ref s.heap.objs.size) {s with heap:=s.heap.push (itO (.int (0:Nat) 0) a es.size ep)})
  (h2:w.params.followText "set-order" = false->∀ (p:List Nat) d,p.Perm (List.range es.size)->Q (.ref (s.heap.objs.size+1)) {s with heap:=(s.heap.push {cls:=.type "tuple",data:=.seq (p.map fun(i:Nat)=>rawInt (i:Int)).toArray}).push (itO (.ref s.heap.objs.size) a es.size ep),drawn:=d}) :
  wpAny (model prog w) A (pyIter (.ref a)) Q E s:=by
 obtain⟨o,ho,hc,hd,hf⟩:=id hs
 have ty:s.TypeIs (.ref a) "set" := ⟨o,ho,hc⟩
 refine wpAny_pyIter_slot ty F.slot_set_iter (wpAny_call_entry F.slot_set_iter ty uf ?_ (F.args_set_iter_1 _))
 unfold Builtin.«frozenset.__iter__»
 refine wpAny_bind (wpAny_pure ?_)
 refine wpAny_bind (wpAny_bind (wpAny_setEntries_of ho hd hf (wpAny_pure ?_)))
 unfold setDrawn
 refine wpAny_bind (wpAny_bind (wpAny_setState_of ho hd hf ?_))
 dsimp only
 unfold setsByText
 refine wpAny_bind (wpAny_bind (wpAny_askSetting (wpAny_pure (wpAny_pure ?_))))
 have ends:∀ (first:Value) (s1:Shared),s1.heap.get? a=some o->Q (.ref s1.heap.objs.size) {s1 with heap:=s1.heap.push (itO first a es.size ep)}->wpAny (model prog w) A.in1 (do
   let e <- setEpoch a
   let v <- newFields "set_iterator" [first,rawInt 0,.ref a,rawInt (es.size:Int),rawInt (e:Int)]
   ret v) (fun fin s'=>∃ v,fin=Fin.done (Flow.ret v)/\∃ T' r,s'.TypeIs v T'/\typeLookup (.type T') (Str.ofString "__next__")=pure (some r)/\Q v s') E s1:=fun first s1 ho1 q=>by
  refine wpAny_bind (wpAny_setEpoch_of ho1 hd hf ?_)
  refine wpAny_bind (wpAny_newObj_type (wpAny_pure ⟨_,rfl, "set_iterator",_,⟨_,Heap.get?_push_size _ rfl,rfl⟩,gR.lookup,q⟩) (by size_fits))
 by_cases hb:w.params.followText "set-order" = true
 ·rw[if_neg (by show ¬ (!w.params.followText "set-order" && (!t.plain&&decide (es.size>1)))=true;rw[hb];exact Bool.false_ne_true)]
  exact wpAny_bind (wpAny_pure (ends _ s ho (h1 (.inl hb))))
 ·have hb':w.params.followText "set-order" = false:=by simpa using hb
  by_cases hdr:t.plain=false/\es.size>1
  ·rw[if_pos (by show(!w.params.followText "set-order" && (!t.plain&&decide (es.size>1)))=true;rw[hb',hdr.1,decide_eq_true hdr.2];rfl)]
   refine wpAny_bind (Ca es.size (List.range es.size) s length_range fun p d hp=>?_)
   refine wpAny_bind (wpAny_newTuple ?_ (by rw[length_map,hp.length_eq,length_range];exact hz))
   refine ends _ _ (Heap.get?_push_of_some _ ho) ?_
   have:=h2 hb' p d hp
   rw[<- Heap.size_push s.heap {cls:=.type "tuple",data:=.seq (p.map fun(i:Nat)=>rawInt (i:Int)).toArray}]at this
   exact this
  ·rw[if_neg (by
    show ¬ (!w.params.followText "set-order" && (!t.plain&&decide (es.size>1)))=true
    rw[hb']
    intro z
    refine hdr ?_
    simp at z
    exact z)]
   exact wpAny_bind (wpAny_pure (ends _ s ho (h1 (.inr hdr))))
end
theorem Dm:Slot "set_iterator" "__iter__" "set_iterator.__iter__" :=
 .of (owner := "set_iterator") (n := "__iter__") (by rw [typeLookup_type,builtinLookup_eq_fast]; kernel_rfl) Z4 Z4 Z4
  (by first | exact .inl Z4 | exact .inr Z4) (by rw [isSubtype_type]; kernel_rfl)
theorem IW:entryFor table "set_iterator.__iter__" = some Builtin.«dict_keyiterator.__iter__»:=entryFor_alias (id' := "dict_keyiterator.__iter__") Z5 rfl Z4 Z5
theorem JC(a:Value):argsOk "set_iterator.__iter__" ⟨[a],[]⟩:=by
 unfold argsOk;rw[signature?_of (id := "set_iterator.__iter__") (n:=['_','_','r','e','t','i','_','_']) (o:=['r','o','t','a','r','e','t','i','_','t','e','s']) Z5 yM];kernel_rfl
section
variable {prog:Program} {w:World} {A:Around} {E:EV} {s:Shared}
theorem zm{r:Addr}{Q:Bool->Shared->Prop}(hT:s.TypeIs (.ref r) "set")(h:Q false s):wpAny (model prog w) A (Builtin.List.listLengthHint (.ref r)) Q E s:=by
 unfold Builtin.List.listLengthHint
 refine wpAny_bind (wpAny_specialOf hT PySem.F.slot_set_len.lookup ?_)
 generalize hid:("set.__len__" : String)=id0
 wp_delta
 rw[show splitId id0=some ("set", "__len__")from by subst hid;decide +kernel]
 subst hid
 refine wpAny_bind (wpAny_isInstance (T := "set") (b:=true) hT (by rw[isSubtype_type];kernel_rfl) ?_)
 refine wpAny_ite_split (fun hab=>absurd hab Z0) (fun _=>?_)
 refine wpAny_ite_split (fun _=>?_) (fun hab=>absurd Z4 hab)
 refine wpAny_bind (wpAny_typeOf hT ?_)
 exact wpAny_pure h
theorem yp{it a:Addr}{f:Value}{i n ep:Nat}{Q:EV}(hit:SIt s.heap it a f i n ep)(h:Q (.ref it) s):wpAny (model prog w) A (pyIter (.ref it)) Q E s:=by
 refine wpAny_pyIter_slot hit.ty Dm (wpAny_call_entry Dm hit.ty IW ?_ (JC _))
 show wpAny _ _ (ret (.ref it)) _ _ s
 exact wpAny_pure ⟨_,rfl, "set_iterator",_,hit.ty,gR.lookup,h⟩
section
variable {a I tp:Addr} {es:Array (Int×Value)} {ep:Nat} {t:SetTable} {p:List Nat}
theorem CV{xs:Array Nat}(h:xs.size=1):∃ j,xs = #[j]:=by
 obtain⟨l⟩:=xs
 match l,h with
 | [j],_=>exact⟨j,rfl⟩
theorem Mq(j:Nat):SetTable.below #[j] 0=0:=by
 unfold SetTable.below
 show SetTable.below.go #[j] 0 1 0 1=0
 unfold SetTable.below.go
 rw[if_pos Z0]
 show(if(#[j]:Array Nat).getD 0 0<0 then _ else _)=0
 rw[if_neg (not_lt_zero _)]
 rfl
theorem LK(j:Nat):SetTable.below #[j] (j+1)=1:=by
 unfold SetTable.below
 show SetTable.below.go #[j] (j+1) 1 0 1=1
 unfold SetTable.below.go
 rw[if_pos Z0]
 show(if(#[j]:Array Nat).getD 0 (j+1)<j+1 then _ else _)=1
 rw[if_pos (by show j<j+1;exact lt_succ_self j)]
 rfl
theorem Mg(hh:A.handled=none)(hne:a≠I)(hb:w.params.followText "set-order" = true) :
  Walks prog w A I [I,a] [I] es.size (fun i v=>((pickOrder (w.params.setOrder a ep) es).toList.map (·.2))[i]? = some v) (fun i h=>SIt h I a (.int (0:Nat) 0) i es.size ep/\mX h a es ep t) where
 sub:=fun b hb=>by simp at hb;simp[hb]
 frame:=fun _ _ _ st hk=>⟨st.1.at fun o e=>hk I Z2 o e,st.2.at fun o e=>hk a Z2 o e⟩
 item:=fun i s Q E hi st hQ=>by
  have hl:(pickOrder (w.params.setOrder a ep) es).size=es.size:=by rw[<- length_toList,(qY _ es).length_eq,length_toList]
  have hx:(pickOrder (w.params.setOrder a ep) es)[i]? = some ((pickOrder (w.params.setOrder a ep) es)[i]'Z1):=Array.getElem?_eq_getElem Z1
  refine Dk st.1 st.2 (fun A E Q q=>FW hb st.2 (by rw[hx];exact q)) fun h' hit' sb=>?_
  refine hQ _ h' s.toks ?_ ⟨hit',st.2.at fun o e=>?_⟩ fun b o hb e=>?_
  ·rw[getElem?_map,getElem?_toList,hx];rfl
  ·rw[sb.2 a hne];exact e
  ·rw[sb.2 b (fun z=>hb (by simp[z]))];exact e
 done:=fun s Q E st hQ=>by
  have hl:(pickOrder (w.params.setOrder a ep) es).size=es.size:=by rw[<- length_toList,(qY _ es).length_eq,length_toList]
  have hx:(pickOrder (w.params.setOrder a ep) es)[es.size]? = none:=getElem?_eq_none Z1
  exact Hq hh st.1 st.2 (fun A E Q q=>FW hb st.2 (by rw[hx];exact q)) fun h' hk=>hQ h' s.toks fun b o hb e=>hk b o (fun z=>hb (by simp[z])) e
 self:=fun _ _ _ _ st hQ=>yp st.1 hQ
theorem Mi(hh:A.handled=none)(hne:a≠I)(hnt:tp≠I)(hp:p.Perm (List.range es.size)) :
  Walks prog w A I [I,a,tp] [I] es.size (fun i v=>(p.map fun j=>(es.getD j (0,.none)).2)[i]? = some v) (fun i h=>SIt h I a (.ref tp) i es.size ep/\mX h a es ep t/\TpI h tp p) where
 sub:=fun b hb=>by simp at hb;simp[hb]
 frame:=fun _ _ _ st hk=>⟨st.1.at fun o e=>hk I Z2 o e,st.2.1.at fun o e=>hk a Z2 o e,st.2.2.at fun o e=>hk tp Z2 o e⟩
 item:=fun i s Q E hi st hQ=>by
  have hl:p.length=es.size:=by rw[hp.length_eq,length_range]
  have hx:p[i]? = some (p[i]'Z1):=getElem?_eq_getElem Z1
  have hj:p[i]'Z1<es.size:=mem_range.mp (hp.mem_iff.mp (getElem_mem _))
  generalize p[i]'Z1=j at hx hj
  have he:es[j]? = some (es[j].1,es[j].2):=Array.getElem?_eq_getElem hj
  refine Kh st.1 st.2.1 st.2.2 hx he fun h' hit' sb=>?_
  refine hQ _ h' s.toks ?_ ⟨hit',st.2.1.at fun o e=>?_,st.2.2.at fun o e=>?_⟩ fun b o hb e=>?_
  ·rw[getElem?_map,hx];show some (es.getD j (0,.none)).2=_;simp[hj]
  ·rw[sb.2 a hne];exact e
  ·rw[sb.2 tp hnt];exact e
  ·rw[sb.2 b (fun z=>hb (by simp[z]))];exact e
 done:=fun s Q E st hQ=>by
  have hl:p.length=es.size:=by rw[hp.length_eq,length_range]
  exact Nu hh st.1 st.2.1 st.2.2 (List.getElem?_eq_none_iff.mpr Z1) fun h' hk=>hQ h' s.toks fun b o hb e=>hk b o (fun z=>hb (by simp[z])) e
 self:=fun _ _ _ _ st hQ=>yp st.1 hQ
theorem Mu(hh:A.handled=none)(hne:a≠I)(hb:w.params.followText "set-order" = false)(hl:t.led=true)(hz:es.size<=1) :
  Walks prog w A I [I,a] [I] es.size (fun i v=>(es.toList.map (·.2))[i]? = some v) (fun i h=>SIt h I a (.int ((if i=0 then 0 else t.place.getD 0 0+1:Nat):Nat) 0) i es.size ep/\mX h a es ep t) where
 sub:=fun b hb=>by simp at hb;simp[hb]
 frame:=fun _ _ _ st hk=>⟨st.1.at fun o e=>hk I Z2 o e,st.2.at fun o e=>hk a Z2 o e⟩
 item:=fun i s Q E hi st hQ=>by
  obtain rfl:i=0:=by omega
  have h1:es.size=1:=by omega
  obtain⟨o,_,_,_,hf⟩:=id st.2
  have hps:t.place.size=1:=by
   simp only[SetTable.fits,and_eq_true,beq_iff_eq]at hf
   omega
  obtain⟨j,hj⟩:=CV (show t.place.size=1 by omega)
  have he:es[0]? = some (es[0]'Z1):=Array.getElem?_eq_getElem Z1
  refine Dk (nxt:=j+1) (x:=(es[0]'Z1).2) st.1 st.2 (fun A E Q q=>Ij hb st.2 hl hz ?_) fun h' hit' sb=>?_
  ·rw[hj,if_pos rfl,Mq,he]
   exact q
  ·refine hQ _ h' s.toks ?_ ⟨?_,st.2.at fun o e=>?_⟩ fun b o hb e=>?_
   ·rw[getElem?_map,getElem?_toList,he];rfl
   ·rw[if_neg Z1,hj];exact hit'
   ·rw[sb.2 a hne];exact e
   ·rw[sb.2 b (fun z=>hb (by simp[z]))];exact e
 done:=fun s Q E st hQ=>by
  refine Hq hh st.1 st.2 (fun A E Q q=>Ij hb st.2 hl hz ?_) fun h' hk=>hQ h' s.toks fun b o hb e=>hk b o (fun z=>hb (by simp[z])) e
  obtain⟨o,_,_,_,hf⟩:=id st.2
  have hps:t.place.size=es.size:=by
   simp only[SetTable.fits,and_eq_true,beq_iff_eq]at hf
   exact hf.1
  rcases(by omega:es.size=0\/es.size=1)with h0|h1
  ·rw[getElem?_eq_none (show es.size<=_ by omega)]
   exact q
  ·obtain⟨j,hj⟩:=CV (show t.place.size=1 by omega)
   rw[if_neg Z1,hj]
   show Q (match es[SetTable.below #[j] (j+1)]?,(#[j]:Array Nat)[SetTable.below #[j] (j+1)]? with|some (_,x),some j=>some (x,j+1)|_,_=>none) s
   rw[LK,getElem?_eq_none (show es.size<=1 by omega)]
   exact q
 self:=fun _ _ _ _ st hQ=>yp st.1 hQ
end
end
section
variable {prog:Program} {w:World} {A:Around} {E:EV} {s:Shared} {r:Addr} {es:Array (Int×Value)} {ep:Nat} {t:SetTable}
theorem Fg{P:Nat->Value->Prop}{ord:List Value}{acc:Array Value}{n:Nat}(h:ItemsOf P acc n)(hp:∀ i v,P i v->ord[i]? = some v)(hl:ord.length=n):acc.toList=ord:=by
 refine ext_getElem? fun i=>?_
 rcases lt_or_ge i n with k|k
 ·have e:acc.toList[i]? = some (acc.toList[i]'(by rw[length_toList,h.1];exact k)):=getElem?_eq_getElem _
  rw[e]
  exact(hp i _ (h.2 i _ (by rw[<- getElem?_toList];exact e))).symm
 ·rw[List.getElem?_eq_none_iff.mpr (by rw[length_toList,h.1];exact k),List.getElem?_eq_none_iff.mpr Z1]
theorem uM {I:Addr} {fp:List Addr} {n:Nat} {P:Nat->Value->Prop} {St:Nat->Heap->Prop} {R:Result->Shared->Prop} {ord:List Value} (W:Walks prog w A.in1 I fp [I] n P St) (hn:n<=sizeLine) (S:Addr) (hSf:S∉fp) (res:Value) (c₁:Nat) (hst:St 0 s.heap)
  (hS:s.heap.get? S=some {cls:=.type "list",data:=.seq #[] c₁}) (hp:∀ i v,P i v->ord[i]? = some v) (hl:ord.length=n)
  (hR:∀ h' tk c',(∀ b o,b≠S->b≠I->s.heap.get? b=some o->h'.get? b=some o)->h'.get? S=some {cls:=.type "list",dict:=none,data:=.seq ord.toArray c',slots:=#[]}->R (.ok (.ret res)) {s with heap:=h',toks:=tk}) :
  codeAny (model prog w) A (.builtin "list.extend.loop" ⟨[.ref S,.ref I,res],[]⟩) R s:=by
 refine codeAny_extend_loopS W.toS hn S hSf res n 0 _ #[] c₁ rfl (zero_le _) hst hS (ItemsOf.nil _) fun s' acc' c' hm hS' hacc=>?_
 rw[Moved.eq_with hm]
 refine hR s'.heap s'.toks c' (fun b o h1 h2 e=>hm.heap b o (fun hmem=>?_) e) ?_
 ·rcases mem_cons.mp hmem with e'|hmem
  ·exact h1 e'
  ·exact h2 (mem_singleton.mp hmem)
 ·rw[<- Fg hacc hp hl]
  exact hS'
theorem Li(f:Nat->Nat):((pickOrder f es).toList.map (·.2)).Perm (es.toList.map (·.2)):=(qY f es).map _
theorem Ly{p:List Nat}(hp:p.Perm (List.range es.size)):(p.map fun j=>(es.getD j (0,.none)).2).Perm (es.toList.map (·.2)):=by
 refine(hp.map _).trans (List.Perm.of_eq ?_)
 refine ext_getElem? fun i=>?_
 rw[getElem?_map,getElem?_map,getElem?_toList (xs:=es)]
 rcases lt_or_ge i es.size with k|k
 ·rw[List.getElem?_range k,Array.getElem?_eq_getElem k]
  show some (es.getD i (0,.none)).2=_
  simp[k]
 ·rw[show(List.range es.size)[i]? = none from List.getElem?_eq_none_iff.mpr (by rw[length_range];exact k),getElem?_eq_none k]
  rfl
theorem Kl {R:Result->Shared->Prop} (hh:A.handled=none) (hs:mX s.heap r es ep t) (hn:es.size<=sizeLine) (hpl:es.size>1->t.plain=false) (hled:t.led=ut w) (S:Addr) (hSr:S≠r) (res:Value) (c₀:Nat) (hS:s.heap.get? S=some {cls:=.type "list",data:=.seq #[] c₀})
  (hR:∀ h' tk d (ord:List Value) c',ord.Perm (es.toList.map (·.2))->(∀ b o,b≠S->s.heap.get? b=some o->h'.get? b=some o)->h'.get? S=some {cls:=.type "list",dict:=none,data:=.seq ord.toArray c',slots:=#[]}->R (.ok (.ret res)) {s with heap:=h',toks:=tk,drawn:=d}) :
  wpAny (model prog w) A.in1 (Builtin.List.listExtendWith (.ref S) (.ref r) res)
   (fun fin s'=>match fin with|.done f=>R (.ok f) s'|.again c'=>c'.quiet=true/\codeAny (model prog w) A c' R s') (fun e s'=>R (.error e) s') s:=by
 obtain⟨o,ho,hc,hd,hf⟩:=id hs
 have ty:s.TypeIs (.ref r) "set" := ⟨o,ho,hc⟩
 have hSlt:=Heap.lt_size hS
 have hrlt:=Heap.lt_size ho
 unfold Builtin.List.listExtendWith
 refine wpAny_bind (wpAny_typeOf (T := "set") ty ?_)
 have h1:Builtin.List.listSameRef (.ref S) (.ref r)=false:=by simp[Builtin.List.listSameRef,hSr]
 simp only[h1,show(Value.type "set" == Value.type "list")=false from by decide,show(Value.type "set" == Value.type "tuple")=false from by decide,Bool.or_false,Bool.false_eq_true,if_false]
 refine wpAny_bind (Gp hs hn (fun hm=>?_) (fun hb p d hp=>?_))
 ·have key:∀ (h:Heap) (c₁:Nat),(∀ b o,b≠S->(s.heap.push (itO (.int (0:Nat) 0) r es.size ep)).get? b=some o->h.get? b=some o)->h.get? S=some {cls:=.type "list",data:=.seq #[] c₁}->codeAny (model prog w) A (.builtin "list.extend.loop" ⟨[.ref S,.ref s.heap.objs.size,res],[]⟩) R {s with heap:=h}:=by
   intro h c₁ hk hS1
   have hit:SIt h s.heap.objs.size r (.int (0:Nat) 0) 0 es.size ep:=⟨_,hk _ _ (ne_of_gt hSlt) (Heap.get?_push_size _ rfl),rfl,rfl⟩
   have hso:mX h r es ep t:=hs.at fun o e=>hk _ _ (Ne.symm hSr) (Heap.get?_push_of_some _ e)
   have fin:∀ ord:List Value,ord.Perm (es.toList.map (·.2))->∀ h' tk c',(∀ b o,b≠S->b≠s.heap.objs.size->h.get? b=some o->h'.get? b=some o)->h'.get? S=some {cls:=.type "list",dict:=none,data:=.seq ord.toArray c',slots:=#[]}->R (.ok (.ret res)) {s with heap:=h',toks:=tk}:=fun ord ho h' tk c' k1 k2=>by
    exact hR h' tk s.drawn ord c' ho (fun b o hb e=>k1 b o hb (ne_of_lt (Heap.lt_size e)) (hk b o hb (Heap.get?_push_of_some _ e))) k2
   have hSf:S∉[s.heap.objs.size,r]:=by simp only[mem_cons,not_mem_nil,or_false,not_or];exact⟨ne_of_lt hSlt,hSr⟩
   by_cases hb:w.params.followText "set-order" = true
   ·refine uM (s:={s with heap:=h}) (ord:=(pickOrder (w.params.setOrder r ep) es).toList.map (·.2)) (Mg (A:=A.in1) (t:=t) hh (ne_of_lt hrlt) hb) hn S hSf res c₁ ⟨hit,hso⟩ hS1 (fun i v h=>h) ?_ (fin _ (Li _))
    rw[(Li _).length_eq,length_map,length_toList]
   ·have hb':w.params.followText "set-order" = false:=by simpa using hb
    have hz:es.size<=1:=by
     rcases hm with k|k
     ·exact absurd k hb
     ·rcases lt_or_ge 1 es.size with z|z
      ·exact absurd ⟨hpl z,z⟩ k
      ·exact z
    refine uM (s:={s with heap:=h}) (ord:=es.toList.map (·.2)) (Mu (A:=A.in1) (t:=t) hh (ne_of_lt hrlt) hb' (by rw[hled];unfold ut;rw[hb'];rfl) hz) hn S hSf res c₁ ⟨hit,hso⟩ hS1 (fun i v h=>h) ?_ (fin _ (List.Perm.refl _))
    rw[length_map,length_toList]
  have hS₁:=Heap.get?_push_of_some (itO (.int (0:Nat) 0) r es.size ep) hS
  refine wpAny_bind (wpAny_holding (zm ⟨o,Heap.get?_push_of_some _ ho,hc⟩ ?_))
  refine wpAny_ite_split (fun _=>?_) (fun _=>wpAny_pure ⟨plainId_quiet plain_extend_loop _,key _ c₀ (fun b o _ e=>e) hS₁⟩)
  refine wpAny_bind (wpAny_rule ?_)
  refine wpAny_bind ?_
  show wpAny _ _ (updateSeq S (·.push .none) >>= fun _=>updateSeq S (·.pop)) _ _ _
  refine wpAny_bind (wpAny_updateSeq hS₁ rfl ?_)
  have hS₂:=Heap.get?_update_self (Obj.mapSeq (·.push Value.none)) hS₁ rfl
  refine wpAny_updateSeq (hz:=by seq_fits) hS₂ rfl ?_
  have hS₃:=Heap.get?_update_self (Obj.mapSeq (·.pop)) hS₂ rfl
  refine wpAny_pure ⟨plainId_quiet plain_extend_loop _,key _ _ (fun b o hb e=>?_) hS₃⟩
  exact(Heap.get?_update_other _ _ (Ne.symm hb)).trans ((Heap.get?_update_other _ _ (Ne.symm hb)).trans e)
 ·have hsz:(s.heap.push {cls:=.type "tuple",data:=.seq (p.map fun(i:Nat)=>rawInt (i:Int)).toArray}).objs.size=s.heap.objs.size+1:=Heap.size_push _ _
  have key:∀ (h:Heap) (c₁:Nat),(∀ b o,b≠S->((s.heap.push {cls:=.type "tuple",data:=.seq (p.map fun(i:Nat)=>rawInt (i:Int)).toArray}).push (itO (.ref s.heap.objs.size) r es.size ep)).get? b=some o->h.get? b=some o)->h.get? S=some {cls:=.type "list",data:=.seq #[] c₁}->codeAny (model prog w) A (.builtin "list.extend.loop" ⟨[.ref S,.ref (s.heap.objs.size+1),res],[]⟩) R {s with heap:=h,drawn:=d}:=by
   intro h c₁ hk hS1
   have e1:((s.heap.push {cls:=.type "tuple",data:=.seq (p.map fun(i:Nat)=>rawInt (i:Int)).toArray}).push (itO (.ref s.heap.objs.size) r es.size ep)).get? (s.heap.objs.size+1)=some (itO (.ref s.heap.objs.size) r es.size ep):=by rw[<- hsz];exact Heap.get?_push_size _ rfl
   have hit:SIt h (s.heap.objs.size+1) r (.ref s.heap.objs.size) 0 es.size ep:=⟨_,hk _ _ (ne_of_gt (lt_succ_of_lt hSlt)) e1,rfl,rfl⟩
   have hso:mX h r es ep t:=hs.at fun o e=>hk _ _ (Ne.symm hSr) (Heap.get?_push_of_some _ (Heap.get?_push_of_some _ e))
   have htp:TpI h s.heap.objs.size p:=⟨_,_,hk _ _ (ne_of_gt hSlt) (Heap.get?_push_of_some _ (Heap.get?_push_size _ rfl)),rfl⟩
   have hSf:S∉[s.heap.objs.size+1,r,s.heap.objs.size]:=by simp only[mem_cons,not_mem_nil,or_false,not_or];exact⟨ne_of_lt (lt_succ_of_lt hSlt),hSr,ne_of_lt hSlt⟩
   refine uM (s:={s with heap:=h,drawn:=d}) (ord:=p.map fun j=>(es.getD j (0,.none)).2) (Mi (A:=A.in1) (t:=t) hh (ne_of_lt (lt_succ_of_lt hrlt)) (ne_of_lt (lt_succ_self _)) hp) hn S hSf res c₁ ⟨hit,hso,htp⟩ hS1 (fun i v h=>h) ?_ fun h' tk c' k1 k2=>?_
   ·rw[(Ly hp).length_eq,length_map,length_toList]
   ·refine hR h' tk d _ c' (Ly hp) (fun b o hb e=>k1 b o hb ?_ (hk b o hb (Heap.get?_push_of_some _ (Heap.get?_push_of_some _ e)))) k2
    exact ne_of_lt (lt_succ_of_lt (Heap.lt_size e))
  have hS₁:=Heap.get?_push_of_some (itO (.ref s.heap.objs.size) r es.size ep) (Heap.get?_push_of_some {cls:=.type "tuple",data:=.seq (p.map fun(i:Nat)=>rawInt (i:Int)).toArray} hS)
  refine wpAny_bind (wpAny_holding (zm ⟨o,Heap.get?_push_of_some _ (Heap.get?_push_of_some _ ho),hc⟩ ?_))
  refine wpAny_ite_split (fun _=>?_) (fun _=>wpAny_pure ⟨plainId_quiet plain_extend_loop _,key _ c₀ (fun b o _ e=>e) hS₁⟩)
  refine wpAny_bind (wpAny_rule ?_)
  refine wpAny_bind ?_
  show wpAny _ _ (updateSeq S (·.push .none) >>= fun _=>updateSeq S (·.pop)) _ _ _
  refine wpAny_bind (wpAny_updateSeq hS₁ rfl ?_)
  have hS₂:=Heap.get?_update_self (Obj.mapSeq (·.push Value.none)) hS₁ rfl
  refine wpAny_updateSeq (hz:=by seq_fits) hS₂ rfl ?_
  have hS₃:=Heap.get?_update_self (Obj.mapSeq (·.pop)) hS₂ rfl
  refine wpAny_pure ⟨plainId_quiet plain_extend_loop _,key _ _ (fun b o hb e=>?_) hS₃⟩
  exact(Heap.get?_update_other _ _ (Ne.symm hb)).trans ((Heap.get?_update_other _ _ (Ne.symm hb)).trans e)
theorem zK{R:List Value->Shared->Prop}(hh:A.handled=none)(hs:mX s.heap r es ep t)(hn:es.size<=sizeLine)(hpl:es.size>1->t.plain=false)(hled:t.led=ut w)
  (h:∀ (h':Heap)(tk:Nat)(d:Drawn)(ord:List Value),(∀ b o,s.heap.get? b=some o->h'.get? b=some o)->ord.Perm (es.toList.map (·.2))->R ord {s with heap:=h',toks:=tk,drawn:=d}) :
  wpAny (model prog w) A (collect (.ref r)) R E s:=by
 obtain⟨o,ho,hc,hd,hf⟩:=id hs
 have hrlt:=Heap.lt_size ho
 unfold collect
 refine wpAny_bind (wpAny_runValue (codeAny_builtin entry_proto_collect' ?_))
 rw[Around.under_plainId PySem.F.plain_proto_collect _]
 show wpAny _ A.in1 (newList [] >>= fun l=>again (.builtin "list.__iadd__" ⟨[l,.ref r],[]⟩)) _ _ s
 refine wpAny_bind (wpAny_newObj_type ?_)
 refine wpAny_pure ⟨plainId_quiet PySem.F.plain_list_iadd _,codeAny_builtin entry_list_iadd' ?_⟩
 rw[Around.under_plainId PySem.F.plain_list_iadd _]
 have hS₁:(s.heap.push {cls:=.type "list",data:=.seq ([]:List Value).toArray}).get? s.heap.objs.size=some {cls:=.type "list",data:=.seq #[]}:=Heap.get?_push_size _ rfl
 show wpAny _ A.in1 (Builtin.List.listExtendWith (.ref s.heap.objs.size) (.ref r) (.ref s.heap.objs.size)) _ _ _
 have key:=Kl (prog:=prog) (A:=A) (s:={s with heap:=s.heap.push {cls:=.type "list",data:=.seq ([]:List Value).toArray}})
  (R:=fun(q:Result) (s':Shared)=>∃ (h':Heap) (tk:Nat) (d:Drawn) (ord:List Value) (c':Nat),q=.ok (.ret (.ref s.heap.objs.size))/\s'={s with heap:=h',toks:=tk,drawn:=d} /\
   (∀ b o,s.heap.get? b=some o->h'.get? b=some o)/\h'.get? s.heap.objs.size=some {cls:=.type "list",dict:=none,data:=.seq ord.toArray c',slots:=#[]}/\ord.Perm (es.toList.map (·.2)))
  hh (hs.at fun o e=>Heap.get?_push_of_some _ e) hn hpl hled s.heap.objs.size (ne_of_gt hrlt) (.ref s.heap.objs.size) 0 hS₁
  (fun h' tk d ord c' hp hk hS'=>⟨h',tk,d,ord,c',rfl,rfl,fun b o e=>hk b o (ne_of_lt (Heap.lt_size e)) (Heap.get?_push_of_some _ e),hS',hp⟩)
 refine wpAny_mono key (fun fin s' x=>?_) fun e s' x=>?_
 ·cases fin with
  | done f =>
   obtain⟨h',tk,d,ord,c',e,rfl,hk,hS',hp⟩:=x
   cases e
   show wpAny _ A (load s.heap.objs.size >>= _) _ _ _
   refine wpAny_bind (wpAny_load hS' ?_)
   have q:=h h' tk d ord hk hp
   rw[<- List.toList_toArray (as:=ord)]at q
   exact wpAny_pure q
  | again c₁ =>
   refine⟨x.1,codeAny_mono x.2 fun q s₂ y=>?_⟩
   obtain⟨h',tk,d,ord,c',rfl,rfl,hk,hS',hp⟩:=y
   show wpAny _ A (load s.heap.objs.size >>= _) _ _ _
   refine wpAny_bind (wpAny_load hS' ?_)
   have q:=h h' tk d ord hk hp
   rw[<- List.toList_toArray (as:=ord)]at q
   exact wpAny_pure q
 ·obtain⟨_,_,_,_,_,e',_⟩:=x
  cases e'
theorem Ku (hel:ElemsOf (strKind prog w) es.toList):∀ {ord:List Value},ord.Perm (es.toList.map (·.2)) -> ∃ ks,StrsAre ord ks /\ ks.Perm (es.toList.map uP):=by
 intro ord hp
 have hv:∀ v ∈ ord,∃ k tk,v = .str k tk:=fun v hv=>by
  obtain ⟨e,he,rfl⟩:=mem_map.mp (hp.mem_iff.mp hv)
  obtain ⟨⟨k,hk,_⟩,_⟩:=hel e he
  obtain ⟨tk,et⟩:=Value.isStrOf_shape (x:=k) (v:=e.2) hk
  exact ⟨k,tk,et⟩
 have hS:∀ {l:List Value},(∀ v ∈ l,∃ k tk,v = .str k tk) -> StrsAre l (l.map fun v=>uP (0,v)):=by
  intro l
  induction l with
  | nil=>intro _; exact .nil
  | cons v l ih =>
   intro h
   obtain ⟨k,tk,rfl⟩:=h v mem_cons_self
   exact .cons k tk (ih fun x hx=>h x (mem_cons_of_mem _ hx))
 refine ⟨_,hS hv,?_⟩
 have:=hp.map fun v=>uP (0,v)
 rw [map_map] at this
 exact this
theorem Ae {ys:List Str} {Q:EV} (hh:A.handled=none) (hs:pY prog w s.heap r (ut w) ys) (h64:ys.length<64)
  (h:∀ (h1 h':Heap) (tk:Nat) (d:Drawn) (out:Array Value) (ss':List Str) (e:Nat),(∀ b o,s.heap.get? b=some o->h1.get? b=some o)->(∀ b o,h1.get? b=some o->h'.get? b=some o)->h'.get? h1.objs.size=some (seqObj "list" out e)->StrsAre out.toList ss'->ss'.Perm ys->sortedS ss'=true->Q (.ref h1.objs.size) {s with heap:=h',toks:=tk,drawn:=d}) :
  wpAny (model prog w) A (call (.builtin "sorted") [.ref r]) Q E s:=by
 obtain⟨o,es,ep,t,ho,hex,hd,hel,hp,nd,hb,hf,hl,hpl⟩:=hs
 have hn:es.size=ys.length:=by rw[<- hp.length_eq,length_map,length_toList]
 have hsz:es.size<=sizeLine:=le_trans (show es.size<=64 by omega) Z0
 refine Calls.call_function_entry kind_sorted plain_sorted entry_sorted (args_sorted1 _) ?_
 unfold Builtin.«sorted»
 refine wpAny_bind (m:=checkCount "sorted" 1 1 _) (wpAny_pure ?_)
 refine wpAny_bind (zK (A:=A.in1) hh ⟨o,ho,hex.1,hd,hf⟩ hsz (fun z=>hpl fun y0=>by rw[y0,length_nil]at hn;omega) hl fun h' tk d acc hk hacc=>?_)
 obtain⟨ks,hS,hks⟩:=Ku hel hacc
 have hkl:acc.length=ks.length:=uX hS
 have hk2:ks.length=ys.length:=by rw[hks.length_eq,length_map,length_toList,hn]
 refine wpAny_bind (wpAny_newList ?_ (by rw[hkl,hk2,<- hn];exact hsz))
 have hoL:(h'.push (seqObj "list" acc.toArray 0)).get? h'.objs.size=some (seqObj "list" acc.toArray 0):=Heap.get?_push_size _ rfl
 refine wpAny_bind (wpAny_holding (wpAny_call_entry slot_list_sort ⟨_,hoL,rfl⟩ entry_list_sort (list_sort_treeK strKind_oneLt hoL hS.keysOf (fun v₁ v₂ rest e=>keyKind_strs (by rw[<- e];exact hS)) Z1 fun st' a1 a2=>⟨_,rfl,?_⟩) (args_list_sort _)))
 obtain⟨ss',b1,b2,b3⟩:=sorted_out_str hS a1 a2
 obtain⟨e,he⟩:=sortedHeap_at (out:=(arrOf st').map (·.2)) hoL
 refine wpAny_pure ⟨_,rfl,h h' _ _ d _ ss' e hk (fun b o hb=>?_) he b1 (b2.trans (hks.trans hp)) b3⟩
 have hlt:=Heap.lt_size hb
 rw[sortedHeap_old (ne_of_lt hlt) (by rw[size_push'];exact lt_succ_of_lt hlt),Heap.get?_push_ne _ _ _ (ne_of_lt hlt)]
 exact hb
end
def StO(P:Program)(w:World)(r:Addr)(ys:List Str):HO:=.ext fun h=>pY P w h r (ut w) ys
theorem Inv.drawnAny{X:Cx}{pins:OP}{σ:St}{H:Hp}{s:Shared}(I:Inv X pins σ H s)(d:Drawn):Inv X pins σ H {s with drawn:=d}:=⟨I.ok,I.os,I.bare,I.base,I.loc,I.cell,I.free,I.freeC,I.pin,I.hok,I.len⟩
section
variable {X:Cx}
theorem uc(hc:X.calm=true):mD X (.builtin "sorted") (fun xs H Q=>∃ p ys,xs=[.ref p]/\H p=some (StO X.prog X.w p ys)/\ys.length<64/\∀ l ys',ys'.Perm ys->sortedS ys'=true->H l=none->Q (.ref l) (upd H l (.lst (ys'.map V.str)))):=by
 intro pins s σ H xs us Q I r h
 obtain⟨p,ys,rfl,hl,hn,q⟩:=h
 obtain⟨u,rfl,ru⟩:=vals1 r
 obtain rfl:u=Value.ref p:=ru
 have hS:pY X.prog X.w s.heap p (ut X.w) ys:=(show bD X.prog X.w H s.heap p (StO X.prog X.w p ys)from I.hok p _ hl).1
 refine Ae (I.ok.hd hc) hS hn fun h1 h' tk d out ss' e k1 k2 he b1 b2 b3=>?_
 have I1:Inv X pins σ H {s with heap:=h1,toks:=tk,drawn:=d}:=(I.kept (t':=tk) k1).drawnAny d
 have hz:(ss'.map V.str).length<=sizeLine:=by rw[length_map,b2.length_eq];exact le_trans (le_of_lt hn) Z0
 refine⟨.ref h1.objs.size,_,I1.laid (a:=h1.objs.size) (o:=.lst (ss'.map V.str)) (t':=tk) k2 (le_refl _) ?_,rfl,q _ ss' b2 b3 (I1.hok.fresh (le_refl _))⟩
 exact⟨hz,out.toList,e,qH b1,by simpa [seqObj] using he⟩
theorem Ft(hc:X.calm=true):mD X (.type "set") (fun xs H Q=>∃ (p:Addr) (ks:List Str),xs=[.ref p]/\SqL X.K H p (ks.map V.str)/\ks.length<4000/\∀ r (ys:List Str),ys.Nodup->(∀ y,y∈ys↔y∈ks)->H r=none->Q (.ref r) (upd H r (StO X.prog X.w r ys))):=by
 intro pins s σ H xs us Q I r h
 obtain⟨p,ks,rfl,hl,hn,q⟩:=h
 obtain⟨u,rfl,ru⟩:=vals1 r
 obtain rfl:u=Value.ref p:=ru
 obtain⟨its,hv,hp,_⟩:=I.list hl
 have hlen:its.length=ks.length:=by have:=hv.length;rw[length_map]at this;exact this.symm
 refine Jf (ks:=ks) (I.ok.hd hc) hp.isList (uU hv) (by rw[size_toArray,hlen];show ks.length+1<4096;omega) fun h' tk ys hS hy hly hk=>?_
 have nd:ys.Nodup:=by obtain⟨_,_,_,_,_,_,_,_,_,nd,_⟩:=hS;exact nd
 refine⟨.ref s.heap.objs.size,_,I.laid (o:=StO X.prog X.w s.heap.objs.size ys) (t':=tk) (fun b u e=>hk b u (Heap.lt_size e) e) (le_refl _) ⟨hS,?_,fun h1 h2 x k=>x.at k⟩,rfl,q _ ys nd hy (I.hok.fresh (le_refl _))⟩
 obtain⟨o,_,_,_,ho,_⟩:=hS
 exact⟨o,ho⟩
end
end L2
namespace L2
open PySem PySem.Spec PyProof.Rows
theorem uO:∀{names:List (Str×NameKind)}{n:Nat}{acc:List (Str×Addr)}{h:Heap},(names.filter fun z=>z.2==.cell).length=0->cellsFrom n names acc=acc/\pushCells h names=h
 | [],_,_,_,_=>⟨rfl,rfl⟩
 | (x,k)::r,n,acc,h,e=>by
  rw[filter_cons]at e
  unfold cellsFrom pushCells
  by_cases hk:(k==NameKind.cell)=true
  ·rw[if_pos hk]at e;simp at e
  ·rw[if_neg hk]at e
   rw[if_neg hk,if_neg hk]
   exact uO e
theorem vX{y:Str}:∀ {names:List (Str×NameKind)} {n:Nat} {acc:List (Str×Addr)} {h:Heap},(∀ z∈names,z.2=.cell->z.1=y)->(names.filter fun z=>z.2==.cell).length=1->cellsFrom n names acc=(y,n)::acc/\pushCells h names=h.push {cls:=.type "cell",data:=.cell none}
 | [],_,_,_,_,e=>by simp at e
 | (x,k)::r,n,acc,h,hy,e=>by
  rw[filter_cons]at e
  unfold cellsFrom pushCells
  by_cases hk:(k==NameKind.cell)=true
  ·rw[if_pos hk,length_cons]at e
   rw[if_pos hk,if_pos hk]
   obtain rfl:x=y:=hy (x,k) mem_cons_self (eq_of_beq hk)
   exact uO Z1
  ·rw[if_neg hk]at e
   rw[if_neg hk,if_neg hk]
   exact vX (fun z hz=>hy z (mem_cons_of_mem _ hz)) e
theorem J9 {M:Model} {A:Around} {E:EV} {s:Shared} {sc:Scope} {globals:Addr} {cl:List (Str×Addr)} {qual:Str} {env:Env} {y:Str} {Q:Env->Shared->Prop} (hy:∀ z∈sc.names,z.2=.cell->z.1=y) (h1:(sc.names.filter fun z=>z.2==.cell).length=1)
  (hQ:∀ h',h'.Ns s.heap.objs.size (fun _=>none)->(∀ b o,s.heap.get? b=some o->h'.get? b=some o)->h'.IsCell (s.heap.objs.size+1) none ->
   Q (newEnv sc s.heap.objs.size globals ((y,s.heap.objs.size+1)::cl) qual none .none (some env) builtinsNs) {s with heap:=h'}) :
  wpAny M A (newFunctionEnv sc globals cl [] qual none .none (some env)) Q E s:=by
 simp only[newFunctionEnv,Option.isSome_some,if_true]
 refine wpAny_bind (wpAny_alloc ?_)
 refine wpAny_bind (wpAny_layCells _ (fun name kind cells=>by cases hkc:kind==NameKind.cell <;> simp[hkc]) _ _ _ _ ?_)
 rw[show({s with heap:=s.heap.push {cls:=.type "dict",data:=.dict #[]}}:Shared).heap.objs.size=s.heap.objs.size+1 from Heap.size_push ..]
 obtain⟨e1,e2⟩:=vX (n:=s.heap.objs.size+1) (acc:=cl) (h:=s.heap.push {cls:=.type "dict",data:=.dict #[]}) hy h1
 rw[e1]
 dsimp only
 rw[e2]
 have hsz:(s.heap.push {cls:=.type "dict",data:=.dict #[]}).objs.size=s.heap.objs.size+1:=Heap.size_push ..
 refine wpAny_bind ?_
 rw[List.forIn_nil]
 refine wpAny_pure (wpAny_pure (hQ _ ((Heap.Ns.new s.heap (.type "dict")).keeps fun b o e=>Heap.get?_push_of_some _ e) (fun b o e=>Heap.get?_push_of_some _ (Heap.get?_push_of_some _ e)) ⟨{cls:=.type "cell",data:=.cell none},(by rw[<- hsz];exact Heap.get?_push_size _ rfl),rfl⟩))
theorem lkC {y x:Str} {D c:Addr} {cl:List (Str × Addr)} (h:((y,D) :: cl).lookup x = some c):(x = y /\ c = D) \/ (x ≠ y /\ cl.lookup x = some c):=by
 by_cases e:x = y
 ·subst e
  rw [lookup_cons,beq_self_eq_true] at h
  exact .inl ⟨rfl,(Option.some.inj h).symm⟩
 ·have hb:(x == y) = false:=by simpa using e
  rw [lookup_cons,hb] at h
  exact .inr ⟨e,h⟩
theorem PX{y x:Str}{D c:Addr}{cl:List (Str×Addr)}(e:x≠y)(h:cl.lookup x=some c):((y,D)::cl).lookup x=some c:=by
 have hb:(x==y)=false:=by simpa using e
 rw[lookup_cons,hb]
 exact h
theorem rP {env:Env}:∀ {names:List (Str × NameKind)} {x:Str},
  ((names.map fun (n,k)=>if (k == NameKind.free && env.scope.kind == .function && env.kindOf n == some .cell) then (n,NameKind.cell) else (n,k)).lookup x = some .cell \/
  (names.map fun (n,k)=>if (k == NameKind.free && env.scope.kind == .function && env.kindOf n == some .cell) then (n,NameKind.cell) else (n,k)).lookup x = some .free) -> (x,NameKind.free) ∈ names \/ (x,NameKind.cell) ∈ names
 | [],_,h=>by simp at h
 | (n,k) :: r,x,h=>by
  have ih:=@rP env r x
  simp only [map_cons] at h
  by_cases hc:(k == NameKind.free && env.scope.kind == .function && env.kindOf n == some .cell) = true
  ·rw [if_pos hc] at h
   cases hx:x == n with
   | true =>
    have e:x = n:=by simpa using hx
    have e2:k = NameKind.free:=by simp at hc; exact hc.1.1
    subst e; subst e2
    exact .inl mem_cons_self
   | false =>
    simp only [lookup_cons,hx] at h
    exact (ih h).imp (mem_cons_of_mem _) (mem_cons_of_mem _)
  ·rw [if_neg hc] at h
   cases hx:x == n with
   | true =>
    have e:x = n:=by simpa using hx
    subst e
    simp only [lookup_cons,hx] at h
    rcases h with h | h
    ·cases h; exact .inr mem_cons_self
    ·cases h; exact .inl mem_cons_self
   | false =>
    simp only [lookup_cons,hx] at h
    exact (ih h).imp (mem_cons_of_mem _) (mem_cons_of_mem _)
def lM(osc:Scope)(oN N:List Str)(ix:List (Option Nat))(sc:Scope)(y:Str):Bool :=
 (sc.kind==.function)&&sc.names.all (fun z=>((z.2!=.cell)||(z.1==y))&&((z.2!=.local)||(sc.names.lookup z.1==some .local))&&((z.2!=.free)||((osc.names.lookup z.1==some .cell)||(osc.names.lookup z.1==some .free))))&&oR osc sc oN ix N&&((sc.names.filter fun z=>z.2==.cell).length==1)&&(sc.names.lookup y==some .cell)
def pQ(X:Cx)(N:List Str)(sc:Scope)(y:Str)(cl:List (Str×Addr))(C:Addr)(fp:List Addr)(s:Shared)(H:Hp):Cx :=
 {X with N:=N,s₀:=s,H₀:=H,env:=compEnvC sc ((y,C+1)::cl) C X.env,outer:=X.stack,ex:=fp,fn:=fun x=>x==y,pn:=[],xe:=fun _ _=>False}
section
variable {X:Cx} {pins:OP} {σ:St} {H2:Hp} {s2:Shared} {N:List Str} {ix:List (Option Nat)} {sc:Scope} {cl:List (Str×Addr)} {y yc:Str}
theorem JS(I:Inv X pins σ H2 s2)(hb:lM X.env.scope X.N N ix sc y=true)(c1:∀ x c,cl.lookup x=some c->X.env.cells.lookup x=some c)(c2:∀ x,(x,NameKind.free)∈sc.names->∃ c,cl.lookup x=some c)
  {fp:List Addr}(hf:∀ b∈fp,qd X pins H2 b)(hfo:∀ b∈fp,∃ o,s2.heap.get? b=some o){C:Addr}(hC:s2.heap.objs.size<=C)(cellD:∀ x c,cl.lookup x=some c->c<s2.heap.objs.size):(pQ X N sc y cl C fp s2 H2).Ok:=by
 unfold lM at hb
 simp only[and_eq_true]at hb
 obtain⟨⟨⟨⟨hk,hn⟩,hi⟩,hone⟩,hyc⟩:=hb
 have allc:∀ z∈sc.names,z.2=NameKind.cell->z.1=y:=fun z hz hzc=>by
  have:=all_eq_true.mp hn z hz
  simp only[and_eq_true]at this
  have h3:=this.1.1
  rw[hzc]at h3
  simpa using h3
 refine⟨I.ok.mod,?_,I.ok.glob,I.ok.blt,hC,fun x z c h1 h2=>?_,fun x hx=>?_,fun x c hx e=>?_,I.ok.hd,I.ok.frames,.inl rfl,fun b hb=>⟨?_,fun x c h=>?_⟩,I.bs,le_trans I.ok.bsz I.sz,fun b o e hb=>?_,fun b hb hs=>?_,I.stack,I.stkFree⟩
 ·show(relabel sc X.env).kind=.function
  exact eq_of_beq hk
 ·rcases lkC h1 with⟨e1,e3⟩|⟨n1,k1⟩ <;> rcases lkC h2 with⟨e2,e4⟩|⟨n2,k2⟩
  ·rw[e1,e2]
  ·rw[e3]at k2;exact absurd (cellD _ _ k2) (not_lt.mpr (le_succ_of_le hC))
  ·rw[e4]at k1;exact absurd (cellD _ _ k1) (not_lt.mpr (le_succ_of_le hC))
  ·exact I.ok.inj x z c (c1 x c k1) (c1 z c k2)
 ·by_cases e:x=y
  ·exact⟨C+1,by show((y,C+1)::cl).lookup x=_;rw[e,lookup_cons,beq_self_eq_true]⟩
  ·rcases rP hx with h|h
   ·obtain⟨c,hc⟩:=c2 x h
    exact⟨c,PX e hc⟩
   ·exact absurd (allc _ h rfl) e
 ·have hxy:x=y:=by simpa using (show(x==y)=true from hx)
  rcases lkC (show((y,C+1)::cl).lookup x=some c from e)with⟨_,rfl⟩|⟨n,_⟩
  ·exact le_succ_of_le hC
  ·exact absurd hxy n
 ·show b≠C
  obtain⟨o,e⟩:=hfo b hb
  exact ne_of_lt (lt_of_lt_of_le (Heap.lt_size e) hC)
 ·rcases lkC (show((y,C+1)::cl).lookup x=some c from h)with⟨_,rfl⟩|⟨_,h⟩
  ·obtain⟨o,e⟩:=hfo b hb
   exact fun z=>absurd (Heap.lt_size e) (by rw[<- z];exact not_lt.mpr (le_succ_of_le hC))
  ·obtain⟨_,_,_,_,h5,_⟩:=hf b hb
   exact h5 x c (c1 x c h)
 ·obtain⟨_,_,_,h4,_,_⟩:=hf b hb
  rcases h4 with h4|h4
  ·exact I.ok.noex b o e h4
  ·exact absurd (lt_of_lt_of_le (Heap.lt_size (I.ok.bs b o e).1) h4) (lt_irrefl _)
 ·obtain⟨_,h2,h3,_⟩:=hf b hb
  rcases mem_cons.mp (I.stkSub b hs)with z|z
  ·exact h2 z
  ·exact h3 z
theorem zV {el tg src:Expr} {ifs:List Expr} {pos:Pos} {g:TG} {tf:TT} {te:TE} {J:It} {fp:List Addr} {it:Addr} {tn:Nat -> Heap -> Prop} {E:EV} {Fin:List V -> Hp -> Prop} {RR:Value -> Addr -> Result -> Shared -> Prop}
  (I:Inv X pins σ H2 s2) (hc:X.calm = true) (hb:lM X.env.scope X.N N ix sc yc = true) (c1:∀ x c,cl.lookup x = some c -> X.env.cells.lookup x = some c) (c2:∀ x,(x,NameKind.free) ∈ sc.names -> ∃ c,cl.lookup x = some c)
  (T:Turn X.prog X.w X.K tg J fp it tn) (st:tn 0 s2.heap) (hf:∀ b ∈ fp,qd X pins H2 b)
  (hg:∀ C fp,PG (pQ X N sc yc cl C fp s2 H2) tg g) (hfs:∀ C fp,PF (pQ X N sc yc cl C fp s2 H2) ifs tf) (he:∀ C fp,PE (pQ X N sc yc cl C fp s2 H2) el te)
  (hW:qj g tf te J (lift ix σ) H2 Fin)
  (hRR:∀ D C s' ys H',H' D = none -> (∃ m,s'.heap.Ns C m) -> Inv X pins σ (upd H' D (.lst ys)) s' -> qd X pins (upd H' D (.lst ys)) C -> Fin ys H' -> RR (.ref D) C (.ok .next) s') :
  wpAny (model X.prog X.w) X.A (newList []) (fun acc s3=>wpAny (model X.prog X.w) X.A (newFunctionEnv sc X.env.globals cl [] X.env.qual none .none (some X.env)) (fun cenv s4 =>
   codeAny (model X.prog X.w) X.A (.compStart (.ListComp el [⟨tg,src,ifs,0⟩] sc pos) 0 (.ref it) acc { cenv with scope:=relabel sc X.env }) (RR acc cenv.locals) s4) E s3) E s2:=by
 obtain ⟨W,⟨m0,w0⟩,turn⟩:=hW
 have hb':=hb
 unfold lM at hb'
 simp only [and_eq_true] at hb'
 obtain ⟨⟨⟨⟨hk,hn⟩,hi⟩,hone⟩,hyc⟩:=hb'
 have allc:∀ z ∈ sc.names,z.2 = NameKind.cell -> z.1 = yc:=fun z hz hzc=>by
  have:=all_eq_true.mp hn z hz
  simp only [and_eq_true] at this
  have h3:=this.1.1
  rw [hzc] at h3
  simpa using h3
 refine wpAny_newObj_type (J9 allc (eq_of_beq hone) (fun h1 hns hsb hcel=>?_))
 dsimp only at hns hsb hcel ⊢
 generalize hP:s2.heap.push { cls:=.type "list",dict:=none,data:=.seq ([]:List Value).toArray } = P2 at hns hsb hcel ⊢
 have hC:P2.objs.size = s2.heap.objs.size + 1:=by rw [<- hP,Heap.size_push]
 have hDC:s2.heap.objs.size ≠ P2.objs.size:=by rw [hC]; exact ne_of_lt (lt_succ_self _)
 have hCle:s2.heap.objs.size <= P2.objs.size:=by rw [hC]; omega
 have fpo:∀ b ∈ fp,∃ o,s2.heap.get? b = some o:=fun b hb=>let ⟨o,e,_⟩:=T.obj _ _ st b hb; ⟨o,e⟩
 have old:∀ b o,s2.heap.get? b = some o -> h1.get? b = some o:=fun b o e=>by
  exact hsb _ _ (hP ▸ Heap.get?_push_of_some _ e)
 have hacc:h1.get? s2.heap.objs.size = some { cls:=.type "list",dict:=none,data:=.seq ([]:List Value).toArray } :=
  hsb _ _ (hP ▸ Heap.get?_push_size _ rfl)
 have cellD:∀ x c,cl.lookup x = some c -> c < s2.heap.objs.size:=fun x c e=>by
  obtain ⟨v,q⟩:=I.cell x c (c1 x c e)
  exact q.lt
 have qt:∀ x c,((yc,P2.objs.size + 1) :: cl).lookup x = some c -> c ≠ s2.heap.objs.size:=fun x c e=>by
  rcases lkC e with ⟨_,rfl⟩ | ⟨_,e⟩
  ·rw [hC]; exact ne_of_gt (lt_succ_of_lt (lt_succ_self _))
  ·exact ne_of_lt (cellD x c e)
 have bok:(pQ X N sc yc cl P2.objs.size fp s2 H2).Ok:=JS I hb c1 c2 hf fpo hCle cellD
 have frD:∀ {b:Addr},s2.heap.objs.size <= b -> b ∉ frs X.stack:=fun hb hz=>by
  rcases mem_cons.mp (I.stkSub _ hz) with z | z
  ·exact absurd (z ▸ hb) (Nat.not_le.mpr I.lt)
  ·exact I.nofs hb z
 have I0:Inv (pQ X N sc yc cl P2.objs.size fp s2 H2) [(s2.heap.objs.size,{ cls:=.type "list",dict:=none,data:=.seq ([]:List Value).toArray })] (lift ix σ) H2 { s2 with heap:=h1,toks:=s2.toks }:=by
  refine ⟨bok,rfl,I.bare,Un.kept old,⟨_,hns,fun i x v e1 e2 e3=>?_⟩,fun x c e=>?_,I.hok.fresh hCle,fun x c e=>?_,fun p hp=>?_,I.hok.kept old,?_⟩
  ·obtain ⟨k,q1,q2⟩:=Cr e2
   obtain ⟨y,z1,z2,z3⟩:=tR i k hi q1
   have e1':N[i]? = some x:=e1
   rw [e1'] at z1
   cases z1
   have hin:(x,NameKind.free) ∈ sc.names:=PySem.mem_of_lookup z3
   obtain ⟨c,hcl⟩:=c2 x hin
   have okind:X.env.scope.names.lookup x = some .cell \/ X.env.scope.names.lookup x = some .free:=by
    have:=all_eq_true.mp hn _ hin
    simp only [and_eq_true] at this
    simpa using this.2
   obtain ⟨m,hm,hl⟩:=I.loc
   obtain ⟨u,r,l⟩:=hl k x v z2 q2 (by rcases okind with z | z; exact .inr (.inl z); exact .inr (.inr z))
   have hxy:x ≠ yc:=fun e=>by
    rw [e,eq_of_beq hyc] at z3
    cases z3
   refine ⟨u,r,.inr ⟨pJ z3,c,PX hxy hcl,?_⟩⟩
   rcases l with ⟨lk,_⟩ | ⟨_,c',hc',z⟩
   ·have lk':X.env.scope.names.lookup x = some .local:=lk
    rcases okind with q | q <;> rw [q] at lk' <;> cases lk'
   ·rw [c1 x c hcl] at hc'
    cases hc'
    obtain ⟨oc,ho,hd⟩:=z
    exact ⟨oc,old _ _ ho,hd⟩
  ·rcases lkC e with ⟨_,rfl⟩ | ⟨_,e⟩
   ·exact ⟨none,hcel⟩
   ·obtain ⟨v,oc,ho,hd⟩:=I.cell x c (c1 x c e)
    exact ⟨v,oc,old _ _ ho,hd⟩
  ·rcases lkC e with ⟨_,rfl⟩ | ⟨_,e⟩
   ·exact I.hok.fresh (le_succ_of_le hCle)
   ·exact I.freeC x c (c1 x c e)
  ·have hp':p = (s2.heap.objs.size,{ cls:=.type "list",dict:=none,data:=.seq ([]:List Value).toArray }):=by
    rcases mem_append.mp hp with z | z
    ·exact absurd (show p ∈ ([]:OP) from z) Z2
    ·simpa using z
   subst hp'
   exact ⟨hacc,I.fresh,hDC,frD (le_refl _),fun v z=>by cases z⟩
  ·show (lift ix σ).length = N.length
   unfold lift
   rw [length_map]
   exact qG hi
 have stat:∀ {o:Obj} {H':Hp},(∀ b ∈ fp,H' b = none) -> ∀ b ∈ fp,qd (pQ X N sc yc cl P2.objs.size fp s2 H2) [(s2.heap.objs.size,o)] H' b:=fun {o H'} hz b hb=>by
  obtain ⟨_,g2,g3,g4,g5,g6⟩:=hf b hb
  obtain ⟨ob,eb⟩:=fpo b hb
  have lb:=Heap.lt_size eb
  refine ⟨hz b hb,?_,?_,.inl hb,fun x c e=>?_,fun p hp=>?_⟩
  ·show b ≠ P2.objs.size
   rw [hC]; exact ne_of_lt (lt_succ_of_lt lb)
  ·intro hz
   rcases mem_cons.mp (I.stkSub b hz) with z | z
   ·exact g2 z
   ·exact g3 z
  ·rcases lkC e with ⟨_,rfl⟩ | ⟨_,e⟩
   ·rw [hC]; exact ne_of_gt (lt_succ_of_lt (lt_succ_of_lt lb))
   ·exact g5 x c (c1 x c e)
  ·have hp':p = (s2.heap.objs.size,o):=by
    rcases mem_append.mp hp with z | z
    ·exact absurd (show p ∈ ([]:OP) from z) Z2
    ·simpa using z
   subst hp'
   show s2.heap.objs.size ≠ b
   exact ne_of_gt lb
 have loop:∀ s4:Shared,s4 = { s2 with heap:=h1,toks:=s2.toks } ->
   codeAny (model X.prog X.w) X.A (.compLoop (.ListComp el [⟨tg,src,ifs,0⟩] sc pos) 0 (.ref it) (.ref s2.heap.objs.size) (compEnvC sc ((yc,P2.objs.size + 1) :: cl) P2.objs.size X.env)) (RR (.ref s2.heap.objs.size) P2.objs.size) s4:=by
  rintro s4 rfl
  refine Lr (fun n s'=>∃ (i:Nat) (τ:St) (ys:List V) (its:List Value) (k:Nat) (H':Hp),Vals ys its /\ ys.length <= sizeLine /\
    Inv (pQ X N sc yc cl P2.objs.size fp s2 H2) [(s2.heap.objs.size,{ cls:=.type "list",data:=.seq its.toArray k })] τ H' s' /\ tn i s'.heap /\ (∀ b ∈ fp,H' b = none) /\ W i n τ ys H') ?_ m0
   ⟨0,_,[],[],0,H2,.nil,zero_le _,I0,T.keep _ _ _ st fun b _ o e=>old b o e,fun b hb=>(hf b hb).1,w0⟩
  rintro n s5 ⟨i,τ,ys,its,k,H5,rv,hz,I5,st5,fr5,w5⟩
  rcases turn i n τ ys H5 w5 with ⟨stop,fin⟩ | ⟨go,step⟩
  ·refine thn (T.done (pQ X N sc yc cl P2.objs.size fp s2 H2) rfl rfl rfl hc i _ s5 τ H5 (fun _ _=>False) I5 (stat fr5) st5 stop) fun r s6 ⟨hr,I6⟩=>?_
   subst hr
   obtain ⟨m,hns6,_⟩:=I6.loc
   obtain ⟨gD,fD,_,_,_⟩:=I6.pin (s2.heap.objs.size,{ cls:=.type "list",data:=.seq its.toArray k }) (mem_append_right _ Z2)
   have fD':H5 s2.heap.objs.size = none:=fD
   refine hRR _ _ s6 ys H5 fD' ⟨m,hns6⟩ ?_ (I.fpOk hCle ?_) fin
   ·refine I.call' (ch:=fp) I6.os (Un.grow I6.base (le_refl _) I.fresh) (HOk.grow I6.hok fD' ⟨hz,its,k,rv,gD⟩) I6.bare fun b hb=>?_
    obtain ⟨_,g2,_,g4,g5,g6⟩:=hf b hb
    exact ⟨g4,g2,g5,g6⟩
   ·rw [aD (Ne.symm hDC)]
    exact I6.free
  ·refine thn (T.item (pQ X N sc yc cl P2.objs.size fp s2 H2) rfl rfl rfl hc i _ s5 τ H5 (fun _ _=>False) I5 (stat fr5) st5 go) fun r s6 ⟨u,hr,h6⟩=>?_
   subst hr
   refine thn h6 fun _ s7 ⟨x,H7,I7,r7,y7,st7,fr7⟩=>?_
   have I7':=I7.pinned (stat fr7) (T.obj _ _ st7)
   refine thn (hg _ _ _ s7 τ H7 x u _ I7' r7 (step x H7 y7)) fun _ s8 ⟨τ8,H8,I8,q8⟩=>?_
   refine thn (hfs _ _ _ s8 τ8 H8 _ I8 q8) fun ok s9 ⟨H9,I9,q9⟩=>?_
   have tail:∀ {s':Shared} {τ':St} {H':Hp},Inv (pQ X N sc yc cl P2.objs.size fp s2 H2) ([(s2.heap.objs.size,{ cls:=.type "list",data:=.seq its.toArray k })] ++ rF fp s7.heap) τ' H' s' ->
     (s'.heap.get? s2.heap.objs.size = some { cls:=.type "list",data:=.seq its.toArray k } /\ H' s2.heap.objs.size = none) /\ (∀ b ∈ fp,∀ o,s7.heap.get? b = some o -> s'.heap.get? b = some o) /\ ∀ b ∈ fp,H' b = none:=fun {s' τ' H'} I'=>by
    refine ⟨?_,fun b hb o e=>(I'.pin (b,o) (mem_append_right _ (mem_append_right _ (gm hb e)))).1,fun b hb=>?_⟩
    ·obtain ⟨a1,a2,_⟩:=I'.pin (s2.heap.objs.size,{ cls:=.type "list",data:=.seq its.toArray k }) (mem_append_right _ (mem_append_left _ Z2))
     exact ⟨a1,a2⟩
    ·obtain ⟨o,e,_⟩:=T.obj _ _ st7 b hb
     exact (I'.pin (b,o) (mem_append_right _ (mem_append_right _ (gm hb e)))).2.1
   cases ok with
   | false =>
    obtain ⟨m',hm,w9⟩:=q9
    obtain ⟨_,k2,k3⟩:=tail I9
    exact ⟨m',hm,i + 1,τ8,ys,its,k,H9,rv,hz,I9.unpinned,T.keep _ _ _ st7 k2,k3,w9⟩
   | true =>
    refine thn (he _ _ _ s9 τ8 H9 _ I9 q9) fun v s10 ⟨y,H10,I10,r10,hl,m',hm,w10⟩=>?_
    obtain ⟨⟨gD,fD⟩,k2,k3⟩:=tail I10
    have hlen:=rv.length
    refine call_meets F.slot_list_append ⟨_,gD,rfl⟩ F.entry_list_append (F.args_list_append_2 _ _) (list_append s2.heap.objs.size its.toArray k v (by rw [size_toArray]; omega)) ⟨gD,?_⟩
    obtain ⟨k',q⟩:∃ k',(s10.heap.update s2.heap.objs.size (Obj.mapSeq (·.push v))).get? s2.heap.objs.size = some { cls:=.type "list",data:=.seq (its ++ [v]).toArray k' }:=by
     have q:=PySem.IsL.update gD (·.push v)
     rw [show (its.toArray.push v) = (its ++ [v]).toArray from by simp] at q
     exact ⟨_,q⟩
    have other:∀ b o,b ≠ s2.heap.objs.size -> s10.heap.get? b = some o -> (s10.heap.update s2.heap.objs.size (Obj.mapSeq (·.push v))).get? b = some o:=fun b o hb e=>(Heap.get?_update_other s10.heap _ (Ne.symm hb)).trans e
    have Ia:Inv (pQ X N sc yc cl P2.objs.size fp s2 H2) [] τ8 H10 { s10 with heap:=s10.heap.update s2.heap.objs.size (Obj.mapSeq (·.push v)),toks:=s10.toks } :=
     (I10.pins_of (pins':=[]) fun p hp=>nomatch hp).turned other fD hDC (.inr (le_refl _)) (fun x c e=>qt x c e) fun p hp=>absurd (show p ∈ ([]:OP) from hp) Z2
    refine ⟨m',hm,i + 1,τ8,ys ++ [y],its ++ [v],k',H10,rv.append (.cons r10 .nil),by rw [length_append,length_singleton]; omega,?_,T.keep _ _ _ st7 fun b hb o e=>?_,k3,w10⟩
    ·refine Ia.pins_of fun p hp=>?_
     have hp':=mem_singleton.mp hp
     subst hp'
     exact ⟨q,fD,hDC,frD (le_refl _),fun v z=>by cases z⟩
    ·obtain ⟨ob,eb⟩:=fpo b hb
     exact other b o (ne_of_lt (Heap.lt_size eb)) (k2 b hb o e)
 exact codeAny_compStart_list (loop _ rfl) (T.self X.A 0 _ _ _ (T.keep _ _ _ st fun b _ o e=>old b o e) (loop _ rfl))
end
section
variable {X:Cx} {N:List Str} {ix:List (Option Nat)} {sc:Scope} {el tg src:Expr} {ifs:List Expr} {wi:TI} {g:TG} {tf:TT} {te:TE} {pos:Pos} {y:Str}
theorem Inv.closC{pins:OP}{σ:St}{H:Hp}{s:Shared}(I:Inv X pins σ H s)(hb:lM X.env.scope X.N N ix sc y=true) :
  ∃ cl:List (Str×Addr),closureFor sc X.env=pure cl/\(∀ x c,cl.lookup x=some c->X.env.cells.lookup x=some c)/\∀ x,(x,NameKind.free)∈sc.names->∃ c,cl.lookup x=some c:=by
 refine Cd fun y hy hf=>I.ok.has y.1 ?_
 unfold lM at hb
 simp only[and_eq_true]at hb
 have:=all_eq_true.mp hb.1.1.1.2 y hy
 simp only[and_eq_true]at this
 have h2:=this.2
 rw[hf]at h2
 have h3:X.env.scope.names.lookup y.1=some .cell\/X.env.scope.names.lookup y.1=some .free:=by simpa using h2
 exact h3
theorem Ab(hb:lM X.env.scope X.N N ix sc y=true):sc.kind=.function/\∀ y∈sc.names,y.2=.local->sc.names.lookup y.1=some .local:=by
 unfold lM at hb
 simp only[and_eq_true]at hb
 refine⟨eq_of_beq hb.1.1.1.1,fun y hy hl=>?_⟩
 have:=all_eq_true.mp hb.1.1.1.2 y hy
 simp only[and_eq_true]at this
 have h2:=this.1.2
 rw[hl]at h2
 simpa using h2
theorem Gk(ix:List (Option Nat))(hc:X.calm=true)(hb:lM X.env.scope X.N N ix sc y=true)(hi:PI X tg src wi)
  (hg:∀ cl C fp s H,PG (pQ X N sc y cl C fp s H) tg g)(hf:∀ cl C fp s H,PF (pQ X N sc y cl C fp s H) ifs tf)(he:∀ cl C fp s H,PE (pQ X N sc y cl C fp s H) el te)
  (hs:∀ x,foldedSetIterable src X.env x=pure x:=by intro _;rfl):PE X (.ListComp el [⟨tg,src,ifs,0⟩] sc pos) (CN ix wi g tf te):=by
 intro pins s σ H Q I h
 obtain⟨cl,hcl,c1,c2⟩:=I.closC hb
 obtain⟨hk,hn⟩:=Ab hb
 rw[eval_ListComp]
 refine wpAny_comprehension_free (use:=none) rfl hs hcl hk hn (thn (hi pins s σ H _ I h) fun xv s1 h1=>thn h1 fun itv s2 h2=>?_)
 obtain⟨it,fp,tn,J,H2,rfl,I2,T,st,f2,hW⟩:=h2
 refine zV (RR:=fun acc C=>compPost (model X.prog X.w) X.A X.xe none (EP X pins σ Q) acc C) I2 hc hb c1 c2 T st f2 (fun C fp=>hg cl C fp s2 H2) (fun C fp=>hf cl C fp s2 H2) (fun C fp=>he cl C fp s2 H2) hW ?_
 intro D C s' ys H' hD ⟨m,hm⟩ I' fC fin
 refine⟨m,hm,fun h' hs'=>⟨.ref D,_,?_,rfl,fin D hD⟩⟩
 obtain⟨g1,g2,_,g4,g5,g6⟩:=fC
 exact I'.turned (t':=s'.toks) (fun b o hb e=>(hs'.2 b hb).trans e) g1 g2 g4 g5 g6
end
end L2
namespace Kn
section
variable {α:Type}
theorem m9{zs:List α}{nb:α->List α}{R:α->α->Prop}(g:Kgr zs nb R):zg nb (bj zs R) (bj zs R).length:=nM g (le_refl _)
open Classical in
theorem qC {zs:List α} {nb:α->List α} {R:α->α->Prop} (g:Kgr zs nb R) {k:List α}:k∈p8 zs nb R↔k∈bj zs R:=by
 have r:=m9 g
 refine⟨r.sub k,fun hk=>?_⟩
 apply Classical.byContradiction
 intro hn
 have h:left (bj zs R) (run nb (bj zs R) (bj zs R).length)=[]:=(zq (CW g) r (le_refl _)).mpr rfl
 have:k∈left (bj zs R) (run nb (bj zs R) (bj zs R).length):=mem_filter.mpr ⟨hk,decide_eq_true hn⟩
 rw[h]at this
 cases this
theorem Ho{zs:List α}{nb:α->List α}{R:α->α->Prop}(g:Kgr zs nb R){k l:List α}{x:α}(hk:k∈bj zs R)(hl:l∈bj zs R)(h1:x∈k)(h2:x∈l):k=l:=by
 obtain⟨z,_,rfl⟩:=(je g).mp hk
 obtain⟨y,_,rfl⟩:=(je g).mp hl
 rw[<- qw g h1,<- qw g h2]
theorem KN{zs:List α}{nb:α->List α}{R:α->α->Prop}(g:Kgr zs nb R){ks:List (List α)}(hn:ks.Nodup)(hs:∀ k∈ks,k∈bj zs R):ks.flatten.Nodup:=by
 refine List.pairwise_flatten.mpr ⟨fun k hk=>?_,?_⟩
 ·obtain⟨z,_,rfl⟩:=(je g).mp (hs k hk)
  exact g.nd.filter _
 ·refine imp_of_mem (fun{k l} hk hl hne x hx y hy e=>?_) hn
  subst e
  exact hne (Ho g (hs k hk) (hs l hl) hx hy)
theorem Jg{zs:List α}{nb:α->List α}{R:α->α->Prop}(g:Kgr zs nb R):(p8 zs nb R).flatten.Perm zs:=by
 have r:=m9 g
 refine(List.perm_ext_iff_of_nodup (KN g r.nd r.sub) g.nd).mpr fun x=>⟨fun h=>?_,fun h=>?_⟩
 ·obtain⟨k,hk,hx⟩:=mem_flatten.mp h
  obtain⟨z,_,rfl⟩:=(je g).mp (r.sub k hk)
  exact(cN.mp hx).1
 ·exact mem_flatten.mpr ⟨_,(qC g).mpr ((je g).mpr ⟨x,h,rfl⟩),iT h⟩
theorem Km{zs:List α}{nb:α->List α}{R:α->α->Prop}(g:Kgr zs nb R){i:Nat}(h:i<(bj zs R).length):may nb (run nb (bj zs R) i).flatten (nxt nb (bj zs R) (run nb (bj zs R) i)):=by
 obtain⟨t,e⟩:=qP g (nM g (le_of_lt h)) h
 have hm:nxt nb (bj zs R) (run nb (bj zs R) i)∈cand nb (bj zs R) (run nb (bj zs R) i):=by rw[e];simp
 exact(yR.mp hm).2.2
theorem IV{nb:α->List α}{ks:List (List α)}{i:Nat}:(run nb ks (i+1)).flatten=(run nb ks i).flatten++nxt nb ks (run nb ks i):=by
 show(run nb ks i++[_]).flatten=_
 rw[List.flatten_append]
 simp
theorem uY{zs:List α}{nb:α->List α}{R:α->α->Prop}(g:Kgr zs nb R):∀ {i:Nat},i<=(bj zs R).length->∀ x∈(run nb (bj zs R) i).flatten,∀ y∈nb x,y∈(run nb (bj zs R) i).flatten
 | 0,_,x,hx,_,_=>by cases hx
 | i+1,h,x,hx,y,hy=>by
  rw[IV]at hx ⊢
  rcases mem_append.mp hx with hx|hx
  ·exact mem_append_left _ (uY g (le_of_succ_le h) x hx y hy)
  ·rcases Km g h x hx y hy with k|k
   ·exact mem_append_right _ k
   ·exact mem_append_left _ k
theorem uG{zs:List α}{nb:α->List α}{R:α->α->Prop}(g:Kgr zs nb R):∀ {n i:Nat},i<=n->n<=(bj zs R).length->(run nb (bj zs R) n).take i=run nb (bj zs R) i
 | 0,0,_,_=>rfl
 | n+1,i,h,hn=>by
  rcases lt_or_ge i (n+1)with z|z
  ·show(run nb (bj zs R) n++[_]).take i=_
   rw[List.take_append_of_le_length (by rw[(nM g (le_of_succ_le hn)).len];omega)]
   exact uG g (Nat.le_of_lt_succ z) (le_of_succ_le hn)
  ·obtain rfl:i=n+1:=by omega
   exact List.take_of_length_le (by rw[(nM g hn).len];exact le_refl _)
theorem Jq{zs:List α}{nb:α->List α}{R:α->α->Prop}(g:Kgr zs nb R){i j:Nat}{l:List α}{y:α}(hij:i<=j)(hl:(p8 zs nb R)[j]? = some l)(hy:y∈l):y∉(run nb (bj zs R) i).flatten:=fun h=>by
 have r:=m9 g
 obtain⟨k,hk,hyk⟩:=mem_flatten.mp h
 have hjn:j<(bj zs R).length:=by have:=(List.getElem?_eq_some_iff.mp hl).1;unfold p8 at this;rwa [r.len]at this
 rw[<- uG g (le_trans hij (le_of_lt hjn)) (le_refl _)]at hk
 obtain⟨m,hm,em⟩:=getElem_of_mem hk
 have hmi:m<i:=lt_of_lt_of_le hm (length_take_le i _)
 have e1:(p8 zs nb R)[m]? = some k:=by
  have:=getElem?_eq_getElem hm
  rw[em,getElem?_take]at this
  rw[if_pos hmi]at this
  exact this
 have e:k=l:=Ho g (r.sub k (mem_of_getElem? e1)) (r.sub l (mem_of_getElem? hl)) hyk hy
 subst e
 have:=(getElem?_inj (List.getElem?_eq_some_iff.mp e1).1 r.nd).mp (e1.trans hl.symm)
 omega
theorem PB{zs:List α}{nb:α->List α}{R:α->α->Prop}(g:Kgr zs nb R){i:Nat}{k:List α}{x:α}(hk:(p8 zs nb R)[i]? = some k)(hx:x∈k):x∈(run nb (bj zs R) (i+1)).flatten:=by
 have r:=m9 g
 have hi:i<(bj zs R).length:=by have:=(List.getElem?_eq_some_iff.mp hk).1;unfold p8 at this;rwa [r.len]at this
 refine mem_flatten.mpr ⟨k,?_,hx⟩
 rw[<- uG g (n:=(bj zs R).length) (i:=i+1) hi (le_refl _)]
 exact mem_of_getElem? (i:=i) (by rw[getElem?_take,if_pos (lt_succ_self i)];exact hk)
structure Iso(zs zs':List α)(nb nb':α->List α)(R R':α->α->Prop)(f:α):Prop where
 g:Kgr zs nb R
 g':Kgr zs' nb' R'
 hf:f∈zs'
 hz:∀ p:α->Bool,p f=false->zs'.filter p=zs.filter p
 hm:∀ z,z∈zs'↔z=f\/z∈zs
 nf:f∉zs
 hn:∀ z∈zs,nb' z=nb z
 n0:nb' f=[]
 hR:∀ z∈zs,∀ y,R' z y↔R z y
 r0:∀ y,¬R' f y
 rf:∀ z∈zs,¬R z f
variable {zs zs':List α} {nb nb':α->List α} {R R':α->α->Prop} {f:α}
theorem Iso.kn_f(I:Iso zs zs' nb nb' R R' f):∀ {x},x∈knot zs' R' f↔x=f:=fun{x}=>by
 rw[cN]
 refine⟨fun h=>h.2.elim id fun k=>absurd k.1 (I.r0 _),fun h=>⟨by rw[h];exact I.hf,.inl h⟩⟩
theorem Ie{l:List α}(hn:l.Nodup)(h:∀ {x},x∈l↔x=f):l=[f]:=by
 cases l with
 | nil=>exact absurd (h.mpr rfl) Z2
 | cons a t =>
  obtain rfl:a=f:=h.mp Z2
  cases t with
  | nil=>rfl
  | cons b u =>
   obtain rfl:b=a:=h.mp Z2
   exact absurd hn Z2
theorem Iso.kn1(I:Iso zs zs' nb nb' R R' f):knot zs' R' f=[f]:=Ie (I.g'.nd.filter _) I.kn_f
theorem Iso.kn(I:Iso zs zs' nb nb' R R' f){z:α}(h:z∈zs):knot zs' R' z=knot zs R z:=by
 have hzf:f≠z:=fun e=>I.nf (e▸h)
 unfold knot
 rw[I.hz _ (eq_false_iff.mpr fun k=>by
  rcases lV.mp k with k|⟨k,_⟩
  ·exact hzf k
  ·exact I.rf z h ((I.hR z h f).mp k))]
 refine filter_congr fun x hx=>Bool.eq_iff_iff.mpr (lV.trans (Iff.trans ?_ lV.symm))
 rw[I.hR z h,I.hR x hx]
theorem Iso.kn_ne(I:Iso zs zs' nb nb' R R' f){z:α}(h:z∈zs):knot zs R z≠[f]:=fun e=>by
 have:=iT (R:=R) h
 rw[e,mem_singleton]at this
 exact I.nf (this▸h)
open Classical in
theorem Iso.ks (I:Iso zs zs' nb nb' R R' f):(bj zs' R').filter (fun k=>!decide (k=[f]))=bj zs R:=by
 unfold bj
 rw[filter_map,filter_filter]
 have e:zs'.filter (fun a=>((fun k=>!decide (k=[f]))∘knot zs' R') a&&isF zs' R' a)=zs.filter (isF zs R):=by
  rw[I.hz _ (by show(!decide (knot zs' R' f=[f])&&_)=false;rw[I.kn1,decide_eq_true rfl];rfl)]
  refine filter_congr fun z hz=>?_
  show(!decide (knot zs' R' z=[f])&&isF zs' R' z)=isF zs R z
  rw[I.kn hz,decide_eq_false (I.kn_ne hz)]
  unfold isF
  rw[I.kn hz]
  rfl
 rw[e]
 exact List.map_congr_left fun z hz=>I.kn (mem_filter.mp hz).1
theorem Iso.one(I:Iso zs zs' nb nb' R R' f):[f]∈p8 zs' nb' R':=(qC I.g').mpr ((je I.g').mpr ⟨f,I.hf,I.kn1.symm⟩)
open Classical in
theorem Iso.flat (I:Iso zs zs' nb nb' R R' f) {dn:List (List α)} {y:α} (h:y≠f):y∈(dn.filter fun k=>!decide (k=[f])).flatten↔y∈dn.flatten:=by
 rw[mem_flatten,mem_flatten]
 constructor
 ·rintro⟨k,hk,hy⟩
  exact⟨k,(mem_filter.mp hk).1,hy⟩
 ·rintro⟨k,hk,hy⟩
  refine⟨k,mem_filter.mpr ⟨hk,?_⟩,hy⟩
  rw[decide_eq_false fun e=>h (by rw[e]at hy;exact mem_singleton.mp hy)]
  rfl
open Classical in
theorem Iso.cand (I:Iso zs zs' nb nb' R R' f) (dn:List (List α)):(Kn.cand nb' (bj zs' R') dn).filter (fun k=>!decide (k=[f]))=Kn.cand nb (bj zs R) (dn.filter fun k=>!decide (k=[f])):=by
 unfold Kn.cand
 rw[<- I.ks,filter_filter,filter_filter]
 refine filter_congr fun k hk=>?_
 by_cases e:k=[f]
 ·rw[decide_eq_true e]
  simp
 ·rw[decide_eq_false e]
  have hks:k∈bj zs R:=by rw[<- I.ks];exact mem_filter.mpr ⟨hk,by rw[decide_eq_false e];rfl⟩
  obtain⟨z,hz,rfl⟩:=(je I.g).mp hks
  show(true&&_)=(_&&true)
  rw[Bool.true_and,Bool.and_true]
  refine decide_eq_decide.mpr (and_congr ?_ ?_)
  ·rw[mem_filter,decide_eq_false e]
   simp
  ·refine forall_congr' fun a=>forall_congr' fun ha=>?_
   have haz:=(cN.mp ha).1
   rw[I.hn a haz]
   refine forall_congr' fun y=>forall_congr' fun hy=>?_
   have hyf:y≠f:=fun k=>I.nf (k▸I.g.cl a haz y hy)
   rw[I.flat hyf]
open Classical in
theorem Iso.run (I:Iso zs zs' nb nb' R R' f):∀ {i:Nat},i<=(bj zs' R').length->∃ j,(Kn.run nb' (bj zs' R') i).filter (fun k=>!decide (k=[f]))=Kn.run nb (bj zs R) j
 | 0,_=>⟨0,rfl⟩
 | i+1,h=>by
  obtain⟨j,e⟩:=I.run (le_of_succ_le h)
  have er:Kn.run nb' (bj zs' R') (i+1)=Kn.run nb' (bj zs' R') i++[nxt nb' (bj zs' R') (Kn.run nb' (bj zs' R') i)]:=rfl
  rw[er,filter_append,e]
  obtain⟨t,ec⟩:=qP I.g' (nM I.g' (le_of_succ_le h)) h
  by_cases k:nxt nb' (bj zs' R') (Kn.run nb' (bj zs' R') i)=[f]
  ·exact⟨j,by rw[k];simp⟩
  ·refine⟨j+1,?_⟩
   have hc:=I.cand (Kn.run nb' (bj zs' R') i)
   rw[ec,e,filter_cons,if_pos (by rw[decide_eq_false k];rfl)]at hc
   have hn:nxt nb (bj zs R) (Kn.run nb (bj zs R) j)=nxt nb' (bj zs' R') (Kn.run nb' (bj zs' R') i):=by
    unfold nxt at hc ⊢
    rw[<- hc]
    rfl
   show _=Kn.run nb (bj zs R) j++[_]
   rw[hn,filter_cons,if_pos (by rw[decide_eq_false k];rfl)]
   rfl
theorem Cu{ks:List (List α)}:∀ j,(run nb ks j).length=j
 | 0=>rfl
 | j+1=>by
  show(run nb ks j++[_]).length=_
  rw[length_append,Cu j]
  rfl
open Classical in
theorem Iso.ord (I:Iso zs zs' nb nb' R R' f):(p8 zs' nb' R').filter (fun k=>!decide (k=[f]))=p8 zs nb R:=by
 obtain⟨j,e⟩:=I.run (le_refl _)
 have hp:(p8 zs' nb' R').Perm (bj zs' R'):=(List.perm_ext_iff_of_nodup (m9 I.g').nd (CW I.g')).mpr fun k=>qC I.g'
 have hl:=(hp.filter (fun k=>!decide (k=[f]))).length_eq
 rw[I.ks]at hl
 have e':(p8 zs' nb' R').filter (fun k=>!decide (k=[f]))=Kn.run nb (bj zs R) j:=e
 rw[e',Cu]at hl
 rw[e',hl]
 rfl
end
end Kn
namespace L2
open PySem PySem.Spec PyProof.Rows
theorem aZ{N P:List Str}{s:Scope}(a:s.kind=.function:=by rfl)(b:s.isCoroutine=false:=by rfl)(c:s.isGenerator=false:=by rfl)(d:N.Nodup:=by decide +kernel)(e:N.take P.length=P:=by rfl)(f:∀ x∈P,s.names.lookup x=some .local\/s.names.lookup x=some .cell:=by decide +kernel)(g:∀ y∈s.names,y.2≠.free:=by decide +kernel):aJ N P s:=⟨a,b,c,d,e,f,g⟩
section
variable {P:Program} {w:World} {K:Frag} {mg:Str->Option Value} {base:Heap} {C:Nat->Addr} {f:Addr} {fd:FuncData}
theorem Fun.oq {x qual:Str} {st:Stmt} {f:Addr} {fd:FuncData} {N ps:List Str} {k:Nat} {sp:Sp} (F:Fun K x qual st f fd) (S:aJ N ps (aC st))
 (hbody:∀ (cdv:Value) (A:Around) (outer:List Env) (s:Shared) (H:Hp) (vs:List V) (Q:VK) (E:XK),aP k (A.deeper (envOfC qual (aC st) s.heap.objs.size f cdv))->sp vs H Q E->∃ t,PSs (pO CX0 P w K mg base N qual (aC st) f cdv A outer s H E).nox (b7 st) t/\t {nx:=fun _ H'=>Q .non H',rt:=Q} (start N vs) H)
 (len:∀ vs H Q E,sp vs H Q E->vs.length=ps.length:=by intro vs H Q E h;repeat (first|(obtain⟨rfl,_⟩:=h;rfl)|obtain⟨_,h⟩:=h)):aK P w K mg base CX0 (k+1) f fd ps sp:=F.ok S len hbody
theorem Fun.oqX {x qual:Str} {st:Stmt} {f:Addr} {fd:FuncData} {N ps:List Str} {k:Nat} {sp:Sp} (F:Fun K x qual st f fd) (S:aJ N ps (aC st))
 (hbody:∀ (cdv:Value) (A:Around) (outer:List Env) (s:Shared) (H:Hp) (vs:List V) (Q:VK) (E:XK),aP k (A.deeper (envOfC qual (aC st) s.heap.objs.size f cdv))->sp vs H Q E->∃ t,PSs (pO (CX1 P w) P w K mg base N qual (aC st) f cdv A outer s H E) (b7 st) t/\t {nx:=fun _ H'=>Q .non H',rt:=Q} (start N vs) H)
 (len:∀ vs H Q E,sp vs H Q E->vs.length=ps.length:=by intro vs H Q E h;repeat (first|(obtain⟨rfl,_⟩:=h;rfl)|obtain⟨_,h⟩:=h)):aK P w K mg base (CX1 P w) (k+1) f fd ps sp:=F.okX S len hbody
end
end L2
namespace Mine
open PySem PySem.Spec PyProof.Rows L2 Kn
theorem dO(zs:List Str):(zs.map V.str).all dm=true:=by
 rw[all_eq_true];intro v hv;obtain⟨z,_,rfl⟩:=mem_map.mp hv;rfl
theorem oZ:((".": Str)).length<=1:=by decide +kernel
def top(i:Nat):Stmt:=pw_drawhouse_k37_whole_knots.main.body.getD i (.Pass ⟨0,0,0,0⟩)
def JB:Stmt->List Stmt
 | .ClassDef _ _ _ b _ _ _ _ _ _ _=>b
 | _=>[]
abbrev sb(i j:Nat):Stmt:=(JB (top i)).getD j (.Pass ⟨0,0,0,0⟩)
abbrev jh:Stmt:=sb 7 0
abbrev lA:Stmt:=top 9
abbrev ju:Stmt:=top 10
abbrev mj:Stmt:=top 20
abbrev iK:Stmt:=top 24
abbrev tG:Stmt:=top 21
abbrev jB:Stmt:=top 22
abbrev oA:Stmt:=top 23
abbrev tW:Stmt:=top 25
abbrev gC:Stmt:=top 26
abbrev oF:Stmt:=top 28
abbrev lZ:Stmt:=top 29
abbrev lU:Stmt:=top 30
abbrev tD:Stmt:=top 31
abbrev jo:Stmt:=top 34
abbrev lD:Stmt:=top 35
abbrev gQ:Stmt:=top 36
abbrev gJ:Stmt:=sb 12 0
abbrev gP:Stmt:=sb 12 1
abbrev dG:Stmt:=sb 13 0
abbrev gF:Stmt:=sb 13 1
abbrev dj:Stmt:=sb 14 0
abbrev fX:Stmt:=sb 14 1
abbrev c7:Stmt:=sb 15 0
abbrev fu:Stmt:=sb 15 1
abbrev fQ:Stmt:=sb 15 2
abbrev cZ:Stmt:=sb 16 0
abbrev fV:Stmt:=sb 16 1
abbrev fB:Stmt:=sb 16 2
abbrev cT:Stmt:=sb 17 0
abbrev fG:Stmt:=sb 17 1
abbrev fL:Stmt:=sb 17 2
abbrev cR:Stmt:=sb 18 0
abbrev cL:Stmt:=sb 37 0
abbrev cC:Stmt:=sb 37 1
abbrev gH:Stmt:=sb 37 2
abbrev fM:Stmt:=sb 37 3
abbrev cD:Stmt:=sb 37 4
abbrev cX:Stmt:=sb 39 0
abbrev fc:Stmt:=sb 39 1
abbrev lF:Stmt:=top 41
abbrev lK:Stmt:=top 42
abbrev jm:Stmt:=top 43
abbrev dX:Stmt:=top 44
abbrev jz:Stmt:=top 46
abbrev jC:Stmt:=top 47
abbrev lY:Stmt:=top 48
abbrev n8:Stmt:=top 49
abbrev jl:Stmt:=top 50
abbrev lE:Stmt:=top 51
abbrev fY:Stmt:=top 45
abbrev iM:Stmt:=top 52
abbrev iG:Stmt:=top 53
abbrev cM:Stmt:=top 54
abbrev Ik:Stmt:=top 55
def qt(ns:List Int)(k:Int):Int:=if k<(ns.length:Int)then Builtin.bitAnd (ns.getD k.toNat 0) (1*2 ^ (4400:Int).toNat - 1)else 0
def xP(K:Frag):Sp:=fun vs H Q _=>∃ (a:Addr) (ns:List Int) (k:Int),vs=[.ref a,.int k]/\SqL K H a (ns.map V.int)/\0<=k/\Pur (.int (qt ns k)) H Q
section
variable {P:Program} {w:World} {K:Frag} {mg:MG} {base:Heap}
abbrev uz:List Str:=["_law_script", "_law_k"]
theorem Mh:aJ ["_law_script", "_law_k"] uz (aC lF):=aZ
theorem Dn{f:Addr}{fd:FuncData}(F:Fun K "_law_cell" "_law_cell" lF f fd)(hlen:mg "len" = none):aK P w K mg base CX0 1 f fd uz (xP K):=by
 refine F.oq Mh fun _ _ _ _ H _ Q E hr h=>?_
 ·obtain⟨a,ns,k,rfl,hS,h0,q⟩:=h
  refine⟨_,gY (Iw (aH za (pv 1) (bc aW Z3 hlen boot_len (ak (pv 0) aq)) (aQ _))
    (qJ (uC (aV Jh (bL bu (pv 0) (pv 1)) (aV Gg (aV M8 aB aB) aB)))) wN)
   (qJ (uC aB)),?_⟩
  refine⟨_,rfl,_,rfl,a,_,rfl,.inl hS,_,_,rfl,rfl,_,rfl,?_⟩
  rw[length_map]
  refine fZ (fun hk=>?_) (fun hk=>?_)
  ·have hk2:ns[k.toNat]? = some (ns.getD k.toNat 0):=by
    rw[List.getD_eq_getElem?_getD,getElem?_eq_getElem Z1]
    rfl
   have hk3:(ns.map V.int)[k.toNat]? = some (V.int (ns.getD k.toNat 0)):=by rw[getElem?_map,hk2];rfl
   have hat:atI (ns.map V.int) k=some (V.int (ns.getD k.toNat 0)):=by
    have:=bK hk3
    rwa [show((k.toNat:Nat):Int)=k from by omega]at this
   refine⟨_,rfl,_,rfl,a,_,_,_,rfl,rfl,hS,hat,_,_,rfl,rfl,⟨Z0,Z0,Z0⟩,_,_,rfl,rfl,_,_,rfl,rfl,?_⟩
   have e:qt ns k=Builtin.bitAnd (ns.getD k.toNat 0) (1*2 ^ (4400:Int).toNat - 1):=if_pos hk
   have q':=q H (az.refl H)
   rw[e]at q'
   exact q'
  ·have e:qt ns k=0:=if_neg hk
   have q':=q H (az.refl H)
   rw[e]at q'
   exact q'
abbrev mz:List Str:=["_law_cell_here", "_law_k", "_law_many"]
theorem qZ:aJ ["_law_cell_here", "_law_k", "_law_many", "_law_great", "_law_by", "_law_one"] mz (aC lK):=aZ
theorem oG{f:Addr}{fd:FuncData}(F:Fun K "_law_pick" "_law_pick" lK f fd):aK P w K mg base CX0 1 f fd mz pB:=by
 refine F.oq qZ fun _ _ _ _ H _ Q E hr h=>?_
 ·obtain⟨c,k,m,rfl,h0,h1,hm,q⟩:=h
  refine⟨_,gY (Iw (uZ (aH dI (aV lO (pv 0) aB) aB (aQ _)) (tM (aH zO (aV Je (pv 0) aB) aB (aQ _)))).pt
    (qJ (uC (aV lO (aV Jh (aV Je (pv 0) (aV d9 aB (aV pM aB (pv 1)))) aB) (pv 2)))) wN)
   (gY (pX (i:=3) qZ.nd rfl (Or.inl rfl) aB)
   (gY (pX (i:=4) qZ.nd rfl (Or.inl rfl) (bL bu (bF (ak aB (ak aB (ak aB (ak aB (ak aB (ak aB (ak aB (ak aB aq))))))))) (aV lO (pv 1) aB)))
   (gY (pX (i:=4) qZ.nd rfl (Or.inl rfl) (aV pM (pv 4) (bL bu (bF (ak aB (ak aB (ak aB (ak aB (ak aB aq)))))) (aV tV (pv 1) aB))))
   (gY (pX (i:=5) qZ.nd rfl (Or.inl rfl) (aV lO (aV pM (aV d9 (aV lO (aV tV (pv 0) aB) (pv 3)) aB) (pv 4)) (pv 3)))
   (gY (pX (i:=5) qZ.nd rfl (Or.inl rfl) (aV lO (aV pM (pv 5) (pv 5)) aB))
   (qJ (uC (aV lO (aV tV (aV lO (aV pM (aV d9 (aV d9 (pv 5) (pv 1)) aB) (aV d9 (aV tV (pv 5) aB) aB)) aB) aB) (pv 2))))))))),?_⟩
  obtain⟨t1,t2,t3⟩:=JX (k:=k%8) Z1 Z1
  obtain⟨u1,u2,u3⟩:=JG (k:=k / 8) Z1 Z1
  have a8:atI (qm.map V.int) (k%8)=some (V.int (qm.getD (k%8).toNat 0)):=by
   have:=bK (xs:=qm.map V.int) (j:=(k%8).toNat) (by rw[getElem?_map,t1];rfl)
   rwa [show(((k%8).toNat:Nat):Int)=k%8 from by omega]at this
  have a5:atI (qL.map V.int) (k / 8)=some (V.int (qL.getD (k / 8).toNat 0)):=by
   have:=bK (xs:=qL.map V.int) (j:=(k / 8).toNat) (by rw[getElem?_map,u1];rfl)
   rwa [show(((k / 8).toNat:Nat):Int)=k / 8 from by omega]at this
  have g1:=JD c k
  have g2:=JQ c k
  have g3:=Kg c k
  have g4:=JM c k
  have ms:=Fq t2 t3 u2 u3
  refine⟨_,rfl,_,_,rfl,rfl,(by show(0:Int)<2;decide),rfl,_,rfl,?_⟩
  refine OJ (fun hA=>?_) (fun hA=>?_)
  ·refine⟨_,rfl,_,_,rfl,rfl,(by show(0:Int)<=400;decide),_,_,rfl,rfl,_,rfl,?_⟩
   refine fZ (fun hB=>?_) (fun hB=>?_)
   ·have e:pick c k m=K8 c k m:=if_pos ⟨hA,hB⟩
    have q':=q H (az.refl H)
    rw[e]at q'
    exact⟨_,rfl,_,rfl,_,_,rfl,rfl,.inl ⟨Z0,Z0⟩,_,_,rfl,rfl,_,_,rfl,rfl,(by show(0:Int)<=1+10*k;omega),_,_,rfl,rfl,_,rfl,_,_,rfl,rfl,hm,q'⟩
   ·have e:pick c k m=FQ c k m:=if_neg fun z=>hB z.2
    refine⟨by show 8<=sizeLine;decide,fun p hp=>?_⟩
    refine⟨_,rfl,_,_,rfl,rfl,(by show(0:Int)<8;decide),p,qm.map V.int,_,_,rfl,rfl,SqL.of ao,a8,?_⟩
    refine⟨_,rfl,(by show 5<=sizeLine;decide),fun p2 hp2=>?_⟩
    refine⟨_,rfl,_,_,rfl,rfl,⟨Z0,Z0⟩,p2,qL.map V.int,_,_,rfl,rfl,SqL.of ao,a5,_,_,rfl,rfl,.inl ⟨Z1,Z1⟩,?_⟩
    refine⟨_,rfl,_,_,rfl,rfl,⟨Z0,Z0⟩,_,rfl,_,_,rfl,rfl,(by show(0:Int)<2305843009213693951;decide),_,_,rfl,rfl,_,rfl,_,_,rfl,rfl,.inr ⟨Z1,Z1⟩,_,rfl,_,_,rfl,rfl,(by show(0:Int)<2305843009213693951;decide),?_⟩
    refine⟨_,rfl,_,rfl,_,_,rfl,rfl,.inl ⟨(by show -(2 ^ 64)<yD c k;omega),(by show yD c k<2 ^ 64;omega)⟩,_,_,rfl,rfl,(by show(0:Int)<1000000000039;decide),?_⟩
    refine⟨_,rfl,_,rfl,_,_,rfl,rfl,_,_,rfl,rfl,_,rfl,_,_,rfl,rfl,⟨Z0,Z0⟩,_,_,rfl,rfl,_,_,rfl,rfl,.inl ⟨(by show -(2 ^ 64)<yH c k+k+1;omega),(by show yH c k+k+1<2 ^ 64;omega)⟩,_,_,rfl,rfl,(by show(0:Int)<67280421310721;decide),_,_,rfl,rfl,⟨Z0,Z0⟩,_,rfl,_,_,rfl,rfl,hm,?_⟩
    rw[e]at q
    exact q _ ((az.new hp).put hp2)
  ·refine oO ?_
   have e:pick c k m=FQ c k m:=if_neg fun z=>hA z.1
   refine⟨by show 8<=sizeLine;decide,fun p hp=>?_⟩
   refine⟨_,rfl,_,_,rfl,rfl,(by show(0:Int)<8;decide),p,qm.map V.int,_,_,rfl,rfl,SqL.of ao,a8,?_⟩
   refine⟨_,rfl,(by show 5<=sizeLine;decide),fun p2 hp2=>?_⟩
   refine⟨_,rfl,_,_,rfl,rfl,⟨Z0,Z0⟩,p2,qL.map V.int,_,_,rfl,rfl,SqL.of ao,a5,_,_,rfl,rfl,.inl ⟨Z1,Z1⟩,?_⟩
   refine⟨_,rfl,_,_,rfl,rfl,⟨Z0,Z0⟩,_,rfl,_,_,rfl,rfl,(by show(0:Int)<2305843009213693951;decide),_,_,rfl,rfl,_,rfl,_,_,rfl,rfl,.inr ⟨Z1,Z1⟩,_,rfl,_,_,rfl,rfl,(by show(0:Int)<2305843009213693951;decide),?_⟩
   refine⟨_,rfl,_,rfl,_,_,rfl,rfl,.inl ⟨(by show -(2 ^ 64)<yD c k;omega),(by show yD c k<2 ^ 64;omega)⟩,_,_,rfl,rfl,(by show(0:Int)<1000000000039;decide),?_⟩
   refine⟨_,rfl,_,rfl,_,_,rfl,rfl,_,_,rfl,rfl,_,rfl,_,_,rfl,rfl,⟨Z0,Z0⟩,_,_,rfl,rfl,_,_,rfl,rfl,.inl ⟨(by show -(2 ^ 64)<yH c k+k+1;omega),(by show yH c k+k+1<2 ^ 64;omega)⟩,_,_,rfl,rfl,(by show(0:Int)<67280421310721;decide),_,_,rfl,rfl,⟨Z0,Z0⟩,_,rfl,_,_,rfl,rfl,hm,?_⟩
   rw[e]at q
   exact q _ ((az.new hp).put hp2)
end
abbrev f9:List Str:=["self", "address"]
theorem Bb:aJ ["self", "address"] f9 (aC jh):=aZ
abbrev jA:List Str:=["address"]
theorem rQ:aJ ["address", "names"] jA (aC lA):=aZ
abbrev iu:List Str:=["address"]
theorem yS:aJ ["address"] iu (aC ju):=aZ
abbrev lu:List Str:=["row"]
theorem pF:aJ ["row", "named", "address"] lu (aC mj):=aZ
abbrev fK:List Str:=["house", "address"]
theorem wX:aJ ["house", "address"] fK (aC iK):=aZ
abbrev ie:List Str:=["house", "address"]
theorem qQ:aJ ["house", "address", "part", "named", "row"] ie (aC tG):=aZ
abbrev eE:List Str:=["house"]
theorem m5:aJ ["house", "linked", "address"] eE (aC jB):=aZ
abbrev iU:List Str:=["linked", "address"]
theorem kZ:aJ ["linked", "address", "ahead", "found", "one"] iU (aC oA):=aZ
abbrev nR:List Str:=["house", "address"]
theorem Gx:aJ ["house", "address"] nR (aC tW):=aZ
abbrev dW:List Str:=["house", "one", "other"]
theorem cO:aJ ["house", "one", "other", "linked", "ways", "seen", "way", "address"] dW (aC gC):=aZ
abbrev nZ:List Str:=["led", "address"]
theorem EY:aJ ["led", "address"] nZ (aC oF):=aZ
abbrev lX:List Str:=["linked", "knot", "placed"]
theorem pU:aJ ["linked", "knot", "placed", "address", "one"] lX (aC lZ):=aZ
abbrev lW:List Str:=["linked", "left"]
theorem gw:aJ ["linked", "left", "told", "placed", "free", "address"] lW (aC lU):=aZ
abbrev qi:List Str:=["house"]
theorem mY:aJ ["house", "linked", "led", "address", "firsts"] qi (aC tD):=aZ
abbrev jq:List Str:=["part", "addresses"]
theorem rR:aJ ["part", "addresses", "parent"] jq (aC jo):=aZ
abbrev mC:List Str:=["part", "addresses"]
theorem zX:aJ ["part", "addresses"] mC (aC lD):=aZ
abbrev gM:List Str:=["parts"]
theorem gB:aJ ["parts", "addresses", "at", "part"] gM (aC gQ):=aZ
abbrev kW:List Str:=["self"]
theorem wU:aJ ["self"] kW (aC gJ):=aZ
abbrev kJ:List Str:=["self"]
theorem yl:aJ ["self"] kJ (aC gP):=aZ
abbrev jt:List Str:=["self", "name", "terms"]
theorem zL:aJ ["self", "name", "terms"] jt (aC dG):=aZ
abbrev lL:List Str:=["self"]
theorem wZ:aJ ["self"] lL (aC gF):=aZ
abbrev iH:List Str:=["self", "name", "terms"]
theorem wM:aJ ["self", "name", "terms"] iH (aC dj):=aZ
abbrev jF:List Str:=["self"]
theorem vy:aJ ["self"] jF (aC fX):=aZ
abbrev fO:List Str:=["self", "address", "name"]
theorem w6:aJ ["self", "address", "name"] fO (aC c7):=aZ
abbrev jK:List Str:=["self"]
theorem vp:aJ ["self"] jK (aC fu):=aZ
abbrev jO:List Str:=["self"]
theorem vz:aJ ["self"] jO (aC fQ):=aZ
abbrev iJ:List Str:=["self", "address", "name"]
theorem xF:aJ ["self", "address", "name"] iJ (aC cZ):=aZ
abbrev jH:List Str:=["self"]
theorem vd:aJ ["self"] jH (aC fV):=aZ
abbrev jM:List Str:=["self"]
theorem vf:aJ ["self"] jM (aC fB):=aZ
abbrev iC:List Str:=["self", "word", "address", "name"]
theorem xN:aJ ["self", "word", "address", "name"] iC (aC cT):=aZ
abbrev jG:List Str:=["self"]
theorem vG:aJ ["self"] jG (aC fG):=aZ
abbrev jJ:List Str:=["self"]
theorem vC:aJ ["self"] jJ (aC fL):=aZ
abbrev iB:List Str:=["self", "terms"]
theorem xg:aJ ["self", "terms"] iB (aC cR):=aZ
abbrev dR:List Str:=["self", "parts"]
theorem vg:aJ ["self", "parts"] dR (aC cL):=aZ
abbrev bZ:List Str:=["self"]
theorem pR:aJ ["self"] bZ (aC cC):=aZ
abbrev eU:List Str:=["self", "address"]
theorem wW:aJ ["self", "address"] eU (aC gH):=aZ
abbrev gO:List Str:=["self", "address"]
theorem o5:aJ ["self", "address", "part"] gO (aC fM):=aZ
abbrev cW:List Str:=["self", "part"]
theorem qu:aJ ["self", "part"] cW (aC cD):=aZ
abbrev fH:List Str:=["self", "address", "rows"]
theorem xT:aJ ["self", "address", "rows"] fH (aC cX):=aZ
abbrev gG:List Str:=["self"]
theorem o7:aJ ["self", "names"] gG (aC fc):=aZ
abbrev tE:List Str:=["_law_cell_here"]
theorem jw:aJ ["_law_cell_here", "_law_letters", "_law_base", "_law_size", "_law_at", "_law_first", "_law_head", "_law_tail"] tE (aC jm):=aZ
abbrev jk:List Str:=["_law_cell_here", "_law_many", "_law_words_here"]
theorem dw:aJ ["_law_cell_here", "_law_many", "_law_words_here", "_law_found", "_law_k", "_law_above", "_law_parent", "_law_address"] jk (aC dX):=aZ
abbrev tH:List Str:=["_law_cell_here", "_law_addresses_here", "_law_words_here"]
theorem yj:aJ ["_law_cell_here", "_law_addresses_here", "_law_words_here", "_law_address", "_law_word"] tH (aC jz):=aZ
abbrev tU:List Str:=["_law_cell_here", "_law_known", "_law_addresses_here", "_law_words_here"]
theorem kY:aJ ["_law_cell_here", "_law_known", "_law_addresses_here", "_law_words_here", "_law_sort", "_law_free", "_law_name", "_law_beneath", "_law_one"] tU (aC jC):=aZ
abbrev yh:List Str:=["_law_script", "_law_addresses_here", "_law_words_here"]
theorem nG:aJ ["_law_script", "_law_addresses_here", "_law_words_here", "_law_rows_here", "_law_address", "_law_k", "_law_cell_here", "_law_owner", "_law_known"] yh (aC lY):=aZ
abbrev Ck:List Str:=["_law_row_here"]
theorem uI:aJ ["_law_row_here", "_law_sort", "_law_name", "_law_address", "_law_word", "_law_terms"] Ck (aC n8):=aZ
abbrev sZ:List Str:=["_law_addresses_here", "_law_rows_here"]
theorem Kq:aJ ["_law_addresses_here", "_law_rows_here"] sZ (aC jl):=aZ
abbrev yC:List Str:=["_law_script"]
theorem um:aJ ["_law_script", "_law_words_here", "_law_many", "_law_addresses_here"] yC (aC lE):=aZ
abbrev my:List Str:=["_law_address"]
theorem tZ:aJ ["_law_address", "_law_names"] my (aC fY):=aZ
abbrev ql:List Str:=["_law_house", "_law_found", "_law_one", "_law_other"]
theorem zy:aJ ["_law_house", "_law_found", "_law_one", "_law_other", "_law_k"] ql (aC iM):=aZ
abbrev qI:List Str:=["_law_house", "_law_knot"]
theorem uB:aJ ["_law_house", "_law_knot", "_law_one", "_law_other"] qI (aC iG):=aZ
abbrev gK:List Str:=["_law_house", "_law_addresses_here"]
theorem dM:aJ ["_law_house", "_law_addresses_here", "_law_one", "_law_due", "_law_other"] gK (aC cM):=aZ
abbrev K9:List Str:=["_law_script"]
theorem eG:aJ ["_law_script", "_law_words_here", "_law_addresses_here", "_law_rows_here", "_law_house", "_law_told", "_law_flat", "_law_knot", "_law_k", "_law_later", "_law_one", "_law_named", "_law_some", "_law_fresh", "_law_near", "_law_more", "_law_wider"] K9 (aC Ik):=aZ
section
variable {P:Program} {w:World} {K:Frag} {mg:MG} {base:Heap}
def Dv(K:Frag):Sp:=fun vs H Q _=>∃ (a:Addr) (ns:List Int),vs=[.ref a]/\SqL K H a (ns.map V.int)/\ns.length<=63/\∀ H',Q (.bl true) H'
theorem dY:1000<=sizeLine:=by decide
def ye(C:Nat->Addr)(i:Nat):Sp:=fun vs H Q _=>∃ (x dx:Addr) (r:cu) (d:Addr),vs=[.ref x,.str r.nm,.ref d]/\r.so=i/\H x=some (.ins (C i) dx [])/\mU H d r.ts/\r.ts.length<=10 /\
 ∀ l H',H l=none->SameBut x H H'->dU C H' x l r->Q .non H'
def uo(C:Nat->Addr)(i:Nat):Sp:=fun vs H Q _=>∃ (x dx:Addr) (r:cu),vs=[.ref x,.str r.ad,.str r.nm]/\r.so=i/\H x=some (.ins (C i) dx [])/\∀ H',SameBut x H H'->(∀ l,dU C H' x l r)->Q .non H'
def Hr(C:Nat->Addr):Sp:=fun vs H Q _=>∃ (x dx:Addr) (r:cu),vs=[.ref x,.str r.wd,.str r.ad,.str r.nm]/\r.so=4/\H x=some (.ins (C 4) dx [])/\∀ H',SameBut x H H'->(∀ l,dU C H' x l r)->Q .non H'
def Jp(C:Nat->Addr):Sp:=fun vs H Q _=>∃ (x dx:Addr) (r:cu) (d:Addr),vs=[.ref x,.ref d]/\r.so=5/\H x=some (.ins (C 5) dx [])/\mU H d r.ts/\r.ts.length<=10 /\
 ∀ l H',H l=none->SameBut x H H'->dU C H' x l r->Q .non H'
def Iu:Sp:=fun vs H Q _=>∃ v:V,vs=[v]/\Pur (.str "") H Q
def wK:Sp:=fun vs H Q _=>∃ v:V,vs=[v]/\∀ b H',H b=none->az H H'->H' b=some (.lst [])->Q (.ref b) H'
def spB(C:Nat->Addr)(i:Nat):Sp:=fun vs H Q _=>∃ (a l:Addr) (r:cu),vs=[.ref a]/\r.so=i/\dU C H a l r/\Pur (.str r.nm) H Q
def spA(C:Nat->Addr)(i:Nat):Sp:=fun vs H Q _=>∃ (a l:Addr) (r:cu),vs=[.ref a]/\r.so=i/\dU C H a l r/\∀ b H',H b=none->az H H'->H' b=some (.lst [.str r.ad])->Q (.ref b) H'
structure O5(K:Frag)(C:Nat->Addr):Prop where
 c:∀ i,i<=6->RCl K (C i)
 kit:∀ i j,i<=6->j<=6->kitOne K (.ref (C i)) (.ref (C j))=some (vA i j)
 nn:∀ i,i<=6->cQ K (C i) "name"
 nt:∀ i,i<=6->cQ K (C i) "terms"
 na:∀ i,i<=6->cQ K (C i) "address"
 nw:∀ i,i<=6->cQ K (C i) "word"
theorem tL{z:Str}(h:(decide (1<=z.length)&&decide (z.length<=8)&&z.cps.toList.all fun n=>decide (97<=n)&&decide (n<=122))=true):cB z:=by
 simp only[and_eq_true,decide_eq_true_eq,all_eq_true]at h
 exact⟨h.1.1,h.1.2,fun n hn=>h.2 n hn⟩
theorem Ob{xs:List V}{ys:List Str}(hl:ys.length=xs.length)(h:∀ (i:Nat) v,xs[i]? = some v->∃ z,ys[i]? = some z/\v=.str z):xs=ys.map V.str:=by
 apply ext_getElem?
 intro i
 rw[getElem?_map]
 cases e:xs[i]? with
 | none =>
  have e2:ys[i]? = none:=by
   rw[List.getElem?_eq_none_iff]at e ⊢
   omega
  rw[e2];rfl
 | some v =>
  obtain⟨z,ez,rfl⟩:=h i v e
  rw[ez];rfl
theorem Hi{xs:List V}(h:∀ (i:Nat) v,xs[i]? = some v->∃ z,v=V.str z/\cB z):∃ ys:List Str,ys.length=xs.length/\xs=ys.map V.str/\∀ y∈ys,cB y:=by
 obtain⟨ys,hyl,hys⟩:=iw (fun _ v z=>v=V.str z/\cB z) xs 0 (fun i v e=>h i v e)
 refine⟨ys,hyl,Ob hyl fun i v e=>?_,fun y hy=>?_⟩
 ·obtain⟨z,ez,rz,_⟩:=hys i v e
  exact⟨z,ez,rz⟩
 ·obtain⟨i,hi,e⟩:=getElem_of_mem hy
  have hx:xs[i]? = some (xs[i]'Z1):=getElem?_eq_getElem Z1
  obtain⟨z,ez,_,nz⟩:=hys i _ hx
  rw[getElem?_eq_getElem hi,e]at ez
  cases ez
  exact nz
theorem sF(i j:Nat)(h:vA i j=false:=by rfl)(hi:i<=5:=by decide)(hj:j<=5:=by decide):decide (V.str (mG i)=V.str (mG j))=false:=(Gm hi hj).trans h
theorem sT(i:Nat):decide (V.str (mG i)=V.str (mG i))=true:=decide_eq_true rfl
theorem six {n:Nat} (h:n <= 5):n = 0 \/ n = 1 \/ n = 2 \/ n = 3 \/ n = 4 \/ n = 5:=by
 cases n with
 | zero=>exact .inl rfl
 | succ n=>cases n with
  | zero=>exact .inr (.inl rfl)
  | succ n=>cases n with
   | zero=>exact .inr (.inr (.inl rfl))
   | succ n=>cases n with
    | zero=>exact .inr (.inr (.inr (.inl rfl)))
    | succ n=>cases n with
     | zero=>exact .inr (.inr (.inr (.inr (.inl rfl))))
     | succ n=>cases n with
      | zero=>exact .inr (.inr (.inr (.inr (.inr rfl))))
      | succ n=>exact absurd h Z1
theorem bB{H:Hp}{C x dx:Addr}(hx:H x=none)(hdx:H dx=none):az H (upd (upd H dx (.own x)) x (.ins C dx [])):=fun b o e=>by
 rw[aD (aF e hx),aD (aF e hdx)]
 exact e
structure Qw(K:Frag)(C:Addr):Prop where
 cl:RCl K C
 na:cQ K C "address"
 nr:cQ K C "rows"
 kit:kitOne K (.ref C) (.ref C)=some true
structure lQ(rs:List cu):Prop where
 hi:rs.length<=12
 ok:∀ r∈rs,GoodR r
theorem lQ.at{rs:List cu}(g:lQ rs) {i:Nat} {r:cu} (h:rs[i]? = some r):GoodR r:=g.ok r (mem_of_getElem? h)
def pI(C:Nat->Addr)(H:Hp)(l:Addr)(rs:List cu):Prop:=∃ xs:List V,H l=some (.lst xs)/\xs.length=rs.length/\∀ (i:Nat) r,rs[i]? = some r->∃ a t,xs[i]? = some (.ref a)/\dU C H a t r
theorem pI.same{C:Nat->Addr}{H H':Hp}{l:Addr}{rs:List cu}(h:pI C H l rs)(s:az H H'):pI C H' l rs:=by
 obtain⟨xs,hl,hn,hx⟩:=h
 refine⟨xs,s _ _ hl,hn,fun i r e=>?_⟩
 obtain⟨a,t,e2,ra⟩:=hx i r e
 exact⟨a,t,e2,ra.same s⟩
def fJ(C:Nat->Addr)(H:Hp)(p:Addr)(ad:Str)(l:Addr)(rs:List cu):Prop:=∃ dx fs,H p=some (.ins (C 7) dx fs)/\fs.lookup ("address" : Str)=some (.str ad)/\fs.lookup ("rows" : Str)=some (.ref l) /\
 fs.lookup ("bound" : Str)=none/\fs.lookup ("place_of" : Str)=none/\fs.lookup ("text" : Str)=none/\pI C H l rs
theorem fJ.same{C:Nat->Addr}{H H':Hp}{p:Addr}{ad:Str}{l:Addr}{rs:List cu}(h:fJ C H p ad l rs)(s:az H H'):fJ C H' p ad l rs:=by
 obtain⟨dx,fs,e,a1,a2,a3,a4,a5,r⟩:=h
 exact⟨dx,fs,s _ _ e,a1,a2,a3,a4,a5,r.same s⟩
theorem mU.but{H H':Hp}{l x C dx:Addr}{ts:List Trm}{fs:List (Str×V)}(h:mU H l ts)(hx:H x=some (.ins C dx fs))(s:SameBut x H H'):mU H' l ts:=by
 obtain⟨xs,hl,hn,ht⟩:=h
 refine⟨xs,s _ _ hl (eZ hl hx Z7),hn,fun i v e=>?_⟩
 obtain⟨t,et,tm⟩:=ht i v e
 exact⟨t,et,tm.but hx s⟩
theorem dU.but{C:Nat->Addr}{H H':Hp}{a t x D dx:Addr}{r:cu}(h:dU C H a t r)(g:GoodR r)(hx:H x=some (.ins D dx []))(s:SameBut x H H'):dU C H' a t r:=by
 obtain⟨dy,fs,e,f⟩:=h
 have ne:a≠x:=fun z=>by
  rw[z,hx]at e
  cases e
  rcases lt_or_ge r.so 5 with k|k
  ·exact absurd (f.nm k) Z7
  ·exact absurd (f.tm (.inr (.inr (Nat.le_antisymm g.so k)))).1 Z7
 exact⟨dy,fs,s _ _ e ne,f.nm,fun k=>⟨(f.tm k).1,(f.tm k).2.but hx s⟩,f.ad,f.wd,f.nb,f.na,f.ns⟩
def isE(v:V):Bool:=!decide (v=.str "")
def rA(rs:List cu):List V:=(rs.map fun r=>V.str r.nm).filter isE
def Av(C:Nat->Addr):Sp:=fun vs H Q _=>∃ (x dx:Addr) (ad:Str) (d:Addr) (rs:List cu),vs=[.ref x,.str ad,.ref d]/\H x=some (.ins (C 7) dx [])/\pI C H d rs/\lQ rs /\
 ∀ l H',H l=none->SameBut x H H'->fJ C H' x ad l rs->Q .non H'
def Ds(C:Nat->Addr):Sp:=fun vs H Q _=>∃ (p:Addr) (ad:Str) (l:Addr) (rs:List cu),vs=[.ref p]/\fJ C H p ad l rs/\lQ rs/\∀ b H',H b=none->az H H'->H' b=some (.lst (rA rs))->Q (.ref b) H'
theorem Az{rs:List cu}{v:V}(h:v∈rA rs):∃ r∈rs,v=.str r.nm/\r.nm ≠ "" := by
 obtain⟨h1,h2⟩:=mem_filter.mp h
 obtain⟨r,hr,rfl⟩:=mem_map.mp h1
 refine⟨r,hr,rfl,fun e=>?_⟩
 rw[e]at h2
 exact absurd h2 Z4
theorem Bj{x:Str}{xs:List V}(h:∀ v∈xs,∃ z,v=.str z/\z≠x):inV (.str x) xs=false:=by
 unfold inV
 rw[any_eq_false]
 intro v hv k
 obtain⟨z,rfl,hz⟩:=h v hv
 exact hz (by simpa [eqV] using k)
theorem zJ {K:Frag} {H:Hp} {n:Nat} {v:V} (h:dm v = true \/ ∃ p,v = .ref p):DEq K H n v v:=by
 rcases h with h | ⟨p,rfl⟩
 ·cases v with
  | non=>exact .non
  | bl b=>exact .bl b
  | int i=>exact .int i
  | str x=>exact .str x
  | _=>cases h
 ·exact .same p
theorem uJ{K:Frag}{H:Hp}{a b:Addr}{xs:List V}(ha:H a=some (.lst xs))(hb:H b=some (.lst xs))(h:∀ v∈xs,dm v=true\/∃ p,v=.ref p):DSq K H a b :=
 ⟨0,xs,xs,Z0,rfl,.inr ⟨SqL.of ha,SqL.of hb⟩,fun i x y ex ey=>by rw[ex]at ey;cases ey;exact zJ (h x (mem_of_getElem? ex))⟩
structure Sh(K:Frag)(C:Addr):Prop where
 cl:RCl K C
 nt:cQ K C "told"
structure aX where
 ad:List Str
 rs:List cu
def adS(ps:List aX):List Str:=ps.map fun p=>dotted p.ad
structure GZ(p:aX):Prop where
 ad:bW p.ad
 rs:lQ p.rs
def qK(C:Nat->Addr)(H:Hp)(l:Addr)(ps:List aX):Prop:=∃ xs:List V,H l=some (.lst xs)/\xs.length=ps.length/\∀ (i:Nat) p,ps[i]? = some p->∃ a lr,xs[i]? = some (.ref a)/\fJ C H a (dotted p.ad) lr p.rs
theorem qK.same{C:Nat->Addr}{H H':Hp}{l:Addr}{ps:List aX}(h:qK C H l ps)(s:az H H'):qK C H' l ps:=by
 obtain⟨xs,hl,hn,hx⟩:=h
 refine⟨xs,s _ _ hl,hn,fun i r e=>?_⟩
 obtain⟨a,t,e2,ra⟩:=hx i r e
 exact⟨a,t,e2,ra.same s⟩
structure bz(ps:List aX):Prop where
 hi:ps.length<=12
 ok:∀ p∈ps,GZ p
 nd:(adS ps).Nodup
 up:∀ p∈ps,p.ad.dropLast=[]\/dotted p.ad.dropLast∈adS ps
 cl:∀ p∈ps,∀ r∈p.rs,r.nm ≠ "" -> dotted p.ad ++ "." ++ r.nm∉adS ps
theorem bz.at{ps:List aX}(g:bz ps) {i:Nat} {p:aX} (h:ps[i]? = some p):GZ p:=g.ok p (mem_of_getElem? h)
def bT(C:Nat->Addr)(H:Hp)(h l:Addr)(ps:List aX):Prop:=∃ dx fs,H h=some (.ins (C 8) dx fs)/\fs.lookup ("told" : Str)=some (.ref l)/\fs.lookup ("addresses" : Str)=none/\fs.lookup ("has" : Str)=none/\(fs.lookup ("part" : Str)=none/\fs.lookup ("with_part" : Str)=none)/\qK C H l ps
theorem bT.same{C:Nat->Addr}{H H':Hp}{h l:Addr}{ps:List aX}(x:bT C H h l ps)(s:az H H'):bT C H' h l ps:=by
 obtain⟨dx,fs,e,a1,a2,a3,a4,r⟩:=x
 exact⟨dx,fs,s _ _ e,a1,a2,a3,a4,r.same s⟩
def ji(ys:List Str):Str:=if ys.dropLast=[]then "" else dotted ys.dropLast
theorem bR(b:Str):dotted [b]=b:=by rw[cI];rfl
theorem M6{ys:List Str}(g:bW ys):(Txt.rpartition (dotted ys) ("." : Str)).1=ji ys:=by
 unfold ji
 obtain⟨xs,b,rfl⟩:∃ xs b,ys=xs++[b]:=⟨ys.dropLast,ys.getLast g.lo,(dropLast_concat_getLast g.lo).symm⟩
 rw[List.dropLast_concat]
 have hb:cB b:=g.nm b Z2
 by_cases h:xs=[]
 ·subst h
  rw[if_pos rfl,nil_append,bR,Fj b hb]
  rfl
 ·rw[if_neg h,uL xs b h hb]
def uQ:Sp:=fun vs H Q _=>∃ ys:List Str,vs=[.str (dotted ys)]/\bW ys/\Pur (.str (ji ys)) H Q
def zB(C:Nat->Addr):Sp:=fun vs H Q _=>∃ (p l la:Addr) (ys zs:List Str) (rs:List cu),vs=[.ref p,.ref la]/\fJ C H p (dotted ys) l rs/\bW ys/\H la=some (.lst (zs.map V.str))/\(ys.dropLast=[]\/dotted ys.dropLast∈zs)/\Pur (.bl false) H Q
def Dd(C:Nat->Addr):Sp:=fun vs H Q _=>∃ (p l la:Addr) (ys zs:List Str) (rs:List cu),vs=[.ref p,.ref la]/\fJ C H p (dotted ys) l rs/\bW ys/\lQ rs/\H la=some (.lst (zs.map V.str))/\(∀ r∈rs,r.nm ≠ "" -> dotted ys ++ "." ++ r.nm∉zs)/\Pur (.bl false) H Q
def Du(C:Nat->Addr):Sp:=fun vs H Q _=>∃ (l:Addr) (ps:List aX),vs=[.ref l]/\qK C H l ps/\bz ps/\Pur .non H Q
def pK(C:Nat->Addr)(H:Hp)(xs:List V)(ps:List aX):Prop:=xs.length=ps.length/\∀ (i:Nat) p,ps[i]? = some p->∃ a lr,xs[i]? = some (.ref a)/\fJ C H a (dotted p.ad) lr p.rs
theorem pK.same{C:Nat->Addr}{H H':Hp}{xs:List V}{ps:List aX}(h:pK C H xs ps)(s:az H H'):pK C H' xs ps:=⟨h.1,fun i p e=>by
 obtain⟨a,lr,e2,pa⟩:=h.2 i p e
 exact⟨a,lr,e2,pa.same s⟩⟩
def Cg(C:Nat->Addr)(H:Hp)(h l:Addr):Prop:=∃ dx fs,H h=some (.ins (C 8) dx fs)/\fs.lookup ("told" : Str)=some (.ref l)/\fs.lookup ("addresses" : Str)=none/\fs.lookup ("has" : Str)=none/\(fs.lookup ("part" : Str)=none/\fs.lookup ("with_part" : Str)=none)
theorem uT{C:Nat->Addr}{H:Hp}{h l:Addr}{xs:List V}{ps:List aX}(hd:Cg C H h l)(hl:H l=some (.lst xs))(px:pK C H xs ps):bT C H h l ps:=by
 obtain⟨dx,fs,e,a1,a2,a3,a4⟩:=hd
 exact⟨dx,fs,e,a1,a2,a3,a4,xs,hl,px.1,px.2⟩
def Bm(C:Nat->Addr):Sp:=fun vs H Q _=>∃ (x dx d:Addr) (ps:List aX) (xs:List V),vs=[.ref x,.ref d]/\H x=some (.ins (C 8) dx [])/\H d=some (.lst xs)/\pK C H xs ps/\bz ps/\∀ l H',H l=none->SameBut x H H'->Cg C H' x l->H' l=some (.lst xs)->Q .non H'
def yw(C:Nat->Addr):Sp:=fun vs H Q _=>∃ (h l:Addr) (ps:List aX),vs=[.ref h]/\bT C H h l ps/\bz ps/\∀ b H' zs,H b=none->az H H'->zs.Perm (adS ps)->sortedS zs=true->H' b=some (.lst (zs.map V.str))->Q (.ref b) H'
def Ag(C:Nat->Addr):Sp:=fun vs H Q _=>∃ (h l:Addr) (ps:List aX) (z:Str),vs=[.ref h,.str z]/\bT C H h l ps/\bz ps/\Pur (.bl (decide (z∈adS ps))) H Q
theorem K1{ps:List aX}{i:Nat}(hi:i<ps.length):((adS ps).map V.str).getD i .non=V.str (dotted ps[i].ad):=by simp[adS,List.getD,hi]
theorem CT{ps:List aX}{n:Nat}(hn:n=ps.length):(List.range n).map (fun i=>((adS ps).map V.str).getD i .non)=(adS ps).map V.str:=by
 apply ext_getElem
 ·simp[adS,hn]
 ·intro i h1 h2
  have:i<ps.length:=by simpa [adS] using h2
  simp[adS,this]
theorem DX{ps:List aX}(nd:(adS ps).Nodup){i:Nat}{p:aX}(h:ps[i]? = some p):inV (.str (dotted p.ad)) (((adS ps).take i).map V.str)=false:=Bj fun v hv=>by
 obtain⟨z,hz,rfl⟩:=mem_map.mp hv
 refine⟨z,rfl,fun e=>?_⟩
 obtain⟨j,hj,ej⟩:=getElem_of_mem hz
 have hji:j<i:=lt_of_lt_of_le hj (length_take_le i _)
 have e1:(adS ps)[i]? = some (dotted p.ad):=by unfold adS;rw[getElem?_map,h];rfl
 have e2:(adS ps)[j]? = some z:=by
  have:((adS ps).take i)[j]? = some z:=by rw[getElem?_eq_getElem hj,ej]
  rw[getElem?_take]at this
  simpa [hji] using this
 have hl:=(List.getElem?_eq_some_iff.mp e2).1
 exact absurd ((getElem?_inj hl nd).mp (by rw[e1,e2,e])) (ne_of_lt hji)
theorem PN{a b:Str}(ha:a.length<=1000)(hb:b.length<=6000):(a++b).length<=sizeLine:=by
 rw[gh,sizeLine_eq];omega
def Hj(C:Addr)(g:Str):Sp:=fun vs H Q _=>∃ x y,vs=[.ref x,y]/\H x=some (ExO true x C none)/\(∃ z:Str,y=.str z/\z.length<=1000)/\∀ p,H p=none->p≠x->Q .non (upd (upd H p (XdO p [(g,y)])) x (ExO true x C (some p)))
def jX(C:Nat->Addr)(H:Hp)(x:Addr)(z:Str):Prop:=∃ q,H x=some (ExO false x (C 21) (some q))/\H q=some (XdO q [("address",.str z)])
def Cy(C:Nat->Addr):Sp:=fun vs H Q E=>∃ (h l:Addr) (ps:List aX) (z:Str),vs=[.ref h,.str z]/\bT C H h l ps/\bz ps/\z.length<=1000 /\
 (∀ (i:Nat) p a lr H',az H H'->ps[i]? = some p->dotted p.ad=z->fJ C H' a (dotted p.ad) lr p.rs->Q (.ref a) H')/\(z∉adS ps->∀ x H',az H H'->jX C H' x z->E (.ref x) none H')
def lt1(b:Int):Str:=⟨#[97+b.toNat]⟩
theorem Mv{xs:List V}(h:∀ (i:Nat) v,xs[i]? = some v->∃ b:Int,v=V.str (lt1 b)/\0<=b/\b<26):∃ bs:List Int,bs.length=xs.length/\xs=(bs.map lt1).map V.str/\yu bs:=by
 obtain⟨bs,hl,hb⟩:=iw (fun _ v b=>v=V.str (lt1 b)/\0<=b/\b<26) xs 0 (fun i v e=>h i v e)
 have em:xs=(bs.map lt1).map V.str:=by
  apply ext_getElem?
  intro i
  rw[getElem?_map,getElem?_map]
  cases e:xs[i]? with
  | none =>
   have e2:bs[i]? = none:=by
    rw[List.getElem?_eq_none_iff]at e ⊢
    omega
   rw[e2];rfl
  | some v =>
   obtain⟨z,ez,rfl,_⟩:=hb i v e
   rw[ez];rfl
 refine⟨bs,hl,em,fun b hb'=>?_⟩
 obtain⟨i,hi,e⟩:=getElem_of_mem hb'
 obtain⟨z,ez,_,nz⟩:=hb i _ (getElem?_eq_getElem Z1)
 rw[getElem?_eq_getElem hi,e]at ez
 cases ez
 exact nz
theorem mW(zs:List Str){k:Int}(h:0<=k):iy (zs.map V.str) none (some k)=(zs.take k.toNat).map V.str:=by
 have e:=Gs (zs.map V.str) k.toNat
 rw[show((k.toNat:Nat):Int)=k from by omega]at e
 rw[e,map_take]
theorem Jw(zs:List Str){a b:Int}(h0:0<=a)(h1:0<=b)(ha:a.toNat<=zs.length)(hb:b.toNat<=zs.length):iy (zs.map V.str) (some a) (some b)=((zs.drop a.toNat).take (b.toNat - a.toNat)).map V.str:=by
 unfold iy
 have e1:=HT.sIx_nat (zs.map V.str).length 0 a.toNat
 have e2:=HT.sIx_nat (zs.map V.str).length (zs.map V.str).length b.toNat
 rw[show((a.toNat:Nat):Int)=a from by omega]at e1
 rw[show((b.toNat:Nat):Int)=b from by omega]at e2
 rw[e1,e2,length_map,Nat.min_eq_left ha,Nat.min_eq_left hb,map_take,map_drop]
theorem uE(ks:List Int):Txt.join ("" : Str) (ks.map lt1)=nO ks:=JR ks
theorem ur{ks:List Int}(h:ks.length<=8):((ks.map lt1).map (·.length)).sum+(ks.map lt1).length*(("" : Str)).length<=16777216:=Ak h
theorem NQ{as bs:List Int}{c:Int}(ha:yu as)(hb:yu bs)(h0:0<=c)(h1:c<26)(h8:as.length+1+bs.length<=8):cB (nO as++lt1 c++nO bs):=by
 have e:nO as++lt1 c++nO bs=nO (as++[c]++bs):=by
  apply iW
  rw[cG,cG,mR,mR,mR]
  simp[lt1]
 rw[e]
 refine KZ Z6 Z6 fun k hk=>?_
 simp only[mem_append,mem_singleton]at hk
 rcases hk with(hk|rfl)|hk
 ·exact ha k hk
 ·exact⟨h0,h1⟩
 ·exact hb k hk
def Mf:List Str:=["let", "be", "draw", "as", "part", "from", "late", "a"]
theorem Ks:∀ z∈Mf,cB z:=fun z hz=>by
 simp only[Mf,mem_cons,not_mem_nil,or_false]at hz
 rcases hz with rfl|rfl|rfl|rfl|rfl|rfl|rfl|rfl
 all_goals exact tL Z4
def Dj:Sp:=fun vs H Q _=>∃ c:Int,vs=[.int c]/\∀ l H' (ws:List Str),H l=none->az H H'->ws.length=8->(∀ w∈ws,cB w)->H' l=some (.lst (ws.map V.str))->Q (.ref l) H'
theorem Io(x:Str):¬(Builtin.Str.strKind x<Builtin.Str.strKind ("." : Str)):=by
 have e:Builtin.Str.strKind ("." : Str)=1:=by decide +kernel
 rw[e]
 unfold Builtin.Str.strKind
 split
 ·decide
 ·split <;> decide
theorem Jm{ys:List Str}(g:bW ys):Txt.count (dotted ys) ("." : Str)=(ys.length:Int) - 1:=by
 have hs:=cj ys g.lo g.nm
 have h1:1<=(dotted ys).length:=by
  obtain⟨y,hy⟩:=List.exists_mem_of_ne_nil ys g.lo
  obtain⟨c,hc,_⟩:=oX g.lo g.nm
  have:=List.length_pos_of_mem hc
  rw[length_toList]at this
  exact this
 have hl:=congrArg List.length hs
 unfold Txt.split at hl
 have hd:(("." : Str)).length=1:=by decide +kernel
 rw[if_neg (by rw[hd,decide_eq_false Z1,decide_eq_false (Io _)];decide)]at hl
 unfold Txt.count
 by_cases he:(Builtin.Str.occurrences (dotted ys) "." 0 (dotted ys).length ((dotted ys).length+1)).isEmpty=true
 ·rw[if_pos he]at hl
  have hl:1=ys.length:=hl
  rw[List.isEmpty_iff.mp he,<- hl]
  rfl
 ·rw[if_neg he,length_partsBetween]at hl
  omega
theorem gW{p:List Str}{w:Str}(h:p≠[]):dotted p ++ "." ++ w=dotted (p++[w]):=by
 rw[cI,cI,pH,join_snoc _ _ _ h]
theorem Ax{a b:List Str}(ga:bW a)(gb:bW b)(e:dotted a=dotted b):a=b:=by
 rw[<- cj a ga.lo ga.nm,e,cj b gb.lo gb.nm]
theorem rD{a:List Str}(g:bW a):dotted a ≠ "" := fun e=>by
 obtain⟨c,hc,_⟩:=oX g.lo g.nm
 have e0:("" : Str).cps.toList=[]:=by decide +kernel
 rw[e,e0]at hc
 cases hc
structure cP(as:List (List Str)):Prop where
 hi:as.length<=12
 ok:∀ a∈as,bW a
 nd:(as.map dotted).Nodup
 up:∀ a∈as,a.dropLast=[]\/a.dropLast∈as
theorem cP.snoc{as:List (List Str)}{a:List Str}(g:cP as)(h:as.length<12)(ga:bW a)(hn:dotted a∉as.map dotted)(hu:a.dropLast=[]\/a.dropLast∈as):cP (as++[a]):=by
 refine⟨by rw[length_append];show as.length+1<=12;omega,fun b hb=>?_,?_,fun b hb=>?_⟩
 ·rcases mem_append.mp hb with hb|hb
  ·exact g.ok b hb
  ·rw[mem_singleton.mp hb];exact ga
 ·rw[map_append]
  exact n6 g.nd hn
 ·rcases mem_append.mp hb with hb|hb
  ·exact(g.up b hb).imp id (mem_append_left _)
  ·rw[mem_singleton.mp hb]
   exact hu.imp id (mem_append_left _)
theorem cP.rev{as:List (List Str)}(g:cP as):cP as.reverse:=by
 refine⟨by rw[List.length_reverse];exact g.hi,fun b hb=>g.ok b (List.mem_reverse.mp hb),?_,fun b hb=>(g.up b (List.mem_reverse.mp hb)).imp id List.mem_reverse.mpr⟩
 rw[List.map_reverse]
 exact List.pairwise_reverse.mpr (List.Pairwise.imp (fun h=>Ne.symm h) g.nd)
theorem eV{zs:List Str}{c k:Int}(h:zs≠[]):∃ z∈zs,atI (zs.map V.str) (pick c k zs.length)=some (V.str z):=by
 have hl:0<(zs.length:Int):=by have:=length_pos_iff.mpr h;omega
 have h1:=jD c k hl
 have h2:=km c k hl
 have h3:(pick c k zs.length).toNat<zs.length:=by omega
 refine⟨zs[(pick c k zs.length).toNat],getElem_mem h3,?_⟩
 have:=bK (xs:=zs.map V.str) (j:=(pick c k zs.length).toNat) (v:=V.str zs[(pick c k zs.length).toNat]) (by rw[getElem?_map,getElem?_eq_getElem h3];rfl)
 rwa [show(((pick c k zs.length).toNat:Nat):Int)=pick c k zs.length from by omega]at this
def Gz:Sp:=fun vs H Q _=>∃ (c n:Int) (lw:Addr) (ws:List Str),vs=[.int c,.int n,.ref lw]/\1<=n/\n<=12/\H lw=some (.lst (ws.map V.str))/\ws.length=8/\(∀ w∈ws,cB w) /\
 ∀ l H' (as:List (List Str)),H l=none->az H H'->as≠[]->cP as->H' l=some (.lst ((as.map dotted).map V.str))->Q (.ref l) H'
def eX(v:V):Bool:=match v with|.str z=>decide (Txt.count z "." < 2)|_=>false
theorem Jc{as:List (List Str)}(g:cP as){v:V}(h:v∈((as.map dotted).map V.str).filter eX):∃ a∈as,v=.str (dotted a)/\a.length<=2:=by
 obtain⟨h1,h2⟩:=mem_filter.mp h
 obtain⟨z,hz,rfl⟩:=mem_map.mp h1
 obtain⟨a,ha,rfl⟩:=mem_map.mp hz
 have h3:Txt.count (dotted a) "." < 2:=of_decide_eq_true h2
 rw[Jm (g.ok a ha)]at h3
 exact⟨a,ha,rfl,Z1⟩
theorem dF(zs:List Str)(p:V->Bool):(zs.map V.str).filter p=(zs.filter fun z=>p (.str z)).map V.str:=by rw[filter_map];rfl
def Dl:Sp:=fun vs H Q _=>∃ (c:Int) (la lw:Addr) (as:List (List Str)) (ws:List Str),vs=[.int c,.ref la,.ref lw]/\H la=some (.lst ((as.map dotted).map V.str))/\as≠[]/\cP as/\H lw=some (.lst (ws.map V.str))/\ws.length=8/\(∀ w∈ws,cB w)/\∀ ys,bW ys->Pur (.str (dotted ys)) H Q
theorem Nx:cB ("a" : Str):=tL Z4
theorem Gn{w:Str}(h:cB w):bW [w]:=⟨Z2,(by show 1<=3;decide),fun y hy=>by rw[mem_singleton.mp hy];exact h⟩
theorem Ep{p:List Str}{w:Str}(gp:bW p)(h2:p.length<=2)(nw:cB w):bW (p++[w]):=⟨Z2,by rw[length_append];show p.length+1<=3;omega,fun y hy=>by
 rcases mem_append.mp hy with hy|hy
 ·exact gp.nm y hy
 ·rw[mem_singleton.mp hy];exact nw⟩
structure G4(so:Nat)(nm ad wd:Str):Prop where
 h5:so<=5
 hn:so<5->cB nm
 h0:so=5->nm = ""
 ha:(ad = "" /\ so=5)\/∃ ys,bW ys/\ad=dotted ys/\cB wd
 hw:wd.length<=8
def Dq(C:Nat->Addr):Sp:=fun vs H Q _=>∃ (p:Addr) (so:Nat) (nm ad wd:Str),vs=[.ref p]/\H p=some (.tup [.str (mG so),.str nm,.str ad,.str wd])/\G4 so nm ad wd /\
 ∀ a l H' r,GoodR r->r.so=so->r.nm=nm->(so<5->r.ad=ad/\r.wd=wd)->az H H'->H a=none->H l=none->dU C H' a l r->Q (.ref a) H'
theorem Ih:Bg [⟨1,.num 1⟩]:=⟨Z2,Z0,(fun t ht=>by rw[mem_singleton.mp ht];exact⟨.inl rfl,(by show 1<10 ^ 20;decide)⟩),fun t ht=>by cases ht;rfl⟩
theorem J3{ys:List Str}{w:Str}(g:bW ys)(h:cB w):Bg [⟨1,.nms false ys⟩,⟨-1,.nms false [w]⟩]:=by
 refine⟨Z2,(by show 2<=6;decide),fun t ht=>?_,fun t ht=>by cases ht;rfl⟩
 simp only[mem_cons,not_mem_nil,or_false]at ht
 rcases ht with rfl|rfl
 ·exact⟨.inl rfl,g.lo,le_trans g.hi Z0,g.nm⟩
 ·exact⟨.inr rfl,Z2,(by show 1<=4;decide),fun y hy=>by rw[mem_singleton.mp hy];exact h⟩
def Oe(K:Frag)(n:Bool):R2:=fun x y H Q=>∃ a b xs,x=.ref a/\y=.ref b/\SqL K H a xs/\SqL K H b []/\Q (.bl (xs.isEmpty==n)) H
theorem Aj{X:Cx}{K:Frag}(hK:X.K=K)(hu:X.A.units+64<cLine):OpR X (compareOp .Eq) (Oe K true):=by
 subst hK
 intro pins s σ H x y v u Q I rx ry h
 obtain⟨a,b,xs,rfl,rfl,ha,hb,q⟩:=h
 cases rx;cases ry
 obtain⟨us,r1,p1,_⟩:=I.list ha
 obtain⟨ws,r2,p2,_⟩:=I.list hb
 cases r2
 cases r1 with
 | nil=>exact SeqAt.eq_listAt (e:=fun _=>true) p1.isList p2.isList rfl Z1 (fun j h1 h2=>absurd h1 (not_lt_zero _)) ⟨.bl true,H,I,rfl,q⟩
 | cons r t=>exact SeqAt.eq_list_lengthsAt p1.isList p2.isList Z2 Z1 ⟨.bl false,H,I,rfl,q⟩
theorem Ib{X:Cx}{K:Frag}(hK:X.K=K)(hu:X.A.units+64<cLine):OpR X (compareOp .NotEq) (Oe K false):=by
 subst hK
 intro pins s σ H x y v u Q I rx ry h
 obtain⟨a,b,xs,rfl,rfl,ha,hb,q⟩:=h
 cases rx;cases ry
 obtain⟨us,r1,p1,_⟩:=I.list ha
 obtain⟨ws,r2,p2,_⟩:=I.list hb
 cases r2
 cases r1 with
 | nil =>
  have:=SeqAt.RcNeAt.lists (A:=X.A) (s:=s) (e:=fun _=>true) p1.isList p2.isList rfl Z1 fun j h1 h2=>absurd h1 (not_lt_zero _)
  exact this X.prog X.w X.xe _ ⟨.bl false,H,I,rfl,q⟩
 | cons r t =>
  have:=SeqAt.RcNeAt.lists_lengths (A:=X.A) (s:=s) p1.isList p2.isList Z2 Z1
  exact this X.prog X.w X.xe _ ⟨.bl true,H,I,rfl,q⟩
theorem LQ{z:Str}(h:(!(Builtin.Str.occurrences z ("." : Str) 0 z.length 1).isEmpty)=true):46∈z.cps.toList:=by
 have hne:Builtin.Str.occurrences z ("." : Str) 0 z.length 1≠[]:=fun e=>by rw[e]at h;cases h
 obtain⟨i,hi⟩:=List.exists_mem_of_ne_nil _ hne
 obtain⟨h1,h2⟩:=StrLaws.occ_spec _ _ _ _ _ _ hi
 rw[pH]at h1 h2
 exact mem_of_getElem? ((ux z 46 i).mp ⟨h1,h2⟩)
def rH(v:V):Bool:=match v with|.str z=>!(Builtin.Str.occurrences z ("." : Str) 0 z.length 1).isEmpty|_=>false
theorem Bx{as:List (List Str)}(g:cP as){z:Str}(h:z∈(as.map dotted).filter fun z=>rH (.str z)):∃ xs b,xs++[b]∈as/\z=dotted (xs++[b])/\xs≠[]:=by
 obtain⟨h1,h2⟩:=mem_filter.mp h
 obtain⟨a,ha,rfl⟩:=mem_map.mp h1
 have ga:=g.ok a ha
 have h46:=LQ h2
 obtain⟨xs,b,rfl⟩:∃ xs b,a=xs++[b]:=⟨a.dropLast,a.getLast ga.lo,(dropLast_concat_getLast ga.lo).symm⟩
 refine⟨xs,b,ha,rfl,fun e=>?_⟩
 subst e
 rw[nil_append,bR]at h46
 exact(ga.nm b Z2).nodot h46
theorem jr{xs:List Str}{b:Str}:atI ((xs++[b]).map V.str) (-1)=some (V.str b):=by
 unfold atI ixN
 rw[if_neg Z0,if_pos Z6]
 simp only[length_map,length_append,length_singleton,bind_some,map_append]
 rw[show(-1+((xs.length+1:Nat):Int)).toNat=xs.length from by omega,getElem?_append_right Z2]
 simp
def Le:List V:=[.str "draw",.str "late",.str "take",.str "draw",.str "take",.str "let",.str "deed",.str "need"]
theorem Iv{k:Int}(h0:0<=k)(h1:k<8):∃ so,so<=5/\atI Le k=some (V.str (mG so)):=by
 rcases(by omega:k=0\/k=1\/k=2\/k=3\/k=4\/k=5\/k=6\/k=7)with rfl|rfl|rfl|rfl|rfl|rfl|rfl|rfl
 ·exact⟨2,Z0,bK (j:=0) rfl⟩
 ·exact⟨3,Z0,bK (j:=1) rfl⟩
 ·exact⟨4,Z0,bK (j:=2) rfl⟩
 ·exact⟨2,Z0,bK (j:=3) rfl⟩
 ·exact⟨4,Z0,bK (j:=4) rfl⟩
 ·exact⟨0,Z0,bK (j:=5) rfl⟩
 ·exact⟨1,Z0,bK (j:=6) rfl⟩
 ·exact⟨5,Z0,bK (j:=7) rfl⟩
def Dh:Sp:=fun vs H Q _=>∃ (c:Int) (lk la lw:Addr) (ks:List Str) (as:List (List Str)) (ws:List Str),vs=[.int c,.ref lk,.ref la,.ref lw]/\H lk=some (.lst (ks.map V.str))/\H la=some (.lst ((as.map dotted).map V.str))/\as≠[]/\cP as/\H lw=some (.lst (ws.map V.str))/\ws.length=8/\(∀ w∈ws,cB w) /\
 ∀ p H' so nm ad wd,H p=none->az H H'->H' p=some (.tup [.str (mG so),.str nm,.str ad,.str wd])->G4 so nm ad wd->(so<5->nm∈ws/\nm∉ks)->Q (.ref p) H'
theorem Cv:∀(p:Str)(l:List Str),risingS p l=true->(p::l).Pairwise fun a b=>a.cps.toList<=b.cps.toList
 | p,[],_=>by simp
 | p,x::r,h=>by
  have h:(!ltCps x.cps.toList p.cps.toList&&risingS x r)=true:=h
  rw[and_eq_true]at h
  have h1:¬(x.cps.toList<p.cps.toList):=by
   have:=h.1
   rw[ltCps_eq]at this
   simpa using this
  have ih:=Cv x r h.2
  have hpx:p.cps.toList<=x.cps.toList:=List.not_lt.mp h1
  refine List.Pairwise.cons (fun c hc=>?_) ih
  rcases mem_cons.mp hc with rfl|hc
  ·exact hpx
  ·exact List.le_trans hpx ((List.pairwise_cons.mp ih).1 c hc)
theorem nY:∀{l:List Str},sortedS l=true->l.Pairwise fun a b=>a.cps.toList<=b.cps.toList
 | [],_=>.nil
 | x::r,h=>Cv x r h
theorem bH{a b:List Str}(p:a.Perm b)(ha:sortedS a=true)(hb:sortedS b=true):a=b :=
 eq_of_pairwise (fun a b _ _ h1 h2=>iW (List.le_antisymm h1 h2)) (nY ha) (nY hb) p
theorem oJ (zs:List Str):∀ v ∈ zs.map V.str,dm v = true \/ ∃ p,v = .ref p:=fun v hv=>by
 obtain ⟨z,_,rfl⟩:=mem_map.mp hv
 exact .inl rfl
theorem aP.u1{k:Nat}{A:Around}(r:aP k A):A.units+1<cLine:=by have:=r.units;omega
structure Q4 where
 so:Nat
 nm:Str
 ad:Str
 wd:Str
def TupAt(H:Hp)(p:Addr)(d:Q4):Prop:=H p=some (.tup [.str (mG d.so),.str d.nm,.str d.ad,.str d.wd])
def mZ(H:Hp)(l:Addr)(ds:List Q4):Prop:=∃ xs:List V,H l=some (.lst xs)/\xs.length=ds.length/\∀ (i:Nat) d,ds[i]? = some d->∃ p,xs[i]? = some (.ref p)/\TupAt H p d
theorem mZ.same{H H':Hp}{l:Addr}{ds:List Q4}(h:mZ H l ds)(s:az H H'):mZ H' l ds:=by
 obtain⟨xs,hl,hn,hx⟩:=h
 exact⟨xs,s _ _ hl,hn,fun i d e=>by obtain⟨p,e2,t⟩:=hx i d e;exact⟨p,e2,s _ _ t⟩⟩
theorem mZ.off{H:Hp}{l b:Addr}{ds:List Q4}{o:HO}(h:mZ H l ds)(hl:l≠b)(hb:∀ ys,H b≠some (.tup ys)):mZ (upd H b o) l ds:=by
 obtain⟨xs,hx,hn,ht⟩:=h
 refine⟨xs,by rw[aD hl];exact hx,hn,fun i d e=>?_⟩
 obtain⟨p,e2,t⟩:=ht i d e
 exact⟨p,e2,by unfold TupAt;rw[aD (fun z=>hb _ (z▸t))];exact t⟩
structure DictAt(H0 H:Hp)(R:Addr)(as:List (List Str))(n:Nat)(L:Nat->Addr)(rs:Nat->List Q4):Prop where
 r0:H0 R=none
 l0:∀ i,i<n->H0 (L i)=none
 dk:∃ kvs:List (Key×V),H R=some (.dK kvs)/\kvs.length<=n/\∀ (i:Nat) a,i<n->as[i]? = some a->fP kvs (.inr (dotted a))=some (.ref (L i))
 ts:∀ i,i<n->mZ H (L i) (rs i)
 ap:∀ i j,i<n->j<n->L i=L j->i=j
structure lg(as:List (List Str))(rs:Nat->List Q4):Prop where
 hi:∀ i,i<as.length->(rs i).length<=12
 g4:∀ i,i<as.length->∀ d∈rs i,G4 d.so d.nm d.ad d.wd
 cl:∀ (i:Nat) a,as[i]? = some a->∀ d∈rs i,d.so<5->dotted a ++ "." ++ d.nm∉as.map dotted
theorem Lx{as:List (List Str)}(nd:(as.map dotted).Nodup){i j:Nat}{a b:List Str}(ha:as[i]? = some a)(hb:as[j]? = some b)(h:i≠j):dotted a≠dotted b:=fun e=>by
 have e1:(as.map dotted)[i]? = some (dotted a):=by rw[getElem?_map,ha];rfl
 have e2:(as.map dotted)[j]? = some (dotted b):=by rw[getElem?_map,hb];rfl
 exact h ((getElem?_inj (List.getElem?_eq_some_iff.mp e1).1 nd).mp (by rw[e1,e2,e]))
theorem DictAt.same{H0 H H':Hp}{R:Addr}{as:List (List Str)}{n:Nat}{L:Nat->Addr}{rs:Nat->List Q4}(h:DictAt H0 H R as n L rs)(s:az H H'):DictAt H0 H' R as n L rs:=by
 obtain⟨a,b,⟨kvs,c,d⟩,e,f⟩:=h
 exact⟨a,b,⟨kvs,s _ _ c,d⟩,fun i hi=>(e i hi).same s,f⟩
theorem DictAt.more{H0 H:Hp}{R b:Addr}{as:List (List Str)}{n:Nat}{L:Nat->Addr}{rs:Nat->List Q4}{a:List Str}(nd:(as.map dotted).Nodup)(h:DictAt H0 H R as n L rs)(s:az H0 H)(hb:H b=none)(ha:as[n]? = some a) :
  ∀ kvs,H R=some (.dK kvs)->kvs.length<=n/\DictAt H0 (upd (upd H b (.lst [])) R (.dK (putK kvs (.inr (dotted a)) (.ref b)))) R as (n+1) (fun i=>if i=n then b else L i) (fun i=>if i=n then[]else rs i):=by
 intro kvs hk
 obtain⟨r0,l0,⟨kvs',hk',hl,hv⟩,ts,ap⟩:=h
 rw[hk]at hk'
 cases hk'
 have hbR:R≠b:=aF hk hb
 have hLb:∀ i,i<n->L i≠b:=fun i hi=>by obtain⟨xs,hx,_⟩:=ts i hi;exact aF hx hb
 refine⟨hl,r0,fun i hi=>?_,⟨_,ao,le_trans (ik _ _ _) (Nat.succ_le_succ hl),fun i c hi hc=>?_⟩,fun i hi=>?_,fun i j hi hj e=>?_⟩
 ·by_cases k:i=n
  ·rw[if_pos k];exact s.free hb
  ·rw[if_neg k];exact l0 i Z1
 ·rw[qD]
  by_cases k:i=n
  ·subst k
   rw[ha]at hc
   cases hc
   rw[if_pos rfl,if_pos rfl]
  ·rw[if_neg k,if_neg (fun z=>Lx nd hc ha k (Sum.inr.inj z))]
   exact hv i c Z1 hc
 ·by_cases k:i=n
  ·subst k
   simp only[if_true]
   refine⟨[],by rw[aD hbR.symm];exact ao,rfl,fun i d e=>by simp at e⟩
  ·simp only[if_neg k]
   obtain⟨xs,hx,hn,ht⟩:=ts i Z1
   have hR:L i≠R:=fun z=>by rw[z,hk]at hx;cases hx
   exact(mZ.off (H:=H) ⟨xs,hx,hn,ht⟩ (hLb i Z1) (fun ys=>by rw[hb];intro z;cases z)).off hR (fun ys=>by rw[aD hbR,hk];intro z;cases z)
 ·by_cases k:i=n
  ·by_cases m:j=n
   ·omega
   ·simp only[if_pos k,if_neg m]at e
    exact absurd e.symm (hLb j Z1)
  ·by_cases m:j=n
   ·simp only[if_neg k,if_pos m]at e
    exact absurd e (hLb i Z1)
   ·simp only[if_neg k,if_neg m]at e
    exact ap i j Z1 Z1 e
theorem DictAt.row{H0 H:Hp}{R p:Addr}{as:List (List Str)}{n i:Nat}{L:Nat->Addr}{rs:Nat->List Q4}{d:Q4}(h:DictAt H0 H R as n L rs)(hi:i<n)(hp:TupAt H p d) :
  ∀ xs,H (L i)=some (.lst xs)->DictAt H0 (upd H (L i) (.lst (xs++[.ref p]))) R as n L (fun j=>if j=i then rs i++[d]else rs j):=by
 intro xs hx
 obtain⟨r0,l0,⟨kvs,hk,hl,hv⟩,ts,ap⟩:=h
 have hRi:R≠L i:=fun z=>by rw[z,hx]at hk;cases hk
 have hT:∀ ys,H (L i)≠some (.tup ys):=fun ys=>by rw[hx];intro z;cases z
 refine⟨r0,l0,⟨kvs,by rw[aD hRi];exact hk,hl,hv⟩,fun j hj=>?_,ap⟩
 by_cases k:j=i
 ·subst k
  simp only[if_true]
  obtain⟨ys,hy,hn,ht⟩:=ts j hj
  rw[hx]at hy
  cases hy
  refine⟨_,ao,by rw[length_append,length_append,hn];rfl,fun m e hm=>?_⟩
  have off:∀ q e,TupAt H q e->TupAt (upd H (L j) (.lst (xs++[.ref p]))) q e:=fun q e t=>by unfold TupAt;rw[aD (fun z=>hT _ (z▸t))];exact t
  rcases lt_or_ge m (rs j).length with z|z
  ·rw[getElem?_append_left z]at hm
   obtain⟨q,e2,t⟩:=ht m e hm
   exact⟨q,by rw[getElem?_append_left Z1];exact e2,off q e t⟩
  ·rw[getElem?_append_right z]at hm
   have hm0:m - (rs j).length=0:=by
    have:=(List.getElem?_eq_some_iff.mp hm).1
    simp at this
    omega
   rw[hm0]at hm
   cases hm
   exact⟨p,by rw[getElem?_append_right Z1,hn,hm0];rfl,off p d hp⟩
 ·simp only[if_neg k]
  exact(ts j hj).off (fun z=>k (ap j i hj hi z)) hT
theorem IK{as:List (List Str)}{c k:Int}(h:as≠[]):∃ (i:Nat) (a:List Str),as[i]? = some a/\atI ((as.map dotted).map V.str) (pick c k (as.map dotted).length)=some (V.str (dotted a)):=by
 obtain⟨z,hz,e⟩:=eV (zs:=as.map dotted) (c:=c) (k:=k) (by simpa using h)
 obtain⟨a,ha,rfl⟩:=mem_map.mp hz
 obtain⟨i,hi,e2⟩:=getElem_of_mem ha
 exact⟨i,a,by rw[getElem?_eq_getElem hi,e2],e⟩
def xY(a:Str)(v:V):V:=match v with|.str w=>.str (a ++ "." ++ w)|v=>v
theorem lg.row{as:List (List Str)}{rs:Nat->List Q4}{i:Nat}{a:List Str}{d:Q4}(h:lg as rs)(hi:as[i]? = some a)(hl:(rs i).length<12)(g:G4 d.so d.nm d.ad d.wd)(hc:d.so<5->dotted a ++ "." ++ d.nm∉as.map dotted):lg as (fun j=>if j=i then rs i++[d]else rs j):=by
 refine⟨fun j hj=>?_,fun j hj e he=>?_,fun j b hb e he h5=>?_⟩
 ·by_cases k:j=i
  ·simp only[if_pos k,length_append]
   show(rs i).length+1<=12
   omega
  ·simp only[if_neg k]
   exact h.hi j hj
 ·by_cases k:j=i
  ·subst k
   simp only[if_true]at he
   rcases mem_append.mp he with he|he
   ·exact h.g4 j hj e he
   ·rw[mem_singleton.mp he];exact g
  ·simp only[if_neg k]at he
   exact h.g4 j hj e he
 ·by_cases k:j=i
  ·subst k
   rw[hi]at hb
   cases hb
   simp only[if_true]at he
   rcases mem_append.mp he with he|he
   ·exact h.cl j a hi e he h5
   ·rw[mem_singleton.mp he]at h5 ⊢;exact hc h5
  ·simp only[if_neg k]at he
   exact h.cl j b hb e he h5
theorem G6{ds:List Q4}{n:Nat}(hn:n=ds.length):(List.range n).map (fun m=>V.str ((ds.map Q4.nm).getD m ""))=(ds.map Q4.nm).map V.str:=by
 apply ext_getElem
 ·simp[hn]
 ·intro m h1 h2
  have:m<ds.length:=by simpa using h2
  simp[this]
theorem DictAt.get{H0 H H':Hp}{R:Addr}{as:List (List Str)}{n i:Nat}{L:Nat->Addr}{rs:Nat->List Q4}{a:List Str}(h:DictAt H0 H R as n L rs)(hi:i<n)(ha:as[i]? = some a)(s:az H H'):mH H' R (V.str (dotted a)) (some (.ref (L i))):=by
 obtain⟨kvs,hk,_,hv⟩:=h.dk
 have:=mH.k (k:=.inr (dotted a)) (s _ _ hk)
 rw[hv i a hi ha]at this
 exact this
def vJ(ds:List Q4)(m:Nat)(r:cu):Prop:=∃ d,ds[m]? = some d/\GoodR r/\r.so=d.so/\r.nm=d.nm/\(d.so<5->r.ad=d.ad/\r.wd=d.wd)
def rK(ds:List Q4)(rr:List cu):Prop:=rr.length=ds.length/\∀ (m:Nat) r,rr[m]? = some r->vJ ds m r
def Jr(K:Frag):Sp:=fun vs H Q _=>∃ (S la lw:Addr) (ns:List Int) (as:List (List Str)) (ws:List Str),vs=[.ref S,.ref la,.ref lw]/\SqL K H S (ns.map V.int)/\H la=some (.lst ((as.map dotted).map V.str))/\as≠[]/\cP as/\H lw=some (.lst (ws.map V.str))/\ws.length=8/\(∀ w∈ws,cB w) /\
 ∀ R H' L rs,az H H'->DictAt H H' R as as.length L rs->lg as rs->Q (.ref R) H'
def CK(C:Nat->Addr):Sp:=fun vs H Q _=>∃ (H0:Hp) (R la:Addr) (as:List (List Str)) (L:Nat->Addr) (rs:Nat->List Q4),vs=[.ref la,.ref R]/\H la=some (.lst ((as.map dotted).map V.str))/\cP as/\DictAt H0 H R as as.length L rs/\lg as rs /\
 ∀ d H1 xs ps,az H H1->H1 d=none->pK C H1 xs ps->adS ps=as.map dotted->bz ps->(∀ (i:Nat) p,ps[i]? = some p->as[i]? = some p.ad/\rK (rs i) p.rs)->Q (.ref d) (upd H1 d (.lst xs))
def yQ(K:Frag):Sp:=fun vs H Q _=>∃ (S:Addr) (ns:List Int),vs=[.ref S]/\SqL K H S (ns.map V.int) /\
 ∀ (p lw la R:Addr) (ws:List Str) (as:List (List Str)) L rs H1 H',H' p=some (.tup [.ref lw,.ref la,.ref R])->az H H'->H' lw=some (.lst (ws.map V.str))->ws.length=8->(∀ w∈ws,cB w)->H' la=some (.lst ((as.map dotted).map V.str))->as≠[]->cP as->DictAt H1 H' R as as.length L rs->lg as rs->Q (.ref p) H'
structure xQ(as:List (List Str))(p:aX):Prop where
 ok:GZ p
 cl:∀ r∈p.rs,r.nm ≠ "" -> dotted p.ad ++ "." ++ r.nm∉as.map dotted
theorem M5{as:List (List Str)}{ps:List aX}(hl:ps.length=as.length)(h:∀ (i:Nat) p,ps[i]? = some p->as[i]? = some p.ad):adS ps=as.map dotted:=by
 unfold adS
 apply ext_getElem
 ·simp[hl]
 ·intro i h1 h2
  have hi:i<ps.length:=by simpa using h1
  have hj:i<as.length:=by omega
  have:=h i _ (getElem?_eq_getElem hi)
  rw[getElem?_eq_getElem hj]at this
  simp[Option.some.inj this]
theorem GR{as:List (List Str)}{ps:List aX}(g:cP as)(hl:ps.length=as.length)(e:adS ps=as.map dotted)(h:∀ p∈ps,p.ad∈as/\xQ as p):bz ps:=by
 refine⟨by rw[hl];exact g.hi,fun p hp=>(h p hp).2.ok,by rw[e];exact g.nd,fun p hp=>?_,fun p hp r hr hn=>by rw[e];exact(h p hp).2.cl r hr hn⟩
 rw[e]
 exact(g.up _ (h p hp).1).imp id fun z=>mem_map.mpr ⟨_,z,rfl⟩
def il(ys:List Str):List Str:=(List.range ys.length).map fun i=>dotted (ys.take (i+1))
theorem rE(ys:List Str):(il ys).length=ys.length:=by unfold il;rw[length_map,length_range]
def rC(z:Str):List Str:=il (Txt.split z ("." : Str))
theorem qO{ys:List Str}(g:bW ys):rC (dotted ys)=il ys:=by
 unfold rC
 rw[cj ys g.lo g.nm]
def cV(r:cu):List Str:=(dq r).flatMap fun ad=>rC ad++(if r.so=4 then[ad ++ "." ++ r.wd]else[])
def linked(p:aX):List Str:=ji p.ad::p.rs.flatMap cV
theorem wu{r:cu}(g:GoodR r):(cV r).length<=4:=by
 unfold cV dq
 obtain⟨ys,gy,e⟩:=g.ad
 by_cases c:r.so=2\/r.so=3\/r.so=4
 ·rw[if_pos c]
  have hp:(rC r.ad).length<=3:=by rw[e,qO gy,rE];exact gy.hi
  simp only[List.flatMap_cons,List.flatMap_nil,append_nil,length_append]
  split
  ·show _+1<=4;omega
  ·show _+0<=4;omega
 ·rw[if_neg c]
  exact zero_le _
theorem Fi{rs:List cu}(h:∀ r∈rs,GoodR r):(rs.flatMap cV).length<=4*rs.length:=by
 induction rs with
 | nil=>simp
 | cons r t ih =>
  rw[List.flatMap_cons,length_append,length_cons]
  have h1:=wu (h r Z2)
  have h2:=ih fun r hr=>h r (mem_cons_of_mem _ hr)
  omega
theorem wH{α:Type}{f:α->List Str}{rs:List α}{i:Nat}{r:α}(e:rs[i]? = some r):(rs.take (i+1)).flatMap f=(rs.take i).flatMap f++f r:=by
 rw[take_succ,e,List.flatMap_append]
 simp
theorem jL(y:Str)(zs:List Str):inV (.str y) (zs.map V.str)=decide (y∈zs):=by
 by_cases h:y∈zs
 ·rw[decide_eq_true h];exact rB (mem_map.mpr ⟨y,h,rfl⟩)
 ·rw[decide_eq_false h]
  exact Bj fun v hv=>by
   obtain⟨z,hz,rfl⟩:=mem_map.mp hv
   exact⟨z,rfl,fun e=>h (e▸hz)⟩
theorem Kp(zs ls:List Str):(zs.map V.str).filter (fun v=>inV v (ls.map V.str))=(zs.filter fun y=>decide (y∈ls)).map V.str:=by
 rw[dF]
 congr 1
 exact filter_congr fun y _=>jL y ls
def xf(d:Q4):List Str:=(if d.so=2\/d.so=3\/d.so=4 then rC d.ad else[])++(if d.so=4 then[d.ad ++ "." ++ d.wd]else[])
theorem Ek{ds:List Q4}{m:Nat}{r:cu}(h:vJ ds m r):∃ d,ds[m]? = some d/\cV r=xf d:=by
 obtain⟨d,ed,_,e1,_,e2⟩:=h
 refine⟨d,ed,?_⟩
 unfold cV xf dq
 rw[e1]
 by_cases c:d.so=2\/d.so=3\/d.so=4
 ·rw[if_pos c,if_pos c]
  obtain⟨e3,e4⟩:=e2 Z1
  rw[e3,e4]
  simp
 ·rw[if_neg c,if_neg c,if_neg Z1]
  simp
theorem BK{ds:List Q4}{rr:List cu}(h:rK ds rr):rr.flatMap cV=ds.flatMap xf:=by
 rw[List.flatMap_def,List.flatMap_def]
 congr 1
 apply ext_getElem
 ·simp[h.1]
 ·intro i h1 h2
  have hi:i<rr.length:=by simpa using h1
  obtain⟨d,ed,e⟩:=Ek (h.2 i _ (getElem?_eq_getElem hi))
  have hd:=(List.getElem?_eq_some_iff.mp ed)
  simp[e,hd.2]
def tX:Sp:=fun vs H Q _=>∃ ys:List Str,vs=[.str (dotted ys)]/\bW ys/\∀ p H',H p=none->az H H'->H' p=some (.lst ((il ys).map V.str))->Q (.ref p) H'
def BW(C:Nat->Addr):Sp:=fun vs H Q _=>∃ (a t:Addr) (r:cu),vs=[.ref a]/\dU C H a t r/\GoodR r/\∀ b H',H b=none->az H H'->H' b=some (.lst ((cV r).map V.str))->Q (.ref b) H'
def nW(C:Nat->Addr):Sp:=fun vs H Q E=>∃ (h l:Addr) (ps:List aX) (z:Str),vs=[.ref h,.str z]/\bT C H h l ps/\bz ps/\z.length<=1000 /\
 (∀ (i:Nat) p,ps[i]? = some p->dotted p.ad=z->∀ b H' zs,H b=none->az H H'->zs.Perm (adS ps)->sortedS zs=true->H' b=some (.lst ((zs.filter fun y=>decide (y∈linked p)).map V.str))->Q (.ref b) H')/\(z∉adS ps->∀ x H',az H H'->jX C H' x z->E (.ref x) none H')
theorem jE:∀{xs zs:List Str},xs.Nodup->(∀ x∈xs,x∈zs)->xs.length<=zs.length
 | [],_,_,_=>zero_le _
 | x::xs,zs,h,hs=>by
  have hx:x∈zs:=hs x Z2
  have h2:x∉xs:=(nodup_cons.mp h).1
  have:=jE (zs:=zs.erase x) (nodup_cons.mp h).2 fun y hy=>(List.mem_erase_of_ne (fun e:y=x=>h2 (e▸hy))).mpr (hs y (mem_cons_of_mem _ hy))
  rw[List.length_erase_of_mem hx]at this
  have h3:=List.length_pos_of_mem hx
  rw[length_cons]
  omega
structure Gr(zs:List Str)(nb:Str->List Str):Prop where
 hi:zs.length<=12
 nd:zs.Nodup
 cl:∀ z∈zs,∀ y∈nb z,y∈zs
 nn:∀ z∈zs,(nb z).Nodup
theorem Gr.len{zs:List Str}{nb:Str->List Str}(g:Gr zs nb){z:Str}(h:z∈zs):(nb z).length<=12:=le_trans (jE (g.nn z h) (g.cl z h)) g.hi
inductive Rch(nb:Str->List Str)(a:Str):Str->Prop
 | one {y:Str}:y∈nb a->Rch nb a y
 | more {x y:Str}:Rch nb a x->y∈nb x->Rch nb a y
theorem Rch.mem{zs:List Str}{nb:Str->List Str}(g:Gr zs nb){a y:Str}(ha:a∈zs)(h:Rch nb a y):y∈zs:=by
 induction h with
 | one h=>exact g.cl a ha _ h
 | more _ h ih=>exact g.cl _ ih _ h
theorem Rch.in{nb:Str->List Str}{a y:Str} {fs:List Str} (h1:∀ y∈nb a,y∈fs) (h2:∀ x∈fs,∀ y∈nb x,y∈fs) (h:Rch nb a y):y∈fs:=by
 induction h with
 | one h=>exact h1 _ h
 | more _ h ih=>exact h2 _ ih _ h
theorem Rch.of_eq {zs:List Str} {nb nc:Str -> List Str} (g:Gr zs nb) {a y:Str} (ha:a ∈ zs) (e:∀ z ∈ zs,nb z = nc z) (h:Rch nb a y):Rch nc a y:=by
 induction h with
 | one h=>exact .one (e a ha ▸ h)
 | more h1 h ih=>exact .more ih (e _ (h1.mem g ha) ▸ h)
def jY(H:Hp)(R:Addr)(zs:List Str)(nb:Str->List Str):Prop:=∃ kvs:List (Key×V),H R=some (.dK kvs)/\kvs.map (·.1)=zs.map Sum.inr/\∀ z∈zs,∃ l,fP kvs (.inr z)=some (.ref l)/\H l=some (.lst ((nb z).map V.str))
theorem jY.same{H H':Hp}{R:Addr}{zs:List Str}{nb:Str->List Str}(h:jY H R zs nb)(s:az H H'):jY H' R zs nb:=by
 obtain⟨kvs,h1,h2,h3⟩:=h
 exact⟨kvs,s _ _ h1,h2,fun z hz=>by obtain⟨l,e1,e2⟩:=h3 z hz;exact⟨l,e1,s _ _ e2⟩⟩
theorem jY.gets{H:Hp}{R:Addr}{zs:List Str}{nb:Str->List Str}{z:Str}(h:jY H R zs nb)(hz:z∈zs):∃ l,(∀ H',az H H'->mH H' R (V.str z) (some (.ref l)))/\H l=some (.lst ((nb z).map V.str)):=by
 obtain⟨kvs,h1,h2,h3⟩:=h
 obtain⟨l,e1,e2⟩:=h3 z hz
 refine⟨l,fun H' s=>?_,e2⟩
 have:=mH.k (k:=.inr z) (s _ _ h1)
 rw[e1]at this
 exact this
theorem has_key{kvs:List (Key×V)}{fs:List Str}(h:kvs.map (·.1)=fs.map Sum.inr)(x:Str):(fP kvs (.inr x)).isSome=decide (x∈fs):=by
 rw[<- jW]
 by_cases hx:x∈fs
 ·rw[decide_eq_true hx,any_eq_true]
  have:(Sum.inr x:Key)∈kvs.map (·.1):=by rw[h];exact mem_map.mpr ⟨x,hx,rfl⟩
  obtain⟨kv,hkv,e⟩:=mem_map.mp this
  exact⟨kv,hkv,decide_eq_true e⟩
 ·rw[decide_eq_false hx,any_eq_false]
  intro kv hkv k
  have:kv.1∈kvs.map (·.1):=mem_map.mpr ⟨kv,hkv,rfl⟩
  rw[of_decide_eq_true k,h]at this
  obtain⟨y,hy,e⟩:=mem_map.mp this
  exact hx (Sum.inr.inj e▸hy)
theorem KJ{kvs:List (Key×V)}{fs:List Str}(h:kvs.map (·.1)=fs.map Sum.inr){x:Str}(hx:x∉fs)(v:V):putK kvs (.inr x) v=kvs++[(.inr x,v)]:=by
 have:=has_key h x
 rw[decide_eq_false hx,<- jW]at this
 unfold putK
 rw[if_neg (by rw[this];decide)]
theorem uV{kvs:List (Key×V)}{fs:List Str}(h:kvs.map (·.1)=fs.map Sum.inr){x:Str}(hx:x∉fs)(v:V):(putK kvs (.inr x) v).map (·.1)=(fs++[x]).map Sum.inr:=by
 rw[KJ h hx,map_append,map_append,h]
 rfl
theorem m6{kvs:List (Key×V)}{fs:List Str}(h:kvs.map (·.1)=fs.map Sum.inr):kvs.length=fs.length:=by have:=congrArg List.length h;simpa using this
theorem jY.more{H:Hp}{R l:Addr}{zs:List Str}{nb:Str->List Str}{z:Str}(h:jY H R zs nb)(hz:z∉zs)(hl:H l=some (.lst ((nb z).map V.str))) :
  ∃ kvs,H R=some (.dK kvs)/\kvs.length=zs.length/\jY (upd H R (.dK (putK kvs (.inr z) (.ref l)))) R (zs++[z]) nb:=by
 obtain⟨kvs,h1,h2,h3⟩:=h
 have off:∀ b xs,H b=some (.lst xs)->(upd H R (.dK (putK kvs (.inr z) (.ref l)))) b=some (.lst xs):=fun b xs e=>by rw[aD (eZ e h1 Z7)];exact e
 refine⟨kvs,h1,m6 h2,_,ao,uV h2 hz _,fun y hy=>?_⟩
 by_cases e:y=z
 ·subst e
  exact⟨l,by rw[qD,if_pos rfl],off _ _ hl⟩
 ·have hy2:y∈zs:=by
   rcases mem_append.mp hy with k|k
   ·exact k
   ·exact absurd (mem_singleton.mp k) e
  obtain⟨l2,e1,e2⟩:=h3 y hy2
  exact⟨l2,by rw[qD,if_neg (fun k=>e (Sum.inr.inj k))];exact e1,off _ _ e2⟩
theorem jY.but{H:Hp}{R:Addr}{zs:List Str}{nb nc:Str->List Str}(h:jY H R zs nb)(e:∀ z∈zs,nb z=nc z):jY H R zs nc:=by
 obtain⟨kvs,h1,h2,h3⟩:=h
 exact⟨kvs,h1,h2,fun z hz=>by rw[<- e z hz];exact h3 z hz⟩
theorem Dp {H H':Hp} {R:Addr} {u:HO} (h:Rd H R u) (s:az H H'):Rd H' R u:=by
 rcases h with e | ⟨o,e⟩
 ·exact .inl (s _ _ e)
 ·exact .inr ⟨o,s _ _ e⟩
def LkG(H:Hp)(R:Addr)(zs:List Str)(nb:Str->List Str):Prop:=∃ kvs:List (Key×V),Rd H R (.dK kvs)/\kvs.map (·.1)=zs.map Sum.inr/\∀ z∈zs,∃ l,fP kvs (.inr z)=some (.ref l)/\H l=some (.lst ((nb z).map V.str))
theorem LkG.same{H H':Hp}{R:Addr}{zs:List Str}{nb:Str->List Str}(h:LkG H R zs nb)(s:az H H'):LkG H' R zs nb:=by
 obtain⟨kvs,h1,h2,h3⟩:=h
 exact⟨kvs,Dp h1 s,h2,fun z hz=>by obtain⟨l,e1,e2⟩:=h3 z hz;exact⟨l,e1,s _ _ e2⟩⟩
theorem LkG.get{H:Hp}{R:Addr}{zs:List Str}{nb:Str->List Str}{z:Str}(h:LkG H R zs nb)(hz:z∈zs):∃ l,mH H R (V.str z) (some (.ref l))/\H l=some (.lst ((nb z).map V.str)):=by
 obtain⟨kvs,h1,h2,h3⟩:=h
 obtain⟨l,e1,e2⟩:=h3 z hz
 have:mH H R (V.str z) (fP kvs (.inr z)):=.inl ⟨kvs,.inr z,h1,rfl,rfl⟩
 rw[e1]at this
 exact⟨l,this,e2⟩
theorem LkG.gets{H:Hp}{R:Addr}{zs:List Str}{nb:Str->List Str}{z:Str}(h:LkG H R zs nb)(hz:z∈zs):∃ l,(∀ H',az H H'->mH H' R (V.str z) (some (.ref l)))/\H l=some (.lst ((nb z).map V.str)):=by
 obtain⟨kvs,h1,h2,h3⟩:=h
 obtain⟨l,e1,e2⟩:=h3 z hz
 refine⟨l,fun H' s=>?_,e2⟩
 have:mH H' R (V.str z) (fP kvs (.inr z)):=.inl ⟨kvs,.inr z,Dp h1 s,rfl,rfl⟩
 rw[e1]at this
 exact this
theorem jY.g{H:Hp}{R:Addr}{zs:List Str}{nb:Str->List Str}(h:jY H R zs nb):LkG H R zs nb:=by
 obtain⟨kvs,h1,h2,h3⟩:=h
 exact⟨kvs,.inl h1,h2,h3⟩
def Px(H:Hp)(R A F:Addr)(a:Str)(zs:List Str)(nb:Str->List Str)(m:Nat)(σ:L2.St)(H':Hp):Prop:=∃ (as fs:List Str) (kvs:List (Key×V)) (v:Option V),σ=[some (.ref R),some (.str a),some (.ref A),some (.ref F),v]/\az H H' /\
 H' A=some (.lst (as.map V.str))/\H' F=some (.dK kvs)/\kvs.map (·.1)=fs.map Sum.inr/\fs.Nodup/\(∀ x∈as,Rch nb a x)/\(∀ x∈fs,Rch nb a x)/\(∀ y∈nb a,y∈as\/y∈fs)/\(∀ x∈fs,∀ y∈nb x,y∈as\/y∈fs)/\as.length<=12*(1+fs.length)/\m=13*(zs.length - fs.length)+as.length
def rN:Sp:=fun vs H Q _=>∃ (R:Addr) (a:Str) (zs:List Str) (nb:Str->List Str),vs=[.ref R,.str a]/\LkG H R zs nb/\Gr zs nb/\a∈zs/\∀ l H' ys,H l=none->az H H'->ys.Nodup->sortedS ys=true->(∀ y,y∈ys↔Rch nb a y)->H' l=some (.lst (ys.map V.str))->Q (.ref l) H'
def bQ(ps:List aX)(zs:List Str)(z:Str):List Str:=match ps.find? fun p=>decide (dotted p.ad=z)with|some p=>zs.filter fun y=>decide (y∈linked p)|none=>[]
theorem wR{ps:List aX}(nd:(adS ps).Nodup){i:Nat}{p:aX}(h:ps[i]? = some p)(zs:List Str):bQ ps zs (dotted p.ad)=zs.filter fun y=>decide (y∈linked p):=by
 have:ps.find? (fun q=>decide (dotted q.ad=dotted p.ad))=some p:=by
  cases e:ps.find? (fun q=>decide (dotted q.ad=dotted p.ad))with
  | none=>exact absurd (decide_eq_true rfl) (List.find?_eq_none.mp e p (mem_of_getElem? h))
  | some q =>
   have h1:dotted q.ad=dotted p.ad:=by simpa using List.find?_some e
   obtain⟨j,hj,ej⟩:=getElem_of_mem (List.mem_of_find?_eq_some e)
   have e1:(adS ps)[i]? = some (dotted p.ad):=by unfold adS;rw[getElem?_map,h];rfl
   have e2:(adS ps)[j]? = some (dotted q.ad):=by unfold adS;rw[getElem?_map,getElem?_eq_getElem hj,ej];rfl
   have:i=j:=(getElem?_inj (List.getElem?_eq_some_iff.mp e1).1 nd).mp (by rw[e1,e2,h1])
   subst this
   rw[getElem?_eq_getElem hj,ej]at h
   exact h
 unfold bQ
 rw[this]
theorem o6{ps:List aX}(g:bz ps){zs:List Str}(h:zs.Perm (adS ps)):Gr zs (bQ ps zs):=by
 have hn:zs.Nodup:=h.nodup_iff.mpr g.nd
 refine⟨by rw[h.length_eq];unfold adS;rw[length_map];exact g.hi,hn,fun z _ y hy=>?_,fun z _=>?_⟩
 ·unfold bQ at hy
  split at hy
  ·exact(mem_filter.mp hy).1
  ·cases hy
 ·unfold bQ
  split
  ·exact hn.filter _
  ·exact nodup_nil
def CP(C:Nat->Addr):Sp:=fun vs H Q _=>∃ (h l:Addr) (ps:List aX),vs=[.ref h]/\bT C H h l ps/\bz ps/\∀ R H' zs,zs.Perm (adS ps)->sortedS zs=true->H R=none->az H H'->jY H' R zs (bQ ps zs)->Q (.ref R) H'
def Ma(C:Nat->Addr):Sp:=fun vs H Q E=>∃ (h l:Addr) (ps:List aX) (z:Str),vs=[.ref h,.str z]/\bT C H h l ps/\bz ps/\z.length<=1000/\(z∈adS ps->Pur .non H Q)/\(z∉adS ps->∀ x H',az H H'->jX C H' x z->E (.ref x) none H')
def wQ(C:Nat->Addr):Sp:=fun vs H Q E=>∃ (h l:Addr) (ps:List aX) (z:Str),vs=[.ref h,.str z]/\bT C H h l ps/\bz ps/\z.length<=1000 /\
 (z∈adS ps->∀ l H' zs ys,zs.Perm (adS ps)->sortedS zs=true->H l=none->az H H'->ys.Nodup->sortedS ys=true->(∀ y,y∈ys↔Rch (bQ ps zs) z y)->H' l=some (.lst (ys.map V.str))->Q (.ref l) H')/\(z∉adS ps->∀ x H',az H H'->jX C H' x z->E (.ref x) none H')
structure nH(nb:Str->List Str)(one other:Str)(w:List Str):Prop where
 lo:2<=w.length
 hi:w.length<=13
 fst:w[0]? = some one
 lst:w[w.length - 1]? = some other
 st:∀ (k:Nat) x y,w[k]? = some x->w[k+1]? = some y->y∈nb x
 nr:∀ (k:Nat) y,1<=k->w[k]? = some y->y∉(w.take k).drop 1
 nf:∀ (k:Nat),1<=k->w[k]? = some one->k=w.length - 1
def GD(C:Nat->Addr):Sp:=fun vs H Q E=>∃ (h l:Addr) (ps:List aX) (one other:Str),vs=[.ref h,.str one,.str other]/\bT C H h l ps/\bz ps/\one.length<=1000/\other.length<=1000 /\
 (one∈adS ps->other∈adS ps->∀ H' zs,zs.Perm (adS ps)->sortedS zs=true->az H H'->(¬Rch (bQ ps zs) one other->Q .non H')/\∀ l w,H l=none->nH (bQ ps zs) one other w->H' l=some (.lst (w.map V.str))->Q (.ref l) H') /\
 (one∉adS ps->∀ x H',az H H'->jX C H' x one->E (.ref x) none H')/\(one∈adS ps->other∉adS ps->∀ x H',az H H'->jX C H' x other->E (.ref x) none H')
structure mV(nb:Str->List Str)(one other:Str)(fs w:List Str):Prop where
 fst:w[0]? = some one
 st:∀ (k:Nat) x y,w[k]? = some x->w[k+1]? = some y->y∈nb x
 nd:w.Nodup
 se:∀ x∈w,x∈fs
 no:∀ (k:Nat) y,1<=k->w[k]? = some y->y≠other
theorem mV.mono{nb:Str->List Str}{one other:Str}{fs gs w:List Str}(h:mV nb one other fs w)(s:∀ x∈fs,x∈gs):mV nb one other gs w:=⟨h.fst,h.st,h.nd,fun x hx=>s x (h.se x hx),h.no⟩
theorem oK {w:List Str} {x y:Str} {k:Nat} (h:(w ++ [x])[k]? = some y):(k < w.length /\ w[k]? = some y) \/ (k = w.length /\ y = x):=by
 rcases lt_or_ge k w.length with z | z
 ·rw [getElem?_append_left z] at h; exact .inl ⟨z,h⟩
 ·rw [getElem?_append_right z] at h
  have hk:k - w.length = 0:=by
   have:=(List.getElem?_eq_some_iff.mp h).1
   simp at this
   omega
  rw [hk] at h
  cases h
  exact .inr ⟨Z1,rfl⟩
theorem BX{nb:Str->List Str}{w:List Str}{x y:Str}(hl:w.getLast? = some x)(hy:y∈nb x)(st:∀ (k:Nat) x y,w[k]? = some x->w[k+1]? = some y->y∈nb x):∀ (k:Nat) a b,(w++[y])[k]? = some a->(w++[y])[k+1]? = some b->b∈nb a:=fun k a b e1 e2=>by
 rcases oK e2 with⟨z,e3⟩|⟨z,rfl⟩
 ·rcases oK e1 with⟨_,e4⟩|⟨z2,_⟩
  ·exact st k a b e4 e3
  ·omega
 ·rcases oK e1 with⟨z2,e4⟩|⟨z2,_⟩
  ·rw[List.getLast?_eq_getElem?,<- z,Nat.add_sub_cancel,e4]at hl
   cases hl
   exact hy
  ·omega
theorem mV.more{nb:Str->List Str}{one other:Str}{fs w:List Str}{x y:Str}(h:mV nb one other fs w)(hl:w.getLast? = some x)(hy:y∈nb x)(hn:y∉fs)(ho:y≠other):mV nb one other (fs++[y]) (w++[y]):=by
 have h0:0<w.length:=by have:=(List.getElem?_eq_some_iff.mp h.fst).1;exact this
 refine⟨by rw[getElem?_append_left h0];exact h.fst,BX hl hy h.st,?_,fun z hz=>?_,fun k z k1 e=>?_⟩
 ·exact n6 h.nd fun z=>hn (h.se y z)
 ·rcases mem_append.mp hz with k|k
  ·exact mem_append_left _ (h.se z k)
  ·exact mem_append_right _ k
 ·rcases oK e with⟨_,e3⟩|⟨_,rfl⟩
  ·exact h.no k z k1 e3
  ·exact ho
theorem mV.walk{nb:Str->List Str}{one other:Str}{zs fs w:List Str}{x:Str}(h:mV nb one other fs w)(hl:w.getLast? = some x)(hy:other∈nb x)(hz:∀ y∈fs,y∈zs)(h12:zs.length<=12):nH nb one other (w++[other]):=by
 have h0:0<w.length:=(List.getElem?_eq_some_iff.mp h.fst).1
 have hw:w.length<=12:=le_trans (jE h.nd fun y hy=>hz y (h.se y hy)) h12
 have hle:(w++[other]).length=w.length+1:=by simp
 refine⟨Z1,Z1,by rw[getElem?_append_left h0];exact h.fst,by rw[hle,Nat.add_sub_cancel,getElem?_append_right (le_refl _),Nat.sub_self];rfl,BX hl hy h.st,fun k y k1 e hm=>?_,fun k k1 e=>?_⟩
 ·rcases oK e with⟨z,e3⟩|⟨z,rfl⟩
  ·rw[List.take_append_of_le_length Z1]at hm
   have hm2:=List.mem_of_mem_drop hm
   obtain⟨j,hj,ej⟩:=getElem_of_mem hm2
   have hjk:j<k:=lt_of_lt_of_le hj (length_take_le k w)
   have e4:w[j]? = some y:=by
    have:=getElem?_eq_getElem hj
    rw[ej,getElem?_take]at this
    simpa [hjk] using this
   have:=(getElem?_inj Z1 h.nd).mp (e4.trans e3.symm)
   omega
  ·rw[z,List.take_append_of_le_length (le_refl _),take_length]at hm
   obtain⟨j,hj,ej⟩:=getElem_of_mem hm
   rw[List.getElem_drop]at ej
   have hj2:1+j<w.length:=by rw[List.length_drop]at hj;omega
   exact h.no (1+j) y Z1 (by rw[getElem?_eq_getElem hj2,ej]) rfl
 ·rcases oK e with⟨z,e3⟩|⟨z,_⟩
  ·have:=(getElem?_inj Z1 h.nd).mp (h.fst.trans e3.symm)
   omega
  ·omega
def Oo(zs:List Str)(nb bh:Str->List Str):Prop:=∀ z∈zs,(bh z).Nodup/\∀ y,y∈bh z↔Rch nb z y
structure jc(H:Hp)(Wd Sd:Addr)(one other:Str)(zs:List Str)(nb:Str->List Str)(H':Hp)(wss:List (List Str))(fs:List Str):Prop where
 sm:az H H'
 wd:∃ xs:List V,H' Wd=some (.lst xs)/\xs.length=wss.length/\∀ (i:Nat) w,wss[i]? = some w->∃ l,xs[i]? = some (.ref l)/\H' l=some (.lst (w.map V.str))/\l≠Wd
 sd:∃ kvs:List (Key×V),H' Sd=some (.dK kvs)/\kvs.map (·.1)=fs.map Sum.inr
 nd:fs.Nodup
 fz:∀ x∈fs,x∈zs
 on:one∈fs
 ok:∀ w∈wss,mV nb one other fs w
def Ol(H:Hp)(h R Wd Sd:Addr)(one other:Str)(zs:List Str)(nb:Str->List Str)(m:Nat)(σ:L2.St)(H':Hp):Prop:=∃ (v6 v7:Option V) (wss:List (List Str)) (fs:List Str),σ=[some (.ref h),some (.str one),some (.str other),some (.ref R),some (.ref Wd),some (.ref Sd),v6,v7]/\jc H Wd Sd one other zs nb H' wss fs /\
 (∀ x∈fs,(∃ w∈wss,w.getLast? = some x)\/∀ y∈nb x,y≠other/\y∈fs)/\m=2*(zs.length - fs.length)+wss.length/\m<=30
theorem jc.same{H:Hp}{Wd Sd:Addr}{one other:Str}{zs:List Str}{nb:Str->List Str}{H' H'':Hp}{wss:List (List Str)}{fs:List Str}(c:jc H Wd Sd one other zs nb H' wss fs)(s:az H' H''):jc H Wd Sd one other zs nb H'' wss fs:=by
 obtain⟨sm,⟨xs,h1,h2,h3⟩,⟨kvs,h4,h5⟩,a,b,d,e⟩:=c
 exact⟨sm.trans s,⟨xs,s _ _ h1,h2,fun i w ew=>by obtain⟨l,e1,e2,e3⟩:=h3 i w ew;exact⟨l,e1,s _ _ e2,e3⟩⟩,⟨kvs,s _ _ h4,h5⟩,a,b,d,e⟩
theorem jc.see{H:Hp}{Wd Sd:Addr}{one other:Str}{zs:List Str}{nb:Str->List Str}{H':Hp}{wss:List (List Str)}{fs:List Str}{y:Str}(c:jc H Wd Sd one other zs nb H' wss fs)(h0:H Sd=none)(hy:y∉fs)(hz:y∈zs) :
  ∃ kvs,H' Sd=some (.dK kvs)/\kvs.length=fs.length/\jc H Wd Sd one other zs nb (upd H' Sd (.dK (putK kvs (.inr y) (.bl true)))) wss (fs++[y]):=by
 obtain⟨sm,⟨xs,h1,h2,h3⟩,⟨kvs,h4,h5⟩,a,b,d,e⟩:=c
 have off:∀ b xs,H' b=some (.lst xs)->(upd H' Sd (.dK (putK kvs (.inr y) (.bl true)))) b=some (.lst xs):=fun b xs e=>by rw[aD (eZ e h4 Z7)];exact e
 refine⟨kvs,h4,m6 h5,sm.over h0,⟨xs,off _ _ h1,h2,fun i w ew=>by obtain⟨l,e1,e2,e3⟩:=h3 i w ew;exact⟨l,e1,off _ _ e2,e3⟩⟩,⟨_,ao,uV h5 hy _⟩,n6 a hy,fun x hx=>?_,mem_append_left _ d,fun w hw=>(e w hw).mono fun x hx=>mem_append_left _ hx⟩
 rcases mem_append.mp hx with k|k
 ·exact b x k
 ·rw[mem_singleton.mp k];exact hz
theorem jc.push{H:Hp}{Wd Sd e:Addr}{one other:Str}{zs:List Str}{nb:Str->List Str}{H':Hp}{wss:List (List Str)}{fs w:List Str}(c:jc H Wd Sd one other zs nb H' wss fs)(h0:H Wd=none)(he:H' e=some (.lst (w.map V.str)))(hne:e≠Wd)(hw:mV nb one other fs w) :
  ∃ xs,H' Wd=some (.lst xs)/\xs.length=wss.length/\jc H Wd Sd one other zs nb (upd H' Wd (.lst (xs++[.ref e]))) (wss++[w]) fs:=by
 obtain⟨sm,⟨xs,h1,h2,h3⟩,⟨kvs,h4,h5⟩,a,b,d,f⟩:=c
 refine⟨xs,h1,h2,sm.over h0,⟨_,ao,by rw[length_append,length_append,h2];rfl,fun i v ev=>?_⟩,⟨kvs,by rw[aD (eZ h4 h1 Z7)];exact h4,h5⟩,a,b,d,fun v hv=>?_⟩
 ·rcases lt_or_ge i wss.length with z|z
  ·rw[getElem?_append_left z]at ev
   obtain⟨l,e1,e2,e3⟩:=h3 i v ev
   exact⟨l,by rw[getElem?_append_left Z1];exact e1,by rw[aD e3];exact e2,e3⟩
  ·rw[getElem?_append_right z]at ev
   have hk:i - wss.length=0:=by
    have:=(List.getElem?_eq_some_iff.mp ev).1
    simp at this
    omega
   rw[hk]at ev
   cases ev
   exact⟨e,by rw[getElem?_append_right Z1,h2,hk];rfl,by rw[aD hne];exact he,hne⟩
 ·rcases mem_append.mp hv with k|k
  ·exact f v k
  ·rw[mem_singleton.mp k];exact hw
theorem jc.pop{H:Hp}{Wd Sd:Addr}{one other:Str}{zs:List Str}{nb:Str->List Str}{H':Hp}{wss:List (List Str)}{fs w:List Str}(c:jc H Wd Sd one other zs nb H' (w::wss) fs)(h0:H Wd=none) :
  ∃ l xs,H' Wd=some (.lst (.ref l::xs))/\H' l=some (.lst (w.map V.str))/\l≠Wd/\jc H Wd Sd one other zs nb (upd H' Wd (.lst xs)) wss fs:=by
 obtain⟨sm,⟨xs,h1,h2,h3⟩,⟨kvs,h4,h5⟩,a,b,d,f⟩:=c
 obtain⟨l,e1,e2,e3⟩:=h3 0 w rfl
 cases xs with
 | nil=>cases e1
 | cons v xt =>
  cases e1
  refine⟨l,xt,h1,e2,e3,sm.over h0,⟨_,ao,by simpa using h2,fun i v ev=>?_⟩,⟨kvs,by rw[aD (eZ h4 h1 Z7)];exact h4,h5⟩,a,b,d,fun v hv=>f v (mem_cons_of_mem _ hv)⟩
  obtain⟨l2,e4,e5,e6⟩:=h3 (i+1) v ev
  exact⟨l2,e4,by rw[aD e6];exact e5,e6⟩
theorem nH.mem{zs:List Str}{nb:Str->List Str}{one other:Str}{w:List Str}(g:Gr zs nb)(h:nH nb one other w)(h1:one∈zs):∀ (k:Nat) x,w[k]? = some x->x∈zs
 | 0,x,e=>by rw[h.fst]at e;cases e;exact h1
 | k+1,x,e=>by
  have hk:k<w.length:=by have:=(List.getElem?_eq_some_iff.mp e).1;omega
  have e2:w[k]? = some w[k]:=getElem?_eq_getElem hk
  exact g.cl _ (nH.mem g h h1 k _ e2) _ (h.st k _ _ e2 e)
def without(H:Hp)(B:Addr):Hp:=fun b=>if b=B then none else H b
theorem Am(H:Hp)(B:Addr):without H B B=none:=by unfold without;rw[if_pos rfl]
theorem lG{H:Hp}{B b:Addr}(h:b≠B):without H B b=H b:=by unfold without;rw[if_neg h]
theorem xu(H:Hp)(B:Addr):az (without H B) H:=fun b o e=>by
 unfold without at e
 split at e
 ·cases e
 ·exact e
theorem az.without{H H':Hp}{B:Addr}(s:az H H')(h:H B=none):az H (Mine.without H' B):=fun b o e=>by
 rw[lG (fun z=>by rw[z,h]at e;cases e)]
 exact s b o e
theorem nH.rch {nb:Str -> List Str} {one other:Str} {w:List Str} (h:nH nb one other w):Rch nb one other:=by
 have key:∀ (k:Nat) y,w[k + 1]? = some y -> Rch nb one y:=fun k=>by
  induction k with
  | zero=>exact fun y e=>.one (h.st 0 _ _ h.fst e)
  | succ k ih =>
   intro y e
   have hk:k + 1 < w.length:=by have:=(List.getElem?_eq_some_iff.mp e).1; omega
   have e2:w[k + 1]? = some w[k + 1]:=getElem?_eq_getElem hk
   exact .more (ih _ e2) (h.st (k + 1) _ _ e2 e)
 have hl:=h.lo
 have e:=h.lst
 rw [show w.length - 1 = (w.length - 2) + 1 from by omega] at e
 exact key _ _ e
theorem Rch.tr {nb:Str -> List Str} {a b c:Str} (h1:Rch nb a b) (h2:Rch nb b c):Rch nb a c:=by
 induction h2 with
 | one h=>exact .more h1 h
 | more _ h ih=>exact .more ih h
def cut(zs:List Str)(nb:Str->List Str):Str->List Str:=fun z=>if z∈zs then nb z else[]
theorem mK{zs:List Str}{nb:Str->List Str}{z:Str}(h:z∈zs):nb z=cut zs nb z:=(if_pos h).symm
theorem Gr.cut{zs:List Str}{nb:Str->List Str}(g:Gr zs nb):Gr zs (Mine.cut zs nb) :=
 ⟨g.hi,g.nd,fun z hz y hy=>g.cl z hz y (by rw[mK (nb:=nb) hz];exact hy),fun z hz=>by rw[<- mK hz];exact g.nn z hz⟩
theorem Gr.kgr{zs:List Str}{nb:Str->List Str}(g:Gr zs nb):Kgr zs nb (Rch nb):=⟨g.nd,g.cl,fun _ _ h=>.one h,fun _ _ _ h1 h2=>h1.tr h2⟩
noncomputable abbrev kn(zs:List Str)(nb:Str->List Str)(z:Str):List Str:=knot zs (Rch nb) z
noncomputable abbrev kss(zs:List Str)(nb:Str->List Str):List (List Str):=bj zs (Rch nb)
noncomputable abbrev kOr(zs:List Str)(nb:Str->List Str):List (List Str):=p8 zs nb (Rch nb)
theorem Nr{zs:List Str}{nb:Str->List Str}(g:Gr zs nb)(z:Str):(kn zs nb z).length<=12:=le_trans (length_filter_le _ _) g.hi
theorem sW{zs:List Str}{nb:Str->List Str}(g:Gr zs nb):(kss zs nb).length<=12:=by
 unfold kss bj
 rw[length_map]
 exact le_trans (length_filter_le _ _) g.hi
theorem xW{zs:List Str}{nb:Str->List Str}(g:Gr zs nb){k:List Str}(h:k∈kss zs nb):k.length<=12/\∀ y∈k,y∈zs:=by
 obtain⟨z,hz,rfl⟩:=(je g.kgr).mp h
 exact⟨Nr g z,fun y hy=>(cN.mp hy).1⟩
theorem qX{n:Nat}:∀ {l:List (List Str)},(∀ k∈l,k.length<=n)->l.flatten.length<=n*l.length
 | [],_=>zero_le _
 | k::l,h=>by
  rw[List.flatten_cons,length_append,length_cons,Nat.mul_succ]
  have h1:=h k Z2
  have h2:=qX (l:=l) fun j hj=>h j (mem_cons_of_mem _ hj)
  omega
def LkF(H:Hp)(R:Addr)(zs:List Str)(nb:Str->List Str):Prop:=∃ (o:Obj) (kvs:List (Key×V)),H R=some (.frz o (.dK kvs))/\kvs.map (·.1)=zs.map Sum.inr/\∀ z∈zs,∃ l,fP kvs (.inr z)=some (.ref l)/\H l=some (.lst ((nb z).map V.str))
theorem LkF.g{H:Hp}{R:Addr}{zs:List Str}{nb:Str->List Str}(h:LkF H R zs nb):LkG H R zs nb:=by
 obtain⟨o,kvs,h1,h2,h3⟩:=h
 exact⟨kvs,.inr ⟨o,h1⟩,h2,h3⟩
theorem LkF.same{H H':Hp}{R:Addr}{zs:List Str}{nb:Str->List Str}(h:LkF H R zs nb)(s:az H H'):LkF H' R zs nb:=by
 obtain⟨o,kvs,h1,h2,h3⟩:=h
 exact⟨o,kvs,s _ _ h1,h2,fun z hz=>by obtain⟨l,e1,e2⟩:=h3 z hz;exact⟨l,e1,s _ _ e2⟩⟩
theorem rm{kvs:List (Key×V)}{zs:List Str}(h:kvs.map (·.1)=zs.map Sum.inr):(kvs.map fun kv=>kV kv.1)=zs.map V.str:=by
 have:=congrArg (List.map kV) h
 rw[map_map,map_map]at this
 exact this
theorem Mr{kvs:List (Key×V)}{zs:List Str}(h:kvs.map (·.1)=zs.map Sum.inr){i:Nat}{k:Key}{v:V}(e:kvs[i]? = some (k,v)):∃ z,zs[i]? = some z/\k=.inr z:=by
 have:=congrArg (fun l=>l[i]?) h
 simp only[getElem?_map,e]at this
 cases ez:zs[i]? with
 | none=>rw[ez]at this;cases this
 | some z=>rw[ez]at this;exact⟨z,rfl,Option.some.inj this⟩
theorem jY.frz{H:Hp}{R:Addr}{zs:List Str}{nb:Str->List Str}(h:jY H R zs nb):∃ kvs,H R=some (.dK kvs)/\kvs.length=zs.length/\kvs.map (·.1)=zs.map Sum.inr/\∀ o,LkF (upd H R (.frz o (.dK kvs))) R zs nb:=by
 obtain⟨kvs,h1,h2,h3⟩:=h
 refine⟨kvs,h1,m6 h2,h2,fun o=>⟨o,kvs,ao,h2,fun z hz=>?_⟩⟩
 obtain⟨l,e1,e2⟩:=h3 z hz
 exact⟨l,e1,by rw[aD (eZ e2 h1 Z7)];exact e2⟩
noncomputable def onL(H:Hp)(c:List Str->Bool):V->Bool
 | .ref b=>@decide (∃ k,H b=some (.lst (k.map V.str))/\c k=true) (Classical.propDecidable _)
 | _=>false
open Classical in
theorem yt {H:Hp} {c:List Str->Bool} {b:Addr} {k:List Str} (h:H b=some (.lst (k.map V.str))):onL H c (.ref b)=c k:=by
 unfold onL
 cases e:c k with
 | true=>exact decide_eq_true ⟨k,h,e⟩
 | false =>
  refine decide_eq_false fun⟨k2,h2,e2⟩=>?_
  rw[h]at h2
  rw[jy (HO.lst.inj (Option.some.inj h2)),e2]at e
  cases e
noncomputable def onS(c:Str->Bool):V->Bool
 | .str y=>c y
 | _=>false
theorem p7(zs:List Str)(c:Str->Bool):(zs.map V.str).filter (onS c)=(zs.filter c).map V.str:=by rw[dF];rfl
def qF(H0 H:Hp)(prs:List (Addr×List Str)):Prop:=∀ pr∈prs,H pr.1=some (.lst (pr.2.map V.str))/\H0 pr.1=none
abbrev refs(prs:List (Addr×List Str)):List V:=prs.map fun pr=>V.ref pr.1
def pP(H0 H:Hp)(l:Addr)(ks:List (List Str)):Prop:=∃ prs,H l=some (.lst (refs prs))/\prs.map (·.2)=ks/\qF H0 H prs
theorem qF.same{H0 H H':Hp}{prs:List (Addr×List Str)}(h:qF H0 H prs)(s:az H H'):qF H0 H' prs:=fun pr hp=>⟨s _ _ (h pr hp).1,(h pr hp).2⟩
theorem pP.same{H0 H H':Hp}{l:Addr}{ks:List (List Str)}(h:pP H0 H l ks)(s:az H H'):pP H0 H' l ks:=by
 obtain⟨prs,h1,h2,h3⟩:=h
 exact⟨prs,s _ _ h1,h2,h3.same s⟩
theorem qF.sub{H0 H:Hp}{prs qrs:List (Addr×List Str)}(h:qF H0 H prs)(s:∀ pr∈qrs,pr∈prs):qF H0 H qrs:=fun pr hp=>h pr (s pr hp)
theorem nA{H0 H:Hp}{prs:List (Addr×List Str)}(h:qF H0 H prs)(c:List Str->Bool):(refs prs).filter (onL H c)=refs (prs.filter fun pr=>c pr.2):=by
 unfold refs
 rw[filter_map]
 congr 1
 exact filter_congr fun pr hp=>yt (h pr hp).1
theorem m8(prs:List (Addr×List Str))(c:List Str->Bool):(prs.filter fun pr=>c pr.2).map (·.2)=(prs.map (·.2)).filter c:=by rw[filter_map];rfl
theorem jf(prs:List (Addr×List Str)):(refs prs).length=(prs.map (·.2)).length:=by unfold refs;rw[length_map,length_map]
theorem wY{prs:List (Addr×List Str)}{i:Nat}{v:V}(h:(refs prs)[i]? = some v):∃ pr,prs[i]? = some pr/\v=.ref pr.1:=by
 unfold refs at h
 rw[getElem?_map]at h
 cases e:prs[i]? with
 | none=>rw[e]at h;cases h
 | some pr=>rw[e]at h;cases h;exact⟨pr,rfl,rfl⟩
theorem uA{prs:List (Addr×List Str)}{v:V}(h:v∈refs prs):∃ pr∈prs,v=.ref pr.1:=by
 obtain⟨pr,h1,h2⟩:=mem_map.mp h
 exact⟨pr,h1,h2.symm⟩
theorem Ba{P:Addr->List Str->Prop}:∀ (ys:List V) (ks:List (List Str)),ys.length=ks.length->(∀ (i:Nat) v k,ys[i]? = some v->ks[i]? = some k->∃ b,v=.ref b/\P b k)->∃ prs:List (Addr×List Str),refs prs=ys/\prs.map (·.2)=ks/\∀ pr∈prs,P pr.1 pr.2
 | [],[],_,_=>⟨[],rfl,rfl,fun pr hp=>by cases hp⟩
 | [],_::_,h,_=>by simp at h
 | _::_,[],h,_=>by simp at h
 | v::ys,k::ks,h,hp=>by
  obtain⟨b,rfl,hb⟩:=hp 0 v k rfl rfl
  obtain⟨prs,h1,h2,h3⟩:=Ba ys ks (by simpa using h) fun i v k e1 e2=>hp (i+1) v k e1 e2
  refine⟨(b,k)::prs,by unfold refs at h1 ⊢;rw[map_cons,h1],by rw[map_cons,h2],fun pr hm=>?_⟩
  rcases mem_cons.mp hm with rfl|hm
  ·exact hb
  ·exact h3 pr hm
theorem Bp {K:Frag} {H0 H1 H:Hp} {a b:Addr} {ks:List (List Str)} (ha:pP H0 H a ks) (hb:pP H1 H b ks):DSq K H a b:=by
 obtain ⟨ps,a1,a2,a3⟩:=ha
 obtain ⟨qs,b1,b2,b3⟩:=hb
 refine ⟨1,_,_,Z0,by rw [jf,jf,a2,b2],.inr ⟨SqL.of a1,SqL.of b1⟩,fun i x y ex ey=>?_⟩
 obtain ⟨p,ep,rfl⟩:=wY ex
 obtain ⟨r,er,rfl⟩:=wY ey
 have e:p.2 = r.2:=by
  have h1:ks[i]? = some p.2:=by rw [<- a2,getElem?_map,ep]; rfl
  have h2:ks[i]? = some r.2:=by rw [<- b2,getElem?_map,er]; rfl
  exact Option.some.inj (h1.symm.trans h2)
 refine .lst (SqL.of (a3 p (mem_of_getElem? ep)).1) (SqL.of (b3 r (mem_of_getElem? er)).1) (by rw [e]) fun j x y ex ey=>?_
 rw [e] at ex
 rw [ex] at ey
 cases ey
 exact zJ ((oJ _) x (mem_of_getElem? ex))
def vm(H:Hp)(p:Addr)(pl:List Str):Prop:=∃ kvs:List (Key×V),H p=some (.dK kvs)/\(∀ y:Str,(fP kvs (.inr y)).isSome=decide (y∈pl))/\kvs.length<=pl.length
theorem vm.same{H H':Hp}{p:Addr}{pl:List Str}(h:vm H p pl)(s:az H H'):vm H' p pl:=by
 obtain⟨kvs,h1,h2⟩:=h
 exact⟨kvs,s _ _ h1,h2⟩
theorem vm.put{H:Hp}{p:Addr}{pl:List Str}(h:vm H p pl)(x:Str):∃ kvs,H p=some (.dK kvs)/\kvs.length<=pl.length/\vm (upd H p (.dK (putK kvs (.inr x) (.bl true)))) p (pl++[x]):=by
 obtain⟨kvs,h1,h2,h3⟩:=h
 refine⟨kvs,h1,h3,_,ao,fun y=>?_,?_⟩
 ·rw[qD]
  by_cases e:y=x
  ·subst e
   rw[if_pos rfl]
   simp
  ·rw[if_neg (fun k=>e (Sum.inr.inj k)),h2 y]
   simp[e]
 ·rw[length_append]
  exact le_trans (ik _ _ _) (Nat.succ_le_succ h3)
def GK:Sp:=fun vs H Q _=>∃ (B:Addr) (z:Str) (zs:List Str) (nb lf:Str->List Str),vs=[.ref B,.str z]/\LkF H B zs lf/\Oo zs nb lf/\zs.length<=12/\z∈zs/\∀ l H',H l=none->az H H'->H' l=some (.lst ((kn zs nb z).map V.str))->Q (.ref l) H'
def La:Sp:=fun vs H Q _=>∃ (R a p:Addr) (zs k pl:List Str) (nb:Str->List Str),vs=[.ref R,.ref a,.ref p]/\LkG H R zs nb/\H a=some (.lst (k.map V.str))/\(∀ x∈k,x∈zs)/\vm H p pl/\∀ b,(b=true↔may nb pl k)->Pur (.bl b) H Q
def Lq:Sp:=fun vs H Q _=>∃ (H0:Hp) (R l0:Addr) (zs:List Str) (nb:Str->List Str),vs=[.ref R,.ref l0]/\LkG H R zs nb/\Gr zs nb/\pP H0 H l0 (kss zs nb)/\∀ l H',H l=none->az H H'->pP H0 H' l (kOr zs nb)->Q (.ref l) H'
def BZ(C:Nat->Addr):Sp:=fun vs H Q _=>∃ (h l:Addr) (ps:List aX),vs=[.ref h]/\bT C H h l ps/\bz ps/\∀ b H' zs,zs.Perm (adS ps)->sortedS zs=true->H b=none->az H H'->pP H H' b (kOr zs (cut zs (bQ ps zs)))->Q (.ref b) H'
def O2(H0 H:Hp)(R To Pl:Addr)(zs:List Str)(nb:Str->List Str)(prs:List (Addr×List Str))(m:Nat)(σ:L2.St)(H':Hp):Prop:=∃ (i:Nat) (Lf:Addr) (v4 v5:Option V) (lp tp:List (Addr×List Str)),σ=[some (.ref R),some (.ref Lf),some (.ref To),some (.ref Pl),v4,v5]/\az H H'/\i<=(kss zs nb).length/\m=(kss zs nb).length - i /\
 H' Lf=some (.lst (refs lp))/\(∀ pr∈lp,pr∈prs)/\lp.map (·.2)=left (kss zs nb) (run nb (kss zs nb) i)/\Lf≠To/\H' To=some (.lst (refs tp))/\(∀ pr∈tp,pr∈prs)/\tp.map (·.2)=run nb (kss zs nb) i/\vm H' Pl (run nb (kss zs nb) i).flatten
theorem Ed{zs:List Str}{nb:Str->List Str}(g:Gr zs nb){i:Nat}(h:i<=(kss zs nb).length):(run nb (kss zs nb) i).flatten.length<=144:=by
 have r:=nM g.kgr h
 have:=qX (n:=12) (l:=run nb (kss zs nb) i) fun k hk=>(xW g (r.sub k hk)).1
 rw[r.len]at this
 have:=sW g
 omega
theorem ud{ps:List aX}(nd:(adS ps).Nodup){p:aX}(h:p∈ps)(zs:List Str):bQ ps zs (dotted p.ad)=zs.filter fun y=>decide (y∈linked p):=by
 obtain⟨i,hi,e⟩:=getElem_of_mem h
 exact wR nd (i:=i) (by rw[getElem?_eq_getElem hi,e]) zs
theorem pP.lss{K:Frag}{H0 H:Hp}{l:Addr}{ks:List (List Str)}(h:pP H0 H l ks):Hy K H l ks:=by
 obtain⟨prs,h1,h2,h3⟩:=h
 refine⟨_,SqL.of h1,by rw[jf,h2],fun i ls e=>?_⟩
 rw[<- h2,getElem?_map]at e
 cases ep:prs[i]? with
 | none=>rw[ep]at e;cases e
 | some p =>
  rw[ep]at e
  cases e
  exact⟨p.1,by unfold refs;rw[getElem?_map,ep];rfl,SqL.of (h3 p (mem_of_getElem? ep)).1⟩
theorem gA{ps:List aX}(g:bz ps){z:Str}(h:z∈adS ps):z.length<=1000:=by
 obtain⟨p,hp,rfl⟩:=mem_map.mp h
 exact le_trans (g.ok p hp).ad.len Z0
def zA(C:Nat->Addr):Sp:=fun vs H Q _=>∃ (h l p lr:Addr) (ps:List aX) (n:aX),vs=[.ref h,.ref p]/\bT C H h l ps/\bz ps/\fJ C H p (dotted n.ad) lr n.rs/\dotted n.ad∉adS ps/\bz (ps++[n])/\∀ h' l' H',az H H'->bT C H' h' l' (ps++[n])->Q (.ref h') H'
def uq(C:Nat->Addr):Sp:=fun vs H Q _=>∃ (h l f:Addr) (ps:List aX) (one other:Str) (w zs:List Str),vs=[.ref h,.ref f,.str one,.str other]/\bT C H h l ps/\bz ps/\zs.Perm (adS ps)/\sortedS zs=true/\one∈zs/\H f=some (.lst (w.map V.str))/\nH (bQ ps zs) one other w/\Pur (.bl true) H Q
def ue(C:Nat->Addr):Sp:=fun vs H Q _=>∃ (h l f:Addr) (ps:List aX) (k zs:List Str),vs=[.ref h,.ref f]/\bT C H h l ps/\bz ps/\zs.Perm (adS ps)/\sortedS zs=true/\H f=some (.lst (k.map V.str))/\(∀ x∈k,x∈zs)/\(∀ z,k=[z]->(Rch (bQ ps zs) z z↔z∈bQ ps zs z))/\(k.length≠1->∀ a∈k,∀ b∈k,Rch (bQ ps zs) a b)/\Pur (.bl true) H Q
def Ci(C:Nat->Addr):Sp:=fun vs H Q _=>∃ (h l la:Addr) (ps:List aX) (ys:List Str),vs=[.ref h,.ref la]/\bT C H h l ps/\bz ps/\H la=some (.lst (ys.map V.str))/\(∀ y∈ys,y∈adS ps)/\Pur (.bl true) H Q
theorem kh{ps:List aX}(g:bz ps){i:Nat}{p:aX}(h:ps[i]? = some p)(zs:List Str):(zs.filter fun y=>decide (y∈linked p))=bQ ps zs (dotted p.ad):=(wR g.nd h zs).symm
theorem Rch.step {nb:Str -> List Str} {a y:Str}:Rch nb a y ↔ ∃ x ∈ nb a,y = x \/ Rch nb x y:=by
 constructor
 ·intro h
  induction h with
  | one h=>exact ⟨_,h,.inl rfl⟩
  | more _ h ih =>
   obtain ⟨x,hx,e⟩:=ih
   refine ⟨x,hx,.inr ?_⟩
   rcases e with rfl | e
   ·exact .one h
   ·exact .more e h
 ·rintro ⟨x,hx,rfl | h⟩
  ·exact .one hx
  ·exact (Rch.one hx).tr h
theorem qR{zs:List Str}{nb:Str->List Str}(g:Gr zs nb){a y:Str}(ha:a∈zs):Rch (cut zs nb) a y↔Rch nb a y :=
 ⟨fun h=>h.of_eq g.cut ha fun z hz=>(mK hz).symm,fun h=>h.of_eq g ha fun z hz=>mK hz⟩
theorem Ht{zs:List Str}{nb:Str->List Str}(g:Gr zs nb){k:List Str}(hk:k∈kOr zs (cut zs nb)):∃ z∈zs,k=kn zs (cut zs nb) z:=(je g.cut.kgr).mp ((qC g.cut.kgr).mp hk)
theorem jj{zs:List Str}{nb:Str->List Str}(g:Gr zs nb){k:List Str}(hk:k∈kOr zs (cut zs nb)):k.length<=12/\∀ x∈k,x∈zs:=xW g.cut ((qC g.cut.kgr).mp hk)
theorem KH{zs:List Str}{nb:Str->List Str}(g:Gr zs nb){k:List Str}(hk:k∈kOr zs (cut zs nb))(z:Str)(e:k=[z]):Rch nb z z↔z∈nb z:=by
 subst e
 obtain⟨y,hy,e⟩:=Ht g hk
 have hzk:z∈kn zs (cut zs nb) y:=by rw[<- e];simp
 have hz:=(cN.mp hzk).1
 refine⟨fun h=>?_,.one⟩
 obtain⟨x,hx,h⟩:=Rch.step.mp h
 rcases h with rfl|h
 ·exact hx
 ·have hxz:=g.cl z hz x hx
  have:x∈kn zs (cut zs nb) z:=cN.mpr ⟨hxz,.inr ⟨(qR g hz).mpr (.one hx),(qR g hxz).mpr h⟩⟩
  rw[show kn zs (cut zs nb) z=kn zs (cut zs nb) y from qw g.cut.kgr hzk,<- e]at this
  rw[mem_singleton.mp this]at hx
  exact hx
theorem G3{zs:List Str}{nb:Str->List Str}(g:Gr zs nb){k:List Str}(hk:k∈kOr zs (cut zs nb))(h1:k.length≠1):∀ a∈k,∀ b∈k,Rch nb a b:=by
 intro a ha b hb
 obtain⟨y,hy,e⟩:=Ht g hk
 have eka:k=kn zs (cut zs nb) a:=by rw[e]at ha ⊢;exact(qw g.cut.kgr ha).symm
 have haz:=(jj g hk).2 a ha
 have key:∀ c∈k,c≠a->Rch nb a c/\Rch nb c a:=fun c hc hne=>by
  rw[eka]at hc
  obtain⟨hcz,h⟩:=cN.mp hc
  obtain⟨h1,h2⟩:=h.resolve_left hne
  exact⟨(qR g haz).mp h1,(qR g hcz).mp h2⟩
 by_cases e2:b=a
 ·subst e2
  have:∃ c∈k,c≠b:=by
   apply Classical.byContradiction
   intro hno
   refine h1 ?_
   have:k=[b]:=Ie (by rw[eka];exact g.cut.kgr.nd.filter _) fun{x}=>⟨fun hx=>Classical.byContradiction fun z=>hno ⟨x,hx,z⟩,fun z=>z▸ha⟩
   rw[this]
   rfl
  obtain⟨c,hc,hne⟩:=this
  obtain⟨r1,r2⟩:=key c hc hne
  exact r1.tr r2
 ·exact(key b hb e2).1
theorem Fx {zs:List Str} {nb:Str -> List Str} (g:Gr zs nb) {i j:Nat} {k l:List Str} (hij:i < j) (hk:(kOr zs (cut zs nb))[i]? = some k) (hl:(kOr zs (cut zs nb))[j]? = some l) {a b:Str} (ha:a ∈ k) (hb:b ∈ l):¬ Rch nb a b:=fun h=>by
 have kg:=g.cut.kgr
 have haz:=(jj g (mem_of_getElem? hk)).2 a ha
 have hi:i + 1 <= (kss zs (cut zs nb)).length:=by
  have:=(List.getElem?_eq_some_iff.mp hk).1
  unfold kOr p8 at this
  rwa [(m9 kg).len] at this
 have hc:=uY kg hi
 have h2:=(qR g haz).mpr h
 exact Jq kg hij hl hb (h2.in (fun y hy=>hc a (PB kg hk ha) y hy) hc)
theorem jQ(ps:List aX)(f:Str)(rs:List cu):adS (ps++[⟨[f],rs⟩])=adS ps++[f]:=by
 unfold adS
 rw[map_append]
 show _++[dotted [f]]=_
 rw[bR]
theorem Kz(x y:Str):46∈(x ++ "." ++ y).cps.toList:=by
 rw[cG,cG,pH]
 simp
theorem yO{f x y:Str}(nf:cB f):f≠x ++ "." ++ y:=fun e=>nf.nodot (by rw[e];exact Kz x y)
theorem xK {ps:List aX} {f:Str} {rs:List cu} (g:bz ps) (hl:ps.length < 12) (nf:cB f) (hf:f ∉ adS ps) (gr:lQ rs):bz (ps ++ [⟨[f],rs⟩]):=by
 have gf:=Gn nf
 refine ⟨by rw [length_append]; show ps.length + 1 <= 12; omega,fun p hp=>?_,by rw [jQ]; exact n6 g.nd hf,fun p hp=>?_,fun p hp r hr hn=>?_⟩
 ·rcases mem_append.mp hp with h | h
  ·exact g.ok p h
  ·rw [mem_singleton.mp h]; exact ⟨gf,gr⟩
 ·rw [jQ]
  rcases mem_append.mp hp with h | h
  ·exact (g.up p h).imp id (mem_append_left _)
  ·rw [mem_singleton.mp h]; exact .inl rfl
 ·rw [jQ]
  intro hm
  rcases mem_append.mp hm with hm | hm
  ·rcases mem_append.mp hp with h | h
   ·exact g.cl p h r hr hn hm
   ·rw [mem_singleton.mp h] at hm hr
    have g5:r.so < 5:=by
     rcases lt_or_ge r.so 5 with z | z
     ·exact z
     ·exact absurd ((gr.ok r hr).no (Nat.le_antisymm (gr.ok r hr).so z)) hn
    have hm:dotted [f] ++ "." ++ r.nm ∈ adS ps:=hm
    rw [gW Z2] at hm
    obtain ⟨p2,hp2,e⟩:=mem_map.mp hm
    have e3:p2.ad = [f,r.nm]:=Ax (g.ok p2 hp2).ad ⟨Z2,(by show 2 <= 3; decide),fun y hy=>by
     simp only [mem_cons,not_mem_nil,or_false] at hy
     rcases hy with rfl | rfl
     ·exact nf
     ·exact (gr.ok r hr).nm g5⟩ e
    rcases g.up p2 hp2 with z | z
    ·rw [e3] at z; cases z
    ·rw [e3] at z
     have z:dotted [f] ∈ adS ps:=z
     rw [bR] at z
     exact hf z
  ·exact yO nf (mem_singleton.mp hm).symm
theorem Ej{zs zs' as:List Str}{f:Str}(h1:zs.Perm as)(h2:sortedS zs=true)(h3:zs'.Perm (as++[f]))(h4:sortedS zs'=true)(hf:f∉as):zs'.filter (fun z=>!decide (z=f))=zs:=by
 refine eq_of_pairwise (fun a b _ _ h1 h2=>iW (List.le_antisymm h1 h2)) ((nY h4).sublist List.filter_sublist) (nY h2) ((h3.filter _).trans ?_)
 rw[filter_append,filter_cons,if_neg Z2,List.filter_nil,append_nil]
 refine List.Perm.trans (List.Perm.of_eq (List.filter_eq_self.mpr fun z hz=>?_)) h1.symm
 rw[decide_eq_false (fun e:z=f=>hf (e▸hz))]
 rfl
theorem Ov{ps:List aX}{f:Str}{zs zs':List Str}(g:bz ps)(hl:ps.length<12)(nf:cB f)(hf:f∉adS ps)(hun:∀ p∈ps,f∉linked p)(h1:zs.Perm (adS ps))(h2:sortedS zs=true)(h3:zs'.Perm (adS (ps++[⟨[f],[]⟩])))(h4:sortedS zs'=true) :
  Iso zs zs' (cut zs (bQ ps zs)) (cut zs' (bQ (ps++[⟨[f],[]⟩]) zs')) (Rch (cut zs (bQ ps zs))) (Rch (cut zs' (bQ (ps++[⟨[f],[]⟩]) zs'))) f:=by
 have g2:bz (ps++[⟨[f],[]⟩]):=xK g hl nf hf ⟨zero_le _,fun r hr=>by cases hr⟩
 have gz:=(o6 g h1).cut
 have gz':=(o6 g2 h3).cut
 have h3':=h3
 rw[jQ]at h3'
 have en:=Ej h1 h2 h3' h4 hf
 have hfz:f∈zs':=h3'.mem_iff.mpr Z2
 have hnf:f∉zs:=fun k=>hf (h1.mem_iff.mp k)
 have hz:∀ p:Str->Bool,p f=false->zs'.filter p=zs.filter p:=fun p hp=>by
  rw[<- en,filter_filter]
  refine filter_congr fun z _=>?_
  by_cases e:z=f
  ·rw[e,hp];rfl
  ·rw[decide_eq_false e];simp
 have hm:∀ z,z∈zs'↔z=f\/z∈zs:=fun z=>by
  rw[h3'.mem_iff,h1.mem_iff,mem_append,mem_singleton]
  exact or_comm
 have hn:∀ z∈zs,cut zs' (bQ (ps++[⟨[f],[]⟩]) zs') z=cut zs (bQ ps zs) z:=fun z hz0=>by
  rw[<- mK ((hm z).mpr (.inr hz0)),<- mK hz0]
  obtain⟨p,hp,rfl⟩:=mem_map.mp (h1.mem_iff.mp hz0)
  rw[ud g.nd hp,ud g2.nd (mem_append_left _ hp)]
  exact hz _ (decide_eq_false (hun p hp))
 have n0:cut zs' (bQ (ps++[⟨[f],[]⟩]) zs') f=[]:=by
  rw[<- mK hfz]
  have:=ud g2.nd (mem_append_right ps (mem_singleton.mpr (rfl:(⟨[f],[]⟩:aX)=⟨[f],[]⟩))) zs'
  rw[show dotted (⟨[f],[]⟩:aX).ad=f from bR f]at this
  rw[this]
  refine List.filter_eq_nil_iff.mpr fun z hz1 k=>?_
  have k:z∈[ji [f]]:=of_decide_eq_true k
  have k:z = "" := mem_singleton.mp k
  obtain⟨p,hp,e⟩:=mem_map.mp (h3.mem_iff.mp hz1)
  exact rD (g2.ok p hp).ad (e.trans k)
 have gn:Gr zs (cut zs' (bQ (ps++[⟨[f],[]⟩]) zs')):=⟨gz.hi,gz.nd,fun z hz0 y hy=>gz.cl z hz0 y (hn z hz0▸hy),fun z hz0=>by rw[hn z hz0];exact gz.nn z hz0⟩
 exact⟨gz.kgr,gz'.kgr,hfz,hz,hm,hnf,hn,n0,fun z hz0 y=>⟨fun k=>k.of_eq gn hz0 hn,fun k=>k.of_eq gz hz0 fun u hu=>(hn u hu).symm⟩,(fun y k=>by
  obtain⟨x,hx,_⟩:=Rch.step.mp k
  rw[n0]at hx
  cases hx),fun z hz0 k=>hnf (k.mem gz hz0)⟩
def nJ(d:Q4):Str := "." ++ d.ad ++ "." ++ d.wd ++ "."
def unB(f t:Str):Bool:=!(Builtin.Str.occurrences t ("." ++ f ++ ".") 0 t.length 1).isEmpty
theorem Et(x s:Str):(!(Builtin.Str.occurrences (x++s) x 0 (x++s).length 1).isEmpty)=true:=by
 refine(StrLaws.found_iff _ _).mpr ⟨0,by rw[gh];omega,?_⟩
 rw[StrLaws.subAt_eq,cG,List.drop_zero]
 have e:x.length=x.cps.toList.length:=by rw[length_toList];rfl
 rw[e,List.take_left]
 simp
theorem lH(a b c:Str):a++b++c=a++(b++c):=iW (by simp only[cG,append_assoc])
theorem three {ys:List Str} (g:bW ys):(∃ a,ys = [a]) \/ (∃ a b,ys = [a,b]) \/ ∃ a b c,ys = [a,b,c]:=by
 match ys,g.lo,g.hi with
 | [a],_,_=>exact .inl ⟨a,rfl⟩
 | [a,b],_,_=>exact .inr (.inl ⟨a,b,rfl⟩)
 | [a,b,c],_,_=>exact .inr (.inr ⟨a,b,c,rfl⟩)
theorem Ju(a b:Str):dotted [a,b]=a ++ "." ++ b:=by
 have:=gW (p:=[a]) (w:=b) Z2
 rw[bR]at this
 exact this.symm
theorem Ow(a b c:Str):dotted [a,b,c]=a ++ "." ++ b ++ "." ++ c:=by
 have:=gW (p:=[a,b]) (w:=c) Z2
 rw[Ju]at this
 exact this.symm
theorem zW(a:Str):il [a]=[a]:=by
 show[dotted [a]]=_
 rw[bR]
theorem Bv(a b:Str):il [a,b]=[a,a ++ "." ++ b]:=by
 show[dotted [a],dotted [a,b]]=_
 rw[bR,Ju]
theorem zY(a b c:Str):il [a,b,c]=[a,a ++ "." ++ b,a ++ "." ++ b ++ "." ++ c]:=by
 show[dotted [a],dotted [a,b],dotted [a,b,c]]=_
 rw[bR,Ju,Ow]
theorem Hn{ys:List Str}{f w:Str}(g:bW ys)(nf:cB f)(h:f∈il ys):unB f ("." ++ dotted ys ++ "." ++ w ++ ".")=true:=by
 have key:∀ s:Str,unB f ("." ++ f ++ "." ++ s)=true:=fun s=>Et _ _
 rcases three g with⟨a,rfl⟩|⟨a,b,rfl⟩|⟨a,b,c,rfl⟩
 ·rw[zW]at h
  obtain rfl:=mem_singleton.mp h
  rw[bR,lH _ w]
  exact key _
 ·rw[Bv]at h
  simp only[mem_cons,not_mem_nil,or_false]at h
  obtain rfl:=h.resolve_right (yO nf)
  rw[Ju]
  have:=key (b ++ "." ++ w ++ ".")
  simpa only[lH] using this
 ·rw[zY]at h
  simp only[mem_cons,not_mem_nil,or_false]at h
  obtain rfl:=h.resolve_right fun h=>h.elim (yO nf) (yO nf)
  rw[Ow]
  have:=key (b ++ "." ++ c ++ "." ++ w ++ ".")
  simpa only[lH] using this
theorem Ef{ps:List aX}{as:List (List Str)}{rs:Nat->List Q4}{f:Str}(g:bz ps)(hok:lg as rs)(hof:∀ (i:Nat) p,ps[i]? = some p->as[i]? = some p.ad/\rK (rs i) p.rs)(nf:cB f)(hf:f∉adS ps)(hun:∀ i,i<as.length->∀ d∈rs i,unB f (nJ d)=false):∀ p∈ps,f∉linked p:=fun p hp hm=>by
 obtain⟨i,hi,e⟩:=getElem_of_mem hp
 obtain⟨e1,e2⟩:=hof i p (by rw[getElem?_eq_getElem hi,e])
 have hia:=(List.getElem?_eq_some_iff.mp e1).1
 unfold linked at hm
 rw[BK e2]at hm
 rcases mem_cons.mp hm with h|h
 ·unfold ji at h
  by_cases c:p.ad.dropLast=[]
  ·rw[if_pos c]at h
   have:=nf.lo
   rw[h]at this
   exact absurd this Z0
  ·rw[if_neg c]at h
   rcases g.up p hp with z|z
   ·exact c z
   ·exact hf (h▸z)
 ·obtain⟨d,hd,h⟩:=List.mem_flatMap.mp h
  have g4:=hok.g4 i hia d hd
  have hu:=hun i hia d hd
  unfold xf at h
  rcases mem_append.mp h with h|h
  ·split at h
   ·rename_i c
    rcases g4.ha with⟨_,z⟩|⟨ys,gy,e,_⟩
    ·omega
    ·rw[e,qO gy]at h
     have:=Hn (w:=d.wd) gy nf h
     unfold nJ at hu
     rw[e,this]at hu
     cases hu
   ·cases h
  ·split at h
   ·exact yO nf (mem_singleton.mp h)
   ·cases h
def ig(ys:List Str):cu:=⟨2, "x",dotted ys, "a",[⟨1,.num 1⟩]⟩
theorem Og{ys:List Str}(g:bW ys):GoodR (ig ys):=⟨by show 2<=5;decide,fun _=>(show cB ("x" : Str)from tL Z4),fun z=>absurd z (by show(2:Nat)≠5;decide),⟨ys,g,rfl⟩,Nx,Ih,fun z=>absurd z (by show(2:Nat)≠1;decide)⟩
theorem Nz{r:cu}(h:r.so=2):cV r=rC r.ad:=by
 unfold cV dq
 rw[if_pos (.inl h)]
 simp[h]
theorem Nq{ys:List Str}(g:bW ys)(f:Str):linked ⟨[f],[ig ys]⟩=("" : Str)::il ys:=by
 unfold linked
 show ji [f]::([ig ys]).flatMap cV=_
 have e:ji [f] = "" := rfl
 rw[e,List.flatMap_cons,List.flatMap_nil,append_nil]
 congr 1
 rw[Nz (r:=ig ys) rfl]
 exact qO g
theorem Ig(x s:Str):ltCps (x++s).cps.toList x.cps.toList=false:=by
 rw[ltCps_eq,cG]
 exact decide_eq_false (List.not_lt.mpr (List.le_append_left))
theorem Ai{ys:List Str}(g:bW ys):sortedS (il ys)=true:=by
 rcases three g with⟨a,rfl⟩|⟨a,b,rfl⟩|⟨a,b,c,rfl⟩
 ·rw[zW];rfl
 ·rw[Bv,lH]
  show(!ltCps (a++("." ++ b)).cps.toList a.cps.toList&&true)=true
  rw[Ig];rfl
 ·rw[zY]
  have e1:a ++ "." ++ b=a++("." ++ b):=lH _ _ _
  have e2:a ++ "." ++ b ++ "." ++ c=(a ++ "." ++ b)++("." ++ c):=lH _ _ _
  show(!ltCps (a ++ "." ++ b).cps.toList a.cps.toList&&(!ltCps (a ++ "." ++ b ++ "." ++ c).cps.toList (a ++ "." ++ b).cps.toList&&true))=true
  rw[e2,Ig,e1,Ig];rfl
theorem Al{x y z:Str}:x≠x ++ "." ++ z:=fun e=>by
 have:=congrArg Str.length e
 rw[gh,gh]at this
 have hd:(("." : Str)).length=1:=by decide +kernel
 omega
theorem Iz{ys:List Str}(g:bW ys):(il ys).Nodup:=by
 rcases three g with⟨a,rfl⟩|⟨a,b,rfl⟩|⟨a,b,c,rfl⟩
 ·rw[zW];simp
 ·rw[Bv]
  simp only[nodup_cons,mem_cons,not_mem_nil,or_false,not_false_eq_true,nodup_nil,and_true]
  exact Al (y:=a)
 ·rw[zY]
  simp only[nodup_cons,mem_cons,not_mem_nil,or_false,not_false_eq_true,nodup_nil,and_true]
  refine⟨fun h=>h.elim (Al (y:=a)) fun e=>?_,Al (y:=a)⟩
  rw[lH (a ++ "."),lH a,<- lH]at e
  have:=congrArg Str.length e
  have hd:(("." : Str)).length=1:=by decide +kernel
  simp only[gh]at this
  omega
theorem Ge{as:List (List Str)}{ys:List Str}(g:cP as)(h:ys∈as):∀ y∈il ys,y∈as.map dotted:=by
 have up:∀ {xs:List Str},xs∈as->xs.dropLast≠[]->xs.dropLast∈as:=fun{xs} hx hn=>(g.up xs hx).resolve_left hn
 have mm:∀ {xs:List Str},xs∈as->dotted xs∈as.map dotted:=fun{xs} hx=>mem_map.mpr ⟨xs,hx,rfl⟩
 rcases three (g.ok ys h)with⟨a,rfl⟩|⟨a,b,rfl⟩|⟨a,b,c,rfl⟩
 ·intro y hy
  have hy:y∈[dotted [a]]:=hy
  rw[mem_singleton.mp hy];exact mm h
 ·intro y hy
  have hy:y∈[dotted [a],dotted [a,b]]:=hy
  have h1:[a]∈as:=up h Z2
  simp only[mem_cons,not_mem_nil,or_false]at hy
  rcases hy with rfl|rfl
  ·exact mm h1
  ·exact mm h
 ·intro y hy
  have hy:y∈[dotted [a],dotted [a,b],dotted [a,b,c]]:=hy
  have h1:[a,b]∈as:=up h Z2
  have h2:[a]∈as:=up h1 Z2
  simp only[mem_cons,not_mem_nil,or_false]at hy
  rcases hy with rfl|rfl|rfl
  ·exact mm h2
  ·exact mm h1
  ·exact mm h
theorem Bl{as:List (List Str)}{ys zs:List Str}{ps:List aX}{f:Str}(g:cP as)(h:ys∈as)(ead:adS ps=as.map dotted)(g2:bz (ps++[⟨[f],[ig ys]⟩]))(h3:zs.Perm (adS (ps++[⟨[f],[ig ys]⟩])))(h4:sortedS zs=true):(zs.filter fun y=>decide (y∈linked ⟨[f],[ig ys]⟩))=il ys:=by
 have gy:=g.ok ys h
 rw[Nq gy]
 refine eq_of_pairwise (fun a b _ _ h1 h2=>iW (List.le_antisymm h1 h2)) ((nY h4).sublist List.filter_sublist) (nY (Ai gy)) ?_
 refine(List.perm_ext_iff_of_nodup ((h3.nodup_iff.mpr g2.nd).filter _) (Iz gy)).mpr fun y=>?_
 rw[mem_filter,decide_eq_true_iff,mem_cons]
 constructor
 ·rintro⟨hz,e|e⟩
  ·obtain⟨p,hp,e2⟩:=mem_map.mp (h3.mem_iff.mp hz)
   exact absurd (e2.trans e) (rD (g2.ok p hp).ad)
  ·exact e
 ·intro hy
  refine⟨h3.mem_iff.mpr ?_,.inr hy⟩
  rw[jQ,ead]
  exact mem_append_left _ (Ge g h y hy)
open Classical in
theorem Nt {H0 H:Hp} {R:Addr} {as:List (List Str)} {L:Nat->Addr} {rs:Nat->List Q4} (nd:(as.map dotted).Nodup) (h:DictAt H0 H R as as.length L rs):∃ kvs,H R=some (.dK kvs)/\kvs.length<=as.length/\(∀ kv∈kvs,∃ i,i<as.length/\kv.2=.ref (L i))/\∀ i,i<as.length->∃ kv∈kvs,kv.2=.ref (L i):=by
 obtain⟨kvs,hk,hl,hv⟩:=h.dk
 have mem:∀ (i:Nat) (hi:i<as.length),((Sum.inr (dotted as[i]):Key),V.ref (L i))∈kvs:=fun i hi=>by
  have:=hv i as[i] hi (getElem?_eq_getElem hi)
  unfold fP at this
  cases e:kvs.find? (fun kv=>decide (kv.1=(Sum.inr (dotted as[i]):Key)))with
  | none=>rw[e]at this;cases this
  | some kv =>
   rw[e]at this
   have h1:kv.1=Sum.inr (dotted as[i]):=by simpa using List.find?_some e
   have h2:kv.2=.ref (L i):=Option.some.inj this
   have h3:=List.mem_of_find?_eq_some e
   rw[<- h1,<- h2]
   exact h3
 have all:∀ kv∈kvs,∃ i,i<as.length/\kv.2=.ref (L i):=fun kv hkv=>by
  apply Classical.byContradiction
  intro hno
  let ps:List (Key×V):=(List.range as.length).map fun i=>((Sum.inr (dotted (as.getD i [])):Key),V.ref (L i))
  have gd:∀ {i:Nat} (hi:i<as.length),as.getD i []=as[i]:=fun{i} hi=>by simp[List.getD,hi]
  have hp:∀ p∈ps,∃ (i:Nat) (hi:i<as.length),p=((Sum.inr (dotted as[i]):Key),V.ref (L i)):=fun p hp=>by
   obtain⟨i,hi,e⟩:=mem_map.mp hp
   have hi:=mem_range.mp hi
   rw[gd hi]at e
   exact⟨i,hi,e.symm⟩
  have hpn:ps.Nodup:=by
   refine List.pairwise_map.mpr (imp_of_mem (fun{a b} ha hb hab e=>?_) List.nodup_range)
   have ha:=mem_range.mp ha
   have hb:=mem_range.mp hb
   rw[gd ha,gd hb]at e
   exact Lx nd (getElem?_eq_getElem ha) (getElem?_eq_getElem hb) hab (Sum.inr.inj (Prod.mk.inj e).1)
  have hpl:ps.length=as.length:=by rw[length_map,length_range]
  have:=tK (xs:=kv::ps) (zs:=kvs) (nodup_cons.mpr ⟨fun hm=>by
   obtain⟨i,hi,e⟩:=hp kv hm
   exact hno ⟨i,hi,by rw[e]⟩,hpn⟩) fun x hx=>by
    rcases mem_cons.mp hx with rfl|hx
    ·exact hkv
    ·obtain⟨i,hi,rfl⟩:=hp x hx
     exact mem i hi
  rw[length_cons,hpl]at this
  omega
 exact⟨kvs,hk,hl,all,fun i hi=>⟨_,mem i hi,rfl⟩⟩
theorem FN{zs:List Str}{i:Nat}{v:V}(h:(zs.map V.str)[i]? = some v):∃ z,zs[i]? = some z/\v=.str z:=by
 rw[getElem?_map]at h
 cases e:zs[i]? with
 | none=>rw[e]at h;cases h
 | some z=>rw[e]at h;cases h;exact⟨z,rfl,rfl⟩
theorem getD_at{zs:List Str}{i:Nat}{z:Str}(h:zs[i]? = some z):zs.getD i "" = z:=by
 unfold List.getD
 rw[h]
 rfl
theorem Cj{f:Str->List Str}{zs:List Str}{ys:List V}{H:Hp}{nr:Addr}(hn:H nr=none)(hl:ys.length=zs.length)(h:∀ (i:Nat) v,ys[i]? = some v->∃ c,v=V.ref c/\H c=some (.lst ((f (zs.getD i "")).map V.str))):pP (fun _=>none) (upd H nr (.lst ys)) nr (zs.map f):=by
 obtain⟨prs,e1,e2,e3⟩:=Ba (P:=fun b k=>H b=some (.lst (k.map V.str))) ys (zs.map f) (by rw[hl,length_map]) fun i v k ev ek=>by
  obtain⟨c,ec,hc⟩:=h i v ev
  rw[getElem?_map]at ek
  cases ez:zs[i]? with
  | none=>rw[ez]at ek;cases ek
  | some z =>
   rw[ez]at ek
   rw[getD_at ez,show f z=k from Option.some.inj ek]at hc
   exact⟨c,ec,hc⟩
 exact⟨prs,ao.trans (by rw[e1]),e2,fun pr hp=>⟨(az.new hn) _ _ (e3 pr hp),rfl⟩⟩
end
structure Tx(K:Frag)(mg:MG)(C:Nat->Addr):Prop where
 sorted:mg "sorted" = none
 t_dict:mg "dict" = none
 set:mg "set" = none
 any:mg "any" = none
 enumerate:mg "enumerate" = none
 len:mg "len" = none
 range:mg "range" = none
 inst:mg "isinstance" = none
 t_str:mg "str" = none
 t_int:mg "int" = none
 t_bool:mg "bool" = none
 t_list:mg "list" = none
 t_tuple:mg "tuple" = none
 all:mg "all" = none
 max:mg "max" = none
 min:mg "min" = none
 zip:mg "zip" = none
 g_MOST_PARTS:∃ t,mg "MOST_PARTS" = some (.int 12 t)
 aay:∃ f fd,FnAt K mg "prefixes" lA jA f fd
 aah:∃ f fd,FnAt K mg "parent_of" ju iu f fd
 aax:∃ f fd,FnAt K mg "named_by" mj lu f fd
 aaf:∃ f fd,FnAt K mg "check_part" iK fK f fd
 aab:∃ f fd,FnAt K mg "links" tG ie f fd
 aac:∃ f fd,FnAt K mg "all_links" jB eE f fd
 aai:∃ f fd,FnAt K mg "reached" oA iU f fd
 aae:∃ f fd,FnAt K mg "leads" tW nR f fd
 aag:∃ f fd,FnAt K mg "way_between" gC dW f fd
 aar:∃ f fd,FnAt K mg "knot_of" oF nZ f fd
 aa1:∃ f fd,FnAt K mg "may_come" lZ lX f fd
 aa2:∃ f fd,FnAt K mg "in_order" lU lW f fd
 aaq:∃ f fd,FnAt K mg "knots" tD qi f fd
 aa3:∃ f fd,FnAt K mg "is_orphan" jo jq f fd
 aaw:∃ f fd,FnAt K mg "is_clash" lD mC f fd
 aav:∃ f fd,FnAt K mg "check_parts" gQ gM f fd
 aad:∃ f fd,FnAt K mg "_law_cell" lF uz f fd
 aaa:∃ f fd,FnAt K mg "_law_pick" lK mz f fd
 abc:∃ f fd,FnAt K mg "_law_words" jm tE f fd
 aa8:∃ f fd,FnAt K mg "_law_addresses" dX jk f fd
 aau:∃ f fd,FnAt K mg "_law_asked" jz tH f fd
 abb:∃ f fd,FnAt K mg "_law_drawn" jC tU f fd
 aaz:∃ f fd,FnAt K mg "_law_rows" lY yh f fd
 aba:∃ f fd,FnAt K mg "_law_row" n8 Ck f fd
 aa0:∃ f fd,FnAt K mg "_law_parts" jl sZ f fd
 aa5:∃ f fd,FnAt K mg "_law_made" lE yC f fd
 aa9:∃ f fd,FnAt K mg "_law_prefixes" fY my f fd
 aa4:∃ f fd,FnAt K mg "_law_walked" iM ql f fd
 aa7:∃ f fd,FnAt K mg "_law_within" iG qI f fd
 aas:∃ f fd,FnAt K mg "_law_put_together" cM gK f fd
 m_Row_binds:∃ f fd,MAt K "binds" "Row.binds" gJ kW f fd/\Meth K (C 5) "binds" f/\Meth K (C 6) "binds" f
 m_Row_asked:∃ f fd,MAt K "asked" "Row.asked" gP kJ f fd/\Meth K (C 0) "asked" f/\Meth K (C 1) "asked" f/\Meth K (C 5) "asked" f/\Meth K (C 6) "asked" f
 i_Let:∃ f fd,MAt K "__init__" "Let.__init__" dG jt f fd/\Mk K (C 0) f
 m_Let_binds:∃ f fd,MAt K "binds" "Let.binds" gF lL f fd/\Meth K (C 0) "binds" f
 i_Deed:∃ f fd,MAt K "__init__" "Deed.__init__" dj iH f fd/\Mk K (C 1) f
 m_Deed_binds:∃ f fd,MAt K "binds" "Deed.binds" fX jF f fd/\Meth K (C 1) "binds" f
 i_Draw:∃ f fd,MAt K "__init__" "Draw.__init__" c7 fO f fd/\Mk K (C 2) f
 m_Draw_binds:∃ f fd,MAt K "binds" "Draw.binds" fu jK f fd/\Meth K (C 2) "binds" f
 m_Draw_asked:∃ f fd,MAt K "asked" "Draw.asked" fQ jO f fd/\Meth K (C 2) "asked" f
 i_Late:∃ f fd,MAt K "__init__" "Late.__init__" cZ iJ f fd/\Mk K (C 3) f
 m_Late_binds:∃ f fd,MAt K "binds" "Late.binds" fV jH f fd/\Meth K (C 3) "binds" f
 m_Late_asked:∃ f fd,MAt K "asked" "Late.asked" fB jM f fd/\Meth K (C 3) "asked" f
 i_Take:∃ f fd,MAt K "__init__" "Take.__init__" cT iC f fd/\Mk K (C 4) f
 m_Take_binds:∃ f fd,MAt K "binds" "Take.binds" fG jG f fd/\Meth K (C 4) "binds" f
 m_Take_asked:∃ f fd,MAt K "asked" "Take.asked" fL jJ f fd/\Meth K (C 4) "asked" f
 i_Need:∃ f fd,MAt K "__init__" "Need.__init__" cR iB f fd/\Mk K (C 5) f
 i_House:∃ f fd,MAt K "__init__" "House.__init__" cL dR f fd/\Mk K (C 8) f
 m_House_addresses:∃ f fd,MAt K "addresses" "House.addresses" cC bZ f fd/\Meth K (C 8) "addresses" f
 m_House_has:∃ f fd,MAt K "has" "House.has" gH eU f fd/\Meth K (C 8) "has" f
 m_House_part:∃ f fd,MAt K "part" "House.part" fM gO f fd/\Meth K (C 8) "part" f
 m_House_with_part:∃ f fd,MAt K "with_part" "House.with_part" cD cW f fd/\Meth K (C 8) "with_part" f
 i_Part:∃ f fd,MAt K "__init__" "Part.__init__" cX fH f fd/\Mk K (C 7) f
 m_Part_bound:∃ f fd,MAt K "bound" "Part.bound" fc gG f fd/\Meth K (C 7) "bound" f
 c_Let:mg "Let" = some (.ref (C 0))
 c_Deed:mg "Deed" = some (.ref (C 1))
 c_Draw:mg "Draw" = some (.ref (C 2))
 c_Late:mg "Late" = some (.ref (C 3))
 c_Take:mg "Take" = some (.ref (C 4))
 c_Need:mg "Need" = some (.ref (C 5))
 c_Row:mg "Row" = some (.ref (C 6))
 c_Part:mg "Part" = some (.ref (C 7))
 c_House:mg "House" = some (.ref (C 8))
 cn:MkN K (C 6)
 fam:O5 K C
 pt:Qw K (C 7)
 hs:Sh K (C 8)
 c_HouseError:mg "HouseError" = some (.ref (C 20))
 c_NoPart:mg "NoPart" = some (.ref (C 21))
 x_HouseError:ExC K (C 20)
 xn:ExC K (C 21)
 xc:JW K (C 21)
 xs:Sub K (C 21) (C 20)
 xa:cQ K (C 21) "address"
 xk:kitOne K (.ref (C 21)) (.ref (C 21))=some true
 i_NoPart:∃ f fd,XIn K (C 21) "NoPart.__init__" jh f9 f fd
 ini1:specialIn K (.ref (C 20)) "__getattribute__" = some (some (.builtin "type.__getattribute__"))
 ini2:readsIn K (C 20) (.type "type")=true
 ini3:findCls K (.ref (C 20)) (.type "type") "__init__" = some (.val (.builtin "ValueError.__init__"))
section
variable {P:Program} {w:World} {K:Frag} {mg:MG} {base:Heap}
theorem rO(T:Tx K mg C)(F:Fun K "__init__" "NoPart.__init__" jh f fd):aK P w K mg base CX0 1 f fd f9 (Hj (C 21) "address"):=by
 refine F.oq Bb fun _ _ _ _ H _ Q E hr h=>?_
 ·obtain⟨x,y,rfl,hx,hy,q⟩:=h
  refine⟨_,QSs.h (au (cU (FZ Z3 T.c_HouseError T.ini1 T.ini2 T.ini3 (ak (pv 0) (ak (Eu (CQ aM (CQ (M9 (pv 1)) MK))) aq))))
   (aA (GF (pv 0) (pv 1)))),?_⟩
  obtain⟨z,rfl,hz⟩:=hy
  refine⟨_,rfl,_,rfl,Z4,_,rfl,Or.inr ⟨_,rfl,le_trans hz bO,_,rfl,PN Z4 Z1,PN Z4 Z1,_,_,_,_,_,rfl,hx,T.xn,?_⟩⟩
  exact⟨_,rfl,_,rfl,_,_,_,rfl,hx,T.xc,T.xa,fun p hp hne=>q p hp hne⟩
theorem yW(T:Tx K mg C)(F:Fun K "prefixes" "prefixes" lA f fd):aK P w K mg base CX0 1 f fd jA tX:=by
 refine F.oq rQ fun _ _ _ _ H _ Q E hr h=>?_
 ·obtain⟨ys,rfl,g,q⟩:=h
  refine⟨_,QSs.h (au (aO (i:=1) rQ.nd rfl (Or.inr rfl) (fW plainAttrs_str slot_str_split type_str_split qz (pv 0) (ak aM aq)))
   (aA (aL (bJ (N:=["many", "names"]) [none,some 1] rfl Z5 (rG Z3 T.range (ak aB (ak (aV d9 (bc aW Z3 T.len boot_len (ak (pv 1) aq)) aB) aq))) (fun cl C fp s H=>(aG (i:=0) (by decide +kernel:(["many", "names"]:List Str).Nodup) rfl (Or.inl rfl))) (fun cl C fp s H=>cJ) (fun cl C fp s H=>(xU (K:=K) rfl plainAttrs_str slot_str_join type_str_join (uK rfl) aM (ak (ir (uw (K:=K) rfl) (pv 1) kj (iD (pv 0))) aq))))))),?_⟩
  have h36:=g.len
  have h3:=g.hi
  refine⟨_,rfl,rfl,_,_,rfl,rfl,Z4,le_trans (show(dotted ys).length+2<=1000 by omega) bO,fun p hp=>?_⟩
  rw[cj ys g.lo g.nm]
  refine⟨_,rfl,p,_,rfl,.inl (SqL.of ao),_,_,rfl,rfl,_,_,rfl,⟨Z0,Z0,Z1,by rw[length_map];omega⟩,?_⟩
  rw[length_map,show((ys.length:Int)+1 - 1).toNat=ys.length from by omega]
  refine uH (fun i=>V.str (dotted (ys.take (i+1)))) (le_trans (show ys.length<=3 by omega) Z0) (fun i H' Q' hi sm k'=>?_) (fun τ H Q Q' hh h=>hh _ _ h) (fun H' sm p2 hp2=>?_)
  ·refine⟨rfl,rfl,_,rfl,_,rfl,_,rfl,p,_,rfl,SqL.of (sm _ _ ao),fun p3 hp3=>?_⟩
   have e:(1+(i:Int))=((i+1:Nat):Int):=by omega
   have hs:((ys.take (i+1)).map (·.length)).sum<=(ys.take (i+1)).length*8:=xZ fun y hy=>(g.nm y (mem_of_mem_take hy)).hi
   have ht:(ys.take (i+1)).length<=3:=le_trans (length_take_le' _ _) h3
   refine⟨_,p3,ys.take (i+1),rfl,rfl,.inl (SqL.of ?_),?_,k' _ (az.new hp3)⟩
   ·rw[ao,e,mW _ Z1];rfl
   ·rw[show(("." : Str)).length=1 from by decide +kernel];omega
  ·have h0:H p2=none:=(az.new hp).free (sm.free hp2)
   refine q p2 _ h0 (((az.new hp).trans sm).put hp2) ?_
   rw[ao]
   unfold il
   rw[map_map]
   rfl
theorem pZ(T:Tx K mg C)(F:Fun K "parent_of" "parent_of" ju f fd):aK P w K mg base CX0 1 f fd iu uQ:=by
 refine F.oq yS fun _ _ _ _ H _ Q E hr h=>?_
 ·obtain⟨ys,rfl,g,q⟩:=h
  refine⟨_,QSs.h (aA (aL (bL Ah (fW plainAttrs_str PySem.F.slot_str_rpartition PySem.F.type_str_rpartition yG (pv 0) (ak aM aq)) aB))),?_⟩
  refine⟨_,rfl,rfl,_,_,rfl,rfl,Z4,le_trans g.len Z0,fun p hp=>⟨p,_,_,_,rfl,rfl,SqT.of ao,bK (j:=0) rfl,?_⟩⟩
  rw[M6 g]
  exact q _ (az.new hp)
theorem yx(T:Tx K mg C)(F:Fun K "is_orphan" "is_orphan" jo f fd):aK P w K mg base CX0 2 f fd jq (zB C):=by
 obtain⟨fah,dah,Aah⟩:=T.aah
 have Gah:aK P w K mg base CX0 1 fah dah iu uQ:=pZ T Aah.F
 refine F.oq rR fun _ _ _ _ H _ Q E hr h=>?_
 ·obtain⟨p,l,la,ys,zs,rs,rfl,hp,g,hl,hup,q⟩:=h
  have hr1:aP 1 _:=hr
  refine⟨_,QSs.h (au (aO (i:=2) rR.nd rfl (Or.inl rfl) (aY Aah Gah hr1 (ak (cA (pv 0) rfl) aq)))
   (aA (aL (Hu (iI wF (pv 2) aM (aQ _)) (FP (iI fU (pv 2) (pv 1) Z3)))))),?_⟩
  obtain⟨dx,fs,ea,a1,a2,a3,a4,a5,hr0⟩:=id hp
  refine⟨_,rfl,rdF ea T.pt.cl.cl T.pt.na a1 ⟨ys,rfl,g,fun H1 s1=>?_⟩⟩
  have hfl:(zs.map V.str).all dm=true:=by rw[all_eq_true];intro v hv;obtain⟨z,_,rfl⟩:=mem_map.mp hv;rfl
  by_cases hd:ys.dropLast=[]
  ·have e:ji ys = "" := by unfold ji;rw[if_pos hd]
   exact⟨_,rfl,rfl,_,rfl,xJ (decide_eq_true (congrArg V.str e)) (q H1 s1)⟩
  ·have e:ji ys=dotted ys.dropLast:=by unfold ji;rw[if_neg hd]
   have hz:dotted ys.dropLast∈zs:=hup.resolve_left hd
   have hin:inV (V.str (ji ys)) (zs.map V.str)=true:=by rw[e];exact rB (mem_map.mpr ⟨_,hz,rfl⟩)
   by_cases hne:ji ys = ""
   ·exact⟨_,rfl,rfl,_,rfl,xJ (decide_eq_true (congrArg V.str hne)) (q H1 s1)⟩
   ·refine⟨_,rfl,rfl,_,rfl,Br (decide_eq_false fun z=>hne (V.str.inj z)) ⟨_,rfl,_,rfl,la,_,rfl,.inl (SqL.of (s1 _ _ hl)),rfl,hfl,?_⟩⟩
    have q2:=q H1 s1
    have e2:(if true=true then !inV (V.str (ji ys)) (zs.map V.str)else inV (V.str (ji ys)) (zs.map V.str))=false:=by rw[hin];rfl
    rw[<- e2]at q2
    exact q2
theorem t6(T:Tx K mg C)(F:Fun K "binds" "Row.binds" gJ f fd):aK P w K mg base CX0 1 f fd kW Iu:=by
 refine F.oq wU fun _ _ _ _ H _ Q E hr h=>?_
 ·obtain⟨v,rfl,q⟩:=h
  exact⟨_,QSs.h (aA (aL aM)),q H (az.refl H)⟩
theorem jb(T:Tx K mg C)(F:Fun K "asked" "Row.asked" gP f fd):aK P w K mg base CX0 1 f fd kJ wK:=by
 refine F.oq yl fun _ _ _ _ H _ Q E hr h=>?_
 ·obtain⟨v,rfl,q⟩:=h
  exact⟨_,QSs.h (aA (aL (bF aq))),by show 0<=sizeLine;decide,fun b hb=>q b _ hb (az.new hb) ao⟩
theorem qg(T:Tx K mg C)(F:Fun K "__init__" "Let.__init__" dG f fd):aK P w K mg base CX0 1 f fd jt (ye C 0):=by
 refine F.oq zL fun _ _ _ _ H _ Q E hr h=>?_
 ·obtain⟨x,dx,r,d,rfl,hso,hx,hts,h10,q⟩:=h
  refine⟨_,QSs.h (au (d7 (pv 0) (pv 1))
   (aA (d7 (pv 0) (eQ dD Z3 T.t_list boot_list (ak (pv 2) aq))))),?_⟩
  obtain⟨xs,hl,hxl,hxt⟩:=id hts
  have hdx:d≠x:=eZ hl hx Z7
  refine⟨_,rfl,_,rfl,x,_,dx,_,rfl,hx,(T.fam.c 0 Z0).cl,T.fam.nn 0 Z0,lt_of_lt_of_le (zero_lt_one) Z0,_,rfl,d,_,rfl,.inl (SqL.of (by rw[aD hdx];exact hl)),fun l hlf=>⟨_,rfl,x,_,dx,_,rfl,(by rw[aD (jR hlf).2.symm];exact ao),(T.fam.c 0 Z0).cl,T.fam.nt 0 Z0,lt_of_lt_of_le (zE zero_lt_one) Z0,?_⟩⟩
  obtain⟨hl0,hlx⟩:=jR hlf
  refine q l _ hl0 (sb3 hl0) ⟨dx,_,by rw[hso];exact ao,?_⟩
  refine⟨fun _=>(lkN Z4).trans lkP,fun _=>⟨lkP,xs,by rw[aD hlx];exact ao,hxl,fun j y e=>?_⟩,fun k=>absurd k Z1,fun k=>absurd k Z1,(lkN Z4).trans (lkN Z4),(lkN Z4).trans (lkN Z4),(lkN Z4).trans (lkN Z4)⟩
  obtain⟨t,et,tm⟩:=hxt j y e
  exact⟨t,et,tm.but hx (sb3 hl0)⟩
theorem u0(T:Tx K mg C)(F:Fun K "binds" "Let.binds" gF f fd):aK P w K mg base CX0 1 f fd lL (spB C 0):=by
 refine F.oq wZ fun _ _ _ _ H _ Q E hr h=>?_
 ·obtain⟨a,l,r,rfl,hso,ra,q⟩:=h
  refine⟨_,QSs.h (aA (aL (cA (pv 0) rfl))),?_⟩
  obtain⟨dx,fs,ha,hf⟩:=id ra
  rw[hso]at ha
  exact⟨_,rfl,rdF ha (T.fam.c 0 Z0).cl (T.fam.nn 0 Z0) (hf.nm (by rw[hso];decide)) (q H (az.refl H))⟩
theorem pN(T:Tx K mg C)(F:Fun K "__init__" "Deed.__init__" dj f fd):aK P w K mg base CX0 1 f fd iH (ye C 1):=by
 refine F.oq wM fun _ _ _ _ H _ Q E hr h=>?_
 ·obtain⟨x,dx,r,d,rfl,hso,hx,hts,h10,q⟩:=h
  refine⟨_,QSs.h (au (d7 (pv 0) (pv 1))
   (aA (d7 (pv 0) (eQ dD Z3 T.t_list boot_list (ak (pv 2) aq))))),?_⟩
  obtain⟨xs,hl,hxl,hxt⟩:=id hts
  have hdx:d≠x:=eZ hl hx Z7
  refine⟨_,rfl,_,rfl,x,_,dx,_,rfl,hx,(T.fam.c 1 Z0).cl,T.fam.nn 1 Z0,lt_of_lt_of_le (zero_lt_one) Z0,_,rfl,d,_,rfl,.inl (SqL.of (by rw[aD hdx];exact hl)),fun l hlf=>⟨_,rfl,x,_,dx,_,rfl,(by rw[aD (jR hlf).2.symm];exact ao),(T.fam.c 1 Z0).cl,T.fam.nt 1 Z0,lt_of_lt_of_le (zE zero_lt_one) Z0,?_⟩⟩
  obtain⟨hl0,hlx⟩:=jR hlf
  refine q l _ hl0 (sb3 hl0) ⟨dx,_,by rw[hso];exact ao,?_⟩
  refine⟨fun _=>(lkN Z4).trans lkP,fun _=>⟨lkP,xs,by rw[aD hlx];exact ao,hxl,fun j y e=>?_⟩,fun k=>absurd k Z1,fun k=>absurd k Z1,(lkN Z4).trans (lkN Z4),(lkN Z4).trans (lkN Z4),(lkN Z4).trans (lkN Z4)⟩
  obtain⟨t,et,tm⟩:=hxt j y e
  exact⟨t,et,tm.but hx (sb3 hl0)⟩
theorem sO(T:Tx K mg C)(F:Fun K "binds" "Deed.binds" fX f fd):aK P w K mg base CX0 1 f fd jF (spB C 1):=by
 refine F.oq vy fun _ _ _ _ H _ Q E hr h=>?_
 ·obtain⟨a,l,r,rfl,hso,ra,q⟩:=h
  refine⟨_,QSs.h (aA (aL (cA (pv 0) rfl))),?_⟩
  obtain⟨dx,fs,ha,hf⟩:=id ra
  rw[hso]at ha
  exact⟨_,rfl,rdF ha (T.fam.c 1 Z0).cl (T.fam.nn 1 Z0) (hf.nm (by rw[hso];decide)) (q H (az.refl H))⟩
theorem iY(T:Tx K mg C)(F:Fun K "__init__" "Draw.__init__" c7 f fd):aK P w K mg base CX0 1 f fd fO (uo C 2):=by
 refine F.oq w6 fun _ _ _ _ H _ Q E hr h=>?_
 ·obtain⟨x,dx,r,rfl,hso,hx,q⟩:=h
  refine⟨_,QSs.h (au (d7 (pv 0) (pv 1))
   (aA (d7 (pv 0) (pv 2)))),?_⟩
  refine⟨_,rfl,_,rfl,x,_,dx,_,rfl,hx,(T.fam.c 2 Z0).cl,T.fam.na 2 Z0,lt_of_lt_of_le (zero_lt_one) Z0,_,rfl,_,rfl,x,_,dx,_,rfl,ao,(T.fam.c 2 Z0).cl,T.fam.nn 2 Z0,lt_of_lt_of_le (zE zero_lt_one) Z0,?_⟩
  refine q _ (fun b o e hb=>by rw[aD hb,aD hb];exact e) fun l=>⟨dx,_,by rw[hso];exact ao,?_⟩
  exact⟨fun _=>lkP,fun k=>absurd k Z1,fun _=>(lkN Z4).trans lkP,fun k=>absurd k Z1,(lkN Z4).trans (lkN Z4),(lkN Z4).trans (lkN Z4),(lkN Z4).trans (lkN Z4)⟩
theorem sU(T:Tx K mg C)(F:Fun K "binds" "Draw.binds" fu f fd):aK P w K mg base CX0 1 f fd jK (spB C 2):=by
 refine F.oq vp fun _ _ _ _ H _ Q E hr h=>?_
 ·obtain⟨a,l,r,rfl,hso,ra,q⟩:=h
  refine⟨_,QSs.h (aA (aL (cA (pv 0) rfl))),?_⟩
  obtain⟨dx,fs,ha,hf⟩:=id ra
  rw[hso]at ha
  exact⟨_,rfl,rdF ha (T.fam.c 2 Z0).cl (T.fam.nn 2 Z0) (hf.nm (by rw[hso];decide)) (q H (az.refl H))⟩
theorem sI(T:Tx K mg C)(F:Fun K "asked" "Draw.asked" fQ f fd):aK P w K mg base CX0 1 f fd jO (spA C 2):=by
 refine F.oq vz fun _ _ _ _ H _ Q E hr h=>?_
 ·obtain⟨a,l,r,rfl,hso,ra,q⟩:=h
  refine⟨_,QSs.h (aA (aL (bF (ak (cA (pv 0) rfl) aq)))),?_⟩
  obtain⟨dx,fs,ha,hf⟩:=id ra
  rw[hso]at ha
  exact⟨_,rfl,rdF ha (T.fam.c 2 Z0).cl (T.fam.na 2 Z0) (hf.ad (.inl hso)) ⟨by show 1<=sizeLine;decide,fun b hb=>q b _ hb (az.new hb) ao⟩⟩
theorem pD(T:Tx K mg C)(F:Fun K "__init__" "Late.__init__" cZ f fd):aK P w K mg base CX0 1 f fd iJ (uo C 3):=by
 refine F.oq xF fun _ _ _ _ H _ Q E hr h=>?_
 ·obtain⟨x,dx,r,rfl,hso,hx,q⟩:=h
  refine⟨_,QSs.h (au (d7 (pv 0) (pv 1))
   (aA (d7 (pv 0) (pv 2)))),?_⟩
  refine⟨_,rfl,_,rfl,x,_,dx,_,rfl,hx,(T.fam.c 3 Z0).cl,T.fam.na 3 Z0,lt_of_lt_of_le (zero_lt_one) Z0,_,rfl,_,rfl,x,_,dx,_,rfl,ao,(T.fam.c 3 Z0).cl,T.fam.nn 3 Z0,lt_of_lt_of_le (zE zero_lt_one) Z0,?_⟩
  refine q _ (fun b o e hb=>by rw[aD hb,aD hb];exact e) fun l=>⟨dx,_,by rw[hso];exact ao,?_⟩
  exact⟨fun _=>lkP,fun k=>absurd k Z1,fun _=>(lkN Z4).trans lkP,fun k=>absurd k Z1,(lkN Z4).trans (lkN Z4),(lkN Z4).trans (lkN Z4),(lkN Z4).trans (lkN Z4)⟩
theorem sH(T:Tx K mg C)(F:Fun K "binds" "Late.binds" fV f fd):aK P w K mg base CX0 1 f fd jH (spB C 3):=by
 refine F.oq vd fun _ _ _ _ H _ Q E hr h=>?_
 ·obtain⟨a,l,r,rfl,hso,ra,q⟩:=h
  refine⟨_,QSs.h (aA (aL (cA (pv 0) rfl))),?_⟩
  obtain⟨dx,fs,ha,hf⟩:=id ra
  rw[hso]at ha
  exact⟨_,rfl,rdF ha (T.fam.c 3 Z0).cl (T.fam.nn 3 Z0) (hf.nm (by rw[hso];decide)) (q H (az.refl H))⟩
theorem sG(T:Tx K mg C)(F:Fun K "asked" "Late.asked" fB f fd):aK P w K mg base CX0 1 f fd jM (spA C 3):=by
 refine F.oq vf fun _ _ _ _ H _ Q E hr h=>?_
 ·obtain⟨a,l,r,rfl,hso,ra,q⟩:=h
  refine⟨_,QSs.h (aA (aL (bF (ak (cA (pv 0) rfl) aq)))),?_⟩
  obtain⟨dx,fs,ha,hf⟩:=id ra
  rw[hso]at ha
  exact⟨_,rfl,rdF ha (T.fam.c 3 Z0).cl (T.fam.na 3 Z0) (hf.ad (.inr (.inl hso))) ⟨by show 1<=sizeLine;decide,fun b hb=>q b _ hb (az.new hb) ao⟩⟩
theorem ph(T:Tx K mg C)(F:Fun K "__init__" "Take.__init__" cT f fd):aK P w K mg base CX0 1 f fd iC (Hr C):=by
 refine F.oq xN fun _ _ _ _ H _ Q E hr h=>?_
 ·obtain⟨x,dx,r,rfl,hso,hx,q⟩:=h
  refine⟨_,QSs.h (au (d7 (pv 0) (pv 1))
   (au (d7 (pv 0) (pv 2))
   (aA (d7 (pv 0) (pv 3))))),?_⟩
  refine⟨_,rfl,_,rfl,x,_,dx,_,rfl,hx,(T.fam.c 4 Z0).cl,T.fam.nw 4 Z0,lt_of_lt_of_le (zero_lt_one) Z0,_,rfl,_,rfl,x,_,dx,_,rfl,ao,(T.fam.c 4 Z0).cl,T.fam.na 4 Z0,lt_of_lt_of_le (zE zero_lt_one) Z0,_,rfl,_,rfl,x,_,dx,_,rfl,ao,(T.fam.c 4 Z0).cl,T.fam.nn 4 Z0,lt_of_lt_of_le (zE (zE zero_lt_one)) Z0,?_⟩
  refine q _ (fun b o e hb=>by rw[aD hb,aD hb,aD hb];exact e) fun l=>⟨dx,_,by rw[hso];exact ao,?_⟩
  exact⟨fun _=>lkP,fun k=>absurd k Z1,fun _=>(lkN Z4).trans lkP,fun _=>(lkN Z4).trans ((lkN Z4).trans lkP),(lkN Z4).trans ((lkN Z4).trans (lkN Z4)),(lkN Z4).trans ((lkN Z4).trans (lkN Z4)),(lkN Z4).trans ((lkN Z4).trans (lkN Z4))⟩
theorem rW(T:Tx K mg C)(F:Fun K "binds" "Take.binds" fG f fd):aK P w K mg base CX0 1 f fd jG (spB C 4):=by
 refine F.oq vG fun _ _ _ _ H _ Q E hr h=>?_
 ·obtain⟨a,l,r,rfl,hso,ra,q⟩:=h
  refine⟨_,QSs.h (aA (aL (cA (pv 0) rfl))),?_⟩
  obtain⟨dx,fs,ha,hf⟩:=id ra
  rw[hso]at ha
  exact⟨_,rfl,rdF ha (T.fam.c 4 Z0).cl (T.fam.nn 4 Z0) (hf.nm (by rw[hso];decide)) (q H (az.refl H))⟩
theorem sJ(T:Tx K mg C)(F:Fun K "asked" "Take.asked" fL f fd):aK P w K mg base CX0 1 f fd jJ (spA C 4):=by
 refine F.oq vC fun _ _ _ _ H _ Q E hr h=>?_
 ·obtain⟨a,l,r,rfl,hso,ra,q⟩:=h
  refine⟨_,QSs.h (aA (aL (bF (ak (cA (pv 0) rfl) aq)))),?_⟩
  obtain⟨dx,fs,ha,hf⟩:=id ra
  rw[hso]at ha
  exact⟨_,rfl,rdF ha (T.fam.c 4 Z0).cl (T.fam.na 4 Z0) (hf.ad (.inr (.inr hso))) ⟨by show 1<=sizeLine;decide,fun b hb=>q b _ hb (az.new hb) ao⟩⟩
theorem pG(T:Tx K mg C)(F:Fun K "__init__" "Need.__init__" cR f fd):aK P w K mg base CX0 1 f fd iB (Jp C):=by
 refine F.oq xg fun _ _ _ _ H _ Q E hr h=>?_
 ·obtain⟨x,dx,r,d,rfl,hso,hx,hts,h10,q⟩:=h
  refine⟨_,QSs.h (aA (d7 (pv 0) (eQ dD Z3 T.t_list boot_list (ak (pv 1) aq)))),?_⟩
  obtain⟨xs,hl,hxl,hxt⟩:=id hts
  refine⟨_,rfl,d,_,rfl,.inl (SqL.of hl),fun l hl0=>⟨_,rfl,x,_,dx,_,rfl,(by rw[aD (aF hx hl0)];exact hx),(T.fam.c 5 Z0).cl,T.fam.nt 5 Z0,lt_of_lt_of_le (zero_lt_one) Z0,?_⟩⟩
  have hlx:l≠x:=(aF hx hl0).symm
  refine q l _ hl0 (sb2 hl0) ⟨dx,_,by rw[hso];exact ao,?_⟩
  refine⟨fun k=>absurd k Z1,fun _=>⟨lkP,xs,by rw[aD hlx];exact ao,hxl,fun j y e=>?_⟩,fun k=>absurd k Z1,fun k=>absurd k Z1,lkN Z4,lkN Z4,lkN Z4⟩
  obtain⟨t,et,tm⟩:=hxt j y e
  exact⟨t,et,tm.but hx (sb2 hl0)⟩
theorem mF{C:Addr}{m:Str}{f:Addr}{fd:FuncData}{q:Str}{st:Stmt}{ps:List Str}{k:Nat}{sp sp':Sp}(A:MAt K m q st ps f fd)(M:Meth K C m f)(G:aK P w K mg base CX0 k f fd ps sp)(hk:k<=3)(h:∀ vs H Q E,sp' vs H Q E->sp vs H Q E):VM P w K mg base 3 C m sp' :=
 ⟨f,fd,ps,M,(G.mono hk).imp h,A.b⟩
theorem rdB{C:Nat->Addr}(T:Tx K mg C){H:Hp}{a l:Addr}{r:cu}{Q:VK}(ra:dU C H a l r)(g:GoodR r)(q:Pur (.str r.nm) H Q):MV P w K mg base 3 "binds" (.ref a) H Q:=by
 obtain⟨so,nn,aa,ww,tt⟩:=r
 have h5:so<=5:=g.so
 obtain⟨dx,fs,ha,hf⟩:=id ra
 rcases six h5 with rfl|rfl|rfl|rfl|rfl|rfl
 ·obtain⟨f,fd,A,M⟩:=T.m_Let_binds
  exact⟨a,C 0,dx,fs,spB C 0,rfl,ha,hf.nb,(T.fam.c 0 Z0).cl,mF A M (u0 T A.F) Z0 (fun _ _ _ _ h=>h),a,l,_,rfl,rfl,ra,q⟩
 ·obtain⟨f,fd,A,M⟩:=T.m_Deed_binds
  exact⟨a,C 1,dx,fs,spB C 1,rfl,ha,hf.nb,(T.fam.c 1 Z0).cl,mF A M (sO T A.F) Z0 (fun _ _ _ _ h=>h),a,l,_,rfl,rfl,ra,q⟩
 ·obtain⟨f,fd,A,M⟩:=T.m_Draw_binds
  exact⟨a,C 2,dx,fs,spB C 2,rfl,ha,hf.nb,(T.fam.c 2 Z0).cl,mF A M (sU T A.F) Z0 (fun _ _ _ _ h=>h),a,l,_,rfl,rfl,ra,q⟩
 ·obtain⟨f,fd,A,M⟩:=T.m_Late_binds
  exact⟨a,C 3,dx,fs,spB C 3,rfl,ha,hf.nb,(T.fam.c 3 Z0).cl,mF A M (sH T A.F) Z0 (fun _ _ _ _ h=>h),a,l,_,rfl,rfl,ra,q⟩
 ·obtain⟨f,fd,A,M⟩:=T.m_Take_binds
  exact⟨a,C 4,dx,fs,spB C 4,rfl,ha,hf.nb,(T.fam.c 4 Z0).cl,mF A M (rW T A.F) Z0 (fun _ _ _ _ h=>h),a,l,_,rfl,rfl,ra,q⟩
 ·obtain⟨f,fd,A,M⟩:=T.m_Row_binds
  exact⟨a,C 5,dx,fs,Iu,rfl,ha,hf.nb,(T.fam.c 5 Z0).cl,mF A M.1 (t6 T A.F) Z0 (fun _ _ _ _ h=>h),.ref a,rfl,by have e:nn = "" := g.no rfl;rw[<- e];exact q⟩
theorem rdA{C:Nat->Addr}(T:Tx K mg C){H:Hp}{a l:Addr}{r:cu}{Q:VK}(ra:dU C H a l r)(g:GoodR r)(q:∀ b H',H b=none->az H H'->H' b=some (.lst ((dq r).map V.str))->Q (.ref b) H'):MV P w K mg base 3 "asked" (.ref a) H Q:=by
 obtain⟨so,nn,aa,ww,tt⟩:=r
 have h5:so<=5:=g.so
 obtain⟨dx,fs,ha,hf⟩:=id ra
 rcases six h5 with rfl|rfl|rfl|rfl|rfl|rfl
 ·obtain⟨f,fd,A,M⟩:=T.m_Row_asked
  exact⟨a,C 0,dx,fs,wK,rfl,ha,hf.na,(T.fam.c 0 Z0).cl,mF A M.1 (jb T A.F) Z0 (fun _ _ _ _ h=>h),.ref a,rfl,fun b H' h1 h2 h3=>q b H' h1 h2 h3⟩
 ·obtain⟨f,fd,A,M⟩:=T.m_Row_asked
  exact⟨a,C 1,dx,fs,wK,rfl,ha,hf.na,(T.fam.c 1 Z0).cl,mF A M.2.1 (jb T A.F) Z0 (fun _ _ _ _ h=>h),.ref a,rfl,fun b H' h1 h2 h3=>q b H' h1 h2 h3⟩
 ·obtain⟨f,fd,A,M⟩:=T.m_Draw_asked
  exact⟨a,C 2,dx,fs,spA C 2,rfl,ha,hf.na,(T.fam.c 2 Z0).cl,mF A M (sI T A.F) Z0 (fun _ _ _ _ h=>h),a,l,_,rfl,rfl,ra,fun b H' h1 h2 h3=>q b H' h1 h2 h3⟩
 ·obtain⟨f,fd,A,M⟩:=T.m_Late_asked
  exact⟨a,C 3,dx,fs,spA C 3,rfl,ha,hf.na,(T.fam.c 3 Z0).cl,mF A M (sG T A.F) Z0 (fun _ _ _ _ h=>h),a,l,_,rfl,rfl,ra,fun b H' h1 h2 h3=>q b H' h1 h2 h3⟩
 ·obtain⟨f,fd,A,M⟩:=T.m_Take_asked
  exact⟨a,C 4,dx,fs,spA C 4,rfl,ha,hf.na,(T.fam.c 4 Z0).cl,mF A M (sJ T A.F) Z0 (fun _ _ _ _ h=>h),a,l,_,rfl,rfl,ra,fun b H' h1 h2 h3=>q b H' h1 h2 h3⟩
 ·obtain⟨f,fd,A,M⟩:=T.m_Row_asked
  exact⟨a,C 5,dx,fs,wK,rfl,ha,hf.na,(T.fam.c 5 Z0).cl,mF A M.2.2.1 (jb T A.F) Z0 (fun _ _ _ _ h=>h),.ref a,rfl,fun b H' h1 h2 h3=>q b H' h1 h2 h3⟩
theorem jd(T:Tx K mg C)(F:Fun K "__init__" "Part.__init__" cX f fd):aK P w K mg base CX0 1 f fd fH (Av C):=by
 refine F.oq xT fun _ _ _ _ H _ Q E hr h=>?_
 ·obtain⟨x,dx,ad,d,rs,rfl,hx,hrs,h12,q⟩:=h
  refine⟨_,QSs.h (au (d7 (pv 0) (pv 1))
   (aA (d7 (pv 0) (eQ dD Z3 T.t_list boot_list (ak (pv 2) aq))))),?_⟩
  obtain⟨xs,hl,hxl,hxt⟩:=id hrs
  have hdx:d≠x:=eZ hl hx Z7
  refine⟨_,rfl,_,rfl,x,_,dx,_,rfl,hx,T.pt.cl.cl,T.pt.na,lt_of_lt_of_le (zero_lt_one) Z0,_,rfl,d,_,rfl,.inl (SqL.of (by rw[aD hdx];exact hl)),fun l hlf=>⟨_,rfl,x,_,dx,_,rfl,(by rw[aD (jR hlf).2.symm];exact ao),T.pt.cl.cl,T.pt.nr,lt_of_lt_of_le (zE zero_lt_one) Z0,?_⟩⟩
  obtain⟨hl0,hlx⟩:=jR hlf
  refine q l _ hl0 (sb3 hl0) ⟨dx,_,ao,(lkN Z4).trans lkP,lkP,(lkN Z4).trans (lkN Z4),(lkN Z4).trans (lkN Z4),(lkN Z4).trans (lkN Z4),?_⟩
  refine⟨xs,by rw[aD hlx];exact ao,hxl,fun j r e=>?_⟩
  obtain⟨a,t,e2,ra⟩:=hxt j r e
  exact⟨a,t,e2,ra.but (h12.at e) hx (sb3 hl0)⟩
theorem rY (T:Tx K mg C) (F:Fun K "bound" "Part.bound" fc f fd):aK P w K mg base CX0 4 f fd gG (Ds C):=by
 refine F.oq o7 fun _ _ _ _ H _ Q E hr h=>?_
 ·obtain ⟨p,ad,l,rs,rfl,hp,hg,q⟩:=h
  have hr3:aP 3 _:=hr
  refine ⟨_,QSs.h (au (iQ (N:=["row"]) [none] (i:=1) o7.nd rfl (Or.inl rfl) rfl Z5 (aR (cA (pv 0) rfl)) (fun cl C fp s H=>(aG (i:=0) (by decide +kernel:(["row"]:List Str).Nodup) rfl (Or.inl rfl))) (fun cl C fp s H=>cJ) (fun cl C fp s H=>(zH (P:=P) (w:=w) (K:=K) (mg:=mg) (base:=base) rfl rfl rfl rfl rfl hr3 (pv 0))))
   (aA (aL (bJ (N:=["name"]) [none] rfl Z5 (aR (pv 1)) (fun cl C fp s H=>(aG (i:=0) (by decide +kernel:(["name"]:List Str).Nodup) rfl (Or.inl rfl))) (fun cl C fp s H=>(d8 (aH wF (pv 0) aM (aQ _)))) (fun cl C fp s H=>(pv 0)))))),?_⟩
  obtain ⟨dx,fs,ea,a1,a2,a3,a4,a5,hr0⟩:=id hp
  obtain ⟨xs,hl,hxl,hxt⟩:=id hr0
  refine ⟨_,rfl,rdF ea T.pt.cl.cl T.pt.nr a2 ?_⟩
  have hx12:xs.length <= sizeLine:=le_trans (show xs.length <= 12 by rw [hxl]; exact hg.hi) Z0
  refine ⟨l,rfl,⟨xs,SqL.of hl⟩,?_⟩
  refine dZ (fun i=>(rs.map fun r=>V.str r.nm).getD i .non) hx12 (SqL.of hl) (fun i x H' Q' hx sm k=>?_) (fun H' sm b hb=>?_)
  ·have hi:i < rs.length:=by rw [<- hxl]; exact (List.getElem?_eq_some_iff.mp hx).1
   obtain ⟨a,t,e2,ra⟩:=hxt i rs[i] (getElem?_eq_getElem hi)
   obtain rfl:x = .ref a:=by rw [hx] at e2; exact Option.some.inj e2
   refine ⟨_,rfl,rdB T (ra.same sm) (hg.at (getElem?_eq_getElem hi)) fun H'' s''=>?_⟩
   have e:(rs.map fun r=>V.str r.nm).getD i .non = V.str rs[i].nm:=by simp [List.getD,hi]
   rw [<- e]
   exact k H'' s''
  ·have em:(List.range xs.length).map (fun i=>(rs.map fun r=>V.str r.nm).getD i .non) = rs.map fun r=>V.str r.nm:=by
    apply ext_getElem
    ·simp [hxl]
    ·intro i h1 h2
     have:i < rs.length:=by simpa using h2
     simp [this]
   rw [em]
   refine ⟨_,rfl,b,rfl,⟨_,SqL.of ao⟩,?_⟩
   refine bM isE (by rw [length_map,<- hxl]; exact hx12) (SqL.of ao) (fun x H2 Q2 hx s2 k=>?_) (fun x H2 Q2 hx s2 k=>?_) (fun H2 s2 c hc=>?_)
   ·obtain ⟨r,_,rfl⟩:=mem_map.mp hx
    exact ⟨_,rfl,rfl,_,rfl,k H2 (az.refl H2)⟩
   ·exact ⟨_,rfl,k H2 (az.refl H2)⟩
   ·exact q c _ (sm.free ((az.new hb).free (s2.free hc))) (sm.trans ((az.new hb).trans (s2.put hc))) ao
theorem zj(T:Tx K mg C)(F:Fun K "is_clash" "is_clash" lD f fd):aK P w K mg base CX0 5 f fd mC (Dd C):=by
 obtain⟨fbg,dbg,Abg,M_bound⟩:=T.m_Part_bound
 have Gbg:aK P w K mg base CX0 4 fbg dbg gG (Ds C):=rY T Abg.F
 refine F.oq zX fun _ _ _ _ H _ Q E hr h=>?_
 ·obtain⟨p,l,la,ys,zs,rs,rfl,hp,g,hg,hl,hcl,q⟩:=h
  have hr4:aP 4 _:=hr
  refine⟨_,QSs.h (aA (aL (bc (yF rfl) Z3 T.any boot_any (ak (bJ (N:=["name", "addresses", "part"]) [none,some 1,some 0] rfl Z5 (aR (u5 (pv 0) T.pt.cl.cl M_bound Gbg hr4 Abg.b .nil nP)) (fun cl C fp s H=>(aG (i:=0) (by decide +kernel:(["name", "addresses", "part"]:List Str).Nodup) rfl (Or.inl rfl))) (fun cl C fp s H=>cJ) (fun cl C fp s H=>(iI (ug (K:=K) rfl) (aV bA (aV bA (nU (K:=K) rfl (pv 2) rfl) aM) (pv 0)) (pv 1) Z3))) aq)))),?_⟩
  obtain⟨dx,fs,ea,a1,a2,a3,a4,a5,hr0⟩:=id hp
  have hfl:(zs.map V.str).all dm=true:=by rw[all_eq_true];intro v hv;obtain⟨z,_,rfl⟩:=mem_map.mp hv;rfl
  have hnl:(rA rs).length<=12:=by
   have h1:=length_filter_le isE (rs.map fun r=>V.str r.nm)
   rw[length_map]at h1
   exact le_trans h1 hg.hi
  refine⟨_,rfl,p,dx,fs,rfl,ea,a3,p,_,l,rs,rfl,hp,hg,fun b H1 hb s1 hbl=>⟨b,rfl,⟨_,SqL.of hbl⟩,?_⟩⟩
  refine dZ (fun _=>V.bl false) (le_trans hnl Z0) (SqL.of hbl) (fun i x H' Q' hx sm k=>?_) (fun H' sm c hc=>?_)
  ·obtain⟨r,hr,rfl,hn⟩:=Az (mem_of_getElem? hx)
   have s2:=s1.trans sm
   have h8:r.nm.length<=8:=(hg.ok r hr).nl
   have h36:=g.len
   refine⟨_,rfl,rdF (s2 _ _ ea) T.pt.cl.cl T.pt.na a1 ⟨_,_,rfl,rfl,abS h36 oZ,_,rfl,_,_,rfl,rfl,abS (alS h36 oZ) h8,_,rfl,la,_,rfl,.inl (SqL.of (s2 _ _ hl)),rfl,hfl,?_⟩⟩
   have hin:inV (V.str (dotted ys ++ "." ++ r.nm)) (zs.map V.str)=false:=Bj fun v hv=>by
    obtain⟨z,hz,rfl⟩:=mem_map.mp hv
    exact⟨z,rfl,fun e=>hcl r hr hn (e▸hz)⟩
   have k2:Q' (V.bl false) H':=k H' (az.refl _)
   rw[<- hin]at k2
   exact k2
  ·refine⟨c,List.replicate (rA rs).length false,rfl,SqL.of (ao.trans ?_),?_⟩
   ·rw[List.map_replicate]
    congr 2
    apply ext_getElem
    ·simp
    ·intro i h1 h2
     simp
   ·have e:((List.replicate (rA rs).length false).any id)=false:=by simp
    show Q (V.bl ((List.replicate (rA rs).length false).any id)) _
    rw[e]
    exact q _ ((s1.trans sm).put hc)
theorem uh(T:Tx K mg C)(F:Fun K "check_parts" "check_parts" gQ f fd):aK P w K mg base CX0 6 f fd gM (Du C):=by
 obtain⟨fa3,da3,Aa3⟩:=T.aa3
 have Ga3:aK P w K mg base CX0 2 fa3 da3 jq (zB C):=yx T Aa3.F
 obtain⟨faw,daw,Aaw⟩:=T.aaw
 have Gaw:aK P w K mg base CX0 5 faw daw mC (Dd C):=zj T Aaw.F
 refine F.oq gB fun _ _ _ _ H _ Q E hr h=>?_
 ·obtain⟨l,ps,rfl,hps,g,q⟩:=h
  have hr2:aP 2 _:=hr.mono Z0
  have hr5:aP 5 _:=hr
  refine⟨_,QSs.h (au (iQ (N:=["part"]) [none] (i:=1) gB.nd rfl (Or.inl rfl) rfl Z5 (aR (pv 0)) (fun cl C fp s H=>(aG (i:=0) (by decide +kernel:(["part"]:List Str).Nodup) rfl (Or.inl rfl))) (fun cl C fp s H=>cJ) (fun cl C fp s H=>(nU (K:=K) rfl (pv 0) rfl)))
   (aA (bY PassesOwn.never rfl (J7 (K:=K) rfl Z3 T.enumerate (ak (pv 0) aq)) (xj (K:=K) (n:=2) rfl rfl (eY (aG (i:=2) gB.nd rfl (Or.inl rfl)) (eY (aG (i:=3) gB.nd rfl (Or.inl rfl)) yf)))
   (au (bG (aH PL (pv 2) (JV T.g_MOST_PARTS) (aQ _)) (aA p6) aU)
   (au (bG (aH ou (cA (pv 3) rfl) (ir oh (pv 1) kj (iD (pv 2))) Z3) (aA p6) aU)
   (au (bG (kE (aY Aa3 Ga3 hr2 (ak (pv 3) (ak (pv 1) aq)))) (aA p6) aU)
   (aA (bG (kE (aY Aaw Gaw hr5 (ak (pv 3) (ak (pv 1) aq)))) (aA p6) aU)))))))),?_⟩
  obtain⟨xs,hl,hxl,hxt⟩:=id hps
  have h12:=g.hi
  have hx12:xs.length<=sizeLine:=le_trans (show xs.length<=12 by omega) Z0
  refine⟨_,rfl,l,rfl,⟨_,SqL.of hl⟩,dZ (fun i=>((adS ps).map V.str).getD i .non) hx12 (SqL.of hl) (fun i x H' Q' hx sm k=>?_) (fun H1 s1 b hb=>?_)⟩
  ·have hi:i<ps.length:=by rw[<- hxl];exact(List.getElem?_eq_some_iff.mp hx).1
   obtain⟨a,lr,e2,pa⟩:=hxt i ps[i] (getElem?_eq_getElem hi)
   obtain rfl:x=.ref a:=by rw[hx]at e2;exact Option.some.inj e2
   obtain⟨dx,fs,ea,a1,_⟩:=pa.same sm
   have k2:Q' (((adS ps).map V.str).getD i .non) H':=k H' (az.refl _)
   rw[K1 hi]at k2
   exact⟨_,rfl,rdF ea T.pt.cl.cl T.pt.na a1 k2⟩
  rw[CT hxl]
  have s2:az H (upd H1 b (.lst ((adS ps).map V.str))):=s1.put hb
  have hb2:(upd H1 b (.lst ((adS ps).map V.str))) b=some (.lst ((adS ps).map V.str)):=ao
  generalize upd H1 b (.lst ((adS ps).map V.str))=H2 at s2 hb2
  have hfl:∀ zs:List Str,(zs.map V.str).all dm=true:=dO
  refine⟨_,rfl,l,rfl,⟨xs,SqL.of (s2 _ _ hl)⟩,?_⟩
  refine FT (xs:=xs) (fun i σ H'=>∃ v2 v3,σ=[some (.ref l),some (.ref b),v2,v3]/\az H2 H') ⟨none,none,rfl,az.refl _⟩ (fun i σ H' hi hv=>?_) (fun i x p0 σ H' hx hv hp0=>?_) (fun σ H' hv=>?_)
  ·obtain⟨v2,v3,rfl,sm⟩:=hv
   exact SqL.of (sm _ _ (s2 _ _ hl))
  ·obtain⟨v2,v3,rfl,sm⟩:=hv
   have hi:i<ps.length:=by rw[<- hxl];exact(List.getElem?_eq_some_iff.mp hx).1
   have er:ps[i]? = some ps[i]:=getElem?_eq_getElem hi
   obtain⟨a,lr,e2,pa0⟩:=hxt i ps[i] er
   obtain rfl:x=.ref a:=by rw[hx]at e2;exact Option.some.inj e2
   have gp:=g.at er
   have s3:az H (upd H' p0 (.tup [.int (0+(i:Int)),.ref a])):=(s2.trans sm).put hp0
   have s23:az H2 (upd H' p0 (.tup [.int (0+(i:Int)),.ref a])):=sm.put hp0
   obtain⟨dx,fs,ea,a1,_⟩:=pa0.same s3
   refine⟨p0,_,rfl,SqT.of ao,rfl,_,_,rfl,_,_,rfl,rfl,?_⟩
   refine⟨_,rfl,_,_,rfl,rfl,_,rfl,bI (decide_eq_false Z1) ?_⟩
   refine⟨_,rfl,rdF ea T.pt.cl.cl T.pt.na a1 ⟨_,rfl,_,rfl,_,rfl,b,_,rfl,SqL.of (s23 _ _ hb2),fun c hc=>?_⟩⟩
   have s4:az H (upd (upd H' p0 (.tup [.int (0+(i:Int)),.ref a])) c (.lst (iy ((adS ps).map V.str) none (some (0+(i:Int)))))):=s3.put hc
   have s24:az H2 (upd (upd H' p0 (.tup [.int (0+(i:Int)),.ref a])) c (.lst (iy ((adS ps).map V.str) none (some (0+(i:Int)))))):=s23.put hc
   have ec:iy ((adS ps).map V.str) none (some (0+(i:Int)))=((adS ps).take i).map V.str:=by rw[Int.zero_add,Gs,map_take]
   have hc4:(upd (upd H' p0 (.tup [.int (0+(i:Int)),.ref a])) c (.lst (iy ((adS ps).map V.str) none (some (0+(i:Int)))))) c=some (.lst (((adS ps).take i).map V.str)):=ao.trans (by rw[ec])
   generalize upd (upd H' p0 (.tup [.int (0+(i:Int)),.ref a])) c (.lst (iy ((adS ps).map V.str) none (some (0+(i:Int)))))=H4 at s4 s24 hc4
   refine⟨c,((adS ps).take i).map V.str,rfl,.inl (SqL.of hc4),rfl,hfl _,_,rfl,bI (DX g.nd er) ?_⟩
   refine⟨_,rfl,_,rfl,a,lr,b,ps[i].ad,adS ps,ps[i].rs,rfl,pa0.same s4,gp.ad,s24 _ _ hb2,g.up _ (getElem_mem hi),fun H5 s5=>⟨_,rfl,oO ?_⟩⟩
   refine⟨_,rfl,_,rfl,a,lr,b,ps[i].ad,adS ps,ps[i].rs,rfl,pa0.same (s4.trans s5),gp.ad,gp.rs,(s24.trans s5) _ _ hb2,g.cl _ (getElem_mem hi),fun H6 s6=>⟨_,rfl,oO ?_⟩⟩
   exact⟨_,_,rfl,s24.trans (s5.trans s6)⟩
  ·obtain⟨v2,v3,rfl,sm⟩:=hv
   exact q _ (s2.trans sm)
theorem iz(T:Tx K mg C)(F:Fun K "__init__" "House.__init__" cL f fd):aK P w K mg base CX0 7 f fd dR (Bm C):=by
 obtain⟨fav,dav,Aav⟩:=T.aav
 have Gav:aK P w K mg base CX0 6 fav dav gM (Du C):=uh T Aav.F
 refine F.oq vg fun _ _ _ _ H _ Q E hr h=>?_
 ·obtain⟨x,dx,d,ps,xs,rfl,hx,hl0,hps,g,q⟩:=h
  have hr6:aP 6 _:=hr
  refine⟨_,QSs.h (au (cU (aY Aav Gav hr6 (ak (pv 1) aq)))
   (aA (d7 (pv 0) (eQ dD Z3 T.t_list boot_list (ak (pv 1) aq))))),?_⟩
  refine⟨_,rfl,d,ps,rfl,⟨xs,hl0,hps.1,hps.2⟩,g,fun H1 s1=>?_⟩
  have hl:=s1 _ _ hl0
  have hx1:=s1 _ _ hx
  refine⟨_,rfl,d,_,rfl,.inl (SqL.of hl),fun l hl0=>⟨_,rfl,x,_,dx,_,rfl,(by rw[aD (aF hx1 hl0)];exact hx1),T.hs.cl.cl,T.hs.nt,lt_of_lt_of_le zero_lt_one Z0,?_⟩⟩
  have hlx:l≠x:=(aF hx1 hl0).symm
  have sb:SameBut x H1 (upd (upd H1 l (.lst xs)) x (.ins (C 8) dx (jU "told" (.ref l) []))):=sb2 hl0
  exact q l _ (s1.free hl0) (fun bb o e hb=>sb bb o (s1 _ _ e) hb) ⟨dx,_,ao,lkP,lkN Z4,lkN Z4,lkN Z4,lkN Z4⟩ (by rw[aD hlx];exact ao)
theorem gZ(T:Tx K mg C)(F:Fun K "addresses" "House.addresses" cC f fd):aK P w K mg base CX0 1 f fd bZ (yw C):=by
 refine F.oq pR fun _ _ _ _ H _ Q E hr h=>?_
 ·obtain⟨h0,l,ps,rfl,hh,g,q⟩:=h
  refine⟨_,QSs.h (aA (aL (bc lC Z3 T.sorted boot_sorted (ak (bJ (N:=["part"]) [none] rfl Z5 (aR (cA (pv 0) rfl)) (fun cl C fp s H=>(aG (i:=0) (by decide +kernel:(["part"]:List Str).Nodup) rfl (Or.inl rfl))) (fun cl C fp s H=>cJ) (fun cl C fp s H=>(nU (K:=K) rfl (pv 0) rfl))) aq)))),?_⟩
  obtain⟨dx,fs,ea,a1,a2,a3,a4,xs,hl,hxl,hxt⟩:=id hh
  have h12:=g.hi
  have hx12:xs.length<=sizeLine:=le_trans (show xs.length<=12 by omega) Z0
  refine⟨_,rfl,rdF ea T.hs.cl.cl T.hs.nt a1 ⟨l,rfl,⟨_,SqL.of hl⟩,dZ (fun i=>((adS ps).map V.str).getD i .non) hx12 (SqL.of hl) (fun i x H' Q' hx sm k=>?_) (fun H1 s1 b hb=>?_)⟩⟩
  ·have hi:i<ps.length:=by rw[<- hxl];exact(List.getElem?_eq_some_iff.mp hx).1
   obtain⟨a,lr,e2,pa⟩:=hxt i ps[i] (getElem?_eq_getElem hi)
   obtain rfl:x=.ref a:=by rw[hx]at e2;exact Option.some.inj e2
   obtain⟨dx,fs,ea,a1,_⟩:=pa.same sm
   have k2:Q' (((adS ps).map V.str).getD i .non) H':=k H' (az.refl _)
   rw[K1 hi]at k2
   exact⟨_,rfl,rdF ea T.pt.cl.cl T.pt.na a1 k2⟩
  have hlen:(adS ps).length=ps.length:=by unfold adS;rw[length_map]
  refine⟨b,adS ps,rfl,SqL.of (ao.trans (by rw[CT hxl])),Z1,fun c zs h1 h2 hc=>?_⟩
  exact q c _ zs (s1.free ((az.new hb).free hc)) ((s1.put hb).put hc) h1 h2 ao
theorem nD(T:Tx K mg C)(F:Fun K "has" "House.has" gH f fd):aK P w K mg base CX0 1 f fd eU (Ag C):=by
 refine F.oq wW fun _ _ _ _ H _ Q E hr h=>?_
 ·obtain⟨h0,l,ps,z,rfl,hh,g,q⟩:=h
  refine⟨_,QSs.h (aA (aL (bc (yF rfl) Z3 T.any boot_any (ak (bJ (N:=["part", "address"]) [none,some 1] rfl Z5 (aR (cA (pv 0) rfl)) (fun cl C fp s H=>(aG (i:=0) (by decide +kernel:(["part", "address"]:List Str).Nodup) rfl (Or.inl rfl))) (fun cl C fp s H=>cJ) (fun cl C fp s H=>(iI dI (nU (K:=K) rfl (pv 0) rfl) (pv 1) (aQ _)))) aq)))),?_⟩
  obtain⟨dx,fs,ea,a1,a2,a3,a4,xs,hl,hxl,hxt⟩:=id hh
  have h12:=g.hi
  have hx12:xs.length<=sizeLine:=le_trans (show xs.length<=12 by omega) Z0
  refine⟨_,rfl,rdF ea T.hs.cl.cl T.hs.nt a1 ⟨l,rfl,⟨_,SqL.of hl⟩,dZ (fun i=>V.bl (((adS ps).map fun y=>decide (V.str y=V.str z)).getD i false)) hx12 (SqL.of hl) (fun i x H' Q' hx sm k=>?_) (fun H1 s1 b hb=>?_)⟩⟩
  ·have hi:i<ps.length:=by rw[<- hxl];exact(List.getElem?_eq_some_iff.mp hx).1
   obtain⟨a,lr,e2,pa⟩:=hxt i ps[i] (getElem?_eq_getElem hi)
   obtain rfl:x=.ref a:=by rw[hx]at e2;exact Option.some.inj e2
   obtain⟨dx,fs,ea,a1,_⟩:=pa.same sm
   have k2:Q' (V.bl (((adS ps).map fun y=>decide (V.str y=V.str z)).getD i false)) H':=k H' (az.refl _)
   have e:((adS ps).map fun y=>decide (V.str y=V.str z)).getD i false=decide (V.str (dotted ps[i].ad)=V.str z):=by simp[adS,List.getD,hi]
   rw[e]at k2
   exact⟨_,rfl,rdF ea T.pt.cl.cl T.pt.na a1 ⟨_,rfl,rfl,k2⟩⟩
  have em:(List.range xs.length).map (fun i=>V.bl (((adS ps).map fun y=>decide (V.str y=V.str z)).getD i false))=((adS ps).map fun y=>decide (V.str y=V.str z)).map V.bl:=by
   have hlen:(adS ps).length=ps.length:=by unfold adS;rw[length_map]
   apply ext_getElem
   ·simp[hxl,hlen]
   ·intro i h1 h2
    have:i<(adS ps).length:=by simpa using h2
    simp[this]
  refine⟨b,(adS ps).map fun y=>decide (V.str y=V.str z),rfl,SqL.of (ao.trans (by rw[em])),?_⟩
  have e:(((adS ps).map fun y=>decide (V.str y=V.str z)).any id)=decide (z∈adS ps):=by
   rw[List.any_map]
   by_cases hz:z∈adS ps
   ·rw[decide_eq_true hz,any_eq_true]
    exact⟨z,hz,decide_eq_true rfl⟩
   ·rw[decide_eq_false hz,any_eq_false]
    intro y hy k
    exact hz (V.str.inj (of_decide_eq_true k)▸hy)
  show Q (V.bl (((adS ps).map fun y=>decide (V.str y=V.str z)).any id)) _
  rw[e]
  exact q _ (s1.put hb)
theorem rZ(T:Tx K mg C)(F:Fun K "part" "House.part" fM f fd):aK P w K mg base (CX1 P w) 3 f fd gO (Cy C):=by
 obtain⟨fao,dao,Aao⟩:=T.i_NoPart
 have Gao:aK P w K mg base CX0 1 fao dao f9 (Hj (C 21) "address"):=rO T Aao.F
 refine F.oqX o5 fun _ _ _ _ H _ Q E hr h=>?_
 ·obtain⟨h0,l,ps,z,rfl,hh,g,hz,q,qe⟩:=h
  have hr2:aP 2 _:=hr
  refine⟨_,QSs.h (au (bY PassesOwn.leaving rfl (aR (cA (pv 0) rfl)) (aG (i:=2) o5.nd rfl (Or.inl rfl))
   (aA (bG (aH dI (cA (pv 2) rfl) (pv 1) (aQ _)) (aA (aL (pv 2))) aU)))
   (aA (zN jP rfl (K4 Aao Gao hr2 T.c_NoPart T.xn (ak (pv 1) aq))))),?_⟩
  obtain⟨dx,fs,ea,a1,a2,a3,a4,xs,hl,hxl,hxt⟩:=id hh
  refine⟨_,rfl,rdF ea T.hs.cl.cl T.hs.nt a1 ⟨l,rfl,⟨xs,SqL.of hl⟩,?_⟩⟩
  refine bU (xs:=xs) (fun i σ H'=>∃ v2,σ=[some (.ref h0),some (.str z),v2]/\az H H'/\∀ (j:Nat) p,j<i->ps[j]? = some p->¬ dotted p.ad=z) ⟨none,rfl,az.refl _,fun j p hj=>absurd hj (not_lt_zero _)⟩ ?_ ?_ ?_
  ·rintro i σ H' _ ⟨v2,rfl,sm,_⟩
   exact SqL.of (sm _ _ hl)
  ·rintro i x σ H' hx ⟨v2,rfl,sm,hb⟩
   have hi:i<ps.length:=by rw[<- hxl];exact(List.getElem?_eq_some_iff.mp hx).1
   have er:ps[i]? = some ps[i]:=getElem?_eq_getElem hi
   obtain⟨a,lr,e2,pa⟩:=hxt i ps[i] er
   obtain rfl:x=.ref a:=by rw[hx]at e2;exact Option.some.inj e2
   obtain⟨dy,gs,eb,b1,_⟩:=pa.same sm
   refine⟨_,rfl,rdF eb T.pt.cl.cl T.pt.na b1 ⟨_,rfl,rfl,_,rfl,fZ (fun hy=>?_) (fun hn=>?_)⟩⟩
   ·exact⟨_,rfl,q i _ a lr H' sm er (V.str.inj hy) (pa.same sm)⟩
   ·refine⟨_,rfl,sm,fun j p hj e=>?_⟩
    rcases lt_or_ge j i with k|k
    ·exact hb j p k e
    ·obtain rfl:j=i:=by omega
     rw[er]at e
     cases e
     exact fun z=>hn (congrArg V.str z)
  ·rintro σ H' ⟨v2,rfl,sm,hb⟩
   have hno:z∉adS ps:=fun hm=>by
    obtain⟨p,hp,e⟩:=mem_map.mp hm
    obtain⟨j,hj,ej⟩:=getElem_of_mem hp
    exact hb j p Z1 (by rw[getElem?_eq_getElem hj,ej]) e
   refine⟨_,rfl,fun x hx=>⟨x,.str z,rfl,ao,⟨z,rfl,hz⟩,fun p hp hne=>⟨rfl,x,C 21,some p,rfl,ao,T.xn,?_⟩⟩⟩
   have s1:az H' (upd (upd (upd (upd H' x (ExO true x (C 21) none)) p (XdO p [("address",.str z)])) x (ExO true x (C 21) (some p))) x (ExO false x (C 21) (some p))):=(((az.new hx).put hp).over hx).over hx
   exact qe hno x _ (sm.trans s1) ⟨p,ao,by rw[aD hne,aD hne];exact ao⟩
theorem nQ(T:Tx K mg C)(F:Fun K "with_part" "House.with_part" cD f fd):aK P w K mg base CX0 9 f fd cW (zA C):=by
 obtain⟨fal,dal,Aal,M_hhas⟩:=T.m_House_has
 have Gal:aK P w K mg base CX0 1 fal dal eU (Ag C):=nD T Aal.F
 obtain⟨faj,daj,Aaj,M_House⟩:=T.i_House
 have Gaj:aK P w K mg base CX0 7 faj daj dR (Bm C):=iz T Aaj.F
 refine F.oq qu fun _ _ _ _ H _ Q E hr h=>?_
 ·obtain⟨h0,l,p,lr,ps,n,rfl,hh,g,hp,hin,g2,q⟩:=h
  have hr1:aP 1 _:=hr.mono Z0
  have hr2:aP 2 _:=hr.mono Z0
  have hr8:aP 8 _:=hr
  refine⟨_,QSs.h (au (bG (t7 (kE (tO (pv 0) T.hs.cl.cl M_hhas Gal hr1 Aal.b .nil nP (ak (cA (pv 1) rfl) aq)))) (aA (aL (jZ M_House Aaj.b Gaj hr8 T.c_House (ak (aV lN (cA (pv 0) rfl) (bF (ak (pv 1) aq))) aq)))) aU)
   (aA (aL (jZ M_House Aaj.b Gaj hr8 T.c_House (ak (bJ (N:=["one", "part"]) [none,some 1] rfl Z5 (aR (cA (pv 0) rfl)) (fun cl C fp s H=>(aG (i:=0) (by decide +kernel:(["one", "part"]:List Str).Nodup) rfl (Or.inl rfl))) (fun cl C fp s H=>cJ) (fun cl C fp s H=>(GJ (aH dI (nU (K:=K) rfl (pv 0) rfl) (nU (K:=K) rfl (pv 1) rfl) (aQ _)) (pv 1) (pv 0)))) aq))))),?_⟩
  obtain⟨dx,fs,ea,a1,a2,a3,a4,xs,hl,hxl,hxt⟩:=id hh
  obtain⟨dp,fp,eb,b1,_⟩:=id hp
  have h12:=g.hi
  refine⟨_,rfl,h0,dx,fs,rfl,ea,a3,_,rfl,rdF eb T.pt.cl.cl T.pt.na b1 ⟨h0,l,ps,dotted n.ad,rfl,hh,g,fun H1 s1=>⟨_,rfl,?_⟩⟩⟩
  refine eO (by rw[decide_eq_false hin];rfl) ?_
  refine⟨_,rfl,rdF (s1 _ _ ea) T.hs.cl.cl T.hs.nt a1 ⟨_,rfl,by show 1<=sizeLine;decide,fun o ho=>?_⟩⟩
  have s2:=s1.put (o:=.lst [V.ref p]) ho
  refine⟨l,o,xs,[V.ref p],rfl,rfl,s2 _ _ hl,ao,le_trans (show xs.length+1<=13 by omega) Z0,fun d hd=>?_⟩
  have px:pK C (upd H1 o (.lst [V.ref p])) (xs++[V.ref p]) (ps++[n]):=by
   refine⟨by rw[length_append,length_append,hxl];rfl,fun i e ei=>?_⟩
   rcases lt_or_ge i ps.length with z|z
   ·rw[getElem?_append_left z]at ei
    obtain⟨a,la,e1,pa⟩:=hxt i e ei
    exact⟨a,la,by rw[getElem?_append_left Z1];exact e1,pa.same s2⟩
   ·rw[getElem?_append_right z]at ei
    have hj:i - ps.length=0:=by
     have:=(List.getElem?_eq_some_iff.mp ei).1
     simp at this
     omega
    rw[hj]at ei
    cases ei
    exact⟨p,lr,by rw[getElem?_append_right Z1,hxl,hj];rfl,hp.same s2⟩
  have s3:az H (upd (upd H1 o (.lst [V.ref p])) d (.lst (xs++[V.ref p]))):=s2.put hd
  have px3:=px.same (az.new (o:=.lst (xs++[V.ref p])) hd)
  have hd3:(upd (upd H1 o (.lst [V.ref p])) d (.lst (xs++[V.ref p]))) d=some (.lst (xs++[V.ref p])):=ao
  generalize upd (upd H1 o (.lst [V.ref p])) d (.lst (xs++[V.ref p]))=H3 at s3 px3 hd3
  exact fun x dx hx hdx hne=>⟨x,dx,d,_,_,rfl,ao,(bB hx hdx) _ _ hd3,px3.same (bB hx hdx),g2,fun lh H5 hlh sb hhd hlx =>
    have s35:az H3 H5:=fun b o e=>sb b o (bB hx hdx b o e) (aF e hx)
    ⟨rfl,q x lh H5 (s3.trans s35) (uT hhd hlx (px3.same s35))⟩⟩
theorem yJ(T:Tx K mg C)(F:Fun K "named_by" "named_by" mj f fd):aK P w K mg base CX0 4 f fd lu (BW C):=by
 obtain⟨fay,day,Aay⟩:=T.aay
 have Gay:aK P w K mg base CX0 1 fay day jA tX:=yW T Aay.F
 refine F.oq pF fun _ _ _ _ H _ Q E hr h=>?_
 ·obtain⟨a,t,r,rfl,ra,gr,q⟩:=h
  have hr1:aP 1 _:=hr.mono Z0
  have hr3:aP 3 _:=hr
  refine⟨_,QSs.h (au (aO (i:=1) pF.nd rfl (Or.inl rfl) (bF aq))
   (au (bY PassesOwn.never rfl (aR (zH (P:=P) (w:=w) (K:=K) (mg:=mg) (base:=base) rfl rfl rfl rfl rfl hr3 (pv 0))) (aG (i:=2) pF.nd rfl (Or.inl rfl))
   (au (cU (fW plainAttrs_list slot_list_extend type_list_extend rJ (pv 1) (ak (aY Aay Gay hr1 (ak (pv 2) aq)) aq)))
   (aA (bG (kE (bc BL Z3 T.inst PyProof.Rows.boot_isinstance (ak (pv 0) (ak (RP T.c_Take) aq)))) (aA (cU (fW plainAttrs_list PySem.F.slot_list_append PySem.F.type_list_append jV (pv 1) (ak (aV bA (aV bA (pv 2) aM) (cA (pv 0) rfl)) aq)))) aU))))
   (aA (aL (pv 1))))),?_⟩
  refine⟨by show 0<=sizeLine;decide,fun F hF=>?_⟩
  have s1:az H (upd H F (.lst [])):=az.new hF
  have hF1:(upd H F (.lst [])) F=some (.lst []):=ao
  generalize upd H F (.lst [])=H1 at s1 hF1
  refine⟨_,rfl,rdA T (ra.same s1) gr (fun b H2 hb s2 hb2=>?_)⟩
  refine⟨b,rfl,⟨_,SqL.of hb2⟩,?_⟩
  have s02:=s1.trans s2
  have hF2:=s2 _ _ hF1
  have hFb:b≠F:=(aF hF1 hb).symm
  have ha1:(dq r).length<=1:=by unfold dq;split <;> simp
  refine bU (xs:=(dq r).map V.str) (fun i σ H'=>∃ v2,σ=[some (.ref a),some (.ref F),v2]/\az H H'/\H' b=some (.lst ((dq r).map V.str))/\H' F=some (.lst ((((dq r).take i).flatMap fun ad=>rC ad++(if r.so=4 then[ad ++ "." ++ r.wd]else[])).map V.str))) ⟨none,rfl,s02,hb2,by simpa using hF2⟩ ?_ ?_ ?_
  ·rintro i σ H' _ ⟨v2,rfl,sm,hb',_⟩
   exact SqL.of hb'
  ·rintro i x σ H' hx ⟨v2,rfl,sm,hb',hF'⟩
   rw[getElem?_map]at hx
   obtain⟨ad,ead,rfl⟩:∃ ad,(dq r)[i]? = some ad/\x=V.str ad:=by
    cases e:(dq r)[i]? with
    | none=>rw[e]at hx;cases hx
    | some y=>rw[e]at hx;cases hx;exact⟨y,rfl,rfl⟩
   have hi0:i=0:=by have:=(List.getElem?_eq_some_iff.mp ead).1;omega
   have e1:ad=r.ad:=by
    have:=mem_of_getElem? ead
    unfold dq at this
    split at this
    ·simpa using this
    ·simp at this
   obtain⟨ys,gy,ey⟩:=gr.ad
   rw[wH ead]
   subst hi0
   subst e1
   rw[List.take_zero,List.flatMap_nil,nil_append]
   have hF0:H' F=some (.lst []):=hF'
   refine⟨_,rfl,.inl ⟨rfl,_,SqL.of hF0⟩,_,rfl,ys,(show[V.str r.ad]=[V.str (dotted ys)]by rw[ey]),gy,fun p H3 hp s3 hp3=>⟨F,p,_,_,rfl,rfl,s3 _ _ hF0,hp3,le_trans (show 0+((il ys).map V.str).length<=3 by rw[length_map,rE];have:=gy.hi;omega) Z0,?_⟩⟩
   rw[nil_append,<- qO gy,<- ey]
   have hl4:((rC r.ad).map V.str).length<1000:=by rw[ey,qO gy,length_map,rE];have:=gy.hi;omega
   have s4:az H (upd H3 F (.lst ((rC r.ad).map V.str))):=(sm.trans s3).over hF
   have hF4:(upd H3 F (.lst ((rC r.ad).map V.str))) F=some (.lst ((rC r.ad).map V.str)):=ao
   have hb4:(upd H3 F (.lst ((rC r.ad).map V.str))) b=some (.lst ((dq r).map V.str)):=by rw[aD hFb];exact s3 _ _ hb'
   generalize upd H3 F (.lst ((rC r.ad).map V.str))=H4 at s4 hF4 hb4
   obtain⟨dx,fs,era,hf⟩:=id (ra.same s4)
   have kt:=T.fam.kit r.so 4 (le_trans gr.so Z0) Z0
   have ty:pC K H4 (.ref a) (.ref (C r.so)):=(T.fam.c r.so (le_trans gr.so Z0)).ty era
   by_cases h4:r.so=4
   ·have hk:vA r.so 4=true:=by rw[h4];rfl
    rw[hk]at kt
    rw[if_pos h4]
    have hw:=hf.wd h4
    rw[h4]at era
    refine⟨_,rfl,_,_,_,_,rfl,ty,kt,_,rfl,Om ?_⟩
    have h36:r.ad.length<=36:=by rw[ey];exact gy.len
    refine⟨_,rfl,.inl ⟨rfl,_,SqL.of hF4⟩,_,rfl,_,_,rfl,rfl,abS h36 oZ,_,rfl,rdF era (T.fam.c 4 Z0).cl (T.fam.nw 4 Z0) hw ⟨_,_,rfl,rfl,abS (alS h36 oZ) gr.wd.hi,F,_,_,rfl,rfl,hF4,lt_of_lt_of_le hl4 dY,?_⟩⟩
    exact⟨_,rfl,s4.over hF,by rw[aD hFb];exact hb4,ao.trans (by rw[map_append];rfl)⟩
   ·have hk:vA r.so 4=false:=by unfold vA;rw[decide_eq_false h4];rfl
    rw[hk]at kt
    rw[if_neg h4,append_nil]
    exact⟨_,rfl,_,_,_,_,rfl,ty,kt,_,rfl,oO ⟨_,rfl,s4,hb4,hF4⟩⟩
  ·rintro σ H' ⟨v2,rfl,sm,hb',hF'⟩
   rw[length_map,take_length]at hF'
   exact⟨_,rfl,q F H' hF sm hF'⟩
theorem oW(T:Tx K mg C)(F:Fun K "check_part" "check_part" iK f fd):aK P w K mg base (CX1 P w) 3 f fd fK (Ma C):=by
 obtain⟨fao,dao,Aao⟩:=T.i_NoPart
 have Gao:aK P w K mg base CX0 1 fao dao f9 (Hj (C 21) "address"):=rO T Aao.F
 obtain⟨fal,dal,Aal,M_hhas⟩:=T.m_House_has
 have Gal:aK P w K mg base CX0 1 fal dal eU (Ag C):=nD T Aal.F
 refine F.oqX wX fun _ _ _ _ H _ Q E hr h=>?_
 ·obtain⟨h0,l,ps,z,rfl,hh,g,hz,q,qe⟩:=h
  have hr1:aP 1 _:=hr.mono Z0
  have hr2:aP 2 _:=hr
  refine⟨_,QSs.h (aA (bG (t7 (kE (tO (pv 0) T.hs.cl.cl M_hhas Gal hr1 Aal.b .nil nP (ak (pv 1) aq)))) (aA (zN jP rfl (K4 Aao Gao hr2 T.c_NoPart T.xn (ak (pv 1) aq)))) aU)),?_⟩
  obtain⟨dx,fs,ea,a1,a2,a3,a4,_⟩:=id hh
  refine⟨_,rfl,h0,dx,fs,rfl,ea,a3,_,rfl,h0,l,ps,z,rfl,hh,g,fun H' sm=>⟨_,rfl,?_⟩⟩
  by_cases hin:z∈adS ps
  ·exact bI (by rw[decide_eq_true hin];rfl) (q hin H' sm)
  ·refine eO (by rw[decide_eq_false hin];rfl) ?_
   refine⟨_,rfl,fun x hx=>⟨x,.str z,rfl,ao,⟨z,rfl,hz⟩,fun p hp hne=>⟨rfl,x,C 21,some p,rfl,ao,T.xn,?_⟩⟩⟩
   have s1:az H' (upd (upd (upd (upd H' x (ExO true x (C 21) none)) p (XdO p [("address",.str z)])) x (ExO true x (C 21) (some p))) x (ExO false x (C 21) (some p))):=(((az.new hx).put hp).over hx).over hx
   exact qe hin x _ (sm.trans s1) ⟨p,ao,by rw[aD hne,aD hne];exact ao⟩
theorem mL(T:Tx K mg C)(F:Fun K "links" "links" tG f fd):aK P w K mg base (CX1 P w) 5 f fd ie (nW C):=by
 obtain⟨fah,dah,Aah⟩:=T.aah
 have Gah:aK P w K mg base CX0 1 fah dah iu uQ:=pZ T Aah.F
 obtain⟨fax,dax,Aax⟩:=T.aax
 have Gax:aK P w K mg base CX0 4 fax dax lu (BW C):=yJ T Aax.F
 obtain⟨fap,dap,Aap,M_haddresses⟩:=T.m_House_addresses
 have Gap:aK P w K mg base CX0 1 fap dap bZ (yw C):=gZ T Aap.F
 obtain⟨fbd,dbd,Abd,M_hpart⟩:=T.m_House_part
 have Gbd:aK P w K mg base (CX1 P w) 3 fbd dbd gO (Cy C):=rZ T Abd.F
 refine F.oqX qQ fun _ _ _ _ H _ Q E hr h=>?_
 ·obtain⟨h0,l,ps,z,rfl,hh,g,hz,q,qe⟩:=h
  have hr1:aP 1 _:=hr.mono Z0
  have hr3:aP 3 _:=hr.mono Z0
  have hr4:aP 4 _:=hr
  refine⟨_,QSs.h (au (aO (i:=2) qQ.nd rfl (Or.inl rfl) (Hv (pv 0) T.hs.cl.cl M_hpart Gbd hr3 Abd.b jP (ak (pv 1) aq)))
   (au (aO (i:=3) qQ.nd rfl (Or.inr rfl) (bF (ak (aY Aah Gah hr1 (ak (pv 1) aq)) aq)))
   (au (bY PassesOwn.leaving rfl (aR (cA (pv 2) rfl)) (aG (i:=4) qQ.nd rfl (Or.inl rfl))
   (aA (cU (fW plainAttrs_list slot_list_extend type_list_extend rJ (pv 3) (ak (aY Aax Gax hr4 (ak (pv 4) aq)) aq)))))
   (aA (aL (bJ (N:=["one", "named"]) [none,some 3] rfl Z5 (aR (u5 (pv 0) T.hs.cl.cl M_haddresses Gap hr1 Aap.b .nil nP)) (fun cl C fp s H=>(aG (i:=0) (by decide +kernel:(["one", "named"]:List Str).Nodup) rfl (Or.inl rfl))) (fun cl C fp s H=>(d8 (aH (ug (K:=K) rfl) (pv 0) (pv 1) Z3))) (fun cl C fp s H=>(pv 0)))))))),?_⟩
  obtain⟨dx,fs,ea,a1,a2,a3,a4,_⟩:=id hh
  refine⟨_,rfl,h0,dx,fs,rfl,ea,a4.1,_,rfl,h0,l,ps,z,rfl,hh,g,hz,fun i p a lr H1 s1 ei ez pa=>?_,qe⟩
  have q1:=q i p ei ez
  clear q qe
  subst ez
  have gp:=g.at ei
  refine⟨_,rfl,p.ad,rfl,gp.ad,fun H2 s2=>⟨by show 1<=sizeLine;decide,fun F hF=>?_⟩⟩
  have s02:=s1.trans s2
  have hF0:H F=none:=s02.free hF
  have s3:az H2 (upd H2 F (.lst [V.str (ji p.ad)])):=az.new hF
  have hF3:(upd H2 F (.lst [V.str (ji p.ad)])) F=some (.lst [V.str (ji p.ad)]):=ao
  generalize upd H2 F (.lst [V.str (ji p.ad)])=H3 at s3 hF3
  have pa2:=pa.same s2
  obtain⟨dp,fp,eb,b1,b2,b3,b4,b5,xs,hl,hxl,hxt⟩:=id pa2
  have h12:=gp.rs.hi
  refine⟨_,rfl,rdF (s3 _ _ eb) T.pt.cl.cl T.pt.nr b2 ⟨lr,rfl,⟨_,SqL.of (s3 _ _ hl)⟩,?_⟩⟩
  refine bU (xs:=xs) (fun k σ H'=>∃ v4,σ=[some (.ref h0),some (.str (dotted p.ad)),some (.ref a),some (.ref F),v4]/\az H2 H'/\H' F=some (.lst ((ji p.ad::(p.rs.take k).flatMap cV).map V.str))) ⟨none,rfl,s3,hF3⟩ ?_ ?_ ?_
  ·rintro k σ H' _ ⟨v4,rfl,sm,hF'⟩
   exact SqL.of (sm _ _ hl)
  ·rintro k x σ H' hx ⟨v4,rfl,sm,hF'⟩
   have hk:k<p.rs.length:=by rw[<- hxl];exact(List.getElem?_eq_some_iff.mp hx).1
   have er:p.rs[k]? = some p.rs[k]:=getElem?_eq_getElem hk
   obtain⟨ra,t,e2,rat⟩:=hxt k _ er
   obtain rfl:x=.ref ra:=by rw[hx]at e2;exact Option.some.inj e2
   have gr:=gp.rs.at er
   have h4:=wu gr
   have h5:=Fi (rs:=p.rs.take k) fun r hr=>gp.rs.ok r (mem_of_mem_take hr)
   have h6:(p.rs.take k).length<=12:=le_trans (length_take_le' _ _) h12
   refine⟨_,rfl,.inl ⟨rfl,_,SqL.of hF'⟩,_,rfl,ra,t,p.rs[k],rfl,rat.same sm,gr,fun b H5 hb s5 hb5=>⟨F,b,_,_,rfl,rfl,s5 _ _ hF',hb5,le_trans (show((ji p.ad::(p.rs.take k).flatMap cV).map V.str).length+((cV p.rs[k]).map V.str).length<=60 by rw[length_map,length_map,length_cons];omega) Z0,?_⟩⟩
   exact⟨_,rfl,(sm.trans s5).over hF,ao.trans (by rw[wH er,<- map_append,List.cons_append])⟩
  ·rintro σ H' ⟨v4,rfl,sm,hF'⟩
   rw[hxl,take_length]at hF'
   have s0':=s02.trans sm
   refine⟨_,rfl,h0,dx,fs,rfl,s0' _ _ ea,a2,h0,l,ps,rfl,hh.same s0',g,fun b H6 zs hb s6 hz1 hz2 hb6=>⟨b,rfl,⟨_,SqL.of hb6⟩,?_⟩⟩
   have hzl:zs.length<=12:=by rw[hz1.length_eq];unfold adS;rw[length_map];exact g.hi
   have hfl:∀ zs:List Str,(zs.map V.str).all dm=true:=dO
   refine bM (xs:=zs.map V.str) (fun v=>inV v ((linked p).map V.str)) (le_trans (show(zs.map V.str).length<=12 by rw[length_map];exact hzl) Z0) (SqL.of hb6) (fun x H7 Q' hx s7 k=>?_) (fun x H7 Q' hx s7 k=>?_) (fun H7 s7 c hc=>?_)
   ·obtain⟨y,_,rfl⟩:=mem_map.mp hx
    exact⟨_,rfl,_,rfl,F,_,rfl,.inl (SqL.of ((s6.trans s7) _ _ hF')),rfl,hfl _,_,rfl,k H7 (az.refl _)⟩
   ·exact⟨_,rfl,k H7 (az.refl _)⟩
   rw[Kp]
   exact q1 c _ zs ((s0'.trans (s6.trans s7)).free hc) ((s0'.trans (s6.trans s7)).put hc) hz1 hz2 ao
theorem kI(T:Tx K mg C)(F:Fun K "all_links" "all_links" jB f fd):aK P w K mg base CX0 6 f fd eE (CP C):=by
 obtain⟨fab,dab,Aab⟩:=T.aab
 have Gab:aK P w K mg base (CX1 P w) 5 fab dab ie (nW C):=mL T Aab.F
 obtain⟨fap,dap,Aap,M_haddresses⟩:=T.m_House_addresses
 have Gap:aK P w K mg base CX0 1 fap dap bZ (yw C):=gZ T Aap.F
 refine F.oq m5 fun _ _ _ _ H _ Q E hr h=>?_
 ·obtain⟨h0,l,ps,rfl,hh,g,q⟩:=h
  have hr1:aP 1 _:=hr.mono Z0
  have hr5:aP 5 _:=hr
  refine⟨_,QSs.h (au (aO (i:=1) m5.nd rfl (Or.inl rfl) nj)
   (au (bY PassesOwn.never rfl (aR (u5 (pv 0) T.hs.cl.cl M_haddresses Gap hr1 Aap.b .nil nP)) (aG (i:=2) m5.nd rfl (Or.inl rfl))
   (aA (QS.mk (oM (aP.u1 hr) (pv 1) (pv 2) (dJ Aab Gab hr5 dH (ak (pv 0) (ak (pv 2) aq))) rfl))))
   (aA (aL (pv 1))))),?_⟩
  refine fun R hR=>?_
  have s1:az H (upd H R (.dK [])):=az.new hR
  have hR1:(upd H R (.dK [])) R=some (.dK []):=ao
  generalize upd H R (.dK [])=H1 at s1 hR1
  obtain⟨dx,fs,ea,a1,a2,a3,a4,_⟩:=id hh
  refine⟨_,rfl,h0,dx,fs,rfl,s1 _ _ ea,a2,h0,l,ps,rfl,hh.same s1,g,fun b H2 zs hb s2 hz1 hz2 hb2=>⟨b,rfl,⟨_,SqL.of hb2⟩,?_⟩⟩
  have hR2:=s2 _ _ hR1
  have hbR:b≠R:=(aF hR1 hb).symm
  have hzn:zs.Nodup:=hz1.nodup_iff.mpr g.nd
  have hzl:zs.length<=12:=by rw[hz1.length_eq];unfold adS;rw[length_map];exact g.hi
  refine bU (xs:=zs.map V.str) (fun i σ H'=>∃ v2,σ=[some (.ref h0),some (.ref R),v2]/\az H H'/\H' b=some (.lst (zs.map V.str))/\jY H' R (zs.take i) (bQ ps zs)) ⟨none,rfl,s1.trans s2,hb2,[],hR2,rfl,fun z hz=>by cases hz⟩ ?_ ?_ ?_
  ·rintro i σ H' _ ⟨v2,rfl,sm,hb',_⟩
   exact SqL.of hb'
  ·rintro i y σ H' hy ⟨v2,rfl,sm,hb',lk⟩
   obtain⟨z,ez,rfl⟩:∃ z,zs[i]? = some z/\y=V.str z:=by
    rw[getElem?_map]at hy
    cases e:zs[i]? with
    | none=>rw[e]at hy;cases hy
    | some z=>rw[e]at hy;cases hy;exact⟨z,rfl,rfl⟩
   have hz:z∈adS ps:=hz1.mem_iff.mp (mem_of_getElem? ez)
   have hzi:z∉zs.take i:=fun hm=>by
    obtain⟨j,hj,ej⟩:=getElem_of_mem hm
    have hji:j<i:=lt_of_lt_of_le hj (length_take_le i zs)
    have e2:zs[j]? = some z:=by
     have:=getElem?_eq_getElem hj
     rw[ej,getElem?_take]at this
     simpa [hji] using this
    have:=(getElem?_inj (List.getElem?_eq_some_iff.mp e2).1 hzn).mp (e2.trans ez.symm)
    omega
   obtain⟨p0,hp0,e0⟩:=mem_map.mp hz
   have hzlen:z.length<=1000:=by rw[<- e0];exact le_trans (g.ok p0 hp0).ad.len Z0
   refine⟨_,rfl,_,rfl,h0,l,ps,z,rfl,hh.same sm,g,hzlen,fun j p ej ez2 c H3 zs2 hc s3 hz3 hz4 hc3=>?_,fun hno=>absurd hz hno⟩
   obtain rfl:zs2=zs:=bH (hz3.trans hz1.symm) hz4 hz2
   have hc3:H3 c=some (.lst ((bQ ps zs2 z).map V.str)):=by rw[hc3,<- ez2,wR g.nd ej]
   obtain⟨kvs,hk1,hk2,lk2⟩:=(lk.same s3).more hzi hc3
   have htl:(zs2.take i).length<=12:=le_trans (length_take_le' _ _) hzl
   refine⟨_,rfl,_,rfl,R,_,rfl,vh.k (k:=.inr z) hk1 (lt_of_lt_of_le (show kvs.length<1000 by omega) dY),?_⟩
   rw[take_succ,ez]
   exact⟨_,rfl,(sm.trans s3).over hR,by rw[aD hbR];exact s3 _ _ hb',lk2⟩
  ·rintro σ H' ⟨v2,rfl,sm,hb',lk⟩
   rw[length_map,take_length]at lk
   exact⟨_,rfl,q R H' zs hz1 hz2 hR sm lk⟩
theorem tY (T:Tx K mg C) (F:Fun K "reached" "reached" oA f fd):aK P w K mg base CX0 1 f fd iU rN:=by
 refine F.oq kZ fun _ _ _ _ H _ Q E hr h=>?_
 ·obtain ⟨R,a,zs,nb,rfl,lk,g,ha,q⟩:=h
  refine ⟨_,QSs.h (au (aO (i:=2) kZ.nd rfl (Or.inl rfl) (eQ dD Z3 T.t_list boot_list (ak (gU (aP.u1 hr) (pv 0) (pv 1) (fun _ _=>rfl)) aq)))
   (au (aO (i:=3) kZ.nd rfl (Or.inl rfl) nj)
   (au (QS.mk (uD PassesOwn.never (aH zO (bc aW Z3 T.len boot_len (ak (pv 2) aq)) aB (aQ _)) (QSs.h (au (aO (i:=4) kZ.nd rfl (Or.inl rfl) (BJ plainAttrs_list PySem.F.slot_list_pop PySem.F.type_list_pop M3 (pv 2)))
   (aA (bG (Bq (qW (aP.u1 hr) (pv 4) (pv 3))) (au (QS.mk (oM (aP.u1 hr) (pv 3) (pv 4) eN rfl))
   (aA (cU (fW plainAttrs_list slot_list_extend type_list_extend rJ (pv 2) (ak (gU (aP.u1 hr) (pv 0) (pv 4) (fun _ _=>rfl)) aq))))) aU))))))
   (aA (aL (bc (wV rfl) Z3 T.sorted boot_sorted (ak (pv 3) aq))))))),?_⟩
  obtain ⟨l0,dg,hl0⟩:=lk.get ha
  refine ⟨_,rfl,_,rfl,R,_,rfl,dg,l0,_,rfl,.inl (SqL.of hl0),fun A hA=>?_⟩
  have s1:az H (upd H A (.lst ((nb a).map V.str))):=az.new hA
  have hA1:(upd H A (.lst ((nb a).map V.str))) A = some (.lst ((nb a).map V.str)):=ao
  generalize upd H A (.lst ((nb a).map V.str)) = H1 at s1 hA1
  refine fun F hF=>?_
  have hFA:F ≠ A:=(aF hA1 hF).symm
  have hF0:H F = none:=s1.free hF
  have s2:az H (upd H1 F (.dK [])):=s1.put hF
  have hA2:(upd H1 F (.dK [])) A = some (.lst ((nb a).map V.str)):=(az.new hF) _ _ hA1
  have hF2:(upd H1 F (.dK [])) F = some (.dK []):=ao
  generalize upd H1 F (.dK []) = H2 at s2 hA2 hF2
  refine ⟨Px H R A F a zs nb,⟨_,nb a,[],[],none,rfl,s2,hA2,hF2,rfl,nodup_nil,fun x hx=>.one hx,(fun x hx=>by cases hx),fun y hy=>.inl hy,(fun x hx=>by cases hx),by have:=g.len ha; simp; omega,rfl⟩,?_⟩
  rintro m σ H' ⟨as,fs,kvs,v,rfl,sm,hA',hF',hk,hnd,has,hfs,hna,hcl,hla,rfl⟩
  have hfz:∀ x ∈ fs,x ∈ zs:=fun x hx=>(hfs x hx).mem g ha
  have hfl:fs.length <= zs.length:=jE hnd hfz
  have h12:=g.hi
  refine ⟨_,rfl,A,_,rfl,.inl (SqL.of hA'),_,_,rfl,rfl,_,rfl,fZ (fun hpos=>?_) (fun hneg=>?_)⟩
  ·refine ⟨fun σ' H''=>∃ m',m' < 13 * (zs.length - fs.length) + as.length /\ Px H R A F a zs nb m' σ' H'',fun _ _ z=>z,?_⟩
   have hne:as ≠ []:=fun z=>by rw [z] at hpos; exact absurd hpos Z0
   obtain ⟨bs,x,rfl⟩:∃ bs x,as = bs ++ [x]:=⟨as.dropLast,as.getLast hne,(dropLast_concat_getLast hne).symm⟩
   have hx:=has x Z2
   have hxz:=hx.mem g ha
   have hlast:((bs ++ [x]).map V.str)[((bs ++ [x]).map V.str).length - 1]? = some (V.str x):=by simp
   have hdrop:((bs ++ [x]).map V.str).dropLast = bs.map V.str:=by rw [map_append]; exact List.dropLast_concat
   have hl1:(bs ++ [x]).length = bs.length + 1:=by simp
   refine ⟨_,rfl,.inl ⟨rfl,_,SqL.of hA'⟩,A,_,_,rfl,rfl,hA',hlast,?_⟩
   rw [hdrop]
   have sA:az H (upd H' A (.lst (bs.map V.str))):=sm.over hA
   have hA3:(upd H' A (.lst (bs.map V.str))) A = some (.lst (bs.map V.str)):=ao
   have hF3:(upd H' A (.lst (bs.map V.str))) F = some (.dK kvs):=by rw [aD hFA]; exact hF'
   generalize upd H' A (.lst (bs.map V.str)) = H3 at sA hA3 hF3
   refine ⟨_,rfl,_,rfl,F,_,rfl,mH.k (k:=.inr x) hF3,_,rfl,?_⟩
   rw [has_key hk x]
   by_cases hin:x ∈ fs
   ·refine bI (by rw [decide_eq_true hin]; rfl) ?_
    refine ⟨_,Z1,bs,fs,kvs,_,rfl,sA,hA3,hF3,hk,hnd,fun y hy=>has y (by simp [hy]),hfs,fun y hy=>?_,fun z hz y hy=>?_,Z1,rfl⟩
    ·rcases hna y hy with k | k
     ·rcases mem_append.mp k with k | k
      ·exact .inl k
      ·rw [mem_singleton.mp k]; exact .inr hin
     ·exact .inr k
    ·rcases hcl z hz y hy with k | k
     ·rcases mem_append.mp k with k | k
      ·exact .inl k
      ·rw [mem_singleton.mp k]; exact .inr hin
     ·exact .inr k
   ·refine eO (by rw [decide_eq_false hin]; rfl) ?_
    have hkl:=m6 hk
    refine ⟨_,rfl,_,rfl,F,_,rfl,vh.k (k:=.inr x) hF3 (lt_of_lt_of_le (show kvs.length < 1000 by omega) dY),?_⟩
    have sB:az H (upd H3 F (.dK (putK kvs (.inr x) (.bl true)))):=sA.over hF0
    have hA4:(upd H3 F (.dK (putK kvs (.inr x) (.bl true)))) A = some (.lst (bs.map V.str)):=by rw [aD hFA.symm]; exact hA3
    have hF4:(upd H3 F (.dK (putK kvs (.inr x) (.bl true)))) F = some (.dK (putK kvs (.inr x) (.bl true))):=ao
    generalize upd H3 F (.dK (putK kvs (.inr x) (.bl true))) = H4 at sB hA4 hF4
    obtain ⟨l,dg4,hl4⟩:=(lk.same sB).get hxz
    have hnl:=g.len hxz
    refine ⟨_,rfl,.inl ⟨rfl,_,SqL.of hA4⟩,_,rfl,_,rfl,R,_,rfl,dg4,A,l,_,_,rfl,rfl,hA4,hl4,le_trans (show (bs.map V.str).length + ((nb x).map V.str).length <= 1000 by rw [length_map,length_map]; omega) bO,?_⟩
    have hfl2:(fs ++ [x]).length <= zs.length:=jE (n6 hnd hin) fun y hy=>by
     rcases mem_append.mp hy with k | k
     ·exact hfz y k
     ·rw [mem_singleton.mp k]; exact hxz
    have hfl3:(fs ++ [x]).length = fs.length + 1:=by simp
    have hbl:(bs ++ nb x).length = bs.length + (nb x).length:=length_append
    refine ⟨13 * (zs.length - (fs ++ [x]).length) + (bs ++ nb x).length,Z1,bs ++ nb x,fs ++ [x],_,_,rfl,sB.over hA,ao.trans (by rw [map_append]),by rw [aD hFA]; exact hF4,uV hk hin _,n6 hnd hin,fun y hy=>?_,fun y hy=>?_,fun y hy=>?_,fun z hz y hy=>?_,Z1,rfl⟩
    ·rcases mem_append.mp hy with k | k
     ·exact has y (by simp [k])
     ·exact .more hx k
    ·rcases mem_append.mp hy with k | k
     ·exact hfs y k
     ·rw [mem_singleton.mp k]; exact hx
    ·rcases hna y hy with k | k
     ·rcases mem_append.mp k with k | k
      ·exact .inl (mem_append_left _ k)
      ·exact .inr (mem_append_right _ k)
     ·exact .inr (mem_append_left _ k)
    ·rcases mem_append.mp hz with k | k
     ·rcases hcl z k y hy with k | k
      ·rcases mem_append.mp k with k | k
       ·exact .inl (mem_append_left _ k)
       ·exact .inr (mem_append_right _ k)
      ·exact .inr (mem_append_left _ k)
     ·rw [mem_singleton.mp k] at hy
      exact .inl (mem_append_right _ hy)
  ·obtain rfl:as = []:=by
    cases as with
    | nil=>rfl
    | cons x t=>exact absurd (show (0:Int) < (((x :: t).map V.str).length:Int) by rw [length_map,length_cons]; omega) hneg
   refine ⟨_,rfl,F,kvs,fs,rfl,hF',hk,Z1,fun l ys h1 h2 hl=>?_⟩
   refine q l _ ys (sm.free hl) (sm.put hl) (h1.nodup_iff.mpr hnd) h2 (fun y=>?_) ao
   rw [h1.mem_iff]
   refine ⟨fun hy=>hfs y hy,fun hy=>hy.in (fun y hy=>?_) (fun z hz y hy=>?_)⟩
   ·exact (hna y hy).resolve_left Z2
   ·exact (hcl z hz y hy).resolve_left Z2
theorem zR(T:Tx K mg C)(F:Fun K "leads" "leads" tW f fd):aK P w K mg base (CX1 P w) 7 f fd nR (wQ C):=by
 obtain⟨faf,daf,Aaf⟩:=T.aaf
 have Gaf:aK P w K mg base (CX1 P w) 3 faf daf fK (Ma C):=oW T Aaf.F
 obtain⟨fai,dai,Aai⟩:=T.aai
 have Gai:aK P w K mg base CX0 1 fai dai iU rN:=tY T Aai.F
 obtain⟨fac,dac,Aac⟩:=T.aac
 have Gac:aK P w K mg base CX0 6 fac dac eE (CP C):=kI T Aac.F
 refine F.oqX Gx fun _ _ _ _ H _ Q E hr h=>?_
 ·obtain⟨h0,l,ps,z,rfl,hh,g,hz,q,qe⟩:=h
  have hr1:aP 1 _:=hr.mono Z0
  have hr3:aP 3 _:=hr.mono Z0
  have hr6:aP 6 _:=hr
  refine⟨_,QSs.h (au (cU (dJ Aaf Gaf hr3 jP (ak (pv 0) (ak (pv 1) aq))))
   (aA (aL (aY Aai Gai hr1 (ak (aY Aac Gac hr6 (ak (pv 0) aq)) (ak (pv 1) aq)))))),?_⟩
  refine⟨_,rfl,_,rfl,h0,l,ps,z,rfl,hh,g,hz,fun hin H1 s1=>?_,qe⟩
  refine⟨_,rfl,h0,l,ps,rfl,hh.same s1,g,fun R H2 zs hz1 hz2 hR s2 lk=>⟨_,rfl,R,z,zs,_,rfl,lk.g,o6 g hz1,hz1.mem_iff.mpr hin,fun b H3 ys hb s3 h1 h2 h3 hb3=>?_⟩⟩
  exact q hin b H3 zs ys hz1 hz2 ((s1.trans s2).free hb) (s1.trans (s2.trans s3)) h1 h2 h3 hb3
theorem nC (T:Tx K mg C) (F:Fun K "way_between" "way_between" gC f fd):aK P w K mg base (CX1 P w) 7 f fd dW (GD C):=by
 obtain ⟨faf,daf,Aaf⟩:=T.aaf
 have Gaf:aK P w K mg base (CX1 P w) 3 faf daf fK (Ma C):=oW T Aaf.F
 obtain ⟨fac,dac,Aac⟩:=T.aac
 have Gac:aK P w K mg base CX0 6 fac dac eE (CP C):=kI T Aac.F
 refine F.oqX cO fun _ _ _ _ H _ Q E hr h=>?_
 ·obtain ⟨h0,l,ps,one,other,rfl,hh,g,ho1,ho2,q,qe1,qe2⟩:=h
  have hr3:aP 3 _:=hr.mono Z0
  have hr6:aP 6 _:=hr
  refine ⟨_,QSs.h (au (cU (dJ Aaf Gaf hr3 jP (ak (pv 0) (ak (pv 1) aq))))
   (au (cU (dJ Aaf Gaf hr3 jP (ak (pv 0) (ak (pv 2) aq))))
   (au (aO (i:=3) cO.nd rfl (Or.inl rfl) (aY Aac Gac hr6 (ak (pv 0) aq)))
   (au (aO (i:=4) cO.nd rfl (Or.inl rfl) (bF (ak (bF (ak (pv 1) aq)) aq)))
   (au (aO (i:=5) cO.nd rfl (Or.inl rfl) (Kd (Im (pv 1) eN JZ) rfl rfl Z2 Z0))
   (au (QS.mk (uD PassesOwn.leaving (aH zO (bc aW Z3 T.len boot_len (ak (pv 4) aq)) aB (aQ _)) (QSs.h (au (aO (i:=6) cO.nd rfl (Or.inl rfl) (fW plainAttrs_list PySem.F.slot_list_pop PySem.F.type_list_pop G5 (pv 4) (ak aB aq)))
   (aA (bY PassesOwn.leaving rfl (aR (gU (aP.u1 hr) (pv 3) (bL bu (pv 6) (qM kO aB)) (fun _ _=>rfl))) (aG (i:=7) cO.nd rfl (Or.inl rfl))
   (au (bG (aH dI (pv 7) (pv 2) (aQ _)) (aA (aL (aV lN (pv 6) (bF (ak (pv 7) aq))))) aU)
   (aA (bG (Bq (qW (aP.u1 hr) (pv 7) (pv 5))) (au (QS.mk (oM (aP.u1 hr) (pv 5) (pv 7) eN rfl))
   (aA (cU (fW plainAttrs_list PySem.F.slot_list_append PySem.F.type_list_append jV (pv 4) (ak (aV lN (pv 6) (bF (ak (pv 7) aq))) aq))))) aU)))))))))
   (aA (aL Aw)))))))),?_⟩
  refine ⟨_,rfl,_,rfl,h0,l,ps,one,rfl,hh,g,ho1,fun hin1 H1 s1=>?_,qe1⟩
  refine ⟨_,rfl,_,rfl,h0,l,ps,other,rfl,hh.same s1,g,ho2,fun hin2 H2 s2=>?_,fun hno x H' s np=>qe2 hin1 hno x H' (s1.trans s) np⟩
  refine ⟨_,rfl,h0,l,ps,rfl,hh.same (s1.trans s2),g,fun R H3 zs hz1 hz2 hR s3 lk=>?_⟩
  have s03:=s1.trans (s2.trans s3)
  have q2:=fun H' (s:az H H')=>q hin1 hin2 H' zs hz1 hz2 s
  have gr:=o6 g hz1
  have h1z:=hz1.mem_iff.mpr hin1
  clear q qe1 qe2 hR s1 s2 s3
  generalize bQ ps zs = nb at lk gr q2
  have h12:=gr.hi
  refine ⟨_,rfl,by show 1 <= sizeLine; decide,fun l1 hl1=>⟨by show 1 <= sizeLine; decide,fun Wd hWd=>?_⟩⟩
  have hWd0:H3 Wd = none:=(az.new hl1).free hWd
  have hl1W:l1 ≠ Wd:=aF ao hWd
  have s4:az H3 (upd (upd H3 l1 (.lst [V.str one])) Wd (.lst [V.ref l1])):=(az.new hl1).put hWd
  have hl4:(upd (upd H3 l1 (.lst [V.str one])) Wd (.lst [V.ref l1])) l1 = some (.lst [V.str one]):=(az.new hWd) _ _ ao
  have hW4:(upd (upd H3 l1 (.lst [V.str one])) Wd (.lst [V.ref l1])) Wd = some (.lst [V.ref l1]):=ao
  generalize upd (upd H3 l1 (.lst [V.str one])) Wd (.lst [V.ref l1]) = H4 at s4 hl4 hW4
  refine fun Sd hSd=>⟨_,rfl,ao,[(.inr one,.bl true)],rfl,(by show 1 <= 15; decide),?_⟩
  have hSd0:H3 Sd = none:=s4.free hSd
  have s5:az H4 (upd (upd H4 Sd (.dK [])) Sd (.dK (mJ [] [(.inr one,.bl true)]))):=(az.new hSd).over hSd
  have hS5:(upd (upd H4 Sd (.dK [])) Sd (.dK (mJ [] [(.inr one,.bl true)]))) Sd = some (.dK [(.inr one,.bl true)]):=ao
  generalize upd (upd H4 Sd (.dK [])) Sd (.dK (mJ [] [(.inr one,.bl true)])) = H5 at s5 hS5
  have core:jc H3 Wd Sd one other zs nb H5 [[one]] [one]:=by
   refine ⟨s4.trans s5,⟨_,s5 _ _ hW4,rfl,fun i w e=>?_⟩,⟨_,hS5,rfl⟩,Z2,fun x hx=>by rw [mem_singleton.mp hx]; exact h1z,Z2,fun w hw=>?_⟩
   ·match i,e with
    | 0,e=>cases e; exact ⟨l1,rfl,s5 _ _ hl4,hl1W⟩
    | n + 1,e=>simp at e
   ·rw [mem_singleton.mp hw]
    refine ⟨rfl,fun k x y _ e=>by simp at e,Z2,fun x hx=>hx,fun k y k1 e=>?_⟩
    match k,k1,e with
    | n + 1,_,e=>simp at e
  clear hS5 s5 hl4 hW4 s4 hSd hl1 hWd hl1W
  refine ⟨Ol H3 h0 R Wd Sd one other zs nb,⟨_,none,none,[[one]],[one],rfl,core,fun x hx=>.inl ⟨[one],Z2,by rw [mem_singleton.mp hx]; rfl⟩,rfl,(by show 2 * (zs.length - 1) + 1 <= 30; omega)⟩,?_⟩
  clear core
  rintro m σ H' ⟨v6,v7,wss,fs,rfl,co,hcl,rfl,h30⟩
  obtain ⟨xs,hW,hxl,hxt⟩:=co.wd
  refine ⟨_,rfl,Wd,_,rfl,.inl (SqL.of hW),_,_,rfl,rfl,_,rfl,fZ (fun hpos=>?_) (fun hneg=>?_)⟩
  ·refine ⟨fun σ' H''=>∃ m',m' < 2 * (zs.length - fs.length) + wss.length /\ Ol H3 h0 R Wd Sd one other zs nb m' σ' H'',fun _ _ z=>z,?_⟩
   obtain ⟨w,wt,rfl⟩:∃ w wt,wss = w :: wt:=by
    cases wss with
    | nil =>
     have h0l:xs.length = 0:=hxl
     rw [h0l] at hpos
     exact absurd hpos Z0
    | cons w wt=>exact ⟨w,wt,rfl⟩
   clear hW hxl hxt hpos
   have wok:=co.ok w Z2
   obtain ⟨lw,xt,hW,hlw,hlwW,co4⟩:=co.pop hWd0
   refine ⟨_,rfl,.inl ⟨rfl,_,SqL.of hW⟩,Wd,_,0,0,_,rfl,rfl,hW,Z0,Z0,by simp [seqIndex?],rfl,?_⟩
   have hlw4:(upd H' Wd (.lst xt)) lw = some (.lst (w.map V.str)):=by rw [aD hlwW]; exact hlw
   have e4:((V.ref lw :: xt).eraseIdx 0) = xt:=rfl
   rw [e4]
   generalize upd H' Wd (.lst xt) = H4 at co4 hlw4
   have hwne:w ≠ []:=fun z=>by have:=wok.fst; rw [z] at this; cases this
   obtain ⟨wi,x,rfl⟩:∃ wi x,w = wi ++ [x]:=⟨w.dropLast,w.getLast hwne,(dropLast_concat_getLast hwne).symm⟩
   have hlast:(wi ++ [x]).getLast? = some x:=by simp
   have hxf:x ∈ fs:=wok.se x Z2
   have hxz:x ∈ zs:=co.fz x hxf
   obtain ⟨ll2,dgs,hll⟩:=lk.gets hxz
   have dg4:=dgs _ co4.sm
   have hll4:=co4.sm _ _ hll
   have hnl:=gr.len hxz
   refine ⟨_,rfl,_,rfl,_,rfl,lw,_,_,_,rfl,rfl,SqL.of hlw4,jr,R,_,rfl,dg4,ll2,rfl,⟨_,SqL.of hll4⟩,?_⟩
   refine bU (xs:=(nb x).map V.str) (fun j σ H5=>∃ v7 wss2 fs2,σ = [some (.ref h0),some (.str one),some (.str other),some (.ref R),some (.ref Wd),some (.ref Sd),some (.ref lw),v7] /\ jc H3 Wd Sd one other zs nb H5 wss2 fs2 /\ H5 ll2 = some (.lst ((nb x).map V.str)) /\ H5 lw = some (.lst ((wi ++ [x]).map V.str)) /\ mV nb one other fs2 (wi ++ [x]) /\
     (∀ u ∈ fs2,(∃ w ∈ wss2,w.getLast? = some u) \/ (∀ y ∈ nb u,y ≠ other /\ y ∈ fs2) \/ u = x) /\ (∀ y ∈ (nb x).take j,y ≠ other /\ y ∈ fs2) /\ 2 * (zs.length - fs2.length) + wss2.length <= 2 * (zs.length - fs.length) + wt.length)
    ⟨_,wt,fs,rfl,co4,hll4,hlw4,wok,fun u hu=>?_,(fun y hy=>by cases hy),le_refl _⟩ ?_ ?_ ?_
   ·rcases hcl u hu with ⟨w2,hw2,e2⟩ | k
    ·rcases mem_cons.mp hw2 with rfl | hw2
     ·rw [hlast] at e2
      cases e2
      exact .inr (.inr rfl)
     ·exact .inl ⟨w2,hw2,e2⟩
    ·exact .inr (.inl k)
   ·rintro j σ H5 _ ⟨v7,wss2,fs2,rfl,_,hll5,_⟩
    exact SqL.of hll5
   ·clear hcl dg4 co4 hlw4 hll4
    rintro j v σ H5 hv ⟨v7,wss2,fs2,rfl,co5,hll5,hlw5,wok5,hcl5,hpre,hme⟩
    obtain ⟨y,ey,rfl⟩:∃ y,(nb x)[j]? = some y /\ v = V.str y:=by
     rw [getElem?_map] at hv
     cases e:(nb x)[j]? with
     | none=>rw [e] at hv; cases hv
     | some y=>rw [e] at hv; cases hv; exact ⟨y,rfl,rfl⟩
    have hy:=mem_of_getElem? ey
    have hyz:=gr.cl x hxz y hy
    have hwl:(wi ++ [x]).length <= 12:=le_trans (jE wok5.nd fun z hz=>co5.fz z (wok5.se z hz)) h12
    have hbd:((wi ++ [x]).map V.str).length + [V.str y].length <= sizeLine:=le_trans (show _ <= 13 by rw [length_map]; show (wi ++ [x]).length + 1 <= 13; omega) Z0
    refine ⟨_,rfl,_,rfl,rfl,_,rfl,fZ (fun e=>?_) (fun hne=>?_)⟩
    ·obtain rfl:y = other:=V.str.inj e
     refine ⟨_,rfl,_,rfl,by show 1 <= sizeLine; decide,fun lb hlb=>⟨lw,lb,_,_,rfl,rfl,(az.new hlb) _ _ hlw5,ao,hbd,fun e he=>?_⟩⟩
     have s6:az H (upd (upd H5 lb (.lst [V.str y])) e (.lst ((wi ++ [x]).map V.str ++ [V.str y]))):=((s03.trans co5.sm).put hlb).put he
     exact (q2 _ s6).2 e (wi ++ [x] ++ [y]) (((s03.trans co5.sm).put hlb).free he) (wok5.walk hlast hy co5.fz h12) (ao.trans (by rw [map_append (l₁:=wi ++ [x])]; rfl))
    ·have hyo:y ≠ other:=fun z=>hne (congrArg V.str z)
     obtain ⟨kvs,hS5,hk5⟩:=co5.sd
     refine ⟨_,rfl,_,rfl,Sd,_,rfl,mH.k (k:=.inr y) hS5,_,rfl,?_⟩
     rw [has_key hk5 y]
     by_cases hin:y ∈ fs2
     ·refine bI (by rw [decide_eq_true hin]; rfl) ?_
      refine ⟨_,wss2,fs2,rfl,co5,hll5,hlw5,wok5,hcl5,fun z hz=>?_,hme⟩
      rw [take_succ,ey] at hz
      rcases mem_append.mp hz with k | k
      ·exact hpre z k
      ·rw [show z = y by simpa using k]; exact ⟨hyo,hin⟩
     ·refine eO (by rw [decide_eq_false hin]; rfl) ?_
      obtain ⟨kvs6,hS6,hk6,co6⟩:=co5.see hSd0 hin hyz
      have hfl:fs2.length <= zs.length:=jE co5.nd co5.fz
      refine ⟨_,rfl,_,rfl,Sd,_,rfl,vh.k (k:=.inr y) hS6 (lt_of_lt_of_le (show kvs6.length < 1000 by omega) dY),?_⟩
      have hll6:(upd H5 Sd (.dK (putK kvs6 (.inr y) (.bl true)))) ll2 = some (.lst ((nb x).map V.str)):=by rw [aD (eZ hll5 hS6 Z7)]; exact hll5
      have hlw6:(upd H5 Sd (.dK (putK kvs6 (.inr y) (.bl true)))) lw = some (.lst ((wi ++ [x]).map V.str)):=by rw [aD (eZ hlw5 hS6 Z7)]; exact hlw5
      generalize upd H5 Sd (.dK (putK kvs6 (.inr y) (.bl true))) = H6 at co6 hll6 hlw6
      obtain ⟨xs6,hW6,hxl6,_⟩:=co6.wd
      refine ⟨_,rfl,.inl ⟨rfl,_,SqL.of hW6⟩,_,rfl,_,rfl,by show 1 <= sizeLine; decide,fun lb hlb=>⟨lw,lb,_,_,rfl,rfl,(az.new hlb) _ _ hlw6,ao,hbd,fun e he=>?_⟩⟩
      have s8:az H6 (upd (upd H6 lb (.lst [V.str y])) e (.lst ((wi ++ [x]).map V.str ++ [V.str y]))):=(az.new hlb).put he
      have he8:(upd (upd H6 lb (.lst [V.str y])) e (.lst ((wi ++ [x]).map V.str ++ [V.str y]))) e = some (.lst ((wi ++ [x] ++ [y]).map V.str)):=ao.trans (by rw [map_append (l₁:=wi ++ [x])]; rfl)
      have heW:e ≠ Wd:=(aF ((az.new hlb) _ _ hW6) he).symm
      generalize upd (upd H6 lb (.lst [V.str y])) e (.lst ((wi ++ [x]).map V.str ++ [V.str y])) = H8 at s8 he8
      have wok6:=wok5.more hlast hy hin hyo
      obtain ⟨xs8,hW8,hxl8,co9⟩:=(co6.same s8).push hWd0 he8 heW wok6
      have hfl2:(fs2 ++ [y]).length <= zs.length:=jE co6.nd co6.fz
      have hfl3:(fs2 ++ [y]).length = fs2.length + 1:=by simp
      have hwl2:(wss2 ++ [wi ++ [x] ++ [y]]).length = wss2.length + 1:=by simp
      have hwb:wss2.length <= 100:=by have:2 * (zs.length - fs.length) + (wt.length + 1) <= 30:=h30; omega
      have hll9:ll2 ≠ Wd:=aF hll hWd0
      refine ⟨Wd,_,_,rfl,rfl,hW8,lt_of_lt_of_le (show xs8.length < 1000 by omega) dY,?_⟩
      refine ⟨_,wss2 ++ [wi ++ [x] ++ [y]],fs2 ++ [y],rfl,co9,by rw [aD hll9]; exact s8 _ _ hll6,by rw [aD hlwW]; exact s8 _ _ hlw6,wok5.mono fun z hz=>mem_append_left _ hz,fun u hu=>?_,fun z hz=>?_,Z1⟩
      ·rcases mem_append.mp hu with k | k
       ·rcases hcl5 u k with ⟨w2,hw2,e2⟩ | k | k
        ·exact .inl ⟨w2,mem_append_left _ hw2,e2⟩
        ·exact .inr (.inl fun z hz=>⟨(k z hz).1,mem_append_left _ (k z hz).2⟩)
        ·exact .inr (.inr k)
       ·rw [mem_singleton.mp k]
        exact .inl ⟨wi ++ [x] ++ [y],Z2,Z2⟩
      ·rw [take_succ,ey] at hz
       rcases mem_append.mp hz with k | k
       ·exact ⟨(hpre z k).1,mem_append_left _ (hpre z k).2⟩
       ·rw [show z = y by simpa using k]; exact ⟨hyo,Z2⟩
   ·rintro σ H5 ⟨v7,wss2,fs2,rfl,co5,hll5,hlw5,wok5,hcl5,hpre,hme⟩
    rw [length_map,take_length] at hpre
    refine ⟨_,(show 2 * (zs.length - fs2.length) + wss2.length < 2 * (zs.length - fs.length) + (wt.length + 1) by omega),_,_,wss2,fs2,rfl,co5,fun u hu=>?_,rfl,(by have:2 * (zs.length - fs.length) + (wt.length + 1) <= 30:=h30; omega)⟩
    rcases hcl5 u hu with k | k | rfl
    ·exact .inl k
    ·exact .inr k
    ·exact .inr hpre
  ·obtain rfl:wss = []:=by
    cases wss with
    | nil=>rfl
    | cons w wt =>
     have:xs.length = wt.length + 1:=hxl
     exact absurd (show (0:Int) < (xs.length:Int) by omega) hneg
   refine (q2 H' (s03.trans co.sm)).1 fun hr=>?_
   have hall:∀ u ∈ fs,∀ y ∈ nb u,y ≠ other /\ y ∈ fs:=fun u hu=>(hcl u hu).resolve_left fun ⟨w,hw,_⟩=>by cases hw
   have:∀ y,Rch nb one y -> y ≠ other /\ y ∈ fs:=fun y hy=>by
    induction hy with
    | one h=>exact hall one co.on _ h
    | more _ h ih=>exact hall _ ih.2 _ h
   exact (this other hr).1 rfl
theorem An(T:Tx K mg C)(F:Fun K "knot_of" "knot_of" oF f fd):aK P w K mg base CX0 1 f fd nZ GK:=by
 refine F.oq EY fun _ _ _ _ H _ Q E hr h=>?_
 ·obtain⟨B,z,zs,nb,lf,rfl,lk,hbh,h12,hz,q⟩:=h
  refine⟨_,QSs.h (aA (aL (bJ (N:=["one", "address", "led"]) [none,some 1,some 0] rfl Z5 (xH (pv 0)) (fun cl C fp s H=>(aG (i:=0) (by decide +kernel:(["one", "address", "led"]:List Str).Nodup) rfl (Or.inl rfl))) (fun cl C fp s H=>(d8 (PW.pt (vH (aH dI (pv 0) (pv 1) (aQ _)) (xq (PW.pt (uZ (aH (ug (K:=K) rfl) (pv 0) (gU (aP.u1 hr) (pv 2) (pv 1) (fun _ _=>rfl)) Z3) (tM (aH (ug (K:=K) rfl) (pv 1) (gU (aP.u1 hr) (pv 2) (pv 0) (fun _ _=>rfl)) Z3))))))))) (fun cl C fp s H=>(pv 0))))),?_⟩
  have hfl:∀ zs:List Str,(zs.map V.str).all dm=true:=dO
  obtain⟨o,kvs,hB,hk,_⟩:=id lk
  have hkl:=m6 hk
  obtain⟨lz,dgz,hlz⟩:=lk.g.gets hz
  refine⟨_,rfl,B,kvs,rfl,.inl ⟨o,hB,t8 (onS (knB (Rch nb) z)) (le_trans (show kvs.length<=12 by omega) Z0) hB (fun v H' Q' hv sm k=>?_) (fun v H' Q' hv sm k=>?_) (fun H7 s7 l hl=>?_)⟩⟩
  ·rw[rm hk]at hv
   obtain⟨y,hy,rfl⟩:=mem_map.mp hv
   obtain⟨ly,dgy,hly⟩:=lk.g.gets hy
   have kk:∀ b,(b=true↔(y=z\/(Rch nb z y/\Rch nb y z)))->Q' b H':=fun b e=>by
    have:onS (knB (Rch nb) z) (.str y)=b:=by
     show knB (Rch nb) z y=b
     exact Bool.eq_iff_iff.mpr (lV.trans e.symm)
    rw[<- this]
    exact k H' (az.refl _)
   refine⟨_,rfl,_,rfl,rfl,_,rfl,?_⟩
   by_cases e:y=z
   ·exact eO (decide_eq_true (by rw[e])) (kk true ⟨fun _=>.inl e,fun _=>rfl⟩)
   ·refine bI (decide_eq_false (fun k=>e (V.str.inj k))) ?_
    refine⟨_,rfl,_,rfl,_,rfl,B,_,rfl,dgz _ sm,lz,_,rfl,.inl (SqL.of (sm _ _ hlz)),rfl,hfl _,_,rfl,?_⟩
    by_cases h1:y∈lf z
    ·refine eO (by rw[jL,decide_eq_true h1];rfl) ?_
     refine⟨_,rfl,_,rfl,_,rfl,B,_,rfl,dgy _ sm,ly,_,rfl,.inl (SqL.of (sm _ _ hly)),rfl,hfl _,_,rfl,?_⟩
     exact kk (inV (.str z) ((lf y).map V.str)) (by rw[jL,decide_eq_true_iff,(hbh y hy).2];exact⟨fun h2=>.inr ⟨((hbh z hz).2 y).mp h1,h2⟩,fun h=>(h.resolve_left e).2⟩)
    ·exact bI (by rw[jL,decide_eq_false h1];rfl) (kk false ⟨(fun w=>Bool.noConfusion w),fun h=>absurd (((hbh z hz).2 y).mpr (h.resolve_left e).1) h1⟩)
  ·rw[rm hk]at hv
   obtain⟨y,hy,rfl⟩:=mem_map.mp hv
   exact⟨_,rfl,k H' (az.refl _)⟩
  ·rw[rm hk,p7]
   exact q l _ (s7.free hl) (s7.put hl) ao
theorem zP(T:Tx K mg C)(F:Fun K "may_come" "may_come" lZ f fd):aK P w K mg base CX0 1 f fd lX La:=by
 refine F.oq pU fun _ _ _ _ H _ Q E hr h=>?_
 ·obtain⟨R,a,p,zs,k,pl,nb,rfl,lk,ha,hk,hp,q⟩:=h
  refine⟨_,QSs.h (au (bY PassesOwn.never rfl (aR (pv 1)) (aG (i:=3) pU.nd rfl (Or.inl rfl))
   (aA (bY PassesOwn.never rfl (aR (gU (aP.u1 hr) (pv 0) (pv 3) (fun _ _=>rfl))) (aG (i:=4) pU.nd rfl (Or.inl rfl))
   (aA (bG (PW.pt (uZ (aH fU (pv 4) (pv 1) Z3) (tM (Bq (qW (aP.u1 hr) (pv 4) (pv 2)))))) (aA (aL eN)) aU)))))
   (aA (aL eN))),?_⟩
  have hfl:∀ zs:List Str,(zs.map V.str).all dm=true:=dO
  have at_:∀ {zs:List Str} {i:Nat} {v:V},(zs.map V.str)[i]? = some v->∃ x,zs[i]? = some x/\v=V.str x:=fun{zs i v} h=>by
   rw[getElem?_map]at h
   cases e:zs[i]? with
   | none=>rw[e]at h;cases h
   | some a=>rw[e]at h;cases h;exact⟨a,rfl,rfl⟩
  obtain⟨kvs,hp1,hp2,_⟩:=hp
  refine⟨_,rfl,a,rfl,⟨_,SqL.of ha⟩,?_⟩
  refine bU (xs:=k.map V.str) (fun i σ H'=>∃ v3 v4,σ=[some (.ref R),some (.ref a),some (.ref p),v3,v4]/\az H H'/\∀ x∈k.take i,∀ y∈nb x,y∈k\/y∈pl) ⟨none,none,rfl,az.refl _,fun x hx=>by cases hx⟩ ?_ ?_ ?_
  ·rintro i σ H' _ ⟨v3,v4,rfl,sm,_⟩
   exact SqL.of (sm _ _ ha)
  ·rintro i v σ H1 hv ⟨v3,v4,rfl,sm,hok⟩
   obtain⟨x,ex,rfl⟩:=at_ hv
   obtain⟨lx,dgx,hlx⟩:=(lk.same sm).get (hk x (mem_of_getElem? ex))
   refine⟨_,rfl,_,rfl,R,_,rfl,dgx,lx,rfl,⟨_,SqL.of hlx⟩,?_⟩
   refine bU (xs:=(nb x).map V.str) (fun j σ H'=>∃ v4,σ=[some (.ref R),some (.ref a),some (.ref p),some (.str x),v4]/\az H1 H'/\∀ y∈(nb x).take j,y∈k\/y∈pl) ⟨_,rfl,az.refl _,fun y hy=>by cases hy⟩ ?_ ?_ ?_
   ·rintro j σ H' _ ⟨v4,rfl,s2,_⟩
    exact SqL.of (s2 _ _ hlx)
   ·rintro j v σ H2 hv ⟨v4,rfl,s2,hj⟩
    obtain⟨y,ey,rfl⟩:=at_ hv
    have hym:=mem_of_getElem? ey
    have sm2:=sm.trans s2
    have more:(y∈k\/y∈pl)->∀ u∈(nb x).take (j+1),u∈k\/u∈pl:=fun h u hu=>by
     rw[take_succ,ey]at hu
     rcases mem_append.mp hu with z|z
     ·exact hj u z
     ·have z:u=y:=by simpa using z
      rw[z];exact h
    refine⟨_,rfl,_,rfl,a,_,rfl,.inl (SqL.of (sm2 _ _ ha)),rfl,hfl _,_,rfl,?_⟩
    by_cases h1:y∈k
    ·exact bI (by rw[jL,decide_eq_true h1];rfl) (oO ⟨_,rfl,s2,more (.inl h1)⟩)
    ·refine eO (by rw[jL,decide_eq_false h1];rfl) ?_
     refine⟨_,rfl,_,rfl,p,_,rfl,mH.k (k:=.inr y) (sm2 _ _ hp1),_,rfl,?_⟩
     by_cases h2:y∈pl
     ·exact bI (by rw[hp2 y,decide_eq_true h2];rfl) ⟨_,rfl,s2,more (.inr h2)⟩
     ·refine eO (by rw[hp2 y,decide_eq_false h2];rfl) ?_
      exact q false ⟨fun z=>(Bool.noConfusion z),fun h=>((h x (mem_of_getElem? ex) y hym).elim h1 h2).elim⟩ _ sm2
   ·rintro σ H2 ⟨v4,rfl,s2,hj⟩
    rw[length_map,take_length]at hj
    refine⟨_,_,rfl,sm.trans s2,fun u hu y hy=>?_⟩
    rw[take_succ,ex]at hu
    rcases mem_append.mp hu with z|z
    ·exact hok u z y hy
    ·have z:u=x:=by simpa using z
     rw[z]at hy;exact hj y hy
  ·rintro σ H1 ⟨v3,v4,rfl,sm,hok⟩
   rw[length_map,take_length]at hok
   exact q true ⟨fun _=>hok,fun _=>rfl⟩ _ sm
theorem zc(T:Tx K mg C)(F:Fun K "in_order" "in_order" lU f fd):aK P w K mg base CX0 2 f fd lW Lq:=by
 obtain⟨fa1,da1,Aa1⟩:=T.aa1
 have Ga1:aK P w K mg base CX0 1 fa1 da1 lX La:=zP T Aa1.F
 refine F.oq gw fun _ _ _ _ H _ Q E hr h=>?_
 ·obtain⟨H0,R,l0,zs,nb,rfl,lk,g,ka,q⟩:=h
  have hr1:aP 1 _:=hr
  refine⟨_,QSs.h (au (aO (i:=2) gw.nd rfl (Or.inl rfl) (bF aq))
   (au (aO (i:=3) gw.nd rfl (Or.inr rfl) nj)
   (au (QS.mk (uD PassesOwn.never (aH zO (bc aW Z3 T.len boot_len (ak (pv 1) aq)) aB (aQ _)) (QSs.h (au (aO (i:=4) gw.nd rfl (Or.inr rfl) (bL bu (bJ (N:=["knot", "linked", "placed"]) [none,some 0,some 3] rfl Z5 (aR (pv 1)) (fun cl C fp s H=>(aG (i:=0) (by decide +kernel:(["knot", "linked", "placed"]:List Str).Nodup) rfl (Or.inl rfl))) (fun cl C fp s H=>(d8 (kE (aY Aa1 Ga1 hr1 (ak (pv 1) (ak (pv 0) (ak (pv 2) aq))))))) (fun cl C fp s H=>(pv 0))) aB))
   (au (iQ (N:=["knot", "free"]) [none,some 4] (i:=1) gw.nd rfl (Or.inl rfl) rfl Z5 (aR (pv 1)) (fun cl C fp s H=>(aG (i:=0) (by decide +kernel:(["knot", "free"]:List Str).Nodup) rfl (Or.inl rfl))) (fun cl C fp s H=>(d8 (aH (Jj (K:=K) rfl hr.units) (pv 0) (pv 1) (aQ _)))) (fun cl C fp s H=>(pv 0)))
   (au (cU (fW plainAttrs_list PySem.F.slot_list_append PySem.F.type_list_append jV (pv 2) (ak (pv 4) aq)))
   (aA (bY PassesOwn.never rfl (aR (pv 4)) (aG (i:=5) gw.nd rfl (Or.inl rfl))
   (aA (QS.mk (oM (aP.u1 hr) (pv 3) (pv 5) eN rfl)))))))))))
   (aA (aL (pv 2)))))),?_⟩
  obtain⟨prs,hl0,hp2,hpa⟩:=ka
  have kg:=g.kgr
  have hkl:=sW g
  refine⟨by show 0<=sizeLine;decide,fun To hTo=>fun Pl hPl=>?_⟩
  have hPl0:H Pl=none:=(az.new hTo).free hPl
  have hTP:To≠Pl:=aF ao hPl
  have s0:az H (upd (upd H To (.lst [])) Pl (.dK [])):=(az.new hTo).put hPl
  have hT0:(upd (upd H To (.lst [])) Pl (.dK [])) To=some (.lst []):=(az.new hPl) _ _ ao
  have hP0:(upd (upd H To (.lst [])) Pl (.dK [])) Pl=some (.dK []):=ao
  generalize upd (upd H To (.lst [])) Pl (.dK [])=H1 at s0 hT0 hP0
  refine⟨O2 H0 H R To Pl zs nb prs,⟨_,0,l0,none,none,prs,[],rfl,s0,zero_le _,rfl,s0 _ _ hl0,fun pr hp=>hp,?_,aF hl0 hTo,hT0,(fun pr hp=>by cases hp),rfl,⟨[],hP0,(fun y=>by simp[Kn.run];rfl),zero_le _⟩⟩,?_⟩
  ·rw[hp2]
   unfold left
   exact(List.filter_eq_self.mpr fun k _=>decide_eq_true (by simp[Kn.run])).symm
  rintro m σ H2 ⟨i,Lf,v4,v5,lp,tp,rfl,sm,hi,rfl,hLf,hlp,elp,hLT,hTo2,htp,etp,hPl2⟩
  have r:=nM kg hi
  have hln:=zq (CW kg) r hi
  refine⟨_,rfl,Lf,_,rfl,.inl (SqL.of hLf),_,_,rfl,rfl,_,rfl,fZ (fun hpos=>?_) (fun hneg=>?_)⟩
  ·refine⟨fun σ' H''=>∃ m',m'<(kss zs nb).length - i/\O2 H0 H R To Pl zs nb prs m' σ' H'',fun _ _ z=>z,?_⟩
   have hlt:i<(kss zs nb).length:=by
    rcases lt_or_ge i (kss zs nb).length with z|z
    ·exact z
    ·have:=hln.mpr (Nat.le_antisymm hi z)
     rw[<- elp]at this
     rw[map_eq_nil_iff.mp this]at hpos
     exact absurd hpos Z0
   obtain⟨t,ec⟩:=qP kg r hlt
   have hpl:qF H0 H2 lp:=(hpa.same sm).sub hlp
   have hll:(refs lp).length<=12:=by
    rw[jf,elp]
    unfold left
    exact le_trans (length_filter_le _ _) hkl
   have inl_:∀ pr∈lp,pr.2∈kss zs nb:=fun pr hp=>by rw[<- hp2];exact mem_map.mpr ⟨pr,hlp pr hp,rfl⟩
   let c1:List Str->Bool:=fun k=>@decide (may nb (run nb (kss zs nb) i).flatten k) (Classical.propDecidable _)
   have hc1:∀ k,c1 k=true↔may nb (run nb (kss zs nb) i).flatten k:=fun k=>@decide_eq_true_iff _ (Classical.propDecidable _)
   have ecand:(lp.filter fun pr=>c1 pr.2).map (·.2)=cand nb (kss zs nb) (run nb (kss zs nb) i):=by
    rw[m8,elp];exact Gd
   clear_value c1
   refine⟨_,rfl,Lf,rfl,⟨_,SqL.of hLf⟩,bM (xs:=refs lp) (onL H2 c1) (le_trans hll Z0) (SqL.of hLf) (fun v H' Q' hv sv k=>?_) (fun v H' Q' hv sv k=>?_) (fun H3 s3 fl hfl=>?_)⟩
   ·obtain⟨pr,hpr,rfl⟩:=uA hv
    have hb:=(hpl pr hpr).1
    rw[yt hb]at k
    exact⟨_,rfl,_,rfl,_,rfl,R,pr.1,Pl,zs,pr.2,_,nb,rfl,lk.same (sm.trans sv),sv _ _ hb,(xW g (inl_ pr hpr)).2,hPl2.same sv,fun b e H4 s4=>⟨_,rfl,by
     have eb:c1 pr.2=b:=Bool.eq_iff_iff.mpr ((hc1 _).trans e.symm)
     rw[<- eb]
     exact k H4 s4⟩⟩
   ·exact⟨_,rfl,k H' (az.refl _)⟩
   rw[nA hpl]
   have esub:∀ pr∈(lp.filter fun pr=>c1 pr.2),pr∈lp:=fun pr hp=>(mem_filter.mp hp).1
   rw[ec]at ecand
   generalize (lp.filter fun pr=>c1 pr.2)=fs at ecand esub
   obtain⟨fr,ft,rfl⟩:∃ fr ft,fs=fr::ft:=by
    cases fs with
    | nil=>cases ecand
    | cons a b=>exact⟨a,b,rfl⟩
   have efr:fr.2=nxt nb (kss zs nb) (run nb (kss zs nb) i):=(List.cons.inj ecand).1
   have hfrl:=esub fr Z2
   have s23:az H2 (upd H3 fl (.lst (refs (fr::ft)))):=s3.put hfl
   have hfl3:(upd H3 fl (.lst (refs (fr::ft)))) fl=some (.lst (refs (fr::ft))):=ao
   generalize upd H3 fl (.lst (refs (fr::ft)))=H4 at s23 hfl3
   refine⟨fl,_,_,_,rfl,rfl,SqL.of hfl3,bK (j:=0) rfl,?_⟩
   have hfr4:=s23 _ _ (hpl fr hfrl).1
   have hpl4:=hpl.same s23
   have hLf4:=s23 _ _ hLf
   refine⟨_,rfl,Lf,rfl,⟨_,SqL.of hLf4⟩,bM (xs:=refs lp) (onL H4 fun k=>!decide (k=fr.2)) (le_trans hll Z0) (SqL.of hLf4) (fun v H' Q' hv sv k=>?_) (fun v H' Q' hv sv k=>?_) (fun H5 s5 L2 hL2=>?_)⟩
   ·obtain⟨pr,hpr,rfl⟩:=uA hv
    have hb:=(hpl4 pr hpr).1
    rw[yt hb]at k
    exact⟨_,rfl,_,rfl,pr.1,fr.1,pr.2,fr.2,rfl,rfl,SqL.of (sv _ _ hb),SqL.of (sv _ _ hfr4),_,rfl,k H' (az.refl _)⟩
   ·exact⟨_,rfl,k H' (az.refl _)⟩
   rw[nA hpl4]
   have elp2:(lp.filter fun pr=>!decide (pr.2=fr.2)).map (·.2)=left (kss zs nb) (run nb (kss zs nb) (i+1)):=by
    rw[m8 lp (fun k=>!decide (k=fr.2)),elp,efr]
    refine Eq.trans ?_ Fp
    refine filter_congr fun k _=>?_
    congr 1
    exact decide_eq_decide.mpr Iff.rfl
   have hlp2:∀ pr∈(lp.filter fun pr=>!decide (pr.2=fr.2)),pr∈prs:=fun pr hp=>hlp pr (mem_filter.mp hp).1
   generalize (lp.filter fun pr=>!decide (pr.2=fr.2))=lq at elp2 hlp2
   have s25:az H2 (upd H5 L2 (.lst (refs lq))):=(s23.trans s5).put hL2
   have hLT2:L2≠To:=fun z=>by
    have:=(s23.trans s5).free hL2
    rw[z,hTo2]at this
    cases this
   have hL5:(upd H5 L2 (.lst (refs lq))) L2=some (.lst (refs lq)):=ao
   generalize upd H5 L2 (.lst (refs lq))=H6 at s25 hL5
   have hTo6:=s25 _ _ hTo2
   have htl:tp.length=i:=by have:=congrArg List.length etp;rw[length_map,r.len]at this;exact this
   refine⟨_,rfl,.inl ⟨rfl,_,SqL.of hTo6⟩,_,rfl,To,_,_,rfl,rfl,hTo6,lt_of_lt_of_le (show(refs tp).length<1000 by rw[jf,length_map];omega) dY,?_⟩
   have etp2:(tp++[fr]).map (·.2)=run nb (kss zs nb) (i+1):=by
    rw[map_append,etp,List.map_singleton,efr];rfl
   have htp2:∀ pr∈tp++[fr],pr∈prs:=fun pr hp=>by
    rcases mem_append.mp hp with z|z
    ·exact htp pr z
    ·rw[mem_singleton.mp z];exact hlp fr hfrl
   have sm7:az H (upd H6 To (.lst (refs tp++[V.ref fr.1]))):=(sm.trans s25).over hTo
   have hTo7:(upd H6 To (.lst (refs tp++[V.ref fr.1]))) To=some (.lst (refs (tp++[fr]))):=ao.trans (by unfold refs;rw[map_append];rfl)
   have hL7:(upd H6 To (.lst (refs tp++[V.ref fr.1]))) L2=some (.lst (refs lq)):=by rw[aD hLT2];exact hL5
   have hPl7:vm (upd H6 To (.lst (refs tp++[V.ref fr.1]))) Pl (run nb (kss zs nb) i).flatten:=by
    obtain⟨kvs,e1,e2⟩:=hPl2.same s25
    exact⟨kvs,by rw[aD hTP.symm];exact e1,e2⟩
   generalize upd H6 To (.lst (refs tp++[V.ref fr.1]))=H7 at sm7 hTo7 hL7 hPl7
   have hfr7:H7 fr.1=some (.lst (fr.2.map V.str)):=(hpa.same sm7 fr (hlp fr hfrl)).1
   have hrl:=Ed g (le_of_lt hlt)
   have hfl12:fr.2.length<=12:=(xW g (inl_ fr hfrl)).1
   have hfP:fr.1≠Pl:=fun z=>by
    have h1:=(hpa fr (hlp fr hfrl)).1
    rw[z,hPl0]at h1
    cases h1
   refine⟨_,rfl,fr.1,rfl,⟨_,SqL.of hfr7⟩,?_⟩
   refine bU (xs:=fr.2.map V.str) (fun j σ H'=>∃ v5,σ=[some (.ref R),some (.ref L2),some (.ref To),some (.ref Pl),some (.ref fr.1),v5]/\az H H'/\H' To=some (.lst (refs (tp++[fr])))/\H' L2=some (.lst (refs lq))/\vm H' Pl ((run nb (kss zs nb) i).flatten++fr.2.take j)) ⟨_,rfl,sm7,hTo7,hL7,by rw[List.take_zero,append_nil];exact hPl7⟩ ?_ ?_ ?_
   ·rintro j σ H' _ ⟨v5,rfl,sj,_⟩
    exact SqL.of (hpa.same sj fr (hlp fr hfrl)).1
   ·rintro j v σ H8 hv ⟨v5,rfl,sj,hT8,hL8,hP8⟩
    obtain⟨x,ex,rfl⟩:∃ x,fr.2[j]? = some x/\v=V.str x:=by
     rw[getElem?_map]at hv
     cases e:fr.2[j]? with
     | none=>rw[e]at hv;cases hv
     | some a=>rw[e]at hv;cases hv;exact⟨a,rfl,rfl⟩
    obtain⟨kvs,hk1,hk2,hP9⟩:=hP8.put x
    have hk3:kvs.length<1000:=by
     rw[length_append]at hk2
     have:=length_take_le' j fr.2
     omega
    refine⟨_,rfl,_,rfl,Pl,_,rfl,vh.k (k:=.inr x) hk1 (lt_of_lt_of_le hk3 dY),?_⟩
    rw[append_assoc]at hP9
    refine⟨_,rfl,sj.over hPl0,by rw[aD hTP];exact hT8,by rw[aD (eZ hL8 hk1 Z7)];exact hL8,?_⟩
    rw[take_succ,ex]
    exact hP9
   ·rintro σ H8 ⟨v5,rfl,sj,hT8,hL8,hP8⟩
    rw[length_map,take_length,efr]at hP8
    have efl:(run nb (kss zs nb) (i+1)).flatten=(run nb (kss zs nb) i).flatten++nxt nb (kss zs nb) (run nb (kss zs nb) i):=by
     show(run nb (kss zs nb) i++[_]).flatten=_
     rw[List.flatten_append]
     simp
    exact⟨(kss zs nb).length - (i+1),Z1,i+1,L2,_,_,lq,tp++[fr],rfl,sj,hlt,rfl,hL8,hlp2,elp2,hLT2,hT8,htp2,etp2,by rw[efl];exact hP8⟩
  ·have hlp0:lp=[]:=by
    cases lp with
    | nil=>rfl
    | cons a b=>exact absurd (show(0:Int)<((refs (a::b)).length:Int)by unfold refs;rw[length_map,length_cons];omega) hneg
   rw[hlp0]at elp
   have hin:=hln.mp elp.symm
   refine⟨_,rfl,q To H2 hTo sm ⟨tp,hTo2,?_,(hpa.same sm).sub htp⟩⟩
   rw[etp,hin]
   rfl
theorem Hf(T:Tx K mg C)(F:Fun K "knots" "knots" tD f fd):aK P w K mg base CX0 7 f fd qi (BZ C):=by
 obtain⟨fac,dac,Aac⟩:=T.aac
 have Gac:aK P w K mg base CX0 6 fac dac eE (CP C):=kI T Aac.F
 obtain⟨fa2,da2,Aa2⟩:=T.aa2
 have Ga2:aK P w K mg base CX0 2 fa2 da2 lW Lq:=zc T Aa2.F
 obtain⟨fai,dai,Aai⟩:=T.aai
 have Gai:aK P w K mg base CX0 1 fai dai iU rN:=tY T Aai.F
 obtain⟨far,dar,Aar⟩:=T.aar
 have Gar:aK P w K mg base CX0 1 far dar nZ GK:=An T Aar.F
 refine F.oq mY fun _ _ _ _ H _ Q E hr h=>?_
 ·obtain⟨h0,l,ps,rfl,hh,gk,q⟩:=h
  have hr1:aP 1 _:=hr.mono Z0
  have hr2:aP 2 _:=hr.mono Z0
  have hr6:aP 6 _:=hr
  refine⟨_,QSs.h (au (aO (i:=1) mY.nd rfl (Or.inl rfl) (aY Aac Gac hr6 (ak (pv 0) aq)))
   (au (aO (i:=2) mY.nd rfl (Or.inr rfl) nj)
   (au (bY PassesOwn.never rfl (xH (pv 1)) (aG (i:=3) mY.nd rfl (Or.inl rfl))
   (aA (QS.mk (oM (aP.u1 hr) (pv 2) (pv 3) (aY Aai Gai hr1 (ak (pv 1) (ak (pv 3) aq))) rfl))))
   (au (iQ (N:=["address", "led"]) [none,some 2] (i:=4) mY.nd rfl (Or.inl rfl) rfl Z5 (xH (pv 2)) (fun cl C fp s H=>(aG (i:=0) (by decide +kernel:(["address", "led"]:List Str).Nodup) rfl (Or.inl rfl))) (fun cl C fp s H=>(d8 (aH dI (bL (zG (K:=K) rfl) (aY Aar Gar hr1 (ak (pv 1) (ak (pv 0) aq))) aB) (pv 0) (aQ _)))) (fun cl C fp s H=>(pv 0)))
   (aA (aL (aY Aa2 Ga2 hr2 (ak (pv 1) (ak (bJ (N:=["address", "led"]) [none,some 2] rfl Z5 (aR (pv 4)) (fun cl C fp s H=>(aG (i:=0) (by decide +kernel:(["address", "led"]:List Str).Nodup) rfl (Or.inl rfl))) (fun cl C fp s H=>cJ) (fun cl C fp s H=>(aY Aar Gar hr1 (ak (pv 1) (ak (pv 0) aq))))) aq))))))))),?_⟩
  refine⟨_,rfl,h0,l,ps,rfl,hh,gk,fun R H1 zs hz1 hz2 hR s1 lk0=>?_⟩
  have lk:jY H1 R zs (cut zs (bQ ps zs)):=lk0.but fun z hz=>mK hz
  have g:Gr zs (cut zs (bQ ps zs)):=(o6 gk hz1).cut
  have q:=fun b H'=>q b H' zs hz1 hz2
  clear lk0
  generalize cut zs (bQ ps zs)=nb at lk g q
  have h12:=g.hi
  refine fun B hB=>?_
  have hB0:H B=none:=s1.free hB
  obtain⟨kvs,hR1,hkl,hk,hfz⟩:=(lk.same (az.new (o:=.dK []) hB)).frz
  refine⟨_,rfl,R,kvs,rfl,.inr ⟨hR1,fun o=>?_⟩⟩
  have hBR:B≠R:=fun z=>by
   obtain⟨kvs2,e,_⟩:=lk
   rw[z,e]at hB
   cases hB
  have lf1:=hfz o
  have s2:az H (upd (upd H1 B (.dK [])) R (.frz o (.dK kvs))):=(s1.put hB).over hR
  have hB2:(upd (upd H1 B (.dK [])) R (.frz o (.dK kvs))) B=some (.dK []):=by rw[aD hBR];exact ao
  have hR2:(upd (upd H1 B (.dK [])) R (.frz o (.dK kvs))) R=some (.frz o (.dK kvs)):=ao
  generalize upd (upd H1 B (.dK [])) R (.frz o (.dK kvs))=H2 at lf1 s2 hB2 hR2
  have lfm:LkF (without H2 B) R zs nb:=by
   obtain⟨o,kvs,e1,e2,e3⟩:=lf1
   exact⟨o,kvs,by rw[lG hBR.symm];exact e1,e2,fun z hz=>by obtain⟨l,k1,k2⟩:=e3 z hz;exact⟨l,k1,by rw[lG (eZ k2 hB2 Z7)];exact k2⟩⟩
  have smm:az H (without H2 B):=az.without s2 hB0
  have hRm:(without H2 B) R=some (.frz o (.dK kvs)):=by rw[lG hBR.symm];exact hR2
  have hBm:(without H2 B) B=none:=Am _ _
  have s2m:az (without H2 B) H2:=xu _ _
  generalize without H2 B=Hm at lfm smm hBm s2m hRm
  refine Gf (fun i σ H'=>∃ v3,∃ lf:Str->List Str,σ=[some (.ref h0),some (.ref R),some (.ref B),v3,none]/\az Hm H'/\jY H' B (zs.take i) lf/\Oo (zs.take i) nb lf)
   ⟨_,(fun _=>[]),rfl,s2m,⟨[],hB2,rfl,(fun z hz=>by cases hz)⟩,(fun z hz=>by cases hz)⟩ ?_ ?_ ?_
  ·rintro i σ H' _ ⟨v3,lf,rfl,sm,_⟩
   exact sm _ _ hRm
  ·rintro i k v σ H' hkv ⟨v3,lf,rfl,sm,lb,hbh⟩
   obtain⟨z,ez,rfl⟩:=Mr hk hkv
   have hz:=mem_of_getElem? ez
   have hzi:z∉zs.take i:=fun hm=>by
    obtain⟨j,hj,ej⟩:=getElem_of_mem hm
    have hji:j<i:=lt_of_lt_of_le hj (length_take_le i zs)
    have e2:zs[j]? = some z:=by
     have:=getElem?_eq_getElem hj
     rw[ej,getElem?_take]at this
     simpa [hji] using this
    have:=(getElem?_inj (List.getElem?_eq_some_iff.mp e2).1 g.nd).mp (e2.trans ez.symm)
    omega
   refine⟨_,rfl,_,rfl,R,z,zs,nb,rfl,(lfm.same sm).g,g,hz,fun c H3 ys hc s3 hyn hys hym hc3=>?_⟩
   have e0:(if z=z then ys else lf z)=ys:=if_pos rfl
   have lk3:jY H3 B (zs.take i) (fun y=>if y=z then ys else lf y):=(lb.same s3).but fun y hy=>by
    show lf y=if y=z then ys else lf y
    rw[if_neg (fun k:y=z=>hzi (k▸hy))]
   obtain⟨kvb,hk1,hk2,lk4⟩:=lk3.more hzi (l:=c) (by show H3 c=some (.lst ((if z=z then ys else lf z).map V.str));rw[e0];exact hc3)
   have htl:(zs.take i).length<=12:=le_trans (length_take_le' _ _) h12
   refine⟨_,rfl,_,rfl,B,_,rfl,vh.k (k:=.inr z) hk1 (lt_of_lt_of_le (show kvb.length<1000 by omega) dY),?_⟩
   rw[take_succ,ez]
   refine⟨_,_,rfl,(sm.trans s3).over hBm,lk4,fun y hy=>?_⟩
   by_cases e:y=z
   ·subst e
    show(if y=y then ys else lf y).Nodup/\∀ u,u∈(if y=y then ys else lf y)↔_
    rw[e0]
    exact⟨hyn,hym⟩
   ·show(if y=z then ys else lf y).Nodup/\∀ u,u∈(if y=z then ys else lf y)↔_
    rw[if_neg e]
    rcases mem_append.mp hy with k|k
    ·exact hbh y k
    ·exact absurd (mem_singleton.mp (by simpa using k)) e
  ·rintro σ H3 ⟨v3,lf,rfl,sm,lb,hbh⟩
   rw[hkl,take_length]at lb hbh
   obtain⟨kvb,hB3,hkbl,hkb,hfb⟩:=lb.frz
   refine⟨_,rfl,B,kvb,rfl,.inr ⟨hB3,fun o2=>?_⟩⟩
   have lfb:=hfb o2
   have sm4:az Hm (upd H3 B (.frz o2 (.dK kvb))):=sm.over hBm
   have hB4:(upd H3 B (.frz o2 (.dK kvb))) B=some (.frz o2 (.dK kvb)):=ao
   generalize upd H3 B (.frz o2 (.dK kvb))=H4 at lfb sm4 hB4
   refine t8 (onS (isF zs (Rch nb))) (le_trans (show kvb.length<=12 by omega) Z0) hB4 (fun v H' Q' hv sv k=>?_) (fun v H' Q' hv sv k=>?_) (fun H5 s5 fl hfl=>?_)
   ·rw[rm hkb]at hv
    obtain⟨z,hz,rfl⟩:=mem_map.mp hv
    refine⟨_,rfl,_,rfl,B,z,zs,nb,lf,rfl,lfb.same sv,hbh,h12,hz,fun c H6 hc s6 hc6=>?_⟩
    obtain⟨f,hf⟩:=vV (iT (R:=Rch nb) hz)
    have e0:atI ((kn zs nb z).map V.str) 0=some (V.str f):=bK (j:=0) (by rw[getElem?_map,<- List.head?_eq_getElem?,hf];rfl)
    refine⟨c,_,_,_,rfl,rfl,SqL.of hc6,e0,_,rfl,rfl,_,rfl,?_⟩
    have:onS (isF zs (Rch nb)) (.str z)=decide (V.str f=V.str z):=by
     show isF zs (Rch nb) z=_
     refine Bool.eq_iff_iff.mpr (sX.trans ?_)
     rw[hf,decide_eq_true_iff]
     exact⟨fun e=>by rw[Option.some.inj e],fun e=>by rw[V.str.inj e]⟩
    rw[<- this]
    exact k H6 s6
   ·rw[rm hkb]at hv
    obtain⟨y,hy,rfl⟩:=mem_map.mp hv
    exact⟨_,rfl,k H' (az.refl _)⟩
   rw[rm hkb,p7]
   have hfs:∀ z∈zs.filter (isF zs (Rch nb)),z∈zs:=fun z hz=>(mem_filter.mp hz).1
   have hfl12:(zs.filter (isF zs (Rch nb))).length<=12:=le_trans (length_filter_le _ _) h12
   have eks:kss zs nb=(zs.filter (isF zs (Rch nb))).map (kn zs nb):=rfl
   have s46:az H4 (upd H5 fl (.lst ((zs.filter (isF zs (Rch nb))).map V.str))):=s5.put hfl
   have hfl6:(upd H5 fl (.lst ((zs.filter (isF zs (Rch nb))).map V.str))) fl=some (.lst ((zs.filter (isF zs (Rch nb))).map V.str)):=ao
   generalize upd H5 fl (.lst ((zs.filter (isF zs (Rch nb))).map V.str))=H6 at s46 hfl6
   generalize zs.filter (isF zs (Rch nb))=fs at hfs hfl12 eks hfl6
   have sm6:az H H6:=smm.trans (sm4.trans s46)
   refine⟨_,rfl,_,rfl,fl,rfl,⟨_,SqL.of hfl6⟩,?_⟩
   refine gj (xs:=fs.map V.str) (fun τ=>∃ u,τ=[u,some (.ref B)]) (fun i v H'=>∃ b z,v=.ref b/\fs[i]? = some z/\H' b=some (.lst ((kn zs nb z).map V.str))/\H b=none)
    (fun i v H' H'' ⟨b,z,e1,e2,e3,e4⟩ s=>⟨b,z,e1,e2,s _ _ e3,e4⟩) (le_trans (show(fs.map V.str).length<=12 by rw[length_map];exact hfl12) Z0) (SqL.of hfl6) ⟨_,rfl⟩ (fun i x τ H7 Q' hx s7 hS k=>?_) (fun ys H7 s7 hyl hys d hd=>?_)
   ·obtain⟨u,rfl⟩:=hS
    obtain⟨z,ez,rfl⟩:∃ z,fs[i]? = some z/\x=V.str z:=by
     rw[getElem?_map]at hx
     cases e:fs[i]? with
     | none=>rw[e]at hx;cases hx
     | some a=>rw[e]at hx;cases hx;exact⟨a,rfl,rfl⟩
    have hz:=hfs z (mem_of_getElem? ez)
    exact⟨_,rfl,_,rfl,B,z,zs,nb,lf,rfl,lfb.same (s46.trans s7),hbh,h12,hz,fun c H8 hc s8 hc8=>k _ _ _ ⟨_,rfl⟩ s8 ⟨c,z,rfl,ez,hc8,(sm6.trans s7).free hc⟩⟩
   ·have hks:pP H (upd H7 d (.lst ys)) d (kss zs nb):=by
     rw[length_map]at hyl
     obtain⟨prs,h1,h2,h3⟩:=Ba (P:=fun b k=>H7 b=some (.lst (k.map V.str))/\H b=none) ys (kss zs nb) (by rw[eks,length_map];exact hyl) fun i v k e1 e2=>by
      obtain⟨b,z,rfl,ez,e3,e4⟩:=hys i v e1
      rw[eks,getElem?_map,ez]at e2
      cases e2
      exact⟨b,rfl,e3,e4⟩
     exact⟨prs,ao.trans (by rw[h1]),h2,fun pr hp=>⟨(az.new hd) _ _ (h3 pr hp).1,(h3 pr hp).2⟩⟩
    have sm8:az H6 (upd H7 d (.lst ys)):=s7.put hd
    generalize upd H7 d (.lst ys)=H8 at hks sm8
    exact⟨H,R,d,zs,nb,rfl,(lfm.same (sm4.trans (s46.trans sm8))).g,g,hks,fun b H9 hb s9 ka=>q b H9 ((sm6.trans sm8).free hb) (sm6.trans (sm8.trans s9)) ka⟩
theorem yz(T:Tx K mg C)(F:Fun K "_law_words" "_law_words" jm f fd):aK P w K mg base CX0 2 f fd tE Dj:=by
 obtain⟨faa,daa,Aaa⟩:=T.aaa
 have Gaa:aK P w K mg base CX0 1 faa daa mz pB:=oG Aaa.F
 refine F.oq jw fun _ _ _ _ H _ Q E hr h=>?_
 ·obtain⟨c,rfl,q⟩:=h
  have hr1:aP 1 _:=hr
  refine⟨_,QSs.h (au (aO (i:=1) jw.nd rfl (Or.inr rfl) aM)
   (au (aO (i:=2) jw.nd rfl (Or.inr rfl) (bJ (N:=["_law_k", "_law_letters", "_law_cell_here"]) [none,some 1,some 0] rfl Z5 (iR Z3 T.range (ak aB aq)) (fun cl C fp s H=>(aG (i:=0) (by decide +kernel:(["_law_k", "_law_letters", "_law_cell_here"]:List Str).Nodup) rfl (Or.inl rfl))) (fun cl C fp s H=>cJ) (fun cl C fp s H=>(bL Hl (pv 1) (aY Aaa Gaa hr1 (ak (pv 2) (ak (aV d9 aB (pv 0)) (ak aB aq))))))))
   (au (bG (aH dI (aY Aaa Gaa hr1 (ak (pv 0) (ak aB (ak aB aq)))) aB (aQ _)) (aA (aL (bJ (N:=["_law_k", "_law_base"]) [none,some 2] rfl Z5 (iR Z3 T.range (ak aB aq)) (fun cl C fp s H=>(aG (i:=0) (by decide +kernel:(["_law_k", "_law_base"]:List Str).Nodup) rfl (Or.inl rfl))) (fun cl C fp s H=>cJ) (fun cl C fp s H=>(xU (K:=K) rfl plainAttrs_str slot_str_join type_str_join (uK rfl) aM (ak (ir (uw (K:=K) rfl) (pv 1) kj (iD (aV d9 (pv 0) aB))) aq)))))) aU)
   (au (bG (aH dI (aY Aaa Gaa hr1 (ak (pv 0) (ak aB (ak aB aq)))) aB (aQ _)) (aA (aL (LR (cF aM (cF aM (cF aM (cF aM (cF aM (cF aM (cF aM (cF aM Jb))))))))))) aU)
   (au (aO (i:=3) jw.nd rfl (Or.inl rfl) (aV d9 aB (aY Aaa Gaa hr1 (ak (pv 0) (ak aB (ak aB aq))))))
   (au (aO (i:=4) jw.nd rfl (Or.inl rfl) (aY Aaa Gaa hr1 (ak (pv 0) (ak aB (ak (pv 3) aq)))))
   (au (aO (i:=5) jw.nd rfl (Or.inr rfl) (aY Aaa Gaa hr1 (ak (pv 0) (ak aB (ak aB aq)))))
   (au (aO (i:=6) jw.nd rfl (Or.inr rfl) (fW plainAttrs_str slot_str_join type_str_join yq aM (ak (ir oh (pv 2) kj (iD (pv 4))) aq)))
   (au (aO (i:=7) jw.nd rfl (Or.inr rfl) (fW plainAttrs_str slot_str_join type_str_join yq aM (ak (ir oh (pv 2) (iD (aV d9 (pv 4) aB)) (iD (pv 3))) aq)))
   (aA (aL (bJ (N:=["_law_k", "_law_tail", "_law_head", "_law_letters", "_law_first"]) [none,some 7,some 6,some 1,some 5] rfl Z5 (iR Z3 T.range (ak aB aq)) (fun cl C fp s H=>(aG (i:=0) (by decide +kernel:(["_law_k", "_law_tail", "_law_head", "_law_letters", "_law_first"]:List Str).Nodup) rfl (Or.inl rfl))) (fun cl C fp s H=>cJ) (fun cl C fp s H=>(aV bA (aV bA (pv 2) (bL Hl (pv 3) (aV lO (aV d9 (pv 4) (pv 0)) aB))) (pv 1))))))))))))))),?_⟩
  refine⟨_,rfl,Z0,Z0,nF (fun i v H'=>∃ b:Int,v=V.str (lt1 b)/\0<=b/\b<26) (fun i v H' H'' h _=>h) (by show 8<=sizeLine;decide) (fun i H' Q' hi sm k'=>?_) (fun xs H1 s1 hl hx B hB=>?_)⟩
  ·have hi':i<8:=hi
   exact⟨_,rfl,_,rfl,_,rfl,_,_,rfl,rfl,c,8+(0+(i:Int)),26,rfl,Z1,Z1,Z0,fun H5 s5=>⟨letters,_,_,rfl,rfl,Z4,lat (jD c _ Z0) (km c _ Z0),k' _ H5 s5 ⟨_,rfl,jD c _ Z0,km c _ Z0⟩⟩⟩
  obtain⟨bs,hbl,rfl,hbr⟩:=Mv hx
  have hb8:bs.length=8:=by rw[length_map,length_map]at hl;exact hl
  have s02:az H (upd H1 B (.lst ((bs.map lt1).map V.str))):=s1.put hB
  have hB2:(upd H1 B (.lst ((bs.map lt1).map V.str))) B=some (.lst ((bs.map lt1).map V.str)):=ao
  generalize upd H1 B (.lst ((bs.map lt1).map V.str))=H2 at s02 hB2
  refine⟨_,rfl,c,2,4,rfl,Z0,Z0,Z0,fun H3 s3=>⟨rfl,_,rfl,fZ (fun _=>?_) (fun _=>?_)⟩⟩
  ·refine⟨_,rfl,Z0,Z0,nF (fun i v H'=>v=V.str (nO (bs.take (i+1)))) (fun i v H' H'' h _=>h) (by show 8<=sizeLine;decide) (fun i H' Q' hi sm k'=>?_) (fun xs H4 s4 hl4 hx4 l hl0=>?_)⟩
   ·have hi':i<8:=hi
    have ec:iy ((bs.map lt1).map V.str) none (some (0+(i:Int)+1))=((bs.take (i+1)).map lt1).map V.str:=by
     rw[mW _ Z1,show(0+(i:Int)+1).toNat=i+1 from by omega]
     simp only[map_take]
    have h8:(bs.take (i+1)).length<=8:=by rw[length_take];omega
    exact⟨rfl,_,rfl,_,rfl,_,_,rfl,rfl,_,rfl,B,_,rfl,SqL.of ((s3.trans sm) _ _ hB2),fun w hw=>⟨_,w,(bs.take (i+1)).map lt1,rfl,rfl,.inl (SqL.of (ao.trans (by rw[ec]))),ur h8,k' _ _ (az.new hw) (congrArg V.str (uE _))⟩⟩
   ·obtain rfl:xs=(zM bs).map V.str:=(KR (fun i=>V.str (nO (bs.take (i+1)))) hl4 hx4).trans (by unfold zM;rw[map_map];rfl)
    exact q l _ (zM bs) ((s02.trans (s3.trans s4)).free hl0) ((s02.trans (s3.trans s4)).put hl0) (by unfold zM;rw[length_map,length_range]) (JP hbr hb8) ao
  refine⟨_,rfl,c,2,4,rfl,Z0,Z0,Z0,fun H4 s4=>⟨rfl,_,rfl,fZ (fun _=>?_) (fun _=>?_)⟩⟩
  ·exact⟨by show 8<=sizeLine;decide,fun l hl0=>q l _ Mf ((s02.trans (s3.trans s4)).free hl0) ((s02.trans (s3.trans s4)).put hl0) rfl Ks ao⟩
  have s04:=s02.trans (s3.trans s4)
  have z1:=jD c 3 (m:=8) Z0
  have z2:=km c 3 (m:=8) Z0
  refine⟨_,rfl,c,3,8,rfl,Z0,Z0,Z0,fun H5 s5=>⟨_,_,rfl,rfl,?_⟩⟩
  generalize pick c 3 8=sz at z1 z2
  have o1:=jD c 4 (m:=1+sz) Z1
  have o2:=km c 4 (m:=1+sz) Z1
  refine⟨_,rfl,_,rfl,c,4,1+sz,rfl,Z0,Z0,Z1,fun H6 s6=>?_⟩
  generalize pick c 4 (1+sz)=at_ at o1 o2
  have f1:=jD c 5 (m:=26) Z0
  refine⟨_,rfl,c,5,26,rfl,Z0,Z0,Z0,fun H7 s7=>?_⟩
  generalize pick c 5 26=fi at f1
  have s27:az H2 H7:=s3.trans (s4.trans (s5.trans (s6.trans s7)))
  have ha8:(bs.take at_.toNat).length<=8:=by rw[length_take];omega
  have ec1:iy ((bs.map lt1).map V.str) none (some at_)=((bs.take at_.toNat).map lt1).map V.str:=by rw[mW _ o1];simp only[map_take]
  refine⟨rfl,_,rfl,_,rfl,_,rfl,B,_,rfl,SqL.of (s27 _ _ hB2),fun w hw=>⟨_,w,(bs.take at_.toNat).map lt1,rfl,rfl,.inl (SqL.of (ao.trans (by rw[ec1]))),ur ha8,?_⟩⟩
  have s28:az H2 (upd H7 w (.lst (iy ((bs.map lt1).map V.str) none (some at_)))):=s27.put hw
  generalize upd H7 w (.lst (iy ((bs.map lt1).map V.str) none (some at_)))=H8 at s28
  have ew1:=uE (bs.take at_.toNat)
  generalize Txt.join ("" : Str) ((bs.take at_.toNat).map lt1)=hd at ew1
  subst ew1
  have hd8:((bs.drop (at_+1).toNat).take ((1+sz).toNat - (at_+1).toNat)).length<=(1+sz).toNat - (at_+1).toNat:=length_take_le _ _
  have ec2:iy ((bs.map lt1).map V.str) (some (at_+1)) (some (1+sz))=(((bs.drop (at_+1).toNat).take ((1+sz).toNat - (at_+1).toNat)).map lt1).map V.str:=by
   rw[Jw _ Z1 Z1 (by rw[length_map];omega) (by rw[length_map];omega)]
   simp only[map_take,map_drop]
  refine⟨rfl,_,rfl,_,rfl,_,_,rfl,rfl,_,rfl,_,rfl,_,rfl,B,_,rfl,SqL.of (s28 _ _ hB2),fun w2 hw2=>⟨_,w2,((bs.drop (at_+1).toNat).take ((1+sz).toNat - (at_+1).toNat)).map lt1,rfl,rfl,.inl (SqL.of (ao.trans (by rw[ec2]))),ur Z1,?_⟩⟩
  have s29:az H2 (upd H8 w2 (.lst (iy ((bs.map lt1).map V.str) (some (at_+1)) (some (1+sz))))):=s28.put hw2
  generalize upd H8 w2 (.lst (iy ((bs.map lt1).map V.str) (some (at_+1)) (some (1+sz))))=H9 at s29
  have ew2:=uE ((bs.drop (at_+1).toNat).take ((1+sz).toNat - (at_+1).toNat))
  generalize Txt.join ("" : Str) (((bs.drop (at_+1).toNat).take ((1+sz).toNat - (at_+1).toNat)).map lt1)=tl at ew2
  subst ew2
  have hdr:yu ((bs.drop (at_+1).toNat).take ((1+sz).toNat - (at_+1).toNat)):=fun k hk=>hbr k (List.mem_of_mem_drop (mem_of_mem_take hk))
  generalize (bs.drop (at_+1).toNat).take ((1+sz).toNat - (at_+1).toNat)=ds at hd8 hdr
  have hal:(bs.take at_.toNat).length<=at_.toNat:=length_take_le _ _
  have har:=hbr.take at_.toNat
  generalize bs.take at_.toNat=as at hal har
  refine⟨_,rfl,Z0,Z0,nF (fun i v H'=>∃ z,v=V.str z/\cB z) (fun i v H' H'' h _=>h) (by show 8<=sizeLine;decide) (fun i H' Q' hi sm k'=>?_) (fun xs H10 s10 hl10 hx10 l hl0=>?_)⟩
  ·have la:(nO as).length<=8:=by rw[xO];omega
   have ld:(nO ds).length<=8:=by rw[xO];omega
   have m1:0<=(fi+(0+(i:Int)))%26:=by omega
   have m2:(fi+(0+(i:Int)))%26<26:=by omega
   exact⟨_,rfl,_,rfl,_,rfl,_,rfl,_,_,rfl,rfl,_,_,rfl,rfl,by show(0:Int)<26;decide,letters,_,_,rfl,rfl,Z4,lat m1 m2,_,_,rfl,rfl,abS la (le_refl 1),_,rfl,_,_,rfl,rfl,abS (alS la (le_refl 1)) ld,k' _ H' (az.refl _) ⟨_,rfl,NQ har hdr m1 m2 Z1⟩⟩
  ·obtain⟨ws,hwl,rfl,hwn⟩:=Hi hx10
   have h8:ws.length=8:=by rw[length_map]at hl10;exact hl10
   exact q l _ ws ((s02.trans (s29.trans s10)).free hl0) ((s02.trans (s29.trans s10)).put hl0) h8 hwn ao
theorem rn (T:Tx K mg C) (F:Fun K "_law_addresses" "_law_addresses" dX f fd):aK P w K mg base CX0 2 f fd jk Gz:=by
 obtain ⟨faa,daa,Aaa⟩:=T.aaa
 have Gaa:aK P w K mg base CX0 1 faa daa mz pB:=oG Aaa.F
 refine F.oq dw fun _ _ _ _ H _ Q E hr h=>?_
 ·obtain ⟨c,n,lw,ws,rfl,n1,n12,hlw,hw8,hwn,q⟩:=h
  have hr1:aP 1 _:=hr
  refine ⟨_,QSs.h (au (aO (i:=3) dw.nd rfl (Or.inl rfl) (bF aq))
   (au (bY PassesOwn.never rfl (iR Z3 T.range (ak (pv 1) aq)) (aG (i:=4) dw.nd rfl (Or.inl rfl))
   (au (aO (i:=5) dw.nd rfl (Or.inl rfl) (aV lN (bF (ak aM aq)) (bJ (N:=["_law_one"]) [none] rfl Z5 (aR (pv 3)) (fun cl C fp s H=>(aG (i:=0) (by decide +kernel:(["_law_one"]:List Str).Nodup) rfl (Or.inl rfl))) (fun cl C fp s H=>(d8 (aH za (xU (K:=K) rfl plainAttrs_str PySem.F.slot_str_count PySem.F.type_str_count yX (pv 0) (ak aM aq)) aB (aQ _)))) (fun cl C fp s H=>(pv 0)))))
   (au (aO (i:=6) dw.nd rfl (Or.inl rfl) (bL bu (pv 5) (aY Aaa Gaa hr1 (ak (pv 0) (ak (aV pM aB (pv 4)) (ak (bc aW Z3 T.len boot_len (ak (pv 5) aq)) aq))))))
   (au (aO (i:=7) dw.nd rfl (Or.inl rfl) (bL bu (pv 2) (aY Aaa Gaa hr1 (ak (pv 0) (ak (aV d9 (aV pM aB (pv 4)) aB) (ak aB aq))))))
   (au (bG (aH wF (pv 6) aM (aQ _)) (aA (aO (i:=7) dw.nd rfl (Or.inl rfl) (aV bA (aV bA (pv 6) aM) (pv 7)))) aU)
   (aA (bG (aH fU (pv 7) (pv 3) Z3) (aA (cU (fW plainAttrs_list PySem.F.slot_list_append PySem.F.type_list_append jV (pv 3) (ak (pv 7) aq)))) aU)))))))
   (au (bG (aH dI (aY Aaa Gaa hr1 (ak (pv 0) (ak aB (ak aB aq)))) aB (aQ _)) (aA (cU (BJ plainAttrs_list PySem.F.slot_list_reverse PySem.F.type_list_reverse By (pv 3)))) aU)
   (aA (aL (pv 3)))))),?_⟩
  refine ⟨by show 0 <= sizeLine; decide,fun F hF=>?_⟩
  have s1:az H (upd H F (.lst [])):=az.new hF
  have hF1:(upd H F (.lst [])) F = some (.lst ((([]:List (List Str)).map dotted).map V.str)):=ao
  generalize upd H F (.lst []) = H1 at s1 hF1
  have hfl:∀ zs:List Str,(zs.map V.str).all dm = true:=dO
  refine ⟨_,rfl,_,rfl,Z1,Z1,?_⟩
  refine oE (fun i σ H2=>∃ v4 v5 v6 v7,∃ as:List (List Str),σ = [some (.int c),some (.int n),some (.ref lw),some (.ref F),v4,v5,v6,v7] /\ az H H2 /\ H2 F = some (.lst ((as.map dotted).map V.str)) /\ cP as /\ as.length <= i /\ (0 < i -> as ≠ []))
   ⟨none,none,none,none,[],rfl,s1,hF1,⟨Z0,(fun a ha=>by cases ha),List.Pairwise.nil,(fun a ha=>by cases ha)⟩,le_refl _,fun z=>absurd z (lt_irrefl _)⟩ ?_ ?_
  ·rintro i σ H2 hi ⟨v4,v5,v6,v7,as,rfl,sm,hF2,g,hal,hane⟩
   have hi12:i < 12:=by omega
   refine ⟨by show 1 <= sizeLine; decide,fun b hb=>?_⟩
   have sb:az H2 (upd H2 b (.lst [V.str ""])):=az.new hb
   have hb3:(upd H2 b (.lst [V.str ""])) b = some (.lst [V.str ""]):=ao
   generalize upd H2 b (.lst [V.str ""]) = H3 at sb hb3
   have hlen:((as.map dotted).map V.str).length <= 12:=by rw [length_map,length_map]; omega
   refine ⟨_,rfl,F,rfl,⟨_,SqL.of (sb _ _ hF2)⟩,bM (xs:=(as.map dotted).map V.str) eX (le_trans hlen Z0) (SqL.of (sb _ _ hF2)) (fun x H' Q' hx sm2 k=>?_) (fun x H' Q' hx sm2 k=>?_) (fun H4 s4 d hd=>?_)⟩
   ·obtain ⟨z,_,rfl⟩:=mem_map.mp hx
    exact ⟨_,rfl,rfl,_,_,rfl,rfl,_,_,rfl,rfl,_,rfl,k H' (az.refl _)⟩
   ·exact ⟨_,rfl,k H' (az.refl _)⟩
   have hflt:(((as.map dotted).map V.str).filter eX).length <= 12:=le_trans (length_filter_le _ _) hlen
   have hbd:b ≠ d:=(aF (s4 _ _ hb3) hd)
   refine ⟨b,d,_,_,rfl,rfl,by rw [aD hbd]; exact s4 _ _ hb3,ao,le_trans (show 1 + _ <= 1 + 12 from Nat.add_le_add_left hflt 1) Z0,fun e he=>?_⟩
   have s5:az H2 (upd (upd H4 d (.lst (((as.map dotted).map V.str).filter eX))) e (.lst ([V.str ""] ++ ((as.map dotted).map V.str).filter eX))):=((sb.trans s4).put hd).put he
   have he5:(upd (upd H4 d (.lst (((as.map dotted).map V.str).filter eX))) e (.lst ([V.str ""] ++ ((as.map dotted).map V.str).filter eX))) e = some (.lst ((("" : Str) :: (as.map dotted).filter fun z=>eX (.str z)).map V.str)):=ao.trans (by rw [dF]; rfl)
   generalize upd (upd H4 d (.lst (((as.map dotted).map V.str).filter eX))) e (.lst ([V.str ""] ++ ((as.map dotted).map V.str).filter eX)) = H5 at s5 he5
   have hz0:∀ z ∈ ("" : Str) :: (as.map dotted).filter (fun z=>eX (.str z)),z = "" \/ ∃ a ∈ as,z = dotted a /\ a.length <= 2:=fun z hz=>by
    rcases mem_cons.mp hz with rfl | hz
    ·exact .inl rfl
    ·have hm:V.str z ∈ ((as.map dotted).map V.str).filter eX:=by rw [dF]; exact mem_map.mpr ⟨z,hz,rfl⟩
     obtain ⟨a,ha,ea,hl⟩:=Jc g hm
     exact .inr ⟨a,ha,V.str.inj ea,hl⟩
   have hne0:(("" : Str) :: (as.map dotted).filter fun z=>eX (.str z)) ≠ []:=by simp
   generalize (("" : Str) :: (as.map dotted).filter fun z=>eX (.str z)) = zs at he5 hz0 hne0
   have hzl:0 < (zs.length:Int):=by have:=length_pos_iff.mpr hne0; omega
   obtain ⟨z,hz,eat⟩:=eV (c:=c) (k:=2 * (0 + (i:Int))) hne0
   refine ⟨_,rfl,_,rfl,_,rfl,_,_,rfl,rfl,.inl ⟨Z0,Z0⟩,_,rfl,e,_,rfl,.inl (SqL.of he5),c,2 * (0 + (i:Int)),zs.length,(by rw [length_map]; rfl),Z1,Z1,hzl,fun H6 s6=>⟨e,_,_,_,rfl,rfl,SqL.of (s6 _ _ he5),eat,?_⟩⟩
   have hw0:ws ≠ []:=fun z=>by rw [z] at hw8; cases hw8
   obtain ⟨w,hw,eaw⟩:=eV (c:=c) (k:=2 * (0 + (i:Int)) + 1) hw0
   rw [hw8] at eaw
   have s26:az H2 H6:=s5.trans s6
   refine ⟨_,rfl,_,rfl,_,rfl,_,_,rfl,rfl,.inl ⟨Z0,Z0⟩,_,_,rfl,rfl,c,2 * (0 + (i:Int)) + 1,8,rfl,Z1,Z1,Z0,fun H7 s7=>⟨lw,_,_,_,rfl,rfl,SqL.of ((sm.trans (s26.trans s7)) _ _ hlw),eaw,?_⟩⟩
   have s27:az H2 H7:=s26.trans s7
   have nw:=hwn w hw
   have hF7:=s27 _ _ hF2
   by_cases hz1:z = ""
   ·refine ⟨_,rfl,rfl,_,rfl,xJ (decide_eq_true (congrArg V.str hz1)) ?_⟩
    have ga:bW [w]:=⟨Z2,(by show 1 <= 3; decide),fun y hy=>by rw [mem_singleton.mp hy]; exact nw⟩
    have ew:w = dotted [w]:=(bR w).symm
    by_cases hin:inV (V.str w) ((as.map dotted).map V.str) = true
    ·refine ⟨_,rfl,_,rfl,F,_,rfl,.inl (SqL.of hF7),rfl,hfl _,_,rfl,bI (by rw [hin]; rfl) ?_⟩
     refine ⟨_,_,_,_,as,rfl,sm.trans s27,hF7,g,Z1,fun _ z=>?_⟩
     rw [z] at hin
     exact absurd (show false = true from hin) Z0
    ·have hin2:inV (V.str w) ((as.map dotted).map V.str) = false:=by simpa using hin
     refine ⟨_,rfl,_,rfl,F,_,rfl,.inl (SqL.of hF7),rfl,hfl _,_,rfl,eO (by rw [hin2]; rfl) ?_⟩
     refine ⟨_,rfl,.inl ⟨rfl,_,SqL.of hF7⟩,_,rfl,F,_,_,rfl,rfl,hF7,lt_of_lt_of_le (show ((as.map dotted).map V.str).length < 1000 by omega) dY,?_⟩
     refine ⟨_,_,_,_,as ++ [[w]],rfl,(sm.trans s27).over hF,ao.trans (by rw [map_append,map_append]; show some (HO.lst (_ ++ [V.str w])) = some (HO.lst (_ ++ [V.str (dotted [w])])); rw [<- ew]),g.snoc Z1 ga (fun hm=>hin (by rw [ew]; exact rB (mem_map.mpr ⟨_,hm,rfl⟩))) (.inl rfl),by rw [length_append]; show as.length + 1 <= _; omega,fun _=>by simp⟩
   ·obtain ⟨p,hp,rfl,hp2⟩:=(hz0 z hz).resolve_left hz1
    have gp:=g.ok p hp
    have nwl:=nw.hi
    have h36:=gp.len
    refine ⟨_,rfl,rfl,_,rfl,Br (decide_eq_false fun y=>hz1 (V.str.inj y)) ?_⟩
    refine ⟨_,rfl,_,_,rfl,rfl,abS h36 oZ,_,rfl,_,_,rfl,rfl,abS (alS h36 oZ) nwl,?_⟩
    have ew:dotted p ++ "." ++ w = dotted (p ++ [w]):=gW gp.lo
    have ga:bW (p ++ [w]):=⟨Z2,by rw [length_append]; show p.length + 1 <= 3; omega,fun y hy=>by
     rcases mem_append.mp hy with hy | hy
     ·exact gp.nm y hy
     ·rw [mem_singleton.mp hy]; exact nw⟩
    by_cases hin:inV (V.str (dotted p ++ "." ++ w)) ((as.map dotted).map V.str) = true
    ·refine ⟨_,rfl,_,rfl,F,_,rfl,.inl (SqL.of hF7),rfl,hfl _,_,rfl,bI (by rw [hin]; rfl) ?_⟩
     refine ⟨_,_,_,_,as,rfl,sm.trans s27,hF7,g,Z1,fun _ z=>?_⟩
     rw [z] at hp
     cases hp
    ·have hin2:inV (V.str (dotted p ++ "." ++ w)) ((as.map dotted).map V.str) = false:=by simpa using hin
     refine ⟨_,rfl,_,rfl,F,_,rfl,.inl (SqL.of hF7),rfl,hfl _,_,rfl,eO (by rw [hin2]; rfl) ?_⟩
     refine ⟨_,rfl,.inl ⟨rfl,_,SqL.of hF7⟩,_,rfl,F,_,_,rfl,rfl,hF7,lt_of_lt_of_le (show ((as.map dotted).map V.str).length < 1000 by omega) dY,?_⟩
     refine ⟨_,_,_,_,as ++ [p ++ [w]],rfl,(sm.trans s27).over hF,ao.trans (by rw [map_append,map_append]; show some (HO.lst (_ ++ [V.str (dotted p ++ "." ++ w)])) = some (HO.lst (_ ++ [V.str (dotted (p ++ [w]))])); rw [<- ew]),g.snoc Z1 ga (fun hm=>hin (by rw [ew]; exact rB (mem_map.mpr ⟨_,hm,rfl⟩))) (.inr (by rw [List.dropLast_concat]; exact hp)),by rw [length_append]; show as.length + 1 <= _; omega,fun _=>by simp⟩
  ·rintro σ H2 ⟨v4,v5,v6,v7,as,rfl,sm,hF2,g,hal,hane⟩
   have hne:=hane Z1
   refine ⟨_,rfl,c,30,3,rfl,Z0,Z0,Z0,fun H3 s3=>⟨rfl,_,rfl,fZ (fun _=>?_) (fun _=>?_)⟩⟩
   ·refine ⟨_,rfl,.inl ⟨rfl,_,SqL.of (s3 _ _ hF2)⟩,F,_,rfl,rfl,s3 _ _ hF2,?_⟩
    exact ⟨_,rfl,q F _ as.reverse hF ((sm.trans s3).over hF) (by simpa using hne) g.rev (ao.trans (by rw [List.map_reverse,List.map_reverse]))⟩
   ·exact ⟨_,rfl,q F _ as hF (sm.trans s3) hne g (s3 _ _ hF2)⟩
theorem yo(T:Tx K mg C)(F:Fun K "_law_asked" "_law_asked" jz f fd):aK P w K mg base CX0 2 f fd tH Dl:=by
 obtain⟨faa,daa,Aaa⟩:=T.aaa
 have Gaa:aK P w K mg base CX0 1 faa daa mz pB:=oG Aaa.F
 refine F.oq yj fun _ _ _ _ H _ Q E hr h=>?_
 ·obtain⟨c,la,lw,as,ws,rfl,hla,hne,g,hlw,hw8,hwn,q⟩:=h
  have hr1:aP 1 _:=hr
  refine⟨_,QSs.h (au (aO (i:=3) yj.nd rfl (Or.inl rfl) (bL bu (pv 1) (aY Aaa Gaa hr1 (ak (pv 0) (ak aB (ak (bc aW Z3 T.len boot_len (ak (pv 1) aq)) aq))))))
   (au (aO (i:=4) yj.nd rfl (Or.inl rfl) (bL bu (pv 2) (aY Aaa Gaa hr1 (ak (pv 0) (ak aB (ak aB aq))))))
   (au (bG (aH zO (aY Aaa Gaa hr1 (ak (pv 0) (ak aB (ak aB aq)))) aB (aQ _)) (aA (aL (pv 3))) aU)
   (au (bG (aH za (fW plainAttrs_str PySem.F.slot_str_count PySem.F.type_str_count yX (pv 3) (ak aM aq)) aB (aQ _)) (aA (aL (aV bA (aV bA (pv 3) aM) (pv 4)))) aU)
   (aA (aL (pv 4))))))),?_⟩
  have hne2:as.map dotted≠[]:=by simpa using hne
  have hzl:0<((as.map dotted).length:Int):=by have:=length_pos_iff.mpr hne2;omega
  obtain⟨z,hz,eat⟩:=eV (c:=c) (k:=2) hne2
  obtain⟨a,ha,rfl⟩:=mem_map.mp hz
  have ga:=g.ok a ha
  refine⟨_,rfl,_,rfl,_,rfl,la,_,rfl,.inl (SqL.of hla),c,2,(as.map dotted).length,(show[V.int c,V.int 2,V.int ((as.map dotted).map V.str).length]=[V.int c,V.int 2,V.int (as.map dotted).length]by rw[length_map (f:=V.str)]),Z0,Z0,hzl,fun H1 s1=>⟨la,_,_,_,rfl,rfl,SqL.of (s1 _ _ hla),eat,?_⟩⟩
  have hw0:ws≠[]:=fun z=>by rw[z]at hw8;cases hw8
  obtain⟨w,hw,eaw⟩:=eV (c:=c) (k:=3) hw0
  rw[hw8]at eaw
  have nw:=hwn w hw
  refine⟨_,rfl,_,rfl,c,3,8,rfl,Z0,Z0,Z0,fun H2 s2=>⟨lw,_,_,_,rfl,rfl,SqL.of ((s1.trans s2) _ _ hlw),eaw,?_⟩⟩
  refine⟨_,rfl,c,4,5,rfl,Z0,Z0,Z0,fun H3 s3=>⟨_,_,rfl,rfl,_,rfl,fZ (fun _=>?_) (fun _=>?_)⟩⟩
  ·exact⟨_,rfl,q a ga H3 (s1.trans (s2.trans s3))⟩
  have s03:=s1.trans (s2.trans s3)
  refine⟨_,rfl,rfl,_,_,rfl,rfl,_,_,rfl,rfl,_,rfl,fZ (fun h2=>?_) (fun _=>?_)⟩
  ·rw[Jm ga]at h2
   have h36:=ga.len
   refine⟨_,rfl,_,_,rfl,rfl,abS h36 oZ,_,rfl,_,_,rfl,rfl,abS (alS h36 oZ) nw.hi,?_⟩
   have q2:=q (a++[w]) (Ep ga Z1 nw) H3 s03
   rw[<- gW ga.lo]at q2
   exact q2
  ·have q2:=q [w] (Gn nw) H3 s03
   rw[bR]at q2
   exact⟨_,rfl,q2⟩
theorem wO(T:Tx K mg C)(F:Fun K "_law_drawn" "_law_drawn" jC f fd):aK P w K mg base CX0 3 f fd tU Dh:=by
 obtain⟨faa,daa,Aaa⟩:=T.aaa
 have Gaa:aK P w K mg base CX0 1 faa daa mz pB:=oG Aaa.F
 obtain⟨fau,dau,Aau⟩:=T.aau
 have Gau:aK P w K mg base CX0 2 fau dau tH Dl:=yo T Aau.F
 refine F.oq kY fun _ _ _ _ H _ Q E hr h=>?_
 ·obtain⟨c,lk,la,lw,ks,as,ws,rfl,hlk,hla,hne,g,hlw,hw8,hwn,q⟩:=h
  have hr1:aP 1 _:=hr.mono Z0
  have hr2:aP 2 _:=hr
  refine⟨_,QSs.h (au (J8 (i:=4) kY.nd rfl (Or.inl rfl) (P0 bu (Kc (cF aM (cF aM (cF aM (cF aM (cF aM (cF aM (cF aM (cF aM Jb))))))))) (aY Aaa Gaa hr1 (ak (pv 0) (ak aB (ak aB aq))))))
   (au (iQ (N:=["_law_name", "_law_known"]) [none,some 1] (i:=5) kY.nd rfl (Or.inl rfl) rfl Z5 (aR (pv 3)) (fun cl C fp s H=>(aG (i:=0) (by decide +kernel:(["_law_name", "_law_known"]:List Str).Nodup) rfl (Or.inl rfl))) (fun cl C fp s H=>(d8 (aH (wA (K:=K) rfl) (pv 0) (pv 1) Z3))) (fun cl C fp s H=>(pv 0)))
   (au (bG (aH (Aj (K:=K) rfl hr.units) (pv 5) (bF aq) (aQ _)) (aA (aL (nT (ak aM (ak aM (ak aM (ak aM aq))))))) aU)
   (au (aO (i:=6) kY.nd rfl (Or.inl rfl) (bL bu (pv 5) (aY Aaa Gaa hr1 (ak (pv 0) (ak aB (ak (bc aW Z3 T.len boot_len (ak (pv 5) aq)) aq))))))
   (au (bG (aH dI (pv 4) aM (aQ _)) (aA (aO (i:=6) kY.nd rfl (Or.inl rfl) aM)) aU)
   (au (iQ (N:=["_law_one"]) [none] (i:=7) kY.nd rfl (Or.inl rfl) rfl Z5 (aR (pv 2)) (fun cl C fp s H=>(aG (i:=0) (by decide +kernel:(["_law_one"]:List Str).Nodup) rfl (Or.inl rfl))) (fun cl C fp s H=>(d8 (aH vM aM (pv 0) Z3))) (fun cl C fp s H=>(pv 0)))
   (au (bG (PW.pt (uZ (aH dI (pv 4) aM (aQ _)) (uZ (aH (Ib (K:=K) rfl hr.units) (pv 7) (bF aq) (aQ _)) (tM (aH dI (aY Aaa Gaa hr1 (ak (pv 0) (ak aB (ak aB aq)))) aB (aQ _)))))) (au (aO (i:=8) kY.nd rfl (Or.inl rfl) (bL bu (pv 7) (aY Aaa Gaa hr1 (ak (pv 0) (ak aB (ak (bc aW Z3 T.len boot_len (ak (pv 7) aq)) aq))))))
   (aA (aL (nT (ak (pv 4) (ak (pv 6) (ak (bL Ah (fW plainAttrs_str PySem.F.slot_str_rpartition PySem.F.type_str_rpartition yG (pv 8) (ak aM aq)) aB) (ak (bL bu (fW plainAttrs_str slot_str_split type_str_split qz (pv 8) (ak aM aq)) (qM kO aB)) aq)))))))) aU)
   (aA (aL (nT (ak (pv 4) (ak (pv 6) (ak (aY Aau Gau hr2 (ak (pv 0) (ak (pv 2) (ak (pv 3) aq)))) (ak (bL bu (pv 3) (aY Aaa Gaa hr1 (ak (pv 0) (ak aB (ak aB aq))))) aq)))))))))))))),?_⟩
  have hfl:∀ zs:List Str,(zs.map V.str).all dm=true:=dO
  have hw0:ws≠[]:=fun z=>by rw[z]at hw8;cases hw8
  refine⟨by show 8<=sizeLine;decide,fun b hb=>?_⟩
  obtain⟨so,hso,eso⟩:=Iv (jD c 1 (m:=8) Z0) (km c 1 (m:=8) Z0)
  refine⟨_,rfl,c,1,8,rfl,Z0,Z0,Z0,fun H1 s1=>⟨b,Le,_,_,rfl,rfl,SqL.of (s1 _ _ ao),eso,?_⟩⟩
  have s01:az H H1:=(az.new hb).trans s1
  clear s1 eso
  refine⟨_,rfl,lw,rfl,⟨_,SqL.of (s01 _ _ hlw)⟩,bM (xs:=ws.map V.str) (fun v=>!inV v (ks.map V.str)) (le_trans (show(ws.map V.str).length<=8 by rw[length_map];omega) Z0) (SqL.of (s01 _ _ hlw)) (fun x H' Q' hx sm k=>?_) (fun x H' Q' hx sm k=>?_) (fun H2 s2 fr hfr=>?_)⟩
  ·obtain⟨s,_,rfl⟩:=mem_map.mp hx
   exact⟨_,rfl,_,rfl,lk,_,rfl,.inl (SqL.of ((s01.trans sm) _ _ hlk)),rfl,hfl _,_,rfl,k H' (az.refl _)⟩
  ·exact⟨_,rfl,k H' (az.refl _)⟩
  have s03:az H (upd H2 fr (.lst ((ws.map V.str).filter fun v=>!inV v (ks.map V.str)))):=(s01.trans s2).put hfr
  have hf3:(upd H2 fr (.lst ((ws.map V.str).filter fun v=>!inV v (ks.map V.str)))) fr=some (.lst ((ws.filter fun w=>!inV (.str w) (ks.map V.str)).map V.str)):=ao.trans (by rw[dF])
  generalize upd H2 fr (.lst ((ws.map V.str).filter fun v=>!inV v (ks.map V.str)))=H3 at s03 hf3
  have hfree:∀ z∈ws.filter (fun w=>!inV (.str w) (ks.map V.str)),z∈ws/\z∉ks:=fun z hz=>by
   obtain⟨h1,h2⟩:=mem_filter.mp hz
   refine⟨h1,fun hk=>?_⟩
   rw[rB (mem_map.mpr ⟨z,hk,rfl⟩)]at h2
   cases h2
  generalize ws.filter (fun w=>!inV (.str w) (ks.map V.str))=fs at hf3 hfree
  refine⟨_,rfl,by show 0<=sizeLine;decide,fun e he=>⟨fr,e,fs.map V.str,rfl,rfl,SqL.of ((az.new he) _ _ hf3),SqL.of ao,_,rfl,?_⟩⟩
  have s04:az H (upd H3 e (.lst [])):=s03.put he
  have hf4:(upd H3 e (.lst [])) fr=some (.lst (fs.map V.str)):=(az.new he) _ _ hf3
  generalize upd H3 e (.lst [])=H4 at s04 hf4
  by_cases hfe:fs=[]
  ·subst hfe
   refine eO rfl ?_
   exact⟨by show 4<=sizeLine;decide,fun p hp=>q p _ 5 "" "" "" (s04.free hp) (s04.put hp) ao ⟨Z0,(fun z=>absurd z Z0),(fun _=>rfl),.inl ⟨rfl,rfl⟩,Z4⟩ (fun z=>absurd z Z0)⟩
  refine bI (by cases fs with|nil=>exact absurd rfl hfe|cons x y=>rfl) ?_
  have hfl0:0<(fs.length:Int):=by have:=length_pos_iff.mpr hfe;omega
  obtain⟨n0,hn0,ean⟩:=eV (c:=c) (k:=5) hfe
  obtain⟨hn0w,hn0k⟩:=hfree n0 hn0
  refine⟨_,rfl,_,rfl,_,rfl,fr,_,rfl,.inl (SqL.of hf4),c,5,fs.length,(show[V.int c,V.int 5,V.int (fs.map V.str).length]=[V.int c,V.int 5,V.int fs.length]by rw[length_map]),Z0,Z0,hfl0,fun H5 s5=>⟨fr,_,_,_,rfl,rfl,SqL.of (s5 _ _ hf4),ean,?_⟩⟩
  have s05:az H H5:=s04.trans s5
  obtain⟨nm,hnm⟩:∃ nm:Str,nm=if so=5 then("" : Str)else n0:=⟨_,rfl⟩
  have hn1:so<5->cB nm:=fun z=>by rw[hnm,if_neg Z1];exact hwn n0 hn0w
  have hn2:so=5->nm = "" := fun z=>by rw[hnm,if_pos z]
  have hn3:so<5->nm∈ws/\nm∉ks:=fun z=>by rw[hnm,if_neg Z1];exact⟨hn0w,hn0k⟩
  have hlen:((as.map dotted).map V.str).length<=12:=by rw[length_map,length_map];exact g.hi
  by_cases h5:so=5
  ·subst h5
   refine⟨_,rfl,rfl,_,rfl,eO (sT 5) ?_⟩
   obtain rfl:nm = "" := hn2 rfl
   refine⟨_,rfl,la,rfl,⟨_,SqL.of (s05 _ _ hla)⟩,bM (xs:=(as.map dotted).map V.str) rH (le_trans hlen Z0) (SqL.of (s05 _ _ hla)) (fun x H' Q' hx sm k=>?_) (fun x H' Q' hx sm k=>?_) (fun H6 s6 bn hbn=>?_)⟩
   ·obtain⟨z,_,rfl⟩:=mem_map.mp hx
    exact⟨_,rfl,_,_,rfl,rfl,_,rfl,k H' (az.refl _)⟩
   ·exact⟨_,rfl,k H' (az.refl _)⟩
   have s07:az H (upd H6 bn (.lst (((as.map dotted).map V.str).filter rH))):=(s05.trans s6).put hbn
   have hb7:(upd H6 bn (.lst (((as.map dotted).map V.str).filter rH))) bn=some (.lst (((as.map dotted).filter fun z=>rH (.str z)).map V.str)):=ao.trans (by rw[dF])
   generalize upd H6 bn (.lst (((as.map dotted).map V.str).filter rH))=H7 at s07 hb7
   refine⟨_,rfl,rfl,_,rfl,bI (sF 5 4) (oO ?_)⟩
   obtain⟨w,hw,eaw⟩:=eV (c:=c) (k:=6) hw0
   rw[hw8]at eaw
   refine⟨_,rfl,_,rfl,_,rfl,_,rfl,_,rfl,c,la,lw,as,ws,rfl,s07 _ _ hla,hne,g,s07 _ _ hlw,hw8,hwn,fun ys gy Ha sa=>⟨_,rfl,_,rfl,c,6,8,rfl,Z0,Z0,Z0,fun Hb sb2=>⟨lw,_,_,_,rfl,rfl,SqL.of ((s07.trans (sa.trans sb2)) _ _ hlw),eaw,by show 4<=sizeLine;decide,fun t ht=>?_⟩⟩⟩
   exact q t _ _ _ (dotted ys) w ((s07.trans (sa.trans sb2)).free ht) ((s07.trans (sa.trans sb2)).put ht) ao ⟨hso,hn1,hn2,.inr ⟨ys,gy,rfl,hwn w hw⟩,(hwn w hw).hi⟩ hn3
  ·refine⟨_,rfl,rfl,_,rfl,bI (sF so 5 (by unfold vA;rw[decide_eq_false h5];rfl) hso) ?_⟩
   obtain rfl:nm=n0:=by rw[hnm,if_neg h5]
   refine⟨_,rfl,la,rfl,⟨_,SqL.of (s05 _ _ hla)⟩,bM (xs:=(as.map dotted).map V.str) rH (le_trans hlen Z0) (SqL.of (s05 _ _ hla)) (fun x H' Q' hx sm k=>?_) (fun x H' Q' hx sm k=>?_) (fun H6 s6 bn hbn=>?_)⟩
   ·obtain⟨z,_,rfl⟩:=mem_map.mp hx
    exact⟨_,rfl,_,_,rfl,rfl,_,rfl,k H' (az.refl _)⟩
   ·exact⟨_,rfl,k H' (az.refl _)⟩
   have s07:az H (upd H6 bn (.lst (((as.map dotted).map V.str).filter rH))):=(s05.trans s6).put hbn
   have hb7:(upd H6 bn (.lst (((as.map dotted).map V.str).filter rH))) bn=some (.lst (((as.map dotted).filter fun z=>rH (.str z)).map V.str)):=ao.trans (by rw[dF])
   generalize upd H6 bn (.lst (((as.map dotted).map V.str).filter rH))=H7 at s07 hb7
   by_cases h4:so=4
   ·subst h4
    refine⟨_,rfl,rfl,_,rfl,eO (sT 4) ?_⟩
    have hbt:∀ z∈(as.map dotted).filter (fun z=>rH (.str z)),∃ xs b,xs++[b]∈as/\z=dotted (xs++[b])/\xs≠[]:=fun z hz=>Bx g hz
    generalize (as.map dotted).filter (fun z=>rH (.str z))=bs at hb7 hbt
    refine⟨_,rfl,by show 0<=sizeLine;decide,fun e2 he2=>⟨bn,e2,bs.map V.str,rfl,rfl,SqL.of ((az.new he2) _ _ hb7),SqL.of ao,_,rfl,?_⟩⟩
    have s08:az H (upd H7 e2 (.lst [])):=s07.put he2
    have hb8:(upd H7 e2 (.lst [])) bn=some (.lst (bs.map V.str)):=(az.new he2) _ _ hb7
    generalize upd H7 e2 (.lst [])=H8 at s08 hb8
    by_cases hbe:bs=[]
    ·subst hbe
     refine bI rfl (oO ?_)
     obtain⟨w,hw,eaw⟩:=eV (c:=c) (k:=6) hw0
     rw[hw8]at eaw
     refine⟨_,rfl,_,rfl,_,rfl,_,rfl,_,rfl,c,la,lw,as,ws,rfl,s08 _ _ hla,hne,g,s08 _ _ hlw,hw8,hwn,fun ys gy Ha sa=>⟨_,rfl,_,rfl,c,6,8,rfl,Z0,Z0,Z0,fun Hb sb2=>⟨lw,_,_,_,rfl,rfl,SqL.of ((s08.trans (sa.trans sb2)) _ _ hlw),eaw,by show 4<=sizeLine;decide,fun t ht=>?_⟩⟩⟩
     exact q t _ _ _ (dotted ys) w ((s08.trans (sa.trans sb2)).free ht) ((s08.trans (sa.trans sb2)).put ht) ao ⟨hso,hn1,hn2,.inr ⟨ys,gy,rfl,hwn w hw⟩,(hwn w hw).hi⟩ hn3
    refine eO (by cases bs with|nil=>exact absurd rfl hbe|cons x y=>rfl) ?_
    refine⟨_,rfl,c,7,2,rfl,Z0,Z0,Z0,fun H9 s9=>⟨rfl,_,rfl,fZ (fun _=>?_) (fun _=>?_)⟩⟩
    ·have s09:=s08.trans s9
     have hbl0:0<(bs.length:Int):=by have:=length_pos_iff.mpr hbe;omega
     obtain⟨z,hz,eab⟩:=eV (c:=c) (k:=8) hbe
     obtain⟨xs,b2,hxb,rfl,hxs⟩:=hbt z hz
     have gx:=g.ok _ hxb
     have h36:=gx.len
     have nb:cB b2:=gx.nm b2 Z2
     have gp:bW xs:=⟨hxs,by have:=gx.hi;rw[length_append]at this;exact le_trans (Nat.le_add_right _ _) this,fun y hy=>gx.nm y (mem_append_left _ hy)⟩
     refine⟨_,rfl,_,rfl,_,rfl,bn,_,rfl,.inl (SqL.of (s9 _ _ hb8)),c,8,bs.length,(show[V.int c,V.int 8,V.int (bs.map V.str).length]=[V.int c,V.int 8,V.int bs.length]by rw[length_map]),Z0,Z0,hbl0,fun Ha sa=>⟨bn,_,_,_,rfl,rfl,SqL.of ((s9.trans sa) _ _ hb8),eab,?_⟩⟩
     have s0a:=s09.trans sa
     refine⟨_,rfl,_,rfl,_,rfl,rfl,_,_,rfl,rfl,Z4,le_trans h36 Z0,fun p1 hp1=>⟨p1,_,_,_,rfl,rfl,SqT.of ao,bK (j:=0) rfl,?_⟩⟩
     rw[uL xs b2 hxs nb]
     have s0b:az H (upd Ha p1 (.tup [V.str (dotted xs),V.str ".",V.str b2])):=s0a.put hp1
     generalize upd Ha p1 (.tup [V.str (dotted xs),V.str ".",V.str b2])=Hb at s0b
     refine⟨_,rfl,rfl,_,_,rfl,rfl,Z4,le_trans (show(dotted (xs++[b2])).length+2<=1000 by omega) bO,fun p2 hp2=>?_⟩
     rw[cj _ gx.lo gx.nm]
     refine⟨_,rfl,p2,_,_,_,rfl,rfl,SqL.of ao,jr,by show 4<=sizeLine;decide,fun t ht=>?_⟩
     exact q t _ 4 _ (dotted xs) b2 ((s0b.put hp2).free ht) ((s0b.put hp2).put ht) ao ⟨Z0,hn1,hn2,.inr ⟨xs,gp,rfl,nb⟩,nb.hi⟩ hn3
    ·have s09:=s08.trans s9
     obtain⟨w,hw,eaw⟩:=eV (c:=c) (k:=6) hw0
     rw[hw8]at eaw
     refine⟨_,rfl,_,rfl,_,rfl,_,rfl,_,rfl,c,la,lw,as,ws,rfl,s09 _ _ hla,hne,g,s09 _ _ hlw,hw8,hwn,fun ys gy Ha sa=>⟨_,rfl,_,rfl,c,6,8,rfl,Z0,Z0,Z0,fun Hb sb2=>⟨lw,_,_,_,rfl,rfl,SqL.of ((s09.trans (sa.trans sb2)) _ _ hlw),eaw,by show 4<=sizeLine;decide,fun t ht=>?_⟩⟩⟩
     exact q t _ _ _ (dotted ys) w ((s09.trans (sa.trans sb2)).free ht) ((s09.trans (sa.trans sb2)).put ht) ao ⟨hso,hn1,hn2,.inr ⟨ys,gy,rfl,hwn w hw⟩,(hwn w hw).hi⟩ hn3
   refine⟨_,rfl,rfl,_,rfl,bI (sF so 4 (by unfold vA;rw[decide_eq_false h4];rfl) hso) (oO ?_)⟩
   obtain⟨w,hw,eaw⟩:=eV (c:=c) (k:=6) hw0
   rw[hw8]at eaw
   refine⟨_,rfl,_,rfl,_,rfl,_,rfl,_,rfl,c,la,lw,as,ws,rfl,s07 _ _ hla,hne,g,s07 _ _ hlw,hw8,hwn,fun ys gy Ha sa=>⟨_,rfl,_,rfl,c,6,8,rfl,Z0,Z0,Z0,fun Hb sb2=>⟨lw,_,_,_,rfl,rfl,SqL.of ((s07.trans (sa.trans sb2)) _ _ hlw),eaw,by show 4<=sizeLine;decide,fun t ht=>?_⟩⟩⟩
   exact q t _ _ _ (dotted ys) w ((s07.trans (sa.trans sb2)).free ht) ((s07.trans (sa.trans sb2)).put ht) ao ⟨hso,hn1,hn2,.inr ⟨ys,gy,rfl,hwn w hw⟩,(hwn w hw).hi⟩ hn3
theorem yV(T:Tx K mg C)(F:Fun K "_law_rows" "_law_rows" lY f fd):aK P w K mg base CX0 4 f fd yh (Jr K):=by
 obtain⟨fad,dad,Aad⟩:=T.aad
 have Gad:aK P w K mg base CX0 1 fad dad uz (xP K):=Dn Aad.F T.len
 obtain⟨faa,daa,Aaa⟩:=T.aaa
 have Gaa:aK P w K mg base CX0 1 faa daa mz pB:=oG Aaa.F
 obtain⟨fbb,dbb,Abb⟩:=T.abb
 have Gbb:aK P w K mg base CX0 3 fbb dbb tU Dh:=wO T Abb.F
 refine F.oq nG fun _ _ _ _ H _ Q E hr h=>?_
 ·obtain⟨S,la,lw,ns,as,ws,rfl,hS,hla,hne,g,hlw,hw8,hwn,q⟩:=h
  have hr1:aP 1 _:=hr.mono Z0
  have hr3:aP 3 _:=hr
  refine⟨_,QSs.h (au (aO (i:=3) nG.nd rfl (Or.inl rfl) nj)
   (au (bY PassesOwn.never rfl (aR (pv 1)) (aG (i:=4) nG.nd rfl (Or.inl rfl))
   (aA (QS.mk (oM (aP.u1 hr) (pv 3) (pv 4) (bF aq) rfl))))
   (au (bY PassesOwn.never rfl (rG Z3 T.range (ak aB (ak (bc (Eo rfl) Z3 T.min PyProof.Rows.boot_min (ak (bc aW Z3 T.len boot_len (ak (pv 0) aq)) (ak aB aq))) aq))) (aG (i:=5) nG.nd rfl (Or.inl rfl))
   (au (aO (i:=6) nG.nd rfl (Or.inl rfl) (aY Aad Gad hr1 (ak (pv 0) (ak (pv 5) aq))))
   (au (aO (i:=7) nG.nd rfl (Or.inr rfl) (bL bu (pv 1) (aY Aaa Gaa hr1 (ak (pv 6) (ak aB (ak (bc aW Z3 T.len boot_len (ak (pv 1) aq)) aq))))))
   (au (iQ (N:=["_law_row_here"]) [none] (i:=8) nG.nd rfl (Or.inl rfl) rfl Z5 (aR (gU (aP.u1 hr) (pv 3) (pv 7) (fun _ _=>rfl))) (fun cl C fp s H=>(aG (i:=0) (by decide +kernel:(["_law_row_here"]:List Str).Nodup) rfl (Or.inl rfl))) (fun cl C fp s H=>cJ) (fun cl C fp s H=>(bL (ym (K:=K) rfl) (pv 0) aB)))
   (au (aO (i:=8) nG.nd rfl (Or.inl rfl) (aV lN (pv 8) (bJ (N:=["_law_word", "_law_addresses_here", "_law_owner"]) [none,some 1,some 7] rfl Z5 (aR (pv 2)) (fun cl C fp s H=>(aG (i:=0) (by decide +kernel:(["_law_word", "_law_addresses_here", "_law_owner"]:List Str).Nodup) rfl (Or.inl rfl))) (fun cl C fp s H=>(d8 (aH (ug (K:=K) rfl) (aV bA (aV bA (pv 2) aM) (pv 0)) (pv 1) Z3))) (fun cl C fp s H=>(pv 0)))))
   (aA (bG (aH za (bc aW Z3 T.len boot_len (ak (gU (aP.u1 hr) (pv 3) (pv 7) (fun _ _=>rfl)) aq)) aB (aQ _)) (aA (cU (fW plainAttrs_list PySem.F.slot_list_append PySem.F.type_list_append jV (gU (aP.u1 hr) (pv 3) (pv 7) (fun _ _=>rfl)) (ak (aY Abb Gbb hr3 (ak (pv 6) (ak (pv 8) (ak (pv 1) (ak (pv 2) aq))))) aq)))) aU)))))))
   (aA (aL (pv 3)))))),?_⟩
  have hfl:∀ zs:List Str,(zs.map V.str).all dm=true:=dO
  have h12:=g.hi
  have hml:((as.map dotted).map V.str).length=as.length:=by rw[length_map,length_map]
  refine fun R hR=>?_
  have s1:az H (upd H R (.dK [])):=az.new hR
  have hR1:(upd H R (.dK [])) R=some (.dK []):=ao
  generalize upd H R (.dK [])=H1 at s1 hR1
  refine⟨_,rfl,la,rfl,⟨_,SqL.of (s1 _ _ hla)⟩,?_⟩
  refine bU (xs:=(as.map dotted).map V.str) (fun i σ H2=>∃ v4 v5 v6 v7 v8 L,∃ rs:Nat->List Q4,σ=[some (.ref S),some (.ref la),some (.ref lw),some (.ref R),v4,v5,v6,v7,v8]/\az H H2/\DictAt H H2 R as i L rs/\∀ j,rs j=[])
   ⟨none,none,none,none,none,(fun _=>0),(fun _=>[]),rfl,s1,⟨hR,(fun i hi=>absurd hi (not_lt_zero _)),⟨[],hR1,le_refl _,(fun i a hi=>absurd hi (not_lt_zero _))⟩,(fun i hi=>absurd hi (not_lt_zero _)),(fun i j hi=>absurd hi (not_lt_zero _))⟩,fun _=>rfl⟩ ?_ ?_ ?_
  ·rintro i σ H2 _ ⟨v4,v5,v6,v7,v8,L,rs,rfl,sm,_⟩
   exact SqL.of (sm _ _ hla)
  ·rintro i x σ H2 hx ⟨v4,v5,v6,v7,v8,L,rs,rfl,sm,hd,he⟩
   obtain⟨a,ha,rfl⟩:∃ a,as[i]? = some a/\x=V.str (dotted a):=by
    rw[getElem?_map,getElem?_map]at hx
    cases e:as[i]? with
    | none=>rw[e]at hx;cases hx
    | some a=>rw[e]at hx;cases hx;exact⟨a,rfl,rfl⟩
   refine⟨by show 0<=sizeLine;decide,fun b hb=>?_⟩
   obtain⟨kvs,hk,_⟩:=hd.dk
   obtain⟨hkl,hd2⟩:=hd.more g.nd sm hb ha kvs hk
   have hi12:i<12:=by have:=(List.getElem?_eq_some_iff.mp ha).1;omega
   have hk2:(upd H2 b (.lst [])) R=some (.dK kvs):=(az.new hb) _ _ hk
   refine⟨_,rfl,_,rfl,R,_,rfl,vh.k (k:=.inr (dotted a)) hk2 (lt_of_lt_of_le (show kvs.length<1000 by omega) dY),?_⟩
   exact⟨_,_,_,_,_,_,_,rfl,(sm.put hb).over hR,hd2,fun j=>by show(if j=i then[]else rs j)=[];rw[he j];split <;> rfl⟩
  ·rintro σ H2 ⟨v4,v5,v6,v7,v8,L,rs,rfl,sm,hd,he⟩
   rw[hml]at hd
   have hok:lg as rs:=⟨(fun i _=>by rw[he i];decide),(fun i _ d hd=>by rw[he i]at hd;cases hd),(fun i a _ d hd=>by rw[he i]at hd;cases hd)⟩
   clear he
   refine⟨_,rfl,S,_,rfl,.inl (sm.seq hS),_,_,rfl,_,_,rfl,⟨Z0,Z0,by split <;> omega,by split <;> omega⟩,?_⟩
   refine oE (fun k σ H2=>∃ v4 v5 v6 v7 v8 L,∃ rs:Nat->List Q4,σ=[some (.ref S),some (.ref la),some (.ref lw),some (.ref R),v4,v5,v6,v7,v8]/\az H H2/\DictAt H H2 R as as.length L rs/\lg as rs) ⟨_,_,_,_,_,L,rs,rfl,sm,hd,hok⟩ ?_ ?_
   ·clear hd hok sm
    rintro k σ H3 hk ⟨v4,v5,v6,v7,v8,L,rs,rfl,sm,hd,hok⟩
    refine⟨_,rfl,_,rfl,S,ns,6+(k:Int),rfl,sm.seq hS,Z1,fun H4 s4=>?_⟩
    generalize qt ns (6+(k:Int))=c
    have sm4:=sm.trans s4
    have hd4:=hd.same s4
    clear sm hd s4
    have hzl:0<((as.map dotted).length:Int):=by have:=length_pos_iff.mpr hne;rw[length_map];omega
    obtain⟨i,a,ha,eat⟩:=IK (c:=c) (k:=0) hne
    refine⟨_,rfl,_,rfl,_,rfl,la,_,rfl,.inl (SqL.of (sm4 _ _ hla)),c,0,(as.map dotted).length,(show[V.int c,V.int 0,V.int ((as.map dotted).map V.str).length]=[V.int c,V.int 0,V.int (as.map dotted).length]by rw[length_map (f:=V.str)]),Z0,Z0,hzl,fun H5 s5=>⟨la,_,_,_,rfl,rfl,SqL.of ((sm4.trans s5) _ _ hla),eat,?_⟩⟩
    have sm5:=sm4.trans s5
    have hd5:=hd4.same s5
    clear sm4 hd4 s5 eat hzl
    have hi:=(List.getElem?_eq_some_iff.mp ha).1
    have ga:=g.ok a (mem_of_getElem? ha)
    have h36:=ga.len
    obtain⟨xs,hx5,hxl,hxt⟩:=hd5.ts i hi
    have hr12:=hok.hi i hi
    refine⟨_,rfl,_,rfl,R,_,rfl,hd5.get hi ha (az.refl _),L i,rfl,⟨_,SqL.of hx5⟩,dZ (fun m=>V.str (((rs i).map Q4.nm).getD m "")) (le_trans (show xs.length<=12 by omega) Z0) (SqL.of hx5) (fun m x H' Q' hx sm k=>?_) (fun H6 s6 kn hkn=>?_)⟩
    ·have hm:m<(rs i).length:=by rw[<- hxl];exact(List.getElem?_eq_some_iff.mp hx).1
     obtain⟨p,e2,tp⟩:=hxt m (rs i)[m] (getElem?_eq_getElem hm)
     obtain rfl:x=.ref p:=by rw[hx]at e2;exact Option.some.inj e2
     have k2:Q' (V.str (((rs i).map Q4.nm).getD m "")) H':=k H' (az.refl _)
     have eg:((rs i).map Q4.nm).getD m "" = (rs i)[m].nm:=by simp[List.getD,hm]
     rw[eg]at k2
     exact⟨_,rfl,p,_,_,_,rfl,rfl,SqT.of (sm _ _ tp),bK (j:=1) rfl,k2⟩
    rw[G6 hxl]
    have s7:az H5 (upd H6 kn (.lst (((rs i).map Q4.nm).map V.str))):=s6.put hkn
    have hk7:(upd H6 kn (.lst (((rs i).map Q4.nm).map V.str))) kn=some (.lst (((rs i).map Q4.nm).map V.str)):=ao
    generalize upd H6 kn (.lst (((rs i).map Q4.nm).map V.str))=H7 at s7 hk7
    have s07:=sm5.trans s7
    refine⟨_,rfl,_,rfl,lw,rfl,⟨_,SqL.of (s07 _ _ hlw)⟩,bM (xs:=ws.map V.str) (fun v=>inV (xY (dotted a) v) ((as.map dotted).map V.str)) (le_trans (show(ws.map V.str).length<=8 by rw[length_map];omega) Z0) (SqL.of (s07 _ _ hlw)) (fun x H' Q' hx sm k=>?_) (fun x H' Q' hx sm k=>?_) (fun H8 s8 fl hfl2=>?_)⟩
    ·obtain⟨w,hw,rfl⟩:=mem_map.mp hx
     exact⟨_,rfl,_,_,rfl,rfl,abS h36 oZ,_,rfl,_,_,rfl,rfl,abS (alS h36 oZ) (hwn w hw).hi,_,rfl,la,_,rfl,.inl (SqL.of ((s07.trans sm) _ _ hla)),rfl,hfl _,_,rfl,k H' (az.refl _)⟩
    ·exact⟨_,rfl,k H' (az.refl _)⟩
    have hk8:=s8 _ _ hk7
    have s9:az H5 (upd H8 fl (.lst ((ws.map V.str).filter fun v=>inV (xY (dotted a) v) ((as.map dotted).map V.str)))):=(s7.trans s8).put hfl2
    have hk9:(upd H8 fl (.lst ((ws.map V.str).filter fun v=>inV (xY (dotted a) v) ((as.map dotted).map V.str)))) kn=some (.lst (((rs i).map Q4.nm).map V.str)):=(az.new hfl2) _ _ hk8
    have hf9:(upd H8 fl (.lst ((ws.map V.str).filter fun v=>inV (xY (dotted a) v) ((as.map dotted).map V.str)))) fl=some (.lst ((ws.filter fun w=>inV (xY (dotted a) (.str w)) ((as.map dotted).map V.str)).map V.str)):=ao.trans (by rw[dF])
    generalize upd H8 fl (.lst ((ws.map V.str).filter fun v=>inV (xY (dotted a) v) ((as.map dotted).map V.str)))=H9 at s9 hk9 hf9
    have hfm:∀ w∈ws,dotted a ++ "." ++ w∈as.map dotted->w∈ws.filter fun w=>inV (xY (dotted a) (.str w)) ((as.map dotted).map V.str):=fun w hw hm=>mem_filter.mpr ⟨hw,rB (mem_map.mpr ⟨_,hm,rfl⟩)⟩
    have hf8:(ws.filter fun w=>inV (xY (dotted a) (.str w)) ((as.map dotted).map V.str)).length<=8:=by rw[<- hw8];exact length_filter_le _ _
    generalize (ws.filter fun w=>inV (xY (dotted a) (.str w)) ((as.map dotted).map V.str))=fs at hf9 hfm hf8
    refine⟨kn,fl,_,_,rfl,rfl,hk9,hf9,le_trans (show(((rs i).map Q4.nm).map V.str).length+(fs.map V.str).length<=20 by simp only[length_map];omega) Z0,fun e he=>?_⟩
    have s10:az H5 (upd H9 e (.lst (((rs i).map Q4.nm).map V.str++fs.map V.str))):=s9.put he
    have he10:(upd H9 e (.lst (((rs i).map Q4.nm).map V.str++fs.map V.str))) e=some (.lst (((rs i).map Q4.nm++fs).map V.str)):=ao.trans (by rw[map_append])
    generalize upd H9 e (.lst (((rs i).map Q4.nm).map V.str++fs.map V.str))=H10 at s10 he10
    clear hk9 hf9 s9 hk8 hfl2 s8 hk7 s07 s7
    have s010:=sm5.trans s10
    have hx10:=s10 _ _ hx5
    refine⟨_,rfl,_,rfl,R,_,rfl,hd5.get hi ha s10,L i,_,rfl,.inl (SqL.of hx10),_,_,rfl,rfl,_,rfl,fZ (fun hlt=>?_) (fun _=>?_)⟩
    ·have hlt:xs.length<12:=by omega
     refine⟨_,rfl,_,rfl,R,_,rfl,hd5.get hi ha s10,.inl ⟨rfl,_,SqL.of hx10⟩,_,rfl,_,rfl,_,rfl,_,rfl,c,e,la,lw,(rs i).map Q4.nm++fs,as,ws,rfl,he10,s010 _ _ hla,hne,g,s010 _ _ hlw,hw8,hwn,fun p H11 so nm ad wd hp s11 tp g4 hnk=>?_⟩
     have hx11:=s11 _ _ hx10
     refine⟨L i,xs,_,rfl,rfl,hx11,lt_of_lt_of_le (show xs.length<1000 by omega) dY,?_⟩
     have hd12:=(hd5.same (s10.trans s11)).row hi (d:=⟨so,nm,ad,wd⟩) tp xs hx11
     refine⟨_,_,_,_,_,L,_,rfl,(s010.trans s11).over (hd5.l0 i hi),hd12,hok.row ha Z1 g4 fun h5 hm=>?_⟩
     obtain⟨h6,h7⟩:=hnk h5
     exact h7 (mem_append_right _ (hfm nm h6 hm))
    ·exact⟨_,_,_,_,_,L,rs,rfl,s010,hd5.same s10,hok⟩
   ·rintro σ H3 ⟨v4,v5,v6,v7,v8,L,rs,rfl,sm,hd,hok⟩
    exact⟨_,rfl,q R H3 L rs sm hd hok⟩
theorem Ad(T:Tx K mg C)(F:Fun K "_law_row" "_law_row" n8 f fd):aK P w K mg base CX0 3 f fd Ck (Dq C):=by
 obtain⟨fbh,dbh,Abh,M_Deed⟩:=T.i_Deed
 have Gbh:aK P w K mg base CX0 1 fbh dbh iH (ye C 1):=pN T Abh.F
 obtain⟨fan,dan,Aan,M_Draw⟩:=T.i_Draw
 have Gan:aK P w K mg base CX0 1 fan dan fO (uo C 2):=iY T Aan.F
 obtain⟨fbe,dbe,Abe,M_Late⟩:=T.i_Late
 have Gbe:aK P w K mg base CX0 1 fbe dbe iJ (uo C 3):=pD T Abe.F
 obtain⟨fbj,dbj,Abj,M_Let⟩:=T.i_Let
 have Gbj:aK P w K mg base CX0 1 fbj dbj jt (ye C 0):=qg T Abj.F
 obtain⟨fbi,dbi,Abi,M_Need⟩:=T.i_Need
 have Gbi:aK P w K mg base CX0 1 fbi dbi iB (Jp C):=pG T Abi.F
 obtain⟨fbf,dbf,Abf,M_Take⟩:=T.i_Take
 have Gbf:aK P w K mg base CX0 1 fbf dbf iC (Hr C):=ph T Abf.F
 refine F.oq uI fun _ _ _ _ H _ Q E hr h=>?_
 ·obtain⟨p,so,nn,aa,ww,rfl,hp,g4,q⟩:=h
  have hr2:aP 2 _:=hr
  refine⟨_,QSs.h (au (GC (pv 0) (xj (K:=K) (n:=4) rfl rfl (eY (aG (i:=1) uI.nd rfl (Or.inl rfl)) (eY (aG (i:=2) uI.nd rfl (Or.inl rfl)) (eY (aG (i:=3) uI.nd rfl (Or.inl rfl)) (eY (aG (i:=4) uI.nd rfl (Or.inl rfl)) yf))))))
   (au (aO (i:=5) uI.nd rfl (Or.inl rfl) (bF (ak (nT (ak aB (ak aM (ak aB aq)))) aq)))
   (au (bG (aH wF (pv 3) aM (aQ _)) (aA (aO (i:=5) uI.nd rfl (Or.inl rfl) (bF (ak (nT (ak aB (ak aM (ak (eQ vD Z3 T.t_tuple PyProof.Rows.boot_tuple (ak (fW plainAttrs_str slot_str_split type_str_split qz (pv 3) (ak aM aq)) aq)) aq)))) (ak (nT (ak (qM kO aB) (ak aM (ak (nT (ak (pv 4) aq)) aq)))) aq))))) aU)
   (au (bG (aH dI (pv 1) aM (aQ _)) (aA (aL (jZ M_Draw Aan.b Gan hr2 T.c_Draw (ak (pv 3) (ak (pv 2) aq))))) aU)
   (au (bG (aH dI (pv 1) aM (aQ _)) (aA (aL (jZ M_Late Abe.b Gbe hr2 T.c_Late (ak (pv 3) (ak (pv 2) aq))))) aU)
   (au (bG (aH dI (pv 1) aM (aQ _)) (aA (aL (jZ M_Take Abf.b Gbf hr2 T.c_Take (ak (pv 4) (ak (pv 3) (ak (pv 2) aq)))))) aU)
   (au (bG (aH dI (pv 1) aM (aQ _)) (aA (aL (jZ M_Let Abj.b Gbj hr2 T.c_Let (ak (pv 2) (ak (pv 5) aq))))) aU)
   (au (bG (aH dI (pv 1) aM (aQ _)) (aA (aL (jZ M_Deed Abh.b Gbh hr2 T.c_Deed (ak (pv 2) (ak (pv 5) aq))))) aU)
   (aA (aL (jZ M_Need Abi.b Gbi hr2 T.c_Need (ak (pv 5) aq)))))))))))),?_⟩
  have h5:=g4.h5
  refine⟨_,rfl,p,_,rfl,SqT.of hp,rfl,_,_,rfl,_,_,rfl,_,_,rfl,_,_,rfl,rfl,?_⟩
  refine⟨by show 3<=sizeLine;decide,fun t1 ht1=>⟨by show 1<=sizeLine;decide,fun l1 hl1=>?_⟩⟩
  have s1:az H (upd (upd H t1 (.tup [V.int 1,V.str "number",V.int 1])) l1 (.lst [V.ref t1])):=(az.new ht1).put hl1
  have hts1:mU (upd (upd H t1 (.tup [V.int 1,V.str "number",V.int 1])) l1 (.lst [V.ref t1])) l1 [⟨1,.num 1⟩]:=⟨_,ao,rfl,fun i x e=>by
   match i,e with
   | 0,e=>cases e;exact⟨_,rfl,t1,_,rfl,(az.new hl1) _ _ ao,rfl⟩
   | n+1,e=>simp at e⟩
  have hl1f:H l1=none:=(az.new ht1).free hl1
  generalize upd (upd H t1 (.tup [V.int 1,V.str "number",V.int 1])) l1 (.lst [V.ref t1])=H1 at s1 hts1
  by_cases ha:aa = ""
  ·obtain rfl:so=5:=by
    rcases g4.ha with⟨_,z⟩|⟨ys,gy,e,_⟩
    ·exact z
    ·exact absurd (e.symm.trans ha) (rD gy)
   have gr:GoodR ⟨5, "",dotted ["a"], "a",[⟨1,.num 1⟩]⟩:=⟨Z0,fun z=>absurd z Z0,fun _=>rfl,⟨_,Gn Nx,rfl⟩,Nx,Ih,fun z=>absurd z Z0⟩
   have en:nn = "" := g4.h0 rfl
   refine⟨_,rfl,rfl,_,rfl,xJ (decide_eq_true (congrArg V.str ha)) ?_⟩
   refine⟨_,rfl,rfl,_,rfl,bI (sF 5 2) ⟨_,rfl,rfl,_,rfl,bI (sF 5 3) ⟨_,rfl,rfl,_,rfl,bI (sF 5 4) ⟨_,rfl,rfl,_,rfl,bI (sF 5 0) ⟨_,rfl,rfl,_,rfl,bI (sF 5 1) ?_⟩⟩⟩⟩⟩
   exact⟨_,rfl,fun x dx hx hdx hne=>⟨x,dx,⟨5, "",dotted ["a"], "a",[⟨1,.num 1⟩]⟩,l1,rfl,rfl,ao,hts1.same (bB hx hdx),Z0,fun l H' hl sb ra=>⟨rfl,q x l H' _ gr rfl en.symm (fun z=>absurd z Z0) (s1.trans fun b o e=>sb b o (bB hx hdx b o e) (aF e hx)) (s1.free hx) ((s1.trans (bB hx hdx)).free hl) ra⟩⟩⟩
  ·obtain⟨ys,gy,rfl,hww⟩:=g4.ha.resolve_left fun z=>ha z.1
   refine⟨_,rfl,rfl,_,rfl,Br (decide_eq_false fun z=>ha (V.str.inj z)) ?_⟩
   have h36:=gy.len
   refine⟨_,rfl,rfl,_,_,rfl,rfl,Z4,le_trans (show(dotted ys).length+2<=1000 by omega) bO,fun sp hsp=>⟨sp,_,rfl,.inl ⟨SqL.of ao,fun tp htp=>?_⟩⟩⟩
   have es:Txt.split (dotted ys) ("." : Str)=ys:=cj ys gy.lo gy.nm
   have s2:az H1 (upd (upd H1 sp (.lst ((Txt.split (dotted ys) ".").map V.str))) tp (.tup ((Txt.split (dotted ys) ".").map V.str))):=(az.new hsp).put htp
   have htp2:(upd (upd H1 sp (.lst ((Txt.split (dotted ys) ".").map V.str))) tp (.tup ((Txt.split (dotted ys) ".").map V.str))) tp=some (.tup (ys.map V.str)):=ao.trans (by rw[es])
   generalize upd (upd H1 sp (.lst ((Txt.split (dotted ys) ".").map V.str))) tp (.tup ((Txt.split (dotted ys) ".").map V.str))=H2 at s2 htp2
   refine⟨by show 3<=sizeLine;decide,fun t2 ht2=>⟨_,rfl,_,rfl,by show 1<=sizeLine;decide,fun t3 ht3=>⟨by show 3<=sizeLine;decide,fun t4 ht4=>⟨by show 2<=sizeLine;decide,fun l2 hl2=>?_⟩⟩⟩⟩
   have s3:az H2 (upd (upd (upd (upd H2 t2 (.tup [V.int 1,V.str "path",V.ref tp])) t3 (.tup [V.str ww])) t4 (.tup [V.int (-1),V.str "path",V.ref t3])) l2 (.lst [V.ref t2,V.ref t4])):=(((az.new ht2).put ht3).put ht4).put hl2
   have hts3:mU (upd (upd (upd (upd H2 t2 (.tup [V.int 1,V.str "path",V.ref tp])) t3 (.tup [V.str ww])) t4 (.tup [V.int (-1),V.str "path",V.ref t3])) l2 (.lst [V.ref t2,V.ref t4])) l2 [⟨1,.nms false ys⟩,⟨-1,.nms false [ww]⟩]:=⟨_,ao,rfl,fun i x e=>by
    match i,e with
    | 0,e=>cases e;exact⟨_,rfl,t2,_,rfl,(az.new hl2) _ _ ((az.new ht4) _ _ ((az.new ht3) _ _ ao)),tp,rfl,s3 _ _ htp2⟩
    | 1,e=>cases e;exact⟨_,rfl,t4,_,rfl,(az.new hl2) _ _ ao,t3,rfl,(az.new hl2) _ _ ((az.new ht4) _ _ ao)⟩
    | n+2,e=>simp at e⟩
   have hl2f:H l2=none:=((s1.trans s2).trans (((az.new ht2).put ht3).put ht4)).free hl2
   have s03:=s1.trans (s2.trans s3)
   generalize upd (upd (upd (upd H2 t2 (.tup [V.int 1,V.str "path",V.ref tp])) t3 (.tup [V.str ww])) t4 (.tup [V.int (-1),V.str "path",V.ref t3])) l2 (.lst [V.ref t2,V.ref t4])=H3 at s03 hts3
   have gts:=J3 gy hww
   have nc:∀ t∈([⟨1,.nms false ys⟩,⟨-1,.nms false [ww]⟩]:List Trm),∀ zs,t.th≠.nms true zs:=fun t ht zs=>by
    simp only[mem_cons,not_mem_nil,or_false]at ht
    rcases ht with rfl|rfl <;> intro z <;> cases z
   have gr:GoodR ⟨so,nn,dotted ys,ww,[⟨1,.nms false ys⟩,⟨-1,.nms false [ww]⟩]⟩:=⟨h5,g4.hn,g4.h0,⟨ys,gy,rfl⟩,hww,gts,fun _=>nc⟩
   have l10:([⟨1,.nms false ys⟩,⟨-1,.nms false [ww]⟩]:List Trm).length<=10:=by show 2<=10;decide
   have q3:∀ a l H',az H3 H'->H3 a=none->H3 l=none->dU C H' a l ⟨so,nn,dotted ys,ww,[⟨1,.nms false ys⟩,⟨-1,.nms false [ww]⟩]⟩->Q (.ref a) H':=fun a l H' s ha hl ra=>q a l H' _ gr rfl rfl (fun _=>⟨rfl,rfl⟩) (s03.trans s) (s03.free ha) (s03.free hl) ra
   clear q gr
   rcases six h5 with rfl|rfl|rfl|rfl|rfl|rfl
   ·exact⟨_,rfl,rfl,_,rfl,bI (sF 0 2) ⟨_,rfl,rfl,_,rfl,bI (sF 0 3) ⟨_,rfl,rfl,_,rfl,bI (sF 0 4) ⟨_,rfl,rfl,_,rfl,eO (sT 0) ⟨_,rfl,_,rfl,fun x dx hx hdx hne=>⟨x,dx,⟨0,nn,dotted ys,ww,_⟩,l2,rfl,rfl,ao,hts3.same (bB hx hdx),l10,fun l H' hl sb ra=>⟨rfl,q3 x l H' (fun b o e=>sb b o (bB hx hdx b o e) (aF e hx)) hx ((bB hx hdx).free hl) ra⟩⟩⟩⟩⟩⟩⟩
   ·exact⟨_,rfl,rfl,_,rfl,bI (sF 1 2) ⟨_,rfl,rfl,_,rfl,bI (sF 1 3) ⟨_,rfl,rfl,_,rfl,bI (sF 1 4) ⟨_,rfl,rfl,_,rfl,bI (sF 1 0) ⟨_,rfl,rfl,_,rfl,eO (sT 1) ⟨_,rfl,_,rfl,fun x dx hx hdx hne=>⟨x,dx,⟨1,nn,dotted ys,ww,_⟩,l2,rfl,rfl,ao,hts3.same (bB hx hdx),l10,fun l H' hl sb ra=>⟨rfl,q3 x l H' (fun b o e=>sb b o (bB hx hdx b o e) (aF e hx)) hx ((bB hx hdx).free hl) ra⟩⟩⟩⟩⟩⟩⟩⟩
   ·exact⟨_,rfl,rfl,_,rfl,eO (sT 2) ⟨_,rfl,_,rfl,fun x dx hx hdx hne=>⟨x,dx,⟨2,nn,dotted ys,ww,_⟩,rfl,rfl,ao,fun H' sb ra=>⟨rfl,q3 x x H' (fun b o e=>sb b o (bB hx hdx b o e) (aF e hx)) hx hx (ra x)⟩⟩⟩⟩
   ·exact⟨_,rfl,rfl,_,rfl,bI (sF 3 2) ⟨_,rfl,rfl,_,rfl,eO (sT 3) ⟨_,rfl,_,rfl,fun x dx hx hdx hne=>⟨x,dx,⟨3,nn,dotted ys,ww,_⟩,rfl,rfl,ao,fun H' sb ra=>⟨rfl,q3 x x H' (fun b o e=>sb b o (bB hx hdx b o e) (aF e hx)) hx hx (ra x)⟩⟩⟩⟩⟩
   ·exact⟨_,rfl,rfl,_,rfl,bI (sF 4 2) ⟨_,rfl,rfl,_,rfl,bI (sF 4 3) ⟨_,rfl,rfl,_,rfl,eO (sT 4) ⟨_,rfl,_,rfl,_,rfl,fun x dx hx hdx hne=>⟨x,dx,⟨4,nn,dotted ys,ww,_⟩,rfl,rfl,ao,fun H' sb ra=>⟨rfl,q3 x x H' (fun b o e=>sb b o (bB hx hdx b o e) (aF e hx)) hx hx (ra x)⟩⟩⟩⟩⟩⟩
   ·exact⟨_,rfl,rfl,_,rfl,bI (sF 5 2) ⟨_,rfl,rfl,_,rfl,bI (sF 5 3) ⟨_,rfl,rfl,_,rfl,bI (sF 5 4) ⟨_,rfl,rfl,_,rfl,bI (sF 5 0) ⟨_,rfl,rfl,_,rfl,bI (sF 5 1) ⟨_,rfl,fun x dx hx hdx hne=>⟨x,dx,⟨5,nn,dotted ys,ww,_⟩,l2,rfl,rfl,ao,hts3.same (bB hx hdx),l10,fun l H' hl sb ra=>⟨rfl,q3 x l H' (fun b o e=>sb b o (bB hx hdx b o e) (aF e hx)) hx ((bB hx hdx).free hl) ra⟩⟩⟩⟩⟩⟩⟩⟩
theorem xR(T:Tx K mg C)(F:Fun K "_law_parts" "_law_parts" jl f fd):aK P w K mg base CX0 4 f fd sZ (CK C):=by
 obtain⟨fba,dba,Aba⟩:=T.aba
 have Gba:aK P w K mg base CX0 3 fba dba Ck (Dq C):=Ad T Aba.F
 obtain⟨fak,dak,Aak,M_Part⟩:=T.i_Part
 have Gak:aK P w K mg base CX0 1 fak dak fH (Av C):=jd T Aak.F
 refine F.oq Kq fun _ _ _ _ H _ Q E hr h=>?_
 ·obtain⟨H0,R,la,as,L,rs,rfl,hla,g,hd,hok,q⟩:=h
  have hr2:aP 2 _:=hr.mono Z0
  have hr3:aP 3 _:=hr
  refine⟨_,QSs.h (aA (aL (bJ (N:=["_law_address", "_law_rows_here"]) [none,some 1] rfl Z5 (aR (pv 0)) (fun cl C fp s H=>(aG (i:=0) (by decide +kernel:(["_law_address", "_law_rows_here"]:List Str).Nodup) rfl (Or.inl rfl))) (fun cl C fp s H=>cJ) (fun cl C fp s H=>(jZ M_Part Aak.b Gak hr2 T.c_Part (ak (pv 0) (ak (bJ (N:=["_law_row_here"]) [none] rfl Z5 (zr (K:=K) rfl (gU (aP.u1 hr) (pv 1) (pv 0) (fun _ _=>rfl))) (fun cl C fp s H=>(aG (i:=0) (by decide +kernel:(["_law_row_here"]:List Str).Nodup) rfl (Or.inl rfl))) (fun cl C fp s H=>cJ) (fun cl C fp s H=>(aY Aba Gba hr3 (ak (pv 0) aq)))) aq))))))),?_⟩
  have h12:=g.hi
  have hml:((as.map dotted).map V.str).length=as.length:=by rw[length_map,length_map]
  refine⟨_,rfl,la,rfl,⟨_,SqL.of hla⟩,?_⟩
  refine gj (xs:=(as.map dotted).map V.str) (fun τ=>∃ u,τ=[u,some (.ref R)]) (fun i v H'=>∃ p:aX,as[i]? = some p.ad/\(xQ as p/\rK (rs i) p.rs)/\∃ a lr,v=V.ref a/\fJ C H' a (dotted p.ad) lr p.rs)
   (fun i v H' H'' ⟨p,e,ok,a,lr,ev,pa⟩ s=>⟨p,e,ok,a,lr,ev,pa.same s⟩) (le_trans (show _<=12 by omega) Z0) (SqL.of hla) ⟨_,rfl⟩ (fun i x τ H1 Q' hx s1 hS k=>?_) (fun ys H1 s1 hyl hys d hd=>?_)
  ·obtain⟨u,rfl⟩:=hS
   obtain⟨a,ha,rfl⟩:∃ a,as[i]? = some a/\x=V.str (dotted a):=by
    rw[getElem?_map,getElem?_map]at hx
    cases e:as[i]? with
    | none=>rw[e]at hx;cases hx
    | some a=>rw[e]at hx;cases hx;exact⟨a,rfl,rfl⟩
   have hi:=(List.getElem?_eq_some_iff.mp ha).1
   have ga:=g.ok a (mem_of_getElem? ha)
   have hd1:=hd.same s1
   obtain⟨xs,hx1,hxl,hxt⟩:=hd1.ts i hi
   have hr12:=hok.hi i hi
   refine⟨_,rfl,_,rfl,_,rfl,R,_,rfl,hd1.get hi ha (az.refl _),L i,rfl,⟨_,SqL.of hx1⟩,?_⟩
   refine gj (xs:=xs) (fun τ=>∃ u,τ=[u]) (fun m v H'=>∃ r:cu,vJ (rs i) m r/\∃ a l,v=V.ref a/\dU C H' a l r)
    (fun m v H' H'' ⟨r,ok,a,l,ev,ra⟩ s=>⟨r,ok,a,l,ev,ra.same s⟩) (le_trans (show _<=12 by omega) Z0) (SqL.of hx1) ⟨_,rfl⟩ (fun m x τ H2 Q2 hx s2 hS k2=>?_) (fun zs H2 s2 hzl hzs dz hdz=>?_)
   ·obtain⟨u2,rfl⟩:=hS
    have hm:m<(rs i).length:=by rw[<- hxl];exact(List.getElem?_eq_some_iff.mp hx).1
    have em:(rs i)[m]? = some (rs i)[m]:=getElem?_eq_getElem hm
    obtain⟨p,e2,tp⟩:=hxt m (rs i)[m] em
    obtain rfl:x=.ref p:=by rw[hx]at e2;exact Option.some.inj e2
    exact⟨_,rfl,p,_,_,_,_,rfl,s2 _ _ tp,hok.g4 i hi _ (getElem_mem hm),fun ra l H3 r gr e5 e6 e7 s3 _ _ rat=>k2 _ _ _ ⟨_,rfl⟩ s3 ⟨r,⟨_,em,gr,e5,e6,e7⟩,ra,l,rfl,rat⟩⟩
   obtain⟨rr,hrl,hrr⟩:=iw (fun m v r=>vJ (rs i) m r/\∃ a l,v=V.ref a/\dU C H2 a l r) zs 0 (fun m v e=>by rw[zero_add];exact hzs m v e)
   have hra:pI C (upd H2 dz (.lst zs)) dz rr:=⟨zs,ao,hrl.symm,fun m r e=>by
    have hm:m<zs.length:=by rw[<- hrl];exact(List.getElem?_eq_some_iff.mp e).1
    obtain⟨r2,e2,_,ra,l,e3,rat⟩:=hrr m _ (getElem?_eq_getElem hm)
    rw[e]at e2
    cases e2
    exact⟨ra,l,by rw[getElem?_eq_getElem hm,e3],rat.same (az.new hdz)⟩⟩
   have hrm:∀ (m:Nat) r,rr[m]? = some r->vJ (rs i) m r:=fun m r e=>by
    have hm:m<zs.length:=by rw[<- hrl];exact(List.getElem?_eq_some_iff.mp e).1
    obtain⟨r2,e2,ok,_⟩:=hrr m _ (getElem?_eq_getElem hm)
    rw[e]at e2
    cases e2
    rw[zero_add]at ok
    exact ok
   have hro:∀ r∈rr,∃ m,vJ (rs i) m r:=fun r hr=>by
    obtain⟨m,hm,e⟩:=getElem_of_mem hr
    exact⟨m,hrm m r (by rw[getElem?_eq_getElem hm,e])⟩
   have hgr:lQ rr:=⟨Z1,fun r hr=>by obtain⟨m,d,_,gr,_⟩:=hro r hr;exact gr⟩
   have s3:az H1 (upd H2 dz (.lst zs)):=s2.put hdz
   generalize upd H2 dz (.lst zs)=H3 at hra s3
   refine fun x dx hx hdx hne=>⟨x,dx,dotted a,dz,rr,rfl,ao,hra.same (bB hx hdx),hgr,fun l H4 hl sb pa=>⟨rfl,?_⟩⟩
   refine k _ _ H4 ⟨_,rfl⟩ (s3.trans fun b o e=>sb b o (bB hx hdx b o e) (aF e hx)) ⟨⟨a,rr⟩,ha,⟨⟨⟨ga,hgr⟩,fun r hr hn=>?_⟩,(show rr.length=(rs i).length by omega),fun m r e=>hrm m r e⟩,x,l,rfl,pa⟩
   obtain⟨m,d,ed,gr,e5,e6,_⟩:=hro r hr
   have g4:=hok.g4 i hi d (mem_of_getElem? ed)
   have h5:d.so<5:=by
    rcases lt_or_ge d.so 5 with z|z
    ·exact z
    ·exact absurd (e6.trans (g4.h0 (Nat.le_antisymm g4.h5 z))) hn
   have:=hok.cl i a ha d (mem_of_getElem? ed) h5
   rw[<- e6]at this
   exact this
  ·obtain⟨ps,hpl,hps⟩:=iw (fun i v p=>as[i]? = some p.ad/\(xQ as p/\rK (rs i) p.rs)/\∃ a lr,v=V.ref a/\fJ C H1 a (dotted p.ad) lr p.rs) ys 0 (fun i v e=>by rw[zero_add];exact hys i v e)
   have hpa:∀ (i:Nat) p,ps[i]? = some p->as[i]? = some p.ad/\(xQ as p/\rK (rs i) p.rs)/\∃ a lr,ys[i]? = some (V.ref a)/\fJ C H1 a (dotted p.ad) lr p.rs:=fun i p e=>by
    have hi:i<ys.length:=by rw[<- hpl];exact(List.getElem?_eq_some_iff.mp e).1
    obtain⟨p2,e2,e3,ok,a,lr,e4,pa⟩:=hps i _ (getElem?_eq_getElem hi)
    rw[e]at e2
    cases e2
    rw[zero_add]at e3 ok
    exact⟨e3,ok,a,lr,by rw[getElem?_eq_getElem hi,e4],pa⟩
   have hal:ps.length=as.length:=by omega
   have ead:adS ps=as.map dotted:=M5 hal fun i p e=>(hpa i p e).1
   exact q d H1 ys ps s1 hd ⟨hpl.symm,fun i p e=>(hpa i p e).2.2⟩ ead (GR g hal ead fun p hp=>by
    obtain⟨i,hi,e⟩:=getElem_of_mem hp
    obtain⟨h1,h2,_⟩:=hpa i p (by rw[getElem?_eq_getElem hi,e])
    exact⟨mem_of_getElem? h1,h2.1⟩) (fun i p e=>⟨(hpa i p e).1,(hpa i p e).2.1.2⟩)
theorem zF(T:Tx K mg C)(F:Fun K "_law_made" "_law_made" lE f fd):aK P w K mg base CX0 5 f fd yC (yQ K):=by
 obtain⟨fbc,dbc,Abc⟩:=T.abc
 have Gbc:aK P w K mg base CX0 2 fbc dbc tE Dj:=yz T Abc.F
 obtain⟨fa8,da8,Aa8⟩:=T.aa8
 have Ga8:aK P w K mg base CX0 2 fa8 da8 jk Gz:=rn T Aa8.F
 obtain⟨fad,dad,Aad⟩:=T.aad
 have Gad:aK P w K mg base CX0 1 fad dad uz (xP K):=Dn Aad.F T.len
 obtain⟨faa,daa,Aaa⟩:=T.aaa
 have Gaa:aK P w K mg base CX0 1 faa daa mz pB:=oG Aaa.F
 obtain⟨faz,daz,Aaz⟩:=T.aaz
 have Gaz:aK P w K mg base CX0 4 faz daz yh (Jr K):=yV T Aaz.F
 refine F.oq um fun _ _ _ _ H _ Q E hr h=>?_
 ·obtain⟨S,ns,rfl,hS,q⟩:=h
  have hr1:aP 1 _:=hr.mono Z0
  have hr2:aP 2 _:=hr.mono Z0
  have hr4:aP 4 _:=hr
  refine⟨_,QSs.h (au (aO (i:=1) um.nd rfl (Or.inl rfl) (aY Abc Gbc hr2 (ak (aY Aad Gad hr1 (ak (pv 0) (ak aB aq))) aq)))
   (au (aO (i:=2) um.nd rfl (Or.inl rfl) (aV d9 aB (aY Aaa Gaa hr1 (ak (aY Aad Gad hr1 (ak (pv 0) (ak aB aq))) (ak aB (ak aB aq))))))
   (au (bG (aH dI (aY Aaa Gaa hr1 (ak (aY Aad Gad hr1 (ak (pv 0) (ak aB aq))) (ak aB (ak aB aq)))) aB (aQ _)) (aA (aO (i:=2) um.nd rfl (Or.inl rfl) aB)) aU)
   (au (aO (i:=3) um.nd rfl (Or.inl rfl) (aY Aa8 Ga8 hr2 (ak (aY Aad Gad hr1 (ak (pv 0) (ak aB aq))) (ak (pv 2) (ak (pv 1) aq)))))
   (aA (aL (nT (ak (pv 1) (ak (pv 3) (ak (aY Aaz Gaz hr4 (ak (pv 0) (ak (pv 3) (ak (pv 1) aq)))) aq)))))))))),?_⟩
  refine⟨_,rfl,S,ns,2,rfl,hS,Z0,fun H1 s1=>⟨_,rfl,fun lw H2 ws hlw0 s2 hw8 hwn hlw=>?_⟩⟩
  have s02:=s1.trans s2
  refine⟨_,rfl,S,ns,0,rfl,s02.seq hS,Z0,fun H3 s3=>⟨_,0,6,rfl,Z0,Z0,Z0,fun H4 s4=>⟨_,_,rfl,rfl,?_⟩⟩⟩
  have k1:=jD (qt ns 0) 0 (m:=6) Z0
  have k2:=km (qt ns 0) 0 (m:=6) Z0
  generalize pick (qt ns 0) 0 6=mn at k1 k2
  have s24:=s3.trans s4
  refine⟨_,rfl,S,ns,0,rfl,(s02.trans s24).seq hS,Z0,fun H5 s5=>⟨_,1,8,rfl,Z0,Z0,Z0,fun H6 s6=>⟨rfl,_,rfl,fZ (fun _=>?_) (fun _=>?_)⟩⟩⟩
  all_goals
   have s26:=s24.trans (s5.trans s6)
   refine⟨_,rfl,S,ns,1,rfl,(s02.trans s26).seq hS,Z0,fun H7 s7=>⟨_,rfl,_,rfl,_,_,lw,ws,rfl,Z1,Z1,(s26.trans s7) _ _ hlw,hw8,hwn,fun la H8 as _ s8 hne g hla=>?_⟩⟩
   have s28:=s26.trans (s7.trans s8)
   refine⟨_,rfl,_,rfl,_,rfl,_,rfl,_,rfl,S,la,lw,ns,as,ws,rfl,(s02.trans s28).seq hS,hla,hne,g,s28 _ _ hlw,hw8,hwn,fun R H9 L rs s9 hd hok=>⟨by show 3<=sizeLine;decide,fun p hp=>?_⟩⟩
   exact q p lw la R ws as L rs H8 _ ao (((s02.trans s28).trans s9).put hp) ((s9.put hp) _ _ (s28 _ _ hlw)) hw8 hwn ((s9.put hp) _ _ hla) hne g (hd.same (az.new hp)) hok
theorem sy(T:Tx K mg C)(F:Fun K "_law_prefixes" "_law_prefixes" fY f fd):aK P w K mg base CX0 1 f fd my tX:=by
 refine F.oq tZ fun _ _ _ _ H _ Q E hr h=>?_
 ·obtain⟨ys,rfl,g,q⟩:=h
  refine⟨_,QSs.h (au (aO (i:=1) tZ.nd rfl (Or.inr rfl) (fW plainAttrs_str slot_str_split type_str_split qz (pv 0) (ak aM aq)))
   (aA (aL (bJ (N:=["_law_k", "_law_names"]) [none,some 1] rfl Z5 (iR Z3 T.range (ak (bc aW Z3 T.len boot_len (ak (pv 1) aq)) aq)) (fun cl C fp s H=>(aG (i:=0) (by decide +kernel:(["_law_k", "_law_names"]:List Str).Nodup) rfl (Or.inl rfl))) (fun cl C fp s H=>cJ) (fun cl C fp s H=>(xU (K:=K) rfl plainAttrs_str slot_str_join type_str_join (uK rfl) aM (ak (ir (uw (K:=K) rfl) (pv 1) kj (iD (aV d9 (pv 0) aB))) aq))))))),?_⟩
  have h36:=g.len
  have h3:=g.hi
  refine⟨_,rfl,rfl,_,_,rfl,rfl,Z4,le_trans (show(dotted ys).length+2<=1000 by omega) bO,fun p hp=>?_⟩
  rw[cj ys g.lo g.nm]
  refine⟨_,rfl,p,_,rfl,.inl (SqL.of ao),_,rfl,Z1,by rw[length_map];omega,?_⟩
  rw[length_map,toNat_natCast]
  refine uH (fun i=>V.str (dotted (ys.take (i+1)))) (le_trans (show ys.length<=3 by omega) Z0) (fun i H' Q' hi sm k'=>?_) (fun τ H Q Q' hh h=>hh _ _ h) (fun H' sm p2 hp2=>?_)
  ·refine⟨rfl,rfl,_,rfl,_,rfl,_,_,rfl,rfl,_,rfl,p,_,rfl,SqL.of (sm _ _ ao),fun p3 hp3=>?_⟩
   have e:(0+(i:Int)+1)=((i+1:Nat):Int):=by omega
   have hs:((ys.take (i+1)).map (·.length)).sum<=(ys.take (i+1)).length*8:=xZ fun y hy=>(g.nm y (mem_of_mem_take hy)).hi
   have ht:(ys.take (i+1)).length<=3:=le_trans (length_take_le' _ _) h3
   refine⟨_,p3,ys.take (i+1),rfl,rfl,.inl (SqL.of ?_),?_,k' _ (az.new hp3)⟩
   ·rw[ao,e,mW _ Z1];rfl
   ·rw[show(("." : Str)).length=1 from by decide +kernel];omega
  ·have h0:H p2=none:=(az.new hp).free (sm.free hp2)
   refine q p2 _ h0 (((az.new hp).trans sm).put hp2) ?_
   rw[ao]
   unfold il
   rw[map_map]
   rfl
theorem vo(T:Tx K mg C)(F:Fun K "_law_walked" "_law_walked" iM f fd):aK P w K mg base CX0 8 f fd ql (uq C):=by
 obtain⟨fab,dab,Aab⟩:=T.aab
 have Gab:aK P w K mg base (CX1 P w) 5 fab dab ie (nW C):=mL T Aab.F
 refine F.oq zy fun _ _ _ _ H _ Q E hr h=>?_
 ·obtain⟨h0,l,f,ps,one,other,w,zs,rfl,hh,g,hz1,hz2,h1z,hl,wk,q⟩:=h
  have hr5:aP 5 _:=hr.mono Z0
  refine⟨_,QSs.h (au (bG (PW.pt (vH (aH Mt (pv 1) Aw (aQ _)) (vH (aH wF (bL bu (pv 1) aB) (pv 2) (aQ _)) (vH (aH wF (bL bu (pv 1) (qM kO aB)) (pv 3) (aQ _)) (xq (aH za (bc aW Z3 T.len boot_len (ak (pv 1) aq)) aB (aQ _))))))) (aA (aL eN)) aU)
   (au (bY PassesOwn.never rfl (rG Z3 T.range (ak aB (ak (bc aW Z3 T.len boot_len (ak (pv 1) aq)) aq))) (aG (i:=4) zy.nd rfl (Or.inl rfl))
   (aA (bG (aH fU (bL bu (pv 1) (pv 4)) (dJ Aab Gab hr5 dH (ak (pv 0) (ak (bL bu (pv 1) (aV Gg (pv 4) aB)) aq))) Z3) (aA (aL eN)) aU)))
   (aA (aL eN)))),?_⟩
  have gr:=o6 g hz1
  have hlo:=wk.lo
  have hhi:=wk.hi
  have ml:(w.map V.str).length=w.length:=length_map _
  have hfl:∀ zs:List Str,(zs.map V.str).all dm=true:=dO
  have wat:∀ (k:Nat) x,w[k]? = some x->atI (w.map V.str) (k:Int)=some (V.str x):=fun k x e=>bK (by rw[getElem?_map,e];rfl)
  have e0:atI (w.map V.str) 0=some (V.str one):=wat 0 one wk.fst
  have eL:atI (w.map V.str) (-1)=some (V.str other):=by
   have hne:w≠[]:=fun z=>by rw[z]at hlo;exact absurd hlo Z0
   have hs:w=w.dropLast++[w.getLast hne]:=(dropLast_concat_getLast hne).symm
   have e:=wk.lst
   have e2:w.getLast hne=other:=by
    rw[getElem?_eq_getElem Z1]at e
    rw[List.getLast_eq_getElem]
    exact Option.some.inj e
   rw[hs,e2]
   exact jr
  refine⟨_,rfl,rfl,_,rfl,oO ⟨_,rfl,f,_,_,_,rfl,rfl,SqL.of hl,e0,_,rfl,rfl,_,rfl,Ln rfl ⟨_,rfl,_,rfl,f,_,_,_,rfl,rfl,SqL.of hl,eL,_,rfl,rfl,_,rfl,Ln rfl ⟨_,rfl,f,_,rfl,.inl (SqL.of hl),_,_,rfl,rfl,_,rfl,bI (decide_eq_false (by rw[ml];omega)) ?_⟩⟩⟩⟩
  refine⟨_,rfl,f,_,rfl,.inl (SqL.of hl),_,_,rfl,⟨Z0,Z0,Z1,by rw[ml];omega⟩,?_⟩
  refine oE (fun i σ H'=>∃ v5,σ=[some (.ref h0),some (.ref f),some (.str one),some (.str other),v5]/\az H H') ⟨none,rfl,az.refl _⟩ ?_ ?_
  ·rintro i σ H1 hi ⟨v5,rfl,s1⟩
   have hi1:i+1<w.length:=by rw[ml]at hi;omega
   have ek:w[i+1]? = some w[i+1]:=getElem?_eq_getElem hi1
   have ej:w[i]? = some w[i]:=getElem?_eq_getElem Z1
   generalize w[i+1]=y at ek
   generalize w[i]=x at ej
   have hst:=wk.st i _ _ ej ek
   have hxa:x∈adS ps:=hz1.mem_iff.mp (wk.mem gr h1z i x ej)
   have hl1:=s1 _ _ hl
   have ax:atI (w.map V.str) (1+(i:Int))=some (V.str y):=by rw[show(1+(i:Int))=((i+1:Nat):Int)by omega];exact wat _ _ ek
   have aj:atI (w.map V.str) (1+(i:Int) - 1)=some (V.str x):=by rw[show 1+(i:Int) - 1=(i:Int)by omega];exact wat _ _ ej
   refine⟨_,rfl,_,rfl,f,_,_,_,rfl,rfl,SqL.of hl1,ax,_,rfl,_,rfl,_,rfl,_,_,rfl,rfl,f,_,_,_,rfl,rfl,SqL.of hl1,aj,h0,l,ps,x,rfl,hh.same s1,g,gA g hxa,fun j p ep ez b H2 ys hb s2 hy1 hy2 hb2=>?_,fun hno=>absurd hxa hno⟩
   obtain rfl:ys=zs:=bH (hy1.trans hz1.symm) hy2 hz2
   rw[kh g ep,ez]at hb2
   refine⟨b,_,rfl,.inl (SqL.of hb2),rfl,hfl _,_,rfl,bI (by rw[jL,decide_eq_true hst];rfl) ?_⟩
   exact⟨_,rfl,s1.trans s2⟩
  ·rintro σ H1 ⟨v5,rfl,s1⟩
   exact q H1 s1
theorem vB(T:Tx K mg C)(F:Fun K "_law_within" "_law_within" iG f fd):aK P w K mg base CX0 9 f fd qI (ue C):=by
 obtain⟨fae,dae,Aae⟩:=T.aae
 have Gae:aK P w K mg base (CX1 P w) 7 fae dae nR (wQ C):=zR T Aae.F
 obtain⟨fab,dab,Aab⟩:=T.aab
 have Gab:aK P w K mg base (CX1 P w) 5 fab dab ie (nW C):=mL T Aab.F
 obtain⟨fa4,da4,Aa4⟩:=T.aa4
 have Ga4:aK P w K mg base CX0 8 fa4 da4 ql (uq C):=vo T Aa4.F
 obtain⟨fag,dag,Aag⟩:=T.aag
 have Gag:aK P w K mg base (CX1 P w) 7 fag dag dW (GD C):=nC T Aag.F
 refine F.oq uB fun _ _ _ _ H _ Q E hr h=>?_
 ·obtain⟨h0,l,f,ps,k,zs,rfl,hh,g,hz1,hz2,hl,hin,h1,h2,q⟩:=h
  have hr5:aP 5 _:=hr.mono Z0
  have hr7:aP 7 _:=hr.mono Z0
  have hr8:aP 8 _:=hr
  refine⟨_,QSs.h (au (bG (aH dI (bc aW Z3 T.len boot_len (ak (pv 1) aq)) aB (aQ _)) (aA (aL (iI dI (iI ou (bL bu (pv 1) aB) (dJ Aae Gae hr7 dH (ak (pv 0) (ak (bL bu (pv 1) aB) aq))) Z3) (iI ou (bL bu (pv 1) aB) (dJ Aab Gab hr5 dH (ak (pv 0) (ak (bL bu (pv 1) aB) aq))) Z3) (aQ _)))) aU)
   (au (bY PassesOwn.never rfl (aR (pv 1)) (aG (i:=2) uB.nd rfl (Or.inl rfl))
   (aA (bY PassesOwn.never rfl (aR (pv 1)) (aG (i:=3) uB.nd rfl (Or.inl rfl))
   (aA (bG (t7 (kE (aY Aa4 Ga4 hr8 (ak (pv 0) (ak (dJ Aag Gag hr7 dH (ak (pv 0) (ak (pv 2) (ak (pv 3) aq)))) (ak (pv 2) (ak (pv 3) aq))))))) (aA (aL eN)) aU)))))
   (aA (aL eN)))),?_⟩
  have gr:=o6 g hz1
  have ml:(k.map V.str).length=k.length:=length_map _
  have hfl:∀ zs:List Str,(zs.map V.str).all dm=true:=dO
  refine⟨_,rfl,f,_,rfl,.inl (SqL.of hl),rfl,_,rfl,fZ (fun hk=>?_) (fun hk=>?_)⟩
  ·have hk1:k.length=1:=by rw[ml]at hk;injection hk with hk;omega
   obtain⟨z,rfl⟩:∃ z,k=[z]:=List.length_eq_one_iff.mp hk1
   have hza:z∈adS ps:=hz1.mem_iff.mp (hin z Z2)
   have e0:atI ([z].map V.str) 0=some (V.str z):=bK (j:=0) rfl
   refine⟨_,rfl,f,_,_,_,rfl,rfl,SqL.of hl,e0,_,rfl,_,rfl,f,_,_,_,rfl,rfl,SqL.of hl,e0,h0,l,ps,z,rfl,hh,g,gA g hza,fun _ bf H3 zs' ys hy1 hy2 hbf s3 hnd hso hmem hf=>?_,fun hno=>absurd hza hno⟩
   obtain rfl:zs'=zs:=bH (hy1.trans hz1.symm) hy2 hz2
   refine⟨bf,_,rfl,.inl (SqL.of hf),rfl,hfl _,?_⟩
   have hl3:=s3 _ _ hl
   refine⟨_,rfl,f,_,_,_,rfl,rfl,SqL.of hl3,e0,_,rfl,_,rfl,f,_,_,_,rfl,rfl,SqL.of hl3,e0,h0,l,ps,z,rfl,hh.same s3,g,gA g hza,fun j p ep ez b H2 ys2 hb s2 hx1 hx2 hb2=>?_,fun hno=>absurd hza hno⟩
   obtain rfl:ys2=zs':=bH (hx1.trans hz1.symm) hx2 hz2
   rw[kh g ep,ez]at hb2
   refine⟨b,_,rfl,.inl (SqL.of hb2),rfl,hfl _,rfl,?_⟩
   have e:inV (.str z) (ys.map V.str)=inV (.str z) ((bQ ps ys2 z).map V.str):=by
    rw[jL,jL]
    exact decide_eq_decide.mpr ((hmem z).trans (h1 z rfl))
   rw[e,decide_eq_true rfl]
   exact q _ (s3.trans s2)
  ·have hr:=h2 fun e=>hk (by rw[ml,e];rfl)
   refine⟨_,rfl,f,rfl,⟨_,SqL.of hl⟩,?_⟩
   refine bU (xs:=k.map V.str) (fun i σ H'=>∃ v2 v3,σ=[some (.ref h0),some (.ref f),v2,v3]/\az H H') ⟨none,none,rfl,az.refl _⟩ ?_ ?_ ?_
   ·rintro i σ H' _ ⟨v2,v3,rfl,sm⟩
    exact SqL.of (sm _ _ hl)
   ·rintro i v σ H1 hv ⟨v2,v3,rfl,sm⟩
    obtain⟨a,ha,rfl⟩:=mem_map.mp (mem_of_getElem? hv)
    refine⟨_,rfl,f,rfl,⟨_,SqL.of (sm _ _ hl)⟩,?_⟩
    refine bU (xs:=k.map V.str) (fun i σ H'=>∃ v3,σ=[some (.ref h0),some (.ref f),some (.str a),v3]/\az H H') ⟨_,rfl,sm⟩ ?_ ?_ ?_
    ·rintro i σ H' _ ⟨v3,rfl,sm⟩
     exact SqL.of (sm _ _ hl)
    ·rintro i v σ H2 hv ⟨v3,rfl,sm⟩
     obtain⟨b,hb,rfl⟩:=mem_map.mp (mem_of_getElem? hv)
     have haa:=hz1.mem_iff.mp (hin a ha)
     have hba:=hz1.mem_iff.mp (hin b hb)
     refine⟨_,rfl,_,rfl,_,rfl,_,rfl,h0,l,ps,a,b,rfl,hh.same sm,g,gA g haa,gA g hba,fun _ _ H7 ys hy1 hy2 s7=>⟨fun hnr=>?_,fun lt w hlt wk hlt7=>?_⟩,fun hno=>absurd haa hno,fun _ hno=>absurd hba hno⟩
     ·obtain rfl:ys=zs:=bH (hy1.trans hz1.symm) hy2 hz2
      exact absurd (hr a ha b hb) hnr
     ·obtain rfl:ys=zs:=bH (hy1.trans hz1.symm) hy2 hz2
      refine⟨_,rfl,_,rfl,h0,l,lt,ps,a,b,w,ys,rfl,hh.same (sm.trans s7),g,hz1,hz2,hin a ha,hlt7,wk,fun H8 s8=>⟨_,rfl,oO ?_⟩⟩
      exact⟨_,rfl,sm.trans (s7.trans s8)⟩
    ·rintro σ H2 ⟨v3,rfl,sm⟩
     exact⟨_,_,rfl,sm⟩
   ·rintro σ H1 ⟨v2,v3,rfl,sm⟩
    exact q H1 sm
theorem oU (T:Tx K mg C) (F:Fun K "_law_put_together" "_law_put_together" cM f fd):aK P w K mg base CX0 9 f fd gK (Ci C):=by
 obtain ⟨fab,dab,Aab⟩:=T.aab
 have Gab:aK P w K mg base (CX1 P w) 5 fab dab ie (nW C):=mL T Aab.F
 obtain ⟨fae,dae,Aae⟩:=T.aae
 have Gae:aK P w K mg base (CX1 P w) 7 fae dae nR (wQ C):=zR T Aae.F
 refine F.oq dM fun _ _ _ _ H _ Q E hr h=>?_
 ·obtain ⟨h0,l,la,ps,as,rfl,hh,g,hla,hin,q⟩:=h
  have hr5:aP 5 _:=hr.mono Z0
  have hr7:aP 7 _:=hr.mono Z0
  refine ⟨_,QSs.h (au (bY PassesOwn.never rfl (aR (pv 1)) (aG (i:=2) dM.nd rfl (Or.inl rfl))
   (au (aO (i:=3) dM.nd rfl (Or.inl rfl) (dJ Aab Gab hr5 dH (ak (pv 0) (ak (pv 2) aq))))
   (au (bY PassesOwn.never rfl (aR (dJ Aab Gab hr5 dH (ak (pv 0) (ak (pv 2) aq)))) (aG (i:=4) dM.nd rfl (Or.inl rfl))
   (aA (aO (i:=3) dM.nd rfl (Or.inl rfl) (aV lN (pv 3) (dJ Aae Gae hr7 dH (ak (pv 0) (ak (pv 4) aq)))))))
   (aA (bG (aH (wL (K:=K) rfl hr.units) (dJ Aae Gae hr7 dH (ak (pv 0) (ak (pv 2) aq))) (bc (uc rfl) Z3 T.sorted boot_sorted (ak (eQ (Ft rfl) Z3 T.set PyProof.Rows.boot_set (ak (pv 3) aq)) aq)) (aQ _)) (aA (aL eN)) aU)))))
   (aA (aL eN))),?_⟩
  refine ⟨_,rfl,la,rfl,⟨_,SqL.of hla⟩,?_⟩
  refine bU (xs:=as.map V.str) (fun i σ H'=>∃ v2 v3 v4,σ = [some (.ref h0),some (.ref la),v2,v3,v4] /\ az H H') ⟨none,none,none,rfl,az.refl _⟩ ?_ ?_ ?_
  ·rintro i σ H' _ ⟨v2,v3,v4,rfl,sm⟩
   exact SqL.of (sm _ _ hla)
  ·rintro i v σ H1 hv ⟨v2,v3,v4,rfl,sm⟩
   obtain ⟨a,ha,rfl⟩:=mem_map.mp (mem_of_getElem? hv)
   have haa:=hin a ha
   refine ⟨_,rfl,_,rfl,h0,l,ps,a,rfl,hh.same sm,g,gA g haa,fun j p ep ez b H2 zs hb s2 hz1 hz2 hb2=>?_,fun hno=>absurd haa hno⟩
   rw [kh g ep,ez] at hb2
   have gr:=o6 g hz1
   have haz:=hz1.mem_iff.mpr haa
   have sm2:=sm.trans s2
   refine ⟨_,rfl,_,rfl,h0,l,ps,a,rfl,hh.same sm2,g,gA g haa,fun j p ep ez c H3 ys hc s3 hy1 hy2 hc3=>?_,fun hno=>absurd haa hno⟩
   obtain rfl:ys = zs:=bH (hy1.trans hz1.symm) hy2 hz2
   rw [kh g ep,ez] at hc3
   refine ⟨c,rfl,⟨_,SqL.of hc3⟩,?_⟩
   have hb3:=s3 _ _ hb2
   have sm3:=sm2.trans s3
   refine bU (xs:=(bQ ps ys a).map V.str) (fun i σ H'=>∃ (e:Addr) (v4:Option V) (ds:List Str),σ = [some (.ref h0),some (.ref la),some (.str a),some (.ref e),v4] /\ az H3 H' /\ H' e = some (.lst (ds.map V.str)) /\ ds.length <= 12 + 12 * i /\ (∀ y,y ∈ ds ↔ y ∈ bQ ps ys a \/ ∃ x ∈ (bQ ps ys a).take i,Rch (bQ ps ys) x y)) ⟨b,_,bQ ps ys a,rfl,az.refl _,hb3,gr.len haz,fun y=>⟨.inl,fun h=>h.elim id fun ⟨x,hx,_⟩=>by cases hx⟩⟩ ?_ ?_ ?_
   ·rintro i σ H' _ ⟨e,v4,ds,rfl,s4,_⟩
    exact SqL.of (s4 _ _ hc3)
   ·rintro i v σ H4 hv ⟨e,v4,ds,rfl,s4,he,hdl,hds⟩
    obtain ⟨x,ex,rfl⟩:∃ x,(bQ ps ys a)[i]? = some x /\ v = V.str x:=by
     rw [getElem?_map] at hv
     cases e:(bQ ps ys a)[i]? with
     | none=>rw [e] at hv; cases hv
     | some x=>rw [e] at hv; cases hv; exact ⟨x,rfl,rfl⟩
    have hxz:=gr.cl a haz x (mem_of_getElem? ex)
    have hxa:=hz1.mem_iff.mp hxz
    have hi12:i < 12:=by
     have h1:=(List.getElem?_eq_some_iff.mp ex).1
     have h2:=gr.len haz
     omega
    refine ⟨_,rfl,_,rfl,_,rfl,h0,l,ps,x,rfl,hh.same (sm3.trans s4),g,gA g hxa,fun _ bf H5 zs' us hu1 hu2 hbf s5 hnd hso hmem hf=>?_,fun hno=>absurd hxa hno⟩
    obtain rfl:zs' = ys:=bH (hu1.trans hz1.symm) hu2 hz2
    have hul:us.length <= 12:=le_trans (jE hnd fun y hy=>((hmem y).mp hy).mem gr hxz) gr.hi
    refine ⟨e,bf,_,_,rfl,rfl,s5 _ _ he,hf,le_trans (show _ <= 1000 by rw [length_map,length_map]; omega) bO,fun o ho=>?_⟩
    rw [<- map_append]
    refine ⟨o,_,ds ++ us,rfl,(s4.trans s5).put ho,ao,by rw [length_append]; omega,fun y=>?_⟩
    rw [mem_append,hds y,hmem y,take_succ,ex,or_assoc]
    refine or_congr Iff.rfl ⟨fun h=>?_,fun ⟨u,hu,hr⟩=>?_⟩
    ·rcases h with ⟨u,hu,hr⟩ | h
     ·exact ⟨u,mem_append_left _ hu,hr⟩
     ·exact ⟨x,Z2,h⟩
    ·rcases mem_append.mp hu with hu | hu
     ·exact .inl ⟨u,hu,hr⟩
     ·have hu:u = x:=by simpa using hu
      exact .inr (hu ▸ hr)
   ·rintro σ H4 ⟨e,v4,ds,rfl,s4,he,hdl,hds⟩
    rw [length_map,take_length] at hds
    rw [length_map] at hdl
    have hn12:=gr.len haz
    have sm4:=sm3.trans s4
    refine ⟨_,rfl,_,rfl,h0,l,ps,a,rfl,hh.same sm4,g,gA g haa,fun _ bf H5 zs' us hu1 hu2 hbf s5 hnd hso hmem hf=>?_,fun hno=>absurd haa hno⟩
    obtain rfl:zs' = ys:=bH (hu1.trans hz1.symm) hu2 hz2
    have hul:us.length <= 12:=le_trans (jE hnd fun y hy=>((hmem y).mp hy).mem gr haz) gr.hi
    refine ⟨_,rfl,e,ds,rfl,SqL.of (s5 _ _ he),Z1,fun r ys2 hn2 hm2 hr=>?_⟩
    have eq:∀ y,y ∈ us ↔ y ∈ ys2:=fun y=>by
     rw [hmem y,hm2 y,hds y,Rch.step]
     constructor
     ·rintro ⟨x,hx,rfl | h⟩
      ·exact .inl hx
      ·exact .inr ⟨x,hx,h⟩
     ·rintro (h | ⟨x,hx,h⟩)
      ·exact ⟨y,h,.inl rfl⟩
      ·exact ⟨x,hx,.inr h⟩
    have hpm:us.Perm ys2:=(List.perm_ext_iff_of_nodup hnd hn2).mpr eq
    refine ⟨r,ys2,rfl,ao,by rw [<- hpm.length_eq]; omega,fun c2 ys3 h3 h4 hc2=>?_⟩
    obtain rfl:us = ys3:=bH (hpm.trans h3.symm) hso h4
    refine ⟨bf,c2,rfl,rfl,uJ ((az.new hc2) _ _ ((az.new hr) _ _ hf)) ao (oJ us),_,rfl,oO ?_⟩
    exact ⟨_,_,_,rfl,((sm4.trans s5).put hr).put hc2⟩
  ·rintro σ H1 ⟨v2,v3,v4,rfl,sm⟩
   exact q H1 sm
theorem Nb(T:Tx K mg C)(F:Fun K "law" "law" Ik f fd):aK P w K mg base CX0 12 f fd K9 (Dv K):=by
 obtain⟨fa5,da5,Aa5⟩:=T.aa5
 have Ga5:aK P w K mg base CX0 5 fa5 da5 yC (yQ K):=zF T Aa5.F
 obtain⟨faq,daq,Aaq⟩:=T.aaq
 have Gaq:aK P w K mg base CX0 7 faq daq qi (BZ C):=Hf T Aaq.F
 obtain⟨fa0,da0,Aa0⟩:=T.aa0
 have Ga0:aK P w K mg base CX0 4 fa0 da0 sZ (CK C):=xR T Aa0.F
 obtain⟨fas,das,Aas⟩:=T.aas
 have Gas:aK P w K mg base CX0 9 fas das gK (Ci C):=oU T Aas.F
 obtain⟨fab,dab,Aab⟩:=T.aab
 have Gab:aK P w K mg base (CX1 P w) 5 fab dab ie (nW C):=mL T Aab.F
 obtain⟨fa9,da9,Aa9⟩:=T.aa9
 have Ga9:aK P w K mg base CX0 1 fa9 da9 my tX:=sy T Aa9.F
 obtain⟨fa7,da7,Aa7⟩:=T.aa7
 have Ga7:aK P w K mg base CX0 9 fa7 da7 qI (ue C):=vB T Aa7.F
 obtain⟨fag,dag,Aag⟩:=T.aag
 have Gag:aK P w K mg base (CX1 P w) 7 fag dag dW (GD C):=nC T Aag.F
 obtain⟨fa6,da6,Aa6,M_hwith_part⟩:=T.m_House_with_part
 have Ga6:aK P w K mg base CX0 9 fa6 da6 cW (zA C):=nQ T Aa6.F
 obtain⟨fan,dan,Aan,M_Draw⟩:=T.i_Draw
 have Gan:aK P w K mg base CX0 1 fan dan fO (uo C 2):=iY T Aan.F
 obtain⟨faj,daj,Aaj,M_House⟩:=T.i_House
 have Gaj:aK P w K mg base CX0 7 faj daj dR (Bm C):=iz T Aaj.F
 obtain⟨fak,dak,Aak,M_Part⟩:=T.i_Part
 have Gak:aK P w K mg base CX0 1 fak dak fH (Av C):=jd T Aak.F
 refine F.oq eG fun _ _ _ _ H _ Q E hr h=>?_
 ·obtain⟨S,ns,rfl,hS,hlen,q⟩:=h
  have hr1:aP 1 _:=hr.mono Z0
  have hr2:aP 2 _:=hr.mono Z0
  have hr4:aP 4 _:=hr.mono Z0
  have hr5:aP 5 _:=hr.mono Z0
  have hr7:aP 7 _:=hr.mono Z0
  have hr8:aP 8 _:=hr.mono Z0
  have hr9:aP 9 _:=hr.mono Z0
  refine⟨_,QSs.h (au (GC (aY Aa5 Ga5 hr5 (ak (pv 0) aq)) (xj (K:=K) (n:=3) rfl rfl (eY (aG (i:=1) eG.nd rfl (Or.inl rfl)) (eY (aG (i:=2) eG.nd rfl (Or.inr rfl)) (eY (aG (i:=3) eG.nd rfl (Or.inl rfl)) yf)))))
   (au (aO (i:=4) eG.nd rfl (Or.inr rfl) (jZ M_House Aaj.b Gaj hr8 T.c_House (ak (aY Aa0 Ga0 hr4 (ak (pv 2) (ak (pv 3) aq))) aq)))
   (au (aO (i:=5) eG.nd rfl (Or.inl rfl) (aY Aaq Gaq hr7 (ak (pv 4) aq)))
   (au (aO (i:=6) eG.nd rfl (Or.inl rfl) (bF aq))
   (au (bY PassesOwn.never rfl (aR (pv 5)) (aG (i:=7) eG.nd rfl (Or.inl rfl))
   (aA (aO (i:=6) eG.nd rfl (Or.inl rfl) (aV lN (pv 6) (pv 7)))))
   (au (bG (aH (wL (K:=K) rfl hr.units) (bc lC Z3 T.sorted boot_sorted (ak (pv 6) aq)) (bc lC Z3 T.sorted boot_sorted (ak (pv 2) aq)) (aQ _)) (aA (aL eN)) aU)
   (au (bY PassesOwn.never rfl (iR Z3 T.range (ak (bc aW Z3 T.len boot_len (ak (pv 5) aq)) aq)) (aG (i:=8) eG.nd rfl (Or.inl rfl))
   (au (bG (t7 (kE (aY Aa7 Ga7 hr9 (ak (pv 4) (ak (bL bu (pv 5) (pv 8)) aq))))) (aA (aL eN)) aU)
   (aA (bY PassesOwn.never rfl (aR (ir oh (pv 5) (iD (aV d9 (pv 8) aB)) kj)) (aG (i:=9) eG.nd rfl (Or.inl rfl))
   (aA (bY PassesOwn.never rfl (aR (bL bu (pv 5) (pv 8))) (aG (i:=10) eG.nd rfl (Or.inr rfl))
   (aA (bG (aH (Ib (K:=K) rfl hr.units) (bJ (N:=["_law_other", "_law_house", "_law_one"]) [none,some 4,some 10] rfl Z5 (aR (pv 9)) (fun cl C fp s H=>(aG (i:=0) (by decide +kernel:(["_law_other", "_law_house", "_law_one"]:List Str).Nodup) rfl (Or.inl rfl))) (fun cl C fp s H=>(d8 (aH Jy (dJ Aag Gag hr7 dH (ak (pv 1) (ak (pv 2) (ak (pv 0) aq)))) Aw (aQ _)))) (fun cl C fp s H=>(pv 0))) (bF aq) (aQ _)) (aA (aL eN)) aU))))))))
   (au (bG (t7 (kE (aY Aas Gas hr9 (ak (pv 4) (ak (pv 2) aq))))) (aA (aL eN)) aU)
   (au (aO (i:=11) eG.nd rfl (Or.inr rfl) (bF aq))
   (au (Ke (bY PassesOwn.never rfl (J5 (BJ PySem.F.plainAttrs_dict PySem.F.slot_dict_values PySem.F.type_dict_values Eb (pv 3))) (aG (i:=12) eG.nd rfl (Or.inl rfl))
   (aA (aO (i:=11) eG.nd rfl (Or.inr rfl) (aV lN (pv 11) (bJ (N:=["_law_row_here"]) [none] rfl Z5 (aR (pv 12)) (fun cl C fp s H=>(aG (i:=0) (by decide +kernel:(["_law_row_here"]:List Str).Nodup) rfl (Or.inl rfl))) (fun cl C fp s H=>cJ) (fun cl C fp s H=>(aV bA (aV bA (aV bA (aV bA aM (bL (ym (K:=K) rfl) (pv 0) aB)) aM) (bL (ym (K:=K) rfl) (pv 0) aB)) aM))))))))
   (au (aO (i:=13) eG.nd rfl (Or.inr rfl) (bJ (N:=["_law_word", "_law_addresses_here"]) [none,some 2] rfl Z5 (aR (aV lN (pv 1) (bF (ak aM aq)))) (fun cl C fp s H=>(aG (i:=0) (by decide +kernel:(["_law_word", "_law_addresses_here"]:List Str).Nodup) rfl (Or.inl rfl))) (fun cl C fp s H=>(d8 (aH (wA (K:=K) rfl) (pv 0) (pv 1) Z3))) (fun cl C fp s H=>(pv 0))))
   (au (aO (i:=13) eG.nd rfl (Or.inr rfl) (Gk (y := "_law_word") (N:=["_law_word", "_law_named"]) [none,some 11] rfl Z5 (aR (pv 13)) (fun cl C fp s H=>(aG (i:=0) (by decide +kernel:(["_law_word", "_law_named"]:List Str).Nodup) rfl (Or.inr rfl))) (fun cl C fp s H=>(d8 (aH (Aj (K:=K) rfl hr.units) (bJ (N:=["_law_text", "_law_word"]) [none,some 0] rfl Z5 (zr (K:=K) rfl (pv 1)) (fun cl C fp s H=>(aG (i:=0) (by decide +kernel:(["_law_text", "_law_word"]:List Str).Nodup) rfl (Or.inl rfl))) (fun cl C fp s H=>(d8 (aH vM (aV bA (aV bA aM (pv 1)) aM) (pv 0) Z3))) (fun cl C fp s H=>(pv 0))) (bF aq) (aQ _)))) (fun cl C fp s H=>(pv 0))))
   (au (bG (PW.pt (vH (aH dI (bc aW Z3 T.len boot_len (ak (pv 2) aq)) aB (aQ _)) (xq (aH (Aj (K:=K) rfl hr.units) (pv 13) (bF aq) (aQ _))))) (aA (aL eN)) aU)
   (au (iQ (N:=["_law_one", "_law_house"]) [none,some 4] (i:=14) eG.nd rfl (Or.inl rfl) rfl Z5 (aR (pv 2)) (fun cl C fp s H=>(aG (i:=0) (by decide +kernel:(["_law_one", "_law_house"]:List Str).Nodup) rfl (Or.inl rfl))) (fun cl C fp s H=>cJ) (fun cl C fp s H=>(dJ Aab Gab hr5 dH (ak (pv 1) (ak (pv 0) aq)))))
   (au (iQ (N:=["_law_one"]) [none] (i:=15) eG.nd rfl (Or.inl rfl) rfl Z5 (aR (ir oh (pv 2) kj (iD aB))) (fun cl C fp s H=>(aG (i:=0) (by decide +kernel:(["_law_one"]:List Str).Nodup) rfl (Or.inl rfl))) (fun cl C fp s H=>cJ) (fun cl C fp s H=>(jZ M_Draw Aan.b Gan hr2 T.c_Draw (ak (pv 0) (ak aM aq)))))
   (au (bG (aH (wL (K:=K) rfl hr.units) (dJ Aab Gab hr5 dH (ak (tO (pv 4) T.hs.cl.cl M_hwith_part Ga6 hr9 Aa6.b .nil nP (ak (jZ M_Part Aak.b Gak hr2 T.c_Part (ak (bL bu (pv 13) (qM kO aB)) (ak (pv 15) aq))) aq)) (ak (bL bu (pv 13) (qM kO aB)) aq))) (aY Aa9 Ga9 hr1 (ak (bL bu (pv 2) aB) aq)) (aQ _)) (aA (aL eN)) aU)
   (au (aO (i:=16) eG.nd rfl (Or.inl rfl) (aY Aaq Gaq hr7 (ak (tO (pv 4) T.hs.cl.cl M_hwith_part Ga6 hr9 Aa6.b .nil nP (ak (jZ M_Part Aak.b Gak hr2 T.c_Part (ak (bL bu (pv 13) (qM kO aB)) (ak (bF aq) aq))) aq)) aq)))
   (au (bG (PW.pt (vH (aH (Eh (K:=K) rfl hr.units) (bF (ak (bL bu (pv 13) (qM kO aB)) aq)) (pv 16) Z3) (xq (aH (wL (K:=K) rfl hr.units) (bJ (N:=["_law_knot", "_law_fresh"]) [none,some 13] rfl Z5 (aR (pv 16)) (fun cl C fp s H=>(aG (i:=0) (by decide +kernel:(["_law_knot", "_law_fresh"]:List Str).Nodup) rfl (Or.inl rfl))) (fun cl C fp s H=>(d8 (aH (Jj (K:=K) rfl hr.units) (pv 0) (bF (ak (bL (zG (K:=K) rfl) (pv 1) (qM kO aB)) aq)) (aQ _)))) (fun cl C fp s H=>(pv 0))) (pv 5) (aQ _))))) (aA (aL eN)) aU)
   (aA (aL (Hu (iI (Hs (K:=K) rfl hr.units) (bJ (N:=["_law_one", "_law_house"]) [none,some 4] rfl Z5 (aR (pv 2)) (fun cl C fp s H=>(aG (i:=0) (by decide +kernel:(["_law_one", "_law_house"]:List Str).Nodup) rfl (Or.inl rfl))) (fun cl C fp s H=>cJ) (fun cl C fp s H=>(dJ Aab Gab hr5 dH (ak (pv 1) (ak (pv 0) aq))))) (pv 14) (aQ _)) (FP (iI (Hs (K:=K) rfl hr.units) (aY Aaq Gaq hr7 (ak (pv 4) aq)) (pv 5) (aQ _)))))))))))))))))))))))),?_⟩
  have hfl:∀ zs:List Str,(zs.map V.str).all dm=true:=dO
  refine⟨_,rfl,S,ns,rfl,hS,fun pt lw la R ws as L rs H0 H1 hpt s1 hlw hw8 hwn hla hne g hd hok=>?_⟩
  refine⟨pt,_,rfl,SqT.of hpt,rfl,_,_,rfl,_,_,rfl,_,_,rfl,rfl,?_⟩
  refine⟨_,rfl,_,rfl,H0,R,la,as,L,rs,rfl,hla,g,hd,hok,fun dh H2 xs ps s2 hdh0 px ead hk hof=>?_⟩
  have hla2:=s2 _ _ hla
  have hlw2:=s2 _ _ hlw
  have hd2:=hd.same s2
  clear hpt s1 hS hla hlw hd s2 hlen
  have s3:az H2 (upd H2 dh (.lst xs)):=az.new hdh0
  have hdh:(upd H2 dh (.lst xs)) dh=some (.lst xs):=ao
  generalize upd H2 dh (.lst xs)=H3 at s3 hdh
  refine fun x dx hx hdx hne1=>⟨x,dx,dh,ps,xs,rfl,ao,(bB hx hdx) _ _ hdh,px.same (s3.trans (bB hx hdx)),hk,fun l H4 hl sb hh hlx=>⟨rfl,?_⟩⟩
  have s34:az H3 H4:=fun b o e=>sb b o (bB hx hdx b o e) (aF e hx)
  have s24:=s3.trans s34
  have hh4:bT C H4 x l ps:=uT hh hlx (px.same s24)
  have hla4:=s24 _ _ hla2
  have hlw4:=s24 _ _ hlw2
  have hd4:=hd2.same s24
  clear sb hl hx hdx hne1 hh hlx hdh s3 s34 s24 px hla2 hlw2 hd2
  have inA:∀ {z:Str},z∈as.map dotted->z∈adS ps:=fun{z} hz=>by rw[ead];exact hz
  refine⟨_,rfl,x,l,ps,rfl,hh4,hk,fun b H5 zs hz1 hz2 hb s5 ka=>?_⟩
  have gz:=o6 hk hz1
  obtain⟨prs,e1,e2,e3⟩:=id ka
  have hok1:=m9 gz.cut.kgr
  have hpl:prs.length<=12:=by
   have h1:(kOr zs (cut zs (bQ ps zs))).length=(kss zs (cut zs (bQ ps zs))).length:=hok1.len
   rw[<- e2,length_map]at h1
   have:=sW gz.cut
   omega
  have kmem:∀ {pr},pr∈prs->pr.2∈kOr zs (cut zs (bQ ps zs)):=fun{pr} hp=>by rw[<- e2];exact mem_map.mpr ⟨pr,hp,rfl⟩
  have kat:∀ {i:Nat} {pr},prs[i]? = some pr->(kOr zs (cut zs (bQ ps zs)))[i]? = some pr.2:=fun{i pr} hp=>by rw[<- e2,getElem?_map,hp];rfl
  have hla5:=s5 _ _ hla4
  have hlw5:=s5 _ _ hlw4
  have hd5:=hd4.same s5
  have hh5:=hh4.same s5
  refine⟨by show 0<=sizeLine;decide,fun fl hfl0=>?_⟩
  have s56:az H5 (upd H5 fl (.lst [])):=az.new hfl0
  have hfl6:(upd H5 fl (.lst [])) fl=some (.lst []):=ao
  generalize upd H5 fl (.lst [])=H6 at s56 hfl6
  refine⟨_,rfl,b,rfl,⟨_,SqL.of (s56 _ _ e1)⟩,?_⟩
  refine bU (xs:=refs prs) (fun i σ H'=>∃ (fa:Addr) (v7:Option V),σ=[some (.ref S),some (.ref lw),some (.ref la),some (.ref R),some (.ref x),some (.ref b),some (.ref fa),v7,none,none,none,none,none,none,none,none,none]/\az H5 H'/\H' fa=some (.lst (((prs.take i).map (·.2)).flatten.map V.str))) ⟨fl,none,rfl,s56,hfl6⟩ ?_ ?_ ?_
  ·rintro i σ H' _ ⟨fa,v7,rfl,sm,_⟩
   exact SqL.of (sm _ _ e1)
  ·rintro i v σ H7 hv ⟨fa,v7,rfl,sm,hfa⟩
   obtain⟨pr,hp,rfl⟩:=wY hv
   have hpr:=mem_of_getElem? hp
   have hfl12:((prs.take i).map (·.2)).flatten.length<=12*12:=by
    refine le_trans (qX (n:=12) fun k hk=>?_) (Nat.mul_le_mul_left 12 (by rw[length_map];exact le_trans (length_take_le' i prs) hpl))
    obtain⟨pr,hp,rfl⟩:=mem_map.mp hk
    exact(jj gz (kmem (mem_of_mem_take hp))).1
   have h12:=(jj gz (kmem hpr)).1
   refine⟨_,rfl,_,rfl,fa,pr.1,_,_,rfl,rfl,hfa,sm _ _ (e3 pr hpr).1,le_trans (show _<=1000 by rw[length_map,length_map];omega) bO,fun o ho=>?_⟩
   refine⟨o,_,rfl,sm.put ho,ao.trans ?_⟩
   have et:((prs.take (i+1)).map (·.2)).flatten=((prs.take i).map (·.2)).flatten++pr.2:=by
    rw[take_succ,hp]
    simp
   rw[et,map_append]
  rintro σ H7 ⟨fa,v7,rfl,sm,hfa⟩
  have hpm:(kOr zs (cut zs (bQ ps zs))).flatten.Perm zs:=Jg gz.cut.kgr
  have efl:((prs.take (refs prs).length).map (·.2)).flatten=(kOr zs (cut zs (bQ ps zs))).flatten:=by
   rw[jf,length_map,take_length,e2]
  rw[efl]at hfa
  have hz12:zs.length<=12:=gz.hi
  have hfz:=hpm.length_eq
  have hza:zs.Perm (as.map dotted):=by rw[<- ead];exact hz1
  generalize (kOr zs (cut zs (bQ ps zs))).flatten=fls at hfa hpm hfz
  refine⟨_,rfl,fa,fls,rfl,SqL.of hfa,Z1,fun c1 y1 h1 h2 hc1=>?_⟩
  refine⟨_,rfl,la,as.map dotted,rfl,SqL.of ((sm.put hc1) _ _ hla5),by rw[<- hza.length_eq];omega,fun c2 y2 h3 h4 hc2=>?_⟩
  obtain rfl:y1=y2:=bH (h1.trans (hpm.trans (hza.trans h3.symm))) h2 h4
  refine⟨c1,c2,rfl,rfl,uJ ((az.new hc2) _ _ ao) ao (oJ y1),_,rfl,oO ?_⟩
  have s58:=(sm.put (o:=.lst (y1.map V.str)) hc1).put (o:=.lst (y1.map V.str)) hc2
  generalize upd (upd H7 c1 (.lst (y1.map V.str))) c2 (.lst (y1.map V.str))=H8 at s58
  clear sm hfa h1 h3 hc1 hc2
  have bat:∀ {H':Hp},az H5 H'->SqL K H' b (refs prs):=fun s=>SqL.of (s _ _ e1)
  have rl:(refs prs).length=prs.length:=by unfold refs;rw[length_map]
  refine⟨_,rfl,b,_,rfl,.inl (bat s58),_,rfl,Z1,by rw[rl];omega,?_⟩
  have hha:∀ {H':Hp},az H5 H'->bT C H' x l ps:=fun s=>hh5.same s
  have aat:∀ {j:Nat} {z:Int} {pr},prs[j]? = some pr->z=(j:Int)->atI (refs prs) z=some (.ref pr.1):=fun{j z pr} hp e=>by rw[e];exact bK (by unfold refs;rw[getElem?_map,hp];rfl)
  refine oE (fun i σ H'=>∃ v8 v9 v10:Option V,σ=[some (.ref S),some (.ref lw),some (.ref la),some (.ref R),some (.ref x),some (.ref b),some (.ref fa),v7,v8,v9,v10,none,none,none,none,none,none]/\az H5 H') ⟨none,none,none,rfl,s58⟩ ?_ ?_
  ·rintro i σ H9 hi ⟨v8,v9,v10,rfl,sm⟩
   have hip:i<prs.length:=by rw[rl]at hi;omega
   have hp:prs[i]? = some prs[i]:=getElem?_eq_getElem hip
   generalize prs[i]=pr at hp
   have hpr:=mem_of_getElem? hp
   have hkm:=kmem hpr
   refine⟨_,rfl,_,rfl,_,rfl,b,_,_,_,rfl,rfl,bat sm,aat hp Z1,x,l,pr.1,ps,pr.2,zs,rfl,hha sm,hk,hz1,hz2,sm _ _ (e3 pr hpr).1,(jj gz hkm).2,KH gz hkm,G3 gz hkm,fun HA sA=>⟨_,rfl,oO ?_⟩⟩
   have smA:=sm.trans sA
   refine⟨_,rfl,_,rfl,_,_,rfl,rfl,_,rfl,b,_,rfl,bat smA,fun c hc=>?_⟩
   have ecut:iy (refs prs) (some (0+(i:Int)+1)) none=refs (prs.drop (i+1)):=by
    have:=Gy (refs prs) (i+1)
    rw[show 0+(i:Int)+1=((i+1:Nat):Int)from by omega,this]
    unfold refs
    rw[map_drop]
   rw[ecut]
   have smB:az H5 (upd HA c (.lst (refs (prs.drop (i+1))))):=smA.put hc
   have hcB:(upd HA c (.lst (refs (prs.drop (i+1))))) c=some (.lst (refs (prs.drop (i+1)))):=ao
   have hc5:=smA.free hc
   generalize upd HA c (.lst (refs (prs.drop (i+1))))=HB at smB hcB
   refine⟨c,rfl,⟨_,SqL.of hcB⟩,?_⟩
   refine bU (xs:=refs (prs.drop (i+1))) (fun j σ H'=>∃ v9 v10:Option V,σ=[some (.ref S),some (.ref lw),some (.ref la),some (.ref R),some (.ref x),some (.ref b),some (.ref fa),v7,some (.int (0+(i:Int))),v9,v10,none,none,none,none,none,none]/\az HB H') ⟨_,_,rfl,az.refl _⟩ ?_ ?_ ?_
   ·rintro j σ H' _ ⟨v9,v10,rfl,sj⟩
    exact SqL.of (sj _ _ hcB)
   ·rintro j v σ HC hv ⟨v9,v10,rfl,sj⟩
    obtain⟨qr,hq,rfl⟩:=wY hv
    rw[List.getElem?_drop]at hq
    have hqr:=mem_of_getElem? hq
    have smC:=smB.trans sj
    refine⟨_,rfl,_,rfl,b,_,_,_,rfl,rfl,bat smC,aat hp Z1,pr.1,rfl,⟨_,SqL.of (smC _ _ (e3 pr hpr).1)⟩,?_⟩
    refine bU (xs:=pr.2.map V.str) (fun j σ H'=>∃ v10:Option V,σ=[some (.ref S),some (.ref lw),some (.ref la),some (.ref R),some (.ref x),some (.ref b),some (.ref fa),v7,some (.int (0+(i:Int))),some (.ref qr.1),v10,none,none,none,none,none,none]/\az HB H') ⟨_,rfl,sj⟩ ?_ ?_ ?_
    ·rintro j σ H' _ ⟨v10,rfl,sj⟩
     exact SqL.of ((smB.trans sj) _ _ (e3 pr hpr).1)
    ·rintro j2 v σ HD hv ⟨v10,rfl,sj⟩
     obtain⟨a,ha,rfl⟩:=mem_map.mp (mem_of_getElem? hv)
     have smD:=smB.trans sj
     have hqD:=smD _ _ (e3 qr hqr).1
     have haz:=(jj gz hkm).2 a ha
     have h12:=(jj gz (kmem hqr)).1
     refine⟨_,rfl,qr.1,rfl,⟨_,SqL.of hqD⟩,bM (xs:=qr.2.map V.str) (fun _=>false) (le_trans (show(qr.2.map V.str).length<=12 by rw[length_map];exact h12) Z0) (SqL.of hqD) (fun v H' Q' hv sv k=>?_) (fun v H' Q' hv sv k=>?_) (fun HE sE fl hfl2=>?_)⟩
     ·obtain⟨y,hy,rfl⟩:=mem_map.mp hv
      have hyz:=(jj gz (kmem hqr)).2 y hy
      have hno:=Fx gz (show i<i+1+j by omega) (kat hp) (kat hq) ha hy
      refine⟨_,rfl,_,rfl,_,rfl,x,l,ps,a,y,rfl,hha (smD.trans sv),hk,gA hk (hz1.mem_iff.mp haz),gA hk (hz1.mem_iff.mp hyz),fun _ _ H7 ys hy1 hy2 s7=>⟨fun _=>?_,fun lt w hlt wk hlt7=>?_⟩,fun h=>absurd (hz1.mem_iff.mp haz) h,fun _ h=>absurd (hz1.mem_iff.mp hyz) h⟩
      ·exact⟨rfl,_,rfl,k H7 s7⟩
      ·obtain rfl:ys=zs:=bH (hy1.trans hz1.symm) hy2 hz2
       exact absurd wk.rch hno
     ·exact⟨_,rfl,k H' (az.refl _)⟩
     ·have e0:(qr.2.map V.str).filter (fun _=>false)=[]:=by simp
      rw[e0]
      refine⟨by show 0<=sizeLine;decide,fun e he=>⟨fl,e,[],rfl,rfl,SqL.of ((az.new he) _ _ ao),SqL.of ao,_,rfl,bI rfl ?_⟩⟩
      exact⟨_,rfl,((sj.trans sE).put hfl2).put he⟩
    ·rintro σ HD ⟨v10,rfl,sj⟩
     exact⟨_,_,rfl,sj⟩
   ·rintro σ HC ⟨v9,v10,rfl,sj⟩
    exact⟨_,_,_,rfl,smB.trans sj⟩
  rintro σ H9 ⟨v8,v9,v10,rfl,sm⟩
  refine⟨_,rfl,_,rfl,x,l,la,ps,as.map dotted,rfl,hha sm,hk,sm _ _ hla5,fun y hy=>inA hy,fun HA sA=>⟨_,rfl,oO ?_⟩⟩
  have smA:=sm.trans sA
  clear sm sA s58 s56 hfl6
  refine⟨by show 0<=sizeLine;decide,fun na hna=>?_⟩
  have s5B:az H5 (upd HA na (.lst [])):=smA.put hna
  have hnaB:(upd HA na (.lst [])) na=some (.lst []):=ao
  have hdB:=hd5.same s5B
  obtain⟨kvs,hkv,hkl,kall,khas⟩:=Nt g.nd hdB
  generalize upd HA na (.lst [])=HB at s5B hnaB hdB hkv
  have hnR:na≠R:=eZ hnaB hkv Z7
  have h12:=g.hi
  have rat:∀ {i:Nat},i<as.length->∃ xs:List V,HB (L i)=some (.lst xs)/\L i≠R/\xs.length=(rs i).length/\∀ (m:Nat) d,(rs i)[m]? = some d->∃ p,xs[m]? = some (.ref p)/\TupAt HB p d/\p≠R:=fun{i} hi=>by
   obtain⟨xs,hx,hn,ht⟩:=hdB.ts i hi
   refine⟨xs,hx,eZ hx hkv Z7,hn,fun m d e=>?_⟩
   obtain⟨p,e1,e2⟩:=ht m d e
   exact⟨p,e1,e2,eZ e2 hkv Z7⟩
  refine⟨R,kvs,hkv,_,rfl,.inr (.inr (.inl ⟨rfl,.inl ⟨_,hkv⟩⟩)),R,kvs,rfl,rfl,.inl hkv,fun r hr=>⟨r,R,kvs,rfl,ao,(aF hkv hr).symm,by rw[aD (aF hkv hr)];exact hkv,fun o=>?_⟩⟩
  have hfz:(upd (upd HB r (VlO r R)) R (.frz o (.dK kvs))) R=some (.frz o (.dK kvs)):=ao
  have hof2:∀ {p:Addr} {u:HO},p≠R->HB p=some u->(upd (upd HB r (VlO r R)) R (.frz o (.dK kvs))) p=some u:=fun{p u} hp e=>by rw[aD hp];exact(az.new hr) _ _ e
  have hback:∀ {H':Hp},az (upd (upd HB r (VlO r R)) R (.frz o (.dK kvs))) H'->az HB (upd H' R (.dK kvs)):=fun{H'} sm p u e=>by
   by_cases hp:p=R
   ·rw[hp]at e ⊢
    rw[hkv]at e
    rw[ao]
    exact e
   ·rw[aD hp]
    exact sm _ _ (hof2 hp e)
  generalize upd (upd HB r (VlO r R)) R (.frz o (.dK kvs))=HF at hfz hof2 hback
  refine Ja (fun i σ H'=>∃ (nb:Addr) (v12:Option V) (ts:List Str),σ=[some (.ref S),some (.ref lw),some (.ref la),some (.ref R),some (.ref x),some (.ref b),some (.ref fa),v7,v8,v9,v10,some (.ref nb),v12,none,none,none,none]/\az HF H'/\H' nb=some (.lst (ts.map V.str))/\nb≠R/\ts.length<=12*i/\∀ kv∈kvs.take i,∀ j,j<as.length->kv.2=.ref (L j)->∀ d∈rs j,nJ d∈ts) ⟨na,none,[],rfl,az.refl _,hof2 hnR hnaB,hnR,zero_le _,fun kv hkv=>by cases hkv⟩ ?_ ?_ ?_
  ·rintro i σ H' _ ⟨nb,v12,ts,rfl,sm,_⟩
   exact sm _ _ hfz
  ·rintro i kk v σ HC hv ⟨nb,v12,ts,rfl,sm,hnb,hnbR,htl,hts⟩
   have hm:=mem_of_getElem? hv
   obtain⟨j,hj,ev⟩:=kall _ hm
   have ev:v=.ref (L j):=ev
   subst ev
   obtain⟨xs,hx,hLR,hxl,hxt⟩:=rat hj
   have hi12:i<12:=by have:=(List.getElem?_eq_some_iff.mp hv).1;omega
   have hr12:=hok.hi j hj
   have hxC:=sm _ _ (hof2 hLR hx)
   refine⟨_,rfl,_,rfl,L j,rfl,⟨_,SqL.of hxC⟩,dZ (fun m=>V.str (((rs j).map nJ).getD m "")) (le_trans (show xs.length<=12 by omega) Z0) (SqL.of hxC) (fun m y H' Q' hy sv k=>?_) (fun HD sD kn hkn=>?_)⟩
   ·have hm2:m<(rs j).length:=by rw[<- hxl];exact(List.getElem?_eq_some_iff.mp hy).1
    have em:(rs j)[m]? = some (rs j)[m]:=getElem?_eq_getElem hm2
    obtain⟨p,e2,tp,hpR⟩:=hxt m _ em
    obtain rfl:y=.ref p:=by rw[hy]at e2;exact Option.some.inj e2
    have tpC:=(sm.trans sv) _ _ (hof2 hpR tp)
    have g4:=hok.g4 j hj _ (getElem_mem hm2)
    have ek:(((rs j).map nJ).getD m "")=nJ (rs j)[m]:=by simp[List.getD,hm2]
    rw[ek]at k
    have hal:(rs j)[m].ad.length<=36:=by
     rcases g4.ha with⟨e,_⟩|⟨ys,gy,e,_⟩
     ·rw[e];decide +kernel
     ·rw[e];exact gy.len
    have hwl:=g4.hw
    have hd1:(("." : Str)).length=1:=by decide +kernel
    generalize (rs j)[m]=d at tpC hal hwl k
    refine⟨_,rfl,p,_,_,_,rfl,rfl,SqT.of tpC,bK (j:=2) rfl,_,_,rfl,rfl,le_trans (show _<=1000 by rw[hd1];omega) bO,_,_,rfl,rfl,le_trans (show _<=1000 by rw[gh,hd1];omega) bO,_,rfl,p,_,_,_,rfl,rfl,SqT.of tpC,bK (j:=3) rfl,_,_,rfl,rfl,le_trans (show _<=1000 by rw[gh,gh,hd1];omega) bO,_,_,rfl,rfl,le_trans (show _<=1000 by rw[gh,gh,gh,hd1];omega) bO,k H' (az.refl _)⟩
   ·have el:(List.range xs.length).map (fun m=>V.str (((rs j).map nJ).getD m ""))=((rs j).map nJ).map V.str:=by
     apply ext_getElem
     ·simp[hxl]
     ·intro m h1 h2
      have:m<(rs j).length:=by simpa using h2
      simp[this]
    rw[el]
    have sF:az HF (upd HD kn (.lst (((rs j).map nJ).map V.str))):=(sm.trans sD).put hkn
    refine⟨nb,kn,_,_,rfl,rfl,(sD.put hkn) _ _ hnb,ao,le_trans (show _<=1000 by rw[length_map,length_map,length_map];omega) bO,fun o2 ho2=>?_⟩
    rw[<- map_append]
    refine⟨o2,_,ts++(rs j).map nJ,rfl,sF.put ho2,ao,(aF (sF _ _ hfz) ho2).symm,by rw[length_append,length_map];omega,fun kv hkv j2 hj2 e d hd=>?_⟩
    rw[take_succ,hv]at hkv
    rcases mem_append.mp hkv with z|z
    ·exact mem_append_left _ (hts kv z j2 hj2 e d hd)
    ·have z:kv=(kk,.ref (L j)):=by simpa using z
     rw[z]at e
     have e:L j=L j2:=V.ref.inj e
     obtain rfl:=hdB.ap j j2 hj hj2 e
     exact mem_append_right _ (mem_map.mpr ⟨d,hd,rfl⟩)
  rintro σ HC ⟨nb,v12,ts,rfl,sm,hnb,hnbR,htl,hts⟩
  refine⟨o,sm _ _ hfz,?_⟩
  have hnbC:(upd HC R (.dK kvs)) nb=some (.lst (ts.map V.str)):=by rw[aD hnbR];exact hnb
  have s5C:=s5B.trans (hback sm)
  have htx:∀ i,i<as.length->∀ d∈rs i,nJ d∈ts:=fun i hi d hd=>by
   obtain⟨kv,hm,e⟩:=khas i hi
   exact hts kv (by rw[take_length];exact hm) i hi e d hd
  have htl:ts.length<=144:=by omega
  generalize upd HC R (.dK kvs)=HG at hnbC s5C
  clear hts hback hof2 hfz sm hnb rat kall khas hkv hkl hdB s5B hnaB hr smA hna
  refine⟨_,rfl,by show 1<=sizeLine;decide,fun o1 ho1=>⟨lw,o1,_,_,rfl,rfl,(s5C.put ho1) _ _ hlw5,ao,le_trans (show _<=1000 by rw[length_map,hw8];show 8+1<=1000;decide) bO,fun o2 ho2=>?_⟩⟩
  have ews:ws.map V.str++[V.str "stranger"]=(ws++[("stranger" : Str)]).map V.str:=by rw[map_append];rfl
  have hw9:∀ w∈ws++[("stranger" : Str)],cB w:=fun w hw=>by
   rcases mem_append.mp hw with z|z
   ·exact hwn w z
   ·rw[mem_singleton.mp z];exact tL Z4
  have hwl:(ws++[("stranger" : Str)]).length<=9:=by rw[length_append,hw8];decide
  rw[ews]
  generalize ws++[("stranger" : Str)]=wt at hw9 hwl
  have sGD:az HG (upd (upd HG o1 (.lst [V.str "stranger"])) o2 (.lst (wt.map V.str))):=(az.new ho1).put ho2
  have ho2D:(upd (upd HG o1 (.lst [V.str "stranger"])) o2 (.lst (wt.map V.str))) o2=some (.lst (wt.map V.str)):=ao
  generalize upd (upd HG o1 (.lst [V.str "stranger"])) o2 (.lst (wt.map V.str))=HD at sGD ho2D
  have s5D:=s5C.trans sGD
  refine⟨o2,rfl,⟨_,SqL.of ho2D⟩,bM (xs:=wt.map V.str) (fun v=>!inV v ((as.map dotted).map V.str)) (le_trans (show(wt.map V.str).length<=9 by rw[length_map];exact hwl) Z0) (SqL.of ho2D) (fun v H' Q' hv sv k=>?_) (fun v H' Q' hv sv k=>?_) (fun HE sE f1 hf1=>?_)⟩
  ·obtain⟨z,_,rfl⟩:=mem_map.mp hv
   exact⟨_,rfl,_,rfl,la,_,rfl,.inl (SqL.of ((s5D.trans sv) _ _ hla5)),rfl,hfl _,_,rfl,k H' (az.refl _)⟩
  ·exact⟨_,rfl,k H' (az.refl _)⟩
  have ef:(wt.map V.str).filter (fun v=>!inV v ((as.map dotted).map V.str))=(wt.filter fun y=>!decide (y∈as.map dotted)).map V.str:=by
   rw[dF]
   congr 1
   exact filter_congr fun y _=>by rw[jL]
  rw[ef]
  have hst:∀ w∈(wt.filter fun y=>!decide (y∈as.map dotted)),cB w/\w∉as.map dotted:=fun w hw=>by
   obtain⟨h1,h2⟩:=mem_filter.mp hw
   exact⟨hw9 w h1,by simpa using h2⟩
  have hstl:=le_trans (length_filter_le (fun y=>!decide (y∈as.map dotted)) wt) hwl
  generalize (wt.filter fun y=>!decide (y∈as.map dotted))=st at hst hstl
  have s5F:az H5 (upd HE f1 (.lst (st.map V.str))):=(s5D.trans sE).put hf1
  have sGF:az HG (upd HE f1 (.lst (st.map V.str))):=(sGD.trans sE).put hf1
  have hf1F:(upd HE f1 (.lst (st.map V.str))) f1=some (.lst (st.map V.str)):=ao
  generalize upd HE f1 (.lst (st.map V.str))=HF2 at s5F sGF hf1F
  clear sE hf1 s5D sGD ho2D
  refine⟨_,rfl,f1,rfl,⟨_,SqL.of hf1F⟩,bM (xs:=st.map V.str) (onS fun w=>(((ts.filter (unB w)).map V.str).isEmpty==true)) (le_trans (show(st.map V.str).length<=9 by rw[length_map];exact hstl) Z0) (SqL.of hf1F) (fun v H' Q' hv sv k=>?_) (fun v H' Q' hv sv k=>?_) (fun HE sE f2 hf2=>?_)⟩
  ·obtain⟨w,hw,rfl⟩:=mem_map.mp hv
   have hnbv:=(sGF.trans sv) _ _ hnbC
   have hw8:=(hst w hw).1.hi
   have hd1:(("." : Str)).length=1:=by decide +kernel
   refine⟨_,rfl,nb,rfl,⟨_,SqL.of hnbv⟩,bM (xs:=ts.map V.str) (onS (unB w)) (le_trans (show(ts.map V.str).length<=1000 by rw[length_map];omega) bO) (SqL.of hnbv) (fun v H2 Q2 hv sv2 k2=>?_) (fun v H2 Q2 hv sv2 k2=>?_) (fun HE2 sE2 l2 hl2=>?_)⟩
   ·obtain⟨t,ht,rfl⟩:=mem_map.mp hv
    exact⟨_,rfl,_,_,rfl,rfl,le_trans (show _<=1000 by rw[hd1];omega) bO,_,_,rfl,rfl,le_trans (show _<=1000 by rw[gh,hd1];omega) bO,_,rfl,_,_,rfl,rfl,_,rfl,k2 H2 (az.refl _)⟩
   ·exact⟨_,rfl,k2 H2 (az.refl _)⟩
   rw[p7]
   exact⟨by show 0<=sizeLine;decide,fun e he=>⟨l2,e,_,rfl,rfl,SqL.of ((az.new he) _ _ ao),SqL.of ao,_,rfl,k _ ((sE2.put hl2).put he)⟩⟩
  ·exact⟨_,rfl,k H' (az.refl _)⟩
  rw[p7]
  have hst2:∀ w∈(st.filter fun w=>(((ts.filter (unB w)).map V.str).isEmpty==true)),cB w/\w∉as.map dotted/\∀ t∈ts,unB w t=false:=fun w hw=>by
   obtain⟨h1,h2⟩:=mem_filter.mp hw
   refine⟨(hst w h1).1,(hst w h1).2,fun t ht=>?_⟩
   have h2:(ts.filter (unB w)).map V.str=[]:=List.isEmpty_iff.mp (by simpa using h2)
   have h3:=map_eq_nil_iff.mp h2
   exact eq_false_iff.mpr fun z=>by
    have:t∈ts.filter (unB w):=mem_filter.mpr ⟨ht,z⟩
    rw[h3]at this
    cases this
  generalize (st.filter fun w=>(((ts.filter (unB w)).map V.str).isEmpty==true))=fr at hst2
  have s5H:az H5 (upd HE f2 (.lst (fr.map V.str))):=(s5F.trans sE).put hf2
  have hf2H:(upd HE f2 (.lst (fr.map V.str))) f2=some (.lst (fr.map V.str)):=ao
  generalize upd HE f2 (.lst (fr.map V.str))=HI at s5H hf2H
  clear sE hf2 s5F sGF hf1F hnbC s5C hst hstl
  refine⟨_,rfl,la,_,rfl,.inl (SqL.of (s5H _ _ hla5)),rfl,_,rfl,fZ (fun _=>q _) (fun hn12=>?_)⟩
  have hl12:ps.length<12:=by
   have e:=congrArg List.length ead
   unfold adS at e
   rw[length_map,length_map]at e
   rcases lt_or_ge ps.length 12 with z|z
   ·exact z
   ·exact absurd (show V.int (((as.map dotted).map V.str).length:Int)=V.int 12 by rw[length_map,length_map,show as.length=12 by omega];rfl) hn12
  refine⟨_,rfl,by show 0<=sizeLine;decide,fun e he=>⟨f2,e,_,rfl,rfl,SqL.of ((az.new he) _ _ hf2H),SqL.of ao,_,rfl,?_⟩⟩
  by_cases hfr:fr=[]
  ·subst hfr
   exact eO rfl (q _)
  refine bI (by cases fr with|nil=>exact absurd rfl hfr|cons x y=>rfl) ?_
  have s5J:=s5H.put (o:=.lst []) he
  have hf2J:=(az.new (o:=.lst []) he) _ _ hf2H
  generalize upd HI e (.lst [])=HJ at s5J hf2J
  clear s5H hf2H he
  obtain⟨fi,fx,rfl⟩:∃ fi fx,fr=fi++[fx]:=⟨fr.dropLast,fr.getLast hfr,(dropLast_concat_getLast hfr).symm⟩
  obtain⟨nf,hfa2,hun⟩:=hst2 fx Z2
  have hfS:fx∉adS ps:=by rw[ead];exact hfa2
  have hunl:=Ef hk hok hof nf hfS fun i hi d hd=>hun _ (htx i hi d hd)
  clear hst2 hfr hun htx hfa2
  have hal12:(as.map dotted).length<=12:=by rw[length_map];exact g.hi
  refine⟨_,rfl,la,rfl,⟨_,SqL.of (s5J _ _ hla5)⟩,?_⟩
  refine gj (xs:=(as.map dotted).map V.str) (fun τ=>∃ u,τ=[u,some (.ref x)]) (fun i v H'=>∃ c,v=V.ref c/\H' c=some (.lst ((bQ ps zs ((as.map dotted).getD i "")).map V.str))) (fun i v H' H'' ⟨c,e1,e2⟩ s=>⟨c,e1,s _ _ e2⟩) (le_trans (show _<=12 by rw[length_map];exact hal12) Z0) (SqL.of (s5J _ _ hla5)) ⟨_,rfl⟩ (fun i y τ H1 Q' hy sv hS k=>?_) (fun ys HK sK hyl hys nr hnr=>?_)
  ·obtain⟨u,rfl⟩:=hS
   obtain⟨z,ez,rfl⟩:=FN hy
   have hza2:=inA (mem_of_getElem? ez)
   refine⟨_,rfl,_,rfl,x,l,ps,z,rfl,hha (s5J.trans sv),hk,gA hk hza2,fun j p ep e c H2 us hc s2 hy1 hy2 hc2=>?_,fun hno=>absurd hza2 hno⟩
   obtain rfl:us=zs:=bH (hy1.trans hz1.symm) hy2 hz2
   rw[kh hk ep,e]at hc2
   exact k _ _ H2 ⟨_,rfl⟩ s2 ⟨c,rfl,by rw[getD_at ez];exact hc2⟩
  have knr:pP (fun _=>none) (upd HK nr (.lst ys)) nr ((as.map dotted).map (bQ ps zs)):=Cj hnr (by rw[hyl,length_map]) hys
  have s5K:az H5 (upd HK nr (.lst ys)):=(s5J.trans sK).put hnr
  have hf2K:=(sK.put (o:=.lst ys) hnr) _ _ hf2J
  generalize upd HK nr (.lst ys)=HL at knr s5K hf2K
  clear hys sK hnr hyl s5J hf2J
  obtain⟨a0,ea0⟩:∃ a0,as[0]? = some a0:=by
   cases as with
   | nil=>exact absurd rfl hne
   | cons a t=>exact⟨a,rfl⟩
  have ga0:=g.ok a0 (mem_of_getElem? ea0)
  have e0:atI ((as.map dotted).map V.str) 0=some (V.str (dotted a0)):=bK (j:=0) (by rw[getElem?_map,getElem?_map,ea0];rfl)
  have etk:((as.map dotted).take 1).map V.str=[V.str (dotted a0)]:=by
   cases as with
   | nil=>exact absurd rfl hne
   | cons a t=>cases ea0;rfl
  refine⟨_,rfl,_,rfl,la,_,rfl,SqL.of (s5K _ _ hla5),fun c hc=>?_⟩
  have ec:iy ((as.map dotted).map V.str) none (some 1)=[V.str (dotted a0)]:=(mW _ Z0).trans etk
  rw[ec]
  have sLM:az HL (upd HL c (.lst [V.str (dotted a0)])):=az.new hc
  have hcM:(upd HL c (.lst [V.str (dotted a0)])) c=some (.lst [V.str (dotted a0)]):=ao
  generalize upd HL c (.lst [V.str (dotted a0)])=HM at sLM hcM
  refine⟨c,rfl,⟨_,SqL.of hcM⟩,?_⟩
  refine gj (xs:=[V.str (dotted a0)]) (fun τ=>∃ u,τ=[u]) (fun i v H'=>∃ a t,v=V.ref a/\dU C H' a t (ig a0)) (fun i v H' H'' ⟨a,t,e1,e2⟩ s=>⟨a,t,e1,e2.same s⟩) (by show 1<=sizeLine;decide) (SqL.of hcM) ⟨_,rfl⟩ (fun i y τ H1 Q' hy sv hS k=>?_) (fun ys HN sN hyl hys mo hmo=>?_)
  ·obtain⟨u,rfl⟩:=hS
   obtain rfl:y=V.str (dotted a0):=mem_singleton.mp (mem_of_getElem? hy)
   exact⟨_,rfl,fun xr dr hxr hdr hner=>⟨xr,dr,ig a0,rfl,rfl,ao,fun H' sb ra=>⟨rfl,k _ _ H' ⟨_,rfl⟩ (fun b o e=>sb b o (bB hxr hdr b o e) (aF e hxr)) ⟨xr,xr,rfl,ra xr⟩⟩⟩⟩
  obtain⟨yv,rfl⟩:∃ yv,ys=[yv]:=List.length_eq_one_iff.mp hyl
  obtain⟨xr,tr,rfl,ra⟩:=hys 0 yv rfl
  have hra:pI C (upd HN mo (.lst [V.ref xr])) mo [ig a0]:=⟨_,ao,rfl,fun i r e=>by
   match i,e with
   | 0,e=>cases e;exact⟨xr,tr,rfl,ra.same (az.new hmo)⟩
   | n+1,e=>simp at e⟩
  have sLN:az HL (upd HN mo (.lst [V.ref xr])):=(sLM.trans sN).put hmo
  generalize upd HN mo (.lst [V.ref xr])=HO2 at hra sLN
  clear hys ra sN hmo hyl hcM sLM
  have s5O:=s5K.trans sLN
  have g2r:lQ [ig a0]:=⟨by show 1<=12;decide,fun r hr=>by rw[mem_singleton.mp hr];exact Og ga0⟩
  have g2:bz (ps++[⟨[fx],[ig a0]⟩]):=xK hk hl12 nf hfS g2r
  have g3:bz (ps++[⟨[fx],[]⟩]):=xK hk hl12 nf hfS ⟨zero_le _,fun r hr=>by cases hr⟩
  obtain⟨dxh,fsh,eah,_,_,_,a4,_⟩:=id hh5
  have hfx:dotted [fx]=fx:=bR fx
  have hfxl:fx.length<=1000:=le_trans nf.hi Z0
  refine⟨_,rfl,x,dxh,fsh,rfl,s5O _ _ eah,a4.2,_,rfl,_,rfl,f2,_,_,_,rfl,rfl,SqL.of (sLN _ _ hf2K),jr,_,rfl,?_⟩
  refine fun xp dp hxp hdp hnep=>⟨xp,dp,fx,mo,[ig a0],rfl,ao,hra.same (bB hxp hdp),g2r,fun lp HP hlp sb pa=>⟨rfl,?_⟩⟩
  have sOP:az HO2 HP:=fun b o e=>sb b o (bB hxp hdp b o e) (aF e hxp)
  clear sb hxp hdp hnep hlp
  refine⟨x,l,xp,lp,ps,⟨[fx],[ig a0]⟩,rfl,hha (s5O.trans sOP),hk,by rw[show dotted (⟨[fx],[ig a0]⟩:aX).ad=fx from hfx];exact pa,by rw[show dotted (⟨[fx],[ig a0]⟩:aX).ad=fx from hfx];exact hfS,g2,fun h2 l2 HQ sPQ hh2=>?_⟩
  have sLQ:=(sLN.trans sOP).trans sPQ
  refine⟨_,rfl,_,rfl,f2,_,_,_,rfl,rfl,SqL.of (sLQ _ _ hf2K),jr,h2,l2,_,fx,rfl,hh2,g2,hfxl,fun j p ep ez d HR us hd2 sR hu1 hu2 hdR=>?_,fun hno=>absurd (by rw[jQ];simp) hno⟩
  obtain rfl:p=⟨[fx],[ig a0]⟩:=by
   rcases mem_append.mp (mem_of_getElem? ep)with z|z
   ·exact absurd (mem_map.mpr ⟨p,z,ez⟩) hfS
   ·exact mem_singleton.mp z
  rw[Bl g (mem_of_getElem? ea0) ead g2 hu1 hu2]at hdR
  have sLR:=sLQ.trans sR
  refine⟨_,rfl,la,_,_,_,rfl,rfl,SqL.of ((s5K.trans sLR) _ _ hla5),e0,a0,rfl,ga0,fun pp HS hpp sS hpS=>⟨d,pp,rfl,rfl,uJ (sS _ _ hdR) hpS (oJ _),_,rfl,oO ?_⟩⟩
  have sLS:=sLR.trans sS
  clear hra sLN s5O sOP pa sPQ hh2 sLQ hd2 sR hdR sLR sS hpS hpp g2 g2r
  have s5S:=s5K.trans sLS
  refine⟨_,rfl,x,dxh,fsh,rfl,s5S _ _ eah,a4.2,_,rfl,_,rfl,f2,_,_,_,rfl,rfl,SqL.of (sLS _ _ hf2K),jr,by show 0<=sizeLine;decide,fun em hem=>?_⟩
  have sLT:=sLS.put (o:=.lst []) hem
  have heT:(upd HS em (.lst [])) em=some (.lst []):=ao
  generalize upd HS em (.lst [])=HT at sLT heT
  refine fun xp2 dp2 hxp hdp hnep=>⟨xp2,dp2,fx,em,[],rfl,ao,⟨[],(bB hxp hdp) _ _ heT,rfl,fun i r e=>by cases e⟩,⟨zero_le _,fun r hr=>by cases hr⟩,fun lp2 HU hlp sb pa=>⟨rfl,?_⟩⟩
  have sTU:az HT HU:=fun b o e=>sb b o (bB hxp hdp b o e) (aF e hxp)
  clear sb hxp hdp hnep hlp
  have sLU:=sLT.trans sTU
  refine⟨x,l,xp2,lp2,ps,⟨[fx],[]⟩,rfl,hha (s5K.trans sLU),hk,by rw[show dotted (⟨[fx],[]⟩:aX).ad=fx from hfx];exact pa,by rw[show dotted (⟨[fx],[]⟩:aX).ad=fx from hfx];exact hfS,g3,fun h3 l3 HV sUV hh3=>?_⟩
  refine⟨h3,l3,_,rfl,hh3,g3,fun bw HW zs2 hw1 hw2 hbw sVW kw=>?_⟩
  have iso:=Ov hk hl12 nf hfS hunl hz1 hz2 hw1 hw2
  have sLW:=(sLU.trans sUV).trans sVW
  have hw12:(kss zs2 (cut zs2 (bQ (ps++[⟨[fx],[]⟩]) zs2))).length<=12:=sW (o6 g3 hw1).cut
  have hwl2:(kOr zs2 (cut zs2 (bQ (ps++[⟨[fx],[]⟩]) zs2))).length=(kss zs2 (cut zs2 (bQ (ps++[⟨[fx],[]⟩]) zs2))).length:=(m9 iso.g').len
  have hin:=iso.one
  have hord:(kOr zs2 (cut zs2 (bQ (ps++[⟨[fx],[]⟩]) zs2))).filter (fun k=>!decide (k=[fx]))=kOr zs (cut zs (bQ ps zs)):=by
   refine Eq.trans (filter_congr fun k _=>?_) iso.ord
   congr 1
   exact decide_eq_decide.mpr Iff.rfl
  obtain⟨wrs,w1,w2,w3⟩:=id kw
  clear iso pa sTU sUV hh3 sVW sLU sLT heT sLS s5S hbw
  refine⟨_,rfl,_,rfl,f2,_,_,_,rfl,rfl,SqL.of (sLW _ _ hf2K),jr,by show 1<=sizeLine;decide,fun o hol=>⟨_,rfl,o,bw,[fx],_,rfl,rfl,SqL.of ao,(kw.same (az.new hol)).lss,_,rfl,?_⟩⟩
  refine bI (by rw[decide_eq_true hin];rfl) ?_
  have sLX:=sLW.put (o:=.lst [V.str fx]) hol
  have sWX:az HW (upd HW o (.lst [V.str fx])):=az.new hol
  generalize upd HW o (.lst [V.str fx])=HX at sLX sWX
  have w1X:=sWX _ _ w1
  have w3X:=w3.same sWX
  refine⟨_,rfl,bw,rfl,⟨_,SqL.of w1X⟩,bM (xs:=refs wrs) (onL HX fun k=>!decide (k=[fx])) (le_trans (show(refs wrs).length<=12 by rw[jf,w2];omega) Z0) (SqL.of w1X) (fun v H' Q' hv sv k=>?_) (fun v H' Q' hv sv k=>?_) (fun HY sY wl hwl3=>?_)⟩
  ·obtain⟨pr,hpr,rfl⟩:=uA hv
   have hb2:=(w3X pr hpr).1
   rw[yt hb2]at k
   exact⟨_,rfl,_,rfl,_,rfl,f2,_,_,_,rfl,rfl,SqL.of ((sLX.trans sv) _ _ hf2K),jr,by show 1<=sizeLine;decide,fun o3 ho3=>⟨pr.1,o3,pr.2,[fx],rfl,rfl,SqL.of ((sv.put ho3) _ _ hb2),SqL.of ao,_,rfl,k _ (az.new ho3)⟩⟩
  ·exact⟨_,rfl,k H' (az.refl _)⟩
  rw[nA w3X]
  have sLY:=(sLX.trans sY).put (o:=.lst (refs (wrs.filter fun pr=>!decide (pr.2=[fx])))) hwl3
  have kwl:pP (fun _=>none) (upd HY wl (.lst (refs (wrs.filter fun pr=>!decide (pr.2=[fx]))))) wl (kOr zs (cut zs (bQ ps zs))):=⟨_,ao,by rw[m8 wrs (fun k=>!decide (k=[fx])),w2];exact hord,fun pr hp=>⟨(sY.put hwl3) _ _ (w3X pr (mem_filter.mp hp).1).1,rfl⟩⟩
  generalize upd HY wl (.lst (refs (wrs.filter fun pr=>!decide (pr.2=[fx]))))=HZ at sLY kwl
  refine⟨_,rfl,wl,b,rfl,rfl,Bp kwl (ka.same (s5K.trans sLY)),_,rfl,oO ?_⟩
  have s5Z:=s5K.trans sLY
  refine⟨_,rfl,la,rfl,⟨_,SqL.of (s5Z _ _ hla5)⟩,?_⟩
  refine gj (xs:=(as.map dotted).map V.str) (fun τ=>∃ u,τ=[u,some (.ref x)]) (fun i v H'=>∃ c,v=V.ref c/\H' c=some (.lst ((bQ ps zs ((as.map dotted).getD i "")).map V.str))) (fun i v H' H'' ⟨c,e1,e2⟩ s=>⟨c,e1,s _ _ e2⟩) (le_trans (show _<=12 by rw[length_map];exact hal12) Z0) (SqL.of (s5Z _ _ hla5)) ⟨_,rfl⟩ (fun i y τ H1 Q' hy sv hS k=>?_) (fun ys HK2 sK2 hyl hys nr2 hnr2=>?_)
  ·obtain⟨u,rfl⟩:=hS
   obtain⟨z,ez,rfl⟩:=FN hy
   have hza2:=inA (mem_of_getElem? ez)
   refine⟨_,rfl,_,rfl,x,l,ps,z,rfl,hha (s5Z.trans sv),hk,gA hk hza2,fun j p ep e c H2 us hc s2 hy1 hy2 hc2=>?_,fun hno=>absurd hza2 hno⟩
   obtain rfl:us=zs:=bH (hy1.trans hz1.symm) hy2 hz2
   rw[kh hk ep,e]at hc2
   exact k _ _ H2 ⟨_,rfl⟩ s2 ⟨c,rfl,by rw[getD_at ez];exact hc2⟩
  have knr2:pP (fun _=>none) (upd HK2 nr2 (.lst ys)) nr2 ((as.map dotted).map (bQ ps zs)):=Cj hnr2 (by rw[hyl,length_map]) hys
  have sLK2:=(sLY.trans sK2).put (o:=.lst ys) hnr2
  generalize upd HK2 nr2 (.lst ys)=HL2 at knr2 sLK2
  have s5E:=s5K.trans sLK2
  refine⟨_,rfl,nr2,nr,rfl,rfl,Bp knr2 (knr.same sLK2),_,rfl,Om ⟨_,rfl,x,l,ps,rfl,hha s5E,hk,fun b2 HE2 zs3 hq1 hq2 hb2 sE2 ka2=>?_⟩⟩
  obtain rfl:zs3=zs:=bH (hq1.trans hz1.symm) hq2 hz2
  exact⟨_,rfl,b2,b,rfl,rfl,Bp ka2 (ka.same (s5E.trans sE2)),q _⟩
end
def FI(K:Frag)(x:Str)(st:Stmt):Prop:=∃ f fd,nsIn K mainGlobals x=some (some (.ref f))/\Fun K x x st f fd
theorem fi {K:Frag} {x:Str} {st:Stmt} {f:Addr} {oc:Value} {od an:Option Addr} {osl:Array (Option Value)} {kV doc pm cdv ct:Value} (a:nsIn K mainGlobals x=some (some (.ref f))) (l:K.lookup f=some ⟨oc,od,.func (fnOf x x (cY st) (b7 st) (aC st) .none kV doc pm an cdv ct),osl⟩) (c:codeIn K cdv x=true) (k:keepIn K (.ref f)=true):FI K x st:=⟨f,_,a,Hc l c k⟩
def MI(K:Frag)(g:Addr)(x q:Str)(st:Stmt):Prop:=(∃ fd,Fun K x q st g fd)/\isFn K (.ref g)=true/\keepIn K (.ref g)=true
theorem mi {K:Frag} {x q:Str} {st:Stmt} {f:Addr} {oc:Value} {od an:Option Addr} {osl:Array (Option Value)} {kV doc pm cdv ct:Value} (l:K.lookup f=some ⟨oc,od,.func (fnOf x q (cY st) (b7 st) (aC st) .none kV doc pm an cdv ct),osl⟩) (c:codeIn K cdv q=true) (k:keepIn K (.ref f)=true) (i:isFn K (.ref f)=true):MI K f x q st:=⟨⟨_,Hc l c k⟩,i,k⟩
structure CI(K:Frag)(C:Addr)(x:Str):Prop where
 A:nsIn K mainGlobals x=some (some (.ref C))
 pg:plainGet K C Str.empty=true
 hd:hasDictIn K C=true
 po:plainOver K C=true
 sa:findIn K (.ref C) "__setattr__" = some (some (.builtin "object.__setattr__"))
 mq:makesIn K C=true
 kc:keepIn K (.ref C)=true
 ca:findIn K (.ref C) "__class__" = some (some (.builtin "object.__class__"))
 mo:mroIn K C (.type "object")=some true
 ty:typeIn K (.ref C)=some (.type "type")
 mm:mroIn K C (.ref C)=some true
def BA(x q:Str)(st:Stmt)(ps:List Str)(n:Nat):Prop:=∀ (kV doc pm:Value) (an:Option Addr) (cdv ct:Value) (us:List Value),us.length=n->bindArgs (fnOf x q (cY st) (b7 st) (aC st) .none kV doc pm an cdv ct) ⟨us,[]⟩=pure (ps.zip us)
theorem ba1 {x q:Str} {st:Stmt} {ps:List Str} (h:∀ (kV doc pm:Value) (an:Option Addr) (cdv ct a:Value),bindArgs (fnOf x q (cY st) (b7 st) (aC st) .none kV doc pm an cdv ct) ⟨[a],[]⟩=pure (ps.zip [a]):=by exact fun _ _ _ _ _ _ _=>rfl):BA x q st ps 1:=fun _ _ _ _ _ _ us hl=>by obtain⟨a,rfl⟩:=Qe hl;exact h ..
theorem ba2 {x q:Str} {st:Stmt} {ps:List Str} (h:∀ (kV doc pm:Value) (an:Option Addr) (cdv ct a b:Value),bindArgs (fnOf x q (cY st) (b7 st) (aC st) .none kV doc pm an cdv ct) ⟨[a,b],[]⟩=pure (ps.zip [a,b]):=by exact fun _ _ _ _ _ _ _ _=>rfl):BA x q st ps 2:=fun _ _ _ _ _ _ us hl=>by obtain⟨a,b,rfl⟩:=Qg hl;exact h ..
theorem ba3 {x q:Str} {st:Stmt} {ps:List Str} (h:∀ (kV doc pm:Value) (an:Option Addr) (cdv ct a b c:Value),bindArgs (fnOf x q (cY st) (b7 st) (aC st) .none kV doc pm an cdv ct) ⟨[a,b,c],[]⟩=pure (ps.zip [a,b,c]):=by exact fun _ _ _ _ _ _ _ _ _=>rfl):BA x q st ps 3:=fun _ _ _ _ _ _ us hl=>by obtain⟨a,b,c,rfl⟩:=O8 hl;exact h ..
theorem ba4 {x q:Str} {st:Stmt} {ps:List Str} (h:∀ (kV doc pm:Value) (an:Option Addr) (cdv ct a b c d:Value),bindArgs (fnOf x q (cY st) (b7 st) (aC st) .none kV doc pm an cdv ct) ⟨[a,b,c,d],[]⟩=pure (ps.zip [a,b,c,d]):=by exact fun _ _ _ _ _ _ _ _ _ _=>rfl):BA x q st ps 4:=fun _ _ _ _ _ _ us hl=>by obtain⟨a,b,c,d,rfl⟩:=RG hl;exact h ..
theorem fat{K:Frag}{h:Heap}{mg:MG}{x:Str}{st:Stmt}{ps:List Str}(X:K.In h)(G:h.Ns mainGlobals mg)(b:BA x x st ps ps.length)(i:FI K x st):∃ f fd,FnAt K mg x st ps f fd:=by
 obtain⟨f,fd,a,F⟩:=i
 exact⟨f,fd,F,F.binds b,mg_of X G a⟩
theorem jg{K:Frag}{g:Addr}{x q:Str}{st:Stmt}{ps:List Str}{p:Addr->Prop}(b:BA x q st ps ps.length)(i:MI K g x q st)(z:isFn K (.ref g)=true->keepIn K (.ref g)=true->p g):∃ f fd,MAt K x q st ps f fd/\p f:=by
 obtain⟨⟨fd,F⟩,i1,i2⟩:=i
 exact⟨g,fd,⟨F,F.binds b⟩,z i1 i2⟩
theorem N5 {l:OpenLaw} {w:World} {K:Frag} {h:Heap} {mg:MG} {fa g0 g1 g2 g3 g4 g5 g6 g7 g8 g9 g10 g11 g12 g13 g14 g15 g16 g17 g18 g19 g20 g21 g22 C0 C1 C2 C3 C4 C5 C6 C7 C8 gx C20 C21 N20 N21:Addr} (X:K.In h) (G:h.Ns mainGlobals mg) (hfa:mg "law" = some (.ref fa))
  {nm20 qn20 nm21 qn21:Str} {bs20 sub20 bs21 sub21:List Value} {sn20 sn21:List Str} {ab20 ab21:Bool} {col20 col21:Option Bool} {dd20 dd21:Option Addr} {x020 x120 x220 x320 x520 x021 x121 x221 x321 x521:Option Value} {oN:Value} {dN:Option Addr} {esN:Array DictEntry} {nN:Nat} {slN:Array (Option Value)}
  {tk0:Tok}
  (h0:FI K "prefixes" lA)
  (h1:FI K "parent_of" ju)
  (h2:FI K "named_by" mj)
  (h3:FI K "check_part" iK)
  (h4:FI K "links" tG)
  (h5:FI K "all_links" jB)
  (h6:FI K "reached" oA)
  (h7:FI K "leads" tW)
  (h8:FI K "way_between" gC)
  (h9:FI K "knot_of" oF)
  (h10:FI K "may_come" lZ)
  (h11:FI K "in_order" lU)
  (h12:FI K "knots" tD)
  (h13:FI K "is_orphan" jo)
  (h14:FI K "is_clash" lD)
  (h15:FI K "check_parts" gQ)
  (h16:FI K "_law_cell" lF)
  (h17:FI K "_law_pick" lK)
  (h18:FI K "_law_words" jm)
  (h19:FI K "_law_addresses" dX)
  (h20:FI K "_law_asked" jz)
  (h21:FI K "_law_drawn" jC)
  (h22:FI K "_law_rows" lY)
  (h23:FI K "_law_row" n8)
  (h24:FI K "_law_parts" jl)
  (h25:FI K "_law_made" lE)
  (h26:FI K "_law_prefixes" fY)
  (h27:FI K "_law_walked" iM)
  (h28:FI K "_law_within" iG)
  (h29:FI K "_law_put_together" cM)
  (h30:FI K "law" Ik)
  (D0:CI K C0 "Let")
  (D1:CI K C1 "Deed")
  (D2:CI K C2 "Draw")
  (D3:CI K C3 "Late")
  (D4:CI K C4 "Take")
  (D5:CI K C5 "Need")
  (D6:CI K C6 "Row")
  (D7:CI K C7 "Part")
  (D8:CI K C8 "House")
  (nf0x0:findIn K (.ref C0) "name" = some none)
  (nf0x1:findIn K (.ref C0) "terms" = some none)
  (nf0x2:findIn K (.ref C0) "address" = some none)
  (nf0x3:findIn K (.ref C0) "word" = some none)
  (mm0x1:mroIn K C0 (.ref C1)=some false)
  (mm0x2:mroIn K C0 (.ref C2)=some false)
  (mm0x3:mroIn K C0 (.ref C3)=some false)
  (mm0x4:mroIn K C0 (.ref C4)=some false)
  (mm0x5:mroIn K C0 (.ref C5)=some false)
  (mm0x6:mroIn K C0 (.ref C6)=some true)
  (nf1x0:findIn K (.ref C1) "name" = some none)
  (nf1x1:findIn K (.ref C1) "terms" = some none)
  (nf1x2:findIn K (.ref C1) "address" = some none)
  (nf1x3:findIn K (.ref C1) "word" = some none)
  (mm1x0:mroIn K C1 (.ref C0)=some false)
  (mm1x2:mroIn K C1 (.ref C2)=some false)
  (mm1x3:mroIn K C1 (.ref C3)=some false)
  (mm1x4:mroIn K C1 (.ref C4)=some false)
  (mm1x5:mroIn K C1 (.ref C5)=some false)
  (mm1x6:mroIn K C1 (.ref C6)=some true)
  (nf2x0:findIn K (.ref C2) "name" = some none)
  (nf2x1:findIn K (.ref C2) "terms" = some none)
  (nf2x2:findIn K (.ref C2) "address" = some none)
  (nf2x3:findIn K (.ref C2) "word" = some none)
  (mm2x0:mroIn K C2 (.ref C0)=some false)
  (mm2x1:mroIn K C2 (.ref C1)=some false)
  (mm2x3:mroIn K C2 (.ref C3)=some false)
  (mm2x4:mroIn K C2 (.ref C4)=some false)
  (mm2x5:mroIn K C2 (.ref C5)=some false)
  (mm2x6:mroIn K C2 (.ref C6)=some true)
  (nf3x0:findIn K (.ref C3) "name" = some none)
  (nf3x1:findIn K (.ref C3) "terms" = some none)
  (nf3x2:findIn K (.ref C3) "address" = some none)
  (nf3x3:findIn K (.ref C3) "word" = some none)
  (mm3x0:mroIn K C3 (.ref C0)=some false)
  (mm3x1:mroIn K C3 (.ref C1)=some false)
  (mm3x2:mroIn K C3 (.ref C2)=some false)
  (mm3x4:mroIn K C3 (.ref C4)=some false)
  (mm3x5:mroIn K C3 (.ref C5)=some false)
  (mm3x6:mroIn K C3 (.ref C6)=some true)
  (nf4x0:findIn K (.ref C4) "name" = some none)
  (nf4x1:findIn K (.ref C4) "terms" = some none)
  (nf4x2:findIn K (.ref C4) "address" = some none)
  (nf4x3:findIn K (.ref C4) "word" = some none)
  (mm4x0:mroIn K C4 (.ref C0)=some false)
  (mm4x1:mroIn K C4 (.ref C1)=some false)
  (mm4x2:mroIn K C4 (.ref C2)=some false)
  (mm4x3:mroIn K C4 (.ref C3)=some false)
  (mm4x5:mroIn K C4 (.ref C5)=some false)
  (mm4x6:mroIn K C4 (.ref C6)=some true)
  (nf5x0:findIn K (.ref C5) "name" = some none)
  (nf5x1:findIn K (.ref C5) "terms" = some none)
  (nf5x2:findIn K (.ref C5) "address" = some none)
  (nf5x3:findIn K (.ref C5) "word" = some none)
  (mm5x0:mroIn K C5 (.ref C0)=some false)
  (mm5x1:mroIn K C5 (.ref C1)=some false)
  (mm5x2:mroIn K C5 (.ref C2)=some false)
  (mm5x3:mroIn K C5 (.ref C3)=some false)
  (mm5x4:mroIn K C5 (.ref C4)=some false)
  (mm5x6:mroIn K C5 (.ref C6)=some true)
  (nf6x0:findIn K (.ref C6) "name" = some none)
  (nf6x1:findIn K (.ref C6) "terms" = some none)
  (nf6x2:findIn K (.ref C6) "address" = some none)
  (nf6x3:findIn K (.ref C6) "word" = some none)
  (mm6x0:mroIn K C6 (.ref C0)=some false)
  (mm6x1:mroIn K C6 (.ref C1)=some false)
  (mm6x2:mroIn K C6 (.ref C2)=some false)
  (mm6x3:mroIn K C6 (.ref C3)=some false)
  (mm6x4:mroIn K C6 (.ref C4)=some false)
  (mm6x5:mroIn K C6 (.ref C5)=some false)
  (nf7x0:findIn K (.ref C7) "address" = some none)
  (nf7x1:findIn K (.ref C7) "rows" = some none)
  (nf8x0:findIn K (.ref C8) "told" = some none)
  (u0x5:findIn K (.ref C5) "binds" = some (some (.ref g0)))
  (u0x6:findIn K (.ref C6) "binds" = some (some (.ref g0)))
  (j0:MI K g0 "binds" "Row.binds" gJ)
  (u1x0:findIn K (.ref C0) "asked" = some (some (.ref g1)))
  (u1x1:findIn K (.ref C1) "asked" = some (some (.ref g1)))
  (u1x5:findIn K (.ref C5) "asked" = some (some (.ref g1)))
  (u1x6:findIn K (.ref C6) "asked" = some (some (.ref g1)))
  (j1:MI K g1 "asked" "Row.asked" gP)
  (u2x0:findIn K (.ref C0) "__init__" = some (some (.ref g2)))
  (j2:MI K g2 "__init__" "Let.__init__" dG)
  (u3x0:findIn K (.ref C0) "binds" = some (some (.ref g3)))
  (j3:MI K g3 "binds" "Let.binds" gF)
  (u4x1:findIn K (.ref C1) "__init__" = some (some (.ref g4)))
  (j4:MI K g4 "__init__" "Deed.__init__" dj)
  (u5x1:findIn K (.ref C1) "binds" = some (some (.ref g5)))
  (j5:MI K g5 "binds" "Deed.binds" fX)
  (u6x2:findIn K (.ref C2) "__init__" = some (some (.ref g6)))
  (j6:MI K g6 "__init__" "Draw.__init__" c7)
  (u7x2:findIn K (.ref C2) "binds" = some (some (.ref g7)))
  (j7:MI K g7 "binds" "Draw.binds" fu)
  (u8x2:findIn K (.ref C2) "asked" = some (some (.ref g8)))
  (j8:MI K g8 "asked" "Draw.asked" fQ)
  (u9x3:findIn K (.ref C3) "__init__" = some (some (.ref g9)))
  (j9:MI K g9 "__init__" "Late.__init__" cZ)
  (u10x3:findIn K (.ref C3) "binds" = some (some (.ref g10)))
  (j10:MI K g10 "binds" "Late.binds" fV)
  (u11x3:findIn K (.ref C3) "asked" = some (some (.ref g11)))
  (j11:MI K g11 "asked" "Late.asked" fB)
  (u12x4:findIn K (.ref C4) "__init__" = some (some (.ref g12)))
  (j12:MI K g12 "__init__" "Take.__init__" cT)
  (u13x4:findIn K (.ref C4) "binds" = some (some (.ref g13)))
  (j13:MI K g13 "binds" "Take.binds" fG)
  (u14x4:findIn K (.ref C4) "asked" = some (some (.ref g14)))
  (j14:MI K g14 "asked" "Take.asked" fL)
  (u15x5:findIn K (.ref C5) "__init__" = some (some (.ref g15)))
  (j15:MI K g15 "__init__" "Need.__init__" cR)
  (u16x8:findIn K (.ref C8) "__init__" = some (some (.ref g16)))
  (j16:MI K g16 "__init__" "House.__init__" cL)
  (u17x8:findIn K (.ref C8) "addresses" = some (some (.ref g17)))
  (j17:MI K g17 "addresses" "House.addresses" cC)
  (u18x8:findIn K (.ref C8) "has" = some (some (.ref g18)))
  (j18:MI K g18 "has" "House.has" gH)
  (u19x8:findIn K (.ref C8) "part" = some (some (.ref g19)))
  (j19:MI K g19 "part" "House.part" fM)
  (u20x8:findIn K (.ref C8) "with_part" = some (some (.ref g20)))
  (j20:MI K g20 "with_part" "House.with_part" cD)
  (u21x7:findIn K (.ref C7) "__init__" = some (some (.ref g21)))
  (j21:MI K g21 "__init__" "Part.__init__" cX)
  (u22x7:findIn K (.ref C7) "bound" = some (some (.ref g22)))
  (j22:MI K g22 "bound" "Part.bound" fc)
  (A20:nsIn K mainGlobals "HouseError" = some (some (.ref C20)))
  (B20:K.lookup C20=some (excClassObj nm20 qn20 C20 N20 bs20 uR true sn20 sub20 ab20 col20 dd20 x020 x120 x220 x320 x520 "ValueError.__new__"))
  (A21:nsIn K mainGlobals "NoPart" = some (some (.ref C21)))
  (B21:K.lookup C21=some (excClassObj nm21 qn21 C21 N21 bs21 (.ref C20::uR) true sn21 sub21 ab21 col21 dd21 x021 x121 x221 x321 x521 "ValueError.__new__"))
  (E0:findIn K (.ref C21) "__getattribute__" = some (some (.builtin "BaseException.__getattribute__")))
  (E1:findIn K (.ref C21) "__getattr__" = some none)
  (E2:findIn K (.ref C21) "__setattr__" = some (some (.builtin "object.__setattr__")))
  (E3:findIn K (.ref C21) "__class__" = some (some (.builtin "object.__class__")))
  (E4:findIn K (.ref C21) "address" = some none)
  (E5:findIn K (.ref C21) "__init__" = some (some (.ref gx)))
  (P21:keepIn K (.ref C21)=true)
  (jx:MI K gx "__init__" "NoPart.__init__" jh)
  (y1:specialIn K (.ref C20) "__getattribute__" = some (some (.builtin "type.__getattribute__")))
  (y2:readsIn K C20 (.type "type")=true)
  (y3:findCls K (.ref C20) (.type "type") "__init__" = some (.val (.builtin "ValueError.__init__")))
  (NH:K.lookup N20=some ⟨oN,dN,.dict esN nN,slN⟩)
  (SK:qx esN=true)
  (NI:nsFind esN "__init__" = none)
  (oi:findIn K (.ref C6) "__init__" = some (some (.builtin "object.__init__")))
  (cg:specialIn K (.builtin "object.__class__") "__get__" = some (some (.builtin "getset_descriptor.__get__")))
  (ctk:takesIn K (.builtin "object.__class__")=some true)
  (gc0:nsIn K mainGlobals "MOST_PARTS" = some (some (.int 12 tk0)))
  (z0:nsIn K mainGlobals "sorted" = some none)
  (z1:nsIn K mainGlobals "dict" = some none)
  (z2:nsIn K mainGlobals "set" = some none)
  (z3:nsIn K mainGlobals "any" = some none)
  (z4:nsIn K mainGlobals "enumerate" = some none)
  (z5:nsIn K mainGlobals "len" = some none)
  (z6:nsIn K mainGlobals "range" = some none)
  (z7:nsIn K mainGlobals "isinstance" = some none)
  (z8:nsIn K mainGlobals "str" = some none)
  (z9:nsIn K mainGlobals "int" = some none)
  (z10:nsIn K mainGlobals "bool" = some none)
  (z11:nsIn K mainGlobals "list" = some none)
  (z12:nsIn K mainGlobals "tuple" = some none)
  (z13:nsIn K mainGlobals "all" = some none)
  (z14:nsIn K mainGlobals "max" = some none)
  (z15:nsIn K mainGlobals "min" = some none)
  (z16:nsIn K mainGlobals "zip" = some none) :
  ∃ fd:FuncData,(∀ (s:Shared) (v:Value),BindsTo s fd ⟨[v],[]⟩ [("_law_script",v)])/\∀ base:Heap,K.In base->base.Ns mainGlobals mg->aK l.prog w K mg base CX0 12 fa fd ["_law_script"] (Dv K):=by
 have R0:RCl K C0:=⟨⟨D0.pg,D0.hd,D0.po,D0.sa⟩,D0.ca,cg,ctk,D0.mo⟩
 have R1:RCl K C1:=⟨⟨D1.pg,D1.hd,D1.po,D1.sa⟩,D1.ca,cg,ctk,D1.mo⟩
 have R2:RCl K C2:=⟨⟨D2.pg,D2.hd,D2.po,D2.sa⟩,D2.ca,cg,ctk,D2.mo⟩
 have R3:RCl K C3:=⟨⟨D3.pg,D3.hd,D3.po,D3.sa⟩,D3.ca,cg,ctk,D3.mo⟩
 have R4:RCl K C4:=⟨⟨D4.pg,D4.hd,D4.po,D4.sa⟩,D4.ca,cg,ctk,D4.mo⟩
 have R5:RCl K C5:=⟨⟨D5.pg,D5.hd,D5.po,D5.sa⟩,D5.ca,cg,ctk,D5.mo⟩
 have R6:RCl K C6:=⟨⟨D6.pg,D6.hd,D6.po,D6.sa⟩,D6.ca,cg,ctk,D6.mo⟩
 have R7:RCl K C7:=⟨⟨D7.pg,D7.hd,D7.po,D7.sa⟩,D7.ca,cg,ctk,D7.mo⟩
 have R8:RCl K C8:=⟨⟨D8.pg,D8.hd,D8.po,D8.sa⟩,D8.ca,cg,ctk,D8.mo⟩
 have FM:O5 K (fun i=>[C0,C1,C2,C3,C4,C5,C6,C7,C8,0,0,0,0,0,0,0,0,0,0,0,C20,C21].getD i 0):=⟨rM R0 R1 R2 R3 R4 R5 R6,fun i j h1 h2=>rM (p:=fun i=>∀ j,j<=6->kitOne K (.ref ([C0,C1,C2,C3,C4,C5,C6,C7,C8,0,0,0,0,0,0,0,0,0,0,0,C20,C21].getD i 0)) (.ref ([C0,C1,C2,C3,C4,C5,C6,C7,C8,0,0,0,0,0,0,0,0,0,0,0,C20,C21].getD j 0))=some (vA i j)) (rM (aN D0.mm D0.mm D0.mo D0.ty) (aN mm0x1 D1.mm D1.mo D1.ty) (aN mm0x2 D2.mm D2.mo D2.ty) (aN mm0x3 D3.mm D3.mo D3.ty) (aN mm0x4 D4.mm D4.mo D4.ty) (aN mm0x5 D5.mm D5.mo D5.ty) (aN mm0x6 D6.mm D6.mo D6.ty)) (rM (aN mm1x0 D0.mm D0.mo D0.ty) (aN D1.mm D1.mm D1.mo D1.ty) (aN mm1x2 D2.mm D2.mo D2.ty) (aN mm1x3 D3.mm D3.mo D3.ty) (aN mm1x4 D4.mm D4.mo D4.ty) (aN mm1x5 D5.mm D5.mo D5.ty) (aN mm1x6 D6.mm D6.mo D6.ty)) (rM (aN mm2x0 D0.mm D0.mo D0.ty) (aN mm2x1 D1.mm D1.mo D1.ty) (aN D2.mm D2.mm D2.mo D2.ty) (aN mm2x3 D3.mm D3.mo D3.ty) (aN mm2x4 D4.mm D4.mo D4.ty) (aN mm2x5 D5.mm D5.mo D5.ty) (aN mm2x6 D6.mm D6.mo D6.ty)) (rM (aN mm3x0 D0.mm D0.mo D0.ty) (aN mm3x1 D1.mm D1.mo D1.ty) (aN mm3x2 D2.mm D2.mo D2.ty) (aN D3.mm D3.mm D3.mo D3.ty) (aN mm3x4 D4.mm D4.mo D4.ty) (aN mm3x5 D5.mm D5.mo D5.ty) (aN mm3x6 D6.mm D6.mo D6.ty)) (rM (aN mm4x0 D0.mm D0.mo D0.ty) (aN mm4x1 D1.mm D1.mo D1.ty) (aN mm4x2 D2.mm D2.mo D2.ty) (aN mm4x3 D3.mm D3.mo D3.ty) (aN D4.mm D4.mm D4.mo D4.ty) (aN mm4x5 D5.mm D5.mo D5.ty) (aN mm4x6 D6.mm D6.mo D6.ty)) (rM (aN mm5x0 D0.mm D0.mo D0.ty) (aN mm5x1 D1.mm D1.mo D1.ty) (aN mm5x2 D2.mm D2.mo D2.ty) (aN mm5x3 D3.mm D3.mo D3.ty) (aN mm5x4 D4.mm D4.mo D4.ty) (aN D5.mm D5.mm D5.mo D5.ty) (aN mm5x6 D6.mm D6.mo D6.ty)) (rM (aN mm6x0 D0.mm D0.mo D0.ty) (aN mm6x1 D1.mm D1.mo D1.ty) (aN mm6x2 D2.mm D2.mo D2.ty) (aN mm6x3 D3.mm D3.mo D3.ty) (aN mm6x4 D4.mm D4.mo D4.ty) (aN mm6x5 D5.mm D5.mo D5.ty) (aN D6.mm D6.mm D6.mo D6.ty)) i h1 j h2,rM nf0x0 nf1x0 nf2x0 nf3x0 nf4x0 nf5x0 nf6x0,rM nf0x1 nf1x1 nf2x1 nf3x1 nf4x1 nf5x1 nf6x1,rM nf0x2 nf1x2 nf2x2 nf3x2 nf4x2 nf5x2 nf6x2,rM nf0x3 nf1x3 nf2x3 nf3x3 nf4x3 nf5x3 nf6x3⟩
 have IX:∃ f fd,XIn K C21 "NoPart.__init__" jh f9 f fd:=by
  obtain⟨⟨fd,F⟩,i1,i2⟩:=jx
  exact⟨gx,fd,F,F.binds ba2,E5,i1,P21,Z0⟩
 have TT:Tx K mg (fun i=>[C0,C1,C2,C3,C4,C5,C6,C7,C8,0,0,0,0,0,0,0,0,0,0,0,C20,C21].getD i 0):=⟨mg_none_of X G z0,mg_none_of X G z1,mg_none_of X G z2,mg_none_of X G z3,mg_none_of X G z4,mg_none_of X G z5,mg_none_of X G z6,mg_none_of X G z7,mg_none_of X G z8,mg_none_of X G z9,mg_none_of X G z10,mg_none_of X G z11,mg_none_of X G z12,mg_none_of X G z13,mg_none_of X G z14,mg_none_of X G z15,mg_none_of X G z16,⟨_,mg_of X G gc0⟩,fat X G ba1 h0,fat X G ba1 h1,fat X G ba1 h2,fat X G ba2 h3,fat X G ba2 h4,fat X G ba1 h5,fat X G ba2 h6,fat X G ba2 h7,fat X G ba3 h8,fat X G ba2 h9,fat X G ba3 h10,fat X G ba2 h11,fat X G ba1 h12,fat X G ba2 h13,fat X G ba2 h14,fat X G ba1 h15,fat X G ba2 h16,fat X G ba3 h17,fat X G ba1 h18,fat X G ba3 h19,fat X G ba3 h20,fat X G ba4 h21,fat X G ba3 h22,fat X G ba1 h23,fat X G ba2 h24,fat X G ba1 h25,fat X G ba1 h26,fat X G ba4 h27,fat X G ba2 h28,fat X G ba2 h29,jg ba1 j0 fun i k=>⟨⟨u0x5,i,k⟩,⟨u0x6,i,k⟩⟩,jg ba1 j1 fun i k=>⟨⟨u1x0,i,k⟩,⟨u1x1,i,k⟩,⟨u1x5,i,k⟩,⟨u1x6,i,k⟩⟩,jg ba3 j2 fun i k=>⟨D0.mq,u2x0,i,D0.kc⟩,jg ba1 j3 fun i k=>⟨u3x0,i,k⟩,jg ba3 j4 fun i k=>⟨D1.mq,u4x1,i,D1.kc⟩,jg ba1 j5 fun i k=>⟨u5x1,i,k⟩,jg ba3 j6 fun i k=>⟨D2.mq,u6x2,i,D2.kc⟩,jg ba1 j7 fun i k=>⟨u7x2,i,k⟩,jg ba1 j8 fun i k=>⟨u8x2,i,k⟩,jg ba3 j9 fun i k=>⟨D3.mq,u9x3,i,D3.kc⟩,jg ba1 j10 fun i k=>⟨u10x3,i,k⟩,jg ba1 j11 fun i k=>⟨u11x3,i,k⟩,jg ba4 j12 fun i k=>⟨D4.mq,u12x4,i,D4.kc⟩,jg ba1 j13 fun i k=>⟨u13x4,i,k⟩,jg ba1 j14 fun i k=>⟨u14x4,i,k⟩,jg ba2 j15 fun i k=>⟨D5.mq,u15x5,i,D5.kc⟩,jg ba2 j16 fun i k=>⟨D8.mq,u16x8,i,D8.kc⟩,jg ba1 j17 fun i k=>⟨u17x8,i,k⟩,jg ba2 j18 fun i k=>⟨u18x8,i,k⟩,jg ba2 j19 fun i k=>⟨u19x8,i,k⟩,jg ba2 j20 fun i k=>⟨u20x8,i,k⟩,jg ba3 j21 fun i k=>⟨D7.mq,u21x7,i,D7.kc⟩,jg ba1 j22 fun i k=>⟨u22x7,i,k⟩,mg_of X G D0.A,mg_of X G D1.A,mg_of X G D2.A,mg_of X G D3.A,mg_of X G D4.A,mg_of X G D5.A,mg_of X G D6.A,mg_of X G D7.A,mg_of X G D8.A,⟨D6.mq,oi,D6.kc⟩,FM,⟨R7,nf7x0,nf7x1,aN D7.mm D7.mm D7.mo D7.ty⟩,⟨R8,nf8x0⟩,mg_of X G A20,mg_of X G A21,Mj B20,Jt B20 NH SK NI B21,Kv B21 rfl rfl E0 E1 E2 E3 cg ctk,⟨_,_,_,_,_,_,_,_,_,_,_,_,_,_,_,_,_,B21,Z2⟩,E4,(Jx B21 B21).trans Z2,IX,y1,y2,y3⟩
 obtain⟨f,fd,a,F⟩:=h30
 cases hfa.symm.trans (mg_of X G a)
 obtain⟨oc,od,kV,doc,pm,an,cdv,ct,osl,rfl,lk,hcd⟩:=id F.ex
 exact⟨_,fun s v=>.of_eq rfl,fun base _ _=>Nb TT F⟩
theorem walk {l:OpenLaw} {q:Program} {loose:List Str} {XP:(Str->Option Value)->Heap->Prop} {YP:World->Heap->Prop} {d:DefRec} {K:Params->Frag} (hn:l.most=some 63) (hdf:d.params.defaults=[])
  (hY:∀ (w:World) (h:Heap),YP w h->(K w.params).In h)
  (F:∀ (w:World) (mg:MG) (fa:Addr) (h:Heap),(K w.params).In h->h.Ns mainGlobals mg->mg d.name=some (.ref fa) ->
   ∃ fd:FuncData,(∀ (s:Shared) (u:Value),BindsTo s fd ⟨[u],[]⟩ [("_law_script",u)])/\∀ base:Heap,(K w.params).In base->base.Ns mainGlobals mg->aK l.prog w (K w.params) mg base CX0 12 fa fd ["_law_script"] (Dv (K w.params))) :
  WalkO q loose XP YP l.row.toRowW d [] (fun f vs=>PySem.call f vs) :=
 L2.J0 (n:=63) (k:=12) (x := "_law_script") (CX:=fun _=>CX0) (sp:=fun w=>Dv (K w.params)) hn Z0 hdf ⟨rfl,Z0,Z0⟩ hY F (fun _ _ a ns hl _ hS=>⟨a,ns,rfl,hS,hl,fun _=>rfl⟩) fun _ _ _ _ _ z=>z
noncomputable section
noncomputable abbrev ke(P:Params)(x:Str)(t:Nat)(v:Value):DictEntry:=⟨PyData.keyHash P x,.str x t,v⟩
noncomputable abbrev nq(b:Bool)(o:Obj):Str:=match o.data with|.fields a=>(match a.toList with|.str n _::.str q _::_=>bif b then n else q|_ => "")|_ => ""
noncomputable abbrev kf(s:Stmt)(s0:Obj)(m:Value)(c:Nat):Obj:={cls:=.type "function",data:=.func {name:=nq true s0,qualname:=nq false s0,params:=L2.cY s,body:=.stmts (L2.b7 s),scope:=L2.aC s,globals:=3,closure:=[],defaults:=.none,kwdefaults:=.none,pyModule:=m,code:=.ref c}}
noncomputable abbrev kc(n q:Str)(a b c:Nat)(l k:Int)(f r:Nat)(t:Bool)(g:Int)(u:Nat)(x y z:Value)(v:Nat)(m:Int)(e:Nat):Obj:={cls:=.type "code",data:=.fields #[.str n a,.str q b,.str "/claim/cut.py" c,.int l 0,.int k 0,.int 0 0,.int 0 0,.int f 0,.ref r,.bool t,.int g 0,.ref u,x,y,z,.ref v,.int m 0,.int l 0,.str "/claim/cut.py" e]}
noncomputable abbrev kt(n:Str)(b s:Value)(m:List Value)(d:Nat)(x:Option Value)(t u:Nat)(w:String)(l:List Value):Obj:={cls:=.type "type",data:=.cls {name:=n,bases:=[b],mro:=s::m,ns:=d,qualname:=n,subclasses:=l},slots:=#[x,none,some (.str n t),some (.str n u),some (.builtin w),some (.bool true)]}
noncomputable abbrev kd(n q:Str)(a:Nat)(l k:Int)(f r m:Nat):Obj:=kc n q a (a+1) (a+2) l k f r true 181 (r+1) .none (.ref (r+2)) (.ref (r+3)) (r+4) m (m+1)
noncomputable abbrev kb(n q:Str)(a:Nat)(l k:Int)(f r m:Nat):Obj:=kc n q a (a+1) (a+2) l k f r true 181 (r+1) .none .none .none (r+2) m (m+1)
noncomputable abbrev ku(n:Str)(a:Nat)(l k:Int)(f r m:Nat):Obj:=kd n n a l k f r m
noncomputable abbrev kv(n:Str)(a:Nat)(l k:Int)(f r m:Nat):Obj:=kb n n a l k f r m
noncomputable abbrev g1(t a:Nat):Obj:={cls:=.type "getset_descriptor",data:=.fields #[.str "__dict__" t,.ref a,.builtin "function.__dict__",.builtin "function.__dict__#set"]}
noncomputable abbrev g2(t a:Nat):Obj:={cls:=.type "getset_descriptor",data:=.fields #[.str "__weakref__" t,.ref a,.builtin "ExceptionGroup.__weakref__",.none]}
abbrev mE:List Value:=[.type "ValueError",.type "Exception",.type "BaseException",.type "object"]
abbrev mO:List Value:=[.type "object"]
noncomputable abbrev ks(P:Params)(t r:Nat):DictEntry:=ke P "__static_attributes__" t (.ref r)
noncomputable abbrev kw(P:Params)(t r:Nat):DictEntry:=ke P "__weakref__" t (.ref r)
noncomputable abbrev kx(P:Params)(t r:Nat):DictEntry:=ke P "__dict__" t (.ref r)
noncomputable abbrev ki(P:Params)(t r:Nat):DictEntry:=ke P "__init__" t (.ref r)
noncomputable abbrev ko(P:Params)(t:Nat):DictEntry:=ke P "__doc__" t .none
noncomputable abbrev kz(P:Params)(m:Value)(a:Nat)(l:Int)(r:List DictEntry)(k:Nat):Obj:={cls:=.type "dict",data:=.dict (List.toArray (ke P "__module__" a m::ke P "__firstlineno__" (a+4) (.int l (a+3))::r)) k}
abbrev Mm:Value:=.str "__main__" 164
abbrev iZ:Value:=.str "drawhouse.errors" 194
abbrev Oj:Value:=.str "drawhouse.words" 339
abbrev b8:Value:=.str "drawhouse.rows" 354
abbrev Bc:Value:=.str "drawhouse.links" 657
abbrev Jv:Value:=.str "drawhouse.knots" 724
abbrev sr:Value:=.str "drawhouse.house" 755
abbrev Bt:Value:=.str "drawhouse.parts" 844
abbrev o9:Value:=.str "law_drawhouse_k37_whole_knots" 898
abbrev n0(P:Params)(r:List DictEntry):List DictEntry:=ke P "__doc__" 166 .none::ke P "__package__" 167 .none::ke P "__loader__" 168 (.builtin "__main__.__loader__#opaque")::ke P "__spec__" 169 .none::ke P "__annotations__" 170 (.ref 6)::ke P "__builtins__" 171 (.ref 4)::ke P "__file__" 173 (.str "/claim/cut.py" 172)::ke P "__cached__" 174 .none::ke P "_wall" 193 (.ref 21)::ke P "HouseError" 213 (.ref 31)::ke P "TooMany" 238 (.ref 51)::ke P "Double" 263 (.ref 70)::ke P "Orphan" 288 (.ref 89)::ke P "Clash" 313 (.ref 108)::ke P "NoPart" 338 (.ref 127)::ke P "prefixes" 346 (.ref 134)::ke P "parent_of" 353 (.ref 141)::r
abbrev n1(P:Params)(r:List DictEntry):List DictEntry:=ke P "Row" 396 (.ref 172)::ke P "Let" 437 (.ref 207)::ke P "Deed" 478 (.ref 240)::ke P "Draw" 526 (.ref 280)::ke P "Late" 574 (.ref 320)::r
abbrev n2(P:Params)(r:List DictEntry):List DictEntry:=ke P "Take" 624 (.ref 360)::ke P "Need" 656 (.ref 386)::ke P "named_by" 667 (.ref 395)::ke P "links" 673 (.ref 400)::ke P "all_links" 682 (.ref 407)::ke P "reached" 693 (.ref 414)::ke P "check_part" 701 (.ref 421)::ke P "leads" 709 (.ref 428)::ke P "way_between" 723 (.ref 435)::ke P "knot_of" 731 (.ref 440)::ke P "may_come" 742 (.ref 447)::ke P "in_order" 748 (.ref 452)::ke P "knots" 754 (.ref 457)::ke P "MOST_PARTS" 758 (.int 12 757)::ke P "is_orphan" 767 (.ref 464)::ke P "is_clash" 773 (.ref 469)::ke P "check_parts" 779 (.ref 474)::ke P "House" 843 (.ref 520)::r
abbrev n3(P:Params)(r:List DictEntry):List DictEntry:=ke P "Part" 897 (.ref 560)::ke P "_law_cell" 907 (.ref 571)::ke P "_law_pick" 919 (.ref 578)::ke P "_law_words" 925 (.ref 583)::ke P "_law_addresses" 931 (.ref 588)::ke P "_law_prefixes" 937 (.ref 593)::ke P "_law_asked" 948 (.ref 600)::ke P "_law_drawn" 954 (.ref 605)::ke P "_law_rows" 960 (.ref 610)::ke P "_law_row" 972 (.ref 617)::ke P "_law_parts" 978 (.ref 622)::ke P "_law_made" 988 (.ref 629)::ke P "_law_walked" 999 (.ref 636)::ke P "_law_within" 1009 (.ref 643)::ke P "_law_put_together" 1020 (.ref 650)::ke P "law" 1026 (.ref 655)::r
abbrev k3(P:Params):Obj:={cls:=.type "dict",data:=.dict (List.toArray (ke P "__name__" 165 (.str "law_drawhouse_k37_whole_knots" 898)::n0 P (n1 P (n2 P (n3 P ([])))))) 57}
abbrev k20:=ku "_wall" 187 1 1 3 15 191
abbrev k21:=kf (Mine.top 0) k20 Mm 20
abbrev k30(P:Params):Obj:=kz P iZ 203 5 [ks P 208 29,kw P 210 32,ko P 211] 3
abbrev k31:=kt "HouseError" (.type "ValueError") (.ref 31) mE 30 (some (.ref 22)) 196 204 "ValueError.__new__" [.ref 51,.ref 70,.ref 89,.ref 108,.ref 127]
abbrev k32:=g2 209 31
abbrev k47:=kd "__init__" "TooMany.__init__" 226 9 2 3 42 231
abbrev k48:=kf (Mine.sb 3 0) k47 iZ 47
abbrev k50(P:Params):Obj:=kz P iZ 221 7 [ki P 233 48,ks P 235 49,ko P 236] 2
abbrev k51:=kt "TooMany" (.ref 31) (.ref 51) (.ref 31::mE) 50 (some (.ref 35)) 214 222 "ValueError.__new__" []
abbrev k66:=kd "__init__" "Double.__init__" 251 14 2 3 61 256
abbrev k67:=kf (Mine.sb 4 0) k66 iZ 66
abbrev k69(P:Params):Obj:=kz P iZ 246 12 [ki P 258 67,ks P 260 68,ko P 261] 2
abbrev k70:=kt "Double" (.ref 31) (.ref 70) (.ref 31::mE) 69 (some (.ref 54)) 239 247 "ValueError.__new__" []
abbrev k85:=kd "__init__" "Orphan.__init__" 276 19 2 3 80 281
abbrev k86:=kf (Mine.sb 5 0) k85 iZ 85
abbrev k88(P:Params):Obj:=kz P iZ 271 17 [ki P 283 86,ks P 285 87,ko P 286] 2
abbrev k89:=kt "Orphan" (.ref 31) (.ref 89) (.ref 31::mE) 88 (some (.ref 73)) 264 272 "ValueError.__new__" []
abbrev k104:=kd "__init__" "Clash.__init__" 301 24 2 3 99 306
abbrev k105:=kf (Mine.sb 6 0) k104 iZ 104
abbrev k107(P:Params):Obj:=kz P iZ 296 22 [ki P 308 105,ks P 310 106,ko P 311] 2
abbrev k108:=kt "Clash" (.ref 31) (.ref 108) (.ref 31::mE) 107 (some (.ref 92)) 289 297 "ValueError.__new__" []
abbrev k123:=kd "__init__" "NoPart.__init__" 326 29 2 3 118 331
abbrev k124:=kf (Mine.sb 7 0) k123 iZ 123
abbrev k126(P:Params):Obj:=kz P iZ 321 27 [ki P 333 124,ks P 335 125,ko P 336] 2
abbrev k127:=kt "NoPart" (.ref 31) (.ref 127) (.ref 31::mE) 126 (some (.ref 111)) 314 322 "ValueError.__new__" []
abbrev k133:=kv "prefixes" 341 33 1 3 130 344
abbrev k134:=kf (Mine.top 9) k133 Oj 133
abbrev k140:=ku "parent_of" 347 36 1 3 135 351
abbrev k141:=kf (Mine.top 10) k140 Oj 140
abbrev k154:=kd "binds" "Row.binds" 368 41 1 3 149 372
abbrev k155:=kf (Mine.sb 12 0) k154 b8 154
abbrev k161:=kd "asked" "Row.asked" 375 44 1 3 156 379
abbrev k162:=kf (Mine.sb 12 1) k161 b8 161
abbrev k168:=kd "said" "Row.said" 382 47 1 3 163 386
abbrev k169:=kf (Mine.sb 12 2) k168 b8 168
abbrev k171(P:Params):Obj:=kz P b8 363 39 [ke P "binds" 374 (.ref 155),ke P "asked" 381 (.ref 162),ke P "said" 388 (.ref 169),ks P 389 170,kx P 391 173,kw P 393 174,ko P 394] 4
abbrev k172:=kt "Row" (.type "object") (.ref 172) mO 171 none 356 364 "object.__new__" [.ref 207,.ref 240,.ref 280,.ref 320,.ref 360,.ref 386]
abbrev k173:=g1 390 172
abbrev k174:=g2 392 172
abbrev k189:=kd "__init__" "Let.__init__" 409 51 3 3 184 415
abbrev k190:=kf (Mine.sb 13 0) k189 b8 189
abbrev k196:=kd "binds" "Let.binds" 418 55 1 3 191 422
abbrev k197:=kf (Mine.sb 13 1) k196 b8 196
abbrev k203:=kd "said" "Let.said" 425 58 1 3 198 429
abbrev k204:=kf (Mine.sb 13 2) k203 b8 203
abbrev k206(P:Params):Obj:=kz P b8 404 49 [ki P 417 190,ke P "binds" 424 (.ref 197),ke P "said" 431 (.ref 204),ks P 434 205,ko P 435] 2
abbrev k207:=kt "Let" (.ref 172) (.ref 207) (.ref 172::mO) 206 (some (.ref 177)) 397 405 "object.__new__" []
abbrev k222:=kd "__init__" "Deed.__init__" 450 62 3 3 217 456
abbrev k223:=kf (Mine.sb 14 0) k222 b8 222
abbrev k229:=kd "binds" "Deed.binds" 459 66 1 3 224 463
abbrev k230:=kf (Mine.sb 14 1) k229 b8 229
abbrev k236:=kd "said" "Deed.said" 466 69 1 3 231 470
abbrev k237:=kf (Mine.sb 14 2) k236 b8 236
abbrev k239(P:Params):Obj:=kz P b8 445 60 [ki P 458 223,ke P "binds" 465 (.ref 230),ke P "said" 472 (.ref 237),ks P 475 238,ko P 476] 2
abbrev k240:=kt "Deed" (.ref 172) (.ref 240) (.ref 172::mO) 239 (some (.ref 210)) 438 446 "object.__new__" []
abbrev k255:=kd "__init__" "Draw.__init__" 491 73 3 3 250 497
abbrev k256:=kf (Mine.sb 15 0) k255 b8 255
abbrev k262:=kd "binds" "Draw.binds" 500 77 1 3 257 504
abbrev k263:=kf (Mine.sb 15 1) k262 b8 262
abbrev k269:=kd "asked" "Draw.asked" 507 80 1 3 264 511
abbrev k270:=kf (Mine.sb 15 2) k269 b8 269
abbrev k276:=kd "said" "Draw.said" 514 83 1 3 271 518
abbrev k277:=kf (Mine.sb 15 3) k276 b8 276
abbrev k279(P:Params):Obj:=kz P b8 486 71 [ki P 499 256,ke P "binds" 506 (.ref 263),ke P "asked" 513 (.ref 270),ke P "said" 520 (.ref 277),ks P 523 278,ko P 524] 2
abbrev k280:=kt "Draw" (.ref 172) (.ref 280) (.ref 172::mO) 279 (some (.ref 243)) 479 487 "object.__new__" []
abbrev k295:=kd "__init__" "Late.__init__" 539 87 3 3 290 545
abbrev k296:=kf (Mine.sb 16 0) k295 b8 295
abbrev k302:=kd "binds" "Late.binds" 548 91 1 3 297 552
abbrev k303:=kf (Mine.sb 16 1) k302 b8 302
abbrev k309:=kd "asked" "Late.asked" 555 94 1 3 304 559
abbrev k310:=kf (Mine.sb 16 2) k309 b8 309
abbrev k316:=kd "said" "Late.said" 562 97 1 3 311 566
abbrev k317:=kf (Mine.sb 16 3) k316 b8 316
abbrev k319(P:Params):Obj:=kz P b8 534 85 [ki P 547 296,ke P "binds" 554 (.ref 303),ke P "asked" 561 (.ref 310),ke P "said" 568 (.ref 317),ks P 571 318,ko P 572] 2
abbrev k320:=kt "Late" (.ref 172) (.ref 320) (.ref 172::mO) 319 (some (.ref 283)) 527 535 "object.__new__" []
abbrev k335:=kd "__init__" "Take.__init__" 587 101 4 3 330 594
abbrev k336:=kf (Mine.sb 17 0) k335 b8 335
abbrev k342:=kd "binds" "Take.binds" 597 106 1 3 337 601
abbrev k343:=kf (Mine.sb 17 1) k342 b8 342
abbrev k349:=kd "asked" "Take.asked" 604 109 1 3 344 608
abbrev k350:=kf (Mine.sb 17 2) k349 b8 349
abbrev k356:=kd "said" "Take.said" 611 112 1 3 351 615
abbrev k357:=kf (Mine.sb 17 3) k356 b8 356
abbrev k359(P:Params):Obj:=kz P b8 582 99 [ki P 596 336,ke P "binds" 603 (.ref 343),ke P "asked" 610 (.ref 350),ke P "said" 617 (.ref 357),ks P 621 358,ko P 622] 2
abbrev k360:=kt "Take" (.ref 172) (.ref 360) (.ref 172::mO) 359 (some (.ref 323)) 575 583 "object.__new__" []
abbrev k375:=kd "__init__" "Need.__init__" 637 116 2 3 370 642
abbrev k376:=kf (Mine.sb 18 0) k375 b8 375
abbrev k382:=kd "said" "Need.said" 645 119 1 3 377 649
abbrev k383:=kf (Mine.sb 18 1) k382 b8 382
abbrev k385(P:Params):Obj:=kz P b8 632 114 [ki P 644 376,ke P "said" 651 (.ref 383),ks P 653 384,ko P 654] 2
abbrev k386:=kt "Need" (.ref 172) (.ref 386) (.ref 172::mO) 385 (some (.ref 363)) 625 633 "object.__new__" []
abbrev k394:=ku "named_by" 659 122 1 3 389 665
abbrev k395:=kf (Mine.top 20) k394 Bc 394
abbrev k399:=kv "links" 668 129 2 3 396 671
abbrev k400:=kf (Mine.top 21) k399 Bc 399
abbrev k406:=ku "all_links" 674 135 1 3 401 680
abbrev k407:=kf (Mine.top 22) k406 Bc 406
abbrev k413:=ku "reached" 683 140 2 3 408 691
abbrev k414:=kf (Mine.top 23) k413 Bc 413
abbrev k420:=ku "check_part" 694 149 2 3 415 699
abbrev k421:=kf (Mine.top 24) k420 Bc 420
abbrev k427:=ku "leads" 702 152 2 3 422 707
abbrev k428:=kf (Mine.top 25) k427 Bc 427
abbrev k434:=ku "way_between" 710 155 3 3 429 721
abbrev k435:=kf (Mine.top 26) k434 Bc 434
abbrev k439:=kv "knot_of" 726 171 2 3 436 729
abbrev k440:=kf (Mine.top 28) k439 Jv 439
abbrev k446:=ku "may_come" 732 173 3 3 441 740
abbrev k447:=kf (Mine.top 29) k446 Jv 446
abbrev k451:=kv "in_order" 743 179 2 3 448 746
abbrev k452:=kf (Mine.top 30) k451 Jv 451
abbrev k456:=kv "knots" 749 189 1 3 453 752
abbrev k457:=kf (Mine.top 31) k456 Jv 456
abbrev k463:=ku "is_orphan" 759 198 2 3 458 765
abbrev k464:=kf (Mine.top 34) k463 sr 463
abbrev k468:=kv "is_clash" 768 201 2 3 465 771
abbrev k469:=kf (Mine.top 35) k468 sr 468
abbrev k473:=kv "check_parts" 774 203 1 3 470 777
abbrev k474:=kf (Mine.top 36) k473 sr 473
abbrev k487:=kd "__init__" "House.__init__" 792 216 2 3 482 797
abbrev k488:=kf (Mine.sb 37 0) k487 sr 487
abbrev k492:=kb "addresses" "House.addresses" 800 220 1 3 489 803
abbrev k493:=kf (Mine.sb 37 1) k492 sr 492
abbrev k497:=kb "has" "House.has" 806 223 2 3 494 809
abbrev k498:=kf (Mine.sb 37 2) k497 sr 497
abbrev k504:=kd "part" "House.part" 812 226 2 3 499 818
abbrev k505:=kf (Mine.sb 37 3) k504 sr 504
abbrev k509:=kb "with_part" "House.with_part" 821 232 2 3 506 824
abbrev k510:=kf (Mine.sb 37 4) k509 sr 509
abbrev k516:=kd "without" "House.without" 827 237 2 3 511 832
abbrev k517:=kf (Mine.sb 37 5) k516 sr 516
abbrev k519(P:Params):Obj:=kz P sr 787 214 [ki P 799 488,ke P "addresses" 805 (.ref 493),ke P "has" 811 (.ref 498),ke P "part" 820 (.ref 505),ke P "with_part" 826 (.ref 510),ke P "without" 834 (.ref 517),ks P 836 518,kx P 838 521,kw P 840 522,ko P 841] 4
abbrev k520:=kt "House" (.type "object") (.ref 520) mO 519 none 780 788 "object.__new__" []
abbrev k521:=g1 837 520
abbrev k522:=g2 839 520
abbrev k537:=kd "__init__" "Part.__init__" 858 242 3 3 532 864
abbrev k538:=kf (Mine.sb 39 0) k537 Bt 537
abbrev k542:=kb "bound" "Part.bound" 867 246 1 3 539 870
abbrev k543:=kf (Mine.sb 39 1) k542 Bt 542
abbrev k549:=kd "place_of" "Part.place_of" 873 250 2 3 544 878
abbrev k550:=kf (Mine.sb 39 2) k549 Bt 549
abbrev k556:=kd "text" "Part.text" 881 253 1 3 551 885
abbrev k557:=kf (Mine.sb 39 3) k556 Bt 556
abbrev k559(P:Params):Obj:=kz P Bt 853 240 [ki P 866 538,ke P "bound" 872 (.ref 543),ke P "place_of" 880 (.ref 550),ke P "text" 887 (.ref 557),ks P 890 558,kx P 892 561,kw P 894 562,ko P 895] 4
abbrev k560:=kt "Part" (.type "object") (.ref 560) mO 559 none 846 854 "object.__new__" []
abbrev k561:=g1 891 560
abbrev k562:=g2 893 560
abbrev k570:=ku "_law_cell" 900 256 2 3 565 905
abbrev k571:=kf (Mine.top 41) k570 o9 570
abbrev k577:=ku "_law_pick" 908 260 3 3 572 917
abbrev k578:=kf (Mine.top 42) k577 o9 577
abbrev k582:=kv "_law_words" 920 269 1 3 579 923
abbrev k583:=kf (Mine.top 43) k582 o9 582
abbrev k587:=kv "_law_addresses" 926 282 3 3 584 929
abbrev k588:=kf (Mine.top 44) k587 o9 587
abbrev k592:=kv "_law_prefixes" 932 295 1 3 589 935
abbrev k593:=kf (Mine.top 45) k592 o9 592
abbrev k599:=ku "_law_asked" 938 298 3 3 594 946
abbrev k600:=kf (Mine.top 46) k599 o9 599
abbrev k604:=kv "_law_drawn" 949 306 4 3 601 952
abbrev k605:=kf (Mine.top 47) k604 o9 604
abbrev k609:=kv "_law_rows" 955 319 3 3 606 958
abbrev k610:=kf (Mine.top 48) k609 o9 609
abbrev k616:=ku "_law_row" 961 331 1 3 611 970
abbrev k617:=kf (Mine.top 49) k616 o9 616
abbrev k621:=kv "_law_parts" 973 347 2 3 618 976
abbrev k622:=kf (Mine.top 50) k621 o9 621
abbrev k628:=ku "_law_made" 979 349 1 3 623 986
abbrev k629:=kf (Mine.top 51) k628 o9 628
abbrev k635:=ku "_law_walked" 989 356 4 3 630 997
abbrev k636:=kf (Mine.top 52) k635 o9 635
abbrev k642:=ku "_law_within" 1000 363 2 3 637 1007
abbrev k643:=kf (Mine.top 53) k642 o9 642
abbrev k649:=ku "_law_put_together" 1010 371 2 3 644 1018
abbrev k650:=kf (Mine.top 54) k649 o9 649
abbrev k654:=kv "law" 1021 379 1 3 651 1024
abbrev k655:=kf (Mine.top 55) k654 o9 654
def myK:Params->Frag:=fun P =>
 (nat_lit 2,{cls:=Value.none,data:=Data.dict #[]}) ::
 (nat_lit 3,k3 P) ::
 (nat_lit 20,k20) ::
 (nat_lit 21,k21) ::
 (nat_lit 30,k30 P) ::
 (nat_lit 31,k31) ::
 (nat_lit 32,k32) ::
 (nat_lit 47,k47) ::
 (nat_lit 48,k48) ::
 (nat_lit 50,k50 P) ::
 (nat_lit 51,k51) ::
 (nat_lit 66,k66) ::
 (nat_lit 67,k67) ::
 (nat_lit 69,k69 P) ::
 (nat_lit 70,k70) ::
 (nat_lit 85,k85) ::
 (nat_lit 86,k86) ::
 (nat_lit 88,k88 P) ::
 (nat_lit 89,k89) ::
 (nat_lit 104,k104) ::
 (nat_lit 105,k105) ::
 (nat_lit 107,k107 P) ::
 (nat_lit 108,k108) ::
 (nat_lit 123,k123) ::
 (nat_lit 124,k124) ::
 (nat_lit 126,k126 P) ::
 (nat_lit 127,k127) ::
 (nat_lit 133,k133) ::
 (nat_lit 134,k134) ::
 (nat_lit 140,k140) ::
 (nat_lit 141,k141) ::
 (nat_lit 154,k154) ::
 (nat_lit 155,k155) ::
 (nat_lit 161,k161) ::
 (nat_lit 162,k162) ::
 (nat_lit 168,k168) ::
 (nat_lit 169,k169) ::
 (nat_lit 171,k171 P) ::
 (nat_lit 172,k172) ::
 (nat_lit 173,k173) ::
 (nat_lit 174,k174) ::
 (nat_lit 189,k189) ::
 (nat_lit 190,k190) ::
 (nat_lit 196,k196) ::
 (nat_lit 197,k197) ::
 (nat_lit 203,k203) ::
 (nat_lit 204,k204) ::
 (nat_lit 206,k206 P) ::
 (nat_lit 207,k207) ::
 (nat_lit 222,k222) ::
 (nat_lit 223,k223) ::
 (nat_lit 229,k229) ::
 (nat_lit 230,k230) ::
 (nat_lit 236,k236) ::
 (nat_lit 237,k237) ::
 (nat_lit 239,k239 P) ::
 (nat_lit 240,k240) ::
 (nat_lit 255,k255) ::
 (nat_lit 256,k256) ::
 (nat_lit 262,k262) ::
 (nat_lit 263,k263) ::
 (nat_lit 269,k269) ::
 (nat_lit 270,k270) ::
 (nat_lit 276,k276) ::
 (nat_lit 277,k277) ::
 (nat_lit 279,k279 P) ::
 (nat_lit 280,k280) ::
 (nat_lit 295,k295) ::
 (nat_lit 296,k296) ::
 (nat_lit 302,k302) ::
 (nat_lit 303,k303) ::
 (nat_lit 309,k309) ::
 (nat_lit 310,k310) ::
 (nat_lit 316,k316) ::
 (nat_lit 317,k317) ::
 (nat_lit 319,k319 P) ::
 (nat_lit 320,k320) ::
 (nat_lit 335,k335) ::
 (nat_lit 336,k336) ::
 (nat_lit 342,k342) ::
 (nat_lit 343,k343) ::
 (nat_lit 349,k349) ::
 (nat_lit 350,k350) ::
 (nat_lit 356,k356) ::
 (nat_lit 357,k357) ::
 (nat_lit 359,k359 P) ::
 (nat_lit 360,k360) ::
 (nat_lit 375,k375) ::
 (nat_lit 376,k376) ::
 (nat_lit 382,k382) ::
 (nat_lit 383,k383) ::
 (nat_lit 385,k385 P) ::
 (nat_lit 386,k386) ::
 (nat_lit 394,k394) ::
 (nat_lit 395,k395) ::
 (nat_lit 399,k399) ::
 (nat_lit 400,k400) ::
 (nat_lit 406,k406) ::
 (nat_lit 407,k407) ::
 (nat_lit 413,k413) ::
 (nat_lit 414,k414) ::
 (nat_lit 420,k420) ::
 (nat_lit 421,k421) ::
 (nat_lit 427,k427) ::
 (nat_lit 428,k428) ::
 (nat_lit 434,k434) ::
 (nat_lit 435,k435) ::
 (nat_lit 439,k439) ::
 (nat_lit 440,k440) ::
 (nat_lit 446,k446) ::
 (nat_lit 447,k447) ::
 (nat_lit 451,k451) ::
 (nat_lit 452,k452) ::
 (nat_lit 456,k456) ::
 (nat_lit 457,k457) ::
 (nat_lit 463,k463) ::
 (nat_lit 464,k464) ::
 (nat_lit 468,k468) ::
 (nat_lit 469,k469) ::
 (nat_lit 473,k473) ::
 (nat_lit 474,k474) ::
 (nat_lit 487,k487) ::
 (nat_lit 488,k488) ::
 (nat_lit 492,k492) ::
 (nat_lit 493,k493) ::
 (nat_lit 497,k497) ::
 (nat_lit 498,k498) ::
 (nat_lit 504,k504) ::
 (nat_lit 505,k505) ::
 (nat_lit 509,k509) ::
 (nat_lit 510,k510) ::
 (nat_lit 516,k516) ::
 (nat_lit 517,k517) ::
 (nat_lit 519,k519 P) ::
 (nat_lit 520,k520) ::
 (nat_lit 521,k521) ::
 (nat_lit 522,k522) ::
 (nat_lit 537,k537) ::
 (nat_lit 538,k538) ::
 (nat_lit 542,k542) ::
 (nat_lit 543,k543) ::
 (nat_lit 549,k549) ::
 (nat_lit 550,k550) ::
 (nat_lit 556,k556) ::
 (nat_lit 557,k557) ::
 (nat_lit 559,k559 P) ::
 (nat_lit 560,k560) ::
 (nat_lit 561,k561) ::
 (nat_lit 562,k562) ::
 (nat_lit 570,k570) ::
 (nat_lit 571,k571) ::
 (nat_lit 577,k577) ::
 (nat_lit 578,k578) ::
 (nat_lit 582,k582) ::
 (nat_lit 583,k583) ::
 (nat_lit 587,k587) ::
 (nat_lit 588,k588) ::
 (nat_lit 592,k592) ::
 (nat_lit 593,k593) ::
 (nat_lit 599,k599) ::
 (nat_lit 600,k600) ::
 (nat_lit 604,k604) ::
 (nat_lit 605,k605) ::
 (nat_lit 609,k609) ::
 (nat_lit 610,k610) ::
 (nat_lit 616,k616) ::
 (nat_lit 617,k617) ::
 (nat_lit 621,k621) ::
 (nat_lit 622,k622) ::
 (nat_lit 628,k628) ::
 (nat_lit 629,k629) ::
 (nat_lit 635,k635) ::
 (nat_lit 636,k636) ::
 (nat_lit 642,k642) ::
 (nat_lit 643,k643) ::
 (nat_lit 649,k649) ::
 (nat_lit 650,k650) ::
 (nat_lit 654,k654) ::
 (nat_lit 655,k655) ::
 []
end
end Mine
set_option maxHeartbeats 0
namespace Hd
noncomputable section
open PySem PySem.W PySem.Calls PyProof.Rows Mine
noncomputable def put (t:BT):Nat -> Obj -> BT:=BT.rec (motive:=fun _=>Nat -> Obj -> BT) (fun _ o=>.node o .nil .nil) (fun v l r x y i o=>match i with | 0=>.node o l r | j + 1=>bif Nat.beq (j % 2) 0 then .node v (x (j / 2) o) r else .node v l (y (j / 2) o)) t
noncomputable def KC(t:BT)(l:List (Nat×Obj)):BT:=l.foldl (fun t p=>put t p.1 p.2) t
noncomputable def fo(s:Stmt)(n q m:Str)(t c:Nat):Obj:=⟨.type "function",none,.func {name:=n,qualname:=q,params:=L2.cY s,body:=.stmts (L2.b7 s),scope:=L2.aC s,globals:=3,closure:=[],defaults:=.none,kwdefaults:=.none,pyModule:=.str m t,code:=.ref c},#[]⟩
noncomputable def pf(s:Stmt)(n q:Str):Obj:=⟨.none,none,.func {name:=n,qualname:=q,params:=L2.cY s,body:=.stmts (L2.b7 s),scope:=L2.aC s,globals:=0,closure:=[],defaults:=.none,kwdefaults:=.none},#[]⟩
noncomputable def tu(l:List Value):Obj:=⟨.type "tuple",none,.seq l.toArray,#[]⟩
def eT:Obj:=tu []
def eF:Obj:={cls:=.none,data:=.fields #[]}
noncomputable def co(n q:Str)(a b c:Nat)(l k:Int)(f r:Nat)(t:Bool)(g:Int)(u:Nat)(x y z:Value)(v:Nat)(m:Int)(e:Nat):Obj:={cls:=.type "code",data:=.fields #[.str n a,.str q b,.str "/claim/cut.py" c,.int l 0,.int k 0,.int 0 0,.int 0 0,.int f 0,.ref r,.bool t,.int g 0,.ref u,x,y,z,.ref v,.int m 0,.int l 0,.str "/claim/cut.py" e]}
noncomputable def pl(t:BT)(a:Nat)(l:List Obj):BT:=List.rec (motive:=fun _=>BT->Nat->BT) (fun t _=>t) (fun o _ f t a=>f (put t a o) (a+1)) l t a
noncomputable def fm(c d:Nat)(m:Value):Obj:={cls:=.type "frame",slots:=#[some (.ref c),some (.ref 3),some (.ref d),none,some m,none,some (.ref 0)]}
noncomputable def su(x:Nat):Obj:={cls:=.type "super",data:=.fields #[.ref x,.ref x,.ref x]}
noncomputable def ib(x:Nat):Obj:={cls:=.type "builtin_function_or_method",data:=.fields #[.builtin "object.__init_subclass__",.ref x]}
noncomputable def cc(n:Str)(a:Nat)(l:Int)(r:Nat)(b:Int):Obj:={cls:=.type "code",data:=.fields #[.str n a,.str n (a+1),.str "/claim/cut.py" (a+2),.int l 0,.int 0 0,.int 0 0,.int 0 0,.int 0 0,.ref r,.bool false,.int 181 0,.ref (r+1),.none,.none,.none,.none,.int b 0,.int l 0,.str "/claim/cut.py" (a+4)]}
noncomputable def di(P:Params)(m:Value)(n:Str)(a:Nat)(l:Int)(r:List DictEntry)(k:Nat):Obj:={cls:=.type "dict",data:=.dict (List.toArray (ke P "__module__" a m::ke P "__qualname__" (a+2) (.str n (a+1))::ke P "__firstlineno__" (a+4) (.int l (a+3))::r)) k}
noncomputable def f3(a b:Int)(c:Nat)(r:List Value):List Value:=.int a 0::.int b 0::.ref c::r
noncomputable def fl(l:List Value):Obj:={cls:=.none,data:=.fields l.toArray}
noncomputable def tv(t:Nat)(l:List Str):List Value:=List.rec (motive:=fun _=>Nat->List Value) (fun _=>[]) (fun x _ f t=>.str x t::f (t+1)) l t
noncomputable def tw(t:Nat)(l:List Str):Obj:=tu (tv t l)
noncomputable def df(s:Stmt)(v c f:Obj)(r:List Obj):List Obj:=eT::eF::v::eT::pf s (nq true c) (nq false c)::c::f::r
noncomputable def de(s:Stmt)(c f:Obj)(r:List Obj):List Obj:=eT::eF::pf s (nq true c) (nq false c)::c::f::r
def env:Env:={scope:=pw_drawhouse_k37_whole_knots.main.scope,locals:=mainNs,globals:=mainNs,cells:=[],code:=Value.ref 13,frame:=some 14}
def cE:Code:=.body (behindTheImports pw_drawhouse_k37_whole_knots) env
def fr:List Frame:=[topFrame {line:=0,col:=0,endLine:=0,endCol:=0}]
noncomputable def sl(a n:Nat):List Stmt:=((behindTheImports pw_drawhouse_k37_whole_knots).drop a).take n
def o12:Obj:=fl (f3 1 0 20 (f3 5 0 27 (f3 7 0 40 (f3 12 0 59 (f3 17 0 78 (f3 22 0 97 (f3 27 0 116 (f3 33 0 133 (f3 36 0 140 (f3 39 0 147 (f3 49 0 182 (f3 60 0 215 (f3 71 0 248 (f3 85 0 288 (f3 99 0 328 (f3 114 0 368 (f3 122 0 394 (f3 129 0 399 (f3 135 0 406 (f3 140 0 413 (f3 149 0 420 (f3 152 0 427 (f3 155 0 434 (f3 171 0 439 (f3 173 0 446 (f3 179 0 451 (f3 189 0 456 (f3 198 0 463 (f3 201 0 468 (f3 203 0 473 (f3 214 0 480 (f3 240 0 530 (f3 256 0 570 (f3 260 0 577 (f3 269 0 582 (f3 282 0 587 (f3 295 0 592 (f3 298 0 599 (f3 306 0 604 (f3 319 0 609 (f3 331 0 616 (f3 347 0 621 (f3 349 0 628 (f3 356 0 635 (f3 363 0 642 (f3 371 0 649 (f3 379 0 654 [])))))))))))))))))))))))))))))))))))))))))))))))
def o23:Obj:={cls:=.type "builtin_function_or_method",data:=.fields #[.builtin "type.__prepare__",.type "type"]}
variable (P:Params) (r:List Obj)
def hA0:List Obj:=boot_o_0 P::boot_o_1 P::boot_o_2 P::boot_o_3 P::boot_o_4 P::boot_o_5 P::boot_o_6 P::boot_o_7 P::boot_o_8 P::boot_o_9 P::boot_o_10 P::eT::eF::cc "<module>" 182 1 11 185::fm 13 3 Mm::r
def hA:Heap:=⟨Array.mk (hA0 P []),{}⟩
noncomputable def Lp(w:World)(os:OsState):Option (Shared×Thread):=topGo treeTable pw_drawhouse_k37_whole_knots w 11 (some (Value.ref 6)) 12 ⟨boot_heap w.params,Array.mk [],boot_drawn,boot_toks,os⟩ (topStub pw_drawhouse_k37_whole_knots)
noncomputable def Rp(w:World)(os:OsState):Option (Shared×Thread):=some (⟨hA w.params,Array.mk [],{},nat_lit 187,os⟩,⟨denote treeTable cE,cE,{line:=0,col:=0,endLine:=0,endCol:=0},fr⟩)
theorem rLp:Lp=Lp:=rfl
name_quick Lp for Hd.Lp by Hd.rLp
theorem rRp:Rp=Rp:=rfl
name_quick Rp for Hd.Rp by Hd.rRp
theorem qp:PySem.W.Fast.Lp=PySem.W.Fast.Rp:=by kernel_rfl
theorem ep:Lp=Rp:=PySem.W.Fast.Lp_eq.trans (qp.trans PySem.W.Fast.Rp_eq.symm)
def t0:BT:=pl .nil 0 (hA0 P [])
def Lb(w:World)(os:OsState):Option (Flow×Shared×Code×Pos):=segRun treeTable pw_drawhouse_k37_whole_knots w 11 (some (Value.ref 6)) 1 1 ⟨hA w.params,Array.mk [],{},nat_lit 187,os⟩ (blockOf (behindTheImports pw_drawhouse_k37_whole_knots) env cE {line:=0,col:=0,endLine:=0,endCol:=0} fr)
def Rb(w:World)(os:OsState):Option (Flow×Shared×Code×Pos):=some (.next,SharedT.abs ⟨t0 w.params,nat_lit 15,{},Array.mk [],{},nat_lit 187,os⟩,cE,{line:=0,col:=0,endLine:=0,endCol:=0})
theorem rLb:Lb=Lb:=rfl
name_quick Lb for Hd.Lb by Hd.rLb
theorem rRb:Rb=Rb:=rfl
name_quick Rb for Hd.Rb by Hd.rRb
theorem qb:PySem.W.Fast.Lb=PySem.W.Fast.Rb:=by kernel_rfl
theorem eb:Lb=Rb:=PySem.W.Fast.Lb_eq.trans (qb.trans PySem.W.Fast.Rb_eq.symm)
def c0:List Obj:=boot_o_0 P::boot_o_1 P::boot_o_2 P::k3 P::boot_o_4 P::boot_o_5 P::boot_o_6 P::boot_o_7 P::boot_o_8 P::boot_o_9 P::boot_o_10 P::eT::o12::cc "<module>" 182 1 11 185::fm 13 3 Mm::r
def c15:List Obj:=df (Mine.top 0) (tw 190 ["k"]) k20 k21 (tu [.type "ValueError"]::o23::di P iZ "HouseError" 203 5 [ks P 208 29] 4::r)
def c25:List Obj:=eT::eF::cc "HouseError" 198 5 25 201::fm 27 24 iZ::eT::k30 P::k31::k32::su 31::ib 31::r
def c35:List Obj:=tu [.ref 31]::o23::di P iZ "TooMany" 221 7 [ki P 233 48,ks P 235 49] 5::eT::fl (f3 9 4 47 [])::cc "TooMany" 216 7 38 219::fm 40 37 iZ::r
def c42:List Obj:=df (Mine.sb 3 0) (tw 229 ["self", "at"]) k47 k48 (tw 234 ["at"]::k50 P::k51::r)
def c52:List Obj:=su 51::ib 51::tu [.ref 31]::o23::di P iZ "Double" 246 12 [ki P 258 67,ks P 260 68] 5::eT::fl (f3 14 4 66 [])::cc "Double" 241 12 57 244::fm 59 56 iZ::r
def c61:List Obj:=df (Mine.sb 4 0) (tw 254 ["self", "at"]) k66 k67 (tw 259 ["at"]::k69 P::k70::r)
def c71:List Obj:=su 70::ib 70::tu [.ref 31]::o23::di P iZ "Orphan" 271 17 [ki P 283 86,ks P 285 87] 5::eT::fl (f3 19 4 85 [])::cc "Orphan" 266 17 76 269::fm 78 75 iZ::r
def c80:List Obj:=df (Mine.sb 5 0) (tw 279 ["self", "at"]) k85 k86 (tw 284 ["at"]::k88 P::k89::r)
def c90:List Obj:=su 89::ib 89::tu [.ref 31]::o23::di P iZ "Clash" 296 22 [ki P 308 105,ks P 310 106] 5::eT::fl (f3 24 4 104 [])::cc "Clash" 291 22 95 294::fm 97 94 iZ::r
def c99:List Obj:=df (Mine.sb 6 0) (tw 304 ["self", "at"]) k104 k105 (tw 309 ["at"]::k107 P::k108::r)
def Sq:List Obj:=su 108::ib 108::tu [.ref 31]::o23::di P iZ "NoPart" 321 27 [ki P 333 124,ks P 335 125] 5::eT::fl (f3 29 4 123 [])::cc "NoPart" 316 27 114 319::fm 116 113 iZ::r
def RW:List Obj:=df (Mine.sb 7 0) (tw 329 ["self", "address"]) k123 k124 (tw 334 ["address"]::k126 P::k127::r)
def SQ(P:Params)(r:List Obj):List Obj:=su 127::ib 127::de (Mine.top 9) k133 k134 (r)
def RT(P:Params)(r:List Obj):List Obj:=df (Mine.top 10) (tw 350 ["address"]) k140 k141 (r)
def C0:List Obj:=c15 P (c25 P (c35 P (c42 P (c52 P (c61 P (c71 P (c80 P (c90 P (c99 P (Sq P (RW P (SQ P (RT P (r))))))))))))))
def t1:BT:=KC (pl (t0 P) 15 (C0 P [])) ((3,{cls:=.type "dict",data:=.dict (List.toArray (ke P "__name__" 165 (.str "drawhouse.rows" 354)::n0 P ([]))) 18})::(12,fl (f3 1 0 20 (f3 5 0 27 (f3 7 0 40 (f3 12 0 59 (f3 17 0 78 (f3 22 0 97 (f3 27 0 116 (f3 33 0 133 (f3 36 0 140 []))))))))))::[])
def L0(w:World)(os:OsState):Option (Flow×SharedT×Code×Pos):=segRunT treeTable pw_drawhouse_k37_whole_knots w 11 (some (Value.ref 6)) 1 1523 ⟨t0 w.params,nat_lit 15,{},Array.mk [],{},nat_lit 187,os⟩ (piecesOf (sl 0 12) env cE {line:=0,col:=0,endLine:=0,endCol:=0} fr)
def R0(w:World)(os:OsState):Option (Flow×SharedT×Code×Pos):=some (.next,⟨t1 w.params,nat_lit 142,{},Array.mk [],{},nat_lit 356,os⟩,cE,{line:=38,col:=0,endLine:=38,endCol:=8})
theorem rL0:L0=L0:=rfl
name_quick L0 for Hd.L0 by Hd.rL0
theorem rR0:R0=R0:=rfl
name_quick R0 for Hd.R0 by Hd.rR0
theorem q0:PySem.W.Fast.L0=PySem.W.Fast.R0:=by kernel_rfl
theorem e0:L0=R0:=PySem.W.Fast.L0_eq.trans (q0.trans PySem.W.Fast.R0_eq.symm)
def Rc:List Obj:=eT::o23::di P b8 "Row" 363 39 [ke P "binds" 374 (.ref 155),ke P "asked" 381 (.ref 162),ke P "said" 388 (.ref 169),ks P 389 170] 7::eT::fl (f3 41 4 154 (f3 44 4 161 (f3 47 4 168 [])))::cc "Row" 358 39 145 361::fm 147 144 b8::r
def RB(P:Params)(r:List Obj):List Obj:=df (Mine.sb 12 0) (tw 371 ["self"]) k154 k155 (r)
def QJ(P:Params)(r:List Obj):List Obj:=df (Mine.sb 12 1) (tw 378 ["self"]) k161 k162 (r)
def Rv:List Obj:=df (Mine.sb 12 2) (tw 385 ["self"]) k168 k169 (eT::k171 P::k172::r)
def Ru:List Obj:=k173::k174::su 172::ib 172::tu [.ref 172]::o23::di P b8 "Let" 404 49 [ki P 417 190,ke P "binds" 424 (.ref 197),ke P "said" 431 (.ref 204),ks P 434 205] 7::eT::fl (f3 51 4 189 (f3 55 4 196 (f3 58 4 203 [])))::cc "Let" 399 49 180 402::r
def Sy(P:Params)(r:List Obj):List Obj:=fm 182 179 b8::df (Mine.sb 13 0) (tw 412 ["self", "name", "terms"]) k189 k190 (r)
def Sx(P:Params)(r:List Obj):List Obj:=df (Mine.sb 13 1) (tw 421 ["self"]) k196 k197 (r)
def QH:List Obj:=df (Mine.sb 13 2) (tw 428 ["self"]) k203 k204 (tw 432 ["name", "terms"]::k206 P::k207::r)
def Ro:List Obj:=su 207::ib 207::tu [.ref 172]::o23::di P b8 "Deed" 445 60 [ki P 458 223,ke P "binds" 465 (.ref 230),ke P "said" 472 (.ref 237),ks P 475 238] 7::eT::fl (f3 62 4 222 (f3 66 4 229 (f3 69 4 236 [])))::cc "Deed" 440 60 213 443::fm 215 212 b8::r
def SJ(P:Params)(r:List Obj):List Obj:=df (Mine.sb 14 0) (tw 453 ["self", "name", "terms"]) k222 k223 (r)
def R9(P:Params)(r:List Obj):List Obj:=df (Mine.sb 14 1) (tw 462 ["self"]) k229 k230 (r)
def Qk:List Obj:=df (Mine.sb 14 2) (tw 469 ["self"]) k236 k237 (tw 473 ["name", "terms"]::k239 P::k240::r)
def RQ:List Obj:=su 240::ib 240::tu [.ref 172]::o23::di P b8 "Draw" 486 71 [ki P 499 256,ke P "binds" 506 (.ref 263),ke P "asked" 513 (.ref 270),ke P "said" 520 (.ref 277),ks P 523 278] 8::eT::fl (f3 73 4 255 (f3 77 4 262 (f3 80 4 269 (f3 83 4 276 []))))::cc "Draw" 481 71 246 484::fm 248 245 b8::r
def Qm(P:Params)(r:List Obj):List Obj:=df (Mine.sb 15 0) (tw 494 ["self", "address", "name"]) k255 k256 (r)
def QT(P:Params)(r:List Obj):List Obj:=df (Mine.sb 15 1) (tw 503 ["self"]) k262 k263 (r)
def QR(P:Params)(r:List Obj):List Obj:=df (Mine.sb 15 2) (tw 510 ["self"]) k269 k270 (r)
def Ra:List Obj:=df (Mine.sb 15 3) (tw 517 ["self"]) k276 k277 (tw 521 ["address", "name"]::k279 P::k280::r)
def Rr:List Obj:=su 280::ib 280::tu [.ref 172]::o23::di P b8 "Late" 534 85 [ki P 547 296,ke P "binds" 554 (.ref 303),ke P "asked" 561 (.ref 310),ke P "said" 568 (.ref 317),ks P 571 318] 8::eT::fl (f3 87 4 295 (f3 91 4 302 (f3 94 4 309 (f3 97 4 316 []))))::cc "Late" 529 85 286 532::fm 288 285 b8::r
def QM(P:Params)(r:List Obj):List Obj:=df (Mine.sb 16 0) (tw 542 ["self", "address", "name"]) k295 k296 (r)
def Q6(P:Params)(r:List Obj):List Obj:=df (Mine.sb 16 1) (tw 551 ["self"]) k302 k303 (r)
def Qq(P:Params)(r:List Obj):List Obj:=df (Mine.sb 16 2) (tw 558 ["self"]) k309 k310 (r)
def Qj:List Obj:=df (Mine.sb 16 3) (tw 565 ["self"]) k316 k317 (tw 569 ["address", "name"]::k319 P::k320::r)
def Rm(P:Params)(r:List Obj):List Obj:=su 320::ib 320::r
def C1:List Obj:=Rc P (RB P (QJ P (Rv P (Ru P (Sy P (Sx P (QH P (Ro P (SJ P (R9 P (Qk P (RQ P (Qm P (QT P (QR P (Ra P (Rr P (QM P (Q6 P (Qq P (Qj P (Rm P (r)))))))))))))))))))))))
def t2:BT:=KC (pl (t1 P) 142 (C1 P [])) ((3,{cls:=.type "dict",data:=.dict (List.toArray (ke P "__name__" 165 (.str "drawhouse.rows" 354)::n0 P (n1 P ([])))) 23})::(12,fl (f3 1 0 20 (f3 5 0 27 (f3 7 0 40 (f3 12 0 59 (f3 17 0 78 (f3 22 0 97 (f3 27 0 116 (f3 33 0 133 (f3 36 0 140 (f3 39 0 147 (f3 49 0 182 (f3 60 0 215 (f3 71 0 248 (f3 85 0 288 [])))))))))))))))::(172,{cls:=.type "type",data:=.cls {name:=Str.ofString "Row",bases:=[.type "object"],mro:=[.ref 172,.type "object"],ns:=171,qualname:=Str.ofString "Row",subclasses:=[.ref 207,.ref 240,.ref 280,.ref 320]},slots:=#[none,none,some (.str "Row" 356),some (.str "Row" 364),some (.builtin "object.__new__"),some (.bool true)]})::[])
def L1(w:World)(os:OsState):Option (Flow×SharedT×Code×Pos):=segRunT treeTable pw_drawhouse_k37_whole_knots w 11 (some (Value.ref 6)) 1 1581 ⟨t1 w.params,nat_lit 142,{},Array.mk [],{},nat_lit 356,os⟩ (piecesOf (sl 12 5) env cE {line:=38,col:=0,endLine:=38,endCol:=8} fr)
def R1(w:World)(os:OsState):Option (Flow×SharedT×Code×Pos):=some (.next,⟨t2 w.params,nat_lit 323,{},Array.mk [],{},nat_lit 575,os⟩,cE,{line:=85,col:=0,endLine:=98,endCol:=16})
theorem rL1:L1=L1:=rfl
name_quick L1 for Hd.L1 by Hd.rL1
theorem rR1:R1=R1:=rfl
name_quick R1 for Hd.R1 by Hd.rR1
theorem q1:PySem.W.Fast.L1=PySem.W.Fast.R1:=by kernel_rfl
theorem e1:L1=R1:=PySem.W.Fast.L1_eq.trans (q1.trans PySem.W.Fast.R1_eq.symm)
def Qx:List Obj:=tu [.ref 172]::o23::di P b8 "Take" 582 99 [ki P 596 336,ke P "binds" 603 (.ref 343),ke P "asked" 610 (.ref 350),ke P "said" 617 (.ref 357),ks P 621 358] 8::eT::fl (f3 101 4 335 (f3 106 4 342 (f3 109 4 349 (f3 112 4 356 []))))::cc "Take" 577 99 326 580::fm 328 325 b8::r
def QZ(P:Params)(r:List Obj):List Obj:=df (Mine.sb 17 0) (tw 590 ["self", "word", "address", "name"]) k335 k336 (r)
def SM(P:Params)(r:List Obj):List Obj:=df (Mine.sb 17 1) (tw 600 ["self"]) k342 k343 (r)
def QF(P:Params)(r:List Obj):List Obj:=df (Mine.sb 17 2) (tw 607 ["self"]) k349 k350 (r)
def Rx:List Obj:=df (Mine.sb 17 3) (tw 614 ["self"]) k356 k357 (tw 618 ["address", "name", "word"]::k359 P::k360::r)
def RD:List Obj:=su 360::ib 360::tu [.ref 172]::o23::di P b8 "Need" 632 114 [ki P 644 376,ke P "said" 651 (.ref 383),ks P 653 384] 6::eT::fl (f3 116 4 375 (f3 119 4 382 []))::cc "Need" 627 114 366 630::fm 368 365 b8::r
def Tc(P:Params)(r:List Obj):List Obj:=df (Mine.sb 18 0) (tw 640 ["self", "terms"]) k375 k376 (r)
def Sg:List Obj:=df (Mine.sb 18 1) (tw 648 ["self"]) k382 k383 (tw 652 ["terms"]::k385 P::k386::r)
def Rt(P:Params)(r:List Obj):List Obj:=su 386::ib 386::df (Mine.top 20) (tw 662 ["row", "named", "address"]) k394 k395 (r)
def Ry(P:Params)(r:List Obj):List Obj:=de (Mine.top 21) k399 k400 (r)
def Q3(P:Params)(r:List Obj):List Obj:=df (Mine.top 22) (tw 677 ["house", "linked", "address"]) k406 k407 (r)
def Rn(P:Params)(r:List Obj):List Obj:=df (Mine.top 23) (tw 686 ["linked", "address", "ahead", "found", "one"]) k413 k414 (r)
def Ql(P:Params)(r:List Obj):List Obj:=df (Mine.top 24) (tw 697 ["house", "address"]) k420 k421 (r)
def QG(P:Params)(r:List Obj):List Obj:=df (Mine.top 25) (tw 705 ["house", "address"]) k427 k428 (r)
def QL(P:Params)(r:List Obj):List Obj:=df (Mine.top 26) (tw 713 ["house", "one", "other", "linked", "ways", "seen", "way", "address"]) k434 k435 (r)
def Q8(P:Params)(r:List Obj):List Obj:=de (Mine.top 28) k439 k440 (r)
def Q7(P:Params)(r:List Obj):List Obj:=df (Mine.top 29) (tw 735 ["linked", "knot", "placed", "address", "one"]) k446 k447 (r)
def QD(P:Params)(r:List Obj):List Obj:=de (Mine.top 30) k451 k452 (de (Mine.top 31) k456 k457 (r))
def RK(P:Params)(r:List Obj):List Obj:=df (Mine.top 34) (tw 762 ["part", "addresses", "parent"]) k463 k464 (r)
def SX(P:Params)(r:List Obj):List Obj:=de (Mine.top 35) k468 k469 (de (Mine.top 36) k473 k474 (r))
def Sv:List Obj:=eT::o23::di P sr "House" 787 214 [ki P 799 488,ke P "addresses" 805 (.ref 493),ke P "has" 811 (.ref 498),ke P "part" 820 (.ref 505),ke P "with_part" 826 (.ref 510),ke P "without" 834 (.ref 517),ks P 836 518] 10::eT::fl (f3 216 4 487 (f3 220 4 492 (f3 223 4 497 (f3 226 4 504 (f3 232 4 509 (f3 237 4 516 []))))))::cc "House" 782 214 478 785::fm 480 477 sr::r
def Qo(P:Params)(r:List Obj):List Obj:=df (Mine.sb 37 0) (tw 795 ["self", "parts"]) k487 k488 (r)
def RM(P:Params)(r:List Obj):List Obj:=de (Mine.sb 37 1) k492 k493 (de (Mine.sb 37 2) k497 k498 (r))
def RN(P:Params)(r:List Obj):List Obj:=df (Mine.sb 37 3) (tw 815 ["self", "address", "part"]) k504 k505 (r)
def Rg(P:Params)(r:List Obj):List Obj:=de (Mine.sb 37 4) k509 k510 (r)
def Td:List Obj:=df (Mine.sb 37 5) (tw 830 ["self", "address"]) k516 k517 (tw 835 ["told"]::k519 P::k520::r)
def Qn(P:Params)(r:List Obj):List Obj:=k521::k522::su 520::ib 520::r
def C2:List Obj:=Qx P (QZ P (SM P (QF P (Rx P (RD P (Tc P (Sg P (Rt P (Ry P (Q3 P (Rn P (Ql P (QG P (QL P (Q8 P (Q7 P (QD P (RK P (SX P (Sv P (Qo P (RM P (RN P (Rg P (Td P (Qn P (r)))))))))))))))))))))))))))
def t3:BT:=KC (pl (t2 P) 323 (C2 P [])) ((3,{cls:=.type "dict",data:=.dict (List.toArray (ke P "__name__" 165 (.str "drawhouse.parts" 844)::n0 P (n1 P (n2 P ([]))))) 41})::(12,fl (f3 1 0 20 (f3 5 0 27 (f3 7 0 40 (f3 12 0 59 (f3 17 0 78 (f3 22 0 97 (f3 27 0 116 (f3 33 0 133 (f3 36 0 140 (f3 39 0 147 (f3 49 0 182 (f3 60 0 215 (f3 71 0 248 (f3 85 0 288 (f3 99 0 328 (f3 114 0 368 (f3 122 0 394 (f3 129 0 399 (f3 135 0 406 (f3 140 0 413 (f3 149 0 420 (f3 152 0 427 (f3 155 0 434 (f3 171 0 439 (f3 173 0 446 (f3 179 0 451 (f3 189 0 456 (f3 198 0 463 (f3 201 0 468 (f3 203 0 473 (f3 214 0 480 []))))))))))))))))))))))))))))))))::(172,k172)::[])
def L2(w:World)(os:OsState):Option (Flow×SharedT×Code×Pos):=segRunT treeTable pw_drawhouse_k37_whole_knots w 11 (some (Value.ref 6)) 1 1446 ⟨t2 w.params,nat_lit 323,{},Array.mk [],{},nat_lit 575,os⟩ (piecesOf (sl 17 22) env cE {line:=85,col:=0,endLine:=98,endCol:=16} fr)
def R2(w:World)(os:OsState):Option (Flow×SharedT×Code×Pos):=some (.next,⟨t3 w.params,nat_lit 525,{},Array.mk [],{},nat_lit 846,os⟩,cE,{line:=239,col:=0,endLine:=239,endCol:=8})
theorem rL2:L2=L2:=rfl
name_quick L2 for Hd.L2 by Hd.rL2
theorem rR2:R2=R2:=rfl
name_quick R2 for Hd.R2 by Hd.rR2
theorem q2:PySem.W.Fast.L2=PySem.W.Fast.R2:=by kernel_rfl
theorem e2:L2=R2:=PySem.W.Fast.L2_eq.trans (q2.trans PySem.W.Fast.R2_eq.symm)
def QW:List Obj:=eT::o23::di P Bt "Part" 853 240 [ki P 866 538,ke P "bound" 872 (.ref 543),ke P "place_of" 880 (.ref 550),ke P "text" 887 (.ref 557),ks P 890 558] 8::eT::fl (f3 242 4 537 (f3 246 4 542 (f3 250 4 549 (f3 253 4 556 []))))::cc "Part" 848 240 528 851::fm 530 527 Bt::r
def Rk(P:Params)(r:List Obj):List Obj:=df (Mine.sb 39 0) (tw 861 ["self", "address", "rows"]) k537 k538 (r)
def QK(P:Params)(r:List Obj):List Obj:=de (Mine.sb 39 1) k542 k543 (r)
def QV(P:Params)(r:List Obj):List Obj:=df (Mine.sb 39 2) (tw 876 ["self", "name"]) k549 k550 (r)
def RZ:List Obj:=df (Mine.sb 39 3) (tw 884 ["self"]) k556 k557 (tw 888 ["address", "rows"]::k559 P::k560::r)
def Qu(P:Params)(r:List Obj):List Obj:=k561::k562::su 560::ib 560::r
def Qy(P:Params)(r:List Obj):List Obj:=df (Mine.top 41) (tw 903 ["_law_script", "_law_k"]) k570 k571 (r)
def Qt(P:Params)(r:List Obj):List Obj:=df (Mine.top 42) (tw 911 ["_law_cell_here", "_law_k", "_law_many", "_law_great", "_law_by", "_law_one"]) k577 k578 (r)
def RJ(P:Params)(r:List Obj):List Obj:=de (Mine.top 43) k582 k583 (de (Mine.top 44) k587 k588 (r))
def Q9(P:Params)(r:List Obj):List Obj:=de (Mine.top 45) k592 k593 (r)
def Q0(P:Params)(r:List Obj):List Obj:=df (Mine.top 46) (tw 941 ["_law_cell_here", "_law_addresses_here", "_law_words_here", "_law_address", "_law_word"]) k599 k600 (r)
def QC(P:Params)(r:List Obj):List Obj:=de (Mine.top 47) k604 k605 (de (Mine.top 48) k609 k610 (r))
def S5(P:Params)(r:List Obj):List Obj:=df (Mine.top 49) (tw 964 ["_law_row_here", "_law_sort", "_law_name", "_law_address", "_law_word", "_law_terms"]) k616 k617 (r)
def RX(P:Params)(r:List Obj):List Obj:=de (Mine.top 50) k621 k622 (r)
def Rq(P:Params)(r:List Obj):List Obj:=df (Mine.top 51) (tw 982 ["_law_script", "_law_words_here", "_law_many", "_law_addresses_here"]) k628 k629 (r)
def S7(P:Params)(r:List Obj):List Obj:=df (Mine.top 52) (tw 992 ["_law_house", "_law_found", "_law_one", "_law_other", "_law_k"]) k635 k636 (r)
def Rh(P:Params)(r:List Obj):List Obj:=df (Mine.top 53) (tw 1003 ["_law_house", "_law_knot", "_law_one", "_law_other"]) k642 k643 (r)
def Q5(P:Params)(r:List Obj):List Obj:=df (Mine.top 54) (tw 1013 ["_law_house", "_law_addresses_here", "_law_one", "_law_due", "_law_other"]) k649 k650 (r)
def RC(P:Params)(r:List Obj):List Obj:=de (Mine.top 55) k654 k655 (r)
def C3:List Obj:=QW P (Rk P (QK P (QV P (RZ P (Qu P (Qy P (Qt P (RJ P (Q9 P (Q0 P (QC P (S5 P (RX P (Rq P (S7 P (Rh P (Q5 P (RC P (r)))))))))))))))))))
def t4:BT:=KC (pl (t3 P) 525 (C3 P [])) ((3,k3 P)::(12,o12)::[])
def L3(w:World)(os:OsState):Option (Flow×SharedT×Code×Pos):=segRunT treeTable pw_drawhouse_k37_whole_knots w 11 (some (Value.ref 6)) 1 768 ⟨t3 w.params,nat_lit 525,{},Array.mk [],{},nat_lit 846,os⟩ (piecesOf (sl 39 17) env cE {line:=239,col:=0,endLine:=239,endCol:=8} fr)
def R3(w:World)(os:OsState):Option (Flow×SharedT×Code×Pos):=some (.next,⟨t4 w.params,nat_lit 656,{},Array.mk [],{},nat_lit 1027,os⟩,cE,{line:=379,col:=0,endLine:=411,endCol:=124})
theorem rL3:L3=L3:=rfl
name_quick L3 for Hd.L3 by Hd.rL3
theorem rR3:R3=R3:=rfl
name_quick R3 for Hd.R3 by Hd.rR3
theorem q3:PySem.W.Fast.L3=PySem.W.Fast.R3:=by kernel_rfl
theorem e3:L3=R3:=PySem.W.Fast.L3_eq.trans (q3.trans PySem.W.Fast.R3_eq.symm)
def hF:Heap:=⟨Array.mk (c0 P (C0 P (C1 P (C2 P (C3 P ([])))))),{}⟩
def Lf(w:World)(os:OsState):Option Shared:=topRun treeTable pw_drawhouse_k37_whole_knots w 11 (some (Value.ref 6)) 2 (SharedT.abs ⟨t4 w.params,nat_lit 656,{},Array.mk [],{},nat_lit 1027,os⟩) ⟨doneF .next,cE,{line:=379,col:=0,endLine:=411,endCol:=124},fr⟩
def Rf(w:World)(os:OsState):Option Shared:=some ⟨hF w.params,Array.mk [],{},nat_lit 1027,os⟩
theorem rLf:Lf=Lf:=rfl
name_quick Lf for Hd.Lf by Hd.rLf
theorem rRf:Rf=Rf:=rfl
name_quick Rf for Hd.Rf by Hd.rRf
theorem qf:PySem.W.Fast.Lf=PySem.W.Fast.Rf:=by kernel_rfl
theorem ef:Lf=Rf:=PySem.W.Fast.Lf_eq.trans (qf.trans PySem.W.Fast.Rf_eq.symm)
theorem ed:(behindTheImports pw_drawhouse_k37_whole_knots).drop 56=[]:=by kernel_rfl
theorem pd{w:World}{k m n N:Nat}{s s' r:Shared}{c:Code}{pos p':Pos}(h:segRun treeTable pw_drawhouse_k37_whole_knots w 11 (some (Value.ref 6)) 1 n s (piecesOf (sl k m) env c pos fr)=some (.next,s',c,p'))
  (k2:topRun treeTable pw_drawhouse_k37_whole_knots w 11 (some (Value.ref 6)) N s' (restOf ((behindTheImports pw_drawhouse_k37_whole_knots).drop (k+m)) env c p' fr)=some r):topRun treeTable pw_drawhouse_k37_whole_knots w 11 (some (Value.ref 6)) (n+N) s (restOf ((behindTheImports pw_drawhouse_k37_whole_knots).drop k) env c pos fr)=some r:=by
 have z:=piece_app h k2
 have e:sl k m++(behindTheImports pw_drawhouse_k37_whole_knots).drop (k+m)=(behindTheImports pw_drawhouse_k37_whole_knots).drop k:=by
  unfold sl
  rw[<- List.drop_drop]
  exact List.take_append_drop m _
 rwa [e]at z
theorem run(w:World)(os:OsState):topRun treeTable pw_drawhouse_k37_whole_knots w 11 (some (Value.ref 6)) (12+(1+(1523+(1581+(1446+(768+(2))))))) ⟨boot_heap w.params,Array.mk [],boot_drawn,boot_toks,os⟩ (topStub pw_drawhouse_k37_whole_knots)=some ⟨hF w.params,Array.mk [],{},nat_lit 1027,os⟩ :=
 go_top (congrFun (congrFun ep w) os) (piece_block (congrFun (congrFun eb w) os)
  (pd (k:=0) (m:=12) (segRun_of (congrFun (congrFun e0 w) os))
  (pd (k:=12) (m:=5) (segRun_of (congrFun (congrFun e1 w) os))
  (pd (k:=17) (m:=22) (segRun_of (congrFun (congrFun e2 w) os))
  (pd (k:=39) (m:=17) (segRun_of (congrFun (congrFun e3 w) os))
  (by rw[show 39+17=56 from rfl,ed];exact piece_nil (congrFun (congrFun ef w) os)))))))
def qv:Program:={pw_drawhouse_k37_whole_knots with main:={pw_drawhouse_k37_whole_knots.main with body:=(0::2::3::4::5::6::7::9::10::12::13::14::15::16::17::18::20::21::22::23::24::25::26::28::29::30::31::33::34::35::36::37::39::41::42::43::44::45::46::47::48::49::50::51::52::53::54::55::[]).filterMap fun i=>pw_drawhouse_k37_whole_knots.main.body[i]?}}
def loose:List Str:=[]
def lv:List (Str×WData):=[]
def rz:OpenLaw:={prog:=pw_drawhouse_k37_whole_knots,name:=(PySem.Str.ofString "law"),about:=[(PySem.Str.ofString "knots")],foot:=15,most:=some 63,bound:=none,writes:=false}
def xt(s:Shared):Bool:=xlAt qv lv s&&recOk (RowW.records (OpenRow.toRowW (OpenLaw.row rz))) s
def as:List Addr:=nat_lit 2::nat_lit 3::nat_lit 20::nat_lit 21::nat_lit 30::nat_lit 31::nat_lit 32::nat_lit 47::nat_lit 48::nat_lit 50::nat_lit 51::nat_lit 66::nat_lit 67::nat_lit 69::nat_lit 70::nat_lit 85::nat_lit 86::nat_lit 88::nat_lit 89::nat_lit 104::nat_lit 105::nat_lit 107::nat_lit 108::nat_lit 123::nat_lit 124::nat_lit 126::nat_lit 127::nat_lit 133::nat_lit 134::nat_lit 140::nat_lit 141::nat_lit 154::nat_lit 155::nat_lit 161::nat_lit 162::nat_lit 168::nat_lit 169::nat_lit 171::nat_lit 172::nat_lit 173::nat_lit 174::nat_lit 189::nat_lit 190::nat_lit 196::nat_lit 197::nat_lit 203::nat_lit 204::nat_lit 206::nat_lit 207::nat_lit 222::nat_lit 223::nat_lit 229::nat_lit 230::nat_lit 236::nat_lit 237::nat_lit 239::nat_lit 240::nat_lit 255::nat_lit 256::nat_lit 262::nat_lit 263::nat_lit 269::nat_lit 270::nat_lit 276::nat_lit 277::nat_lit 279::nat_lit 280::nat_lit 295::nat_lit 296::nat_lit 302::nat_lit 303::nat_lit 309::nat_lit 310::nat_lit 316::nat_lit 317::nat_lit 319::nat_lit 320::nat_lit 335::nat_lit 336::nat_lit 342::nat_lit 343::nat_lit 349::nat_lit 350::nat_lit 356::nat_lit 357::nat_lit 359::nat_lit 360::nat_lit 375::nat_lit 376::nat_lit 382::nat_lit 383::nat_lit 385::nat_lit 386::nat_lit 394::nat_lit 395::nat_lit 399::nat_lit 400::nat_lit 406::nat_lit 407::nat_lit 413::nat_lit 414::nat_lit 420::nat_lit 421::nat_lit 427::nat_lit 428::nat_lit 434::nat_lit 435::nat_lit 439::nat_lit 440::nat_lit 446::nat_lit 447::nat_lit 451::nat_lit 452::nat_lit 456::nat_lit 457::nat_lit 463::nat_lit 464::nat_lit 468::nat_lit 469::nat_lit 473::nat_lit 474::nat_lit 487::nat_lit 488::nat_lit 492::nat_lit 493::nat_lit 497::nat_lit 498::nat_lit 504::nat_lit 505::nat_lit 509::nat_lit 510::nat_lit 516::nat_lit 517::nat_lit 519::nat_lit 520::nat_lit 521::nat_lit 522::nat_lit 537::nat_lit 538::nat_lit 542::nat_lit 543::nat_lit 549::nat_lit 550::nat_lit 556::nat_lit 557::nat_lit 559::nat_lit 560::nat_lit 561::nat_lit 562::nat_lit 570::nat_lit 571::nat_lit 577::nat_lit 578::nat_lit 582::nat_lit 583::nat_lit 587::nat_lit 588::nat_lit 592::nat_lit 593::nat_lit 599::nat_lit 600::nat_lit 604::nat_lit 605::nat_lit 609::nat_lit 610::nat_lit 616::nat_lit 617::nat_lit 621::nat_lit 622::nat_lit 628::nat_lit 629::nat_lit 635::nat_lit 636::nat_lit 642::nat_lit 643::nat_lit 649::nat_lit 650::nat_lit 654::nat_lit 655::[]
theorem ke(P:Params):as=(Mine.myK P).map (·.1):=by kernel_rfl
def Ls(w:World):Bool×Nat×Option Value:=((boot_heap w.params).isNs mainGlobals&&(Array.mk []:Array GenState).size==0,(boot_heap w.params).objs.size,(boot_heap w.params).nsMap mainGlobals "__annotations__")
def Rs(w:World):Bool×Nat×Option Value:=(true,11,some (Value.ref 6))
theorem es:Ls=Rs:=by kernel_rfl
def Lk0(w:World)(os:OsState):Bool:=staticsOk (importedModules pw_drawhouse_k37_whole_knots.main.body) (boot_heap w.params) (hF w.params)&&namesBound pw_drawhouse_k37_whole_knots (hF w.params)&&gensDone ⟨hF w.params,Array.mk [],{},nat_lit 1027,os⟩&&laidKept (boot_heap w.params) (hF w.params)
def Rk0(_:World)(_:OsState):Bool:=true
theorem rLk0:Lk0=Lk0:=rfl
name_quick Lk0 for Hd.Lk0 by Hd.rLk0
theorem qk0:PySem.W.Fast.Lk0=Rk0:=by kernel_rfl
theorem ek0:Lk0=Rk0:=PySem.W.Fast.Lk0_eq.trans qk0
def Lk1(w:World)(os:OsState):=(openSeen qv loose (importedModules pw_drawhouse_k37_whole_knots.main.body) xt true ⟨hF w.params,Array.mk [],{},nat_lit 1027,os⟩).1
def Rk1(_:World)(_:OsState):=(openGood qv loose).1
theorem rLk1:Lk1=Lk1:=rfl
name_quick Lk1 for Hd.Lk1 by Hd.rLk1
theorem rRk1:Rk1=Rk1:=rfl
name_quick Rk1 for Hd.Rk1 by Hd.rRk1
theorem qk1:PySem.W.Fast.Lk1=PySem.W.Fast.Rk1:=by kernel_rfl
theorem ek1:Lk1=Rk1:=PySem.W.Fast.Lk1_eq.trans (qk1.trans PySem.W.Fast.Rk1_eq.symm)
def Lk2(w:World)(os:OsState):=(openSeen qv loose (importedModules pw_drawhouse_k37_whole_knots.main.body) xt true ⟨hF w.params,Array.mk [],{},nat_lit 1027,os⟩).2.1
def Rk2(_:World)(_:OsState):=(openGood qv loose).2.1
theorem rLk2:Lk2=Lk2:=rfl
name_quick Lk2 for Hd.Lk2 by Hd.rLk2
theorem qk2:PySem.W.Fast.Lk2=Rk2:=by kernel_rfl
theorem ek2:Lk2=Rk2:=PySem.W.Fast.Lk2_eq.trans qk2
def Lk3(w:World)(os:OsState):=(openSeen qv loose (importedModules pw_drawhouse_k37_whole_knots.main.body) xt true ⟨hF w.params,Array.mk [],{},nat_lit 1027,os⟩).2.2.1
def Rk3(_:World)(_:OsState):=(openGood qv loose).2.2.1
theorem rLk3:Lk3=Lk3:=rfl
name_quick Lk3 for Hd.Lk3 by Hd.rLk3
theorem qk3:PySem.W.Fast.Lk3=Rk3:=by kernel_rfl
theorem ek3:Lk3=Rk3:=PySem.W.Fast.Lk3_eq.trans qk3
def Lk4(w:World)(os:OsState):=(openSeen qv loose (importedModules pw_drawhouse_k37_whole_knots.main.body) xt true ⟨hF w.params,Array.mk [],{},nat_lit 1027,os⟩).2.2.2.1
def Rk4(_:World)(_:OsState):=(openGood qv loose).2.2.2.1
theorem rLk4:Lk4=Lk4:=rfl
name_quick Lk4 for Hd.Lk4 by Hd.rLk4
theorem qk4:PySem.W.Fast.Lk4=Rk4:=by kernel_rfl
theorem ek4:Lk4=Rk4:=PySem.W.Fast.Lk4_eq.trans qk4
def Lk5(w:World)(os:OsState):=(openSeen qv loose (importedModules pw_drawhouse_k37_whole_knots.main.body) xt true ⟨hF w.params,Array.mk [],{},nat_lit 1027,os⟩).2.2.2.2.1
def Rk5(_:World)(_:OsState):=(openGood qv loose).2.2.2.2.1
theorem rLk5:Lk5=Lk5:=rfl
name_quick Lk5 for Hd.Lk5 by Hd.rLk5
theorem rRk5:Rk5=Rk5:=rfl
name_quick Rk5 for Hd.Rk5 by Hd.rRk5
theorem qk5:PySem.W.Fast.Lk5=PySem.W.Fast.Rk5:=by kernel_rfl
theorem ek5:Lk5=Rk5:=PySem.W.Fast.Lk5_eq.trans (qk5.trans PySem.W.Fast.Rk5_eq.symm)
def Lk6(w:World)(os:OsState):=(openSeen qv loose (importedModules pw_drawhouse_k37_whole_knots.main.body) xt true ⟨hF w.params,Array.mk [],{},nat_lit 1027,os⟩).2.2.2.2.2.1
def Rk6(_:World)(_:OsState):=(openGood qv loose).2.2.2.2.2.1
theorem rLk6:Lk6=Lk6:=rfl
name_quick Lk6 for Hd.Lk6 by Hd.rLk6
theorem rRk6:Rk6=Rk6:=rfl
name_quick Rk6 for Hd.Rk6 by Hd.rRk6
theorem qk6:PySem.W.Fast.Lk6=PySem.W.Fast.Rk6:=by kernel_rfl
theorem ek6:Lk6=Rk6:=PySem.W.Fast.Lk6_eq.trans (qk6.trans PySem.W.Fast.Rk6_eq.symm)
def Lk7(w:World)(os:OsState):=(openSeen qv loose (importedModules pw_drawhouse_k37_whole_knots.main.body) xt true ⟨hF w.params,Array.mk [],{},nat_lit 1027,os⟩).2.2.2.2.2.2.1
def Rk7(_:World)(_:OsState):=(openGood qv loose).2.2.2.2.2.2.1
theorem rLk7:Lk7=Lk7:=rfl
name_quick Lk7 for Hd.Lk7 by Hd.rLk7
theorem rRk7:Rk7=Rk7:=rfl
name_quick Rk7 for Hd.Rk7 by Hd.rRk7
theorem qk7:PySem.W.Fast.Lk7=PySem.W.Fast.Rk7:=by kernel_rfl
theorem ek7:Lk7=Rk7:=PySem.W.Fast.Lk7_eq.trans (qk7.trans PySem.W.Fast.Rk7_eq.symm)
def Lk8(w:World)(os:OsState):=(openSeen qv loose (importedModules pw_drawhouse_k37_whole_knots.main.body) xt true ⟨hF w.params,Array.mk [],{},nat_lit 1027,os⟩).2.2.2.2.2.2.2.1
def Rk8(_:World)(_:OsState):=(openGood qv loose).2.2.2.2.2.2.2.1
theorem rLk8:Lk8=Lk8:=rfl
name_quick Lk8 for Hd.Lk8 by Hd.rLk8
theorem rRk8:Rk8=Rk8:=rfl
name_quick Rk8 for Hd.Rk8 by Hd.rRk8
theorem qk8:PySem.W.Fast.Lk8=PySem.W.Fast.Rk8:=by kernel_rfl
theorem ek8:Lk8=Rk8:=PySem.W.Fast.Lk8_eq.trans (qk8.trans PySem.W.Fast.Rk8_eq.symm)
def Lk9(w:World)(os:OsState):=(openSeen qv loose (importedModules pw_drawhouse_k37_whole_knots.main.body) xt true ⟨hF w.params,Array.mk [],{},nat_lit 1027,os⟩).2.2.2.2.2.2.2.2
def Rk9(_:World)(_:OsState):=(openGood qv loose).2.2.2.2.2.2.2.2
theorem rLk9:Lk9=Lk9:=rfl
name_quick Lk9 for Hd.Lk9 by Hd.rLk9
theorem rRk9:Rk9=Rk9:=rfl
name_quick Rk9 for Hd.Rk9 by Hd.rRk9
theorem qk9:PySem.W.Fast.Lk9=PySem.W.Fast.Rk9:=by kernel_rfl
theorem ek9:Lk9=Rk9:=PySem.W.Fast.Lk9_eq.trans (qk9.trans PySem.W.Fast.Rk9_eq.symm)
def Qv(w:World)(_:OsState):List (Option Obj):=as.map (hF w.params).get?
def Qz(w:World)(_:OsState):List (Option Obj):=(Mine.myK w.params).map fun p=>some p.2
theorem Qp:Qv=Qz:=by kernel_rfl
theorem c{α:Type}{f g:World->OsState->α}(h:f=g){w:World}{os:OsState}:f w os=g w os:=h▸rfl
theorem ek(w:World):(fun os=>((staticsOk (importedModules pw_drawhouse_k37_whole_knots.main.body) (boot_heap w.params) (hF w.params)&&namesBound pw_drawhouse_k37_whole_knots (hF w.params)&&gensDone ⟨hF w.params,Array.mk [],{},nat_lit 1027,os⟩&&laidKept (boot_heap w.params) (hF w.params)),openSeen qv loose (importedModules pw_drawhouse_k37_whole_knots.main.body) xt true ⟨hF w.params,Array.mk [],{},nat_lit 1027,os⟩,Hook.obs (kHook Mine.myK as ke) ⟨hF w.params,Array.mk [],{},nat_lit 1027,os⟩))=fun _=>(true,openGood qv loose,Hook.val (kHook Mine.myK as ke) w) :=
 funext fun os=>Prod.ext (congrFun (congrFun ek0 w) os) (Prod.ext (Prod.ext (c ek1) (Prod.ext (c ek2) (Prod.ext (c ek3) (Prod.ext (c ek4) (Prod.ext (c ek5) (Prod.ext (c ek6) (Prod.ext (c ek7) (Prod.ext (c ek8) (c ek9))))))))) (congrFun (congrFun Qp w) os))
theorem op:opening pw_drawhouse_k37_whole_knots=plainProg pw_drawhouse_k37_whole_knots.main.scope.names:=by kernel_rfl
theorem fn(s:Shared):fenceModules? pw_drawhouse_k37_whole_knots s=some s:=by kernel_rfl
theorem left:LeftO pw_drawhouse_k37_whole_knots qv loose xt (Hook.obs (kHook Mine.myK as ke)) (Hook.val (kHook Mine.myK as ke)) 10754 true:=by
 refine LeftO.of_pieces (boot_open op rfl fn) (congrFun es) run rfl ek
theorem re:rw_drawhouse_k37_whole_knots=rz:=rfl
end
end Hd
open PySem PySem.W PyProof.Rows
set_option maxRecDepth 100000 in
set_option maxHeartbeats 0 in
theorem PySem.Challenge.cw_drawhouse_k37_whole_knots_holds : PySem.Challenge.rw_drawhouse_k37_whole_knots.Holds := by
 rw[Hd.re];w_on;o_law
 refine holds_open (r:=OpenLaw.row Hd.rz) (q:=Hd.qv) (loose:=Hd.loose) (Xt:=Hd.xt) (XP:=XL Hd.qv Hd.lv) (Yf:=Hook.obs (kHook Mine.myK Hd.as Hd.ke)) (Ya:=Hook.val (kHook Mine.myK Hd.as Hd.ke))
  (YP:=Hook.says (kHook Mine.myK Hd.as Hd.ke)) Hd.left (Hook.of (kHook Mine.myK Hd.as Hd.ke)) (Hook.keeps (kHook Mine.myK Hd.as Hd.ke)) (fun s e=>xl_of s (Bool.and_eq_true_iff.mp e).1) XL.keeps Z3 Z3 Z3
  (fun s e=>recFacts_of (Bool.and_eq_true_iff.mp e).2) rfl (by assumption) Z4 ⟨rfl,rfl,rfl,rfl,rfl,Z4⟩ ?hw ?hc
 (case hw=>exact⟨[.list []],Z4,Z4⟩)
 have _:(rw_drawhouse_k37_whole_knots,Mine.myK)=(rw_drawhouse_k37_whole_knots,Mine.myK):=by(k_fill;rfl)
 refine Mine.walk (l:=Hd.rz) rfl rfl (fun w h Y=>PySem.W.kIn_of Y) ?F
 case F =>
  intro w mg fa h KX G hmg
  refine' Mine.N5 KX G hmg (Mine.fi ?_ ?_ ?_ ?_) (Mine.fi ?_ ?_ ?_ ?_) (Mine.fi ?_ ?_ ?_ ?_) (Mine.fi ?_ ?_ ?_ ?_) (Mine.fi ?_ ?_ ?_ ?_) (Mine.fi ?_ ?_ ?_ ?_) (Mine.fi ?_ ?_ ?_ ?_) (Mine.fi ?_ ?_ ?_ ?_) (Mine.fi ?_ ?_ ?_ ?_) (Mine.fi ?_ ?_ ?_ ?_) (Mine.fi ?_ ?_ ?_ ?_) (Mine.fi ?_ ?_ ?_ ?_) (Mine.fi ?_ ?_ ?_ ?_) (Mine.fi ?_ ?_ ?_ ?_) (Mine.fi ?_ ?_ ?_ ?_) (Mine.fi ?_ ?_ ?_ ?_) (Mine.fi ?_ ?_ ?_ ?_) (Mine.fi ?_ ?_ ?_ ?_) (Mine.fi ?_ ?_ ?_ ?_) (Mine.fi ?_ ?_ ?_ ?_) (Mine.fi ?_ ?_ ?_ ?_) (Mine.fi ?_ ?_ ?_ ?_) (Mine.fi ?_ ?_ ?_ ?_) (Mine.fi ?_ ?_ ?_ ?_) (Mine.fi ?_ ?_ ?_ ?_) (Mine.fi ?_ ?_ ?_ ?_) (Mine.fi ?_ ?_ ?_ ?_) (Mine.fi ?_ ?_ ?_ ?_) (Mine.fi ?_ ?_ ?_ ?_) (Mine.fi ?_ ?_ ?_ ?_) (Mine.fi ?_ ?_ ?_ ?_) ⟨?_,?_,?_,?_,?_,?_,?_,?_,?_,?_,?_⟩ ⟨?_,?_,?_,?_,?_,?_,?_,?_,?_,?_,?_⟩ ⟨?_,?_,?_,?_,?_,?_,?_,?_,?_,?_,?_⟩ ⟨?_,?_,?_,?_,?_,?_,?_,?_,?_,?_,?_⟩ ⟨?_,?_,?_,?_,?_,?_,?_,?_,?_,?_,?_⟩ ⟨?_,?_,?_,?_,?_,?_,?_,?_,?_,?_,?_⟩ ⟨?_,?_,?_,?_,?_,?_,?_,?_,?_,?_,?_⟩ ⟨?_,?_,?_,?_,?_,?_,?_,?_,?_,?_,?_⟩ ⟨?_,?_,?_,?_,?_,?_,?_,?_,?_,?_,?_⟩ ?_ ?_ ?_ ?_ ?_ ?_ ?_ ?_ ?_ ?_ ?_ ?_ ?_ ?_ ?_ ?_ ?_ ?_ ?_ ?_ ?_ ?_ ?_ ?_ ?_ ?_ ?_ ?_ ?_ ?_ ?_ ?_ ?_ ?_ ?_ ?_ ?_ ?_ ?_ ?_ ?_ ?_ ?_ ?_ ?_ ?_ ?_ ?_ ?_ ?_ ?_ ?_ ?_ ?_ ?_ ?_ ?_ ?_ ?_ ?_ ?_ ?_ ?_ ?_ ?_ ?_ ?_ ?_ ?_ ?_ ?_ ?_ ?_ ?_ ?_ (Mine.mi ?_ ?_ ?_ ?_) ?_ ?_ ?_ ?_ (Mine.mi ?_ ?_ ?_ ?_) ?_ (Mine.mi ?_ ?_ ?_ ?_) ?_ (Mine.mi ?_ ?_ ?_ ?_) ?_ (Mine.mi ?_ ?_ ?_ ?_) ?_ (Mine.mi ?_ ?_ ?_ ?_) ?_ (Mine.mi ?_ ?_ ?_ ?_) ?_ (Mine.mi ?_ ?_ ?_ ?_) ?_ (Mine.mi ?_ ?_ ?_ ?_) ?_ (Mine.mi ?_ ?_ ?_ ?_) ?_ (Mine.mi ?_ ?_ ?_ ?_) ?_ (Mine.mi ?_ ?_ ?_ ?_) ?_ (Mine.mi ?_ ?_ ?_ ?_) ?_ (Mine.mi ?_ ?_ ?_ ?_) ?_ (Mine.mi ?_ ?_ ?_ ?_) ?_ (Mine.mi ?_ ?_ ?_ ?_) ?_ (Mine.mi ?_ ?_ ?_ ?_) ?_ (Mine.mi ?_ ?_ ?_ ?_) ?_ (Mine.mi ?_ ?_ ?_ ?_) ?_ (Mine.mi ?_ ?_ ?_ ?_) ?_ (Mine.mi ?_ ?_ ?_ ?_) ?_ (Mine.mi ?_ ?_ ?_ ?_) ?_ (Mine.mi ?_ ?_ ?_ ?_) ?_ ?_ ?_ ?_ ?_ ?_ ?_ ?_ ?_ ?_ ?_ (Mine.mi ?_ ?_ ?_ ?_) ?_ ?_ ?_ ?_ ?uSK ?uNI ?_ ?_ ?_ ?_ ?_ ?_ ?_ ?_ ?_ ?_ ?_ ?_ ?_ ?_ ?_ ?_ ?_ ?_ ?_ ?_ ?_
  any_goals k_is
  (case uSK=>rfl);(case uNI=>rfl)
#print axioms PySem.Challenge.cw_drawhouse_k37_whole_knots_holds
