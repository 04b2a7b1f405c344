import PyProof.Rows.All
import Wide.All
import OpenK.AllK
import Wide.FinOn
import Lean
import PyProof.EqAt
import PyProof.EqKinds
import PyProof.TupleCall
import KE.KIntText
import PyProof.ZipIter
import PyProof.EnumFor
import PyProof.EnumMake
import PyProof.ExcClass3
import PyProof.ExcFactsAll.ValueError
import PyProof.ExcArgs
import PyProof.InstStoreFacts
import PyProof.ExcBaseAll.ValueError
import PyProof.Rows.FStr
import KE.KRevSl
import KE.KDictSum
import PyProof.NeKinds
import PyProof.MinMaxWalk
import PySem.Challenge.RW_drawhouse_k25_the_first_wrong_row
set_option Elab.async false
set_option linter.all false
set_option maxRecDepth 100000
abbrev OP := List (PySem.Addr × PySem.Obj)
abbrev EV := PySem.Value -> PySem.Shared -> Prop
abbrev MG := PySem.Str -> Option PySem.Value
open PySem.W (instObj methodObj Frag lookIn plainGet hasDictIn findIn handedIn plainGet_of isFn plainOver takerIn makesIn typeIn emptyDict keepIn specialIn takesIn mroIn kitOne kia_one kitx_list kitx_dict callWith_K methodCall_KW cellsFrom_some fnOf codeIn codeRec_of OpenLaw WalkO kitMeta nsIn kitAny readsIn findCls mg_of mg_none_of)
open Nat (lt_of_lt_of_le lt_irrefl ne_of_lt le_trans le_of_lt ne_of_gt le_refl zero_le le_of_eq lt_succ_self le_succ lt_or_ge min_eq_left not_lt succ_pos sub_self zero_lt_one)
open List (mem_filter mem_range mem_cons_self mem_cons_of_mem mem_cons mem_append mem_append_left getElem?_set_self getElem?_set_ne any_cons mem_append_right any_eq_false length_cons map_cons length_map append_nil nodup_cons of_mem_zip length_take getElem?_append_right getElem?_append_left getElem?_map getElem?_take_of_lt mem_of_getElem? length_append length_drop size_toArray length_set replicate_succ flatten_cons append_assoc nil_append map_nil find?_cons filter_cons mem_map map_eq_nil_iff sum_cons forIn_cons lookup_cons all_eq_true mem_singleton set_set map_append take_length ext_getElem all_map getElem?_eq_getElem not_mem_nil length_range drop_eq_nil_of_le cons_append map_map getElem_of_mem map_take contains_cons length_pos_iff getElem_mem take_succ flatMap_cons map_set)
open Int (toNat_natCast emod_nonneg emod_lt_of_pos eq_ofNat_of_zero_le zero_add)
open Bool (and_eq_true)
open PySem (list_append boot_len)
open Option (bind_some)
open List.Pairwise (imp_of_mem)
open PySem.F (excBase_ValueError plainAttrs_str slot_str_split type_str_split plainAttrs_list slot_str_join type_str_join)
open PySem.Challenge (pw_drawhouse_k25_the_first_wrong_row rw_drawhouse_k25_the_first_wrong_row)
open PyProof.Rows (boot_list boot_isinstance boot_str boot_all boot_int)
theorem Z0 {p : Prop} (h : p := by decide) : p := h
theorem Z1 {p : Prop} (h : p := by omega) : p := h
theorem Z2 {p : Prop} (h : p := by simp) : p := h
theorem Z3 {p : Prop} (h : p := by rfl) : p := h
theorem Z4 {p : Prop} (h : p := by decide +kernel) : p := h
theorem Z5 {p : Prop} (h : p := by kernel_rfl) : p := h
theorem Z6 {p : Prop} (h : p := by simp; omega) : p := h
theorem Z7 {p : Prop} (h : p := by intro z; cases z) : p := h
namespace L2
open PySem PySem.Spec PyProof.Rows
abbrev Key := Sum Int Str
def Kl : Key -> Value -> Bool
 | .inl k, v => Value.isInt k v
 | .inr x, v => Value.isStrOf x v
def Ry (w : World) : Key -> Int
 | .inl k => hashInt k
 | .inr x => hashStr w x
theorem bW : ∀ {k : Key} {v : Value}, Kl k v = true -> (∃ i t, k = Sum.inl i /\ v = Value.int i t) \/ (∃ x t, k = Sum.inr x /\ v = Value.str x t)
 | .inl i, v, h => by
  obtain ⟨t, e⟩ := Value.isInt_shape (k := i) (v := v) h
  exact .inl ⟨i, t, rfl, e⟩
 | .inr x, v, h => by
  obtain ⟨t, e⟩ := Value.isStrOf_shape (x := x) (v := v) h
  exact .inr ⟨x, t, rfl, e⟩
theorem Ln (a b : Int) : decide ((Sum.inl a : Key) = Sum.inl b) = (a == b) := by
 by_cases e : a = b
 ·subst e; simp
 ·have h : ¬ (Sum.inl a : Key) = Sum.inl b := fun q => e (Sum.inl.inj q)
  rw [decide_eq_false h]
  exact (beq_eq_false_iff_ne.mpr e).symm
theorem M6 (a b : Str) : decide ((Sum.inr a : Key) = Sum.inr b) = decide (a = b) := by
 by_cases e : a = b
 ·subst e; simp
 ·have h : ¬ (Sum.inr a : Key) = Sum.inr b := fun q => e (Sum.inr.inj q)
  rw [decide_eq_false h, decide_eq_false e]
theorem Mh (a : Int) (b : Str) : decide ((Sum.inl a : Key) = Sum.inr b) = false := decide_eq_false (fun q => nomatch q)
theorem Lk (a : Str) (b : Int) : decide ((Sum.inr a : Key) = Sum.inl b) = false := decide_eq_false (fun q => nomatch q)
def Aj (prog : Program) (w : World) : PySem.KeyKind prog w Key where
 is := Kl
 hash := Ry w
 inj := fun v a b ha hb => by
  rcases bW ha with ⟨i, t, rfl, rfl⟩ | ⟨x, t, rfl, rfl⟩
  ·rcases bW hb with ⟨j, u, rfl, e⟩ | ⟨y, u, rfl, e⟩
   ·injection e with e1 _; rw [e1]
   ·exact nomatch e
  ·rcases bW hb with ⟨j, u, rfl, e⟩ | ⟨y, u, rfl, e⟩
   ·exact nomatch e
   ·injection e with e1 _; rw [e1]
 byValue := fun k v h => by
  rcases bW h with ⟨i, t, rfl, rfl⟩ | ⟨x, t, rfl, rfl⟩ <;> rfl
 pyHash := fun hv h => by
  rcases bW hv with ⟨i, t, rfl, rfl⟩ | ⟨x, t, rfl, rfl⟩
  ·exact wpAny_pyHash_int h
  ·exact wpAny_pyHash_str h
 eqBool := fun hu hv h => by
  rcases bW hu with ⟨i, t, rfl, rfl⟩ | ⟨x, t, rfl, rfl⟩
  ·rcases bW hv with ⟨j, u, rfl, rfl⟩ | ⟨y, u, rfl, rfl⟩
   ·rw [Ln] at h; exact wpAny_eqBool_int h
   ·rw [Mh] at h; exact SeqAt.EqAt.int_str i t y u _ _ _ _ h
  ·rcases bW hv with ⟨j, u, rfl, rfl⟩ | ⟨y, u, rfl, rfl⟩
   ·rw [Lk] at h; exact SeqAt.EqAt.str_int x t j u _ _ _ _ h
   ·rw [M6] at h; exact wpAny_eqBool_str h
 «strs» := fun k x t v h => by
  rcases bW h with ⟨i, u, rfl, e⟩ | ⟨y, u, rfl, e⟩
  ·exact nomatch e
  ·injection e with e1 _
   subst e1
   cases v <;> rfl
inductive V where
 | non | bl (b : Bool) | int (i : Int) | str (x : Str) | byt (b : Array UInt8) | flt (b : UInt64) | ref (a : Addr) | ty (n : String) | stk (x : Str) (t : Tok)
 deriving DecidableEq
def V.isK : V -> Bool
 | .stk _ _ => true
 | _ => false
def RelV : V -> Value -> Prop
 | .non, u => u = Value.none
 | .bl b, u => u = Value.bool b
 | .int i, u => ∃ t, u = Value.int i t
 | .str x, u => ∃ t, u = Value.str x t
 | .byt b, u => ∃ t, u = Value.bytes b t
 | .flt b, u => ∃ t, u = Value.float b t
 | .ref a, u => u = Value.ref a
 | .ty n, u => u = Value.type n
 | .stk x t, u => u = Value.str x t
abbrev Vals : List V -> List Value -> Prop := Paired RelV
theorem Vals.length {xs : List V} {us : List Value} (r : Vals xs us) : xs.length = us.length := Paired.length r
theorem Vals.get : ∀ {xs : List V} {us : List Value} {i : Nat} {x : V}, Vals xs us -> xs[i]? = some x -> ∃ u, us[i]? = some u /\ RelV x u
 | _, _, _, _, .nil, e => by simp at e
 | _, _, 0, _, .cons r _, e => by simp at e; subst e; exact ⟨_, rfl, r⟩
 | _, _, i + 1, x, .cons _ t, e => by
  obtain ⟨u, h1, h2⟩ := Vals.get (i := i) (x := x) t (by simpa using e)
  exact ⟨u, by simpa using h1, h2⟩
theorem Vals.set {x : V} {u : Value} (r : RelV x u) : ∀ {xs : List V} {us : List Value} (i : Nat), Vals xs us -> Vals (xs.set i x) (us.set i u)
 | _, _, _, .nil => .nil
 | _, _, 0, .cons _ t => .cons r t
 | _, _, i + 1, .cons q t => .cons q (Vals.set r i t)
theorem Vals.append : ∀ {xs ys : List V} {us ws : List Value}, Vals xs us -> Vals ys ws -> Vals (xs ++ ys) (us ++ ws)
 | _, _, _, _, .nil, s => s
 | _, _, _, _, .cons r t, s => .cons r (Vals.append t s)
theorem Vals.take : ∀ {xs : List V} {us : List Value} (n : Nat), Vals xs us -> Vals (xs.take n) (us.take n)
 | _, _, 0, _ => .nil
 | _, _, _ + 1, .nil => .nil
 | _, _, n + 1, .cons r t => .cons r (Vals.take n t)
theorem Vals.drop : ∀ {xs : List V} {us : List Value} (n : Nat), Vals xs us -> Vals (xs.drop n) (us.drop n)
 | _, _, 0, r => r
 | _, _, _ + 1, .nil => .nil
 | _, _, n + 1, .cons _ t => Vals.drop n t
theorem Vals.none_of : ∀ {xs : List V} {us : List Value} {i : Nat}, Vals xs us -> xs[i]? = none -> us[i]? = none := fun {xs us i} r e => by
 have h1 := r.length
 have h2 : xs.length <= i := List.getElem?_eq_none_iff.mp e
 exact List.getElem?_eq_none_iff.mpr Z1
def jh : Option V -> Option Value -> Prop
 | some v, some u => RelV v u
 | none, none => True
 | _, _ => False
def KV {κ : Type} : List (κ × V) -> List (κ × Value) -> Prop := Paired fun (p : κ × V) (q : κ × Value) => p.1 = q.1 /\ RelV p.2 q.2
def kV : Key -> V
 | .inl i => .int i
 | .inr x => .str x
inductive HO where
 | lst (xs : List V)
 | tup (xs : List V)
 | dK (kvs : List (Key × V)) | dT (kvs : List (List Key × V))
 | set (S : Int -> Bool) (n : Nat)
 | ins (C dx : Addr) (fs : List (Str × V))
 | own (x : Addr)
 | xd (fs : List (Str × V))
 | met (f x : Addr)
 | rng (lo hi : Int)
 | frz (o : Obj) (u : HO)
 | tbl (ps : Array Value)
 | ext (φ : Heap -> Prop)
abbrev Hp := Addr -> Option HO
def upd (H : Hp) (a : Addr) (o : HO) : Hp := fun b => if b = a then some o else H b
theorem ak {H : Hp} {a : Addr} {o : HO} : upd H a o a = some o := by unfold upd; rw [if_pos rfl]
theorem aD {H : Hp} {a b : Addr} {o : HO} (h : b ≠ a) : upd H a o b = H b := by unfold upd; rw [if_neg h]
theorem kO {H : Hp} {a b : Addr} {o u : HO} (h : H a = some o) (h' : H b = some u) (d : o ≠ u) : a ≠ b := by
 intro e; subst e; rw [h] at h'; exact d (Option.some.inj h')
theorem aB {H : Hp} {a b : Addr} {o : HO} (h : H a = some o) (h' : H b = none) : a ≠ b := by
 intro e; subst e; rw [h] at h'; cases h'
section
variable (P : Program) (w : World)
def cu (H : Hp) (h : Heap) (a : Addr) : HO -> Prop
 | .lst xs => xs.length <= sizeLine /\ ∃ (its : List Value) (n : Nat), Vals xs its /\ h.get? a = some { cls := .type "list", data := .seq its.toArray n }
 | .tup xs => xs.length <= sizeLine /\ ∃ its : List Value, Vals xs its /\ IsTup h a its.toArray
 | .dK kvs => kvs.length <= sizeLine /\ (a == sysModules) = false /\ ∃ vs, KV kvs vs /\ h.DictOf (Aj P w) a vs
 | .dT kvs => kvs.length <= sizeLine /\ (a == sysModules) = false /\ ∃ xs : List (List Key × Addr × Value),
   Paired (fun (p : List Key × V) (q : List Key × Addr × Value) => p.1 = q.1 /\ H q.2.1 = some (.tup (p.1.map kV)) /\ RelV p.2 q.2.2) kvs xs /\
   ∃ o es ep, h.get? a = some o /\ o.ExactDict /\ o.data = .dict es ep /\ es.toList = xs.map (entryOfKey (tupleKind (Aj P w))) /\ (xs.map (·.1)).Nodup
 | .set S n => h.SetOf (intKind P w) a S n
 | .ins C dx fs => H dx = some (.own a) /\ fs.length <= 1000 /\ dx ≠ a /\ h.get? a = some (instObj C dx) /\
   ∃ mA, h.Ns1 dx mA /\ (∀ f, jh (fs.lookup f) (mA f)) /\ PySem.Within mA (fs.map (·.1))
 | .own _ => ∃ o, h.get? a = some o
 | .xd fs => ∃ mA, h.Ns1 a mA /\ ∀ f, jh (fs.lookup f) (mA f)
 | .rng lo hi => ∃ t u v, h.get? a = some { cls := .type "range", data := .fields #[.int lo t, .int hi u, .int 1 v] }
 | .frz o u => h.get? a = some o /\ cu H h a u
 | .tbl ps => h.get? a = some { cls := .none, data := .fields ps }
 | .met f x => h.get? a = some (methodObj (.ref f) (.ref x))
 | .ext φ => φ h /\ (∃ o, h.get? a = some o) /\ ∀ h1 h2 : Heap, φ h1 -> (∀ o, h1.get? a = some o -> h2.get? a = some o) -> φ h2
def HOk (H : Hp) (h : Heap) : Prop := ∀ a o, H a = some o -> cu P w H h a o
end
section
variable {P : Program} {w : World} {H H' : Hp} {h h' : Heap} {a : Addr} {o : HO}
theorem cu.lt (x : cu P w H h a o) : a < h.objs.size := by
 cases o with
 | lst xs => obtain ⟨_, _, _, _, e⟩ := x; exact Heap.lt_size e
 | tup xs => obtain ⟨_, _, _, p⟩ := x; exact p.lt
 | dK kvs => obtain ⟨_, _, _, _, o, _, _, e, _⟩ := x; exact Heap.lt_size e
 | dT kvs => obtain ⟨_, _, _, _, o, _, _, e, _⟩ := x; exact Heap.lt_size e
 | set S n => obtain ⟨o, _, _, _, e, _⟩ := x; exact Heap.lt_size e
 | ins C dx fs => obtain ⟨_, _, _, e, _⟩ := x; exact Heap.lt_size e
 | own y => obtain ⟨_, e⟩ := x; exact Heap.lt_size e
 | xd fs => obtain ⟨_, ⟨_, _, _, e, _⟩, _⟩ := x; exact Heap.lt_size e
 | rng lo hi => obtain ⟨_, _, _, e⟩ := x; exact Heap.lt_size e
 | frz ob u => obtain ⟨e, _⟩ := x; exact Heap.lt_size e
 | tbl ps => exact Heap.lt_size (show h.get? a = some _ from x)
 | met f y => exact Heap.lt_size (show h.get? a = some _ from x)
 | ext φ => obtain ⟨_, ⟨_, e⟩, _⟩ := x; exact Heap.lt_size e
theorem Paired.mapP {α β : Type} {F G : α -> β -> Prop} : ∀ {l₁ : List α} {l₂ : List β}, Paired F l₁ l₂ -> (∀ a b, F a b -> G a b) -> Paired G l₁ l₂
 | _, _, .nil, _ => .nil
 | _, _, .cons r t, f => .cons (f _ _ r) (Paired.mapP t f)
theorem cu.stay (x : cu P w H h a o) (k : ∀ b u, (b = a \/ H b = some (.own a)) -> h.get? b = some u -> h'.get? b = some u)
  (ho : ∀ b, H b = some (.own a) -> H' b = some (.own a)) (ht : ∀ b xs, H b = some (.tup xs) -> H' b = some (.tup xs)) : cu P w H' h' a o := by
 induction o with
 | lst xs => obtain ⟨z, its, n, r, e⟩ := x; exact ⟨z, its, n, r, k _ _ (.inl rfl) e⟩
 | tup xs => obtain ⟨z, its, r, ob, e, c⟩ := x; exact ⟨z, its, r, ob, k _ _ (.inl rfl) e, c⟩
 | dK kvs => obtain ⟨z, y, vs, r, ob, es, ep, e, c⟩ := x; exact ⟨z, y, vs, r, ob, es, ep, k _ _ (.inl rfl) e, c⟩
 | dT kvs =>
  obtain ⟨z, y, xs, r, ob, es, ep, e, c⟩ := x
  exact ⟨z, y, xs, Paired.mapP r fun p q z => ⟨z.1, ht _ _ z.2.1, z.2.2⟩, ob, es, ep, k _ _ (.inl rfl) e, c⟩
 | set S n => obtain ⟨ob, es, ep, t, e, c⟩ := x; exact ⟨ob, es, ep, t, k _ _ (.inl rfl) e, c⟩
 | ins C dx fs =>
  obtain ⟨d, z, ne, e, mA, ⟨od, es, ep, e2, c⟩, r⟩ := x
  exact ⟨ho _ d, z, ne, k _ _ (.inl rfl) e, mA, ⟨od, es, ep, k _ _ (.inr d) e2, c⟩, r⟩
 | own y => obtain ⟨ob, e⟩ := x; exact ⟨ob, k _ _ (.inl rfl) e⟩
 | xd fs => obtain ⟨mA, ⟨od, es, ep, e, c⟩, r⟩ := x; exact ⟨mA, ⟨od, es, ep, k _ _ (.inl rfl) e, c⟩, r⟩
 | rng lo hi => obtain ⟨t, u, v, e⟩ := x; exact ⟨t, u, v, k _ _ (.inl rfl) e⟩
 | frz ob u ih => obtain ⟨e, q⟩ := x; exact ⟨k _ _ (.inl rfl) e, ih q⟩
 | tbl ps =>
  have e : h.get? a = some { cls := .none, data := .fields ps } := x
  show h'.get? a = some { cls := .none, data := .fields ps }
  exact k a _ (.inl rfl) e
 | met f y =>
  have e : h.get? a = some (methodObj (.ref f) (.ref y)) := x
  show h'.get? a = some (methodObj (.ref f) (.ref y))
  exact k a _ (.inl rfl) e
 | ext φ => obtain ⟨p, ⟨o, e⟩, st⟩ := x; exact ⟨st _ _ p fun o q => k _ _ (.inl rfl) q, ⟨o, k _ _ (.inl rfl) e⟩, st⟩
theorem HOk.lt (x : HOk P w H h) (e : H a = some o) : a < h.objs.size := (x a o e).lt
theorem HOk.fresh (x : HOk P w H h) (e : h.objs.size <= a) : H a = none := by
 cases q : H a with
 | none => rfl
 | some u => exact absurd (lt_of_lt_of_le (x.lt q) e) (lt_irrefl _)
theorem HOk.kept (x : HOk P w H h) (k : ∀ b u, h.get? b = some u -> h'.get? b = some u) : HOk P w H h' := fun a o e =>
 (x a o e).stay (fun b u _ q => k b u q) (fun _ q => q) fun _ _ q => q
theorem HOk.laid (x : HOk P w H h) (k : ∀ b u, h.get? b = some u -> h'.get? b = some u) (hp : h.objs.size <= a) (new : cu P w (upd H a o) h' a o) : HOk P w (upd H a o) h' := fun b u e => by
 have hn := x.fresh hp
 by_cases hb : b = a
 ·subst hb; rw [ak] at e; cases e; exact new
 ·rw [aD hb] at e
  exact (x b u e).stay (fun c v _ q => k c v q) (fun c q => by rw [aD (aB q hn)]; exact q) fun c xs q => by rw [aD (aB q hn)]; exact q
end
def Rd (H : Hp) (a : Addr) (u : HO) : Prop := H a = some u \/ ∃ o, H a = some (.frz o u)
theorem Rd.of {H : Hp} {a : Addr} {u : HO} (h : H a = some u) : Rd H a u := .inl h
theorem Rd.ok {P : Program} {w : World} {H : Hp} {h : Heap} {a : Addr} {u : HO} (r : Rd H a u) (x : HOk P w H h) : cu P w H h a u := by
 rcases r with r | ⟨o, r⟩
 ·exact x a u r
 ·obtain ⟨_, q⟩ := x a _ r
  exact q
def Mut : Option HO -> Prop
 | some (.lst _) => True
 | some (.dK _) => True
 | some (.dT _) => True
 | some (.set _ _) => True
 | some (.ins _ _ _) => True
 | some (.ext _) => True
 | _ => False
section
variable {P : Program} {w : World} {H : Hp} {h h' : Heap} {x e : Addr} {o' : HO}
theorem HOk.write (ok : HOk P w H h) (mu : Mut (H x)) (he : e = x \/ H e = some (.own x)) (k : ∀ b u, b ≠ e -> h.get? b = some u -> h'.get? b = some u) (heo : ∃ u, h'.get? e = some u)
  (new : cu P w (upd H x o') h' x o') : HOk P w (upd H x o') h' := fun b u q => by
 have nown : ∀ c y, H c = some (.own y) -> c ≠ x := fun c y r z => by subst z; rw [r] at mu; exact mu
 have ntup : ∀ c xs, H c = some (.tup xs) -> c ≠ x := fun c xs r z => by subst z; rw [r] at mu; exact mu
 by_cases hb : b = x
 ·subst hb; rw [ak] at q; cases q; exact new
 ·rw [aD hb] at q
  by_cases hbe : b = e
  ·have q' : H b = some (.own x) := by
    rcases he with z | z
    ·exact absurd (hbe.trans z) hb
    ·rw [hbe]; exact z
   rw [q] at q'; cases q'
   obtain ⟨v, hv⟩ := heo
   exact ⟨v, by rw [hbe]; exact hv⟩
  ·refine (ok b u q).stay (fun c v hc r => k c v ?_ r) (fun c r => by rw [aD (nown c b r)]; exact r) fun c xs r => by rw [aD (ntup c xs r)]; exact r
   rcases hc with rfl | hc
   ·exact hbe
   ·rintro rfl
    rcases he with z | z
    ·exact nown c b hc z
    ·rw [hc] at z; cases z; exact hb rfl
end
structure Un (fs ex : List Addr) (H H' : Hp) (h h' : Heap) : Prop where
 keep : ∀ b o, h.get? b = some o -> H b = none -> b ∉ fs -> b ∉ ex -> h'.get? b = some o
 slot : ∀ b o, h.get? b = some o -> H b = none -> b ∈ fs -> b ∉ ex -> ∃ sl, h'.get? b = some { o with slots := sl }
 free : ∀ b o, h.get? b = some o -> H b = none -> b ∉ ex -> H' b = none
 there : ∀ b o, h.get? b = some o -> b ∉ ex -> ∃ o', h'.get? b = some o'
 tups : ∀ b xs, H b = some (.tup xs) -> H' b = some (.tup xs)
 frzs : ∀ b o u, H b = some (.frz o u) -> H' b = some (.frz o u)
 tbls : ∀ b ps, H b = some (.tbl ps) -> ∃ more, H' b = some (.tbl (ps ++ more))
section
variable {fs fs' ex ex' : List Addr} {H H1 H2 : Hp} {h h1 h2 h' : Heap} {a x e : Addr} {o : HO}
theorem Un.any (u : Un fs ex H H1 h h1) {b : Addr} {ob : Obj} (q : h.get? b = some ob) (n : H b = none) (hx : b ∉ ex) : ∃ sl, h1.get? b = some { ob with slots := sl } := by
 by_cases hb : b ∈ fs
 ·exact u.slot b ob q n hb hx
 ·exact ⟨ob.slots, u.keep b ob q n hb hx⟩
theorem Un.trans (a : Un fs ex H H1 h h1) (b : Un fs ex H1 H2 h1 h2) : Un fs ex H H2 h h2 where
 keep := fun c ob q n hc hx => b.keep c ob (a.keep c ob q n hc hx) (a.free c ob q n hx) hc hx
 slot := fun c ob q n hc hx => by
  obtain ⟨sl, e1⟩ := a.slot c ob q n hc hx
  obtain ⟨sl', e2⟩ := b.slot c _ e1 (a.free c ob q n hx) hc hx
  exact ⟨sl', e2⟩
 free := fun c ob q n hx => by
  obtain ⟨o', e1⟩ := a.there c ob q hx
  exact b.free c o' e1 (a.free c ob q n hx) hx
 there := fun c ob q hx => by
  obtain ⟨o', e1⟩ := a.there c ob q hx
  exact b.there c o' e1 hx
 tups := fun c xs q => b.tups c xs (a.tups c xs q)
 frzs := fun c ob xs q => b.frzs c ob xs (a.frzs c ob xs q)
 tbls := fun c ps q => by
  obtain ⟨m1, e1⟩ := a.tbls c ps q
  obtain ⟨m2, e2⟩ := b.tbls c _ e1
  exact ⟨m1 ++ m2, by rw [e2, Array.append_assoc]⟩
theorem Un.kept (k : ∀ b u, h.get? b = some u -> h'.get? b = some u) : Un fs ex H H h h' :=
 ⟨fun b ob q _ _ _ => k b ob q, fun b ob q _ _ _ => ⟨ob.slots, k b ob q⟩, fun _ _ _ n _ => n, fun b ob q _ => ⟨ob, k b ob q⟩, fun _ _ q => q, fun _ _ _ q => q, fun _ ps q => ⟨#[], by rw [q]; simp⟩⟩
theorem Un.refl : Un fs ex H H h h := Un.kept fun _ _ q => q
theorem Un.laid (k : ∀ b u, h.get? b = some u -> h'.get? b = some u) (hp : h.objs.size <= a) (hn : H a = none) : Un fs ex H (upd H a o) h h' where
 keep := fun b u q _ _ _ => k b u q
 slot := fun b u q _ _ _ => ⟨u.slots, k b u q⟩
 free := fun b u q n _ => by rw [aD (ne_of_lt (lt_of_lt_of_le (Heap.lt_size q) hp))]; exact n
 there := fun b u q _ => ⟨u, k b u q⟩
 tups := fun b xs q => by rw [aD (aB q hn)]; exact q
 frzs := fun b u xs q => by rw [aD (aB q hn)]; exact q
 tbls := fun b ps q => ⟨#[], by rw [aD (aB q hn), q]; simp⟩
theorem Un.write (mu : Mut (H x)) (he : e = x \/ H e = some (.own x)) (k : ∀ b u, b ≠ e -> h.get? b = some u -> h'.get? b = some u) (heo : ∃ u, h'.get? e = some u) : Un fs ex H (upd H x o) h h' := by
 have hx : ∀ b, H b = none -> b ≠ x := fun b n z => by subst z; rw [n] at mu; exact mu
 have hb : ∀ b, H b = none -> b ≠ e := fun b n z => by
  subst z
  rcases he with r | r
  ·exact hx b n r
  ·rw [n] at r; cases r
 have hm : ∀ b u, H b = some u -> ¬ Mut (some u) -> b ≠ x := fun b u q nm z => by subst z; rw [q] at mu; exact nm mu
 refine ⟨fun b u q n _ _ => k b u (hb b n) q, fun b u q n _ _ => ⟨u.slots, k b u (hb b n) q⟩, fun b u q n _ => by rw [aD (hx b n)]; exact n, fun b u q _ => ?_,
  fun b xs q => by rw [aD (hm b _ q fun z => z)]; exact q, fun b u xs q => by rw [aD (hm b _ q fun z => z)]; exact q, fun b ps q => ⟨#[], by rw [aD (hm b _ q fun z => z), q]; simp⟩⟩
 by_cases hbe : b = e
 ·subst hbe; exact heo
 ·exact ⟨u, k b u hbe q⟩
theorem Un.mono (u : Un fs ex H H1 h h1) (hs : ∀ b ∈ fs, b ∈ fs') (hx : ∀ b ∈ ex, b ∈ ex') : Un fs' ex' H H1 h h1 :=
 ⟨fun b ob q n hb he => u.keep b ob q n (fun z => hb (hs b z)) fun z => he (hx b z), fun _ _ q n _ he => u.any q n fun z => he (hx _ z), fun b ob q n he => u.free b ob q n fun z => he (hx b z), fun b ob q he => u.there b ob q fun z => he (hx b z), u.tups, u.frzs, u.tbls⟩
end
def trk (h : Heap) (H : Hp) : List Addr := (List.range h.objs.size).filter fun a => (H a).isSome
def vM (h : Heap) (H : Hp) : Heap := PySem.W.hideAll h (trk h H)
theorem CW (h : Heap) (H : Hp) : (vM h H).objs.size = h.objs.size := PySem.W.hideAll_size _ _
theorem GZ {h : Heap} {H : Hp} {b : Addr} {o : Obj} (e : h.get? b = some o) (n : H b = none) : (vM h H).get? b = some o :=
 PySem.W.hideAll_get _ e fun hm => by
  have q : (H b).isSome = true := (mem_filter.mp hm).2
  rw [n] at q; simp at q
theorem Ju {h : Heap} {H : Hp} {b : Addr} {o : Obj} (e : (vM h H).get? b = some o) : h.get? b = some o /\ H b = none := by
 have e' : h.get? b = some o := PySem.W.of_hideAll (trk h H) e
 refine ⟨e', ?_⟩
 cases q : H b with
 | none => rfl
 | some x =>
  have hm : b ∈ trk h H := mem_filter.mpr ⟨mem_range.mpr (Heap.lt_size e'), by simp [q]⟩
  have z : (vM h H).get? b = none := PySem.W.hideAll_none (trk h H) hm
  rw [z] at e; cases e
def Jh (g h : Heap) (L : Addr) : OP := (List.range h.objs.size).filterMap fun a => if a = L \/ (g.get? a).isSome = true then none else (h.get? a).map fun o => (a, o)
def rest (g h : Heap) (L d : Addr) : OP := (Jh g h L).filter fun p => decide (p.1 ≠ d)
structure Mod (K : Frag) (mg : MG) (base : Heap) : Prop where
 kin : K.In base
 glob : base.Ns mainGlobals mg
 blt : ∃ mb, base.Ns builtinsNs mb /\ ∀ x : Str, x ≠ "__name__" -> mb x = bootBuiltins x
 nolimit : base.NoLimit
structure Cx where
 prog : Program
 w : World
 K : Frag
 mg : Str -> Option Value
 base : Heap
 A : Around
 N : List Str
 s₀ : Shared
 H₀ : Hp
 env : Env
 outer : List Env
 stack : List Env
 ex : List Addr
 fn : Str -> Bool
 calm : Bool
 pn : OP
 xe : Value -> Shared -> Prop
def frs (l : List Env) : List Addr := l.filterMap (·.frame)
abbrev Cx.fs (X : Cx) : List Addr := frs X.outer
def Vis (sc : Scope) (x : Str) : Prop := sc.names.lookup x = some .local \/ sc.names.lookup x = some .cell \/ sc.names.lookup x = some .free
def Loc (sc : Scope) (x : Str) : Prop := sc.names.lookup x = some .local \/ sc.names.lookup x = some .cell
def Look (env : Env) (h : Heap) (m : MG) (x : Str) (u : Value) : Prop :=
 (env.kindOf x = some .local /\ m x = some u) \/ ((env.kindOf x = some .cell \/ env.kindOf x = some .free) /\ ∃ c, env.cells.lookup x = some c /\ h.IsCell c (some u))
structure Cx.Ok (X : Cx) : Prop where
 mod : Mod X.K X.mg X.base
 kind : X.env.scope.kind = .function
 glob : X.env.globals = mainGlobals
 blt : X.env.builtins = builtinsNs
 above : X.s₀.heap.objs.size <= X.env.locals
 inj : ∀ x y c, X.env.cells.lookup x = some c -> X.env.cells.lookup y = some c -> x = y
 has : ∀ x, (X.env.kindOf x = some .cell \/ X.env.kindOf x = some .free) -> ∃ c, X.env.cells.lookup x = some c
 cab : ∀ x c, X.fn x = true -> X.env.cells.lookup x = some c -> X.s₀.heap.objs.size <= c
 hd : X.calm = true -> X.A.handled = none
 frames : X.A.frames = some X.stack
 stk : X.stack = X.outer \/ (X.stack = X.env :: X.outer /\ X.env.frame = some X.env.locals)
 exf : ∀ b ∈ X.ex, b ≠ X.env.locals /\ ∀ x c, X.env.cells.lookup x = some c -> c ≠ b
 bs : ∀ b o, X.base.get? b = some o -> X.s₀.heap.get? b = some o /\ X.H₀ b = none
 bsz : X.base.objs.size <= X.s₀.heap.objs.size
 noex : ∀ b o, X.base.get? b = some o -> b ∉ X.ex
 exfs : ∀ b ∈ X.ex, b ∉ X.fs
 funs : X.s₀.heap.FunFrames X.base X.outer
 frf : ∀ b ∈ X.fs, X.H₀ b = none
structure Inv (X : Cx) (pins : OP) (σ : List (Option V)) (H : Hp) (s : Shared) : Prop where
 ok : X.Ok
 os : s.os = X.s₀.os
 bare : AllBare s.gens
 base : Un X.fs X.ex X.H₀ H X.s₀.heap s.heap
 loc : ∃ m, s.heap.Ns X.env.locals m /\ ∀ (i : Nat) (x : Str) (v : V), X.N[i]? = some x -> σ[i]? = some (some v) -> Vis X.env.scope x -> ∃ u, RelV v u /\ Look X.env s.heap m x u
 cell : ∀ x c, X.env.cells.lookup x = some c -> ∃ v, s.heap.IsCell c v
 free : H X.env.locals = none
 freeC : ∀ x c, X.env.cells.lookup x = some c -> H c = none
 pin : ∀ p ∈ X.pn ++ pins, s.heap.get? p.1 = some p.2 /\ H p.1 = none /\ p.1 ≠ X.env.locals /\ p.1 ∉ X.fs /\ ∀ v, p.2.data ≠ .cell v
 hok : HOk X.prog X.w H s.heap
 len : σ.length = X.N.length
section
variable {X : Cx} {pins : OP} {σ : List (Option V)} {H H' : Hp} {s : Shared} {h' : Heap}
theorem Cx.Ok.nofr (ok : X.Ok) {b : Addr} {o : Obj} (e : X.base.get? b = some o) : b ∉ X.fs := fun hb => by
 have := (ok.funs.mem hb).1
 rw [e] at this; cases this
theorem Inv.bs (I : Inv X pins σ H s) : ∀ b o, X.base.get? b = some o -> s.heap.get? b = some o /\ H b = none := fun b o e =>
 ⟨I.base.keep b o (I.ok.bs b o e).1 (I.ok.bs b o e).2 (I.ok.nofr e) (I.ok.noex b o e), I.base.free b o (I.ok.bs b o e).1 (I.ok.bs b o e).2 (I.ok.noex b o e)⟩
theorem Inv.bk (I : Inv X pins σ H s) : ∀ b o, X.base.get? b = some o -> s.heap.get? b = some o := fun b o e => (I.bs b o e).1
theorem Inv.mod (I : Inv X pins σ H s) : Mod X.K X.mg X.base := I.ok.mod
theorem Inv.kIn (I : Inv X pins σ H s) : X.K.In s.heap := I.ok.mod.kin.keeps I.bk
theorem Inv.nolimit (I : Inv X pins σ H s) : s.heap.NoLimit := I.ok.mod.nolimit.keeps I.bk
theorem Inv.fr (I : Inv X pins σ H s) : ∃ m, Fr X.base X.env.locals s.heap m :=
 let ⟨m, hn, _⟩ := I.loc
 ⟨m, hn, I.bk, le_trans I.ok.bsz I.ok.above⟩
theorem Inv.lt (I : Inv X pins σ H s) : X.env.locals < s.heap.objs.size := let ⟨_, hn, _⟩ := I.loc; hn.lt
theorem Inv.sz (I : Inv X pins σ H s) : X.s₀.heap.objs.size <= s.heap.objs.size := le_trans I.ok.above (le_of_lt I.lt)
theorem Inv.nofs (I : Inv X pins σ H s) {a : Addr} (h : s.heap.objs.size <= a) : a ∉ X.fs := fun hb => by
 obtain ⟨_, o, ho, _⟩ := I.ok.funs.mem hb
 exact absurd (lt_of_lt_of_le (Heap.lt_size ho) (le_trans I.sz h)) (lt_irrefl _)
theorem Inv.cne (I : Inv X pins σ H s) : ∀ x c, X.env.cells.lookup x = some c -> c ≠ X.env.locals := fun x c e z => by
 obtain ⟨v, o, ho, hd⟩ := I.cell x c e
 obtain ⟨m, ⟨o', es, ep, ho', hd', _⟩, _⟩ := I.loc
 rw [z, ho'] at ho; cases ho; rw [hd'] at hd; cases hd
theorem Inv.funs (I : Inv X pins σ H s) : s.heap.FunFrames X.base X.outer := by
 have all : ∀ (l : List Env), (∀ b ∈ frs l, b ∈ X.fs) -> X.s₀.heap.FunFrames X.base l -> s.heap.FunFrames X.base l := by
  intro l
  induction l with
  | nil => intro _ _; trivial
  | cons env r ih =>
   intro hs hl
   obtain ⟨hk, ⟨L, o, hf, hn, ho, hd⟩, hr⟩ := hl
   have hL : L ∈ X.fs := hs L (by unfold frs; rw [List.filterMap_cons, hf]; exact mem_cons_self)
   obtain ⟨sl, e⟩ := I.base.slot L o ho (I.ok.frf L hL) hL fun z => I.ok.exfs L z hL
   exact ⟨hk, ⟨L, _, hf, hn, e, hd⟩, ih (fun b hb => hs b (by unfold frs; rw [List.filterMap_cons, hf]; exact mem_cons_of_mem _ hb)) hr⟩
 exact all X.outer (fun _ hb => hb) I.ok.funs
theorem Inv.stack (I : Inv X pins σ H s) : s.heap.FunFrames X.base X.stack := by
 rcases I.ok.stk with e | ⟨e, hf⟩
 ·rw [e]; exact I.funs
 ·rw [e]
  obtain ⟨m, hn, _⟩ := I.loc
  refine .cons (by rw [I.ok.kind]; decide) hf hn ?_ I.funs
  exact Heap.get?_none_of_le (le_trans I.ok.bsz I.ok.above)
theorem Inv.stkSub (I : Inv X pins σ H s) : ∀ b ∈ frs X.stack, b ∈ X.env.locals :: X.fs := fun b hb => by
 rcases I.ok.stk with e | ⟨e, hf⟩
 ·rw [e] at hb; exact mem_cons_of_mem _ hb
 ·rw [e] at hb
  unfold frs at hb
  rw [List.filterMap_cons, hf] at hb
  exact hb
theorem Inv.stkFree (I : Inv X pins σ H s) : ∀ b ∈ frs X.stack, H b = none := fun b hb => by
 rcases mem_cons.mp (I.stkSub b hb) with e | hb
 ·rw [e]; exact I.free
 ·obtain ⟨_, o, ho, _⟩ := I.ok.funs.mem hb
  exact I.base.free b o ho (I.ok.frf b hb) fun z => I.ok.exfs b z hb
theorem Inv.step {g' : Array GenState} {t' : Nat} {d' : Drawn} {ch : List Addr} (I : Inv X pins σ H s)
  (hch : ∀ b ∈ ch, (b ∈ X.ex \/ X.s₀.heap.objs.size <= b) /\ b ≠ X.env.locals /\ (∀ x c, X.env.cells.lookup x = some c -> c ≠ b) /\ ∀ p ∈ X.pn ++ pins, p.1 ≠ b)
  (keep : ∀ b o, b ≠ X.env.locals -> b ∉ X.fs -> b ∉ ch -> s.heap.get? b = some o -> H b = none -> h'.get? b = some o)
  (slot : ∀ b o, b ≠ X.env.locals -> b ∈ X.fs -> b ∉ ch -> s.heap.get? b = some o -> H b = none -> ∃ sl, h'.get? b = some { o with slots := sl }) (free : ∀ b o, b ∉ ch -> s.heap.get? b = some o -> H b = none -> H' b = none)
  (there : ∀ b o, b ∉ ch -> s.heap.get? b = some o -> ∃ o', h'.get? b = some o')
  (tups : ∀ b xs, H b = some (.tup xs) -> H' b = some (.tup xs)) (frzs : ∀ b o u, H b = some (.frz o u) -> H' b = some (.frz o u)) (tbls : ∀ b ps, H b = some (.tbl ps) -> ∃ more, H' b = some (.tbl (ps ++ more)))
  (ns : ∀ m, s.heap.Ns X.env.locals m -> h'.Ns X.env.locals m) (hok : HOk X.prog X.w H' h') (hg : AllBare g') :
  Inv X pins σ H' { s with heap := h', gens := g', drawn := d', toks := t' } := by
 have neL : ∀ b o, X.s₀.heap.get? b = some o -> b ≠ X.env.locals := fun b o e => ne_of_lt (lt_of_lt_of_le (Heap.lt_size e) I.ok.above)
 have neC : ∀ b o, X.s₀.heap.get? b = some o -> b ∉ X.ex -> b ∉ ch := fun b o e hx hb => by
  rcases (hch b hb).1 with z | z
  ·exact hx z
  ·exact absurd (lt_of_lt_of_le (Heap.lt_size e) z) (lt_irrefl _)
 have cellK : ∀ x c, X.env.cells.lookup x = some c -> ∀ v, s.heap.IsCell c v -> h'.IsCell c v := fun x c e v ⟨o, ho, hd⟩ => by
  have nch : c ∉ ch := fun z => (hch c z).2.2.1 x c e rfl
  by_cases hc : c ∈ X.fs
  ·obtain ⟨sl, q⟩ := slot c o (I.cne x c e) hc nch ho (I.freeC x c e)
   exact ⟨_, q, hd⟩
  ·exact ⟨o, keep c o (I.cne x c e) hc nch ho (I.freeC x c e), hd⟩
 refine ⟨I.ok, I.os, hg, ⟨fun b o e n hb hx => ?_, fun b o e n hb hx => ?_, fun b o e n hx => ?_, fun b o e hx => ?_, fun b xs e => tups b xs (I.base.tups b xs e), fun b o xs e => frzs b o xs (I.base.frzs b o xs e), fun b ps e => ?_⟩, ?_, fun x c e => ?_, ?_, fun x c e => ?_, fun p hp => ?_, hok, I.len⟩
 ·exact keep b o (neL b o e) hb (neC b o e hx) (I.base.keep b o e n hb hx) (I.base.free b o e n hx)
 ·obtain ⟨sl, e1⟩ := I.base.slot b o e n hb hx
  obtain ⟨sl', e2⟩ := slot b _ (neL b o e) hb (neC b o e hx) e1 (I.base.free b o e n hx)
  exact ⟨sl', e2⟩
 ·obtain ⟨o', e1⟩ := I.base.there b o e hx
  exact free b o' (neC b o e hx) e1 (I.base.free b o e n hx)
 ·obtain ⟨o', e1⟩ := I.base.there b o e hx
  exact there b o' (neC b o e hx) e1
 ·obtain ⟨m1, e1⟩ := I.base.tbls b ps e
  obtain ⟨m2, e2⟩ := tbls b _ e1
  exact ⟨m1 ++ m2, by rw [e2, Array.append_assoc]⟩
 ·obtain ⟨m, hn, hl⟩ := I.loc
  refine ⟨m, ns m hn, fun i x v e1 e2 e3 => ?_⟩
  obtain ⟨u, r, l⟩ := hl i x v e1 e2 e3
  refine ⟨u, r, ?_⟩
  rcases l with l | ⟨k, c, e, z⟩
  ·exact .inl l
  ·exact .inr ⟨k, c, e, cellK x c e _ z⟩
 ·obtain ⟨v, z⟩ := I.cell x c e
  exact ⟨v, cellK x c e v z⟩
 ·obtain ⟨m, ⟨o, _, _, ho, _⟩, _⟩ := I.loc
  exact free _ o (fun z => (hch _ z).2.1 rfl) ho I.free
 ·obtain ⟨v, o, ho, hd⟩ := I.cell x c e
  exact free c o (fun z => (hch c z).2.2.1 x c e rfl) ho (I.freeC x c e)
 ·obtain ⟨e, n, ne, nf, d⟩ := I.pin p hp
  have nch : p.1 ∉ ch := fun z => (hch p.1 z).2.2.2 p hp rfl
  exact ⟨keep p.1 p.2 ne nf nch e n, free p.1 p.2 nch e n, ne, nf, d⟩
theorem Inv.un {t' : Nat} (I : Inv X pins σ H s) (u : Un X.fs [] H H' s.heap h') (hok : HOk X.prog X.w H' h') : Inv X pins σ H' { s with heap := h', toks := t' } := by
 obtain ⟨m, ⟨o, es, ep, ho, r⟩, _⟩ := id I.loc
 obtain ⟨sl, hL⟩ := u.any ho I.free Z2
 exact I.step (g' := s.gens) (d' := s.drawn) (ch := []) (fun _ z => nomatch z) (fun b o _ hb _ e n => u.keep b o e n hb Z2) (fun b o _ hb _ e n => u.slot b o e n hb Z2) (fun b o _ e n => u.free b o e n Z2) (fun b o _ e => u.there b o e Z2) u.tups u.frzs u.tbls (fun m' hm => by
  obtain ⟨o', es', ep', ho', r'⟩ := hm
  rw [ho] at ho'; cases ho'
  exact ⟨_, es', ep', hL, r'⟩) hok I.bare
theorem Inv.call {g' : Array GenState} {t' : Nat} {d' : Drawn} {ch : List Addr} (I : Inv X pins σ H s) (u : Un (frs X.stack) ch H H' s.heap h') (hok : HOk X.prog X.w H' h') (hg : AllBare g')
  (hch : ∀ b ∈ ch, (b ∈ X.ex \/ X.s₀.heap.objs.size <= b) /\ b ≠ X.env.locals /\ (∀ x c, X.env.cells.lookup x = some c -> c ≠ b) /\ ∀ p ∈ X.pn ++ pins, p.1 ≠ b) :
  Inv X pins σ H' { s with heap := h', gens := g', drawn := d', toks := t' } := by
 obtain ⟨m, ⟨o, es, ep, ho, r⟩, _⟩ := id I.loc
 obtain ⟨sl, hL⟩ := u.any ho I.free fun z => (hch _ z).2.1 rfl
 exact I.step (ch := ch) hch (fun b o hL hb hc e n => u.keep b o e n (fun z => (mem_cons.mp (I.stkSub b z)).elim hL hb) hc) (fun b o _ _ hc e n => u.any e n hc) (fun b o hc e n => u.free b o e n hc) (fun b o hc e => u.there b o e hc) u.tups u.frzs u.tbls (fun m' hm => by
  obtain ⟨o', es', ep', ho', r'⟩ := hm
  rw [ho] at ho'; cases ho'
  exact ⟨_, es', ep', hL, r'⟩) hok hg
theorem Inv.turned {t' : Nat} {it : Addr} (I : Inv X pins σ H s) (k : ∀ b o, b ≠ it -> s.heap.get? b = some o -> h'.get? b = some o) (hn : H it = none) (hL : it ≠ X.env.locals)
  (h1 : it ∈ X.ex \/ X.s₀.heap.objs.size <= it) (h2 : ∀ x c, X.env.cells.lookup x = some c -> c ≠ it) (h3 : ∀ p ∈ X.pn ++ pins, p.1 ≠ it) : Inv X pins σ H { s with heap := h', toks := t' } := by
 have nit : ∀ b u, H b = some u -> b ≠ it := fun b u e z => by rw [z, hn] at e; cases e
 refine I.step (g' := s.gens) (d' := s.drawn) (ch := [it]) (fun b hb => ?_) (fun b o _ _ hc e _ => k b o (fun z => hc (by simp [z])) e) (fun b o _ _ hc e _ => ⟨o.slots, k b o (fun z => hc (by simp [z])) e⟩) (fun _ _ _ _ n => n)
  (fun b o hc e => ⟨o, k b o (fun z => hc (by simp [z])) e⟩) (fun _ _ e => e) (fun _ _ _ e => e) (fun b ps e => ⟨#[], by rw [e]; simp⟩) (fun m hm => ?_) (fun b u e => ?_) I.bare
 ·have e : b = it := by simpa using hb
  subst e
  exact ⟨h1, hL, h2, h3⟩
 ·obtain ⟨o, es, ep, ho, r⟩ := hm
  exact ⟨o, es, ep, k _ o (Ne.symm hL) ho, r⟩
 ·refine (I.hok b u e).stay (fun c v hc q => k c v ?_ q) (fun _ q => q) fun _ _ q => q
  rcases hc with z | z
  ·rw [z]; exact nit b u e
  ·exact nit c _ z
theorem Inv.tok (I : Inv X pins σ H s) (t : Nat) : Inv X pins σ H { s with toks := t } := I.un (h' := s.heap) (t' := t) Un.refl I.hok
theorem Inv.kept {t' : Nat} (I : Inv X pins σ H s) (k : ∀ b u, s.heap.get? b = some u -> h'.get? b = some u) : Inv X pins σ H { s with heap := h', toks := t' } := I.un (Un.kept k) (I.hok.kept k)
theorem Inv.laid {a : Addr} {o : HO} {t' : Nat} (I : Inv X pins σ H s) (k : ∀ b u, s.heap.get? b = some u -> h'.get? b = some u) (hp : s.heap.objs.size <= a) (new : cu X.prog X.w (upd H a o) h' a o) :
  Inv X pins σ (upd H a o) { s with heap := h', toks := t' } := I.un (Un.laid k hp (I.hok.fresh hp)) (I.hok.laid k hp new)
theorem Inv.write {x e : Addr} {o : HO} {t' : Nat} (I : Inv X pins σ H s) (mu : Mut (H x)) (he : e = x \/ H e = some (.own x)) (k : ∀ b u, b ≠ e -> s.heap.get? b = some u -> h'.get? b = some u) (heo : ∃ u, h'.get? e = some u)
  (new : cu X.prog X.w (upd H x o) h' x o) : Inv X pins σ (upd H x o) { s with heap := h', toks := t' } := I.un (Un.write mu he k heo) (I.hok.write mu he k heo new)
theorem Inv.pins_of {pins' : OP} (I : Inv X pins σ H s) (h : ∀ p ∈ pins', s.heap.get? p.1 = some p.2 /\ H p.1 = none /\ p.1 ≠ X.env.locals /\ p.1 ∉ X.fs /\ ∀ v, p.2.data ≠ .cell v) : Inv X pins' σ H s :=
 ⟨I.ok, I.os, I.bare, I.base, I.loc, I.cell, I.free, I.freeC, fun p hp => (mem_append.mp hp).elim (fun z => I.pin p (mem_append_left _ z)) (h p), I.hok, I.len⟩
theorem rK {N : List Str} (hN : N.Nodup) {i j : Nat} {x : Str} (a : N[i]? = some x) (b : N[j]? = some x) : i = j := by
 obtain ⟨h1, e1⟩ := List.getElem?_eq_some_iff.mp a
 obtain ⟨h2, e2⟩ := List.getElem?_eq_some_iff.mp b
 exact (List.getElem_inj hN).mp (e1.trans e2.symm)
theorem ug {M : Model} {A : Around} {E : EV} {i : Nat} {x : Str} {v : V} {u : Value} {Q : Unit -> Shared -> Prop} (I : Inv X pins σ H s) (hN : X.N.Nodup) (hi : X.N[i]? = some x) (hx : Loc X.env.scope x) (r : RelV v u)
  (h : ∀ s', Inv X pins (σ.set i (some v)) H s' -> (∃ a, Heap.SameBut a s.heap s'.heap /\ (a = X.env.locals \/ X.env.cells.lookup x = some a)) -> Q () s') (hf : X.fn x = true \/ X.env.scope.names.lookup x = some .local := by first | exact .inl rfl | exact .inr rfl | assumption) : wpAny M A (storeName X.env x u) Q E s := by
 obtain ⟨m, hn, hl⟩ := id I.loc
 have hcls : (X.env.scope.kind == .class || (X.env.scope.kind == .module && X.env.locals != X.env.globals)) = false := by rw [I.ok.kind]; rfl
 have hiσ : i < σ.length := by rw [I.len]; exact (List.getElem?_eq_some_iff.mp hi).1
 have cne := I.cne
 have tracked : ∀ {a : Addr} {h' : Heap}, (∃ o, s.heap.get? a = some o /\ H a = none) -> Heap.SameBut a s.heap h' -> HOk X.prog X.w H h' := fun {a h'} ha hs b ob e => by
  obtain ⟨_, _, hfree⟩ := ha
  refine (I.hok b ob e).stay (fun c w' hc q => (hs.2 c ?_).trans q) (fun _ q => q) fun _ _ q => q
  rintro rfl
  rcases hc with rfl | hc
  ·rw [hfree] at e; cases e
  ·rw [hfree] at hc; cases hc
 rcases hx with hk | hk
 ·refine wpAny_storeName_local hk hn (fun h' hn' hs => ?_) hcls
  obtain ⟨oL, _, _, hoL, _⟩ := id hn
  refine h _ ⟨I.ok, I.os, I.bare, ⟨fun b o e n hb hx => ?_, fun b o e n hb hx => ?_, I.base.free, fun b o e hx => ?_, I.base.tups, I.base.frzs, I.base.tbls⟩, ⟨_, hn', fun j y v' e1 e2 e3 => ?_⟩, fun y c e => ?_, I.free, I.freeC, fun p hp => ?_, tracked ⟨oL, hoL, I.free⟩ hs, by simpa using I.len⟩ ⟨_, hs, .inl rfl⟩
  ·exact (hs.2 b (ne_of_lt (lt_of_lt_of_le (Heap.lt_size e) I.ok.above))).trans (I.base.keep b o e n hb hx)
  ·obtain ⟨sl, e1⟩ := I.base.slot b o e n hb hx
   exact ⟨sl, (hs.2 b (ne_of_lt (lt_of_lt_of_le (Heap.lt_size e) I.ok.above))).trans e1⟩
  ·obtain ⟨o', e1⟩ := I.base.there b o e hx
   exact ⟨o', (hs.2 b (ne_of_lt (lt_of_lt_of_le (Heap.lt_size e) I.ok.above))).trans e1⟩
  ·by_cases hj : j = i
   ·subst hj
    rw [hi] at e1; cases e1
    rw [getElem?_set_self hiσ] at e2
    cases e2
    exact ⟨u, r, .inl ⟨hk, Z2⟩⟩
   ·rw [getElem?_set_ne (Ne.symm hj)] at e2
    obtain ⟨u', r', q⟩ := hl j y v' e1 e2 e3
    refine ⟨u', r', ?_⟩
    rcases q with ⟨k, e⟩ | ⟨k, c, e, z⟩
    ·refine .inl ⟨k, ?_⟩
     have : y ≠ x := fun e => hj (rK hN e1 (e ▸ hi))
     simp [this, e]
    ·exact .inr ⟨k, c, e, z.sameBut hs (cne y c e)⟩
  ·obtain ⟨w', z⟩ := I.cell y c e
   exact ⟨w', z.sameBut hs (cne y c e)⟩
  ·obtain ⟨e, n, ne, nf, d⟩ := I.pin p hp
   exact ⟨(hs.2 p.1 ne).trans e, n, ne, nf, d⟩
 ·have hfn : X.fn x = true := by
   rcases hf with z | z
   ·exact z
   ·rw [z] at hk; cases hk
  obtain ⟨c, hc⟩ := I.ok.has x (.inl hk)
  obtain ⟨w', z⟩ := I.cell x c hc
  refine wpAny_storeName_cell I.ok.kind hk hc z (fun h' hc' hs => ?_)
  obtain ⟨oc, hoc, hocd⟩ := id z
  refine h { s with heap := h' } ⟨I.ok, I.os, I.bare, ⟨fun b o e n hb hx => ?_, fun b o e n hb hx => ?_, I.base.free, fun b o e hx => ?_, I.base.tups, I.base.frzs, I.base.tbls⟩, ⟨m, hn.sameBut hs (Ne.symm (cne x c hc)), fun j y v' e1 e2 e3 => ?_⟩, fun y c' e => ?_, I.free, I.freeC, fun p hp => ?_, tracked ⟨oc, hoc, I.freeC x c hc⟩ hs, by simpa using I.len⟩ ⟨c, hs, .inr hc⟩
  ·exact (hs.2 b (ne_of_lt (lt_of_lt_of_le (Heap.lt_size e) (I.ok.cab x c hfn hc)))).trans (I.base.keep b o e n hb hx)
  ·obtain ⟨sl, e1⟩ := I.base.slot b o e n hb hx
   exact ⟨sl, (hs.2 b (ne_of_lt (lt_of_lt_of_le (Heap.lt_size e) (I.ok.cab x c hfn hc)))).trans e1⟩
  ·obtain ⟨o', e1⟩ := I.base.there b o e hx
   exact ⟨o', (hs.2 b (ne_of_lt (lt_of_lt_of_le (Heap.lt_size e) (I.ok.cab x c hfn hc)))).trans e1⟩
  ·by_cases hj : j = i
   ·subst hj
    rw [hi] at e1; cases e1
    rw [getElem?_set_self hiσ] at e2
    cases e2
    exact ⟨u, r, .inr ⟨.inl hk, c, hc, hc'⟩⟩
   ·rw [getElem?_set_ne (Ne.symm hj)] at e2
    obtain ⟨u', r', q⟩ := hl j y v' e1 e2 e3
    refine ⟨u', r', ?_⟩
    rcases q with q | ⟨k, c', e, z'⟩
    ·exact .inl q
    ·refine .inr ⟨k, c', e, z'.sameBut hs ?_⟩
     rintro rfl
     exact hj (rK hN e1 (I.ok.inj _ _ _ e hc ▸ hi))
  ·by_cases hcc : c' = c
   ·subst hcc; exact ⟨_, hc'⟩
   ·obtain ⟨w2, z2⟩ := I.cell y c' e
    exact ⟨w2, z2.sameBut hs hcc⟩
  ·obtain ⟨e, n, ne, nf, d⟩ := I.pin p hp
   refine ⟨(hs.2 p.1 ?_).trans e, n, ne, nf, d⟩
   intro q
   rw [q, hoc] at e
   have q' : oc = p.2 := Option.some.inj e
   exact d w' (by rw [<- q']; exact hocd)
theorem jw {M : Model} {A : Around} {E : EV} {i : Nat} {x : Str} {v : V} {u : Value} {Q : Unit -> Shared -> Prop} (I : Inv X pins σ H s) (hN : X.N.Nodup) (hi : X.N[i]? = some x) (hx : Loc X.env.scope x) (r : RelV v u)
  (h : ∀ s', Inv X pins (σ.set i (some v)) H s' -> Q () s') (hf : X.fn x = true \/ X.env.scope.names.lookup x = some .local := by first | exact .inl rfl | exact .inr rfl | assumption) : wpAny M A (storeName X.env x u) Q E s :=
 ug I hN hi hx r (fun s' I' _ => h s' I') hf
theorem Inv.call' {s' : Shared} {ch : List Addr} (I : Inv X pins σ H s) (ho : s'.os = s.os) (u : Un (frs X.stack) ch H H' s.heap s'.heap) (hok : HOk X.prog X.w H' s'.heap) (hg : AllBare s'.gens)
  (hch : ∀ b ∈ ch, (b ∈ X.ex \/ X.s₀.heap.objs.size <= b) /\ b ≠ X.env.locals /\ (∀ x c, X.env.cells.lookup x = some c -> c ≠ b) /\ ∀ p ∈ X.pn ++ pins, p.1 ≠ b) : Inv X pins σ H' s' := by
 obtain ⟨h', g', d', t', o'⟩ := s'
 have e : o' = s.os := ho
 subst e
 exact I.call (g' := g') (t' := t') (d' := d') u hok hg hch
end
abbrev XK := Value -> Option Addr -> Hp -> Prop
abbrev St := List (Option V)
abbrev VK := V -> Hp -> Prop
abbrev TE := St -> Hp -> VK -> Prop
abbrev TT := St -> Hp -> (Bool -> Hp -> Prop) -> Prop
abbrev TA := St -> Hp -> (List V -> Hp -> Prop) -> Prop
structure Ends where
 nx : St -> Hp -> Prop
 rt : VK
 bk : St -> Hp -> Prop := fun _ _ => False
 ct : St -> Hp -> Prop := fun _ _ => False
abbrev TS := Ends -> St -> Hp -> Prop
def EP (X : Cx) (pins : OP) (σ : St) (Q : VK) (u : Value) (s' : Shared) : Prop := ∃ v H', Inv X pins σ H' s' /\ RelV v u /\ Q v H'
def TP (X : Cx) (pins : OP) (σ : St) (Q : Bool -> Hp -> Prop) (b : Bool) (s' : Shared) : Prop := ∃ H', Inv X pins σ H' s' /\ Q b H'
def AP (X : Cx) (pins : OP) (σ : St) (Q : List V -> Hp -> Prop) (us : List Value) (s' : Shared) : Prop := ∃ vs H', Inv X pins σ H' s' /\ Vals vs us /\ Q vs H'
def SP (X : Cx) (pins : OP) (D : Ends) (f : Flow) (s' : Shared) : Prop :=
 match f with
 | .next => ∃ σ' H', Inv X pins σ' H' s' /\ D.nx σ' H'
 | .brk => ∃ σ' H', Inv X pins σ' H' s' /\ D.bk σ' H'
 | .cont => ∃ σ' H', Inv X pins σ' H' s' /\ D.ct σ' H'
 | .ret u => ∃ v σ' H', Inv X pins σ' H' s' /\ RelV v u /\ D.rt v H'
def PE (X : Cx) (e : Expr) (t : TE) : Prop :=
 ∀ (pins : OP) (s : Shared) (σ : St) (H : Hp) (Q : VK), Inv X pins σ H s -> t σ H Q -> wpAny (model X.prog X.w) X.A (eval e X.env) (EP X pins σ Q) X.xe s
def PT (X : Cx) (e : Expr) (t : TT) : Prop :=
 ∀ (pins : OP) (s : Shared) (σ : St) (H : Hp) (Q : Bool -> Hp -> Prop), Inv X pins σ H s -> t σ H Q -> wpAny (model X.prog X.w) X.A (isTrue e X.env (eval e X.env)) (TP X pins σ Q) X.xe s
def PW (X : Cx) (e : Expr) (t : TT) : Prop :=
 ∀ (whole : Sem Value) (pins : OP) (s : Shared) (σ : St) (H : Hp) (Q : Bool -> Hp -> Prop), Inv X pins σ H s -> t σ H Q -> wpAny (model X.prog X.w) X.A (isTrue e X.env whole) (TP X pins σ Q) X.xe s
theorem PW.pt {X : Cx} {e : Expr} {t : TT} (h : PW X e t) : PT X e t := h _
def PA (X : Cx) (es : List Expr) (t : TA) : Prop :=
 ∀ (pos : Pos) (pins : OP) (s : Shared) (σ : St) (H : Hp) (Q : List V -> Hp -> Prop), Inv X pins σ H s -> t σ H Q -> wpAny (model X.prog X.w) X.A (spliced (backTo pos (starEach es X.env))) (AP X pins σ Q) X.xe s
def PS (X : Cx) (st : Stmt) (t : TS) : Prop :=
 ∀ (pins : OP) (s : Shared) (σ : St) (H : Hp) (D : Ends), Inv X pins σ H s -> t D σ H -> wpAny (model X.prog X.w) X.A (exec st X.env) (SP X pins D) X.xe s
def PSs (X : Cx) (st : List Stmt) (t : TS) : Prop :=
 ∀ (pins : OP) (s : Shared) (σ : St) (H : Hp) (D : Ends), Inv X pins σ H s -> t D σ H -> wpAny (model X.prog X.w) X.A (execs st X.env) (SP X pins D) X.xe s
theorem thn {α : Type} {t : Sem α} {Q Q' : α -> Shared -> Prop} {M : Model} {A : Around} {E : EV} {s : Shared} (h : wpAny M A t Q E s) (hQ : ∀ a s, Q a s -> Q' a s) : wpAny M A t Q' E s := wpAny_mono h hQ fun _ _ x => x
section
variable {X : Cx}
def yS (i : Nat) : TE := fun σ H Q => ∃ v, σ[i]? = some (some v) /\ Q v H
def tC (v : V) : TE := fun _ H Q => Q v H
theorem MJ {i : Nat} {x : Str} {pos : Pos} (hN : X.N[i]? = some x) (hv : Vis X.env.scope x) (hd : (x == ("__debug__" : Str)) = false := by decide) (hcd : (x == ("__classdict__" : Str)) = false := by decide) : PE X (.Name x pos) (yS i) := by
 intro pins s σ H Q I h
 obtain ⟨v, e, h⟩ := h
 obtain ⟨m, hn, hl⟩ := I.loc
 obtain ⟨u, r, l⟩ := hl i x v hN e hv
 have fin : EP X pins σ Q u s := ⟨v, H, I, r, h⟩
 rcases l with ⟨hk, hm⟩ | ⟨hk, c, hc, hcell⟩
 ·exact wpAny_Name (wpAny_loadName_local I.ok.kind hk hn hm fin) hd
 ·rcases hk with hk | hk
  ·exact wpAny_Name (wpAny_loadName_cell I.ok.kind hk hc hcell fin) hd
  ·exact wpAny_Name (wpAny_loadName_free I.ok.kind hk hc hcell fin hcd) hd
theorem aq {i j pos} : PE X (.Constant (.int i) j pos) (tC (.int i)) := fun _ _ _ H _ I h => wpAny_Constant_int ⟨.int i, H, I.tok _, ⟨_, rfl⟩, h⟩
theorem lu {b j pos} : PE X (.Constant (.bool b) j pos) (tC (.bl b)) := fun _ _ _ H _ I h => Constant_bool ⟨.bl b, H, I, rfl, h⟩
theorem uF {j pos} : PE X (.Constant .none j pos) (tC .non) := fun _ _ _ H _ I h => Constant_none ⟨.non, H, I, rfl, h⟩
theorem aF {x j pos} : PE X (.Constant (.str x) j pos) (tC (.str x)) := fun _ _ _ H _ I h => Calls.Constant_str ⟨.str x, H, I.tok _, ⟨_, rfl⟩, h⟩
def Gl (X : Cx) (x : Str) : Prop := X.env.kindOf x = some .globalImplicit
theorem dq {E : EV} {pins : OP} {s : Shared} {σ : St} {H : Hp} {x : Str} {u : Value} {pos : Pos} {Q : EV} (I : Inv X pins σ H s) (hg : Gl X x) (hm : X.mg x = some u) (h : Q u s)
  (hd : (x == ("__debug__" : Str)) = false := by decide) : wpAny (model X.prog X.w) X.A (eval (.Name x pos) X.env) Q E s :=
 Calls.Name_function_global I.ok.kind hg (Calls.loadGlobal_global (by rw [I.ok.glob]; exact I.mod.glob.keeps I.bk) hm h) hd
theorem pI {E : EV} {pins : OP} {s : Shared} {σ : St} {H : Hp} {x : Str} {u : Value} {pos : Pos} {Q : EV} (I : Inv X pins σ H s) (hg : Gl X x) (hm : X.mg x = none) (hv : bootBuiltins x = some u) (h : Q u s)
  (hn : x ≠ "__name__" := by decide) (hd : (x == ("__debug__" : Str)) = false := by decide) : wpAny (model X.prog X.w) X.A (eval (.Name x pos) X.env) Q E s := by
 obtain ⟨mb, h1, h2⟩ := I.mod.blt
 exact Calls.Name_function_global I.ok.kind hg (Calls.loadGlobal_builtin (by rw [I.ok.glob]; exact I.mod.glob.keeps I.bk) hm (by rw [I.ok.blt]; exact h1.keeps I.bk) ((h2 x hn).trans hv) h) hd
theorem vz {x : Str} {v : V} {u : Value} {pos : Pos} (hg : Gl X x) (hm : X.mg x = some u) (r : RelV v u) (hd : (x == ("__debug__" : Str)) = false := by decide) : PE X (.Name x pos) (tC v) :=
 fun _ _ _ H _ I h => dq I hg hm ⟨v, H, I, r, h⟩ hd
theorem jD {x : Str} {v : V} {u : Value} {pos : Pos} (hg : Gl X x) (hm : X.mg x = none) (hv : bootBuiltins x = some u) (r : RelV v u) (hn : x ≠ "__name__" := by decide) (hd : (x == ("__debug__" : Str)) = false := by decide) : PE X (.Name x pos) (tC v) :=
 fun _ _ _ H _ I h => pI I hg hm hv ⟨v, H, I, r, h⟩ hn hd
variable {a b : Expr} {ta tb : TE} {pos : Pos}
def tB (t : TE) : TT := fun σ H Q => t σ H fun x H1 => ∃ c, x = .bl c /\ Q c H1
theorem cQ {e : Expr} {t : TE} (h : PE X e t) (he : ∀ whole, isTrue e X.env whole = (do let v <- whole; standAt e.pos; holding [v] (truthy v)) := by intro _; rfl) : PT X e (tB t) := by
 intro pins s σ H Q I hw
 refine isTrue_plain (thn (h pins s σ H _ I hw) fun v s1 ⟨x, H1, I1, r1, q1⟩ => ?_) (he _)
 obtain ⟨d, rfl, q⟩ := q1
 cases r1
 exact wpAny_truthy_bool ⟨H1, I1, q⟩
variable {tA tB' : TT} {rest : List Expr}
def SJ (t u : TT) : TT := fun σ H Q => t σ H fun c H1 => if c = true then u σ H1 Q else Q false H1
def tOr (t u : TT) : TT := fun σ H Q => t σ H fun c H1 => if c = true then Q true H1 else u σ H1 Q
def R9 (t : TT) : TT := fun σ H Q => t σ H fun c H1 => Q (!c) H1
theorem gn (ha : PT X a tA) : PW X (.BoolOp .And [a] pos) tA := by
 intro wh pins s σ H Q I h
 refine isTrue_and (thn (ha pins s σ H Q I h) fun c s1 e => ?_)
 cases c with
 | true => exact isTrue_and_nil e
 | false => exact e
theorem mV (ha : PT X a tA) : PW X (.BoolOp .Or [a] pos) tA := by
 intro wh pins s σ H Q I h
 refine isTrue_or (thn (ha pins s σ H Q I h) fun c s1 e => ?_)
 cases c with
 | false => exact isTrue_or_nil e
 | true => exact e
theorem jJ (ha : PT X a tA) (hb : PW X (.BoolOp .And (b :: rest) pos) tB') : PW X (.BoolOp .And (a :: b :: rest) pos) (SJ tA tB') := by
 intro wh pins s σ H Q I h
 refine isTrue_and (thn (ha pins s σ H _ I h) fun c s1 ⟨H1, I1, q1⟩ => ?_)
 cases c with
 | true => exact hb wh pins s1 σ H1 Q I1 q1
 | false => exact ⟨H1, I1, q1⟩
theorem kY (ha : PT X a tA) (hb : PW X (.BoolOp .Or (b :: rest) pos) tB') : PW X (.BoolOp .Or (a :: b :: rest) pos) (tOr tA tB') := by
 intro wh pins s σ H Q I h
 refine isTrue_or (thn (ha pins s σ H _ I h) fun c s1 ⟨H1, I1, q1⟩ => ?_)
 cases c with
 | true => exact ⟨H1, I1, q1⟩
 | false => exact hb wh pins s1 σ H1 Q I1 q1
theorem lz (ha : PT X a tA) : PT X (.UnaryOp .Not a pos) (R9 tA) := by
 intro pins s σ H Q I h
 exact isTrue_not (ha pins s σ H (fun c H1 => Q (!c) H1) I h)
def O7 (ta tb : TE) : TE := fun σ H Q => ta σ H fun x H1 => ∃ c, x = .bl c /\ if c = true then tb σ H1 Q else Q (.bl false) H1
def Ou (ta : TE) : TE := fun σ H Q => ta σ H fun x H1 => ∃ c, x = .bl c /\ Q (.bl (!c)) H1
theorem lr {op} {t : TE} (h : PE X a t) : PE X (.BoolOp op [a] pos) t := fun pins s σ H Q I hw => BoolOp_one (h pins s σ H Q I hw)
theorem fL (ha : PE X a ta) (hb : PE X (.BoolOp .And (b :: rest) pos) tb) : PE X (.BoolOp .And (a :: b :: rest) pos) (O7 ta tb) := by
 intro pins s σ H Q I h
 refine BoolOp_and (thn (ha pins s σ H _ I h) fun v s1 ⟨x, H1, I1, r1, q1⟩ => ?_)
 obtain ⟨c, rfl, q1⟩ := q1
 cases r1
 refine wpAny_truthy_bool ?_
 cases c with
 | true => exact hb pins s1 σ H1 Q I1 q1
 | false => exact ⟨.bl false, H1, I1, rfl, q1⟩
theorem Mx (ha : PE X a ta) : PE X (.UnaryOp .Not a pos) (Ou ta) := by
 intro pins s σ H Q I h
 refine UnaryOp_ (thn (ha pins s σ H _ I h) fun v s1 ⟨x, H1, I1, r1, q1⟩ => ?_)
 obtain ⟨c, rfl, q1⟩ := q1
 cases r1
 exact not_of (wpAny_truthy_bool ⟨.bl (!c), H1, I1, rfl, q1⟩)
end
def SqL (K : Frag) (H : Hp) (a : Addr) (xs : List V) : Prop :=
 Rd H a (.lst xs) \/
  ∃ (o : Obj) (its : Array Value) (n : Nat), K.lookup a = some o /\ o.cls = .type "list" /\ o.dict = none /\ o.data = .seq its n /\ its.size <= sizeLine /\ Vals xs its.toList /\ xs.any V.isK = false
def SqT (K : Frag) (H : Hp) (a : Addr) (xs : List V) : Prop :=
 Rd H a (.tup xs) \/
  ∃ (o : Obj) (its : Array Value) (n : Nat), K.lookup a = some o /\ o.cls = .type "tuple" /\ o.data = .seq its n /\ its.size <= sizeLine /\ Vals xs its.toList /\ xs.any V.isK = false
def Qt : Value -> Option V
 | .none => some .non
 | .bool b => some (.bl b)
 | .int i _ => some (.int i)
 | .str x _ => some (.str x)
 | .bytes b _ => some (.byt b)
 | .float b _ => some (.flt b)
 | .ref a => some (.ref a)
 | .type n => some (.ty n)
 | _ => none
theorem RelV.abs {x : V} {u : Value} (r : RelV x u) (k : x.isK = false) : Qt u = some x := by
 cases x with
 | non => cases r; rfl
 | bl _ => cases r; rfl
 | int _ => obtain ⟨t, rfl⟩ := r; rfl
 | str _ => obtain ⟨t, rfl⟩ := r; rfl
 | byt _ => obtain ⟨t, rfl⟩ := r; rfl
 | flt _ => obtain ⟨t, rfl⟩ := r; rfl
 | ref _ => cases r; rfl
 | ty _ => cases r; rfl
 | stk _ _ => cases k
theorem RelV.inj {x y : V} {u : Value} (r : RelV x u) (q : RelV y u) (k : x.isK = false) (k' : y.isK = false) : x = y := Option.some.inj ((r.abs k).symm.trans (q.abs k'))
theorem Vals.inj : ∀ {xs ys : List V} {us : List Value}, Vals xs us -> Vals ys us -> xs.any V.isK = false -> ys.any V.isK = false -> xs = ys
 | _, _, _, .nil, .nil, _, _ => rfl
 | _, _, _, .cons r t, .cons r' t', k, k' => by
  rw [any_cons, Bool.or_eq_false_iff] at k k'
  rw [r.inj r' k.1 k'.1, Vals.inj t t' k.2 k'.2]
section
variable {X : Cx} {pins : OP} {σ : St} {H : Hp} {s : Shared} {a : Addr} {xs ys : List V}
theorem SqL.of {K : Frag} (h : H a = some (.lst xs)) : SqL K H a xs := .inl (.inl h)
theorem SqT.of {K : Frag} (h : H a = some (.tup xs)) : SqT K H a xs := .inl (.inl h)
theorem Inv.list (I : Inv X pins σ H s) (h : SqL X.K H a xs) : ∃ its : List Value, Vals xs its /\ PlainL s.heap a its.toArray /\ xs.length <= sizeLine := by
 rcases h with h | ⟨o, its, n, hk, hc, hd, hs, hz, r, _⟩
 ·obtain ⟨z, its, n, r, e⟩ := h.ok I.hok
  exact ⟨its, r, ⟨_, n, e, rfl, rfl, rfl⟩, z⟩
 ·refine ⟨its.toList, r, ⟨o, n, I.kIn a o hk, hc, hd, by simpa using hs⟩, ?_⟩
  have e := r.length
  simp only [Array.length_toList] at e
  omega
theorem Inv.tuple (I : Inv X pins σ H s) (h : SqT X.K H a xs) : ∃ its : List Value, Vals xs its /\ IsTup s.heap a its.toArray /\ xs.length <= sizeLine := by
 rcases h with h | ⟨o, its, n, hk, hc, hs, hz, r, _⟩
 ·obtain ⟨z, its, r, p⟩ := h.ok I.hok
  exact ⟨its, r, p, z⟩
 ·refine ⟨its.toList, r, ⟨o, I.kIn a o hk, hc, n, by simpa using hs⟩, ?_⟩
  have e := r.length
  simp only [Array.length_toList] at e
  omega
theorem Rd.one {o u : HO} (h : Rd H a o) (h' : Rd H a u) (ho : ∀ x y, o ≠ .frz x y) (hu : ∀ x y, u ≠ .frz x y) : o = u := by
 rcases h with h | ⟨z, h⟩ <;> rcases h' with h' | ⟨z', h'⟩ <;> rw [h] at h' <;> injection h' with e
 ·exact absurd e (ho _ _)
 ·exact absurd e.symm (hu _ _)
 ·injection e
theorem Rd.some {o : HO} (h : Rd H a o) : H a ≠ none := by
 rcases h with h | ⟨z, h⟩ <;> rw [h] <;> simp
theorem Inv.kFree (I : Inv X pins σ H s) {o : Obj} (h : X.K.lookup a = some o) : H a = none := (I.bs a o (I.ok.mod.kin a o h)).2
theorem Inv.list_inj (I : Inv X pins σ H s) (h : SqL X.K H a xs) (h' : SqL X.K H a ys) : xs = ys := by
 rcases h with h | ⟨o, its, n, e, _, _, d, _, r, k⟩ <;> rcases h' with h' | ⟨o', its', n', e', _, _, d', _, r', k'⟩
 ·have := h.one h' (fun _ _ z => by cases z) (fun _ _ z => by cases z); injection this
 ·exact absurd (I.kFree e') h.some
 ·exact absurd (I.kFree e) h'.some
 ·rw [e] at e'; cases e'; rw [d] at d'; injection d' with d1 _; subst d1; exact r.inj r' k k'
end
abbrev Cx.wish (X : Cx) (E : EV) : Cx := { X with xe := E }
abbrev Cx.nox (X : Cx) : Cx := X.wish fun _ _ => False
theorem Cx.Ok.wish {X : Cx} (ok : X.Ok) (E : EV) : (X.wish E).Ok :=
 ⟨ok.mod, ok.kind, ok.glob, ok.blt, ok.above, ok.inj, ok.has, ok.cab, ok.hd, ok.frames, ok.stk, ok.exf, ok.bs, ok.bsz, ok.noex, ok.exfs, ok.funs, ok.frf⟩
theorem Cx.Ok.unwish {X : Cx} {E : EV} (ok : (X.wish E).Ok) : X.Ok :=
 ⟨ok.mod, ok.kind, ok.glob, ok.blt, ok.above, ok.inj, ok.has, ok.cab, ok.hd, ok.frames, ok.stk, ok.exf, ok.bs, ok.bsz, ok.noex, ok.exfs, ok.funs, ok.frf⟩
section
variable {X : Cx} {pins : OP} {σ : St} {H : Hp} {s : Shared} {E : EV}
theorem Inv.wish (I : Inv X pins σ H s) (E : EV) : Inv (X.wish E) pins σ H s := ⟨I.ok.wish E, I.os, I.bare, I.base, I.loc, I.cell, I.free, I.freeC, I.pin, I.hok, I.len⟩
theorem Inv.unwish (I : Inv (X.wish E) pins σ H s) : Inv X pins σ H s := ⟨I.ok.unwish, I.os, I.bare, I.base, I.loc, I.cell, I.free, I.freeC, I.pin, I.hok, I.len⟩
theorem SP.unwish {D : Ends} {f : Flow} {s' : Shared} (h : SP (X.wish E) pins D f s') : SP X pins D f s' := by
 cases f with
 | next => obtain ⟨σ', H', I, q⟩ := h; exact ⟨σ', H', I.unwish, q⟩
 | brk => obtain ⟨σ', H', I, q⟩ := h; exact ⟨σ', H', I.unwish, q⟩
 | cont => obtain ⟨σ', H', I, q⟩ := h; exact ⟨σ', H', I.unwish, q⟩
 | ret u => obtain ⟨v, σ', H', I, r, q⟩ := h; exact ⟨v, σ', H', I.unwish, r, q⟩
theorem PE.nox {e : Expr} {t : TE} (h : PE X.nox e t) : PE X e t := fun pins s σ H Q I hw =>
 wpAny_mono (h pins s σ H Q (I.wish _) hw) (fun _ _ ⟨v, H', I', r, q⟩ => ⟨v, H', I'.unwish, r, q⟩) fun _ _ z => False.elim z
theorem PT.nox {e : Expr} {t : TT} (h : PT X.nox e t) : PT X e t := fun pins s σ H Q I hw =>
 wpAny_mono (h pins s σ H Q (I.wish _) hw) (fun _ _ ⟨H', I', q⟩ => ⟨H', I'.unwish, q⟩) fun _ _ z => False.elim z
theorem PSs.nox {st : List Stmt} {t : TS} (h : PSs X.nox st t) : PSs X st t := fun pins s σ H D I hw =>
 wpAny_mono (h pins s σ H D (I.wish _) hw) (fun _ _ q => q.unwish) fun _ _ z => False.elim z
end
section
variable {X : Cx} {st : Stmt} {rest : List Stmt} {t u : TS} {e : Expr} {te : TE} {pos : Pos}
def Ku : TS := fun D σ H => D.nx σ H
def N8 (t u : TS) : TS := fun D σ H => t { D with nx := u D } σ H
theorem qu : PSs X [] Ku := fun _ _ σ H _ I h => wpAny_execs_nil ⟨σ, H, I, h⟩
theorem dM (h1 : PS X st t) (h2 : PSs X rest u) : PSs X (st :: rest) (N8 t u) := by
 intro pins s σ H D I h
 refine wpAny_execs_cons (thn (h1 pins s σ H { D with nx := u D } I h) fun f s1 q => ?_)
 cases f with
 | next =>
  obtain ⟨σ', H', I', q⟩ := q
  exact h2 pins s1 σ' H' D I' q
 | ret v => exact q
 | brk => exact q
 | cont => exact q
theorem jP (h1 : PS X st t) : PSs X [st] t := by
 intro pins s σ H D I h
 refine wpAny_execs_cons (thn (h1 pins s σ H D I h) fun f s1 q => ?_)
 cases f with
 | next => exact wpAny_execs_nil q
 | ret v => exact q
 | brk => exact q
 | cont => exact q
theorem Inv.quiet {pins : OP} {σ : St} {H : Hp} {s : Shared} (I : Inv X pins σ H s) : interactive X.env = false := by simp [interactive, I.ok.kind]
def JT (te : TE) : TS := fun D σ H => te σ H fun _ H1 => D.nx σ H1
theorem HQ (he : PE X e te) (hs : swapsWith e none pos.line X.env = pure false := by rfl) : PS X (.Expr e pos) (JT te) := by
 intro pins s σ H D I h
 exact wpAny_Expr_any (thn (he pins s σ H _ I h) fun v s1 ⟨x, H1, I1, r1, q1⟩ => ⟨σ, H1, I1, q1⟩) I.quiet hs
def HS (te : TE) : TS := fun D σ H => te σ H D.rt
theorem ni (he : PE X e te) : PS X (.Return (some e) pos) (HS te) := by
 intro pins s σ H D I h
 exact wpAny_Return_some (thn (he pins s σ H _ I h) fun v s1 ⟨x, H1, I1, r1, q1⟩ => ⟨x, σ, H1, I1, r1, q1⟩)
def Ox (c : TT) (t u : TS) : TS := fun D σ H => c σ H fun b H1 => if b = true then t D σ H1 else u D σ H1
theorem BJ {c : Expr} {a b : List Stmt} {tc : TT} (hc : PT X c tc) (ha : PSs X a t) (hb : PSs X b u) : PS X (.If c a b pos) (Ox tc t u) := by
 intro pins s σ H D I h
 refine wpAny_If (thn (hc pins s σ H _ I h) fun d s1 ⟨H1, I1, q1⟩ => ?_)
 cases d with
 | true => exact ha pins s1 σ H1 D I1 q1
 | false => exact hb pins s1 σ H1 D I1 q1
end
abbrev TG := V -> St -> Hp -> (St -> Hp -> Prop) -> Prop
abbrev TGs := List V -> St -> Hp -> (St -> Hp -> Prop) -> Prop
def PG (X : Cx) (target : Expr) (t : TG) : Prop :=
 ∀ (pins : OP) (s : Shared) (σ : St) (H : Hp) (v : V) (u : Value) (Q : St -> Hp -> Prop), Inv X pins σ H s -> RelV v u -> t v σ H Q ->
  wpAny (model X.prog X.w) X.A (assign target X.env u) (fun _ s' => ∃ σ' H', Inv X pins σ' H' s' /\ Q σ' H') X.xe s
def PGs (X : Cx) (ts : List Expr) (t : TGs) : Prop :=
 ∀ (pins : OP) (s : Shared) (σ : St) (H : Hp) (vs : List V) (us : List Value) (Q : St -> Hp -> Prop), Inv X pins σ H s -> Vals vs us -> t vs σ H Q ->
  wpAny (model X.prog X.w) X.A (assignInOrder ((assignEach ts X.env).map (·.2)) us) (fun _ s' => ∃ σ' H', Inv X pins σ' H' s' /\ Q σ' H') X.xe s
abbrev Nm := V -> V -> V -> Hp -> (Hp -> Prop) -> Prop
def NQ (X : Cx) (t : Nm) : Prop :=
 ∀ (pins : OP) (s : Shared) (σ : St) (H : Hp) (o i v : V) (ov iv u : Value) (Q : Hp -> Prop), Inv X pins σ H s -> RelV o ov -> RelV i iv -> RelV v u -> t o i v H Q ->
  wpAny (model X.prog X.w) X.A (setItem ov iv u) (fun _ s' => ∃ H', Inv X pins σ H' s' /\ Q H') X.xe s
section
variable {X : Cx} {pos : Pos}
def dg (i : Nat) : TG := fun v σ H Q => Q (σ.set i (some v)) H
theorem bR {i : Nat} {x : Str} (hN : X.N.Nodup) (hi : X.N[i]? = some x) (hx : Loc X.env.scope x) (hf : X.fn x = true \/ X.env.scope.names.lookup x = some .local := by first | exact .inl rfl | exact .inr rfl | assumption) : PG X (.Name x pos) (dg i) := by
 intro pins s σ H v u Q I r h
 exact wpAny_assign_Name (jw I hN hi hx r (fun s' I' => ⟨_, H, I', h⟩) hf)
def QK : TGs := fun vs σ H Q => vs = [] /\ Q σ H
def Oj (t : TG) (u : TGs) : TGs := fun vs σ H Q => ∃ v r, vs = v :: r /\ t v σ H fun σ' H' => u r σ' H' Q
theorem Hs : PGs X [] QK := by
 intro pins s σ H vs us Q I r h
 obtain ⟨e, h⟩ := h
 subst e
 cases r
 exact assignInOrder_nil ⟨σ, H, I, h⟩
theorem wN {e : Expr} {es : List Expr} {t : TG} {u : TGs} (h1 : PG X e t) (h2 : PGs X es u)
  (hs : (assignEach (e :: es) X.env).map (·.2) = assign e X.env :: (assignEach es X.env).map (·.2) := by rfl) : PGs X (e :: es) (Oj t u) := by
 intro pins s σ H vs us Q I r h
 obtain ⟨v, vr, e1, h⟩ := h
 subst e1
 cases r with
 | cons r rr =>
  rw [hs]
  refine assignInOrder_cons (thn (h1 pins s σ H _ _ _ I r h) fun _ s1 ⟨σ1, H1, I1, q1⟩ => ?_)
  exact h2 pins s1 σ1 H1 _ _ Q I1 rr q1
def Ob (K : Frag) (n : Nat) (t : TGs) : TG := fun v σ H Q => ∃ a xs, v = .ref a /\ SqT K H a xs /\ xs.length = n /\ t xs σ H Q
theorem MT {es : List Expr} {k : Nat} {t : TGs} {n : Nat} (hc : X.calm = true) (h : PGs X es t)
  (hn : (assignEach es X.env).length = n := by rfl) (hst : (assignEach es X.env).findIdx? (·.1) = none := by rfl) : PG X (.Tuple es k pos) (Ob X.K n t) := by
 intro pins s σ H v u Q I r hw
 obtain ⟨a, xs, e1, hq, hl, hw⟩ := hw
 subst e1
 cases r
 obtain ⟨its, rv, ht, hz⟩ := I.tuple hq
 refine assign_Tuple_tuple (I.ok.hd hc) ht (by simp [hn, <- hl, rv.length]) hst fun h' hx => ?_
 have I1 : Inv X pins σ H { s with heap := h' } := I.kept (t' := s.toks) fun b o e => hx b o (ne_of_lt (Heap.lt_size e)) e
 exact h pins _ σ H xs _ Q I1 (by simpa using rv) hw
def Qf (to ti : TE) (t : Nm) : TG := fun v σ H Q => to σ H fun o H1 => ti σ H1 fun i H2 => t o i v H2 fun H3 => Q σ H3
theorem lA {o i : Expr} {to ti : TE} {t : Nm} (ho : PE X o to) (hi : PE X i ti) (hs : NQ X t)
  (ha : ∀ v, assign (.Subscript o i pos) X.env v = (do
   let ov <- holding [v] (eval o X.env)
   let iv <- holding [v, ov] (eval i X.env)
   standAt pos
   holding [v, ov, iv] (setItem ov iv v)
   release [v, ov, iv] []) := by intro _; rfl) : PG X (.Subscript o i pos) (Qf to ti t) := by
 intro pins s σ H v u Q I r h
 rw [ha]
 refine wpAny_bind (wpAny_holding (thn (ho pins s σ H _ I h) fun ov s1 ⟨x, H1, I1, r1, q1⟩ => ?_))
 refine wpAny_bind (wpAny_holding (thn (hi pins s1 σ H1 _ I1 q1) fun iv s2 ⟨y, H2, I2, r2, q2⟩ => ?_))
 refine wpAny_bind (wpAny_standAt (wpAny_bind (wpAny_holding (thn (hs pins s2 σ H2 x y v ov iv u _ I2 r1 r2 r q2) fun _ s3 ⟨H3, I3, q3⟩ => ?_))))
 exact wpAny_release ⟨σ, H3, I3, q3⟩
def yM (te : TE) (g : TG) : TS := fun D σ H => te σ H fun x H1 => g x σ H1 D.nx
theorem M3 {tg e : Expr} {te : TE} {g : TG} (he : PE X e te) (hg : PG X tg g) (hs : swapsWithSole [tg] e pos.line X.env = pure false := by rfl) (hw : swappedStores [tg] e X.env = pure none := by rfl)
  (h1 : (assignEach [tg] X.env).map (·.2) = [assign tg X.env] := by rfl) : PS X (.Assign [tg] e pos) (yM te g) := by
 intro pins s σ H D I h
 refine wpAny_Assign_stores (thn (he pins s σ H _ I h) fun v s1 ⟨x, H1, I1, r1, q1⟩ => ?_) hs hw
 rw [h1]
 exact thn (hg pins s1 σ H1 x v _ I1 r1 q1) fun _ s2 q => q
theorem mY {i : Nat} {x : Str} {e : Expr} {te : TE} {pos' : Pos} (hN : X.N.Nodup) (hi : X.N[i]? = some x) (hx : Loc X.env.scope x) (he : PE X e te) (hs : swapsWith e (some (.Name x pos')) pos.line X.env = pure false := by rfl) (hf : X.fn x = true \/ X.env.scope.names.lookup x = some .local := by first | exact .inl rfl | exact .inr rfl | assumption) :
  PS X (.Assign [.Name x pos'] e pos) (yM te (dg i)) := by
 intro pins s σ H D I h
 refine wpAny_Assign_Name (thn (he pins s σ H _ I h) fun v s1 ⟨y, H1, I1, r1, q1⟩ => ?_) hs
 exact jw I1 hN hi hx r1 (fun s2 I2 => ⟨_, H1, I2, q1⟩) hf
end
section
variable {X : Cx} {pos : Pos}
end
structure It where
 go : Nat -> Hp -> Prop
 yld : Nat -> Hp -> V -> Hp -> Prop
 stop : Nat -> Hp -> Prop
def nD (X : Cx) (pins : OP) (H : Hp) (b : Addr) : Prop :=
 H b = none /\ b ≠ X.env.locals /\ b ∉ X.fs /\ (b ∈ X.ex \/ X.s₀.heap.objs.size <= b) /\ (∀ x c, X.env.cells.lookup x = some c -> c ≠ b) /\ ∀ p ∈ X.pn ++ pins, p.1 ≠ b
theorem Inv.fpOk {X : Cx} {pins : OP} {σ : St} {H H' : Hp} {s : Shared} {b : Addr} (I : Inv X pins σ H s) (hb : s.heap.objs.size <= b) (hn : H' b = none) : nD X pins H' b := by
 refine ⟨hn, ne_of_gt (lt_of_lt_of_le I.lt hb), I.nofs hb, .inr (le_trans I.sz hb), fun x c e z => ?_, fun p hp z => ?_⟩
 ·obtain ⟨v, q⟩ := I.cell x c e
  exact absurd (lt_of_lt_of_le q.lt (by rw [z]; exact hb)) (lt_irrefl _)
 ·exact absurd (lt_of_lt_of_le (Heap.lt_size (I.pin p hp).1) (by rw [z]; exact hb)) (lt_irrefl _)
structure Turn (P : Program) (w : World) (K : Frag) (tg : Expr) (J : It) (fp : List Addr) (it : Addr) (tn : Nat -> Heap -> Prop) : Prop where
 mem : it ∈ fp
 obj : ∀ i h, tn i h -> ∀ b ∈ fp, ∃ o, h.get? b = some o /\ ∀ v, o.data ≠ .cell v
 keep : ∀ i h h', tn i h -> (∀ b ∈ fp, ∀ o, h.get? b = some o -> h'.get? b = some o) -> tn i h'
 item : ∀ (X : Cx), X.prog = P -> X.w = w -> X.K = K -> X.calm = true -> ∀ (i : Nat) (pins : OP) (s : Shared) (σ : St) (H : Hp) (E : EV), Inv X pins σ H s -> (∀ b ∈ fp, nD X pins H b) -> tn i s.heap -> J.go i H ->
  wpAny (model P w) X.A (pyNext (.ref it)) (fun r s1 => ∃ u, r = some u /\
   wpAny (model P w) X.A (letOwnedTupleGo tg (.ref it) u) (fun _ s2 => ∃ x H', Inv X pins σ H' s2 /\ RelV x u /\ J.yld i H x H' /\ tn (i + 1) s2.heap /\ ∀ b ∈ fp, H' b = none) E s1) E s
 done : ∀ (X : Cx), X.prog = P -> X.w = w -> X.K = K -> X.calm = true -> ∀ (i : Nat) (pins : OP) (s : Shared) (σ : St) (H : Hp) (E : EV), Inv X pins σ H s -> (∀ b ∈ fp, nD X pins H b) -> tn i s.heap -> J.stop i H ->
  wpAny (model P w) X.A (pyNext (.ref it)) (fun r s1 => r = none /\ Inv X pins σ H s1) E s
 self : ∀ (A : Around) (i : Nat) (s : Shared) (Q : EV) (E : EV), tn i s.heap -> Q (.ref it) s -> wpAny (model P w) A (pyIter (.ref it)) Q E s
abbrev TI := St -> Hp -> (It -> Hp -> Prop) -> Prop
def PIE (X : Cx) (pins : OP) (σ : St) (tg : Expr) (R : It -> Hp -> Prop) (itv : Value) (s2 : Shared) : Prop :=
 ∃ (it : Addr) (fp : List Addr) (tn : Nat -> Heap -> Prop) (J : It) (H' : Hp), itv = .ref it /\ Inv X pins σ H' s2 /\ Turn X.prog X.w X.K tg J fp it tn /\ tn 0 s2.heap /\ (∀ b ∈ fp, nD X pins H' b) /\ R J H'
def PI (X : Cx) (tg iter : Expr) (wi : TI) : Prop :=
 ∀ (pins : OP) (s : Shared) (σ : St) (H : Hp) (R : It -> Hp -> Prop), Inv X pins σ H s -> wi σ H R ->
  wpAny (model X.prog X.w) X.A (eval iter X.env) (fun v s1 => wpAny (model X.prog X.w) X.A (pyIter v) (PIE X pins σ tg R) X.xe s1) X.xe s
theorem Ar {M : Model} {A : Around} {E : EV} {s : Shared} {tg : Expr} {it : Addr} {u : Value} {o : Obj} {n : String} {vs : Array Value} {Q : Unit -> Shared -> Prop} (ho : s.heap.get? it = some o) (hc : o.cls = .type n) (hd : o.data = .fields vs)
  (hn : ["enumerate", "zip", "dict_itemiterator", "dict_reverseitemiterator", "odict_iterator", "itertools.zip_longest", "itertools.pairwise"].contains n = false) (hQ : Q () s) : wpAny M A (letOwnedTupleGo tg (.ref it) u) Q E s := by
 unfold letOwnedTupleGo
 cases tg <;> first
  | exact wpAny_pure hQ
  | (cases u <;> first
    | exact wpAny_pure hQ
    | (refine wpAny_bind (wpAny_load ho ?_)
       rw [hc, hd]
       show wpAny M A (if (["enumerate", "zip", "dict_itemiterator", "dict_reverseitemiterator", "odict_iterator", "itertools.zip_longest", "itertools.pairwise"].contains n && vs[0]? == some (rawInt _)) = true then _ else _) Q E s
       rw [if_neg (by intro h; rw [hn, Bool.false_and] at h; cases h)]
       exact wpAny_pure hQ))
def Itl (K : Frag) (a : Addr) : It :=
 ⟨fun i H => ∃ xs x, SqL K H a xs /\ xs[i]? = some x, fun i H x H' => H' = H /\ ∀ xs, SqL K H a xs -> xs[i]? = some x, fun i H => ∃ xs, SqL K H a xs /\ xs.length <= i⟩
def Itr (lo : Int) (n : Nat) : It := ⟨fun i _ => i < n, fun i H x H' => H' = H /\ x = .int (lo + i), fun i _ => n <= i⟩
theorem CT {P : Program} {w : World} {K : Frag} {tg : Expr} (a it : Addr) : Turn P w K tg (Itl K a) [it] it (fun i h => h.IsListIter it a i) where
 mem := by simp
 obj := fun i h st b hb => by
  have e : b = it := by simpa using hb
  subst e
  obtain ⟨o, e, c, d⟩ := st
  exact ⟨o, e, fun v z => by rw [d] at z; cases z⟩
 keep := fun i h h' st k => st.at fun o e => k it Z2 o e
 item := by
  intro X hP hw hK hc i pins s σ H E I hf st hg
  subst hP hw hK
  obtain ⟨xs, x, hq, hx⟩ := hg
  obtain ⟨its, rv, p, hz⟩ := I.list hq
  obtain ⟨u, hu, ru⟩ := rv.get hx
  obtain ⟨f0, f1, f2, f3, f4, f5⟩ := hf it Z2
  refine wpAny_pyNext_list_item st p.isList (x := u) (by simpa using hu) fun h' st' sb => ?_
  have I1 : Inv X pins σ H { s with heap := h' } := I.turned (t' := s.toks) (fun b o hb e => (sb.2 b hb).trans e) f0 f1 f3 f4 f5
  obtain ⟨o, e, c, d⟩ := id st'
  exact ⟨u, rfl, Ar (s := { s with heap := h' }) e c d Z0 ⟨x, H, I1, ru, ⟨rfl, fun ys hy => by rw [I.list_inj hy hq]; exact hx⟩, st', fun b hb => (hf b hb).1⟩⟩
 done := by
  intro X hP hw hK hc i pins s σ H E I hf st hg
  subst hP hw hK
  obtain ⟨xs, hq, hx⟩ := hg
  obtain ⟨its, rv, p, hz⟩ := I.list hq
  obtain ⟨f0, f1, f2, f3, f4, f5⟩ := hf it Z2
  have hl := rv.length
  exact wpAny_pyNext_list_end (I.ok.hd hc) st p.isList Z6 fun h' eb => ⟨rfl, I.turned (t' := s.toks) (fun b o hb e => eb b o hb e) f0 f1 f3 f4 f5⟩
 self := fun _ _ _ _ _ st h => wpAny_pyIter_listiter st h
theorem za {P : Program} {w : World} {K : Frag} {tg : Expr} (it : Addr) (lo : Int) (n : Nat) : Turn P w K tg (Itr lo n) [it] it (fun i h => IsRangeIter h it (lo + (i : Nat) * 1) ((n : Int) - (i : Nat)) 1) where
 mem := by simp
 obj := fun i h st b hb => by
  have e : b = it := by simpa using hb
  subst e
  exact ⟨_, st, fun v z => by
   have z' : Data.fields _ = Data.cell v := z
   cases z'⟩
 keep := fun i h h' st k => k it Z2 _ st
 item := by
  intro X hP hw hK hc i pins s σ H E I hf st hg
  subst hP hw hK
  obtain ⟨f0, f1, f2, f3, f4, f5⟩ := hf it Z2
  have W := Walks.range (prog := X.prog) (w := X.w) (I.ok.hd hc) it lo 1 n
  refine W.item i s _ _ hg st fun v h' tk hv st' kk => ?_
  obtain ⟨t, rfl⟩ := hv
  have I1 : Inv X pins σ H { s with heap := h', toks := tk } := I.turned (fun b o hb e => kk b o (by simpa using hb) e) f0 f1 f3 f4 f5
  refine ⟨_, rfl, Ar (s := { s with heap := h', toks := tk }) (n := "range_iterator") st' rfl rfl Z0 ⟨.int (lo + i), H, I1, ⟨t, ?_⟩, ⟨rfl, rfl⟩, st', fun b hb => (hf b hb).1⟩⟩
  rw [Int.mul_one]
 done := by
  intro X hP hw hK hc i pins s σ H E I hf st hg
  subst hP hw hK
  obtain ⟨f0, f1, f2, f3, f4, f5⟩ := hf it Z2
  exact wpAny_pyNext_range_end (I.ok.hd hc) st (by have : n <= i := hg; omega) fun h' eb => ⟨rfl, I.turned (t' := s.toks) (fun b o hb e => eb b o hb e) f0 f1 f3 f4 f5⟩
 self := fun _ _ _ _ _ st h => wpAny_pyIter_rangeiter st h
section
variable {X : Cx} {tg : Expr}
def Ke (K : Frag) (tl : TE) : TI := fun σ H R => tl σ H fun x H1 => ∃ a, x = .ref a /\ (∃ xs, SqL K H1 a xs) /\ R (Itl K a) H1
theorem iI {l : Expr} {tl : TE} (hl : PE X l tl) : PI X tg l (Ke X.K tl) := by
 intro pins s σ H R I h
 refine thn (hl pins s σ H _ I h) fun v s1 ⟨x, H1, I1, r1, q1⟩ => ?_
 obtain ⟨a, e, ⟨xs, hq⟩, q⟩ := q1
 subst e
 cases r1
 obtain ⟨its, rv, p, hz⟩ := I1.list hq
 refine wpAny_pyIter_list p.isList ?_
 refine ⟨s1.heap.objs.size, [s1.heap.objs.size], _, _, H1, rfl, I1.kept (t' := s1.toks) fun b o e => Heap.get?_push_of_some _ e, CT a _, ⟨_, Heap.get?_push_size _ rfl, rfl, rfl⟩, fun b hb => ?_, q⟩
 have e : b = s1.heap.objs.size := by simpa using hb
 subst e
 exact I1.fpOk (le_refl _) (I1.hok.fresh (le_refl _))
theorem Gj {pins : OP} {σ : St} {H : Hp} {s : Shared} {R : It -> Hp -> Prop} {E : EV} {lo hi : Int} {t u v : Tok} {tk : Nat} (I : Inv X pins σ H s) (h1 : -(2 ^ 62) <= lo) (h2 : lo < 2 ^ 62) (h3 : -(2 ^ 62) <= hi) (h4 : hi < 2 ^ 62)
  (q : R (Itr lo (hi - lo).toNat) H) : wpAny (model X.prog X.w) X.A (pyIter (.ref s.heap.objs.size)) (PIE X pins σ tg R) E { s with heap := s.heap.push { cls := .type "range", data := .fields #[.int lo t, .int hi u, .int 1 v] }, toks := tk } := by
 refine wpAny_pyIter_range (IsRange.new ..) (small_one h1 h2 h3 h4) ?_
 have I1 : Inv X pins σ H { s with heap := s.heap.push { cls := .type "range", data := .fields #[.int lo t, .int hi u, .int 1 v] }, toks := tk } := I.kept fun b o e => Heap.get?_push_of_some _ e
 refine ⟨(s.heap.push { cls := .type "range", data := .fields #[.int lo t, .int hi u, .int 1 v] }).objs.size, [(s.heap.push { cls := .type "range", data := .fields #[.int lo t, .int hi u, .int 1 v] }).objs.size], _, _, H, rfl,
  I1.kept (t' := tk) fun b o e => Heap.get?_push_of_some _ e, za _ lo (hi - lo).toNat, ?_, fun b hb => ?_, q⟩
 ·have e1 : lo + ((0 : Nat) : Int) * 1 = lo := by simp
  have e2 : (((hi - lo).toNat : Nat) : Int) - ((0 : Nat) : Int) = Builtin.Range.rangeSize lo hi 1 := by rw [rangeSize_one]; split <;> omega
  show IsRangeIter _ _ (lo + ((0 : Nat) : Int) * 1) ((((hi - lo).toNat : Nat) : Int) - ((0 : Nat) : Int)) 1
  rw [e1, e2]
  exact Heap.get?_push_size _ rfl
 ·have e : b = (s.heap.push { cls := .type "range", data := .fields #[.int lo t, .int hi u, .int 1 v] }).objs.size := by simpa using hb
  subst e
  exact I1.fpOk (le_refl _) (I1.hok.fresh (le_refl _))
def NZ (ta : TA) : TI := fun σ H R => ta σ H fun vs H1 => ∃ j : Int, vs = [.int j] /\ -(2 ^ 62) <= j /\ j < 2 ^ 62 /\ R (Itr 0 j.toNat) H1
theorem gC {a : Expr} {ta : TA} {p pos : Pos} (hg : Gl X "range") (hm : X.mg "range" = none) (ha : PA X [a] ta) (hs : starEach [a] X.env = [(false, eval a X.env)] := by rfl) : PI X tg (.Call (.Name "range" p) [a] [] pos) (NZ ta) := by
 intro pins s σ H R I h
 refine Call_ (pI I hg hm boot_range (PyProof.Rows.callWith_type1 (thn (ha pos pins s σ H _ I h) fun us s1 ⟨vs, H1, I1, r1, q1⟩ => ?_) hs rfl))
 obtain ⟨j, e, q1, q2, q⟩ := q1
 subst e
 cases r1 with
 | cons r rr =>
  cases rr
  obtain ⟨t, rfl⟩ := r
  exact call_range_1 (Gj I1 Z1 Z1 q1 q2 (by simpa using q))
def O2 (wi : TI) (g : TG) (tb : TS) : TS := fun D σ H => wi σ H fun J H1 => ∃ W : Nat -> Nat -> St -> Hp -> Prop, (∃ m, W 0 m σ H1) /\ ∀ i m σ H, W i m σ H ->
 (J.stop i H /\ D.nx σ H) \/ (J.go i H /\ ∃ N : St -> Hp -> Prop, (∀ σ' H', N σ' H' -> ∃ m', m' < m /\ W (i + 1) m' σ' H') /\ ∀ x H', J.yld i H x H' -> g x σ H' fun σ2 H2 => tb { D with nx := N, ct := N, bk := D.nx } σ2 H2)
def m5 (fp : List Addr) (h : Heap) : OP := fp.filterMap fun b => (h.get? b).map fun o => (b, o)
theorem cP {fp : List Addr} {h : Heap} {b : Addr} {o : Obj} (hb : b ∈ fp) (e : h.get? b = some o) : (b, o) ∈ m5 fp h := List.mem_filterMap.mpr ⟨b, hb, by rw [e]; rfl⟩
theorem Cm {fp : List Addr} {h : Heap} {p : Addr × Obj} (hp : p ∈ m5 fp h) : p.1 ∈ fp /\ h.get? p.1 = some p.2 := by
 obtain ⟨b, hb, e⟩ := List.mem_filterMap.mp hp
 cases q : h.get? b with
 | none => rw [q] at e; cases e
 | some o =>
  rw [q] at e
  have e' : (b, o) = p := Option.some.inj e
  subst e'
  exact ⟨hb, q⟩
theorem Inv.pinned {pins : OP} {σ : St} {H : Hp} {s : Shared} {fp : List Addr} (I : Inv X pins σ H s) (hf : ∀ b ∈ fp, nD X pins H b) (ho : ∀ b ∈ fp, ∃ o, s.heap.get? b = some o /\ ∀ v, o.data ≠ .cell v) : Inv X (pins ++ m5 fp s.heap) σ H s :=
 I.pins_of fun p hp => (mem_append.mp hp).elim (fun z => I.pin p (mem_append_right _ z)) fun z => by
  obtain ⟨hb, e⟩ := Cm z
  obtain ⟨f0, f1, f2, _⟩ := hf p.1 hb
  obtain ⟨o, e', d⟩ := ho p.1 hb
  rw [e] at e'; cases e'
  exact ⟨e, f0, f1, f2, d⟩
theorem Inv.unpinned {pins pl : OP} {σ : St} {H : Hp} {s : Shared} (I : Inv X (pins ++ pl) σ H s) : Inv X pins σ H s := I.pins_of fun p hp => I.pin p (mem_append_right _ (mem_append_left _ hp))
theorem K4 {iter : Expr} {body : List Stmt} {wi : TI} {g : TG} {tb : TS} {pos : Pos} (hp : PassesOwn (model X.prog X.w) X.A X.env X.xe) (hc : X.calm = true) (hi : PI X tg iter wi) (hg : PG X tg g) (hb : PSs X body tb)
  (hs : ∀ x, foldedSetIterable iter X.env x = pure x := by intro _; rfl) : PS X (.For tg iter body [] pos) (O2 wi g tb) := by
 intro pins s σ H D I h
 refine wpAny_For (thn (hi pins s σ H _ I h) fun v s1 h1 => thn h1 fun itv s2 h2 => ?_) hs
 obtain ⟨it, fp, tn, J, H2, e, I2, T, st2, f2, W, ⟨m0, w0⟩, turn⟩ := h2
 subst e
 have stat : ∀ {H' : Hp}, (∀ b ∈ fp, H' b = none) -> ∀ b ∈ fp, nD X pins H' b := fun hn b hb => ⟨hn b hb, (f2 b hb).2⟩
 refine codeAny_forLoop_any (fun n s' => ∃ i σ' H', Inv X pins σ' H' s' /\ tn i s'.heap /\ (∀ b ∈ fp, H' b = none) /\ W i n σ' H') ?_ m0 ⟨0, σ, H2, I2, st2, fun b hb => (f2 b hb).1, w0⟩
 rintro n s3 ⟨i, σ3, H3, I3, st3, fr3, w3⟩
 rcases turn i n σ3 H3 w3 with ⟨stop, qn⟩ | ⟨go, N, hN, step⟩
 ·refine wpAny_passesOwn hp (thn (T.done X rfl rfl rfl hc i pins s3 σ3 H3 X.xe I3 (stat fr3) st3 stop) fun r s4 ⟨hr, I4⟩ => ?_)
  subst hr
  exact wpAny_execs_nil ⟨σ3, H3, I4, qn⟩
 ·refine wpAny_passesOwn hp (thn (T.item X rfl rfl rfl hc i pins s3 σ3 H3 X.xe I3 (stat fr3) st3 go) fun r s4 ⟨u, hr, h4⟩ => ?_)
  subst hr
  refine wpAny_passesOwn hp (thn h4 fun _ s5 ⟨x, H5, I5, r5, y5, st5, fr5⟩ => ?_)
  have I5' := I5.pinned (stat fr5) (T.obj _ _ st5)
  refine wpAny_passesOwn hp (thn (hg _ s5 σ3 H5 x u _ I5' r5 (step x H5 y5)) fun _ s6 ⟨σ6, H6, I6, q6⟩ => ?_)
  refine wpAny_passesOwn hp (thn (hb _ s6 σ6 H6 _ I6 q6) fun f s7 q7 => ?_)
  have again : ∀ {σ7 : St} {H7 : Hp}, Inv X (pins ++ m5 fp s5.heap) σ7 H7 s7 -> N σ7 H7 -> ∃ m, m < n /\ ∃ i σ' H', Inv X pins σ' H' s7 /\ tn i s7.heap /\ (∀ b ∈ fp, H' b = none) /\ W i m σ' H' := fun {σ7 H7} I7 n7 => by
   obtain ⟨m', hm, w7⟩ := hN σ7 H7 n7
   refine ⟨m', hm, i + 1, σ7, H7, I7.unpinned, T.keep _ _ _ st5 fun b hb o e => (I7.pin (b, o) (mem_append_right _ (mem_append_right _ (cP hb e)))).1, fun b hb => ?_, w7⟩
   obtain ⟨o, e, d⟩ := T.obj _ _ st5 b hb
   exact (I7.pin (b, o) (mem_append_right _ (mem_append_right _ (cP hb e)))).2.1
  cases f with
  | next => obtain ⟨σ7, H7, I7, n7⟩ := q7; exact again I7 n7
  | cont => obtain ⟨σ7, H7, I7, n7⟩ := q7; exact again I7 n7
  | brk => obtain ⟨σ7, H7, I7, q7⟩ := q7; exact ⟨σ7, H7, I7.unpinned, q7⟩
  | ret v => obtain ⟨x7, σ7, H7, I7, r7, q7⟩ := q7; exact ⟨x7, σ7, H7, I7.unpinned, r7, q7⟩
end
theorem uq {lo : Int} {n : Nat} {g : TG} {tb : TS} {D : Ends} {σ : St} {H : Hp} (Pv : Nat -> St -> Hp -> Prop) (h0 : Pv 0 σ H)
  (hs : ∀ i σ H, i < n -> Pv i σ H -> g (.int (lo + i)) σ H fun σ2 H2 => tb { D with nx := Pv (i + 1), ct := Pv (i + 1), bk := D.nx } σ2 H2) (hd : ∀ σ H, Pv n σ H -> D.nx σ H) :
  ∃ W : Nat -> Nat -> St -> Hp -> Prop, (∃ m, W 0 m σ H) /\ ∀ i m σ H, W i m σ H ->
   ((Itr lo n).stop i H /\ D.nx σ H) \/ ((Itr lo n).go i H /\ ∃ N : St -> Hp -> Prop, (∀ σ' H', N σ' H' -> ∃ m', m' < m /\ W (i + 1) m' σ' H') /\ ∀ x H', (Itr lo n).yld i H x H' -> g x σ H' fun σ2 H2 => tb { D with nx := N, ct := N, bk := D.nx } σ2 H2) := by
 refine ⟨fun i m σ H => m = n - i /\ i <= n /\ Pv i σ H, ⟨n, Z2, zero_le _, h0⟩, ?_⟩
 rintro i m σ H ⟨rfl, hi, p⟩
 by_cases hlt : i < n
 ·refine .inr ⟨hlt, Pv (i + 1), fun σ' H' p' => ⟨n - (i + 1), Z1, rfl, hlt, p'⟩, fun x H' y => ?_⟩
  obtain ⟨e, y⟩ := y
  subst e y
  exact hs i σ _ hlt p
 ·have e : i = n := by omega
  subst e
  exact .inl ⟨le_refl _, hd σ H p⟩
abbrev R2 := V -> V -> Hp -> VK -> Prop
def OpR (X : Cx) (f : Value -> Value -> Sem Value) (r : R2) : Prop :=
 ∀ (pins : OP) (s : Shared) (σ : St) (H : Hp) (x y : V) (v u : Value) (Q : VK), Inv X pins σ H s -> RelV x v -> RelV y u -> r x y H Q ->
  wpAny (model X.prog X.w) X.A (f v u) (EP X pins σ Q) X.xe s
def UnR (X : Cx) (f : Value -> Sem Value) (r : V -> Hp -> VK -> Prop) : Prop :=
 ∀ (pins : OP) (s : Shared) (σ : St) (H : Hp) (x : V) (v : Value) (Q : VK), Inv X pins σ H s -> RelV x v -> r x H Q ->
  wpAny (model X.prog X.w) X.A (f v) (EP X pins σ Q) X.xe s
def cX (X : Cx) (f : Value) (r : List V -> Hp -> VK -> Prop) : Prop :=
 ∀ (pins : OP) (s : Shared) (σ : St) (H : Hp) (xs : List V) (us : List Value) (Q : VK), Inv X pins σ H s -> Vals xs us -> r xs H Q ->
  wpAny (model X.prog X.w) X.A (call f us) (EP X pins σ Q) X.xe s
def tOp (r : R2) (ta tb : TE) : TE := fun σ H Q => ta σ H fun x H1 => tb σ H1 fun y H2 => r x y H2 Q
def tUn (r : V -> Hp -> VK -> Prop) (ta : TE) : TE := fun σ H Q => ta σ H fun x H1 => r x H1 Q
def rI (C : Int -> Int -> Prop) (g : Int -> Int -> V) : R2 := fun x y H Q => ∃ i j, x = .int i /\ y = .int j /\ C i j /\ Q (g i j) H
def rI0 (g : Int -> Int -> V) : R2 := fun x y H Q => ∃ i j, x = .int i /\ y = .int j /\ Q (g i j) H
def rU (g : Int -> V) : V -> Hp -> VK -> Prop := fun x H Q => ∃ i, x = .int i /\ Q (g i) H
section
variable {X : Cx} {a b c : Expr} {ta tb tc : TE} {pos : Pos}
theorem Ni (ha : PE X a ta) (hb : PE X b tb) {pins : OP} {s : Shared} {σ : St} {H : Hp} {R : V -> V -> Hp -> Prop} (I : Inv X pins σ H s)
  (h : ta σ H fun x H1 => tb σ H1 fun y H2 => R x y H2) {Q : EV} {f : Value -> Value -> Sem Value}
  (hf : ∀ v u s2 x y H2, Inv X pins σ H2 s2 -> RelV x v -> RelV y u -> R x y H2 -> wpAny (model X.prog X.w) X.A (f v u) Q X.xe s2) :
  wpAny (model X.prog X.w) X.A (eval a X.env) (fun v s₁ => wpAny (model X.prog X.w) X.A (eval b X.env) (fun u s₂ => wpAny (model X.prog X.w) X.A (f v u) Q X.xe s₂) X.xe s₁) X.xe s := by
 refine thn (ha pins s σ H _ I h) fun v s1 ⟨x, H1, I1, r1, q1⟩ => ?_
 refine thn (hb pins s1 σ H1 _ I1 q1) fun u s2 ⟨y, H2, I2, r2, q2⟩ => ?_
 exact hf v u s2 x y H2 I2 r1 r2 q2
theorem aR {op : Operator} {r : R2} (ho : OpR X (binaryOp op) r) (ha : PE X a ta) (hb : PE X b tb) : PE X (.BinOp a op b pos) (tOp r ta tb) := by
 intro pins s σ H Q I h
 exact wpAny_BinOp (Ni ha hb I h fun v u s2 x y H2 I2 rx ry q => ho pins s2 σ H2 x y v u Q I2 rx ry q)
theorem DX {op : UnaryOp} {r : V -> Hp -> VK -> Prop} (ho : UnR X (unaryOp op) r) (ha : PE X a ta) : PE X (.UnaryOp op a pos) (tUn r ta) := by
 intro pins s σ H Q I h
 exact UnaryOp_ (thn (ha pins s σ H _ I h) fun v s1 ⟨x, H1, I1, r1, q1⟩ => ho pins s1 σ H1 x v Q I1 r1 q1)
theorem opI {f : Value -> Value -> Sem Value} {C : Int -> Int -> Prop} {g : Int -> Int -> Int}
  (rule : ∀ (i j : Int) (t u : Tok) (s : Shared) (Q : EV) (E : EV), C i j -> Q (.int (g i j) s.toks) { s with toks := s.toks + 1 } -> wpAny (model X.prog X.w) X.A (f (.int i t) (.int j u)) Q E s) :
  OpR X f (rI C fun i j => .int (g i j)) := by
 intro pins s σ H x y v u Q I rx ry h
 obtain ⟨i, j, rfl, rfl, hc, q⟩ := h
 obtain ⟨t, rfl⟩ := rx
 obtain ⟨t', rfl⟩ := ry
 exact rule i j t t' s _ _ hc ⟨.int (g i j), H, I.tok _, ⟨_, rfl⟩, q⟩
theorem Jz {f : Value -> Value -> Sem Value} {g : Int -> Int -> Int}
  (rule : ∀ (i j : Int) (t u : Tok) (s : Shared) (Q : EV) (E : EV), Q (.int (g i j) s.toks) { s with toks := s.toks + 1 } -> wpAny (model X.prog X.w) X.A (f (.int i t) (.int j u)) Q E s) :
  OpR X f (rI0 fun i j => .int (g i j)) := by
 intro pins s σ H x y v u Q I rx ry h
 obtain ⟨i, j, rfl, rfl, q⟩ := h
 obtain ⟨t, rfl⟩ := rx
 obtain ⟨t', rfl⟩ := ry
 exact rule i j t t' s _ _ ⟨.int (g i j), H, I.tok _, ⟨_, rfl⟩, q⟩
theorem Mq {f : Value -> Value -> Sem Value} {g : Int -> Int -> Bool}
  (rule : ∀ (i j : Int) (t u : Tok) (s : Shared) (Q : EV) (E : EV), Q (.bool (g i j)) s -> wpAny (model X.prog X.w) X.A (f (.int i t) (.int j u)) Q E s) :
  OpR X f (rI0 fun i j => .bl (g i j)) := by
 intro pins s σ H x y v u Q I rx ry h
 obtain ⟨i, j, rfl, rfl, q⟩ := h
 obtain ⟨t, rfl⟩ := rx
 obtain ⟨t', rfl⟩ := ry
 exact rule i j t t' s _ _ ⟨.bl (g i j), H, I, rfl, q⟩
def La (i j : Int) : Prop := 0 < j /\ j < 1073741824
def P0 (i j : Int) : Prop := 0 <= j /\ j <= 1000000 /\ i.natAbs < 2 ^ 64
def Gn (i j : Int) : Prop := (-(2 ^ 64) < i /\ i < 2 ^ 64) \/ (-(2 ^ 64) < j /\ j < 2 ^ 64)
theorem Gn.ok {i j : Int} (h : Gn i j) : IntMulOk i j := by
 rcases h with ⟨h1, h2⟩ | ⟨h1, h2⟩
 ·exact .of_left (intBits_le_64 h1 h2)
 ·exact .of_right (intBits_le_64 h1 h2)
theorem zN (k : Nat) : (0 : Int) <= 2 ^ k := by
 rw [two_pow_cast]
 exact Int.natCast_nonneg _
theorem b7 : OpR X (binaryOp .Add) (rI0 fun i j => .int (i + j)) := Jz fun _ _ _ _ _ _ _ q => add_int q
theorem uM : OpR X (binaryOp .Sub) (rI0 fun i j => .int (i - j)) := Jz fun _ _ _ _ _ _ _ q => sub_int q
theorem jn : OpR X (binaryOp .Mult) (rI Gn fun i j => .int (i * j)) := opI fun _ _ _ _ _ _ _ hc q => mul_int q hc.ok
theorem jO : OpR X (binaryOp .FloorDiv) (rI La fun i j => .int (i / j)) := opI fun i j _ _ _ _ _ hc q => by
 have h1 : (0 : Int) < j := hc.1
 have h2 : j < 1073741824 := hc.2
 exact floordiv_int Z1 (by rw [Int.fdiv_eq_ediv_of_nonneg i Z1]; exact q) (.inl (PyProof.noPylong_small Z1))
theorem eN : OpR X (binaryOp .Mod) (rI (fun _ j => 0 < j) fun i j => .int (i % j)) := opI fun i j _ _ _ _ _ hc q => by
 have h1 : (0 : Int) < j := hc
 exact mod_int' Z1 (by rw [Int.fmod_eq_emod_of_nonneg i Z1]; exact q)
theorem Ly : OpR X (binaryOp .LShift) (rI P0 fun i j => .int (i * 2 ^ j.toNat)) := opI fun _ _ _ _ _ _ _ hc q => lshift_int_small hc.1 hc.2.1 hc.2.2 q
theorem wg : OpR X (binaryOp .RShift) (rI (fun _ j => 0 <= j) fun i j => .int (i / 2 ^ j.toNat)) := opI fun i j _ _ _ _ _ hc q =>
 rshift_int hc (by rw [Int.fdiv_eq_ediv_of_nonneg i (zN _)]; exact q)
theorem GX : OpR X (binaryOp .BitAnd) (rI0 fun i j => .int (Builtin.bitAnd i j)) := Jz fun _ _ _ _ _ _ _ q => and_int q
theorem Ow : OpR X (binaryOp .BitOr) (rI0 fun i j => .int (Builtin.bitOr i j)) := Jz fun _ _ _ _ _ _ _ q => or_int q
theorem unI {f : Value -> Sem Value} {g : Int -> Int}
  (rule : ∀ (i : Int) (t : Tok) (s : Shared) (Q : EV) (E : EV), Q (.int (g i) s.toks) { s with toks := s.toks + 1 } -> wpAny (model X.prog X.w) X.A (f (.int i t)) Q E s) :
  UnR X f (rU fun i => .int (g i)) := by
 intro pins s σ H x v Q I rx h
 obtain ⟨i, rfl, q⟩ := h
 obtain ⟨t, rfl⟩ := rx
 exact rule i t s _ _ ⟨.int (g i), H, I.tok _, ⟨_, rfl⟩, q⟩
theorem yJ : UnR X (unaryOp .USub) (rU fun i => .int (-i)) := unI fun _ _ _ _ _ q => neg_int q
end
def NB : V -> V -> Bool
 | .non, .non => true | .non, .int _ => true | .int _, .non => true | .non, .bl _ => true | .bl _, .non => true | .non, .str _ => true | .str _, .non => true
 | .int _, .int _ => true | .bl _, .bl _ => true | .str _, .str _ => true | .byt _, .byt _ => true
 | .int _, .str _ => true | .str _, .int _ => true | .bl _, .str _ => true | .str _, .bl _ => true
 | _, _ => false
def rEq : R2 := fun x y H Q => NB x y = true /\ Q (.bl (decide (x = y))) H
def rNe : R2 := fun x y H Q => NB x y = true /\ Q (.bl (!decide (x = y))) H
theorem lM {i j : Int} : decide (V.int i = V.int j) = (i == j) := by
 rw [Bool.eq_iff_iff]
 simp
theorem GF {i j : Bool} : decide (V.bl i = V.bl j) = (i == j) := by
 rw [Bool.eq_iff_iff]
 simp
theorem kj {i j : Str} : decide (V.str i = V.str j) = (i == j) := by
 rw [Bool.eq_iff_iff]
 simp
theorem Av {i j : Array UInt8} : decide (V.byt i = V.byt j) = (i.toList == j.toList) := by
 rw [Bool.eq_iff_iff]
 cases i
 cases j
 simp
section
variable {X : Cx} {a b c : Expr} {ta tb tc : TE} {pos : Pos}
theorem bA {pins : OP} {σ : St} {H : Hp} {s : Shared} {Q : VK} {k k' : Bool} (I : Inv X pins σ H s) (q : Q (.bl k) H) (e : k = k') : EP X pins σ Q (.bool k') s := by
 subst e
 exact ⟨.bl k, H, I, rfl, q⟩
theorem cY : OpR X (compareOp .Eq) rEq := by
 intro pins s σ H x y v u Q I rx ry h
 obtain ⟨hs, q⟩ := h
 cases x with
 | non =>
  cases rx
  cases y with
  | non => cases ry; exact PySem.EqNone.eq_none_none (bA I q Z2)
  | bl j => cases ry; exact PySem.EqNone.eq_none_bool (bA I q Z2)
  | int j => obtain ⟨t', rfl⟩ := ry; exact PySem.EqNone.eq_none_int (bA I q Z2)
  | str j => obtain ⟨t', rfl⟩ := ry; exact PySem.EqNone.eq_none_str (bA I q Z2)
  | _ => exact absurd (show false = true from hs) Bool.false_ne_true
 | bl i =>
  cases rx
  cases y with
  | non => cases ry; exact PySem.EqNone.eq_bool_none (bA I q Z2)
  | bl j => cases ry; exact eq_bool (bA I q GF)
  | str j => obtain ⟨t', rfl⟩ := ry; exact PySem.EqMixed.eq_bool_str (bA I q Z2)
  | _ => exact absurd (show false = true from hs) Bool.false_ne_true
 | int i =>
  obtain ⟨t, rfl⟩ := rx
  cases y with
  | non => cases ry; exact PySem.EqNone.eq_int_none (bA I q Z2)
  | int j => obtain ⟨t', rfl⟩ := ry; exact eq_int (bA I q lM)
  | str j => obtain ⟨t', rfl⟩ := ry; exact PySem.EqMixed.eq_int_str (bA I q Z2)
  | _ => exact absurd (show false = true from hs) Bool.false_ne_true
 | str i =>
  obtain ⟨t, rfl⟩ := rx
  cases y with
  | non => cases ry; exact PySem.EqNone.eq_str_none (bA I q Z2)
  | bl j => cases ry; exact PySem.EqMixed.eq_str_bool (bA I q Z2)
  | int j => obtain ⟨t', rfl⟩ := ry; exact PySem.EqMixed.eq_str_int (bA I q Z2)
  | str j => obtain ⟨t', rfl⟩ := ry; exact eq_str (bA I q kj)
  | _ => exact absurd (show false = true from hs) Bool.false_ne_true
 | byt i =>
  obtain ⟨t, rfl⟩ := rx
  cases y with
  | byt j => obtain ⟨t', rfl⟩ := ry; exact PySem.W.eq_bytes (bA I q Av)
  | _ => exact absurd (show false = true from hs) Bool.false_ne_true
 | _ => cases y <;> exact absurd (show false = true from hs) Bool.false_ne_true
theorem nT : OpR X (compareOp .NotEq) rNe := by
 intro pins s σ H x y v u Q I rx ry h
 obtain ⟨hs, q⟩ := h
 cases x with
 | non =>
  cases rx
  cases y with
  | non => cases ry; exact PySem.EqNone.ne_none_none (bA I q Z2)
  | bl j => cases ry; exact PySem.EqNone.ne_none_bool (bA I q Z2)
  | int j => obtain ⟨t', rfl⟩ := ry; exact PySem.EqNone.ne_none_int (bA I q Z2)
  | str j => obtain ⟨t', rfl⟩ := ry; exact PySem.EqNone.ne_none_str (bA I q Z2)
  | _ => exact absurd (show false = true from hs) Bool.false_ne_true
 | bl i =>
  cases rx
  cases y with
  | non => cases ry; exact PySem.EqNone.ne_bool_none (bA I q Z2)
  | bl j => cases ry; exact ne_bool (bA I q (congrArg not GF))
  | str j => obtain ⟨t', rfl⟩ := ry; exact PySem.EqMixed.ne_bool_str (bA I q Z2)
  | _ => exact absurd (show false = true from hs) Bool.false_ne_true
 | int i =>
  obtain ⟨t, rfl⟩ := rx
  cases y with
  | non => cases ry; exact PySem.EqNone.ne_int_none (bA I q Z2)
  | int j => obtain ⟨t', rfl⟩ := ry; exact ne_int (bA I q (congrArg not lM))
  | str j => obtain ⟨t', rfl⟩ := ry; exact PySem.EqMixed.ne_int_str (bA I q Z2)
  | _ => exact absurd (show false = true from hs) Bool.false_ne_true
 | str i =>
  obtain ⟨t, rfl⟩ := rx
  cases y with
  | non => cases ry; exact PySem.EqNone.ne_str_none (bA I q Z2)
  | bl j => cases ry; exact PySem.EqMixed.ne_str_bool (bA I q Z2)
  | int j => obtain ⟨t', rfl⟩ := ry; exact PySem.EqMixed.ne_str_int (bA I q Z2)
  | str j => obtain ⟨t', rfl⟩ := ry; exact ne_str (bA I q (congrArg not kj))
  | _ => exact absurd (show false = true from hs) Bool.false_ne_true
 | byt i =>
  obtain ⟨t, rfl⟩ := rx
  cases y with
  | byt j => obtain ⟨t', rfl⟩ := ry; exact PySem.W.ne_bytes (bA I q (congrArg not Av))
  | _ => exact absurd (show false = true from hs) Bool.false_ne_true
 | _ => cases y <;> exact absurd (show false = true from hs) Bool.false_ne_true
theorem Ed : OpR X (compareOp .Lt) (rI0 fun i j => .bl (decide (i < j))) := Mq fun _ _ _ _ _ _ _ q => lt_int q
theorem Ov : OpR X (compareOp .LtE) (rI0 fun i j => .bl (decide (i <= j))) := Mq fun _ _ _ _ _ _ _ q => le_int q
theorem mF : OpR X (compareOp .Gt) (rI0 fun i j => .bl (decide (j < i))) := Mq fun _ _ _ _ _ _ _ q => gt_int q
theorem tU : OpR X (compareOp .In) (fun x y H Q => ∃ i j, x = .str i /\ y = .str j /\ Q (.bl (!(Builtin.Str.occurrences j i 0 j.length 1).isEmpty)) H) := by
 intro pins s σ H x y v u Q I rx ry h
 obtain ⟨i, j, rfl, rfl, q⟩ := h
 obtain ⟨t, rfl⟩ := rx
 obtain ⟨t', rfl⟩ := ry
 exact in_str (bA I q rfl)
theorem Mf : OpR X (compareOp .Is) (fun x y H Q => y = .non /\ Q (.bl (decide (x = .non))) H) := by
 intro pins s σ H x y v u Q I rx ry h
 obtain ⟨rfl, q⟩ := h
 cases ry
 refine is_none_gen (bA I q ?_)
 cases x <;> first
  | (cases rx; rfl)
  | (obtain ⟨t, rfl⟩ := rx; rfl)
theorem OpR.or {f : Value -> Value -> Sem Value} {r r' : R2} (h : OpR X f r) (h' : OpR X f r') : OpR X f (fun x y H Q => r x y H Q \/ r' x y H Q) := by
 intro pins s σ H x y v u Q I rx ry q
 rcases q with q | q
 ·exact h pins s σ H x y v u Q I rx ry q
 ·exact h' pins s σ H x y v u Q I rx ry q
theorem aP (b : Expr) {op : CmpOp} (h : op ≠ .In := by decide) (h2 : op ≠ .NotIn := by decide) : behindInMarks op b = false := by
 have e1 : (op == CmpOp.In) = false := by cases op <;> first | rfl | exact absurd rfl h
 have e2 : (op == CmpOp.NotIn) = false := by cases op <;> first | rfl | exact absurd rfl h2
 cases b <;> simp [behindInMarks, e1, e2]
theorem dw {op : CmpOp} {r : R2} (ho : OpR X (compareOp op) r) (ha : PE X a ta) (hb : PE X b tb) (hm : behindInMarks op b = false) : PE X (.Compare a [op] [b] pos) (tOp r ta tb) := by
 intro pins s σ H Q I h
 exact wpAny_Compare1 (Ni ha hb I h fun v u s2 x y H2 I2 rx ry q => ho pins s2 σ H2 x y v u Q I2 rx ry q) hm
def Nt (t : TE) : TT := fun σ H Q => t σ H fun x H' => ∃ k, x = .bl k /\ Q k H'
theorem aK {op : CmpOp} {r : R2} (ho : OpR X (compareOp op) r) (ha : PE X a ta) (hb : PE X b tb) (hm : behindInMarks op b = false) : PT X (.Compare a [op] [b] pos) (Nt (tOp r ta tb)) := by
 intro pins s σ H Q I h
 refine wpAny_isTrue_Compare1 (thn (ha pins s σ H _ I h) fun v s1 ⟨x, H1, I1, r1, q1⟩ => thn (hb pins s1 σ H1 _ I1 q1) fun u s2 ⟨y, H2, I2, r2, q2⟩ =>
  thn (ho pins s2 σ H2 x y v u _ I2 r1 r2 q2) fun c s3 ⟨z, H3, I3, r3, k, e, q3⟩ => ?_) hm
 subst e
 cases r3
 exact wpAny_truthy_bool ⟨H3, I3, q3⟩
theorem nC : (sizeLine : Nat) < 2 ^ 63 := by rw [sizeLine_eq]; decide
theorem gU : OpR X (binaryOp .Add) (fun x y H Q => ∃ i j, x = .str i /\ y = .str j /\ i.length + j.length <= sizeLine /\ Q (.str (i ++ j)) H) := by
 intro pins s σ H x y v u Q I rx ry h
 obtain ⟨i, j, rfl, rfl, hz, q⟩ := h
 obtain ⟨t, rfl⟩ := rx
 obtain ⟨t', rfl⟩ := ry
 exact add_str (fun t' tk => ⟨.str (i ++ j), H, I.tok _, ⟨_, rfl⟩, q⟩) hz
theorem vals1 {x : V} {us : List Value} (r : Vals [x] us) : ∃ u, us = [u] /\ RelV x u := by
 cases r with
 | cons r1 r2 => cases r2; exact ⟨_, rfl, r1⟩
theorem vals2 {x y : V} {us : List Value} (r : Vals [x, y] us) : ∃ u w', us = [u, w'] /\ RelV x u /\ RelV y w' := by
 cases r with
 | cons r1 r2 =>
  cases r2 with
  | cons r3 r4 => cases r4; exact ⟨_, _, rfl, r1, r3⟩
theorem Cu (hc : X.calm = true) : cX X (.builtin "max") (fun xs H Q => ∃ i j, xs = [.int i, .int j] /\ Q (.int (if j > i then j else i)) H) := by
 intro pins s σ H xs us Q I r h
 obtain ⟨i, j, rfl, q⟩ := h
 obtain ⟨u, w', rfl, ⟨t, rfl⟩, ⟨t', rfl⟩⟩ := vals2 r
 refine max_two_ints (I.ok.hd hc) fun h' tk k => ⟨_, H, I.kept k, ?_, q⟩
 by_cases hj : j > i
 ·rw [if_pos hj, if_pos hj]; exact ⟨_, rfl⟩
 ·rw [if_neg hj, if_neg hj]; exact ⟨_, rfl⟩
theorem Cr (hc : X.calm = true) : cX X (.builtin "min") (fun xs H Q => ∃ i j, xs = [.int i, .int j] /\ Q (.int (if j < i then j else i)) H) := by
 intro pins s σ H xs us Q I r h
 obtain ⟨i, j, rfl, q⟩ := h
 obtain ⟨u, w', rfl, ⟨t, rfl⟩, ⟨t', rfl⟩⟩ := vals2 r
 refine min_two_ints (I.ok.hd hc) fun h' tk k => ⟨_, H, I.kept k, ?_, q⟩
 by_cases hj : j < i
 ·rw [if_pos hj, if_pos hj]; exact ⟨_, rfl⟩
 ·rw [if_neg hj, if_neg hj]; exact ⟨_, rfl⟩
theorem vJ : cX X (.type "str") (fun xs H Q => ∃ i, xs = [.int i] /\ i.natAbs.log2 < 1920 /\ Q (.str (toString i)) H) := by
 intro pins s σ H xs us Q I r h
 obtain ⟨i, rfl, hz, q⟩ := h
 obtain ⟨u, rfl, t, rfl⟩ := vals1 r
 exact PySem.P.str_of_int hz ⟨.str _, H, I.tok _, ⟨_, rfl⟩, q⟩
end
structure zm (h : Heap) (x dx C : Addr) (mA : MG) : Prop where
 obj : h.get? x = some (instObj C dx)
 ns : h.Ns1 dx mA
 ne : dx ≠ x
theorem lN {h : Heap} {dx : Addr} {mA : MG} (n : h.Ns1 dx mA) : ∃ od, h.get? dx = some od /\ ∀ name, lookIn name od = some (mA name) := by
 obtain ⟨o, es, ep, ho, hd, hk, _, hm⟩ := n
 refine ⟨o, ho, fun name => ?_⟩
 have e := hm name
 unfold nsFind findBy at e
 rw [<- Array.find?_toList] at e
 unfold lookIn
 rw [hd]
 dsimp only
 split
 ·rename_i y q
  rw [q] at e
  exact congrArg some e
 ·rename_i q
  rw [q] at e
  have a : es.toList.any (·.refKey) = false := by
   rw [any_eq_false]
   intro y hy
   obtain ⟨z, t, hkey⟩ := hk y (Array.mem_toList_iff.mp hy)
   simp [DictEntry.refKey, hkey]
  have a' : ¬ es.toList.any (·.refKey) = true := by rw [a]; exact Bool.false_ne_true
  rw [if_neg a']
  exact congrArg some e
theorem zm.look {h : Heap} {x dx C : Addr} {mA : MG} (I : zm h x dx C mA) : ∃ od, PySem.W.InstAt h x (instObj C dx) C (some od) /\ ∀ name, lookIn name od = some (mA name) :=
 let ⟨od, ho, hl⟩ := lN I.ns
 ⟨od, ⟨I.obj, rfl, rfl, ho⟩, hl⟩
section
variable {prog : Program} {w : World} {A : Around} {E : EV} {s : Shared} {K : Frag} {x dx C f : Addr} {mA : MG} {name : Str} {v : Value}
theorem Hm {expr : Bool} {Q : EV} (X : K.In s.heap) (I : zm s.heap x dx C mA) (hg : plainGet K C name = true) (hh : hasDictIn K C = true)
  (ha : findIn K (.ref C) name = some none) (hv : mA name = some v) (hv' : handedIn v = true) (h : Q v { s with toks := s.toks + 1 }) :
  wpAny (model prog w) A (getAttr (.ref x) name expr) Q E s := by
 obtain ⟨od, J, hl⟩ := I.look
 exact PySem.W.get_value X J (plainGet_of hg).1 (PySem.W.findObj_own hh ha rfl (by rw [hl, hv])) hv' h
theorem DN {pl : Sem Bool} {Q : Value × List Value -> Shared -> Prop} (X : K.In s.heap) (I : zm s.heap x dx C mA) (hg : plainGet K C name = true)
  (hf : findIn K (.ref C) name = some (some (.ref f))) (ht : isFn K (.ref f) = true) (hv : mA name = none) (h : Q (.ref f, [.ref x]) s) :
  wpAny (model prog w) A (getMethod (.ref x) name pl) Q E s := by
 obtain ⟨od, J, hl⟩ := I.look
 exact PySem.W.method_fn X J (plainGet_of hg).1 (plainGet_of hg).2 hf (beq_iff_eq.mp ht) (by show (lookIn name od).map (·.isSome) = some false; rw [hl, hv]; rfl) h
theorem Ir {ns : List Str} {Q : Unit -> Shared -> Prop} (X : K.In s.heap) (I : zm s.heap x dx C mA)
  (hs : findIn K (.ref C) "__setattr__" = some (some (.builtin "object.__setattr__"))) (hp : plainOver K C = true) (ht : takerIn K C name = some none) (hh : hasDictIn K C = true)
  (hw : PySem.Within mA ns) (hsz : ns.length <= sizeLine)
  (h : ∀ h', zm h' x dx C (fun y => if y = name then some v else mA y) -> Heap.SameBut dx s.heap h' -> Q () { s with heap := h', toks := s.toks + 2 }) :
  wpAny (model prog w) A (setAttr (.ref x) name v) Q E s := by
 obtain ⟨od, J, hl⟩ := I.look
 refine PySem.W.set_plain X J hs (PySem.W.osa_open (s := { s with toks := s.toks + 1 }) (r := none) X J hp ht fun b => ?_)
 obtain ⟨cd, hc, hd'⟩ := PySem.W.any_some hh
 have hx : s.heap.get? x = some ⟨.ref C, some dx, .plain, #[]⟩ := I.obj
 refine wpAny_bind (wpAny_pure (wpAny_bind (wpAny_bind (wpAny_loadPart hx (wpAny_bind (PySem.W.Looks.here (s := { s with toks := s.toks + 1 }) (PySem.W.looks_clsIn X hc) ?_))))))
 rw [hd']
 refine wpAny_pure (a := some dx) (wpAny_bind (wpAny_pure (wpAny_bind ?_)))
 refine wpAny_nsSet1 (s := { s with toks := s.toks + 1 }) I.ns fun h' hn2 hs2 => ?_
 obtain ⟨oD, esD, epD, hoD, hdD, hcD⟩ := hn2.count (PySem.Within.cons name v hw)
 refine wpAny_bind (wpAny_lookBehind hoD (by rw [hdD]; exact pastItsLine_dict (le_trans hcD (by rw [length_cons]; omega))) ?_)
 exact wpAny_pure (h _ ⟨(hs2.2 _ (Ne.symm I.ne)).trans I.obj, hn2, I.ne⟩ hs2)
theorem El {R : Result -> Shared -> Prop} {vs : List Value} {kw : List (Str × Value)} (X : K.In s.heap) (hm : makesIn K C = true)
  (hi : findIn K (.ref C) "__init__" = some (some (.ref f))) (hf : typeIn K (.ref f) = some (.type "function"))
  (h : codeAny (model prog w) (A.under (.builtin "type.__call__" ⟨.ref C :: vs, kw⟩)) (.call (.ref f) ⟨.ref (s.heap.objs.size + 1) :: vs, kw⟩) (PySem.W.InitBack (s.heap.objs.size + 1) R)
   { s with heap := (s.heap.push emptyDict).push (instObj C s.heap.objs.size) }) :
  codeAny (model prog w) A (.call (.ref C) ⟨vs, kw⟩) R s := by
 obtain ⟨hh, g, d, t, os⟩ := s
 exact PySem.W.make_core (PySem.W.makes_of X hm) (PySem.W.looks_findIn X hi) (fun self => PySem.W.bind_fn X self hf) (.inl rfl) h
end
def jE (f : Str) (v : V) : List (Str × V) -> List (Str × V)
 | [] => [(f, v)]
 | (g, x) :: r => if g = f then (g, v) :: r else (g, x) :: jE f v r
theorem iC (f g : Str) (v : V) : ∀ fs : List (Str × V), (jE f v fs).lookup g = if g = f then some v else fs.lookup g
 | [] => by
  show List.lookup g [(f, v)] = _
  by_cases h : g = f
  ·have hb : (g == f) = true := beq_iff_eq.mpr h
   simp only [List.lookup, hb, if_pos h]
  ·have hb : (g == f) = false := beq_eq_false_iff_ne.mpr h
   simp only [List.lookup, hb, if_neg h]
 | (k, x) :: r => by
  have ih := iC f g v r
  rw [show jE f v ((k, x) :: r) = (if k = f then (k, v) :: r else (k, x) :: jE f v r) from rfl]
  by_cases hk : k = f
  ·rw [if_pos hk]
   by_cases h : g = k
   ·have hb : (g == k) = true := beq_iff_eq.mpr h
    simp only [List.lookup, hb, if_pos (h.trans hk)]
   ·have hb : (g == k) = false := beq_eq_false_iff_ne.mpr h
    simp only [List.lookup, hb, if_neg (fun e : g = f => h (e.trans hk.symm))]
  ·rw [if_neg hk]
   by_cases h : g = k
   ·have hb : (g == k) = true := beq_iff_eq.mpr h
    simp only [List.lookup, hb, if_neg (fun e : g = f => hk (h.symm.trans e))]
   ·have hb : (g == k) = false := beq_eq_false_iff_ne.mpr h
    simp only [List.lookup, hb]
    exact ih
theorem o5 (f : Str) (v : V) : ∀ fs : List (Str × V), f ∈ (jE f v fs).map (·.1) /\ ∀ g, g ∈ fs.map (·.1) -> g ∈ (jE f v fs).map (·.1)
 | [] => ⟨by simp [jE], fun g h => by simp at h⟩
 | (k, x) :: r => by
  obtain ⟨i1, i2⟩ := o5 f v r
  rw [show jE f v ((k, x) :: r) = (if k = f then (k, v) :: r else (k, x) :: jE f v r) from rfl]
  by_cases hk : k = f
  ·rw [if_pos hk]
   subst hk
   exact ⟨Z2, fun g h => by simpa using h⟩
  ·rw [if_neg hk]
   refine ⟨?_, fun g h => ?_⟩
   ·rw [map_cons]
    exact mem_cons_of_mem _ i1
   ·rw [map_cons] at h ⊢
    rcases mem_cons.mp h with e | e
    ·exact mem_cons.mpr (.inl e)
    ·exact mem_cons_of_mem _ (i2 g e)
theorem lE (f : Str) (v : V) : ∀ fs : List (Str × V), (jE f v fs).length <= fs.length + 1
 | [] => by simp [jE]
 | (k, x) :: r => by
  have ih := lE f v r
  rw [show jE f v ((k, x) :: r) = (if k = f then (k, v) :: r else (k, x) :: jE f v r) from rfl]
  by_cases hk : k = f
  ·rw [if_pos hk, length_cons, length_cons]; omega
  ·rw [if_neg hk, length_cons, length_cons]; omega
theorem jh.some_of {v : V} {o : Option Value} (r : jh (some v) o) : ∃ u, o = some u /\ RelV v u := by
 cases o with
 | none => exact (show False from r).elim
 | some u => exact ⟨u, rfl, r⟩
theorem jh.none_of {o : Option Value} (r : jh none o) : o = none := by
 cases o with
 | none => rfl
 | some u => exact (show False from r).elim
theorem tM {v : V} {u : Value} (r : RelV v u) : handedIn u = true := by
 cases v with
 | non => cases (show u = Value.none from r); rfl
 | bl b => cases (show u = Value.bool b from r); rfl
 | int i => obtain ⟨t, e⟩ := (show ∃ t, u = Value.int i t from r); cases e; rfl
 | str x => obtain ⟨t, e⟩ := (show ∃ t, u = Value.str x t from r); cases e; rfl
 | byt b => obtain ⟨t, e⟩ := (show ∃ t, u = Value.bytes b t from r); cases e; rfl
 | flt b => obtain ⟨t, e⟩ := (show ∃ t, u = Value.float b t from r); cases e; rfl
 | ref a => cases (show u = Value.ref a from r); rfl
 | stk x t => cases (show u = Value.str x t from r); rfl
 | ty n => cases (show u = Value.type n from r); rfl
section
variable {P : Program} {w : World} {H H' : Hp} {h h' : Heap} {a C dx : Addr} {fs fs' : List (Str × V)}
theorem qC (hok : HOk P w H h) (e : H a = some (.ins C dx fs)) : ∃ mA, zm h a dx C mA /\ (∀ f, jh (fs.lookup f) (mA f)) /\ PySem.Within mA (fs.map (·.1)) /\ fs.length <= 1000 /\ H dx = some (.own a) := by
 obtain ⟨d, z, ne, ob, mA, n, r, q⟩ := (show cu P w H h a (.ins C dx fs) from hok a _ e)
 exact ⟨mA, ⟨ob, n, ne⟩, r, q, z, d⟩
end
structure Cls (K : Frag) (C : Addr) : Prop where
 pg : plainGet K C Str.empty = true
 hd : hasDictIn K C = true
 po : plainOver K C = true
 sa : findIn K (.ref C) "__setattr__" = some (some (.builtin "object.__setattr__"))
theorem Cls.get {K : Frag} {C : Addr} (c : Cls K C) (f : Str) : plainGet K C f = true := c.pg
def b8 (K : Frag) (C : Addr) (f : Str) : Prop := findIn K (.ref C) f = some none
theorem b8.taker {K : Frag} {C : Addr} {f : Str} (n : b8 K C f) : takerIn K C f = some none := by
 unfold takerIn
 rw [show findIn K (.ref C) f = some none from n]
 rfl
structure Meth (K : Frag) (C : Addr) (m : Str) (f : Addr) : Prop where
 at_ : findIn K (.ref C) m = some (some (.ref f))
 fn : isFn K (.ref f) = true
 kp : keepIn K (.ref f) = true
section
variable {X : Cx} {pins : OP} {σ : St} {H : Hp} {s : Shared} {a C dx : Addr} {fs : List (Str × V)} {f : Str} {v : V} {A : Around} {E : EV}
theorem yH {b : Bool} {Q : EV} (I : Inv X pins σ H s) (e : H a = some (.ins C dx fs)) (c : Cls X.K C) (n : b8 X.K C f) (l : fs.lookup f = some v)
  (h : ∀ u s', Inv X pins σ H s' -> RelV v u -> Q u s') : wpAny (model X.prog X.w) A (getAttr (.ref a) f b) Q E s := by
 obtain ⟨mA, O, r, _, _, _⟩ := qC I.hok e
 obtain ⟨u, hu, ru⟩ := jh.some_of (v := v) (o := mA f) (by rw [<- l]; exact r f)
 exact Hm I.kIn O (c.get f) c.hd n hu (tM ru) (h u _ (I.tok _) ru)
theorem sE {m : Str} {g : Addr} {pl : Sem Bool} {Q : Value × List Value -> Shared -> Prop} (I : Inv X pins σ H s) (e : H a = some (.ins C dx fs)) (c : Cls X.K C) (k : Meth X.K C m g) (l : fs.lookup m = none)
  (h : Q (.ref g, [.ref a]) s) : wpAny (model X.prog X.w) A (getMethod (.ref a) m pl) Q E s := by
 obtain ⟨mA, O, r, _, _, _⟩ := qC I.hok e
 have hn : mA m = none := jh.none_of (by rw [<- l]; exact r m)
 exact DN I.kIn O (c.get m) k.at_ k.fn hn h
theorem zb {y : V} {u : Value} {Q : Unit -> Shared -> Prop} (I : Inv X pins σ H s) (e : H a = some (.ins C dx fs)) (c : Cls X.K C) (n : b8 X.K C f) (hl : fs.length < 1000) (ry : RelV y u)
  (h : ∀ s', Inv X pins σ (upd H a (.ins C dx (jE f y fs))) s' -> Q () s') : wpAny (model X.prog X.w) A (setAttr (.ref a) f u) Q E s := by
 obtain ⟨mA, O, r, wi, _, ho⟩ := qC I.hok e
 have hz : (fs.map (·.1)).length <= sizeLine := by rw [length_map, sizeLine_eq]; omega
 refine Ir I.kIn O c.sa c.po n.taker c.hd wi hz fun h' O' sb => h _ ?_
 have hd : ∃ o, h'.get? dx = some o := let ⟨o, _, _, e', _⟩ := O'.ns; ⟨o, e'⟩
 refine I.write (x := a) (e := dx) (by rw [e]; exact True.intro) (.inr ho) (fun b q hb z => (sb.2 b hb).trans z) hd ?_
 refine ⟨by rw [aD O.ne]; exact ho, ?_, O.ne, O'.obj, _, O'.ns, fun g => ?_, fun g hg => ?_⟩
 ·have := lE f y fs; omega
 ·show jh ((jE f y fs).lookup g) (if g = f then some u else mA g)
  rw [iC]
  by_cases q : g = f
  ·rw [if_pos q, if_pos q]; exact ry
  ·rw [if_neg q, if_neg q]; exact r g
 ·by_cases q : g = f
  ·rw [q]; exact (o5 f y fs).1
  ·refine (o5 f y fs).2 g (wi g fun z => hg ?_)
   show (if g = f then some u else mA g) = none
   rw [if_neg q]; exact z
theorem Inv.made (I : Inv X pins σ H s) : Inv X pins σ (upd (upd H s.heap.objs.size (.own (s.heap.objs.size + 1))) (s.heap.objs.size + 1) (.ins C s.heap.objs.size []))
  { s with heap := (s.heap.push emptyDict).push (instObj C s.heap.objs.size) } := by
 have e1 : (s.heap.push emptyDict).get? s.heap.objs.size = some emptyDict := Heap.get?_push_size s.heap rfl
 have e2 : ((s.heap.push emptyDict).push (instObj C s.heap.objs.size)).get? (s.heap.objs.size + 1) = some (instObj C s.heap.objs.size) := by
  have := Heap.get?_push_size (s.heap.push emptyDict) (o := instObj C s.heap.objs.size) rfl
  rwa [Heap.size_push] at this
 have e3 : (s.heap.push emptyDict).Ns s.heap.objs.size (fun _ => none) := ⟨emptyDict, #[], _, e1, rfl, (fun e he => absurd he Z2), fun _ => rfl⟩
 have I1 := I.laid (a := s.heap.objs.size) (o := .own (s.heap.objs.size + 1)) (h' := s.heap.push emptyDict) (t' := s.toks) (fun b u q => Heap.get?_push_of_some _ q) (le_refl _) ⟨_, e1⟩
 refine I1.laid (a := s.heap.objs.size + 1) (o := .ins C s.heap.objs.size []) (t' := s.toks) (fun b u q => Heap.get?_push_of_some _ q) (le_of_eq (Heap.size_push _ _)) ?_
 have ne : s.heap.objs.size ≠ s.heap.objs.size + 1 := ne_of_lt (lt_succ_self _)
 refine ⟨by rw [aD ne, ak], zero_le _, ne, e2, fun _ => none, (Heap.Ns1.of_empty e3).at fun o q => Heap.get?_push_of_some _ q, fun _ => True.intro, fun y hy => absurd rfl hy⟩
theorem Aw {prog : Program} {w : World} {env : Env} {e : Expr} {f : Str} {pos : Pos} {s : Shared} {Q : EV} (hb : attributeBase e f env (eval e env) = eval e env)
  (h : wpAny (model prog w) A (eval e env) (fun o s₁ => wpAny (model prog w) A (getAttr o f true) Q E s₁) E s) : wpAny (model prog w) A (eval (.Attribute e f pos) env) Q E s :=
 Attribute_any_ h (by rw [arm_eval_Attribute, hb])
end
def Rx (K : Frag) (ta : TE) (f : Str) : TE := fun σ H Q => ta σ H fun x H1 => ∃ a C dx fs v, x = .ref a /\ H1 a = some (.ins C dx fs) /\ Cls K C /\ b8 K C f /\ fs.lookup f = some v /\ Q v H1
def Og (K : Frag) (ta tv : TE) (f : Str) : TS := fun D σ H => tv σ H fun y H1 => ta σ H1 fun x H2 => ∃ a C dx fs, x = .ref a /\ H2 a = some (.ins C dx fs) /\ Cls K C /\ b8 K C f /\ fs.length < 1000 /\
 D.nx σ (upd H2 a (.ins C dx (jE f y fs)))
section
variable {X : Cx} {o e value : Expr} {f : Str} {pos pos' tpos : Pos} {ta tv : TE}
theorem pF (he : PE X e ta) (hb : attributeBase e f X.env (eval e X.env) = eval e X.env) : PE X (.Attribute e f pos) (Rx X.K ta f) := by
 intro pins s σ H Q I h
 refine Aw hb (thn (he pins s σ H _ I h) fun u s1 hz => ?_)
 obtain ⟨x, H1, I1, rx, a, C, dx, fs, v, ex, ea, c, n, l, q⟩ := hz
 subst ex
 obtain rfl : u = Value.ref a := rx
 exact yH I1 ea c n l fun u' s2 I2 ru => ⟨v, H1, I2, ru, q⟩
theorem K9 (ha : PE X o ta) (hv : PE X value tv) (hs : swapsWith value (some (.Attribute o f pos')) pos.line X.env = pure false) : PS X (.Assign [.Attribute o f pos'] value pos) (Og X.K ta tv f) := by
 intro pins s σ H D I h
 refine plainObj_wpAny_Assign_Attribute (thn (hv pins s σ H _ I h) fun u s1 ⟨y, H1, I1, ry, q⟩ => thn (ha pins s1 σ H1 _ I1 q) fun ov s2 hz => ?_) hs
 obtain ⟨x, H2, I2, rx, a, C, dx, fs, ex, ea, c, n, l, q2⟩ := hz
 subst ex
 obtain rfl : ov = Value.ref a := rx
 exact zb I2 ea c n l ry fun s3 I3 => ⟨σ, _, I3, q2⟩
end
section
variable {X : Cx} {pins : OP} {σ : St} {H : Hp} {s : Shared} {A : Around} {E : EV} {Q : EV} {c : Value} {b : Bool}
inductive nJ (K : Frag) (H : Hp) : V -> Value -> Prop where
 | non : nJ K H .non (.type "NoneType")
 | bl (x : Bool) : nJ K H (.bl x) (.type "bool")
 | int (i : Int) : nJ K H (.int i) (.type "int")
 | str (x : Str) : nJ K H (.str x) (.type "str")
 | flt (x : UInt64) : nJ K H (.flt x) (.type "float")
 | lst {a : Addr} {xs : List V} (e : H a = some (.lst xs)) : nJ K H (.ref a) (.type "list")
 | frz {a : Addr} {o : Obj} {xs : List V} (e : H a = some (.frz o (.lst xs))) : nJ K H (.ref a) (.type "list")
 | tup {a : Addr} {xs : List V} (e : H a = some (.tup xs)) : nJ K H (.ref a) (.type "tuple")
 | dK {a : Addr} {kvs : List (Key × V)} (e : H a = some (.dK kvs)) : nJ K H (.ref a) (.type "dict")
 | dT {a : Addr} {kvs : List (List Key × V)} (e : H a = some (.dT kvs)) : nJ K H (.ref a) (.type "dict")
 | ins {a C dx : Addr} {fs : List (Str × V)} (e : H a = some (.ins C dx fs)) (cl : Cls K C) (ha : findIn K (.ref C) "__class__" = some (some (.builtin "object.__class__")))
   (hn : specialIn K (.builtin "object.__class__") "__get__" = some (some (.builtin "getset_descriptor.__get__"))) (htk : takesIn K (.builtin "object.__class__") = some true)
   (hm : mroIn K C (.type "object") = some true) : nJ K H (.ref a) (.ref C)
theorem CJ {x : V} {u t : Value} (I : Inv X pins σ H s) (rx : RelV x u) (ty : nJ X.K H x t) (e : kitOne X.K t c = some b) (h : ∀ tk, Q (.bool b) { s with toks := tk }) :
  wpAny (model X.prog X.w) A (call (.builtin "isinstance") [u, c]) Q E s := by
 cases ty with
 | non => cases (show u = Value.none from rx); exact kia_one PySem.W.kitx_none I.kIn True.intro e (fun z => nomatch z) h
 | bl y => cases (show u = Value.bool y from rx); exact kia_one PySem.W.kitx_bool I.kIn True.intro e (fun z => nomatch z) h
 | int i => obtain ⟨t, q⟩ := (show ∃ t, u = Value.int i t from rx); cases q; exact kia_one PySem.W.kitx_int I.kIn True.intro e (fun z => nomatch z) h
 | str y => obtain ⟨t, q⟩ := (show ∃ t, u = Value.str y t from rx); cases q; exact kia_one PySem.W.kitx_str I.kIn True.intro e (fun z => nomatch z) h
 | flt y => obtain ⟨t, q⟩ := (show ∃ t, u = Value.float y t from rx); cases q; exact kia_one PySem.W.kitx_float I.kIn True.intro e (fun z => nomatch z) h
 | @lst a xs ea =>
  cases (show u = Value.ref a from rx)
  obtain ⟨_, _, n, _, h1⟩ := (show cu X.prog X.w H s.heap a (.lst xs) from I.hok a _ ea)
  exact kia_one kitx_list I.kIn ⟨_, h1, rfl⟩ e (fun z => nomatch z) h
 | @frz a ob xs ea =>
  cases (show u = Value.ref a from rx)
  obtain ⟨_, _, _, n, _, h1⟩ := (show cu X.prog X.w H s.heap a (.frz ob (.lst xs)) from I.hok a _ ea)
  exact kia_one kitx_list I.kIn ⟨_, h1, rfl⟩ e (fun z => nomatch z) h
 | @tup a xs ea =>
  cases (show u = Value.ref a from rx)
  obtain ⟨_, _, _, p⟩ := (show cu X.prog X.w H s.heap a (.tup xs) from I.hok a _ ea)
  obtain ⟨o, h1, h2, _⟩ := p
  exact kia_one PySem.W.kitx_tuple I.kIn ⟨o, h1, h2⟩ e (fun z => nomatch z) h
 | @dK a kvs ea =>
  cases (show u = Value.ref a from rx)
  obtain ⟨_, _, vs, _, p⟩ := (show cu X.prog X.w H s.heap a (.dK kvs) from I.hok a _ ea)
  obtain ⟨o, es, ep, h1, h2, _⟩ := p
  exact kia_one kitx_dict I.kIn ⟨o, h1, h2.1⟩ e (fun z => nomatch z) h
 | @dT a kvs ea =>
  cases (show u = Value.ref a from rx)
  obtain ⟨_, _, xs, _, o, es, ep, h1, h2, _⟩ := (show cu X.prog X.w H s.heap a (.dT kvs) from I.hok a _ ea)
  exact kia_one kitx_dict I.kIn ⟨o, h1, h2.1⟩ e (fun z => nomatch z) h
 | @ins a C dx fs ea cl ha hn htk hm =>
  cases (show u = Value.ref a from rx)
  obtain ⟨mA, O, _⟩ := qC I.hok ea
  obtain ⟨od, J, _⟩ := O.look
  exact kia_one (PySem.W.kitx_own (cl.get _) cl.hd ha hn htk hm) I.kIn J e (fun z => nomatch z) h
end
structure aX (k : Nat) (A : Around) : Prop where
 hd : A.handled = none
 dp : A.depth + 3 * k + 5 < recursionLimit
 un : A.units + 16 * k + 200 < cLine
theorem aX.mono {j k : Nat} {A : Around} (r : aX k A) (h : j <= k) : aX j A := ⟨r.hd, by have := r.dp; omega, by have := r.un; omega⟩
theorem aX.deeper {k : Nat} {A : Around} (r : aX (k + 1) A) (env : Env) : aX k (A.deeper env) :=
 ⟨r.hd, by have := r.dp; show A.depth + 1 + 3 * k + 5 < _; omega, by have := r.un; show A.units + 3 + 16 * k + 200 < _; omega⟩
theorem aX.in1 {k : Nat} {A : Around} (r : aX (k + 1) A) : aX k A.in1 :=
 ⟨r.hd, by have := r.dp; show A.depth + 3 * k + 5 < _; omega, by have := r.un; show A.units + 1 + 16 * k + 200 < _; omega⟩
theorem zT {A : Around} {C : Addr} {us : List Value} {kw : List (Str × Value)} : (A.under (.builtin "type.__call__" ⟨.ref C :: us, kw⟩)).depth = A.depth + 1 := by
 first | rfl | simp [Around.under, Code.weight, Code.isCreation, Code.isGuard, Code.isCaller, Code.frames, Code.isFrame, guardIds]
theorem yX {A : Around} {C : Addr} {us : List Value} {kw : List (Str × Value)} : (A.under (.builtin "type.__call__" ⟨.ref C :: us, kw⟩)).units = A.units + 1 := by
 first | rfl | simp [Around.under, Code.cUnits, Code.frames, Code.isFrame]
theorem aX.make {k : Nat} {A : Around} (r : aX (k + 1) A) (C : Addr) (us : List Value) (kw : List (Str × Value)) : aX k (A.under (.builtin "type.__call__" ⟨.ref C :: us, kw⟩)) :=
 ⟨r.hd, by have := r.dp; rw [zT]; omega, by have := r.un; rw [yX]; omega⟩
theorem aX.depth {k : Nat} {A : Around} (r : aX k A) : A.depth < recursionLimit := by have := r.dp; omega
theorem aX.units {k : Nat} {A : Around} (r : aX k A) : A.units + 64 < cLine := by have := r.un; omega
def Hw : TA := fun _ H Q => Q [] H
def Et (ta : TE) (tr : TA) : TA := fun σ H Q => ta σ H fun x H1 => tr σ H1 fun xs H2 => Q (x :: xs) H2
section
variable {X : Cx} {e : Expr} {es : List Expr} {te : TE} {t : TA} {pos : Pos}
theorem ao : PA X [] Hw := fun _ _ _ _ H Q I h => Calls.spliced_nil ⟨[], H, I, .nil, h⟩
theorem aj (ha : PE X e te) (hr : PA X es t) (hs : starEach (e :: es) X.env = (false, eval e X.env) :: starEach es X.env := by rfl) : PA X (e :: es) (Et te t) := by
 intro pos pins s σ H Q I h
 rw [hs]
 show wpAny _ _ (spliced ((false, eval e X.env) :: backTo pos (starEach es X.env))) _ _ s
 refine Calls.spliced_cons (thn (ha pins s σ H _ I h) fun u s1 ⟨x, H1, I1, r1, q1⟩ => ?_)
 exact thn (hr pos pins s1 σ H1 _ I1 q1) fun us s2 ⟨xs, H2, I2, r2, q2⟩ => ⟨x :: xs, H2, I2, .cons r1 r2, q2⟩
def Q3 (t : TA) : TE := fun σ H Q => t σ H fun xs H1 => xs.length <= sizeLine /\ ∀ p, H1 p = none -> Q (.ref p) (upd H1 p (.tup xs))
def Ot (t : TA) : TE := fun σ H Q => t σ H fun xs H1 => xs.length <= sizeLine /\ ∀ p, H1 p = none -> Q (.ref p) (upd H1 p (.lst xs))
theorem cD {x1} (h : PA X es t) : PE X (.Tuple es x1 pos) (Q3 t) := by
 intro pins s σ H Q I hq
 refine wpAny_Tuple_spliced (thn (h pos pins s σ H _ I hq) fun us s1 ⟨xs, H1, I1, r, z, q⟩ => ⟨by rw [<- r.length]; exact z, ?_⟩)
 have hf : H1 s1.heap.objs.size = none := I1.hok.fresh (le_refl _)
 refine ⟨.ref s1.heap.objs.size, upd H1 s1.heap.objs.size (.tup xs), I1.laid (t' := s1.toks) (fun b u e => Heap.get?_push_of_some _ e) (le_refl _) ?_, rfl, q _ hf⟩
 exact ⟨z, us, r, ⟨_, Heap.get?_push_size _ rfl, rfl, _, rfl⟩⟩
theorem cZ (h : PA X es t) : PE X (.List es pos) (Ot t) := by
 intro pins s σ H Q I hq
 refine wpAny_List_spliced (thn (h pos pins s σ H _ I hq) fun us s1 ⟨xs, H1, I1, r, z, q⟩ => ⟨by rw [<- r.length]; exact z, ?_⟩)
 have hf : H1 s1.heap.objs.size = none := I1.hok.fresh (le_refl _)
 refine ⟨.ref s1.heap.objs.size, upd H1 s1.heap.objs.size (.lst xs), I1.laid (t' := s1.toks) (fun b u e => Heap.get?_push_of_some _ e) (le_refl _) ?_, rfl, q _ hf⟩
 exact ⟨z, us, 0, r, Heap.get?_push_size _ rfl⟩
end
abbrev Sp := List V -> Hp -> VK -> XK -> Prop
abbrev CXT := List Env -> Hp -> Shared -> XK -> Value -> Shared -> Prop
structure pA (P : Program) (w : World) (K : Frag) (mg : MG) (base : Heap) (A : Around) (outer : List Env) (s : Shared) (H : Hp) : Prop where
 frames : A.frames = some outer
 mod : Mod K mg base
 bs : ∀ b o, base.get? b = some o -> s.heap.get? b = some o /\ H b = none
 bsz : base.objs.size <= s.heap.objs.size
 funs : s.heap.FunFrames base outer
 frf : ∀ b ∈ frs outer, H b = none
 hok : HOk P w H s.heap
 bare : AllBare s.gens
def CE (outer : List Env) (P : Program) (w : World) (H : Hp) (s : Shared) (Q : VK) (u : Value) (s' : Shared) : Prop :=
 ∃ v H', s'.os = s.os /\ AllBare s'.gens /\ Un (frs outer) [] H H' s.heap s'.heap /\ HOk P w H' s'.heap /\ RelV v u /\ Q v H'
def CR (CX : CXT) (outer : List Env) (P : Program) (w : World) (H : Hp) (s : Shared) (Q : VK) (E : XK) (r : Result) (s' : Shared) : Prop :=
 match r with
 | .ok (.ret u) => CE outer P w H s Q u s'
 | .ok _ => False
 | .error e => CX outer H s E e s'
structure aJ (P : Program) (w : World) (K : Frag) (mg : MG) (base : Heap) (CX : CXT) (k : Nat) (f : Addr) (fd : FuncData) (ps : List Str) (sp : Sp) : Prop where
 len : ∀ vs H Q E, sp vs H Q E -> vs.length = ps.length
 run : ∀ (A : Around) (outer : List Env) (s : Shared) (H : Hp) (args : Args) (us : List Value) (vs : List V) (Q : VK) (E : XK), aX k A -> pA P w K mg base A outer s H -> BindsTo s fd args (ps.zip us) -> Vals vs us -> sp vs H Q E ->
  codeAny (model P w) A (.call (.ref f) args) (CR CX outer P w H s Q E) s
theorem aJ.mono {P : Program} {w : World} {K : Frag} {mg : MG} {base : Heap} {CX : CXT} {j k : Nat} {f : Addr} {fd : FuncData} {ps : List Str} {sp : Sp} (F : aJ P w K mg base CX j f fd ps sp) (h : j <= k) :
  aJ P w K mg base CX k f fd ps sp := ⟨F.len, fun A outer s H args us vs Q E hr => F.run A outer s H args us vs Q E (hr.mono h)⟩
theorem aJ.imp {P : Program} {w : World} {K : Frag} {mg : MG} {base : Heap} {CX : CXT} {k : Nat} {f : Addr} {fd : FuncData} {ps : List Str} {sp sp' : Sp} (F : aJ P w K mg base CX k f fd ps sp)
  (h : ∀ vs H Q E, sp' vs H Q E -> sp vs H Q E) : aJ P w K mg base CX k f fd ps sp' :=
 ⟨fun vs H Q E q => F.len vs H Q E (h _ _ _ _ q), fun A outer s H args us vs Q E hr he hb hv hs => F.run A outer s H args us vs Q E hr he hb hv (h _ _ _ _ hs)⟩
theorem pA.make {P : Program} {w : World} {K : Frag} {mg : MG} {base : Heap} {A : Around} {outer : List Env} {s : Shared} {H : Hp} (e : pA P w K mg base A outer s H) (C : Addr) (us : List Value) (kw : List (Str × Value)) :
  pA P w K mg base (A.under (.builtin "type.__call__" ⟨.ref C :: us, kw⟩)) outer s H := ⟨by first | exact e.frames | (simpa [Around.under, Code.envs, Code.isFrame, pushEnvs] using e.frames), e.mod, e.bs, e.bsz, e.funs, e.frf, e.hok, e.bare⟩
theorem pA.in1 {P : Program} {w : World} {K : Frag} {mg : MG} {base : Heap} {A : Around} {outer : List Env} {s : Shared} {H : Hp} (e : pA P w K mg base A outer s H) :
  pA P w K mg base A.in1 outer s H := ⟨e.frames, e.mod, e.bs, e.bsz, e.funs, e.frf, e.hok, e.bare⟩
section
variable {X : Cx} {pins : OP} {σ : St} {H : Hp} {s s' : Shared}
theorem Inv.env0 (I : Inv X pins σ H s) : pA X.prog X.w X.K X.mg X.base X.A X.stack s H :=
 ⟨I.ok.frames, I.ok.mod, I.bs, le_trans I.ok.bsz I.sz, I.stack, I.stkFree, I.hok, I.bare⟩
theorem Inv.after {Q : VK} {u : Value} (I : Inv X pins σ H s) (h : CE X.stack X.prog X.w H s Q u s') : EP X pins σ Q u s' := by
 obtain ⟨v, H', os, bare, un, hok, r, q⟩ := h
 obtain ⟨hh, g, d, t, os'⟩ := s'
 obtain rfl : os' = s.os := os
 exact ⟨v, H', I.call (h' := hh) (g' := g) (d' := d) (t' := t) (ch := []) un hok bare (fun b z => absurd z Z2), r, q⟩
end
def Gr (sp : Sp) (dvs : List V) (E : XK) (t : TA) : TE := fun σ H Q => t σ H fun vs H1 => sp (vs ++ dvs) H1 Q E
def Oe (C : Addr) (m : Str) (sp : Sp) (dvs : List V) (E : XK) (ta : TE) (t : TA) : TE := fun σ H Q => ta σ H fun x H1 => ∃ a dx fs, x = .ref a /\ H1 a = some (.ins C dx fs) /\ fs.lookup m = none /\
 t σ H1 fun vs H2 => sp (x :: (vs ++ dvs)) H2 Q E
def Km (C : Addr) (sp : Sp) (dvs : List V) (E : XK) (t : TA) : TE := fun σ H Q => t σ H fun vs H1 => ∀ x dx, H1 x = none -> H1 dx = none -> dx ≠ x ->
 sp (.ref x :: (vs ++ dvs)) (upd (upd H1 dx (.own x)) x (.ins C dx [])) (fun v H2 => v = .non /\ Q (.ref x) H2) E
def Binds (K : Frag) (fd : FuncData) (ps : List Str) (ds : List Value) : Prop :=
 ∀ (s : Shared) (us : List Value), K.In s.heap -> (us ++ ds).length = ps.length -> BindsTo s fd ⟨us, []⟩ (ps.zip (us ++ ds))
theorem Binds.all {K : Frag} {fd : FuncData} {ps : List Str} (h : ∀ us : List Value, us.length = ps.length -> bindArgs fd ⟨us, []⟩ = pure (ps.zip us)) : Binds K fd ps [] := fun s us _ hl => by
 rw [append_nil] at hl ⊢
 exact .of_eq (h us hl)
def kh (CX : CXT) (X : Cx) (E : XK) : Prop := ∀ (pins : OP) (σ : St) (H : Hp) (s : Shared) (e : Value) (s' : Shared), Inv X pins σ H s -> CX X.stack H s E e s' -> X.xe e s'
section
variable {X : Cx} {CX : CXT} {k : Nat} {f C : Addr} {fd : FuncData} {ps : List Str} {sp : Sp} {dvs : List V} {ds : List Value} {E : XK} {x m : Str} {p pos apos : Pos} {e o : Expr} {es : List Expr} {ta : TE} {t : TA}
theorem yU {pins : OP} {σ : St} {H : Hp} {s : Shared} {Q : VK} {us : List Value} {vs : List V} (F : aJ X.prog X.w X.K X.mg X.base CX k f fd ps sp) (hr : aX k X.A) (hb : Binds X.K fd ps ds) (hd : Vals dvs ds) (hx : kh CX X E)
  (I : Inv X pins σ H s) (r : Vals vs us) (h : sp (vs ++ dvs) H Q E) : wpAny (model X.prog X.w) X.A (call (.ref f) us) (EP X pins σ Q) X.xe s := by
 have r2 : Vals (vs ++ dvs) (us ++ ds) := r.append hd
 have hl : (us ++ ds).length = ps.length := by rw [<- r2.length]; exact F.len _ _ _ _ h
 refine wpAny_call (codeAny_mono (F.run X.A X.stack s H ⟨us, []⟩ (us ++ ds) (vs ++ dvs) Q E hr I.env0 (hb s us I.kIn hl) r2 h) fun r s' hq => ?_)
 cases r with
 | error e => exact hx pins σ H s e s' I hq
 | ok fl =>
  cases fl with
  | ret u => exact I.after hq
  | next => exact False.elim hq
  | brk => exact False.elim hq
  | cont => exact False.elim hq
theorem Iz (F : aJ X.prog X.w X.K X.mg X.base CX k f fd ps sp) (hr : aX k X.A) (hg : Gl X x) (hm : X.mg x = some (.ref f)) (hk : keepIn X.K (.ref f) = true) (hb : Binds X.K fd ps ds) (hd : Vals dvs ds) (hx : kh CX X E)
  (ha : PA X (e :: es) t) (hdb : (x == ("__debug__" : Str)) = false := by decide) (he : starEach (e :: es) X.env = (false, eval e X.env) :: starEach es X.env := by rfl) (hpl : (backTo pos (starEach es X.env)).any (·.1) = false := by rfl) :
  PE X (.Call (.Name x p) (e :: es) [] pos) (Gr sp dvs E t) := by
 intro pins s σ H Q I h
 refine wpAny_Call_Name_kw (dq I hg hm ?_ hdb)
 refine callWith_K (h₀ := X.base) I.ok.mod.kin hk (thn (ha pos pins s σ H _ I h) fun us s1 ⟨vs, H1, I1, r, q⟩ => ⟨I1.kIn, ?_⟩) he hpl
 exact yU F hr hb hd hx I1 r q
theorem DR {pl : Sem Bool} (he : PE X o ta) (c : Cls X.K C) (hm : Meth X.K C m f) (F : aJ X.prog X.w X.K X.mg X.base CX k f fd ps sp) (hr : aX k X.A) (hb : Binds X.K fd ps ds) (hd : Vals dvs ds) (hx : kh CX X E)
  (ht : eval (.Call (.Attribute o m apos) [] [] pos) X.env = (do
   let ov <- eval o X.env
   standAt apos.atName
   let (f, first) <- holding [ov] (getMethod ov m pl)
   callWith pos f first (backTo pos (starEach [] X.env)) (backToKw pos (keywordEach [] X.env))) := by rfl) :
  PE X (.Call (.Attribute o m apos) [] [] pos) (Oe C m sp dvs E ta Hw) := by
 intro pins s σ H Q I h
 refine methodCall_KW (pl := pl) (thn (he pins s σ H _ I h) fun u s1 ⟨x, H1, I1, rx, a, dx, fs, ex, ea, l, q⟩ => ?_) ht
 subst ex
 obtain rfl : u = Value.ref a := rx
 refine sE I1 ea c hm l ?_
 exact PySem.W.callWith_K0 (first := [.ref a]) I1.kIn hm.kp (yU (us := [.ref a]) (vs := [.ref a]) F hr hb hd hx I1 (.cons rfl .nil) q)
structure Mk (K : Frag) (C f : Addr) : Prop where
 makes : makesIn K C = true
 init : findIn K (.ref C) "__init__" = some (some (.ref f))
 fn : isFn K (.ref f) = true
 kp : keepIn K (.ref C) = true
theorem Ha {pins : OP} {σ : St} {H : Hp} {s : Shared} {Q : VK} {us : List Value} {vs : List V} (M : Mk X.K C f) (F : aJ X.prog X.w X.K X.mg X.base CX k f fd ps sp) (hr : aX (k + 1) X.A) (hb : Binds X.K fd ps ds) (hd : Vals dvs ds)
  (hx : kh CX X E) (I : Inv X pins σ H s) (r : Vals vs us)
  (h : ∀ x dx, H x = none -> H dx = none -> dx ≠ x -> sp (.ref x :: (vs ++ dvs)) (upd (upd H dx (.own x)) x (.ins C dx [])) (fun v H2 => v = .non /\ Q (.ref x) H2) E) :
  wpAny (model X.prog X.w) X.A (call (.ref C) us) (EP X pins σ Q) X.xe s := by
 have hq := h (s.heap.objs.size + 1) s.heap.objs.size (I.hok.fresh (le_succ _)) (I.hok.fresh (le_refl _)) (ne_of_lt (lt_succ_self _))
 have I2 := Inv.made (C := C) I
 have r2 : Vals (V.ref (s.heap.objs.size + 1) :: (vs ++ dvs)) (Value.ref (s.heap.objs.size + 1) :: (us ++ ds)) := .cons rfl (r.append hd)
 have hl : (Value.ref (s.heap.objs.size + 1) :: us ++ ds).length = ps.length := by
  have e := r2.length
  rw [F.len _ _ _ _ hq] at e
  exact e.symm
 refine wpAny_call (El (f := f) I.kIn M.makes M.init (beq_iff_eq.mp M.fn) (codeAny_mono (F.run _ X.stack _ _ ⟨Value.ref (s.heap.objs.size + 1) :: us, []⟩ (Value.ref (s.heap.objs.size + 1) :: (us ++ ds)) _ _ E (hr.make C us [])
  (I2.env0.make C us []) (hb _ (Value.ref (s.heap.objs.size + 1) :: us) I2.kIn hl) r2 hq) fun r s' hq' => ?_))
 cases r with
 | error e => exact hx pins σ _ _ e s' I2 hq'
 | ok fl =>
  cases fl with
  | ret u =>
   obtain ⟨v, H', I3, rv, ev, q3⟩ := I2.after hq'
   subst ev
   exact ⟨rv, ⟨V.ref (s.heap.objs.size + 1), H', I3, rfl, q3⟩⟩
  | next => exact False.elim hq'
  | brk => exact False.elim hq'
  | cont => exact False.elim hq'
theorem HF (M : Mk X.K C f) (F : aJ X.prog X.w X.K X.mg X.base CX k f fd ps sp) (hr : aX (k + 1) X.A) (hg : Gl X x) (hm : X.mg x = some (.ref C)) (hb : Binds X.K fd ps ds) (hd : Vals dvs ds) (hx : kh CX X E)
  (ha : PA X (e :: es) t) (hdb : (x == ("__debug__" : Str)) = false := by decide) (he : starEach (e :: es) X.env = (false, eval e X.env) :: starEach es X.env := by rfl) (hpl : (backTo pos (starEach es X.env)).any (·.1) = false := by rfl) :
  PE X (.Call (.Name x p) (e :: es) [] pos) (Km C sp dvs E t) := by
 intro pins s σ H Q I h
 refine wpAny_Call_Name_kw (dq I hg hm ?_ hdb)
 refine callWith_K (h₀ := X.base) I.ok.mod.kin M.kp (thn (ha pos pins s σ H _ I h) fun us s1 ⟨vs, H1, I1, r, q⟩ => ⟨I1.kIn, ?_⟩) he hpl
 exact Ha M F hr hb hd hx I1 r q
end
section
variable {X : Cx} {CX : CXT} {k : Nat} {f C : Addr} {fd : FuncData} {ps ks : List Str} {sp : Sp} {E : XK} {x m : Str} {p pos apos kpos : Pos} {e o : Expr} {es : List Expr} {kws : List Keyword} {te ta : TE} {t tk : TA} {nm : Option Str}
variable {g : List Value -> List Value -> List Value} {gV : List V -> List V -> List V}
end
structure aG (N P : List Str) (sc : Scope) : Prop where
 kind : sc.kind = .function
 co : sc.isCoroutine = false
 gen : sc.isGenerator = false
 nd : N.Nodup
 pre : N.take P.length = P
 par : ∀ x ∈ P, sc.names.lookup x = some .local \/ sc.names.lookup x = some .cell
 nofree : ∀ y ∈ sc.names, y.2 ≠ .free
theorem uv {kindOf : Str -> Option NameKind} {x : Str} : ∀ {binds : List (Str × Value)} {m : MG}, (∀ v, (x, v) ∉ binds) -> bindL kindOf binds m x = m x
 | [], _, _ => rfl
 | (n, v) :: r, m, h => by
  unfold bindL
  rw [uv fun w hw => h w (mem_cons_of_mem _ hw)]
  split
  ·have : x ≠ n := by rintro rfl; exact h v mem_cons_self
   simp [this]
  ·rfl
theorem uB {kindOf : Str -> Option NameKind} {x : Str} : ∀ {binds : List (Str × Value)} {m : MG}, (∀ v, (x, v) ∉ binds) -> bindC kindOf binds m x = m x
 | [], _, _ => rfl
 | (n, v) :: r, m, h => by
  unfold bindC
  rw [uB fun w hw => h w (mem_cons_of_mem _ hw)]
  split
  ·rfl
  ·have : x ≠ n := by rintro rfl; exact h v mem_cons_self
   simp [this]
theorem uh {kindOf : Str -> Option NameKind} {x : Str} {v : Value} : ∀ {P : List Str} {vs : List Value} {i : Nat} {m : MG}, P.Nodup -> P[i]? = some x -> vs[i]? = some v -> kindOf x = some .local ->
  bindL kindOf (P.zip vs) m x = some v
 | [], _, _, _, _, h, _, _ => by simp at h
 | _ :: _, [], _, _, _, _, h, _ => by simp at h
 | p :: P, w :: vs, 0, m, nd, h1, h2, hk => by
  simp at h1 h2; subst h1; subst h2
  show bindL kindOf ((p, w) :: P.zip vs) m p = _
  unfold bindL
  rw [uv fun v hv => (nodup_cons.mp nd).1 (of_mem_zip hv).1, if_pos hk]
  simp
 | p :: P, w :: vs, i + 1, m, nd, h1, h2, hk => by
  show bindL kindOf ((p, w) :: P.zip vs) m x = _
  unfold bindL
  exact uh (i := i) (nodup_cons.mp nd).2 (by simpa using h1) (by simpa using h2) hk
theorem um {kindOf : Str -> Option NameKind} {x : Str} {v : Value} : ∀ {P : List Str} {vs : List Value} {i : Nat} {m : MG}, P.Nodup -> P[i]? = some x -> vs[i]? = some v -> kindOf x ≠ some .local ->
  bindC kindOf (P.zip vs) m x = some v
 | [], _, _, _, _, h, _, _ => by simp at h
 | _ :: _, [], _, _, _, _, h, _ => by simp at h
 | p :: P, w :: vs, 0, m, nd, h1, h2, hk => by
  simp at h1 h2; subst h1; subst h2
  show bindC kindOf ((p, w) :: P.zip vs) m p = _
  unfold bindC
  rw [uB fun v hv => (nodup_cons.mp nd).1 (of_mem_zip hv).1, if_neg hk]
  simp
 | p :: P, w :: vs, i + 1, m, nd, h1, h2, hk => by
  show bindC kindOf ((p, w) :: P.zip vs) m x = _
  unfold bindC
  exact um (i := i) (nodup_cons.mp nd).2 (by simpa using h1) (by simpa using h2) hk
def start (N : List Str) (vs : List V) : St := vs.map some ++ List.replicate (N.length - vs.length) none
def jy (CX : CXT) (P : Program) (w : World) (K : Frag) (mg : MG) (base : Heap) (N : List Str) (qual : Str) (scope : Scope) (f : Addr) (cd : Value) (A : Around) (outer : List Env) (s : Shared) (H : Hp) (E : XK) : Cx where
 prog := P
 w := w
 K := K
 mg := mg
 base := base
 A := A.deeper (envOfC qual scope s.heap.objs.size f cd)
 N := N
 s₀ := s
 H₀ := H
 env := envOfC qual scope s.heap.objs.size f cd
 outer := outer
 stack := envOfC qual scope s.heap.objs.size f cd :: outer
 ex := []
 calm := true
 fn := fun _ => true
 pn := []
 xe := fun e s' => wpAny (model P w) (A.deeper (envOfC qual scope s.heap.objs.size f cd)) («leaving» (envOfC qual scope s.heap.objs.size f cd) e) (fun _ s'' => CX outer H s E e s'') (fun e' s'' => CX outer H s E e' s'') s'
theorem xG {sc : Scope} {n : Nat} {x : Str} (h : sc.names.lookup x = some .cell) : ∃ c, (cellsFrom n sc.names []).lookup x = some c := by
 have q := cellsFrom_some sc.names n [] (.inl h)
 exact Option.isSome_iff_exists.mp q
theorem pD {CX : CXT} {P : Program} {w : World} {K : Frag} {mg : MG} {base : Heap} {N ps : List Str} {qual : Str} {scope : Scope} {f : Addr} {cd : Value} {A : Around} {outer : List Env} {s s1 : Shared} {H : Hp} {E : XK} {us : List Value} {vs : List V}
  (S : aG N ps scope) (hd : A.handled = none) (e0 : pA P w K mg base A outer s H) (hl : vs.length = ps.length) (r : Vals vs us)
  (x : InCallC s s.heap.objs.size (bindL (envOfC qual scope s.heap.objs.size f cd).kindOf (ps.zip us) fun _ => none) (cellsFrom (s.heap.objs.size + 1) scope.names []) (bindC (envOfC qual scope s.heap.objs.size f cd).kindOf (ps.zip us) fun _ => none) s1) :
  Inv (jy CX P w K mg base N qual scope f cd A outer s H E) [] (start N vs) H s1 := by
 have hpl : ps.length <= N.length := by have := congrArg List.length S.pre; rw [length_take] at this; omega
 obtain ⟨h1, tk, rfl, hk⟩ := x.done
 have noA : ∀ b : Addr, b ∉ (jy CX P w K mg base N qual scope f cd A outer s H E).ex := fun b z => absurd (show b ∈ ([] : List Addr) from z) Z2
 refine ⟨⟨e0.mod, S.kind, rfl, rfl, le_refl _, fun y z c h1 h2 => ?_, fun y hy => ?_, fun y c _ h => ?_, fun _ => hd, Around.frames_deeper e0.frames, .inr ⟨rfl, rfl⟩, fun b z => absurd z (noA b), e0.bs, e0.bsz, fun b _ _ => noA b, fun b z => absurd z (noA b), e0.funs, e0.frf⟩,
  rfl, e0.bare, Un.kept hk, ⟨_, x.toInCall.ns, fun i y v h1 h2 h3 => ?_⟩, fun y c h => ⟨_, x.cell y c h⟩, e0.hok.fresh (le_refl _), fun y c h => ?_, fun p hp => absurd (show p ∈ ([] : OP) from hp) Z2, e0.hok.kept hk, ?_⟩
 ·exact name_of_addr x.apart (PySem.mem_of_lookup h1) (PySem.mem_of_lookup h2)
 ·have hy : scope.names.lookup y = some .cell \/ scope.names.lookup y = some .free := hy
  rcases hy with hy | hy
  ·exact xG hy
  ·exact absurd rfl (S.nofree _ (PySem.mem_of_lookup hy))
 ·exact le_of_lt (x.above y c (PySem.mem_of_lookup h))
 ·have hi : i < vs.length := by
   unfold start at h2
   by_cases hi : i < vs.length
   ·exact hi
   ·rw [getElem?_append_right (by simpa using hi)] at h2
    rw [List.getElem?_replicate] at h2
    split at h2 <;> cases h2
  have ha : vs[i]? = some v := by
   unfold start at h2
   rw [getElem?_append_left (by simpa using hi), getElem?_map] at h2
   cases e : vs[i]? with
   | none => rw [e] at h2; cases h2
   | some a => rw [e] at h2; cases h2; rfl
  obtain ⟨u, hu, rv⟩ := r.get ha
  have hp : ps[i]? = some y := by
   rw [<- S.pre, getElem?_take_of_lt Z1]; exact h1
  have ndP : ps.Nodup := by rw [<- S.pre]; exact S.nd.sublist (List.take_sublist _ _)
  refine ⟨u, rv, ?_⟩
  rcases S.par y (mem_of_getElem? hp) with k | k
  ·exact .inl ⟨k, uh ndP hp hu k⟩
  ·obtain ⟨c, e⟩ := xG (n := s.heap.objs.size + 1) k
   refine .inr ⟨.inl k, c, e, ?_⟩
   have q := x.cell y c e
   rw [um ndP hp hu (by show scope.names.lookup y ≠ _; rw [k]; decide)] at q
   exact q
 ·exact e0.hok.fresh (le_of_lt (x.above y c (PySem.mem_of_lookup h)))
 ·unfold start
  show _ = N.length
  rw [length_append, length_map, List.length_replicate]
  omega
theorem JV {CX : CXT} {P : Program} {w : World} {K : Frag} {mg : MG} {base : Heap} {k : Nat} {f : Addr} {name qual : Str} {params : Arguments} {body : List Stmt} {scope : Scope} {dV kV doc pm cdv ct oc : Value} {an od : Option Addr}
  {osl : Array (Option Value)} {N ps : List Str} {sp : Sp} (lk : K.lookup f = some ⟨oc, od, .func (fnOf name qual params body scope dV kV doc pm an cdv ct), osl⟩) (hcd : codeIn K cdv qual = true) (S : aG N ps scope)
  (len : ∀ vs H Q E, sp vs H Q E -> vs.length = ps.length)
  (hbody : ∀ (A : Around) (outer : List Env) (s : Shared) (H : Hp) (vs : List V) (Q : VK) (E : XK), aX k (A.deeper (envOfC qual scope s.heap.objs.size f cdv)) -> sp vs H Q E ->
   ∃ t, PSs (jy CX P w K mg base N qual scope f cdv A outer s H E) body t /\ t { nx := fun _ H' => Q .non H', rt := Q } (start N vs) H) :
  aJ P w K mg base CX (k + 1) f (fnOf name qual params body scope dV kV doc pm an cdv ct) ps sp := by
 refine ⟨len, fun A outer s H args us vs Q E hr e0 hb r hsp => ?_⟩
 have hl := len _ _ _ _ hsp
 have KX : K.In s.heap := e0.mod.kin.keeps fun b o e => (e0.bs b o e).1
 have lim : s.heap.NoLimit := e0.mod.nolimit.keeps fun b o e => (e0.bs b o e).1
 have hkind : ∀ y ∈ ps.zip us, scope.names.lookup y.1 = some .local \/ (scope.names.lookup y.1 = some .cell /\ ((cellsFrom (s.heap.objs.size + 1) scope.names []).lookup y.1).isSome = true) := fun ⟨n, v⟩ hy => by
  rcases S.par n (of_mem_zip hy).1 with q | q
  ·exact .inl q
  ·exact .inr ⟨q, cellsFrom_some _ _ _ (.inl q)⟩
 refine codeAny_call_function hr.depth (KX _ _ lk) rfl S.co S.gen rfl (codeRec_of KX hcd) (hb _ _ _ _ ?_)
 refine wpAny_newFunctionEnv_cells S.kind hkind fun env he s1 x => ?_
 subst he
 refine ⟨lim.keeps x.toInCall.keep, codeAny_func ?_⟩
 obtain ⟨t, ht, hq⟩ := hbody A outer s H vs Q E (hr.deeper _) hsp
 have I : Inv (jy CX P w K mg base N qual scope f cdv A outer s H E) [] (start N vs) H s1 := pD S hr.hd e0 hl r x
 refine wpAny_mono (ht [] s1 (start N vs) H _ I hq) (fun fl s' hs => ?_) fun e s' hs => hs
 have fin : ∀ {σ' : St} {H' : Hp} {v : V} {u : Value}, Inv (jy CX P w K mg base N qual scope f cdv A outer s H E) [] σ' H' s' -> RelV v u -> Q v H' -> CE outer P w H s Q u s' :=
  fun {σ' H' v u} J rv q => ⟨v, H', J.os, J.bare, J.base, J.hok, rv, q⟩
 cases fl with
 | ret u =>
  obtain ⟨v, σ', H', J, rv, q⟩ := hs
  exact fin J rv q
 | next =>
  obtain ⟨σ', H', J, q⟩ := hs
  exact fin (v := V.non) (u := Value.none) J rfl q
 | brk =>
  obtain ⟨_, _, _, q⟩ := hs
  exact False.elim q
 | cont =>
  obtain ⟨_, _, _, q⟩ := hs
  exact False.elim q
section
variable {X : Cx} {x : Str} {p pos : Pos} {e : Expr} {es : List Expr} {t : TA} {id T : String} {r : List V -> Hp -> VK -> Prop}
def tCB (r : List V -> Hp -> VK -> Prop) (t : TA) : TE := fun σ H Q => t σ H fun vs H1 => r vs H1 Q
theorem aM (hc : cX X (.builtin id) r) (hg : Gl X x) (hm : X.mg x = none) (hv : bootBuiltins x = some (.builtin id)) (ha : PA X (e :: es) t) (hn : x ≠ "__name__" := by decide) (hdb : (x == ("__debug__" : Str)) = false := by decide)
  (he : starEach (e :: es) X.env = (false, eval e X.env) :: starEach es X.env := by rfl) (hpl : (backTo pos (starEach es X.env)).any (·.1) = false := by rfl) : PE X (.Call (.Name x p) (e :: es) [] pos) (tCB r t) := by
 intro pins s σ H Q I h
 refine wpAny_Call_Name_kw (pI I hg hm hv ?_ hn hdb)
 exact PyProof.Rows.callWith_builtin1 (thn (ha pos pins s σ H _ I h) fun us s1 ⟨vs, H1, I1, r1, q1⟩ => hc pins s1 σ H1 vs us Q I1 r1 q1) he hpl
theorem eQ (hc : cX X (.type T) r) (hg : Gl X x) (hm : X.mg x = none) (hv : bootBuiltins x = some (.type T)) (ha : PA X (e :: es) t) (hn : x ≠ "__name__" := by decide) (hdb : (x == ("__debug__" : Str)) = false := by decide)
  (he : starEach (e :: es) X.env = (false, eval e X.env) :: starEach es X.env := by rfl) (hpl : (backTo pos (starEach es X.env)).any (·.1) = false := by rfl) : PE X (.Call (.Name x p) (e :: es) [] pos) (tCB r t) := by
 intro pins s σ H Q I h
 refine wpAny_Call_Name_kw (pI I hg hm hv ?_ hn hdb)
 exact PyProof.Rows.callWith_type1 (thn (ha pos pins s σ H _ I h) fun us s1 ⟨vs, H1, I1, r1, q1⟩ => hc pins s1 σ H1 vs us Q I1 r1 q1) he hpl
end
end L2
namespace HT
open PySem PyProof.Rows
section
open PySem.SeqAt
open PySem.AutoSeq1 (wpAny_loadPart')
open PySem.MeetsSeq PySem.MeetsSeq2 PySem.MeetsSeq3
end
section
variable {prog : Program} {w : World} {A : Around} {E : EV} {s : Shared}
def sIx (n d : Nat) : Option Int -> Nat
 | none => d
 | some v => if v < 0 then (v + (n : Int)).toNat else min v.toNat n
theorem sIx_none (n d : Nat) : sIx n d none = d := rfl
theorem sIx_nat (n d k : Nat) : sIx n d (some (k : Int)) = min k n := by
 show (if (k : Int) < 0 then ((k : Int) + (n : Int)).toNat else min (k : Int).toNat n) = min k n
 rw [if_neg Z1, toNat_natCast]
end
end HT
namespace L2
open PySem PySem.Spec PyProof.Rows
abbrev TO := St -> Hp -> (Option Int -> Hp -> Prop) -> Prop
def PO (X : Cx) (e : Option Expr) (t : TO) : Prop :=
 ∀ (pins : OP) (s : Shared) (σ : St) (H : Hp) (Q : Option Int -> Hp -> Prop), Inv X pins σ H s -> t σ H Q ->
  wpAny (model X.prog X.w) X.A (evalPart e X.env) (fun u s' => ∃ o H', Inv X pins σ H' s' /\ IsPart u o /\ Q o H') X.xe s
def Jb : TO := fun _ H Q => Q none H
def OJ (t : TE) : TO := fun σ H Q => t σ H fun x H1 => ∃ i, x = .int i /\ Q (some i) H1
section
variable {X : Cx} {e : Expr} {te : TE} {lo hi : Option Expr} {tl th : TO} {pos p2 : Pos}
theorem jM : PO X none Jb := by
 intro pins s σ H Q I h
 rw [evalPart_none]
 exact wpAny_pure ⟨none, H, I, .none, h⟩
theorem jV (h : PE X e te) : PO X (some e) (OJ te) := by
 intro pins s σ H Q I hw
 rw [evalPart_some]
 refine thn (h pins s σ H _ I hw) fun u s1 ⟨x, H1, I1, r1, q1⟩ => ?_
 obtain ⟨i, rfl, q⟩ := q1
 obtain ⟨t, rfl⟩ := r1
 exact ⟨some i, H1, I1, .int i t, q⟩
def SlR (X : Cx) (r : V -> Option Int -> Option Int -> Hp -> VK -> Prop) : Prop :=
 ∀ (pins : OP) (s : Shared) (σ : St) (H : Hp) (x : V) (v vl vu : Value) (lo hi : Option Int) (sl : Addr) (Q : VK), Inv X pins σ H s -> RelV x v -> s.heap.IsSliceOf sl vl vu .none -> IsPart vl lo -> IsPart vu hi -> r x lo hi H Q ->
  ∃ T id, typeLookup (.type T) "__getitem__" = pure (some (.builtin id)) /\ s.TypeIs v T /\ wpAny (model X.prog X.w) X.A (getItem v (.ref sl)) (EP X pins σ Q) X.xe s
theorem SlR.or {r r' : V -> Option Int -> Option Int -> Hp -> VK -> Prop} (h : SlR X r) (h' : SlR X r') : SlR X (fun x lo hi H Q => r x lo hi H Q \/ r' x lo hi H Q) := by
 intro pins s σ H x v vl vu lo hi sl Q I rx hs pl pu q
 rcases q with q | q
 ·exact h pins s σ H x v vl vu lo hi sl Q I rx hs pl pu q
 ·exact h' pins s σ H x v vl vu lo hi sl Q I rx hs pl pu q
def tSl (r : V -> Option Int -> Option Int -> Hp -> VK -> Prop) (te : TE) (tl th : TO) : TE := fun σ H Q => te σ H fun x H1 => tl σ H1 fun l H2 => th σ H2 fun u H3 => r x l u H3 Q
theorem gP {r : V -> Option Int -> Option Int -> Hp -> VK -> Prop} (hr : SlR X r) (he : PE X e te) (hl : PO X lo tl) (hu : PO X hi th) : PE X (.Subscript e (.Slice lo hi none p2) pos) (tSl r te tl th) := by
 intro pins s σ H Q I h
 refine Subscript_ (thn (he pins s σ H _ I h) fun v s1 ⟨x, H1, I1, r1, q1⟩ => ?_)
 refine wpAny_Slice (thn (hl pins s1 σ H1 _ I1 q1) fun vl s2 ⟨l, H2, I2, pl, q2⟩ => thn (hu pins s2 σ H2 _ I2 q2) fun vu s3 ⟨u, H3, I3, pu, q3⟩ => ?_)
 rw [evalPart_none]
 refine wpAny_pure ?_
 have I4 : Inv X pins σ H3 { s3 with heap := s3.heap.push { cls := .type "slice", data := .fields #[vl, vu, .none] } } := I3.kept (t' := s3.toks) fun b ob q => Heap.get?_push_of_some _ q
 obtain ⟨T, id, hT, ht, hg⟩ := hr pins { s3 with heap := s3.heap.push { cls := .type "slice", data := .fields #[vl, vu, .none] } } σ H3 x v vl vu l u s3.heap.objs.size Q I4 r1 (Heap.IsSliceOf.new ..) pl pu q3
 show wpAny (model X.prog X.w) X.A (subscriptTail e (.Slice lo hi none p2) v (.ref s3.heap.objs.size)) (EP X pins σ Q) X.xe { s3 with heap := s3.heap.push { cls := .type "slice", data := .fields #[vl, vu, .none] } }
 exact tail_any (ops := [.ref s3.heap.objs.size, v]) ht hT hg (by with_unfolding_all rfl)
def jK (xs : List V) (lo hi : Option Int) : List V := (xs.drop (HT.sIx xs.length 0 lo)).take (HT.sIx xs.length xs.length hi - HT.sIx xs.length 0 lo)
theorem yl (xs : List V) (lo hi : Option Int) : (jK xs lo hi).length <= xs.length := by
 unfold jK
 rw [length_take, length_drop]
 omega
end
def ixN (n : Nat) (i : Int) : Option Nat := if 0 <= i then (if i < n then some i.toNat else none) else if -(n : Int) <= i then some (i + n).toNat else none
def atI {α : Type} (xs : List α) (i : Int) : Option α := (ixN xs.length i).bind fun j => xs[j]?
theorem Bj {n : Nat} {i : Int} {j : Nat} (h : ixN n i = some j) : seqIndex? i n = some j /\ j < n /\ -(n : Int) <= i /\ i < n := by
 unfold ixN at h
 by_cases h0 : 0 <= i
 ·rw [if_pos h0] at h
  by_cases h1 : i < n
  ·rw [if_pos h1] at h
   have e : i.toNat = j := Option.some.inj h
   exact ⟨by rw [seqIndex_of h0 h1, e], Z1, Z1, h1⟩
  ·rw [if_neg h1] at h; cases h
 ·rw [if_neg h0] at h
  by_cases h1 : -(n : Int) <= i
  ·rw [if_pos h1] at h
   have e : (i + n).toNat = j := Option.some.inj h
   exact ⟨by rw [seqIndex_neg Z1 h1, e], Z1, h1, Z1⟩
  ·rw [if_neg h1] at h; cases h
theorem ql {α : Type} {xs : List α} {i : Int} {v : α} (h : atI xs i = some v) : ∃ j, seqIndex? i xs.length = some j /\ xs[j]? = some v /\ j < xs.length /\ -(xs.length : Int) <= i /\ i < xs.length := by
 unfold atI at h
 cases e : ixN xs.length i with
 | none => rw [e] at h; cases h
 | some j =>
  rw [e] at h
  obtain ⟨h1, h2, h3, h4⟩ := Bj e
  exact ⟨j, h1, h, h2, h3, h4⟩
theorem bU {α : Type} {xs : List α} {j : Nat} {v : α} (h : xs[j]? = some v) : atI xs (j : Int) = some v := by
 have hj : j < xs.length := (List.getElem?_eq_some_iff.mp h).1
 have e : ixN xs.length (j : Int) = some j := by
  unfold ixN
  rw [if_pos Z1, if_pos Z1]; simp
 unfold atI; rw [e]; exact h
def vm (b : Expr) : Prop := ∀ o i, subscripted b false o i = operate [o, i] (getItem o i)
def IxR (X : Cx) (r : R2) : Prop :=
 ∀ (value slice : Expr) (pins : OP) (s : Shared) (σ : St) (H : Hp) (x y : V) (v u : Value) (Q : VK), Inv X pins σ H s -> RelV x v -> RelV y u -> r x y H Q ->
  subscripted slice false v u = operate [v, u] (getItem v u) -> wpAny (model X.prog X.w) X.A (subscriptTail value slice v u) (EP X pins σ Q) X.xe s
def MtR (X : Cx) (id : String) (r : V -> List V -> Hp -> VK -> Prop) : Prop :=
 ∀ (pins : OP) (s : Shared) (σ : St) (H : Hp) (x : V) (xs : List V) (v : Value) (us : List Value) (Q : VK), Inv X pins σ H s -> RelV x v -> Vals xs us -> r x xs H Q ->
  wpAny (model X.prog X.w) X.A (call (.builtin id) (v :: us)) (EP X pins σ Q) X.xe s
section
variable {X : Cx} {a b : Expr} {ta tb : TE} {pos : Pos}
theorem IxR.or {r r' : R2} (h : IxR X r) (h' : IxR X r') : IxR X (fun x y H Q => r x y H Q \/ r' x y H Q) := by
 intro value slice pins s σ H x y v u Q I rx ry q hs
 rcases q with q | q
 ·exact h value slice pins s σ H x y v u Q I rx ry q hs
 ·exact h' value slice pins s σ H x y v u Q I rx ry q hs
theorem MtR.or {id : String} {r r' : V -> List V -> Hp -> VK -> Prop} (h : MtR X id r) (h' : MtR X id r') : MtR X id (fun x xs H Q => r x xs H Q \/ r' x xs H Q) := by
 intro pins s σ H x xs v us Q I rx rs q
 rcases q with q | q
 ·exact h pins s σ H x xs v us Q I rx rs q
 ·exact h' pins s σ H x xs v us Q I rx rs q
theorem bh {r : R2} (hr : IxR X r) (ha : PE X a ta) (hb : PE X b tb) (hs : vm b := by exact fun _ _ => rfl) : PE X (.Subscript a b pos) (tOp r ta tb) := by
 intro pins s σ H Q I h
 exact Subscript_ (Ni ha hb I h fun v u s2 x y H2 I2 rx ry q => hr a b pins s2 σ H2 x y v u Q I2 rx ry q (hs _ _))
def NK (K : Frag) : R2 := fun x y H Q => ∃ p xs i v, x = .ref p /\ y = .int i /\ SqL K H p xs /\ atI xs i = some v /\ Q v H
def OD (K : Frag) : R2 := fun x y H Q => ∃ p xs i v, x = .ref p /\ y = .int i /\ SqT K H p xs /\ atI xs i = some v /\ Q v H
def Tp : R2 := fun x y H Q => ∃ z i c, x = .str z /\ y = .int i /\ z.length <= sizeLine /\ atI z.cps.toList i = some c /\ Q (.str ⟨#[c]⟩) H
theorem aO : IxR X (NK X.K) := by
 intro value slice pins s σ H x y v u Q I rx ry h hs
 obtain ⟨p, xs, i, z, rfl, rfl, hq, he, q⟩ := h
 cases rx
 obtain ⟨t, rfl⟩ := ry
 obtain ⟨its, r, pl, hz⟩ := I.list hq
 obtain ⟨j, h1, h2, h3, h4, h5⟩ := ql he
 obtain ⟨w, ew, rw'⟩ := r.get h2
 have hl := r.length
 have hn := nC
 have fin : EP X pins σ Q w s := ⟨z, H, I, rw', q⟩
 by_cases h0 : 0 <= i
 ·have hj : i.toNat = j := by
   rw [seqIndex_of h0 h5] at h1
   exact Option.some.inj h1
  exact item_listR pl.isList h0 Z1 (by rw [hj]; simpa using ew) fin hs
 ·have hj : (i + (its.toArray.size : Int)).toNat = j := by
   rw [seqIndex_neg Z1 h4] at h1
   rw [size_toArray, <- hl]
   exact Option.some.inj h1
  exact subscriptTail_builtinR (x := w) pl.isList.typeIs slot_list_getitem.lookup
   (wpAny_getItem_list_neg (Q := fun r s' => r = w /\ EP X pins σ Q r s') pl.isList Z1 (by rw [size_toArray] <;> omega) Z1 (by rw [hj]; simpa using ew) ⟨rfl, fin⟩) hs
theorem Mj : IxR X (OD X.K) := by
 intro value slice pins s σ H x y v u Q I rx ry h hs
 obtain ⟨p, xs, i, z, rfl, rfl, hq, he, q⟩ := h
 cases rx
 obtain ⟨t, rfl⟩ := ry
 obtain ⟨its, r, pl, hz⟩ := I.tuple hq
 obtain ⟨j, h1, h2, h3, h4, h5⟩ := ql he
 obtain ⟨w, ew, rw'⟩ := r.get h2
 have hl := r.length
 have hn := nC
 have fin : EP X pins σ Q w s := ⟨z, H, I, rw', q⟩
 exact subscriptTail_builtinR (x := w) pl.typeIs slot_tuple_getitem.lookup
  (getItem_tuple (j := j) (Q := fun r s' => r = w /\ EP X pins σ Q r s') pl Z1 Z1 (by rw [size_toArray, <- hl]; exact h1) (by simpa using ew) ⟨rfl, fin⟩) hs
theorem Lr : IxR X Tp := by
 intro value slice pins s σ H x y v u Q I rx ry h hs
 obtain ⟨z, i, c, rfl, rfl, hz, he, q⟩ := h
 obtain ⟨t, rfl⟩ := rx
 obtain ⟨t', rfl⟩ := ry
 obtain ⟨j, h1, h2, h3, h4, h5⟩ := ql he
 have hl : z.cps.toList.length = z.length := by simp [Str.length]
 rw [hl] at h1 h4 h5
 have hn := nC
 exact tail_any (typeIs_str s z t) slot_str_getitem.lookup (getItem_str (c := c) (by
  have e1 : decide (i < -(2 ^ 63 : Int)) = false := decide_eq_false Z1
  have e2 : decide (i >= 2 ^ 63) = false := decide_eq_false Z1
  rw [e1, e2, Bool.or_false]) (by rw [h1]; simpa using h2) ⟨.str ⟨#[c]⟩, H, I.tok _, ⟨_, rfl⟩, q⟩) hs
theorem zR (its : List Value) (n j : Nat) (u : Value) : Obj.mapSeq (·.setIfInBounds j u) { cls := .type "list", data := .seq its.toArray n } = { cls := .type "list", data := .seq (its.set j u).toArray n } := by
 simp [Obj.mapSeq]
theorem Inv.lst {pins : OP} {σ : St} {H : Hp} {s : Shared} {p : Addr} {xs : List V} (I : Inv X pins σ H s) (h : H p = some (.lst xs)) :
  ∃ (its : List Value) (n : Nat), Vals xs its /\ s.heap.get? p = some { cls := .type "list", data := .seq its.toArray n } /\ xs.length <= sizeLine := by
 obtain ⟨z, its, n, r, e⟩ := I.hok p _ h
 exact ⟨its, n, r, e, z⟩
theorem Inv.lstUpd {pins : OP} {σ : St} {H : Hp} {s : Shared} {p : Addr} {xs ys : List V} {its its' : List Value} {n n' : Nat} {f : Obj -> Obj} (I : Inv X pins σ H s) (h : H p = some (.lst xs))
  (ho : s.heap.get? p = some { cls := .type "list", data := .seq its.toArray n }) (hf : f { cls := .type "list", data := .seq its.toArray n } = { cls := .type "list", data := .seq its'.toArray n' }) (r : Vals ys its') (hz : ys.length <= sizeLine) (t : Nat) :
  Inv X pins σ (upd H p (.lst ys)) { s with heap := s.heap.update p f, toks := t } := by
 have e : (s.heap.update p f).get? p = some { cls := .type "list", data := .seq its'.toArray n' } := by
  rw [Heap.get?_update_self f ho (by rw [hf] <;> rfl), hf]
 refine I.write (x := p) (e := p) (by rw [h]; trivial) (.inl rfl) (fun b u hb q => (Heap.get?_update_other _ _ (Ne.symm hb)).trans q) ⟨_, e⟩ ?_
 exact ⟨hz, its', n', r, e⟩
def Pj : V -> V -> V -> Hp -> (Hp -> Prop) -> Prop := fun o i v H Q => ∃ p xs k j, o = .ref p /\ i = .int k /\ H p = some (.lst xs) /\ ixN xs.length k = some j /\ Q (upd H p (.lst (xs.set j v)))
theorem set_list : NQ X Pj := by
 intro pins s σ H o i v ov iv u Q I ro ri rv h
 obtain ⟨p, xs, k, j, rfl, rfl, hp, hj, q⟩ := h
 cases ro
 obtain ⟨t, rfl⟩ := ri
 obtain ⟨its, n, r, ho, hz⟩ := I.lst hp
 obtain ⟨h1, h2, h3, h4⟩ := Bj hj
 have hl := r.length
 have hn := nC
 have I' : Inv X pins σ (upd H p (.lst (xs.set j v))) { s with heap := s.heap.update p (Obj.mapSeq (·.setIfInBounds j u)) } :=
  I.lstUpd hp ho (zR its n j u) (r.set rv j) (by rw [length_set]; exact hz) s.toks
 by_cases h0 : 0 <= k
 ·have hk : k.toNat = j := by
   rw [seqIndex_of h0 h4] at h1
   exact Option.some.inj h1
  exact PySem.W.ki_setAt ho h0 Z1 (by rw [size_toArray, <- hl]; exact h4) (by rw [hk]; exact ⟨_, I', q⟩)
 ·have hk : (k + (its.toArray.size : Int)).toNat = j := by
   rw [seqIndex_neg Z1 h3] at h1
   rw [size_toArray, <- hl]
   exact Option.some.inj h1
  exact PySem.W.ki_setBack ho Z1 (by rw [size_toArray, <- hl]; exact h3) Z1 (by rw [hk]; exact ⟨_, I', q⟩)
theorem uT (lo hi : Option Int) (n : Nat) : (sliceBounds lo hi none n).1 = ((HT.sIx n 0 lo : Nat) : Int) /\ (sliceBounds lo hi none n).2.1 = ((HT.sIx n n hi : Nat) : Int) /\ (sliceBounds lo hi none n).2.2 = 1 := by
 refine ⟨?_, ?_, rfl⟩
 ·cases lo with
  | none => simp [sliceBounds, HT.sIx]
  | some i =>
   simp only [sliceBounds, HT.sIx, Option.getD_none, show (1 : Int) > 0 by decide, if_true]
   by_cases h : i < 0
   ·simp only [h, if_true] <;> omega
   ·simp only [h, if_false] <;> omega
 ·cases hi with
  | none => simp [sliceBounds, HT.sIx]
  | some i =>
   simp only [sliceBounds, HT.sIx, Option.getD_none, show (1 : Int) > 0 by decide, if_true]
   by_cases h : i < 0
   ·simp only [h, if_true] <;> omega
   ·simp only [h, if_false] <;> omega
theorem tD (its : List Value) (lo hi : Option Int) : slicePick its.toArray lo hi none = ((its.drop (HT.sIx its.length 0 lo)).take (HT.sIx its.length its.length hi - HT.sIx its.length 0 lo)).toArray := by
 obtain ⟨h1, h2, h3⟩ := uT lo hi its.toArray.size
 unfold slicePick
 rw [h1, h2, h3]
 simp only [sliceRange_one, pick_run, size_toArray] <;> rfl
def N5 (K : Frag) : V -> Option Int -> Option Int -> Hp -> VK -> Prop := fun x lo hi H Q => ∃ a xs, x = .ref a /\ SqL K H a xs /\ ∀ p, H p = none -> Q (.ref p) (upd H p (.lst (jK xs lo hi)))
theorem lX : SlR X (N5 X.K) := by
 intro pins s σ H x v vl vu lo hi sl Q I rx hs pl pu h
 obtain ⟨a, xs, rfl, hx, q⟩ := h
 cases rx
 obtain ⟨its, r, ht, hz⟩ := I.list hx
 have hlen := r.length
 refine ⟨"list", _, slot_list_getitem.lookup, ht.isList.typeIs, ?_⟩
 refine wpAny_getItem_list_slice ht.isList hs pl pu .none Z2 ?_ (by rw [size_toArray] <;> omega)
 rw [tD, <- hlen]
 refine ⟨.ref s.heap.objs.size, _, I.laid (t' := s.toks) (o := .lst (jK xs lo hi)) (fun b ob q => Heap.get?_push_of_some _ q) (le_refl _) ?_, rfl, q _ (I.hok.fresh (le_refl _))⟩
 exact ⟨le_trans (yl xs lo hi) hz, _, 0, (r.drop (HT.sIx xs.length 0 lo)).take (HT.sIx xs.length xs.length hi - HT.sIx xs.length 0 lo), Heap.get?_push_size _ rfl⟩
def gO : V -> Bool
 | .non => true
 | .bl _ => true
 | .int _ => true
 | .str _ => true
 | _ => false
def eqV : V -> V -> Bool
 | .non, .non => true
 | .bl a, .bl b => a == b
 | .bl a, .int b => (if a then 1 else 0) == b
 | .int a, .bl b => a == (if b then 1 else 0)
 | .int a, .int b => a == b
 | .str a, .str b => a == b
 | _, _ => false
theorem M4 {A : Around} {s : Shared} {y x : V} {u v : Value} (ry : RelV y u) (rx : RelV x v) (fy : gO y = true) (fx : gO x = true) : SeqAt.EqAt A s u v (eqV y x) := by
 cases y with
 | non =>
  cases ry
  cases x with
  | non => cases rx; exact SeqAt.EqAt.same _
  | bl b => cases rx; exact SeqAt.EqAt.none_bool b
  | int b => obtain ⟨t, rfl⟩ := rx; exact SeqAt.EqAt.none_int b t
  | str b => obtain ⟨t, rfl⟩ := rx; exact SeqAt.EqAt.none_str b t
  | _ => exact absurd (show false = true from fx) Bool.false_ne_true
 | bl a =>
  cases ry
  cases x with
  | non => cases rx; exact SeqAt.EqAt.bool_none a
  | bl b => cases rx; exact SeqAt.EqAt.bool_bool a b
  | int b => obtain ⟨t, rfl⟩ := rx; exact SeqAt.EqAt.bool_int a b t
  | str b => obtain ⟨t, rfl⟩ := rx; exact SeqAt.EqAt.bool_str a b t
  | _ => exact absurd (show false = true from fx) Bool.false_ne_true
 | int a =>
  obtain ⟨t', rfl⟩ := ry
  cases x with
  | non => cases rx; exact SeqAt.EqAt.int_none a t'
  | bl b => cases rx; exact SeqAt.EqAt.int_bool a t' b
  | int b => obtain ⟨t, rfl⟩ := rx; exact SeqAt.EqAt.int_int a t' b t
  | str b => obtain ⟨t, rfl⟩ := rx; exact SeqAt.EqAt.int_str a t' b t
  | _ => exact absurd (show false = true from fx) Bool.false_ne_true
 | str a =>
  obtain ⟨t', rfl⟩ := ry
  cases x with
  | non => cases rx; exact SeqAt.EqAt.str_none a t'
  | bl b => cases rx; exact SeqAt.EqAt.str_bool a t' b
  | int b => obtain ⟨t, rfl⟩ := rx; exact SeqAt.EqAt.str_int a t' b t
  | str b => obtain ⟨t, rfl⟩ := rx; exact SeqAt.EqAt.str_str a t' b t
  | _ => exact absurd (show false = true from fx) Bool.false_ne_true
 | _ => exact absurd (show false = true from fy) Bool.false_ne_true
def eqU (x : V) (u : Value) : Bool := match u with
 | .none => eqV .non x
 | .bool b => eqV (.bl b) x
 | .int i _ => eqV (.int i) x
 | .str z _ => eqV (.str z) x
 | _ => false
theorem Gv {x y : V} {u : Value} (r : RelV y u) (f : gO y = true) : eqU x u = eqV y x := by
 cases y with
 | non => cases r; rfl
 | bl b => cases r; rfl
 | int i => obtain ⟨t, rfl⟩ := r; rfl
 | str z => obtain ⟨t, rfl⟩ := r; rfl
 | _ => exact absurd (show false = true from f) Bool.false_ne_true
theorem qz {x : V} : ∀ {xs : List V} {us : List Value}, Vals xs us -> xs.all gO = true -> us.any (eqU x) = xs.any fun y => eqV y x
 | _, _, .nil, _ => rfl
 | y :: xs, u :: us, .cons r t, f => by
  rw [List.all_cons, and_eq_true] at f
  rw [any_cons, any_cons, Gv r f.1, qz t f.2]
theorem nU {A : Around} {s : Shared} {x : V} {v : Value} (rx : RelV x v) (fx : gO x = true) : ∀ {xs : List V} {us : List Value}, Vals xs us -> xs.all gO = true -> ∀ u ∈ us, SeqAt.EqAt A s u v (eqU x u)
 | _, _, .nil, _ => fun u hu => by cases hu
 | y :: xs, u :: us, .cons r t, f => fun u' hu => by
  rw [List.all_cons, and_eq_true] at f
  rcases mem_cons.mp hu with rfl | hu
  ·rw [Gv r f.1]; exact M4 r rx f.1 fx
  ·exact nU rx fx t f.2 u' hu
def inV (x : V) (xs : List V) : Bool := xs.any fun y => eqV y x
def rIn (K : Frag) (neg : Bool) : R2 := fun x y H Q => ∃ p xs, y = .ref p /\ (SqL K H p xs \/ SqT K H p xs) /\ gO x = true /\ xs.all gO = true /\ Q (.bl (if neg then !inV x xs else inV x xs)) H
theorem BX : OpR X (compareOp .In) (rIn X.K false) := by
 intro pins s σ H x y v u Q I rx ry h
 obtain ⟨p, xs, rfl, hq, fx, fs, q⟩ := h
 cases ry
 rcases hq with hq | hq
 ·obtain ⟨its, r, pl, hz⟩ := I.list hq
  refine SeqAt.in_listAt (eqU x) pl.isList (fun w hw => nU rx fx r fs w (by simpa using hw)) ⟨.bl _, H, I, rfl, ?_⟩
  rw [show its.toArray.any (eqU x) = its.any (eqU x) by simp, qz r fs]
  exact q
 ·obtain ⟨its, r, pl, hz⟩ := I.tuple hq
  refine SeqAt.in_tupleAt (eqU x) pl (fun w hw => nU rx fx r fs w (by simpa using hw)) ⟨.bl _, H, I, rfl, ?_⟩
  rw [show its.toArray.any (eqU x) = its.any (eqU x) by simp, qz r fs]
  exact q
theorem aY : cX X (.builtin "len") (fun xs H Q => ∃ p ys, xs = [.ref p] /\ (SqL X.K H p ys \/ SqT X.K H p ys) /\ Q (.int ys.length) H) := by
 intro pins s σ H xs us Q I r h
 obtain ⟨p, ys, rfl, hq, q⟩ := h
 obtain ⟨u, rfl, rx⟩ := vals1 r
 cases rx
 have hn := nC
 rcases hq with hq | hq
 ·obtain ⟨its, r', pl, hz⟩ := I.list hq
  have hlen := r'.length
  exact Calls.call_len_list pl.isList (by simp only [size_toArray] <;> omega) ⟨.int ys.length, H, I.tok _, ⟨s.toks + 1, by rw [size_toArray, hlen]⟩, q⟩
 ·obtain ⟨its, r', pl, hz⟩ := I.tuple hq
  have hlen := r'.length
  exact len_tuple pl (by simp only [size_toArray] <;> omega) ⟨.int ys.length, H, I.tok _, ⟨s.toks + 1, by rw [size_toArray, hlen]⟩, q⟩
theorem fP : cX X (.builtin "len") (fun xs H Q => ∃ z, xs = [.str z] /\ z.length <= sizeLine /\ Q (.int z.length) H) := by
 intro pins s σ H xs us Q I r h
 obtain ⟨z, rfl, hz, q⟩ := h
 obtain ⟨u, rfl, t, rfl⟩ := vals1 r
 have hn := nC
 exact len_str Z1 ⟨.int z.length, H, I.tok _, ⟨_, rfl⟩, q⟩
theorem cX.or {f : Value} {r r' : List V -> Hp -> VK -> Prop} (h : cX X f r) (h' : cX X f r') : cX X f (fun xs H Q => r xs H Q \/ r' xs H Q) := by
 intro pins s σ H xs us Q I rs q
 rcases q with q | q
 ·exact h pins s σ H xs us Q I rs q
 ·exact h' pins s σ H xs us Q I rs q
theorem fM : cX X (.type "list") (fun xs H Q => ∃ p ys, xs = [.ref p] /\ (SqL X.K H p ys \/ SqT X.K H p ys) /\ ∀ l, H l = none -> Q (.ref l) (upd H l (.lst ys))) := by
 intro pins s σ H xs us Q I r h
 obtain ⟨p, ys, rfl, hq, q⟩ := h
 obtain ⟨u, rfl, rx⟩ := vals1 r
 cases rx
 have fin : ∀ (its : List Value), Vals ys its -> ys.length <= sizeLine -> ∀ (h' : Heap) (c' : Nat), (∀ b o', s.heap.get? b = some o' -> h'.get? b = some o') ->
   h'.get? s.heap.objs.size = some { cls := .type "list", dict := none, data := .seq its.toArray c', slots := #[] } -> EP X pins σ Q (.ref s.heap.objs.size) { s with heap := h' } := fun its r' hz h' c' kp e =>
  ⟨.ref s.heap.objs.size, _, I.laid (t' := s.toks) kp (le_refl _) (show cu X.prog X.w _ h' _ (.lst ys) from ⟨hz, its, c', r', e⟩), rfl, q _ (I.hok.fresh (le_refl _))⟩
 rcases hq with hq | hq
 ·obtain ⟨its, r', pl, hz⟩ := I.list hq
  have hlen := r'.length
  obtain ⟨o, ho, hc, n, hd⟩ := pl.isList
  exact call_list_seq p (.inl rfl) ho hc hd (fun h' c' kp e => fin its r' hz h' c' kp e) (by simp only [size_toArray] <;> omega)
 ·obtain ⟨its, r', pl, hz⟩ := I.tuple hq
  have hlen := r'.length
  obtain ⟨o, ho, hc, n, hd⟩ := pl
  exact call_list_seq p (.inr rfl) ho hc hd (fun h' c' kp e => fin its r' hz h' c' kp e) (by simp only [size_toArray] <;> omega)
theorem tG : cX X (.type "tuple") (fun xs H Q => ∃ p ys, xs = [.ref p] /\ ((SqL X.K H p ys /\ ∀ l, H l = none -> Q (.ref l) (upd H l (.tup ys))) \/ (SqT X.K H p ys /\ Q (.ref p) H))) := by
 intro pins s σ H xs us Q I r h
 obtain ⟨p, ys, rfl, h⟩ := h
 obtain ⟨u, rfl, rx⟩ := vals1 r
 cases rx
 rcases h with ⟨hq, q⟩ | ⟨hq, q⟩
 ·obtain ⟨its, r', pl, hz⟩ := I.list hq
  have hlen := r'.length
  refine call_tuple_list pl.isList (fun h' kp => ?_) (by simp only [size_toArray] <;> omega)
  have I1 : Inv X pins σ H { s with heap := h' } := I.kept (t' := s.toks) kp
  have I2 : Inv X pins σ (upd H h'.objs.size (.tup ys)) { s with heap := h'.push { cls := .type "tuple", data := .seq its.toArray } } :=
   I1.laid (t' := s.toks) (fun b o e => Heap.get?_push_of_some _ e) (le_refl _) (show cu X.prog X.w _ _ _ (.tup ys) from ⟨hz, its, r', IsTup.new _ _⟩)
  exact ⟨.ref h'.objs.size, _, I2, rfl, q _ (I1.hok.fresh (le_refl _))⟩
 ·obtain ⟨its, r', pl, hz⟩ := I.tuple hq
  exact call_tuple_same pl ⟨.ref p, H, I, rfl, q⟩
def tyV (K : Frag) (T : String) (x : V) (H : Hp) : Prop := match x with
 | .str _ => T = "str"
 | .int _ => T = "int"
 | .ref p => (T = "list" /\ ∃ xs, SqL K H p xs) \/ (T = "tuple" /\ ∃ o, K.lookup p = some o /\ o.cls = .type "tuple" /\ o.dict = none) \/
   (T = "dict" /\ ((∃ kvs, H p = some (.dK kvs)) \/ ∃ kvs, H p = some (.dT kvs))) \/ (T = "set" /\ ∃ S n, H p = some (.set S n))
 | _ => False
theorem Fq {pins : OP} {σ : St} {H : Hp} {s : Shared} {T : String} {x : V} {v : Value} (I : Inv X pins σ H s) (r : RelV x v) (ty : tyV X.K T x H) :
  s.TypeIs v T /\ ∀ a, v = .ref a -> ∃ ob, s.heap.get? a = some ob /\ ob.dict = none := by
 cases x with
 | str z =>
  obtain ⟨t, rfl⟩ := r
  cases (show T = "str" from ty)
  exact ⟨typeIs_str s z t, fun _ e => nomatch e⟩
 | int i =>
  obtain ⟨t, rfl⟩ := r
  cases (show T = "int" from ty)
  exact ⟨typeIs_int s i t, fun _ e => nomatch e⟩
 | ref p =>
  cases r
  rcases ty with ⟨rfl, xs, hq⟩ | ⟨rfl, o, hk, hc, hd⟩ | ⟨rfl, hk⟩ | ⟨rfl, S, n, hk⟩
  ·obtain ⟨its, _, pl, _⟩ := I.list hq
   refine ⟨pl.isList.typeIs, fun a e => ?_⟩
   cases e
   obtain ⟨o, n, e, c, hd, _⟩ := pl
   exact ⟨o, e, hd⟩
  ·refine ⟨⟨o, I.kIn p o hk, hc⟩, fun a e => ?_⟩
   cases e
   exact ⟨o, I.kIn _ o hk, hd⟩
  ·have z : ∃ o, s.heap.get? p = some o /\ o.ExactDict := by
    rcases hk with ⟨kvs, hk⟩ | ⟨kvs, hk⟩
    ·obtain ⟨_, _, _, _, o, _, _, e, ex, _⟩ := I.hok p _ hk
     exact ⟨o, e, ex⟩
    ·obtain ⟨_, _, _, _, o, _, _, e, ex, _⟩ := I.hok p _ hk
     exact ⟨o, e, ex⟩
   obtain ⟨o, e, ex⟩ := z
   refine ⟨⟨o, e, ex.1⟩, fun a e2 => ?_⟩
   cases e2
   exact ⟨o, e, ex.2.1⟩
  ·obtain ⟨o, _, _, _, e, ex, _⟩ := I.hok p _ hk
   refine ⟨⟨o, e, ex.1⟩, fun a e2 => ?_⟩
   cases e2
   exact ⟨o, e, ex.2.1⟩
 | _ => exact False.elim ty
def tBM (K : Frag) (T : String) (r : V -> List V -> Hp -> VK -> Prop) (to : TE) (t : TA) : TE := fun σ H Q => to σ H fun x H1 => tyV K T x H1 /\ t σ H1 fun xs H2 => r x xs H2 Q
variable {o e : Expr} {es : List Expr} {to : TE} {t : TA} {name : Str} {apos cpos : Pos} {T id : String} {r : V -> List V -> Hp -> VK -> Prop}
theorem fH (pa : PlainAttrs T) (slot : Slot T name id) (hty : typeOf (.builtin id) = pure (.type "method_descriptor")) (hm : MtR X id r) (ho : PE X o to) (ha : PA X (e :: es) t)
  (hbase : attributeBase o name X.env (eval o X.env) = eval o X.env := by rfl)
  (hfew : ((backTo cpos (starEach (e :: es) X.env)).all (fun x => !x.1) && (backToKw cpos (keywordEach [] X.env)).all (fun x => x.1.isSome)
   && decide ((e :: es).length + ([] : List Keyword).length + (if ([] : List Keyword).isEmpty then 0 else 1) < 30)) = true := by rfl)
  (hline : (apos.endLine == cpos.line) = true := by rfl) (hs : starEach (e :: es) X.env = (false, eval e X.env) :: starEach es X.env := by rfl) (hplain : (backTo cpos (starEach es X.env)).any (·.1) = false := by rfl) :
  PE X (.Call (.Attribute o name apos) (e :: es) [] cpos) (tBM X.K T r to t) := by
 intro pins s σ H Q I h
 refine wpAny_Call_method_late hbase hfew hline rfl (thn (ho pins s σ H _ I h) fun v s1 ⟨x, H1, I1, r1, ty, q1⟩ => ?_)
 obtain ⟨h1, h2⟩ := Fq I1 r1 ty
 refine ⟨T, id, pa, slot, hty, h1, h2, ?_⟩
 have hA := ha cpos pins s1 σ H1 _ I1 q1
 rw [hs] at hA ⊢
 refine Calls.callWith_builtin (by show (false || (backTo cpos (starEach es X.env)).any (·.1)) = false; rw [hplain] <;> rfl) (Calls.evalArgs_plain ?_)
 exact thn hA fun us s2 ⟨vs, H2, I2, r2, q2⟩ => hm pins s2 σ H2 x vs v us Q I2 r1 r2 q2
end
def MtM (X : Cx) (id : String) (r : V -> List V -> Hp -> VK -> Prop) : Prop :=
 ∀ (pins : OP) (s : Shared) (σ : St) (H : Hp) (x : V) (xs : List V) (v : Value) (us : List Value) (Q : VK), Inv X pins σ H s -> RelV x v -> Vals xs us -> r x xs H Q ->
  wpAny (model X.prog X.w) X.A (call (.builtin id) (v :: us)) (EP X pins σ Q) X.xe s
theorem Vals.one : ∀ {x : V} {us : List Value}, Vals [x] us -> ∃ u, us = [u] /\ RelV x u
 | _, _, .cons r .nil => ⟨_, rfl, r⟩
theorem Vals.two : ∀ {x y : V} {us : List Value}, Vals [x, y] us -> ∃ u v, us = [u, v] /\ RelV x u /\ RelV y v
 | _, _, _, .cons r (.cons q .nil) => ⟨_, _, rfl, r, q⟩
theorem Vals.zero : ∀ {us : List Value}, Vals [] us -> us = []
 | _, .nil => rfl
theorem Vals.dropLast {xs : List V} {us : List Value} (h : Vals xs us) : Vals xs.dropLast us.dropLast := by
 induction h with
 | nil => exact .nil
 | cons r t ih =>
  cases t with
  | nil => exact .nil
  | cons q t' => exact .cons r ih
theorem Vals.rep {xs : List V} {us : List Value} (h : Vals xs us) : ∀ k : Nat, Vals (List.replicate k xs).flatten (List.replicate k us).flatten
 | 0 => .nil
 | k + 1 => by
  rw [replicate_succ, replicate_succ, flatten_cons, flatten_cons]
  exact Vals.append h (Vals.rep h k)
theorem foldl_rep (its : List Value) : ∀ (k : Nat) (acc : List Value),
  List.foldl (fun x1 x2 => x1 ++ x2) acc.toArray (List.replicate k its.toArray) = (acc ++ (List.replicate k its).flatten).toArray
 | 0, acc => by simp
 | k + 1, acc => by
  have e : acc.toArray ++ its.toArray = (acc ++ its).toArray := by simp
  have e2 : (acc ++ its) ++ (List.replicate k its).flatten = acc ++ (List.replicate (k + 1) its).flatten := by
   rw [replicate_succ, flatten_cons, append_assoc]
  rw [<- e2, <- foldl_rep its k (acc ++ its), <- e, replicate_succ, List.foldl_cons]
section
variable {X : Cx} {pins : OP} {σ : St} {H : Hp} {s : Shared} {l b : Addr} {xs ys zs : List V}
theorem Inv.lset {its its' : List Value} {n : Nat} {f : Array Value -> Array Value} {t' : Nat} (I : Inv X pins σ H s) (hH : H l = some (.lst xs))
  (e : s.heap.get? l = some { cls := .type "list", data := .seq its.toArray n }) (hf : f its.toArray = its'.toArray) (hv : Vals ys its') (hz : ys.length <= sizeLine) :
  Inv X pins σ (upd H l (.lst ys)) { s with heap := s.heap.update l (Obj.mapSeq f), toks := t' } := by
 have q := PySem.IsL.update e f
 rw [hf] at q
 refine I.write (x := l) (e := l) (by rw [hH]; exact trivial) (.inl rfl) (fun b' u hb hu => (Heap.get?_update_other s.heap (Obj.mapSeq f) (Ne.symm hb)).trans hu) ⟨_, q⟩ ?_
 exact ⟨hz, its', _, hv, q⟩
theorem Inv.lnew {its : List Value} {t' : Nat} (I : Inv X pins σ H s) (hv : Vals ys its) (hz : ys.length <= sizeLine) :
  Inv X pins σ (upd H s.heap.objs.size (.lst ys)) { s with heap := s.heap.push { cls := .type "list", data := .seq its.toArray }, toks := t' } :=
 I.laid (fun _ _ q => Heap.get?_push_of_some _ q) (le_refl _) ⟨hz, its, 0, hv, Heap.get?_push_size _ rfl⟩
theorem Inv.fresh (I : Inv X pins σ H s) : H s.heap.objs.size = none := I.hok.fresh (le_refl _)
theorem Inv.lstM (I : Inv X pins σ H s) (hH : H l = some (.lst xs)) : xs.length <= sizeLine /\ ∃ (its : List Value) (n : Nat), Vals xs its /\ xs.length = its.length /\ s.heap.get? l = some { cls := .type "list", data := .seq its.toArray n } := by
 obtain ⟨z, its, n, r, e⟩ := I.hok l _ hH
 exact ⟨z, its, n, r, r.length, e⟩
theorem Dt {n : Nat} (h : n <= sizeLine) : Builtin.List.listTooLong n = false := by
 unfold Builtin.List.listTooLong
 exact decide_eq_false Z1
end
section
variable {X : Cx}
def HY : V -> List V -> Hp -> VK -> Prop := fun x vs H Q => ∃ l xs y, x = .ref l /\ vs = [y] /\ H l = some (.lst xs) /\ xs.length < sizeLine /\ Q .non (upd H l (.lst (xs ++ [y])))
theorem eV : MtM X "list.append" HY := by
 intro pins s σ H x vs v us Q I rx rv h
 obtain ⟨l, xs, y, rfl, rfl, hH, hz, q⟩ := h
 cases rx
 obtain ⟨u, rfl, ru⟩ := rv.one
 obtain ⟨z, its, n, r, hl, e⟩ := I.lstM hH
 refine call_meets F.slot_list_append ⟨_, e, rfl⟩ F.entry_list_append (F.args_list_append_2 _ _) (list_append l its.toArray n u (by rw [size_toArray]; omega)) ⟨e, ?_⟩
 refine ⟨.non, _, I.lset (its' := its ++ [u]) hH e Z2 (r.append (.cons ru .nil)) ?_, rfl, q⟩
 rw [length_append, List.length_singleton]
 omega
def Rq : R2 := fun x y H Q => ∃ l b xs zs, x = .ref l /\ y = .ref b /\ H l = some (.lst xs) /\ H b = some (.lst zs) /\ xs.length + zs.length <= sizeLine /\ ∀ p, H p = none -> Q (.ref p) (upd H p (.lst (xs ++ zs)))
theorem yV : OpR X (binaryOp .Add) Rq := by
 intro pins s σ H x y v u Q I rx ry h
 obtain ⟨l, b, xs, zs, rfl, rfl, hH, hB, hz, q⟩ := h
 cases rx
 cases ry
 obtain ⟨z, its, n, r, hl, e⟩ := I.lstM hH
 obtain ⟨z2, its2, n2, r2, hl2, e2⟩ := I.lstM hB
 refine PySem.P.add_list e e2 ?_ (by rw [size_toArray, size_toArray]; omega)
 have ea : its.toArray ++ its2.toArray = (its ++ its2).toArray := by simp
 rw [ea]
 exact ⟨.ref _, _, I.lnew (t' := s.toks) (r.append r2) (by rw [length_append]; omega), rfl, q _ I.fresh⟩
def Qi : R2 := fun x y H Q => ∃ l k xs, x = .ref l /\ y = .int k /\ H l = some (.lst xs) /\ -(2 ^ 63) <= k /\ k < 2 ^ 63 /\ xs.length * k.toNat <= sizeLine /\
 ∀ p, H p = none -> Q (.ref p) (upd H p (.lst (List.replicate k.toNat xs).flatten))
theorem len_rep {α : Type} (xs : List α) (k : Nat) : (List.replicate k xs).flatten.length = k * xs.length := by
 induction k with
 | zero => simp
 | succ k ih => rw [replicate_succ, flatten_cons, length_append, ih, Nat.succ_mul, Nat.add_comm]
theorem Li : OpR X (binaryOp .Mult) Qi := by
 intro pins s σ H x y v u Q I rx ry h
 obtain ⟨l, k, xs, rfl, rfl, hH, h1, h2, hz, q⟩ := h
 cases rx
 obtain ⟨t, rfl⟩ := ry
 obtain ⟨z, its, n, r, hl, e⟩ := I.lstM hH
 have hlen : its.toArray.size * k.toNat <= sizeLine := by rw [size_toArray, <- hl]; exact hz
 have hcap : ¬ its.toArray.size * k.toNat > (2 ^ 63 - 1) / 8 := by
  have : (sizeLine : Nat) <= (2 ^ 63 - 1) / 8 := by decide
  omega
 have hfit : ¬ (!Builtin.List.listFitsIndex k) = true := by
  rw [fitsIndex_both h1 h2]
  exact Bool.false_ne_true
 have hlong : ¬ Builtin.List.listTooLong (its.toArray.size * k.toNat) = true := by
  rw [Dt hlen]
  exact Bool.false_ne_true
 have hnew : List.foldl (fun x1 x2 => x1 ++ x2) #[] (List.replicate (if its.toArray.isEmpty = true then 0 else k.toNat) its.toArray) = (List.replicate k.toNat its).flatten.toArray := by
  have f0 : ∀ m : Nat, List.foldl (fun x1 x2 => x1 ++ x2) #[] (List.replicate m its.toArray) = (List.replicate m its).flatten.toArray := fun m => by
   have := foldl_rep its m []
   rw [nil_append] at this
   exact this
  rw [f0]
  cases its with
  | nil => simp
  | cons a r' => rw [if_neg Z2]
 refine wpAny_binaryOp_repeat_ref (T := "list") (U := "int") Z0 ⟨_, e, rfl⟩ (fun s' => typeIs_int s' k t) noFill_list_mul F.fills_int_mul F.slot_int_rmul repeat_list F.slot_int_index.lookup
  (call_meets F.slot_int_rmul (typeIs_int s k t) F.entry_int_rmul (F.args_int_rmul_2 _ _) (int___rmul___int_list k t l its.toArray n)
   ⟨e, rfl, ⟨_, e, rfl⟩, call_meets F.slot_list_mul ⟨_, e, rfl⟩ F.entry_list_mul (F.args_list_mul_2 _ _) (AutoListH.list___mul___list_int_3 l its.toArray n k t hfit hcap hlong) ⟨e, ?_⟩⟩)
 rw [hnew]
 exact ⟨.ref _, _, I.lnew (t' := s.toks) (r.rep k.toNat) (by rw [len_rep, Nat.mul_comm]; exact hz), rfl, q _ I.fresh⟩
end
section
variable {prog : Program} {w : World} {A : Around} {E : EV} {s : Shared}
end
section
variable {X : Cx}
end
end L2
namespace Att
open PySem PySem.W PySem.Calls PyProof.Rows
theorem p6 {P : Params} {h : Heap} : ∀ (ns : List Int) (vs : List Value), WellAll P h vs (ns.map WData.int) -> IntsAre vs ns := by
 intro ns
 induction ns with
 | nil =>
  intro vs w
  rw [map_nil] at w
  cases w
  exact .nil
 | cons n ns ih =>
  intro vs w
  rw [map_cons] at w
  cases w with
  | cons a b =>
   cases a
   exact .cons _ _ (ih _ b)
theorem Cj {l : OpenLaw} {n : Nat} (hn : l.most = some n) {P : Params} {h : Heap} {args : List WData} {vals : List Value}
  (hpre : l.row.toRowW.claim.pre args = true) (hwl : WellAll P h vals args) :
  ∃ a vs ns, vals = [Value.ref a] /\ args = [WData.list (ns.map WData.int)] /\ h.get? a = some { cls := .type "list", data := .seq vs.toArray } /\ IntsAre vs ns /\ ns.length <= n := by
 have hsh : WShape.hasAll [] args [.list .int] = true := (pre_splitW hpre).1
 have hc : l.pre.holds [] { args := args } = true := (pre_splitW hpre).2
 obtain ⟨d, r, rfl, h1, h2⟩ := hasAllW_cons hsh
 obtain rfl := hasAllW_nil h2
 obtain ⟨xs, rfl, h3⟩ := hasW_list h1
 obtain ⟨ns, rfl⟩ := items_int h3
 have hlen : ns.length <= n := by
  unfold OpenLaw.pre at hc
  have h4 : (WTm.not (.lt (.lit (.int (n : Int))) (.len (.arg 0)))).holds [] { args := [.list (ns.map .int)] } = true := by
   have h4 := (holds_andW hc).1
   rw [hn] at h4
   exact h4
  have h5 := condW_of h4 (w_not (w_lt w_lit (w_len_list (w_arg rfl))))
  rw [length_map] at h5
  refine Nat.le_of_not_lt fun q => ?_
  have q' : (n : Int) < ((ns.length : Nat) : Int) := by omega
  first
   | (rw [decide_eq_true q'] at h5; exact absurd h5 Z0)
   | (simp at h5; omega)
 cases hwl with
 | cons w1 w2 =>
  cases w2
  cases w1 with
  | list ho hall => exact ⟨_, _, ns, rfl, rfl, ho, p6 ns _ hall, hlen⟩
theorem CV (l : OpenLaw) (args : List WData) : l.row.toRowW.claim.post args (.bool true) args = true :=
 postW_of (r := l.row.toRowW) (X := (true == true))
  (show WShape.has [] (.bool true) .bool = true by first | rfl | decide | simp [WShape.has, WShape.arms, WShape.armsAll])
  (show (WTm.eq .res (.lit (.bool true))).value [] { args := args, res := some (.bool true), after := args } = some (.bool (true == true)) from w_eq_bool (w_res rfl) w_lit) rfl
theorem attach_call {l : OpenLaw} {n : Nat} {q : Program} {loose : List Str} {XP : (Str -> Option Value) -> Heap -> Prop} {YP : World -> Heap -> Prop} {d : DefRec}
  (hn : l.most = some n) (hdf : d.params.defaults = [])
  (call : ∀ (w : World) (s₀ s₁ : Shared) (mg mb : MG) (fa : Addr) (o : Obj) (pm cd doc : Value) (a : Addr) (vs : List Value) (ns : List Int),
   Ground q loose [] XP w s₀ mg mb s₁.heap -> YP w s₁.heap ->
   s₁.heap.get? fa = some o -> o.data = .func (docDef d.name d.params d.body d.scope pm cd doc) -> s₁.heap.CodeRec cd d.name -> mg d.name = some (.ref fa) ->
   s₁.heap.get? a = some { cls := .type "list", data := .seq vs.toArray } -> IntsAre vs ns -> ns.length <= n -> s₁.gens = #[] ->
   codeAny (model l.prog w) callerA (.call (.ref fa) ⟨[.ref a], []⟩) (fun r s' => r = .ok (.ret (.bool true)) /\ OldK s₁.heap s'.heap /\ s'.os = s₁.os /\ AllBare s'.gens) s₁) :
  WalkO q loose XP YP l.row.toRowW d [] (fun f vs => PySem.call f vs) := by
 intro w s₀ s₁ mg mb G Y fa o pm cd doc dV kV ho hd hcd hD hmg hg args vals as hpre hlay hrd hwl hlo
 obtain rfl : dV = .none := Dflts.none hD hdf
 obtain rfl : kV = .none := Dflts.noKw hD
 obtain ⟨a, vs, ns, rfl, rfl, hobj, hints, hlen⟩ := Cj hn hpre hwl
 refine enter_call (codeAny_mono (call w s₀ s₁ mg mb fa o pm cd doc a vs ns G Y ho (fd_plain hd) hcd hmg hobj hints hlen hg) fun r s' hq => ?_)
 obtain ⟨rfl, h2, h3, h4⟩ := hq
 exact ⟨.inl ⟨.bool true, .bool true, [], rfl, fun _ => rfl, .bool true, CV l _, fun _ => ⟨List.Pairwise.nil, fun _ hm => (nomatch hm)⟩⟩, h2, h3, h4⟩
section
variable {prog : Program} {w : World} {A : Around} {E : EV} {s : Shared} {K : Frag}
def ledger (h : Heap) (L d : Addr) : OP := (List.range h.objs.size).filterMap fun a => if a = L \/ a = d then none else (h.get? a).map fun o => (a, o)
end
end Att
namespace L2
open PySem PySem.Spec PyProof.Rows
theorem uz : ∀ {vs : List Value} {ns : List Int}, IntsAre vs ns -> Vals (ns.map V.int) vs
 | _, _, .nil => .nil
 | _, _, .cons n t h => .cons ⟨t, rfl⟩ (uz h)
def Only (H : Hp) : Prop := ∀ b, H b = none \/ ∃ o xs, H b = some (.frz o (.lst xs))
theorem Hi {P : Program} {w : World} {K : Frag} {mg mb : MG} {CX : CXT} {k : Nat} {fa a : Addr} {fd : FuncData} {x : Str} {sp : Sp} {s₁ : Shared} {vs : List Value} {ns : List Int}
  (KX : K.In s₁.heap) (hns : s₁.heap.Ns mainGlobals mg) (hb : s₁.heap.Ns builtinsNs mb) (hbb : ∀ x : Str, x ≠ "__name__" -> mb x = bootBuiltins x) (hlim : s₁.heap.NoLimit) (hg : s₁.gens = #[])
  (ha : s₁.heap.get? a = some { cls := .type "list", data := .seq vs.toArray }) (hi : IntsAre vs ns) (hl : ns.length <= sizeLine) (hr : aX k callerA)
  (F : ∀ base : Heap, K.In base -> base.Ns mainGlobals mg -> aJ P w K mg base CX k fa fd [x] sp) (hbind : ∀ (s : Shared) (u : Value), BindsTo s fd ⟨[u], []⟩ [(x, u)])
  (hsp : ∀ H : Hp, Only H -> SqL K H a (ns.map V.int) -> sp [.ref a] H (fun v _ => v = .bl true) fun _ _ _ => False)
  (hCX : ∀ H e s', CX [] H s₁ (fun _ _ _ => False) e s' -> False) :
  codeAny (model P w) callerA (.call (.ref fa) ⟨[.ref a], []⟩) (fun r s' => r = .ok (.ret (.bool true)) /\ OldK s₁.heap s'.heap /\ s'.os = s₁.os /\ AllBare s'.gens) s₁ := by
 have rv := uz hi
 have lenV := hi.length
 have core : ∀ H : Hp, Only H -> SqL K H a (ns.map V.int) -> HOk P w H s₁.heap -> (∀ b, H b ≠ none -> b = a) -> (H a ≠ none -> K.lookup a = none) ->
   codeAny (model P w) callerA (.call (.ref fa) ⟨[.ref a], []⟩) (fun r s' => r = .ok (.ret (.bool true)) /\ OldK s₁.heap s'.heap /\ s'.os = s₁.os /\ AllBare s'.gens) s₁ := by
  intro H hO hS hok hA hK
  have base_of : ∀ {b : Addr} {o : Obj}, s₁.heap.get? b = some o -> H b = none -> (vM s₁.heap H).get? b = some o := fun e n => GZ e n
  have noA : ∀ {b : Addr} {o : Obj} {es : Array DictEntry} {ep : Nat}, s₁.heap.get? b = some o -> o.data = .dict es ep -> H b = none := fun {b o es ep} e d => by
   cases q : H b with
   | none => rfl
   | some u =>
    have e' : b = a := hA b (by rw [q]; simp)
    subst e'
    rw [ha] at e; cases e
    have d' : Data.seq vs.toArray _ = Data.dict es ep := d
    cases d'
  have nsK : ∀ {b : Addr} {m : MG}, s₁.heap.Ns b m -> (vM s₁.heap H).Ns b m := fun {b m} ⟨o, es, ep, e, d, r⟩ => ⟨o, es, ep, base_of e (noA e d), d, r⟩
  have hKb : K.In (vM s₁.heap H) := fun b o e => base_of (KX b o e) (by
   cases q : H b with
   | none => rfl
   | some u =>
    have e' : b = a := hA b (by rw [q]; simp)
    subst e'
    rw [hK (by rw [q]; simp)] at e; cases e)
  have hM : Mod K mg (vM s₁.heap H) := ⟨hKb, nsK hns, ⟨mb, nsK hb, hbb⟩, let ⟨mc, h1, h2⟩ := hlim; ⟨mc, nsK h1, h2⟩⟩
  have e0 : pA P w K mg (vM s₁.heap H) callerA [] s₁ H := ⟨rfl, hM, fun b o e => Ju e, le_of_eq (CW _ _), trivial, fun b hb => absurd (show b ∈ ([] : List Addr) from hb) Z2, hok, .of_eq hg⟩
  refine codeAny_mono ((F _ hKb (nsK hns)).run callerA [] s₁ H ⟨[.ref a], []⟩ [.ref a] [.ref a] _ _ hr e0 (hbind s₁ (.ref a)) (.cons rfl .nil) (hsp H hO hS)) fun r s' h => ?_
  cases r with
  | error e => exact (hCX H e s' h).elim
  | ok fl =>
   cases fl with
   | next => exact False.elim h
   | brk => exact False.elim h
   | cont => exact False.elim h
   | ret u =>
    obtain ⟨v, H', os, bare, un, hok', r', q⟩ := h
    have q' : v = .bl true := q
    subst q'
    obtain rfl : u = Value.bool true := r'
    refine ⟨rfl, OldK.of_keep fun b o e => ?_, os, bare⟩
    cases q : H b with
    | none => exact un.keep b o e q (by intro z; exact absurd (show b ∈ ([] : List Addr) from z) Z2) Z2
    | some u =>
     rcases hO b with z | ⟨ob, xs, z⟩
     ·rw [q] at z; cases z
     ·have z2 := un.frzs b ob _ z
      obtain ⟨e1, _⟩ := hok b _ z
      obtain ⟨e2, _⟩ := hok' b _ z2
      rw [e] at e1; cases e1
      exact e2
 cases hk : K.lookup a with
 | some o =>
  have e := KX a o hk
  rw [ha] at e
  cases e
  refine core (fun _ => none) (fun _ => .inl rfl) (.inr ⟨_, vs.toArray, _, hk, rfl, rfl, rfl, by rw [size_toArray, lenV]; exact hl, by simpa using rv, by simp [V.isK]⟩) (fun b u z => by have z' : (none : Option HO) = some u := z; cases z') (fun b z => absurd rfl z) fun z => absurd rfl z
 | none =>
  refine core (fun b => if b = a then some (.frz { cls := .type "list", data := .seq vs.toArray } (.lst (ns.map V.int))) else none) (fun b => ?_) (.inl (.inr ⟨{ cls := .type "list", data := .seq vs.toArray }, if_pos rfl⟩)) (fun b u z => ?_) (fun b z => ?_) fun _ => hk
  ·by_cases hb : b = a
   ·exact .inr ⟨_, _, if_pos hb⟩
   ·exact .inl (if_neg hb)
  ·by_cases hb : b = a
   ·have z' := (if_pos hb).symm.trans z
    cases z'
    subst hb
    exact ⟨ha, by rw [length_map]; exact hl, vs, _, rv, ha⟩
   ·have z' := (if_neg hb).symm.trans z
    cases z'
  ·by_cases hb : b = a
   ·exact hb
   ·exact absurd (if_neg hb) z
abbrev KOf {K : Frag} {h : Heap} (_ : K.In h) : Frag := K
theorem Ht {l : OpenLaw} {n k : Nat} {q : Program} {loose : List Str} {XP : (Str -> Option Value) -> Heap -> Prop} {YP : World -> Heap -> Prop} {d : DefRec} {K : Params -> Frag} {CX : World -> CXT} {sp : World -> Sp} {x : Str}
  (hn : l.most = some n) (hn2 : n <= sizeLine) (hdf : d.params.defaults = []) (hr : aX k callerA)
  (hY : ∀ (w : World) (h : Heap), YP w h -> (K w.params).In h)
  (F : ∀ (w : World) (mg : MG) (fa : Addr) (h : Heap), (K w.params).In h -> h.Ns mainGlobals mg -> mg d.name = some (.ref fa) ->
   ∃ fd : FuncData, (∀ (s : Shared) (u : Value), BindsTo s fd ⟨[u], []⟩ [(x, u)]) /\
    ∀ base : Heap, (K w.params).In base -> base.Ns mainGlobals mg -> aJ l.prog w (K w.params) mg base (CX w) k fa fd [x] (sp w))
  (hsp : ∀ (w : World) (H : Hp) (a : Addr) (ns : List Int), ns.length <= n -> Only H -> SqL (K w.params) H a (ns.map V.int) -> sp w [.ref a] H (fun v _ => v = .bl true) fun _ _ _ => False)
  (hCX : ∀ (w : World) (H : Hp) (s : Shared) (e : Value) (s' : Shared), CX w [] H s (fun _ _ _ => False) e s' -> False) :
  WalkO q loose XP YP l.row.toRowW d [] (fun f vs => PySem.call f vs) := by
 refine Att.attach_call hn hdf fun w s₀ s₁ mg mb fa o pm cd doc a vs ns G Y ho hd hcd hmg hobj hints hlen hg => ?_
 have KX := hY w _ Y
 obtain ⟨fd, hb, hF⟩ := F w mg fa _ KX G.T.g hmg
 exact Hi KX G.T.g G.T.b G.T.builtins G.T.nolimit hg hobj hints (le_trans hlen hn2) hr hF hb (fun H hO hS => hsp w H a ns hlen hO hS) fun H e s' => hCX w H s₁ e s'
def cG (s : Stmt) : Arguments := match s with
 | .FunctionDef _ a _ _ _ _ _ _ _ _ => a
 | _ => { posonlyargs := [], args := [], vararg := none, kwonlyargs := [], kw_defaults := [], kwarg := none, defaults := [] }
def bQ (s : Stmt) : List Stmt := match s with
 | .FunctionDef _ _ b _ _ _ _ _ _ _ => b
 | _ => []
def az (s : Stmt) : Scope := match s with
 | .FunctionDef _ _ _ _ _ _ sc _ _ _ => sc
 | _ => { kind := .function, names := [], isGenerator := false, isCoroutine := false }
abbrev CX0 : CXT := fun _ _ _ _ _ _ => False
abbrev E0 : XK := fun _ _ _ => False
theorem wX {X : Cx} : kh CX0 X E0 := fun _ _ _ _ _ _ _ h => h.elim
structure Fun (K : Frag) (x qual : Str) (st : Stmt) (f : Addr) (fd : FuncData) : Prop where
 ex : ∃ (oc : Value) (od : Option Addr) (kV doc pm : Value) (an : Option Addr) (cdv ct : Value) (osl : Array (Option Value)),
  fd = fnOf x qual (cG st) (bQ st) (az st) .none kV doc pm an cdv ct /\ K.lookup f = some ⟨oc, od, .func fd, osl⟩ /\ codeIn K cdv qual = true
 kp : keepIn K (.ref f) = true
section
variable {P : Program} {w : World} {K : Frag} {mg : MG} {base : Heap}
theorem Fun.ok {x qual : Str} {st : Stmt} {f : Addr} {fd : FuncData} {N ps : List Str} {k : Nat} {sp : Sp} (F : Fun K x qual st f fd) (S : aG N ps (az st)) (len : ∀ vs H Q E, sp vs H Q E -> vs.length = ps.length)
  (hbody : ∀ (cdv : Value) (A : Around) (outer : List Env) (s : Shared) (H : Hp) (vs : List V) (Q : VK) (E : XK), aX k (A.deeper (envOfC qual (az st) s.heap.objs.size f cdv)) -> sp vs H Q E ->
   ∃ t, PSs (jy CX0 P w K mg base N qual (az st) f cdv A outer s H E).nox (bQ st) t /\ t { nx := fun _ H' => Q .non H', rt := Q } (start N vs) H) : aJ P w K mg base CX0 (k + 1) f fd ps sp := by
 obtain ⟨oc, od, kV, doc, pm, an, cdv, ct, osl, rfl, lk, hcd⟩ := F.ex
 refine JV lk hcd S len fun A outer s H vs Q E hr hsp => ?_
 obtain ⟨t, h, q⟩ := hbody cdv A outer s H vs Q E hr hsp
 exact ⟨t, h.nox, q⟩
theorem Fun.binds {x qual : Str} {st : Stmt} {f : Addr} {fd : FuncData} {ps : List Str} (F : Fun K x qual st f fd)
  (h : ∀ (kV doc pm : Value) (an : Option Addr) (cdv ct : Value) (us : List Value), us.length = ps.length -> bindArgs (fnOf x qual (cG st) (bQ st) (az st) .none kV doc pm an cdv ct) ⟨us, []⟩ = pure (ps.zip us)) : Binds K fd ps [] := by
 obtain ⟨oc, od, kV, doc, pm, an, cdv, ct, osl, rfl, lk, hcd⟩ := F.ex
 exact .all (h kV doc pm an cdv ct)
theorem Fz {x qual : Str} {st : Stmt} {f : Addr} {oc : Value} {od an : Option Addr} {osl : Array (Option Value)} {kV doc pm cdv ct : Value} (l : K.lookup f = some ⟨oc, od, .func (fnOf x qual (cG st) (bQ st) (az st) .none kV doc pm an cdv ct), osl⟩)
  (c : codeIn K cdv qual = true) (k : keepIn K (.ref f) = true) : Fun K x qual st f (fnOf x qual (cG st) (bQ st) (az st) .none kV doc pm an cdv ct) := ⟨⟨oc, od, kV, doc, pm, an, cdv, ct, osl, rfl, l, c⟩, k⟩
end
section
variable {X : Cx}
theorem pv (i : Nat) {x : Str} {pos : Pos} (hN : X.N[i]? = some x := by rfl) (hv : Vis X.env.scope x := by first | exact Or.inl rfl | exact Or.inr (Or.inl rfl) | exact Or.inr (Or.inr rfl)) (hd : (x == ("__debug__" : Str)) = false := by decide)
  (hcd : (x == ("__classdict__" : Str)) = false := by decide) : PE X (.Name x pos) (yS i) := MJ hN hv hd hcd
end
theorem bZ {A B : Prop} (h : B) : if false = true then A else B := by
 rw [if_neg Bool.false_ne_true]
 exact h
theorem wZ {A B : Prop} (h : A) : if true = true then A else B := by
 rw [if_pos rfl]
 exact h
def au (H H' : Hp) : Prop := ∀ b o, H b = some o -> H' b = some o
theorem au.refl (H : Hp) : au H H := fun _ _ h => h
theorem au.trans {H H1 H2 : Hp} (a : au H H1) (b : au H1 H2) : au H H2 := fun c o h => b c o (a c o h)
theorem au.free {H H' : Hp} (e : au H H') {l : Addr} (h : H' l = Option.none) : H l = Option.none := by
 cases q : H l with
 | none => rfl
 | some o =>
  rw [e l o q] at h
  cases h
theorem au.seq {K : Frag} {H H' : Hp} {a : Addr} {xs : List V} (e : au H H') (h : SqL K H a xs) : SqL K H' a xs := by
 rcases h with (h | ⟨o, h⟩) | h
 ·exact .inl (.inl (e _ _ h))
 ·exact .inl (.inr ⟨o, e _ _ h⟩)
 ·exact .inr h
section
variable {κ : Type} [DecidableEq κ]
def qg (kvs : List (κ × V)) (k : κ) : Option V := (kvs.find? fun kv => decide (kv.1 = k)).map (·.2)
def putK (kvs : List (κ × V)) (k : κ) (v : V) : List (κ × V) :=
 if (kvs.any fun kv => decide (kv.1 = k)) = true then kvs.map (fun kv => if kv.1 = k then (kv.1, v) else kv) else kvs ++ [(k, v)]
def Kq (kvs : List (κ × V)) (k : κ) : List (κ × V) := kvs.filter fun kv => decide (kv.1 ≠ k)
theorem rQ {p : κ × V} {r : List (κ × V)} {k : κ} (e : p.1 = k) : qg (p :: r) k = some p.2 := by simp [qg, find?_cons, e]
theorem rG {p : κ × V} {r : List (κ × V)} {k : κ} (e : ¬ p.1 = k) : qg (p :: r) k = qg r k := by simp [qg, find?_cons, e]
theorem yc (k : κ) : ∀ kvs : List (κ × V), (kvs.any fun kv => decide (kv.1 = k)) = (qg kvs k).isSome
 | [] => rfl
 | p :: r => by
  rw [any_cons]
  by_cases e : p.1 = k
  ·simp only [rQ e, decide_eq_true e, Bool.true_or, Option.isSome_some]
  ·rw [rG e, decide_eq_false e, Bool.false_or]; exact yc k r
theorem jh.isSome_eq {o : Option V} {u : Option Value} (r : jh o u) : o.isSome = u.isSome := by
 cases o with
 | none => cases u with
  | none => rfl
  | some _ => exact (show False from r).elim
 | some _ => cases u with
  | none => exact (show False from r).elim
  | some _ => rfl
theorem jh.getD {o : Option V} {u : Option Value} {d : V} {d' : Value} (r : jh o u) (rd : RelV d d') : RelV (o.getD d) (u.getD d') := by
 cases o with
 | none => cases u with
  | none => exact rd
  | some _ => exact (show False from r).elim
 | some _ => cases u with
  | none => exact (show False from r).elim
  | some _ => exact r
theorem KV.val {kvs : List (κ × V)} {vs : List (κ × Value)} (r : KV kvs vs) (k : κ) : jh (qg kvs k) (valueAt vs k) := by
 unfold KV at r
 induction r with
 | nil => exact True.intro
 | @cons p q ps qs h t ih =>
  obtain ⟨h1, h2⟩ := h
  by_cases e : p.1 = k
  ·have e' : q.1 = k := h1.symm.trans e
   have b : valueAt (q :: qs) k = some q.2 := by simp [valueAt, find?_cons, e']
   rw [rQ e, b]; exact h2
  ·have e' : ¬ q.1 = k := fun z => e (h1.trans z)
   have b : valueAt (q :: qs) k = valueAt qs k := by simp [valueAt, find?_cons, e']
   rw [rG e, b]; exact ih
theorem KV.any {kvs : List (κ × V)} {vs : List (κ × Value)} (r : KV kvs vs) (k : κ) : (kvs.any fun kv => decide (kv.1 = k)) = vs.any fun kv => decide (kv.1 = k) := by
 unfold KV at r
 induction r with
 | nil => rfl
 | cons h t ih => rw [any_cons, any_cons, ih, h.1]
theorem KV.repl {kvs : List (κ × V)} {vs : List (κ × Value)} (r : KV kvs vs) (k : κ) {y : V} {u : Value} (ry : RelV y u) :
  KV (kvs.map fun kv => if kv.1 = k then (kv.1, y) else kv) (vs.map fun kv => if kv.1 = k then (kv.1, u) else kv) := by
 unfold KV at r ⊢
 induction r with
 | nil => exact .nil
 | @cons p q ps qs h t ih =>
  rw [map_cons, map_cons]
  refine .cons ?_ ih
  obtain ⟨h1, h2⟩ := h
  by_cases e : p.1 = k
  ·rw [if_pos e, if_pos (h1.symm.trans e)]; exact ⟨h1, ry⟩
  ·rw [if_neg e, if_neg (fun z => e (h1.trans z))]; exact ⟨h1, h2⟩
theorem KV.put {kvs : List (κ × V)} {vs : List (κ × Value)} (r : KV kvs vs) (k : κ) {y : V} {u : Value} (ry : RelV y u) : KV (putK kvs k y) (stored vs k u) := by
 unfold putK stored
 rw [r.any k]
 by_cases e : (vs.any fun kv => decide (kv.1 = k)) = true
 ·rw [if_pos e, if_pos e]; exact r.repl k ry
 ·rw [if_neg e, if_neg e]; exact Paired.snoc r ⟨rfl, ry⟩
theorem KV.drop {kvs : List (κ × V)} {vs : List (κ × Value)} (r : KV kvs vs) (k : κ) : KV (Kq kvs k) (without vs k) := by
 unfold KV at r ⊢
 unfold Kq without
 induction r with
 | nil => exact .nil
 | @cons p q ps qs h t ih =>
  obtain ⟨h1, h2⟩ := h
  rw [filter_cons, filter_cons]
  by_cases e : p.1 = k
  ·have a : ¬ decide (p.1 ≠ k) = true := by simp [e]
   have b : ¬ decide (q.1 ≠ k) = true := by simp [h1.symm.trans e]
   rw [if_neg a, if_neg b]; exact ih
  ·have e' : ¬ q.1 = k := fun z => e (h1.trans z)
   have a : decide (p.1 ≠ k) = true := by simp [e]
   have b : decide (q.1 ≠ k) = true := by simp [e']
   rw [if_pos a, if_pos b]; exact .cons ⟨h1, h2⟩ ih
theorem KV.keys {kvs : List (κ × V)} {vs : List (κ × Value)} (r : KV kvs vs) : kvs.map (·.1) = vs.map (·.1) := by
 unfold KV at r
 induction r with
 | nil => rfl
 | cons h t ih => rw [map_cons, map_cons, ih, h.1]
theorem KV.length {kvs : List (κ × V)} {vs : List (κ × Value)} (r : KV kvs vs) : kvs.length = vs.length := Paired.length r
end
abbrev KT (H : Hp) : List (List Key × V) -> List (List Key × Addr × Value) -> Prop := Paired fun p q => p.1 = q.1 /\ H q.2.1 = some (.tup (p.1.map kV)) /\ RelV p.2 q.2.2
theorem KT.val {H : Hp} {kvs : List (List Key × V)} {xs : List (List Key × Addr × Value)} (r : KT H kvs xs) (k : List Key) : jh (qg kvs k) ((atKey xs k).map (·.2)) := by
 induction r with
 | nil => exact True.intro
 | @cons p q ps qs h t ih =>
  obtain ⟨h1, _, h2⟩ := h
  by_cases e : p.1 = k
  ·have e' : q.1 = k := h1.symm.trans e
   have b : atKey (q :: qs) k = some q.2 := by simp [atKey, find?_cons, e']
   rw [rQ e, b]; exact h2
  ·have e' : ¬ q.1 = k := fun z => e (h1.trans z)
   have b : atKey (q :: qs) k = atKey qs k := by simp [atKey, find?_cons, e']
   rw [rG e, b]; exact ih
theorem KT.repl {H : Hp} {kvs : List (List Key × V)} {xs : List (List Key × Addr × Value)} (r : KT H kvs xs) (k : List Key) {y : V} {u : Value} (ry : RelV y u) :
  KT H (kvs.map fun kv => if kv.1 = k then (kv.1, y) else kv) (xs.map (putAt k u)) := by
 induction r with
 | nil => exact .nil
 | @cons p q ps qs h t ih =>
  rw [map_cons, map_cons]
  refine .cons ?_ ih
  obtain ⟨h1, h2, h3⟩ := h
  unfold putAt
  by_cases e : p.1 = k
  ·rw [if_pos e, if_pos (h1.symm.trans e)]; exact ⟨h1, h2, ry⟩
  ·rw [if_neg e, if_neg (fun z => e (h1.trans z))]; exact ⟨h1, h2, h3⟩
theorem KT.put {H : Hp} {kvs : List (List Key × V)} {xs : List (List Key × Addr × Value)} (r : KT H kvs xs) (k : List Key) {b : Addr} {y : V} {u : Value} (hb : H b = some (.tup (k.map kV))) (ry : RelV y u) :
  KT H (putK kvs k y) (storedH xs k b u) := by
 have e : (kvs.any fun kv => decide (kv.1 = k)) = (atKey xs k).isSome := by
  rw [yc, (r.val k).isSome_eq, Option.isSome_map]
 unfold putK storedH
 rw [e]
 by_cases q : (atKey xs k).isSome = true
 ·rw [if_pos q, if_pos q]; exact r.repl k ry
 ·rw [if_neg q, if_neg q]; exact Paired.snoc r ⟨rfl, hb, ry⟩
theorem KT.keeps {H H' : Hp} {kvs : List (List Key × V)} {xs : List (List Key × Addr × Value)} (r : KT H kvs xs) (ht : ∀ b ys, H b = some (.tup ys) -> H' b = some (.tup ys)) : KT H' kvs xs :=
 Paired.mapP r fun _ _ z => ⟨z.1, ht _ _ z.2.1, z.2.2⟩
section
variable {P : Program} {w : World} {H : Hp} {h : Heap} {a : Addr}
end
def JC (H : Hp) (a : Addr) (y : V) (r : Option V) : Prop :=
 (∃ kvs k, Rd H a (.dK kvs) /\ y = kV k /\ r = qg kvs k) \/ ∃ kvs k b, Rd H a (.dT kvs) /\ y = .ref b /\ H b = some (.tup (k.map kV)) /\ r = qg kvs k
def Jc (H : Hp) (a : Addr) (y v : V) (H' : Hp) : Prop :=
 (∃ kvs k, H a = some (.dK kvs) /\ y = kV k /\ kvs.length < sizeLine /\ H' = upd H a (.dK (putK kvs k v))) \/
 ∃ kvs k b, H a = some (.dT kvs) /\ y = .ref b /\ H b = some (.tup (k.map kV)) /\ kvs.length < sizeLine /\ H' = upd H a (.dT (putK kvs k v))
theorem JC.k {H : Hp} {a : Addr} {kvs : List (Key × V)} {k : Key} (e : H a = some (.dK kvs)) : JC H a (kV k) (qg kvs k) := .inl ⟨kvs, k, .inl e, rfl, rfl⟩
theorem JC.t {H : Hp} {a b : Addr} {kvs : List (List Key × V)} {k : List Key} (e : H a = some (.dT kvs)) (eb : H b = some (.tup (k.map kV))) : JC H a (.ref b) (qg kvs k) := .inr ⟨kvs, k, b, .inl e, rfl, eb, rfl⟩
theorem Jc.k {H : Hp} {a : Addr} {kvs : List (Key × V)} {k : Key} {v : V} (e : H a = some (.dK kvs)) (hl : kvs.length < sizeLine) : Jc H a (kV k) v (upd H a (.dK (putK kvs k v))) := .inl ⟨kvs, k, e, rfl, hl, rfl⟩
theorem Jc.t {H : Hp} {a b : Addr} {kvs : List (List Key × V)} {k : List Key} {v : V} (e : H a = some (.dT kvs)) (eb : H b = some (.tup (k.map kV))) (hl : kvs.length < sizeLine) :
  Jc H a (.ref b) v (upd H a (.dT (putK kvs k v))) := .inr ⟨kvs, k, b, e, rfl, eb, hl, rfl⟩
section
variable {X : Cx} {pins : OP} {σ : St} {H : Hp} {s : Shared} {a : Addr} {y v : V} {u r : Value} {o : Option V} {A : Around} {E : EV}
theorem Inv.big (I : Inv X pins σ H s) : sysModules < s.heap.objs.size := by
 have h : mainGlobals < s.heap.objs.size := (I.mod.glob.keeps I.bk).lt
 exact Nat.lt_trans Z0 h
end
section
variable {X : Cx} {pins : OP} {σ : St} {H : Hp} {s : Shared} {a : Addr} {kvs : List (Key × V)} {k : Key} {u : Value} {A : Around} {E : EV}
end
section
variable {X : Cx} {o i e value : Expr} {pos pos' tpos : Pos} {td ty tv : TE}
end
theorem Ek {P : Program} {w : World} {H : Hp} (h : Heap) (hb : sysModules < h.objs.size) : cu P w H (h.push { cls := .type "dict", data := .dict #[] }) h.objs.size (.dK []) :=
 ⟨zero_le _, beq_eq_false_iff_ne.mpr (Ne.symm (ne_of_lt hb)), [], .nil, Heap.DictOf.new h⟩
def LK : TE := fun _ H Q => ∀ p, H p = none -> Q (.ref p) (upd H p (.dK []))
section
variable {X : Cx} {pos : Pos}
theorem Gq : PE X (.Dict [] [] pos) LK := fun pins s σ H Q I h =>
 wpAny_Dict_empty ⟨.ref s.heap.objs.size, _, I.laid (a := s.heap.objs.size) (o := .dK []) (t' := s.toks) (fun _ _ q => Heap.get?_push_of_some _ q) (le_refl _) (Ek s.heap I.big), rfl, h _ (I.hok.fresh (le_refl _))⟩
end
structure M1 (X : Cx) (o : Expr) (m : Str) (apos : Pos) (e : Expr) (cpos : Pos) : Prop where
 base : attributeBase o m X.env (eval o X.env) = eval o X.env
 few : ((backTo cpos (starEach [e] X.env)).all (fun x => !x.1) && (backToKw cpos (keywordEach [] X.env)).all (fun x => x.1.isSome)
  && decide (([e] : List Expr).length + ([] : List Keyword).length + (if ([] : List Keyword).isEmpty then 0 else 1) < 30)) = true
 line : (apos.endLine == cpos.line) = true
 trees : backTo cpos (starEach [e] X.env) = [(false, eval e X.env)]
structure M2 (X : Cx) (o : Expr) (m : Str) (apos : Pos) (e f : Expr) (cpos : Pos) : Prop where
 base : attributeBase o m X.env (eval o X.env) = eval o X.env
 few : ((backTo cpos (starEach [e, f] X.env)).all (fun x => !x.1) && (backToKw cpos (keywordEach [] X.env)).all (fun x => x.1.isSome)
  && decide (([e, f] : List Expr).length + ([] : List Keyword).length + (if ([] : List Keyword).isEmpty then 0 else 1) < 30)) = true
 line : (apos.endLine == cpos.line) = true
 trees : backTo cpos (starEach [e, f] X.env) = [(false, eval e X.env), (false, eval f X.env)]
section
variable {X : Cx} {pins : OP} {σ : St} {H : Hp} {s : Shared} {a : Addr} {y d : V} {u r : Value} {o : Option V} {A : Around} {E : EV}
end
section
variable {X : Cx} {o e f : Expr} {apos cpos : Pos} {td ty tx : TE}
end
section
variable {X : Cx} {pins : OP} {σ : St} {H : Hp} {s : Shared} {a : Addr} {kvs : List (Key × V)} {A : Around} {E : EV}
end
section
variable {X : Cx} {pins : OP} {σ : St} {H : Hp} {s : Shared} {a : Addr} {y : V} {u : Value} {A : Around} {E : EV}
end
end L2
set_option maxHeartbeats 4000000
namespace Mine
open PySem PySem.Builtin PySem.Builtin.Str
theorem dO {a b : Str} (h : a.cps.toList = b.cps.toList) : a = b := by
 cases a; cases b
 exact congrArg Str.mk (Array.toList_inj.mp h)
theorem cB (a : Str) : a.length = a.cps.toList.length := by simp [Str.length]
theorem aU (a b : Str) : (a ++ b).cps.toList = a.cps.toList ++ b.cps.toList := by
 show (a.cps ++ b.cps).toList = _
 simp
def inter (c : Nat) : List (List Nat) -> List Nat
 | [] => []
 | [x] => x
 | x :: y :: r => x ++ c :: inter c (y :: r)
theorem bF (c : Nat) : ∀ ys : List Str, (Str.join ⟨#[c]⟩ ys).cps.toList = inter c (ys.map (·.cps.toList))
 | [] => by simp [Str.join, inter, Str.empty]
 | [x] => rfl
 | x :: y :: r => by
  have ih := bF c (y :: r)
  show ((x ++ (⟨#[c]⟩ : Str)) ++ Str.join ⟨#[c]⟩ (y :: r)).cps.toList = _
  rw [aU, aU, ih]
  simp [inter]
theorem lC : ∀ ys : List Str, (Str.join ⟨#[]⟩ ys).cps.toList = (ys.map (·.cps.toList)).flatten
 | [] => by simp [Str.join, Str.empty]
 | [x] => by simp [Str.join]
 | x :: y :: r => by
  have ih := lC (y :: r)
  show ((x ++ (⟨#[]⟩ : Str)) ++ Str.join ⟨#[]⟩ (y :: r)).cps.toList = _
  rw [aU, aU, ih]
  simp
theorem wQ {c : Nat} : ∀ {x y R S : List Nat}, c ∉ x -> c ∉ y -> (R = [] \/ ∃ r, R = c :: r) -> (S = [] \/ ∃ r, S = c :: r) -> x ++ R = y ++ S -> x = y /\ R = S
 | [], [], R, S, _, _, _, _, h => ⟨rfl, h⟩
 | [], b :: y, R, S, _, hy, hR, _, h => by
  rcases hR with rfl | ⟨r, rfl⟩
  ·cases h
  ·have e : c = b := (List.cons.inj h).1
   exact absurd (by rw [<- e]; exact mem_cons_self) hy
 | a :: x, [], R, S, hx, _, _, hS, h => by
  rcases hS with rfl | ⟨r, rfl⟩
  ·cases h
  ·have e : a = c := (List.cons.inj h).1
   exact absurd (by rw [e]; exact mem_cons_self) hx
 | a :: x, b :: y, R, S, hx, hy, hR, hS, h => by
  obtain ⟨e, h'⟩ := List.cons.inj h
  obtain ⟨e2, e3⟩ := wQ (x := x) (y := y) (fun z => hx (mem_cons_of_mem _ z)) (fun z => hy (mem_cons_of_mem _ z)) hR hS h'
  exact ⟨by rw [e, e2], e3⟩
theorem m6 (c : Nat) (x : List Nat) (r : List (List Nat)) : ∃ R, inter c (x :: r) = x ++ R /\ (R = [] \/ ∃ q, R = c :: q) /\ (R = [] ↔ r = []) /\ (∀ q, R = c :: q -> q = inter c r) := by
 cases r with
 | nil => exact ⟨[], by simp [inter], .inl rfl, Z2, fun q h => nomatch h⟩
 | cons y r => exact ⟨c :: inter c (y :: r), rfl, .inr ⟨_, rfl⟩, Z2, fun q h => (List.cons.inj h).2.symm⟩
theorem tX {c : Nat} : ∀ {xs ys : List (List Nat)}, (∀ x ∈ xs, c ∉ x) -> (∀ y ∈ ys, c ∉ y) -> xs ≠ [] -> ys ≠ [] -> inter c xs = inter c ys -> xs = ys
 | [], _, _, _, h, _, _ => absurd rfl h
 | _, [], _, _, _, h, _ => absurd rfl h
 | x :: xs, y :: ys, hx, hy, _, _, h => by
  obtain ⟨R, e1, f1, g1, q1⟩ := m6 c x xs
  obtain ⟨S, e2, f2, g2, q2⟩ := m6 c y ys
  rw [e1, e2] at h
  obtain ⟨a, b⟩ := wQ (hx x mem_cons_self) (hy y mem_cons_self) f1 f2 h
  subst a; subst b
  cases xs with
  | nil =>
   have : ys = [] := g2.mp (g1.mpr rfl)
   rw [this]
  | cons x' xs' =>
   have hR : R ≠ [] := fun z => by cases g1.mp z
   have hys : ys ≠ [] := fun z => hR (g2.mpr z)
   rcases f1 with z | ⟨q, z⟩
   ·exact absurd z hR
   ·have i1 := q1 q z
    have i2 := q2 q z
    rw [tX (fun u hu => hx u (mem_cons_of_mem _ hu)) (fun u hu => hy u (mem_cons_of_mem _ hu)) Z2 hys (i1.symm.trans i2)]
theorem mG : ∀ {xs ys : List Str}, xs.map (·.cps.toList) = ys.map (·.cps.toList) -> xs = ys
 | [], [], _ => rfl
 | [], _ :: _, h => by cases h
 | _ :: _, [], h => by cases h
 | x :: xs, y :: ys, h => by
  obtain ⟨a, b⟩ := List.cons.inj h
  rw [dO a, mG b]
theorem gW (x y : Str) : Txt.split x y ≠ [] := by
 unfold Txt.split
 split
 ·simp
 ·split
  ·simp
  ·intro h
   have := congrArg List.length h
   rw [length_partsBetween] at this
   simp at this
theorem gH (c : Nat) (ys : List Str) (h0 : ys ≠ []) (hf : ∀ y ∈ ys, c ∉ y.cps.toList) : Txt.split (Str.join ⟨#[c]⟩ ys) ⟨#[c]⟩ = ys := by
 refine mG (tX (c := c) ?_ ?_ ?_ ?_ ?_)
 ·intro x hx
  obtain ⟨z, hz, rfl⟩ := mem_map.mp hx
  exact StrLaws.split_free _ c z hz
 ·intro x hx
  obtain ⟨z, hz, rfl⟩ := mem_map.mp hx
  exact hf z hz
 ·intro h; exact gW _ _ (map_eq_nil_iff.mp h)
 ·intro h; exact h0 (map_eq_nil_iff.mp h)
 ·rw [<- bF, <- bF, StrLaws.join_split]
def nP : List Int := [48271, 1000003, 15485863, 32452843, 49979687, 67867967, 86028121, 104395301]
def nZ : List Int := [179424673, 373587883, 573259391, 776531401, 982451653]
def J0 (c k many : Int) : Int := Builtin.bitAnd (c / 2 ^ (1 + 10 * k).toNat) 1023 % many
def yw (c k : Int) : Int := (c / 2 % 2305843009213693951 + 1) * (nP.getD (k % 8).toNat 0 * nZ.getD (k / 8).toNat 0) % 2305843009213693951
def xV (c k : Int) : Int := yw c k * yw c k % 1000000000039
def Gg (c k many : Int) : Int := (xV c k + k + 1) * (xV c k / 10007 + 48271) % 67280421310721 / 31 % many
def pick (c k many : Int) : Int := if c % 2 = 1 /\ 0 < c / 2 ^ (400 : Int).toNat then J0 c k many else Gg c k many
theorem cW (c k : Int) {m : Int} (h : 0 < m) : 0 <= pick c k m := by
 unfold pick; split
 ·exact emod_nonneg _ Z1
 ·exact emod_nonneg _ Z1
theorem cR (c k : Int) {m : Int} (h : 0 < m) : pick c k m < m := by
 unfold pick; split
 ·exact emod_lt_of_pos _ h
 ·exact emod_lt_of_pos _ h
theorem Jl (c k : Int) : 0 <= yw c k := emod_nonneg _ Z0
theorem Jp (c k : Int) : yw c k < 2305843009213693951 := emod_lt_of_pos _ Z0
theorem Hv (c k : Int) : 0 <= xV c k := emod_nonneg _ Z0
theorem IW (c k : Int) : xV c k < 1000000000039 := emod_lt_of_pos _ Z0
theorem Ii {k : Int} (h0 : 0 <= k) (h1 : k < 8) : nP[k.toNat]? = some (nP.getD k.toNat 0) /\ 0 < nP.getD k.toNat 0 /\ nP.getD k.toNat 0 < 1000000000 := by
 have : ∀ n : Fin 8, nP[n.val]? = some (nP.getD n.val 0) /\ 0 < nP.getD n.val 0 /\ nP.getD n.val 0 < 1000000000 := by decide
 exact this ⟨k.toNat, Z1⟩
theorem Hl {k : Int} (h0 : 0 <= k) (h1 : k < 5) : nZ[k.toNat]? = some (nZ.getD k.toNat 0) /\ 0 < nZ.getD k.toNat 0 /\ nZ.getD k.toNat 0 < 1000000000 := by
 have : ∀ n : Fin 5, nZ[n.val]? = some (nZ.getD n.val 0) /\ 0 < nZ.getD n.val 0 /\ nZ.getD n.val 0 < 1000000000 := by decide
 exact this ⟨k.toNat, Z1⟩
theorem Ce {a b : Int} (ha : 0 < a) (ha' : a < 1000000000) (hb : 0 < b) (hb' : b < 1000000000) : 0 < a * b /\ a * b < 1000000000000000000 := by
 have h1 := Int.mul_pos ha hb
 have h2 : a * b <= 1000000000 * b := Int.mul_le_mul_of_nonneg_right Z1 Z1
 exact ⟨h1, Z1⟩
def cell (ns : List Int) (k : Int) : Int := if k < (ns.length : Int) then Builtin.bitAnd (ns.getD k.toNat 0) (1 * 2 ^ (16000 : Int).toNat - 1) else 0
def Pu (c j : Int) : Int := Builtin.bitOr (c / 2 ^ (480 * j).toNat) 1
def subB (c j : Int) : Int := (c / 2 / (j + 1) + 104729 * j) * 2
def sub (c j : Int) : Int := if c % 2 = 1 /\ 0 < c / 2 ^ (480 * j + 400).toNat then Pu c j else subB c j
def number (c far : Int) : Int := if c % 2 = 1 /\ 0 < c / 2 ^ (400 : Int).toNat then c / 2 ^ (400 : Int).toNat % far else c / 2 % far
def letter (c j : Int) : Nat := 97 + (pick c (31 + j) 26).toNat
def Hk (c : Int) : Nat := (1 + pick c 30 8).toNat
def Dj (c : Int) : List Nat := (List.range (Hk c)).map fun (j : Nat) => letter c (j : Int)
def name (c : Int) : Str := ⟨(Dj c).toArray⟩
structure bT (x : Str) : Prop where
 lo : 1 <= x.length
 hi : x.length <= 8
 ok : ∀ n ∈ x.cps.toList, 97 <= n /\ n <= 122
theorem bT.nodot {x : Str} (h : bT x) : 46 ∉ x.cps.toList := fun z => by have := h.ok 46 z; omega
def letters : Str := "abcdefghijklmnopqrstuvwxyz"
theorem yK {k : Int} (h0 : 0 <= k) (h1 : k < 26) : letters.cps.toList[k.toNat]? = some (97 + k.toNat) := by
 have : ∀ n : Fin 26, letters.cps.toList[n.val]? = some (97 + n.val) := by decide +kernel
 exact this ⟨k.toNat, Z1⟩
theorem qT : (("." : Str)) = ⟨#[46]⟩ := by decide +kernel
theorem G7 : (("" : Str)) = ⟨#[]⟩ := by decide +kernel
def dotted (ys : List Str) : Str := Txt.join ("." : Str) ys
theorem fK (ys : List Str) : dotted ys = Str.join ⟨#[46]⟩ ys := by
 unfold dotted
 rw [qT]
 exact StrLaws.glued_eq_join _ ys
theorem fV (ys : List Str) (h0 : ys ≠ []) (hn : ∀ y ∈ ys, bT y) : Txt.split (dotted ys) ("." : Str) = ys := by
 rw [fK, qT]
 exact gH 46 ys h0 fun y hy => (hn y hy).nodot
theorem zW {ys : List Str} {n : Nat} (h : ∀ y ∈ ys, y.length <= n) : (ys.map (·.length)).sum <= ys.length * n := by
 induction ys with
 | nil => simp
 | cons y r ih =>
  have h1 := h y mem_cons_self
  have h2 := ih fun z hz => h z (mem_cons_of_mem _ hz)
  simp only [map_cons, sum_cons, length_cons, Nat.add_mul, Nat.one_mul]
  omega
theorem yW (ys : List Str) : (dotted ys).length <= (ys.map (·.length)).sum + ys.length := by
 rw [fK]
 have := StrLaws.join_length_le ⟨#[46]⟩ ys
 have e : (⟨#[46]⟩ : Str).length = 1 := rfl
 rw [e] at this
 omega
end Mine
namespace L2
open PySem PySem.Spec PyProof.Rows
section
variable {X : Cx}
def JX (K : Frag) : List V -> Hp -> VK -> Prop := fun xs H Q => ∃ x t n b, xs = [x, .ty n] /\ nJ K H x t /\ kitOne K t (.type n) = some b /\ Q (.bl b) H
theorem jx : cX X (.builtin "isinstance") (JX X.K) := by
 intro pins s σ H xs us Q I r h
 obtain ⟨x, t, n, b, rfl, ty, e, q⟩ := h
 obtain ⟨u, u2, rfl, rx, ry⟩ := vals2 r
 cases (show u2 = Value.type n from ry)
 exact CJ I rx ty e fun tk => ⟨.bl b, H, I.tok tk, rfl, q⟩
theorem lF {K : Frag} {n : String} : kitOne K (.type n) (.type n) = some true := by
 unfold kitOne
 rw [if_pos Z2]
theorem uQ {ys : List Str} : ∀ {us : List Value}, Vals (ys.map V.str) us -> StrsAre us ys := by
 induction ys with
 | nil => intro us r; rw [map_nil] at r; cases r; exact .nil
 | cons y ys ih =>
  intro us r
  rw [map_cons] at r
  cases r with
  | cons r1 r2 =>
   obtain ⟨t, e⟩ := r1
   subst e
   exact .cons y t (ih r2)
theorem ud : ∀ (l : List (Str × Tok)), Vals ((l.map (·.1)).map V.str) (strValues l)
 | [] => .nil
 | (y, t) :: l => .cons ⟨t, rfl⟩ (ud l)
def rJoin (K : Frag) : V -> List V -> Hp -> VK -> Prop := fun x vs H Q => ∃ sep p ys, x = .str sep /\ vs = [.ref p] /\ (SqL K H p (ys.map V.str) \/ SqT K H p (ys.map V.str)) /\
 (ys.map (·.length)).sum + ys.length * sep.length <= 16777216 /\ Q (.str (Txt.join sep ys)) H
theorem Ba : MtR X "str.join" (rJoin X.K) := by
 intro pins s σ H x vs v us Q I rx rv h
 obtain ⟨sep, p, ys, rfl, rfl, hq, hz, q⟩ := h
 obtain ⟨t, rfl⟩ := rx
 obtain ⟨u, rfl, ru⟩ := vals1 rv
 cases (show u = Value.ref p from ru)
 rcases hq with hq | hq
 ·obtain ⟨its, r, pl, _⟩ := I.list hq
  exact join_list pl.isList (by simpa using uQ r) hz fun t' k => ⟨.str _, H, I.tok k, ⟨t', rfl⟩, q⟩
 ·obtain ⟨its, r, pl, _⟩ := I.tuple hq
  exact join_tuple pl (by simpa using uQ r) hz fun t' k => ⟨.str _, H, I.tok k, ⟨t', rfl⟩, q⟩
def Mu : V -> List V -> Hp -> VK -> Prop := fun x vs H Q => ∃ z sep, x = .str z /\ vs = [.str sep] /\ (sep.length == 0) = false /\ z.length + 2 <= sizeLine /\
 ∀ p, H p = none -> Q (.ref p) (upd H p (.lst ((Txt.split z sep).map V.str)))
theorem uy (z sep : Str) (h : z.length + 2 <= sizeLine) : (Txt.split z sep).length <= sizeLine := by
 unfold Txt.split
 split
 ·simp; omega
 ·split
  ·simp; omega
  ·have e1 := StrLaws.occ_length_le z sep 0 z.length (z.length + 1)
   rw [length_partsBetween]; omega
theorem jB : MtR X "str.split" Mu := by
 intro pins s σ H x vs v us Q I rx rv h
 obtain ⟨z, sep, rfl, rfl, hy, hz, q⟩ := h
 obtain ⟨t, rfl⟩ := rx
 obtain ⟨u, rfl, ru⟩ := vals1 rv
 obtain ⟨t2, rfl⟩ := ru
 have fin : ∀ (l : List (Str × Tok)) (k : Nat), l.map (·.1) = Txt.split z sep ->
   EP X pins σ Q (.ref s.heap.objs.size) { s with heap := s.heap.push { cls := .type "list", data := .seq (strValues l).toArray }, toks := k } := fun l k e => by
  have hv := ud l
  rw [e] at hv
  exact ⟨.ref s.heap.objs.size, _, I.lnew hv (by rw [length_map]; exact uy z sep hz), rfl, q _ I.fresh⟩
 have few : (Builtin.Str.partsBetween z (Builtin.Str.occurrences z sep 0 z.length (z.length + 1)) sep.length).length <= sizeLine := by
  have e1 := StrLaws.occ_length_le z sep 0 z.length (z.length + 1)
  rw [length_partsBetween]; omega
 cases h1 : (decide (z.length < sep.length) || decide (Builtin.Str.strKind z < Builtin.Str.strKind sep))
 ·cases hf : (Builtin.Str.occurrences z sep 0 z.length (z.length + 1)).isEmpty
  ·refine call_meets F.slot_str_split (typeIs_str _ _ _) F.entry_str_split (F.args_str_split_2 _ _) (meets_str_split_sep z sep t t2 h1 hy hf Z1 few) ?_
   rw [strsFrom_eq]
   exact fin (numbered s.toks _) _ ((numbered_texts _ _).trans (by unfold Txt.split; rw [if_neg (by rw [h1]; exact Bool.false_ne_true), if_neg (by rw [hf]; exact Bool.false_ne_true)]))
  ·refine call_meets F.slot_str_split (typeIs_str _ _ _) F.entry_str_split (F.args_str_split_2 _ _) (meets_str_split_not_found z sep t t2 h1 hy hf) ?_
   exact fin [(z, t)] s.toks (by unfold Txt.split; rw [if_neg (by rw [h1]; exact Bool.false_ne_true), if_pos hf] <;> rfl)
 ·refine call_meets F.slot_str_split (typeIs_str _ _ _) F.entry_str_split (F.args_str_split_2 _ _) (meets_str_split_cannot_occur z sep t t2 h1) ?_
  exact fin [(z, t)] s.toks (by unfold Txt.split; rw [if_pos h1] <;> rfl)
end
theorem v8 {env : Env} : ∀ (ns : List (Str × NameKind)) (acc : List (Str × Addr)), (∀ y ∈ ns, y.2 = .free -> ∃ c, env.cells.lookup y.1 = some c) -> (∀ p ∈ acc, env.cells.lookup p.1 = some p.2) ->
  ∃ cl : List (Str × Addr), (forIn ns acc fun (y : Str × NameKind) (cs : List (Str × Addr)) => (match y with
   | (name, kind) => if (kind == NameKind.free) = true then (do let c <- cellOf env name; pure (ForInStep.yield ((name, c) :: cs))) else pure (ForInStep.yield cs) : Sem (ForInStep (List (Str × Addr))))) = pure cl /\
   (∀ p ∈ cl, env.cells.lookup p.1 = some p.2) /\ (∀ p ∈ acc, p ∈ cl) /\ ∀ y ∈ ns, y.2 = .free -> ∃ c, (y.1, c) ∈ cl
 | [], acc, _, ha => ⟨acc, rfl, ha, fun _ h => h, fun _ h => nomatch h⟩
 | (n, k) :: r, acc, hn, ha => by
  have hr : ∀ y ∈ r, y.2 = .free -> ∃ c, env.cells.lookup y.1 = some c := fun y hy => hn y (mem_cons_of_mem _ hy)
  by_cases hk : k = NameKind.free
  ·subst hk
   obtain ⟨c, hc⟩ := hn (n, .free) mem_cons_self rfl
   have hc' : env.cells.lookup n = some c := hc
   obtain ⟨cl, e, h1, h2, h3⟩ := v8 r ((n, c) :: acc) hr (fun p hp => by
    rcases mem_cons.mp hp with rfl | hp
    ·exact hc'
    ·exact ha p hp)
   refine ⟨cl, ?_, h1, fun p hp => h2 p (mem_cons_of_mem _ hp), fun y hy hf => ?_⟩
   ·rw [forIn_cons]
    have e1 : cellOf env n = pure c := by unfold cellOf; rw [hc']
    simp only [beq_self_eq_true, if_true, e1, pure_bind]
    exact e
   ·rcases mem_cons.mp hy with rfl | hy
    ·exact ⟨c, h2 _ mem_cons_self⟩
    ·exact h3 y hy hf
  ·obtain ⟨cl, e, h1, h2, h3⟩ := v8 r acc hr ha
   refine ⟨cl, ?_, h1, h2, fun y hy hf => ?_⟩
   ·rw [forIn_cons]
    have hb : (k == NameKind.free) = false := by simpa using hk
    simp only [hb, Bool.false_eq_true, if_false, pure_bind]
    exact e
   ·rcases mem_cons.mp hy with rfl | hy
    ·exact absurd hf hk
    ·exact h3 y hy hf
theorem tV {α : Type} : ∀ {l : List (Str × α)} {x : Str} {c : α}, (x, c) ∈ l -> ∃ d, l.lookup x = some d
 | [], _, _, h => nomatch h
 | (y, d) :: r, x, c, h => by
  by_cases e : x = y
  ·subst e; exact ⟨d, by simp [lookup_cons]⟩
  ·have hb : (x == y) = false := by simpa using e
   rcases mem_cons.mp h with z | z
   ·cases z; exact absurd rfl e
   ·obtain ⟨d', h'⟩ := tV z
    exact ⟨d', by simp only [lookup_cons, hb]; exact h'⟩
theorem IV {scope : Scope} {env : Env} (h : ∀ y ∈ scope.names, y.2 = .free -> ∃ c, env.cells.lookup y.1 = some c) :
  ∃ cl : List (Str × Addr), closureFor scope env = pure cl /\ (∀ x c, cl.lookup x = some c -> env.cells.lookup x = some c) /\ ∀ x, (x, NameKind.free) ∈ scope.names -> ∃ c, cl.lookup x = some c := by
 obtain ⟨cl, e, h1, _, h3⟩ := v8 (env := env) scope.names [] h (fun p hp => nomatch hp)
 refine ⟨cl, ?_, fun x c q => h1 (x, c) (PySem.mem_of_lookup q), fun x hx => ?_⟩
 ·simp only [closureFor]
  simp only [bind_pure]
  exact e
 ·obtain ⟨c, hc⟩ := h3 (x, .free) hx rfl
  exact tV hc
def mQ (osc sc : Scope) (oN : List Str) : List (Option Nat) -> List Str -> Bool
 | [], [] => true
 | none :: r, _ :: n => mQ osc sc oN r n
 | some k :: r, x :: n => (oN[k]? == some x) && (sc.names.lookup x == some .free) && mQ osc sc oN r n
 | _, _ => false
theorem oE {osc sc : Scope} {oN : List Str} : ∀ {ix : List (Option Nat)} {N : List Str}, mQ osc sc oN ix N = true -> ix.length = N.length
 | [], [], _ => rfl
 | none :: _, _ :: _, h => congrArg (· + 1) (oE (by simpa [mQ] using h))
 | some _ :: _, _ :: _, h => congrArg (· + 1) (oE (by simp [mQ] at h; exact h.2))
 | [], _ :: _, h => by simp [mQ] at h
 | none :: _, [], h => by simp [mQ] at h
 | some _ :: _, [], h => by simp [mQ] at h
theorem qt {osc sc : Scope} {oN : List Str} : ∀ {ix : List (Option Nat)} {N : List Str} (i k : Nat), mQ osc sc oN ix N = true -> ix[i]? = some (some k) -> ∃ x, N[i]? = some x /\ oN[k]? = some x /\ sc.names.lookup x = some .free
 | [], _, _, _, _, e => by simp at e
 | none :: _, [], _, _, h, _ => by simp [mQ] at h
 | some _ :: _, [], _, _, h, _ => by simp [mQ] at h
 | none :: r, x :: n, 0, _, _, e => by simp at e
 | none :: r, x :: n, i + 1, k, h, e => by
  obtain ⟨y, h1, h2⟩ := qt (ix := r) (N := n) i k (by simpa [mQ] using h) (by simpa using e)
  exact ⟨y, by simpa using h1, h2⟩
 | some j :: r, x :: n, 0, k, h, e => by
  simp [mQ] at h
  simp at e
  subst e
  exact ⟨x, Z2, h.1.1, h.1.2⟩
 | some j :: r, x :: n, i + 1, k, h, e => by
  simp [mQ] at h
  obtain ⟨y, h1, h2⟩ := qt (ix := r) (N := n) i k h.2 (by simpa using e)
  exact ⟨y, by simpa using h1, h2⟩
def iT (osc : Scope) (oN N : List Str) (ix : List (Option Nat)) (sc : Scope) : Bool :=
 (sc.kind == .function) && sc.names.all (fun y => (y.2 != .cell) && ((y.2 != .local) || (sc.names.lookup y.1 == some .local)) && ((y.2 != .free) || ((osc.names.lookup y.1 == some .cell) || (osc.names.lookup y.1 == some .free)))) && mQ osc sc oN ix N
theorem mZ {env : Env} : ∀ {names : List (Str × NameKind)} {x : Str}, names.lookup x = some .free ->
  (names.map fun (n, k) => if (k == NameKind.free && env.scope.kind == .function && env.kindOf n == some .cell) then (n, NameKind.cell) else (n, k)).lookup x = some .cell \/
  (names.map fun (n, k) => if (k == NameKind.free && env.scope.kind == .function && env.kindOf n == some .cell) then (n, NameKind.cell) else (n, k)).lookup x = some .free
 | [], _, h => by simp at h
 | (n, k) :: r, x, h => by
  have ih := @mZ env r x
  simp only [map_cons]
  cases hx : x == n with
  | true =>
   simp only [lookup_cons, hx] at h
   cases h
   by_cases hc : (NameKind.free == NameKind.free && env.scope.kind == .function && env.kindOf n == some .cell) = true
   ·left; rw [if_pos hc]; simp only [lookup_cons, hx]
   ·right; rw [if_neg hc]; simp only [lookup_cons, hx]
  | false =>
   simp only [lookup_cons, hx] at h
   by_cases hc : (k == NameKind.free && env.scope.kind == .function && env.kindOf n == some .cell) = true
   ·rw [if_pos hc]; simp only [lookup_cons, hx]; exact ih h
   ·rw [if_neg hc]; simp only [lookup_cons, hx]; exact ih h
theorem rn {env : Env} : ∀ {names : List (Str × NameKind)} {x : Str}, (∀ y ∈ names, y.2 ≠ NameKind.cell) ->
  ((names.map fun (n, k) => if (k == NameKind.free && env.scope.kind == .function && env.kindOf n == some .cell) then (n, NameKind.cell) else (n, k)).lookup x = some .cell \/
  (names.map fun (n, k) => if (k == NameKind.free && env.scope.kind == .function && env.kindOf n == some .cell) then (n, NameKind.cell) else (n, k)).lookup x = some .free) -> (x, NameKind.free) ∈ names
 | [], _, _, h => by simp at h
 | (n, k) :: r, x, hn, h => by
  have ih := @rn env r x fun y hy => hn y (mem_cons_of_mem _ hy)
  simp only [map_cons] at h
  by_cases hc : (k == NameKind.free && env.scope.kind == .function && env.kindOf n == some .cell) = true
  ·rw [if_pos hc] at h
   cases hx : x == n with
   | true =>
    have e : x = n := by simpa using hx
    have e2 : k = NameKind.free := by simp at hc; exact hc.1.1
    subst e; subst e2
    exact mem_cons_self
   | false =>
    simp only [lookup_cons, hx] at h
    exact mem_cons_of_mem _ (ih h)
  ·rw [if_neg hc] at h
   cases hx : x == n with
   | true =>
    have e : x = n := by simpa using hx
    subst e
    simp only [lookup_cons, hx] at h
    rcases h with h | h
    ·cases h; exact absurd rfl (hn (x, .cell) mem_cons_self)
    ·cases h; exact mem_cons_self
   | false =>
    simp only [lookup_cons, hx] at h
    exact mem_cons_of_mem _ (ih h)
def blk (X : Cx) (N : List Str) (sc : Scope) (cl : List (Str × Addr)) (C : Addr) (fp : List Addr) (s : Shared) (H : Hp) : Cx :=
 { X with N := N, s₀ := s, H₀ := H, env := compEnvC sc cl C X.env, outer := X.stack, ex := fp, fn := fun _ => false, pn := [], xe := fun _ _ => False }
def lift (ix : List (Option Nat)) (σ : St) : St := ix.map fun o => o.bind fun k => (σ[k]?).bind id
def PF (X : Cx) (ifs : List Expr) (t : TT) : Prop :=
 ∀ (pins : OP) (s : Shared) (σ : St) (H : Hp) (Q : Bool -> Hp -> Prop), Inv X pins σ H s -> t σ H Q ->
  wpAny (model X.prog X.w) X.A (forIn ifs true fun c r => if r = true then do let ok <- isTrue c X.env (eval c X.env); pure (ForInStep.yield ok) else pure (ForInStep.yield r)) (TP X pins σ Q) X.xe s
def sO : TT := fun _ H Q => Q true H
theorem kZ {X : Cx} : PF X [] sO := fun pins s σ H Q I h => wpAny_tests_nil ⟨H, I, h⟩
theorem Fd {X : Cx} {c : Expr} {t : TT} (hc : PT X c t) : PF X [c] t := fun pins s σ H Q I h => wpAny_tests_one (hc pins s σ H Q I h)
def pQ (g : TG) (tf : TT) (te : TE) (J : It) (σ0 : St) (H1 : Hp) (Fin : List V -> Hp -> Prop) : Prop :=
 ∃ W : Nat -> Nat -> St -> List V -> Hp -> Prop, (∃ m, W 0 m σ0 [] H1) /\ ∀ i m τ ys H, W i m τ ys H ->
  (J.stop i H /\ Fin ys H) \/ (J.go i H /\ ∀ x H', J.yld i H x H' -> g x τ H' fun τ2 H2 => tf τ2 H2 fun b H3 =>
   if b = true then te τ2 H3 fun y H4 => ys.length < sizeLine /\ ∃ m', m' < m /\ W (i + 1) m' τ2 (ys ++ [y]) H4 else ∃ m', m' < m /\ W (i + 1) m' τ2 ys H3)
def Az (ix : List (Option Nat)) (wi : TI) (g : TG) (tf : TT) (te : TE) : TE := fun σ H Q => wi σ H fun J H1 => pQ g tf te J (lift ix σ) H1 fun ys H' => ∀ p, H' p = none -> Q (.ref p) (upd H' p (.lst ys))
theorem J2 {P : Program} {w : World} {A : Around} {R : Result -> Shared -> Prop} {s : Shared} {el tg src : Expr} {fs : List Expr} {sc : Scope} {ps : Pos} {iv ac : Value} {en : Env} (J : Nat -> Shared -> Prop)
  (turn : ∀ n s, J n s -> wpAny (model P w) A (pyNext iv) (fun r s1 => match r with
   | none => R (.ok .next) s1
   | some v => wpAny (model P w) A (letOwnedTupleGo tg iv v) (fun _ s2 => wpAny (model P w) A (assign tg en v) (fun _ s3 =>
     wpAny (model P w) A (forIn fs true fun c r => if r = true then do let ok <- isTrue c en (eval c en); pure (ForInStep.yield ok) else pure (ForInStep.yield r)) (fun ok s4 =>
      if ok = true then wpAny (model P w) A (eval el en) (fun x s5 => wpAny (model P w) A (call (.builtin "list.append") [ac, x]) (fun _ s6 => ∃ m, m < n /\ J m s6) (fun _ _ => False) s5) (fun _ _ => False) s4
      else ∃ m, m < n /\ J m s4) (fun _ _ => False) s3) (fun _ _ => False) s2) (fun _ _ => False) s1) (fun _ _ => False) s)
  (n : Nat) (h : J n s) : codeAny (model P w) A (.compLoop (.ListComp el [⟨tg, src, fs, 0⟩] sc ps) 0 iv ac en) R s := by
 have ab : ∀ {α : Type} {t : Sem α} {Q Q' : α -> Shared -> Prop} {E : EV} {s : Shared}, wpAny (model P w) A t Q (fun _ _ => False) s -> (∀ a s, Q a s -> Q' a s) -> wpAny (model P w) A t Q' E s :=
  fun h hq => wpAny_mono h hq fun _ _ f => f.elim
 refine codeAny_loop rfl J (fun n s hJ => ?_) n h
 show wpAny _ A ((compTurn (.ListComp el [⟨tg, src, fs, 0⟩] sc ps) 0 iv ac en).onRaise (fun x => do noteFrame x en; theTreesLotGoes x)) _ _ s
 refine wpAny_noted ?_
 rw [compTurn_list]
 refine wpAny_bind (wpAny_standAt (wpAny_bind (ab (turn n s hJ) fun r s1 h1 => ?_)))
 cases r with
 | none => exact wpAny_pure h1
 | some v =>
  refine wpAny_bind (ab h1 fun _ s2 h2 => wpAny_bind (ab h2 fun _ s3 h3 => wpAny_bind (ab h3 fun ok s4 h4 => ?_)))
  cases ok with
  | false => exact wpAny_pure ⟨rfl, h4⟩
  | true => exact wpAny_bind (wpAny_bind (ab h4 fun x s5 h5 => wpAny_bind (ab h5 fun _ s6 h6 => wpAny_pure (wpAny_pure ⟨rfl, h6⟩))))
section
variable {X : Cx} {pins : OP} {σ : St} {H2 : Hp} {s2 : Shared} {N : List Str} {ix : List (Option Nat)} {sc : Scope} {cl : List (Str × Addr)}
theorem GP (I : Inv X pins σ H2 s2) (hb : iT X.env.scope X.N N ix sc = true) (c1 : ∀ x c, cl.lookup x = some c -> X.env.cells.lookup x = some c) (c2 : ∀ x, (x, NameKind.free) ∈ sc.names -> ∃ c, cl.lookup x = some c)
  {fp : List Addr} (hf : ∀ b ∈ fp, nD X pins H2 b) (hfo : ∀ b ∈ fp, ∃ o, s2.heap.get? b = some o) {C : Addr} (hC : s2.heap.objs.size <= C) : (blk X N sc cl C fp s2 H2).Ok := by
 unfold iT at hb
 simp only [and_eq_true] at hb
 obtain ⟨⟨hk, hn⟩, hi⟩ := hb
 have nocell : ∀ y ∈ sc.names, y.2 ≠ NameKind.cell := fun y hy => by
  have := all_eq_true.mp hn y hy
  simp only [and_eq_true] at this
  simpa using this.1.1
 refine ⟨I.ok.mod, ?_, I.ok.glob, I.ok.blt, hC, fun x y c h1 h2 => I.ok.inj x y c (c1 x c h1) (c1 y c h2), fun x hx => ?_, fun x c hx => ?_, I.ok.hd, I.ok.frames, .inl rfl, fun b hb => ⟨?_, fun x c h => ?_⟩, I.bs, le_trans I.ok.bsz I.sz, fun b o e hb => ?_, fun b hb hs => ?_, I.stack, I.stkFree⟩
 ·show (relabel sc X.env).kind = .function
  exact eq_of_beq hk
 ·exact c2 x (rn nocell hx)
 ·cases hx
 ·show b ≠ C
  obtain ⟨o, e⟩ := hfo b hb
  exact ne_of_lt (lt_of_lt_of_le (Heap.lt_size e) hC)
 ·obtain ⟨_, _, _, _, h5, _⟩ := hf b hb
  exact h5 x c (c1 x c h)
 ·obtain ⟨_, _, _, h4, _, _⟩ := hf b hb
  rcases h4 with h4 | h4
  ·exact I.ok.noex b o e h4
  ·exact absurd (lt_of_lt_of_le (Heap.lt_size (I.ok.bs b o e).1) h4) (lt_irrefl _)
 ·obtain ⟨_, h2, h3, _⟩ := hf b hb
  rcases mem_cons.mp (I.stkSub b hs) with z | z
  ·exact h2 z
  ·exact h3 z
theorem Un.grow {fs ex : List Addr} {H H' : Hp} {h h' : Heap} {D : Addr} {o : HO} (u : Un fs ex H H' h h') (hD : h.objs.size <= D) (hn : H D = none) : Un fs ex H (upd H' D o) h h' := by
 have lt : ∀ {b : Addr} {ob : Obj}, h.get? b = some ob -> b ≠ D := fun e z => by
  subst z; exact absurd (lt_of_lt_of_le (Heap.lt_size e) hD) (lt_irrefl _)
 refine ⟨u.keep, u.slot, fun b ob e n hx => by rw [aD (lt e)]; exact u.free b ob e n hx, u.there, fun b xs e => ?_, fun b ob v e => ?_, fun b ps e => ?_⟩
 ·rw [aD (aB e hn)]; exact u.tups b xs e
 ·rw [aD (aB e hn)]; exact u.frzs b ob v e
 ·obtain ⟨m, q⟩ := u.tbls b ps e
  exact ⟨m, by rw [aD (aB e hn)]; exact q⟩
theorem HOk.grow {P : Program} {w : World} {H : Hp} {h : Heap} {D : Addr} {o : HO} (x : HOk P w H h) (hn : H D = none) (new : cu P w (upd H D o) h D o) : HOk P w (upd H D o) h := fun b u e => by
 by_cases hb : b = D
 ·subst hb; rw [ak] at e; cases e; exact new
 ·rw [aD hb] at e
  exact (x b u e).stay (fun _ _ _ q => q) (fun c q => by rw [aD (aB q hn)]; exact q) fun c xs q => by rw [aD (aB q hn)]; exact q
theorem Bq {ix : List (Option Nat)} {σ : St} {i : Nat} {v : V} (h : (lift ix σ)[i]? = some (some v)) : ∃ k, ix[i]? = some (some k) /\ σ[k]? = some (some v) := by
 unfold lift at h
 rw [getElem?_map] at h
 cases e : ix[i]? with
 | none => rw [e] at h; cases h
 | some o =>
  rw [e] at h
  cases o with
  | none => simp at h
  | some k =>
   refine ⟨k, rfl, ?_⟩
   simp only [Option.map_some, bind_some, Option.some.injEq] at h
   cases q : σ[k]? with
   | none => rw [q] at h; cases h
   | some z => rw [q] at h; have h' : z = some v := h; rw [h']
theorem uc {el tg src : Expr} {ifs : List Expr} {pos : Pos} {g : TG} {tf : TT} {te : TE} {J : It} {fp : List Addr} {it : Addr} {tn : Nat -> Heap -> Prop} {E : EV} {Fin : List V -> Hp -> Prop} {RR : Value -> Addr -> Result -> Shared -> Prop}
  (I : Inv X pins σ H2 s2) (hc : X.calm = true) (hb : iT X.env.scope X.N N ix sc = true) (c1 : ∀ x c, cl.lookup x = some c -> X.env.cells.lookup x = some c) (c2 : ∀ x, (x, NameKind.free) ∈ sc.names -> ∃ c, cl.lookup x = some c)
  (T : Turn X.prog X.w X.K tg J fp it tn) (st : tn 0 s2.heap) (hf : ∀ b ∈ fp, nD X pins H2 b)
  (hg : ∀ C fp, PG (blk X N sc cl C fp s2 H2) tg g) (hfs : ∀ C fp, PF (blk X N sc cl C fp s2 H2) ifs tf) (he : ∀ C fp, PE (blk X N sc cl C fp s2 H2) el te)
  (hW : pQ g tf te J (lift ix σ) H2 Fin)
  (hRR : ∀ D C s' ys H', H' D = none -> (∃ m, s'.heap.Ns C m) -> Inv X pins σ (upd H' D (.lst ys)) s' -> nD X pins (upd H' D (.lst ys)) C -> Fin ys H' -> RR (.ref D) C (.ok .next) s') :
  wpAny (model X.prog X.w) X.A (newList []) (fun acc s3 => wpAny (model X.prog X.w) X.A (newFunctionEnv sc X.env.globals cl [] X.env.qual none .none (some X.env)) (fun cenv s4 =>
   codeAny (model X.prog X.w) X.A (.compStart (.ListComp el [⟨tg, src, ifs, 0⟩] sc pos) 0 (.ref it) acc { cenv with scope := relabel sc X.env }) (RR acc cenv.locals) s4) E s3) E s2 := by
 obtain ⟨W, ⟨m0, w0⟩, turn⟩ := hW
 have hb' := hb
 unfold iT at hb'
 simp only [and_eq_true] at hb'
 obtain ⟨⟨hk, hn⟩, hi⟩ := hb'
 have nocell : ∀ y ∈ sc.names, y.2 ≠ NameKind.cell := fun y hy => by
  have := all_eq_true.mp hn y hy
  simp only [and_eq_true] at this
  simpa using this.1.1
 have hkind : sc.kind = .function := eq_of_beq hk
 refine wpAny_newObj_type (wpAny_newFunctionEnv nocell (by intro y hy; simp at hy) (fun h1 hns hsb => ?_) hkind)
 dsimp only at hns hsb ⊢
 generalize hP : s2.heap.push { cls := .type "list", dict := none, data := .seq ([] : List Value).toArray } = P2 at hns hsb ⊢
 have hC : P2.objs.size = s2.heap.objs.size + 1 := by rw [<- hP, Heap.size_push]
 have hDC : s2.heap.objs.size ≠ P2.objs.size := by rw [hC]; exact ne_of_lt (lt_succ_self _)
 have hCle : s2.heap.objs.size <= P2.objs.size := by rw [hC]; omega
 have fpo : ∀ b ∈ fp, ∃ o, s2.heap.get? b = some o := fun b hb => let ⟨o, e, _⟩ := T.obj _ _ st b hb; ⟨o, e⟩
 have old : ∀ b o, s2.heap.get? b = some o -> h1.get? b = some o := fun b o e => by
  refine (hsb.2 b ?_).trans (Heap.get?_push_of_some _ (hP ▸ Heap.get?_push_of_some _ e))
  rw [hC]; exact ne_of_lt (Nat.lt_succ_of_lt (Heap.lt_size e))
 have hacc : h1.get? s2.heap.objs.size = some { cls := .type "list", dict := none, data := .seq ([] : List Value).toArray } :=
  (hsb.2 _ hDC).trans (Heap.get?_push_of_some _ (hP ▸ Heap.get?_push_size _ rfl))
 have bok : (blk X N sc cl P2.objs.size fp s2 H2).Ok := GP I hb c1 c2 hf fpo hCle
 have frD : ∀ {b : Addr}, s2.heap.objs.size <= b -> b ∉ frs X.stack := fun hb hz => by
  rcases mem_cons.mp (I.stkSub _ hz) with z | z
  ·exact absurd (z ▸ hb) (Nat.not_le.mpr I.lt)
  ·exact I.nofs hb z
 have cellD : ∀ x c, cl.lookup x = some c -> c < s2.heap.objs.size := fun x c e => by
  obtain ⟨v, q⟩ := I.cell x c (c1 x c e)
  exact q.lt
 have I0 : Inv (blk X N sc cl P2.objs.size fp s2 H2) [(s2.heap.objs.size, { cls := .type "list", dict := none, data := .seq ([] : List Value).toArray })] (lift ix σ) H2 { s2 with heap := h1, toks := s2.toks + ([] : List (Str × Value)).length } := by
  refine ⟨bok, rfl, I.bare, Un.kept old, ⟨_, hns, fun i x v e1 e2 e3 => ?_⟩, fun x c e => ?_, I.hok.fresh hCle, fun x c e => I.freeC x c (c1 x c e), fun p hp => ?_, I.hok.kept old, ?_⟩
  ·obtain ⟨k, q1, q2⟩ := Bq e2
   obtain ⟨y, z1, z2, z3⟩ := qt i k hi q1
   have e1' : N[i]? = some x := e1
   rw [e1'] at z1
   cases z1
   have hin : (x, NameKind.free) ∈ sc.names := PySem.mem_of_lookup z3
   obtain ⟨c, hcl⟩ := c2 x hin
   have okind : X.env.scope.names.lookup x = some .cell \/ X.env.scope.names.lookup x = some .free := by
    have := all_eq_true.mp hn _ hin
    simp only [and_eq_true] at this
    simpa using this.2
   obtain ⟨m, hm, hl⟩ := I.loc
   obtain ⟨u, r, l⟩ := hl k x v z2 q2 (by rcases okind with z | z; exact .inr (.inl z); exact .inr (.inr z))
   refine ⟨u, r, .inr ⟨mZ z3, c, hcl, ?_⟩⟩
   rcases l with ⟨lk, _⟩ | ⟨_, c', hc', z⟩
   ·have lk' : X.env.scope.names.lookup x = some .local := lk
    rcases okind with q | q <;> rw [q] at lk' <;> cases lk'
   ·rw [c1 x c hcl] at hc'
    cases hc'
    obtain ⟨oc, ho, hd⟩ := z
    exact ⟨oc, old _ _ ho, hd⟩
  ·obtain ⟨v, oc, ho, hd⟩ := I.cell x c (c1 x c e)
   exact ⟨v, oc, old _ _ ho, hd⟩
  ·have hp' : p = (s2.heap.objs.size, { cls := .type "list", dict := none, data := .seq ([] : List Value).toArray }) := by
    rcases mem_append.mp hp with z | z
    ·exact absurd (show p ∈ ([] : OP) from z) Z2
    ·simpa using z
   subst hp'
   exact ⟨hacc, I.fresh, hDC, frD (le_refl _), fun v z => by cases z⟩
  ·show (lift ix σ).length = N.length
   unfold lift
   rw [length_map]
   exact oE hi
 have stat : ∀ {o : Obj} {H' : Hp}, (∀ b ∈ fp, H' b = none) -> ∀ b ∈ fp, nD (blk X N sc cl P2.objs.size fp s2 H2) [(s2.heap.objs.size, o)] H' b := fun {o H'} hz b hb => by
  obtain ⟨_, g2, g3, g4, g5, g6⟩ := hf b hb
  obtain ⟨ob, eb⟩ := fpo b hb
  have lb := Heap.lt_size eb
  refine ⟨hz b hb, ?_, ?_, .inl hb, fun x c e => g5 x c (c1 x c e), fun p hp => ?_⟩
  ·show b ≠ P2.objs.size
   rw [hC]; exact ne_of_lt (Nat.lt_succ_of_lt lb)
  ·intro hz
   rcases mem_cons.mp (I.stkSub b hz) with z | z
   ·exact g2 z
   ·exact g3 z
  ·have hp' : p = (s2.heap.objs.size, o) := by
    rcases mem_append.mp hp with z | z
    ·exact absurd (show p ∈ ([] : OP) from z) Z2
    ·simpa using z
   subst hp'
   show s2.heap.objs.size ≠ b
   exact ne_of_gt lb
 have loop : ∀ s4 : Shared, s4 = { s2 with heap := h1, toks := s2.toks + ([] : List (Str × Value)).length } ->
   codeAny (model X.prog X.w) X.A (.compLoop (.ListComp el [⟨tg, src, ifs, 0⟩] sc pos) 0 (.ref it) (.ref s2.heap.objs.size) (compEnvC sc cl P2.objs.size X.env)) (RR (.ref s2.heap.objs.size) P2.objs.size) s4 := by
  rintro s4 rfl
  refine J2 (fun n s' => ∃ (i : Nat) (τ : St) (ys : List V) (its : List Value) (k : Nat) (H' : Hp), Vals ys its /\ ys.length <= sizeLine /\
    Inv (blk X N sc cl P2.objs.size fp s2 H2) [(s2.heap.objs.size, { cls := .type "list", data := .seq its.toArray k })] τ H' s' /\ tn i s'.heap /\ (∀ b ∈ fp, H' b = none) /\ W i n τ ys H') ?_ m0
   ⟨0, _, [], [], 0, H2, .nil, zero_le _, I0, T.keep _ _ _ st fun b _ o e => old b o e, fun b hb => (hf b hb).1, w0⟩
  rintro n s5 ⟨i, τ, ys, its, k, H5, rv, hz, I5, st5, fr5, w5⟩
  rcases turn i n τ ys H5 w5 with ⟨stop, fin⟩ | ⟨go, step⟩
  ·refine thn (T.done (blk X N sc cl P2.objs.size fp s2 H2) rfl rfl rfl hc i _ s5 τ H5 (fun _ _ => False) I5 (stat fr5) st5 stop) fun r s6 ⟨hr, I6⟩ => ?_
   subst hr
   obtain ⟨m, hns6, _⟩ := I6.loc
   obtain ⟨gD, fD, _, _, _⟩ := I6.pin (s2.heap.objs.size, { cls := .type "list", data := .seq its.toArray k }) (mem_append_right _ Z2)
   have fD' : H5 s2.heap.objs.size = none := fD
   refine hRR _ _ s6 ys H5 fD' ⟨m, hns6⟩ ?_ (I.fpOk hCle ?_) fin
   ·refine I.call' (ch := fp) I6.os (Un.grow I6.base (le_refl _) I.fresh) (HOk.grow I6.hok fD' ⟨hz, its, k, rv, gD⟩) I6.bare fun b hb => ?_
    obtain ⟨_, g2, _, g4, g5, g6⟩ := hf b hb
    exact ⟨g4, g2, g5, g6⟩
   ·rw [aD (Ne.symm hDC)]
    exact I6.free
  ·refine thn (T.item (blk X N sc cl P2.objs.size fp s2 H2) rfl rfl rfl hc i _ s5 τ H5 (fun _ _ => False) I5 (stat fr5) st5 go) fun r s6 ⟨u, hr, h6⟩ => ?_
   subst hr
   refine thn h6 fun _ s7 ⟨x, H7, I7, r7, y7, st7, fr7⟩ => ?_
   have I7' := I7.pinned (stat fr7) (T.obj _ _ st7)
   refine thn (hg _ _ _ s7 τ H7 x u _ I7' r7 (step x H7 y7)) fun _ s8 ⟨τ8, H8, I8, q8⟩ => ?_
   refine thn (hfs _ _ _ s8 τ8 H8 _ I8 q8) fun ok s9 ⟨H9, I9, q9⟩ => ?_
   have tail : ∀ {s' : Shared} {τ' : St} {H' : Hp}, Inv (blk X N sc cl P2.objs.size fp s2 H2) ([(s2.heap.objs.size, { cls := .type "list", data := .seq its.toArray k })] ++ m5 fp s7.heap) τ' H' s' ->
     (s'.heap.get? s2.heap.objs.size = some { cls := .type "list", data := .seq its.toArray k } /\ H' s2.heap.objs.size = none) /\ (∀ b ∈ fp, ∀ o, s7.heap.get? b = some o -> s'.heap.get? b = some o) /\ ∀ b ∈ fp, H' b = none := fun {s' τ' H'} I' => by
    refine ⟨?_, fun b hb o e => (I'.pin (b, o) (mem_append_right _ (mem_append_right _ (cP hb e)))).1, fun b hb => ?_⟩
    ·obtain ⟨a1, a2, _⟩ := I'.pin (s2.heap.objs.size, { cls := .type "list", data := .seq its.toArray k }) (mem_append_right _ (mem_append_left _ Z2))
     exact ⟨a1, a2⟩
    ·obtain ⟨o, e, _⟩ := T.obj _ _ st7 b hb
     exact (I'.pin (b, o) (mem_append_right _ (mem_append_right _ (cP hb e)))).2.1
   cases ok with
   | false =>
    obtain ⟨m', hm, w9⟩ := q9
    obtain ⟨_, k2, k3⟩ := tail I9
    exact ⟨m', hm, i + 1, τ8, ys, its, k, H9, rv, hz, I9.unpinned, T.keep _ _ _ st7 k2, k3, w9⟩
   | true =>
    refine thn (he _ _ _ s9 τ8 H9 _ I9 q9) fun v s10 ⟨y, H10, I10, r10, hl, m', hm, w10⟩ => ?_
    obtain ⟨⟨gD, fD⟩, k2, k3⟩ := tail I10
    have hlen := rv.length
    refine call_meets F.slot_list_append ⟨_, gD, rfl⟩ F.entry_list_append (F.args_list_append_2 _ _) (list_append s2.heap.objs.size its.toArray k v (by rw [size_toArray]; omega)) ⟨gD, ?_⟩
    obtain ⟨k', q⟩ : ∃ k', (s10.heap.update s2.heap.objs.size (Obj.mapSeq (·.push v))).get? s2.heap.objs.size = some { cls := .type "list", data := .seq (its ++ [v]).toArray k' } := by
     have q := PySem.IsL.update gD (·.push v)
     rw [show (its.toArray.push v) = (its ++ [v]).toArray from by simp] at q
     exact ⟨_, q⟩
    have other : ∀ b o, b ≠ s2.heap.objs.size -> s10.heap.get? b = some o -> (s10.heap.update s2.heap.objs.size (Obj.mapSeq (·.push v))).get? b = some o := fun b o hb e => (Heap.get?_update_other s10.heap _ (Ne.symm hb)).trans e
    have Ia : Inv (blk X N sc cl P2.objs.size fp s2 H2) [] τ8 H10 { s10 with heap := s10.heap.update s2.heap.objs.size (Obj.mapSeq (·.push v)), toks := s10.toks } :=
     (I10.pins_of (pins' := []) fun p hp => nomatch hp).turned other fD hDC (.inr (le_refl _)) (fun x c e => ne_of_lt (cellD x c e)) fun p hp => absurd (show p ∈ ([] : OP) from hp) Z2
    refine ⟨m', hm, i + 1, τ8, ys ++ [y], its ++ [v], k', H10, rv.append (.cons r10 .nil), by rw [length_append, List.length_singleton]; omega, ?_, T.keep _ _ _ st7 fun b hb o e => ?_, k3, w10⟩
    ·refine Ia.pins_of fun p hp => ?_
     have hp' := mem_singleton.mp hp
     subst hp'
     exact ⟨q, fD, hDC, frD (le_refl _), fun v z => by cases z⟩
    ·obtain ⟨ob, eb⟩ := fpo b hb
     exact other b o (ne_of_lt (Heap.lt_size eb)) (k2 b hb o e)
 exact codeAny_compStart_list (loop _ rfl) (T.self X.A 0 _ _ _ (T.keep _ _ _ st fun b _ o e => old b o e) (loop _ rfl))
end
section
variable {X : Cx} {N : List Str} {ix : List (Option Nat)} {sc : Scope} {el tg src : Expr} {ifs : List Expr} {wi : TI} {g : TG} {tf : TT} {te : TE} {pos : Pos}
theorem Inv.clos {pins : OP} {σ : St} {H : Hp} {s : Shared} (I : Inv X pins σ H s) (hb : iT X.env.scope X.N N ix sc = true) :
  ∃ cl : List (Str × Addr), closureFor sc X.env = pure cl /\ (∀ x c, cl.lookup x = some c -> X.env.cells.lookup x = some c) /\ ∀ x, (x, NameKind.free) ∈ sc.names -> ∃ c, cl.lookup x = some c := by
 refine IV fun y hy hf => I.ok.has y.1 ?_
 unfold iT at hb
 simp only [and_eq_true] at hb
 have := all_eq_true.mp hb.1.2 y hy
 simp only [and_eq_true] at this
 have h2 := this.2
 rw [hf] at h2
 have h3 : X.env.scope.names.lookup y.1 = some .cell \/ X.env.scope.names.lookup y.1 = some .free := by simpa using h2
 exact h3
theorem ph (hb : iT X.env.scope X.N N ix sc = true) : sc.kind = .function /\ ∀ y ∈ sc.names, y.2 = .local -> sc.names.lookup y.1 = some .local := by
 unfold iT at hb
 simp only [and_eq_true] at hb
 refine ⟨eq_of_beq hb.1.1, fun y hy hl => ?_⟩
 have := all_eq_true.mp hb.1.2 y hy
 simp only [and_eq_true] at this
 have h2 := this.1.2
 rw [hl] at h2
 simpa using h2
theorem jR (ix : List (Option Nat)) (hc : X.calm = true) (hb : iT X.env.scope X.N N ix sc = true) (hi : PI X tg src wi)
  (hg : ∀ cl C fp s H, PG (blk X N sc cl C fp s H) tg g) (hf : ∀ cl C fp s H, PF (blk X N sc cl C fp s H) ifs tf) (he : ∀ cl C fp s H, PE (blk X N sc cl C fp s H) el te)
  (hs : ∀ x, foldedSetIterable src X.env x = pure x := by intro _; rfl) : PE X (.ListComp el [⟨tg, src, ifs, 0⟩] sc pos) (Az ix wi g tf te) := by
 intro pins s σ H Q I h
 obtain ⟨cl, hcl, c1, c2⟩ := I.clos hb
 obtain ⟨hk, hn⟩ := ph hb
 rw [eval_ListComp]
 refine wpAny_comprehension_free (use := none) rfl hs hcl hk hn (thn (hi pins s σ H _ I h) fun xv s1 h1 => thn h1 fun itv s2 h2 => ?_)
 obtain ⟨it, fp, tn, J, H2, rfl, I2, T, st, f2, hW⟩ := h2
 refine uc (RR := fun acc C => compPost (model X.prog X.w) X.A X.xe none (EP X pins σ Q) acc C) I2 hc hb c1 c2 T st f2 (fun C fp => hg cl C fp s2 H2) (fun C fp => hf cl C fp s2 H2) (fun C fp => he cl C fp s2 H2) hW ?_
 intro D C s' ys H' hD ⟨m, hm⟩ I' fC fin
 refine ⟨m, hm, fun h' hs' => ⟨.ref D, _, ?_, rfl, fin D hD⟩⟩
 obtain ⟨g1, g2, _, g4, g5, g6⟩ := fC
 exact I'.turned (t' := s'.toks) (fun b o hb e => (hs'.2 b hb).trans e) g1 g2 g4 g5 g6
theorem Jr (ix : List (Option Nat)) {i : Nat} {x : Str} {pos' spos : Pos} (hN : X.N.Nodup) (hxi : X.N[i]? = some x) (hx : Loc X.env.scope x) (hc : X.calm = true) (hb : iT X.env.scope X.N N ix sc = true) (hi : PI X tg src wi)
  (hg : ∀ cl C fp s H, PG (blk X N sc cl C fp s H) tg g) (hf : ∀ cl C fp s H, PF (blk X N sc cl C fp s H) ifs tf) (he : ∀ cl C fp s H, PE (blk X N sc cl C fp s H) el te)
  (hsw : swapsWith (.ListComp el [⟨tg, src, ifs, 0⟩] sc pos) (some (.Name x pos')) spos.line X.env = pure true := by rfl)
  (hfn : X.fn x = true \/ X.env.scope.names.lookup x = some .local := by first | exact .inl rfl | exact .inr rfl | assumption)
  (hs : ∀ x, foldedSetIterable src X.env x = pure x := by intro _; rfl) : PS X (.Assign [.Name x pos'] (.ListComp el [⟨tg, src, ifs, 0⟩] sc pos) spos) (yM (Az ix wi g tf te) (dg i)) := by
 intro pins s σ H D0 I h
 obtain ⟨cl, hcl, c1, c2⟩ := I.clos hb
 obtain ⟨hk, hn⟩ := ph hb
 rw [exec_Assign_Name_used _ _ _ _ hsw]
 refine wpAny_bind (wpAny_standAt (wpAny_bind ?_))
 show wpAny _ X.A (do let _ <- comprehension (.ListComp el [⟨tg, src, ifs, 0⟩] sc pos) sc X.env _ (newList []) false (eval src X.env) (some (assign (.Name x pos') X.env))) _ _ s
 refine wpAny_bind (thn (wpAny_comprehension_free (use := some (assign (.Name x pos') X.env)) (Q := fun _ s' => SP X pins D0 .next s') rfl hs hcl hk hn (thn (hi pins s σ H _ I h) fun xv s1 h1 => thn h1 fun itv s2 h2 => ?_)) fun _ s' hq => wpAny_pure (wpAny_pure hq))
 obtain ⟨it, fp, tn, J, H2, rfl, I2, T, st, f2, hW⟩ := h2
 refine uc (RR := fun acc C => compPost (model X.prog X.w) X.A X.xe (some (assign (.Name x pos') X.env)) (fun _ s' => SP X pins D0 .next s') acc C) I2 hc hb c1 c2 T st f2 (fun C fp => hg cl C fp s2 H2) (fun C fp => hf cl C fp s2 H2) (fun C fp => he cl C fp s2 H2) hW ?_
 intro D C s' ys H' hD ⟨m, hm⟩ I' fC fin
 obtain ⟨g1, g2, _, g4, g5, g6⟩ := fC
 show wpAny _ X.A (assign (.Name x pos') X.env (.ref D)) _ _ _
 refine wpAny_assign_Name (ug (v := .ref D) I' hN hxi hx rfl (fun s'' I'' ⟨a, sb, ha⟩ => ?_) hfn)
 have hCa : C ≠ a := by
  rcases ha with z | z
  ·rw [z]; exact g2
  ·exact fun e => g5 x a z e.symm
 refine ⟨m, hm.sameBut sb hCa, fun h' hs' => ⟨_, _, I''.turned (t' := s''.toks) (fun b o hb e => (hs'.2 b hb).trans e) g1 g2 g4 g5 g6, fin D hD⟩⟩
end
theorem Dd {K : Frag} {a : Addr} {xs : List V} {te : TE} {τ0 : St} {H : Hp} {Fin : List V -> Hp -> Prop} (f : V -> V) (hn : xs.length <= sizeLine) (hl : SqL K H a xs)
  (hte : ∀ x H' Q, x ∈ xs -> au H H' -> (∀ H'', au H' H'' -> Q (f x) H'') -> te (τ0.set 0 (some x)) H' Q)
  (hfin : ∀ H', au H H' -> Fin (xs.map f) H') : pQ (dg 0) sO te (Itl K a) τ0 H Fin := by
 refine ⟨fun i m τ ys H' => m = xs.length - i /\ i <= xs.length /\ ys = (xs.take i).map f /\ au H H' /\ ∃ v, τ = τ0.set 0 v \/ τ = τ0, ⟨xs.length, rfl, zero_le _, rfl, au.refl _, none, .inr rfl⟩, ?_⟩
 rintro i m τ ys H' ⟨rfl, hi, rfl, sm, v, hτ⟩
 by_cases hlt : i < xs.length
 ·refine .inr ⟨⟨xs, xs[i], sm.seq hl, by simp [hlt]⟩, fun x H'' y => ?_⟩
  obtain ⟨e, y⟩ := y
  subst e
  have hx := y xs (sm.seq hl)
  have e2 : τ.set 0 (some x) = τ0.set 0 (some x) := by
   rcases hτ with rfl | rfl
   ·rw [set_set]
   ·rfl
  unfold dg sO
  rw [e2]
  dsimp only
  rw [if_pos rfl]
  refine hte x H'' _ (mem_of_getElem? hx) sm fun H4 s4 => ?_
  refine ⟨by rw [length_map, length_take]; omega, xs.length - (i + 1), Z1, rfl, hlt, ?_, sm.trans s4, _, .inl rfl⟩
  rw [List.take_add_one, hx, map_append]
  rfl
 ·have e : i = xs.length := by omega
  subst e
  exact .inl ⟨⟨xs, sm.seq hl, le_refl _⟩, by have := hfin H' sm; rw [take_length]; exact this⟩
theorem lH {c A B : Prop} [Decidable c] (h1 : c -> A) (h2 : ¬ c -> B) : if decide c = true then A else B := by
 by_cases h : c
 ·rw [if_pos (decide_eq_true h)]; exact h1 h
 ·rw [if_neg (by simpa using h)]; exact h2 h
theorem Ew {i j : Int} {A B : Prop} (h1 : i = j -> A) (h2 : ¬ i = j -> B) : if decide (V.int i = V.int j) = true then A else B :=
 lH (fun h => h1 (V.int.inj h)) fun h => h2 fun e => h (congrArg V.int e)
theorem au.new {H : Hp} {p : Addr} {o : HO} (h : H p = none) : au H (upd H p o) := fun b u e => by
 rw [aD (aB e h)]; exact e
theorem au.put {H H' : Hp} {p : Addr} {o : HO} (s : au H H') (h : H' p = none) : au H (upd H' p o) := s.trans (au.new h)
theorem au.over {H H' : Hp} {p : Addr} {o : HO} (s : au H H') (h : H p = none) : au H (upd H' p o) := fun b u e => by
 rw [aD (aB e h)]; exact s b u e
theorem au.lst {H H' : Hp} {p : Addr} {xs : List V} (s : au H H') (h : H p = some (.lst xs)) : H' p = some (.lst xs) := s _ _ h
structure FnAt (K : Frag) (mg : MG) (x : Str) (st : Stmt) (ps : List Str) (f : Addr) (fd : FuncData) : Prop where
 F : Fun K x x st f fd
 b : Binds K fd ps []
 m : mg x = some (.ref f)
section
variable {X : Cx} {k : Nat} {f : Addr} {fd : FuncData} {ps : List Str} {sp : Sp} {x : Str} {st : Stmt} {p pos : Pos} {e : Expr} {es : List Expr} {t : TA}
theorem bc (A : FnAt X.K X.mg x st ps f fd) (G : aJ X.prog X.w X.K X.mg X.base CX0 k f fd ps sp) (hr : aX k X.A) (ha : PA X (e :: es) t) (hg : Gl X x := by rfl)
  (hdb : (x == ("__debug__" : Str)) = false := by decide) (he : starEach (e :: es) X.env = (false, eval e X.env) :: starEach es X.env := by rfl) (hpl : (backTo pos (starEach es X.env)).any (·.1) = false := by rfl) :
  PE X (.Call (.Name x p) (e :: es) [] pos) (Gr sp [] E0 t) := Iz G hr hg A.m A.F.kp A.b .nil wX ha hdb he hpl
end
def Pur (v : V) (H : Hp) (Q : VK) : Prop := ∀ H', au H H' -> Q v H'
end L2
namespace Mine
open PySem PySem.Spec PyProof.Rows L2
def J3 : Sp := fun vs H Q _ => ∃ (c j : Int), vs = [.int c, .int j] /\ 0 <= j /\ j <= 1000 /\ Pur (.int (sub c j)) H Q
def pq : Sp := fun vs H Q _ => ∃ (c k m : Int), vs = [.int c, .int k, .int m] /\ 0 <= k /\ k < 40 /\ 0 < m /\ Pur (.int (pick c k m)) H Q
end Mine
namespace L2
open PySem PySem.Spec PyProof.Rows
section
variable {X : Cx}
def Qm : V -> Option Int -> Option Int -> Hp -> VK -> Prop := fun x lo hi H Q => ∃ z, x = .str z /\ z.length <= sizeLine /\ Q (.str (Txt.slice z lo hi)) H
theorem part_of {v : Value} {o : Option Int} (p : IsPart v o) : ∃ l : Option (Int × Tok), v = partValue l /\ o = l.map (·.1) := by
 cases p with
 | none => exact ⟨none, rfl, rfl⟩
 | int i t => exact ⟨some (i, t), rfl, rfl⟩
theorem Mm : SlR X Qm := by
 intro pins s σ H x v vl vu lo hi sl Q I rx hs pl pu h
 obtain ⟨z, rfl, hz, q⟩ := h
 obtain ⟨t, rfl⟩ := rx
 obtain ⟨l, rfl, rfl⟩ := part_of pl
 obtain ⟨u, rfl, rfl⟩ := part_of pu
 obtain ⟨os, h1, h2, h3⟩ := hs
 refine ⟨"str", _, F.slot_str_getitem.lookup, typeIs_str _ _ _, ?_⟩
 exact wpAny_getItem_str_slice (l := l) (u := u) (st := none) ⟨os, h1, h2, h3⟩ rfl (post_val_or_str ⟨le_trans (Txt.slice_le z _ _) hz, fun t' k => ⟨.str _, H, I.tok k, ⟨t', rfl⟩, q⟩⟩)
def Its (z : Str) : It := ⟨fun i _ => i < z.cps.size, fun i H x H' => H' = H /\ ∃ c, z.cps.toList[i]? = some c /\ x = .str ⟨#[c]⟩, fun i _ => z.cps.size <= i⟩
theorem w6 {P : Program} {w : World} {K : Frag} {tg : Expr} (it : Addr) (z : Str) (t : Tok) (ty : String)
  (hW : ∀ A : Around, A.handled = none -> Walks P w A it [it] [it] z.cps.size (SignAt z) (fun i h => h.IsStrIter it ty z t i))
  (hn : ["enumerate", "zip", "dict_itemiterator", "dict_reverseitemiterator", "odict_iterator", "itertools.zip_longest", "itertools.pairwise"].contains ty = false)
  (hself : ∀ (A : Around) (i : Nat) (s : Shared) (Q : EV) (E : EV), s.heap.IsStrIter it ty z t i -> Q (.ref it) s -> wpAny (model P w) A (pyIter (.ref it)) Q E s) :
  Turn P w K tg (Its z) [it] it (fun i h => i <= z.cps.size /\ h.IsStrIter it ty z t i) where
 mem := by simp
 obj := fun i h st b hb => by
  have e : b = it := by simpa using hb
  subst e
  obtain ⟨_, o, e, c, d⟩ := st
  exact ⟨o, e, fun v z => by rw [d] at z; cases z⟩
 keep := fun i h h' st k => by
  obtain ⟨hi, o, e, r⟩ := st
  exact ⟨hi, o, k it Z2 o e, r⟩
 item := by
  intro X hP hw hK hc i pins s σ H E I hf st hg
  subst hP hw hK
  obtain ⟨f0, f1, f2, f3, f4, f5⟩ := hf it Z2
  refine (hW X.A (I.ok.hd hc)).item i s _ _ hg st.2 fun v h' tk hv st' kk => ?_
  obtain ⟨c, u, hx, rfl⟩ := hv
  have I1 : Inv X pins σ H { s with heap := h', toks := tk } := I.turned (fun b o hb e => kk b o (by simpa using hb) e) f0 f1 f3 f4 f5
  obtain ⟨o, e, hcl, d⟩ := id st'
  exact ⟨_, rfl, Ar (s := { s with heap := h', toks := tk }) e hcl d hn ⟨.str ⟨#[c]⟩, H, I1, ⟨u, rfl⟩, ⟨rfl, c, by simpa using hx, rfl⟩, ⟨hg, st'⟩, fun b hb => (hf b hb).1⟩⟩
 done := by
  intro X hP hw hK hc i pins s σ H E I hf st hg
  subst hP hw hK
  obtain ⟨f0, f1, f2, f3, f4, f5⟩ := hf it Z2
  obtain ⟨hi, st⟩ := st
  have e : i = z.cps.size := Nat.le_antisymm hi hg
  subst e
  exact (hW X.A (I.ok.hd hc)).done s _ _ st fun h' tk kk => ⟨rfl, I.turned (fun b o hb e => kk b o (by simpa using hb) e) f0 f1 f3 f4 f5⟩
 self := fun A i s Q E st h => hself A i s Q E st.2 h
def Ol (tl : TE) : TI := fun σ H R => tl σ H fun x H1 => ∃ z, x = .str z /\ R (Its z) H1
theorem Eh {tg l : Expr} {tl : TE} (hl : PE X l tl) : PI X tg l (Ol tl) := by
 intro pins s σ H R I h
 refine thn (hl pins s σ H _ I h) fun v s1 ⟨x, H1, I1, r1, q1⟩ => ?_
 obtain ⟨z, rfl, q⟩ := q1
 obtain ⟨t, rfl⟩ := r1
 have fin : ∀ (o : Obj) (b : Addr), b ∈ [s1.heap.objs.size] -> nD X pins H1 b := fun o b hb => by
  have e : b = s1.heap.objs.size := by simpa using hb
  subst e
  exact I1.fpOk (le_refl _) (I1.hok.fresh (le_refl _))
 cases ha : z.cps.all (· < 128)
 ·refine wpAny_pyIter_wide ha ?_
  exact ⟨s1.heap.objs.size, [s1.heap.objs.size], _, _, H1, rfl, I1.kept (t' := s1.toks) fun b o e => Heap.get?_push_of_some _ e,
   w6 _ z t "str_iterator" (fun A hA => Walks.strWide hA _ z t) Z0 (fun A i s Q E st h => wpAny_pyIter_striter_wide st h), ⟨zero_le _, _, Heap.get?_push_size _ rfl, rfl, rfl⟩, fin default, q⟩
 ·refine wpAny_pyIter_ascii ha ?_
  exact ⟨s1.heap.objs.size, [s1.heap.objs.size], _, _, H1, rfl, I1.kept (t' := s1.toks) fun b o e => Heap.get?_push_of_some _ e,
   w6 _ z t "str_ascii_iterator" (fun A hA => Walks.strAscii hA _ z t) Z0 (fun A i s Q E st h => wpAny_pyIter_striter_ascii st h), ⟨zero_le _, _, Heap.get?_push_size _ rfl, rfl, rfl⟩, fin default, q⟩
theorem xY {z : Str} {te : TE} {τ0 : St} {H : Hp} {Fin : List V -> Hp -> Prop} (f : Nat -> V) (hn : z.length <= sizeLine)
  (hte : ∀ c H' Q, c ∈ z.cps.toList -> au H H' -> (∀ H'', au H' H'' -> Q (f c) H'') -> te (τ0.set 0 (some (.str ⟨#[c]⟩))) H' Q)
  (hfin : ∀ H', au H H' -> Fin (z.cps.toList.map f) H') : pQ (dg 0) sO te (Its z) τ0 H Fin := by
 have hz : z.cps.size = z.cps.toList.length := by simp
 have hn' : z.cps.toList.length <= sizeLine := by rw [<- hz]; exact hn
 refine ⟨fun i m τ ys H' => m = z.cps.size - i /\ i <= z.cps.size /\ ys = (z.cps.toList.take i).map f /\ au H H' /\ ∃ v, τ = τ0.set 0 v \/ τ = τ0, ⟨z.cps.size, rfl, zero_le _, rfl, au.refl _, none, .inr rfl⟩, ?_⟩
 rintro i m τ ys H' ⟨rfl, hi, rfl, sm, v, hτ⟩
 by_cases hlt : i < z.cps.size
 ·refine .inr ⟨hlt, fun x H'' y => ?_⟩
  obtain ⟨e, c, hc, y⟩ := y
  subst e y
  have e2 : τ.set 0 (some (V.str ⟨#[c]⟩)) = τ0.set 0 (some (V.str ⟨#[c]⟩)) := by
   rcases hτ with rfl | rfl
   ·rw [set_set]
   ·rfl
  unfold dg sO
  rw [e2]
  dsimp only
  rw [if_pos rfl]
  refine hte c H'' _ (mem_of_getElem? hc) sm fun H4 s4 => ?_
  refine ⟨by rw [length_map, length_take]; omega, z.cps.size - (i + 1), Z1, rfl, hlt, ?_, sm.trans s4, _, .inl rfl⟩
  rw [List.take_add_one, hc, map_append]
  rfl
 ·have e : i = z.cps.size := by omega
  subst e
  exact .inl ⟨le_refl _, by have := hfin H' sm; rw [hz, take_length]; exact this⟩
theorem FP {bs : List Bool} : ∀ {us : List Value} {i : Nat} {v : Value}, Vals (bs.map V.bl) us -> us[i]? = some v -> v = .bool (bs.getD i false) := by
 induction bs with
 | nil => intro us i v r h; rw [map_nil] at r; cases r; simp at h
 | cons b bs ih =>
  intro us i v r h
  rw [map_cons] at r
  cases r with
  | cons r1 r2 =>
   cases i with
   | zero =>
    have r1' : _ = Value.bool b := r1
    simp at h
    rw [<- h, r1']
    rfl
   | succ i => exact ih r2 (by simpa using h)
theorem range_all (bs : List Bool) : (List.range bs.length).all (fun i => bs.getD i false) = bs.all id := by
 have e : (List.range bs.length).map (fun i => bs.getD i false) = bs := by
  apply ext_getElem
  ·simp
  ·intro i h1 h2
   simp [List.getD_eq_getElem?_getD, h2]
 conv => rhs; rw [<- e]
 rw [all_map]; rfl
theorem range_any (bs : List Bool) : (List.range bs.length).any (fun i => bs.getD i false) = bs.any id := by
 have e : (List.range bs.length).map (fun i => bs.getD i false) = bs := by
  apply ext_getElem
  ·simp
  ·intro i h1 h2
   simp [List.getD_eq_getElem?_getD, h2]
 conv => rhs; rw [<- e]
 rw [List.any_map]; rfl
def Lz (K : Frag) (f : List Bool -> Bool) : List V -> Hp -> VK -> Prop := fun xs H Q => ∃ p bs, xs = [.ref p] /\ SqL K H p (bs.map V.bl) /\ Q (.bl (f bs)) H
theorem rO (hc : X.calm = true) : cX X (.builtin "all") (Lz X.K fun bs => bs.all id) := by
 intro pins s σ H xs us Q I r h
 obtain ⟨p, bs, rfl, hq, q⟩ := h
 obtain ⟨u, rfl, rx⟩ := vals1 r
 cases (show u = Value.ref p from rx)
 obtain ⟨its, rv, pl, hz⟩ := I.list hq
 have hlen := rv.length
 rw [length_map] at hlen
 have hne : p ≠ s.heap.objs.size := by
  obtain ⟨o, e, _⟩ := pl.isList
  exact ne_of_lt (Heap.lt_size e)
 refine call_all_walk (wpAny_pyIter_list pl.isList ?_)
 refine ⟨s.heap.objs.size, _, _, _, _, _, fun i => bs.getD i false, rfl, Walks.list (show X.A.in1.handled = none from I.ok.hd hc) s.heap.objs.size p hne its.toArray, ⟨⟨_, Heap.get?_push_size _ rfl, rfl, rfl⟩, ?_⟩, fun i v s' Q' E' hP hQ => ?_, fun h' tk kk => ?_⟩
 ·exact pl.isList.at fun o e => Heap.get?_push_of_some _ e
 ·have e := FP rv (by simpa using hP)
  subst e
  exact wpAny_truthy_bool hQ
 ·have e : (List.range its.toArray.size).all (fun i => bs.getD i false) = bs.all id := by rw [size_toArray, <- hlen]; exact range_all bs
  rw [e]
  refine ⟨.bl _, H, I.kept fun b o e => ?_, rfl, q⟩
  exact kk b o (fun z => absurd (Heap.lt_size e) (by rw [mem_singleton.mp z]; exact lt_irrefl _)) (Heap.get?_push_of_some _ e)
end
section
variable {X : Cx} {K : Frag}
theorem DK (h : X.K = K) : SlR X (N5 K) := by subst h; exact lX
theorem Ei (h : X.K = K) : IxR X (NK K) := by subst h; exact aO
theorem qH (h : X.K = K) : IxR X (OD K) := by subst h; exact Mj
theorem qO (h : X.K = K) : cX X (.builtin "isinstance") (JX K) := by subst h; exact jx
theorem Hb {tg l : Expr} {tl : TE} (h : X.K = K) (hl : PE X l tl) : PI X tg l (Ke K tl) := by subst h; exact iI hl
variable {o e : Expr} {es : List Expr} {to : TE} {t : TA} {name : Str} {apos cpos : Pos} {T id : String} {r : V -> List V -> Hp -> VK -> Prop}
theorem KZ (h : X.K = K) (pa : PlainAttrs T) (slot : Slot T name id) (hty : typeOf (.builtin id) = pure (.type "method_descriptor")) (hm : MtR X id r) (ho : PE X o to) (ha : PA X (e :: es) t)
  (hbase : attributeBase o name X.env (eval o X.env) = eval o X.env := by rfl)
  (hfew : ((backTo cpos (starEach (e :: es) X.env)).all (fun x => !x.1) && (backToKw cpos (keywordEach [] X.env)).all (fun x => x.1.isSome)
   && decide ((e :: es).length + ([] : List Keyword).length + (if ([] : List Keyword).isEmpty then 0 else 1) < 30)) = true := by rfl)
  (hline : (apos.endLine == cpos.line) = true := by rfl) (hs : starEach (e :: es) X.env = (false, eval e X.env) :: starEach es X.env := by rfl) (hplain : (backTo cpos (starEach es X.env)).any (·.1) = false := by rfl) :
  PE X (.Call (.Attribute o name apos) (e :: es) [] cpos) (tBM K T r to t) := by
 subst h
 exact fH pa slot hty hm ho ha hbase hfew hline hs hplain
end
structure QS (X : Cx) (st : Stmt) (t : TS) : Prop where
 h : PS X st t
structure QSs (X : Cx) (st : List Stmt) (t : TS) : Prop where
 h : PSs X st t
section
variable {X : Cx} {st : Stmt} {rest : List Stmt} {t u : TS} {e : Expr} {te : TE} {pos : Pos}
theorem aV : QSs X [] Ku := ⟨qu⟩
theorem aA (h1 : QS X st t) (h2 : QSs X rest u) : QSs X (st :: rest) (N8 t u) := ⟨dM h1.h h2.h⟩
theorem aC (h1 : QS X st t) : QSs X [st] t := ⟨jP h1.h⟩
theorem dD (he : PE X e te) (hs : swapsWith e none pos.line X.env = pure false := by rfl) : QS X (.Expr e pos) (JT te) := ⟨HQ he hs⟩
theorem aL (he : PE X e te) : QS X (.Return (some e) pos) (HS te) := ⟨ni he⟩
theorem bK {c : Expr} {a b : List Stmt} {tc : TT} (hc : PT X c tc) (ha : QSs X a t) (hb : QSs X b u) : QS X (.If c a b pos) (Ox tc t u) := ⟨BJ hc ha.h hb.h⟩
theorem uV {tg iter : Expr} {body : List Stmt} {wi : TI} {g : TG} {tb : TS} (hp : PassesOwn (model X.prog X.w) X.A X.env X.xe) (hc : X.calm = true) (hi : PI X tg iter wi) (hg : PG X tg g) (hb : QSs X body tb) (hs : ∀ x, foldedSetIterable iter X.env x = pure x := by intro _; rfl) : QS X (.For tg iter body [] pos) (O2 wi g tb) := ⟨K4 hp hc hi hg hb.h hs⟩
theorem lB {tg : Expr} {g : TG} (he : PE X e te) (hg : PG X tg g) (hs : swapsWithSole [tg] e pos.line X.env = pure false := by rfl) (hw : swappedStores [tg] e X.env = pure none := by rfl)
  (h1 : (assignEach [tg] X.env).map (·.2) = [assign tg X.env] := by rfl) : QS X (.Assign [tg] e pos) (yM te g) := ⟨M3 he hg hs hw h1⟩
theorem bC {i : Nat} {x : Str} {pos' : Pos} (hN : X.N.Nodup) (hi : X.N[i]? = some x) (hx : Loc X.env.scope x) (he : PE X e te) (hs : swapsWith e (some (.Name x pos')) pos.line X.env = pure false := by rfl) (hf : X.fn x = true \/ X.env.scope.names.lookup x = some .local := by first | exact .inl rfl | exact .inr rfl | assumption) :
  QS X (.Assign [.Name x pos'] e pos) (yM te (dg i)) := ⟨mY hN hi hx he hs hf⟩
end
section
variable {X : Cx} {N : List Str} {sc : Scope} {el tg src : Expr} {ifs : List Expr} {wi : TI} {g : TG} {tf : TT} {te : TE} {pos : Pos}
theorem Be (ix : List (Option Nat)) {i : Nat} {x : Str} {pos' spos : Pos} (hN : X.N.Nodup) (hxi : X.N[i]? = some x) (hx : Loc X.env.scope x) (hc : X.calm = true) (hb : iT X.env.scope X.N N ix sc = true) (hi : PI X tg src wi)
  (hg : ∀ cl C fp s H, PG (blk X N sc cl C fp s H) tg g) (hf : ∀ cl C fp s H, PF (blk X N sc cl C fp s H) ifs tf) (he : ∀ cl C fp s H, PE (blk X N sc cl C fp s H) el te)
  (hsw : swapsWith (.ListComp el [⟨tg, src, ifs, 0⟩] sc pos) (some (.Name x pos')) spos.line X.env = pure true := by rfl)
  (hfn : X.fn x = true \/ X.env.scope.names.lookup x = some .local := by first | exact .inl rfl | exact .inr rfl | assumption)
  (hs : ∀ x, foldedSetIterable src X.env x = pure x := by intro _; rfl) : QS X (.Assign [.Name x pos'] (.ListComp el [⟨tg, src, ifs, 0⟩] sc pos) spos) (yM (Az ix wi g tf te) (dg i)) :=
 ⟨Jr ix hN hxi hx hc hb hi hg hf he hsw hfn hs⟩
end
structure QA (X : Cx) (es : List Expr) (t : TA) : Prop where
 h : PA X es t
section
variable {X : Cx} {e : Expr} {es : List Expr} {te : TE} {t : TA} {pos : Pos}
theorem Eb : QA X [] Hw := ⟨ao⟩
theorem bV (ha : PE X e te) (hr : QA X es t) (hs : starEach (e :: es) X.env = (false, eval e X.env) :: starEach es X.env := by rfl) : QA X (e :: es) (Et te t) := ⟨aj ha hr.h hs⟩
end
structure QE (X : Cx) (e : Expr) (t : TE) : Prop where
 h : PE X e t
section
variable {X : Cx} {a b e : Expr} {ta tb te : TE} {es : List Expr} {t : TA} {pos : Pos}
theorem oJ (h : QA X es t) : QE X (.List es pos) (Ot t) := ⟨cZ h.h⟩
theorem n8 {i : Nat} {x : Str} {pos' : Pos} (hN : X.N.Nodup) (hi : X.N[i]? = some x) (hx : Loc X.env.scope x) (he : QE X e te) (hs : swapsWith e (some (.Name x pos')) pos.line X.env = pure false := by rfl) (hf : X.fn x = true \/ X.env.scope.names.lookup x = some .local := by first | exact .inl rfl | exact .inr rfl | assumption) :
  QS X (.Assign [.Name x pos'] e pos) (yM te (dg i)) := ⟨mY hN hi hx he.h hs hf⟩
end
section
variable {X : Cx} {x : Str} {pos : Pos}
theorem Ak {y : Str} (h : ∃ t, X.mg x = some (.str y t)) (hg : Gl X x := by rfl) (hd : (x == ("__debug__" : Str)) = false := by decide) : PE X (.Name x pos) (tC (.str y)) := by
 obtain ⟨t, e⟩ := h
 exact vz hg e ⟨t, rfl⟩ hd
theorem lU {y : Int} (h : ∃ t, X.mg x = some (.int y t)) (hg : Gl X x := by rfl) (hd : (x == ("__debug__" : Str)) = false := by decide) : PE X (.Name x pos) (tC (.int y)) := by
 obtain ⟨t, e⟩ := h
 exact vz hg e ⟨t, rfl⟩ hd
end
theorem Dy {K : Frag} {n m : String} {b : Bool} (h0 : (Value.type n == Value.type m) = false) (h1 : kitMeta m = true) (h2 : (fastBuiltinMro n).map (·.contains (Value.type m)) = some b) : kitOne K (.type n) (.type m) = some b := by
 unfold kitOne
 rw [if_neg (by rw [h0]; decide)]
 show (if kitMeta m = true then PySem.W.subIn K (.type n) (.type m) else none) = some b
 rw [if_pos h1]
 exact h2
end L2
namespace Mine
open PySem PySem.Spec PyProof.Rows L2 PySem.Builtin PySem.Builtin.Str
theorem gF (a b : Str) : (a ++ b).length = a.length + b.length := by rw [cB, cB, cB, aU, length_append]
theorem ue {c : Nat} : ∀ {ys : List (List Nat)} {y : List Nat}, y ∈ ys -> y.length <= (inter c ys).length
 | [], _, h => nomatch h
 | [x], y, h => by rw [mem_singleton.mp h]; exact le_refl _
 | x :: z :: r, y, h => by
  show y.length <= (x ++ c :: inter c (z :: r)).length
  rw [length_append, length_cons]
  rcases mem_cons.mp h with e | h
  ·rw [e]; omega
  ·have := ue (c := c) h; omega
theorem CZ {c : Nat} {ys : List Str} {y : Str} (h : y ∈ ys) : y.length <= (Str.join ⟨#[c]⟩ ys).length := by
 rw [cB, cB, bF]
 exact ue (mem_map.mpr ⟨y, h, rfl⟩)
theorem m8 {c : Nat} {x y : Str} (h : y ∈ Txt.split x ⟨#[c]⟩) : y.length <= x.length := by
 have := CZ (c := c) h
 rw [StrLaws.join_split] at this
 exact this
theorem CK {x y : Str} (h : y ∈ Txt.split x ("." : Str)) : y.length <= x.length := by rw [qT] at h; exact m8 h
theorem Bk : ((("." : Str)).length == 0) = false := by decide +kernel
def inL (c : Nat) : Bool := !(Builtin.Str.occurrences letters (⟨#[c]⟩ : Str) 0 letters.length 1).isEmpty
def nmB (z : Str) : Bool := decide (1 <= z.length) && decide (z.length <= 8) && z.cps.toList.all inL
end Mine
namespace L2
open PySem PySem.Spec PyProof.Rows
theorem bD {b : Bool} {A B : Prop} (e : b = true) (h : A) : if b = true then A else B := by rw [if_pos e]; exact h
theorem aN {b : Bool} {A B : Prop} (e : b = false) (h : B) : if b = true then A else B := by rw [if_neg (by rw [e]; decide)]; exact h
theorem zK {b : Bool} {A B : Prop} (e : b = true) (h : B) : if (!b) = true then A else B := by rw [if_neg (by rw [e]; decide)]; exact h
theorem zg {b : Bool} {A B : Prop} (e : b = false) (h : A) : if (!b) = true then A else B := by rw [if_pos (by rw [e]; decide)]; exact h
end L2
namespace Mine
open PySem PySem.Spec PyProof.Rows L2 PySem.Builtin PySem.Builtin.Str
def Jq : Str := "0123456789"
def zero : Str := "0"
def inF (c : Nat) : Bool := !(Builtin.Str.occurrences Jq (⟨#[c]⟩ : Str) 0 Jq.length 1).isEmpty
theorem Bv {c : Nat} (h0 : 48 <= c) (h1 : c <= 57) : inF c = true := by
 have h : ∀ n : Fin 10, inF (48 + n.val) = true := by decide +kernel
 have := h ⟨c - 48, Z1⟩
 rwa [show 48 + (⟨c - 48, Z1⟩ : Fin 10).val = c from by show 48 + (c - 48) = c; omega] at this
theorem Bo {c : Nat} (h0 : 97 <= c) (h1 : c <= 122) : inL c = true := by
 have h : ∀ n : Fin 26, inL (97 + n.val) = true := by decide +kernel
 have := h ⟨c - 97, Z1⟩
 rwa [show 97 + (⟨c - 97, Z1⟩ : Fin 26).val = c from by show 97 + (c - 97) = c; omega] at this
theorem bT.nmB {y : Str} (h : bT y) : nmB y = true := by
 unfold Mine.nmB
 rw [decide_eq_true h.lo, decide_eq_true h.hi, all_eq_true.mpr fun c hc => Bo (h.ok c hc).1 (h.ok c hc).2]
 rfl
def mz (z : Str) : Bool := decide (1 <= z.length) && decide (z.length <= 20) && !(decide (z.cps.toList.head? = some 48) && !decide (z = zero)) && z.cps.toList.all inF
def jt (m : Nat) : Str := Str.ofString (toString ((m : Nat) : Int))
theorem gG (m : Nat) : (jt m).cps.toList = (Nat.toDigits 10 m).map Char.toNat := PySem.W.KIN.signs_num m
theorem digit_range {m : Nat} {c : Nat} (h : c ∈ (jt m).cps.toList) : 48 <= c /\ c <= 57 := by
 rw [gG] at h
 obtain ⟨d, hd, rfl⟩ := mem_map.mp h
 have := Nat.isDigit_of_mem_toDigits Z0 Z0 hd
 unfold Char.isDigit at this
 simp only [and_eq_true, decide_eq_true_eq] at this
 exact ⟨this.1, this.2⟩
theorem yd : ∀ m : Nat, (Nat.toDigits 10 m).head? = some '0' -> m = 0 := by
 intro m
 induction m using Nat.strongRecOn with
 | _ m ih =>
  intro h
  by_cases hm : m < 10
  ·rw [Nat.toDigits_of_lt_base hm] at h
   have h' : Nat.digitChar m = '0' := by simpa using h
   have : ∀ n : Fin 10, Nat.digitChar n.val = '0' -> n.val = 0 := by decide
   exact this ⟨m, hm⟩ h'
  ·have hd : m % 10 < 10 := Nat.mod_lt m Z0
   have t : Nat.toDigits 10 (m / 10) ++ Nat.toDigits 10 (m % 10) = Nat.toDigits 10 (10 * (m / 10) + m % 10) := Nat.toDigits_append_toDigits Z0 Z1 hd
   rw [Nat.div_add_mod] at t
   rw [<- t] at h
   have hne : Nat.toDigits 10 (m / 10) ≠ [] := Nat.toDigits_ne_nil
   cases e : Nat.toDigits 10 (m / 10) with
   | nil => exact absurd e hne
   | cons a r =>
    rw [e] at h
    have := ih (m / 10) Z1 (by rw [e]; simpa using h)
    omega
theorem sG {a b : Char} (h : a.toNat = b.toNat) : a = b := by
 apply Char.ext
 exact UInt32.toNat_inj.mp h
theorem Ck : jt 0 = zero := by decide +kernel
theorem iZ {m : Nat} (h : m < 10 ^ 20) : mz (jt m) = true /\ (jt m).length <= 20 /\ 1 <= (jt m).length /\ intText? (jt m) = some ((m : Nat) : Int) := by
 have hl : (jt m).length = (Nat.toDigits 10 m).length := by rw [cB, gG, length_map]
 have h1 : 1 <= (jt m).length := by rw [hl]; exact Nat.length_toDigits_pos
 have h2 : (jt m).length <= 20 := by rw [hl]; exact (Nat.length_toDigits_le_iff Z0 Z0).mpr h
 refine ⟨?_, h2, h1, ?_⟩
 ·unfold mz
  rw [decide_eq_true h1, decide_eq_true h2, all_eq_true.mpr fun c hc => Bv (digit_range hc).1 (digit_range hc).2]
  by_cases hd : (jt m).cps.toList.head? = some 48
  ·have hm : m = 0 := by
    rw [gG, List.head?_map] at hd
    cases e : (Nat.toDigits 10 m).head? with
    | none => rw [e] at hd; cases hd
    | some d =>
     rw [e] at hd
     have : d = '0' := sG (by simpa using hd)
     rw [this] at e
     exact yd m e
   subst hm
   rw [Ck, decide_eq_true (rfl : zero = zero)]
   decide +kernel
  ·rw [decide_eq_false hd]; rfl
 ·rw [intText_digits (fun c hc => digit_range hc) (fun z => by rw [cB, z] at h1; simp at h1) Z1, gG, PySem.W.KIN.val_back]
theorem o8 {c d : Nat} : ∀ {ys : List (List Nat)}, d ∈ inter c ys -> d = c \/ ∃ y ∈ ys, d ∈ y
 | [], h => by simp [inter] at h
 | [x], h => .inr ⟨x, Z2, h⟩
 | x :: z :: r, h => by
  have h' : d ∈ x ++ c :: inter c (z :: r) := h
  rcases mem_append.mp h' with h' | h'
  ·exact .inr ⟨x, Z2, h'⟩
  ·rcases mem_cons.mp h' with h' | h'
   ·exact .inl h'
   ·rcases o8 h' with h'' | ⟨y, hy, h''⟩
    ·exact .inl h''
    ·exact .inr ⟨y, mem_cons_of_mem _ hy, h''⟩
theorem dI {ys : List Str} (h : ∀ y ∈ ys, bT y) {c : Nat} (hc : c ∈ (dotted ys).cps.toList) : c = 46 \/ (97 <= c /\ c <= 122) := by
 rw [fK, bF] at hc
 rcases o8 hc with e | ⟨y, hy, e⟩
 ·exact .inl e
 ·obtain ⟨z, hz, rfl⟩ := mem_map.mp hy
  exact .inr ((h z hz).ok c e)
theorem sS {ys : List Str} (h0 : ys ≠ []) (h : ∀ y ∈ ys, bT y) : ∃ c ∈ (dotted ys).cps.toList, 97 <= c /\ c <= 122 := by
 cases ys with
 | nil => exact absurd rfl h0
 | cons y r =>
  have hy := h y mem_cons_self
  cases e : y.cps.toList with
  | nil => have := hy.lo; rw [cB, e] at this; simp at this
  | cons c q =>
   have hc : c ∈ y.cps.toList := by rw [e]; simp
   refine ⟨c, ?_, hy.ok c hc⟩
   rw [fK, bF]
   obtain ⟨R, e1, _⟩ := m6 46 y.cps.toList (r.map (·.cps.toList))
   rw [map_cons, e1]
   exact mem_append_left _ hc
def brk : Str := "()"
theorem jz : brk.cps.toList = [40, 41] := by decide +kernel
theorem tO {z : Str} (h : Txt.endswith z brk = true) : ∃ pre, z.cps.toList = pre ++ [40, 41] := by
 unfold Txt.endswith at h
 have lb : brk.length = 2 := by decide +kernel
 rw [lb, and_eq_true, decide_eq_true_eq] at h
 obtain ⟨h1, h2⟩ := h
 unfold subAt at h2
 rw [lb] at h2
 have h3 : z.cps.extract (z.length - 2) (z.length - 2 + 2) = brk.cps := by simpa using h2
 have h4 := congrArg Array.toList h3
 rw [Array.toList_extract, List.extract_eq_take_drop, jz] at h4
 refine ⟨z.cps.toList.take (z.length - 2), ?_⟩
 have h5 : z.cps.toList.drop (z.length - 2) = [40, 41] := by
  rw [<- h4, List.take_of_length_le]
  rw [length_drop, <- cB]; omega
 rw [<- h5, List.take_append_drop]
theorem pK {ys : List Str} (h : ∀ y ∈ ys, bT y) : Txt.endswith (dotted ys) brk = false := by
 cases e : Txt.endswith (dotted ys) brk with
 | false => rfl
 | true =>
  obtain ⟨pre, hp⟩ := tO e
  have : 41 ∈ (dotted ys).cps.toList := by rw [hp]; simp
  have := dI h this
  omega
theorem jr (a : Str) : Txt.endswith (a ++ brk) brk = true := by
 unfold Txt.endswith subAt
 have lb : brk.length = 2 := by decide +kernel
 rw [gF, lb, and_eq_true, decide_eq_true_eq]
 refine ⟨Z1, ?_⟩
 rw [beq_iff_eq]
 apply Array.toList_inj.mp
 rw [Array.toList_extract, List.extract_eq_take_drop, aU, jz, show a.length + 2 - 2 = a.length from by omega, cB, List.drop_left]
 simp
theorem G9 (a : Str) (h : a.length <= 1000000) : Txt.slice (a ++ brk) none (some (-2)) = a := by
 apply dO
 have lb : brk.length = 2 := by decide +kernel
 have hl : (a ++ brk).length = a.length + 2 := by rw [gF, lb]
 have := slice_closes_to_neg (x := a ++ brk) (j := -2) (k := (a.length : Int)) Z0 (by rw [hl]; omega) (by rw [hl]; omega)
 have e := eq_of_beq this
 rw [e]
 simp [aU, cB]
end Mine
namespace L2
open PySem PySem.Spec PyProof.Rows
inductive DEq (K : Frag) (H : Hp) : Nat -> V -> V -> Prop where
 | non {n : Nat} : DEq K H n .non .non
 | bl {n : Nat} (b : Bool) : DEq K H n (.bl b) (.bl b)
 | int {n : Nat} (i : Int) : DEq K H n (.int i) (.int i)
 | str {n : Nat} (x : Str) : DEq K H n (.str x) (.str x)
 | same {n : Nat} (a : Addr) : DEq K H n (.ref a) (.ref a)
 | tup {n : Nat} {a b : Addr} {xs ys : List V} (ha : SqT K H a xs) (hb : SqT K H b ys) (hl : xs.length = ys.length) (h : ∀ (i : Nat) x y, xs[i]? = some x -> ys[i]? = some y -> DEq K H n x y) : DEq K H (n + 1) (.ref a) (.ref b)
 | lst {n : Nat} {a b : Addr} {xs ys : List V} (ha : SqL K H a xs) (hb : SqL K H b ys) (hl : xs.length = ys.length) (h : ∀ (i : Nat) x y, xs[i]? = some x -> ys[i]? = some y -> DEq K H n x y) : DEq K H (n + 1) (.ref a) (.ref b)
section
variable {X : Cx} {pins : OP} {σ : St} {H : Hp} {s : Shared}
theorem Vals.at {xs : List V} {us : List Value} (r : Vals xs us) {j : Nat} (h : j < us.length) : ∃ x, xs[j]? = some x /\ RelV x us[j] := by
 have hl := r.length
 have hx : xs[j]? = some xs[j] := getElem?_eq_getElem Z1
 obtain ⟨u, hu, ru⟩ := r.get hx
 rw [getElem?_eq_getElem h] at hu
 cases hu
 exact ⟨_, hx, ru⟩
theorem jA (n : Nat) : (List.range n).all (fun _ => true) = true := by simp
theorem DEq.at (I : Inv X pins σ H s) {n : Nat} {x y : V} (d : DEq X.K H n x y) : ∀ {A : Around} {u v : Value}, A.units + n < cLine -> RelV x u -> RelV y v -> SeqAt.EqAt A s u v true := by
 induction d with
 | non => intro A u v hu ru rv; cases ru; cases rv; exact SeqAt.EqAt.same _
 | bl b => intro A u v hu ru rv; cases ru; cases rv; exact SeqAt.EqAt.same _
 | int i =>
  intro A u v hu ru rv
  obtain ⟨t, rfl⟩ := ru
  obtain ⟨t', rfl⟩ := rv
  have := SeqAt.EqAt.int_int (A := A) (s := s) i t i t'
  rwa [beq_self_eq_true] at this
 | str x =>
  intro A u v hu ru rv
  obtain ⟨t, rfl⟩ := ru
  obtain ⟨t', rfl⟩ := rv
  have := SeqAt.EqAt.str_str (A := A) (s := s) x t x t'
  rwa [beq_self_eq_true] at this
 | same a => intro A u v hu ru rv; cases ru; cases rv; exact SeqAt.EqAt.same _
 | @tup n a b xs ys ha hb hl h ih =>
  intro A u v hu ru rv
  cases ru; cases rv
  by_cases hab : a = b
  ·subst hab; exact SeqAt.EqAt.same _
  ·obtain ⟨us, r1, p1, _⟩ := I.tuple ha
   obtain ⟨ws, r2, p2, _⟩ := I.tuple hb
   have l1 := r1.length
   have l2 := r2.length
   have := SeqAt.RcAt.tuples (A := A) (s := s) (e := fun _ => true) (show s.heap.IsTuple a us.toArray from p1) (show s.heap.IsTuple b ws.toArray from p2) Z1 fun j h1 h2 => by
    have h1' : j < us.length := by simpa using h1
    have h2' : j < ws.length := by simpa using h2
    obtain ⟨x, ex, rx⟩ := r1.at h1'
    obtain ⟨y, ey, ry⟩ := r2.at h2'
    exact ih j x y ex ey (A := A.in1) (show A.units + 1 + n < cLine by omega) (by simpa using rx) (by simpa using ry)
   rw [jA, show (us.toArray.size == ws.toArray.size) = true from by simp; omega] at this
   exact SeqAt.EqAt.of_refs hab this
 | @lst n a b xs ys ha hb hl h ih =>
  intro A u v hu ru rv
  cases ru; cases rv
  by_cases hab : a = b
  ·subst hab; exact SeqAt.EqAt.same _
  ·obtain ⟨us, r1, p1, _⟩ := I.list ha
   obtain ⟨ws, r2, p2, _⟩ := I.list hb
   have l1 := r1.length
   have l2 := r2.length
   have := SeqAt.RcAt.lists (A := A) (s := s) (e := fun _ => true) p1.isList p2.isList Z6 Z1 fun j h1 h2 => by
    have h1' : j < us.length := by simpa using h1
    have h2' : j < ws.length := by simpa using h2
    obtain ⟨x, ex, rx⟩ := r1.at h1'
    obtain ⟨y, ey, ry⟩ := r2.at h2'
    exact ih j x y ex ey (A := A.in1) (show A.units + 1 + n < cLine by omega) (by simpa using rx) (by simpa using ry)
   rw [jA] at this
   exact SeqAt.EqAt.of_refs hab this
def DSq (K : Frag) (H : Hp) (a b : Addr) : Prop := ∃ (n : Nat) (xs ys : List V), n <= 60 /\ xs.length = ys.length /\ ((SqT K H a xs /\ SqT K H b ys) \/ (SqL K H a xs /\ SqL K H b ys)) /\ ∀ (i : Nat) x y, xs[i]? = some x -> ys[i]? = some y -> DEq K H n x y
def O4 (K : Frag) (r : Bool) : R2 := fun x y H Q => ∃ a b, x = .ref a /\ y = .ref b /\ DSq K H a b /\ Q (.bl r) H
theorem wF {K : Frag} (hK : X.K = K) (hu : X.A.units + 64 < cLine) : OpR X (compareOp .Eq) (O4 K true) := by
 subst hK
 intro pins s σ H x y v u Q I rx ry h
 obtain ⟨a, b, rfl, rfl, ⟨n, xs, ys, hn, hl, hs, hd⟩, q⟩ := h
 cases rx; cases ry
 have fin : EP X pins σ Q (.bool true) s := ⟨.bl true, H, I, rfl, q⟩
 rcases hs with ⟨ha, hb⟩ | ⟨ha, hb⟩
 ·obtain ⟨us, r1, p1, _⟩ := I.tuple ha
  obtain ⟨ws, r2, p2, _⟩ := I.tuple hb
  have l1 := r1.length
  have l2 := r2.length
  refine SeqAt.eq_tupleAt (e := fun _ => true) (show s.heap.IsTuple a us.toArray from p1) (show s.heap.IsTuple b ws.toArray from p2) Z1 (fun j h1 h2 => ?_) ?_
  ·have h1' : j < us.length := by simpa using h1
   have h2' : j < ws.length := by simpa using h2
   obtain ⟨x, ex, rx⟩ := r1.at h1'
   obtain ⟨y, ey, ry⟩ := r2.at h2'
   exact DEq.at I (hd j x y ex ey) (A := X.A.in1) (show X.A.units + 1 + n < cLine by omega) (by simpa using rx) (by simpa using ry)
  ·rw [jA, show (us.toArray.size == ws.toArray.size) = true from by simp; omega]
   exact fin
 ·obtain ⟨us, r1, p1, _⟩ := I.list ha
  obtain ⟨ws, r2, p2, _⟩ := I.list hb
  have l1 := r1.length
  have l2 := r2.length
  refine SeqAt.eq_listAt (e := fun _ => true) p1.isList p2.isList Z6 Z1 (fun j h1 h2 => ?_) ?_
  ·have h1' : j < us.length := by simpa using h1
   have h2' : j < ws.length := by simpa using h2
   obtain ⟨x, ex, rx⟩ := r1.at h1'
   obtain ⟨y, ey, ry⟩ := r2.at h2'
   exact DEq.at I (hd j x y ex ey) (A := X.A.in1) (show X.A.units + 1 + n < cLine by omega) (by simpa using rx) (by simpa using ry)
  ·rw [jA]
   exact fin
theorem zc {K : Frag} (hK : X.K = K) (hu : X.A.units + 64 < cLine) : OpR X (compareOp .NotEq) (O4 K false) := by
 subst hK
 intro pins s σ H x y v u Q I rx ry h
 obtain ⟨a, b, rfl, rfl, ⟨n, xs, ys, hn, hl, hs, hd⟩, q⟩ := h
 cases rx; cases ry
 have fin : EP X pins σ Q (.bool false) s := ⟨.bl false, H, I, rfl, q⟩
 rcases hs with ⟨ha, hb⟩ | ⟨ha, hb⟩
 ·obtain ⟨us, r1, p1, _⟩ := I.tuple ha
  obtain ⟨ws, r2, p2, _⟩ := I.tuple hb
  have l1 := r1.length
  have l2 := r2.length
  have := SeqAt.RcNeAt.tuples (A := X.A) (s := s) (e := fun _ => true) (show s.heap.IsTuple a us.toArray from p1) (show s.heap.IsTuple b ws.toArray from p2) Z1 fun j h1 h2 => by
   have h1' : j < us.length := by simpa using h1
   have h2' : j < ws.length := by simpa using h2
   obtain ⟨x, ex, rx⟩ := r1.at h1'
   obtain ⟨y, ey, ry⟩ := r2.at h2'
   exact DEq.at I (hd j x y ex ey) (A := X.A.in1) (show X.A.units + 1 + n < cLine by omega) (by simpa using rx) (by simpa using ry)
  rw [jA, show (us.toArray.size == ws.toArray.size) = true from by simp; omega] at this
  exact this X.prog X.w X.xe _ fin
 ·obtain ⟨us, r1, p1, _⟩ := I.list ha
  obtain ⟨ws, r2, p2, _⟩ := I.list hb
  have l1 := r1.length
  have l2 := r2.length
  have := SeqAt.RcNeAt.lists (A := X.A) (s := s) (e := fun _ => true) p1.isList p2.isList Z6 Z1 fun j h1 h2 => by
   have h1' : j < us.length := by simpa using h1
   have h2' : j < ws.length := by simpa using h2
   obtain ⟨x, ex, rx⟩ := r1.at h1'
   obtain ⟨y, ey, ry⟩ := r2.at h2'
   exact DEq.at I (hd j x y ex ey) (A := X.A.in1) (show X.A.units + 1 + n < cLine by omega) (by simpa using rx) (by simpa using ry)
  rw [jA] at this
  exact this X.prog X.w X.xe _ fin
end
section
variable {X : Cx} {K : Frag}
theorem Jt {es : List Expr} {k : Nat} {t : TGs} {n : Nat} {pos : Pos} (hK : X.K = K) (hc : X.calm = true) (h : PGs X es t)
  (hn : (assignEach es X.env).length = n := by rfl) (hst : (assignEach es X.env).findIdx? (·.1) = none := by rfl) : PG X (.Tuple es k pos) (Ob K n t) := by subst hK; exact MT hc h hn hst
end
def FW (lo st : Int) (n : Nat) : It := ⟨fun i _ => i < n, fun i H x H' => H' = H /\ x = .int (lo + (i : Nat) * st), fun i _ => n <= i⟩
theorem xO {P : Program} {w : World} {K : Frag} {tg : Expr} (it : Addr) (lo st : Int) (n : Nat) : Turn P w K tg (FW lo st n) [it] it (fun i h => IsRangeIter h it (lo + (i : Nat) * st) ((n : Int) - (i : Nat)) st) where
 mem := by simp
 obj := fun i h s b hb => by
  have e : b = it := by simpa using hb
  subst e
  exact ⟨_, s, fun v z => by
   have z' : Data.fields _ = Data.cell v := z
   cases z'⟩
 keep := fun i h h' s k => k it Z2 _ s
 item := by
  intro X hP hw hK hc i pins s σ H E I hf stt hg
  subst hP hw hK
  obtain ⟨f0, f1, f2, f3, f4, f5⟩ := hf it Z2
  have W := Walks.range (prog := X.prog) (w := X.w) (I.ok.hd hc) it lo st n
  refine W.item i s _ _ hg stt fun v h' tk hv st' kk => ?_
  obtain ⟨t, rfl⟩ := hv
  have I1 : Inv X pins σ H { s with heap := h', toks := tk } := I.turned (fun b o hb e => kk b o (by simpa using hb) e) f0 f1 f3 f4 f5
  exact ⟨_, rfl, Ar (s := { s with heap := h', toks := tk }) (n := "range_iterator") st' rfl rfl Z0 ⟨.int (lo + (i : Nat) * st), H, I1, ⟨t, rfl⟩, ⟨rfl, rfl⟩, st', fun b hb => (hf b hb).1⟩⟩
 done := by
  intro X hP hw hK hc i pins s σ H E I hf st hg
  subst hP hw hK
  obtain ⟨f0, f1, f2, f3, f4, f5⟩ := hf it Z2
  exact wpAny_pyNext_range_end (I.ok.hd hc) st (by have : n <= i := hg; omega) fun h' eb => ⟨rfl, I.turned (t' := s.toks) (fun b o hb e => eb b o hb e) f0 f1 f3 f4 f5⟩
 self := fun _ _ _ _ _ st h => wpAny_pyIter_rangeiter st h
section
variable {X : Cx} {K : Frag} {tg : Expr}
def Od (ta : TA) : TI := fun σ H R => ta σ H fun vs H1 => ∃ i j c : Int, vs = [.int i, .int j, .int c] /\ c ≠ 0 /\ c.natAbs < 1073741824 /\ Builtin.Range.small i j c = true /\ 0 <= Builtin.Range.rangeSize i j c /\ R (FW i c (Builtin.Range.rangeSize i j c).toNat) H1
theorem Dm {a b c : Expr} {ta : TA} {p pos : Pos} (hg : Gl X "range") (hm : X.mg "range" = none) (ha : PA X [a, b, c] ta) (he : starEach [a, b, c] X.env = (false, eval a X.env) :: starEach [b, c] X.env := by rfl) (hpl : (backTo pos (starEach [b, c] X.env)).any (·.1) = false := by rfl) :
  PI X tg (.Call (.Name "range" p) [a, b, c] [] pos) (Od ta) := by
 intro pins s σ H R I h
 refine Call_ (pI I hg hm boot_range (PyProof.Rows.callWith_type1 (thn (ha pos pins s σ H _ I h) fun us s1 ⟨vs, H1, I1, r1, q1⟩ => ?_) he hpl))
 obtain ⟨i, j, k, e, hk, hk2, hsm, hn, q⟩ := q1
 subst e
 cases r1 with
 | cons r rr =>
  cases rr with
  | cons r' rr =>
   cases rr with
   | cons r'' rr =>
    cases rr
    obtain ⟨t, rfl⟩ := r
    obtain ⟨t', rfl⟩ := r'
    obtain ⟨t'', rfl⟩ := r''
    refine call_range_3 hk ?_ (.inl (PyProof.noPylong_small hk2))
    refine wpAny_pyIter_range (IsRange.new ..) hsm ?_
    have I2 : Inv X pins σ H1 { s1 with heap := s1.heap.push { cls := .type "range", data := .fields #[.int i t, .int j t', .int k t''] }, toks := s1.toks } := I1.kept fun b o e => Heap.get?_push_of_some _ e
    refine ⟨_, [(s1.heap.push { cls := .type "range", data := .fields #[.int i t, .int j t', .int k t''] }).objs.size], _, _, H1, rfl,
     I2.kept (t' := s1.toks) fun b o e => Heap.get?_push_of_some _ e, xO _ i k (Builtin.Range.rangeSize i j k).toNat, ?_, fun b hb => ?_, q⟩
    ·have e1 : i + ((0 : Nat) : Int) * k = i := by simp
     have e2 : (((Builtin.Range.rangeSize i j k).toNat : Nat) : Int) - ((0 : Nat) : Int) = Builtin.Range.rangeSize i j k := by omega
     show IsRangeIter _ _ (i + ((0 : Nat) : Int) * k) ((((Builtin.Range.rangeSize i j k).toNat : Nat) : Int) - ((0 : Nat) : Int)) k
     rw [e1, e2]
     exact Heap.get?_push_size _ rfl
    ·have e : b = (s1.heap.push { cls := .type "range", data := .fields #[.int i t, .int j t', .int k t''] }).objs.size := by simpa using hb
     subst e
     exact I2.fpOk (le_refl _) (I2.hok.fresh (le_refl _))
end
theorem zz {lo st : Int} {n : Nat} {g : TG} {tb : TS} {D : Ends} {σ : St} {H : Hp} (Pv : Nat -> St -> Hp -> Prop) (h0 : Pv 0 σ H)
  (hs : ∀ (i : Nat) σ H, i < n -> Pv i σ H -> g (.int (lo + (i : Nat) * st)) σ H fun σ2 H2 => tb { D with nx := Pv (i + 1), ct := Pv (i + 1), bk := D.nx } σ2 H2) (hd : ∀ σ H, Pv n σ H -> D.nx σ H) :
  ∃ W : Nat -> Nat -> St -> Hp -> Prop, (∃ m, W 0 m σ H) /\ ∀ i m σ H, W i m σ H ->
   ((FW lo st n).stop i H /\ D.nx σ H) \/ ((FW lo st n).go i H /\ ∃ N : St -> Hp -> Prop, (∀ σ' H', N σ' H' -> ∃ m', m' < m /\ W (i + 1) m' σ' H') /\ ∀ x H', (FW lo st n).yld i H x H' -> g x σ H' fun σ2 H2 => tb { D with nx := N, ct := N, bk := D.nx } σ2 H2) := by
 refine ⟨fun i m σ H => m = n - i /\ i <= n /\ Pv i σ H, ⟨n, Z2, zero_le _, h0⟩, ?_⟩
 rintro i m σ H ⟨rfl, hi, p⟩
 by_cases hlt : i < n
 ·refine .inr ⟨hlt, Pv (i + 1), fun σ' H' p' => ⟨n - (i + 1), Z1, rfl, hlt, p'⟩, fun x H' y => ?_⟩
  obtain ⟨e, y⟩ := y
  subst e y
  exact hs i σ _ hlt p
 ·have e : i = n := by omega
  subst e
  exact .inl ⟨le_refl _, hd σ H p⟩
section
variable {X : Cx} {K : Frag}
theorem Hh (hc : X.calm = true) : cX X (.builtin "any") (Lz X.K fun bs => bs.any id) := by
 intro pins s σ H xs us Q I r h
 obtain ⟨p, bs, rfl, hq, q⟩ := h
 obtain ⟨u, rfl, rx⟩ := vals1 r
 cases (show u = Value.ref p from rx)
 obtain ⟨its, rv, pl, hz⟩ := I.list hq
 have hlen := rv.length
 rw [length_map] at hlen
 have hne : p ≠ s.heap.objs.size := by
  obtain ⟨o, e, _⟩ := pl.isList
  exact ne_of_lt (Heap.lt_size e)
 refine call_any_walk (wpAny_pyIter_list pl.isList ?_)
 refine ⟨s.heap.objs.size, _, _, _, _, _, fun i => bs.getD i false, rfl, Walks.list (show X.A.in1.handled = none from I.ok.hd hc) s.heap.objs.size p hne its.toArray, ⟨⟨_, Heap.get?_push_size _ rfl, rfl, rfl⟩, ?_⟩, fun i v s' Q' E' hP hQ => ?_, fun h' tk kk => ?_⟩
 ·exact pl.isList.at fun o e => Heap.get?_push_of_some _ e
 ·have e := FP rv (by simpa using hP)
  subst e
  exact wpAny_truthy_bool hQ
 ·have e : (List.range its.toArray.size).any (fun i => bs.getD i false) = bs.any id := by rw [size_toArray, <- hlen]; exact range_any bs
  rw [e]
  refine ⟨.bl _, H, I.kept fun b o e => ?_, rfl, q⟩
  exact kk b o (fun z => absurd (Heap.lt_size e) (by rw [mem_singleton.mp z]; exact lt_irrefl _)) (Heap.get?_push_of_some _ e)
theorem u6 : cX X (.type "int") (fun xs H Q => ∃ z n, xs = [.str z] /\ intText? z = some n /\ z.length <= 640 /\ Q (.int n) H) := by
 intro pins s σ H xs us Q I r h
 obtain ⟨z, n, rfl, hn, hl, q⟩ := h
 obtain ⟨u, rfl, t, rfl⟩ := vals1 r
 exact PySem.W.KIN.call_text hn hl ⟨.int n, H, I.tok _, ⟨_, rfl⟩, q⟩
def Nv : V -> List V -> Hp -> VK -> Prop := fun x vs H Q => ∃ z y, x = .str z /\ vs = [.str y] /\ Q (.bl (Txt.endswith z y)) H
theorem xT : MtR X "str.endswith" Nv := by
 intro pins s σ H x vs v us Q I rx rv h
 obtain ⟨z, y, rfl, rfl, q⟩ := h
 obtain ⟨t, rfl⟩ := rx
 obtain ⟨u, rfl, t2, rfl⟩ := vals1 rv
 exact SC.endswith ⟨.bl _, H, I, rfl, q⟩
theorem yP : OpR X (binaryOp .Mult) (fun x y H Q => ∃ z n, x = .str z /\ y = .int n /\ MulOk z n /\ Q (.str (Txt.mul z n)) H) := by
 intro pins s σ H x y v u Q I rx ry h
 obtain ⟨z, n, rfl, rfl, hm, q⟩ := h
 obtain ⟨t, rfl⟩ := rx
 obtain ⟨t', rfl⟩ := ry
 exact SB.mul hm fun t' k => ⟨.str _, H, I.tok k, ⟨t', rfl⟩, q⟩
end
theorem zE {K : Frag} {a : Addr} {xs : List V} {tf : TT} {te : TE} {τ0 : St} {H : Hp} {Fin : List V -> Hp -> Prop} (p : V -> Bool) (hn : xs.length <= sizeLine) (hl : SqL K H a xs)
  (htf : ∀ x H' (Q : Bool -> Hp -> Prop), x ∈ xs -> au H H' -> (∀ H'', au H' H'' -> Q (p x) H'') -> tf (τ0.set 0 (some x)) H' Q)
  (hte : ∀ x H' (Q : VK), x ∈ xs -> au H H' -> (∀ H'', au H' H'' -> Q x H'') -> te (τ0.set 0 (some x)) H' Q)
  (hfin : ∀ H', au H H' -> Fin (xs.filter p) H') : pQ (dg 0) tf te (Itl K a) τ0 H Fin := by
 refine ⟨fun i m τ ys H' => m = xs.length - i /\ i <= xs.length /\ ys = (xs.take i).filter p /\ au H H' /\ ∃ v, τ = τ0.set 0 v \/ τ = τ0, ⟨xs.length, rfl, zero_le _, rfl, au.refl _, none, .inr rfl⟩, ?_⟩
 rintro i m τ ys H' ⟨rfl, hi, rfl, sm, v, hτ⟩
 by_cases hlt : i < xs.length
 ·refine .inr ⟨⟨xs, xs[i], sm.seq hl, by simp [hlt]⟩, fun x H'' y => ?_⟩
  obtain ⟨e, y⟩ := y
  subst e
  have hx := y xs (sm.seq hl)
  have e2 : τ.set 0 (some x) = τ0.set 0 (some x) := by
   rcases hτ with rfl | rfl
   ·rw [set_set]
   ·rfl
  unfold dg
  rw [e2]
  have e3 : (xs.take (i + 1)).filter p = (xs.take i).filter p ++ (if p x = true then [x] else []) := by
   rw [List.take_add_one, hx, List.filter_append]
   congr 1
   show [x].filter p = _
   rw [filter_cons]
   rfl
  refine htf x H'' _ (mem_of_getElem? hx) sm fun H4 s4 => ?_
  cases hp : p x with
  | true =>
   rw [if_pos rfl]
   refine hte x H4 _ (mem_of_getElem? hx) (sm.trans s4) fun H5 s5 => ?_
   refine ⟨?_, xs.length - (i + 1), Z1, rfl, hlt, ?_, sm.trans (s4.trans s5), _, .inl rfl⟩
   ·have := List.length_filter_le p (xs.take i)
    rw [length_take] at this
    omega
   ·rw [e3, hp]; rfl
  | false =>
   rw [if_neg Z0]
   refine ⟨xs.length - (i + 1), Z1, rfl, hlt, ?_, sm.trans s4, _, .inl rfl⟩
   rw [e3, hp]; simp
 ·have e : i = xs.length := by omega
  subst e
  exact .inl ⟨⟨xs, sm.seq hl, le_refl _⟩, by have := hfin H' sm; rw [take_length]; exact this⟩
end L2
namespace Mine
open PySem PySem.Spec PyProof.Rows L2 PySem.Builtin PySem.Builtin.Str
inductive Thg where
 | num (m : Nat)
 | nms (c : Bool) (ys : List Str)
structure Trm where
 sg : Int
 th : Thg
def kindOf : Thg -> Str
 | .num _ => "number"
 | .nms c _ => if c = true then "call" else "path"
def wordOf : Thg -> Str
 | .num m => jt m
 | .nms c ys => if c = true then dotted ys ++ brk else dotted ys
def sgw (s : Int) : Str := if s = 1 then "+" else "-"
def wordsOf : List Trm -> List Str
 | [] => []
 | t :: r => wordOf t.th :: (r.map fun t => [sgw t.sg, wordOf t.th]).flatten
def textOf (ts : List Trm) : Str := Str.join ⟨#[32]⟩ (wordsOf ts)
structure gQ (ys : List Str) : Prop where
 lo : ys ≠ []
 hi : ys.length <= 4
 nm : ∀ y ∈ ys, bT y
def gR : Thg -> Prop
 | .num m => m < 10 ^ 20
 | .nms _ ys => gQ ys
structure Dw (t : Trm) : Prop where
 sg : t.sg = 1 \/ t.sg = -1
 th : gR t.th
structure bN (ts : List Trm) : Prop where
 lo : ts ≠ []
 hi : ts.length <= 6
 ok : ∀ t ∈ ts, Dw t
 hd : ∀ t, ts.head? = some t -> t.sg = 1
theorem Ac : brk.length = 2 := by decide +kernel
theorem gQ.len {ys : List Str} (h : gQ ys) : (dotted ys).length <= 36 := by
 have h1 := yW ys
 have h2 : (ys.map (·.length)).sum <= ys.length * 8 := zW fun y hy => (h.nm y hy).hi
 have := h.hi
 omega
theorem Ez {th : Thg} (h : gR th) : (wordOf th).length <= 38 := by
 cases th with
 | num m => exact le_trans (iZ h).2.1 Z0
 | nms c ys =>
  have := gQ.len h
  cases c with
  | true => show (dotted ys ++ brk).length <= 38; rw [gF, Ac]; omega
  | false => show (dotted ys).length <= 38; omega
theorem Dh {th : Thg} (h : gR th) : 32 ∉ (wordOf th).cps.toList := by
 cases th with
 | num m =>
  intro z
  have := digit_range z
  omega
 | nms c ys =>
  have key : 32 ∉ (dotted ys).cps.toList := fun z => by have := dI (gQ.nm h) z; omega
  cases c with
  | true =>
   show 32 ∉ (dotted ys ++ brk).cps.toList
   rw [aU, jz]
   intro z
   rcases mem_append.mp z with z | z
   ·exact key z
   ·simp at z
  | false => exact key
theorem zL : (("+" : Str)).cps.toList = [43] := by decide +kernel
theorem xq : (("-" : Str)).cps.toList = [45] := by decide +kernel
theorem o6 (s : Int) : (sgw s).cps.toList = [43] \/ (sgw s).cps.toList = [45] := by
 unfold sgw; split
 ·exact .inl zL
 ·exact .inr xq
theorem JM (s : Int) : (sgw s).length = 1 := by
 rw [cB]; rcases o6 s with e | e <;> rw [e] <;> rfl
theorem Dv (s : Int) : 32 ∉ (sgw s).cps.toList := by rcases o6 s with e | e <;> rw [e] <;> decide
theorem lD {ts : List Trm} {x : Str} (h : x ∈ wordsOf ts) : (∃ t ∈ ts, x = wordOf t.th) \/ ∃ t ∈ ts, x = sgw t.sg := by
 cases ts with
 | nil => simp [wordsOf] at h
 | cons t r =>
  rcases mem_cons.mp h with h | h
  ·exact .inl ⟨t, mem_cons_self, h⟩
  ·obtain ⟨l, hl, hx⟩ := List.mem_flatten.mp h
   obtain ⟨u, hu, rfl⟩ := mem_map.mp hl
   simp only [mem_cons, not_mem_nil, or_false] at hx
   rcases hx with hx | hx
   ·exact .inr ⟨u, mem_cons_of_mem _ hu, hx⟩
   ·exact .inl ⟨u, mem_cons_of_mem _ hu, hx⟩
theorem qN {ts : List Trm} (h : ts ≠ []) : wordsOf ts ≠ [] := by
 cases ts with
 | nil => exact absurd rfl h
 | cons t r => intro z; cases z
theorem blank_eq : ((" " : Str)) = ⟨#[32]⟩ := by decide +kernel
theorem Fb (r : List Trm) : ((r.map fun t => [sgw t.sg, wordOf t.th]).flatten).length = 2 * r.length := by
 induction r with
 | nil => rfl
 | cons t r ih => rw [map_cons, flatten_cons, length_append, ih]; simp; omega
theorem dz {ts : List Trm} (h : ts ≠ []) : (wordsOf ts).length = 2 * ts.length - 1 := by
 cases ts with
 | nil => exact absurd rfl h
 | cons t r => show (_ :: _).length = _; rw [length_cons, Fb, length_cons]; omega
theorem Bx : ∀ (r : List Trm) (i : Nat) (t : Trm), r[i]? = some t ->
  ((r.map fun t => [sgw t.sg, wordOf t.th]).flatten)[2 * i]? = some (sgw t.sg) /\ ((r.map fun t => [sgw t.sg, wordOf t.th]).flatten)[2 * i + 1]? = some (wordOf t.th)
 | [], i, t, h => by simp at h
 | u :: r, 0, t, h => by
  have : u = t := by simpa using h
  subst this
  exact ⟨rfl, rfl⟩
 | u :: r, i + 1, t, h => by
  have ih := Bx r i t (by simpa using h)
  rw [map_cons, flatten_cons, show 2 * (i + 1) = 2 * i + 1 + 1 from by omega]
  exact ih
theorem oF {ts : List Trm} {i : Nat} {t : Trm} (h : ts[i + 1]? = some t) : (wordsOf ts)[2 * i + 1]? = some (sgw t.sg) /\ (wordsOf ts)[2 * i + 2]? = some (wordOf t.th) := by
 cases ts with
 | nil => simp at h
 | cons u r => exact Bx r i t (by simpa using h)
theorem vL {ts : List Trm} (t : Trm) (h : ts ≠ []) : wordsOf (ts ++ [t]) = wordsOf ts ++ [sgw t.sg, wordOf t.th] := by
 cases ts with
 | nil => exact absurd rfl h
 | cons u r =>
  show wordOf u.th :: ((r ++ [t]).map fun t => [sgw t.sg, wordOf t.th]).flatten = wordOf u.th :: (r.map fun t => [sgw t.sg, wordOf t.th]).flatten ++ [sgw t.sg, wordOf t.th]
  rw [map_append, List.flatten_append]
  simp
theorem zG {ts : List Trm} (h : ∀ t ∈ ts, Dw t) : (textOf ts).length <= 80 * ts.length := by
 unfold textOf
 have h1 := StrLaws.join_length_le ⟨#[32]⟩ (wordsOf ts)
 have e : (⟨#[32]⟩ : Str).length = 1 := rfl
 rw [e] at h1
 have h2 : ((wordsOf ts).map (·.length)).sum <= (wordsOf ts).length * 38 := zW fun y hy => by
  rcases lD hy with ⟨t, ht, rfl⟩ | ⟨t, ht, rfl⟩
  ·exact Ez (h t ht).th
  ·rw [JM]; decide
 cases ts with
 | nil => exact le_of_eq rfl
 | cons t r =>
  have := dz (ts := t :: r) Z2
  omega
end Mine
namespace L2
open PySem PySem.Spec PyProof.Rows
theorem wK {lo : Int} {n : Nat} {te : TE} {τ0 : St} {H : Hp} {Fin : List V -> Hp -> Prop} (R : Nat -> V -> Hp -> Prop) (hm : ∀ i v H' H'', R i v H' -> au H' H'' -> R i v H'') (hn : n <= sizeLine)
  (hte : ∀ (i : Nat) H' (Q : VK), i < n -> au H H' -> (∀ v H'', au H' H'' -> R i v H'' -> Q v H'') -> te (τ0.set 0 (some (.int (lo + i)))) H' Q)
  (hfin : ∀ ys H', au H H' -> ys.length = n -> (∀ (i : Nat) v, ys[i]? = some v -> R i v H') -> Fin ys H') : pQ (dg 0) sO te (Itr lo n) τ0 H Fin := by
 refine ⟨fun i m τ ys H' => m = n - i /\ i <= n /\ ys.length = i /\ (∀ (j : Nat) v, ys[j]? = some v -> R j v H') /\ au H H' /\ ∃ v, τ = τ0.set 0 v \/ τ = τ0, ⟨n, rfl, zero_le _, rfl, fun j v h => by simp at h, au.refl _, none, .inr rfl⟩, ?_⟩
 rintro i m τ ys H' ⟨rfl, hi, hl, hr, sm, v, hτ⟩
 by_cases hlt : i < n
 ·refine .inr ⟨hlt, fun x H'' y => ?_⟩
  obtain ⟨e, y⟩ := y
  subst e y
  have e2 : τ.set 0 (some (V.int (lo + i))) = τ0.set 0 (some (V.int (lo + i))) := by
   rcases hτ with rfl | rfl
   ·rw [set_set]
   ·rfl
  unfold dg sO
  rw [e2]
  dsimp only
  rw [if_pos rfl]
  refine hte i H'' _ hlt sm fun v H4 s4 hv => ?_
  refine ⟨Z1, n - (i + 1), Z1, rfl, hlt, by rw [length_append, hl]; rfl, fun j u hj => ?_, sm.trans s4, _, .inl rfl⟩
  by_cases hji : j < ys.length
  ·rw [getElem?_append_left hji] at hj
   exact hm _ _ _ _ (hr j u hj) s4
  ·rw [getElem?_append_right Z1] at hj
   have hj0 : j - ys.length = 0 := by
    cases hh : j - ys.length with
    | zero => rfl
    | succ k => rw [hh] at hj; simp at hj
   rw [hj0] at hj
   have : j = i := by omega
   subst this
   have : v = u := by simpa using hj
   subst this
   exact hv
 ·have e : i = n := by omega
  subst e
  exact .inl ⟨le_refl _, hfin ys H' sm hl hr⟩
theorem nF {K : Frag} {a : Addr} {xs : List V} {te : TE} {τ0 : St} {H : Hp} {Fin : List V -> Hp -> Prop} (f : Nat -> V) (hn : xs.length <= sizeLine) (hl : SqL K H a xs)
  (hte : ∀ (i : Nat) x H' (Q : VK), xs[i]? = some x -> au H H' -> (∀ H'', au H' H'' -> Q (f i) H'') -> te (τ0.set 0 (some x)) H' Q)
  (hfin : ∀ H', au H H' -> Fin ((List.range xs.length).map f) H') : pQ (dg 0) sO te (Itl K a) τ0 H Fin := by
 refine ⟨fun i m τ ys H' => m = xs.length - i /\ i <= xs.length /\ ys = (List.range i).map f /\ au H H' /\ ∃ v, τ = τ0.set 0 v \/ τ = τ0, ⟨xs.length, rfl, zero_le _, rfl, au.refl _, none, .inr rfl⟩, ?_⟩
 rintro i m τ ys H' ⟨rfl, hi, rfl, sm, v, hτ⟩
 by_cases hlt : i < xs.length
 ·refine .inr ⟨⟨xs, xs[i], sm.seq hl, by simp [hlt]⟩, fun x H'' y => ?_⟩
  obtain ⟨e, y⟩ := y
  subst e
  have hx := y xs (sm.seq hl)
  have e2 : τ.set 0 (some x) = τ0.set 0 (some x) := by
   rcases hτ with rfl | rfl
   ·rw [set_set]
   ·rfl
  unfold dg sO
  rw [e2]
  dsimp only
  rw [if_pos rfl]
  refine hte i x H'' _ hx sm fun H4 s4 => ?_
  exact ⟨by rw [length_map, length_range]; omega, xs.length - (i + 1), Z1, rfl, hlt, by rw [List.range_succ, map_append]; rfl, sm.trans s4, _, .inl rfl⟩
 ·have e : i = xs.length := by omega
  subst e
  exact .inl ⟨⟨xs, sm.seq hl, le_refl _⟩, hfin H' sm⟩
end L2
namespace Mine
open PySem PySem.Spec PyProof.Rows L2 PySem.Builtin PySem.Builtin.Str
def vR (H : Hp) (x : V) : Thg -> Prop
 | .num m => x = .int ((m : Nat) : Int)
 | .nms _ ys => ∃ q, x = .ref q /\ H q = some (.tup (ys.map V.str))
def oh (H : Hp) (v : V) (t : Trm) : Prop := ∃ p x, v = .ref p /\ H p = some (.tup [.int t.sg, .str (kindOf t.th), x]) /\ vR H x t.th
def dB (H : Hp) (l : Addr) (ts : List Trm) : Prop := ∃ xs, H l = some (.lst xs) /\ xs.length = ts.length /\ ∀ (i : Nat) x, xs[i]? = some x -> ∃ t, ts[i]? = some t /\ oh H x t
theorem vR.same {H H' : Hp} {x : V} {th : Thg} (h : vR H x th) (s : au H H') : vR H' x th := by
 cases th with
 | num m => exact h
 | nms c ys => obtain ⟨q, e, hq⟩ := h; exact ⟨q, e, s _ _ hq⟩
theorem oh.same {H H' : Hp} {v : V} {t : Trm} (h : oh H v t) (s : au H H') : oh H' v t := by
 obtain ⟨p, x, e, hp, hx⟩ := h
 exact ⟨p, x, e, s _ _ hp, hx.same s⟩
theorem dB.same {H H' : Hp} {l : Addr} {ts : List Trm} (h : dB H l ts) (s : au H H') : dB H' l ts := by
 obtain ⟨xs, hl, hn, hx⟩ := h
 refine ⟨xs, s _ _ hl, hn, fun i x e => ?_⟩
 obtain ⟨t, ht, tm⟩ := hx i x e
 exact ⟨t, ht, tm.same s⟩
theorem oh.upd {H : Hp} {v : V} {t : Trm} {l : Addr} {ys : List V} {o : HO} (h : oh H v t) (hl : H l = some (.lst ys)) : oh (upd H l o) v t := by
 obtain ⟨p, x, e, hp, hx⟩ := h
 refine ⟨p, x, e, by rw [aD (kO hp hl Z7)]; exact hp, ?_⟩
 cases hth : t.th with
 | num m => rw [hth] at hx; exact hx
 | nms c zs =>
  rw [hth] at hx
  obtain ⟨q, e, hq⟩ := hx
  exact ⟨q, e, by rw [aD (kO hq hl Z7)]; exact hq⟩
theorem vR.deq {K : Frag} {H : Hp} {x y : V} {th : Thg} (h1 : vR H x th) (h2 : vR H y th) : DEq K H 1 x y := by
 cases th with
 | num m => cases h1; cases h2; exact .int _
 | nms c ys =>
  obtain ⟨q, rfl, hq⟩ := h1
  obtain ⟨r, rfl, hr⟩ := h2
  refine .tup (SqT.of hq) (SqT.of hr) rfl fun i a b ha hb => ?_
  rw [ha] at hb; cases hb
  rw [getElem?_map] at ha
  cases hy : ys[i]? with
  | none => rw [hy] at ha; cases ha
  | some z => rw [hy] at ha; cases ha; exact .str z
theorem oh.items {K : Frag} {H : Hp} {t : Trm} {x y : V} (h1 : vR H x t.th) (h2 : vR H y t.th) :
  ∀ (i : Nat) a b, ([.int t.sg, .str (kindOf t.th), x] : List V)[i]? = some a -> ([.int t.sg, .str (kindOf t.th), y] : List V)[i]? = some b -> DEq K H 1 a b
 | 0, a, b, ha, hb => by cases ha; cases hb; exact .int _
 | 1, a, b, ha, hb => by cases ha; cases hb; exact .str _
 | 2, a, b, ha, hb => by cases ha; cases hb; exact h1.deq h2
 | i + 3, a, b, ha, hb => by simp at ha
theorem pO {α β : Type} (P : Nat -> α -> β -> Prop) : ∀ (ys : List α) (k : Nat), (∀ (i : Nat) v, ys[i]? = some v -> ∃ t, P (k + i) v t) -> ∃ ts : List β, ts.length = ys.length /\ ∀ (i : Nat) v, ys[i]? = some v -> ∃ t, ts[i]? = some t /\ P (k + i) v t
 | [], k, _ => ⟨[], rfl, fun i v h => by simp at h⟩
 | y :: ys, k, h => by
  obtain ⟨t0, h0⟩ := h 0 y rfl
  obtain ⟨ts, hl, ht⟩ := pO P ys (k + 1) fun i v e => by
   have := h (i + 1) v (by simpa using e)
   rwa [show k + (i + 1) = k + 1 + i from by omega] at this
  refine ⟨t0 :: ts, by simp [hl], fun i v e => ?_⟩
  cases i with
  | zero => cases e; exact ⟨t0, rfl, h0⟩
  | succ i =>
   obtain ⟨t, e2, p⟩ := ht i v (by simpa using e)
   refine ⟨t, by simpa using e2, ?_⟩
   rwa [show k + (i + 1) = k + 1 + i from by omega]
end Mine
namespace L2
open PySem PySem.Spec PyProof.Rows PySem.W
section
variable {X : Cx} {x : Str} {pos : Pos}
end
structure RCl (K : Frag) (C : Addr) : Prop where
 cl : Cls K C
 ha : findIn K (.ref C) "__class__" = some (some (.builtin "object.__class__"))
 hn : specialIn K (.builtin "object.__class__") "__get__" = some (some (.builtin "getset_descriptor.__get__"))
 htk : takesIn K (.builtin "object.__class__") = some true
 hm : mroIn K C (.type "object") = some true
theorem RCl.ty {K : Frag} {C a dx : Addr} {H : Hp} {fs : List (Str × V)} (c : RCl K C) (e : H a = some (.ins C dx fs)) : nJ K H (.ref a) (.ref C) := .ins e c.cl c.ha c.hn c.htk c.hm
structure MkN (K : Frag) (C : Addr) : Prop where
 makes : makesIn K C = true
 init : findIn K (.ref C) "__init__" = some (some (.builtin "object.__init__"))
 kp : keepIn K (.ref C) = true
section
variable {X : Cx} {C : Addr} {x : Str} {p pos : Pos}
end
section
variable {X : Cx} {C f : Addr} {k : Nat} {fd : FuncData} {ps : List Str} {sp : Sp} {x : Str} {p pos : Pos} {e : Expr} {es : List Expr} {t : TA}
theorem pY (M : Mk X.K C f) (b : Binds X.K fd ps []) (G : aJ X.prog X.w X.K X.mg X.base CX0 k f fd ps sp) (hr : aX (k + 1) X.A) (hm : X.mg x = some (.ref C)) (ha : PA X (e :: es) t) (hg : Gl X x := by rfl)
  (hdb : (x == ("__debug__" : Str)) = false := by decide) (he : starEach (e :: es) X.env = (false, eval e X.env) :: starEach es X.env := by rfl) (hpl : (backTo pos (starEach es X.env)).any (·.1) = false := by rfl) :
  PE X (.Call (.Name x p) (e :: es) [] pos) (Km C sp [] E0 t) := HF M G hr hg hm b .nil wX ha hdb he hpl
end
def VM (P : Program) (w : World) (K : Frag) (mg : MG) (base : Heap) (k : Nat) (C : Addr) (m : Str) (sp : Sp) : Prop := ∃ f fd ps, Meth K C m f /\ aJ P w K mg base CX0 k f fd ps sp /\ Binds K fd ps []
def MV (P : Program) (w : World) (K : Frag) (mg : MG) (base : Heap) (k : Nat) (m : Str) (x : V) (H : Hp) (Q : VK) : Prop :=
 ∃ a C dx fs sp, x = .ref a /\ H a = some (.ins C dx fs) /\ fs.lookup m = none /\ Cls K C /\ VM P w K mg base k C m sp /\ sp [x] H Q E0
def Nq (P : Program) (w : World) (K : Frag) (mg : MG) (base : Heap) (k : Nat) (m : Str) (ta : TE) : TE := fun σ H Q => ta σ H fun x H1 => MV P w K mg base k m x H1 Q
section
variable {X : Cx} {P : Program} {w : World} {K : Frag} {mg : MG} {base : Heap} {k : Nat} {m : Str} {o : Expr} {ta : TE} {pos apos : Pos}
theorem wJ {pl : Sem Bool} (h1 : X.prog = P) (h2 : X.w = w) (h3 : X.K = K) (h4 : X.mg = mg) (h5 : X.base = base) (hr : aX k X.A) (he : PE X o ta)
  (ht : eval (.Call (.Attribute o m apos) [] [] pos) X.env = (do
   let ov <- eval o X.env
   standAt apos.atName
   let (f, first) <- holding [ov] (getMethod ov m pl)
   callWith pos f first (backTo pos (starEach [] X.env)) (backToKw pos (keywordEach [] X.env))) := by rfl) :
  PE X (.Call (.Attribute o m apos) [] [] pos) (Nq P w K mg base k m ta) := by
 subst h1 h2 h3 h4 h5
 intro pins s σ H Q I h
 refine methodCall_KW (pl := pl) (thn (he pins s σ H _ I h) fun u s1 hz => ?_) ht
 obtain ⟨x, H1, I1, rx, a, C, dx, fs, sp, ex, ea, l, c, ⟨f, fd, ps, hm, F, hb⟩, q⟩ := hz
 subst ex
 obtain rfl : u = Value.ref a := rx
 refine sE I1 ea c hm l ?_
 exact PySem.W.callWith_K0 (first := [.ref a]) I1.kIn hm.kp (yU (us := [.ref a]) (vs := [.ref a]) (dvs := []) (ds := []) F hr hb .nil wX I1 (.cons rfl .nil) q)
end
section
variable {X : Cx} {o value : Expr} {f : Str} {pos pos' : Pos} {ta tv : TE}
theorem d8 (ha : PE X o ta) (hv : PE X value tv) (hs : swapsWith value (some (.Attribute o f pos')) pos.line X.env = pure false := by rfl) : QS X (.Assign [.Attribute o f pos'] value pos) (Og X.K ta tv f) := ⟨K9 ha hv hs⟩
end
structure MAt (K : Frag) (m q : Str) (st : Stmt) (ps : List Str) (f : Addr) (fd : FuncData) : Prop where
 F : Fun K m q st f fd
 b : Binds K fd ps []
theorem rdF {K : Frag} {H : Hp} {a C dx : Addr} {fs : List (Str × V)} {v : V} {f : Str} {q : V -> Prop} (ha : H a = some (.ins C dx fs)) (c : Cls K C) (n : b8 K C f) (l : fs.lookup f = some v) (h : q v) :
  ∃ a' C' dx' fs' v', V.ref a = .ref a' /\ H a' = some (.ins C' dx' fs') /\ Cls K C' /\ b8 K C' f /\ fs'.lookup f = some v' /\ q v' := ⟨a, C, dx, fs, v, rfl, ha, c, n, l, h⟩
theorem pB {p : Nat -> Prop} (h0 : p 0) (h1 : p 1) (h2 : p 2) (h3 : p 3) (h4 : p 4) (h5 : p 5) (h6 : p 6) (i : Nat) (h : i <= 6) : p i := by
 cases i with
 | zero => exact h0
 | succ i => cases i with
  | zero => exact h1
  | succ i => cases i with
   | zero => exact h2
   | succ i => cases i with
    | zero => exact h3
    | succ i => cases i with
     | zero => exact h4
     | succ i => cases i with
      | zero => exact h5
      | succ i => cases i with
       | zero => exact h6
       | succ i => exact absurd h Z1
theorem ju {H : Hp} {p b : Addr} {o : HO} (h : upd H p o b = none) : H b = none /\ b ≠ p := by
 unfold upd at h
 split at h
 ·cases h
 ·exact ⟨h, ‹_›⟩
theorem lkP {f : Str} {y : V} {fs : List (Str × V)} : (jE f y fs).lookup f = some y := by rw [iC, if_pos rfl]
theorem lkN {f g : Str} {y : V} {fs : List (Str × V)} (h : ¬ g = f) : (jE f y fs).lookup g = fs.lookup g := by rw [iC, if_neg h]
theorem yz {f : Str} {y : V} {fs : List (Str × V)} {n : Nat} (h : fs.length < n) : (jE f y fs).length < n + 1 := by have := lE f y fs; omega
def SameBut (x : Addr) (H H' : Hp) : Prop := ∀ b o, H b = some o -> b ≠ x -> H' b = some o
theorem sb3 {H : Hp} {x l : Addr} {o1 o2 o3 : HO} (hl : H l = none) : SameBut x H (upd (upd (upd H x o1) l o2) x o3) := fun b o e hb => by
 rw [aD hb, aD (aB e hl), aD hb]; exact e
theorem sb2 {H : Hp} {x l : Addr} {o1 o2 : HO} (hl : H l = none) : SameBut x H (upd (upd H l o1) x o2) := fun b o e hb => by
 rw [aD hb, aD (aB e hl)]; exact e
theorem aH {K : Frag} {C D : Addr} {b : Bool} (m : mroIn K C (.ref D) = some b) (sD : mroIn K D (.ref D) = some true) (o : mroIn K D (.type "object") = some true) (ty : typeIn K (.ref D) = some (.type "type")) : kitOne K (.ref C) (.ref D) = some b := by
 unfold kitOne
 by_cases e : (Value.ref C == Value.ref D) = true
 ·rw [if_pos e]
  have e' : C = D := by cases eq_of_beq e; rfl
  subst e'
  rw [m] at sD; exact sD.symm
 ·rw [if_neg e]
  cases h : clsIn K D with
  | none => unfold mroIn at o; rw [h] at o; cases o
  | some cd =>
   show (if ((clsIn K D).isSome && typeIn K (.ref D) == some (.type "type")) = true then mroIn K C (.ref D) else none) = _
   rw [h, ty, if_pos Z2, m]
theorem len0 {α : Type} {us : List α} (h : us.length = 0) : us = [] := List.length_eq_zero_iff.mp h
theorem Bh {α : Type} {us : List α} {n : Nat} (h : us.length = n + 1) : ∃ a r, us = a :: r /\ r.length = n := by
 cases us with
 | nil => cases h
 | cons a r => exact ⟨a, r, rfl, Nat.succ.inj h⟩
theorem Ny {α : Type} {us : List α} (h : us.length = 1) : ∃ a, us = [a] := by
 obtain ⟨a, r, rfl, k⟩ := Bh h
 exact ⟨a, by rw [len0 k]⟩
theorem O3 {α : Type} {us : List α} (h : us.length = 2) : ∃ a b, us = [a, b] := by
 obtain ⟨a, r, rfl, k⟩ := Bh h
 obtain ⟨b, rfl⟩ := Ny k
 exact ⟨a, b, rfl⟩
theorem Nx {α : Type} {us : List α} (h : us.length = 3) : ∃ a b c, us = [a, b, c] := by
 obtain ⟨a, r, rfl, k⟩ := Bh h
 obtain ⟨b, c, rfl⟩ := O3 k
 exact ⟨a, b, c, rfl⟩
theorem RP {α : Type} {us : List α} (h : us.length = 4) : ∃ a b c d, us = [a, b, c, d] := by
 obtain ⟨a, r, rfl, k⟩ := Bh h
 obtain ⟨b, c, d, rfl⟩ := Nx k
 exact ⟨a, b, c, d, rfl⟩
end L2
namespace Mine
open PySem PySem.Spec PyProof.Rows L2 PySem.Builtin PySem.Builtin.Str
structure aZ where
 so : Nat
 nm : Str
 ad : Str
 wd : Str
 ts : List Trm
def mD : Nat -> Str
 | 0 => "let"
 | 1 => "deed"
 | 2 => "draw"
 | 3 => "late"
 | 4 => "take"
 | _ => "need"
structure iM (ys : List Str) : Prop where
 lo : ys ≠ []
 hi : ys.length <= 3
 nm : ∀ y ∈ ys, bT y
structure GoodR (r : aZ) : Prop where
 so : r.so <= 5
 nm : r.so < 5 -> bT r.nm
 no : r.so = 5 -> r.nm = ""
 ad : ∃ ys, iM ys /\ r.ad = dotted ys
 wd : bT r.wd
 ts : bN r.ts
 dd : r.so = 1 -> ∀ t ∈ r.ts, ∀ ys, t.th ≠ .nms true ys
theorem iM.len {ys : List Str} (h : iM ys) : (dotted ys).length <= 36 := gQ.len ⟨h.lo, le_trans h.hi Z0, h.nm⟩
theorem GoodR.nl {r : aZ} (h : GoodR r) : r.nm.length <= 8 := by
 rcases lt_or_ge r.so 5 with k | k
 ·exact (h.nm k).hi
 ·rw [h.no (by have := h.so; omega)]; decide
theorem GoodR.al {r : aZ} (h : GoodR r) : r.ad.length <= 36 := by
 obtain ⟨ys, g, e⟩ := h.ad
 rw [e]; exact g.len
theorem GoodR.tl {r : aZ} (h : GoodR r) : (textOf r.ts).length <= 480 := by
 have := zG (ts := r.ts) fun t ht => h.ts.ok t ht
 have := h.ts.hi
 omega
def bu (r : aZ) : Str := match r.so with
 | 0 => "let " ++ r.nm ++ " be " ++ textOf r.ts
 | 1 => "deed " ++ r.nm ++ " be " ++ textOf r.ts
 | 2 => "draw " ++ r.ad ++ " as " ++ r.nm
 | 3 => "late " ++ r.ad ++ " as " ++ r.nm
 | 4 => "take " ++ r.wd ++ " from " ++ r.ad ++ " as " ++ r.nm
 | _ => "need " ++ textOf r.ts
theorem HJ : (("let " : Str)).length = 4 := by decide +kernel
theorem Fo : (("deed " : Str)).length = 5 := by decide +kernel
theorem Fg : (("draw " : Str)).length = 5 := by decide +kernel
theorem Gd : (("late " : Str)).length = 5 := by decide +kernel
theorem Eo : (("take " : Str)).length = 5 := by decide +kernel
theorem Ff : (("need " : Str)).length = 5 := by decide +kernel
theorem Dp : ((" be " : Str)).length = 4 := by decide +kernel
theorem zH : ((" as " : Str)).length = 4 := by decide +kernel
theorem len_from : ((" from " : Str)).length = 6 := by decide +kernel
def jQ (H : Hp) (v : V) (lt : Addr) (r : aZ) : Prop := ∃ p, v = .ref p /\ H p = some (.tup [.str (mD r.so), .str r.nm, .str r.ad, .str r.wd, .ref lt]) /\ dB H lt r.ts
structure Jj (H : Hp) (fs : List (Str × V)) (l : Addr) (r : aZ) : Prop where
 nm : r.so < 5 -> fs.lookup ("name" : Str) = some (.str r.nm)
 tm : r.so = 0 \/ r.so = 1 \/ r.so = 5 -> fs.lookup ("terms" : Str) = some (.ref l) /\ dB H l r.ts
 ad : r.so = 2 \/ r.so = 3 \/ r.so = 4 -> fs.lookup ("address" : Str) = some (.str r.ad)
 wd : r.so = 4 -> fs.lookup ("word" : Str) = some (.str r.wd)
 nb : fs.lookup ("binds" : Str) = none
 na : fs.lookup ("asked" : Str) = none
 ns : fs.lookup ("said" : Str) = none
def dh (C : Nat -> Addr) (H : Hp) (a l : Addr) (r : aZ) : Prop := ∃ dx fs, H a = some (.ins (C r.so) dx fs) /\ Jj H fs l r
theorem Jj.same {H H' : Hp} {fs : List (Str × V)} {l : Addr} {r : aZ} (h : Jj H fs l r) (s : au H H') : Jj H' fs l r :=
 ⟨h.nm, fun k => ⟨(h.tm k).1, (h.tm k).2.same s⟩, h.ad, h.wd, h.nb, h.na, h.ns⟩
theorem dh.same {C : Nat -> Addr} {H H' : Hp} {a l : Addr} {r : aZ} (h : dh C H a l r) (s : au H H') : dh C H' a l r := by
 obtain ⟨dx, fs, e, f⟩ := h
 exact ⟨dx, fs, s _ _ e, f.same s⟩
theorem jQ.same {H H' : Hp} {v : V} {lt : Addr} {r : aZ} (h : jQ H v lt r) (s : au H H') : jQ H' v lt r := by
 obtain ⟨p, e, hp, t⟩ := h
 exact ⟨p, e, s _ _ hp, t.same s⟩
theorem dB.upd {H : Hp} {l d : Addr} {ts : List Trm} {ys : List V} {o : HO} (h : dB H l ts) (hd : H d = some (.lst ys)) (hne : l ≠ d) : dB (upd H d o) l ts := by
 obtain ⟨xs, hl, hn, hx⟩ := h
 refine ⟨xs, by rw [aD hne]; exact hl, hn, fun i x e => ?_⟩
 obtain ⟨t, ht, tm⟩ := hx i x e
 exact ⟨t, ht, tm.upd hd⟩
theorem dh.upd {C : Nat -> Addr} {H : Hp} {a l d : Addr} {r : aZ} {ys : List V} {o : HO} (h : dh C H a l r) (hd : H d = some (.lst ys)) (hne : l ≠ d) : dh C (upd H d o) a l r := by
 obtain ⟨dx, fs, e, f⟩ := h
 exact ⟨dx, fs, by rw [aD (kO e hd Z7)]; exact e, f.nm, fun k => ⟨(f.tm k).1, (f.tm k).2.upd hd hne⟩, f.ad, f.wd, f.nb, f.na, f.ns⟩
theorem jQ.upd {H : Hp} {v : V} {lt d : Addr} {r : aZ} {ys : List V} {o : HO} (h : jQ H v lt r) (hd : H d = some (.lst ys)) (hne : lt ≠ d) : jQ (upd H d o) v lt r := by
 obtain ⟨p, e, hp, t⟩ := h
 exact ⟨p, e, by rw [aD (kO hp hd Z7)]; exact hp, t.upd hd hne⟩
theorem oh.but {H H' : Hp} {v : V} {t : Trm} {x C dx : Addr} {fs : List (Str × V)} (h : oh H v t) (hx : H x = some (.ins C dx fs)) (s : SameBut x H H') : oh H' v t := by
 obtain ⟨p, y, e, hp, hy⟩ := h
 refine ⟨p, y, e, s _ _ hp (kO hp hx Z7), ?_⟩
 cases hth : t.th with
 | num m => rw [hth] at hy; exact hy
 | nms c zs =>
  rw [hth] at hy
  obtain ⟨q, e, hq⟩ := hy
  exact ⟨q, e, s _ _ hq (kO hq hx Z7)⟩
theorem KD {r : aZ} (h : r.so = 0) : bu r = "let " ++ r.nm ++ " be " ++ textOf r.ts := by unfold bu; rw [h]; rfl
theorem J5 {r : aZ} (h : r.so = 1) : bu r = "deed " ++ r.nm ++ " be " ++ textOf r.ts := by unfold bu; rw [h]; rfl
theorem Kg {r : aZ} (h : r.so = 2) : bu r = "draw " ++ r.ad ++ " as " ++ r.nm := by unfold bu; rw [h]; rfl
theorem Kp {r : aZ} (h : r.so = 3) : bu r = "late " ++ r.ad ++ " as " ++ r.nm := by unfold bu; rw [h]; rfl
theorem KH {r : aZ} (h : r.so = 4) : bu r = "take " ++ r.wd ++ " from " ++ r.ad ++ " as " ++ r.nm := by unfold bu; rw [h]; rfl
theorem JW {r : aZ} (h : r.so = 5) : bu r = "need " ++ textOf r.ts := by unfold bu; rw [h]; rfl
def FN (i j : Nat) : Bool := decide (i = j) || decide (j = 6)
theorem DP {i j : Nat} (hi : i <= 5) (hj : j <= 5) : decide (V.str (mD i) = V.str (mD j)) = FN i j := by
 have k : ∀ i j : Fin 6, decide (V.str (mD i.val) = V.str (mD j.val)) = FN i.val j.val := by decide +kernel
 exact k ⟨i, Z1⟩ ⟨j, Z1⟩
end Mine
namespace L2
open PySem PySem.Spec PyProof.Rows PySem.W
section
variable {X : Cx} {pos : Pos} {t : TS}
end
theorem ye (xs : List V) (k : Nat) : jK xs (some (k : Int)) none = xs.drop k := by
 unfold jK
 rw [HT.sIx_none, HT.sIx_nat]
 rw [List.take_of_length_le (by rw [length_drop]; exact le_refl _)]
 by_cases h : k <= xs.length
 ·rw [min_eq_left h]
 ·rw [Nat.min_eq_right Z1, List.drop_length, drop_eq_nil_of_le Z1]
end L2
namespace Mine
open PySem PySem.Spec PyProof.Rows L2 PySem.Builtin PySem.Builtin.Str
def bG (r : aZ) : List Str := match r.so with
 | 0 => "let" :: r.nm :: "be" :: wordsOf r.ts
 | 1 => "deed" :: r.nm :: "be" :: wordsOf r.ts
 | 2 => ["draw", r.ad, "as", r.nm]
 | 3 => ["late", r.ad, "as", r.nm]
 | 4 => ["take", r.wd, "from", r.ad, "as", r.nm]
 | _ => "need" :: wordsOf r.ts
theorem Bg {z : Str} (h : bT z) : 32 ∉ z.cps.toList := fun k => by have := h.ok 32 k; omega
theorem JF {ys : List Str} (h : iM ys) : 32 ∉ (dotted ys).cps.toList := fun k => by
 rcases dI h.nm k with e | e
 ·cases e
 ·omega
theorem m9 {ts : List Trm} (h : bN ts) {y : Str} (hy : y ∈ wordsOf ts) : 32 ∉ y.cps.toList := by
 rcases lD hy with ⟨t, ht, rfl⟩ | ⟨t, ht, rfl⟩
 ·exact Dh (h.ok t ht).th
 ·exact Dv _
theorem mU (ts : List Trm) : (textOf ts).cps.toList = inter 32 ((wordsOf ts).map (·.cps.toList)) := bF 32 _
theorem K8 : (("let " : Str)).cps.toList = (("let" : Str)).cps.toList ++ [32] := by decide +kernel
theorem Ig : (("deed " : Str)).cps.toList = (("deed" : Str)).cps.toList ++ [32] := by decide +kernel
theorem HX : (("draw " : Str)).cps.toList = (("draw" : Str)).cps.toList ++ [32] := by decide +kernel
theorem JN : (("late " : Str)).cps.toList = (("late" : Str)).cps.toList ++ [32] := by decide +kernel
theorem Ho : (("take " : Str)).cps.toList = (("take" : Str)).cps.toList ++ [32] := by decide +kernel
theorem Jf : (("need " : Str)).cps.toList = (("need" : Str)).cps.toList ++ [32] := by decide +kernel
theorem JZ : ((" be " : Str)).cps.toList = 32 :: ((("be" : Str)).cps.toList ++ [32]) := by decide +kernel
theorem Hg : ((" as " : Str)).cps.toList = 32 :: ((("as" : Str)).cps.toList ++ [32]) := by decide +kernel
theorem Ij : ((" from " : Str)).cps.toList = 32 :: ((("from" : Str)).cps.toList ++ [32]) := by decide +kernel
theorem aW (c : Nat) (x : List Nat) {W : List (List Nat)} (h : W ≠ []) : inter c (x :: W) = x ++ c :: inter c W := by
 cases W with
 | nil => exact absurd rfl h
 | cons y r => rfl
theorem pL (c : Nat) (x : List Nat) : inter c [x] = x := rfl
theorem qY {ts : List Trm} (h : bN ts) : (wordsOf ts).map (fun y : Str => y.cps.toList) ≠ [] := fun z => qN h.lo (map_eq_nil_iff.mp z)
theorem uf {r : aZ} (g : GoodR r) : bu r = Str.join ⟨#[32]⟩ (bG r) := by
 obtain ⟨so, nn, aa, ww, tt⟩ := r
 have h5 : so <= 5 := g.so
 have gt : bN tt := g.ts
 have hc : so = 0 \/ so = 1 \/ so = 2 \/ so = 3 \/ so = 4 \/ so = 5 := by omega
 apply dO
 rw [bF]
 rcases hc with rfl | rfl | rfl | rfl | rfl | rfl
 ·rw [KD rfl]
  show (("let " : Str) ++ nn ++ " be " ++ textOf tt).cps.toList = inter 32 ((("let" : Str) :: nn :: "be" :: wordsOf tt).map (·.cps.toList))
  rw [aU, aU, aU, mU, K8, JZ, map_cons, map_cons, map_cons, aW 32 _ Z2, aW 32 _ Z2, aW 32 _ (qY gt)]
  simp only [append_assoc, cons_append, nil_append]
 ·rw [J5 rfl]
  show (("deed " : Str) ++ nn ++ " be " ++ textOf tt).cps.toList = inter 32 ((("deed" : Str) :: nn :: "be" :: wordsOf tt).map (·.cps.toList))
  rw [aU, aU, aU, mU, Ig, JZ, map_cons, map_cons, map_cons, aW 32 _ Z2, aW 32 _ Z2, aW 32 _ (qY gt)]
  simp only [append_assoc, cons_append, nil_append]
 ·rw [Kg rfl]
  show (("draw " : Str) ++ aa ++ " as " ++ nn).cps.toList = inter 32 (([("draw" : Str), aa, "as", nn]).map (·.cps.toList))
  rw [aU, aU, aU, HX, Hg, map_cons, map_cons, map_cons, map_cons, map_nil, aW 32 _ Z2, aW 32 _ Z2, aW 32 _ Z2, pL]
  simp only [append_assoc, cons_append, nil_append]
 ·rw [Kp rfl]
  show (("late " : Str) ++ aa ++ " as " ++ nn).cps.toList = inter 32 (([("late" : Str), aa, "as", nn]).map (·.cps.toList))
  rw [aU, aU, aU, JN, Hg, map_cons, map_cons, map_cons, map_cons, map_nil, aW 32 _ Z2, aW 32 _ Z2, aW 32 _ Z2, pL]
  simp only [append_assoc, cons_append, nil_append]
 ·rw [KH rfl]
  show (("take " : Str) ++ ww ++ " from " ++ aa ++ " as " ++ nn).cps.toList = inter 32 (([("take" : Str), ww, "from", aa, "as", nn]).map (·.cps.toList))
  rw [aU, aU, aU, aU, aU, Ho, Ij, Hg]
  rw [map_cons, map_cons, map_cons, map_cons, map_cons, map_cons, map_nil, aW 32 _ Z2, aW 32 _ Z2, aW 32 _ Z2, aW 32 _ Z2, aW 32 _ Z2, pL]
  simp only [append_assoc, cons_append, nil_append]
 ·rw [JW rfl]
  show (("need " : Str) ++ textOf tt).cps.toList = inter 32 ((("need" : Str) :: wordsOf tt).map (·.cps.toList))
  rw [aU, mU, Jf, map_cons, aW 32 _ (qY gt)]
  simp only [append_assoc, cons_append, nil_append]
theorem jG {r : aZ} (g : GoodR r) : Txt.split (bu r) (" " : Str) = bG r := by
 rw [uf g, blank_eq]
 obtain ⟨so, nn, aa, ww, tt⟩ := r
 have h5 : so <= 5 := g.so
 have gt : bN tt := g.ts
 have gw : bT ww := g.wd
 obtain ⟨ys, ga, ea⟩ := g.ad
 have ea : aa = dotted ys := ea
 have fa : 32 ∉ aa.cps.toList := by rw [ea]; exact JF ga
 have hc : so = 0 \/ so = 1 \/ so = 2 \/ so = 3 \/ so = 4 \/ so = 5 := by omega
 refine gH 32 _ ?_ fun y hy => ?_
 ·rcases hc with rfl | rfl | rfl | rfl | rfl | rfl <;> exact List.cons_ne_nil _ _
 ·have fn : so < 5 -> 32 ∉ nn.cps.toList := fun k => Bg (g.nm k)
  rcases hc with rfl | rfl | rfl | rfl | rfl | rfl
  ·have hy : y ∈ (("let" : Str) :: nn :: "be" :: wordsOf tt) := hy
   rcases mem_cons.mp hy with rfl | hy
   ·decide +kernel
   rcases mem_cons.mp hy with rfl | hy
   ·exact fn Z0
   rcases mem_cons.mp hy with rfl | hy
   ·decide +kernel
   ·exact m9 gt hy
  ·have hy : y ∈ (("deed" : Str) :: nn :: "be" :: wordsOf tt) := hy
   rcases mem_cons.mp hy with rfl | hy
   ·decide +kernel
   rcases mem_cons.mp hy with rfl | hy
   ·exact fn Z0
   rcases mem_cons.mp hy with rfl | hy
   ·decide +kernel
   ·exact m9 gt hy
  ·have hy : y ∈ [("draw" : Str), aa, "as", nn] := hy
   simp only [mem_cons, not_mem_nil, or_false] at hy
   rcases hy with rfl | rfl | rfl | rfl
   ·decide +kernel
   ·exact fa
   ·decide +kernel
   ·exact fn Z0
  ·have hy : y ∈ [("late" : Str), aa, "as", nn] := hy
   simp only [mem_cons, not_mem_nil, or_false] at hy
   rcases hy with rfl | rfl | rfl | rfl
   ·decide +kernel
   ·exact fa
   ·decide +kernel
   ·exact fn Z0
  ·have hy : y ∈ [("take" : Str), ww, "from", aa, "as", nn] := hy
   simp only [mem_cons, not_mem_nil, or_false] at hy
   rcases hy with rfl | rfl | rfl | rfl | rfl | rfl
   ·decide +kernel
   ·exact Bg gw
   ·decide +kernel
   ·exact fa
   ·decide +kernel
   ·exact fn Z0
  ·have hy : y ∈ (("need" : Str) :: wordsOf tt) := hy
   rcases mem_cons.mp hy with rfl | hy
   ·decide +kernel
   ·exact m9 gt hy
theorem yh {r : aZ} (g : GoodR r) : (bu r).length <= 1000 := by
 have e1 := g.nl
 have e2 := g.al
 have e3 := g.tl
 have e4 := g.wd.hi
 obtain ⟨so, nn, aa, ww, tt⟩ := r
 have h5 : so <= 5 := g.so
 have e1 : nn.length <= 8 := e1
 have e2 : aa.length <= 36 := e2
 have e3 : (textOf tt).length <= 480 := e3
 have e4 : ww.length <= 8 := e4
 have hc : so = 0 \/ so = 1 \/ so = 2 \/ so = 3 \/ so = 4 \/ so = 5 := by omega
 rcases hc with rfl | rfl | rfl | rfl | rfl | rfl
 ·rw [KD rfl]; simp only [gF, HJ, Dp]; omega
 ·rw [J5 rfl]; simp only [gF, Fo, Dp]; omega
 ·rw [Kg rfl]; simp only [gF, Fg, zH]; omega
 ·rw [Kp rfl]; simp only [gF, Gd, zH]; omega
 ·rw [KH rfl]; simp only [gF, Eo, len_from, zH]; omega
 ·rw [JW rfl]; simp only [gF, Ff]; omega
end Mine
namespace En
open PySem PySem.Spec PyProof.Rows
section
variable {prog : Program} {w : World} {A : Around} {E : EV} {s : Shared}
theorem next_item {e j l : Addr} {i : Nat} {k : Int} {its : Array Value} {x old : Value} {Q : Option Value -> Shared -> Prop}
  (q1 : IsEnum s.heap e j k old) (q2 : s.heap.IsListIter j l i) (q3 : s.heap.IsList l its) (q4 : its[i]? = some x) (ne : e ≠ j)
  (kQ : ∀ h', IsEnumOut h' e j (k + 1) x s.heap.objs.size -> h'.IsListIter j l (i + 1) -> h'.get? s.heap.objs.size = some { cls := .type "tuple", data := .seq #[.int k s.toks, x] } ->
   (∀ b o, b ≠ e -> b ≠ j -> s.heap.get? b = some o -> h'.get? b = some o) -> Q (some (.ref s.heap.objs.size)) { s with heap := h', toks := s.toks + 1 }) :
  wpAny (model prog w) A (pyNext (.ref e)) Q E s := by
 have ty : s.TypeIs (.ref e) "enumerate" := ⟨_, q1, rfl⟩
 unfold pyNext
 refine wpAny_bind (wpAny_attempt (wpAny_callSpecial?_slot (name := Str.ofString "__next__") ty F.slot_enumerate_next (wpAny_call_entry F.slot_enumerate_next ty F.entry_enumerate_next ?_ (F.args_enumerate_next_1 _))))
 obtain ⟨hp, g, d, tk, os⟩ := s
 show wpAny _ _ (field (.ref e) 2 >>= _) _ _ _
 refine wpAny_bind (wpAny_field q1 rfl (x := .ref j) rfl (wpAny_bind (wpAny_nextOf_list_item q2 q3 q4 fun h1 r1 z1 => ?_)))
 replace z1 : Heap.SameBut j hp h1 := z1
 have a1 : IsEnum h1 e j k old := (z1.2 e ne).trans q1
 show wpAny _ _ (field (.ref e) 3 >>= _) _ _ ⟨h1, g, d, tk, os⟩
 refine wpAny_bind (wpAny_field a1 rfl (x := rawInt k) rfl ?_)
 show wpAny _ _ (field (.ref e) 4 >>= _) _ _ ⟨h1, g, d, tk, os⟩
 refine wpAny_bind (wpAny_field a1 rfl (x := .none) rfl ?_)
 show wpAny _ _ (mkInt k >>= _) _ _ ⟨h1, g, d, tk, os⟩
 refine wpAny_bind (wpAny_mkInt ?_)
 show wpAny _ _ (setField (.ref e) 3 (rawInt (k + 1)) >>= _) _ _ ⟨h1, g, d, tk + 1, os⟩
 refine wpAny_bind (wpAny_setField_rec a1 Z2 fun h2 a2 z2 => ?_)
 replace z2 : Heap.SameBut e h1 h2 := z2
 replace a2 : IsEnum h2 e j (k + 1) old := a2
 show wpAny _ _ (setField (.ref e) 4 .none >>= _) _ _ ⟨h2, g, d, tk + 1, os⟩
 refine wpAny_bind (wpAny_setField_rec a2 Z2 fun h3 a3 z3 => ?_)
 replace z3 : Heap.SameBut e h2 h3 := z3
 replace a3 : IsEnum h3 e j (k + 1) old := a3
 show wpAny _ _ (newTuple [.int k tk, x] >>= _) _ _ ⟨h3, g, d, tk + 1, os⟩
 refine wpAny_bind (wpAny_newTuple ?_)
 have a4 : IsEnum (h3.push { cls := .type "tuple", data := .seq #[.int k tk, x] }) e j (k + 1) old := Heap.get?_push_of_some _ a3
 generalize hh : h3.push { cls := .type "tuple", data := .seq #[.int k tk, x] } = h4 at a4
 have sz : h3.objs.size = hp.objs.size := by rw [z3.1, z2.1, z1.1]
 have el : e < hp.objs.size := Heap.lt_size q1
 have t4 : h4.get? hp.objs.size = some { cls := .type "tuple", data := .seq #[.int k tk, x] } := by rw [<- hh, <- sz]; exact Heap.get?_push_size _ rfl
 have k4 : ∀ b o, b ≠ e -> b ≠ j -> hp.get? b = some o -> h4.get? b = some o := fun b o be bi hb => by
  rw [<- hh]; exact Heap.get?_push_of_some _ (z3.extBut b o be (z2.extBut b o be (z1.extBut b o bi hb)))
 have r4 : h4.IsListIter j l (i + 1) := by
  rw [<- hh]; obtain ⟨o, ho, r⟩ := (r1.extBut z2.extBut (Ne.symm ne)).extBut z3.extBut (Ne.symm ne); exact ⟨o, Heap.get?_push_of_some _ ho, r⟩
 show wpAny _ _ (Builtin.SmallTypes.ownedTupleIsFree (.ref e) >>= _) _ _ ⟨h4, g, d, tk + 1, os⟩
 rw [sz]
 clear hh a3 z3 a2 z2 a1 z1 r1 sz h3 h2 h1
 refine wpAny_bind ?_
 unfold Builtin.SmallTypes.ownedTupleIsFree
 refine wpAny_bind (wpAny_field a4 rfl (x := .none) rfl (wpAny_pure ?_))
 simp only [if_true]
 refine wpAny_bind (wpAny_rule (wpAny_bind (wpAny_field a4 rfl (x := old) rfl (wpAny_bind (wpAny_setField_rec a4 Z2 fun h5 a5 z5 => ?_)))))
 replace z5 : Heap.SameBut e h4 h5 := z5
 replace a5 : IsEnum h5 e j (k + 1) x := a5
 show wpAny _ _ (Builtin.SmallTypes.ownedTupleHandOut (.ref e) (.ref hp.objs.size) >>= _) _ _ ⟨h5, g, d, tk + 1, os⟩
 refine wpAny_bind ?_
 unfold Builtin.SmallTypes.ownedTupleHandOut
 refine wpAny_bind (wpAny_setField_rec a5 Z2 fun h6 a6 z6 => ?_)
 replace z6 : Heap.SameBut e h5 h6 := z6
 replace a6 : IsEnumOut h6 e j (k + 1) x hp.objs.size := a6
 refine wpAny_setField_rec a6 Z2 fun h7 a7 z7 => ?_
 replace z7 : Heap.SameBut e h6 h7 := z7
 replace a7 : IsEnumOut h7 e j (k + 1) x hp.objs.size := a7
 refine wpAny_bind (wpAny_letGo (wpAny_pure ⟨_, rfl, wpAny_pure (kQ h7 a7 ?_ ?_ ?_)⟩))
 ·exact ((r4.extBut z5.extBut (Ne.symm ne)).extBut z6.extBut (Ne.symm ne)).extBut z7.extBut (Ne.symm ne)
 ·exact z7.extBut _ _ (ne_of_gt el) (z6.extBut _ _ (ne_of_gt el) (z5.extBut _ _ (ne_of_gt el) t4))
 ·exact fun b o be bi hb => z7.extBut b o be (z6.extBut b o be (z5.extBut b o be (k4 b o be bi hb)))
theorem next_end {e j l : Addr} {i : Nat} {k : Int} {its : Array Value} {old : Value} {Q : Option Value -> Shared -> Prop} (hh : A.handled = none)
  (q1 : IsEnum s.heap e j k old) (q2 : s.heap.IsListIter j l i) (q3 : s.heap.IsList l its) (q4 : its[i]? = none)
  (kQ : ∀ h', Heap.ExtBut j s.heap h' -> Q none { s with heap := h' }) : wpAny (model prog w) A (pyNext (.ref e)) Q E s := by
 have ty : s.TypeIs (.ref e) "enumerate" := ⟨_, q1, rfl⟩
 unfold pyNext
 refine wpAny_bind (wpAny_attempt (wpAny_callSpecial?_slot (name := Str.ofString "__next__") ty F.slot_enumerate_next (wpAny_call_entry F.slot_enumerate_next ty F.entry_enumerate_next ?_ (F.args_enumerate_next_1 _))))
 show wpAny _ _ (field (.ref e) 2 >>= _) _ _ _
 refine wpAny_bind (wpAny_field q1 rfl (x := .ref j) rfl (wpAny_bind (wpAny_nextOf_list_end hh q2 q3 q4 fun h' x hx ho => ?_)))
 obtain ⟨o, ho, hc⟩ := ho
 exact wpAny_bind (wpAny_isInstance (T := "StopIteration") (b := true) ⟨o, ho, hc⟩ isSubtype_stop (wpAny_pure (kQ _ hx)))
end
end En
namespace L2
open PySem PySem.Spec PyProof.Rows
def Ite (K : Frag) (a : Addr) (k : Int) : It :=
 ⟨fun i H => ∃ xs x, SqL K H a xs /\ xs[i]? = some x, fun i H v H' => ∃ p x, v = .ref p /\ H p = none /\ (∀ xs, SqL K H a xs -> xs[i]? = some x) /\ H' = upd H p (.tup [.int (k + i), x]), fun i H => ∃ xs, SqL K H a xs /\ xs.length <= i⟩
theorem BP {P : Program} {w : World} {K : Frag} {elts : List Expr} {x1 : Nat} {tpos : Pos} (a e j : Addr) (k : Int) (ne : e ≠ j) :
  Turn P w K (.Tuple elts x1 tpos) (Ite K a k) [e, j] e (fun i h => (∃ old, IsEnum h e j (k + i) old) /\ h.IsListIter j a i) where
 mem := .head _
 obj := fun i h st c hc => by
  obtain ⟨⟨old, hz⟩, h1⟩ := st
  cases hc with
  | head => exact ⟨_, hz, fun v z => by cases z⟩
  | tail _ hc => cases hc with
   | head => obtain ⟨o, e, _, d⟩ := h1; exact ⟨o, e, fun v z => by rw [d] at z; cases z⟩
   | tail _ hc => cases hc
 keep := fun i h h' st k => by
  obtain ⟨⟨old, hz⟩, h1⟩ := st
  exact ⟨⟨old, k e (.head _) _ hz⟩, h1.at fun o e => k j (.tail _ (.head _)) o e⟩
 item := by
  intro X hP hw hK hc i pins s σ H E I hf st hg
  subst hP hw hK
  obtain ⟨xs, x, hq, hx⟩ := hg
  obtain ⟨⟨old, hz⟩, h1⟩ := st
  obtain ⟨us, rv, p, hsz⟩ := I.list hq
  obtain ⟨u, hu, ru⟩ := rv.get hx
  have lt : ∀ {c o}, s.heap.get? c = some o -> c ≠ s.heap.objs.size := fun e => ne_of_lt (Heap.lt_size e)
  refine En.next_item hz h1 p.isList (x := u) (by simpa using hu) ne fun h' a1 a2 a3 hk => ?_
  refine ⟨_, rfl, wpAny_letOwnedTupleGo_enum a1 fun h'' hz' hs' => ?_⟩
  have hfr : H s.heap.objs.size = none := I.hok.fresh (le_refl _)
  have hT : h''.get? s.heap.objs.size = some { cls := .type "tuple", data := .seq #[.int (k + i) s.toks, u] } := (hs'.2 _ (Ne.symm (lt hz))).trans a3
  have kk : ∀ c o, c ≠ e -> c ≠ j -> s.heap.get? c = some o -> h''.get? c = some o := fun c o q1 q2 e' => (hs'.2 c q1).trans (hk c o q1 q2 e')
  have fe := hf e (.head _)
  have fj := hf j (.tail _ (.head _))
  have hch : ∀ c, c ∉ [e, j] -> c ≠ e /\ c ≠ j := fun c hc => ⟨fun z => hc (z ▸ .head _), fun z => hc (z ▸ .tail _ (.head _))⟩
  have trk : ∀ c o, H c = some o -> c ≠ e /\ c ≠ j := fun c o q => ⟨(fun z => by rw [z, fe.1] at q; cases q), (fun z => by rw [z, fj.1] at q; cases q)⟩
  have I1 : Inv X pins σ (upd H s.heap.objs.size (.tup [.int (k + i), x])) { s with heap := h'', toks := s.toks + 1 } := by
   refine I.step (g' := s.gens) (d' := s.drawn) (t' := s.toks + 1) (ch := [e, j]) (fun c hc => ?_) (fun c o _ _ hc e' _ => ?_) (fun c o _ _ hc e' _ => ?_) (fun c o hc e' n => ?_) (fun c o hc e' => ?_) (fun c q e' => ?_) (fun c o q e' => ?_) (fun c q e' => ?_) (fun m hm => ?_) (fun c o e' => ?_) I.bare
   ·cases hc with
    | head => exact ⟨fe.2.2.2.1, fe.2.1, fe.2.2.2.2.1, fe.2.2.2.2.2⟩
    | tail _ hc => cases hc with
     | head => exact ⟨fj.2.2.2.1, fj.2.1, fj.2.2.2.2.1, fj.2.2.2.2.2⟩
     | tail _ hc => cases hc
   ·exact kk c o (hch c hc).1 (hch c hc).2 e'
   ·exact ⟨o.slots, kk c o (hch c hc).1 (hch c hc).2 e'⟩
   ·rw [aD (lt e')]; exact n
   ·exact ⟨o, kk c o (hch c hc).1 (hch c hc).2 e'⟩
   ·rw [aD (aB e' hfr)]; exact e'
   ·rw [aD (aB e' hfr)]; exact e'
   ·exact ⟨#[], by rw [aD (aB e' hfr), e']; simp⟩
   ·obtain ⟨o, es, ep, ho, r⟩ := hm
    exact ⟨o, es, ep, kk _ o (Ne.symm fe.2.1) (Ne.symm fj.2.1) ho, r⟩
   ·by_cases hcT : c = s.heap.objs.size
    ·subst hcT
     rw [ak] at e'
     cases e'
     exact ⟨by show 2 <= sizeLine; decide, [.int (k + i) s.toks, u], .cons ⟨_, rfl⟩ (.cons ru .nil), ⟨_, hT, rfl, _, rfl⟩⟩
    ·rw [aD hcT] at e'
     obtain ⟨q1, q2⟩ := trk c o e'
     refine (I.hok c o e').stay (fun d w' hd q => ?_) (fun d q => ?_) fun d w' q => ?_
     ·have : d ≠ e /\ d ≠ j := by
       rcases hd with rfl | hd
       ·exact ⟨q1, q2⟩
       ·exact trk d _ hd
      exact kk d w' this.1 this.2 q
     ·rw [aD (aB q hfr)]; exact q
     ·rw [aD (aB q hfr)]; exact q
  refine ⟨.ref s.heap.objs.size, _, I1, rfl, ⟨s.heap.objs.size, x, rfl, hfr, fun zs hq' => by rw [I.list_inj hq' hq]; exact hx, rfl⟩, ?_, fun c hc => ?_⟩
  ·refine ⟨⟨u, ?_⟩, a2.at fun o q => (hs'.2 j (Ne.symm ne)).trans q⟩
   have := hz'
   rwa [show k + (i : Int) + 1 = k + ((i + 1 : Nat) : Int) from by omega] at this
  ·have hc0 := (hf c hc).1
   have hne : c ≠ s.heap.objs.size := by
    cases hc with
    | head => exact lt hz
    | tail _ hc => cases hc with
     | head => obtain ⟨_, q, _⟩ := h1; exact lt q
     | tail _ hc => cases hc
   rw [aD hne]; exact hc0
 done := by
  intro X hP hw hK hc i pins s σ H E I hf st hg
  subst hP hw hK
  obtain ⟨xs, hq, hend⟩ := hg
  obtain ⟨⟨old, hz⟩, h1⟩ := st
  obtain ⟨us, rv, p, hsz⟩ := I.list hq
  have l1 := rv.length
  refine En.next_end (I.ok.hd hc) hz h1 p.isList Z6 fun h' hk => ⟨rfl, ?_⟩
  have fj := hf j (.tail _ (.head _))
  exact I.turned (t' := s.toks) (fun b o hb q => hk b o hb q) fj.1 fj.2.1 fj.2.2.2.1 fj.2.2.2.2.1 fj.2.2.2.2.2
 self := fun A i s Q E st h => by
  obtain ⟨⟨old, hz⟩, _⟩ := st
  exact wpAny_pyIter_enum hz h
section
variable {X : Cx} {K : Frag}
def N6 (K : Frag) (k : Int) (ta : TA) : TI := fun σ H R => ta σ H fun vs H1 => ∃ a, vs = [.ref a] /\ (∃ xs, SqL K H1 a xs) /\ R (Ite K a k) H1
end
end L2
namespace En
open PySem PySem.Spec PyProof.Rows
open AutoSeq1 (wpAny_loadPart')
section
variable {prog : Program} {w : World} {A : Around} {E : EV} {s : Shared}
theorem Hx {T nw : String} {self : Value} {rest : List Value} {x : Str × Value} {kw : List (Str × Value)} (hl : typeLookup (.type T) "__init__" = pure (some (.builtin "object.__init__")))
  (hm : Bind.madeBy (.type T) = pure (some nw)) (hn : (some nw != some "object.__new__") = true) : Meets (Builtin.«object.__init__» ⟨self :: rest, x :: kw⟩) (fun _ R s => s.TypeIs self T /\ R (.ok (.ret .none)) s) := by
 refine Meets.of_wp fun prog w A R s hs => ?_
 obtain ⟨hT, hq⟩ := hs
 cases rest with
 | nil =>
  repeat (any_goals (first | assumption | wp_step))
  exact ⟨_, rfl, hq⟩
 | cons a rest =>
  repeat (any_goals (first | assumption | wp_step))
  exact ⟨_, rfl, hq⟩
theorem Jv {T nw : String} {Bn : Builtin} {args : List Value} {x : Str × Value} {kw : List (Str × Value)} {S : PySem.Spec} {Q : EV} (ft : TypeCalled T nw "object.__init__")
  (hn : (some nw != some "object.__new__") = true) (c1 : checkTypeCall T ⟨args, x :: kw⟩ = pure ()) (c2 : checkBuiltinCall nw ⟨.type T :: args, x :: kw⟩ = pure ())
  (ok : ∀ obj, argsOk "object.__init__" ⟨obj :: args, x :: kw⟩) (en : entryFor table nw = some Bn) (g : Meets (Bn ⟨.type T :: args, x :: kw⟩) S)
  (h : S A.in1 (wants (fun obj s₁ => s₁.TypeIs obj T /\ Q obj s₁) E) s) : wpAny (model prog w) A (call (.type T) args (x :: kw)) Q E s := by
 obtain ⟨c, tl, mro⟩ := ft.mro
 have made := ft.made
 have sub := ft.sub
 refine wpAny_call (codeAny_of_tree ?_)
 show wpAny _ _ (callAny (.type T) _) _ _ _
 refine wpAny_pure ⟨Code.quiet_builtin _ Z4, codeAny_builtin F.entry_type_call ?_⟩
 rw [Around.under_plain (weight_type_call_type T args (x :: kw)) (units_type_call_type T args (x :: kw))]
 have n1 := ft.notType
 have n2 := ft.canCreate
 repeat (any_goals (first | assumption | wp_step))
 refine codeAny_mono (codeAny_call_builtin ft.plain en (wpAny_of_eq c2 (g prog w A.in1 _ s h))) fun r s1 hr => ?_
 cases r with
 | error e => exact hr
 | ok fl =>
  cases fl with
  | ret obj =>
   obtain ⟨hT, hq⟩ := hr
   have li := ft.init.lookup
   have bi := ft.init.bind obj
   repeat (any_goals (first | assumption | wp_step))
   refine codeAny_mono (codeAny_call_builtin ft.init.plain F.entry_object_init (ft.init.check _ _ _ _ _ _ _ _ hT (ok obj) (Hx ft.init.lookup ft.made hn prog w A.in1 (wants (fun r s₂ => r = .none /\ Q obj s₂) E) s1 ⟨hT, rfl, hq⟩))) fun r2 s2 hr2 => ?_
   cases r2 with
   | error e => exact hr2
   | ok fl2 =>
    cases fl2 with
    | ret r =>
     obtain ⟨rfl, hq2⟩ := hr2
     repeat (any_goals (first | assumption | wp_step))
    | _ => exact hr2.elim
  | _ => exact hr.elim
theorem Fw (l : Addr) (items : Array Value) (n : Nat) (dct : Option Addr) (sl : Array (Option Value)) (t : Tok) :
  Meets (Builtin.«enumerate.__new__» ⟨[.type "enumerate", .ref l], [("start", .int 1 t)]⟩) (fun _ R s => s.heap.get? l = some { cls := .type "list", dict := dct, data := .seq items n, slots := sl } /\
   R (.ok (.ret (.ref (s.heap.push { cls := .type "list_iterator", data := .fields #[.ref l, .int 0 0] }).objs.size)))
    { s with heap := (s.heap.push { cls := .type "list_iterator", data := .fields #[.ref l, .int 0 0] }).push { cls := .type "enumerate", data := .fields #[.none, .bool false, .ref s.heap.objs.size, rawInt 1, .none, .none] } }) :=
 .of_wp fun prog w A R s h => by
  obtain ⟨hp, g, d, tk, os⟩ := s; obtain ⟨hl, h⟩ := h
  have sb := sub_enumerate
  have hL : Heap.IsList (Shared.heap ⟨hp, g, d, tk, os⟩) l items := ⟨_, hl, rfl, n, rfl⟩
  wp_walk using wpAny_loadPart' hl
  refine wpAny_stack_any fun st => wpAny_pure ?_
  split
  ·rename_i c _ _ _ _ _
   cases (c == Value.type "enumerate")
   ·wp_walk using wpAny_loadPart' hl, wpAny_pyIter_list hL
    exact ⟨_, rfl, h⟩
   ·wp_walk using wpAny_loadPart' hl, wpAny_pyIter_list hL
    exact ⟨_, rfl, h⟩
  ·wp_walk using wpAny_loadPart' hl, wpAny_pyIter_list hL
   exact ⟨_, rfl, h⟩
theorem call_enum1 {l : Addr} {items : Array Value} {t : Tok} {Q : EV} (hL : s.heap.IsList l items)
  (h : ∀ h', IsEnum h' (s.heap.objs.size + 1) s.heap.objs.size 1 .none -> h'.IsListIter s.heap.objs.size l 0 -> (∀ b o, s.heap.get? b = some o -> h'.get? b = some o) -> Q (.ref (s.heap.objs.size + 1)) { s with heap := h' }) :
  wpAny (model prog w) A (call (.type "enumerate") [.ref l] [("start", .int 1 t)]) Q E s := by
 obtain ⟨⟨c, dct, dt, sl⟩, hl, hc, n, hd⟩ := hL
 replace hc : c = .type "list" := hc
 replace hd : dt = .seq items n := hd
 subst hc hd
 refine Jv F.called_enumerate Z0 Z5 Z5 (fun obj => by unfold argsOk; kernel_rfl) F.entry_enumerate_new (Fw l items n dct sl t) ⟨hl, ?_⟩
 have hz : (s.heap.push { cls := .type "list_iterator", data := .fields #[.ref l, .int 0 0] }).objs.size = s.heap.objs.size + 1 := Heap.size_push ..
 show _ /\ _
 rw [hz]
 have he : IsEnum ((s.heap.push { cls := .type "list_iterator", data := .fields #[.ref l, .int 0 0] }).push { cls := .type "enumerate", data := .fields #[.none, .bool false, .ref s.heap.objs.size, rawInt 1, .none, .none] }) (s.heap.objs.size + 1) s.heap.objs.size 1 .none := by
  have z := Heap.get?_push_size (s.heap.push { cls := .type "list_iterator", data := .fields #[.ref l, .int 0 0] }) (o := { cls := .type "enumerate", data := .fields #[.none, .bool false, .ref s.heap.objs.size, rawInt 1, .none, .none] }) rfl
  rw [hz] at z; exact z
 exact ⟨⟨_, he, rfl⟩, h _ he ⟨_, Heap.get?_push_of_some _ (Heap.get?_push_size _ rfl), rfl, rfl⟩ fun b o x => Heap.get?_push_of_some _ (Heap.get?_push_of_some _ x)⟩
theorem with_kw {M : Model} {pos : Pos} {T : String} {args : List (Bool × Sem Value)} {ks : List (Option Str × Sem Value)} {Q : EV} (hp : args.any (·.1) = false) (hk : ks.any (·.1.isNone) = false)
  (h : wpAny M A (evalArgs (.type T) true args ks) (fun a s₁ => wpAny M A (call (.type T) a.pos a.kw) Q E s₁) E s) : wpAny M A (callWith pos (.type T) [] args ks) Q E s := by
 unfold callWith
 refine wpAny_bind (wpAny_holding (wpAny_mono h (fun a s1 z => wpAny_bind (wpAny_standAt ?_)) fun _ _ x => x))
 simp only [hp, hk, Bool.or_false]
 exact wpAny_bind (wpAny_pure (wpAny_bind (wpAny_mono z (fun r s2 y => wpAny_bind (wpAny_holding (wpAny_point (wpAny_pure y)))) fun _ _ x => x)))
end
end En
namespace L2
open PySem PySem.Spec PyProof.Rows
section
variable {X : Cx} {K : Frag}
theorem DY {a : Expr} {ta : TA} {p pos kp cp : Pos} {n : Nat} {elts : List Expr} {x1 : Nat} {tpos : Pos} (hK : X.K = K) (hg : Gl X "enumerate") (hm : X.mg "enumerate" = none) (ha : PA X [a] ta) (hs : starEach [a] X.env = [(false, eval a X.env)] := by rfl) :
  PI X (.Tuple elts x1 tpos) (.Call (.Name "enumerate" p) [a] [⟨some "start", .Constant (.int 1) n cp, kp⟩] pos) (N6 K 1 ta) := by
 subst hK
 intro pins s σ H R I h
 have he : backTo pos (starEach [a] X.env) = (false, eval a X.env) :: backTo pos [] := by rw [hs]; rfl
 refine wpAny_Call_Name_kw (pI I hg hm boot_enumerate (En.with_kw (by rw [he]; rfl) rfl ?_))
 rw [he]
 refine evalArgs_kwB rfl ?_
 rw [<- he]
 refine thn (ha pos pins s σ H _ I h) fun us s1 ⟨vs, H1, I1, r1, q1⟩ => kws_cons (thn (aq pins s1 σ H1 (fun v H2 => v = .int 1 /\ H2 = H1) I1 ⟨rfl, rfl⟩) fun kv s2 ⟨y, H2, I2, ry, ey, eH⟩ => kws_nil ?_)
 subst ey eH
 obtain ⟨tk, rfl⟩ := ry
 obtain ⟨a1, e, ⟨xs, hx⟩, q⟩ := q1
 subst e
 obtain ⟨u, rfl, rx⟩ := vals1 r1
 cases rx
 obtain ⟨vs1, _, p1, _⟩ := I2.list hx
 show wpAny _ _ (call (.type "enumerate") [.ref a1] [("start", .int 1 tk)]) _ _ _
 refine En.call_enum1 p1.isList fun h' z1 z2 zk => ?_
 refine wpAny_pyIter_enum z1 ?_
 have I3 : Inv X pins σ H2 { s2 with heap := h' } := I2.kept (t' := s2.toks) zk
 refine ⟨_, [s2.heap.objs.size + 1, s2.heap.objs.size], _, _, H2, rfl, I3, BP a1 _ _ 1 (Nat.succ_ne_self _), ⟨⟨_, z1⟩, z2⟩, fun c hc => ?_, q⟩
 have hle : s2.heap.objs.size <= c := by
  cases hc with
  | head => exact le_succ _
  | tail _ hc => cases hc with
   | head => exact le_refl _
   | tail _ hc => cases hc
 exact I2.fpOk hle (I2.hok.fresh hle)
end
theorem GR {K : Frag} {a : Addr} {k : Int} {xs : List V} {g : TG} {tb : TS} {D : Ends} {σ : St} {H : Hp} (Pv : Nat -> St -> Hp -> Prop) (h0 : Pv 0 σ H) (hl : ∀ i σ H, i <= xs.length -> Pv i σ H -> SqL K H a xs)
  (hs : ∀ (i : Nat) x p σ H, xs[i]? = some x -> Pv i σ H -> H p = none -> g (.ref p) σ (upd H p (.tup [.int (k + i), x])) fun σ2 H2 => tb { D with nx := Pv (i + 1), ct := Pv (i + 1), bk := D.nx } σ2 H2) (hd : ∀ σ H, Pv xs.length σ H -> D.nx σ H) :
  ∃ W : Nat -> Nat -> St -> Hp -> Prop, (∃ m, W 0 m σ H) /\ ∀ i m σ H, W i m σ H ->
   ((Ite K a k).stop i H /\ D.nx σ H) \/ ((Ite K a k).go i H /\ ∃ N : St -> Hp -> Prop, (∀ σ' H', N σ' H' -> ∃ m', m' < m /\ W (i + 1) m' σ' H') /\ ∀ x H', (Ite K a k).yld i H x H' -> g x σ H' fun σ2 H2 => tb { D with nx := N, ct := N, bk := D.nx } σ2 H2) := by
 refine ⟨fun i m σ H => m = xs.length - i /\ i <= xs.length /\ Pv i σ H, ⟨xs.length, Z2, zero_le _, h0⟩, ?_⟩
 rintro i m σ H ⟨rfl, hi, p⟩
 have q := hl i σ H hi p
 by_cases hlt : i < xs.length
 ·refine .inr ⟨⟨xs, xs[i], q, by simp [hlt]⟩, Pv (i + 1), fun σ' H' p' => ⟨xs.length - (i + 1), Z1, rfl, hlt, p'⟩, fun x H' y => ?_⟩
  obtain ⟨p0, x0, rfl, hp, hx, rfl⟩ := y
  exact hs i x0 p0 σ _ (hx xs q) p hp
 ·have e : i = xs.length := by omega
  subst e
  exact .inl ⟨⟨xs, q, le_refl _⟩, hd σ H p⟩
theorem wM {K : Frag} {a : Addr} {xs : List V} {tf : TT} {te : TE} {τ0 : St} {H : Hp} {Fin : List V -> Hp -> Prop} (p : Nat -> Bool) (f : Nat -> V) (hn : xs.length <= sizeLine) (hl : SqL K H a xs)
  (htf : ∀ (i : Nat) x H' (Q : Bool -> Hp -> Prop), xs[i]? = some x -> au H H' -> (∀ H'', au H' H'' -> Q (p i) H'') -> tf (τ0.set 0 (some x)) H' Q)
  (hte : ∀ (i : Nat) x H' (Q : VK), xs[i]? = some x -> au H H' -> (∀ H'', au H' H'' -> Q (f i) H'') -> te (τ0.set 0 (some x)) H' Q)
  (hfin : ∀ H', au H H' -> Fin (((List.range xs.length).filter p).map f) H') : pQ (dg 0) tf te (Itl K a) τ0 H Fin := by
 refine ⟨fun i m τ ys H' => m = xs.length - i /\ i <= xs.length /\ ys = ((List.range i).filter p).map f /\ au H H' /\ ∃ v, τ = τ0.set 0 v \/ τ = τ0, ⟨xs.length, rfl, zero_le _, rfl, au.refl _, none, .inr rfl⟩, ?_⟩
 rintro i m τ ys H' ⟨rfl, hi, rfl, sm, v, hτ⟩
 by_cases hlt : i < xs.length
 ·have hx : xs[i]? = some xs[i] := by simp [hlt]
  refine .inr ⟨⟨xs, xs[i], sm.seq hl, hx⟩, fun x H'' y => ?_⟩
  obtain ⟨rfl, y⟩ := y
  have ex : x = xs[i] := by have := y xs (sm.seq hl); rw [hx] at this; exact (Option.some.inj this).symm
  subst ex
  have e5 : τ.set 0 (some xs[i]) = τ0.set 0 (some xs[i]) := by
   rcases hτ with rfl | rfl
   ·rw [set_set]
   ·rfl
  show tf (τ.set 0 (some xs[i])) _ _
  rw [e5]
  refine htf i _ _ _ hx sm fun H3 s3 => ?_
  have fe : (List.range (i + 1)).filter p = (List.range i).filter p ++ (if p i = true then [i] else []) := by
   rw [List.range_succ, List.filter_append]
   by_cases h : p i = true
   ·rw [if_pos h, List.filter_cons_of_pos h, List.filter_nil]
   ·rw [if_neg h, List.filter_cons_of_neg h, List.filter_nil]
  cases hp : p i with
  | true =>
   dsimp only
   rw [if_pos rfl]
   refine hte i _ _ _ hx (sm.trans s3) fun H4 s4 => ?_
   refine ⟨?_, xs.length - (i + 1), Z1, rfl, hlt, ?_, sm.trans (s3.trans s4), _, .inl rfl⟩
   ·rw [length_map]
    have := List.length_filter_le p (List.range i)
    rw [length_range] at this
    omega
   ·rw [fe, if_pos hp, map_append]; rfl
  | false =>
   dsimp only
   refine ⟨xs.length - (i + 1), Z1, rfl, hlt, ?_, sm.trans s3, _, .inl rfl⟩
   rw [fe, if_neg (by rw [hp]; exact Bool.false_ne_true), append_nil]
 ·have e : i = xs.length := by omega
  subst e
  exact .inl ⟨⟨xs, sm.seq hl, le_refl _⟩, hfin H' sm⟩
section
variable {X : Cx} {e : Expr} {te : TE} {pos : Pos}
def strsOf : List Expr -> Option (List Str)
 | [] => some []
 | .Constant (.str x) _ _ :: r => (strsOf r).map (x :: ·)
 | _ => none
theorem qI : ∀ {es : List Expr} {xs : List Str}, strsOf es = some xs -> QA X es (fun _ H Q => Q (xs.map V.str) H)
 | [], xs, h => by
  cases h
  exact ⟨ao⟩
 | e :: es, xs, h => by
  unfold strsOf at h
  split at h
  ·rename_i he; cases he
  ·rename_i x _ _ r he
   cases he
   obtain ⟨ys, hy, rfl⟩ := Option.map_eq_some_iff.mp h
   exact ⟨aj aF (qI hy).h⟩
  ·cases h
end
section
variable {X : Cx}
end
theorem zV (xs : List V) (k : Nat) : jK xs none (some (k : Int)) = xs.take k := by
 unfold jK
 rw [HT.sIx_none, HT.sIx_nat, List.drop_zero, Nat.sub_zero]
 by_cases h : k <= xs.length
 ·rw [min_eq_left h]
 ·rw [Nat.min_eq_right Z1, take_length, List.take_of_length_le Z1]
theorem o7 {α : Type} [DecidableEq α] : ∀ (as bs : List α), as.Nodup -> (∀ x ∈ as, x ∈ bs) -> as.length <= bs.length
 | [], bs, _, _ => zero_le _
 | a :: as, bs, h, hs => by
  have h2 := nodup_cons.mp h
  have ha := hs a Z2
  have h3 := o7 as (bs.erase a) h2.2 fun x hx => by
   have hne : x ≠ a := fun e => h2.1 (by rw [<- e]; exact hx)
   exact (List.mem_erase_of_ne hne).mpr (hs x (mem_cons_of_mem _ hx))
  rw [List.length_erase_of_mem ha] at h3
  have h4 : 0 < bs.length := List.length_pos_of_mem ha
  rw [length_cons]
  omega
end L2
namespace Mine
open PySem PySem.Spec PyProof.Rows L2 PySem.Builtin PySem.Builtin.Str
def dX (ks : List Int) : Str := ⟨(ks.map fun k => 97 + k.toNat).toArray⟩
def lq (ks : List Int) : Prop := ∀ k ∈ ks, 0 <= k /\ k < 26
theorem oO (ks : List Int) : (dX ks).cps.toList = ks.map fun k => 97 + k.toNat := by simp [dX]
theorem wB (ks : List Int) : (dX ks).length = ks.length := by simp [dX, Str.length]
theorem J1 {ks : List Int} (h1 : 1 <= ks.length) (h8 : ks.length <= 8) (h : lq ks) : bT (dX ks) := ⟨by rw [wB]; exact h1, by rw [wB]; exact h8, fun n hn => by
 rw [oO] at hn
 obtain ⟨k, hk, rfl⟩ := mem_map.mp hn
 have := h k hk
 omega⟩
theorem KC {ks ls : List Int} (e : dX ks = dX ls) (hk : lq ks) (hl : lq ls) {i : Nat} {a b : Int} (ha : ks[i]? = some a) (hb : ls[i]? = some b) : a = b := by
 have e2 : (dX ks).cps.toList[i]? = (dX ls).cps.toList[i]? := by rw [e]
 rw [oO, oO, getElem?_map, getElem?_map, ha, hb] at e2
 have e3 : 97 + a.toNat = 97 + b.toNat := Option.some.inj e2
 have h1 := hk a (mem_of_getElem? ha)
 have h2 := hl b (mem_of_getElem? hb)
 omega
theorem An (ks : List Int) : Txt.join ("" : Str) (ks.map fun k => (⟨#[97 + k.toNat]⟩ : Str)) = dX ks := by
 rw [G7]
 show glued _ _ = _
 rw [StrLaws.glued_eq_join]
 apply dO
 rw [lC, map_map, oO]
 induction ks with
 | nil => rfl
 | cons a r ih => simp only [map_cons, flatten_cons, ih] <;> rfl
theorem ints_of {xs : List V} (h : ∀ (i : Nat) v, xs[i]? = some v -> ∃ b : Int, v = V.int b /\ 0 <= b /\ b < 26) : ∃ bs : List Int, bs.length = xs.length /\ xs = bs.map V.int /\ lq bs := by
 obtain ⟨bs, hl, hb⟩ := pO (fun _ v b => v = V.int b /\ 0 <= b /\ b < 26) xs 0 (fun i v e => h i v e)
 have em : xs = bs.map V.int := by
  apply List.ext_getElem?
  intro i
  rw [getElem?_map]
  cases e : xs[i]? with
  | none =>
   have e2 : bs[i]? = none := by
    rw [List.getElem?_eq_none_iff] at e ⊢
    omega
   rw [e2]; rfl
  | some v =>
   obtain ⟨z, ez, rfl, _⟩ := hb i v e
   rw [ez]; rfl
 refine ⟨bs, hl, em, fun b hb' => ?_⟩
 obtain ⟨i, hi, e⟩ := getElem_of_mem hb'
 obtain ⟨z, ez, _, nz⟩ := hb i _ (getElem?_eq_getElem Z1)
 rw [getElem?_eq_getElem hi, e] at ez
 cases ez
 exact nz
theorem lq.take {ks : List Int} (h : lq ks) (n : Nat) : lq (ks.take n) := fun k hk => h k (List.mem_of_mem_take hk)
theorem lq.set {ks : List Int} (h : lq ks) (i : Nat) {a : Int} (h0 : 0 <= a) (h1 : a < 26) : lq (ks.set i a) := fun k hk => by
 rcases List.mem_or_eq_of_mem_set hk with z | z
 ·exact h k z
 ·rw [z]; exact ⟨h0, h1⟩
def eE (bs : List Int) (m one two : Nat) (n : Int) : List Int := ((bs.take m).set one ((bs.getD one 0 + n) % 26)).set two ((bs.getD two 0 + n / 26) % 26)
theorem nW {bs : List Int} (h : lq bs) (m one two : Nat) (n : Int) : lq (eE bs m one two n) :=
 ((h.take m).set one Z1 Z1).set two Z1 Z1
theorem G8 {bs : List Int} {m one two : Nat} {n : Int} (h : m <= bs.length) : (eE bs m one two n).length = m := by
 unfold eE
 rw [length_set, length_set, length_take, min_eq_left h]
theorem Bp {bs : List Int} {m one two : Nat} (h : lq bs) (hm : m <= bs.length) (h1 : one < m) (hne : two ≠ one) {i j : Nat} (hi : i < 12) (hj : j < 12) (e : dX (eE bs m one two (0 + (i : Int))) = dX (eE bs m one two (0 + (j : Int)))) : i = j := by
 have key : ∀ n : Int, (eE bs m one two n)[one]? = some ((bs.getD one 0 + n) % 26) := fun n => by
  unfold eE
  rw [getElem?_set_ne hne, getElem?_set_self (by rw [length_take]; omega)]
 have := KC e (nW h _ _ _ _) (nW h _ _ _ _) (key _) (key _)
 omega
def BK (bs : List Int) : List Str := (List.range 8).map fun i => dX (bs.take (i + 1))
theorem Hq {bs : List Int} (h : lq bs) (hl : bs.length = 8) : ∀ z ∈ BK bs, bT z := fun z hz => by
 obtain ⟨i, hi, rfl⟩ := mem_map.mp hz
 have hi := mem_range.mp hi
 exact J1 (by rw [length_take]; omega) (by rw [length_take]; omega) (h.take _)
theorem Jx {bs : List Int} (hl : bs.length = 8) : (BK bs).Nodup := by
 unfold BK
 refine List.pairwise_map.mpr (imp_of_mem (fun {a b} ha hb hlt e => ?_) List.pairwise_lt_range)
 have ha := mem_range.mp ha
 have hb := mem_range.mp hb
 have := congrArg Str.length e
 rw [wB, wB, length_take, length_take] at this
 omega
theorem Nk {m one t : Int} (hm : 0 < m) (h0 : 0 <= one) (h1 : one < m) (t0 : 0 <= t) (t1 : t < m - 1) : 0 <= (one + 1 + t) % m /\ (one + 1 + t) % m < m /\ (one + 1 + t) % m ≠ one := by
 refine ⟨emod_nonneg _ Z1, emod_lt_of_pos _ hm, fun e => ?_⟩
 by_cases k : one + 1 + t < m
 ·rw [Int.emod_eq_of_lt Z1 k] at e
  omega
 ·have h := Int.add_mul_emod_self_left (one + 1 + t - m) m 1
  rw [show one + 1 + t - m + m * 1 = one + 1 + t from by omega, Int.emod_eq_of_lt (a := one + 1 + t - m) Z1 Z1] at h
  omega
theorem lat {b : Int} (h0 : 0 <= b) (h1 : b < 26) : atI letters.cps.toList b = some (97 + b.toNat) := by
 have h := bU (yK h0 h1)
 rwa [show ((b.toNat : Nat) : Int) = b from by omega] at h
theorem DG {bs : List Int} {k : Int} (h0 : 0 <= k) (h1 : k < bs.length) : atI (bs.map V.int) k = some (V.int (bs.getD k.toNat 0)) := by
 have h2 : k.toNat < bs.length := by omega
 have h := bU (xs := bs.map V.int) (j := k.toNat) (v := V.int (bs.getD k.toNat 0)) (by rw [getElem?_map, getElem?_eq_getElem h2]; simp [List.getD, h2])
 rwa [show ((k.toNat : Nat) : Int) = k from by omega] at h
theorem Gw {n : Nat} {k : Int} (h0 : 0 <= k) (h1 : k < n) : ixN n k = some k.toNat := by
 unfold ixN
 rw [if_pos h0, if_pos h1]
theorem Bm {bs : List Int} {k : Int} (h : 0 <= k) : jK (bs.map V.int) none (some k) = (bs.take k.toNat).map V.int := by
 have e := zV (bs.map V.int) k.toNat
 rw [show ((k.toNat : Nat) : Int) = k from by omega] at e
 rw [e, map_take]
theorem HB {zs : List Str} {x : Str} (h : zs.Nodup) (hx : x ∉ zs) : (zs ++ [x]).Nodup := by
 refine List.pairwise_append.mpr ⟨h, List.pairwise_singleton _ _, fun a ha b hb => ?_⟩
 rw [mem_singleton.mp hb]
 exact fun e => hx (e ▸ ha)
theorem Le {bs : List Int} {m one two : Nat} (h : lq bs) (hm : m <= bs.length) (h1 : one < m) (hne : two ≠ one) {zs : List Str} (hz : ∀ j : Nat, j < 12 -> dX (eE bs m one two (0 + (j : Int))) ∈ zs) : 12 <= zs.length := by
 have nd : ((List.range 12).map fun j : Nat => dX (eE bs m one two (0 + (j : Int)))).Nodup := by
  refine List.pairwise_map.mpr (imp_of_mem (fun {a b} ha hb hlt e => ?_) List.pairwise_lt_range)
  have := Bp h hm h1 hne (mem_range.mp ha) (mem_range.mp hb) e
  omega
 have := o7 _ zs nd fun x hx => by
  obtain ⟨j, hj, rfl⟩ := mem_map.mp hx
  exact hz j (mem_range.mp hj)
 rwa [length_map, length_range] at this
theorem qW {ks : List Int} (h : ks.length <= 8) : ((ks.map fun k => (⟨#[97 + k.toNat]⟩ : Str)).map (·.length)).sum + (ks.map fun k => (⟨#[97 + k.toNat]⟩ : Str)).length * (("" : Str)).length <= 16777216 := by
 have h1 : ((ks.map fun k => (⟨#[97 + k.toNat]⟩ : Str)).map (·.length)).sum <= (ks.map fun k => (⟨#[97 + k.toNat]⟩ : Str)).length * 1 := zW fun y hy => by
  obtain ⟨k, _, rfl⟩ := mem_map.mp hy
  exact le_refl 1
 have h2 : (("" : Str)).length = 0 := by decide +kernel
 rw [h2]
 rw [length_map] at h1 ⊢
 omega
theorem Jw {y : V} {s : Str} (h : eqV y (.str s) = true) : y = .str s := by
 cases y with
 | str a => simpa [eqV] using h
 | _ => simp [eqV] at h
theorem Eu {s : Str} {zs : List V} (h : V.str s ∈ zs) : inV (.str s) zs = true := by
 unfold inV
 rw [List.any_eq_true]
 exact ⟨_, h, by simp [eqV]⟩
theorem Mz {s : Str} {zs : List V} (h : inV (.str s) zs = true) : V.str s ∈ zs := by
 unfold inV at h
 obtain ⟨y, hy, e⟩ := List.any_eq_true.mp h
 rw [<- Jw e]
 exact hy
end Mine
namespace L2
open PySem PySem.Spec PyProof.Rows PySem.W
abbrev bI (C : Addr) (dx : Option Addr) (vs : Array Value) : Obj := { cls := .ref C, dict := dx, data := .fields vs }
section
variable {prog : Program} {w : World} {A : Around} {R : Result -> Shared -> Prop} {h : Heap} {g : Array GenState} {d : Drawn} {t : Nat} {os : OsState}
variable {nm q : Str} {C N : Addr} {f : Value} {bs bm bmB : List Value} {hdct : Bool} {sn : List Str} {sub : List Value} {ab : Bool} {col : Option Bool} {dd : Option Addr} {k0 k1 k2 k3 k5 : Option Value} {B newId initId : String}
theorem qZ (F : ExcBaseFacts B newId initId bmB) (T : OwnTail h bmB bm) {rest : List Value}
  (hC : h.get? C = some (excClassObj nm q C N bs bm hdct sn sub ab col dd k0 k1 k2 k3 k5 newId)) (hi : Looks (model prog w) h (typeLookup (.ref C) "__init__") (some f))
  (hb : ∀ self, Looks (model prog w) h (bindSpecial f self) (f, [self])) (hrest : rest.length <= sizeLine)
  (hq : codeAny (model prog w) (A.under (.builtin "type.__call__" ⟨.ref C :: rest, []⟩)) (.call f ⟨.ref (h.objs.size + 1) :: rest, []⟩) (InitBack (h.objs.size + 1) R)
   ⟨(h.push { cls := .type "tuple", data := .seq rest.toArray }).push (bI C none #[.ref h.objs.size, .none, .none, .none, .bool false, .none]), g, d, t, os⟩) :
  codeAny (model prog w) A (.call (.ref C) ⟨rest, []⟩) R ⟨h, g, d, t, os⟩ := by
 have f1 := PySem.tc_lookup
 have f2 := PySem.tc_bind (.ref C)
 have hT : (⟨h, g, d, t, os⟩ : Shared).TypeIs (.ref C) "type" := ⟨_, hC, rfl⟩
 refine codeAny_of_tree ?_
 show wpAny _ _ (callAny (.ref C) _) _ _ _
 repeat (any_goals (first | assumption | with_reducible refine wpAny_loadPart_at hC ?_ | wp_step))
 refine ⟨rfl, ?_⟩
 refine codeAny_call_builtin_at (Code.quiet_builtin _ Z4) PySem.entry_typeCall (wpAny_check_type_call_sub hC ?_)
 repeat (first | with_reducible refine wpAny_loadPart_at hC ?_ | with_reducible refine wpAny_madeBy_exc hC ?_ | wp_step)
 refine codeAny_call_builtin_code (Code.quiet_builtin _ F.quiet) (wpAny_check_new_subT F T hC ?_)
 refine codeAny_exc_new_subT F T hC ?_ hrest
 show wpAny _ _ _ _ _ _
 have kp : ∀ b o, h.get? b = some o -> ((h.push { cls := .type "tuple", data := .seq rest.toArray }).push { cls := .ref C, data := .fields #[.ref h.objs.size, .none, .none, .none, .bool false, .none] }).get? b = some o := fun b o e => Heap.get?_push_of_some _ (Heap.get?_push_of_some _ e)
 have hC₁ := kp _ _ hC
 have hget : ((h.push { cls := .type "tuple", data := .seq rest.toArray }).push { cls := .ref C, data := .fields #[.ref h.objs.size, .none, .none, .none, .bool false, .none] }).get? (h.objs.size + 1) = some { cls := .ref C, data := .fields #[.ref h.objs.size, .none, .none, .none, .bool false, .none] } := by heap_get
 have hcC : (Value.ref C :: bm).contains (.ref C) = true := by simp
 have t1 : Looks (model prog w) ((h.push { cls := .type "tuple", data := .seq rest.toArray }).push { cls := .ref C, data := .fields #[.ref h.objs.size, .none, .none, .none, .bool false, .none] }) (typeOf (.ref (h.objs.size + 1))) (.ref C) := (Looks.ld hget).andThen .now
 have s1 : Looks (model prog w) ((h.push { cls := .type "tuple", data := .seq rest.toArray }).push { cls := .ref C, data := .fields #[.ref h.objs.size, .none, .none, .none, .bool false, .none] }) (isSubtype (.ref C) (.ref C)) true := fun A' Q' E' s' k q' => by
  obtain ⟨h', g', d', tk', os'⟩ := s'
  refine wpAny_isSubtype_exc (k _ _ hC₁) ?_
  rw [hcC]
  exact q'
 have i1 := hi.keeps kp
 have b1 := (hb (.ref (h.objs.size + 1))).keeps kp
 show wpAny _ _ _ _ _ ⟨(h.push { cls := .type "tuple", data := .seq rest.toArray }).push { cls := .ref C, data := .fields #[.ref h.objs.size, .none, .none, .none, .bool false, .none] }, g, d, t, os⟩
 unfold isInstance callSpecial? specialOf
 repeat (first | with_reducible refine wpAny_call ?_ | lk)
 refine codeAny_mono hq fun r s' z => ?_
 rcases r with e | (v | _ | _ | _) <;> first | exact z | exact z.elim | skip
 obtain ⟨rfl, z⟩ := z
 exact wpAny_pure (wpAny_pure z)
theorem ul (F : ExcBaseFacts B newId initId bmB) (T : OwnTail h bmB bm) {e : Addr} {dx : Option Addr} {t0 : Addr} {a1 a2 a3 a4 a5 v : Value}
  (hC : h.get? C = some (excClassObj nm q C N bs bm hdct sn sub ab col dd k0 k1 k2 k3 k5 newId)) (he : h.get? e = some { cls := .ref C, dict := dx, data := .fields #[.ref t0, a1, a2, a3, a4, a5] })
  (hq : ∀ h', (∀ b o, b ≠ e -> h.get? b = some o -> h'.get? b = some o) -> h'.get? e = some { cls := .ref C, dict := dx, data := .fields #[.ref h.objs.size, a1, a2, a3, a4, a5] } -> R (.ok (.ret .none)) ⟨h', g, d, t, os⟩) :
  codeAny (model prog w) A (.call (.builtin initId) ⟨[.ref e, v], []⟩) R ⟨h, g, d, t, os⟩ := by
 refine (codeAny_call_builtin F.init.plain F.initEntry (wpAny_check_init_subT F T hC he rfl ?_))
 wp_walk
 have hne : e ≠ h.objs.size := ne_of_lt (Heap.lt_size he)
 refine hq _ (fun b o hb ho => ?_) ?_
 ·rw [Heap.get?_update_other _ _ (Ne.symm hb)]
  exact Heap.get?_push_of_some _ ho
 ·rw [Heap.get?_update_self _ (Heap.get?_push_of_some _ he) rfl]
  rfl
theorem Du {E : EV} (F : ExcBaseFacts B newId initId bmB) (T : OwnTail h bmB bm) {e : Addr} {dx : Option Addr} {t0 : Addr} {a1 a2 a3 a4 a5 v : Value} {Q : EV}
  (hC : h.get? C = some (excClassObj nm q C N bs bm hdct sn sub ab col dd k0 k1 k2 k3 k5 newId)) (he : h.get? e = some { cls := .ref C, dict := dx, data := .fields #[.ref t0, a1, a2, a3, a4, a5] })
  (hq : ∀ h', (∀ b o, b ≠ e -> h.get? b = some o -> h'.get? b = some o) -> h'.get? e = some { cls := .ref C, dict := dx, data := .fields #[.ref h.objs.size, a1, a2, a3, a4, a5] } -> Q .none ⟨h', g, d, t, os⟩) :
  wpAny (model prog w) A (call (.builtin initId) [.ref e, v]) Q E ⟨h, g, d, t, os⟩ := by
 refine wpAny_call (ul F T hC he fun h' k e' => ?_)
 exact hq h' k e'
end
section
variable {prog : Program} {w : World} {A : Around} {E : EV} {s : Shared} {K : Frag} {x C : Addr} {ox : Obj} {od : Option Obj} {name : Str} {expr : Bool} {Q : EV}
theorem Ji {v : Value} (X : K.In s.heap) (I : PySem.W.InstAt s.heap x ox C od) (hga : findIn K (.ref C) "__getattribute__" = some (some (.builtin "BaseException.__getattribute__"))) (hb : mroIn K C (.type "BaseException") = some true) (hk : findIn K (.ref C) "__getattr__" = some none)
  (hf : findObj K C od name = some (.value v)) (hh : handedIn v = true) (h : Q v { s with toks := s.toks + 1 }) : wpAny (model prog w) A (getAttr (.ref x) name expr) Q E s := by
 obtain ⟨hh', g, d, t, os⟩ := s
 have L0 := I.type (M := model prog w)
 have L1 := looks_findIn (M := model prog w) X hga
 have L2 := looks_find (M := model prog w) X I hf
 unfold getAttr getAttrBy
 refine wpAny_bind (wpAny_mkText (wpAny_holding (wpAny_bind (L0.at (wpAny_bind (L1.at ?_))))))
 have LH : Looks (model prog w) hh' (hookBefore (.ref C)) none := looks_hook X (by simp only [onTheHeap]; exact hk)
 have LB : Looks (model prog w) hh' (isInstance (.ref x) (.type "BaseException")) true := L0.andThen (looks_mroIn X hb)
 show wpAny _ _ (getAttrByItsOwn (.ref x) (.str name t) (.ref C) (.builtin "BaseException.__getattribute__") true expr) _ _ ⟨hh', g, d, t + 1, os⟩
 unfold getAttrByItsOwn
 refine wpAny_bind (LH.at (wpAny_bind (wpAny_attempt (wpAny_holding ?_))))
 have hx0 : (expr && onTheHeap (Value.builtin "BaseException.__getattribute__")) = false := by cases expr <;> rfl
 have f3 := F.excAttr_ValueError.ga.bind (.ref x)
 unfold callGetattribute
 rw [hx0]
 repeat (any_goals (first | assumption | wp_step))
 show codeAny (model prog w) A (Code.call (Value.builtin "BaseException.__getattribute__") ⟨[.ref x, .str name t], []⟩) _ _
 have hk1 : builtinKind "BaseException.__getattribute__" = some .slot := by decide +kernel
 have hs1 : splitId "BaseException.__getattribute__" = some ("BaseException", "__getattribute__") := by decide +kernel
 have hc : ∀ (A' : Around) (Q' : Unit -> Shared -> Prop) (E' : EV), Q' () ⟨hh', g, d, t + 1, os⟩ -> wpAny (model prog w) A' (checkBuiltinCall "BaseException.__getattribute__" ⟨[.ref x, .str name t], []⟩) Q' E' ⟨hh', g, d, t + 1, os⟩ := fun A' Q' E' q' =>
  @check_slot (model prog w) A' E' ⟨hh', g, d, t + 1, os⟩ "BaseException.__getattribute__" "BaseException" "__getattribute__" (.ref x) [.str name t] [] Q' hk1 hs1 LB (F.args_bexc_ga (.ref x) (.str name t)) q'
 refine codeAny_call_builtin F.excAttr_ValueError.ga.plain F.entry_bexc_ga (hc _ _ _ ?_)
 unfold Builtin.«object.__getattribute__»
 repeat (first | with_reducible refine wpAny_bind (L0.at ?_) | with_reducible refine wpAny_bind (L2.at ?_) | wp_step)
 show wpAny _ _ (handedOut v) _ _ _
 rw [handedOut_of hh]; exact wpAny_pure h
end
section
variable {prog : Program} {w : World} {A : Around} {E : EV} {s : Shared} {K : Frag} {x C : Addr} {ox : Obj} {od : Option Obj} {name : Str} {expr : Bool} {Q : EV}
theorem BR (X : K.In s.heap) (I : PySem.W.InstAt s.heap x ox C od) (hga : findIn K (.ref C) "__getattribute__" = some (some (.builtin "BaseException.__getattribute__"))) (hb : mroIn K C (.type "BaseException") = some true) (hk : findIn K (.ref C) "__getattr__" = some none)
  (hf : findObj K C od "__class__" = some (.bind (.builtin "getset_descriptor.__get__") (.builtin "object.__class__"))) (hm : mroIn K C (.type "object") = some true) {Q : Option Value -> Shared -> Prop} (h : Q (some (.ref C)) { s with toks := s.toks + 1 }) : wpAny (model prog w) A (getAttr? (.ref x) "__class__") Q E s := by
 obtain ⟨hh', g, d, t, os⟩ := s
 have L0 := I.type (M := model prog w)
 have L1 := looks_findIn (M := model prog w) X hga
 have L2 := looks_find (M := model prog w) X I hf
 unfold getAttr? getAttrBy?
 refine wpAny_bind (wpAny_mkText (wpAny_bind (wpAny_attempt ?_)))
 unfold getAttrBy
 refine wpAny_holding (wpAny_bind (L0.at (wpAny_bind (L1.at ?_))))
 have LH : Looks (model prog w) hh' (hookBefore (.ref C)) none := looks_hook X (by simp only [onTheHeap]; exact hk)
 have LB : Looks (model prog w) hh' (isInstance (.ref x) (.type "BaseException")) true := L0.andThen (looks_mroIn X hb)
 show wpAny _ _ (getAttrByItsOwn (.ref x) (.str "__class__" t) (.ref C) (.builtin "BaseException.__getattribute__") false false) _ _ ⟨hh', g, d, t + 1, os⟩
 unfold getAttrByItsOwn
 refine wpAny_bind (LH.at (wpAny_bind (wpAny_attempt (wpAny_holding ?_))))
 have hx0 : (false && onTheHeap (Value.builtin "BaseException.__getattribute__")) = false := rfl
 have f3 := F.excAttr_ValueError.ga.bind (.ref x)
 unfold callGetattribute
 rw [hx0]
 repeat (any_goals (first | assumption | wp_step))
 show codeAny (model prog w) A (Code.call (Value.builtin "BaseException.__getattribute__") ⟨[.ref x, .str "__class__" t], []⟩) _ _
 have hk1 : builtinKind "BaseException.__getattribute__" = some .slot := by decide +kernel
 have hs1 : splitId "BaseException.__getattribute__" = some ("BaseException", "__getattribute__") := by decide +kernel
 have hc : ∀ (A' : Around) (Q' : Unit -> Shared -> Prop) (E' : EV), Q' () ⟨hh', g, d, t + 1, os⟩ -> wpAny (model prog w) A' (checkBuiltinCall "BaseException.__getattribute__" ⟨[.ref x, .str "__class__" t], []⟩) Q' E' ⟨hh', g, d, t + 1, os⟩ := fun A' Q' E' q' =>
  @check_slot (model prog w) A' E' ⟨hh', g, d, t + 1, os⟩ "BaseException.__getattribute__" "BaseException" "__getattribute__" (.ref x) [.str "__class__" t] [] Q' hk1 hs1 LB (F.args_bexc_ga (.ref x) (.str "__class__" t)) q'
 refine codeAny_call_builtin F.excAttr_ValueError.ga.plain F.entry_bexc_ga (hc _ _ _ ?_)
 unfold Builtin.«object.__getattribute__»
 repeat (first | with_reducible refine wpAny_bind (L0.at ?_) | with_reducible refine wpAny_bind (L2.at ?_) | wp_step)
 refine class_get X I hm ?_
 repeat (first | exact h | wp_step)
theorem yr (hcl : (clsIn K C).isSome = true) (hga : findIn K (.ref C) "__getattribute__" = some (some (.builtin "BaseException.__getattribute__"))) (hb : mroIn K C (.type "BaseException") = some true) (hk : findIn K (.ref C) "__getattr__" = some none)
  (hm : mroIn K C (.type "object") = some true) (hf : ∀ od, findObj K C od "__class__" = some (.bind (.builtin "getset_descriptor.__get__") (.builtin "object.__class__"))) :
  KitX K (.ref x) (.ref C) (fun h => ∃ ox od, PySem.W.InstAt h x ox C od) where
 ty := fun _ _ _ I => let ⟨_, _, I⟩ := I; I.type
 it := fun _ _ X _ => by
  obtain ⟨cdD, hcD⟩ := Option.isSome_iff_exists.mp hcl
  unfold clsIn at hcD
  split at hcD
  ·rename_i c' d' cd' sl' ho
   intro A' Q' E' s' k q
   unfold isType loadHead
   exact wpAny_bind (wpAny_loadPart (k _ _ (X _ _ ho)) (wpAny_pure q))
  ·cases hcD
 ne := fun h tp dd its n sl X htp => by
  obtain ⟨cdD, hcD⟩ := Option.isSome_iff_exists.mp hcl
  refine Bool.eq_false_iff.mpr fun q => ?_
  have e : C = tp := Value.ref.inj (beq_iff_eq.mp q)
  subst e
  unfold clsIn at hcD
  split at hcD
  ·rename_i c' d' cd' sl' ho
   have z := (X _ _ ho).symm.trans htp
   cases z
  ·cases hcD
 ca := fun X I k => let ⟨_, _, I⟩ := I; BR X I hga hb hk (hf _) hm k
end
end L2
namespace L2
open PySem PySem.Spec PyProof.Rows PySem.W Builtin Builtin.ObjectAttr
def cj : List Value -> Bool
 | .ref _ :: r => cj r
 | l => l == [.type "ValueError", .type "Exception", .type "BaseException", .type "object"]
theorem m7 (c : Addr) (r : List Value) : cj (.ref c :: r) = cj r := by rw [cj]
theorem rZ : ∀ {l : List Value}, cj l = true -> (∃ c r, l = .ref c :: r) \/ l = [.type "ValueError", .type "Exception", .type "BaseException", .type "object"]
 | .ref c :: r, _ => .inl ⟨c, r, rfl⟩
 | [], e => by cases e
 | .type n :: r, e => .inr (eq_of_beq (by unfold cj at e; exact e))
 | .none :: r, e => .inr (eq_of_beq (by unfold cj at e; exact e))
 | .bool _ :: r, e => .inr (eq_of_beq (by unfold cj at e; exact e))
 | .int _ _ :: r, e => .inr (eq_of_beq (by unfold cj at e; exact e))
 | .str _ _ :: r, e => .inr (eq_of_beq (by unfold cj at e; exact e))
 | .builtin _ :: r, e => .inr (eq_of_beq (by unfold cj at e; exact e))
 | .float _ _ :: r, e => .inr (eq_of_beq (by unfold cj at e; exact e))
 | .bytes _ _ :: r, e => .inr (eq_of_beq (by unfold cj at e; exact e))
 | .ellipsis :: r, e => .inr (eq_of_beq (by unfold cj at e; exact e))
 | .notImplemented :: r, e => .inr (eq_of_beq (by unfold cj at e; exact e))
theorem mH (self : Value) : ∀ {l : List Value}, cj l = true -> refuseLoop self "__setattr__" l = pure ()
 | l, e => by
  rcases rZ e with ⟨c, r, rfl⟩ | rfl
  ·rw [refuseLoop_ref]; exact mH self (l := r) (by rw [m7] at e; exact e)
  ·exact PySem.F.store_ValueError.passes self
termination_by l => l.length
theorem nO : ∀ {l : List Value}, cj l = true -> l.contains (.type "object") = true
 | l, e => by
  rcases rZ e with ⟨c, r, rfl⟩ | rfl
  ·rw [contains_cons, nO (l := r) (by rw [m7] at e; exact e), Bool.or_true]
  ·decide
termination_by l => l.length
def u5 (K : Frag) (C : Addr) : Bool := (clsIn K C).any fun cd => cj cd.mro
section
variable {prog : Program} {w : World} {A : Around} {s : Shared} {K : Frag} {x C : Addr} {R : Result -> Shared -> Prop}
theorem Cv {ox : Obj} {od : Option Obj} {name : Str} {tk : Tok} {v : Value} {r : Option Value} (X : K.In s.heap) (I : InstAt s.heap x ox C od) (hp : u5 K C = true) (ht : takerIn K C name = some r)
  (h : ∀ b, wpAny (model prog w) A.in1 (match r with | some a => Builtin.ObjectAttr.setByDescriptor a (.ref x) v | none => Builtin.ObjectAttr.storeInOwnDict (.ref x) (.ref C) (.str name tk) name v b)
   (fun fin s' => match fin with | .done f => R (.ok f) s' | .again c' => c'.quiet = true /\ codeAny (model prog w) A c' R s') (fun e s' => R (.error e) s') s) :
  codeAny (model prog w) A (.call (.builtin "object.__setattr__") ⟨[.ref x, .str name tk, v], []⟩) R s := by
 have SF := PySem.F.store_object
 obtain ⟨cd, hc, ho⟩ := any_some hp
 have ne : cd.mro.isEmpty = false := by cases q : cd.mro with | nil => rw [q] at ho; cases ho | cons _ _ => rfl
 have sub : Looks (model prog w) s.heap (isInstance (.ref x) (.type "object")) true := I.type.andThen (looks_mroIn X (by unfold mroIn; rw [hc, bind_some, if_neg (by rw [ne]; decide), nO ho]))
 refine codeAny_call_builtin SF.slot.plain SF.entry (@check_slot (model prog w) _ _ s "object.__setattr__" "object" "__setattr__" (.ref x) [.str name tk, v] [] _ SF.kind SF.split sub (SF.args (.ref x) (.str name tk) v) ?_)
 obtain ⟨attr, ha, hr⟩ := Option.bind_eq_some_iff.mp ht
 have hm : Looks (model prog w) s.heap (mroOf (.ref C)) cd.mro := (looks_clsIn X hc).andThen .now
 have L3 : Looks (model prog w) s.heap (storeTaker? attr) r := by
  cases attr with
  | none => cases hr; exact .now
  | some a =>
   obtain ⟨b, hb, rfl⟩ := Option.map_eq_some_iff.mp hr
   refine (looks_takesIn X hb).andThen ?_
   cases b <;> exact .now
 rw [osa_eq, refuse_eq]
 refine wpAny_bind (wpAny_bind (I.type.here (wpAny_bind (hm.here ?_))))
 rw [mH _ ho]
 refine wpAny_pure (wpAny_bind (I.type.here (wpAny_bind ((looks_findIn X ha).here (wpAny_bind (L3.here ?_))))))
 exact h _
end
section
variable {prog : Program} {w : World} {A : Around} {E : EV} {s : Shared} {K : Frag} {x C : Addr} {name : Str} {v : Value} {vs : Array Value}
theorem FJ {Q : Unit -> Shared -> Prop} (X : K.In s.heap) (hx : s.heap.get? x = some (bI C none vs))
  (hs : findIn K (.ref C) "__setattr__" = some (some (.builtin "object.__setattr__"))) (hp : u5 K C = true) (ht : takerIn K C name = some none) (hh : hasDictIn K C = true)
  (h : ∀ h' t', (∀ b o, b ≠ x -> s.heap.get? b = some o -> h'.get? b = some o) -> h'.get? x = some (bI C (some s.heap.objs.size) vs) -> h'.Ns1 s.heap.objs.size (fun y => if y = name then some v else none) ->
   Q () { s with heap := h', toks := t' }) :
  wpAny (model prog w) A (setAttr (.ref x) name v) Q E s := by
 have I : InstAt s.heap x (bI C none vs) C none := ⟨hx, rfl, rfl, True.intro⟩
 refine set_plain X I hs (Cv (s := { s with toks := s.toks + 1 }) (r := none) X I hp ht fun b => ?_)
 obtain ⟨cd, hc, hd'⟩ := any_some hh
 refine wpAny_bind (wpAny_pure (wpAny_bind (wpAny_bind (wpAny_loadPart hx (wpAny_bind (Looks.here (s := { s with toks := s.toks + 1 }) (looks_clsIn X hc) ?_))))))
 rw [hd']
 have hx₁ : (s.heap.push { cls := .type "dict", data := .dict #[] }).get? x = some (bI C none vs) := Heap.get?_push_of_some _ hx
 have hxs : x ≠ s.heap.objs.size := ne_of_lt (Heap.lt_size hx)
 refine wpAny_bind (wpAny_alloc' ?_)
 refine wpAny_bind (wpAny_update' hx₁ ?_)
 refine wpAny_pure ?_
 have hgd : ((s.heap.push { cls := .type "dict", data := .dict #[] }).update x fun o => { cls := o.cls, dict := some s.heap.objs.size, data := o.data, slots := o.slots }).get? s.heap.objs.size
   = some { cls := .type "dict", data := .dict #[] } :=
  (Heap.get?_update_ne _ _ _ _ hxs.symm).trans (Heap.get?_push_at rfl rfl)
 have hnd : ((s.heap.push { cls := .type "dict", data := .dict #[] }).update x fun o => { cls := o.cls, dict := some s.heap.objs.size, data := o.data, slots := o.slots }).Ns s.heap.objs.size (fun _ => none) :=
  ⟨_, #[], _, hgd, rfl, fun e he => absurd he Z2, fun _ => rfl⟩
 show wpAny _ _ (storeInDict s.heap.objs.size (.str name s.toks) name v) _ _ _
 unfold storeInDict newKeyGuard
 refine wpAny_bind (wpAny_pure (wpAny_bind (wpAny_nsSet1 (Heap.Ns1.of_empty hnd) fun h' hn' hs => ?_)))
 obtain ⟨oD, esD, epD, hoD, hdD, hcD⟩ := hn'.count (Within.cons name v Within.nil)
 refine wpAny_bind (wpAny_lookBehind hoD (by rw [hdD]; exact pastItsLine_dict (le_trans hcD (by rw [length_cons, List.length_nil, sizeLine_eq]; omega))) ?_)
 refine wpAny_pure (h _ _ (fun b ob hbx hb => ?_) ?_ hn')
 ·exact (hs.2 b (ne_of_lt (Heap.lt_size hb))).trans ((Heap.get?_update_ne _ _ _ _ hbx).trans (Heap.get?_push_of_some _ hb))
 ·exact (hs.2 x hxs).trans (Heap.get?_update_self _ hx₁ rfl)
end
end L2
namespace L2
open PySem PySem.Spec PyProof.Rows PySem.W
def M9 (fl : Bool) (dx : Option Addr) (a1 a2 : Value) : Prop := (fl = true -> a1 = .none) /\ (dx = none -> a2 = .none)
def ExO (fl : Bool) (x C : Addr) (dx : Option Addr) : HO := .ext fun h => ∃ t0 a1 a2 a3 a4 a5, h.get? x = some (bI C dx #[.ref t0, a1, a2, a3, a4, a5]) /\ M9 fl dx a1 a2
def XdO (p : Addr) (fs : List (Str × V)) : HO := .ext fun h => ∃ mA, h.Ns1 p mA /\ (∀ f, jh (fs.lookup f) (mA f)) /\ Within mA (fs.map (·.1))
section
variable {P : Program} {w : World} {H : Hp} {h : Heap} {fl : Bool} {x p C : Addr} {dx : Option Addr} {fs : List (Str × V)}
theorem mL {t0 : Addr} {a1 a2 a3 a4 a5 : Value} (e : h.get? x = some (bI C dx #[.ref t0, a1, a2, a3, a4, a5])) (hfl : M9 fl dx a1 a2) : cu P w H h x (ExO fl x C dx) :=
 ⟨⟨_, _, _, _, _, _, e, hfl⟩, ⟨_, e⟩, fun h1 h2 ⟨t0, a1, a2, a3, a4, a5, q, z⟩ k => ⟨t0, a1, a2, a3, a4, a5, k _ q, z⟩⟩
theorem LR {mA : MG} (n : h.Ns1 p mA) (r : ∀ f, jh (fs.lookup f) (mA f)) (wi : Within mA (fs.map (·.1))) : cu P w H h p (XdO p fs) :=
 ⟨⟨mA, n, r, wi⟩, let ⟨o, _, _, e, _⟩ := n; ⟨o, e⟩, fun h1 h2 ⟨mA, ⟨o, es, ep, e, c⟩, r⟩ k => ⟨mA, ⟨o, es, ep, k _ e, c⟩, r⟩⟩
theorem dm (hok : HOk P w H h) (e : H x = some (ExO fl x C dx)) : ∃ t0 a1 a2 a3 a4 a5, h.get? x = some (bI C dx #[.ref t0, a1, a2, a3, a4, a5]) /\ M9 fl dx a1 a2 := (show cu P w H h x (ExO fl x C dx) from hok x _ e).1
theorem vG (hok : HOk P w H h) (e : H p = some (XdO p fs)) : ∃ mA, h.Ns1 p mA /\ (∀ f, jh (fs.lookup f) (mA f)) /\ Within mA (fs.map (·.1)) := (show cu P w H h p (XdO p fs) from hok p _ e).1
end
structure my (K : Frag) (C : Addr) : Prop where
 ga : findIn K (.ref C) "__getattribute__" = some (some (.builtin "BaseException.__getattribute__"))
 bx : mroIn K C (.type "BaseException") = some true
 nga : findIn K (.ref C) "__getattr__" = some none
 ob : mroIn K C (.type "object") = some true
 hd : hasDictIn K C = true
 ov : u5 K C = true
 sa : findIn K (.ref C) "__setattr__" = some (some (.builtin "object.__setattr__"))
 cl : findIn K (.ref C) "__class__" = some (some (.builtin "object.__class__"))
 cg : specialIn K (.builtin "object.__class__") "__get__" = some (some (.builtin "getset_descriptor.__get__"))
 ct : takesIn K (.builtin "object.__class__") = some true
theorem my.cls {K : Frag} {C : Addr} (c : my K C) : (clsIn K C).isSome = true := by
 obtain ⟨cd, hc, _⟩ := any_some c.hd
 rw [hc]; rfl
theorem my.fo {K : Frag} {C : Addr} (c : my K C) (od : Option Obj) : findObj K C od "__class__" = some (.bind (.builtin "getset_descriptor.__get__") (.builtin "object.__class__")) := by
 obtain ⟨cd, hc, _⟩ := any_some c.hd
 unfold findObj
 rw [hc, bind_some, c.cl, bind_some]
 dsimp only
 rw [c.cg, bind_some]
 dsimp only
 rw [c.ct, bind_some]
section
variable {X : Cx} {pins : OP} {σ : St} {H : Hp} {s : Shared} {fl : Bool} {a C dx : Addr} {fs : List (Str × V)} {f : Str} {v : V} {A : Around} {E : EV}
theorem Iw {b : Bool} {Q : EV} (I : Inv X pins σ H s) (e : H a = some (ExO fl a C (some dx))) (d : H dx = some (XdO dx fs)) (c : my X.K C) (n : b8 X.K C f) (l : fs.lookup f = some v)
  (h : ∀ u s', Inv X pins σ H s' -> RelV v u -> Q u s') : wpAny (model X.prog X.w) A (getAttr (.ref a) f b) Q E s := by
 obtain ⟨t0, a1, a2, a3, a4, a5, hx, hfl⟩ := dm I.hok e
 obtain ⟨mA, hn, r, _⟩ := vG I.hok d
 obtain ⟨u, hu, ru⟩ := jh.some_of (v := v) (o := mA f) (by rw [<- l]; exact r f)
 obtain ⟨od, ho, hl⟩ := lN hn
 have J : InstAt s.heap a (bI C (some dx) #[.ref t0, a1, a2, a3, a4, a5]) C (some od) := ⟨hx, rfl, rfl, ho⟩
 exact Ji I.kIn J c.ga c.bx c.nga (findObj_own c.hd n rfl (by rw [hl, hu])) (tM ru) (h u _ (I.tok _) ru)
theorem Fl {y : V} {u : Value} {Q : Unit -> Shared -> Prop} (I : Inv X pins σ H s) (e : H a = some (ExO fl a C none)) (c : my X.K C) (n : b8 X.K C f) (ry : RelV y u)
  (h : ∀ p s', H p = none -> p ≠ a -> Inv X pins σ (upd (upd H p (XdO p [(f, y)])) a (ExO fl a C (some p))) s' -> Q () s') : wpAny (model X.prog X.w) A (setAttr (.ref a) f u) Q E s := by
 obtain ⟨t0, a1, a2, a3, a4, a5, hx, hfl⟩ := dm I.hok e
 have hlt : a < s.heap.objs.size := Heap.lt_size hx
 have hne : s.heap.objs.size ≠ a := ne_of_gt hlt
 refine FJ I.kIn hx c.sa c.ov n.taker c.hd fun h' t' k hx' hn' => h s.heap.objs.size _ (I.hok.fresh (le_refl _)) hne ?_
 have g1 : (h'.update a fun _ => bI C none #[.ref t0, a1, a2, a3, a4, a5]).get? a = some (bI C none #[.ref t0, a1, a2, a3, a4, a5]) := Heap.get?_update_self _ hx' rfl
 have g2 : ∀ b, b ≠ a -> (h'.update a fun _ => bI C none #[.ref t0, a1, a2, a3, a4, a5]).get? b = h'.get? b := fun b hb => Heap.get?_update_ne _ _ _ _ hb
 have I1 := I.laid (a := s.heap.objs.size) (o := XdO s.heap.objs.size [(f, y)]) (h' := h'.update a fun _ => bI C none #[.ref t0, a1, a2, a3, a4, a5]) (t' := t') (fun b o q => by
   by_cases hb : b = a
   ·subst hb; rw [hx] at q; cases q; exact g1
   ·rw [g2 b hb]; exact k b o hb q) (le_refl _) (by
   obtain ⟨o, es, ep, q, r⟩ := hn'
   refine LR ⟨o, es, ep, by rw [g2 _ hne]; exact q, r⟩ (fun g => ?_) (fun g hg => ?_)
   ·show jh (List.lookup g [(f, y)]) (if g = f then some u else none)
    by_cases z : g = f
    ·have hb : (g == f) = true := beq_iff_eq.mpr z
     simp only [List.lookup, hb, if_pos z]; exact ry
    ·have hb : (g == f) = false := beq_eq_false_iff_ne.mpr z
     simp only [List.lookup, hb, if_neg z]; exact True.intro
   ·by_cases z : g = f
    ·rw [z]; simp
    ·exact absurd (if_neg z) hg)
 refine I1.write (x := a) (e := a) (o := ExO fl a C (some s.heap.objs.size)) (t' := t') (h' := h') (by rw [aD hne.symm, e]; exact True.intro) (.inl rfl) (fun b o hb q => by rw [<- g2 b hb]; exact q) ⟨_, hx'⟩ (mL hx' ⟨hfl.1, fun z => by cases z⟩)
theorem Ex {dx : Option Addr} {c : Value} {b : Bool} {Q : EV} (I : Inv X pins σ H s) (e : H a = some (ExO fl a C dx)) (cl : my X.K C) (k : kitOne X.K (.ref C) c = some b) (dxd : ∀ p, dx = some p -> ∃ fs, H p = some (XdO p fs))
  (h : ∀ tk, Q (.bool b) { s with toks := tk }) : wpAny (model X.prog X.w) A (call (.builtin "isinstance") [.ref a, c]) Q E s := by
 obtain ⟨t0, a1, a2, a3, a4, a5, hx, hfl⟩ := dm I.hok e
 have J : ∃ ox od, PySem.W.InstAt s.heap a ox C od := by
  cases dx with
  | none => exact ⟨_, none, hx, rfl, rfl, True.intro⟩
  | some p =>
   obtain ⟨fs, d⟩ := dxd p rfl
   obtain ⟨mA, hn, _⟩ := vG I.hok d
   obtain ⟨od, ho, _⟩ := lN hn
   exact ⟨_, some od, hx, rfl, rfl, ho⟩
 exact kia_one (yr cl.cls cl.ga cl.bx cl.nga cl.ob cl.fo) I.kIn J k (fun z => nomatch z) h
end
def Ka (K : Frag) (ta : TE) (f : Str) : TE := fun σ H Q => ta σ H fun x H1 => ∃ fl a C dx fs v, x = .ref a /\ H1 a = some (ExO fl a C (some dx)) /\ H1 dx = some (XdO dx fs) /\ my K C /\ b8 K C f /\ fs.lookup f = some v /\ Q v H1
def GK (K : Frag) (ta tv : TE) (f : Str) : TS := fun D σ H => tv σ H fun y H1 => ta σ H1 fun x H2 => ∃ fl a C, x = .ref a /\ H2 a = some (ExO fl a C none) /\ my K C /\ b8 K C f /\
 ∀ p, H2 p = none -> p ≠ a -> D.nx σ (upd (upd H2 p (XdO p [(f, y)])) a (ExO fl a C (some p)))
def O6 : V -> Option Value
 | .ref a => some (.ref a)
 | .ty n => some (.type n)
 | _ => none
theorem Il {y : V} {c u : Value} (e : O6 y = some c) (r : RelV y u) : u = c := by
 cases y <;> cases e <;> exact r
def uR (K : Frag) : List V -> Hp -> VK -> Prop := fun xs H Q => ∃ fl a C dx y c b, xs = [.ref a, y] /\ O6 y = some c /\ H a = some (ExO fl a C dx) /\ (∀ p, dx = some p -> ∃ fs, H p = some (XdO p fs)) /\ my K C /\ kitOne K (.ref C) c = some b /\ Q (.bl b) H
section
variable {X : Cx} {o e value : Expr} {f : Str} {pos pos' tpos : Pos} {ta tv : TE}
theorem Hz (he : PE X e ta) (hb : attributeBase e f X.env (eval e X.env) = eval e X.env) : PE X (.Attribute e f pos) (Ka X.K ta f) := by
 intro pins s σ H Q I h
 refine Aw hb (thn (he pins s σ H _ I h) fun u s1 ⟨x, H1, I1, rx, fl, a, C, dx, fs, v, ex, ea, ed, c, n, l, q⟩ => ?_)
 subst ex
 obtain rfl : u = Value.ref a := rx
 exact Iw I1 ea ed c n l fun u' s2 I2 ru => ⟨v, H1, I2, ru, q⟩
theorem Gh (ha : PE X o ta) (hv : PE X value tv) (hs : swapsWith value (some (.Attribute o f pos')) pos.line X.env = pure false) : PS X (.Assign [.Attribute o f pos'] value pos) (GK X.K ta tv f) := by
 intro pins s σ H D I h
 refine plainObj_wpAny_Assign_Attribute (thn (hv pins s σ H _ I h) fun u s1 ⟨y, H1, I1, ry, q⟩ => thn (ha pins s1 σ H1 _ I1 q) fun ov s2 ⟨x, H2, I2, rx, fl, a, C, ex, ea, c, n, q2⟩ => ?_) hs
 subst ex
 obtain rfl : ov = Value.ref a := rx
 exact Fl I2 ea c n ry fun p s3 h1 h2 I3 => ⟨σ, _, I3, q2 p h1 h2⟩
theorem zB : cX X (.builtin "isinstance") (uR X.K) := by
 intro pins s σ H xs us Q I r h
 obtain ⟨fl, a, C, dx, y, c, b, rfl, ry, ea, ed, cl, k, q⟩ := h
 obtain ⟨u, u2, rfl, rx, ry2⟩ := vals2 r
 obtain rfl : u = Value.ref a := rx
 obtain rfl := Il ry ry2
 exact Ex I ea cl k ed fun tk => ⟨.bl b, H, I.tok tk, rfl, q⟩
end
abbrev TJ := Str -> St -> Hp -> VK -> Prop
def PJ (X : Cx) (es : List Expr) (t : TJ) : Prop :=
 ∀ (pins : OP) (s : Shared) (σ : St) (H : Hp) (out : Str) (Q : VK), Inv X pins σ H s -> t out σ H Q -> wpAny (model X.prog X.w) X.A (joinParts out (evalEach es X.env)) (EP X pins σ Q) X.xe s
def Th : TJ := fun out _ H Q => out.length <= sizeLine /\ Q (.str out) H
def Pq (te : TE) (tr : TJ) : TJ := fun out σ H Q => te σ H fun x H1 => ∃ y : Str, x = .str y /\ (out ++ y).length <= sizeLine /\ tr (out ++ y) σ H1 Q
def Px (te : TE) : TE := fun σ H Q => te σ H fun x H1 => (∃ i : Int, x = .int i /\ i.natAbs.log2 < 1920 /\ Q (.str (toString i)) H1) \/ ∃ y : Str, x = .str y /\ y.length <= sizeLine /\ Q (.str y) H1
section
variable {X : Cx} {e v1 v2 : Expr} {es : List Expr} {te : TE} {tr : TJ} {pos : Pos}
theorem uO : PJ X [] Th := fun pins s σ H out Q I ⟨h1, h2⟩ => joinParts_nil ⟨.str out, H, I.tok _, ⟨_, rfl⟩, h2⟩ h1
theorem iy (he : PE X e te) (hr : PJ X es tr) (hs : evalEach (e :: es) X.env = eval e X.env :: evalEach es X.env := by rfl) : PJ X (e :: es) (Pq te tr) := by
 intro pins s σ H out Q I h
 rw [hs]
 refine joinParts_cons (thn (he pins s σ H _ I h) fun u s1 ⟨x, H1, I1, rx, y, ex, hl, q⟩ => ?_)
 subst ex
 obtain ⟨t, rfl⟩ := (show ∃ t, u = Value.str y t from rx)
 exact ⟨hl, hr pins s1 σ H1 _ Q I1 q⟩
theorem lO (h : PJ X (v1 :: v2 :: es) tr) : PE X (.JoinedStr (v1 :: v2 :: es) pos) (tr Str.empty) := fun pins s σ H Q I q => JoinedStr_many (h pins s σ H _ Q I q)
theorem uI (he : PE X e te) : PE X (.FormattedValue e (-1) none pos) (Px te) := by
 intro pins s σ H Q I h
 refine FormattedValue_plain (thn (he pins s σ H _ I h) fun u s1 ⟨x, H1, I1, rx, q⟩ => ?_)
 rcases q with ⟨i, ex, hl, q⟩ | ⟨y, ex, hl, q⟩
 ·subst ex
  obtain ⟨t, rfl⟩ := (show ∃ t, u = Value.int i t from rx)
  exact formatField_int_small hl ⟨.str (toString i), H1, I1.tok _, ⟨_, rfl⟩, q⟩
 ·subst ex
  obtain ⟨t, rfl⟩ := (show ∃ t, u = Value.str y t from rx)
  exact formatField_str (fun t' tk => ⟨.str y, H1, I1.tok _, ⟨_, rfl⟩, q⟩) hl
end
abbrev cA : List Value := [.type "ValueError", .type "Exception", .type "BaseException", .type "object"]
def ExC (K : Frag) (C : Addr) : Prop := ∃ nm q N bs bm hdct sn sub ab col dd k0 k1 k2 k3 k5, K.lookup C = some (excClassObj nm q C N bs bm hdct sn sub ab col dd k0 k1 k2 k3 k5 "ValueError.__new__") /\ ∀ h, K.In h -> OwnTail h cA bm
theorem xN {H : Hp} {a : Addr} {o : HO} (e : H a = some o) : upd H a o = H := by
 funext b
 by_cases hb : b = a
 ·subst hb; rw [ak, e]
 ·rw [aD hb]
section
variable {X : Cx} {pins : OP} {σ : St} {H : Hp} {s : Shared} {fl : Bool} {a C B : Addr} {dx : Option Addr} {A : Around} {E : EV}
theorem Gf {u : Value} {Q : EV} (I : Inv X pins σ H s) (e : H a = some (ExO fl a C dx)) (c : ExC X.K C) (h : ∀ s', Inv X pins σ H s' -> Q .none s') :
  wpAny (model X.prog X.w) A (call (.builtin "ValueError.__init__") [.ref a, u]) Q E s := by
 obtain ⟨nm, q, N, bs, bm, hdct, sn, sub, ab, col, dd, k0, k1, k2, k3, k5, hc, T⟩ := c
 obtain ⟨t0, a1, a2, a3, a4, a5, hx, hfl⟩ := dm I.hok e
 obtain ⟨hh, g, d, t, os⟩ := s
 refine Du excBase_ValueError (T _ I.kIn) (I.kIn _ _ hc) hx fun h' k hx' => h _ ?_
 have z := I.write (x := a) (e := a) (o := ExO fl a C dx) (t' := t) (h' := h') (by rw [e]; exact True.intro) (.inl rfl) (fun b o hb q => k b o hb q) ⟨_, hx'⟩ (mL hx' hfl)
 rwa [xN e] at z
def M7 (K : Frag) (t : TA) : TE := fun σ H Q => t σ H fun vs H1 => ∃ fl a C dx y, vs = [.ref a, y] /\ H1 a = some (ExO fl a C dx) /\ ExC K C /\ Q .non H1
theorem oU {x : Str} {e1 : Expr} {es : List Expr} {t : TA} {p apos pos : Pos} {pl : Sem Bool} (hg : Gl X x) (hm : X.mg x = some (.ref B)) (hs : specialIn X.K (.ref B) "__getattribute__" = some (some (.builtin "type.__getattribute__")))
  (hr : readsIn X.K B (.type "type") = true) (hf : findCls X.K (.ref B) (.type "type") "__init__" = some (.val (.builtin "ValueError.__init__"))) (ha : PA X (e1 :: es) t)
  (hdb : (x == ("__debug__" : Str)) = false := by decide) (he : starEach (e1 :: es) X.env = (false, eval e1 X.env) :: starEach es X.env := by rfl) (hpl : (backTo pos (starEach es X.env)).any (·.1) = false := by rfl)
  (ht : eval (.Call (.Attribute (.Name x p) "__init__" apos) (e1 :: es) [] pos) X.env = (do
   let ov <- eval (.Name x p) X.env
   standAt apos.atName
   let (f, first) <- holding [ov] (getMethod ov "__init__" pl)
   callWith pos f first (backTo pos (starEach (e1 :: es) X.env)) (backToKw pos (keywordEach [] X.env))) := by rfl) :
  PE X (.Call (.Attribute (.Name x p) "__init__" apos) (e1 :: es) [] pos) (M7 X.K t) := by
 intro pins s σ H Q I h
 refine methodCall_KW (pl := pl) (dq I hg hm ?_ hdb) ht
 refine method_cls I.kIn hs (cls_value I.kIn hr hf rfl ?_)
 have I0 : Inv X pins σ H { s with toks := s.toks + 1 } := I.tok _
 refine PyProof.Rows.callWith_builtin1 (thn (ha pos pins _ σ H _ I0 h) fun us s1 ⟨vs, H1, I1, r1, fl, a, C, dx, y, ev, ea, c, q1⟩ => ?_) he hpl
 subst ev
 obtain ⟨u, u2, rfl, rx, _⟩ := vals2 r1
 obtain rfl : u = Value.ref a := rx
 exact Gf I1 ea c fun s' I' => ⟨.non, H1, I', rfl, q1⟩
end
def zZ (C : Addr) (sp : Sp) (dvs : List V) (E : XK) (t : TA) : TE := fun σ H Q => t σ H fun vs H1 => ∀ x, H1 x = none ->
 sp (.ref x :: (vs ++ dvs)) (upd H1 x (ExO true x C none)) (fun v H2 => v = .non /\ Q (.ref x) H2) E
def HW (C : Addr) (t : TA) : TE := fun σ H Q => t σ H fun vs H1 => vs.length = 1 /\ ∀ x, H1 x = none -> Q (.ref x) (upd H1 x (ExO true x C none))
section
variable {X : Cx} {CX : CXT} {k : Nat} {f C : Addr} {fd : FuncData} {ps : List Str} {sp : Sp} {dvs : List V} {ds : List Value} {E : XK} {x : Str} {p pos : Pos} {e : Expr} {es : List Expr} {t : TA}
theorem Inv.madeX {pins : OP} {σ : St} {H : Hp} {s : Shared} {us : List Value} (I : Inv X pins σ H s) : Inv X pins σ (upd H (s.heap.objs.size + 1) (ExO true (s.heap.objs.size + 1) C none))
  { s with heap := (s.heap.push { cls := .type "tuple", data := .seq us.toArray }).push (bI C none #[.ref s.heap.objs.size, .none, .none, .none, .bool false, .none]) } := by
 have hget : ((s.heap.push { cls := .type "tuple", data := .seq us.toArray }).push (bI C none #[.ref s.heap.objs.size, .none, .none, .none, .bool false, .none])).get? (s.heap.objs.size + 1) = some (bI C none #[.ref s.heap.objs.size, .none, .none, .none, .bool false, .none]) := by heap_get
 exact I.laid (a := s.heap.objs.size + 1) (t' := s.toks) (fun b u q => Heap.get?_push_of_some _ (Heap.get?_push_of_some _ q)) (le_succ _) (mL hget ⟨fun _ => rfl, fun _ => rfl⟩)
theorem Cg {pins : OP} {σ : St} {H : Hp} {s : Shared} {Q : VK} {us : List Value} {vs : List V} (c : ExC X.K C) (hi : findIn X.K (.ref C) "__init__" = some (some (.ref f))) (hf : isFn X.K (.ref f) = true)
  (F : aJ X.prog X.w X.K X.mg X.base CX k f fd ps sp) (hr : aX (k + 1) X.A) (hb : Binds X.K fd ps ds) (hd : Vals dvs ds) (hx : kh CX X E) (I : Inv X pins σ H s) (r : Vals vs us) (hps : ps.length <= 1000)
  (h : ∀ x, H x = none -> sp (.ref x :: (vs ++ dvs)) (upd H x (ExO true x C none)) (fun v H2 => v = .non /\ Q (.ref x) H2) E) :
  wpAny (model X.prog X.w) X.A (call (.ref C) us) (EP X pins σ Q) X.xe s := by
 have hq := h (s.heap.objs.size + 1) (I.hok.fresh (le_succ _))
 have I2 := Inv.madeX (C := C) (us := us) I
 have r2 : Vals (V.ref (s.heap.objs.size + 1) :: (vs ++ dvs)) (Value.ref (s.heap.objs.size + 1) :: (us ++ ds)) := .cons rfl (r.append hd)
 have hl : (Value.ref (s.heap.objs.size + 1) :: us ++ ds).length = ps.length := by
  have e := r2.length
  rw [F.len _ _ _ _ hq] at e
  exact e.symm
 have hus : us.length <= sizeLine := by
  have : us.length <= ps.length := by rw [<- hl, length_append, length_cons]; omega
  exact le_trans this (le_trans hps Z0)
 obtain ⟨nm, q, N, bs, bm, hdct, sn, sub, ab, col, dd, k0, k1, k2, k3, k5, hc, T⟩ := c
 refine wpAny_call (qZ excBase_ValueError (T _ I.kIn) (I.kIn _ _ hc) (looks_findIn I.kIn hi) (fun self => bind_fn I.kIn self (beq_iff_eq.mp hf)) hus
  (codeAny_mono (F.run _ X.stack _ _ ⟨Value.ref (s.heap.objs.size + 1) :: us, []⟩ (Value.ref (s.heap.objs.size + 1) :: (us ++ ds)) _ _ E (hr.make C us [])
  (I2.env0.make C us []) (hb _ (Value.ref (s.heap.objs.size + 1) :: us) I2.kIn hl) r2 hq) fun r s' hq' => ?_))
 cases r with
 | error e => exact hx pins σ _ _ e s' I2 hq'
 | ok fl =>
  cases fl with
  | ret u =>
   obtain ⟨v, H', I3, rv, ev, q3⟩ := I2.after hq'
   subst ev
   exact ⟨rv, ⟨V.ref (s.heap.objs.size + 1), H', I3, rfl, q3⟩⟩
  | next => exact False.elim hq'
  | brk => exact False.elim hq'
  | cont => exact False.elim hq'
theorem Fx (c : ExC X.K C) (hi : findIn X.K (.ref C) "__init__" = some (some (.ref f))) (hf : isFn X.K (.ref f) = true) (hkp : keepIn X.K (.ref C) = true)
  (F : aJ X.prog X.w X.K X.mg X.base CX k f fd ps sp) (hr : aX (k + 1) X.A) (hg : Gl X x) (hm : X.mg x = some (.ref C)) (hb : Binds X.K fd ps ds) (hd : Vals dvs ds) (hx : kh CX X E) (hps : ps.length <= 1000)
  (ha : PA X (e :: es) t) (hdb : (x == ("__debug__" : Str)) = false := by decide) (he : starEach (e :: es) X.env = (false, eval e X.env) :: starEach es X.env := by rfl) (hpl : (backTo pos (starEach es X.env)).any (·.1) = false := by rfl) :
  PE X (.Call (.Name x p) (e :: es) [] pos) (zZ C sp dvs E t) := by
 intro pins s σ H Q I h
 refine wpAny_Call_Name_kw (dq I hg hm ?_ hdb)
 refine callWith_K (h₀ := X.base) I.ok.mod.kin hkp (thn (ha pos pins s σ H _ I h) fun us s1 ⟨vs, H1, I1, r, q⟩ => ⟨I1.kIn, ?_⟩) he hpl
 exact Cg c hi hf F hr hb hd hx I1 r hps q
theorem jo (c : ExC X.K C) (hi : findIn X.K (.ref C) "__init__" = some (some (.builtin "ValueError.__init__"))) (hkp : keepIn X.K (.ref C) = true) (hg : Gl X x) (hm : X.mg x = some (.ref C))
  (ha : PA X (e :: es) t) (hdb : (x == ("__debug__" : Str)) = false := by decide) (he : starEach (e :: es) X.env = (false, eval e X.env) :: starEach es X.env := by rfl) (hpl : (backTo pos (starEach es X.env)).any (·.1) = false := by rfl) :
  PE X (.Call (.Name x p) (e :: es) [] pos) (HW C t) := by
 intro pins s σ H Q I h
 refine wpAny_Call_Name_kw (dq I hg hm ?_ hdb)
 refine callWith_K (h₀ := X.base) I.ok.mod.kin hkp (thn (ha pos pins s σ H _ I h) fun us s1 ⟨vs, H1, I1, r, hl1, q⟩ => ⟨I1.kIn, ?_⟩) he hpl
 obtain ⟨u, rfl⟩ : ∃ u, us = [u] := List.length_eq_one_iff.mp (r.length.symm.trans hl1)
 have hq := q (s1.heap.objs.size + 1) (I1.hok.fresh (le_succ _))
 have I2 := Inv.madeX (C := C) (us := [u]) I1
 obtain ⟨nm, q', N, bs, bm, hdct, sn, sub, ab, col, dd, k0, k1, k2, k3, k5, hc, T⟩ := c
 have hx : (upd H1 (s1.heap.objs.size + 1) (ExO true (s1.heap.objs.size + 1) C none)) (s1.heap.objs.size + 1) = some (ExO true (s1.heap.objs.size + 1) C none) := ak
 refine wpAny_call (qZ excBase_ValueError (T _ I1.kIn) (I1.kIn _ _ hc) (looks_findIn I1.kIn hi) (fun self => Looks.of_pure (excBase_ValueError.init.bind self)) (show 1 <= sizeLine by decide) ?_)
 have hget : ((s1.heap.push { cls := .type "tuple", data := .seq [u].toArray }).push (bI C none #[.ref s1.heap.objs.size, .none, .none, .none, .bool false, .none])).get? (s1.heap.objs.size + 1) = some (bI C none #[.ref s1.heap.objs.size, .none, .none, .none, .bool false, .none]) := by heap_get
 refine ul excBase_ValueError (T _ I2.kIn) (I2.kIn _ _ hc) hget fun h' k hx' => ⟨rfl, V.ref (s1.heap.objs.size + 1), _, ?_, rfl, hq⟩
 have z := I2.write (x := s1.heap.objs.size + 1) (e := s1.heap.objs.size + 1) (o := ExO true (s1.heap.objs.size + 1) C none) (t' := s1.toks) (h' := h') (by rw [hx]; exact True.intro) (.inl rfl) (fun b o hb q => k b o hb q) ⟨_, hx'⟩ (mL hx' ⟨fun _ => rfl, fun _ => rfl⟩)
 rwa [xN hx] at z
end
def ou (es : Array DictEntry) : Bool := es.toList.all fun e => match e.key with | .str _ _ => true | _ => false
theorem yI {es : Array DictEntry} (e : ou es = true) : StrKeys es := by
 intro d hd
 have := all_eq_true.mp e d (Array.mem_toList_iff.mpr hd)
 split at this
 ·rename_i x t q; exact ⟨x, t, q⟩
 ·cases this
theorem Om {K : Frag} {N : Addr} {oN : Value} {dN : Option Addr} {es : Array DictEntry} {nn : Nat} {sl : Array (Option Value)} {h : Heap} (X : K.In h) (l : K.lookup N = some ⟨oN, dN, .dict es nn, sl⟩) (e : ou es = true) : h.Ns N (nsFind es) :=
 ⟨_, es, nn, X _ _ l, rfl, yI e, fun _ => rfl⟩
section
variable {K : Frag} {C D N HE M : Addr} {nm q nm' q' : Str} {bs bs' bm bm' : List Value} {sn sn' : List Str} {sub sub' : List Value} {ab ab' hdct hdct' : Bool} {col col' : Option Bool} {dd dd' : Option Addr} {k0 k1 k2 k3 k5 j0 j1 j2 j3 j5 : Option Value} {oN : Value} {dN : Option Addr} {es : Array DictEntry} {nn : Nat} {sl : Array (Option Value)} {i i' : String}
theorem Ld (l : K.lookup HE = some (excClassObj nm q HE N bs cA hdct sn sub ab col dd k0 k1 k2 k3 k5 "ValueError.__new__")) : ExC K HE :=
 ⟨_, _, _, _, _, _, _, _, _, _, _, _, _, _, _, _, l, fun h X => .base⟩
theorem Ik (l : K.lookup HE = some (excClassObj nm q HE N bs cA hdct sn sub ab col dd k0 k1 k2 k3 k5 i)) (n : K.lookup N = some ⟨oN, dN, .dict es nn, sl⟩) (e : ou es = true) (hi : nsFind es "__init__" = none)
  (l' : K.lookup C = some (excClassObj nm' q' C M bs' (.ref HE :: cA) hdct' sn' sub' ab' col' dd' j0 j1 j2 j3 j5 "ValueError.__new__")) : ExC K C :=
 ⟨_, _, _, _, _, _, _, _, _, _, _, _, _, _, _, _, l', fun h X => .own (X _ _ l) (Om X n e) hi .base⟩
theorem qR (l : K.lookup C = some (excClassObj nm q C N bs bm hdct sn sub ab col dd k0 k1 k2 k3 k5 i)) : ∃ cd, clsIn K C = some cd /\ cd.mro = .ref C :: bm /\ cd.hasDict = hdct := ⟨_, by unfold clsIn; rw [l], rfl, rfl⟩
theorem vH {b : Value} (l : K.lookup C = some (excClassObj nm q C N bs bm hdct sn sub ab col dd k0 k1 k2 k3 k5 i)) : mroIn K C b = some ((Value.ref C :: bm).contains b) := by
 obtain ⟨cd, h1, h2, _⟩ := qR l
 unfold mroIn
 rw [h1, bind_some, h2, if_neg Z2]
theorem Ib (l : K.lookup C = some (excClassObj nm q C N bs bm hdct sn sub ab col dd k0 k1 k2 k3 k5 i)) (l' : K.lookup D = some (excClassObj nm' q' D M bs' bm' hdct' sn' sub' ab' col' dd' j0 j1 j2 j3 j5 i')) :
  kitOne K (.ref C) (.ref D) = some ((Value.ref C :: bm).contains (.ref D)) := by
 unfold kitOne
 by_cases e : (Value.ref C == Value.ref D) = true
 ·rw [if_pos e, eq_of_beq e]; simp
 ·rw [if_neg e]
  obtain ⟨cd, h1, _⟩ := qR l'
  have h2 : typeIn K (.ref D) = some (.type "type") := by show (K.lookup D).map (·.cls) = _; rw [l']; rfl
  show (if ((clsIn K D).isSome && typeIn K (.ref D) == some (.type "type")) = true then mroIn K C (.ref D) else none) = _
  rw [h1, h2, if_pos Z2, vH l]
theorem Ng {n : String} (hn : kitMeta n = true) (l : K.lookup C = some (excClassObj nm q C N bs bm hdct sn sub ab col dd k0 k1 k2 k3 k5 i)) : kitOne K (.ref C) (.type n) = some ((Value.ref C :: bm).contains (.type n)) := by
 unfold kitOne
 rw [if_neg (by intro z; cases eq_of_beq z)]
 show (if kitMeta n = true then mroIn K C (.type n) else none) = _
 rw [if_pos hn, vH l]
theorem JK (l : K.lookup C = some (excClassObj nm q C N bs bm true sn sub ab col dd k0 k1 k2 k3 k5 i)) (hb : cj bm = true) (hbe : bm.contains (.type "BaseException") = true)
  (ga : findIn K (.ref C) "__getattribute__" = some (some (.builtin "BaseException.__getattribute__"))) (nga : findIn K (.ref C) "__getattr__" = some none)
  (sa : findIn K (.ref C) "__setattr__" = some (some (.builtin "object.__setattr__"))) (cl : findIn K (.ref C) "__class__" = some (some (.builtin "object.__class__")))
  (cg : specialIn K (.builtin "object.__class__") "__get__" = some (some (.builtin "getset_descriptor.__get__"))) (ct : takesIn K (.builtin "object.__class__") = some true) : my K C := by
 obtain ⟨cd, h1, h2, h3⟩ := qR l
 refine ⟨ga, ?_, nga, ?_, ?_, ?_, sa, cl, cg, ct⟩
 ·rw [vH l, contains_cons, hbe, Bool.or_true]
 ·rw [vH l, contains_cons, nO hb, Bool.or_true]
 ·unfold hasDictIn; rw [h1]; exact h3
 ·unfold u5; rw [h1]; show cj cd.mro = true; rw [h2, m7]; exact hb
end
structure XIn (K : Frag) (C : Addr) (qual : Str) (st : Stmt) (ps : List Str) (f : Addr) (fd : FuncData) : Prop where
 F : Fun K "__init__" qual st f fd
 b : Binds K fd ps []
 i : findIn K (.ref C) "__init__" = some (some (.ref f))
 fn : isFn K (.ref f) = true
 kp : keepIn K (.ref C) = true
 sm : ps.length <= 1000
theorem qj : bootBuiltins "ValueError" = some (.type "ValueError") := by decide +kernel
theorem xZ {i : Int} (h : i.natAbs.log2 < 1920) : (Str.ofString (toString i)).length <= 5000 := by
 have e := int_text_length_le (k := 1920) Z0 h
 rw [PySem.ofString_length]; omega
section
variable {X : Cx} {k : Nat} {f C : Addr} {fd : FuncData} {ps : List Str} {sp : Sp} {x qual : Str} {st : Stmt} {p pos pos' : Pos} {e o value : Expr} {es : List Expr} {t : TA} {ta tv : TE} {g : Str}
theorem xK (A : XIn X.K C qual st ps f fd) (G : aJ X.prog X.w X.K X.mg X.base CX0 k f fd ps sp) (hr : aX (k + 1) X.A) (hm : X.mg x = some (.ref C)) (c : ExC X.K C) (ha : PA X (e :: es) t) (hg : Gl X x := by rfl)
  (hdb : (x == ("__debug__" : Str)) = false := by decide) (he : starEach (e :: es) X.env = (false, eval e X.env) :: starEach es X.env := by rfl) (hpl : (backTo pos (starEach es X.env)).any (·.1) = false := by rfl) :
  PE X (.Call (.Name x p) (e :: es) [] pos) (zZ C sp [] E0 t) := Fx c A.i A.fn A.kp G hr hg hm A.b .nil wX A.sm ha hdb he hpl
theorem cT {y : Addr} (h : X.mg x = some (.ref y)) (hg : Gl X x := by rfl) (hd : (x == ("__debug__" : Str)) = false := by decide) : PE X (.Name x pos) (tC (.ref y)) := vz hg h rfl hd
theorem oM (ha : PE X o ta) (hv : PE X value tv) (hs : swapsWith value (some (.Attribute o g pos')) pos.line X.env = pure false := by rfl) : QS X (.Assign [.Attribute o g pos'] value pos) (GK X.K ta tv g) := ⟨Gh ha hv hs⟩
end
structure Fam (K : Frag) (C : Nat -> Addr) : Prop where
 x : ∀ i, i <= 13 -> my K (C i)
 c : ∀ i, i <= 13 -> ExC K (C i)
 k : ∀ i j, i <= 13 -> j <= 13 -> kitOne K (.ref (C i)) (.ref (C j)) = some (decide (i = j) || decide (j = 13))
 v : ∀ i, i <= 13 -> kitOne K (.ref (C i)) (.type "ValueError") = some true
def IsX (fl : Bool) (C : Nat -> Addr) (H : Hp) (a : Addr) (i : Nat) (fs : List (Str × V)) : Prop := ∃ dx, H a = some (ExO fl a (C i) dx) /\ ((dx = none /\ fs = []) \/ ∃ p, dx = some p /\ H p = some (XdO p fs))
theorem IsX.same {fl : Bool} {C : Nat -> Addr} {H H' : Hp} {a : Addr} {i : Nat} {fs : List (Str × V)} (x : IsX fl C H a i fs) (s : au H H') : IsX fl C H' a i fs := by
 obtain ⟨dx, h1, h2⟩ := x
 exact ⟨dx, s _ _ h1, h2.imp id fun ⟨p, e, h3⟩ => ⟨p, e, s _ _ h3⟩⟩
theorem IsX.inst {K : Frag} {fl : Bool} {C : Nat -> Addr} {H : Hp} {a : Addr} {i j : Nat} {fs : List (Str × V)} {Q : VK} (x : IsX fl C H a i fs) (F : Fam K C) (hi : i <= 13) (hj : j <= 13) (q : Q (.bl (decide (i = j) || decide (j = 13))) H) : uR K [.ref a, .ref (C j)] H Q := by
 obtain ⟨dx, h1, h2⟩ := x
 refine ⟨fl, a, _, dx, _, _, _, rfl, rfl, h1, fun p e => ?_, F.x i hi, F.k i j hi hj, q⟩
 rcases h2 with ⟨z, _⟩ | ⟨p', e', h3⟩
 ·rw [z] at e; cases e
 ·rw [e'] at e; cases e; exact ⟨_, h3⟩
theorem IsX.dict {fl : Bool} {C : Nat -> Addr} {H : Hp} {a : Addr} {i : Nat} {fs : List (Str × V)} (x : IsX fl C H a i fs) : ∃ dx, H a = some (ExO fl a (C i) dx) /\ ∀ p, dx = some p -> ∃ fs, H p = some (XdO p fs) := by
 obtain ⟨dx, h1, h2⟩ := x
 refine ⟨dx, h1, fun p e => ?_⟩
 rcases h2 with ⟨z, _⟩ | ⟨p', e', h3⟩
 ·rw [z] at e; cases e
 ·rw [e'] at e; cases e; exact ⟨_, h3⟩
def gJ (K : Frag) (C : Addr) (bm : List Value) : Prop := ∃ nm q N bs sn sub ab col dd k0 k1 k2 k3 k5, K.lookup C = some (excClassObj nm q C N bs bm true sn sub ab col dd k0 k1 k2 k3 k5 "ValueError.__new__")
theorem Lx (a : Addr) : cA.contains (.ref a) = false := rfl
structure uw (fr : List Addr) (e : Addr) (old : Option Addr) (h h' : Heap) : Prop where
 keep : ∀ b o, h.get? b = some o -> b ≠ e -> some b ≠ old -> b ∉ fr -> h'.get? b = some o
 slot : ∀ b o, h.get? b = some o -> b ≠ e -> some b ≠ old -> ∃ sl, h'.get? b = some { o with slots := sl }
 there : ∀ b o, h.get? b = some o -> ∃ o', h'.get? b = some o'
 size : h.objs.size <= h'.objs.size
def yf (h : Heap) (T : Addr) : Prop := ∃ oT ts, h.get? T = some oT /\ oT.data = .fields ts /\ ts[3]? = some .none
theorem Ea {o : Obj} {vs : Array Value} (hd : o.data = .fields vs) (f : Array Value -> Array Value) : Obj.mapFields f o = { o with data := .fields (f vs) } := by
 obtain ⟨c, d, dt, sl⟩ := o
 cases (show dt = .fields vs from hd)
 rfl
theorem qM {o : Obj} {vs : Array Value} (hd : o.data = .fields vs) : o.isFreed = false := Obj.isFreed_of_fields hd
section
variable {M : Model} {A : Around} {E : EV} {s : Shared} {base : Heap} {env : Env} {outer : List Env} {L e : Addr} {oe : Obj} {vs : Array Value} {Q : Unit -> Shared -> Prop}
theorem Ai {head : Value} {nx : Bool} (hfr : A.frames = some (env :: outer)) (hl : s.heap.FunFrames base (env :: outer)) (hf : env.frame = some L) (he : s.heap.get? e = some oe) (hd : oe.data = .fields vs) (hsz : 1 < vs.size)
  (h : ∀ h' T, uw (frs (env :: outer)) e none s.heap h' -> h'.get? e = some { oe with data := .fields (vs.setIfInBounds 1 (.ref T)) } -> s.heap.objs.size <= T -> yf h' T -> Q () { s with heap := h' }) :
  wpAny M A (do
   let a <- frameOf env
   let pl <- entryPlaceOf L nx
   let b <- EntryCells.newEntry head a .none (rawInt L) .none pl
   setField (.ref e) 1 b) (fun _ s' => wpAny M A (setFlight (.ref e) none) Q E s') E s := by
 have en : e ∉ frs (env :: outer) := fun hm => by
  obtain ⟨_, o, ho, hn⟩ := hl.mem hm
  rw [he] at ho; cases ho; exact hn vs hd
 have elt : e < s.heap.objs.size := Heap.lt_size he
 refine wpAny_bind (wpAny_frameOf_fun hfr hl hf fun g1 G1 => ?_)
 refine wpAny_bind (wpAny_entryPlaceOf fun pl hpl => ?_)
 unfold EntryCells.newEntry newFields
 refine wpAny_bind (wpAny_newObj_type ?_ (hpl.sizeOk5 _ _ _ _ _))
 have e1 : g1.get? e = some oe := (G1.2.1 e en).trans he
 have z1 : g1.objs.size = s.heap.objs.size := G1.1
 have hts : (([head, .ref L, .none, rawInt L, .none] ++ (if pl.isEmpty then List.replicate 6 Value.none else pl)).toArray : Array Value).size > 3 := by
  simp only [size_toArray, length_append, length_cons, List.length_nil]
  omega
 generalize (([head, .ref L, .none, rawInt L, .none] ++ (if pl.isEmpty then List.replicate 6 Value.none else pl)).toArray : Array Value) = tv at hts
 have t2 := Heap.get?_push_size g1 (o := { cls := .type "traceback", dict := none, data := .fields tv }) rfl
 have k2 : ∀ b o, g1.get? b = some o -> (g1.push { cls := .type "traceback", dict := none, data := .fields tv }).get? b = some o := fun b o q => Heap.get?_push_of_some _ q
 have z2 : (g1.push { cls := .type "traceback", dict := none, data := .fields tv }).objs.size = g1.objs.size + 1 := Heap.size_push _ _
 generalize g1.push { cls := .type "traceback", dict := none, data := .fields tv } = g2 at t2 k2 z2
 have Tne : g1.objs.size ≠ e := ne_of_gt (by rw [z1]; exact elt)
 refine wpAny_setField (k2 _ _ e1) hd hsz ?_
 have e3 := Heap.get?_update_self (h := g2) (Obj.mapFields (·.setIfInBounds 1 (Value.ref g1.objs.size))) (k2 _ _ e1) (by rw [Ea hd]; exact qM rfl)
 rw [Ea hd] at e3
 have o3 : ∀ b, b ≠ e -> (g2.update e (Obj.mapFields (·.setIfInBounds 1 (Value.ref g1.objs.size)))).get? b = g2.get? b := fun b hb => Heap.get?_update_other _ _ (Ne.symm hb)
 have z3 : (g2.update e (Obj.mapFields (·.setIfInBounds 1 (Value.ref g1.objs.size)))).objs.size = g2.objs.size := by cases g2; simp [Heap.update]
 generalize g2.update e (Obj.mapFields (·.setIfInBounds 1 (Value.ref g1.objs.size))) = g3 at e3 o3 z3
 unfold setFlight
 refine wpAny_bind (wpAny_field e3 rfl (x := .ref g1.objs.size) (by simp [hsz]) ?_)
 rw [if_pos (show (Value.ref g1.objs.size != Value.none) = true from by simp)]
 have t3 := (o3 _ Tne).trans t2
 refine wpAny_setField t3 rfl hts ?_
 have t4 := Heap.get?_update_self (h := g3) (Obj.mapFields (·.setIfInBounds 3 ((none : Option Addr).elim Value.none fun f => rawInt f))) t3 (qM rfl)
 have o4 : ∀ b, b ≠ g1.objs.size -> (g3.update g1.objs.size (Obj.mapFields (·.setIfInBounds 3 ((none : Option Addr).elim Value.none fun f => rawInt f)))).get? b = g3.get? b := fun b hb => Heap.get?_update_other _ _ (Ne.symm hb)
 have z4 : (g3.update g1.objs.size (Obj.mapFields (·.setIfInBounds 3 ((none : Option Addr).elim Value.none fun f => rawInt f)))).objs.size = g3.objs.size := by cases g3; simp [Heap.update]
 generalize g3.update g1.objs.size (Obj.mapFields (·.setIfInBounds 3 ((none : Option Addr).elim Value.none fun f => rawInt f))) = g4 at t4 o4 z4
 have all : ∀ b o, b ≠ e -> g1.get? b = some o -> g4.get? b = some o := fun b o hb q => by
  rw [o4 b (ne_of_lt (Heap.lt_size q)), o3 b hb]; exact k2 b o q
 have e4 : g4.get? e = some { oe with data := .fields (vs.setIfInBounds 1 (.ref g1.objs.size)) } := (o4 e (Ne.symm Tne)).trans e3
 refine h g4 g1.objs.size ⟨fun b o q hb _ hn => all b o hb ((G1.2.1 b hn).trans q), fun b o q hb _ => ?_, fun b o q => ?_, Z1⟩ e4 Z1 ⟨_, _, t4, rfl, by simp [hts]⟩
 ·obtain ⟨sl, q1⟩ := G1.2.2 b o q
  exact ⟨sl, all b _ hb q1⟩
 ·by_cases hb : b = e
  ·subst hb; exact ⟨_, e4⟩
  ·obtain ⟨sl, q1⟩ := G1.2.2 b o q
   exact ⟨_, all b _ hb q1⟩
theorem zj (hfr : A.frames = some (env :: outer)) (hl : s.heap.FunFrames base (env :: outer)) (hf : env.frame = some L) (he : s.heap.get? e = some oe) (hd : oe.data = .fields vs) (h1 : vs[1]? = some .none)
  (h : ∀ h' T, uw (frs (env :: outer)) e none s.heap h' -> h'.get? e = some { oe with data := .fields (vs.setIfInBounds 1 (.ref T)) } -> s.heap.objs.size <= T -> yf h' T -> Q () { s with heap := h' }) :
  wpAny M A (noteFrame (.ref e) env) (fun _ s' => wpAny M A (setFlight (.ref e) none) Q E s') E s := by
 unfold noteFrame
 simp only [hf]
 refine wpAny_bind (wpAny_field he hd h1 ?_)
 rw [if_neg Z0]
 exact Ai hfr hl hf he hd (Array.getElem?_eq_some_iff.mp h1).1 h
theorem CN {T0 : Addr} (hfr : A.frames = some (env :: outer)) (hl : s.heap.FunFrames base (env :: outer)) (hf : env.frame = some L) (he : s.heap.get? e = some oe) (hd : oe.data = .fields vs) (h1 : vs[1]? = some (.ref T0)) (hT : yf s.heap T0) (hne : T0 ≠ e)
  (h : ∀ h' T, uw (frs (env :: outer)) e (some T0) s.heap h' -> h'.get? e = some { oe with data := .fields (vs.setIfInBounds 1 (.ref T)) } -> s.heap.objs.size <= T -> yf h' T -> Q () { s with heap := h' }) :
  wpAny M A (noteFrame (.ref e) env) (fun _ s' => wpAny M A (setFlight (.ref e) none) Q E s') E s := by
 obtain ⟨oT, ts, hT, hdT, h3⟩ := hT
 unfold noteFrame
 simp only [hf]
 refine wpAny_bind (wpAny_field he hd h1 ?_)
 rw [if_pos (show (Value.ref T0 != Value.none) = true from by simp)]
 refine wpAny_bind (wpAny_field hT hdT h3 ?_)
 rw [if_neg (show ¬ ((Value.none == rawInt L) = true) from by simp [rawInt])]
 refine wpAny_bind (wpAny_setField hT hdT (Array.getElem?_eq_some_iff.mp h3).1 ?_)
 have Tf : T0 ∉ frs (env :: outer) := fun hm => by
  obtain ⟨_, o, ho, hn⟩ := hl.mem hm
  rw [hT] at ho; cases ho; exact hn ts hdT
 have t1 := Heap.get?_update_self (h := s.heap) (Obj.mapFields (·.setIfInBounds 3 Value.none)) hT (by rw [Ea hdT]; exact qM rfl)
 have o1 : ∀ b, b ≠ T0 -> (s.heap.update T0 (Obj.mapFields (·.setIfInBounds 3 Value.none))).get? b = s.heap.get? b := fun b hb => Heap.get?_update_other _ _ (Ne.symm hb)
 have z1 : (s.heap.update T0 (Obj.mapFields (·.setIfInBounds 3 Value.none))).objs.size = s.heap.objs.size := by cases s.heap; simp [Heap.update]
 generalize s.heap.update T0 (Obj.mapFields (·.setIfInBounds 3 Value.none)) = g at t1 o1 z1
 refine Ai (s := { s with heap := g }) hfr (hl.of_keeps fun b o q hn => ⟨o, (o1 b fun z => ?_).trans q, rfl⟩) hf ((o1 e (Ne.symm hne)).trans he) hd (Array.getElem?_eq_some_iff.mp h1).1 fun h' T N x hz tb => h h' T ⟨fun b o q hb hT0 hn => ?_, fun b o q hb hT0 => ?_, fun b o q => ?_, le_trans (le_of_eq z1.symm) N.size⟩ x (le_trans (le_of_eq z1.symm) hz) tb
 ·subst z; rw [hT] at q; cases q; exact hn ts hdT
 ·exact N.keep b o ((o1 b fun z => hT0 (by rw [z])).trans q) hb Z2 hn
 ·exact N.slot b o ((o1 b fun z => hT0 (by rw [z])).trans q) hb Z2
 ·by_cases z : b = T0
  ·subst z; exact N.there _ _ t1
  ·exact N.there _ _ ((o1 b z).trans q)
end
theorem Fp {P : Program} {w : World} {H : Hp} {h h' : Heap} {fr : List Addr} {x C : Addr} {dx old : Option Addr} (ok : HOk P w H h) (N : uw fr x old h h') (hx : H x = some (ExO false x C dx))
  (hx' : ∃ t0 a1 a2 a3 a4 a5, h'.get? x = some (bI C dx #[.ref t0, a1, a2, a3, a4, a5]) /\ (dx = none -> a2 = .none)) (hfr : ∀ b ∈ fr, H b = none) (hold : ∀ T, old = some T -> H T = none) : HOk P w H h' := fun a o e => by
 by_cases ha : a = x
 ·subst ha
  rw [hx] at e
  cases e
  obtain ⟨t0, a1, a2, a3, a4, a5, q, q2⟩ := hx'
  exact mL q ⟨fun z => (by cases z), q2⟩
 ·refine (ok a o e).stay (fun b u hb q => ?_) (fun _ q => q) fun _ _ q => q
  have hbn : ∃ v, H b = some v := by
   rcases hb with rfl | hb
   ·exact ⟨_, e⟩
   ·exact ⟨_, hb⟩
  obtain ⟨v, hv⟩ := hbn
  refine N.keep b u q (fun z => ?_) (fun z => ?_) (fun z => ?_)
  ·subst z
   rcases hb with z | hb
   ·exact ha z.symm
   ·rw [hx] at hb; cases hb
  ·have := hold b z.symm
   rw [hv] at this; cases this
  ·have := hfr b z
   rw [hv] at this; cases this
theorem Fi {fs fr : List Addr} {H0 H1 : Hp} {h0 h1 h2 : Heap} {x : Addr} {old : Option Addr} {o : HO} (u : Un fs [] H0 H1 h0 h1) (N : uw fr x old h1 h2) (hx : H1 x = some o)
  (hT : ∀ T, old = some T -> h0.objs.size <= T) (hfr : ∀ b ∈ fr, b ∈ fs \/ h0.objs.size <= b) : Un fs [] H0 H1 h0 h2 where
 keep := fun b ob q n hb he => by
  refine N.keep b ob (u.keep b ob q n hb he) (fun z => ?_) (fun z => ?_) (fun z => ?_)
  ·have := u.free b ob q n he
   rw [z, hx] at this; cases this
  ·exact absurd (Heap.lt_size q) (not_lt.mpr (hT b z.symm))
  ·rcases hfr b z with k | k
   ·exact hb k
   ·exact absurd (Heap.lt_size q) (not_lt.mpr k)
 slot := fun b ob q n hb he => by
  obtain ⟨sl, q1⟩ := u.slot b ob q n hb he
  obtain ⟨sl2, q2⟩ := N.slot b _ q1 (fun z => by have := u.free b ob q n he; rw [z, hx] at this; cases this) (fun z => absurd (Heap.lt_size q) (not_lt.mpr (hT b z.symm)))
  exact ⟨sl2, q2⟩
 free := u.free
 there := fun b ob q he => by
  obtain ⟨o', q1⟩ := u.there b ob q he
  exact N.there b o' q1
 tups := u.tups
 frzs := u.frzs
 tbls := u.tbls
def Fly (h : Heap) (x : Addr) (v : Value) : Prop := ∃ oe vs, h.get? x = some oe /\ oe.data = .fields vs /\ vs[1]? = some v
def CX1 (P : Program) (w : World) : CXT := fun outer H s E e s' => ∃ x C dx T H', e = .ref x /\ s'.os = s.os /\ AllBare s'.gens /\ Un (frs outer) [] H H' s.heap s'.heap /\ HOk P w H' s'.heap /\ H' x = some (ExO false x C dx) /\
 Fly s'.heap x (.ref T) /\ yf s'.heap T /\ H' T = none /\ s.heap.objs.size <= T /\ E e none H'
section
variable {X : Cx} {pins : OP} {σ : St} {H H1 : Hp} {s s1 : Shared} {x C : Addr} {dx : Option Addr}
structure Rz (X : Cx) (pins : OP) (σ : St) (H1 : Hp) (s1 : Shared) (H : Hp) (x C : Addr) (dx : Option Addr) (T : Addr) (s : Shared) : Prop where
 pre : Inv X pins σ H1 s1
 os : s.os = s1.os
 bare : AllBare s.gens
 un : Un (frs X.stack) [] H1 H s1.heap s.heap
 hok : HOk X.prog X.w H s.heap
 at_ : H x = some (ExO false x C dx)
 fly : Fly s.heap x (.ref T)
 tb : yf s.heap T
 off : H T = none
 new : s1.heap.objs.size <= T
theorem Rz.inv {T : Addr} (r : Rz X pins σ H1 s1 H x C dx T s) : Inv X pins σ H s := r.pre.call' r.os r.un r.hok r.bare (fun b z => absurd z Z2)
theorem N7 {C : Addr} {dx : Option Addr} {t0 T : Addr} {a1 a2 a3 a4 a5 : Value} : ({ bI C dx #[.ref t0, a1, a2, a3, a4, a5] with data := .fields ((#[.ref t0, a1, a2, a3, a4, a5] : Array Value).setIfInBounds 1 (.ref T)) } : Obj) = bI C dx #[.ref t0, .ref T, a2, a3, a4, a5] := rfl
theorem Kc {old : Option Addr} {T : Addr} {h' : Heap} {t0 : Addr} {a2 a3 a4 a5 : Value} (hst : X.stack = X.env :: X.outer) (I : Inv X pins σ H1 s1) (os : s.os = s1.os) (bare : AllBare s.gens) (u : Un (frs X.stack) [] H1 H s1.heap s.heap) (hok : HOk X.prog X.w H s.heap) (hx : H x = some (ExO false x C dx)) (N : uw (frs (X.env :: X.outer)) x old s.heap h')
  (ex : h'.get? x = some (bI C dx #[.ref t0, .ref T, a2, a3, a4, a5])) (h2 : dx = none -> a2 = .none) (hT : s.heap.objs.size <= T) (hs : s1.heap.objs.size <= s.heap.objs.size) (tb : yf h' T) (hold : ∀ T0, old = some T0 -> H T0 = none /\ s1.heap.objs.size <= T0) : Rz X pins σ H1 s1 H x C dx T { s with heap := h' } where
 pre := I
 os := os
 bare := bare
 un := Fi u N hx (fun T0 e => (hold T0 e).2) fun b hb => .inl (by rw [hst]; exact hb)
 hok := by
  have fr : ∀ b ∈ frs (X.env :: X.outer), H b = none := fun b hb => by
   have hb : b ∈ frs X.stack := by rw [hst]; exact hb
   obtain ⟨_, o, ho, _⟩ := I.stack.mem hb
   exact u.free b o ho (I.stkFree b hb) Z2
  exact Fp hok N hx ⟨_, _, _, _, _, _, ex, h2⟩ fr fun T0 e => (hold T0 e).1
 at_ := hx
 fly := ⟨_, _, ex, rfl, rfl⟩
 tb := tb
 off := hok.fresh hT
 new := le_trans hs hT
theorem Gx {h : Heap} {t0 : Addr} {a1 a2 a3 a4 a5 v : Value} (e : h.get? x = some (bI C dx #[.ref t0, a1, a2, a3, a4, a5])) (hf : Fly h x v) : (#[.ref t0, a1, a2, a3, a4, a5] : Array Value)[1]? = some v := by
 obtain ⟨oe, vs, e2, hd, h1⟩ := hf
 rw [e] at e2
 cases e2
 cases (show Data.fields #[.ref t0, a1, a2, a3, a4, a5] = .fields vs from hd)
 exact h1
theorem qw {M : Model} {A : Around} {E : EV} {Q : Unit -> Shared -> Prop} (hA : A.frames = some X.stack) (hst : X.stack = X.env :: X.outer) (hfm : X.env.frame = some X.env.locals) (I : Inv X pins σ H1 s1) (os : s.os = s1.os) (bare : AllBare s.gens) (u : Un (frs X.stack) [] H1 H s1.heap s.heap) (hok : HOk X.prog X.w H s.heap)
  (hs : s1.heap.objs.size <= s.heap.objs.size) (hx : H x = some (ExO false x C dx)) (hf : Fly s.heap x .none \/ ∃ T0, Fly s.heap x (.ref T0) /\ yf s.heap T0 /\ H T0 = none /\ s1.heap.objs.size <= T0)
  (q : ∀ T s', Rz X pins σ H1 s1 H x C dx T s' -> Q () s') : wpAny M A (noteFrame (.ref x) X.env) (fun _ s' => wpAny M A (setFlight (.ref x) none) Q E s') E s := by
 obtain ⟨t0, a1, a2, a3, a4, a5, e, hfl⟩ := dm hok hx
 have fun2 : s.heap.FunFrames X.base (X.env :: X.outer) := by
  have f := (I.call' os u hok bare (fun b z => absurd z Z2)).stack
  rwa [hst] at f
 rcases hf with hf | ⟨T0, hf, hT0, hn, hz⟩
 ·refine zj (hA.trans (congrArg some hst)) fun2 hfm e rfl (Gx e hf) fun h' T N ex hT tb => q T _ ?_
  exact Kc hst I os bare u hok hx N (ex.trans (congrArg some N7)) hfl.2 hT hs tb fun T0 z => by cases z
 ·refine CN (hA.trans (congrArg some hst)) fun2 hfm e rfl (Gx e hf) hT0 (aB hx hn).symm fun h' T N ex hT tb => q T _ ?_
  exact Kc hst I os bare u hok hx N (ex.trans (congrArg some N7)) hfl.2 hT hs tb fun T1 z => by cases z; exact ⟨hn, hz⟩
theorem Rz.flight {M : Model} {A : Around} {E : EV} {Q : Unit -> Shared -> Prop} {T : Addr} (r : Rz X pins σ H1 s1 H x C dx T s) (q : ∀ s', Rz X pins σ H1 s1 H x C dx T s' -> Q () s') : wpAny M A (setFlight (.ref x) none) Q E s := by
 obtain ⟨oe, vs, e, hd, h1⟩ := id r.fly
 obtain ⟨oT, ts, hT, hdT, h3⟩ := id r.tb
 have hne : x ≠ T := aB r.at_ r.off
 refine wpAny_setFlight_none e hd h1 hT hdT (Array.getElem?_eq_some_iff.mp h3).1 (q _ ?_)
 have t1 := Heap.get?_update_self (h := s.heap) (Obj.mapFields (·.setIfInBounds 3 Value.none)) hT (by rw [Ea hdT]; exact qM rfl)
 have o1 : ∀ b, b ≠ T -> (s.heap.update T (Obj.mapFields (·.setIfInBounds 3 Value.none))).get? b = s.heap.get? b := fun b hb => Heap.get?_update_other _ _ (Ne.symm hb)
 rw [Ea hdT] at t1
 have hs3 := (Array.getElem?_eq_some_iff.mp h3).1
 generalize s.heap.update T (Obj.mapFields (·.setIfInBounds 3 Value.none)) = g at t1 o1
 have nt : ∀ b o, s1.heap.get? b = some o -> b ≠ T := fun b o z => ne_of_lt (lt_of_lt_of_le (Heap.lt_size z) r.new)
 refine ⟨r.pre, r.os, r.bare, ⟨fun b o z n hb he => (o1 b (nt b o z)).trans (r.un.keep b o z n hb he), fun b o z n hb he => ?_, r.un.free, fun b o z he => ?_, r.un.tups, r.un.frzs, r.un.tbls⟩, fun a o z => ?_, r.at_, ⟨oe, vs, (o1 x hne).trans e, hd, h1⟩, ⟨_, _, t1, rfl, by simp [hs3]⟩, r.off, r.new⟩
 ·obtain ⟨sl, w⟩ := r.un.slot b o z n hb he
  exact ⟨sl, (o1 b (nt b o z)).trans w⟩
 ·obtain ⟨o', w⟩ := r.un.there b o z he
  exact ⟨o', (o1 b (nt b o z)).trans w⟩
 ·refine (r.hok a o z).stay (fun b u hb w => ?_) (fun _ w => w) fun _ _ w => w
  refine (o1 b fun k => ?_).trans w
  subst k
  rcases hb with rfl | hb
  ·have := r.off; rw [z] at this; cases this
  ·have := r.off; rw [hb] at this; cases this
end
section
variable {P : Program} {w : World} {K : Frag} {mg : MG} {base : Heap} {N : List Str} {qual : Str} {scope : Scope} {f : Addr} {cd : Value} {A : Around} {outer : List Env} {s : Shared} {H : Hp} {E E1 : XK}
theorem leave1 {pins : OP} {σ : St} {H1 : Hp} {s1 : Shared} {x C : Addr} {dx : Option Addr} (I : Inv (jy (CX1 P w) P w K mg base N qual scope f cd A outer s H E) pins σ H1 s1) (hx : H1 x = some (ExO false x C dx)) (hf : Fly s1.heap x .none) (q : E (.ref x) none H1) :
  (jy (CX1 P w) P w K mg base N qual scope f cd A outer s H E).xe (.ref x) s1 := by
 show wpAny _ _ (leaving _ _) _ _ _
 unfold leaving
 refine wpAny_bind (qw (X := jy (CX1 P w) P w K mg base N qual scope f cd A outer s H E) I.ok.frames rfl rfl I rfl I.bare Un.refl I.hok (le_refl _) hx (.inl hf) fun T s' r => ?_)
 exact ⟨x, C, dx, T, H1, rfl, r.inv.os, r.bare, r.inv.base, r.hok, hx, r.fly, r.tb, r.off, le_trans I.sz r.new, q⟩
theorem Pn (hE : ∀ e H', E1 e none H' -> E e none H') : kh (CX1 P w) (jy (CX1 P w) P w K mg base N qual scope f cd A outer s H E) E1 := fun pins σ H1 s1 e s' I h => by
 obtain ⟨x, C, dx, T, H', rfl, os, bare, un, hok, hx, fl, tb, hn, hz, q⟩ := h
 show wpAny _ _ (leaving _ _) _ _ _
 unfold leaving
 have hs : s1.heap.objs.size <= s'.heap.objs.size := le_trans hz (le_of_lt (by obtain ⟨_, _, e, _⟩ := tb; exact Heap.lt_size e))
 refine wpAny_bind (qw (X := jy (CX1 P w) P w K mg base N qual scope f cd A outer s H E) I.ok.frames rfl rfl I os bare un hok hs hx (.inr ⟨T, fl, tb, hn, hz⟩) fun T2 s2 r => ?_)
 exact ⟨x, C, dx, T2, H', rfl, r.inv.os, r.bare, r.inv.base, r.hok, hx, r.fly, r.tb, r.off, le_trans I.sz r.new, hE _ _ q⟩
end
structure oG (X : Cx) (W : St -> XK) : Prop where
 made : ∀ {pins : OP} {σ : St} {H : Hp} {s : Shared} {x C : Addr} {dx : Option Addr}, Inv X pins σ H s -> H x = some (ExO false x C dx) -> Fly s.heap x .none -> W σ (.ref x) none H -> X.xe (.ref x) s
 came : ∀ {pins : OP} {σ : St} {H : Hp} {s s' : Shared} {e : Value}, Inv X pins σ H s -> CX1 X.prog X.w X.stack H s (W σ) e s' -> X.xe e s'
theorem bj {P : Program} {w : World} {K : Frag} {mg : MG} {base : Heap} {N : List Str} {qual : Str} {scope : Scope} {f : Addr} {cd : Value} {A : Around} {outer : List Env} {s : Shared} {H : Hp} {E : XK} :
  oG (jy (CX1 P w) P w K mg base N qual scope f cd A outer s H E) (fun _ => E) :=
 ⟨fun I hx hf q => leave1 I hx hf q, fun {pins σ H1 s1 s' e} I h => Pn (fun _ _ q => q) pins σ H1 s1 e s' I h⟩
section
variable {X : Cx} {W : St -> XK} {k : Nat} {f C : Addr} {fd : FuncData} {ps : List Str} {sp : Sp} {x : Str} {st : Stmt} {p pos rpos : Pos} {e : Expr} {es : List Expr} {t : TA}
def Lj (sp : Sp) (W : St -> XK) (t : TA) : TE := fun σ H Q => t σ H fun vs H1 => sp vs H1 Q (W σ)
theorem HD {pins : OP} {σ : St} {H : Hp} {s : Shared} {Q : VK} {us : List Value} {vs : List V} (hw : oG X W) (F : aJ X.prog X.w X.K X.mg X.base (CX1 X.prog X.w) k f fd ps sp) (hr : aX k X.A) (hb : Binds X.K fd ps [])
  (I : Inv X pins σ H s) (r : Vals vs us) (h : sp vs H Q (W σ)) : wpAny (model X.prog X.w) X.A (call (.ref f) us) (EP X pins σ Q) X.xe s := by
 have hl : (us ++ []).length = ps.length := by rw [append_nil, <- r.length]; exact F.len _ _ _ _ h
 refine wpAny_call (codeAny_mono (F.run X.A X.stack s H ⟨us, []⟩ (us ++ []) vs Q (W σ) hr I.env0 (hb s us I.kIn hl) (by rw [append_nil]; exact r) h) fun r s' hq => ?_)
 cases r with
 | error e => exact hw.came I hq
 | ok fl =>
  cases fl with
  | ret u => exact I.after hq
  | next => exact False.elim hq
  | brk => exact False.elim hq
  | cont => exact False.elim hq
theorem eG (A : FnAt X.K X.mg x st ps f fd) (F : aJ X.prog X.w X.K X.mg X.base (CX1 X.prog X.w) k f fd ps sp) (hr : aX k X.A) (hw : oG X W) (ha : PA X (e :: es) t) (hg : Gl X x := by rfl) (hdb : (x == ("__debug__" : Str)) = false := by decide) (he : starEach (e :: es) X.env = (false, eval e X.env) :: starEach es X.env := by rfl) (hpl : (backTo pos (starEach es X.env)).any (·.1) = false := by rfl) :
  PE X (.Call (.Name x p) (e :: es) [] pos) (Lj sp W t) := by
 intro pins s σ H Q I h
 refine wpAny_Call_Name_kw (dq I hg A.m ?_ hdb)
 refine callWith_K (h₀ := X.base) I.ok.mod.kin A.F.kp (thn (ha pos pins s σ H _ I h) fun us s1 ⟨vs, H1, I1, r, q⟩ => ⟨I1.kIn, ?_⟩) he hpl
 exact HD hw F hr A.b I1 r q
end
section
variable {P : Program} {w : World} {K : Frag} {mg : MG} {base : Heap}
theorem Fun.okX {x qual : Str} {st : Stmt} {f : Addr} {fd : FuncData} {N ps : List Str} {k : Nat} {sp : Sp} (F : Fun K x qual st f fd) (S : aG N ps (az st)) (len : ∀ vs H Q E, sp vs H Q E -> vs.length = ps.length)
  (hbody : ∀ (cdv : Value) (A : Around) (outer : List Env) (s : Shared) (H : Hp) (vs : List V) (Q : VK) (E : XK), aX k (A.deeper (envOfC qual (az st) s.heap.objs.size f cdv)) -> sp vs H Q E ->
   ∃ t, PSs (jy (CX1 P w) P w K mg base N qual (az st) f cdv A outer s H E) (bQ st) t /\ t { nx := fun _ H' => Q .non H', rt := Q } (start N vs) H) : aJ P w K mg base (CX1 P w) (k + 1) f fd ps sp := by
 obtain ⟨oc, od, kV, doc, pm, an, cdv, ct, osl, rfl, lk, hcd⟩ := F.ex
 exact JV lk hcd S len fun A outer s H vs Q E hr h => hbody cdv A outer s H vs Q E hr h
end
section
variable {M : Model} {A : Around} {E : EV} {s : Shared} {env : Env}
theorem BL {x : Sem Value} {Q : Flow -> Shared -> Prop} (hh : A.handled = none)
  (h : wpAny M A x (fun v s1 => ∃ e C dx vs, ∃ nm q N bs bm hdct sn sub ab col dd k0 k1 k2 k3 k5 nid, v = .ref e /\ s1.heap.get? C = some (excClassObj nm q C N bs bm hdct sn sub ab col dd k0 k1 k2 k3 k5 nid) /\ bm.contains (.type "BaseException") = true /\ s1.heap.get? e = some (bI C dx vs) /\ vs[1]? = some .none /\ E (.ref e) s1) E s) :
  wpAny M A (raiseStmt env (some x) none) Q E s := by
 unfold raiseStmt
 refine wpAny_bind (thn h fun v s1 hz => ?_)
 obtain ⟨e, C, dx, vs, nm, q, N, bs, bm, hdct, sn, sub, ab, col, dd, k0, k1, k2, k3, k5, nid, rfl, hC, hb, he, h1, hE⟩ := hz
 obtain ⟨hp, g, d, t, os⟩ := s1
 refine wpAny_bind (wpAny_pure ?_)
 have nt : ∀ {Q2 : Bool -> Shared -> Prop}, Q2 false ⟨hp, g, d, t, os⟩ -> wpAny M A (isType (.ref e)) Q2 E ⟨hp, g, d, t, os⟩ := fun {Q2} h2 => by
  unfold isType loadHead
  exact wpAny_bind (wpAny_loadPart he (wpAny_pure h2))
 refine wpAny_bind (wpAny_holding ?_)
 unfold excFromValue isExcClass isInstance
 refine wpAny_bind (wpAny_bind (nt ?_))
 rw [if_neg Z0]
 refine wpAny_pure ?_
 rw [if_neg Z0]
 refine wpAny_bind (wpAny_bind (wpAny_typeOf_ref he (wpAny_isSubtype_exc hC ?_)))
 rw [contains_cons, hb, Bool.or_true, if_pos rfl]
 refine wpAny_pure ?_
 dsimp only
 refine wpAny_bind (nt ?_)
 rw [if_neg Z0]
 unfold raisedInstance
 refine wpAny_bind (wpAny_bind (wpAny_typeOf_ref he (wpAny_bind (wpAny_typeOf_ref hC ?_))))
 rw [if_pos (show ((excClassObj nm q C N bs bm hdct sn sub ab col dd k0 k1 k2 k3 k5 nid).cls == Value.type "type") = true from by rfl)]
 refine wpAny_pure ?_
 unfold setFlight
 refine wpAny_bind (wpAny_bind (wpAny_field he rfl h1 ?_))
 rw [if_neg Z0]
 exact wpAny_pure (wpAny_raiseNew_none hh hE)
end
theorem lY {h : Heap} {bm : List Value} (T : OwnTail h cA bm) : bm.contains (.type "BaseException") = true := by
 induction T with
 | base => rfl
 | own _ _ _ _ ih => rw [contains_cons, ih, Bool.or_true]
section
variable {X : Cx} {W : St -> XK} {pos : Pos} {e : Expr} {te : TE}
theorem Inv.flown {pins : OP} {σ : St} {H : Hp} {s : Shared} {x C : Addr} {dx : Option Addr} {fl : Bool} (I : Inv X pins σ H s) (hx : H x = some (ExO fl x C dx)) : Inv X pins σ (upd H x (ExO false x C dx)) s := by
 obtain ⟨t0, a1, a2, a3, a4, a5, e, hfl⟩ := dm I.hok hx
 exact I.write (x := x) (e := x) (o := ExO false x C dx) (t' := s.toks) (h' := s.heap) (by rw [hx]; exact True.intro) (.inl rfl) (fun b o hb q => q) ⟨_, e⟩ (mL e ⟨fun z => (by cases z), hfl.2⟩)
def KR (K : Frag) (W : St -> XK) (te : TE) : TS := fun _ σ H => te σ H fun v H1 => ∃ x C dx, v = .ref x /\ H1 x = some (ExO true x C dx) /\ ExC K C /\ W σ (.ref x) none (upd H1 x (ExO false x C dx))
theorem c7 (hw : oG X W) (hc : X.calm = true) (he : PE X e te) : QS X (.Raise (some e) none pos) (KR X.K W te) := ⟨by
 intro pins s σ H D I h
 rw [arm_exec_Raise]
 refine wpAny_bind (wpAny_standAt ?_)
 refine BL (x := do let v <- eval e X.env; standAt pos; pure v) (I.ok.hd hc) (wpAny_bind (thn (he pins s σ H _ I h) fun u s1 hz => ?_))
 obtain ⟨vv, H1, I1, r, x, C, dx, rfl, hx, c, q⟩ := hz
 obtain rfl : u = Value.ref x := r
 obtain ⟨nm, q', N, bs, bm, hdct, sn, sub, ab, col, dd, k0, k1, k2, k3, k5, hcl, hT⟩ := c
 obtain ⟨t0, a1, a2, a3, a4, a5, e1, hn⟩ := dm I1.hok hx
 have h1 : (#[.ref t0, a1, a2, a3, a4, a5] : Array Value)[1]? = some .none := by rw [hn.1 rfl]; rfl
 refine wpAny_bind (wpAny_standAt (wpAny_pure ⟨x, C, dx, _, nm, q', N, bs, bm, hdct, sn, sub, ab, col, dd, k0, k1, k2, k3, k5, _, rfl, I1.kIn _ _ hcl, lY (hT _ I1.kIn), e1, h1, ?_⟩))
 exact hw.made (I1.flown hx) ak ⟨_, _, e1, rfl, h1⟩ q⟩
end
theorem sub_tt : isSubtype (.type "type") (.type "tuple") = pure false := by kernel_rfl
section
variable {M : Model} {A : Around} {E : EV} {s : Shared}
theorem ux {x C D : Addr} {oe : Obj} {nm q nm' q' : Str} {N N' : Addr} {bs bm bs' bm' : List Value} {hdct hdct' : Bool} {sn sn' : List Str} {sub sub' : List Value} {ab ab' : Bool} {col col' : Option Bool} {dd dd' : Option Addr} {k0 k1 k2 k3 k5 k0' k1' k2' k3' k5' : Option Value} {nid nid' : String} {Q : Bool -> Shared -> Prop}
  (hC : s.heap.get? C = some (excClassObj nm q C N bs bm hdct sn sub ab col dd k0 k1 k2 k3 k5 nid)) (hD : s.heap.get? D = some (excClassObj nm' q' D N' bs' bm' hdct' sn' sub' ab' col' dd' k0' k1' k2' k3' k5' nid'))
  (he : s.heap.get? x = some oe) (hc : oe.cls = .ref C) (hb : bm'.contains (.type "BaseException") = true) (h : Q ((Value.ref C :: bm).contains (.ref D)) s) : wpAny M A (excMatches (.ref x) (.ref D)) Q E s := by
 obtain ⟨hh, g, d, t, os⟩ := s
 unfold excMatches isInstance
 refine wpAny_bind (wpAny_bind (wpAny_typeOf_ref hD ?_))
 show wpAny M A (isSubtype (.type "type") (.type "tuple")) _ E _
 rw [sub_tt]
 refine wpAny_pure ?_
 rw [if_neg Z0]
 refine wpAny_bind (wpAny_pure ?_)
 have exc : ∀ {Q2 : Bool -> Shared -> Prop}, Q2 true ⟨hh, g, d, t, os⟩ -> wpAny M A (isExcClass (.ref D)) Q2 E ⟨hh, g, d, t, os⟩ := fun {Q2} h2 => by
  unfold isExcClass isType loadHead
  refine wpAny_bind (wpAny_bind (wpAny_loadPart hD (wpAny_pure ?_)))
  rw [if_pos rfl]
  refine wpAny_isSubtype_exc hD ?_
  rw [contains_cons, hb, Bool.or_true]
  exact h2
 dsimp only
 rw [forIn_cons]
 refine wpAny_bind (wpAny_bind (wpAny_bind (exc ?_)))
 rw [if_neg Z0]
 refine wpAny_pure ?_
 dsimp only
 rw [List.forIn_nil]
 refine wpAny_pure ?_
 refine wpAny_bind (wpAny_typeOf_ref he ?_)
 rw [hc, forIn_cons]
 refine wpAny_bind (wpAny_bind (wpAny_bind (wpAny_isSubtype_exc hC ?_)))
 by_cases k : (Value.ref C :: bm).contains (.ref D) = true
 ·rw [if_pos k]
  rw [k] at h
  exact wpAny_pure (wpAny_pure (wpAny_pure h))
 ·have k2 : (Value.ref C :: bm).contains (.ref D) = false := by simpa using k
  rw [if_neg k]
  rw [k2] at h
  refine wpAny_pure ?_
  dsimp only
  rw [List.forIn_nil]
  exact wpAny_pure (wpAny_pure h)
end
section
variable {X : Cx} {pins : OP} {σ : St} {H : Hp} {s : Shared}
theorem Mt {M : Model} {A : Around} {E : EV} {i : Nat} {x : Str} {v : V} {Q : Unit -> Shared -> Prop} (I : Inv X pins σ H s) (hN : X.N.Nodup) (hi : X.N[i]? = some x) (hk : X.env.scope.names.lookup x = some .local) (hσ : σ[i]? = some (some v))
  (h : ∀ s', Inv X pins (σ.set i none) H s' -> Q () s') : wpAny M A (unbindName X.env x) Q E s := by
 obtain ⟨m, hn, hl⟩ := id I.loc
 have hcls : (X.env.scope.kind == .class || (X.env.scope.kind == .module && X.env.locals != X.env.globals)) = false := by rw [I.ok.kind]; rfl
 have hiσ : i < σ.length := by rw [I.len]; exact (List.getElem?_eq_some_iff.mp hi).1
 have cne := I.cne
 obtain ⟨u, _, hu⟩ := hl i x v hi hσ (.inl hk)
 have hm : m x = some u := by
  rcases hu with ⟨_, z⟩ | ⟨z, _⟩
  ·exact z
  ·have hk2 : X.env.kindOf x = some .local := hk
   rw [hk2] at z
   rcases z with z | z <;> cases z
 obtain ⟨oL, _, _, hoL, _⟩ := id hn
 refine wpAny_unbindName_local hk hn hm hcls (fun h' w hn' hs => ?_)
 refine h _ ⟨I.ok, I.os, I.bare, ⟨fun b o e n hb hx => ?_, fun b o e n hb hx => ?_, I.base.free, fun b o e hx => ?_, I.base.tups, I.base.frzs, I.base.tbls⟩, ⟨_, hn', fun j y v' e1 e2 e3 => ?_⟩, fun y c e => ?_, I.free, I.freeC, fun p hp => ?_, fun b ob e => ?_, by simpa using I.len⟩
 ·exact (hs.2 b (ne_of_lt (lt_of_lt_of_le (Heap.lt_size e) I.ok.above))).trans (I.base.keep b o e n hb hx)
 ·obtain ⟨sl, e1⟩ := I.base.slot b o e n hb hx
  exact ⟨sl, (hs.2 b (ne_of_lt (lt_of_lt_of_le (Heap.lt_size e) I.ok.above))).trans e1⟩
 ·obtain ⟨o', e1⟩ := I.base.there b o e hx
  exact ⟨o', (hs.2 b (ne_of_lt (lt_of_lt_of_le (Heap.lt_size e) I.ok.above))).trans e1⟩
 ·by_cases hj : j = i
  ·subst hj
   rw [getElem?_set_self hiσ] at e2
   cases e2
  ·rw [getElem?_set_ne (Ne.symm hj)] at e2
   obtain ⟨u', r', q⟩ := hl j y v' e1 e2 e3
   refine ⟨u', r', ?_⟩
   rcases q with ⟨k, e⟩ | ⟨k, c, e, z⟩
   ·refine .inl ⟨k, ?_⟩
    have : y ≠ x := fun e => hj (rK hN e1 (e ▸ hi))
    simp [this, e]
   ·exact .inr ⟨k, c, e, z.sameBut hs (cne y c e)⟩
 ·obtain ⟨w', z⟩ := I.cell y c e
  exact ⟨w', z.sameBut hs (cne y c e)⟩
 ·obtain ⟨e, n, ne, nf, d⟩ := I.pin p hp
  exact ⟨(hs.2 p.1 ne).trans e, n, ne, nf, d⟩
 ·refine (I.hok b ob e).stay (fun c w' hc q => (hs.2 c ?_).trans q) (fun _ q => q) fun _ _ q => q
  rintro rfl
  rcases hc with rfl | hc
  ·rw [I.free] at e; cases e
  ·rw [I.free] at hc; cases hc
theorem qJ {M : Model} {A : Around} {E : EV} {i : Nat} {x : Str} {pos : Pos} {Q : Unit -> Shared -> Prop} (I : Inv X pins σ H s) (hN : X.N.Nodup) (hi : X.N[i]? = some x) (hk : X.env.scope.names.lookup x = some .local)
  (h : ∀ s', Inv X pins (σ.set i none) H s' -> Q () s') : wpAny M A (do bindName X.env x Value.none; unbindBehindTheSuite X.env x pos) Q E s := by
 have hiσ : i < σ.length := by rw [I.len]; exact (List.getElem?_eq_some_iff.mp hi).1
 refine wpAny_bind (wpAny_bindName (jw I hN hi (.inl hk) (v := V.non) rfl (fun s' I' => ?_) (.inr hk)))
 unfold unbindBehindTheSuite
 refine wpAny_onRaise (Mt I' hN hi hk (getElem?_set_self hiσ) fun s2 I2 => ?_)
 rw [set_set] at I2
 exact h s2 I2
end
abbrev Cx.tryc (X : Cx) (pins : OP) (E : EV) : Cx := { X with xe := E, pn := X.pn ++ pins }
abbrev Cx.hand (X : Cx) (x : Addr) (pins : OP) (E : EV) : Cx := { X with A := X.A.mark (some (.ref x)), calm := false, xe := E, pn := X.pn ++ pins }
section
variable {X : Cx} {pins pins' : OP} {σ : St} {H : Hp} {s : Shared} {E : EV} {x : Addr}
theorem Inv.tryc (I : Inv X pins σ H s) : Inv (X.tryc pins E) [] σ H s :=
 ⟨⟨I.ok.mod, I.ok.kind, I.ok.glob, I.ok.blt, I.ok.above, I.ok.inj, I.ok.has, I.ok.cab, I.ok.hd, I.ok.frames, I.ok.stk, I.ok.exf, I.ok.bs, I.ok.bsz, I.ok.noex, I.ok.exfs, I.ok.funs, I.ok.frf⟩, I.os, I.bare, I.base, I.loc, I.cell, I.free, I.freeC, fun p hp => I.pin p (by simpa using hp), I.hok, I.len⟩
theorem Inv.untry (I : Inv (X.tryc pins E) pins' σ H s) : Inv X pins σ H s :=
 ⟨⟨I.ok.mod, I.ok.kind, I.ok.glob, I.ok.blt, I.ok.above, I.ok.inj, I.ok.has, I.ok.cab, I.ok.hd, I.ok.frames, I.ok.stk, I.ok.exf, I.ok.bs, I.ok.bsz, I.ok.noex, I.ok.exfs, I.ok.funs, I.ok.frf⟩, I.os, I.bare, I.base, I.loc, I.cell, I.free, I.freeC, fun p hp => I.pin p (mem_append_left _ hp), I.hok, I.len⟩
theorem Inv.hand (I : Inv X pins σ H s) : Inv (X.hand x pins E) [] σ H s :=
 ⟨⟨I.ok.mod, I.ok.kind, I.ok.glob, I.ok.blt, I.ok.above, I.ok.inj, I.ok.has, I.ok.cab, (fun z => by cases z), I.ok.frames, I.ok.stk, I.ok.exf, I.ok.bs, I.ok.bsz, I.ok.noex, I.ok.exfs, I.ok.funs, I.ok.frf⟩, I.os, I.bare, I.base, I.loc, I.cell, I.free, I.freeC, fun p hp => I.pin p (by simpa using hp), I.hok, I.len⟩
theorem Inv.unhand (ok : X.Ok) (I : Inv (X.hand x pins E) pins' σ H s) : Inv X pins σ H s :=
 ⟨ok, I.os, I.bare, I.base, I.loc, I.cell, I.free, I.freeC, fun p hp => I.pin p (mem_append_left _ hp), I.hok, I.len⟩
end
def Sub (K : Frag) (C D : Addr) : Prop := ∃ nm q N bs bm hdct sn sub ab col dd k0 k1 k2 k3 k5 nid, K.lookup C = some (excClassObj nm q C N bs bm hdct sn sub ab col dd k0 k1 k2 k3 k5 nid) /\ (Value.ref C :: bm).contains (.ref D) = true
def Ends.off (En : Ends) (i : Nat) : Ends := { nx := fun σ H => En.nx (σ.set i none) H, rt := En.rt, bk := fun σ H => En.bk (σ.set i none) H, ct := fun σ H => En.ct (σ.set i none) H }
section
variable {X : Cx} {pins : OP} {σ : St} {H0 H1 : Hp} {s0 s2 : Shared} {x C D T : Addr} {dx : Option Addr} {cx n : Str} {i : Nat} {np hpos pos : Pos} {b₀ : Stmt} {suite body orelse : List Stmt} {rest : List ExceptHandler} {ts to : TS} {En : Ends} {E : EV}
theorem Rz.as {C2 : Addr} {dx2 : Option Addr} (r : Rz X pins σ H0 s0 H1 x C dx T s2) (h : H1 x = some (ExO false x C2 dx2)) : Rz X pins σ H0 s0 H1 x C2 dx2 T s2 := ⟨r.pre, r.os, r.bare, r.un, r.hok, h, r.fly, r.tb, r.off, r.new⟩
theorem JH (r : Rz X pins σ H0 s0 H1 x C dx T s2) (sub : Sub X.K C D) (exD : ExC X.K D) (hg : Gl X cx) (hm : X.mg cx = some (.ref D)) (hdb : (cx == ("__debug__" : Str)) = false) (hN : X.N.Nodup) (hi : X.N[i]? = some n) (hk : X.env.scope.names.lookup n = some .local)
  (hs : QSs (X.hand x pins fun _ _ => False) (b₀ :: suite) ts) (q : ts (En.off i) (σ.set i (some (.ref x))) H1) :
  wpAny (model X.prog X.w) X.A (handleBy (.ref x) X.env (.ExceptHandler (some (.Name cx np)) (some n) (b₀ :: suite) hpos :: rest)) (SP X pins En) E s2 := by
 have Ih := r.inv.hand (x := x) (E := fun _ _ => False)
 refine wpAny_handleBy_cons (codeAny_handlers_test (dq Ih hg hm ?_ hdb)) Z7
 obtain ⟨nm, q', N, bs, bm, hdct, sn, sb, ab, col, dd, k0, k1, k2, k3, k5, hcl, hT⟩ := exD
 obtain ⟨nm2, q2, N2, bs2, bm2, hdct2, sn2, sb2, ab2, col2, dd2, j0, j1, j2, j3, j5, nid, hcl2, hcon⟩ := sub
 obtain ⟨t0, a1, a2, a3, a4, a5, e, _⟩ := dm r.hok r.at_
 refine ux (r.inv.kIn _ _ hcl2) (r.inv.kIn _ _ hcl) e rfl (lY (hT _ r.inv.kIn)) ?_
 rw [hcon]
 show codeAny _ _ (Code.handlers _ [ExceptHandler.ExceptHandler none (some n) (b₀ :: suite) hpos] _) _ _
 refine codeAny_handlers_suite_as (r.flight fun s3 r3 => ?_)
 refine jw (X := X.hand x pins fun _ _ => False) (pins := []) r3.inv.hand hN hi (.inl hk) (v := V.ref x) rfl (fun s4 I4 => ?_) (.inr hk)
 refine wpAny_mono (hs.h [] s4 _ _ _ I4 q) (fun f s5 q5 => ?_) (fun e s5 z => z.elim)
 cases f with
 | next => obtain ⟨σ', H', I', q'⟩ := q5; exact qJ (I'.unhand r.inv.ok) hN hi hk fun s6 I6 => ⟨_, _, I6, q'⟩
 | brk => obtain ⟨σ', H', I', q'⟩ := q5; exact qJ (I'.unhand r.inv.ok) hN hi hk fun s6 I6 => ⟨_, _, I6, q'⟩
 | cont => obtain ⟨σ', H', I', q'⟩ := q5; exact qJ (I'.unhand r.inv.ok) hN hi hk fun s6 I6 => ⟨_, _, I6, q'⟩
 | ret u => obtain ⟨v, σ', H', I', rv, q'⟩ := q5; exact qJ (I'.unhand r.inv.ok) hN hi hk fun s6 I6 => ⟨v, _, _, I6, rv, q'⟩
abbrev rF (X : Cx) (pins : OP) (hs : List ExceptHandler) (En : Ends) : Value -> Shared -> Prop := fun e s1 => wpAny (model X.prog X.w) X.A (noteFrame e X.env) (fun _ s2 => wpAny (model X.prog X.w) X.A (setFlight e none) (fun _ s3 => wpAny (model X.prog X.w) X.A (handleBy e X.env hs) (SP X pins En) X.xe s3) X.xe s2) X.xe s1
theorem oK {hs : List ExceptHandler} {W : St -> XK} (hst : X.stack = X.env :: X.outer) (hfm : X.env.frame = some X.env.locals)
  (h : ∀ {σ : St} {H0 H1 : Hp} {s0 s2 : Shared} {x C T : Addr} {dx : Option Addr}, Rz X pins σ H0 s0 H1 x C dx T s2 -> W σ (.ref x) none H1 -> wpAny (model X.prog X.w) X.A (handleBy (.ref x) X.env hs) (SP X pins En) X.xe s2) : oG (X.tryc pins (rF X pins hs En)) W where
 made := fun {pins' σ H s x C dx} I hx hf q => qw (X := X) I.ok.frames hst hfm I.untry rfl I.bare Un.refl I.hok (le_refl _) hx (.inl hf) fun T s' r => h r q
 came := fun {pins' σ H s s' e} I z => by
  obtain ⟨x, C, dx, T, H', rfl, os, bare, un, hok, hx, fl, tb, hn, hz, q⟩ := z
  have hs : s.heap.objs.size <= s'.heap.objs.size := le_trans hz (le_of_lt (by obtain ⟨_, _, e, _⟩ := tb; exact Heap.lt_size e))
  exact qw (X := X) I.ok.frames hst hfm I.untry os bare un hok hs hx (.inr ⟨T, fl, tb, hn, hz⟩) fun T2 s2 r => h r q
def MF (K : Frag) (D : Addr) (i : Nat) (tb : (St -> XK) -> TS) (to ts : TS) : TS := fun En σ H =>
 tb (fun σ1 e _ H1 => ∃ x C dx, e = .ref x /\ H1 x = some (ExO false x C dx) /\ Sub K C D /\ ts (En.off i) (σ1.set i (some (.ref x))) H1) { En with nx := fun σ2 H2 => to En σ2 H2 } σ H
theorem Gu {hs : List ExceptHandler} {h₀ : ExceptHandler} {W : St -> XK} {tb : (St -> XK) -> TS} {s : Shared} {H : Hp} (hw : oG (X.tryc pins (rF X pins (h₀ :: hs) En)) W) (hb : QSs (X.tryc pins (rF X pins (h₀ :: hs) En)) body (tb W)) (ho : QSs X orelse to) (I : Inv X pins σ H s)
  (h : tb W { En with nx := fun σ2 H2 => to En σ2 H2 } σ H) : wpAny (model X.prog X.w) X.A (exec (.Try body (h₀ :: hs) orelse [] pos) X.env) (SP X pins En) X.xe s := by
 refine wpAny_Try_except (wpAny_mono (hb.h [] s σ H _ I.tryc h) (fun f s1 q => ?_) (fun e s1 q => q))
 cases f with
 | next => obtain ⟨σ', H', I', q'⟩ := q; exact ho.h pins s1 σ' H' En I'.untry q'
 | brk => obtain ⟨σ', H', I', q'⟩ := q; exact ⟨_, _, I'.untry, q'⟩
 | cont => obtain ⟨σ', H', I', q'⟩ := q; exact ⟨_, _, I'.untry, q'⟩
 | ret u => obtain ⟨v, σ', H', I', rv, q'⟩ := q; exact ⟨v, _, _, I'.untry, rv, q'⟩
theorem DQ {tb : (St -> XK) -> TS} (exD : ExC X.K D) (hm : X.mg cx = some (.ref D)) (hN : X.N.Nodup) (hi : X.N[i]? = some n) (hk : X.env.scope.names.lookup n = some .local) (hst : X.stack = X.env :: X.outer) (hfm : X.env.frame = some X.env.locals)
  (hb : ∀ pins E W, oG (X.tryc pins E) W -> QSs (X.tryc pins E) body (tb W)) (ho : QSs X orelse to) (hs : ∀ x pins, QSs (X.hand x pins fun _ _ => False) (b₀ :: suite) ts) (hg : Gl X cx := by rfl) (hdb : (cx == ("__debug__" : Str)) = false := by decide) :
  QS X (.Try body [.ExceptHandler (some (.Name cx np)) (some n) (b₀ :: suite) hpos] orelse [] pos) (MF X.K D i tb to ts) := ⟨by
 intro pins s σ H En I h
 refine Gu (tb := tb) (oK hst hfm fun {σ1 H0 H1 s0 s2 x C T dx} r q => ?_) (hb pins _ _ (oK hst hfm fun {σ1 H0 H1 s0 s2 x C T dx} r q => ?_)) ho I h
 all_goals
  obtain ⟨x2, C2, dx2, ex, hx2, sub, q2⟩ := q
  cases ex
  exact JH (r.as hx2) sub exD hg hm hdb hN hi hk (hs x pins) q2⟩
end
theorem tE : entryFor table "proto.unchain" = some Builtin.«proto.unchain» := entryFor_of_fast Z5
section
variable {P : Program} {w : World} {A : Around} {E : EV} {s : Shared} {env : Env}
theorem sJ {α : Type} {e d : Addr} {oe od : Obj} {ve vd : Array Value} {Q : α -> Shared -> Prop} (hh : A.handled = some (.ref d)) (hne : d ≠ e)
  (he : s.heap.get? e = some oe) (hde : oe.data = .fields ve) (h2e : 2 < ve.size) (hd : s.heap.get? d = some od) (hdd : od.data = .fields vd) (h2 : vd[2]? = some .none)
  (h : E (.ref e) { s with heap := s.heap.update e (Obj.mapFields (·.setIfInBounds 2 (.ref d))) }) : wpAny (model P w) A (raiseNew (.ref e) : Sem α) Q E s := by
 unfold raiseNew
 refine wpAny_bind (wpAny_handled ?_)
 rw [hh]
 dsimp only
 rw [if_pos (by simpa using hne)]
 refine wpAny_bind (wpAny_holding (wpAny_runValue (codeAny_builtin tE ?_)))
 unfold Builtin.«proto.unchain»
 dsimp only
 refine wpAny_bind (wpAny_field hd hdd h2 ?_)
 rw [if_pos Z3]
 refine wpAny_bind (wpAny_pure (wpAny_pure ?_))
 refine wpAny_bind (thn (wpAny_setField (i := 2) (x := .ref d) he hde h2e ?_ : wpAny _ _ (setField (.ref e) 2 (.ref d)) (fun _ s' => s' = { s with heap := s.heap.update e (Obj.mapFields (·.setIfInBounds 2 (.ref d))) }) _ s) fun _ s' z => ?_)
 ·rfl
 ·subst z
  exact wpAny_throw h
theorem yQ {x c : Sem Value} {d : Addr} {Q : Flow -> Shared -> Prop} (hh : A.handled = some (.ref d)) (hc : ∀ (s1 : Shared) {Q1 : EV}, Q1 .none s1 -> wpAny (model P w) A c Q1 E s1)
  (h : wpAny (model P w) A x (fun v s1 => ∃ e C dx t0 a1 a2 a3 a4 a5 od vd, ∃ nm q N bs bm hdct sn sub ab col dd k0 k1 k2 k3 k5 nid, v = .ref e /\ s1.heap.get? C = some (excClassObj nm q C N bs bm hdct sn sub ab col dd k0 k1 k2 k3 k5 nid) /\ bm.contains (.type "BaseException") = true /\ s1.heap.get? e = some (bI C dx #[.ref t0, a1, a2, a3, a4, a5]) /\ a1 = .none /\ d ≠ e /\ C ≠ e /\
   s1.heap.get? d = some od /\ od.data = .fields vd /\ vd[2]? = some .none /\ ∀ h', (∀ b o, b ≠ e -> s1.heap.get? b = some o -> h'.get? b = some o) -> (∀ b, b ≠ e -> h'.get? b = s1.heap.get? b) -> h'.get? e = some (bI C dx #[.ref t0, .none, .ref d, .none, .bool true, a5]) -> E (.ref e) { s1 with heap := h' }) E s) :
  wpAny (model P w) A (raiseStmt env (some x) (some c)) Q E s := by
 unfold raiseStmt
 refine wpAny_bind (thn h fun v s1 hz => ?_)
 obtain ⟨e, C, dx, t0, a1, a2, a3, a4, a5, od, vd, nm, q, N, bs, bm, hdct, sn, sub, ab, col, dd, k0, k1, k2, k3, k5, nid, rfl, hC, hb, he, rfl, hne, hCe, hd, hdd, h2, hE⟩ := hz
 obtain ⟨hp, g, dr, t, os⟩ := s1
 refine wpAny_bind (wpAny_holding (hc _ (wpAny_bind (wpAny_pure ?_))))
 have nt : ∀ {hp : Heap} {o : Obj} {vs : Array Value} {Q2 : Bool -> Shared -> Prop}, hp.get? e = some (bI C dx vs) -> Q2 false ⟨hp, g, dr, t, os⟩ -> wpAny (model P w) A (isType (.ref e)) Q2 E ⟨hp, g, dr, t, os⟩ := fun {hp o vs Q2} he h2 => by
  unfold isType loadHead
  exact wpAny_bind (wpAny_loadPart he (wpAny_pure h2))
 refine wpAny_bind (wpAny_holding ?_)
 unfold excFromValue isExcClass isInstance
 refine wpAny_bind (wpAny_bind (nt (o := od) he ?_))
 rw [if_neg Z0]
 refine wpAny_pure ?_
 rw [if_neg Z0]
 refine wpAny_bind (wpAny_bind (wpAny_typeOf_ref he (wpAny_isSubtype_exc hC ?_)))
 rw [contains_cons, hb, Bool.or_true, if_pos rfl]
 refine wpAny_pure ?_
 dsimp only
 rw [if_pos Z3]
 have u1 := Heap.get?_update_self (h := hp) (Obj.mapFields (·.setIfInBounds 3 Value.none)) he Z3
 have v1 : ∀ b, b ≠ e -> (hp.update e (Obj.mapFields (·.setIfInBounds 3 Value.none))).get? b = hp.get? b := fun b hb => Heap.get?_update_other _ _ (Ne.symm hb)
 refine wpAny_bind (wpAny_pure (wpAny_bind (wpAny_setField (i := 3) (x := .none) he rfl (show 3 < 6 by decide) ?_)))
 generalize hp.update e (Obj.mapFields (·.setIfInBounds 3 Value.none)) = hp1 at u1 v1
 have u2 := Heap.get?_update_self (h := hp1) (Obj.mapFields (·.setIfInBounds 4 (Value.bool true))) u1 Z3
 have v2 : ∀ b, b ≠ e -> (hp1.update e (Obj.mapFields (·.setIfInBounds 4 (Value.bool true)))).get? b = hp1.get? b := fun b hb => Heap.get?_update_other _ _ (Ne.symm hb)
 refine wpAny_bind (wpAny_setField (i := 4) (x := .bool true) u1 rfl (show 4 < 6 by decide) ?_)
 generalize hp1.update e (Obj.mapFields (·.setIfInBounds 4 (Value.bool true))) = hp2 at u2 v2
 replace u2 : hp2.get? e = some (bI C dx #[.ref t0, .none, a2, .none, .bool true, a5]) := u2
 have w2 : ∀ b, b ≠ e -> hp2.get? b = hp.get? b := fun b hb => (v2 b hb).trans (v1 b hb)
 have hC2 := (w2 C hCe).trans hC
 refine wpAny_bind (nt (o := od) u2 ?_)
 rw [if_neg Z0]
 unfold raisedInstance
 refine wpAny_bind (wpAny_bind (wpAny_typeOf_ref u2 (wpAny_bind (wpAny_typeOf_ref hC2 ?_))))
 rw [if_pos (show ((excClassObj nm q C N bs bm hdct sn sub ab col dd k0 k1 k2 k3 k5 nid).cls == Value.type "type") = true from by rfl)]
 refine wpAny_pure ?_
 unfold setFlight
 refine wpAny_bind (wpAny_bind (wpAny_field (x := .none) u2 rfl rfl ?_))
 rw [if_neg Z0]
 refine wpAny_pure ?_
 have u3 := Heap.get?_update_self (h := hp2) (Obj.mapFields (·.setIfInBounds 2 (Value.ref d))) u2 Z3
 have v3 : ∀ b, b ≠ e -> (hp2.update e (Obj.mapFields (·.setIfInBounds 2 (Value.ref d)))).get? b = hp2.get? b := fun b hb => Heap.get?_update_other _ _ (Ne.symm hb)
 refine sJ hh hne u2 rfl (show 2 < 6 by decide) ((w2 d hne).trans hd) hdd h2 (hE _ (fun b o hb q => ?_) (fun b hb => (v3 b hb).trans (w2 b hb)) u3)
 exact ((v3 b hb).trans (w2 b hb)).trans q
end
section
variable {X : Cx} {pins : OP} {σ : St} {H0 H1 : Hp} {s0 s2 : Shared} {x C D T d : Addr} {dx : Option Addr} {cx n : Str} {i : Nat} {np hpos pos cp : Pos} {ck : Nat} {e : Expr} {te : TE} {b₀ : Stmt} {suite body orelse : List Stmt} {rest : List ExceptHandler} {ts to : TS} {En : Ends} {W : St -> XK}
def Bb (K : Frag) (d : Addr) (W : St -> XK) (te : TE) : TS := fun _ σ H => te σ H fun v H1 => ∃ x C p Cd fd, v = .ref x /\ H1 x = some (ExO true x C (some p)) /\ ExC K C /\ d ≠ x /\ H1 d = some (ExO fd d Cd none) /\ W σ (.ref x) none (upd H1 x (ExO false x C (some p)))
theorem Cz (hw : oG X W) (hh : X.A.handled = some (.ref d)) (he : PE X e te) : QS X (.Raise (some e) (some (.Constant .none ck cp)) pos) (Bb X.K d W te) := ⟨by
 intro pins s σ H D I h
 rw [arm_exec_Raise]
 refine wpAny_bind (wpAny_standAt ?_)
 refine yQ (x := do let v <- eval e X.env; standAt pos; pure v) (c := do let v <- eval (.Constant .none ck cp) X.env; standAt pos; pure v) hh (fun s1 Q1 q1 => ?_) (wpAny_bind (thn (he pins s σ H _ I h) fun u s1 hz => ?_))
 ·exact wpAny_bind (Constant_none (wpAny_bind (wpAny_standAt (wpAny_pure q1))))
 obtain ⟨vv, H1, I1, r, x, C, p, Cd, fd, rfl, hx, c, hne, hd, q⟩ := hz
 obtain rfl : u = Value.ref x := r
 obtain ⟨nm, q', N, bs, bm, hdct, sn, sub, ab, col, dd, k0, k1, k2, k3, k5, hcl, hT⟩ := c
 obtain ⟨t0, a1, a2, a3, a4, a5, e1, hn⟩ := dm I1.hok hx
 obtain ⟨t0d, b1, b2, b3, b4, b5, e2, hnd⟩ := dm I1.hok hd
 have hC : C ≠ x := fun z => by
  have := I1.kIn _ _ hcl
  rw [z, e1] at this
  cases this
 refine wpAny_bind (wpAny_standAt (wpAny_pure ⟨x, C, some p, t0, a1, a2, a3, a4, a5, _, _, nm, q', N, bs, bm, hdct, sn, sub, ab, col, dd, k0, k1, k2, k3, k5, _, rfl, I1.kIn _ _ hcl, lY (hT _ I1.kIn), e1, hn.1 rfl, hne, hC, e2, rfl, by rw [hnd.2 rfl]; rfl, fun h' k k2 e3 => ?_⟩))
 obtain ⟨hp, g, dr, t, os⟩ := s1
 have I2 := I1.write (x := x) (e := x) (o := ExO false x C (some p)) (t' := t) (h' := h') (by rw [hx]; exact True.intro) (.inl rfl) (fun b o hb q => k b o hb q) ⟨_, e3⟩ (mL e3 ⟨fun z => (by cases z), fun z => (by cases z)⟩)
 exact hw.made I2 ak ⟨_, _, e3, rfl, rfl⟩ q⟩
theorem Cy (ok : X.Ok) (hw : oG X W) : oG (X.hand x pins X.xe) W where
 made := fun I hx hf q => hw.made (I.unhand ok) hx hf q
 came := fun I z => hw.came (I.unhand ok) z
theorem GC (hp : PassesOwnAt (model X.prog X.w) (X.A.mark (some (.ref x))) X.A X.env X.xe) (r : Rz X pins σ H0 s0 H1 x C dx T s2) (sub : Sub X.K C D) (exD : ExC X.K D) (hg : Gl X cx) (hm : X.mg cx = some (.ref D)) (hdb : (cx == ("__debug__" : Str)) = false)
  (hs : X.Ok -> QSs (X.hand x pins X.xe) (b₀ :: suite) ts) (q : ts En σ H1) :
  wpAny (model X.prog X.w) X.A (handleBy (.ref x) X.env (.ExceptHandler (some (.Name cx np)) none (b₀ :: suite) hpos :: rest)) (SP X pins En) X.xe s2 := by
 have Ih := r.inv.hand (x := x) (E := X.xe)
 refine wpAny_handleBy_cons (codeAny_handlers_test (dq Ih hg hm ?_ hdb)) Z7
 obtain ⟨nm, q', N, bs, bm, hdct, sn, sb, ab, col, dd, k0, k1, k2, k3, k5, hcl, hT⟩ := exD
 obtain ⟨nm2, q2, N2, bs2, bm2, hdct2, sn2, sb2, ab2, col2, dd2, j0, j1, j2, j3, j5, nid, hcl2, hcon⟩ := sub
 obtain ⟨t0, a1, a2, a3, a4, a5, e, _⟩ := dm r.hok r.at_
 refine ux (r.inv.kIn _ _ hcl2) (r.inv.kIn _ _ hcl) e rfl (lY (hT _ r.inv.kIn)) ?_
 rw [hcon]
 show codeAny _ _ (Code.handlers _ [ExceptHandler.ExceptHandler none none (b₀ :: suite) hpos] _) _ _
 refine codeAny_handlers_suite (r.flight fun s3 r3 => ?_)
 refine wpAny_mono ((hs r.inv.ok).h [] s3 _ _ _ r3.inv.hand q) (fun f s5 q5 => ?_) (fun e s5 z => ?_)
 ·cases f with
  | next => obtain ⟨σ', H', I', q'⟩ := q5; exact ⟨_, _, I'.unhand r.inv.ok, q'⟩
  | brk => obtain ⟨σ', H', I', q'⟩ := q5; exact ⟨_, _, I'.unhand r.inv.ok, q'⟩
  | cont => obtain ⟨σ', H', I', q'⟩ := q5; exact ⟨_, _, I'.unhand r.inv.ok, q'⟩
  | ret u => obtain ⟨v, σ', H', I', rv, q'⟩ := q5; exact ⟨v, _, _, I'.unhand r.inv.ok, rv, q'⟩
 ·exact hp _ _ z
def Pa (K : Frag) (D : Addr) (tb : (St -> XK) -> TS) (to : TS) (ts : Addr -> TS) : TS := fun En σ H =>
 tb (fun σ1 e _ H1 => ∃ x C dx, e = .ref x /\ H1 x = some (ExO false x C dx) /\ Sub K C D /\ ts x En σ1 H1) { En with nx := fun σ2 H2 => to En σ2 H2 } σ H
theorem Jy {tb : (St -> XK) -> TS} {ts : Addr -> TS} (hp : ∀ x : Addr, PassesOwnAt (model X.prog X.w) (X.A.mark (some (.ref x))) X.A X.env X.xe) (hw : oG X W) (exD : ExC X.K D) (hm : X.mg cx = some (.ref D)) (hst : X.stack = X.env :: X.outer) (hfm : X.env.frame = some X.env.locals)
  (hb : ∀ pins E W, oG (X.tryc pins E) W -> QSs (X.tryc pins E) body (tb W)) (ho : QSs X orelse to) (hs : ∀ x pins, oG (X.hand x pins X.xe) W -> QSs (X.hand x pins X.xe) (b₀ :: suite) (ts x)) (hg : Gl X cx := by rfl) (hdb : (cx == ("__debug__" : Str)) = false := by decide) :
  QS X (.Try body [.ExceptHandler (some (.Name cx np)) none (b₀ :: suite) hpos] orelse [] pos) (Pa X.K D tb to ts) := ⟨by
 intro pins s σ H En I h
 refine Gu (tb := tb) (oK hst hfm fun {σ1 H0 H1 s0 s2 x C T dx} r q => ?_) (hb pins _ _ (oK hst hfm fun {σ1 H0 H1 s0 s2 x C T dx} r q => ?_)) ho I h
 all_goals
  obtain ⟨x2, C2, dx2, ex, hx2, sub, q2⟩ := q
  cases ex
  exact GC (hp x) (r.as hx2) sub exD hg hm hdb (fun ok => hs x pins (Cy ok hw)) q2⟩
end
section
variable {X : Cx} {W : St -> XK} {k : Nat} {f C : Addr} {fd : FuncData} {ps : List Str} {sp : Sp} {m : Str} {p pos apos : Pos} {e o : Expr} {es : List Expr} {ta : TE} {t : TA}
end
section
variable {X : Cx} {W : St -> XK} {k : Nat} {f C : Addr} {fd : FuncData} {ps : List Str} {sp : Sp} {x : Str} {p p2 pos : Pos} {e stp : Expr} {es : List Expr} {te tf : TE} {tk : TO} {t : TA}
end
section
variable {prog : Program} {w : World} {A : Around} {E : EV} {s : Shared}
end
section
variable {X : Cx}
end
structure oW (P : Program) (w : World) (K : Frag) (mg : MG) (base : Heap) (k : Nat) (f : Addr) (fd : FuncData) (ps : List Str) (sp : Sp) : Prop where
 len : ∀ vs H Q E, sp vs H Q E -> vs.length = ps.length
 run : ∀ (A : Around) (x : Addr) (outer : List Env) (s : Shared) (H : Hp) (args : Args) (us : List Value) (vs : List V) (Q : VK) (E : XK), aX k A -> pA P w K mg base A outer s H -> BindsTo s fd args (ps.zip us) -> Vals vs us -> sp vs H Q E ->
  codeAny (model P w) (A.mark (some (.ref x))) (.call (.ref f) args) (CR CX0 outer P w H s Q E) s
section
variable {P : Program} {w : World} {K : Frag} {mg : MG} {base : Heap}
theorem Fun.okH {x qual : Str} {st : Stmt} {f : Addr} {fd : FuncData} {N ps : List Str} {k : Nat} {sp : Sp} (F : Fun K x qual st f fd) (S : aG N ps (az st)) (len : ∀ vs H Q E, sp vs H Q E -> vs.length = ps.length)
  (hbody : ∀ (cdv : Value) (A : Around) (outer : List Env) (s : Shared) (H : Hp) (vs : List V) (Q : VK) (E : XK) (y : Addr), aX k (A.deeper (envOfC qual (az st) s.heap.objs.size f cdv)) -> sp vs H Q E ->
   ∃ t, PSs ((jy CX0 P w K mg base N qual (az st) f cdv A outer s H E).hand y [] fun _ _ => False) (bQ st) t /\ t { nx := fun _ H' => Q .non H', rt := Q } (start N vs) H) : oW P w K mg base (k + 1) f fd ps sp := by
 obtain ⟨oc, od, kV, doc, pm, an, cdv, ct, osl, rfl, lk, hcd⟩ := F.ex
 refine ⟨len, fun A y outer s H args us vs Q E hr e0 hb r hsp => ?_⟩
 have hl := len _ _ _ _ hsp
 have KX : K.In s.heap := e0.mod.kin.keeps fun b o e => (e0.bs b o e).1
 have lim : s.heap.NoLimit := e0.mod.nolimit.keeps fun b o e => (e0.bs b o e).1
 have hkind : ∀ z ∈ ps.zip us, (az st).names.lookup z.1 = some .local \/ ((az st).names.lookup z.1 = some .cell /\ ((cellsFrom (s.heap.objs.size + 1) (az st).names []).lookup z.1).isSome = true) := fun ⟨n, v⟩ hy => by
  rcases S.par n (of_mem_zip hy).1 with q | q
  ·exact .inl q
  ·exact .inr ⟨q, cellsFrom_some _ _ _ (.inl q)⟩
 refine codeAny_call_function (A := A.mark (some (.ref y))) hr.depth (KX _ _ lk) rfl S.co S.gen rfl (codeRec_of KX hcd) (hb _ _ _ _ ?_)
 refine wpAny_newFunctionEnv_cells S.kind hkind fun env he s1 x => ?_
 subst he
 refine ⟨lim.keeps x.toInCall.keep, codeAny_func ?_⟩
 obtain ⟨t, ht, hq⟩ := hbody cdv A outer s H vs Q E y (hr.deeper _) hsp
 have I : Inv (jy CX0 P w K mg base N qual (az st) f cdv A outer s H E) [] (start N vs) H s1 := pD S hr.hd e0 hl r x
 refine wpAny_mono (ht [] s1 (start N vs) H _ I.hand hq) (fun fl s' hs => ?_) fun e s' hs => hs.elim
 have fin : ∀ {σ' : St} {H' : Hp} {v : V} {u : Value}, Inv ((jy CX0 P w K mg base N qual (az st) f cdv A outer s H E).hand y [] fun _ _ => False) [] σ' H' s' -> RelV v u -> Q v H' -> CE outer P w H s Q u s' :=
  fun {σ' H' v u} J rv q => ⟨v, H', J.os, J.bare, J.base, J.hok, rv, q⟩
 cases fl with
 | ret u =>
  obtain ⟨v, σ', H', J, rv, q⟩ := hs
  exact fin J rv q
 | next =>
  obtain ⟨σ', H', J, q⟩ := hs
  exact fin (v := V.non) (u := Value.none) J rfl q
 | brk =>
  obtain ⟨_, _, _, q⟩ := hs
  exact False.elim q
 | cont =>
  obtain ⟨_, _, _, q⟩ := hs
  exact False.elim q
end
section
variable {X : Cx} {k : Nat} {f y : Addr} {fd : FuncData} {ps : List Str} {sp : Sp} {x : Str} {st : Stmt} {p pos : Pos} {e : Expr} {es : List Expr} {t : TA} {pins0 : OP} {E0' : EV}
theorem Gi (A : FnAt X.K X.mg x st ps f fd) (F : oW X.prog X.w X.K X.mg X.base k f fd ps sp) (hr : aX k X.A) (ha : PA (X.hand y pins0 E0') (e :: es) t) (hg : Gl (X.hand y pins0 E0') x := by rfl) (hdb : (x == ("__debug__" : Str)) = false := by decide)
  (he : starEach (e :: es) X.env = (false, eval e X.env) :: starEach es X.env := by rfl) (hpl : (backTo pos (starEach es X.env)).any (·.1) = false := by rfl) :
  PE (X.hand y pins0 E0') (.Call (.Name x p) (e :: es) [] pos) (Gr sp [] E0 t) := by
 intro pins s σ H Q I h
 refine wpAny_Call_Name_kw (dq I hg A.m ?_ hdb)
 refine callWith_K (h₀ := X.base) I.ok.mod.kin A.F.kp (thn (ha pos pins s σ H _ I h) fun us s1 ⟨vs, H1, I1, r, q⟩ => ⟨I1.kIn, ?_⟩) he hpl
 have q : sp (vs ++ []) H1 Q E0 := q
 rw [append_nil] at q
 have hl : (us ++ []).length = ps.length := by rw [append_nil, <- r.length]; exact F.len _ _ _ _ q
 have e0 := I1.env0
 refine wpAny_call (codeAny_mono (F.run X.A y X.stack s1 H1 ⟨us, []⟩ (us ++ []) vs Q E0 hr ⟨e0.frames, e0.mod, e0.bs, e0.bsz, e0.funs, e0.frf, e0.hok, e0.bare⟩ (A.b s1 us I1.kIn hl) (by rw [append_nil]; exact r) q) fun r s' hq => ?_)
 cases r with
 | error e => exact hq.elim
 | ok fl =>
  cases fl with
  | ret u => exact I1.after hq
  | next => exact False.elim hq
  | brk => exact False.elim hq
  | cont => exact False.elim hq
end
section
variable {X : Cx} {W : St -> XK} {k : Nat} {f C : Addr} {fd : FuncData} {ps : List Str} {sp : Sp} {x : Str} {p pos : Pos} {e : Expr} {es : List Expr} {t : TA}
end
def Ae (K : Frag) : List V -> Hp -> VK -> Prop := fun xs H Q => ∃ (fl : Bool) (a C : Addr) (dx : Option Addr) (tp : Addr) (cs : List Addr) (b : Bool), xs = [.ref a, .ref tp] /\ H tp = some (.tup (cs.map V.ref)) /\ H a = some (ExO fl a C dx) /\ (∀ p, dx = some p -> ∃ fs, H p = some (XdO p fs)) /\ my K C /\ kitAny K (.ref C) (cs.map Value.ref) = some b /\ Q (.bl b) H
theorem Bu : ∀ {cs : List Addr} {us : List Value}, Vals (cs.map V.ref) us -> us = cs.map Value.ref
 | [], _, h => by cases h; rfl
 | c :: cs, _, h => by
  cases h with
  | cons r t =>
   have e1 := Bu t
   subst e1
   obtain rfl : _ = Value.ref c := r
   rfl
section
variable {X : Cx}
theorem yt : cX X (.builtin "isinstance") (Ae X.K) := by
 intro pins s σ H xs us Q I r h
 obtain ⟨fl, a, C, dx, tp, cs, b, rfl, ht, ea, ed, cl, k, q⟩ := h
 obtain ⟨u, u2, rfl, rx, ry⟩ := vals2 r
 obtain rfl : u = Value.ref a := rx
 obtain rfl : u2 = Value.ref tp := ry
 obtain ⟨_, its, rv, o, h1, h2, n, h3⟩ := (show cu X.prog X.w H s.heap tp (.tup (cs.map V.ref)) from I.hok tp _ ht)
 obtain rfl := Bu rv
 obtain ⟨t0, a1, a2, a3, a4, a5, hx, hfl⟩ := dm I.hok ea
 have J : ∃ ox od, PySem.W.InstAt s.heap a ox C od := by
  cases dx with
  | none => exact ⟨_, none, hx, rfl, rfl, True.intro⟩
  | some p =>
   obtain ⟨fs, d⟩ := ed p rfl
   obtain ⟨mA, hn, _⟩ := vG I.hok d
   obtain ⟨od, ho, _⟩ := lN hn
   exact ⟨_, some od, hx, rfl, rfl, ho⟩
 obtain ⟨c0, d0, dt, sl0⟩ := o
 simp only at h2 h3
 subst h2 h3
 exact kia_tup (yr cl.cls cl.ga cl.bx cl.nga cl.ob cl.fo) I.kIn J h1 k (fun z => nomatch z) fun tk => ⟨.bl b, H, I.tok tk, rfl, q⟩
theorem vY {K : Frag} (h : X.K = K) : cX X (.builtin "isinstance") (Ae K) := by subst h; exact yt
end
section
variable {X : Cx} {tg : Expr}
end
section
variable {X : Cx} {pins : OP} {σ : St} {H : Hp} {s : Shared}
end
end L2
namespace Kn
section
variable {α : Type}
theorem tQ : ∀ {zs : List α} {p q : α -> Bool}, (∀ x ∈ zs, p x = true -> q x = true) -> (zs.filter p).length <= (zs.filter q).length
 | [], _, _, _ => le_refl _
 | x :: zs, p, q, h => by
  have ih := tQ (zs := zs) (p := p) (q := q) fun y hy => h y (mem_cons_of_mem _ hy)
  rw [filter_cons, filter_cons]
  by_cases hp : p x = true
  ·rw [if_pos hp, if_pos (h x Z2 hp), length_cons, length_cons]; omega
  ·rw [if_neg hp]
   split
   ·rw [length_cons]; omega
   ·exact ih
theorem uo : ∀ {zs : List α} {p q : α -> Bool} {z : α}, (∀ x ∈ zs, p x = true -> q x = true) -> z ∈ zs -> q z = true -> p z = false -> (zs.filter p).length < (zs.filter q).length
 | [], _, _, _, _, hz, _, _ => by cases hz
 | x :: zs, p, q, z, h, hz, hq, hp => by
  have h' : ∀ y ∈ zs, p y = true -> q y = true := fun y hy => h y (mem_cons_of_mem _ hy)
  rw [filter_cons, filter_cons]
  by_cases e : x = z
  ·subst e
   rw [if_pos hq, if_neg (by rw [hp]; decide), length_cons]
   exact Nat.lt_succ_of_le (tQ h')
  ·have ih := uo h' ((mem_cons.mp hz).resolve_left (fun k => e k.symm)) hq hp
   by_cases hx : p x = true
   ·rw [if_pos hx, if_pos (h x Z2 hx), length_cons, length_cons]; omega
   ·rw [if_neg hx]
    split
    ·rw [length_cons]; omega
    ·exact ih
structure Kgr (zs : List α) (nb : α -> List α) (R : α -> α -> Prop) : Prop where
 nd : zs.Nodup
 cl : ∀ z ∈ zs, ∀ y ∈ nb z, y ∈ zs
 st : ∀ z y, y ∈ nb z -> R z y
 tr : ∀ x y z, R x y -> R y z -> R x z
open Classical in
noncomputable def knB (R : α -> α -> Prop) (z y : α) : Bool := decide (y = z \/ (R z y /\ R y z))
open Classical in
theorem uX {R : α -> α -> Prop} {z y : α} : knB R z y = true ↔ (y = z \/ (R z y /\ R y z)) := by unfold knB; exact decide_eq_true_iff
noncomputable def knot (zs : List α) (R : α -> α -> Prop) (z : α) : List α := zs.filter (knB R z)
theorem lK {zs : List α} {R : α -> α -> Prop} {z y : α} : y ∈ knot zs R z ↔ y ∈ zs /\ (y = z \/ (R z y /\ R y z)) := by
 unfold knot
 rw [mem_filter, uX]
theorem oX {zs : List α} {R : α -> α -> Prop} {z : α} (h : z ∈ zs) : z ∈ knot zs R z := lK.mpr ⟨h, .inl rfl⟩
theorem Hu {zs : List α} {nb : α -> List α} {R : α -> α -> Prop} (g : Kgr zs nb R) {z y : α} (h : y ∈ knot zs R z) : knot zs R y = knot zs R z := by
 obtain ⟨_, h⟩ := lK.mp h
 rcases h with rfl | ⟨h1, h2⟩
 ·rfl
 ·unfold knot
  refine List.filter_congr fun x _ => Bool.eq_iff_iff.mpr (uX.trans (Iff.trans ⟨fun k => ?_, fun k => ?_⟩ uX.symm))
  ·rcases k with rfl | ⟨k1, k2⟩
   ·exact .inr ⟨h1, h2⟩
   ·exact .inr ⟨g.tr _ _ _ h1 k1, g.tr _ _ _ k2 h2⟩
  ·rcases k with rfl | ⟨k1, k2⟩
   ·exact .inr ⟨h2, h1⟩
   ·exact .inr ⟨g.tr _ _ _ h2 k1, g.tr _ _ _ k2 h1⟩
open Classical in
noncomputable def isF (zs : List α) (R : α -> α -> Prop) (z : α) : Bool := decide ((knot zs R z).head? = some z)
noncomputable def Lg (zs : List α) (R : α -> α -> Prop) : List (List α) := (zs.filter (isF zs R)).map (knot zs R)
open Classical in
theorem JG {zs : List α} {R : α -> α -> Prop} {z : α} : isF zs R z = true ↔ (knot zs R z).head? = some z := by unfold isF; exact decide_eq_true_iff
theorem Fy {zs : List α} {nb : α -> List α} {R : α -> α -> Prop} (g : Kgr zs nb R) {z f : α} (h : (knot zs R z).head? = some f) : isF zs R f = true /\ knot zs R f = knot zs R z /\ f ∈ zs := by
 have hm : f ∈ knot zs R z := List.mem_of_mem_head? h
 have e := Hu g hm
 exact ⟨JG.mpr (by rw [e]; exact h), e, (lK.mp hm).1⟩
theorem CQ {k : List α} {z : α} (h : z ∈ k) : ∃ f, k.head? = some f := by
 cases k with
 | nil => cases h
 | cons f t => exact ⟨f, rfl⟩
theorem MN {zs : List α} {nb : α -> List α} {R : α -> α -> Prop} (g : Kgr zs nb R) {k : List α} : k ∈ Lg zs R ↔ ∃ z ∈ zs, k = knot zs R z := by
 unfold Lg
 rw [mem_map]
 constructor
 ·rintro ⟨z, hz, rfl⟩
  exact ⟨z, (mem_filter.mp hz).1, rfl⟩
 ·rintro ⟨z, hz, rfl⟩
  obtain ⟨f, hf⟩ := CQ (oX (R := R) hz)
  obtain ⟨h1, h2, h3⟩ := Fy g hf
  exact ⟨f, mem_filter.mpr ⟨h3, h1⟩, h2⟩
def may (nb : α -> List α) (pl k : List α) : Prop := ∀ a ∈ k, ∀ y ∈ nb a, y ∈ k \/ y ∈ pl
open Classical in
noncomputable def Nu (nb : α -> List α) (ks dn : List (List α)) : List (List α) := ks.filter fun k => decide (k ∉ dn /\ may nb dn.flatten k)
noncomputable def nxt (nb : α -> List α) (ks dn : List (List α)) : List α := (Nu nb ks dn).headD []
noncomputable def run (nb : α -> List α) (ks : List (List α)) : Nat -> List (List α)
 | 0 => []
 | n + 1 => run nb ks n ++ [nxt nb ks (run nb ks n)]
open Classical in
theorem Bp {zs : List α} {nb : α -> List α} {R : α -> α -> Prop} (g : Kgr zs nb R) {dn : List (List α)} : ∀ (n : Nat) (z : α), z ∈ zs -> knot zs R z ∉ dn -> (zs.filter fun x => decide (x = z \/ R z x)).length <= n -> Nu nb (Lg zs R) dn ≠ [] := by
 intro n
 induction n with
 | zero =>
  intro z hz _ hn
  have : z ∈ zs.filter fun x => decide (x = z \/ R z x) := mem_filter.mpr ⟨hz, Z2⟩
  have := List.length_pos_of_mem this
  omega
 | succ n ih =>
  intro z hz hd hn
  by_cases hm : may nb dn.flatten (knot zs R z)
  ·exact List.ne_nil_of_mem (mem_filter.mpr ⟨(MN g).mpr ⟨z, hz, rfl⟩, decide_eq_true ⟨hd, hm⟩⟩)
  ·unfold may at hm
   simp only [Classical.not_forall, not_or] at hm
   obtain ⟨a, ha, y, hy, hyk, hyd⟩ := hm
   obtain ⟨haz, ha2⟩ := lK.mp ha
   have hyz := g.cl a haz y hy
   have hzy : R z y := by
    rcases ha2 with rfl | ⟨h1, _⟩
    ·exact g.st _ _ hy
    ·exact g.tr _ _ _ h1 (g.st _ _ hy)
   refine ih y hyz (fun k => hyd (List.mem_flatten.mpr ⟨_, k, oX hyz⟩)) ?_
   refine Nat.le_of_lt_succ (lt_of_lt_of_le (uo (z := z) (fun x _ hx => ?_) hz Z2 ?_) hn)
   ·rw [decide_eq_true_iff] at hx ⊢
    rcases hx with rfl | hx
    ·exact .inr hzy
    ·exact .inr (g.tr _ _ _ hzy hx)
   ·rw [decide_eq_false_iff_not]
    rintro (rfl | k)
    ·exact hyk (oX hz)
    ·exact hyk (lK.mpr ⟨hyz, .inr ⟨hzy, k⟩⟩)
open Classical in
noncomputable def left (ks dn : List (List α)) : List (List α) := ks.filter fun k => decide (k ∉ dn)
end
end Kn
namespace L2
open PySem PySem.Spec PyProof.Rows PySem.W
section
variable {X : Cx} {pins : OP} {σ : St} {H : Hp} {s : Shared}
theorem zM {A : Around} {ls ms : List Str} {us ws : List Value} (r1 : Vals (ls.map V.str) us) (r2 : Vals (ms.map V.str) ws) :
  ∀ j (h1 : j < us.toArray.size) (h2 : j < ws.toArray.size), SeqAt.EqAt A s us.toArray[j] ws.toArray[j] (decide (ls[j]? = ms[j]?)) := fun j h1 h2 => by
 have h1' : j < us.length := by simpa using h1
 have h2' : j < ws.length := by simpa using h2
 obtain ⟨x, ex, rx⟩ := r1.at h1'
 obtain ⟨y, ey, ry⟩ := r2.at h2'
 rw [getElem?_map] at ex ey
 cases e1 : ls[j]? with
 | none => rw [e1] at ex; cases ex
 | some z1 =>
  cases e2 : ms[j]? with
  | none => rw [e2] at ey; cases ey
  | some z2 =>
   rw [e1] at ex; rw [e2] at ey
   cases ex; cases ey
   obtain ⟨t, et⟩ := rx
   obtain ⟨t', et'⟩ := ry
   have := SeqAt.EqAt.str_str (A := A) (s := s) z1 t z2 t'
   have ed : (z1 == z2) = decide (some z1 = some z2) := by
    by_cases k : z1 = z2
    ·subst k; simp
    ·rw [decide_eq_false (fun h => k (Option.some.inj h))]; simpa using k
   rw [ed] at this
   simpa [et, et'] using this
theorem zu {ls ms : List Str} {n : Nat} (hn : ls.length = n) (hl : ls.length = ms.length) : (List.range n).all (fun j => decide (ls[j]? = ms[j]?)) = decide (ls = ms) := by
 by_cases k : ls = ms
 ·subst k; simp
 ·rw [decide_eq_false k, Bool.eq_false_iff]
  intro h
  refine k (List.ext_getElem? fun j => ?_)
  rw [all_eq_true] at h
  by_cases hj : j < n
  ·exact of_decide_eq_true (h j (by simpa using hj))
  ·rw [List.getElem?_eq_none Z1, List.getElem?_eq_none Z1]
def PP (K : Frag) (neg : Bool) : R2 := fun x y H Q => ∃ (a b : Addr) (ls ms : List Str), x = .ref a /\ y = .ref b /\ SqL K H a (ls.map V.str) /\ SqL K H b (ms.map V.str) /\ Q (.bl (if neg then !decide (ls = ms) else decide (ls = ms))) H
theorem Lh {K : Frag} (hK : X.K = K) (hu : X.A.units + 64 < cLine) : OpR X (compareOp .NotEq) (PP K true) := by
 subst hK
 intro pins s σ H x y v u Q I rx ry h
 obtain ⟨a, b, ls, ms, rfl, rfl, ha, hb, q⟩ := h
 cases rx; cases ry
 obtain ⟨us, r1, p1, _⟩ := I.list ha
 obtain ⟨ws, r2, p2, _⟩ := I.list hb
 have l1 := r1.length
 have l2 := r2.length
 rw [length_map] at l1 l2
 have fin : EP X pins σ Q (.bool (!decide (ls = ms))) s := ⟨.bl _, H, I, rfl, q⟩
 by_cases hl : ls.length = ms.length
 ·have := SeqAt.RcNeAt.lists (A := X.A) (s := s) p1.isList p2.isList Z6 Z1 (zM r1 r2)
  rw [zu Z6 hl] at this
  exact this X.prog X.w X.xe _ fin
 ·have := SeqAt.RcNeAt.lists_lengths (A := X.A) (s := s) p1.isList p2.isList Z6 Z1
  rw [decide_eq_false (fun h => hl (congrArg List.length h))] at fin
  exact this X.prog X.w X.xe _ fin
end
open AutoSeq1 (wpAny_loadPart')
open MeetsSeq MeetsSeq2 MeetsSeq3 SeqRoads2
section
variable {prog : Program} {w : World} {A : Around} {R : Result -> Shared -> Prop} {I : Addr} {fp wr : List Addr} {n : Nat} {P : Nat -> Value -> Prop} {St : Nat -> Heap -> Prop}
end
section
variable {X : Cx}
end
section
variable {X : Cx}
end
section
variable {X : Cx} {k : Nat} {f C y : Addr} {fd : FuncData} {ps : List Str} {sp : Sp} {x qual : Str} {st : Stmt} {p pos : Pos} {e : Expr} {es : List Expr} {t : TA} {pins0 : OP} {E0' : EV}
theorem Mg (A : XIn X.K C qual st ps f fd) (G : oW X.prog X.w X.K X.mg X.base k f fd ps sp) (hr : aX (k + 1) X.A) (hm : X.mg x = some (.ref C)) (c : ExC X.K C) (ha : PA (X.hand y pins0 E0') (e :: es) t) (hg : Gl (X.hand y pins0 E0') x := by rfl)
  (hdb : (x == ("__debug__" : Str)) = false := by decide) (he : starEach (e :: es) X.env = (false, eval e X.env) :: starEach es X.env := by rfl) (hpl : (backTo pos (starEach es X.env)).any (·.1) = false := by rfl) :
  PE (X.hand y pins0 E0') (.Call (.Name x p) (e :: es) [] pos) (zZ C sp [] E0 t) := by
 intro pins s σ H Q I h
 refine wpAny_Call_Name_kw (dq I hg hm ?_ hdb)
 refine callWith_K (h₀ := X.base) I.ok.mod.kin A.kp (thn (ha pos pins s σ H _ I h) fun us s1 ⟨vs, H1, I1, r, q⟩ => ⟨I1.kIn, ?_⟩) he hpl
 have hq := q (s1.heap.objs.size + 1) (I1.hok.fresh (le_succ _))
 have I2 := Inv.madeX (C := C) (us := us) I1
 rw [append_nil] at hq
 have r2 : Vals (V.ref (s1.heap.objs.size + 1) :: vs) (Value.ref (s1.heap.objs.size + 1) :: us) := .cons rfl r
 have hl : (Value.ref (s1.heap.objs.size + 1) :: us ++ []).length = ps.length := by
  have e := r2.length
  rw [G.len _ _ _ _ hq] at e
  rw [append_nil]
  exact e.symm
 have hus : us.length <= sizeLine := by
  have : us.length <= ps.length := by rw [<- hl, append_nil, length_cons]; omega
  exact le_trans this (le_trans A.sm Z0)
 obtain ⟨nm, q, N, bs, bm, hdct, sn, sub, ab, col, dd, k0, k1, k2, k3, k5, hc, T⟩ := c
 have e0 := I2.env0
 have e1 : pA X.prog X.w X.K X.mg X.base X.A X.stack _ _ := ⟨e0.frames, e0.mod, e0.bs, e0.bsz, e0.funs, e0.frf, e0.hok, e0.bare⟩
 refine wpAny_call (qZ excBase_ValueError (T _ I1.kIn) (I1.kIn _ _ hc) (looks_findIn I1.kIn A.i) (fun self => bind_fn I1.kIn self (beq_iff_eq.mp A.fn)) hus
  (codeAny_mono (G.run (X.A.under (.builtin "type.__call__" ⟨.ref C :: us, []⟩)) y X.stack _ _ ⟨Value.ref (s1.heap.objs.size + 1) :: us, []⟩ (Value.ref (s1.heap.objs.size + 1) :: us) _ _ E0 (hr.make C us [])
  (e1.make C us []) (by have z := A.b _ (Value.ref (s1.heap.objs.size + 1) :: us) I2.kIn hl; rw [append_nil] at z; exact z) r2 hq) fun r s' hq' => ?_))
 cases r with
 | error e => exact hq'.elim
 | ok fl =>
  cases fl with
  | ret u =>
   obtain ⟨v, H', I3, rv, ev, q3⟩ := I2.after hq'
   subst ev
   exact ⟨rv, ⟨V.ref (s1.heap.objs.size + 1), H', I3, rfl, q3⟩⟩
  | next => exact False.elim hq'
  | brk => exact False.elim hq'
  | cont => exact False.elim hq'
end
end L2
namespace Mine
open PySem PySem.Spec PyProof.Rows L2 PySem.Builtin PySem.Builtin.Str
theorem HR {c : Nat} : inL c = true ↔ 97 <= c /\ c <= 122 := by
 refine ⟨fun h => ?_, fun h => Bo h.1 h.2⟩
 unfold inL at h
 rw [StrLaws.found_one, decide_eq_true_eq] at h
 have : ∀ n ∈ letters.cps.toList, 97 <= n /\ n <= 122 := by decide +kernel
 exact this c h
theorem Ie {c : Nat} : inF c = true ↔ 48 <= c /\ c <= 57 := by
 refine ⟨fun h => ?_, fun h => Bv h.1 h.2⟩
 unfold inF at h
 rw [StrLaws.found_one, decide_eq_true_eq] at h
 have : ∀ n ∈ Jq.cps.toList, 48 <= n /\ n <= 57 := by decide +kernel
 exact this c h
theorem il {z : Str} : nmB z = true ↔ bT z := by
 refine ⟨fun h => ?_, bT.nmB⟩
 unfold nmB at h
 rw [and_eq_true, and_eq_true, decide_eq_true_eq, decide_eq_true_eq, all_eq_true] at h
 exact ⟨h.1.1, h.1.2, fun n hn => HR.mp (h.2 n hn)⟩
theorem nM {d : Nat} (h : d < 10) : (Nat.toDigits 10 d).map Char.toNat = [48 + d] := by
 rw [Nat.toDigits_of_lt_base h]
 have : ∀ n : Fin 10, [Nat.digitChar n.val].map Char.toNat = [48 + n.val] := by decide
 exact this ⟨d, h⟩
theorem digits_of : ∀ (n : Nat) (ds : List Nat), ds.length = n -> ds ≠ [] -> (∀ d ∈ ds, 48 <= d /\ d <= 57) -> (ds.head? = some 48 -> ds = [48]) -> ∃ m, (Nat.toDigits 10 m).map Char.toNat = ds := by
 intro n
 induction n using Nat.strongRecOn with
 | _ n ih =>
  intro ds hn h0 hd hh
  have e := List.dropLast_concat_getLast h0
  have hl := hd _ (List.getLast_mem h0)
  generalize ds.getLast h0 = d at e hl
  by_cases hi : ds.dropLast = []
  ·rw [hi, nil_append] at e
   refine ⟨d - 48, ?_⟩
   rw [nM Z1, <- e, show 48 + (d - 48) = d from by omega]
  ·have hlen : ds.dropLast.length < n := by rw [List.length_dropLast, hn]; have := length_pos_iff.mpr h0; omega
   have h2 : 2 <= ds.length := by have := length_pos_iff.mpr hi; rw [List.length_dropLast] at this; omega
   have hhd : ds.dropLast.head? = ds.head? := by
    cases hq : ds.dropLast with
    | nil => exact absurd hq hi
    | cons a r => rw [hq] at e; rw [<- e]; rfl
   have hno : ds.dropLast.head? ≠ some 48 := fun z => by
    rw [hhd] at z
    have := hh z
    rw [this] at h2
    simp at h2
   obtain ⟨m, hm⟩ := ih _ hlen ds.dropLast rfl hi (fun x hx => hd x ((List.dropLast_sublist ds).subset hx)) (fun z => absurd z hno)
   have hm0 : 0 < m := by
    rcases Nat.eq_zero_or_pos m with z | z
    ·subst z
     rw [nM Z0] at hm
     exact absurd (by rw [<- hm]; rfl) hno
    ·exact z
   refine ⟨10 * m + (d - 48), ?_⟩
   rw [<- Nat.toDigits_append_toDigits (b := 10) (n := m) (d := d - 48) Z0 hm0 Z1, map_append, hm, nM Z1, show 48 + (d - 48) = d from by omega, e]
theorem zY : zero.cps.toList = [48] := by decide +kernel
theorem Ef {z : Str} (h : mz z = true) : ∃ m, m < 10 ^ 20 /\ z = jt m := by
 unfold mz at h
 simp only [and_eq_true, decide_eq_true_eq, all_eq_true, Bool.not_eq_true', Bool.and_eq_false_iff, decide_eq_false_iff_not, Bool.not_eq_false', Bool.not_eq_true] at h
 obtain ⟨⟨⟨h1, h2⟩, h3⟩, h4⟩ := h
 have h0 : z.cps.toList ≠ [] := fun e => by rw [cB, e] at h1; simp at h1
 obtain ⟨m, hm⟩ := digits_of _ z.cps.toList rfl h0 (fun d hd => Ie.mp (h4 d hd)) (fun e => by
  rcases h3 with k | k
  ·exact absurd e k
  ·have k : z = zero := by simpa using k
   rw [k, zY])
 have e : z = jt m := dO (by rw [gG, hm])
 refine ⟨m, ?_, e⟩
 have : (Nat.toDigits 10 m).length <= 20 := by rw [cB, <- hm, length_map] at h2; exact h2
 exact (Nat.length_toDigits_le_iff Z0 Z0).mp this
def d9 (n : Nat) (z : Str) : Bool := decide (((Txt.split z ("." : Str)).length : Int) <= (n : Int)) && (Txt.split z ("." : Str)).all nmB
theorem Br {n : Nat} {z : Str} (h : d9 n z = true) : ∃ ys, ys ≠ [] /\ ys.length <= n /\ (∀ y ∈ ys, bT y) /\ z = dotted ys := by
 unfold d9 at h
 rw [and_eq_true, decide_eq_true_eq, all_eq_true] at h
 refine ⟨Txt.split z ("." : Str), ?_, Z1, fun y hy => il.mp (h.2 y hy), ?_⟩
 ·rw [qT]; exact gW _ _
 ·rw [fK, qT]; exact (StrLaws.join_split z _).symm
theorem rE {n : Nat} {ys : List Str} (h0 : ys ≠ []) (h1 : ys.length <= n) (hn : ∀ y ∈ ys, bT y) : d9 n (dotted ys) = true := by
 unfold d9
 rw [fV ys h0 hn, decide_eq_true Z1, all_eq_true.mpr fun y hy => (hn y hy).nmB]; rfl
theorem Jd {z : Str} : d9 4 z = true ↔ ∃ ys, gQ ys /\ z = dotted ys := by
 refine ⟨fun h => ?_, fun ⟨ys, g, e⟩ => by rw [e]; exact rE g.lo g.hi g.nm⟩
 obtain ⟨ys, a, b, c, e⟩ := Br h
 exact ⟨ys, ⟨a, b, c⟩, e⟩
theorem ends_app {z : Str} (h : Txt.endswith z brk = true) : ∃ a, z = a ++ brk := by
 obtain ⟨pre, e⟩ := tO h
 exact ⟨⟨pre.toArray⟩, dO (by rw [aU, jz, e])⟩
theorem pN {a b : Str} (h : a ++ brk = b ++ brk) : a = b := by
 apply dO
 have := congrArg (fun x : Str => x.cps.toList) h
 simp only [aU] at this
 exact List.append_cancel_right this
def RdW (z : Str) : Prop := ∃ th, gR th /\ z = wordOf th
theorem Hy {a : Str} (hn : mz (a ++ brk) = false) (h : d9 4 a = false) : ¬ RdW (a ++ brk) := by
 rintro ⟨th, g, e⟩
 cases th with
 | num m => rw [e] at hn; have := (iZ (show m < 10 ^ 20 from g)).1; rw [show wordOf (.num m) = jt m from rfl, this] at hn; cases hn
 | nms c ys =>
  cases c with
  | true => rw [pN (show a ++ brk = dotted ys ++ brk from e), Jd.mpr ⟨ys, g, rfl⟩] at h; cases h
  | false =>
   have k := pK (gQ.nm g)
   rw [<- (show a ++ brk = dotted ys from e), jr] at k
   cases k
theorem Af {z : Str} (hn : mz z = false) (he : Txt.endswith z brk = false) (h : d9 4 z = false) : ¬ RdW z := by
 rintro ⟨th, g, e⟩
 cases th with
 | num m => rw [e] at hn; have := (iZ (show m < 10 ^ 20 from g)).1; rw [show wordOf (.num m) = jt m from rfl, this] at hn; cases hn
 | nms c ys =>
  cases c with
  | true => rw [show z = dotted ys ++ brk from e, jr] at he; cases he
  | false => rw [show z = dotted ys from e, Jd.mpr ⟨ys, g, rfl⟩] at h; cases h
theorem rC {ys zs : List Str} (gy : gQ ys) (gz : gQ zs) (e : dotted ys = dotted zs) : ys = zs := by
 have := fV ys gy.lo gy.nm
 rw [e, fV zs gz.lo gz.nm] at this
 exact this.symm
theorem Fe {m n : Nat} (hm : m < 10 ^ 20) (hn : n < 10 ^ 20) (e : jt m = jt n) : m = n := by
 have h1 := (iZ hm).2.2.2
 rw [e, (iZ hn).2.2.2] at h1
 have := Option.some.inj h1
 omega
theorem Bs {m : Nat} {c : Bool} {ys : List Str} (hm : m < 10 ^ 20) (g : gQ ys) (e : jt m = wordOf (.nms c ys)) : False := by
 obtain ⟨lc, hlc, lo, hi⟩ := sS g.lo g.nm
 have : lc ∈ (wordOf (.nms c ys)).cps.toList := by
  cases c with
  | true => show lc ∈ (dotted ys ++ brk).cps.toList; rw [aU]; exact mem_append_left _ hlc
  | false => exact hlc
 rw [<- e] at this
 have := digit_range this
 omega
theorem rA {a b : Thg} (ga : gR a) (gb : gR b) (e : wordOf a = wordOf b) : a = b := by
 cases a with
 | num m =>
  cases b with
  | num n => rw [Fe ga gb e]
  | nms c ys => exact (Bs ga gb e).elim
 | nms c ys =>
  cases b with
  | num n => exact (Bs gb ga e.symm).elim
  | nms d zs =>
   cases c with
   | true =>
    cases d with
    | true => rw [rC ga gb (pN e)]
    | false =>
     have k := pK (gQ.nm gb)
     rw [<- (show dotted ys ++ brk = dotted zs from e), jr] at k
     cases k
   | false =>
    cases d with
    | true =>
     have k := pK (gQ.nm ga)
     rw [(show dotted ys = dotted zs ++ brk from e), jr] at k
     cases k
    | false => rw [rC ga gb e]
theorem Jk {a b : Int} (ha : a = 1 \/ a = -1) (hb : b = 1 \/ b = -1) (e : sgw a = sgw b) : a = b := by
 rcases ha with rfl | rfl <;> rcases hb with rfl | rfl
 ·rfl
 ·exact absurd e Z4
 ·exact absurd e Z4
 ·rfl
theorem yL {ts : List Trm} (g : bN ts) {i : Nat} {w : Str} (h : (wordsOf ts)[2 * i]? = some w) : RdW w := by
 cases ts with
 | nil => exact absurd rfl g.lo
 | cons t0 tr =>
  cases i with
  | zero => cases h; exact ⟨t0.th, (g.ok t0 mem_cons_self).th, rfl⟩
  | succ i =>
   have hl := dz g.lo
   have hi := (List.getElem?_eq_some_iff.mp h).1
   rw [length_cons] at hl
   have hti : (t0 :: tr)[i + 1]? = some (tr[i]'Z1) := by simp
   have := (oF hti).2
   rw [show 2 * (i + 1) = 2 * i + 2 from by omega, this] at h
   cases h
   exact ⟨_, (g.ok _ (mem_cons_of_mem _ (getElem_mem Z1))).th, rfl⟩
theorem Dn {ts : List Trm} (g : bN ts) {i : Nat} {w : Str} (h : (wordsOf ts)[2 * i + 1]? = some w) : ∃ s : Int, (s = 1 \/ s = -1) /\ w = sgw s := by
 cases ts with
 | nil => exact absurd rfl g.lo
 | cons t0 tr =>
  have hl := dz g.lo
  have hi := (List.getElem?_eq_some_iff.mp h).1
  rw [length_cons] at hl
  have hti : (t0 :: tr)[i + 1]? = some (tr[i]'Z1) := by simp
  have := (oF hti).1
  rw [this] at h
  cases h
  exact ⟨_, (g.ok _ (mem_cons_of_mem _ (getElem_mem Z1))).sg, rfl⟩
theorem iK {ts us : List Trm} (gt : bN ts) (gu : bN us) (e : wordsOf ts = wordsOf us) : ts = us := by
 have l1 := dz gt.lo
 have l2 := dz gu.lo
 have p1 := length_pos_iff.mpr gt.lo
 have p2 := length_pos_iff.mpr gu.lo
 have hl : ts.length = us.length := by rw [e] at l1; omega
 have tr_ext : ∀ {a b : Trm}, a.sg = b.sg -> a.th = b.th -> a = b := fun {a b} x y => by cases a; cases b; cases x; cases y; rfl
 refine ext_getElem hl fun i h1 h2 => ?_
 cases i with
 | zero =>
  cases ts with
  | nil => exact absurd rfl gt.lo
  | cons t0 tr =>
   cases us with
   | nil => exact absurd rfl gu.lo
   | cons u0 ur =>
    refine tr_ext ((gt.hd t0 rfl).trans (gu.hd u0 rfl).symm) (rA (gt.ok t0 mem_cons_self).th (gu.ok u0 mem_cons_self).th ?_)
    have := congrArg (·[0]?) e
    exact Option.some.inj this
 | succ i =>
  obtain ⟨a1, a2⟩ := oF (ts := ts) (i := i) (getElem?_eq_getElem h1)
  obtain ⟨b1, b2⟩ := oF (ts := us) (i := i) (getElem?_eq_getElem h2)
  rw [e, b1] at a1
  rw [e, b2] at a2
  have ga := gt.ok _ (getElem_mem h1)
  have gb := gu.ok _ (getElem_mem h2)
  exact tr_ext (Jk ga.sg gb.sg (Option.some.inj a1).symm) (rA ga.th gb.th (Option.some.inj a2).symm)
def RdE (ws : List Str) : Prop := ∃ ts, bN ts /\ ws = wordsOf ts
theorem qK {ws : List Str} (h : RdE ws) : ws.length % 2 = 1 /\ ws.length <= 11 := by
 obtain ⟨ts, g, rfl⟩ := h
 have := dz g.lo
 have := g.hi
 have := length_pos_iff.mpr g.lo
 omega
theorem rB {ws : List Str} (h : RdE ws) {i : Nat} {w : Str} (e : ws[2 * i]? = some w) : RdW w := by
 obtain ⟨ts, g, rfl⟩ := h
 exact yL g e
theorem Jm {ws : List Str} (h : RdE ws) {i : Nat} {w : Str} (e : ws[2 * i + 1]? = some w) : ∃ s : Int, (s = 1 \/ s = -1) /\ w = sgw s := by
 obtain ⟨ts, g, rfl⟩ := h
 exact Dn g e
structure wV (ws : List Str) (i : Nat) (ts : List Trm) : Prop where
 lo : ts.length = i + 1
 ok : ∀ t ∈ ts, Dw t
 hd : ∀ t, ts.head? = some t -> t.sg = 1
 ws : wordsOf ts = ws.take (2 * i + 1)
theorem wV.first {ws : List Str} {th : Thg} (g : gR th) (e : ws[0]? = some (wordOf th)) : wV ws 0 [⟨1, th⟩] := by
 refine ⟨rfl, fun t ht => ?_, fun t ht => ?_, ?_⟩
 ·rw [mem_singleton.mp ht]; exact ⟨.inl rfl, g⟩
 ·cases ht; rfl
 ·cases ws with
  | nil => cases e
  | cons w r => cases e; rfl
theorem wV.next {ws : List Str} {i : Nat} {ts : List Trm} (h : wV ws i ts) {s : Int} {th : Thg} (hs : s = 1 \/ s = -1) (g : gR th) (e1 : ws[2 * i + 1]? = some (sgw s)) (e2 : ws[2 * i + 2]? = some (wordOf th)) : wV ws (i + 1) (ts ++ [⟨s, th⟩]) := by
 have h0 : ts ≠ [] := fun z => by have := h.lo; rw [z] at this; cases this
 refine ⟨by rw [length_append, h.lo]; rfl, fun t ht => ?_, fun t ht => ?_, ?_⟩
 ·rcases mem_append.mp ht with k | k
  ·exact h.ok t k
  ·rw [mem_singleton.mp k]; exact ⟨hs, g⟩
 ·cases ts with
  | nil => exact absurd rfl h0
  | cons a r => exact h.hd t ht
 ·have k : ws.take (2 * i + 1 + 1 + 1) = ws.take (2 * i + 1) ++ [sgw s, wordOf th] := by
   rw [take_succ (i := 2 * i + 1 + 1), e2, take_succ (i := 2 * i + 1), e1]
   simp
  rw [vL _ h0, h.ws, show 2 * (i + 1) + 1 = 2 * i + 1 + 1 + 1 from by omega, k]
theorem wV.all {ws : List Str} {i : Nat} {ts : List Trm} (h : wV ws i ts) (hl : ws.length = 2 * i + 1) (h6 : i <= 5) : bN ts /\ ws = wordsOf ts := by
 refine ⟨⟨fun z => (by have := h.lo; rw [z] at this; cases this), by have := h.lo; omega, h.ok, h.hd⟩, ?_⟩
 rw [h.ws, List.take_of_length_le Z1]
end Mine
namespace L2
open PySem PySem.Spec PyProof.Rows PySem.W
end L2
namespace Mine
open PySem PySem.Spec PyProof.Rows L2 PySem.Builtin PySem.Builtin.Str
section
open PySem PySem.Spec PyProof.Rows L2 PySem.Builtin PySem.Builtin.Str
end
end Mine
namespace L2
open PySem PySem.Spec PyProof.Rows PySem.W
theorem qQ : ∀ {bs : List Bool} {us : List Value}, Vals (bs.map V.bl) us -> us = bs.map Value.bool
 | [], _, h => by cases h; rfl
 | b :: bs, _, h => by
  cases h with
  | cons r t => cases r; rw [qQ t]; rfl
def isT : Value -> Bool | .bool b => b | _ => false
theorem Ec {A : Around} {s : Shared} {bs : List Bool} {y : Value} (h : y ∈ (bs.map Value.bool).toArray) : SeqAt.EqAt A s y (.bool true) (isT y) := by
 obtain ⟨b, _, rfl⟩ := mem_map.mp (List.mem_toArray.mp h)
 have := SeqAt.EqAt.bool_bool (A := A) (s := s) b true
 rwa [show (b == true) = isT (.bool b) by cases b <;> rfl] at this
section
variable {X : Cx}
def Js : V -> List V -> Hp -> VK -> Prop := fun x vs H Q => ∃ (l : Addr) (bs : List Bool), x = .ref l /\ vs = [.bl true] /\ H l = some (.lst (bs.map V.bl)) /\ Q (.int ((bs.count true : Nat) : Int)) H
theorem Ca : MtM X "list.count" Js := by
 intro pins s σ H x vs v us Q I rx rv h
 obtain ⟨l, bs, rfl, rfl, hH, q⟩ := h
 cases rx
 obtain ⟨u, rfl, ru⟩ := vals1 rv
 cases ru
 obtain ⟨z, its, n, r, hl, e⟩ := I.lstM hH
 have hi := qQ r
 subst hi
 refine call_meets F.slot_list_count ⟨_, e, rfl⟩ F.entry_list_count (F.args_list_count_2 _ _) (SeqAt.list_countAt l _ n _ _ (.bool true) isT) ⟨e, fun y hy => Ec hy, ?_⟩
 have c : (bs.map Value.bool).countP isT = bs.count true := by
  rw [List.countP_map, List.count]; congr 1; funext b; cases b <;> rfl
 rw [List.toList_toArray, c]
 exact ⟨.int _, H, I.tok _, ⟨_, rfl⟩, q⟩
def IK : V -> List V -> Hp -> VK -> Prop := fun x vs H Q => ∃ (l : Addr) (bs : List Bool) (j : Nat), x = .ref l /\ vs = [.bl true] /\ H l = some (.lst (bs.map V.bl)) /\ bs[j]? = some true /\ (∀ m, m < j -> bs[m]? = some false) /\ bs.length <= 1000 /\ Q (.int (j : Int)) H
theorem Dc : MtM X "list.index" IK := by
 intro pins s σ H x vs v us Q I rx rv h
 obtain ⟨l, bs, j, rfl, rfl, hH, hj, hno, h1000, q⟩ := h
 cases rx
 obtain ⟨u, rfl, ru⟩ := vals1 rv
 cases ru
 obtain ⟨z, its, n, r, hl, e⟩ := I.lstM hH
 have hi := qQ r
 subst hi
 have hjl : j < bs.length := (List.getElem?_eq_some_iff.mp hj).1
 have at_ : ∀ m (hm : m < (bs.map Value.bool).toArray.size), isT (bs.map Value.bool).toArray[m] = (bs[m]'(by simpa using hm)) := fun m hm => by simp [isT]
 refine call_meets F.slot_list_index ⟨_, e, rfl⟩ F.entry_list_index (F.args_list_index_2 _ _) (SeqAt.list_indexAt l _ n _ _ (.bool true) isT j (by simpa using hjl) Z1 ?_ fun m hm hlt => ?_) ⟨e, fun y hy => Ec hy, ?_⟩
 ·rw [at_]
  have := List.getElem?_eq_some_iff.mp hj
  exact this.2
 ·rw [at_]
  exact (List.getElem?_eq_some_iff.mp (hno m hlt)).2
 ·exact ⟨.int _, H, I.tok _, ⟨_, rfl⟩, q⟩
end
end L2
namespace L2
open PySem PySem.Spec PyProof.Rows
def Tk (n : Nat) (s : Shared) : Prop := 0 < n /\ n <= s.toks
abbrev VKn := Nat -> V -> Hp -> Prop
abbrev TEn := Nat -> St -> Hp -> VKn -> Prop
abbrev TAn := Nat -> St -> Hp -> (Nat -> List V -> Hp -> Prop) -> Prop
structure yD where
 nx : Nat -> St -> Hp -> Prop
 rt : VKn
abbrev TSn := yD -> Nat -> St -> Hp -> Prop
theorem gq {α : Type} {t : Sem α} {Q Q' : α -> Shared -> Prop} {M : Model} {A : Around} {E : EV} {s : Shared} {n : Nat} (hn : Tk n s) (h : wpAny M A t Q E s) (hQ : ∀ a s', Tk n s' -> Q a s' -> Q' a s') : wpAny M A t Q' E s :=
 wpAny_mono (wpAny_toks_of hn.2 h) (fun a s' x => hQ a s' ⟨hn.1, x.1⟩ x.2) fun _ _ x => x.2
def EPn (X : Cx) (pins : OP) (σ : St) (Q : VKn) (u : Value) (s' : Shared) : Prop := ∃ n v H', Tk n s' /\ Inv X pins σ H' s' /\ RelV v u /\ Q n v H'
def APn (X : Cx) (pins : OP) (σ : St) (Q : Nat -> List V -> Hp -> Prop) (us : List Value) (s' : Shared) : Prop := ∃ n vs H', Tk n s' /\ Inv X pins σ H' s' /\ Vals vs us /\ Q n vs H'
def SPn (X : Cx) (pins : OP) (D : yD) (f : Flow) (s' : Shared) : Prop :=
 match f with
 | .next => ∃ n σ' H', Tk n s' /\ Inv X pins σ' H' s' /\ D.nx n σ' H'
 | .brk => False
 | .cont => False
 | .ret u => ∃ n v σ' H', Tk n s' /\ Inv X pins σ' H' s' /\ RelV v u /\ D.rt n v H'
structure PEn (X : Cx) (e : Expr) (t : TEn) : Prop where
 h : ∀ (pins : OP) (s : Shared) (σ : St) (H : Hp) (n : Nat) (Q : VKn), Tk n s -> Inv X pins σ H s -> t n σ H Q -> wpAny (model X.prog X.w) X.A (eval e X.env) (EPn X pins σ Q) X.xe s
structure PAn (X : Cx) (es : List Expr) (t : TAn) : Prop where
 h : ∀ (pos : Pos) (pins : OP) (s : Shared) (σ : St) (H : Hp) (n : Nat) (Q : Nat -> List V -> Hp -> Prop), Tk n s -> Inv X pins σ H s -> t n σ H Q -> wpAny (model X.prog X.w) X.A (spliced (backTo pos (starEach es X.env))) (APn X pins σ Q) X.xe s
structure PSn (X : Cx) (st : Stmt) (t : TSn) : Prop where
 h : ∀ (pins : OP) (s : Shared) (σ : St) (H : Hp) (n : Nat) (D : yD), Tk n s -> Inv X pins σ H s -> t D n σ H -> wpAny (model X.prog X.w) X.A (exec st X.env) (SPn X pins D) X.xe s
structure uE (X : Cx) (st : List Stmt) (t : TSn) : Prop where
 h : ∀ (pins : OP) (s : Shared) (σ : St) (H : Hp) (n : Nat) (D : yD), Tk n s -> Inv X pins σ H s -> t D n σ H -> wpAny (model X.prog X.w) X.A (execs st X.env) (SPn X pins D) X.xe s
section
variable {X : Cx} {st : Stmt} {rest : List Stmt} {t u : TSn} {e o : Expr} {es : List Expr} {te : TE} {tn tb : TEn} {ta : TA} {tan : TAn} {pos : Pos}
def nE (t : TE) : TEn := fun n σ H Q => t σ H (Q n)
def nA (t : TA) : TAn := fun n σ H Q => t σ H (Q n)
def nS (t : TS) : TSn := fun D n σ H => t { nx := D.nx n, rt := D.rt n } σ H
theorem pen (h : PE X e te) : PEn X e (nE te) := ⟨fun pins s σ H n Q hn I q => gq hn (h pins s σ H (Q n) I q) fun u s' hk ⟨v, H', I', r, q'⟩ => ⟨n, v, H', hk, I', r, q'⟩⟩
theorem pan (h : PA X es ta) : PAn X es (nA ta) := ⟨fun pos pins s σ H n Q hn I q => gq hn (h pos pins s σ H (Q n) I q) fun u s' hk ⟨v, H', I', r, q'⟩ => ⟨n, v, H', hk, I', r, q'⟩⟩
theorem psn {ts : TS} (h : QS X st ts) : PSn X st (nS ts) := ⟨fun pins s σ H n D hn I q => gq hn (h.h pins s σ H _ I q) fun f s' hk q' => by
 cases f with
 | next => obtain ⟨σ', H', I', q'⟩ := q'; exact ⟨n, σ', H', hk, I', q'⟩
 | ret u => obtain ⟨v, σ', H', I', r, q'⟩ := q'; exact ⟨n, v, σ', H', hk, I', r, q'⟩
 | brk => obtain ⟨_, _, _, q'⟩ := q'; exact q'.elim
 | cont => obtain ⟨_, _, _, q'⟩ := q'; exact q'.elim⟩
theorem Qg {ts : TS} (h : QSs X rest ts) : uE X rest (nS ts) := ⟨fun pins s σ H n D hn I q => gq hn (h.h pins s σ H _ I q) fun f s' hk q' => by
 cases f with
 | next => obtain ⟨σ', H', I', q'⟩ := q'; exact ⟨n, σ', H', hk, I', q'⟩
 | ret u => obtain ⟨v, σ', H', I', r, q'⟩ := q'; exact ⟨n, v, σ', H', hk, I', r, q'⟩
 | brk => obtain ⟨_, _, _, q'⟩ := q'; exact q'.elim
 | cont => obtain ⟨_, _, _, q'⟩ := q'; exact q'.elim⟩
def RV (t u : TSn) : TSn := fun D n σ H => t { D with nx := u D } n σ H
theorem bH (h1 : PSn X st t) (h2 : uE X rest u) : uE X (st :: rest) (RV t u) := ⟨by
 intro pins s σ H n D hn I h
 refine wpAny_execs_cons (thn (h1.h pins s σ H n { D with nx := u D } hn I h) fun f s1 q => ?_)
 cases f with
 | next =>
  obtain ⟨n', σ', H', hk, I', q⟩ := q
  exact h2.h pins s1 σ' H' n' D hk I' q
 | ret v => exact q
 | brk => exact q.elim
 | cont => exact q.elim⟩
theorem lG (h1 : PSn X st t) : uE X [st] t := ⟨by
 intro pins s σ H n D hn I h
 refine wpAny_execs_cons (thn (h1.h pins s σ H n D hn I h) fun f s1 q => ?_)
 cases f with
 | next => exact wpAny_execs_nil q
 | ret v => exact q
 | brk => exact q.elim
 | cont => exact q.elim⟩
def nIf (c : TT) (t u : TSn) : TSn := fun D n σ H => c σ H fun b H1 => if b = true then t D n σ H1 else u D n σ H1
theorem LQ {c : Expr} {a b : List Stmt} {tc : TT} (hc : PT X c tc) (ha : uE X a t) (hb : uE X b u) : PSn X (.If c a b pos) (nIf tc t u) := ⟨by
 intro pins s σ H n D hn I h
 refine wpAny_If (gq hn (hc pins s σ H _ I h) fun d s1 hk ⟨H1, I1, q1⟩ => ?_)
 cases d with
 | true => exact ha.h pins s1 σ H1 n D hk I1 q1
 | false => exact hb.h pins s1 σ H1 n D hk I1 q1⟩
def Td (tn : TEn) (i : Nat) : TSn := fun D n σ H => tn n σ H fun n' v H1 => D.nx n' (σ.set i (some v)) H1
theorem vh {i : Nat} {x : Str} {pos' : Pos} (hN : X.N.Nodup) (hi : X.N[i]? = some x) (hx : Loc X.env.scope x) (he : PEn X e tn) (hs : swapsWith e (some (.Name x pos')) pos.line X.env = pure false := by rfl) (hf : X.fn x = true \/ X.env.scope.names.lookup x = some .local := by first | exact .inl rfl | exact .inr rfl | assumption) :
  PSn X (.Assign [.Name x pos'] e pos) (Td tn i) := ⟨by
 intro pins s σ H n D hn I h
 refine wpAny_Assign_Name (thn (he.h pins s σ H n _ hn I h) fun v s1 ⟨n1, y, H1, hk, I1, r1, q1⟩ => ?_) hs
 refine wpAny_with_toks hk.2 ?_
 exact wpAny_mono (jw (Q := fun _ s2 => n1 <= s2.toks -> SPn X pins D .next s2) I1 hN hi hx r1 (fun s2 I2 hle => ⟨n1, _, H1, ⟨hk.1, hle⟩, I2, q1⟩) hf) (fun _ _ z => z) fun _ _ z _ => z⟩
def Ph (tn : TEn) : TSn := fun D n σ H => tn n σ H fun n' _ H1 => D.nx n' σ H1
theorem G5 (he : PEn X e tn) (hs : swapsWith e none pos.line X.env = pure false := by rfl) : PSn X (.Expr e pos) (Ph tn) := ⟨by
 intro pins s σ H n D hn I h
 exact wpAny_Expr_any (thn (he.h pins s σ H n _ hn I h) fun v s1 ⟨n1, x, H1, hk, I1, r1, q1⟩ => ⟨n1, σ, H1, hk, I1, q1⟩) I.quiet hs⟩
def Oo (ta : TEn) (tr : TAn) : TAn := fun n σ H Q => ta n σ H fun n1 x H1 => tr n1 σ H1 fun n2 xs H2 => Q n2 (x :: xs) H2
theorem bB (ha : PEn X e tn) (hr : PAn X es tan) (hs : starEach (e :: es) X.env = (false, eval e X.env) :: starEach es X.env := by rfl) : PAn X (e :: es) (Oo tn tan) := ⟨by
 intro pos pins s σ H n Q hn I h
 rw [hs]
 show wpAny _ _ (spliced ((false, eval e X.env) :: backTo pos (starEach es X.env))) _ _ s
 refine Calls.spliced_cons (thn (ha.h pins s σ H n _ hn I h) fun u s1 ⟨n1, x, H1, hk, I1, r1, q1⟩ => ?_)
 exact thn (hr.h pos pins s1 σ H1 n1 _ hk I1 q1) fun us s2 ⟨n2, xs, H2, hk2, I2, r2, q2⟩ => ⟨n2, x :: xs, H2, hk2, I2, .cons r1 r2, q2⟩⟩
def QD (t : TAn) : TEn := fun n σ H Q => t n σ H fun n1 xs H1 => xs.length <= sizeLine /\ ∀ p, H1 p = none -> Q n1 (.ref p) (upd H1 p (.tup xs))
def Qv (t : TAn) : TEn := fun n σ H Q => t n σ H fun n1 xs H1 => xs.length <= sizeLine /\ ∀ p, H1 p = none -> Q n1 (.ref p) (upd H1 p (.lst xs))
theorem Iu {x1} (h : PAn X es tan) : PEn X (.Tuple es x1 pos) (QD tan) := ⟨by
 intro pins s σ H n Q hn I hq
 refine wpAny_Tuple_spliced (thn (h.h pos pins s σ H n _ hn I hq) fun us s1 ⟨n1, xs, H1, hk, I1, r, z, q⟩ => ⟨by rw [<- r.length]; exact z, ?_⟩)
 have hf : H1 s1.heap.objs.size = none := I1.hok.fresh (le_refl _)
 refine ⟨n1, .ref s1.heap.objs.size, upd H1 s1.heap.objs.size (.tup xs), hk, I1.laid (t' := s1.toks) (fun b u e => Heap.get?_push_of_some _ e) (le_refl _) ?_, rfl, q _ hf⟩
 exact ⟨z, us, r, ⟨_, Heap.get?_push_size _ rfl, rfl, _, rfl⟩⟩⟩
theorem Bf (h : PAn X es tan) : PEn X (.List es pos) (Qv tan) := ⟨by
 intro pins s σ H n Q hn I hq
 refine wpAny_List_spliced (thn (h.h pos pins s σ H n _ hn I hq) fun us s1 ⟨n1, xs, H1, hk, I1, r, z, q⟩ => ⟨by rw [<- r.length]; exact z, ?_⟩)
 have hf : H1 s1.heap.objs.size = none := I1.hok.fresh (le_refl _)
 refine ⟨n1, .ref s1.heap.objs.size, upd H1 s1.heap.objs.size (.lst xs), hk, I1.laid (t' := s1.toks) (fun b u e => Heap.get?_push_of_some _ e) (le_refl _) ?_, rfl, q _ hf⟩
 exact ⟨z, us, 0, r, Heap.get?_push_size _ rfl⟩⟩
def SN (x : Str) : TEn := fun n _ H Q => ∀ k, n <= k -> Q (k + 1) (.stk x k) H
theorem dH {x j pos} : PEn X (.Constant (.str x) j pos) (SN x) := ⟨fun _ s _ H n _ hn I h => Calls.Constant_str ⟨s.toks + 1, .stk x s.toks, H, ⟨succ_pos _, le_refl _⟩, I.tok _, rfl, h s.toks hn.2⟩⟩
def nOp (r : R2) (ta : TEn) (tb : TE) : TEn := fun n σ H Q => ta n σ H fun n1 x H1 => tb σ H1 fun y H2 => r x y H2 (Q n1)
theorem Nb {a b : Expr} {r : R2} (hr : IxR X r) (ha : PEn X a tn) (hb : PE X b te) (hs : vm b) : PEn X (.Subscript a b pos) (nOp r tn te) := ⟨by
 intro pins s σ H n Q hn I h
 refine Subscript_ (thn (ha.h pins s σ H n _ hn I h) fun v s1 ⟨n1, x, H1, hk, I1, r1, q1⟩ => gq hk (hb pins s1 σ H1 _ I1 q1) fun u s2 hk2 ⟨y, H2, I2, r2, q2⟩ => ?_)
 exact gq hk2 (hr a b pins s2 σ H2 x y v u (Q n1) I2 r1 r2 q2 (hs _ _)) fun w s3 hk3 ⟨z, H3, I3, r3, q3⟩ => ⟨n1, z, H3, hk3, I3, r3, q3⟩⟩
def RK (ta tb : TE) : TEn := fun n σ H Q => ta σ H fun x H1 => tb σ H1 fun y H2 => ∃ z i c, x = .str z /\ y = .int i /\ z.length <= sizeLine /\ atI z.cps.toList i = some c /\ ∀ k, n <= k -> Q (k + 1) (.stk ⟨#[c]⟩ k) H2
theorem Bc {a b : Expr} {ta tb : TE} (ha : PE X a ta) (hb : PE X b tb) (hs : vm b) : PEn X (.Subscript a b pos) (RK ta tb) := ⟨by
 intro pins s σ H n Q hn I h
 refine Subscript_ (gq hn (ha pins s σ H _ I h) fun v s1 hk ⟨x, H1, I1, r1, q1⟩ => gq hk (hb pins s1 σ H1 _ I1 q1) fun u s2 hk2 ⟨y, H2, I2, r2, q2⟩ => ?_)
 obtain ⟨z, i, c, rfl, rfl, hz, he, q⟩ := q2
 obtain ⟨t, rfl⟩ := r1
 obtain ⟨t', rfl⟩ := r2
 obtain ⟨j, h1, h2, h3, h4, h5⟩ := ql he
 have hl : z.cps.toList.length = z.length := by simp [Str.length]
 rw [hl] at h1 h4 h5
 have hn := nC
 exact tail_any (typeIs_str s2 z t) slot_str_getitem.lookup (getItem_str (c := c) (by
  have e1 : decide (i < -(2 ^ 63 : Int)) = false := decide_eq_false Z1
  have e2 : decide (i >= 2 ^ 63) = false := decide_eq_false Z1
  rw [e1, e2, Bool.or_false]) (by rw [h1]; simpa using h2) ⟨s2.toks + 1, .stk ⟨#[c]⟩ s2.toks, H2, ⟨succ_pos _, le_refl _⟩, I2.tok _, rfl, q s2.toks hk2.2⟩) (hs _ _)⟩
def MtN (X : Cx) (id : String) (r : V -> List V -> Nat -> Hp -> VKn -> Prop) : Prop :=
 ∀ (pins : OP) (s : Shared) (σ : St) (H : Hp) (n : Nat) (x : V) (xs : List V) (v : Value) (us : List Value) (Q : VKn), Tk n s -> Inv X pins σ H s -> RelV x v -> Vals xs us -> r x xs n H Q ->
  wpAny (model X.prog X.w) X.A (call (.builtin id) (v :: us)) (EPn X pins σ Q) X.xe s
theorem mtn {id : String} {r : V -> List V -> Hp -> VK -> Prop} (h : MtR X id r) : MtN X id (fun x vs n H Q => r x vs H (Q n)) := fun pins s σ H n x xs v us Q hn I rx rv q =>
 gq hn (h pins s σ H x xs v us (Q n) I rx rv q) fun w s3 hk3 ⟨z, H3, I3, r3, q3⟩ => ⟨n, z, H3, hk3, I3, r3, q3⟩
def nBM (K : Frag) (T : String) (r : V -> List V -> Nat -> Hp -> VKn -> Prop) (to : TE) (t : TAn) : TEn := fun n σ H Q => to σ H fun x H1 => tyV K T x H1 /\ t n σ H1 fun n1 xs H2 => r x xs n1 H2 Q
theorem vK {T id : String} {name : Str} {apos cpos : Pos} {to : TE} {r : V -> List V -> Nat -> Hp -> VKn -> Prop} (pa : PlainAttrs T) (slot : Slot T name id) (hty : typeOf (.builtin id) = pure (.type "method_descriptor")) (hm : MtN X id r) (ho : PE X o to) (ha : PAn X (e :: es) tan)
  (hbase : attributeBase o name X.env (eval o X.env) = eval o X.env := by rfl)
  (hfew : ((backTo cpos (starEach (e :: es) X.env)).all (fun x => !x.1) && (backToKw cpos (keywordEach [] X.env)).all (fun x => x.1.isSome)
   && decide ((e :: es).length + ([] : List Keyword).length + (if ([] : List Keyword).isEmpty then 0 else 1) < 30)) = true := by rfl)
  (hline : (apos.endLine == cpos.line) = true := by rfl) (hs : starEach (e :: es) X.env = (false, eval e X.env) :: starEach es X.env := by rfl) (hplain : (backTo cpos (starEach es X.env)).any (·.1) = false := by rfl) :
  PEn X (.Call (.Attribute o name apos) (e :: es) [] cpos) (nBM X.K T r to tan) := ⟨by
 intro pins s σ H n Q hn I h
 refine wpAny_Call_method_late hbase hfew hline rfl (gq hn (ho pins s σ H _ I h) fun v s1 hk ⟨x, H1, I1, r1, ty, q1⟩ => ?_)
 obtain ⟨h1, h2⟩ := Fq I1 r1 ty
 refine ⟨T, id, pa, slot, hty, h1, h2, ?_⟩
 have hA := ha.h cpos pins s1 σ H1 n _ hk I1 q1
 rw [hs] at hA ⊢
 refine Calls.callWith_builtin (by show (false || (backTo cpos (starEach es X.env)).any (·.1)) = false; rw [hplain] <;> rfl) (Calls.evalArgs_plain ?_)
 exact thn hA fun us s2 ⟨n2, vs, H2, hk2, I2, r2, q2⟩ => hm pins s2 σ H2 n2 x vs v us Q hk2 I2 r1 r2 q2⟩
def cz (zs : List (Str × Tok)) : List V := zs.map fun p => V.stk p.1 p.2
def Below (n : Nat) (zs : List (Str × Tok)) : Prop := ∀ p ∈ zs, 0 < p.2 /\ p.2 < n
theorem Below.mono {n m : Nat} {zs : List (Str × Tok)} (h : Below n zs) (l : n <= m) : Below m zs := fun p hp => ⟨(h p hp).1, lt_of_lt_of_le (h p hp).2 l⟩
theorem tK : ∀ {zs : List (Str × Tok)} {us : List Value}, Vals (cz zs) us -> us = strValues zs
 | [], _, .nil => rfl
 | p :: zs, _, .cons r t => by rw [tK t, (show _ = Value.str p.1 p.2 from r)]; rfl
def GJ (K : Frag) : V -> List V -> Nat -> Hp -> VKn -> Prop := fun x vs n H Q => ∃ sep p zs, x = .str sep /\ vs = [.ref p] /\ SqL K H p (cz zs) /\ Below n zs /\ ((zs.map (·.1)).map (·.length)).sum + (zs.map (·.1)).length * sep.length <= 16777216 /\
 ∀ k m, n <= m -> 0 < k -> k < m -> Q m (.stk (Txt.join sep (zs.map (·.1))) k) H
theorem xR : MtN X "str.join" (GJ X.K) := by
 intro pins s σ H n x vs v us Q hn I rx rv h
 obtain ⟨sep, p, zs, rfl, rfl, hq, hb, hz, q⟩ := h
 obtain ⟨t, rfl⟩ := rx
 obtain ⟨u, rfl, ru⟩ := vals1 rv
 cases (show u = Value.ref p from ru)
 obtain ⟨its, r, pl, _⟩ := I.list hq
 obtain rfl := tK r
 have hok := joinOk_of hz
 unfold JoinOk at hok
 rw [Bool.not_eq_true'] at hok
 refine call_meets F.slot_str_join (typeIs_str _ _ _) F.entry_str_join (F.args_str_join_2 _ _) (meets_str_join_list sep t p zs hok) ⟨pl.isList, ?_⟩
 have fr : (Txt.join sep (zs.map (·.1))).length <= sizeLine /\ EPn X pins σ Q (.str (Txt.join sep (zs.map (·.1))) s.toks) { s with toks := s.toks + 1 } :=
  ⟨joinFit_length hok, s.toks + 1, .stk _ s.toks, H, ⟨succ_pos _, le_refl _⟩, I.tok _, rfl, q _ _ (Nat.le_succ_of_le hn.2) (lt_of_lt_of_le hn.1 hn.2) (lt_succ_self _)⟩
 match zs, fr, hb, q with
 | [], fr, _, _ => exact fr
 | [a], _, hb, q => exact ⟨n, .stk a.1 a.2, H, hn, I, rfl, q _ _ (le_refl _) (hb a Z2).1 (hb a Z2).2⟩
 | _ :: _ :: _, fr, _, _ => exact fr
def Do : V -> List V -> Hp -> VK -> Prop := fun x vs H Q => ∃ z y w a b, x = .str z /\ vs = [.stk y a, .stk w b] /\ 0 < a /\ 0 < b /\ a ≠ b /\ (y == w) = false /\ z.length + (z.length + 1) * w.length <= 16777216 /\ Q (.str (Txt.replace z y w)) H
theorem Aa : MtR X "str.replace" Do := by
 intro pins s σ H x vs v us Q I rx rv h
 obtain ⟨z, y, w, a, b, rfl, rfl, ha, hb, hab, hyw, hz, q⟩ := h
 obtain ⟨t, rfl⟩ := rx
 obtain ⟨u1, u2, rfl, r1, r2⟩ := vals2 rv
 cases (show u1 = Value.str y a from r1)
 cases (show u2 = Value.str w b from r2)
 have hl : Builtin.Str.tooLong (z.length + (Builtin.Str.occurrences z y 0 z.length (z.length + 1)).length * w.length) = false := by
  have h1 := StrLaws.occ_length_le z y 0 z.length (z.length + 1)
  have h2 : (Builtin.Str.occurrences z y 0 z.length (z.length + 1)).length * w.length <= (z.length + 1) * w.length := Nat.mul_le_mul_right _ h1
  unfold Builtin.Str.tooLong sizeLine
  exact decide_eq_false Z1
 refine call_gives F.slot_str_replace (typeIs_str _ _ _) F.entry_str_replace (F.args_str_replace_3 _ _ _)
  (gives_str_replace z y w t a b fun _ => ⟨by simp [Nat.pos_iff_ne_zero.mp ha, Nat.pos_iff_ne_zero.mp hb], by simpa using hab, hyw, hl⟩) ?_
 have q' := q
 unfold Txt.replace at q'
 cases hc : ((Builtin.Str.occurrences z y 0 z.length (z.length + 1)).isEmpty || (y.length == 0 && w.length == 0))
 ·rw [hc] at q'
  simp only [Bool.false_eq_true, if_false] at q' ⊢
  exact ⟨fits_replaced y hz, .str _, H, I.tok _, ⟨_, rfl⟩, q'⟩
 ·rw [hc] at q'
  simp only [if_true] at q' ⊢
  exact ⟨.str _, H, I, ⟨_, rfl⟩, q'⟩
def fgt : V -> V
 | .stk x _ => .str x
 | v => v
theorem RelV.fgt {v : V} {u : Value} (r : RelV v u) : RelV (L2.fgt v) u := by
 cases v with
 | stk x t => exact ⟨t, r⟩
 | _ => exact r
theorem Vals.fgt : ∀ {xs : List V} {us : List Value}, Vals xs us -> Vals (xs.map L2.fgt) us
 | _, _, .nil => .nil
 | _, _, .cons r t => .cons r.fgt (Vals.fgt t)
def QZ (te : TE) : TE := fun σ H Q => te σ H fun v H1 => Q (fgt v) H1
theorem Mv (h : PE X e te) : PE X e (QZ te) := fun pins s σ H Q I q => thn (h pins s σ H _ I q) fun u s1 ⟨v, H1, I1, r, q1⟩ => ⟨_, H1, I1, r.fgt, q1⟩
def Rr (K : Frag) : R2 := fun x y H Q => ∃ p xs, y = .ref p /\ SqL K H p xs /\ gO (fgt x) = true /\ (xs.map fgt).all gO = true /\ Q (.bl (!inV (fgt x) (xs.map fgt))) H
theorem De : OpR X (compareOp .NotIn) (Rr X.K) := by
 intro pins s σ H x y v u Q I rx ry h
 obtain ⟨p, xs, rfl, hq, fx, fs, q⟩ := h
 cases ry
 obtain ⟨its, r, pl, hz⟩ := I.list hq
 refine SeqAt.notIn_listAt (eqU (fgt x)) pl.isList (fun w hw => nU rx.fgt fx r.fgt fs w (by simpa using hw)) ⟨.bl _, H, I, rfl, ?_⟩
 rw [show its.toArray.any (eqU (fgt x)) = its.any (eqU (fgt x)) by simp, qz r.fgt fs]
 exact q
end
def Tq (wi : TI) (g : TG) (tb : TSn) : TSn := fun D n0 σ H => wi σ H fun J H1 => ∃ W : Nat -> Nat -> Nat -> St -> Hp -> Prop, (∃ m, W n0 0 m σ H1) /\ ∀ n i m σ H, W n i m σ H ->
 (J.stop i H /\ D.nx n σ H) \/ (J.go i H /\ ∃ N : Nat -> St -> Hp -> Prop, (∀ n' σ' H', N n' σ' H' -> ∃ m', m' < m /\ W n' (i + 1) m' σ' H') /\ ∀ x H', J.yld i H x H' -> g x σ H' fun σ2 H2 => tb { D with nx := N } n σ2 H2)
section
variable {X : Cx}
theorem Ax {tg iter : Expr} {body : List Stmt} {wi : TI} {g : TG} {tb : TSn} {pos : Pos} (hp : PassesOwn (model X.prog X.w) X.A X.env X.xe) (hc : X.calm = true) (hi : PI X tg iter wi) (hg : PG X tg g) (hb : uE X body tb)
  (hs : ∀ x, foldedSetIterable iter X.env x = pure x := by intro _; rfl) : PSn X (.For tg iter body [] pos) (Tq wi g tb) := ⟨by
 intro pins s σ H n0 D hn0 I h
 refine wpAny_For (gq hn0 (hi pins s σ H _ I h) fun v s1 hk1 h1 => gq hk1 h1 fun itv s2 hk2 h2 => ?_) hs
 obtain ⟨it, fp, tn, J, H2, e, I2, T, st2, f2, W, ⟨m0, w0⟩, turn⟩ := h2
 subst e
 have stat : ∀ {H' : Hp}, (∀ b ∈ fp, H' b = none) -> ∀ b ∈ fp, nD X pins H' b := fun hn b hb => ⟨hn b hb, (f2 b hb).2⟩
 refine codeAny_forLoop_any (fun n s' => ∃ q i σ' H', Tk q s' /\ Inv X pins σ' H' s' /\ tn i s'.heap /\ (∀ b ∈ fp, H' b = none) /\ W q i n σ' H') ?_ m0 ⟨n0, 0, σ, H2, hk2, I2, st2, fun b hb => (f2 b hb).1, w0⟩
 rintro n s3 ⟨q, i, σ3, H3, hk3, I3, st3, fr3, w3⟩
 rcases turn q i n σ3 H3 w3 with ⟨stop, qn⟩ | ⟨go, N, hN, step⟩
 ·refine wpAny_passesOwn hp (gq hk3 (T.done X rfl rfl rfl hc i pins s3 σ3 H3 X.xe I3 (stat fr3) st3 stop) fun r s4 hk4 ⟨hr, I4⟩ => ?_)
  subst hr
  exact wpAny_execs_nil ⟨q, σ3, H3, hk4, I4, qn⟩
 ·refine wpAny_passesOwn hp (gq hk3 (T.item X rfl rfl rfl hc i pins s3 σ3 H3 X.xe I3 (stat fr3) st3 go) fun r s4 hk4 ⟨u, hr, h4⟩ => ?_)
  subst hr
  refine wpAny_passesOwn hp (gq hk4 h4 fun _ s5 hk5 ⟨x, H5, I5, r5, y5, st5, fr5⟩ => ?_)
  have I5' := I5.pinned (stat fr5) (T.obj _ _ st5)
  refine wpAny_passesOwn hp (gq hk5 (hg _ s5 σ3 H5 x u _ I5' r5 (step x H5 y5)) fun _ s6 hk6 ⟨σ6, H6, I6, q6⟩ => ?_)
  refine wpAny_passesOwn hp (thn (hb.h _ s6 σ6 H6 q _ hk6 I6 q6) fun f s7 q7 => ?_)
  have again : ∀ {q7 : Nat} {σ7 : St} {H7 : Hp}, Tk q7 s7 -> Inv X (pins ++ m5 fp s5.heap) σ7 H7 s7 -> N q7 σ7 H7 -> ∃ m, m < n /\ ∃ q i σ' H', Tk q s7 /\ Inv X pins σ' H' s7 /\ tn i s7.heap /\ (∀ b ∈ fp, H' b = none) /\ W q i m σ' H' := fun {q7 σ7 H7} hk7 I7 n7 => by
   obtain ⟨m', hm, w7⟩ := hN q7 σ7 H7 n7
   refine ⟨m', hm, q7, i + 1, σ7, H7, hk7, I7.unpinned, T.keep _ _ _ st5 fun b hb o e => (I7.pin (b, o) (mem_append_right _ (mem_append_right _ (cP hb e)))).1, fun b hb => ?_, w7⟩
   obtain ⟨o, e, d⟩ := T.obj _ _ st5 b hb
   exact (I7.pin (b, o) (mem_append_right _ (mem_append_right _ (cP hb e)))).2.1
  cases f with
  | next => obtain ⟨q8, σ7, H7, hk7, I7, n7⟩ := q7; exact again hk7 I7 n7
  | cont => exact q7.elim
  | brk => exact q7.elim
  | ret v => obtain ⟨q8, x7, σ7, H7, hk7, I7, r7, q7⟩ := q7; exact ⟨q8, x7, σ7, H7, hk7, I7.unpinned, r7, q7⟩⟩
end
theorem rW {lo : Int} {n n0 : Nat} {g : TG} {tb : TSn} {D : yD} {σ : St} {H : Hp} (Pv : Nat -> Nat -> St -> Hp -> Prop) (h0 : Pv 0 n0 σ H)
  (hs : ∀ i q σ H, i < n -> Pv i q σ H -> g (.int (lo + i)) σ H fun σ2 H2 => tb { D with nx := Pv (i + 1) } q σ2 H2) (hd : ∀ q σ H, Pv n q σ H -> D.nx q σ H) :
  ∃ W : Nat -> Nat -> Nat -> St -> Hp -> Prop, (∃ m, W n0 0 m σ H) /\ ∀ q i m σ H, W q i m σ H ->
   ((Itr lo n).stop i H /\ D.nx q σ H) \/ ((Itr lo n).go i H /\ ∃ N : Nat -> St -> Hp -> Prop, (∀ n' σ' H', N n' σ' H' -> ∃ m', m' < m /\ W n' (i + 1) m' σ' H') /\ ∀ x H', (Itr lo n).yld i H x H' -> g x σ H' fun σ2 H2 => tb { D with nx := N } q σ2 H2) := by
 refine ⟨fun q i m σ H => m = n - i /\ i <= n /\ Pv i q σ H, ⟨n, Z2, zero_le _, h0⟩, ?_⟩
 rintro q i m σ H ⟨rfl, hi, p⟩
 by_cases hlt : i < n
 ·refine .inr ⟨hlt, Pv (i + 1), fun q' σ' H' p' => ⟨n - (i + 1), Z1, rfl, hlt, p'⟩, fun x H' y => ?_⟩
  obtain ⟨e, y⟩ := y
  subst e y
  exact hs i q σ _ hlt p
 ·have e : i = n := by omega
  subst e
  exact .inl ⟨le_refl _, hd q σ H p⟩
def uN (g : TG) (te : TEn) (J : It) (n0 : Nat) (σ0 : St) (H1 : Hp) (Fin : Nat -> List V -> Hp -> Prop) : Prop :=
 ∃ W : Nat -> Nat -> Nat -> St -> List V -> Hp -> Prop, (∃ m, W n0 0 m σ0 [] H1) /\ ∀ n i m τ ys H, W n i m τ ys H ->
  (J.stop i H /\ Fin n ys H) \/ (J.go i H /\ ∀ x H', J.yld i H x H' -> g x τ H' fun τ2 H2 => te n τ2 H2 fun n' y H4 => ys.length < sizeLine /\ ∃ m', m' < m /\ W n' (i + 1) m' τ2 (ys ++ [y]) H4)
def Oq (ix : List (Option Nat)) (wi : TI) (g : TG) (te : TEn) : TEn := fun n σ H Q => wi σ H fun J H1 => uN g te J n (lift ix σ) H1 fun n' ys H' => ∀ p, H' p = none -> Q n' (.ref p) (upd H' p (.lst ys))
section
variable {X : Cx} {pins : OP} {σ : St} {H2 : Hp} {s2 : Shared} {N : List Str} {ix : List (Option Nat)} {sc : Scope} {cl : List (Str × Addr)}
theorem zQ {el tg src : Expr} {pos : Pos} {g : TG} {te : TEn} {n0 : Nat} {J : It} {fp : List Addr} {it : Addr} {tn : Nat -> Heap -> Prop} {E : EV} {Fin : Nat -> List V -> Hp -> Prop} {RR : Value -> Addr -> Result -> Shared -> Prop}
  (hn0 : Tk n0 s2) (I : Inv X pins σ H2 s2) (hc : X.calm = true) (hb : iT X.env.scope X.N N ix sc = true) (c1 : ∀ x c, cl.lookup x = some c -> X.env.cells.lookup x = some c) (c2 : ∀ x, (x, NameKind.free) ∈ sc.names -> ∃ c, cl.lookup x = some c)
  (T : Turn X.prog X.w X.K tg J fp it tn) (st : tn 0 s2.heap) (hf : ∀ b ∈ fp, nD X pins H2 b)
  (hg : ∀ C fp, PG (blk X N sc cl C fp s2 H2) tg g) (he : ∀ C fp, PEn (blk X N sc cl C fp s2 H2) el te)
  (hW : uN g te J n0 (lift ix σ) H2 Fin)
  (hRR : ∀ D C s' n ys H', Tk n s' -> H' D = none -> (∃ m, s'.heap.Ns C m) -> Inv X pins σ (upd H' D (.lst ys)) s' -> nD X pins (upd H' D (.lst ys)) C -> Fin n ys H' -> RR (.ref D) C (.ok .next) s') :
  wpAny (model X.prog X.w) X.A (newList []) (fun acc s3 => wpAny (model X.prog X.w) X.A (newFunctionEnv sc X.env.globals cl [] X.env.qual none .none (some X.env)) (fun cenv s4 =>
   codeAny (model X.prog X.w) X.A (.compStart (.ListComp el [⟨tg, src, [], 0⟩] sc pos) 0 (.ref it) acc { cenv with scope := relabel sc X.env }) (RR acc cenv.locals) s4) E s3) E s2 := by
 obtain ⟨W, ⟨m0, w0⟩, turn⟩ := hW
 have hb' := hb
 unfold iT at hb'
 simp only [and_eq_true] at hb'
 obtain ⟨⟨hk, hn⟩, hi⟩ := hb'
 have nocell : ∀ y ∈ sc.names, y.2 ≠ NameKind.cell := fun y hy => by
  have := all_eq_true.mp hn y hy
  simp only [and_eq_true] at this
  simpa using this.1.1
 have hkind : sc.kind = .function := eq_of_beq hk
 refine wpAny_newObj_type (wpAny_newFunctionEnv nocell (by intro y hy; simp at hy) (fun h1 hns hsb => ?_) hkind)
 dsimp only at hns hsb ⊢
 generalize hP : s2.heap.push { cls := .type "list", dict := none, data := .seq ([] : List Value).toArray } = P2 at hns hsb ⊢
 have hC : P2.objs.size = s2.heap.objs.size + 1 := by rw [<- hP, Heap.size_push]
 have hDC : s2.heap.objs.size ≠ P2.objs.size := by rw [hC]; exact ne_of_lt (lt_succ_self _)
 have hCle : s2.heap.objs.size <= P2.objs.size := by rw [hC]; omega
 have fpo : ∀ b ∈ fp, ∃ o, s2.heap.get? b = some o := fun b hb => let ⟨o, e, _⟩ := T.obj _ _ st b hb; ⟨o, e⟩
 have old : ∀ b o, s2.heap.get? b = some o -> h1.get? b = some o := fun b o e => by
  refine (hsb.2 b ?_).trans (Heap.get?_push_of_some _ (hP ▸ Heap.get?_push_of_some _ e))
  rw [hC]; exact ne_of_lt (Nat.lt_succ_of_lt (Heap.lt_size e))
 have hacc : h1.get? s2.heap.objs.size = some { cls := .type "list", dict := none, data := .seq ([] : List Value).toArray } :=
  (hsb.2 _ hDC).trans (Heap.get?_push_of_some _ (hP ▸ Heap.get?_push_size _ rfl))
 have bok : (blk X N sc cl P2.objs.size fp s2 H2).Ok := GP I hb c1 c2 hf fpo hCle
 have frD : ∀ {b : Addr}, s2.heap.objs.size <= b -> b ∉ frs X.stack := fun hb hz => by
  rcases mem_cons.mp (I.stkSub _ hz) with z | z
  ·exact absurd (z ▸ hb) (Nat.not_le.mpr I.lt)
  ·exact I.nofs hb z
 have cellD : ∀ x c, cl.lookup x = some c -> c < s2.heap.objs.size := fun x c e => by
  obtain ⟨v, q⟩ := I.cell x c (c1 x c e)
  exact q.lt
 have I0 : Inv (blk X N sc cl P2.objs.size fp s2 H2) [(s2.heap.objs.size, { cls := .type "list", dict := none, data := .seq ([] : List Value).toArray })] (lift ix σ) H2 { s2 with heap := h1, toks := s2.toks + ([] : List (Str × Value)).length } := by
  refine ⟨bok, rfl, I.bare, Un.kept old, ⟨_, hns, fun i x v e1 e2 e3 => ?_⟩, fun x c e => ?_, I.hok.fresh hCle, fun x c e => I.freeC x c (c1 x c e), fun p hp => ?_, I.hok.kept old, ?_⟩
  ·obtain ⟨k, q1, q2⟩ := Bq e2
   obtain ⟨y, z1, z2, z3⟩ := qt i k hi q1
   have e1' : N[i]? = some x := e1
   rw [e1'] at z1
   cases z1
   have hin : (x, NameKind.free) ∈ sc.names := PySem.mem_of_lookup z3
   obtain ⟨c, hcl⟩ := c2 x hin
   have okind : X.env.scope.names.lookup x = some .cell \/ X.env.scope.names.lookup x = some .free := by
    have := all_eq_true.mp hn _ hin
    simp only [and_eq_true] at this
    simpa using this.2
   obtain ⟨m, hm, hl⟩ := I.loc
   obtain ⟨u, r, l⟩ := hl k x v z2 q2 (by rcases okind with z | z; exact .inr (.inl z); exact .inr (.inr z))
   refine ⟨u, r, .inr ⟨mZ z3, c, hcl, ?_⟩⟩
   rcases l with ⟨lk, _⟩ | ⟨_, c', hc', z⟩
   ·have lk' : X.env.scope.names.lookup x = some .local := lk
    rcases okind with q | q <;> rw [q] at lk' <;> cases lk'
   ·rw [c1 x c hcl] at hc'
    cases hc'
    obtain ⟨oc, ho, hd⟩ := z
    exact ⟨oc, old _ _ ho, hd⟩
  ·obtain ⟨v, oc, ho, hd⟩ := I.cell x c (c1 x c e)
   exact ⟨v, oc, old _ _ ho, hd⟩
  ·have hp' : p = (s2.heap.objs.size, { cls := .type "list", dict := none, data := .seq ([] : List Value).toArray }) := by
    rcases mem_append.mp hp with z | z
    ·exact absurd (show p ∈ ([] : OP) from z) Z2
    ·simpa using z
   subst hp'
   exact ⟨hacc, I.fresh, hDC, frD (le_refl _), fun v z => by cases z⟩
  ·show (lift ix σ).length = N.length
   unfold lift
   rw [length_map]
   exact oE hi
 have stat : ∀ {o : Obj} {H' : Hp}, (∀ b ∈ fp, H' b = none) -> ∀ b ∈ fp, nD (blk X N sc cl P2.objs.size fp s2 H2) [(s2.heap.objs.size, o)] H' b := fun {o H'} hz b hb => by
  obtain ⟨_, g2, g3, g4, g5, g6⟩ := hf b hb
  obtain ⟨ob, eb⟩ := fpo b hb
  have lb := Heap.lt_size eb
  refine ⟨hz b hb, ?_, ?_, .inl hb, fun x c e => g5 x c (c1 x c e), fun p hp => ?_⟩
  ·show b ≠ P2.objs.size
   rw [hC]; exact ne_of_lt (Nat.lt_succ_of_lt lb)
  ·intro hz
   rcases mem_cons.mp (I.stkSub b hz) with z | z
   ·exact g2 z
   ·exact g3 z
  ·have hp' : p = (s2.heap.objs.size, o) := by
    rcases mem_append.mp hp with z | z
    ·exact absurd (show p ∈ ([] : OP) from z) Z2
    ·simpa using z
   subst hp'
   show s2.heap.objs.size ≠ b
   exact ne_of_gt lb
 have loop : ∀ s4 : Shared, s4 = { s2 with heap := h1, toks := s2.toks + ([] : List (Str × Value)).length } ->
   codeAny (model X.prog X.w) X.A (.compLoop (.ListComp el [⟨tg, src, [], 0⟩] sc pos) 0 (.ref it) (.ref s2.heap.objs.size) (compEnvC sc cl P2.objs.size X.env)) (RR (.ref s2.heap.objs.size) P2.objs.size) s4 := by
  rintro s4 rfl
  refine J2 (fun n s' => ∃ (q i : Nat) (τ : St) (ys : List V) (its : List Value) (k : Nat) (H' : Hp), Tk q s' /\ Vals ys its /\ ys.length <= sizeLine /\
    Inv (blk X N sc cl P2.objs.size fp s2 H2) [(s2.heap.objs.size, { cls := .type "list", data := .seq its.toArray k })] τ H' s' /\ tn i s'.heap /\ (∀ b ∈ fp, H' b = none) /\ W q i n τ ys H') ?_ m0
   ⟨n0, 0, _, [], [], 0, H2, hn0, .nil, zero_le _, I0, T.keep _ _ _ st fun b _ o e => old b o e, fun b hb => (hf b hb).1, w0⟩
  rintro n s5 ⟨q0, i, τ, ys, its, k, H5, hk5, rv, hz, I5, st5, fr5, w5⟩
  rcases turn q0 i n τ ys H5 w5 with ⟨stop, fin⟩ | ⟨go, step⟩
  ·refine gq hk5 (T.done (blk X N sc cl P2.objs.size fp s2 H2) rfl rfl rfl hc i _ s5 τ H5 (fun _ _ => False) I5 (stat fr5) st5 stop) fun r s6 hk6 ⟨hr, I6⟩ => ?_
   subst hr
   obtain ⟨m, hns6, _⟩ := I6.loc
   obtain ⟨gD, fD, _, _, _⟩ := I6.pin (s2.heap.objs.size, { cls := .type "list", data := .seq its.toArray k }) (mem_append_right _ Z2)
   have fD' : H5 s2.heap.objs.size = none := fD
   refine hRR _ _ s6 q0 ys H5 hk6 fD' ⟨m, hns6⟩ ?_ (I.fpOk hCle ?_) fin
   ·refine I.call' (ch := fp) I6.os (Un.grow I6.base (le_refl _) I.fresh) (HOk.grow I6.hok fD' ⟨hz, its, k, rv, gD⟩) I6.bare fun b hb => ?_
    obtain ⟨_, g2, _, g4, g5, g6⟩ := hf b hb
    exact ⟨g4, g2, g5, g6⟩
   ·rw [aD (Ne.symm hDC)]
    exact I6.free
  ·refine gq hk5 (T.item (blk X N sc cl P2.objs.size fp s2 H2) rfl rfl rfl hc i _ s5 τ H5 (fun _ _ => False) I5 (stat fr5) st5 go) fun r s6 hk6 ⟨u, hr, h6⟩ => ?_
   subst hr
   refine gq hk6 h6 fun _ s7 hk7 ⟨x, H7, I7, r7, y7, st7, fr7⟩ => ?_
   have I7' := I7.pinned (stat fr7) (T.obj _ _ st7)
   refine gq hk7 (hg _ _ _ s7 τ H7 x u _ I7' r7 (step x H7 y7)) fun _ s8 hk8 ⟨τ8, H8, I8, q8⟩ => ?_
   refine gq hk8 (kZ (X := blk X N sc cl P2.objs.size fp s2 H2) _ s8 τ8 H8 (fun b H9 => b = true /\ H9 = H8) I8 ⟨rfl, rfl⟩) fun ok s9 hk9 ⟨H9, I9, eok, e9⟩ => ?_
   subst eok e9
   have tail : ∀ {s' : Shared} {τ' : St} {H' : Hp}, Inv (blk X N sc cl P2.objs.size fp s2 H2) ([(s2.heap.objs.size, { cls := .type "list", data := .seq its.toArray k })] ++ m5 fp s7.heap) τ' H' s' ->
     (s'.heap.get? s2.heap.objs.size = some { cls := .type "list", data := .seq its.toArray k } /\ H' s2.heap.objs.size = none) /\ (∀ b ∈ fp, ∀ o, s7.heap.get? b = some o -> s'.heap.get? b = some o) /\ ∀ b ∈ fp, H' b = none := fun {s' τ' H'} I' => by
    refine ⟨?_, fun b hb o e => (I'.pin (b, o) (mem_append_right _ (mem_append_right _ (cP hb e)))).1, fun b hb => ?_⟩
    ·obtain ⟨a1, a2, _⟩ := I'.pin (s2.heap.objs.size, { cls := .type "list", data := .seq its.toArray k }) (mem_append_right _ (mem_append_left _ Z2))
     exact ⟨a1, a2⟩
    ·obtain ⟨o, e, _⟩ := T.obj _ _ st7 b hb
     exact (I'.pin (b, o) (mem_append_right _ (mem_append_right _ (cP hb e)))).2.1
   refine thn ((he _ _).h _ s9 τ8 H9 q0 _ hk9 I9 q8) fun v s10 ⟨q1, y, H10, hk10, I10, r10, hl, m', hm, w10⟩ => ?_
   obtain ⟨⟨gD, fD⟩, k2, k3⟩ := tail I10
   have hlen := rv.length
   refine call_meets F.slot_list_append ⟨_, gD, rfl⟩ F.entry_list_append (F.args_list_append_2 _ _) (list_append s2.heap.objs.size its.toArray k v (by rw [size_toArray]; omega)) ⟨gD, ?_⟩
   obtain ⟨k', q⟩ : ∃ k', (s10.heap.update s2.heap.objs.size (Obj.mapSeq (·.push v))).get? s2.heap.objs.size = some { cls := .type "list", data := .seq (its ++ [v]).toArray k' } := by
    have q := PySem.IsL.update gD (·.push v)
    rw [show (its.toArray.push v) = (its ++ [v]).toArray from by simp] at q
    exact ⟨_, q⟩
   have other : ∀ b o, b ≠ s2.heap.objs.size -> s10.heap.get? b = some o -> (s10.heap.update s2.heap.objs.size (Obj.mapSeq (·.push v))).get? b = some o := fun b o hb e => (Heap.get?_update_other s10.heap _ (Ne.symm hb)).trans e
   have Ia : Inv (blk X N sc cl P2.objs.size fp s2 H2) [] τ8 H10 { s10 with heap := s10.heap.update s2.heap.objs.size (Obj.mapSeq (·.push v)), toks := s10.toks } :=
    (I10.pins_of (pins' := []) fun p hp => nomatch hp).turned other fD hDC (.inr (le_refl _)) (fun x c e => ne_of_lt (cellD x c e)) fun p hp => absurd (show p ∈ ([] : OP) from hp) Z2
   refine ⟨m', hm, q1, i + 1, τ8, ys ++ [y], its ++ [v], k', H10, hk10, rv.append (.cons r10 .nil), by rw [length_append, List.length_singleton]; omega, ?_, T.keep _ _ _ st7 fun b hb o e => ?_, k3, w10⟩
   ·refine Ia.pins_of fun p hp => ?_
    have hp' := mem_singleton.mp hp
    subst hp'
    exact ⟨q, fD, hDC, frD (le_refl _), fun v z => by cases z⟩
   ·obtain ⟨ob, eb⟩ := fpo b hb
    exact other b o (ne_of_lt (Heap.lt_size eb)) (k2 b hb o e)
 exact codeAny_compStart_list (loop _ rfl) (T.self X.A 0 _ _ _ (T.keep _ _ _ st fun b _ o e => old b o e) (loop _ rfl))
end
section
variable {X : Cx} {N : List Str} {ix : List (Option Nat)} {sc : Scope} {el tg src : Expr} {wi : TI} {g : TG} {te : TEn} {pos : Pos}
theorem rD (ix : List (Option Nat)) (hc : X.calm = true) (hb : iT X.env.scope X.N N ix sc = true) (hi : PI X tg src wi)
  (hg : ∀ cl C fp s H, PG (blk X N sc cl C fp s H) tg g) (he : ∀ cl C fp s H, PEn (blk X N sc cl C fp s H) el te)
  (hs : ∀ x, foldedSetIterable src X.env x = pure x := by intro _; rfl) : PEn X (.ListComp el [⟨tg, src, [], 0⟩] sc pos) (Oq ix wi g te) := ⟨by
 intro pins s σ H n0 Q hn0 I h
 obtain ⟨cl, hcl, c1, c2⟩ := I.clos hb
 obtain ⟨hk, hn⟩ := ph hb
 rw [eval_ListComp]
 refine wpAny_comprehension_free (use := none) rfl hs hcl hk hn (gq hn0 (hi pins s σ H _ I h) fun xv s1 hk1 h1 => gq hk1 h1 fun itv s2 hk2 h2 => ?_)
 obtain ⟨it, fp, tn, J, H2, rfl, I2, T, st, f2, hW⟩ := h2
 refine zQ (RR := fun acc C => compPost (model X.prog X.w) X.A X.xe none (EPn X pins σ Q) acc C) hk2 I2 hc hb c1 c2 T st f2 (fun C fp => hg cl C fp s2 H2) (fun C fp => he cl C fp s2 H2) hW ?_
 intro D C s' n ys H' hk hD ⟨m, hm⟩ I' fC fin
 refine ⟨m, hm, fun h' hs' => ⟨n, .ref D, _, hk, ?_, rfl, fin D hD⟩⟩
 obtain ⟨g1, g2, _, g4, g5, g6⟩ := fC
 exact I'.turned (t' := s'.toks) (fun b o hb e => (hs'.2 b hb).trans e) g1 g2 g4 g5 g6⟩
end
theorem J8 {J : It} {m : Nat} {te : TEn} {τ0 : St} {H : Hp} {n0 : Nat} {Fin : Nat -> List V -> Hp -> Prop} (F : Nat -> Str) (hm : m <= sizeLine) (X : Nat -> V)
  (hgo : ∀ i H', au H H' -> i < m -> J.go i H') (hst : ∀ H', au H H' -> J.stop m H') (hy : ∀ i H' x H'', au H H' -> i < m -> J.yld i H' x H'' -> x = X i /\ H'' = H')
  (hte : ∀ (i n : Nat) H' (Q : VKn), i < m -> n0 <= n -> au H H' -> (∀ n' k H'', n <= n' -> au H' H'' -> 0 < k -> k < n' -> Q n' (.stk (F i) k) H'') -> te n (τ0.set 0 (some (X i))) H' Q)
  (hfin : ∀ n zs H', n0 <= n -> au H H' -> zs.map (·.1) = (List.range m).map F -> Below n zs -> Fin n (cz zs) H') : uN (dg 0) te J n0 τ0 H Fin := by
 refine ⟨fun n i k τ ys H' => k = m - i /\ i <= m /\ n0 <= n /\ au H H' /\ (∃ zs, ys = cz zs /\ zs.map (·.1) = (List.range i).map F /\ Below n zs) /\ ∃ v, τ = τ0.set 0 v \/ τ = τ0,
  ⟨m, rfl, zero_le _, le_refl _, au.refl _, ⟨[], rfl, rfl, fun p hp => by cases hp⟩, none, .inr rfl⟩, ?_⟩
 rintro n i k τ ys H' ⟨rfl, hi, hn, sm, ⟨zs, rfl, hz, hb⟩, v, hτ⟩
 by_cases hlt : i < m
 ·refine .inr ⟨hgo i H' sm hlt, fun x H'' y => ?_⟩
  obtain ⟨rfl, rfl⟩ := hy i H' x H'' sm hlt y
  have e2 : τ.set 0 (some (X i)) = τ0.set 0 (some (X i)) := by
   rcases hτ with rfl | rfl
   ·rw [set_set]
   ·rfl
  unfold dg
  rw [e2]
  have hl : zs.length = i := by have := congrArg List.length hz; simpa using this
  refine hte i n _ _ hlt hn sm fun n' k H4 hn' s4 k0 k1 => ⟨by unfold cz; rw [length_map]; omega, m - (i + 1), Z1, rfl, hlt, le_trans hn hn', sm.trans s4, ⟨zs ++ [(F i, k)], by unfold cz; rw [map_append]; rfl, ?_, ?_⟩, _, .inl rfl⟩
  ·rw [map_append, hz, List.range_succ, map_append]; rfl
  ·intro p hp
   rcases mem_append.mp hp with h | h
   ·exact ⟨(hb p h).1, lt_of_lt_of_le (hb p h).2 hn'⟩
   ·cases mem_singleton.mp h; exact ⟨k0, k1⟩
 ·have e : i = m := by omega
  subst e
  exact .inl ⟨hst H' sm, hfin n zs H' hn sm hz hb⟩
abbrev SpN := List V -> Hp -> Nat -> VKn -> Prop
def CRn (outer : List Env) (P : Program) (w : World) (H : Hp) (s : Shared) (Q : VKn) (r : Result) (s' : Shared) : Prop :=
 match r with
 | .ok (.ret u) => ∃ n, Tk n s' /\ CE outer P w H s (Q n) u s'
 | _ => False
structure yg (P : Program) (w : World) (K : Frag) (mg : MG) (base : Heap) (k : Nat) (f : Addr) (fd : FuncData) (ps : List Str) (sp : SpN) : Prop where
 len : ∀ vs H n Q, sp vs H n Q -> vs.length = ps.length
 run : ∀ (A : Around) (outer : List Env) (s : Shared) (H : Hp) (args : Args) (us : List Value) (vs : List V) (n : Nat) (Q : VKn), Tk n s -> aX k A -> pA P w K mg base A outer s H -> BindsTo s fd args (ps.zip us) -> Vals vs us -> sp vs H n Q ->
  codeAny (model P w) A (.call (.ref f) args) (CRn outer P w H s Q) s
section
variable {P : Program} {w : World} {K : Frag} {mg : MG} {base : Heap}
theorem Fun.okN {x qual : Str} {st : Stmt} {f : Addr} {fd : FuncData} {N ps : List Str} {k : Nat} {sp : SpN} (F : Fun K x qual st f fd) (S : aG N ps (az st)) (len : ∀ vs H n Q, sp vs H n Q -> vs.length = ps.length)
  (hbody : ∀ (cdv : Value) (A : Around) (outer : List Env) (s : Shared) (H : Hp) (vs : List V) (n : Nat) (Q : VKn) (E : XK), 0 < n -> aX k (A.deeper (envOfC qual (az st) s.heap.objs.size f cdv)) -> sp vs H n Q ->
   ∃ t, uE (jy CX0 P w K mg base N qual (az st) f cdv A outer s H E).nox (bQ st) t /\ t { nx := fun _ _ _ => False, rt := Q } n (start N vs) H) : yg P w K mg base (k + 1) f fd ps sp := by
 obtain ⟨oc, od, kV, doc, pm, an, cdv, ct, osl, rfl, lk, hcd⟩ := F.ex
 refine ⟨len, fun A outer s H args us vs n Q hn hr e0 hb r hsp => ?_⟩
 have hl := len _ _ _ _ hsp
 have KX : K.In s.heap := e0.mod.kin.keeps fun b o e => (e0.bs b o e).1
 have lim : s.heap.NoLimit := e0.mod.nolimit.keeps fun b o e => (e0.bs b o e).1
 have hkind : ∀ y ∈ ps.zip us, (az st).names.lookup y.1 = some .local \/ ((az st).names.lookup y.1 = some .cell /\ ((cellsFrom (s.heap.objs.size + 1) (az st).names []).lookup y.1).isSome = true) := fun ⟨n, v⟩ hy => by
  rcases S.par n (of_mem_zip hy).1 with q | q
  ·exact .inl q
  ·exact .inr ⟨q, cellsFrom_some _ _ _ (.inl q)⟩
 refine codeAny_call_function hr.depth (KX _ _ lk) rfl S.co S.gen rfl (codeRec_of KX hcd) (hb _ _ _ _ ?_)
 refine wpAny_with_toks hn.2 (wpAny_mono (Q := _) (wpAny_newFunctionEnv_cells S.kind hkind fun env he s1 x hle => ?_) (fun _ _ z => z) fun _ _ z _ => z)
 subst he
 refine ⟨lim.keeps x.toInCall.keep, codeAny_func ?_⟩
 obtain ⟨t, ht, hq⟩ := hbody cdv A outer s H vs n Q E0 hn.1 (hr.deeper _) hsp
 have I : Inv (jy CX0 P w K mg base N qual (az st) f cdv A outer s H E0) [] (start N vs) H s1 := pD S hr.hd e0 hl r x
 have hn1 : Tk n s1 := ⟨hn.1, hle⟩
 refine wpAny_mono (ht.h [] s1 (start N vs) H n _ hn1 (I.wish _) hq) (fun fl s' hs => ?_) fun e s' hs => False.elim hs
 cases fl with
 | ret u =>
  obtain ⟨n', v, σ', H', hk, J, rv, q⟩ := hs
  exact ⟨n', hk, v, H', J.os, J.bare, J.base, J.hok, rv, q⟩
 | next =>
  obtain ⟨_, _, _, _, _, q⟩ := hs
  exact False.elim q
 | brk => exact (show False from hs).elim
 | cont => exact (show False from hs).elim
end
section
variable {X : Cx} {k : Nat} {f : Addr} {fd : FuncData} {ps : List Str} {sp : SpN} {x : Str} {st : Stmt} {p pos : Pos} {e : Expr} {es : List Expr} {t : TA}
theorem zP {pins : OP} {s : Shared} {σ : St} {H : Hp} {Q : VKn} (A : FnAt X.K X.mg x st ps f fd) (F : yg X.prog X.w X.K X.mg X.base k f fd ps sp) (hr : aX k X.A) (I : Inv X pins σ H s)
  (ha : wpAny (model X.prog X.w) X.A (spliced (backTo pos (starEach (e :: es) X.env))) (APn X pins σ fun n vs H1 => sp vs H1 n Q) X.xe s) (hg : Gl X x := by rfl)
  (hdb : (x == ("__debug__" : Str)) = false := by decide) (he : starEach (e :: es) X.env = (false, eval e X.env) :: starEach es X.env := by rfl) (hpl : (backTo pos (starEach es X.env)).any (·.1) = false := by rfl) :
  wpAny (model X.prog X.w) X.A (eval (.Call (.Name x p) (e :: es) [] pos) X.env) (EPn X pins σ Q) X.xe s := by
 refine wpAny_Call_Name_kw (dq I hg A.m ?_ hdb)
 refine callWith_K (h₀ := X.base) I.ok.mod.kin A.F.kp (thn ha fun us s1 ⟨n, vs, H1, hk, I1, r, q⟩ => ⟨I1.kIn, ?_⟩) he hpl
 have hl : us.length = ps.length := by rw [<- r.length]; exact F.len _ _ _ _ q
 have hb := A.b s1 us I1.kIn (by simpa using hl)
 rw [append_nil] at hb
 refine wpAny_call (codeAny_mono (F.run X.A X.stack s1 H1 ⟨us, []⟩ us vs n Q hk hr I1.env0 hb r q) fun r s' hq => ?_)
 cases r with
 | error e => exact False.elim hq
 | ok fl =>
  cases fl with
  | ret u =>
   obtain ⟨n', hk', ce⟩ := hq
   obtain ⟨v, H', I', rv, q'⟩ := I1.after ce
   exact ⟨n', v, H', hk', I', rv, q'⟩
  | next => exact False.elim hq
  | brk => exact False.elim hq
  | cont => exact False.elim hq
def Ms (sp : SpN) (te : TE) (c : Int) (i : Nat) (u : TSn) : TS := fun D σ H => te σ H fun v H1 => sp [v, .int c] H1 1 fun n w H2 => u { nx := fun _ => D.nx, rt := fun _ => D.rt } n (σ.set i (some w)) H2
theorem yF {y : Str} {i j : Nat} {c : Int} {cp pos' spos : Pos} {rest : List Stmt} {u : TSn} {te : TE} (A : FnAt X.K X.mg x st ps f fd) (F : yg X.prog X.w X.K X.mg X.base k f fd ps sp) (hr : aX k X.A) (he1 : PE X e te)
  (hN : X.N.Nodup) (hi : X.N[i]? = some y) (hx : Loc X.env.scope y) (h2 : uE X rest u) (hg : Gl X x := by rfl) (hdb : (x == ("__debug__" : Str)) = false := by decide)
  (he : starEach [e, .Constant (.int c) j cp] X.env = (false, eval e X.env) :: starEach [.Constant (.int c) j cp] X.env := by rfl) (hpl : (backTo pos (starEach [.Constant (.int c) j cp] X.env)).any (·.1) = false := by rfl)
  (he2 : starEach [.Constant (.int c) j cp] X.env = [(false, eval (.Constant (.int c) j cp) X.env)] := by rfl)
  (hs : swapsWith (.Call (.Name x p) [e, .Constant (.int c) j cp] [] pos) (some (.Name y pos')) spos.line X.env = pure false := by rfl) (hf : X.fn y = true \/ X.env.scope.names.lookup y = some .local := by first | exact .inl rfl | exact .inr rfl | assumption) :
  QSs X (.Assign [.Name y pos'] (.Call (.Name x p) [e, .Constant (.int c) j cp] [] pos) spos :: rest) (Ms sp te c i u) := ⟨by
 intro pins s σ H D I h
 have hA : wpAny (model X.prog X.w) X.A (spliced (backTo pos (starEach [e, .Constant (.int c) j cp] X.env))) (APn X pins σ fun n vs H1 => sp vs H1 n fun n w H2 => u { nx := fun _ => D.nx, rt := fun _ => D.rt } n (σ.set i (some w)) H2) X.xe s := by
  rw [he]
  show wpAny _ _ (spliced ((false, eval e X.env) :: backTo pos (starEach [.Constant (.int c) j cp] X.env))) _ _ s
  refine Calls.spliced_cons (thn (he1 pins s σ H _ I h) fun u s1 ⟨v, H1, I1, r1, q1⟩ => ?_)
  rw [he2]
  show wpAny _ _ (spliced ((false, eval (.Constant (.int c) j cp) X.env) :: backTo pos [])) _ _ s1
  refine Calls.spliced_cons (wpAny_Constant_int ?_)
  exact Calls.spliced_nil ⟨1, [v, .int c], H1, ⟨Nat.one_pos, Nat.succ_le_succ (zero_le _)⟩, I1.tok _, .cons r1 (.cons ⟨_, rfl⟩ .nil), q1⟩
 refine wpAny_execs_cons (wpAny_Assign_Name (thn (zP A F hr I hA hg hdb he hpl) fun v s1 ⟨n1, y, H1, hk, I1, r1, q1⟩ => ?_) hs)
 refine wpAny_with_toks hk.2 ?_
 refine wpAny_mono (jw (Q := fun _ s2 => n1 <= s2.toks -> wpAny (model X.prog X.w) X.A (execs rest X.env) (SP X pins D) X.xe s2) I1 hN hi hx r1 (fun s2 I2 hle => ?_) hf) (fun _ _ z => z) fun _ _ z _ => z
 refine thn (h2.h pins s2 _ H1 n1 _ ⟨hk.1, hle⟩ I2 q1) fun fl s3 q3 => ?_
 cases fl with
 | next => obtain ⟨_, σ', H', _, I', q'⟩ := q3; exact ⟨σ', H', I', q'⟩
 | ret u => obtain ⟨_, v, σ', H', _, I', r, q'⟩ := q3; exact ⟨v, σ', H', I', r, q'⟩
 | brk => exact q3.elim
 | cont => exact q3.elim⟩
theorem Dl {K : Frag} (h : X.K = K) : MtN X "str.join" (GJ K) := by subst h; exact xR
theorem JS {K : Frag} {o : Expr} {T id : String} {name : Str} {apos cpos : Pos} {to : TE} {tan : TAn} {r : V -> List V -> Nat -> Hp -> VKn -> Prop} (hK : X.K = K) (pa : PlainAttrs T) (slot : Slot T name id) (hty : typeOf (.builtin id) = pure (.type "method_descriptor")) (hm : MtN X id r) (ho : PE X o to) (ha : PAn X (e :: es) tan)
  (hbase : attributeBase o name X.env (eval o X.env) = eval o X.env := by rfl)
  (hfew : ((backTo cpos (starEach (e :: es) X.env)).all (fun x => !x.1) && (backToKw cpos (keywordEach [] X.env)).all (fun x => x.1.isSome)
   && decide ((e :: es).length + ([] : List Keyword).length + (if ([] : List Keyword).isEmpty then 0 else 1) < 30)) = true := by rfl)
  (hline : (apos.endLine == cpos.line) = true := by rfl) (hs : starEach (e :: es) X.env = (false, eval e X.env) :: starEach es X.env := by rfl) (hplain : (backTo cpos (starEach es X.env)).any (·.1) = false := by rfl) :
  PEn X (.Call (.Attribute o name apos) (e :: es) [] cpos) (nBM K T r to tan) := by subst hK; exact vK pa slot hty hm ho ha hbase hfew hline hs hplain
end
theorem bf {N P : List Str} {s : Scope} (a : s.kind = .function := by rfl) (b : s.isCoroutine = false := by rfl) (c : s.isGenerator = false := by rfl) (d : N.Nodup := by decide +kernel) (e : N.take P.length = P := by rfl) (f : ∀ x ∈ P, s.names.lookup x = some .local \/ s.names.lookup x = some .cell := by decide +kernel) (g : ∀ y ∈ s.names, y.2 ≠ .free := by decide +kernel) : aG N P s := ⟨a, b, c, d, e, f, g⟩
section
variable {P : Program} {w : World} {K : Frag} {mg : Str -> Option Value} {base : Heap} {C : Nat -> Addr} {f : Addr} {fd : FuncData}
theorem Fun.oq {x qual : Str} {st : Stmt} {f : Addr} {fd : FuncData} {N ps : List Str} {k : Nat} {sp : Sp} (F : Fun K x qual st f fd) (S : aG N ps (az st))
 (hbody : ∀ (cdv : Value) (A : Around) (outer : List Env) (s : Shared) (H : Hp) (vs : List V) (Q : VK) (E : XK), aX k (A.deeper (envOfC qual (az st) s.heap.objs.size f cdv)) -> sp vs H Q E -> ∃ t, PSs (jy CX0 P w K mg base N qual (az st) f cdv A outer s H E).nox (bQ st) t /\ t { nx := fun _ H' => Q .non H', rt := Q } (start N vs) H)
 (len : ∀ vs H Q E, sp vs H Q E -> vs.length = ps.length := by intro vs H Q E h; repeat (first | (obtain ⟨rfl, _⟩ := h; rfl) | obtain ⟨_, h⟩ := h)) : aJ P w K mg base CX0 (k + 1) f fd ps sp := F.ok S len hbody
theorem Fun.oqX {x qual : Str} {st : Stmt} {f : Addr} {fd : FuncData} {N ps : List Str} {k : Nat} {sp : Sp} (F : Fun K x qual st f fd) (S : aG N ps (az st))
 (hbody : ∀ (cdv : Value) (A : Around) (outer : List Env) (s : Shared) (H : Hp) (vs : List V) (Q : VK) (E : XK), aX k (A.deeper (envOfC qual (az st) s.heap.objs.size f cdv)) -> sp vs H Q E -> ∃ t, PSs (jy (CX1 P w) P w K mg base N qual (az st) f cdv A outer s H E) (bQ st) t /\ t { nx := fun _ H' => Q .non H', rt := Q } (start N vs) H)
 (len : ∀ vs H Q E, sp vs H Q E -> vs.length = ps.length := by intro vs H Q E h; repeat (first | (obtain ⟨rfl, _⟩ := h; rfl) | obtain ⟨_, h⟩ := h)) : aJ P w K mg base (CX1 P w) (k + 1) f fd ps sp := F.okX S len hbody
end
end L2
namespace Mine
open PySem PySem.Spec PyProof.Rows L2
theorem Oa (zs : List Str) : (zs.map V.str).all gO = true := by
 rw [all_eq_true]; intro v hv; obtain ⟨z, _, rfl⟩ := mem_map.mp hv; rfl
theorem Tw : (("." : Str)).length <= 1 := by decide +kernel
def top (i : Nat) : Stmt := pw_drawhouse_k25_the_first_wrong_row.main.body.getD i (.Pass ⟨0, 0, 0, 0⟩)
def JL : Stmt -> List Stmt
 | .ClassDef _ _ _ b _ _ _ _ _ _ _ => b
 | _ => []
abbrev sb (i j : Nat) : Stmt := (JL (top i)).getD j (.Pass ⟨0, 0, 0, 0⟩)
abbrev eU : Stmt := sb 5 0
abbrev fB : Stmt := sb 6 0
abbrev jC : Stmt := sb 7 0
abbrev lZ : Stmt := top 20
abbrev iG : Stmt := top 21
abbrev fQ : Stmt := top 22
abbrev ir : Stmt := top 28
abbrev ig : Stmt := top 29
abbrev iw : Stmt := top 30
abbrev iz : Stmt := top 31
abbrev jd : Stmt := top 32
abbrev km : Stmt := top 35
abbrev fX : Stmt := top 48
abbrev du : Stmt := top 49
abbrev fY : Stmt := top 50
abbrev gh : Stmt := top 51
abbrev lV : Stmt := top 52
abbrev n6 : Stmt := top 53
abbrev oA : Stmt := top 54
abbrev iR : Stmt := top 55
abbrev iu : Stmt := top 56
abbrev cL : Stmt := sb 37 0
abbrev dJ : Stmt := sb 37 1
abbrev eZ : Stmt := sb 39 0
abbrev cU : Stmt := sb 40 0
abbrev eY : Stmt := sb 40 1
abbrev cM : Stmt := sb 41 0
abbrev dY : Stmt := sb 41 1
abbrev cJ : Stmt := sb 42 0
abbrev dG : Stmt := sb 42 1
abbrev cH : Stmt := sb 43 0
abbrev dZ : Stmt := sb 43 1
abbrev cN : Stmt := sb 44 0
abbrev dF : Stmt := sb 44 1
abbrev cI : Stmt := sb 45 0
abbrev jN : Stmt := top 58
abbrev lW : Stmt := top 59
abbrev jX : Stmt := top 60
abbrev ie : Stmt := top 61
abbrev ik : Stmt := top 62
abbrev jU : Stmt := top 63
abbrev jL : Stmt := top 64
abbrev iJ : Stmt := top 65
abbrev jZ : Stmt := top 66
abbrev lQ : Stmt := top 67
abbrev gZ : Stmt := top 68
abbrev Dr : Stmt := top 69
def Al (ns : List Int) (k : Int) : Int := if k < (ns.length : Int) then Builtin.bitAnd (ns.getD k.toNat 0) (1 * 2 ^ (4400 : Int).toNat - 1) else 0
def Bt (K : Frag) : Sp := fun vs H Q _ => ∃ (a : Addr) (ns : List Int) (k : Int), vs = [.ref a, .int k] /\ SqL K H a (ns.map V.int) /\ 0 <= k /\ Pur (.int (Al ns k)) H Q
section
variable {P : Program} {w : World} {K : Frag} {mg : MG} {base : Heap}
abbrev wj : List Str := ["_law_script", "_law_k"]
theorem Ma : aG ["_law_script", "_law_k"] wj (az jN) := bf
theorem JB {f : Addr} {fd : FuncData} (F : Fun K "_law_cell" "_law_cell" jN f fd) (hlen : mg "len" = none) : aJ P w K mg base CX0 1 f fd wj (Bt K) := by
 refine F.oq Ma fun _ _ _ _ H _ Q E hr h => ?_
 ·obtain ⟨a, ns, k, rfl, hS, h0, q⟩ := h
  refine ⟨_, dM (BJ (aK Ed (pv 1) (aM aY Z3 hlen boot_len (aj (pv 0) ao)) (aP _))
    (jP (ni (aR GX (bh aO (pv 0) (pv 1)) (aR uM (aR Ly aq aq) aq)))) qu)
   (jP (ni aq)), ?_⟩
  refine ⟨_, rfl, _, rfl, a, _, rfl, .inl hS, _, _, rfl, rfl, _, rfl, ?_⟩
  rw [length_map]
  refine lH (fun hk => ?_) (fun hk => ?_)
  ·have hk2 : ns[k.toNat]? = some (ns.getD k.toNat 0) := by
    rw [List.getD_eq_getElem?_getD, getElem?_eq_getElem Z1]
    rfl
   have hk3 : (ns.map V.int)[k.toNat]? = some (V.int (ns.getD k.toNat 0)) := by rw [getElem?_map, hk2]; rfl
   have hat : atI (ns.map V.int) k = some (V.int (ns.getD k.toNat 0)) := by
    have := bU hk3
    rwa [show ((k.toNat : Nat) : Int) = k from by omega] at this
   refine ⟨_, rfl, _, rfl, a, _, _, _, rfl, rfl, hS, hat, _, _, rfl, rfl, ⟨Z0, Z0, Z0⟩, _, _, rfl, rfl, _, _, rfl, rfl, ?_⟩
   have e : Al ns k = Builtin.bitAnd (ns.getD k.toNat 0) (1 * 2 ^ (4400 : Int).toNat - 1) := if_pos hk
   have q' := q H (au.refl H)
   rw [e] at q'
   exact q'
  ·have e : Al ns k = 0 := if_neg hk
   have q' := q H (au.refl H)
   rw [e] at q'
   exact q'
abbrev Ag : List Str := ["_law_cell_here", "_law_j"]
theorem O9 : aG ["_law_cell_here", "_law_j"] Ag (az lW) := bf
theorem KQ {f : Addr} {fd : FuncData} (F : Fun K "_law_sub" "_law_sub" lW f fd) : aJ P w K mg base CX0 1 f fd Ag J3 := by
 refine F.oq O9 fun _ _ _ _ H _ Q E hr h => ?_
 ·obtain ⟨c, j, rfl, h0, h1, q⟩ := h
  refine ⟨_, dM (BJ (jJ (aK cY (aR eN (pv 0) aq) aq (aP _)) (gn (aK mF (aR wg (pv 0) (aR b7 (aR jn aq (pv 1)) aq)) aq (aP _)))).pt
    (jP (ni (aR Ow (aR wg (pv 0) (aR jn aq (pv 1))) aq))) qu)
   (jP (ni (aR jn (aR b7 (aR jO (aR jO (pv 0) aq) (aR b7 (pv 1) aq)) (aR jn aq (pv 1))) aq))), ?_⟩
  have q' := q H (au.refl H)
  have tail : sub c j = subB c j -> HS (tOp (rI Gn fun i j => .int (i * j)) (tOp (rI0 fun i j => .int (i + j)) (tOp (rI La fun i j => .int (i / j)) (tOp (rI La fun i j => .int (i / j)) (yS 0) (tC (.int 2))) (tOp (rI0 fun i j => .int (i + j)) (yS 1) (tC (.int 1)))) (tOp (rI Gn fun i j => .int (i * j)) (tC (.int 104729)) (yS 1))) (tC (.int 2)))
    { nx := fun _ H' => Q .non H', rt := Q } (start ["_law_cell_here", "_law_j"] [V.int c, V.int j]) H := fun e => by
   rw [e] at q'
   exact ⟨_, rfl, _, _, rfl, rfl, ⟨Z0, Z0⟩, _, rfl, _, _, rfl, rfl, _, _, rfl, rfl, ⟨Z1, Z1⟩, _, rfl, _, _, rfl, rfl, .inl ⟨Z0, Z0⟩, _, _, rfl, rfl, _, _, rfl, rfl, .inr ⟨Z0, Z0⟩, q'⟩
  refine ⟨_, rfl, _, _, rfl, rfl, (by show (0 : Int) < 2; decide), rfl, _, rfl, ?_⟩
  refine Ew (fun hA => ?_) (fun hA => ?_)
  ·refine ⟨_, rfl, _, rfl, _, _, rfl, rfl, .inl ⟨Z0, Z0⟩, _, _, rfl, rfl, _, _, rfl, rfl, (by show (0 : Int) <= 480 * j + 400; omega), _, _, rfl, rfl, _, rfl, ?_⟩
   refine lH (fun hB => ?_) (fun hB => ?_)
   ·have e : sub c j = Pu c j := if_pos ⟨hA, hB⟩
    rw [e] at q'
    exact ⟨_, rfl, _, rfl, _, _, rfl, rfl, .inl ⟨Z0, Z0⟩, _, _, rfl, rfl, (by show (0 : Int) <= 480 * j; omega), _, _, rfl, rfl, q'⟩
   ·exact tail (if_neg fun z => hB z.2)
  ·refine bZ ?_
   exact tail (if_neg fun z => hA z.1)
abbrev lJ : List Str := ["_law_cell_here", "_law_k", "_law_many"]
theorem o9 : aG ["_law_cell_here", "_law_k", "_law_many", "_law_great", "_law_by", "_law_one"] lJ (az jX) := bf
theorem nQ {f : Addr} {fd : FuncData} (F : Fun K "_law_pick" "_law_pick" jX f fd) : aJ P w K mg base CX0 1 f fd lJ pq := by
 refine F.oq o9 fun _ _ _ _ H _ Q E hr h => ?_
 ·obtain ⟨c, k, m, rfl, h0, h1, hm, q⟩ := h
  refine ⟨_, dM (BJ (jJ (aK cY (aR eN (pv 0) aq) aq (aP _)) (gn (aK mF (aR wg (pv 0) aq) aq (aP _)))).pt
    (jP (ni (aR eN (aR GX (aR wg (pv 0) (aR b7 aq (aR jn aq (pv 1)))) aq) (pv 2)))) qu)
   (dM (mY (i := 3) o9.nd rfl (Or.inl rfl) aq)
   (dM (mY (i := 4) o9.nd rfl (Or.inl rfl) (bh aO (cZ (aj aq (aj aq (aj aq (aj aq (aj aq (aj aq (aj aq (aj aq ao))))))))) (aR eN (pv 1) aq)))
   (dM (mY (i := 4) o9.nd rfl (Or.inl rfl) (aR jn (pv 4) (bh aO (cZ (aj aq (aj aq (aj aq (aj aq (aj aq ao)))))) (aR jO (pv 1) aq))))
   (dM (mY (i := 5) o9.nd rfl (Or.inl rfl) (aR eN (aR jn (aR b7 (aR eN (aR jO (pv 0) aq) (pv 3)) aq) (pv 4)) (pv 3)))
   (dM (mY (i := 5) o9.nd rfl (Or.inl rfl) (aR eN (aR jn (pv 5) (pv 5)) aq))
   (jP (ni (aR eN (aR jO (aR eN (aR jn (aR b7 (aR b7 (pv 5) (pv 1)) aq) (aR b7 (aR jO (pv 5) aq) aq)) aq) aq) (pv 2))))))))), ?_⟩
  obtain ⟨t1, t2, t3⟩ := Ii (k := k % 8) Z1 Z1
  obtain ⟨u1, u2, u3⟩ := Hl (k := k / 8) Z1 Z1
  have a8 : atI (nP.map V.int) (k % 8) = some (V.int (nP.getD (k % 8).toNat 0)) := by
   have := bU (xs := nP.map V.int) (j := (k % 8).toNat) (by rw [getElem?_map, t1]; rfl)
   rwa [show (((k % 8).toNat : Nat) : Int) = k % 8 from by omega] at this
  have a5 : atI (nZ.map V.int) (k / 8) = some (V.int (nZ.getD (k / 8).toNat 0)) := by
   have := bU (xs := nZ.map V.int) (j := (k / 8).toNat) (by rw [getElem?_map, u1]; rfl)
   rwa [show (((k / 8).toNat : Nat) : Int) = k / 8 from by omega] at this
  have g1 := Jl c k
  have g2 := Jp c k
  have g3 := Hv c k
  have g4 := IW c k
  have ms := Ce t2 t3 u2 u3
  refine ⟨_, rfl, _, _, rfl, rfl, (by show (0 : Int) < 2; decide), rfl, _, rfl, ?_⟩
  refine Ew (fun hA => ?_) (fun hA => ?_)
  ·refine ⟨_, rfl, _, _, rfl, rfl, (by show (0 : Int) <= 400; decide), _, _, rfl, rfl, _, rfl, ?_⟩
   refine lH (fun hB => ?_) (fun hB => ?_)
   ·have e : pick c k m = J0 c k m := if_pos ⟨hA, hB⟩
    have q' := q H (au.refl H)
    rw [e] at q'
    exact ⟨_, rfl, _, rfl, _, _, rfl, rfl, .inl ⟨Z0, Z0⟩, _, _, rfl, rfl, _, _, rfl, rfl, (by show (0 : Int) <= 1 + 10 * k; omega), _, _, rfl, rfl, _, rfl, _, _, rfl, rfl, hm, q'⟩
   ·have e : pick c k m = Gg c k m := if_neg fun z => hB z.2
    refine ⟨by show 8 <= sizeLine; decide, fun p hp => ?_⟩
    refine ⟨_, rfl, _, _, rfl, rfl, (by show (0 : Int) < 8; decide), p, nP.map V.int, _, _, rfl, rfl, SqL.of ak, a8, ?_⟩
    refine ⟨_, rfl, (by show 5 <= sizeLine; decide), fun p2 hp2 => ?_⟩
    refine ⟨_, rfl, _, _, rfl, rfl, ⟨Z0, Z0⟩, p2, nZ.map V.int, _, _, rfl, rfl, SqL.of ak, a5, _, _, rfl, rfl, .inl ⟨Z1, Z1⟩, ?_⟩
    refine ⟨_, rfl, _, _, rfl, rfl, ⟨Z0, Z0⟩, _, rfl, _, _, rfl, rfl, (by show (0 : Int) < 2305843009213693951; decide), _, _, rfl, rfl, _, rfl, _, _, rfl, rfl, .inr ⟨Z1, Z1⟩, _, rfl, _, _, rfl, rfl, (by show (0 : Int) < 2305843009213693951; decide), ?_⟩
    refine ⟨_, rfl, _, rfl, _, _, rfl, rfl, .inl ⟨(by show -(2 ^ 64) < yw c k; omega), (by show yw c k < 2 ^ 64; omega)⟩, _, _, rfl, rfl, (by show (0 : Int) < 1000000000039; decide), ?_⟩
    refine ⟨_, rfl, _, rfl, _, _, rfl, rfl, _, _, rfl, rfl, _, rfl, _, _, rfl, rfl, ⟨Z0, Z0⟩, _, _, rfl, rfl, _, _, rfl, rfl, .inl ⟨(by show -(2 ^ 64) < xV c k + k + 1; omega), (by show xV c k + k + 1 < 2 ^ 64; omega)⟩, _, _, rfl, rfl, (by show (0 : Int) < 67280421310721; decide), _, _, rfl, rfl, ⟨Z0, Z0⟩, _, rfl, _, _, rfl, rfl, hm, ?_⟩
    rw [e] at q
    exact q _ ((au.new hp).put hp2)
  ·refine bZ ?_
   have e : pick c k m = Gg c k m := if_neg fun z => hA z.1
   refine ⟨by show 8 <= sizeLine; decide, fun p hp => ?_⟩
   refine ⟨_, rfl, _, _, rfl, rfl, (by show (0 : Int) < 8; decide), p, nP.map V.int, _, _, rfl, rfl, SqL.of ak, a8, ?_⟩
   refine ⟨_, rfl, (by show 5 <= sizeLine; decide), fun p2 hp2 => ?_⟩
   refine ⟨_, rfl, _, _, rfl, rfl, ⟨Z0, Z0⟩, p2, nZ.map V.int, _, _, rfl, rfl, SqL.of ak, a5, _, _, rfl, rfl, .inl ⟨Z1, Z1⟩, ?_⟩
   refine ⟨_, rfl, _, _, rfl, rfl, ⟨Z0, Z0⟩, _, rfl, _, _, rfl, rfl, (by show (0 : Int) < 2305843009213693951; decide), _, _, rfl, rfl, _, rfl, _, _, rfl, rfl, .inr ⟨Z1, Z1⟩, _, rfl, _, _, rfl, rfl, (by show (0 : Int) < 2305843009213693951; decide), ?_⟩
   refine ⟨_, rfl, _, rfl, _, _, rfl, rfl, .inl ⟨(by show -(2 ^ 64) < yw c k; omega), (by show yw c k < 2 ^ 64; omega)⟩, _, _, rfl, rfl, (by show (0 : Int) < 1000000000039; decide), ?_⟩
   refine ⟨_, rfl, _, rfl, _, _, rfl, rfl, _, _, rfl, rfl, _, rfl, _, _, rfl, rfl, ⟨Z0, Z0⟩, _, _, rfl, rfl, _, _, rfl, rfl, .inl ⟨(by show -(2 ^ 64) < xV c k + k + 1; omega), (by show xV c k + k + 1 < 2 ^ 64; omega)⟩, _, _, rfl, rfl, (by show (0 : Int) < 67280421310721; decide), _, _, rfl, rfl, ⟨Z0, Z0⟩, _, rfl, _, _, rfl, rfl, hm, ?_⟩
   rw [e] at q
   exact q _ ((au.new hp).put hp2)
end
abbrev cC : List Str := ["self", "at"]
theorem sy : aG ["self", "at"] cC (az eU) := bf
abbrev fG : List Str := ["self", "at"]
theorem xU : aG ["self", "at"] fG (az fB) := bf
abbrev jq : List Str := ["self", "at"]
theorem CG : aG ["self", "at"] jq (az jC) := bf
abbrev eO : List Str := ["thing"]
theorem Cp : aG ["thing"] eO (az lZ) := bf
abbrev fJ : List Str := ["text", "most"]
theorem pU : aG ["text", "most", "names"] fJ (az iG) := bf
abbrev cV : List Str := ["thing"]
theorem uP : aG ["thing"] cV (az fQ) := bf
abbrev iU : List Str := ["word"]
theorem yo : aG ["word"] iU (az ir) := bf
abbrev iY : List Str := ["word"]
theorem wL : aG ["word"] iY (az ig) := bf
abbrev iV : List Str := ["sign", "word"]
theorem yp : aG ["sign", "word"] iV (az iw) := bf
abbrev jc : List Str := ["word"]
theorem xr : aG ["word"] jc (az iz) := bf
abbrev gY : List Str := ["text"]
theorem iW : aG ["text", "words", "terms", "at"] gY (az jd) := bf
abbrev jT : List Str := ["terms"]
theorem zx : aG ["terms"] jT (az km) := bf
abbrev gj : List Str := ["words"]
theorem vI : aG ["words"] gj (az fX) := bf
abbrev dj : List Str := ["words"]
theorem p8 : aG ["words"] dj (az du) := bf
abbrev fO : List Str := ["words"]
theorem vV : aG ["words"] fO (az fY) := bf
abbrev fZ : List Str := ["words", "at"]
theorem uD : aG ["words", "at"] fZ (az gh) := bf
abbrev mj : List Str := ["name", "terms"]
theorem CP : aG ["name", "terms"] mj (az lV) := bf
abbrev oH : List Str := ["words"]
theorem wR : aG ["words", "first"] oH (az n6) := bf
abbrev nR : List Str := ["text", "at"]
theorem yu : aG ["text", "at", "row"] nR (az oA) := bf
abbrev iD : List Str := ["text"]
theorem pP : aG ["text", "words"] iD (az iR) := bf
abbrev iH : List Str := ["text"]
theorem cO : aG ["text", "lines", "address", "rows", "at", "line", "row"] iH (az iu) := bf
abbrev gk : List Str := ["self", "address", "rows"]
theorem vO : aG ["self", "address", "rows"] gk (az cL) := bf
abbrev eX : List Str := ["self"]
theorem mC : aG ["self", "names"] eX (az dJ) := bf
abbrev kI : List Str := ["self"]
theorem vB : aG ["self"] kI (az eZ) := bf
abbrev jb : List Str := ["self", "name", "terms"]
theorem xj : aG ["self", "name", "terms"] jb (az cU) := bf
abbrev jW : List Str := ["self"]
theorem wD : aG ["self"] jW (az eY) := bf
abbrev fW : List Str := ["self", "name", "terms"]
theorem v7 : aG ["self", "name", "terms"] fW (az cM) := bf
abbrev jl : List Str := ["self"]
theorem sX : aG ["self"] jl (az dY) := bf
abbrev gA : List Str := ["self", "address", "name"]
theorem wA : aG ["self", "address", "name"] gA (az cJ) := bf
abbrev jm : List Str := ["self"]
theorem sV : aG ["self"] jm (az dG) := bf
abbrev gm : List Str := ["self", "address", "name"]
theorem vQ : aG ["self", "address", "name"] gm (az cH) := bf
abbrev jk : List Str := ["self"]
theorem sZ : aG ["self"] jk (az dZ) := bf
abbrev gf : List Str := ["self", "word", "address", "name"]
theorem uH : aG ["self", "word", "address", "name"] gf (az cN) := bf
abbrev jf : List Str := ["self"]
theorem tH : aG ["self"] jf (az dF) := bf
abbrev f9 : List Str := ["self", "terms"]
theorem wk : aG ["self", "terms"] f9 (az cI) := bf
abbrev qG : List Str := ["_law_cell_here", "_law_many"]
theorem dR : aG ["_law_cell_here", "_law_many", "_law_letters", "_law_size", "_law_one", "_law_two", "_law_base", "_law_odd", "_law_names_here", "_law_n", "_law_word", "_law_name"] qG (az ie) := bf
abbrev qF : List Str := ["_law_found"]
theorem Im : aG ["_law_found"] qF (az ik) := bf
abbrev wy : List Str := ["_law_e"]
theorem zA : aG ["_law_e", "_law_flags", "_law_others"] wy (az jU) := bf
abbrev qP : List Str := ["_law_thing"]
theorem Er : aG ["_law_thing", "_law_e"] qP (az jL) := bf
abbrev qD : List Str := ["_law_cell_here", "_law_many"]
theorem lR : aG ["_law_cell_here", "_law_many", "_law_names_here", "_law_rows", "_law_k", "_law_sort", "_law_row"] qD (az iJ) := bf
abbrev uU : List Str := ["_law_cell_here", "_law_k"]
theorem u9 : aG ["_law_cell_here", "_law_k", "_law_some"] uU (az jZ) := bf
abbrev Bw : List Str := ["_law_marks"]
theorem Kz : aG ["_law_marks", "_law_at"] Bw (az lQ) := bf
abbrev qm : List Str := ["_law_cell_here"]
theorem fU : aG ["_law_cell_here", "_law_rows", "_law_lines", "_law_marks", "_law_at", "_law_known", "_law_some", "_law_text"] qm (az gZ) := bf
abbrev Kh : List Str := ["_law_script"]
theorem ym : aG ["_law_script", "_law_k", "_law_cell_here", "_law_odd", "_law_thirteen"] Kh (az Dr) := bf
section
variable {P : Program} {w : World} {K : Frag} {mg : MG} {base : Heap}
def J6 : Sp := fun vs H Q _ => ∃ z : Str, vs = [.str z] /\ z.length <= 10000 /\ Pur (.bl (mz z)) H Q
def O5 : Sp := fun vs H Q _ => ∃ i : Int, vs = [.int i] /\ Pur (.bl true) H Q
def Ab (K : Frag) : Sp := fun vs H Q _ => ∃ (a : Addr) (ns : List Int), vs = [.ref a] /\ SqL K H a (ns.map V.int) /\ ns.length <= 63 /\ ∀ H', Q (.bl true) H'
theorem BZ {n : Nat} (h : n <= 11) : Builtin.Range.small 1 (n : Int) 2 = true := by
 have k : ∀ m : Fin 12, Builtin.Range.small 1 ((m.val : Nat) : Int) 2 = true := by decide +kernel
 exact k ⟨n, Z1⟩
theorem oZ : (((" " : Str)).length == 0) = false := by decide +kernel
theorem vP : 1000 <= sizeLine := by decide
theorem Hc : ((" " : Str)).length = 1 := by decide +kernel
def vA (C : Nat -> Addr) (i : Nat) : Sp := fun vs H Q _ => ∃ (x dx : Addr) (r : aZ) (d : Addr), vs = [.ref x, .str r.nm, .ref d] /\ r.so = i /\ H x = some (.ins (C i) dx []) /\ dB H d r.ts /\ r.ts.length <= 10 /\
 ∀ l H', H l = none -> SameBut x H H' -> dh C H' x l r -> Q .non H'
def vq (C : Nat -> Addr) (i : Nat) : Sp := fun vs H Q _ => ∃ (x dx : Addr) (r : aZ), vs = [.ref x, .str r.ad, .str r.nm] /\ r.so = i /\ H x = some (.ins (C i) dx []) /\ ∀ H', SameBut x H H' -> (∀ l, dh C H' x l r) -> Q .non H'
def Gk (C : Nat -> Addr) : Sp := fun vs H Q _ => ∃ (x dx : Addr) (r : aZ), vs = [.ref x, .str r.wd, .str r.ad, .str r.nm] /\ r.so = 4 /\ H x = some (.ins (C 4) dx []) /\ ∀ H', SameBut x H H' -> (∀ l, dh C H' x l r) -> Q .non H'
def Hf (C : Nat -> Addr) : Sp := fun vs H Q _ => ∃ (x dx : Addr) (r : aZ) (d : Addr), vs = [.ref x, .ref d] /\ r.so = 5 /\ H x = some (.ins (C 5) dx []) /\ dB H d r.ts /\ r.ts.length <= 10 /\
 ∀ l H', H l = none -> SameBut x H H' -> dh C H' x l r -> Q .non H'
def Hj : Sp := fun vs H Q _ => ∃ v : V, vs = [v] /\ Pur (.str "") H Q
def spB (C : Nat -> Addr) (i : Nat) : Sp := fun vs H Q _ => ∃ (a l : Addr) (r : aZ), vs = [.ref a] /\ r.so = i /\ dh C H a l r /\ Pur (.str r.nm) H Q
structure Oz (K : Frag) (C : Nat -> Addr) : Prop where
 c : ∀ i, i <= 6 -> RCl K (C i)
 kit : ∀ i j, i <= 6 -> j <= 6 -> kitOne K (.ref (C i)) (.ref (C j)) = some (FN i j)
 nn : ∀ i, i <= 6 -> b8 K (C i) "name"
 nt : ∀ i, i <= 6 -> b8 K (C i) "terms"
 na : ∀ i, i <= 6 -> b8 K (C i) "address"
 nw : ∀ i, i <= 6 -> b8 K (C i) "word"
theorem JP {z : Str} (h : (decide (1 <= z.length) && decide (z.length <= 8) && z.cps.toList.all fun n => decide (97 <= n) && decide (n <= 122)) = true) : bT z := by
 simp only [and_eq_true, decide_eq_true_eq, all_eq_true] at h
 exact ⟨h.1.1, h.1.2, fun n hn => h.2 n hn⟩
theorem six {n : Nat} (h : n <= 5) : n = 0 \/ n = 1 \/ n = 2 \/ n = 3 \/ n = 4 \/ n = 5 := by
 cases n with
 | zero => exact .inl rfl
 | succ n => cases n with
  | zero => exact .inr (.inl rfl)
  | succ n => cases n with
   | zero => exact .inr (.inr (.inl rfl))
   | succ n => cases n with
    | zero => exact .inr (.inr (.inr (.inl rfl)))
    | succ n => cases n with
     | zero => exact .inr (.inr (.inr (.inr (.inl rfl))))
     | succ n => cases n with
      | zero => exact .inr (.inr (.inr (.inr (.inr rfl))))
      | succ n => exact absurd h Z1
theorem cF {H : Hp} {C x dx : Addr} (hx : H x = none) (hdx : H dx = none) : au H (upd (upd H dx (.own x)) x (.ins C dx [])) := fun b o e => by
 rw [aD (aB e hx), aD (aB e hdx)]
 exact e
def pM (C : Nat -> Addr) (A : Addr) (H : Hp) (y : V) : Prop := ∃ (t x l : Addr) (v : V) (lt : Addr) (r : aZ), y = .ref t /\ H t = some (.tup [.ref x, v]) /\ dh C H x l r /\ jQ H v lt r /\ GoodR r /\ l ≠ A /\ lt ≠ A
theorem pM.same {C : Nat -> Addr} {A : Addr} {H H' : Hp} {y : V} (h : pM C A H y) (s : au H H') : pM C A H' y := by
 obtain ⟨t, x, l, v, lt, r, e, ht, ra, rt, g, n1, n2⟩ := h
 exact ⟨t, x, l, v, lt, r, e, s _ _ ht, ra.same s, rt.same s, g, n1, n2⟩
theorem pM.app {C : Nat -> Addr} {A : Addr} {H : Hp} {y : V} {zs : List V} {o : HO} (h : pM C A H y) (hA : H A = some (.lst zs)) : pM C A (upd H A o) y := by
 obtain ⟨t, x, l, v, lt, r, e, ht, ra, rt, g, n1, n2⟩ := h
 exact ⟨t, x, l, v, lt, r, e, by rw [aD (kO ht hA Z7)]; exact ht, ra.upd hA n1, rt.upd hA n2, g, n1, n2⟩
def isCall (t : Trm) : Bool := match t.th with | .nms c _ => c | .num _ => false
theorem Cw (t : Trm) : decide (V.str (kindOf t.th) = V.str "call") = isCall t := by
 unfold isCall
 cases t.th with
 | num m => exact decide_eq_false (by show ¬ V.str "number" = V.str "call"; decide +kernel)
 | nms c ys =>
  cases c
  ·exact decide_eq_false (by show ¬ V.str "path" = V.str "call"; decide +kernel)
  ·exact decide_eq_true rfl
def Ko : Sp := fun vs H Q _ => ∃ (l : Addr) (ts : List Trm), vs = [.ref l] /\ dB H l ts /\ ts.length <= 10 /\ Pur (.bl (ts.any isCall)) H Q
theorem any_range {ts : List Trm} : ((List.range ts.length).map fun i => (ts[i]?).elim false isCall).any id = ts.any isCall := by
 have e : (List.range ts.length).map (fun i => (ts[i]?).elim false isCall) = ts.map isCall := by
  apply ext_getElem
  ·simp
  ·intro i h1 h2
   have : i < ts.length := by simpa using h1
   simp [this]
 rw [e, List.any_map]
 rfl
def FQ (C : Nat -> Addr) (H : Hp) (r : aZ) (Q : VK) : Prop := ∀ a l H', au H H' -> H a = none -> H l = none -> dh C H' a l r -> Q (.ref a) H'
theorem HN {r : aZ} (g : GoodR r) (h : r.so = 1) : r.ts.any isCall = false := by
 rw [any_eq_false]
 intro t ht k
 unfold isCall at k
 cases e : t.th with
 | num m => rw [e] at k; cases k
 | nms c ys =>
  rw [e] at k
  cases c with
  | true => exact g.dd h t ht ys e
  | false => cases k
theorem pX {x y : Str} (h : y ∈ Txt.split x (" " : Str)) : y.length <= x.length := by rw [blank_eq] at h; exact m8 h
def jg (C : Addr) : Sp := fun vs H Q _ => ∃ (x : Addr) (n : Int), vs = [.ref x, .int n] /\ H x = some (ExO true x C none) /\ n.natAbs.log2 < 1920 /\ ∀ p, H p = none -> p ≠ x -> Q .non (upd (upd H p (XdO p [("at", .int n)])) x (ExO true x C (some p)))
structure Bd (K : Frag) (C : Nat -> Addr) : Prop where
 x : my K (C 22)
 a : b8 K (C 22) "at"
 s21 : Sub K (C 21) (C 21)
 s22 : Sub K (C 22) (C 20)
 k : ∀ j, 20 <= j -> j <= 33 -> kitOne K (.ref (C 22)) (.ref (C j)) = some (decide (j = 22 \/ j = 20))
 v : kitOne K (.ref (C 22)) (.type "ValueError") = some true
def Xx (D : Addr) (H : Hp) (E : XK) : Prop := ∀ x H', au H H' -> H x = none -> H' x = some (ExO false x D none) -> E (.ref x) none H'
theorem Xx.on {D : Addr} {H H1 : Hp} {E : XK} (h : Xx D H E) (s : au H H1) : Xx D H1 E := fun x H' s' hx e => h x H' (s.trans s') (s.free hx) e
theorem Xx.go {D x : Addr} {H : Hp} {E : XK} (h : Xx D H E) (hx : H x = none) : E (.ref x) none (upd (upd H x (ExO true x D none)) x (ExO false x D none)) :=
 h x _ (fun b o e => by rw [aD (aB e hx), aD (aB e hx)]; exact e) hx ak
def rP : Sp := fun vs H Q _ => ∃ z : Str, vs = [.str z] /\ z.length <= 6000 /\ Pur (.bl (nmB z)) H Q
def yR : Sp := fun vs H Q _ => ∃ (z : Str) (m : Nat), vs = [.str z, .int m] /\ z.length <= 6000 /\ Pur (.bl (d9 m z)) H Q
def uG : Sp := fun vs H Q _ => ∃ z : Str, vs = [.str z] /\ z.length <= 6000 /\ Pur (.bl (d9 3 z)) H Q
def Bl (C : Nat -> Addr) : Sp := fun vs H Q E => ∃ z : Str, vs = [.str z] /\ z.length <= 6000 /\ (∀ ys, gQ ys -> z = dotted ys -> ∀ p H', au H H' -> H' p = some (.tup (ys.map V.str)) -> Q (.ref p) H') /\ (d9 4 z = false -> Xx (C 21) H E)
def wW (C : Nat -> Addr) : Sp := fun vs H Q E => ∃ (sg : Int) (z : Str), vs = [.int sg, .str z] /\ z.length <= 6000 /\ (∀ th, gR th -> z = wordOf th -> ∀ v H', au H H' -> oh H' v ⟨sg, th⟩ -> Q v H') /\ (¬ RdW z -> Xx (C 21) H E)
def Am (C : Nat -> Addr) : Sp := fun vs H Q E => ∃ z : Str, vs = [.str z] /\ (∀ s : Int, (s = 1 \/ s = -1) -> z = sgw s -> Pur (.int s) H Q) /\ ((¬ ∃ s : Int, (s = 1 \/ s = -1) /\ z = sgw s) -> Xx (C 21) H E)
def Ah (C : Nat -> Addr) : Sp := fun vs H Q E => ∃ z : Str, vs = [.str z] /\ z.length <= 6000 /\ (∀ ts, bN ts -> Txt.split z (" " : Str) = wordsOf ts -> ∀ l H', H l = none -> au H H' -> dB H' l ts -> Q (.ref l) H') /\ (¬ RdE (Txt.split z (" " : Str)) -> Xx (C 21) H E)
theorem xX {a b : Str} (ha : a.length <= 1000) (hb : b.length <= 6000) : (a ++ b).length <= sizeLine := by
 rw [gF]; exact le_trans (show a.length + b.length <= 7000 by omega) Z0
theorem mJ (c : Nat) : ∀ {W : List (List Nat)}, W ≠ [] -> (inter c W).length + 1 = (W.map List.length).sum + W.length
 | [], h => absurd rfl h
 | [x], _ => by simp [inter]
 | x :: y :: r, _ => by
  have ih := mJ c (W := y :: r) Z2
  rw [aW c x Z2, length_append, length_cons, map_cons, sum_cons, length_cons (as := y :: r)]
  omega
theorem qU (ys : List Str) : Txt.join (" " : Str) ys = Str.join ⟨#[32]⟩ ys := by
 rw [blank_eq]
 exact StrLaws.glued_eq_join _ ys
theorem yj {ys : List Str} (h : ys ≠ []) : (Txt.join (" " : Str) ys).length + 1 = (ys.map (·.length)).sum + ys.length := by
 rw [qU, cB, bF, mJ 32 (by simpa using h), map_map, length_map]
 have e : ys.map (List.length ∘ fun x : Str => x.cps.toList) = ys.map (·.length) := List.map_congr_left fun y _ => (cB y).symm
 rw [e]
def Wd (ws : List Str) : Prop := ∃ z0 : Str, z0.length <= 6000 /\ ws = Txt.split z0 (" " : Str)
theorem Wd.ne {ws : List Str} (h : Wd ws) : ws ≠ [] := by obtain ⟨z, _, rfl⟩ := h; rw [blank_eq]; exact gW _ _
theorem Wd.free {ws : List Str} (h : Wd ws) {w : Str} (hw : w ∈ ws) : 32 ∉ w.cps.toList := by
 obtain ⟨z, _, rfl⟩ := h; rw [blank_eq] at hw; exact StrLaws.split_free _ 32 w hw
theorem Wd.len {ws : List Str} (h : Wd ws) {w : Str} (hw : w ∈ ws) : w.length <= 6000 := by
 obtain ⟨z, hz, rfl⟩ := h; exact le_trans (pX hw) hz
theorem Wd.sum {ws : List Str} (h : Wd ws) : (ws.map (·.length)).sum + ws.length <= 6001 := by
 have hn := h.ne
 obtain ⟨z, hz, e⟩ := h
 have := yj hn
 rw [qU, e, blank_eq, StrLaws.join_split] at this
 rw [e, blank_eq]; omega
theorem Wd.drop {ws : List Str} (h : Wd ws) (k : Nat) : ((ws.drop k).map (·.length)).sum + (ws.drop k).length <= 6001 := by
 have := h.sum
 rw [<- List.take_append_drop k ws, map_append, List.sum_append, length_append] at this
 omega
theorem rH {ws : List Str} (h : Wd ws) {k : Nat} (hn : ws.drop k ≠ []) : Txt.split (Txt.join (" " : Str) (ws.drop k)) (" " : Str) = ws.drop k := by
 rw [qU, blank_eq]
 exact gH 32 _ hn fun y hy => h.free (List.mem_of_mem_drop hy)
theorem K1 {ws : List Str} (h : RdE ws) : ws ≠ [] := fun z => by have := (qK h).1; rw [z] at this; cases this
theorem Gy : ¬ RdW "" := Af Z4 Z4 Z4
theorem NP : Txt.split (Txt.join (" " : Str) []) (" " : Str) = [("" : Str)] := by decide +kernel
theorem Gm : ¬ RdE [("" : Str)] := fun h => Gy (rB h (i := 0) rfl)
def J7 (C : Nat -> Addr) : Sp := fun vs H Q E => ∃ (l : Addr) (k : Nat) (ws : List Str), vs = [.ref l, .int (k : Int)] /\ H l = some (.lst (ws.map V.str)) /\ Wd ws /\ (∀ ts, bN ts -> ws.drop k = wordsOf ts -> ∀ l' H', H l' = none -> au H H' -> dB H' l' ts -> Q (.ref l') H') /\ (¬ RdE (ws.drop k) -> Xx (C 21) H E)
def wAt (ws : List Str) (i : Nat) : Str := (ws[i]?).getD ""
def neB (ws : List Str) : Bool := decide (3 < ws.length) && (nmB (wAt ws 1) && decide (wAt ws 2 = "be"))
def naB (ws : List Str) : Bool := decide (ws.length = 4) && (d9 3 (wAt ws 1) && (decide (wAt ws 2 = "as") && nmB (wAt ws 3)))
def nwB (ws : List Str) : Bool := decide (ws.length = 6) && (decide (wAt ws 2 = "from") && (decide (wAt ws 4 = "as") && (nmB (wAt ws 1) && (d9 3 (wAt ws 3) && nmB (wAt ws 5)))))
def Ks : Sp := fun vs H Q _ => ∃ (l : Addr) (ws : List Str), vs = [.ref l] /\ H l = some (.lst (ws.map V.str)) /\ Wd ws /\ Pur (.bl (neB ws)) H Q
def Kf : Sp := fun vs H Q _ => ∃ (l : Addr) (ws : List Str), vs = [.ref l] /\ H l = some (.lst (ws.map V.str)) /\ Wd ws /\ Pur (.bl (naB ws)) H Q
def Kw : Sp := fun vs H Q _ => ∃ (l : Addr) (ws : List Str), vs = [.ref l] /\ H l = some (.lst (ws.map V.str)) /\ Wd ws /\ Pur (.bl (nwB ws)) H Q
theorem d7 {ws : List Str} {i : Nat} (h : i < ws.length) : wAt ws i ∈ ws := by unfold wAt; rw [getElem?_eq_getElem h]; exact getElem_mem h
theorem bJ {ws : List Str} {i : Nat} (h : i < ws.length) : atI (ws.map V.str) ((i : Nat) : Int) = some (V.str (wAt ws i)) := bU (by rw [getElem?_map, getElem?_eq_getElem h]; unfold wAt; rw [getElem?_eq_getElem h]; rfl)
theorem kj {a b : Str} : decide (V.str a = V.str b) = decide (a = b) := by
 by_cases h : a = b
 ·rw [decide_eq_true h, decide_eq_true (congrArg V.str h)]
 ·rw [decide_eq_false h, decide_eq_false fun k => h (V.str.inj k)]
theorem lM {n m : Nat} : decide (V.int (n : Int) = V.int (m : Int)) = decide (n = m) := by
 by_cases h : n = m
 ·rw [decide_eq_true h, decide_eq_true (by rw [h])]
 ·rw [decide_eq_false h, decide_eq_false fun k => h (by have := V.int.inj k; omega)]
def RdR (ws : List Str) : Prop := ∃ r, GoodR r /\ ws = bG r
def a1 : Str := "a"
theorem wO : bT a1 := il.mp Z4
theorem Ja : ∃ ys, iM ys /\ a1 = dotted ys := ⟨[a1], ⟨Z2, Z0, fun y hy => by rw [mem_singleton.mp hy]; exact wO⟩, Z4⟩
def t1 : List Trm := [⟨1, .num 0⟩]
theorem K6 : bN t1 := ⟨by simp [t1], Z0, fun t ht => by rw [mem_singleton.mp ht]; exact ⟨.inl rfl, by show 0 < 10 ^ 20; decide⟩, fun t ht => by cases ht; rfl⟩
theorem G6 {nn : Str} {ts : List Trm} (h : bT nn) (g : bN ts) : GoodR ⟨0, nn, a1, a1, ts⟩ := ⟨(show 0 <= 5 by decide), (fun _ => h), (fun z => by cases z), Ja, wO, g, (fun z => by cases z)⟩
theorem Io {nn : Str} {ts : List Trm} (h : bT nn) (g : bN ts) (hc : ∀ t ∈ ts, isCall t = false) : GoodR ⟨1, nn, a1, a1, ts⟩ := ⟨(show 1 <= 5 by decide), (fun _ => h), (fun z => by cases z), Ja, wO, g, fun _ t ht ys e => by have := hc t ht; unfold isCall at this; rw [e] at this; cases this⟩
theorem qy {so : Nat} {nn : Str} {ys : List Str} (hs : so = 2 \/ so = 3) (h : bT nn) (g : iM ys) : GoodR ⟨so, nn, dotted ys, a1, t1⟩ := ⟨(by show so <= 5; omega), (fun _ => h), (fun z => by have : so = 5 := z; omega), ⟨ys, g, rfl⟩, wO, K6, (fun z => by have : so = 1 := z; omega)⟩
theorem JD {nn ww : Str} {ys : List Str} (h : bT nn) (hw : bT ww) (g : iM ys) : GoodR ⟨4, nn, dotted ys, ww, t1⟩ := ⟨(show 4 <= 5 by decide), (fun _ => h), (fun z => by cases z), ⟨ys, g, rfl⟩, hw, K6, (fun z => by cases z)⟩
theorem HH {ts : List Trm} (g : bN ts) : GoodR ⟨5, "", a1, a1, ts⟩ := ⟨(show 5 <= 5 by decide), (fun z => absurd z (by show ¬ 5 < 5; decide)), (fun _ => rfl), Ja, wO, g, (fun z => by cases z)⟩
theorem xF {ws : List Str} (h : neB ws = true) : 3 < ws.length /\ bT (wAt ws 1) /\ ws = wAt ws 0 :: wAt ws 1 :: "be" :: ws.drop 3 := by
 unfold neB at h
 simp only [and_eq_true, decide_eq_true_eq] at h
 obtain ⟨h3, h1, h2⟩ := h
 refine ⟨h3, il.mp h1, ?_⟩
 match ws, h3, h2 with
 | a :: b :: c :: d :: r, _, h2 => rw [show c = "be" from h2]; rfl
theorem Oh {z : Str} (h : d9 3 z = true) : ∃ ys, iM ys /\ z = dotted ys := by
 obtain ⟨ys, a, b, c, e⟩ := Br h
 exact ⟨ys, ⟨a, b, c⟩, e⟩
theorem xP {ws : List Str} (h : naB ws = true) : ws.length = 4 /\ ∃ ys, iM ys /\ wAt ws 1 = dotted ys /\ bT (wAt ws 3) /\ ws = [wAt ws 0, dotted ys, "as", wAt ws 3] := by
 unfold naB at h
 simp only [and_eq_true, decide_eq_true_eq] at h
 obtain ⟨h4, h1, h2, h3⟩ := h
 obtain ⟨ys, g, e⟩ := Oh h1
 refine ⟨h4, ys, g, e, il.mp h3, ?_⟩
 rw [<- e]
 match ws, h4, h2 with
 | [a, b, c, d], _, h2 => rw [show c = "as" from h2]; rfl
theorem Dq {ws : List Str} (h : nwB ws = true) : ws.length = 6 /\ ∃ ys, iM ys /\ wAt ws 3 = dotted ys /\ bT (wAt ws 1) /\ bT (wAt ws 5) /\ ws = [wAt ws 0, wAt ws 1, "from", dotted ys, "as", wAt ws 5] := by
 unfold nwB at h
 simp only [and_eq_true, decide_eq_true_eq] at h
 obtain ⟨h6, h2, h4, h1, h3, h5⟩ := h
 obtain ⟨ys, g, e⟩ := Oh h3
 refine ⟨h6, ys, g, e, il.mp h1, il.mp h5, ?_⟩
 rw [<- e]
 match ws, h6, h2, h4 with
 | [a, b, c, d, e, f], _, h2, h4 => rw [show c = "from" from h2, show e = "as" from h4]; rfl
theorem fc {ws : List Str} (h : RdR ws) : (wAt ws 0 = "let" /\ neB ws = true /\ RdE (ws.drop 3)) \/ (wAt ws 0 = "deed" /\ neB ws = true /\ ∃ ts, bN ts /\ ws.drop 3 = wordsOf ts /\ ∀ t ∈ ts, isCall t = false) \/ (wAt ws 0 = "draw" /\ naB ws = true) \/ (wAt ws 0 = "late" /\ naB ws = true) \/ (wAt ws 0 = "take" /\ nwB ws = true) \/ (wAt ws 0 = "need" /\ RdE (ws.drop 1)) := by
 obtain ⟨⟨so, nn, aa, ww, tt⟩, g, rfl⟩ := h
 have h5 : so <= 5 := g.so
 have gt : bN tt := g.ts
 have gw : nmB ww = true := (g.wd).nmB
 obtain ⟨ys, ga, ea⟩ := g.ad
 have gp : d9 3 aa = true := by rw [show aa = dotted ys from ea]; exact rE ga.lo ga.hi ga.nm
 have ln : ∀ w0 w1 w2 : Str, 3 < (w0 :: w1 :: w2 :: wordsOf tt).length := fun w0 w1 w2 => by
  have := length_pos_iff.mpr (qN gt.lo)
  simp only [length_cons]; omega
 rcases six h5 with rfl | rfl | rfl | rfl | rfl | rfl
 ·refine .inl ⟨rfl, ?_, tt, gt, rfl⟩
  show (decide (3 < (("let" : Str) :: nn :: "be" :: wordsOf tt).length) && (nmB nn && decide (("be" : Str) = "be"))) = true
  rw [decide_eq_true (ln _ _ _), (g.nm (show 0 < 5 by decide)).nmB, decide_eq_true rfl]; rfl
 ·refine .inr (.inl ⟨rfl, ?_, tt, gt, rfl, fun t ht => ?_⟩)
  ·show (decide (3 < (("deed" : Str) :: nn :: "be" :: wordsOf tt).length) && (nmB nn && decide (("be" : Str) = "be"))) = true
   rw [decide_eq_true (ln _ _ _), (g.nm (show 1 < 5 by decide)).nmB, decide_eq_true rfl]; rfl
  ·exact any_eq_false.mp (HN g rfl) t ht |> fun z => by simpa using z
 ·refine .inr (.inr (.inl ⟨rfl, ?_⟩))
  show (true && (d9 3 aa && (decide (("as" : Str) = "as") && nmB nn))) = true
  rw [gp, (g.nm (show 2 < 5 by decide)).nmB, decide_eq_true rfl]; rfl
 ·refine .inr (.inr (.inr (.inl ⟨rfl, ?_⟩)))
  show (true && (d9 3 aa && (decide (("as" : Str) = "as") && nmB nn))) = true
  rw [gp, (g.nm (show 3 < 5 by decide)).nmB, decide_eq_true rfl]; rfl
 ·refine .inr (.inr (.inr (.inr (.inl ⟨rfl, ?_⟩))))
  show (true && (decide (("from" : Str) = "from") && (decide (("as" : Str) = "as") && (nmB ww && (d9 3 aa && nmB nn))))) = true
  rw [gp, gw, (g.nm (show 4 < 5 by decide)).nmB, decide_eq_true rfl, decide_eq_true rfl]; rfl
 ·exact .inr (.inr (.inr (.inr (.inr ⟨rfl, tt, gt, rfl⟩))))
def Kd (C : Nat -> Addr) : Sp := fun vs H Q _ => ∃ (nn : Str) (d : Addr) (ts : List Trm), vs = [.str nn, .ref d] /\ bN ts /\ dB H d ts /\ (ts.any isCall = false -> FQ C H ⟨1, nn, a1, a1, ts⟩ Q) /\ (ts.any isCall = true -> Pur .non H Q)
def Kv (C : Nat -> Addr) : Sp := fun vs H Q E => ∃ (l : Addr) (ws : List Str), vs = [.ref l] /\ H l = some (.lst (ws.map V.str)) /\ Wd ws /\ (∀ r, GoodR r -> ws = bG r -> FQ C H r Q) /\ (¬ RdR ws -> Pur .non H Q /\ Xx (C 21) H E)
def Xt (C : Nat -> Addr) (i : Int) (H : Hp) (E : XK) : Prop := ∀ x p H', au H H' -> H x = none -> H' x = some (ExO false x (C 22) (some p)) -> H' p = some (XdO p [("at", .int i)]) -> E (.ref x) none H'
theorem Xt.go {C : Nat -> Addr} {i : Int} {H H1 : Hp} {E : XK} {x p : Addr} (h : Xt C i H E) (s : au H H1) (hx : H1 x = none) (hp : upd H1 x (ExO true x (C 22) none) p = none) (hne : p ≠ x) :
  E (.ref x) none (upd (upd (upd (upd H1 x (ExO true x (C 22) none)) p (XdO p [("at", .int i)])) x (ExO true x (C 22) (some p))) x (ExO false x (C 22) (some p))) := by
 have hp1 : H1 p = none := by rw [aD hne] at hp; exact hp
 refine h x p _ (fun b o e => ?_) (s.free hx) ak (by rw [aD hne, aD hne]; exact ak)
 have e1 := s b o e
 have nx := aB e1 hx
 have np := aB e1 hp1
 rw [aD nx, aD nx, aD np, aD nx]
 exact e1
def Kr (C : Nat -> Addr) : Sp := fun vs H Q E => ∃ (z : Str) (i : Int), vs = [.str z, .int i] /\ z.length <= 6000 /\ i.natAbs.log2 < 1920 /\ (∀ r, GoodR r -> Txt.split z (" " : Str) = bG r -> FQ C H r Q) /\ (¬ RdR (Txt.split z (" " : Str)) -> Xt C i H E)
theorem zf {X : Cx} {K' : Frag} {W : L2.St -> XK} {d : Addr} {ck : Nat} {cp pos : Pos} {e : Expr} {te : TE} (hK : X.K = K') (hw : oG X W) (hh : X.A.handled = some (.ref d)) (he : PE X e te) : QS X (.Raise (some e) (some (.Constant .none ck cp)) pos) (Bb K' d W te) := by
 subst hK; exact Cz hw hh he
def xH (K : Frag) (H : Hp) (v : V) : Prop := ∃ t, nJ K H v t /\ kitOne K t (.type "str") = some false
theorem ktx {K : Frag} {n : String} (h0 : (Value.type n == Value.type "str") = false) (h2 : (fastBuiltinMro n).map (·.contains (Value.type "str")) = some false) : kitOne K (.type n) (.type "str") = some false := Dy h0 Z4 h2
theorem Dz {K : Frag} {H : Hp} : xH K H .non := ⟨_, .non, ktx Z4 Z4⟩
theorem rM {K : Frag} {H : Hp} {i : Int} : xH K H (.int i) := ⟨_, .int i, ktx Z4 Z4⟩
theorem Hr {K : Frag} {H : Hp} {b : Bool} : xH K H (.bl b) := ⟨_, .bl b, ktx Z4 Z4⟩
theorem rm {K : Frag} {H : Hp} {a : Addr} {xs : List V} (e : H a = some (.lst xs)) : xH K H (.ref a) := ⟨_, .lst e, ktx Z4 Z4⟩
theorem GD {K : Frag} {H : Hp} {a : Addr} {xs : List V} (e : H a = some (.tup xs)) : xH K H (.ref a) := ⟨_, .tup e, ktx Z4 Z4⟩
theorem Jg {K : Frag} {H : Hp} {a : Addr} {kvs : List (Key × V)} (e : H a = some (.dK kvs)) : xH K H (.ref a) := ⟨_, .dK e, ktx Z4 Z4⟩
theorem je {X : Cx} {K : Frag} (h : X.K = K) : cX X (.builtin "isinstance") (uR K) := by subst h; exact zB
theorem wU {X : Cx} {K : Frag} {e : Expr} {f : Str} {pos : Pos} {ta : TE} (h : X.K = K) (he : PE X e ta) (hb : attributeBase e f X.env (eval e X.env) = eval e X.env) : PE X (.Attribute e f pos) (Ka K ta f) := by subst h; exact Hz he hb
def J4 (H : Hp) (v : V) (r : aZ) : Prop := ∃ p l, v = .ref p /\ H p = some (.tup [.str (mD r.so), .str (if r.so = 5 then "" else r.nm), .str (if r.so = 2 \/ r.so = 3 \/ r.so = 4 then r.ad else ""), .str (if r.so = 4 then r.wd else ""), .ref l]) /\ ((r.so = 0 \/ r.so = 1 \/ r.so = 5) -> dB H l r.ts) /\ (¬ (r.so = 0 \/ r.so = 1 \/ r.so = 5) -> H l = some (.lst []))
theorem Wd.of {z : Str} (h : z.length <= 6000) : Wd (Txt.split z (" " : Str)) := ⟨z, h, rfl⟩
theorem Wd.pos {ws : List Str} (h : Wd ws) : 0 < ws.length := length_pos_iff.mpr h.ne
def kJ (H : Hp) (v : V) (lt : Addr) (r : aZ) : Prop := ∃ p aa ww, v = .ref p /\ H p = some (.tup [.str (mD r.so), .str r.nm, .str aa, .str ww, .ref lt]) /\ (r.so = 2 \/ r.so = 3 \/ r.so = 4 -> aa = r.ad) /\ (r.so = 4 -> ww = r.wd) /\ (r.so = 0 \/ r.so = 1 \/ r.so = 5 -> dB H lt r.ts)
theorem kJ.same {H H' : Hp} {v : V} {lt : Addr} {r : aZ} (h : kJ H v lt r) (s : au H H') : kJ H' v lt r := by
 obtain ⟨p, aa, ww, e, hp, h1, h2, t⟩ := h
 exact ⟨p, aa, ww, e, s _ _ hp, h1, h2, fun k => (t k).same s⟩
theorem jQ.tg {H : Hp} {v : V} {lt : Addr} {r : aZ} (h : jQ H v lt r) : kJ H v lt r := by
 obtain ⟨p, e, hp, t⟩ := h
 exact ⟨p, _, _, e, hp, fun _ => rfl, fun _ => rfl, fun _ => t⟩
theorem J4.tg {H : Hp} {v : V} {r : aZ} (h : J4 H v r) (g : GoodR r) : ∃ lt, kJ H v lt r := by
 obtain ⟨p, l, e, hp, t, _⟩ := h
 have en : (if r.so = 5 then ("" : Str) else r.nm) = r.nm := by
  by_cases k : r.so = 5
  ·rw [if_pos k, g.no k]
  ·rw [if_neg k]
 rw [en] at hp
 exact ⟨l, p, _, _, e, hp, fun k => if_pos k, fun k => if_pos k, t⟩
theorem tW {i j : Nat} (hi : i <= 5) (hj : j <= 5) (e : mD i = mD j) : i = j := by
 have := DP hi hj
 rw [decide_eq_true (congrArg V.str e)] at this
 unfold FN at this
 rw [decide_eq_false (show ¬ j = 6 by omega), Bool.or_false] at this
 exact of_decide_eq_true this.symm
theorem lL {r : aZ} (g : GoodR r) : (bG r).head? = some (mD r.so) := by
 obtain ⟨so, nn, aa, ww, tt⟩ := r
 rcases six (show so <= 5 from g.so) with rfl | rfl | rfl | rfl | rfl | rfl <;> rfl
theorem Ci {C : Nat -> Addr} {H : Hp} {a l : Addr} {r s : aZ} (g : GoodR r) (h : GoodR s) (e : bG s = bG r) (ra : dh C H a l s) : dh C H a l r := by
 have e0 : s.so = r.so := tW h.so g.so (Option.some.inj ((lL h).symm.trans ((congrArg List.head? e).trans (lL g))))
 obtain ⟨dx, fs, ha, hf⟩ := ra
 obtain ⟨so, nn, aa, ww, tt⟩ := r
 obtain ⟨so2, nn2, aa2, ww2, tt2⟩ := s
 obtain rfl : so2 = so := e0
 have gt : bN tt := g.ts
 have ht : bN tt2 := h.ts
 refine ⟨dx, fs, ha, ?_⟩
 obtain ⟨f1, f2, f3, f4, f5, f6, f7⟩ := hf
 rcases six (show so2 <= 5 from g.so) with rfl | rfl | rfl | rfl | rfl | rfl
 ·have e : ("let" : Str) :: nn2 :: "be" :: wordsOf tt2 = ("let" : Str) :: nn :: "be" :: wordsOf tt := e
  injection e with _ e; injection e with e1 e; injection e with _ e
  have e3 := iK ht gt e; cases e1; cases e3
  exact ⟨f1, f2, fun k => absurd k (by show ¬ (0 = 2 \/ 0 = 3 \/ 0 = 4); decide), fun k => absurd k (by show ¬ 0 = 4; decide), f5, f6, f7⟩
 ·have e : ("deed" : Str) :: nn2 :: "be" :: wordsOf tt2 = ("deed" : Str) :: nn :: "be" :: wordsOf tt := e
  injection e with _ e; injection e with e1 e; injection e with _ e
  have e3 := iK ht gt e; cases e1; cases e3
  exact ⟨f1, f2, fun k => absurd k (by show ¬ (1 = 2 \/ 1 = 3 \/ 1 = 4); decide), fun k => absurd k (by show ¬ 1 = 4; decide), f5, f6, f7⟩
 ·have e : [("draw" : Str), aa2, "as", nn2] = [("draw" : Str), aa, "as", nn] := e
  injection e with _ e; injection e with e1 e; injection e with _ e; injection e with e2 e
  cases e1; cases e2
  exact ⟨f1, fun k => absurd k (by show ¬ (2 = 0 \/ 2 = 1 \/ 2 = 5); decide), f3, fun k => absurd k (by show ¬ 2 = 4; decide), f5, f6, f7⟩
 ·have e : [("late" : Str), aa2, "as", nn2] = [("late" : Str), aa, "as", nn] := e
  injection e with _ e; injection e with e1 e; injection e with _ e; injection e with e2 e
  cases e1; cases e2
  exact ⟨f1, fun k => absurd k (by show ¬ (3 = 0 \/ 3 = 1 \/ 3 = 5); decide), f3, fun k => absurd k (by show ¬ 3 = 4; decide), f5, f6, f7⟩
 ·have e : [("take" : Str), ww2, "from", aa2, "as", nn2] = [("take" : Str), ww, "from", aa, "as", nn] := e
  injection e with _ e; injection e with e1 e; injection e with _ e; injection e with e2 e; injection e with _ e; injection e with e3 e
  cases e1; cases e2; cases e3
  exact ⟨f1, fun k => absurd k (by show ¬ (4 = 0 \/ 4 = 1 \/ 4 = 5); decide), f3, f4, f5, f6, f7⟩
 ·have e : ("need" : Str) :: wordsOf tt2 = ("need" : Str) :: wordsOf tt := e
  injection e with _ e
  cases iK ht gt e
  exact ⟨fun k => absurd k (by show ¬ 5 < 5; decide), f2, fun k => absurd k (by show ¬ (5 = 2 \/ 5 = 3 \/ 5 = 4); decide), fun k => absurd k (by show ¬ 5 = 4; decide), f5, f6, f7⟩
theorem Fv {X : Cx} {b : List Stmt} {t : TS} {p : TS -> Prop} (q : QSs X b t) (h : p t) : ∃ W, PSs X b W /\ p W := ⟨t, q.h, h⟩
theorem Gp {xs : List V} {k : Int} (h0 : 0 <= k) (h1 : k < xs.length) : ∃ v, atI xs k = some v /\ v ∈ xs := by
 obtain ⟨n, rfl⟩ := eq_ofNat_of_zero_le h0
 have hn : n < xs.length := by omega
 exact ⟨_, bU (getElem?_eq_getElem hn), getElem_mem hn⟩
def wl (n : Int) : List V := [V.str "+", V.str "-", V.str "", V.str "be", V.str "as", V.str "from", V.str "07", V.str (Txt.mul "9" n), V.str "a.b.c.d.e", V.str "a()", V.str "()"] ++ [V.str "a..b", V.str "abcdefghi", V.str "0", V.str "let", V.str "need", V.str "A", V.str "a.b.c.d"]
theorem QW (ws : List Str) (k : Nat) : jK (ws.map V.str) (some (k : Int)) none = (ws.drop k).map V.str := by rw [ye, List.map_drop]
section
variable {K : Frag} {HE C D : Addr}
theorem iB {nm q : Str} {N : Addr} {bs bm : List Value} {sn : List Str} {sub : List Value} {ab : Bool} {col : Option Bool} {dd : Option Addr} {k0 k1 k2 k3 k5 : Option Value} (l : K.lookup C = some (excClassObj nm q C N bs bm true sn sub ab col dd k0 k1 k2 k3 k5 "ValueError.__new__")) : gJ K C bm := ⟨_, _, _, _, _, _, _, _, _, _, _, _, _, _, l⟩
theorem zU {bm bm' : List Value} (l : gJ K C bm) (l' : gJ K D bm') : kitOne K (.ref C) (.ref D) = some ((Value.ref C :: bm).contains (.ref D)) := by
 obtain ⟨_, _, _, _, _, _, _, _, _, _, _, _, _, _, l⟩ := l
 obtain ⟨_, _, _, _, _, _, _, _, _, _, _, _, _, _, l'⟩ := l'
 exact Ib l l'
theorem vX {bm : List Value} (l : gJ K C bm) : kitOne K (.ref C) (.ref C) = some true := by rw [zU l l]; simp
theorem bL (l : gJ K C (.ref HE :: cA)) (l' : gJ K D (.ref HE :: cA)) (h0 : D ≠ HE) (h1 : D ≠ C) : kitOne K (.ref C) (.ref D) = some false := by
 rw [zU l l', contains_cons, contains_cons, Lx]
 have e0 : (Value.ref D == Value.ref HE) = false := beq_eq_false_iff_ne.mpr fun z => h0 (Value.ref.inj z)
 have e1 : (Value.ref D == Value.ref C) = false := beq_eq_false_iff_ne.mpr fun z => h1 (Value.ref.inj z)
 rw [e0, e1]
 rfl
theorem G4 (l : gJ K C (.ref HE :: cA)) : kitOne K (.ref C) (.type "ValueError") = some true := by
 obtain ⟨_, _, _, _, _, _, _, _, _, _, _, _, _, _, l⟩ := l
 rw [Ng Z4 l]
 simp
theorem yG (l : gJ K C (.ref HE :: cA)) : Sub K C HE := by
 obtain ⟨_, _, _, _, _, _, _, _, _, _, _, _, _, _, l⟩ := l
 exact ⟨_, _, _, _, _, _, _, _, _, _, _, _, _, _, _, _, _, l, Z2⟩
theorem zF (l : gJ K C (.ref HE :: cA)) (ga : findIn K (.ref C) "__getattribute__" = some (some (.builtin "BaseException.__getattribute__"))) (nga : findIn K (.ref C) "__getattr__" = some none)
  (sa : findIn K (.ref C) "__setattr__" = some (some (.builtin "object.__setattr__"))) (cl : findIn K (.ref C) "__class__" = some (some (.builtin "object.__class__")))
  (cg : specialIn K (.builtin "object.__class__") "__get__" = some (some (.builtin "getset_descriptor.__get__"))) (ct : takesIn K (.builtin "object.__class__") = some true) : my K C := by
 obtain ⟨_, _, _, _, _, _, _, _, _, _, _, _, _, _, l⟩ := l
 exact JK l rfl rfl ga nga sa cl cg ct
structure XI (K : Frag) (HE C f : Addr) (x : Str) : Prop where
 A : nsIn K mainGlobals x = some (some (.ref C))
 l : gJ K C (.ref HE :: cA)
 e0 : findIn K (.ref C) "__getattribute__" = some (some (.builtin "BaseException.__getattribute__"))
 e1 : findIn K (.ref C) "__getattr__" = some none
 e2 : findIn K (.ref C) "__setattr__" = some (some (.builtin "object.__setattr__"))
 e3 : findIn K (.ref C) "__class__" = some (some (.builtin "object.__class__"))
 e4 : findIn K (.ref C) "at" = some none
 e5 : findIn K (.ref C) "__init__" = some (some (.ref f))
 kp : keepIn K (.ref C) = true
theorem aQ {cs : List Addr} (h : cs.Nodup) {i j : Nat} {a b : Addr} (ha : cs[i]? = some a) (hb : cs[j]? = some b) (hij : i ≠ j) : a ≠ b := fun e => by
 subst e
 exact hij ((List.getElem?_inj (List.getElem?_eq_some_iff.mp ha).1 h).mp (ha.trans hb.symm))
theorem EY (l : gJ K C (.ref HE :: cA)) {nm q : Str} {N : Addr} {bs : List Value} {sn : List Str} {sub : List Value} {ab : Bool} {col : Option Bool} {dd : Option Addr} {k0 k1 k2 k3 k5 : Option Value} (h : K.lookup HE = some (excClassObj nm q HE N bs cA true sn sub ab col dd k0 k1 k2 k3 k5 "ValueError.__new__")) : kitOne K (.ref C) (.ref HE) = some true := by
 rw [zU l (iB h)]; simp
theorem Je {bm : List Value} (l : gJ K C bm) : Sub K C C := by
 obtain ⟨_, _, _, _, _, _, _, _, _, _, _, _, _, _, l⟩ := l
 exact ⟨_, _, _, _, _, _, _, _, _, _, _, _, _, _, _, _, _, l, Z2⟩
end
theorem stp {p : Nat -> Prop} {a b : Nat} (h : p a) (k : ∀ x, a + 1 <= x -> x <= b -> p x) : ∀ x, a <= x -> x <= b -> p x := fun x h1 h2 => (Nat.eq_or_lt_of_le h1).elim (fun e => e ▸ h) fun l => k x l h2
theorem Ey {p : Nat -> Prop} (a : p 20) (b : p 21) (c : p 22) (d : p 23) (e : p 24) (f : p 25) (g : p 26) (h : p 27) (i : p 28) (j : p 29) (k : p 30) (l : p 31) (m : p 32) (n : p 33) : ∀ x, 20 <= x -> x <= 33 -> p x := stp a (stp b (stp c (stp d (stp e (stp f (stp g (stp h (stp i (stp j (stp k (stp l (stp m (stp n fun _ h1 h2 => absurd (le_trans h1 h2) Z0)))))))))))))
structure Qw (K : Frag) (C : Addr) : Prop where
 cl : RCl K C
 na : b8 K C "address"
 nr : b8 K C "rows"
 kit : kitOne K (.ref C) (.ref C) = some true
structure oY (rs : List aZ) : Prop where
 hi : rs.length <= 12
 ok : ∀ r ∈ rs, GoodR r
theorem oY.at {rs : List aZ} (g : oY rs) {i : Nat} {r : aZ} (h : rs[i]? = some r) : GoodR r := g.ok r (mem_of_getElem? h)
def rN (C : Nat -> Addr) (H : Hp) (l : Addr) (rs : List aZ) : Prop := ∃ xs : List V, H l = some (.lst xs) /\ xs.length = rs.length /\ ∀ (i : Nat) r, rs[i]? = some r -> ∃ a t, xs[i]? = some (.ref a) /\ dh C H a t r
theorem rN.same {C : Nat -> Addr} {H H' : Hp} {l : Addr} {rs : List aZ} (h : rN C H l rs) (s : au H H') : rN C H' l rs := by
 obtain ⟨xs, hl, hn, hx⟩ := h
 refine ⟨xs, s _ _ hl, hn, fun i r e => ?_⟩
 obtain ⟨a, t, e2, ra⟩ := hx i r e
 exact ⟨a, t, e2, ra.same s⟩
def pG (C : Nat -> Addr) (H : Hp) (p : Addr) (ad : Str) (l : Addr) (rs : List aZ) : Prop := ∃ dx fs, H p = some (.ins (C 7) dx fs) /\ fs.lookup ("address" : Str) = some (.str ad) /\ fs.lookup ("rows" : Str) = some (.ref l) /\
 fs.lookup ("bound" : Str) = none /\ fs.lookup ("place_of" : Str) = none /\ fs.lookup ("text" : Str) = none /\ rN C H l rs
theorem pG.same {C : Nat -> Addr} {H H' : Hp} {p : Addr} {ad : Str} {l : Addr} {rs : List aZ} (h : pG C H p ad l rs) (s : au H H') : pG C H' p ad l rs := by
 obtain ⟨dx, fs, e, a1, a2, a3, a4, a5, r⟩ := h
 exact ⟨dx, fs, s _ _ e, a1, a2, a3, a4, a5, r.same s⟩
theorem dB.but {H H' : Hp} {l x C dx : Addr} {ts : List Trm} {fs : List (Str × V)} (h : dB H l ts) (hx : H x = some (.ins C dx fs)) (s : SameBut x H H') : dB H' l ts := by
 obtain ⟨xs, hl, hn, ht⟩ := h
 refine ⟨xs, s _ _ hl (kO hl hx Z7), hn, fun i v e => ?_⟩
 obtain ⟨t, et, tm⟩ := ht i v e
 exact ⟨t, et, tm.but hx s⟩
theorem dh.but {C : Nat -> Addr} {H H' : Hp} {a t x D dx : Addr} {r : aZ} (h : dh C H a t r) (g : GoodR r) (hx : H x = some (.ins D dx [])) (s : SameBut x H H') : dh C H' a t r := by
 obtain ⟨dy, fs, e, f⟩ := h
 have ne : a ≠ x := fun z => by
  rw [z, hx] at e
  cases e
  rcases lt_or_ge r.so 5 with k | k
  ·exact absurd (f.nm k) Z7
  ·exact absurd (f.tm (.inr (.inr (Nat.le_antisymm g.so k)))).1 Z7
 exact ⟨dy, fs, s _ _ e ne, f.nm, fun k => ⟨(f.tm k).1, (f.tm k).2.but hx s⟩, f.ad, f.wd, f.nb, f.na, f.ns⟩
def isE (v : V) : Bool := !decide (v = .str "")
def sr (rs : List aZ) : List V := (rs.map fun r => V.str r.nm).filter isE
theorem tL : (("\n" : Str)) = ⟨#[10]⟩ := by decide +kernel
theorem Nh : (("\n" : Str)).length = 1 := by decide +kernel
theorem JQ : ((("\n" : Str)).length == 0) = false := by decide +kernel
theorem qL (ys : List Str) : Txt.join ("\n" : Str) ys = Str.join ⟨#[10]⟩ ys := by
 rw [tL]
 exact StrLaws.glued_eq_join _ _
def Ep (C : Nat -> Addr) : Sp := fun vs H Q _ => ∃ (x dx : Addr) (ad : Str) (d : Addr) (rs : List aZ), vs = [.ref x, .str ad, .ref d] /\ H x = some (.ins (C 7) dx []) /\ rN C H d rs /\ oY rs /\
 ∀ l H', H l = none -> SameBut x H H' -> pG C H' x ad l rs -> Q .non H'
def Ad (C : Nat -> Addr) : Sp := fun vs H Q _ => ∃ (p : Addr) (ad : Str) (l : Addr) (rs : List aZ), vs = [.ref p] /\ pG C H p ad l rs /\ oY rs /\ ∀ b H', H b = none -> au H H' -> H' b = some (.lst (sr rs)) -> Q (.ref b) H'
inductive Oc where
 | text (i : Nat)
 | many (i : Nat)
 | twice (i : Nat)
 | part (rs : List aZ)
inductive Scan : List Str -> Nat -> List aZ -> Oc -> Prop where
 | nil {i : Nat} {rs : List aZ} : Scan [] i rs (.part rs)
 | text {l : Str} {t : List Str} {i : Nat} {rs : List aZ} (h : ¬ RdR (Txt.split l (" " : Str))) : Scan (l :: t) i rs (.text i)
 | many {l : Str} {t : List Str} {i : Nat} {rs : List aZ} (h : RdR (Txt.split l (" " : Str))) (hi : 12 < i) : Scan (l :: t) i rs (.many i)
 | twice {l : Str} {t : List Str} {i : Nat} {rs : List aZ} {r : aZ} (g : GoodR r) (h : Txt.split l (" " : Str) = bG r) (hi : i <= 12) (hn : r.nm ≠ "") (hm : r.nm ∈ rs.map (·.nm)) : Scan (l :: t) i rs (.twice i)
 | next {l : Str} {t : List Str} {i : Nat} {rs : List aZ} {r : aZ} {o : Oc} (g : GoodR r) (h : Txt.split l (" " : Str) = bG r) (hi : i <= 12) (hm : r.nm = "" \/ r.nm ∉ rs.map (·.nm)) (s : Scan t (i + 1) (rs ++ [r]) o) : Scan (l :: t) i rs o
theorem tR {r s : aZ} (g : GoodR r) (h : GoodR s) (e : bG s = bG r) : s.nm = r.nm := by
 have e0 : s.so = r.so := tW h.so g.so (Option.some.inj ((lL h).symm.trans ((congrArg List.head? e).trans (lL g))))
 obtain ⟨so, nn, aa, ww, tt⟩ := r
 obtain ⟨so2, nn2, aa2, ww2, tt2⟩ := s
 obtain rfl : so2 = so := e0
 rcases six (show so2 <= 5 from g.so) with rfl | rfl | rfl | rfl | rfl | rfl
 ·have e : ("let" : Str) :: nn2 :: "be" :: wordsOf tt2 = ("let" : Str) :: nn :: "be" :: wordsOf tt := e
  injection e with _ e; injection e with e1 e
 ·have e : ("deed" : Str) :: nn2 :: "be" :: wordsOf tt2 = ("deed" : Str) :: nn :: "be" :: wordsOf tt := e
  injection e with _ e; injection e with e1 e
 ·have e : [("draw" : Str), aa2, "as", nn2] = [("draw" : Str), aa, "as", nn] := e
  injection e with _ e; injection e with e1 e; injection e with _ e; injection e with e2 e
 ·have e : [("late" : Str), aa2, "as", nn2] = [("late" : Str), aa, "as", nn] := e
  injection e with _ e; injection e with e1 e; injection e with _ e; injection e with e2 e
 ·have e : [("take" : Str), ww2, "from", aa2, "as", nn2] = [("take" : Str), ww, "from", aa, "as", nn] := e
  injection e with _ e; injection e with e1 e; injection e with _ e; injection e with e2 e; injection e with _ e; injection e with e3 e
 ·exact (h.no rfl).trans (g.no rfl).symm
def hdB (ws : List Str) : Bool := decide (ws.length = 2) && (decide (wAt ws 0 = "part") && d9 3 (wAt ws 1))
def XtD (D : Addr) (i : Int) (H : Hp) (E : XK) : Prop := ∀ x p H', au H H' -> H x = none -> H' x = some (ExO false x D (some p)) -> H' p = some (XdO p [("at", .int i)]) -> E (.ref x) none H'
def wI (C : Nat -> Addr) : Sp := fun vs H Q E => ∃ z : Str, vs = [.str z] /\ z.length <= 6000 /\ (hdB (Txt.split z (" " : Str)) = true -> Pur (.str (wAt (Txt.split z (" " : Str)) 1)) H Q) /\ (hdB (Txt.split z (" " : Str)) = false -> Xt C 0 H E)
theorem rT {rs : List aZ} {v : V} (h : v ∈ sr rs) : ∃ r ∈ rs, v = .str r.nm /\ r.nm ≠ "" := by
 obtain ⟨h1, h2⟩ := mem_filter.mp h
 obtain ⟨r, hr, rfl⟩ := mem_map.mp h1
 refine ⟨r, hr, rfl, fun e => ?_⟩
 rw [e] at h2
 exact absurd h2 Z4
theorem pW (rs : List aZ) : (sr rs).all gO = true := by
 rw [all_eq_true]
 intro v hv
 obtain ⟨r, _, rfl, _⟩ := rT hv
 rfl
theorem Ml {x : Str} {xs : List V} (h : ∀ v ∈ xs, ∃ z, v = .str z /\ z ≠ x) : inV (.str x) xs = false := by
 unfold inV
 rw [any_eq_false]
 intro v hv k
 obtain ⟨z, rfl, hz⟩ := h v hv
 exact hz (by simpa [eqV] using k)
theorem FZ {rs : List aZ} {x : Str} (h : x = "" \/ x ∉ rs.map (·.nm)) : inV (.str x) (sr rs) = false := Ml fun v hv => by
 obtain ⟨q, hq, rfl, hn⟩ := rT hv
 refine ⟨_, rfl, fun e => ?_⟩
 rcases h with h | h
 ·exact hn (e.trans h)
 ·exact h (mem_map.mpr ⟨q, hq, e⟩)
theorem BW {rs : List aZ} {x : Str} (hn : x ≠ "") (h : x ∈ rs.map (·.nm)) : inV (.str x) (sr rs) = true := by
 obtain ⟨q, hq, rfl⟩ := mem_map.mp h
 refine Eu (mem_filter.mpr ⟨mem_map.mpr ⟨q, hq, rfl⟩, ?_⟩)
 unfold isE
 rw [decide_eq_false fun z => hn (V.str.inj z)]; rfl
theorem Ga {K : Frag} {H : Hp} {n : Nat} {v : V} (h : gO v = true) : DEq K H n v v := by
 cases v with
 | non => exact .non
 | bl b => exact .bl b
 | int i => exact .int i
 | str x => exact .str x
 | _ => cases h
theorem Ay {K : Frag} : ∀ {t : Value} {cs : List Value}, (∀ c ∈ cs, kitOne K t c = some false) -> kitAny K t cs = some false
 | _, [], _ => rfl
 | t, c :: cs, h => by
  unfold kitAny
  rw [h c mem_cons_self]
  exact Ay fun d hd => h d (mem_cons_of_mem _ hd)
structure uK (K : Frag) (C : Nat -> Addr) (d : Nat) : Prop where
 x : my K (C d)
 a : b8 K (C d) "at"
 s : Sub K (C d) (C 20)
 k : ∀ j, 20 <= j -> j <= 33 -> kitOne K (.ref (C d)) (.ref (C j)) = some (decide (j = d \/ j = 20))
 v : kitOne K (.ref (C d)) (.type "ValueError") = some true
theorem Bd.one {K : Frag} {C : Nat -> Addr} (F : Bd K C) : uK K C 22 := ⟨F.x, F.a, F.s22, F.k, F.v⟩
theorem uK.inst {K : Frag} {C : Nat -> Addr} {d : Nat} (F : uK K C d) {H : Hp} {x p : Addr} {i : Int} {Q : VK} (j : Nat) (h1 : 20 <= j) (h2 : j <= 33) (hx : H x = some (ExO false x (C d) (some p))) (hp : H p = some (XdO p [("at", .int i)])) (q : Q (.bl (decide (j = d \/ j = 20))) H) : uR K [.ref x, .ref (C j)] H Q :=
 ⟨false, x, C d, some p, .ref (C j), .ref (C j), _, rfl, rfl, hx, fun p' e => by cases e; exact ⟨_, hp⟩, F.x, F.k j h1 h2, q⟩
theorem XtD.go {C : Nat -> Addr} {d : Nat} {i : Int} {H H1 : Hp} {E : XK} {x p : Addr} (h : XtD (C d) i H E) (s : au H H1) (hx : H1 x = none) (hp : upd H1 x (ExO true x (C d) none) p = none) (hne : p ≠ x) :
  E (.ref x) none (upd (upd (upd (upd H1 x (ExO true x (C d) none)) p (XdO p [("at", .int i)])) x (ExO true x (C d) (some p))) x (ExO false x (C d) (some p))) := by
 have hp1 : H1 p = none := by rw [aD hne] at hp; exact hp
 refine h x p _ (fun b o e => ?_) (s.free hx) ak (by rw [aD hne, aD hne]; exact ak)
 have e1 := s b o e
 have nx := aB e1 hx
 have np := aB e1 hp1
 rw [aD nx, aD nx, aD np, aD nx]
 exact e1
def three (d : Nat) : Prop := d = 22 \/ d = 31 \/ d = 33
def dW (d : Nat) : Str := if d = 22 then "text" else if d = 31 then "many" else "twice"
def yC (C : Nat -> Addr) : Sp := fun vs H Q _ => ∃ (x p : Addr) (d : Nat) (i : Int), vs = [.ref x] /\ three d /\ H x = some (ExO false x (C d) (some p)) /\ H p = some (XdO p [("at", .int i)]) /\ ∀ q H', au H H' -> H' q = some (.tup [.str (dW d), .int i]) -> Q (.ref q) H'
def ocW : Oc -> Str
 | .text _ => "text"
 | .many _ => "many"
 | .twice _ => "twice"
 | .part _ => "part"
def ocI : Oc -> Nat
 | .text i => i
 | .many i => i
 | .twice i => i
 | .part _ => 0
def Ft (ls : List Str) : List Str := Txt.split (wAt ls 0) (" " : Str)
def Ej (ls : List Str) (o : Oc) : Prop := (hdB (Ft ls) = false /\ o = .text 0) \/ (hdB (Ft ls) = true /\ Scan (ls.drop 1) 1 [] o)
structure vW (ls : List Str) : Prop where
 ne : ls ≠ []
 hi : ls.length <= 2000000
 le : ∀ y ∈ ls, y.length <= 6000
def OcQ (C : Nat -> Addr) (ad : Str) (o : Oc) (H : Hp) (Q : VK) (E : XK) : Prop := match o with
 | .text i => XtD (C 22) (i : Nat) H E
 | .many i => XtD (C 31) (i : Nat) H E
 | .twice i => XtD (C 33) (i : Nat) H E
 | .part rs => ∀ p l H', au H H' -> H p = none -> pG C H' p ad l rs -> Q (.ref p) H'
def DW (K : Frag) (C : Nat -> Addr) : Sp := fun vs H Q E => ∃ (z : Str) (ls : List Str) (o : Oc), vs = [.str z] /\ z.length <= 1000000 /\ ls = Txt.split z ("\n" : Str) /\ vW ls /\ Ej ls o /\ OcQ C (wAt (Ft ls) 1) o H Q E
def Ds (K : Frag) : Sp := fun vs H Q _ => ∃ (z : Str) (ls : List Str) (o : Oc), vs = [.str z] /\ z.length <= 1000000 /\ ls = Txt.split z ("\n" : Str) /\ vW ls /\ Ej ls o /\ ∀ q H', au H H' -> H' q = some (.tup [.str (ocW o), .int (ocI o)]) -> Q (.ref q) H'
theorem thirteen {bs : List Int} {m one two : Nat} (h : lq bs) (hm : m <= bs.length) (h1 : one < m) (hne : two ≠ one) {zs : List Str} (hz : ∀ j : Nat, j < 13 -> dX (eE bs m one two (0 + (j : Int))) ∈ zs) : 13 <= zs.length := by
 have key : ∀ n : Int, (eE bs m one two n)[one]? = some ((bs.getD one 0 + n) % 26) := fun n => by
  unfold eE
  rw [getElem?_set_ne hne, getElem?_set_self (by rw [length_take]; omega)]
 have nd : ((List.range 13).map fun j : Nat => dX (eE bs m one two (0 + (j : Int)))).Nodup := by
  refine List.pairwise_map.mpr (imp_of_mem (fun {a b} ha hb hlt e => ?_) List.pairwise_lt_range)
  have := KC e (nW h _ _ _ _) (nW h _ _ _ _) (key _) (key _)
  have := mem_range.mp ha
  have := mem_range.mp hb
  omega
 have := o7 _ zs nd fun x hx => by
  obtain ⟨j, hj, rfl⟩ := mem_map.mp hx
  exact hz j (mem_range.mp hj)
 rwa [length_map, length_range] at this
def mX (H : Hp) (b : Addr) (rs : List aZ) : Prop := ∃ xs : List V, H b = some (.lst xs) /\ xs.length = rs.length /\ ∀ (i : Nat) r, rs[i]? = some r -> ∃ v lt, xs[i]? = some v /\ kJ H v lt r
theorem mX.same {H H' : Hp} {b : Addr} {rs : List aZ} (h : mX H b rs) (s : au H H') : mX H' b rs := by
 obtain ⟨xs, hb, hl, hx⟩ := h
 refine ⟨xs, s _ _ hb, hl, fun i r e => ?_⟩
 obtain ⟨v, lt, e2, t⟩ := hx i r e
 exact ⟨v, lt, e2, t.same s⟩
theorem Dg (c : Nat) {V W : List (List Nat)} (hv : V ≠ []) (hw : W ≠ []) : inter c (V ++ W) = inter c V ++ c :: inter c W := by
 induction V with
 | nil => exact absurd rfl hv
 | cons x r ih =>
  by_cases k : r = []
  ·subst k; exact aW c x hw
  ·rw [cons_append, aW c x (by simp [k]), ih k, aW c x k, append_assoc, cons_append]
theorem xQ (c : Nat) {ys : List Str} (h : ys ≠ []) : inter c ((ys.flatMap fun y => Txt.split y ⟨#[c]⟩).map (·.cps.toList)) = inter c (ys.map (·.cps.toList)) := by
 induction ys with
 | nil => exact absurd rfl h
 | cons y r ih =>
  have e1 : inter c ((Txt.split y ⟨#[c]⟩).map (·.cps.toList)) = y.cps.toList := by rw [<- bF, StrLaws.join_split]
  by_cases k : r = []
  ·subst k
   rw [flatMap_cons, List.flatMap_nil, append_nil, e1]; rfl
  ·have nf : ∀ {zs : List Str}, zs ≠ [] -> ((zs.flatMap fun y => Txt.split y ⟨#[c]⟩).map (·.cps.toList)) ≠ [] := fun {zs} hz e => by
    obtain ⟨a, t, rfl⟩ := List.exists_cons_of_ne_nil hz
    rw [map_eq_nil_iff, flatMap_cons, List.append_eq_nil_iff] at e
    exact gW _ _ e.1
   rw [flatMap_cons, map_append, Dg c (by simpa using gW y ⟨#[c]⟩) (nf k), e1, ih k, map_cons, aW c _ (by simpa using k)]
theorem xg {ys : List Str} (h : ys ≠ []) : Txt.split (Txt.join ("\n" : Str) ys) ("\n" : Str) = ys.flatMap fun y => Txt.split y ("\n" : Str) := by
 rw [qL, tL]
 have e : Str.join ⟨#[10]⟩ ys = Str.join ⟨#[10]⟩ (ys.flatMap fun y => Txt.split y ⟨#[10]⟩) := dO (by rw [bF, bF, xQ 10 h])
 rw [e]
 refine gH 10 _ (fun z => ?_) fun y hy => ?_
 ·obtain ⟨a, t, rfl⟩ := List.exists_cons_of_ne_nil h
  rw [flatMap_cons, List.append_eq_nil_iff] at z
  exact gW _ _ z.1
 ·obtain ⟨x, _, hx⟩ := List.mem_flatMap.mp hy
  exact StrLaws.split_free x 10 y hx
theorem XtD.on {D : Addr} {i : Int} {H H1 : Hp} {E : XK} (h : XtD D i H E) (s : au H H1) : XtD D i H1 E := fun x p H' s' hx e ep => h x p H' (s.trans s') (s.free hx) e ep
theorem Scan.inv {l : Str} {t : List Str} {i : Nat} {rs : List aZ} {o : Oc} (s : Scan (l :: t) i rs o) : (¬ RdR (Txt.split l (" " : Str)) /\ o = .text i) \/ (RdR (Txt.split l (" " : Str)) /\ 12 < i /\ o = .many i) \/
  (∃ r, GoodR r /\ Txt.split l (" " : Str) = bG r /\ i <= 12 /\ r.nm ≠ "" /\ r.nm ∈ rs.map (·.nm) /\ o = .twice i) \/ (∃ r, GoodR r /\ Txt.split l (" " : Str) = bG r /\ i <= 12 /\ (r.nm = "" \/ r.nm ∉ rs.map (·.nm)) /\ Scan t (i + 1) (rs ++ [r]) o) := by
 cases s with
 | text h => exact .inl ⟨h, rfl⟩
 | many h hi => exact .inr (.inl ⟨h, hi, rfl⟩)
 | twice g h hi hn hm => exact .inr (.inr (.inl ⟨_, g, h, hi, hn, hm, rfl⟩))
 | next g h hi hm s => exact .inr (.inr (.inr ⟨_, g, h, hi, hm, s⟩))
theorem Fj {i : Nat} {rs : List aZ} {o : Oc} (s : Scan [] i rs o) : o = .part rs := by cases s; rfl
theorem FT {n : Nat} (h : n <= 1000) : n.log2 < 1920 := by
 refine Nat.lt_of_le_of_lt (Nat.log2_le_self n) Z1
def flg (d : Nat) : List Bool := [decide (22 = d \/ 22 = 20), decide (31 = d \/ 31 = 20), decide (33 = d \/ 33 = 20)]
theorem Pb {d : Nat} (h : three d) : ∃ j : Nat, (flg d).count true = 1 /\ (flg d)[j]? = some true /\ (∀ m, m < j -> (flg d)[m]? = some false) /\ atI [V.str "text", V.str "many", V.str "twice"] (j : Int) = some (.str (dW d)) := by
 rcases h with rfl | rfl | rfl
 ·exact ⟨0, Z0, Z0, fun m hm => absurd hm (Nat.not_lt_zero _), rfl⟩
 ·exact ⟨1, Z0, Z0, fun m hm => by obtain rfl : m = 0 := Z1; decide, rfl⟩
 ·exact ⟨2, Z0, Z0, fun m hm => by rcases (by omega : m = 0 \/ m = 1) with rfl | rfl <;> decide, rfl⟩
theorem Jo {K : Frag} {C : Nat -> Addr} {d : Nat} (xo : uK K C d) (h : three d) : kitAny K (.ref (C d)) ([C 23, C 24, C 25, C 26, C 21, C 27, C 28, C 29, C 30, C 32].map Value.ref) = some false := by
 refine Ay fun c hc => ?_
 have e : ([C 23, C 24, C 25, C 26, C 21, C 27, C 28, C 29, C 30, C 32].map Value.ref) = ([23, 24, 25, 26, 21, 27, 28, 29, 30, 32] : List Nat).map fun j => Value.ref (C j) := rfl
 rw [e] at hc
 obtain ⟨j, hj, rfl⟩ := mem_map.mp hc
 have k : ∀ j ∈ ([23, 24, 25, 26, 21, 27, 28, 29, 30, 32] : List Nat), 20 <= j /\ j <= 33 /\ j ≠ 22 /\ j ≠ 31 /\ j ≠ 33 /\ j ≠ 20 := by decide
 obtain ⟨k1, k2, k3, k4, k5, k6⟩ := k j hj
 rw [xo.k j k1 k2, decide_eq_false]
 rcases h with rfl | rfl | rfl <;> omega
theorem Ky {H : Hp} {b lt : Addr} {rs : List aZ} {ts : List Trm} (hb : mX H b rs) (t : dB H lt ts) (ne : ts ≠ []) : lt ≠ b := by
 rintro rfl
 obtain ⟨xs, hx, hl, he⟩ := hb
 obtain ⟨ys, hy, hn, ht⟩ := t
 rw [hx] at hy
 cases hy
 have h0 : 0 < rs.length := by rw [<- hl, hn]; exact length_pos_iff.mpr ne
 obtain ⟨v, l2, e, p, aa, ww, rfl, hp, _⟩ := he 0 _ (getElem?_eq_getElem h0)
 obtain ⟨t, _, p2, y, e2, hp2, _⟩ := ht 0 _ e
 cases e2
 rw [hp] at hp2
 cases hp2
theorem kJ.upd {H : Hp} {b lt : Addr} {v : V} {r : aZ} {xs : List V} {o : HO} (h : kJ H v lt r) (hb : H b = some (.lst xs)) (hne : r.so = 0 \/ r.so = 1 \/ r.so = 5 -> lt ≠ b) : kJ (upd H b o) v lt r := by
 obtain ⟨p, aa, ww, e, hp, h1, h2, t⟩ := h
 exact ⟨p, aa, ww, e, by rw [aD (kO hp hb Z7)]; exact hp, h1, h2, fun k => (t k).upd hb (hne k)⟩
theorem mX.snoc {H : Hp} {b lt : Addr} {xs : List V} {rs : List aZ} {v : V} {r : aZ} (h : mX H b rs) (hb : H b = some (.lst xs)) (g : ∀ r ∈ rs, GoodR r) (gr : GoodR r) (t : kJ H v lt r) : mX (upd H b (.lst (xs ++ [v]))) b (rs ++ [r]) := by
 have key : ∀ {v lt r}, GoodR r -> kJ H v lt r -> kJ (upd H b (.lst (xs ++ [v]))) v lt r := fun gr t => t.upd hb fun k => by
  obtain ⟨_, _, _, _, _, _, _, tt⟩ := id t
  exact Ky h (tt k) gr.ts.lo
 have h' := h
 obtain ⟨ys, hy, hl, he⟩ := h'
 rw [hb] at hy
 cases hy
 refine ⟨_, ak, by rw [length_append, length_append, hl]; rfl, fun i q e => ?_⟩
 rcases lt_or_ge i rs.length with k | k
 ·rw [getElem?_append_left k] at e
  obtain ⟨v2, l2, e2, t2⟩ := he i q e
  refine ⟨v2, l2, by rw [getElem?_append_left Z1]; exact e2, t2.upd hb fun k => ?_⟩
  obtain ⟨_, _, _, _, _, _, _, tt⟩ := id t2
  exact Ky h (tt k) (g q (mem_of_getElem? e)).ts.lo
 ·have hi := (List.getElem?_eq_some_iff.mp e).1
  rw [length_append, List.length_singleton] at hi
  obtain rfl : i = rs.length := by omega
  rw [getElem?_append_right (le_refl _), sub_self] at e
  cases e
  exact ⟨v, lt, by rw [getElem?_append_right Z1, hl, sub_self]; rfl, key gr t⟩
theorem jY {K : Frag} {H : Hp} {a b : Addr} {xs : List V} (ha : H a = some (.tup xs)) (hb : H b = some (.tup xs)) (h : xs.all gO = true) : DSq K H a b :=
 ⟨0, _, _, Z0, rfl, .inl ⟨SqT.of ha, SqT.of hb⟩, fun i x y ex ey => by rw [ex] at ey; cases ey; exact Ga (all_eq_true.mp h x (mem_of_getElem? ex))⟩
theorem Aq {ys : List Str} (h : ys ≠ []) : (Txt.join ("\n" : Str) ys).length + 1 = (ys.map (·.length)).sum + ys.length := by
 rw [qL, cB, bF, mJ 10 (by simpa using h), map_map, length_map]
 have e : ys.map (List.length ∘ fun x : Str => x.cps.toList) = ys.map (·.length) := List.map_congr_left fun y _ => (cB y).symm
 rw [e]
theorem By {ys : List Str} {m : Nat} (h : ∀ y ∈ ys, y.length <= m) : (ys.map (·.length)).sum <= ys.length * m := by
 induction ys with
 | nil => simp
 | cons y r ih =>
  have h1 := h y mem_cons_self
  have h2 := ih fun z hz => h z (mem_cons_of_mem _ hz)
  rw [map_cons, sum_cons, length_cons, Nat.add_mul, Nat.one_mul]
  omega
theorem Es {L : List Str} (h : L ≠ []) (h1 : L.length <= 100) (h2 : ∀ y ∈ L, y.length <= 5900) : (Txt.join ("\n" : Str) L).length <= 1000000 /\ vW (Txt.split (Txt.join ("\n" : Str) L) ("\n" : Str)) := by
 have k1 := Aq h
 have k2 := By h2
 have k3 : L.length * 5900 <= 100 * 5900 := Nat.mul_le_mul_right _ h1
 have hz : (Txt.join ("\n" : Str) L).length <= 1000000 := by omega
 have hn := gW (Txt.join ("\n" : Str) L) ("\n" : Str)
 refine ⟨hz, hn, ?_, fun y hy => ?_⟩
 ·have := Aq hn
  rw [qL, tL, StrLaws.join_split, <- tL] at this
  omega
 ·rw [xg h] at hy
  obtain ⟨x, hx, hy⟩ := List.mem_flatMap.mp hy
  rw [tL] at hy
  have := m8 hy
  have := h2 x hx
  omega
theorem uQ {xs : List V} (h : ∀ (i : Nat) v, xs[i]? = some v -> ∃ y : Str, v = V.str y /\ y.length <= 5900) : ∃ ys : List Str, ys.length = xs.length /\ xs = ys.map V.str /\ ∀ y ∈ ys, y.length <= 5900 := by
 induction xs with
 | nil => exact ⟨[], rfl, rfl, fun y hy => by cases hy⟩
 | cons x r ih =>
  obtain ⟨y, rfl, hy⟩ := h 0 x rfl
  obtain ⟨ys, e1, e2, e3⟩ := ih fun i v e => h (i + 1) v e
  refine ⟨y :: ys, by rw [length_cons, e1]; rfl, by rw [e2]; rfl, fun z hz => ?_⟩
  rcases mem_cons.mp hz with rfl | hz
  ·exact hy
  ·exact e3 z hz
theorem zJ {ys : List Str} (h : iM ys) : 10 ∉ (dotted ys).cps.toList := fun k => by
 rcases dI h.nm k with e | e
 ·cases e
 ·omega
theorem pH {z : Str} (h : bT z) : 10 ∉ z.cps.toList := fun k => by have := h.ok 10 k; omega
theorem M5 {th : Thg} (h : gR th) : 10 ∉ (wordOf th).cps.toList := by
 cases th with
 | num m =>
  intro z
  have := digit_range z
  omega
 | nms c ys =>
  have key : 10 ∉ (dotted ys).cps.toList := fun z => by have := dI (gQ.nm h) z; omega
  cases c with
  | true =>
   show 10 ∉ (dotted ys ++ brk).cps.toList
   rw [aU, jz]
   intro z
   rcases mem_append.mp z with z | z
   ·exact key z
   ·simp at z
  | false => exact key
theorem pC {ts : List Trm} (h : bN ts) {y : Str} (hy : y ∈ wordsOf ts) : 10 ∉ y.cps.toList := by
 rcases lD hy with ⟨t, ht, rfl⟩ | ⟨t, ht, rfl⟩
 ·exact M5 (h.ok t ht).th
 ·rcases o6 t.sg with e | e <;> rw [e] <;> decide
theorem xx {r : aZ} (g : GoodR r) : 10 ∉ (bu r).cps.toList := by
 rw [uf g, bF]
 intro k
 rcases o8 k with e | ⟨c, hc, e⟩
 ·exact absurd e Z0
 ·obtain ⟨y, hy, rfl⟩ := mem_map.mp hc
  obtain ⟨so, nn, aa, ww, tt⟩ := r
  have h5 : so <= 5 := g.so
  obtain ⟨ys, ga, ea⟩ := g.ad
  have ea : aa = dotted ys := ea
  subst ea
  have gt : bN tt := g.ts
  have gw : bT ww := g.wd
  rcases six h5 with rfl | rfl | rfl | rfl | rfl | rfl
  ·have hy : y ∈ ("let" : Str) :: nn :: "be" :: wordsOf tt := hy
   simp only [mem_cons] at hy
   rcases hy with rfl | rfl | rfl | hy
   ·exact absurd e Z4
   ·exact pH (g.nm (show 0 < 5 by decide)) e
   ·exact absurd e Z4
   ·exact pC gt hy e
  ·have hy : y ∈ ("deed" : Str) :: nn :: "be" :: wordsOf tt := hy
   simp only [mem_cons] at hy
   rcases hy with rfl | rfl | rfl | hy
   ·exact absurd e Z4
   ·exact pH (g.nm (show 1 < 5 by decide)) e
   ·exact absurd e Z4
   ·exact pC gt hy e
  ·have hy : y ∈ [("draw" : Str), dotted ys, "as", nn] := hy
   simp only [mem_cons, not_mem_nil, or_false] at hy
   rcases hy with rfl | rfl | rfl | rfl
   ·exact absurd e Z4
   ·exact zJ ga e
   ·exact absurd e Z4
   ·exact pH (g.nm (show 2 < 5 by decide)) e
  ·have hy : y ∈ [("late" : Str), dotted ys, "as", nn] := hy
   simp only [mem_cons, not_mem_nil, or_false] at hy
   rcases hy with rfl | rfl | rfl | rfl
   ·exact absurd e Z4
   ·exact zJ ga e
   ·exact absurd e Z4
   ·exact pH (g.nm (show 3 < 5 by decide)) e
  ·have hy : y ∈ [("take" : Str), ww, "from", dotted ys, "as", nn] := hy
   simp only [mem_cons, not_mem_nil, or_false] at hy
   rcases hy with rfl | rfl | rfl | rfl | rfl | rfl
   ·exact absurd e Z4
   ·exact pH gw e
   ·exact absurd e Z4
   ·exact zJ ga e
   ·exact absurd e Z4
   ·exact pH (g.nm (show 4 < 5 by decide)) e
  ·have hy : y ∈ ("need" : Str) :: wordsOf tt := hy
   simp only [mem_cons] at hy
   rcases hy with rfl | hy
   ·exact absurd e Z4
   ·exact pC gt hy e
def Hn : List Str := ["let", "be", "as", "draw", "late", "take", "from", "need", "deed", "part"]
theorem My : ∀ z ∈ Hn, bT z := fun z hz => by
 simp only [Hn, mem_cons, not_mem_nil, or_false] at hz
 rcases hz with rfl | rfl | rfl | rfl | rfl | rfl | rfl | rfl | rfl | rfl
 all_goals exact JP Z4
theorem Np : Hn.Nodup := by decide +kernel
def tZ : SpN := fun vs H n Q => ∃ c : Int, vs = [.int c, .int 12] /\ ∀ n' l H' (zs : List (Str × Tok)), n <= n' -> au H H' -> zs.length = 12 -> (zs.map (·.1)).Nodup -> (∀ z ∈ zs.map (·.1), bT z) -> Below n' zs -> H' l = some (.lst (cz zs)) -> Q n' (.ref l) H'
theorem wY (zs : List (Str × Tok)) : (cz zs).map fgt = (zs.map (·.1)).map V.str := by unfold cz; rw [map_map, map_map]; rfl
theorem GQ (zs : List (Str × Tok)) (k : Nat) : jK (cz zs) none (some (k : Int)) = cz (zs.take k) := by rw [zV]; unfold cz; rw [map_take]
theorem BV (zs : List (Str × Tok)) (x : Str) (t : Tok) : cz zs ++ [V.stk x t] = cz (zs ++ [(x, t)]) := by unfold cz; rw [map_append]; rfl
theorem zr {n m : Nat} {zs : List (Str × Tok)} {x : Str} {k : Tok} (h : Below n zs) (l : n <= m) (h0 : 0 < k) (h1 : k < m) : Below m (zs ++ [(x, k)]) := fun p hp => by
 rcases mem_append.mp hp with h2 | h2
 ·exact h.mono l p h2
 ·cases mem_singleton.mp h2; exact ⟨h0, h1⟩
theorem qX {K : Frag} {a : Addr} {ks : List Int} {te : TEn} {τ0 : L2.St} {H : Hp} {n0 : Nat} {Fin : Nat -> List V -> Hp -> Prop} (h8 : ks.length <= 8) (hr : lq ks) (hl : SqL K H a (ks.map V.int)) (hp : 0 < n0)
  (hte : ∀ (b : Int) (n : Nat) H' (Q : VKn), 0 <= b -> b < 26 -> au H H' -> (∀ k, n <= k -> Q (k + 1) (V.stk ⟨#[97 + b.toNat]⟩ k) H') -> te n (τ0.set 0 (some (V.int b))) H' Q)
  (hfin : ∀ n zs H', n0 <= n -> au H H' -> zs.map (·.1) = (ks.map fun k => (⟨#[97 + k.toNat]⟩ : Str)) -> Below n zs -> Fin n (cz zs) H') : uN (dg 0) te (Itl K a) n0 τ0 H Fin := by
 have hat : ∀ i, i < ks.length -> (ks.map V.int)[i]? = some (V.int (ks.getD i 0)) := fun i hi => by simp [hi]
 refine J8 (m := ks.length) (fun i => ⟨#[97 + (ks.getD i 0).toNat]⟩) (le_trans h8 Z0) (fun i => V.int (ks.getD i 0)) (fun i H' s hi => ⟨_, _, s.seq hl, hat i hi⟩) (fun H' s => ⟨_, s.seq hl, by rw [length_map]; exact le_refl _⟩)
  (fun i H' x H'' s hi y => ⟨Option.some.inj ((y.2 _ (s.seq hl)).symm.trans (hat i hi)), y.1⟩) (fun i n H' Q hi hn s k => ?_) (fun n zs H' hn s hz hb => hfin n zs H' hn s (hz.trans ?_) hb)
 ·have hb := hr ks[i] (getElem_mem hi)
  have e : ks.getD i 0 = ks[i] := by simp [List.getD, hi]
  rw [e] at k ⊢
  exact hte _ n H' Q hb.1 hb.2 s fun j hj => k (j + 1) j H' Z1 (au.refl _) Z1 Z1
 ·apply ext_getElem
  ·simp
  ·intro i h1 h2
   have : i < ks.length := by simpa using h2
   simp [this]
def xu (K : Frag) (C : Nat -> Addr) : Sp := fun vs H Q E => DW K C vs H Q E \/ ∃ v, vs = [v] /\ xH K H v /\ Xt C 0 H E
def fu (K : Frag) : Sp := fun vs H Q E => Ds K vs H Q E \/ ∃ v, vs = [v] /\ xH K H v /\ ∀ q H', au H H' -> H' q = some (.tup [.str "text", .int 0]) -> Q (.ref q) H'
structure gB (ds : List (Str × Str)) : Prop where
 ok : ∀ d ∈ ds, ∃ r, GoodR r /\ d = (bu r, r.nm)
 ap : ∀ (i j : Nat) d e, i < j -> ds[i]? = some d -> ds[j]? = some e -> d.2 = e.2 -> e.2 = ""
def iQ (H : Hp) (l : Addr) (ds : List (Str × Str)) : Prop := ∃ xs : List V, H l = some (.lst xs) /\ xs.length = ds.length /\ ∀ (i : Nat) d, ds[i]? = some d -> ∃ p, xs[i]? = some (.ref p) /\ H p = some (.tup [.str d.1, .str d.2])
theorem iQ.same {H H' : Hp} {l : Addr} {ds : List (Str × Str)} (h : iQ H l ds) (s : au H H') : iQ H' l ds := by
 obtain ⟨xs, hl, hn, hx⟩ := h
 exact ⟨xs, s _ _ hl, hn, fun i d e => let ⟨p, e1, e2⟩ := hx i d e; ⟨p, e1, s _ _ e2⟩⟩
def tY : Sp := fun vs H Q _ => ∃ (c : Int) (m : Nat), vs = [.int c, .int m] /\ 1 <= m /\ m <= 15 /\ ∀ l H' ds, H l = none -> au H H' -> ds.length = m -> gB ds -> iQ H' l ds -> Q (.ref l) H'
def wC (y : Str) : Prop := ¬ RdR (Txt.split y (" " : Str)) /\ 10 ∉ y.cps.toList /\ y.length <= 100
def yq : Sp := fun vs H Q _ => ∃ c : Int, vs = [.int c, .int 6] /\ ∀ y, wC y -> Pur (.str y) H Q
def dC : List Str -> Nat -> Str × Nat
 | [], _ => ("part", 0)
 | m :: ms, i => if m = "text" then ("text", i) else if 12 < i then ("many", i) else if m = "twice" then ("twice", i) else dC ms (i + 1)
def Ao : Sp := fun vs H Q _ => ∃ (l : Addr) (ms : List Str), vs = [.ref l] /\ H l = some (.lst (ms.map V.str)) /\ ms.length <= 100 /\ ∀ q H', au H H' -> H' q = some (.tup [.str (dC ms 0).1, .int ((dC ms 0).2 : Nat)]) -> Q (.ref q) H'
def ut : Sp := fun vs H Q _ => ∃ c : Int, vs = [.int c] /\ Pur (.bl true) H Q
def wdN (z : Str) : Bool := mz z || d9 4 z
def exN (c : Bool) (ws : List Str) : Bool := decide (ws.length % 2 = 1) && (wdN (wAt ws 0) || (c && Txt.endswith (wAt ws 0) brk))
def nec (ws : List Str) : Bool :=
 (decide (wAt ws 0 = "let") && (nmB (wAt ws 1) && exN true (ws.drop 3))) || (decide (wAt ws 0 = "deed") && (nmB (wAt ws 1) && exN false (ws.drop 3))) ||
 (decide (wAt ws 0 = "draw") && (decide (ws.length = 4) && nmB (wAt ws 3))) || (decide (wAt ws 0 = "late") && d9 3 (wAt ws 1)) ||
 (decide (wAt ws 0 = "take") && decide (ws.length = 6)) || (decide (wAt ws 0 = "need") && exN true (ws.drop 1))
theorem Nr {th : Thg} (g : gR th) : (wdN (wordOf th) || Txt.endswith (wordOf th) brk) = true /\ ((∀ ys, th ≠ .nms true ys) -> wdN (wordOf th) = true) := by
 cases th with
 | num m =>
  have h := (iZ (show m < 10 ^ 20 from g)).1
  have e : wdN (wordOf (.num m)) = true := by unfold wdN; rw [show wordOf (.num m) = jt m from rfl, h]; rfl
  exact ⟨by rw [e]; rfl, fun _ => e⟩
 | nms c ys =>
  have p : d9 4 (dotted ys) = true := Jd.mpr ⟨ys, g, rfl⟩
  cases c with
  | true => exact ⟨by rw [show wordOf (.nms true ys) = dotted ys ++ brk from rfl, jr]; simp, fun h => absurd rfl (h ys)⟩
  | false =>
   have e : wdN (wordOf (.nms false ys)) = true := by unfold wdN; rw [show wordOf (.nms false ys) = dotted ys from rfl, p]; simp
   exact ⟨by rw [e]; rfl, fun _ => e⟩
theorem Lq {ts : List Trm} (g : bN ts) : exN true (wordsOf ts) = true /\ ((∀ t ∈ ts, ∀ ys, t.th ≠ .nms true ys) -> exN false (wordsOf ts) = true) := by
 obtain ⟨h1, _⟩ := qK ⟨ts, g, rfl⟩
 match ts, g, h1 with
 | [], g, _ => exact absurd rfl g.lo
 | t :: r, g, h1 =>
  obtain ⟨a, b⟩ := Nr (g.ok t (mem_cons_self)).th
  have e : wAt (wordsOf (t :: r)) 0 = wordOf t.th := rfl
  refine ⟨?_, fun h => ?_⟩
  ·unfold exN; rw [e, decide_eq_true h1, Bool.true_and, Bool.true_and]; exact a
  ·unfold exN; rw [e, decide_eq_true h1, Bool.true_and, b (h t mem_cons_self)]; rfl
theorem Mp {ws : List Str} (h : RdR ws) : nec ws = true := by
 obtain ⟨r, g, rfl⟩ := h
 obtain ⟨e1, e2⟩ := Lq g.ts
 obtain ⟨ys, ga, ea⟩ := g.ad
 have pa : d9 3 r.ad = true := by rw [ea]; exact rE ga.lo ga.hi ga.nm
 have n1 := g.nm
 have d1 := g.dd
 obtain ⟨so, nn, aa, ww, tt⟩ := r
 have h5 : so <= 5 := g.so
 unfold nec
 rcases six h5 with rfl | rfl | rfl | rfl | rfl | rfl
 ·have nb : nmB nn = true := bT.nmB (n1 (by show 0 < 5; decide))
  have e : exN true (wordsOf tt) = true := e1
  have k0 : wAt (bG ⟨0, nn, aa, ww, tt⟩) 0 = "let" := rfl
  have k1 : wAt (bG ⟨0, nn, aa, ww, tt⟩) 1 = nn := rfl
  have k2 : (bG ⟨0, nn, aa, ww, tt⟩).drop 3 = wordsOf tt := rfl
  rw [k0, k1, k2, nb, e]; simp
 ·have nb : nmB nn = true := bT.nmB (n1 (by show 1 < 5; decide))
  have e : exN false (wordsOf tt) = true := e2 (d1 rfl)
  have k0 : wAt (bG ⟨1, nn, aa, ww, tt⟩) 0 = "deed" := rfl
  have k1 : wAt (bG ⟨1, nn, aa, ww, tt⟩) 1 = nn := rfl
  have k2 : (bG ⟨1, nn, aa, ww, tt⟩).drop 3 = wordsOf tt := rfl
  rw [k0, k1, k2, nb, e]; simp
 ·have nb : nmB nn = true := bT.nmB (n1 (by show 2 < 5; decide))
  have k0 : wAt (bG ⟨2, nn, aa, ww, tt⟩) 0 = "draw" := rfl
  have k1 : wAt (bG ⟨2, nn, aa, ww, tt⟩) 3 = nn := rfl
  have k2 : (bG ⟨2, nn, aa, ww, tt⟩).length = 4 := rfl
  rw [k0, k1, k2, nb]; simp
 ·have pb : d9 3 aa = true := pa
  have k0 : wAt (bG ⟨3, nn, aa, ww, tt⟩) 0 = "late" := rfl
  have k1 : wAt (bG ⟨3, nn, aa, ww, tt⟩) 1 = aa := rfl
  rw [k0, k1, pb]; simp
 ·have k0 : wAt (bG ⟨4, nn, aa, ww, tt⟩) 0 = "take" := rfl
  have k2 : (bG ⟨4, nn, aa, ww, tt⟩).length = 6 := rfl
  rw [k0, k2]; simp
 ·have e : exN true (wordsOf tt) = true := e1
  have k0 : wAt (bG ⟨5, nn, aa, ww, tt⟩) 0 = "need" := rfl
  have k2 : (bG ⟨5, nn, aa, ww, tt⟩).drop 1 = wordsOf tt := rfl
  rw [k0, k2, e]; simp
def bO : List Str := ["", "let", "let a", "let a be", "draw a", "draw a as", "Let a be 1", " let a be 1", "need  a", "need a ", "take a from b", "late a.b.c.d as e", "deed a be b()", "part a", "let a be 01", "draw a as A", "a", "need"]
theorem Mr : (bO.all fun y => !nec (Txt.split y (" " : Str)) && (!y.cps.toList.contains 10 && decide (y.length <= 100))) = true := by decide +kernel
theorem uW {y : Str} (h : y ∈ bO) : wC y := by
 have k := all_eq_true.mp Mr y h
 rw [and_eq_true, and_eq_true, decide_eq_true_eq] at k
 refine ⟨fun r => ?_, fun z => ?_, k.2.2⟩
 ·have := Mp r
  rw [this] at k
  exact absurd k.1 Z0
 ·have k2 := k.2.1
  rw [List.contains_iff_mem.mpr z] at k2
  exact absurd k2 Z0
def Df (h m : Str) : Prop := ((m = "text" /\ hdB (Txt.split h (" " : Str)) = false) \/ (m = "" /\ hdB (Txt.split h (" " : Str)) = true)) /\ 10 ∉ h.cps.toList /\ h.length <= 100
def RowC (ds : List (Str × Str)) (k : Nat) (l m : Str) : Prop := (m = "text" /\ wC l) \/ (m = "" /\ ∃ d, ds[k]? = some d /\ l = d.1) \/ (m = "twice" /\ ∃ r, GoodR r /\ l = bu r /\ r.nm ≠ "" /\ ∃ (j : Nat) (d : Str × Str), j < k /\ ds[j]? = some d /\ d.2 = r.nm)
structure LMk (ds : List (Str × Str)) (L M : List Str) : Prop where
 ll : L.length = M.length
 lo : L ≠ []
 hi : L.length <= 17
 hd : ∀ l m, L[0]? = some l -> M[0]? = some m -> Df l m
 tl : ∀ (k : Nat) l m, L[k + 1]? = some l -> M[k + 1]? = some m -> RowC ds k l m
theorem LMk.set {ds : List (Str × Str)} {L M : List Str} (h : LMk ds L M) (i : Nat) {l m : Str} (c : RowC ds i l m) : LMk ds (L.set (i + 1) l) (M.set (i + 1) m) := by
 refine ⟨by rw [length_set, length_set]; exact h.ll, fun z => h.lo (by simpa using z), by rw [length_set]; exact h.hi, fun a b e1 e2 => ?_, fun k a b e1 e2 => ?_⟩
 ·rw [getElem?_set_ne Z1] at e1 e2
  exact h.hd a b e1 e2
 ·by_cases hk : i = k
  ·subst hk
   rw [List.getElem?_set_self' ] at e1 e2
   cases q1 : L[i + 1]? with
   | none => rw [q1] at e1; cases e1
   | some x =>
    cases q2 : M[i + 1]? with
    | none => rw [q2] at e2; cases e2
    | some y => rw [q1] at e1; rw [q2] at e2; cases e1; cases e2; exact c
  ·rw [getElem?_set_ne Z1] at e1 e2
   exact h.tl k a b e1 e2
theorem LMk.head {ds : List (Str × Str)} {L M : List Str} (h : LMk ds L M) {l m : Str} (c : Df l m) : LMk ds (L.set 0 l) (M.set 0 m) := by
 refine ⟨by rw [length_set, length_set]; exact h.ll, fun z => h.lo (by simpa using z), by rw [length_set]; exact h.hi, fun a b e1 e2 => ?_, fun k a b e1 e2 => ?_⟩
 ·rw [List.getElem?_set_self'] at e1 e2
  cases q1 : L[0]? with
  | none => rw [q1] at e1; cases e1
  | some x =>
   cases q2 : M[0]? with
   | none => rw [q2] at e2; cases e2
   | some y => rw [q1] at e1; rw [q2] at e2; cases e1; cases e2; exact c
 ·rw [getElem?_set_ne Z1] at e1 e2
  exact h.tl k a b e1 e2
theorem LMk.snoc {ds : List (Str × Str)} {L M : List Str} (h : LMk ds L M) (h16 : L.length <= 16) {l : Str} (c : wC l) : LMk ds (L ++ [l]) (M ++ [("text" : Str)]) := by
 have ll := h.ll
 have lp : 0 < L.length := length_pos_iff.mpr h.lo
 refine ⟨by rw [length_append, length_append, ll]; rfl, Z2, by rw [length_append]; show L.length + 1 <= 17; omega, fun a b e1 e2 => ?_, fun k a b e1 e2 => ?_⟩
 ·rw [getElem?_append_left lp] at e1
  rw [getElem?_append_left Z1] at e2
  exact h.hd a b e1 e2
 ·by_cases hk : k + 1 < L.length
  ·rw [getElem?_append_left hk] at e1
   rw [getElem?_append_left Z1] at e2
   exact h.tl k a b e1 e2
  ·rw [getElem?_append_right Z1] at e1 e2
   rw [ll] at e1
   cases q : k + 1 - M.length with
   | zero => rw [q] at e1 e2; cases e1; cases e2; exact .inl ⟨rfl, c⟩
   | succ n => rw [q] at e1; simp at e1
theorem LMk.line {ds : List (Str × Str)} {L M : List Str} (h : LMk ds L M) (p : gB ds) {l : Str} (hl : l ∈ L) : 10 ∉ l.cps.toList /\ l.length <= 1000 := by
 obtain ⟨i, hi, e⟩ := getElem_of_mem hl
 have e1 : L[i]? = some l := by rw [getElem?_eq_getElem hi, e]
 have hm : i < M.length := by rw [<- h.ll]; exact hi
 cases i with
 | zero => obtain ⟨_, a, b⟩ := h.hd l _ e1 (getElem?_eq_getElem hm); exact ⟨a, Z1⟩
 | succ k =>
  rcases h.tl k l _ e1 (getElem?_eq_getElem hm) with ⟨_, _, a, b⟩ | ⟨_, d, hd, rfl⟩ | ⟨_, r, g, rfl, _⟩
  ·exact ⟨a, Z1⟩
  ·obtain ⟨r, g, rfl⟩ := p.ok d (mem_of_getElem? hd)
   exact ⟨xx g, yh g⟩
  ·exact ⟨xx g, yh g⟩
theorem LMk.scan {ds : List (Str × Str)} {L M : List Str} (h : LMk ds L M) (p : gB ds) : ∀ (n k : Nat) (rs : List aZ), n + (k + 1) = L.length -> rs.map (·.nm) = (ds.take k).map (·.2) -> ∃ o, Scan (L.drop (k + 1)) (k + 1) rs o /\ ocW o = (dC (M.drop (k + 1)) (k + 1)).1 /\ ocI o = (dC (M.drop (k + 1)) (k + 1)).2 := by
 intro n
 induction n with
 | zero =>
  intro k rs hk _
  have e1 : L.drop (k + 1) = [] := drop_eq_nil_of_le Z1
  have e2 : M.drop (k + 1) = [] := drop_eq_nil_of_le (by rw [<- h.ll]; omega)
  rw [e1, e2]
  exact ⟨.part rs, .nil, rfl, rfl⟩
 | succ n ih =>
  intro k rs hk hrs
  have hL : k + 1 < L.length := by omega
  have hM : k + 1 < M.length := by rw [<- h.ll]; exact hL
  have c := h.tl k _ _ (getElem?_eq_getElem hL) (getElem?_eq_getElem hM)
  rw [List.drop_eq_getElem_cons hL, List.drop_eq_getElem_cons hM]
  generalize L[k + 1] = l at c
  generalize M[k + 1] = m at c
  have t1 : ¬ (("" : Str) = "text") := by decide +kernel
  have t2 : ¬ (("" : Str) = "twice") := by decide +kernel
  have t3 : ¬ (("twice" : Str) = "text") := by decide +kernel
  rcases c with ⟨rfl, nr, _⟩ | ⟨rfl, d, hd, rfl⟩ | ⟨rfl, r, g, rfl, hn, j, d, hj, hd, ed⟩
  ·exact ⟨.text (k + 1), .text nr, by unfold dC; rw [if_pos rfl]; rfl, by unfold dC; rw [if_pos rfl]; rfl⟩
  ·obtain ⟨r, g, rfl⟩ := p.ok d (mem_of_getElem? hd)
   unfold dC
   rw [if_neg t1]
   by_cases h12 : 12 < k + 1
   ·rw [if_pos h12]
    exact ⟨.many (k + 1), .many ⟨r, g, jG g⟩ h12, rfl, rfl⟩
   ·rw [if_neg h12, if_neg t2]
    have hm : r.nm = "" \/ r.nm ∉ rs.map (·.nm) := by
     by_cases hin : r.nm ∈ rs.map (·.nm)
     ·rw [hrs] at hin
      obtain ⟨e, he, en⟩ := mem_map.mp hin
      obtain ⟨j, hj, ej⟩ := getElem_of_mem he
      have hj' : j < k := by rw [length_take] at hj; omega
      have q : ds[j]? = some e := by rw [<- getElem?_take_of_lt hj', getElem?_eq_getElem hj, ej]
      exact .inl (p.ap j k e _ hj' q hd en)
     ·exact .inr hin
    obtain ⟨o, so, w, i⟩ := ih (k + 1) (rs ++ [r]) Z1 (by rw [map_append, hrs, take_succ, hd, map_append]; rfl)
    exact ⟨o, .next g (jG g) Z1 hm so, w, i⟩
  ·unfold dC
   rw [if_neg t3]
   by_cases h12 : 12 < k + 1
   ·rw [if_pos h12]
    exact ⟨.many (k + 1), .many ⟨r, g, jG g⟩ h12, rfl, rfl⟩
   ·rw [if_neg h12, if_pos rfl]
    refine ⟨.twice (k + 1), .twice g (jG g) Z1 hn ?_, rfl, rfl⟩
    rw [hrs, <- ed]
    exact mem_map.mpr ⟨d, mem_of_getElem? (by rw [getElem?_take_of_lt hj]; exact hd), rfl⟩
theorem LMk.scanL {ds : List (Str × Str)} {L M : List Str} (h : LMk ds L M) (p : gB ds) : ∃ o, Ej L o /\ ocW o = (dC M 0).1 /\ ocI o = (dC M 0).2 := by
 have lp : 0 < L.length := length_pos_iff.mpr h.lo
 obtain ⟨o, so, w, i⟩ := h.scan p (L.length - 1) 0 [] Z1 rfl
 have mp : 0 < M.length := by rw [<- h.ll]; exact lp
 have c := h.hd _ _ (getElem?_eq_getElem lp) (getElem?_eq_getElem mp)
 have e0 : Ft L = Txt.split L[0] (" " : Str) := by unfold Ft wAt; rw [getElem?_eq_getElem lp]; rfl
 have eM : M = M[0] :: M.drop 1 := by have := List.drop_eq_getElem_cons mp; rwa [List.drop_zero] at this
 rcases c with ⟨⟨c1, c2⟩ | ⟨c1, c2⟩, _⟩
 ·refine ⟨.text 0, .inl ⟨by rw [e0]; exact c2, rfl⟩, ?_, ?_⟩ <;> rw [eM, c1] <;> unfold dC <;> rw [if_pos rfl] <;> rfl
 ·have k : dC M 0 = dC (M.drop 1) 1 := by
   rw [eM, c1]
   conv => lhs; unfold dC
   rw [if_neg Z4, if_neg Z1, if_neg Z4]
   rfl
  exact ⟨o, .inr ⟨by rw [e0]; exact c2, so⟩, by rw [k]; exact w, by rw [k]; exact i⟩
theorem LMk.told {K : Frag} {ds : List (Str × Str)} {L M : List Str} (h : LMk ds L M) (p : gB ds) {H : Hp} {Q : VK} {E : XK} (q : ∀ t H', au H H' -> H' t = some (.tup [.str (dC M 0).1, .int ((dC M 0).2 : Nat)]) -> Q (.ref t) H') : fu K [.str (Txt.join ("\n" : Str) L)] H Q E := by
 obtain ⟨o, so, w, i⟩ := h.scanL p
 obtain ⟨z, ok⟩ := Es h.lo (by have := h.hi; omega) fun y hy => by have := (h.line p hy).2; omega
 have e : Txt.split (Txt.join ("\n" : Str) L) ("\n" : Str) = L := by
  rw [qL, tL]
  exact gH 10 L h.lo fun y hy => (h.line p hy).1
 refine .inl ⟨_, L, o, rfl, z, e.symm, by rw [e] at ok; exact ok, so, fun t H' s' ht => q t H' s' ?_⟩
 rw [<- w, <- i]
 exact ht
def b1 : Str := "b"
def c1 : Str := "c"
theorem Pk : bT b1 := il.mp Z4
theorem QM : bT c1 := il.mp Z4
theorem Pg : iM [a1, b1] := ⟨Z2, Z0, fun y hy => by simp only [mem_cons, not_mem_nil, or_false] at hy; rcases hy with rfl | rfl; exact wO; exact Pk⟩
theorem Qq : iM [b1] := ⟨Z2, Z0, fun y hy => by rw [mem_singleton.mp hy]; exact Pk⟩
theorem PQ : iM [c1] := ⟨Z2, Z0, fun y hy => by rw [mem_singleton.mp hy]; exact QM⟩
theorem gts {m : Nat} (h : m < 10 ^ 20) : bN [⟨1, .num m⟩] := ⟨Z2, by show 1 <= 6; decide, fun t ht => by rw [mem_singleton.mp ht]; exact ⟨.inl rfl, h⟩, fun t ht => by cases ht; rfl⟩
def yx (i : Nat) : aZ := ⟨5, "", a1, a1, [⟨1, .num i⟩]⟩
theorem yE {i : Nat} (h : i < 10 ^ 20) : GoodR (yx i) := ⟨by show 5 <= 5; decide, fun z => absurd (show 5 < 5 from z) Z0, fun _ => rfl, Ja, wO, gts h, fun z => absurd (show 5 = 1 from z) Z0⟩
def rPl (so : Nat) (nm : Str) : aZ := match so with
 | 1 => ⟨0, nm, a1, a1, [⟨1, .num 7⟩]⟩
 | 2 => ⟨2, nm, dotted [a1, b1], a1, t1⟩
 | 3 => ⟨4, nm, dotted [b1], a1, t1⟩
 | _ => ⟨3, nm, dotted [c1], a1, t1⟩
theorem vg (so : Nat) (nm : Str) : (rPl so nm).nm = nm := by unfold rPl; split <;> rfl
theorem Eg (so : Nat) {nm : Str} (h : bT nm) : GoodR (rPl so nm) := by
 unfold rPl
 split
 ·exact G6 h (gts Z0)
 ·exact qy (.inl rfl) h Pg
 ·exact ⟨by show 4 <= 5; decide, fun _ => h, fun z => absurd (show 4 = 5 from z) Z0, ⟨_, Qq, rfl⟩, wO, K6, fun z => absurd (show 4 = 1 from z) Z0⟩
 ·exact qy (.inr rfl) h PQ
theorem Lw (nm a b : Str) : Builtin.Str.glued nm [a, b] = a ++ nm ++ b := by
 apply dO
 rw [aU, aU]
 unfold Builtin.Str.glued
 simp
theorem vp {z a b nm : Str} {cs : List Nat} (e1 : Builtin.Str.occurrences z "*" 0 z.length (z.length + 1) = cs) (e2 : cs.isEmpty = false) (e3 : Builtin.Str.partsBetween z cs (("*" : Str)).length = [a, b]) : Txt.replace z "*" nm = a ++ nm ++ b := by
 unfold Txt.replace
 rw [e1, e2, e3, Lw, show ((("*" : Str)).length == 0) = false from by decide +kernel]
 rfl
theorem Oi (nm : Str) : Txt.replace "let * be 7" "*" nm = bu (rPl 1 nm) := by
 rw [vp (a := "let ") (b := " be 7") (cs := [4]) Z4 rfl Z4]
 show _ = "let " ++ nm ++ " be " ++ textOf [⟨1, .num 7⟩]
 apply dO
 rw [aU, aU, aU, aU, aU, show (" be 7" : Str).cps.toList = (" be " : Str).cps.toList ++ (textOf [⟨1, .num 7⟩]).cps.toList from by decide +kernel]
 simp only [append_assoc]
theorem Pr (nm : Str) : Txt.replace "draw a.b as *" "*" nm = bu (rPl 2 nm) := by
 rw [vp (a := "draw a.b as ") (b := "") (cs := [12]) Z4 rfl Z4]
 show _ = "draw " ++ dotted [a1, b1] ++ " as " ++ nm
 apply dO
 rw [aU, aU, aU, aU, aU, show ("" : Str).cps.toList = [] from by decide +kernel, append_nil, show ("draw a.b as " : Str).cps.toList = ("draw " : Str).cps.toList ++ (dotted [a1, b1]).cps.toList ++ (" as " : Str).cps.toList from by decide +kernel]
theorem NT (nm : Str) : Txt.replace "take a from b as *" "*" nm = bu (rPl 3 nm) := by
 rw [vp (a := "take a from b as ") (b := "") (cs := [17]) Z4 rfl Z4]
 show _ = "take " ++ a1 ++ " from " ++ dotted [b1] ++ " as " ++ nm
 apply dO
 rw [aU, aU, aU, aU, aU, aU, aU, show ("" : Str).cps.toList = [] from by decide +kernel, append_nil, show ("take a from b as " : Str).cps.toList = ("take " : Str).cps.toList ++ a1.cps.toList ++ (" from " : Str).cps.toList ++ (dotted [b1]).cps.toList ++ (" as " : Str).cps.toList from by decide +kernel]
theorem Di (nm : Str) : ("late c as " : Str) ++ nm = bu (rPl 0 nm) := by
 show _ = "late " ++ dotted [c1] ++ " as " ++ nm
 apply dO
 rw [aU, aU, aU, aU, show ("late c as " : Str).cps.toList = ("late " : Str).cps.toList ++ (dotted [c1]).cps.toList ++ (" as " : Str).cps.toList from by decide +kernel]
theorem Ip {nm : Str} (h : bT nm) : ((("*" : Str)) == nm) = false := by
 apply beq_false_of_ne
 rintro rfl
 have := h.ok 42 Z4
 omega
theorem Gz {so : Int} (h0 : 1 <= so) (h4 : so < 4) : ∃ (z : Str) (k : Nat), atI [V.str "", V.str "let * be 7", V.str "draw a.b as *", V.str "take a from b as *"] so = some (.str z) /\ z.length <= 18 /\ ∀ nm, Txt.replace z "*" nm = bu (rPl k nm) := by
 rcases (by omega : so = 1 \/ so = 2 \/ so = 3) with rfl | rfl | rfl
 ·exact ⟨_, 1, bU (j := 1) rfl, Z4, Oi⟩
 ·exact ⟨_, 2, bU (j := 2) rfl, Z4, Pr⟩
 ·exact ⟨_, 3, bU (j := 3) rfl, Z4, NT⟩
def jF (zs : List (Str × Tok)) (ds : List (Str × Str)) : Prop := ∀ (k : Nat) d, ds[k]? = some d -> (∃ r, GoodR r /\ d = (bu r, r.nm)) /\ (d.2 = "" \/ ∃ z, zs[k]? = some z /\ d.2 = z.1)
theorem jF.ok {zs : List (Str × Tok)} {ds : List (Str × Str)} (h : jF zs ds) (nd : (zs.map (·.1)).Nodup) : gB ds := by
 refine ⟨fun d hd => ?_, fun i j d e hij hi hj he => ?_⟩
 ·obtain ⟨k, hk, rfl⟩ := getElem_of_mem hd
  exact (h k _ (getElem?_eq_getElem hk)).1
 ·rcases (h j e hj).2 with k | ⟨z, hz, k⟩
  ·exact k
  ·rcases (h i d hi).2 with k' | ⟨z', hz', k'⟩
   ·rw [<- he]; exact k'
   ·exfalso
    have e1 : (zs.map (·.1))[i]? = some z'.1 := by rw [getElem?_map, hz']; rfl
    have e2 : (zs.map (·.1))[j]? = some z.1 := by rw [getElem?_map, hz]; rfl
    obtain ⟨a1, b1⟩ := List.getElem?_eq_some_iff.mp e1
    obtain ⟨a2, b2⟩ := List.getElem?_eq_some_iff.mp e2
    exact List.pairwise_iff_getElem.mp nd i j a1 a2 hij (by rw [b1, b2, <- k, <- k', he])
theorem jF.snoc {zs : List (Str × Tok)} {ds : List (Str × Str)} (h : jF zs ds) {r : aZ} (g : GoodR r) (hr : r.nm = "" \/ ∃ z, zs[ds.length]? = some z /\ r.nm = z.1) : jF zs (ds ++ [(bu r, r.nm)]) := fun k d e => by
 rcases lt_or_ge k ds.length with hk | hk
 ·rw [getElem?_append_left hk] at e
  exact h k d e
 ·rw [getElem?_append_right hk] at e
  cases q : k - ds.length with
  | zero =>
   rw [q] at e
   cases e
   have : k = ds.length := by omega
   subst this
   exact ⟨⟨r, g, rfl⟩, hr⟩
  | succ n => rw [q] at e; simp at e
def mR (H : Hp) (xs : List V) (ds : List (Str × Str)) : Prop := xs.length = ds.length /\ ∀ (i : Nat) d, ds[i]? = some d -> ∃ p, xs[i]? = some (.ref p) /\ H p = some (.tup [.str d.1, .str d.2])
theorem mR.up {H H' : Hp} {xs : List V} {ds : List (Str × Str)} {R : Addr} {ys : List V} (h : mR H xs ds) (hR : H R = some (.lst ys)) (s : ∀ b o, b ≠ R -> H b = some o -> H' b = some o) {p : Addr} {d : Str × Str} (hp : H' p = some (.tup [.str d.1, .str d.2])) : mR H' (xs ++ [.ref p]) (ds ++ [d]) := by
 obtain ⟨hl, hx⟩ := h
 refine ⟨by rw [length_append, length_append, hl]; rfl, fun i e he => ?_⟩
 rcases lt_or_ge i ds.length with hk | hk
 ·rw [getElem?_append_left hk] at he
  obtain ⟨q, e1, e2⟩ := hx i e he
  exact ⟨q, by rw [getElem?_append_left Z1]; exact e1, s q _ (fun z => by rw [z, hR] at e2; cases e2) e2⟩
 ·rw [getElem?_append_right hk] at he
  cases q : i - ds.length with
  | zero => rw [q] at he; cases he; exact ⟨p, by rw [getElem?_append_right Z1, hl, q]; rfl, hp⟩
  | succ n => rw [q] at he; simp at he
theorem yZ {A B C : Type} {P T : A -> B -> C -> Prop} {G : Prop} (h : (∀ a b c, P a b c -> T a b c) -> G) (k : ∀ a b c, P a b c -> T a b c) : G := h k
theorem G3 (k : Nat) : (List.replicate k [V.str ""]).flatten = (List.replicate k ("" : Str)).map V.str := by
 induction k with
 | zero => rfl
 | succ k ih => rw [replicate_succ, flatten_cons, ih, replicate_succ]; rfl
theorem xn {α β : Type} (xs : List α) (d : α) (f : α -> β) : (List.range xs.length).map (fun j => f (xs.getD j d)) = xs.map f := by
 apply ext_getElem
 ·simp
 ·intro i h1 h2
  have : i < xs.length := by simpa using h2
  simp [this]
def dU (ds : List (Str × Str)) : List Str := (ds.map (·.2)).filter fun z => !decide (z = "")
theorem xM (ds : List (Str × Str)) : ((List.range ds.length).filter fun j => !decide (V.str ((ds.getD j ("", "")).2) = V.str "")).map (fun j => V.str ((ds.getD j ("", "")).2)) = (dU ds).map V.str := by
 have e : (List.range ds.length).map (fun j => (ds.getD j ("", "")).2) = ds.map (·.2) := xn ds ("", "") (·.2)
 unfold dU
 rw [<- e, List.filter_map, map_map]
 congr 1
 apply List.filter_congr
 intro j _
 show (!decide (V.str ((ds.getD j ("", "")).2) = V.str "")) = !decide ((ds.getD j ("", "")).2 = ("" : Str))
 congr 1
 rw [Bool.eq_iff_iff, decide_eq_true_eq, decide_eq_true_eq]
 exact ⟨fun h => V.str.inj h, fun h => congrArg V.str h⟩
theorem Ge {ds : List (Str × Str)} {w : Str} {k : Nat} (h : w ∈ dU (ds.take k)) : w ≠ "" /\ ∃ (j : Nat) (d : Str × Str), j < k /\ ds[j]? = some d /\ d.2 = w := by
 unfold dU at h
 obtain ⟨h1, h2⟩ := mem_filter.mp h
 obtain ⟨d, hd, rfl⟩ := mem_map.mp h1
 obtain ⟨j, hj, e⟩ := getElem_of_mem hd
 rw [length_take] at hj
 refine ⟨by simpa using h2, j, d, Z1, ?_, rfl⟩
 rw [<- getElem?_take_of_lt (show j < k by omega), getElem?_eq_getElem (by rw [length_take]; exact hj), e]
theorem LMk.first {ds : List (Str × Str)} (h : ds.length <= 15) (y : Str) (hy : Df y "") : LMk ds (y :: ds.map (·.1)) (List.replicate (ds.length + 1) "") := by
 refine ⟨Z2, Z2, by simp; omega, fun l m e1 e2 => ?_, fun k l m e1 e2 => ?_⟩
 ·cases e1
  rw [replicate_succ] at e2
  cases e2
  exact hy
 ·rw [List.getElem?_cons_succ, getElem?_map] at e1
  rw [List.getElem?_replicate] at e2
  split at e2
  ·cases e2
   cases q : ds[k]? with
   | none => rw [q] at e1; cases e1
   | some d => rw [q] at e1; cases e1; exact .inr (.inl ⟨rfl, d, q, rfl⟩)
  ·cases e2
theorem Gb {ds : List (Str × Str)} (p : gB ds) {d : Str × Str} {j : Nat} (h : ds[j]? = some d) (hn : d.2 ≠ "") : bT d.2 := by
 obtain ⟨r, g, rfl⟩ := p.ok d (mem_of_getElem? h)
 rcases lt_or_ge r.so 5 with k | k
 ·exact g.nm k
 ·exact absurd (g.no (Nat.le_antisymm g.so k)) hn
def hdL : List Str := ["", "part", "part a ", "Part a", "part a.b.c.d", "part a b", "a", "part  a"]
theorem Tg : (hdL.all fun y => !hdB (Txt.split y (" " : Str)) && (!y.cps.toList.contains 10 && decide (y.length <= 100))) = true := by decide +kernel
theorem J9 {y : Str} (h : y ∈ hdL) : Df y "text" := by
 have k := all_eq_true.mp Tg y h
 rw [and_eq_true, and_eq_true, decide_eq_true_eq] at k
 refine ⟨.inl ⟨rfl, by simpa using k.1⟩, fun z => ?_, k.2.2⟩
 have k2 := k.2.1
 rw [List.contains_iff_mem.mpr z] at k2
 exact absurd k2 Z0
theorem iQ.upd {H : Hp} {l a : Addr} {ds : List (Str × Str)} {ys : List V} {o : HO} (h : iQ H l ds) (ha : H a = some (.lst ys)) (hne : l ≠ a) : iQ (upd H a o) l ds := by
 obtain ⟨xs, hl, hn, hx⟩ := h
 refine ⟨xs, by rw [aD hne]; exact hl, hn, fun i d e => ?_⟩
 obtain ⟨p, e1, e2⟩ := hx i d e
 exact ⟨p, e1, by rw [aD (fun z => by rw [z, ha] at e2; cases e2)]; exact e2⟩
structure JR (H : Hp) (RL LA MA : Addr) (ds : List (Str × Str)) (L M : List Str) (H' : Hp) : Prop where
 s : au H H'
 r : iQ H' RL ds
 l : H' LA = some (.lst (L.map V.str))
 m : H' MA = some (.lst (M.map V.str))
 k : LMk ds L M
 n : L.length = ds.length + 1
theorem JR.on {H H' H2 : Hp} {RL LA MA : Addr} {ds : List (Str × Str)} {L M : List Str} (j : JR H RL LA MA ds L M H') (s : au H' H2) : JR H RL LA MA ds L M H2 := ⟨j.s.trans s, j.r.same s, s _ _ j.l, s _ _ j.m, j.k, j.n⟩
theorem JR.two {H H' : Hp} {RL LA MA : Addr} {ds : List (Str × Str)} {L M L1 M1 : List Str} (j : JR H RL LA MA ds L M H') (hL : H LA = none) (hM : H MA = none) (h1 : RL ≠ LA) (h2 : RL ≠ MA) (h3 : LA ≠ MA) (k : LMk ds L1 M1) (n : L1.length = ds.length + 1) :
  JR H RL LA MA ds L1 M1 (upd (upd H' LA (.lst (L1.map V.str))) MA (.lst (M1.map V.str))) :=
 ⟨(j.s.over hL).over hM, (j.r.upd j.l h1).upd (by rw [aD h3.symm]; exact j.m) h2, by rw [aD h3]; exact ak, ak, k, n⟩
theorem LC {A B C D : Type} {P T : A -> B -> C -> D -> Prop} {G : Prop} (h : (∀ a b c d, P a b c d -> T a b c d) -> G) (k : ∀ a b c d, P a b c d -> T a b c d) : G := h k
theorem O8 : Df "part a.b" "" := ⟨.inr ⟨rfl, Z4⟩, Z4, Z4⟩
theorem Py : Df "part a" "" := ⟨.inr ⟨rfl, Z4⟩, Z4, Z4⟩
def rR (n : Nat) : List (Str × Str) := List.replicate n ("need 1", "")
theorem uZ (n : Nat) : gB (rR n) := by
 refine ⟨fun d hd => ?_, fun i j d e _ _ he _ => ?_⟩
 ·rw [List.eq_of_mem_replicate hd]
  exact ⟨yx 1, yE Z0, by rw [show bu (yx 1) = ("need 1" : Str) from by decide +kernel]; rfl⟩
 ·rw [List.eq_of_mem_replicate (mem_of_getElem? he)]
theorem vU {n : Nat} (h : n <= 15) : LMk (rR n) ("part a" :: List.replicate n ("need 1" : Str)) (List.replicate (n + 1) "") := by
 have l : (rR n).length = n := List.length_replicate
 have k := LMk.first (ds := rR n) (by rw [l]; exact h) "part a" Py
 rw [l] at k
 unfold rR at k ⊢
 rw [List.map_replicate] at k
 exact k
def zO : Str := Txt.join ("\n" : Str) ("part a" :: List.replicate 12 ("need 1" : Str))
theorem K3 : ("part a" : Str) ++ Txt.mul "\nneed 1" 12 = zO := by decide +kernel
theorem Mw : zO ++ ("\nneed 1" : Str) = Txt.join ("\n" : Str) ("part a" :: List.replicate 13 ("need 1" : Str)) := by decide +kernel
theorem MK : zO ++ ("\nneed" : Str) = Txt.join ("\n" : Str) ((("part a" : Str) :: List.replicate 12 ("need 1" : Str)) ++ [("need" : Str)]) := by decide +kernel
theorem K5 : ("" : Str) = Txt.join ("\n" : Str) [("" : Str)] := by decide +kernel
theorem Nj : zO.length <= 100 := by decide +kernel
theorem QB : LMk [] [("" : Str)] [("text" : Str)] := ⟨rfl, Z2, Z0, fun l m e1 e2 => by cases e1; cases e2; exact J9 (mem_cons_self ..), fun k l m e1 e2 => by cases e1⟩
theorem RW : gB [] := ⟨fun d hd => (by cases hd), fun i j d e _ hi => by cases hi⟩
theorem zq : (("\nneed 1" : Str)).length = 7 := by decide +kernel
theorem O1 : MulOk "\nneed 1" 12 := by
 refine ⟨Z0, fun _ _ => ?_, fun _ _ => ?_⟩
 ·rw [zq]; decide
 ·rw [zq]; decide
theorem Iv : (Txt.mul "\nneed 1" 12).length = 84 := by decide +kernel
theorem Rn : dC (List.replicate 13 "") 0 = (("part" : Str), 0) := by decide +kernel
theorem Te : dC (List.replicate 14 "") 0 = (("many" : Str), 13) := by decide +kernel
theorem Rg : dC (List.replicate 13 ("" : Str) ++ [("text" : Str)]) 0 = (("text" : Str), 13) := by decide +kernel
theorem du0 : dC [("text" : Str)] 0 = (("text" : Str), 0) := by decide +kernel
theorem Nf {K : Frag} {H : Hp} {Q : VK} {E : XK} (q : ∀ t H', au H H' -> H' t = some (.tup [.str "part", .int 0]) -> Q (.ref t) H') : fu K [.str zO] H Q E :=
 (vU (n := 12) Z0).told (uZ 12) fun t H' s h => q t H' s (by rw [Rn] at h; exact h)
theorem KY {K : Frag} {H : Hp} {Q : VK} {E : XK} (q : ∀ t H', au H H' -> H' t = some (.tup [.str "many", .int 13]) -> Q (.ref t) H') : fu K [.str (zO ++ "\nneed 1")] H Q E := by
 rw [Mw]
 exact (vU (n := 13) Z0).told (uZ 13) fun t H' s h => q t H' s (by rw [Te] at h; exact h)
theorem MP {K : Frag} {H : Hp} {Q : VK} {E : XK} (q : ∀ t H', au H H' -> H' t = some (.tup [.str "text", .int 13]) -> Q (.ref t) H') : fu K [.str (zO ++ "\nneed")] H Q E := by
 rw [MK]
 exact ((vU (n := 12) Z0).snoc Z0 (uW (show ("need" : Str) ∈ bO by unfold bO; simp))).told (uZ 12) fun t H' s h => q t H' s (by rw [Rg] at h; exact h)
theorem Nz {K : Frag} {H : Hp} {Q : VK} {E : XK} (q : ∀ t H', au H H' -> H' t = some (.tup [.str "text", .int 0]) -> Q (.ref t) H') : fu K [.str ""] H Q E := by
 rw [K5]
 exact QB.told RW fun t H' s h => q t H' s (by rw [du0] at h; exact h)
end
structure Tx (K : Frag) (mg : MG) (C : Nat -> Addr) : Prop where
 any : mg "any" = none
 enumerate : mg "enumerate" = none
 len : mg "len" = none
 range : mg "range" = none
 inst : mg "isinstance" = none
 t_str : mg "str" = none
 t_int : mg "int" = none
 t_bool : mg "bool" = none
 t_list : mg "list" = none
 t_tuple : mg "tuple" = none
 all : mg "all" = none
 max : mg "max" = none
 min : mg "min" = none
 zip : mg "zip" = none
 t_ValueError : mg "ValueError" = none
 g_LETTERS : ∃ t, mg "LETTERS" = some (.str "abcdefghijklmnopqrstuvwxyz" t)
 g_MOST_LETTERS : ∃ t, mg "MOST_LETTERS" = some (.int 8 t)
 g_MOST_NAMES : ∃ t, mg "MOST_NAMES" = some (.int 3 t)
 g_FIGURES : ∃ t, mg "FIGURES" = some (.str "0123456789" t)
 g_MOST_FIGURES : ∃ t, mg "MOST_FIGURES" = some (.int 20 t)
 g_MOST_TERMS : ∃ t, mg "MOST_TERMS" = some (.int 6 t)
 g_MOST_STEPS : ∃ t, mg "MOST_STEPS" = some (.int 4 t)
 g_MOST_ROWS : ∃ t, mg "MOST_ROWS" = some (.int 12 t)
 aab : ∃ f fd, FnAt K mg "is_name" lZ eO f fd
 aaf : ∃ f fd, FnAt K mg "are_names" iG fJ f fd
 aac : ∃ f fd, FnAt K mg "is_address" fQ cV f fd
 aa6 : ∃ f fd, FnAt K mg "is_number" ir iU f fd
 aai : ∃ f fd, FnAt K mg "read_path" ig iY f fd
 aah : ∃ f fd, FnAt K mg "read_term" iw iV f fd
 aa0 : ∃ f fd, FnAt K mg "read_sign" iz jc f fd
 aas : ∃ f fd, FnAt K mg "read_expr" jd gY f fd
 aa3 : ∃ f fd, FnAt K mg "has_call" km jT f fd
 aaj : ∃ f fd, FnAt K mg "names_expr" fX gj f fd
 aak : ∃ f fd, FnAt K mg "names_address" du dj f fd
 aaq : ∃ f fd, FnAt K mg "names_word" fY fO f fd
 aag : ∃ f fd, FnAt K mg "terms_from" gh fZ f fd
 aa5 : ∃ f fd, FnAt K mg "deed_of" lV mj f fd
 aap : ∃ f fd, FnAt K mg "row_of" n6 oH f fd
 aa7 : ∃ f fd, FnAt K mg "row_at" oA nR f fd
 aao : ∃ f fd, FnAt K mg "read_head" iR iD f fd
 aa4 : ∃ f fd, FnAt K mg "read_part" iu iH f fd
 aax : ∃ f fd, FnAt K mg "_law_cell" jN wj f fd
 aa1 : ∃ f fd, FnAt K mg "_law_sub" lW Ag f fd
 aaa : ∃ f fd, FnAt K mg "_law_pick" jX lJ f fd
 aay : ∃ f fd, FnAt K mg "_law_names" ie qG f fd
 abb : ∃ f fd, FnAt K mg "_law_whole" ik qF f fd
 aan : ∃ f fd, FnAt K mg "_law_what" jU wy f fd
 aae : ∃ f fd, FnAt K mg "_law_told" jL qP f fd
 aau : ∃ f fd, FnAt K mg "_law_plain" iJ qD f fd
 aaz : ∃ f fd, FnAt K mg "_law_none" jZ uU f fd
 aal : ∃ f fd, FnAt K mg "_law_due" lQ Bw f fd
 aaw : ∃ f fd, FnAt K mg "_law_right" gZ qm f fd
 i_Part : ∃ f fd, MAt K "__init__" "Part.__init__" cL gk f fd /\ Mk K (C 7) f
 m_Part_bound : ∃ f fd, MAt K "bound" "Part.bound" dJ eX f fd /\ Meth K (C 7) "bound" f
 m_Row_binds : ∃ f fd, MAt K "binds" "Row.binds" eZ kI f fd /\ Meth K (C 5) "binds" f /\ Meth K (C 6) "binds" f
 i_Let : ∃ f fd, MAt K "__init__" "Let.__init__" cU jb f fd /\ Mk K (C 0) f
 m_Let_binds : ∃ f fd, MAt K "binds" "Let.binds" eY jW f fd /\ Meth K (C 0) "binds" f
 i_Deed : ∃ f fd, MAt K "__init__" "Deed.__init__" cM fW f fd /\ Mk K (C 1) f
 m_Deed_binds : ∃ f fd, MAt K "binds" "Deed.binds" dY jl f fd /\ Meth K (C 1) "binds" f
 i_Draw : ∃ f fd, MAt K "__init__" "Draw.__init__" cJ gA f fd /\ Mk K (C 2) f
 m_Draw_binds : ∃ f fd, MAt K "binds" "Draw.binds" dG jm f fd /\ Meth K (C 2) "binds" f
 i_Late : ∃ f fd, MAt K "__init__" "Late.__init__" cH gm f fd /\ Mk K (C 3) f
 m_Late_binds : ∃ f fd, MAt K "binds" "Late.binds" dZ jk f fd /\ Meth K (C 3) "binds" f
 i_Take : ∃ f fd, MAt K "__init__" "Take.__init__" cN gf f fd /\ Mk K (C 4) f
 m_Take_binds : ∃ f fd, MAt K "binds" "Take.binds" dF jf f fd /\ Meth K (C 4) "binds" f
 i_Need : ∃ f fd, MAt K "__init__" "Need.__init__" cI f9 f fd /\ Mk K (C 5) f
 c_Let : mg "Let" = some (.ref (C 0))
 c_Deed : mg "Deed" = some (.ref (C 1))
 c_Draw : mg "Draw" = some (.ref (C 2))
 c_Late : mg "Late" = some (.ref (C 3))
 c_Take : mg "Take" = some (.ref (C 4))
 c_Need : mg "Need" = some (.ref (C 5))
 c_Row : mg "Row" = some (.ref (C 6))
 c_Part : mg "Part" = some (.ref (C 7))
 cn : MkN K (C 6)
 fam : Oz K C
 pt : Qw K (C 7)
 c_HouseError : mg "HouseError" = some (.ref (C 20))
 c_NoExpr : mg "NoExpr" = some (.ref (C 21))
 c_NoText : mg "NoText" = some (.ref (C 22))
 c_Clash : mg "Clash" = some (.ref (C 23))
 c_Double : mg "Double" = some (.ref (C 24))
 c_Fault : mg "Fault" = some (.ref (C 25))
 c_NoDrop : mg "NoDrop" = some (.ref (C 26))
 c_NoName : mg "NoName" = some (.ref (C 27))
 c_NoPart : mg "NoPart" = some (.ref (C 28))
 c_NoRow : mg "NoRow" = some (.ref (C 29))
 c_Orphan : mg "Orphan" = some (.ref (C 30))
 c_TooMany : mg "TooMany" = some (.ref (C 31))
 c_TooWide : mg "TooWide" = some (.ref (C 32))
 c_Twice : mg "Twice" = some (.ref (C 33))
 x_HouseError : ExC K (C 20)
 x_NoExpr : ExC K (C 21)
 x_NoText : ExC K (C 22)
 xf : Bd K C
 i_NoExpr : findIn K (.ref (C 21)) "__init__" = some (some (.builtin "ValueError.__init__"))
 k_NoExpr : keepIn K (.ref (C 21)) = true
 i_NoText : ∃ f fd, XIn K (C 22) "NoText.__init__" eU cC f fd
 x_TooMany : ExC K (C 31)
 x_Twice : ExC K (C 33)
 xm : uK K C 31
 xw : uK K C 33
 i_TooMany : ∃ f fd, XIn K (C 31) "TooMany.__init__" fB fG f fd
 i_Twice : ∃ f fd, XIn K (C 33) "Twice.__init__" jC jq f fd
 ini1 : specialIn K (.ref (C 20)) "__getattribute__" = some (some (.builtin "type.__getattribute__"))
 ini2 : readsIn K (C 20) (.type "type") = true
 ini3 : findCls K (.ref (C 20)) (.type "type") "__init__" = some (.val (.builtin "ValueError.__init__"))
section
variable {P : Program} {w : World} {K : Frag} {mg : MG} {base : Heap}
theorem lw (T : Tx K mg C) (F : Fun K "__init__" "NoText.__init__" eU f fd) : aJ P w K mg base CX0 1 f fd cC (jg (C 22)) := by
 refine F.oq sy fun _ _ _ _ H _ Q E hr h => ?_
 ·obtain ⟨x, n, rfl, hx, hi, q⟩ := h
  refine ⟨_, QSs.h (aA (dD (oU Z3 T.c_HouseError T.ini1 T.ini2 T.ini3 (aj (pv 0) (aj (lO (iy aF (iy (uI (pv 1)) uO))) ao))))
   (aC (oM (pv 0) (pv 1)))), ?_⟩
  refine ⟨_, rfl, _, rfl, Z4, _, rfl, Or.inl ⟨_, rfl, hi, _, rfl, xX Z4 (le_trans (xZ hi) Z0), xX Z4 (le_trans (xZ hi) Z0), _, _, _, _, _, rfl, hx, T.x_NoText, ?_⟩⟩
  exact ⟨_, rfl, _, rfl, _, _, _, rfl, hx, T.xf.x, T.xf.a, fun p hp hne => q p hp hne⟩
theorem uJ (T : Tx K mg C) (F : Fun K "__init__" "NoText.__init__" eU f fd) : oW P w K mg base 1 f fd cC (jg (C 22)) := by
 refine F.okH sy (fun vs H Q E h => ?_) (fun cdv A outer s H vs Q E y hr h => ?_)
 ·obtain ⟨x, n, rfl, _⟩ := h
  rfl
 ·obtain ⟨x, n, rfl, hx, hi, q⟩ := h
  refine ⟨_, QSs.h (aA (dD (oU Z3 T.c_HouseError T.ini1 T.ini2 T.ini3 (aj (pv 0) (aj (lO (iy aF (iy (uI (pv 1)) uO))) ao))))
   (aC (oM (pv 0) (pv 1)))), ?_⟩
  refine ⟨_, rfl, _, rfl, Z4, _, rfl, Or.inl ⟨_, rfl, hi, _, rfl, xX Z4 (le_trans (xZ hi) Z0), xX Z4 (le_trans (xZ hi) Z0), _, _, _, _, _, rfl, hx, T.x_NoText, ?_⟩⟩
  exact ⟨_, rfl, _, rfl, _, _, _, rfl, hx, T.xf.x, T.xf.a, fun p hp hne => q p hp hne⟩
theorem wu (T : Tx K mg C) (F : Fun K "__init__" "TooMany.__init__" fB f fd) : aJ P w K mg base CX0 1 f fd fG (jg (C 31)) := by
 refine F.oq xU fun _ _ _ _ H _ Q E hr h => ?_
 ·obtain ⟨x, n, rfl, hx, hi, q⟩ := h
  refine ⟨_, QSs.h (aA (dD (oU Z3 T.c_HouseError T.ini1 T.ini2 T.ini3 (aj (pv 0) (aj (lO (iy aF (iy (uI (pv 1)) uO))) ao))))
   (aC (oM (pv 0) (pv 1)))), ?_⟩
  refine ⟨_, rfl, _, rfl, Z4, _, rfl, Or.inl ⟨_, rfl, hi, _, rfl, xX Z4 (le_trans (xZ hi) Z0), xX Z4 (le_trans (xZ hi) Z0), _, _, _, _, _, rfl, hx, T.x_TooMany, ?_⟩⟩
  exact ⟨_, rfl, _, rfl, _, _, _, rfl, hx, T.xm.x, T.xm.a, fun p hp hne => q p hp hne⟩
theorem yN (T : Tx K mg C) (F : Fun K "__init__" "Twice.__init__" jC f fd) : aJ P w K mg base CX0 1 f fd jq (jg (C 33)) := by
 refine F.oq CG fun _ _ _ _ H _ Q E hr h => ?_
 ·obtain ⟨x, n, rfl, hx, hi, q⟩ := h
  refine ⟨_, QSs.h (aA (dD (oU Z3 T.c_HouseError T.ini1 T.ini2 T.ini3 (aj (pv 0) (aj (lO (iy aF (iy (uI (pv 1)) uO))) ao))))
   (aC (oM (pv 0) (pv 1)))), ?_⟩
  refine ⟨_, rfl, _, rfl, Z4, _, rfl, Or.inl ⟨_, rfl, hi, _, rfl, xX Z4 (le_trans (xZ hi) Z0), xX Z4 (le_trans (xZ hi) Z0), _, _, _, _, _, rfl, hx, T.x_Twice, ?_⟩⟩
  exact ⟨_, rfl, _, rfl, _, _, _, rfl, hx, T.xw.x, T.xw.a, fun p hp hne => q p hp hne⟩
theorem rY (T : Tx K mg C) (F : Fun K "binds" "Row.binds" eZ f fd) : aJ P w K mg base CX0 1 f fd kI Hj := by
 refine F.oq vB fun _ _ _ _ H _ Q E hr h => ?_
 ·obtain ⟨v, rfl, q⟩ := h
  exact ⟨_, QSs.h (aC (aL aF)), q H (au.refl H)⟩
theorem nY (T : Tx K mg C) (F : Fun K "__init__" "Let.__init__" cU f fd) : aJ P w K mg base CX0 1 f fd jb (vA C 0) := by
 refine F.oq xj fun _ _ _ _ H _ Q E hr h => ?_
 ·obtain ⟨x, dx, r, d, rfl, hso, hx, hts, h10, q⟩ := h
  refine ⟨_, QSs.h (aA (d8 (pv 0) (pv 1))
   (aC (d8 (pv 0) (eQ fM Z3 T.t_list boot_list (aj (pv 2) ao))))), ?_⟩
  obtain ⟨xs, hl, hxl, hxt⟩ := id hts
  have hdx : d ≠ x := kO hl hx Z7
  refine ⟨_, rfl, _, rfl, x, _, dx, _, rfl, hx, (T.fam.c 0 Z0).cl, T.fam.nn 0 Z0, lt_of_lt_of_le (zero_lt_one) Z0, _, rfl, d, _, rfl, .inl (SqL.of (by rw [aD hdx]; exact hl)), fun l hlf => ⟨_, rfl, x, _, dx, _, rfl, (by rw [aD (ju hlf).2.symm]; exact ak), (T.fam.c 0 Z0).cl, T.fam.nt 0 Z0, lt_of_lt_of_le (yz zero_lt_one) Z0, ?_⟩⟩
  obtain ⟨hl0, hlx⟩ := ju hlf
  refine q l _ hl0 (sb3 hl0) ⟨dx, _, by rw [hso]; exact ak, ?_⟩
  refine ⟨fun _ => (lkN Z4).trans lkP, fun _ => ⟨lkP, xs, by rw [aD hlx]; exact ak, hxl, fun j y e => ?_⟩, fun k => absurd k Z1, fun k => absurd k Z1, (lkN Z4).trans (lkN Z4), (lkN Z4).trans (lkN Z4), (lkN Z4).trans (lkN Z4)⟩
  obtain ⟨t, et, tm⟩ := hxt j y e
  exact ⟨t, et, tm.but hx (sb3 hl0)⟩
theorem rJ (T : Tx K mg C) (F : Fun K "binds" "Let.binds" eY f fd) : aJ P w K mg base CX0 1 f fd jW (spB C 0) := by
 refine F.oq wD fun _ _ _ _ H _ Q E hr h => ?_
 ·obtain ⟨a, l, r, rfl, hso, ra, q⟩ := h
  refine ⟨_, QSs.h (aC (aL (pF (pv 0) rfl))), ?_⟩
  obtain ⟨dx, fs, ha, hf⟩ := id ra
  rw [hso] at ha
  exact ⟨_, rfl, rdF ha (T.fam.c 0 Z0).cl (T.fam.nn 0 Z0) (hf.nm (by rw [hso]; decide)) (q H (au.refl H))⟩
theorem mW (T : Tx K mg C) (F : Fun K "__init__" "Deed.__init__" cM f fd) : aJ P w K mg base CX0 1 f fd fW (vA C 1) := by
 refine F.oq v7 fun _ _ _ _ H _ Q E hr h => ?_
 ·obtain ⟨x, dx, r, d, rfl, hso, hx, hts, h10, q⟩ := h
  refine ⟨_, QSs.h (aA (d8 (pv 0) (pv 1))
   (aC (d8 (pv 0) (eQ fM Z3 T.t_list boot_list (aj (pv 2) ao))))), ?_⟩
  obtain ⟨xs, hl, hxl, hxt⟩ := id hts
  have hdx : d ≠ x := kO hl hx Z7
  refine ⟨_, rfl, _, rfl, x, _, dx, _, rfl, hx, (T.fam.c 1 Z0).cl, T.fam.nn 1 Z0, lt_of_lt_of_le (zero_lt_one) Z0, _, rfl, d, _, rfl, .inl (SqL.of (by rw [aD hdx]; exact hl)), fun l hlf => ⟨_, rfl, x, _, dx, _, rfl, (by rw [aD (ju hlf).2.symm]; exact ak), (T.fam.c 1 Z0).cl, T.fam.nt 1 Z0, lt_of_lt_of_le (yz zero_lt_one) Z0, ?_⟩⟩
  obtain ⟨hl0, hlx⟩ := ju hlf
  refine q l _ hl0 (sb3 hl0) ⟨dx, _, by rw [hso]; exact ak, ?_⟩
  refine ⟨fun _ => (lkN Z4).trans lkP, fun _ => ⟨lkP, xs, by rw [aD hlx]; exact ak, hxl, fun j y e => ?_⟩, fun k => absurd k Z1, fun k => absurd k Z1, (lkN Z4).trans (lkN Z4), (lkN Z4).trans (lkN Z4), (lkN Z4).trans (lkN Z4)⟩
  obtain ⟨t, et, tm⟩ := hxt j y e
  exact ⟨t, et, tm.but hx (sb3 hl0)⟩
theorem qe (T : Tx K mg C) (F : Fun K "binds" "Deed.binds" dY f fd) : aJ P w K mg base CX0 1 f fd jl (spB C 1) := by
 refine F.oq sX fun _ _ _ _ H _ Q E hr h => ?_
 ·obtain ⟨a, l, r, rfl, hso, ra, q⟩ := h
  refine ⟨_, QSs.h (aC (aL (pF (pv 0) rfl))), ?_⟩
  obtain ⟨dx, fs, ha, hf⟩ := id ra
  rw [hso] at ha
  exact ⟨_, rfl, rdF ha (T.fam.c 1 Z0).cl (T.fam.nn 1 Z0) (hf.nm (by rw [hso]; decide)) (q H (au.refl H))⟩
theorem nH (T : Tx K mg C) (F : Fun K "__init__" "Draw.__init__" cJ f fd) : aJ P w K mg base CX0 1 f fd gA (vq C 2) := by
 refine F.oq wA fun _ _ _ _ H _ Q E hr h => ?_
 ·obtain ⟨x, dx, r, rfl, hso, hx, q⟩ := h
  refine ⟨_, QSs.h (aA (d8 (pv 0) (pv 1))
   (aC (d8 (pv 0) (pv 2)))), ?_⟩
  refine ⟨_, rfl, _, rfl, x, _, dx, _, rfl, hx, (T.fam.c 2 Z0).cl, T.fam.na 2 Z0, lt_of_lt_of_le (zero_lt_one) Z0, _, rfl, _, rfl, x, _, dx, _, rfl, ak, (T.fam.c 2 Z0).cl, T.fam.nn 2 Z0, lt_of_lt_of_le (yz zero_lt_one) Z0, ?_⟩
  refine q _ (fun b o e hb => by rw [aD hb, aD hb]; exact e) fun l => ⟨dx, _, by rw [hso]; exact ak, ?_⟩
  exact ⟨fun _ => lkP, fun k => absurd k Z1, fun _ => (lkN Z4).trans lkP, fun k => absurd k Z1, (lkN Z4).trans (lkN Z4), (lkN Z4).trans (lkN Z4), (lkN Z4).trans (lkN Z4)⟩
theorem pZ (T : Tx K mg C) (F : Fun K "binds" "Draw.binds" dG f fd) : aJ P w K mg base CX0 1 f fd jm (spB C 2) := by
 refine F.oq sV fun _ _ _ _ H _ Q E hr h => ?_
 ·obtain ⟨a, l, r, rfl, hso, ra, q⟩ := h
  refine ⟨_, QSs.h (aC (aL (pF (pv 0) rfl))), ?_⟩
  obtain ⟨dx, fs, ha, hf⟩ := id ra
  rw [hso] at ha
  exact ⟨_, rfl, rdF ha (T.fam.c 2 Z0).cl (T.fam.nn 2 Z0) (hf.nm (by rw [hso]; decide)) (q H (au.refl H))⟩
theorem nG (T : Tx K mg C) (F : Fun K "__init__" "Late.__init__" cH f fd) : aJ P w K mg base CX0 1 f fd gm (vq C 3) := by
 refine F.oq vQ fun _ _ _ _ H _ Q E hr h => ?_
 ·obtain ⟨x, dx, r, rfl, hso, hx, q⟩ := h
  refine ⟨_, QSs.h (aA (d8 (pv 0) (pv 1))
   (aC (d8 (pv 0) (pv 2)))), ?_⟩
  refine ⟨_, rfl, _, rfl, x, _, dx, _, rfl, hx, (T.fam.c 3 Z0).cl, T.fam.na 3 Z0, lt_of_lt_of_le (zero_lt_one) Z0, _, rfl, _, rfl, x, _, dx, _, rfl, ak, (T.fam.c 3 Z0).cl, T.fam.nn 3 Z0, lt_of_lt_of_le (yz zero_lt_one) Z0, ?_⟩
  refine q _ (fun b o e hb => by rw [aD hb, aD hb]; exact e) fun l => ⟨dx, _, by rw [hso]; exact ak, ?_⟩
  exact ⟨fun _ => lkP, fun k => absurd k Z1, fun _ => (lkN Z4).trans lkP, fun k => absurd k Z1, (lkN Z4).trans (lkN Z4), (lkN Z4).trans (lkN Z4), (lkN Z4).trans (lkN Z4)⟩
theorem qi (T : Tx K mg C) (F : Fun K "binds" "Late.binds" dZ f fd) : aJ P w K mg base CX0 1 f fd jk (spB C 3) := by
 refine F.oq sZ fun _ _ _ _ H _ Q E hr h => ?_
 ·obtain ⟨a, l, r, rfl, hso, ra, q⟩ := h
  refine ⟨_, QSs.h (aC (aL (pF (pv 0) rfl))), ?_⟩
  obtain ⟨dx, fs, ha, hf⟩ := id ra
  rw [hso] at ha
  exact ⟨_, rfl, rdF ha (T.fam.c 3 Z0).cl (T.fam.nn 3 Z0) (hf.nm (by rw [hso]; decide)) (q H (au.refl H))⟩
theorem nu (T : Tx K mg C) (F : Fun K "__init__" "Take.__init__" cN f fd) : aJ P w K mg base CX0 1 f fd gf (Gk C) := by
 refine F.oq uH fun _ _ _ _ H _ Q E hr h => ?_
 ·obtain ⟨x, dx, r, rfl, hso, hx, q⟩ := h
  refine ⟨_, QSs.h (aA (d8 (pv 0) (pv 1))
   (aA (d8 (pv 0) (pv 2))
   (aC (d8 (pv 0) (pv 3))))), ?_⟩
  refine ⟨_, rfl, _, rfl, x, _, dx, _, rfl, hx, (T.fam.c 4 Z0).cl, T.fam.nw 4 Z0, lt_of_lt_of_le (zero_lt_one) Z0, _, rfl, _, rfl, x, _, dx, _, rfl, ak, (T.fam.c 4 Z0).cl, T.fam.na 4 Z0, lt_of_lt_of_le (yz zero_lt_one) Z0, _, rfl, _, rfl, x, _, dx, _, rfl, ak, (T.fam.c 4 Z0).cl, T.fam.nn 4 Z0, lt_of_lt_of_le (yz (yz zero_lt_one)) Z0, ?_⟩
  refine q _ (fun b o e hb => by rw [aD hb, aD hb, aD hb]; exact e) fun l => ⟨dx, _, by rw [hso]; exact ak, ?_⟩
  exact ⟨fun _ => lkP, fun k => absurd k Z1, fun _ => (lkN Z4).trans lkP, fun _ => (lkN Z4).trans ((lkN Z4).trans lkP), (lkN Z4).trans ((lkN Z4).trans (lkN Z4)), (lkN Z4).trans ((lkN Z4).trans (lkN Z4)), (lkN Z4).trans ((lkN Z4).trans (lkN Z4))⟩
theorem qd (T : Tx K mg C) (F : Fun K "binds" "Take.binds" dF f fd) : aJ P w K mg base CX0 1 f fd jf (spB C 4) := by
 refine F.oq tH fun _ _ _ _ H _ Q E hr h => ?_
 ·obtain ⟨a, l, r, rfl, hso, ra, q⟩ := h
  refine ⟨_, QSs.h (aC (aL (pF (pv 0) rfl))), ?_⟩
  obtain ⟨dx, fs, ha, hf⟩ := id ra
  rw [hso] at ha
  exact ⟨_, rfl, rdF ha (T.fam.c 4 Z0).cl (T.fam.nn 4 Z0) (hf.nm (by rw [hso]; decide)) (q H (au.refl H))⟩
theorem nj (T : Tx K mg C) (F : Fun K "__init__" "Need.__init__" cI f fd) : aJ P w K mg base CX0 1 f fd f9 (Hf C) := by
 refine F.oq wk fun _ _ _ _ H _ Q E hr h => ?_
 ·obtain ⟨x, dx, r, d, rfl, hso, hx, hts, h10, q⟩ := h
  refine ⟨_, QSs.h (aC (d8 (pv 0) (eQ fM Z3 T.t_list boot_list (aj (pv 1) ao)))), ?_⟩
  obtain ⟨xs, hl, hxl, hxt⟩ := id hts
  refine ⟨_, rfl, d, _, rfl, .inl (SqL.of hl), fun l hl0 => ⟨_, rfl, x, _, dx, _, rfl, (by rw [aD (aB hx hl0)]; exact hx), (T.fam.c 5 Z0).cl, T.fam.nt 5 Z0, lt_of_lt_of_le (zero_lt_one) Z0, ?_⟩⟩
  have hlx : l ≠ x := (aB hx hl0).symm
  refine q l _ hl0 (sb2 hl0) ⟨dx, _, by rw [hso]; exact ak, ?_⟩
  refine ⟨fun k => absurd k Z1, fun _ => ⟨lkP, xs, by rw [aD hlx]; exact ak, hxl, fun j y e => ?_⟩, fun k => absurd k Z1, fun k => absurd k Z1, lkN Z4, lkN Z4, lkN Z4⟩
  obtain ⟨t, et, tm⟩ := hxt j y e
  exact ⟨t, et, tm.but hx (sb2 hl0)⟩
theorem jH (T : Tx K mg C) (F : Fun K "is_name" "is_name" lZ f fd) : aJ P w K mg base CX0 1 f fd eO rP := by
 refine F.oq Cp fun _ _ _ _ H _ Q E hr h => ?_
 ·obtain ⟨z, rfl, hz, q⟩ := h
  refine ⟨_, QSs.h (aA (bK (lz (cQ (aM jx Z3 T.inst boot_isinstance (aj (pv 0) (aj (jD (v := .ty "str") Z3 T.t_str boot_str rfl) ao))))) (aC (aL lu)) aV)
   (aA (bK (PW.pt (kY (aK Ed (aM fP Z3 T.len boot_len (aj (pv 0) ao)) aq (aP _)) (mV (aK mF (aM fP Z3 T.len boot_len (aj (pv 0) ao)) (lU T.g_MOST_LETTERS) (aP _))))) (aC (aL lu)) aV)
   (aC (aL (aM (rO rfl) Z3 T.all boot_all (aj (jR (N := ["sign"]) [none] rfl Z5 (Eh (pv 0)) (fun cl C fp s H => (bR (i := 0) (by decide +kernel : (["sign"] : List Str).Nodup) rfl (Or.inl rfl))) (fun cl C fp s H => kZ) (fun cl C fp s H => (dw tU (pv 0) (Ak T.g_LETTERS) Z3))) ao)))))), ?_⟩
  have hz' : z.length <= sizeLine := le_trans hz Z0
  refine ⟨_, rfl, _, _, _, _, rfl, .str _, lF, _, rfl, bZ ?_⟩
  refine ⟨_, rfl, _, rfl, hz', _, _, rfl, rfl, _, rfl, lH (fun h1 => wZ ?_) (fun h1 => ?_)⟩
  ·have e : nmB z = false := by
    unfold nmB
    rw [decide_eq_false Z1]; rfl
   have q' := q H (au.refl H)
   rw [e] at q'
   exact q'
  refine ⟨_, rfl, _, rfl, hz', _, _, rfl, rfl, _, rfl, lH (fun h2 => ?_) (fun h2 => ?_)⟩
  ·have e : nmB z = false := by
    unfold nmB
    rw [decide_eq_false (show ¬ z.length <= 8 by omega), Bool.and_false]; rfl
   have q' := q H (au.refl H)
   rw [e] at q'
   exact q'
  refine ⟨_, rfl, z, rfl, ?_⟩
  refine xY (fun c => V.bl (inL c)) hz' (fun c H' Q' hc sm k' => ?_) (fun H' sm p hp => ?_)
  ·exact ⟨_, rfl, _, _, rfl, rfl, k' _ (au.refl _)⟩
  ·refine ⟨p, z.cps.toList.map inL, rfl, SqL.of (by rw [ak, map_map]; rfl), ?_⟩
   have e : nmB z = (z.cps.toList.map inL).all id := by
    unfold nmB
    rw [decide_eq_true (show 1 <= z.length by omega), decide_eq_true (show z.length <= 8 by omega), all_map]; rfl
   rw [e] at q
   exact q _ (sm.put hp)
theorem oV (T : Tx K mg C) (F : Fun K "are_names" "are_names" iG f fd) : aJ P w K mg base CX0 2 f fd fJ yR := by
 obtain ⟨fab, dab, Aab⟩ := T.aab
 have Gab : aJ P w K mg base CX0 1 fab dab eO rP := jH T Aab.F
 refine F.oq pU fun _ _ _ _ H _ Q E hr h => ?_
 ·obtain ⟨z, m, rfl, hz, q⟩ := h
  unfold d9 at q
  have hr1 : aX 1 _ := hr
  refine ⟨_, QSs.h (aA (bC (i := 2) pU.nd rfl (Or.inl rfl) (fH plainAttrs_str slot_str_split type_str_split jB (pv 0) (aj aF ao)))
   (aC (aL (fL (dw Ov (aM aY Z3 T.len boot_len (aj (pv 2) ao)) (pv 1) (aP _)) (lr (aM (rO rfl) Z3 T.all boot_all (aj (jR (N := ["name"]) [none] rfl Z5 (iI (pv 2)) (fun cl C fp s H => (bR (i := 0) (by decide +kernel : (["name"] : List Str).Nodup) rfl (Or.inl rfl))) (fun cl C fp s H => kZ) (fun cl C fp s H => (bc Aab Gab hr1 (aj (pv 0) ao)))) ao))))))), ?_⟩
  refine ⟨_, rfl, rfl, _, _, rfl, rfl, Bk, le_trans (show z.length + 2 <= 6002 by omega) Z0, fun p hp => ?_⟩
  have hlen := uy z ("." : Str) (le_trans (show z.length + 2 <= 6002 by omega) Z0)
  refine ⟨_, rfl, p, _, rfl, .inl (SqL.of ak), _, rfl, _, _, rfl, rfl, _, rfl, lH (fun h1 => ?_) (fun h1 => ?_)⟩
  ·rw [length_map] at h1
   refine ⟨_, rfl, p, rfl, ⟨_, SqL.of ak⟩, ?_⟩
   refine Dd (fun v => match v with | .str y => .bl (nmB y) | _ => .non) (by rw [length_map]; exact hlen) (SqL.of ak) (fun x H' Q' hx sm k' => ?_) (fun H' sm p2 hp2 => ?_)
   ·obtain ⟨y, hy, rfl⟩ := mem_map.mp hx
    exact ⟨_, rfl, y, rfl, le_trans (CK hy) hz, k'⟩
   ·refine ⟨p2, (Txt.split z ("." : Str)).map nmB, rfl, SqL.of (by rw [ak, map_map, map_map]; rfl), ?_⟩
    have e : (decide (((Txt.split z ("." : Str)).length : Int) <= (m : Int)) && (Txt.split z ("." : Str)).all nmB) = ((Txt.split z ("." : Str)).map nmB).all id := by
     rw [decide_eq_true h1, all_map]; rfl
    rw [e] at q
    exact q _ (((au.new hp).trans sm).put hp2)
  ·rw [length_map] at h1
   have q' := q _ (au.new (o := .lst ((Txt.split z ("." : Str)).map V.str)) hp)
   rw [decide_eq_false h1] at q'
   exact q'
theorem ji (T : Tx K mg C) (F : Fun K "is_address" "is_address" fQ f fd) : aJ P w K mg base CX0 3 f fd cV uG := by
 obtain ⟨faf, daf, Aaf⟩ := T.aaf
 have Gaf : aJ P w K mg base CX0 2 faf daf fJ yR := oV T Aaf.F
 refine F.oq uP fun _ _ _ _ H _ Q E hr h => ?_
 ·obtain ⟨z, rfl, hz, q⟩ := h
  have hr2 : aX 2 _ := hr
  refine ⟨_, QSs.h (aC (aL (fL (aM jx Z3 T.inst boot_isinstance (aj (pv 0) (aj (jD (v := .ty "str") Z3 T.t_str boot_str rfl) ao))) (lr (bc Aaf Gaf hr2 (aj (pv 0) (aj (lU T.g_MOST_NAMES) ao))))))), ?_⟩
  exact ⟨_, rfl, _, _, _, _, rfl, .str _, lF, _, rfl, wZ ⟨_, rfl, z, 3, rfl, hz, q⟩⟩
theorem vD (T : Tx K mg C) (F : Fun K "is_number" "is_number" ir f fd) : aJ P w K mg base CX0 1 f fd iU J6 := by
 refine F.oq yo fun _ _ _ _ H _ Q E hr h => ?_
 ·obtain ⟨z, rfl, hz, q⟩ := h
  refine ⟨_, QSs.h (aA (bK (PW.pt (kY (aK Ed (aM fP Z3 T.len boot_len (aj (pv 0) ao)) aq (aP _)) (mV (aK mF (aM fP Z3 T.len boot_len (aj (pv 0) ao)) (lU T.g_MOST_FIGURES) (aP _))))) (aC (aL lu)) aV)
   (aA (bK (PW.pt (jJ (aK cY (bh Lr (pv 0) aq) aF (aP _)) (gn (aK nT (pv 0) aF (aP _))))) (aC (aL lu)) aV)
   (aC (aL (aM (rO rfl) Z3 T.all boot_all (aj (jR (N := ["sign"]) [none] rfl Z5 (Eh (pv 0)) (fun cl C fp s H => (bR (i := 0) (by decide +kernel : (["sign"] : List Str).Nodup) rfl (Or.inl rfl))) (fun cl C fp s H => kZ) (fun cl C fp s H => (dw tU (pv 0) (Ak T.g_FIGURES) Z3))) ao)))))), ?_⟩
  have hz' : z.length <= sizeLine := le_trans hz Z0
  have q0 := q H (au.refl H)
  refine ⟨_, rfl, _, rfl, hz', _, _, rfl, rfl, _, rfl, lH (fun h1 => wZ ?_) (fun h1 => ?_)⟩
  ·have e : mz z = false := by
    unfold mz
    rw [decide_eq_false Z1]; rfl
   rw [e] at q0
   exact q0
  refine ⟨_, rfl, _, rfl, hz', _, _, rfl, rfl, _, rfl, lH (fun h2 => ?_) (fun h2 => ?_)⟩
  ·have e : mz z = false := by
    unfold mz
    rw [decide_eq_false (show ¬ z.length <= 20 by omega), Bool.and_false]; rfl
   rw [e] at q0
   exact q0
  cases hcs : z.cps.toList with
  | nil => exact absurd (by rw [cB, hcs]; rfl : z.length = 0) Z1
  | cons c0 cr =>
  have hat : atI z.cps.toList 0 = some c0 := bU (j := 0) (by rw [hcs]; rfl)
  have rest : mz z = (z.cps.toList.map inF).all id -> HS (tCB (Lz K fun bs => bs.all id) (Et (Az [none] (Ol (yS 0)) (dg 0) sO (tOp (fun x y H Q => ∃ i j, x = .str i /\ y = .str j /\ Q (.bl (!(Builtin.Str.occurrences j i 0 j.length 1).isEmpty)) H) (yS 0) (tC (.str Jq)))) Hw))
    { nx := fun _ H' => Q .non H', rt := Q } (start ["word"] [V.str z]) H := fun e => by
   refine ⟨_, rfl, z, rfl, ?_⟩
   refine xY (fun c => V.bl (inF c)) hz' (fun c H' Q' hc sm k' => ?_) (fun H' sm p hp => ?_)
   ·exact ⟨_, rfl, _, _, rfl, rfl, k' _ (au.refl _)⟩
   ·refine ⟨p, z.cps.toList.map inF, rfl, SqL.of (by rw [ak, map_map]; rfl), ?_⟩
    rw [e] at q
    exact q _ (sm.put hp)
  have hnum : mz z = (!(decide (c0 = 48) && !decide (z = zero)) && (z.cps.toList.map inF).all id) := by
   unfold mz
   rw [decide_eq_true (show 1 <= z.length by omega), decide_eq_true (show z.length <= 20 by omega), all_map, hcs]
   have : decide ((c0 :: cr).head? = some 48) = decide (c0 = 48) := by
    by_cases h : c0 = 48
    ·rw [decide_eq_true h, decide_eq_true (by rw [h]; rfl)]
    ·rw [decide_eq_false h, decide_eq_false (fun z => h (by simpa using z))]
   rw [this]
   rfl
  refine ⟨_, rfl, z, _, c0, rfl, rfl, hz', hat, rfl, _, rfl, lH (fun h3 => ?_) (fun h3 => ?_)⟩
  ·have hc : c0 = 48 := by
    have e : (⟨#[c0]⟩ : Str) = ("0" : Str) := V.str.inj h3
    have e2 := congrArg (fun x : Str => x.cps.toList) e
    have e3 : (("0" : Str)).cps.toList = [48] := by decide +kernel
    rw [e3] at e2
    simpa using e2
   by_cases hz0 : z = zero
   ·have hv : V.str z = V.str "0" := congrArg V.str hz0
    refine ⟨_, rfl, rfl, _, rfl, zK (decide_eq_true hv) (rest ?_)⟩
    rw [hnum, decide_eq_true hz0, Bool.not_true, Bool.and_false]; rfl
   ·have hv : ¬ V.str z = V.str "0" := fun e => hz0 (V.str.inj e)
    refine ⟨_, rfl, rfl, _, rfl, zg (decide_eq_false hv) ?_⟩
    rw [hnum, decide_eq_true hc, decide_eq_false hz0] at q0
    exact q0
  ·have hc : ¬ c0 = 48 := fun e => h3 (by subst e; exact congrArg V.str (dO Z4))
   refine bZ (rest ?_)
   rw [hnum, decide_eq_false hc]; rfl
theorem vN (T : Tx K mg C) (F : Fun K "read_path" "read_path" ig f fd) : aJ P w K mg base (CX1 P w) 3 f fd iY (Bl C) := by
 obtain ⟨faf, daf, Aaf⟩ := T.aaf
 have Gaf : aJ P w K mg base CX0 2 faf daf fJ yR := oV T Aaf.F
 refine F.oqX wL fun _ _ _ _ H _ Q E hr h => ?_
 ·obtain ⟨z, rfl, hz, q, qx⟩ := h
  have hr2 : aX 2 _ := hr
  refine ⟨_, QSs.h (aA (bK (lz (cQ (bc Aaf Gaf hr2 (aj (pv 0) (aj (lU T.g_MOST_STEPS) ao))))) (aC (c7 bj rfl (jo T.x_NoExpr T.i_NoExpr T.k_NoExpr Z3 T.c_NoExpr (aj aF ao)))) aV)
   (aC (aL (eQ tG Z3 T.t_tuple PyProof.Rows.boot_tuple (aj (fH plainAttrs_str slot_str_split type_str_split jB (pv 0) (aj aF ao)) ao))))), ?_⟩
  refine ⟨_, rfl, z, 4, rfl, hz, fun H1 s1 => ⟨_, rfl, ?_⟩⟩
  cases e : d9 4 z with
  | false => exact zg rfl ⟨rfl, fun x hx => ⟨x, _, _, rfl, ak, T.x_NoExpr, ((qx e).on s1).go hx⟩⟩
  | true =>
   obtain ⟨ys, g, ez⟩ := Jd.mp e
   have hsp := fV ys g.lo g.nm
   refine zK rfl ?_
   refine ⟨_, rfl, rfl, _, _, rfl, rfl, Bk, le_trans (show z.length + 2 <= 6002 by omega) Z0, fun p hp => ?_⟩
   refine ⟨p, _, rfl, .inl ⟨SqL.of ak, fun r hr' => ?_⟩⟩
   refine q ys g ez r _ ((s1.put hp).put hr') ?_
   rw [ak, ez, hsp]
theorem uC (T : Tx K mg C) (F : Fun K "read_term" "read_term" iw f fd) : aJ P w K mg base (CX1 P w) 4 f fd iV (wW C) := by
 obtain ⟨fa6, da6, Aa6⟩ := T.aa6
 have Ga6 : aJ P w K mg base CX0 1 fa6 da6 iU J6 := vD T Aa6.F
 obtain ⟨fai, dai, Aai⟩ := T.aai
 have Gai : aJ P w K mg base (CX1 P w) 3 fai dai iY (Bl C) := vN T Aai.F
 refine F.oqX yp fun _ _ _ _ H _ Q E hr h => ?_
 ·obtain ⟨sg, z, rfl, hz, q, qx⟩ := h
  have hr1 : aX 1 _ := hr.mono Z0
  have hr3 : aX 3 _ := hr
  refine ⟨_, QSs.h (aA (bK (cQ (bc Aa6 Ga6 hr1 (aj (pv 1) ao))) (aC (aL (cD (aj (pv 0) (aj aF (aj (eQ u6 Z3 T.t_int boot_int (aj (pv 1) ao)) ao)))))) aV)
   (aA (bK (cQ (fH plainAttrs_str PySem.F.slot_str_endswith PySem.F.type_str_endswith xT (pv 1) (aj aF ao))) (aC (aL (cD (aj (pv 0) (aj aF (aj (eG Aai Gai hr3 bj (aj (gP Mm (pv 1) jM (jV (DX yJ aq))) ao)) ao)))))) aV)
   (aC (aL (cD (aj (pv 0) (aj aF (aj (eG Aai Gai hr3 bj (aj (pv 1) ao)) ao)))))))), ?_⟩
  refine ⟨_, rfl, z, rfl, Z1, fun H1 s1 => ⟨_, rfl, ?_⟩⟩
  cases en : mz z with
  | true =>
   obtain ⟨m, hm, ez⟩ := Ef en
   obtain ⟨n1, n2, n3, n4⟩ := iZ hm
   refine bD rfl ?_
   refine ⟨_, rfl, _, rfl, z, _, rfl, by rw [ez]; exact n4, by rw [ez]; omega, by show 3 <= sizeLine; decide, fun p hp => ?_⟩
   exact q (.num m) hm ez _ _ (s1.put hp) ⟨p, _, rfl, ak, rfl⟩
  | false =>
   refine aN rfl ⟨_, rfl, rfl, _, _, rfl, rfl, _, rfl, ?_⟩
   cases ee : Txt.endswith z ("()" : Str) with
   | true =>
    obtain ⟨a, ea⟩ := ends_app (show Txt.endswith z brk = true from ee)
    subst ea
    have hla : a.length + 2 <= 6000 := by rw [gF, Ac] at hz; exact hz
    refine bD rfl ?_
    refine ⟨_, rfl, _, rfl, _, rfl, _, rfl, _, rfl, le_trans hz Z0, a, congrArg (fun t => [V.str t]) (G9 a Z1), Z1, fun ys g e p2 H2 s2 hp2 => ?_, fun e => (qx (Hy en e)).on s1⟩
    refine ⟨by show 3 <= sizeLine; decide, fun p hp => ?_⟩
    exact q (.nms true ys) g (by rw [e]; rfl) _ _ ((s1.trans s2).put hp) ⟨p, _, rfl, ak, p2, rfl, (au.new hp) _ _ hp2⟩
   | false =>
    refine aN rfl ?_
    refine ⟨_, rfl, _, rfl, z, rfl, hz, fun ys g e p2 H2 s2 hp2 => ?_, fun e => (qx (Af en ee e)).on s1⟩
    refine ⟨by show 3 <= sizeLine; decide, fun p hp => ?_⟩
    exact q (.nms false ys) g e _ _ ((s1.trans s2).put hp) ⟨p, _, rfl, ak, p2, rfl, (au.new hp) _ _ hp2⟩
theorem uL (T : Tx K mg C) (F : Fun K "read_sign" "read_sign" iz f fd) : aJ P w K mg base (CX1 P w) 1 f fd jc (Am C) := by
 refine F.oqX xr fun _ _ _ _ H _ Q E hr h => ?_
 ·obtain ⟨z, rfl, q, qx⟩ := h
  refine ⟨_, QSs.h (aA (bK (aK cY (pv 0) aF (aP _)) (aC (aL aq)) aV)
   (aA (bK (aK cY (pv 0) aF (aP _)) (aC (aL (DX yJ aq))) aV)
   (aC (c7 bj rfl (jo T.x_NoExpr T.i_NoExpr T.k_NoExpr Z3 T.c_NoExpr (aj aF ao)))))), ?_⟩
  refine ⟨_, rfl, rfl, _, rfl, ?_⟩
  by_cases e1 : z = "+"
  ·exact bD (decide_eq_true (congrArg V.str e1)) (q 1 (.inl rfl) e1 H (au.refl H))
  refine aN (decide_eq_false fun k => e1 (V.str.inj k)) ⟨_, rfl, rfl, _, rfl, ?_⟩
  by_cases e2 : z = "-"
  ·exact bD (decide_eq_true (congrArg V.str e2)) ⟨_, rfl, q (-1) (.inr rfl) e2 H (au.refl H)⟩
  refine aN (decide_eq_false fun k => e2 (V.str.inj k)) ⟨rfl, fun x hx => ⟨x, _, _, rfl, ak, T.x_NoExpr, (qx ?_).go hx⟩⟩
  rintro ⟨s, hs, k⟩
  rcases hs with rfl | rfl
  ·exact e1 k
  ·exact e2 k
theorem vy (T : Tx K mg C) (F : Fun K "read_expr" "read_expr" jd f fd) : aJ P w K mg base (CX1 P w) 5 f fd gY (Ah C) := by
 obtain ⟨fah, dah, Aah⟩ := T.aah
 have Gah : aJ P w K mg base (CX1 P w) 4 fah dah iV (wW C) := uC T Aah.F
 obtain ⟨fa0, da0, Aa0⟩ := T.aa0
 have Ga0 : aJ P w K mg base (CX1 P w) 1 fa0 da0 jc (Am C) := uL T Aa0.F
 refine F.oqX iW fun _ _ _ _ H _ Q E hr h => ?_
 ·obtain ⟨z, rfl, hz, q, qx⟩ := h
  have hr1 : aX 1 _ := hr.mono Z0
  have hr4 : aX 4 _ := hr
  refine ⟨_, QSs.h (aA (bK (lz (cQ (aM jx Z3 T.inst boot_isinstance (aj (pv 0) (aj (jD (v := .ty "str") Z3 T.t_str boot_str rfl) ao))))) (aC (c7 bj rfl (jo T.x_NoExpr T.i_NoExpr T.k_NoExpr Z3 T.c_NoExpr (aj aF ao)))) aV)
   (aA (bC (i := 1) iW.nd rfl (Or.inl rfl) (fH plainAttrs_str slot_str_split type_str_split jB (pv 0) (aj aF ao)))
   (aA (bK (aK cY (aR eN (aM aY Z3 T.len boot_len (aj (pv 1) ao)) aq) aq (aP _)) (aC (c7 bj rfl (jo T.x_NoExpr T.i_NoExpr T.k_NoExpr Z3 T.c_NoExpr (aj aF ao)))) aV)
   (aA (bK (aK mF (aM aY Z3 T.len boot_len (aj (pv 1) ao)) (aR uM (aR jn aq (lU T.g_MOST_TERMS)) aq) (aP _)) (aC (c7 bj rfl (jo T.x_NoExpr T.i_NoExpr T.k_NoExpr Z3 T.c_NoExpr (aj aF ao)))) aV)
   (aA (bC (i := 2) iW.nd rfl (Or.inl rfl) (cZ (aj (eG Aah Gah hr4 bj (aj aq (aj (bh aO (pv 1) aq) ao))) ao)))
   (aA (uV PassesOwn.leaving rfl (Dm Z3 T.range (aj aq (aj (aM aY Z3 T.len boot_len (aj (pv 1) ao)) (aj aq ao)))) (bR (i := 3) iW.nd rfl (Or.inl rfl))
   (aC (dD (fH plainAttrs_list PySem.F.slot_list_append PySem.F.type_list_append eV (pv 2) (aj (eG Aah Gah hr4 bj (aj (eG Aa0 Ga0 hr1 bj (aj (bh aO (pv 1) (pv 3)) ao)) (aj (bh aO (pv 1) (aR b7 (pv 3) aq)) ao))) ao)))))
   (aC (aL (pv 2))))))))), ?_⟩
  refine ⟨_, rfl, _, _, _, _, rfl, .str _, lF, _, rfl, bZ ?_⟩
  refine ⟨_, rfl, rfl, _, _, rfl, rfl, oZ, le_trans (show z.length + 2 <= 6002 by omega) Z0, fun p hp => ?_⟩
  have hmem : ∀ w ∈ Txt.split z (" " : Str), w.length <= 6000 := fun w hw => le_trans (pX hw) hz
  generalize Txt.split z (" " : Str) = ws at q qx hmem
  have s1 : au H (upd H p (.lst (ws.map V.str))) := au.new hp
  have hp1 : upd H p (.lst (ws.map V.str)) p = some (.lst (ws.map V.str)) := ak
  generalize upd H p (.lst (ws.map V.str)) = H1 at s1 hp1
  refine ⟨_, rfl, p, _, rfl, .inl (SqL.of hp1), _, _, rfl, rfl, (by show (0 : Int) < 2; decide), rfl, _, rfl, Ew (fun h => ?_) (fun ho => ?_)⟩
  ·rw [length_map] at h
   exact ⟨rfl, fun x hx => ⟨x, _, _, rfl, ak, T.x_NoExpr, ((qx fun k => by have := (qK k).1; omega).on s1).go hx⟩⟩
  rw [length_map] at ho
  refine ⟨_, rfl, p, _, rfl, .inl (SqL.of hp1), _, _, rfl, rfl, .inl ⟨Z0, Z0⟩, _, _, rfl, rfl, _, _, rfl, rfl, _, rfl, lH (fun h => ?_) (fun h11 => ?_)⟩
  ·rw [length_map] at h
   exact ⟨rfl, fun x hx => ⟨x, _, _, rfl, ak, T.x_NoExpr, ((qx fun k => by have := (qK k).2; omega).on s1).go hx⟩⟩
  rw [length_map] at h11
  obtain ⟨k, hk, hk5⟩ : ∃ k, ws.length = 2 * k + 1 /\ k <= 5 := ⟨ws.length / 2, Z1, Z1⟩
  have hw0 : ws[0]? = some (ws[0]'Z1) := getElem?_eq_getElem Z1
  generalize ws[0]'Z1 = w0 at hw0
  refine ⟨_, rfl, p, _, _, V.str w0, rfl, rfl, SqL.of hp1, bU (j := 0) (by rw [getElem?_map, hw0]; rfl), 1, w0, rfl, hmem w0 (mem_of_getElem? hw0), fun th0 g0 e0 v0 H2 s2 hv0 => ⟨by show 1 <= sizeLine; decide, fun l hl => ?_⟩, fun b => (qx fun r => b (rB r (i := 0) hw0)).on s1⟩
  have hfree : H l = none := s1.free (s2.free hl)
  have hp2 : H2 p = some (.lst (ws.map V.str)) := s2 _ _ hp1
  have hsize : Builtin.Range.rangeSize 1 ((ws.map V.str).length : Int) 2 = (k : Int) := by
   rw [length_map, hk]
   unfold Builtin.Range.rangeSize
   rw [if_pos Z0]
   split <;> omega
  refine ⟨_, rfl, p, _, rfl, .inl (SqL.of ((au.new hl) _ _ hp2)), 1, _, 2, rfl, Z0, Z0, ?_, by rw [hsize]; omega, ?_⟩
  ·rw [length_map]
   exact BZ Z1
  rw [hsize, toNat_natCast]
  refine zz (fun i σ H' => ∃ v3 xs ts, σ = [some (.str z), some (.ref p), some (.ref l), v3] /\ au H2 H' /\ H' l = some (.lst xs) /\ xs.length = ts.length /\ wV ws i ts /\ ∀ (j : Nat) x, xs[j]? = some x -> ∃ t, ts[j]? = some t /\ oh H' x t)
   ⟨none, [v0], [⟨1, th0⟩], rfl, au.new hl, ak, rfl, .first g0 (by rw [hw0, e0]), fun j x hj => ?_⟩ ?_ ?_
  ·cases j with
   | zero => cases hj; exact ⟨_, rfl, hv0.same (au.new hl)⟩
   | succ j => simp at hj
  ·rintro i σ H3 hi ⟨v3, xs, ts, rfl, sm, h3l, hxl, rd, hx⟩
   have hw1 : ws[2 * i + 1]? = some (ws[2 * i + 1]'Z1) := getElem?_eq_getElem Z1
   have hw2 : ws[2 * i + 2]? = some (ws[2 * i + 2]'Z1) := getElem?_eq_getElem Z1
   generalize ws[2 * i + 1]'Z1 = w1 at hw1
   generalize ws[2 * i + 2]'Z1 = w2 at hw2
   have hp3 : H3 p = some (.lst (ws.map V.str)) := sm _ _ hp2
   have s03 : au H H3 := s1.trans (s2.trans sm)
   have a1 : atI (ws.map V.str) (1 + (i : Nat) * 2) = some (V.str w1) := by
    have := bU (xs := ws.map V.str) (j := 2 * i + 1) (v := V.str w1) (by rw [getElem?_map, hw1]; rfl)
    rwa [show (((2 * i + 1 : Nat)) : Int) = 1 + (i : Nat) * 2 from by omega] at this
   have a2 : atI (ws.map V.str) (1 + (i : Nat) * 2 + 1) = some (V.str w2) := by
    have := bU (xs := ws.map V.str) (j := 2 * i + 2) (v := V.str w2) (by rw [getElem?_map, hw2]; rfl)
    rwa [show (((2 * i + 2 : Nat)) : Int) = 1 + (i : Nat) * 2 + 1 from by omega] at this
   refine ⟨_, rfl, .inl ⟨rfl, _, SqL.of h3l⟩, _, rfl, _, rfl, p, _, _, _, rfl, rfl, SqL.of hp3, a1, w1, rfl, fun s hs es H4 s4 => ?_, fun b => (qx fun r => b (Jm r hw1)).on s03⟩
   refine ⟨_, rfl, _, rfl, _, _, rfl, rfl, p, _, _, _, rfl, rfl, SqL.of (s4 _ _ hp3), a2, s, w2, rfl, hmem w2 (mem_of_getElem? hw2), fun th g e v H5 s5 hv => ?_, fun b => (qx fun r => b (rB r (i := i + 1) hw2)).on (s03.trans s4)⟩
   have s35 := s4.trans s5
   have h5l : H5 l = some (.lst xs) := s35 _ _ h3l
   have tl := rd.lo
   refine ⟨l, _, _, rfl, rfl, h5l, lt_of_lt_of_le (show xs.length < 1000 by omega) vP, ?_⟩
   refine ⟨_, xs ++ [v], ts ++ [⟨s, th⟩], rfl, (sm.trans s35).over hl, ak, by rw [length_append, length_append, hxl]; rfl, rd.next hs g (by rw [hw1, es]) (by rw [hw2, e]), fun j x hj => ?_⟩
   by_cases hjx : j < xs.length
   ·rw [getElem?_append_left hjx] at hj
    obtain ⟨t, ht, tm⟩ := hx j x hj
    exact ⟨t, by rw [getElem?_append_left Z1]; exact ht, (tm.same s35).upd h5l⟩
   ·rw [getElem?_append_right Z1] at hj
    have hj0 : j = xs.length := by
     cases hh : j - xs.length with
     | zero => omega
     | succ k => rw [hh] at hj; simp at hj
    subst hj0
    rw [sub_self] at hj
    have : v = x := by simpa using hj
    subst this
    exact ⟨_, by rw [getElem?_append_right Z1, hxl, sub_self]; rfl, oh.upd hv h5l⟩
  ·rintro σ H3 ⟨v3, xs, ts, rfl, sm, h3l, hxl, rd, hx⟩
   obtain ⟨gs, ew⟩ := rd.all hk hk5
   exact ⟨_, rfl, q ts gs ew l H3 hfree (s1.trans (s2.trans sm)) ⟨xs, h3l, hxl, hx⟩⟩
theorem wG (T : Tx K mg C) (F : Fun K "has_call" "has_call" km f fd) : aJ P w K mg base CX0 1 f fd jT Ko := by
 refine F.oq zx fun _ _ _ _ H _ Q E hr h => ?_
 ·obtain ⟨l, ts, rfl, ⟨xs, hl, hxl, hx⟩, h10, q⟩ := h
  refine ⟨_, QSs.h (aC (aL (aM (Hh rfl) Z3 T.any PyProof.Rows.boot_any (aj (jR (N := ["term"]) [none] rfl Z5 (iI (pv 0)) (fun cl C fp s H => (bR (i := 0) (by decide +kernel : (["term"] : List Str).Nodup) rfl (Or.inl rfl))) (fun cl C fp s H => kZ) (fun cl C fp s H => (dw cY (bh (qH (K := K) rfl) (pv 0) aq) aF (aP _)))) ao)))), ?_⟩
  refine ⟨_, rfl, l, rfl, ⟨_, SqL.of hl⟩, ?_⟩
  refine nF (xs := xs) (fun i => V.bl ((ts[i]?).elim false isCall)) (le_trans (show xs.length <= 1000 by omega) vP) (SqL.of hl) (fun i x H' Q' ex sm k' => ?_) (fun H' sm p hp => ?_)
  ·obtain ⟨t, et, tm⟩ := hx i x ex
   obtain ⟨a, y, rfl, ha, _⟩ := tm.same sm
   have hk := k' H' (au.refl _)
   rw [et] at hk
   have hk' : Q' (V.bl (isCall t)) H' := hk
   rw [<- Cw] at hk'
   exact ⟨_, rfl, a, _, _, V.str (kindOf t.th), rfl, rfl, SqT.of ha, rfl, rfl, hk'⟩
  ·refine ⟨p, (List.range xs.length).map fun i => (ts[i]?).elim false isCall, rfl, SqL.of (by rw [ak, map_map]; rfl), ?_⟩
   have q' := q _ (sm.put (o := .lst ((List.range xs.length).map fun i => V.bl ((ts[i]?).elim false isCall))) hp)
   rw [<- any_range, <- hxl] at q'
   exact q'
theorem sU (T : Tx K mg C) (F : Fun K "names_expr" "names_expr" fX f fd) : aJ P w K mg base CX0 2 f fd gj Ks := by
 obtain ⟨fab, dab, Aab⟩ := T.aab
 have Gab : aJ P w K mg base CX0 1 fab dab eO rP := jH T Aab.F
 refine F.oq vI fun _ _ _ _ H _ Q E hr h => ?_
 ·obtain ⟨l, ws, rfl, hl, hw, q⟩ := h
  have hr1 : aX 1 _ := hr
  refine ⟨_, QSs.h (aC (aL (fL (dw mF (aM aY Z3 T.len boot_len (aj (pv 0) ao)) aq (aP _)) (fL (bc Aab Gab hr1 (aj (bh aO (pv 0) aq) ao)) (lr (dw cY (bh aO (pv 0) aq) aF (aP _))))))), ?_⟩
  refine ⟨_, rfl, l, _, rfl, .inl (SqL.of hl), _, _, rfl, rfl, _, rfl, ?_⟩
  rw [length_map]
  by_cases h3 : 3 < ws.length
  ·refine bD (decide_eq_true Z1) ?_
   refine ⟨_, rfl, l, _, _, _, rfl, rfl, SqL.of hl, bJ (i := 1) Z1, wAt ws 1, rfl, hw.len (d7 Z1), fun H1 s1 => ⟨_, rfl, ?_⟩⟩
   have q' := q H1 s1
   unfold neB at q'
   rw [decide_eq_true h3, Bool.true_and] at q'
   cases e1 : nmB (wAt ws 1) with
   | false =>
    rw [e1] at q'
    exact aN rfl q'
   | true =>
    rw [e1, Bool.true_and] at q'
    refine bD rfl ⟨_, rfl, l, _, _, _, rfl, rfl, SqL.of (s1 _ _ hl), bJ (i := 2) Z1, rfl, ?_⟩
    rw [kj]
    exact q'
  ·have q' := q H (au.refl H)
   unfold neB at q'
   rw [decide_eq_false h3, Bool.false_and] at q'
   have e : decide ((ws.length : Int) > 3) = false := decide_eq_false Z1
   rw [e]
   exact aN rfl q'
theorem pJ (T : Tx K mg C) (F : Fun K "names_address" "names_address" du f fd) : aJ P w K mg base CX0 4 f fd dj Kf := by
 obtain ⟨fac, dac, Aac⟩ := T.aac
 have Gac : aJ P w K mg base CX0 3 fac dac cV uG := ji T Aac.F
 obtain ⟨fab, dab, Aab⟩ := T.aab
 have Gab : aJ P w K mg base CX0 1 fab dab eO rP := jH T Aab.F
 refine F.oq p8 fun _ _ _ _ H _ Q E hr h => ?_
 ·obtain ⟨l, ws, rfl, hl, hw, q⟩ := h
  have hr1 : aX 1 _ := hr.mono Z0
  have hr3 : aX 3 _ := hr
  refine ⟨_, QSs.h (aC (aL (fL (dw cY (aM aY Z3 T.len boot_len (aj (pv 0) ao)) aq (aP _)) (fL (bc Aac Gac hr3 (aj (bh aO (pv 0) aq) ao)) (fL (dw cY (bh aO (pv 0) aq) aF (aP _)) (lr (bc Aab Gab hr1 (aj (bh aO (pv 0) aq) ao)))))))), ?_⟩
  refine ⟨_, rfl, l, _, rfl, .inl (SqL.of hl), rfl, _, rfl, ?_⟩
  rw [length_map, show decide (V.int (ws.length : Int) = V.int 4) = decide (ws.length = 4) from lM (m := 4)]
  by_cases h4 : ws.length = 4
  ·rw [decide_eq_true h4]
   refine bD rfl ?_
   refine ⟨_, rfl, l, _, _, _, rfl, rfl, SqL.of hl, bJ (i := 1) Z1, wAt ws 1, rfl, hw.len (d7 Z1), fun H1 s1 => ⟨_, rfl, ?_⟩⟩
   have q1 : ∀ H', au H H' -> Q (.bl (naB ws)) H' := q
   unfold naB at q1
   rw [decide_eq_true h4, Bool.true_and] at q1
   cases e1 : d9 3 (wAt ws 1) with
   | false =>
    rw [e1] at q1
    exact aN rfl (q1 H1 s1)
   | true =>
    rw [e1, Bool.true_and] at q1
    refine bD rfl ⟨_, rfl, l, _, _, _, rfl, rfl, SqL.of (s1 _ _ hl), bJ (i := 2) Z1, rfl, _, rfl, ?_⟩
    rw [kj]
    cases e2 : decide (wAt ws 2 = "as") with
    | false =>
     rw [e2] at q1
     exact aN rfl (q1 H1 s1)
    | true =>
     rw [e2, Bool.true_and] at q1
     exact bD rfl ⟨_, rfl, l, _, _, _, rfl, rfl, SqL.of (s1 _ _ hl), bJ (i := 3) Z1, wAt ws 3, rfl, hw.len (d7 Z1), fun H2 s2 => q1 H2 (s1.trans s2)⟩
  ·have q' := q H (au.refl H)
   unfold naB at q'
   rw [decide_eq_false h4, Bool.false_and] at q'
   rw [decide_eq_false h4]
   exact aN rfl q'
theorem sI (T : Tx K mg C) (F : Fun K "names_word" "names_word" fY f fd) : aJ P w K mg base CX0 4 f fd fO Kw := by
 obtain ⟨fab, dab, Aab⟩ := T.aab
 have Gab : aJ P w K mg base CX0 1 fab dab eO rP := jH T Aab.F
 obtain ⟨fac, dac, Aac⟩ := T.aac
 have Gac : aJ P w K mg base CX0 3 fac dac cV uG := ji T Aac.F
 refine F.oq vV fun _ _ _ _ H _ Q E hr h => ?_
 ·obtain ⟨l, ws, rfl, hl, hw, q⟩ := h
  have hr1 : aX 1 _ := hr.mono Z0
  have hr3 : aX 3 _ := hr
  refine ⟨_, QSs.h (aA (bK (PW.pt (kY (aK nT (aM aY Z3 T.len boot_len (aj (pv 0) ao)) aq (aP _)) (kY (aK nT (bh aO (pv 0) aq) aF (aP _)) (mV (aK nT (bh aO (pv 0) aq) aF (aP _)))))) (aC (aL lu)) aV)
   (aC (aL (fL (bc Aab Gab hr1 (aj (bh aO (pv 0) aq) ao)) (fL (bc Aac Gac hr3 (aj (bh aO (pv 0) aq) ao)) (lr (bc Aab Gab hr1 (aj (bh aO (pv 0) aq) ao)))))))), ?_⟩
  refine ⟨_, rfl, l, _, rfl, .inl (SqL.of hl), rfl, _, rfl, ?_⟩
  rw [length_map, show decide (V.int (ws.length : Int) = V.int 6) = decide (ws.length = 6) from lM (m := 6)]
  have q1 : ∀ H', au H H' -> Q (.bl (nwB ws)) H' := q
  unfold nwB at q1
  by_cases h6 : ws.length = 6
  ·rw [decide_eq_true h6]
   rw [decide_eq_true h6, Bool.true_and] at q1
   refine aN (show (!true) = false from rfl) ?_
   refine ⟨_, rfl, l, _, _, _, rfl, rfl, SqL.of hl, bJ (i := 2) Z1, rfl, _, rfl, ?_⟩
   rw [kj]
   cases e1 : decide (wAt ws 2 = "from") with
   | false =>
    rw [e1] at q1
    exact q1 H (au.refl H)
   | true =>
    rw [e1, Bool.true_and] at q1
    refine aN (show (!true) = false from rfl) ?_
    refine ⟨_, rfl, l, _, _, _, rfl, rfl, SqL.of hl, bJ (i := 4) Z1, rfl, _, rfl, ?_⟩
    rw [kj]
    cases e2 : decide (wAt ws 4 = "as") with
    | false =>
     rw [e2] at q1
     exact q1 H (au.refl H)
    | true =>
     rw [e2, Bool.true_and] at q1
     refine aN (show (!true) = false from rfl) ?_
     refine ⟨_, rfl, l, _, _, _, rfl, rfl, SqL.of hl, bJ (i := 1) Z1, wAt ws 1, rfl, hw.len (d7 Z1), fun H1 s1 => ⟨_, rfl, ?_⟩⟩
     cases e3 : nmB (wAt ws 1) with
     | false =>
      rw [e3] at q1
      exact aN rfl (q1 H1 s1)
     | true =>
      rw [e3, Bool.true_and] at q1
      refine bD rfl ⟨_, rfl, l, _, _, _, rfl, rfl, SqL.of (s1 _ _ hl), bJ (i := 3) Z1, wAt ws 3, rfl, hw.len (d7 Z1), fun H2 s2 => ⟨_, rfl, ?_⟩⟩
      cases e4 : d9 3 (wAt ws 3) with
      | false =>
       rw [e4] at q1
       exact aN rfl (q1 H2 (s1.trans s2))
      | true =>
       rw [e4, Bool.true_and] at q1
       exact bD rfl ⟨_, rfl, l, _, _, _, rfl, rfl, SqL.of (s2 _ _ (s1 _ _ hl)), bJ (i := 5) Z1, wAt ws 5, rfl, hw.len (d7 Z1), fun H3 s3 => q1 H3 (s1.trans (s2.trans s3))⟩
  ·rw [decide_eq_false h6]
   rw [decide_eq_false h6, Bool.false_and] at q1
   exact q1 H (au.refl H)
theorem sY (T : Tx K mg C) (F : Fun K "terms_from" "terms_from" gh f fd) : aJ P w K mg base (CX1 P w) 6 f fd fZ (J7 C) := by
 obtain ⟨fas, das, Aas⟩ := T.aas
 have Gas : aJ P w K mg base (CX1 P w) 5 fas das gY (Ah C) := vy T Aas.F
 refine F.oqX uD fun _ _ _ _ H _ Q E hr h => ?_
 ·obtain ⟨l, k, ws, rfl, hl, hw, q, qx⟩ := h
  have hr5 : aX 5 _ := hr
  refine ⟨_, QSs.h (aC (aL (eG Aas Gas hr5 bj (aj (fH plainAttrs_str slot_str_join type_str_join Ba aF (aj (gP lX (pv 0) (jV (pv 1)) jM) ao)) ao)))), ?_⟩
  have hd := hw.drop k
  have ec : jK (ws.map V.str) (some (k : Int)) none = (ws.drop k).map V.str := by rw [ye, <- List.map_drop]
  refine ⟨rfl, _, rfl, _, rfl, _, rfl, l, _, rfl, SqL.of hl, fun p hp => ?_⟩
  refine ⟨_, p, ws.drop k, rfl, rfl, .inl (SqL.of (ak.trans (congrArg (fun z => some (HO.lst z)) ec))), by rw [Hc]; omega, ?_⟩
  by_cases hn : ws.drop k = []
  ·refine ⟨_, rfl, ?_, fun ts g e => ?_, fun _ => (qx fun r => K1 r hn).on (au.new hp)⟩
   ·rw [hn]; decide +kernel
   ·rw [hn, NP] at e
    exact absurd ⟨ts, g, e⟩ Gm
  ·refine ⟨_, rfl, ?_, fun ts g e l' H' hl' s' ht => ?_, fun r => (qx ?_).on (au.new hp)⟩
   ·have := yj hn; omega
   ·rw [rH hw hn] at e
    exact q ts g e l' H' ((au.new hp).free hl') ((au.new hp).trans s') ht
   ·rwa [rH hw hn] at r
theorem zy (T : Tx K mg C) (F : Fun K "deed_of" "deed_of" lV f fd) : aJ P w K mg base CX0 3 f fd mj (Kd C) := by
 obtain ⟨fa3, da3, Aa3⟩ := T.aa3
 have Ga3 : aJ P w K mg base CX0 1 fa3 da3 jT Ko := wG T Aa3.F
 obtain ⟨fa9, da9, Aa9, M_Deed⟩ := T.i_Deed
 have Ga9 : aJ P w K mg base CX0 1 fa9 da9 fW (vA C 1) := mW T Aa9.F
 refine F.oq CP fun _ _ _ _ H _ Q E hr h => ?_
 ·obtain ⟨nn, d, ts, rfl, hg, htd, q, qn⟩ := h
  have hr1 : aX 1 _ := hr.mono Z0
  have hr2 : aX 2 _ := hr
  refine ⟨_, QSs.h (aA (bK (cQ (bc Aa3 Ga3 hr1 (aj (pv 1) ao))) (aC (aL uF)) aV)
   (aC (aL (pY M_Deed Aa9.b Ga9 hr2 T.c_Deed (aj (pv 0) (aj (pv 1) ao)))))), ?_⟩
  have h6 : ts.length <= 10 := le_trans hg.hi Z0
  refine ⟨_, rfl, d, ts, rfl, htd, h6, fun H1 s1 => ⟨_, rfl, ?_⟩⟩
  cases e : ts.any isCall with
  | true => exact bD rfl (qn e H1 s1)
  | false =>
   refine aN rfl ?_
   exact ⟨_, rfl, _, rfl, fun x dx hx hdx hne => ⟨x, dx, ⟨1, nn, a1, a1, ts⟩, d, rfl, rfl, ak, (htd.same s1).same (cF hx hdx), h6, fun l H' hl sb ra => ⟨rfl, q e x l H' (s1.trans fun b o e => sb b o (cF hx hdx b o e) (aB e hx)) (s1.free hx) (s1.free ((cF hx hdx).free hl)) ra⟩⟩⟩
theorem Cq (T : Tx K mg C) (F : Fun K "row_of" "row_of" n6 f fd) : aJ P w K mg base (CX1 P w) 7 f fd oH (Kv C) := by
 obtain ⟨faj, daj, Aaj⟩ := T.aaj
 have Gaj : aJ P w K mg base CX0 2 faj daj gj Ks := sU T Aaj.F
 obtain ⟨fa5, da5, Aa5⟩ := T.aa5
 have Ga5 : aJ P w K mg base CX0 3 fa5 da5 mj (Kd C) := zy T Aa5.F
 obtain ⟨fak, dak, Aak⟩ := T.aak
 have Gak : aJ P w K mg base CX0 4 fak dak dj Kf := pJ T Aak.F
 obtain ⟨faq, daq, Aaq⟩ := T.aaq
 have Gaq : aJ P w K mg base CX0 4 faq daq fO Kw := sI T Aaq.F
 obtain ⟨fag, dag, Aag⟩ := T.aag
 have Gag : aJ P w K mg base (CX1 P w) 6 fag dag fZ (J7 C) := sY T Aag.F
 obtain ⟨fa8, da8, Aa8, M_Draw⟩ := T.i_Draw
 have Ga8 : aJ P w K mg base CX0 1 fa8 da8 gA (vq C 2) := nH T Aa8.F
 obtain ⟨fbd, dbd, Abd, M_Late⟩ := T.i_Late
 have Gbd : aJ P w K mg base CX0 1 fbd dbd gm (vq C 3) := nG T Abd.F
 obtain ⟨fba, dba, Aba, M_Let⟩ := T.i_Let
 have Gba : aJ P w K mg base CX0 1 fba dba jb (vA C 0) := nY T Aba.F
 obtain ⟨fbe, dbe, Abe, M_Need⟩ := T.i_Need
 have Gbe : aJ P w K mg base CX0 1 fbe dbe f9 (Hf C) := nj T Abe.F
 obtain ⟨fbg, dbg, Abg, M_Take⟩ := T.i_Take
 have Gbg : aJ P w K mg base CX0 1 fbg dbg gf (Gk C) := nu T Abg.F
 refine F.oqX wR fun _ _ _ _ H _ Q E hr h => ?_
 ·obtain ⟨l, ws, rfl, hl, hw, q, qn⟩ := h
  have hr2 : aX 2 _ := hr.mono Z0
  have hr3 : aX 3 _ := hr.mono Z0
  have hr4 : aX 4 _ := hr.mono Z0
  have hr6 : aX 6 _ := hr
  refine ⟨_, QSs.h (aA (bC (i := 1) wR.nd rfl (Or.inl rfl) (bh aO (pv 0) aq))
   (aA (bK (PW.pt (jJ (aK cY (pv 1) aF (aP _)) (gn (cQ (bc Aaj Gaj hr2 (aj (pv 0) ao)))))) (aC (aL (pY M_Let Aba.b Gba hr2 T.c_Let (aj (bh aO (pv 0) aq) (aj (eG Aag Gag hr6 bj (aj (pv 0) (aj aq ao))) ao))))) aV)
   (aA (bK (PW.pt (jJ (aK cY (pv 1) aF (aP _)) (gn (cQ (bc Aaj Gaj hr2 (aj (pv 0) ao)))))) (aC (aL (bc Aa5 Ga5 hr3 (aj (bh aO (pv 0) aq) (aj (eG Aag Gag hr6 bj (aj (pv 0) (aj aq ao))) ao))))) aV)
   (aA (bK (PW.pt (jJ (aK cY (pv 1) aF (aP _)) (gn (cQ (bc Aak Gak hr4 (aj (pv 0) ao)))))) (aC (aL (pY M_Draw Aa8.b Ga8 hr2 T.c_Draw (aj (bh aO (pv 0) aq) (aj (bh aO (pv 0) aq) ao))))) aV)
   (aA (bK (PW.pt (jJ (aK cY (pv 1) aF (aP _)) (gn (cQ (bc Aak Gak hr4 (aj (pv 0) ao)))))) (aC (aL (pY M_Late Abd.b Gbd hr2 T.c_Late (aj (bh aO (pv 0) aq) (aj (bh aO (pv 0) aq) ao))))) aV)
   (aA (bK (PW.pt (jJ (aK cY (pv 1) aF (aP _)) (gn (cQ (bc Aaq Gaq hr4 (aj (pv 0) ao)))))) (aC (aL (pY M_Take Abg.b Gbg hr2 T.c_Take (aj (bh aO (pv 0) aq) (aj (bh aO (pv 0) aq) (aj (bh aO (pv 0) aq) ao)))))) aV)
   (aA (bK (aK cY (pv 1) aF (aP _)) (aC (aL (pY M_Need Abe.b Gbe hr2 T.c_Need (aj (eG Aag Gag hr6 bj (aj (pv 0) (aj aq ao))) ao)))) aV)
   (aC (aL uF))))))))), ?_⟩
  have h0 : 0 < ws.length := length_pos_iff.mpr hw.ne
  refine ⟨_, rfl, l, _, _, _, rfl, rfl, SqL.of hl, bJ (i := 0) h0, ?_⟩
  have sf : ∀ {x y : Str}, wAt ws 0 = x -> x ≠ y -> decide (V.str (wAt ws 0) = V.str y) = false := fun {x y} e n => decide_eq_false fun z => n (e.symm.trans (V.str.inj z))
  have so : ∀ {y : Str}, wAt ws 0 ≠ y -> decide (V.str (wAt ws 0) = V.str y) = false := fun {y} n => decide_eq_false fun z => n (V.str.inj z)
  by_cases e0 : wAt ws 0 = "let"
  ·refine ⟨_, rfl, rfl, _, rfl, bD (decide_eq_true (congrArg V.str e0)) ⟨_, rfl, l, ws, rfl, hl, hw, fun H1 s1 => ⟨_, rfl, ?_⟩⟩⟩
   have hl1 := s1 _ _ hl
   cases e1 : neB ws with
   | false =>
    have nr : ¬ RdR ws := fun r => by rcases fc r with ⟨k, z⟩ | ⟨k, z⟩ | ⟨k, z⟩ | ⟨k, z⟩ | ⟨k, z⟩ | ⟨k, z⟩ <;> first | exact absurd (e0.symm.trans k) Z4 | (rw [e1] at z; first | cases z.1 | cases z)
    refine aN rfl ?_
    refine ⟨_, rfl, rfl, _, rfl, aN (sf e0 Z4) (bZ ?_)⟩
    refine ⟨_, rfl, rfl, _, rfl, aN (sf e0 Z4) (bZ ?_)⟩
    refine ⟨_, rfl, rfl, _, rfl, aN (sf e0 Z4) (bZ ?_)⟩
    refine ⟨_, rfl, rfl, _, rfl, aN (sf e0 Z4) (bZ ?_)⟩
    refine ⟨_, rfl, rfl, _, rfl, aN (sf e0 Z4) ?_⟩
    exact (qn nr).1 H1 s1
   | true =>
    refine bD rfl ?_
    obtain ⟨h3, hn, ew⟩ := xF e1
    rw [e0] at ew
    refine ⟨_, rfl, l, _, _, _, rfl, rfl, SqL.of hl1, bJ (i := 1) Z1, _, rfl, l, 3, ws, rfl, hl1, hw, fun ts g et d H2 hd2 s2 htd => fun x dx hx hdx hne => ⟨x, dx, ⟨0, wAt ws 1, a1, a1, ts⟩, d, rfl, rfl, ak, htd.same (cF hx hdx), le_trans g.hi Z0, fun l' H' hl' sb ra => ⟨rfl, q _ (G6 hn g) (by rw [et] at ew; exact ew) x l' H' (s1.trans (s2.trans (fun b o e => sb b o (cF hx hdx b o e) (aB e hx)))) ((s1.trans s2).free hx) ((s1.trans s2).free ((cF hx hdx).free hl')) ra⟩⟩, fun nr => ((qn fun r => ?_).2).on s1⟩
    rcases fc r with ⟨k, _, z⟩ | ⟨k, _⟩ | ⟨k, _⟩ | ⟨k, _⟩ | ⟨k, _⟩ | ⟨k, _⟩ <;> first | exact nr z | exact absurd (e0.symm.trans k) Z4
  have n0 := e0
  clear e0
  by_cases e0 : wAt ws 0 = "deed"
  ·refine ⟨_, rfl, rfl, _, rfl, aN (sf e0 Z4) (bZ ?_)⟩
   refine ⟨_, rfl, rfl, _, rfl, bD (decide_eq_true (congrArg V.str e0)) ⟨_, rfl, l, ws, rfl, hl, hw, fun H1 s1 => ⟨_, rfl, ?_⟩⟩⟩
   have hl1 := s1 _ _ hl
   cases e1 : neB ws with
   | false =>
    have nr : ¬ RdR ws := fun r => by rcases fc r with ⟨k, z⟩ | ⟨k, z⟩ | ⟨k, z⟩ | ⟨k, z⟩ | ⟨k, z⟩ | ⟨k, z⟩ <;> first | exact absurd (e0.symm.trans k) Z4 | (rw [e1] at z; first | cases z.1 | cases z)
    refine aN rfl ?_
    refine ⟨_, rfl, rfl, _, rfl, aN (sf e0 Z4) (bZ ?_)⟩
    refine ⟨_, rfl, rfl, _, rfl, aN (sf e0 Z4) (bZ ?_)⟩
    refine ⟨_, rfl, rfl, _, rfl, aN (sf e0 Z4) (bZ ?_)⟩
    refine ⟨_, rfl, rfl, _, rfl, aN (sf e0 Z4) ?_⟩
    exact (qn nr).1 H1 s1
   | true =>
    refine bD rfl ?_
    obtain ⟨h3, hn, ew⟩ := xF e1
    rw [e0] at ew
    refine ⟨_, rfl, l, _, _, _, rfl, rfl, SqL.of hl1, bJ (i := 1) Z1, _, rfl, l, 3, ws, rfl, hl1, hw, fun ts g et d H2 hd2 s2 htd => ⟨wAt ws 1, d, ts, rfl, g, htd, fun ec a l' H' s3 ha hl' ra => ?_, fun ec H' s3 => (qn fun r => ?_).1 H' (s1.trans (s2.trans s3))⟩, fun nr => ((qn fun r => ?_).2).on s1⟩
    ·exact q _ (Io hn g fun t ht => by simpa using any_eq_false.mp ec t ht) (by rw [et] at ew; exact ew) a l' H' (s1.trans (s2.trans s3)) ((s1.trans s2).free ha) ((s1.trans s2).free hl') ra
    ·rcases fc r with ⟨k, _⟩ | ⟨k, _, us, gu, eu, hc⟩ | ⟨k, _⟩ | ⟨k, _⟩ | ⟨k, _⟩ | ⟨k, _⟩ <;> first | exact absurd (e0.symm.trans k) Z4 | skip
     have : us = ts := iK gu g (eu.symm.trans et)
     subst this
     rw [any_eq_false.mpr fun t ht => by rw [hc t ht]; decide] at ec
     cases ec
    ·rcases fc r with ⟨k, _⟩ | ⟨k, _, us, gu, eu, _⟩ | ⟨k, _⟩ | ⟨k, _⟩ | ⟨k, _⟩ | ⟨k, _⟩ <;> first | exact absurd (e0.symm.trans k) Z4 | exact nr ⟨us, gu, eu⟩
  have n1 := e0
  clear e0
  by_cases e0 : wAt ws 0 = "draw"
  ·refine ⟨_, rfl, rfl, _, rfl, aN (sf e0 Z4) (bZ ?_)⟩
   refine ⟨_, rfl, rfl, _, rfl, aN (sf e0 Z4) (bZ ?_)⟩
   refine ⟨_, rfl, rfl, _, rfl, bD (decide_eq_true (congrArg V.str e0)) ⟨_, rfl, l, ws, rfl, hl, hw, fun H1 s1 => ⟨_, rfl, ?_⟩⟩⟩
   have hl1 := s1 _ _ hl
   cases e1 : naB ws with
   | false =>
    have nr : ¬ RdR ws := fun r => by rcases fc r with ⟨k, z⟩ | ⟨k, z⟩ | ⟨k, z⟩ | ⟨k, z⟩ | ⟨k, z⟩ | ⟨k, z⟩ <;> first | exact absurd (e0.symm.trans k) Z4 | (rw [e1] at z; first | cases z.1 | cases z)
    refine aN rfl ?_
    refine ⟨_, rfl, rfl, _, rfl, aN (sf e0 Z4) (bZ ?_)⟩
    refine ⟨_, rfl, rfl, _, rfl, aN (sf e0 Z4) (bZ ?_)⟩
    refine ⟨_, rfl, rfl, _, rfl, aN (sf e0 Z4) ?_⟩
    exact (qn nr).1 H1 s1
   | true =>
    refine bD rfl ?_
    obtain ⟨h4, ys, ga, ey, hn, ew⟩ := xP e1
    rw [e0] at ew
    exact ⟨_, rfl, l, _, _, _, rfl, rfl, SqL.of hl1, (bJ (i := 1) Z1).trans (congrArg (fun z => some (V.str z)) ey), _, rfl, l, _, _, _, rfl, rfl, SqL.of hl1, bJ (i := 3) Z1, fun x dx hx hdx hne => ⟨x, dx, ⟨2, wAt ws 3, dotted ys, a1, t1⟩, rfl, rfl, ak, fun H' sb ra => ⟨rfl, q _ (qy (so := 2) Z0 hn ga) ew x x H' (s1.trans (fun b o e => sb b o (cF hx hdx b o e) (aB e hx))) (s1.free hx) (s1.free hx) (ra x)⟩⟩⟩
  have n2 := e0
  clear e0
  by_cases e0 : wAt ws 0 = "late"
  ·refine ⟨_, rfl, rfl, _, rfl, aN (sf e0 Z4) (bZ ?_)⟩
   refine ⟨_, rfl, rfl, _, rfl, aN (sf e0 Z4) (bZ ?_)⟩
   refine ⟨_, rfl, rfl, _, rfl, aN (sf e0 Z4) (bZ ?_)⟩
   refine ⟨_, rfl, rfl, _, rfl, bD (decide_eq_true (congrArg V.str e0)) ⟨_, rfl, l, ws, rfl, hl, hw, fun H1 s1 => ⟨_, rfl, ?_⟩⟩⟩
   have hl1 := s1 _ _ hl
   cases e1 : naB ws with
   | false =>
    have nr : ¬ RdR ws := fun r => by rcases fc r with ⟨k, z⟩ | ⟨k, z⟩ | ⟨k, z⟩ | ⟨k, z⟩ | ⟨k, z⟩ | ⟨k, z⟩ <;> first | exact absurd (e0.symm.trans k) Z4 | (rw [e1] at z; first | cases z.1 | cases z)
    refine aN rfl ?_
    refine ⟨_, rfl, rfl, _, rfl, aN (sf e0 Z4) (bZ ?_)⟩
    refine ⟨_, rfl, rfl, _, rfl, aN (sf e0 Z4) ?_⟩
    exact (qn nr).1 H1 s1
   | true =>
    refine bD rfl ?_
    obtain ⟨h4, ys, ga, ey, hn, ew⟩ := xP e1
    rw [e0] at ew
    exact ⟨_, rfl, l, _, _, _, rfl, rfl, SqL.of hl1, (bJ (i := 1) Z1).trans (congrArg (fun z => some (V.str z)) ey), _, rfl, l, _, _, _, rfl, rfl, SqL.of hl1, bJ (i := 3) Z1, fun x dx hx hdx hne => ⟨x, dx, ⟨3, wAt ws 3, dotted ys, a1, t1⟩, rfl, rfl, ak, fun H' sb ra => ⟨rfl, q _ (qy (so := 3) Z0 hn ga) ew x x H' (s1.trans (fun b o e => sb b o (cF hx hdx b o e) (aB e hx))) (s1.free hx) (s1.free hx) (ra x)⟩⟩⟩
  have n3 := e0
  clear e0
  by_cases e0 : wAt ws 0 = "take"
  ·refine ⟨_, rfl, rfl, _, rfl, aN (sf e0 Z4) (bZ ?_)⟩
   refine ⟨_, rfl, rfl, _, rfl, aN (sf e0 Z4) (bZ ?_)⟩
   refine ⟨_, rfl, rfl, _, rfl, aN (sf e0 Z4) (bZ ?_)⟩
   refine ⟨_, rfl, rfl, _, rfl, aN (sf e0 Z4) (bZ ?_)⟩
   refine ⟨_, rfl, rfl, _, rfl, bD (decide_eq_true (congrArg V.str e0)) ⟨_, rfl, l, ws, rfl, hl, hw, fun H1 s1 => ⟨_, rfl, ?_⟩⟩⟩
   have hl1 := s1 _ _ hl
   cases e1 : nwB ws with
   | false =>
    have nr : ¬ RdR ws := fun r => by rcases fc r with ⟨k, z⟩ | ⟨k, z⟩ | ⟨k, z⟩ | ⟨k, z⟩ | ⟨k, z⟩ | ⟨k, z⟩ <;> first | exact absurd (e0.symm.trans k) Z4 | (rw [e1] at z; first | cases z.1 | cases z)
    refine aN rfl ?_
    refine ⟨_, rfl, rfl, _, rfl, aN (sf e0 Z4) ?_⟩
    exact (qn nr).1 H1 s1
   | true =>
    refine bD rfl ?_
    obtain ⟨h6, ys, ga, ey, hn1, hn5, ew⟩ := Dq e1
    rw [e0] at ew
    exact ⟨_, rfl, l, _, _, _, rfl, rfl, SqL.of hl1, bJ (i := 1) Z1, _, rfl, l, _, _, _, rfl, rfl, SqL.of hl1, (bJ (i := 3) Z1).trans (congrArg (fun z => some (V.str z)) ey), _, rfl, l, _, _, _, rfl, rfl, SqL.of hl1, bJ (i := 5) Z1, fun x dx hx hdx hne => ⟨x, dx, ⟨4, wAt ws 5, dotted ys, wAt ws 1, t1⟩, rfl, rfl, ak, fun H' sb ra => ⟨rfl, q _ (JD hn5 hn1 ga) ew x x H' (s1.trans (fun b o e => sb b o (cF hx hdx b o e) (aB e hx))) (s1.free hx) (s1.free hx) (ra x)⟩⟩⟩
  have n4 := e0
  clear e0
  by_cases e0 : wAt ws 0 = "need"
  ·refine ⟨_, rfl, rfl, _, rfl, aN (sf e0 Z4) (bZ ?_)⟩
   refine ⟨_, rfl, rfl, _, rfl, aN (sf e0 Z4) (bZ ?_)⟩
   refine ⟨_, rfl, rfl, _, rfl, aN (sf e0 Z4) (bZ ?_)⟩
   refine ⟨_, rfl, rfl, _, rfl, aN (sf e0 Z4) (bZ ?_)⟩
   refine ⟨_, rfl, rfl, _, rfl, aN (sf e0 Z4) (bZ ?_)⟩
   refine ⟨_, rfl, rfl, _, rfl, bD (decide_eq_true (congrArg V.str e0)) ?_⟩
   have ew : ws = ("need" : Str) :: ws.drop 1 := by rw [<- e0]; cases ws with | nil => exact absurd rfl hw.ne | cons a r => rfl
   refine ⟨_, rfl, l, 1, ws, rfl, hl, hw, fun ts g et d H2 hd2 s2 htd => fun x dx hx hdx hne => ⟨x, dx, ⟨5, "", a1, a1, ts⟩, d, rfl, rfl, ak, htd.same (cF hx hdx), le_trans g.hi Z0, fun l' H' hl' sb ra => ⟨rfl, q _ (HH g) (by rw [et] at ew; exact ew) x l' H' (s2.trans (fun b o e => sb b o (cF hx hdx b o e) (aB e hx))) (s2.free hx) (s2.free ((cF hx hdx).free hl')) ra⟩⟩, fun nr => (qn fun r => ?_).2⟩
   rcases fc r with ⟨k, _⟩ | ⟨k, _⟩ | ⟨k, _⟩ | ⟨k, _⟩ | ⟨k, _⟩ | ⟨k, z⟩ <;> first | exact absurd (e0.symm.trans k) Z4 | exact nr z
  have n5 := e0
  clear e0
  refine ⟨_, rfl, rfl, _, rfl, aN (so n0) (bZ ?_)⟩
  refine ⟨_, rfl, rfl, _, rfl, aN (so n1) (bZ ?_)⟩
  refine ⟨_, rfl, rfl, _, rfl, aN (so n2) (bZ ?_)⟩
  refine ⟨_, rfl, rfl, _, rfl, aN (so n3) (bZ ?_)⟩
  refine ⟨_, rfl, rfl, _, rfl, aN (so n4) (bZ ?_)⟩
  refine ⟨_, rfl, rfl, _, rfl, aN (so n5) ?_⟩
  refine (qn fun r => ?_).1 H (au.refl H)
  rcases fc r with ⟨k, _⟩ | ⟨k, _⟩ | ⟨k, _⟩ | ⟨k, _⟩ | ⟨k, _⟩ | ⟨k, _⟩ <;> contradiction
theorem Dk (T : Tx K mg C) (F : Fun K "row_at" "row_at" oA f fd) : aJ P w K mg base (CX1 P w) 8 f fd nR (Kr C) := by
 obtain ⟨fap, dap, Aap⟩ := T.aap
 have Gap : aJ P w K mg base (CX1 P w) 7 fap dap oH (Kv C) := Cq T Aap.F
 obtain ⟨fad, dad, Aad⟩ := T.i_NoText
 have Gad : aJ P w K mg base CX0 1 fad dad cC (jg (C 22)) := lw T Aad.F
 have GH_i_NoText : oW P w K mg base 1 fad dad cC (jg (C 22)) := uJ T Aad.F
 refine F.oqX yu fun _ _ _ _ H _ Q E hr h => ?_
 ·obtain ⟨z, i, rfl, hz, hi, q, qx⟩ := h
  have hr2 : aX 2 _ := hr.mono Z0
  have hr7 : aX 7 _ := hr
  refine ⟨_, QSs.h (aA (Jy (fun x => PassesOwnAt.leaving) bj T.x_NoExpr T.c_NoExpr rfl rfl (fun pins E W hw => (aC (bC (i := 2) yu.nd rfl (Or.inl rfl) (eG Aap Gap hr7 hw (aj (KZ (K := K) rfl plainAttrs_str slot_str_split type_str_split jB (pv 0) (aj aF ao)) ao))))) aV (fun x pins hw => (aC (zf (K' := K) rfl hw rfl (Mg Aad GH_i_NoText hr2 T.c_NoText T.x_NoText (aj (pv 1) ao))))))
   (aA (bK (aK Mf (pv 2) uF (aP _)) (aC (c7 bj rfl (xK Aad Gad hr2 T.c_NoText T.x_NoText (aj (pv 1) ao)))) aV)
   (aC (aL (pv 2))))), ?_⟩
  refine ⟨_, rfl, rfl, _, _, rfl, rfl, oZ, le_trans (show z.length + 2 <= 6002 by omega) Z0, fun p hp => ?_⟩
  refine ⟨p, Txt.split z (" " : Str), rfl, ak, ⟨z, hz, rfl⟩, fun r g e a l H' s' ha hl ra => ?_, fun nr => ⟨fun H' s' => ?_, fun x H' s' hx ex => ?_⟩⟩
  ·refine ⟨_, rfl, rfl, _, rfl, aN (decide_eq_false Z7) ?_⟩
   exact ⟨_, rfl, q r g e a l H' ((au.new hp).trans s') ((au.new hp).free ha) ((au.new hp).free hl) ra⟩
  ·refine ⟨_, rfl, rfl, _, rfl, bD (decide_eq_true rfl) ?_⟩
   exact ⟨_, rfl, fun x hx => ⟨x, i, rfl, ak, hi, fun p2 hp2 hne => ⟨rfl, x, C 22, some p2, rfl, ak, T.x_NoText, (qx nr).go ((au.new hp).trans s') hx hp2 hne⟩⟩⟩
  ·refine ⟨x, C 21, none, rfl, ex, T.xf.s21, ?_⟩
   refine ⟨_, rfl, fun x2 hx2 => ⟨x2, i, rfl, ak, hi, fun p2 hp2 hne => ⟨rfl, x2, C 22, p2, C 21, false, rfl, ak, T.x_NoText, aB ex hx2, ?_, (qx nr).go ((au.new hp).trans s') hx2 hp2 hne⟩⟩⟩
   have n1 : x ≠ x2 := aB ex hx2
   have n2 : x ≠ p2 := aB ex (by rw [aD hne] at hp2; exact hp2)
   rw [aD n1, aD n2, aD n1]
   exact ex
theorem vC (T : Tx K mg C) (F : Fun K "read_head" "read_head" iR f fd) : aJ P w K mg base (CX1 P w) 4 f fd iD (wI C) := by
 obtain ⟨fac, dac, Aac⟩ := T.aac
 have Gac : aJ P w K mg base CX0 3 fac dac cV uG := ji T Aac.F
 obtain ⟨fad, dad, Aad⟩ := T.i_NoText
 have Gad : aJ P w K mg base CX0 1 fad dad cC (jg (C 22)) := lw T Aad.F
 refine F.oqX pP fun _ _ _ _ H _ Q E hr h => ?_
 ·obtain ⟨z, rfl, hz, q, qx⟩ := h
  have hr2 : aX 2 _ := hr.mono Z0
  have hr3 : aX 3 _ := hr
  refine ⟨_, QSs.h (aA (bC (i := 1) pP.nd rfl (Or.inl rfl) (fH plainAttrs_str slot_str_split type_str_split jB (pv 0) (aj aF ao)))
   (aA (bK (PW.pt (kY (aK nT (aM aY Z3 T.len boot_len (aj (pv 1) ao)) aq (aP _)) (kY (aK nT (bh aO (pv 1) aq) aF (aP _)) (mV (lz (cQ (bc Aac Gac hr3 (aj (bh aO (pv 1) aq) ao)))))))) (aC (c7 bj rfl (xK Aad Gad hr2 T.c_NoText T.x_NoText (aj aq ao)))) aV)
   (aC (aL (bh aO (pv 1) aq))))), ?_⟩
  have hw := Wd.of hz
  refine ⟨_, rfl, rfl, _, _, rfl, rfl, oZ, le_trans (show z.length + 2 <= 6002 by omega) Z0, fun l hl0 => ?_⟩
  have s0 := au.new hl0 (o := .lst ((Txt.split z (" " : Str)).map V.str))
  have hl : upd H l (.lst ((Txt.split z (" " : Str)).map V.str)) l = some (.lst ((Txt.split z (" " : Str)).map V.str)) := ak
  generalize upd H l (.lst ((Txt.split z (" " : Str)).map V.str)) = H0 at s0 hl
  generalize Txt.split z (" " : Str) = ws at hw q qx hl
  unfold hdB at q qx
  refine ⟨_, rfl, l, _, rfl, .inl (SqL.of hl), rfl, _, rfl, ?_⟩
  by_cases h2 : ws.length = 2
  ·refine aN (by rw [length_map, h2]; decide) ?_
   rw [decide_eq_true h2, Bool.true_and] at q qx
   refine ⟨_, rfl, l, _, _, _, rfl, rfl, SqL.of (hl), bJ (i := 0) Z1, rfl, _, rfl, ?_⟩
   by_cases e0 : wAt ws 0 = "part"
   ·refine aN (by rw [decide_eq_true (congrArg V.str e0)]; rfl) ?_
    rw [decide_eq_true e0, Bool.true_and] at q qx
    refine ⟨_, rfl, l, _, _, _, rfl, rfl, SqL.of (hl), bJ (i := 1) Z1, wAt ws 1, rfl, hw.len (d7 Z1), fun H1 s1 => ⟨_, rfl, ?_⟩⟩
    cases e1 : d9 3 (wAt ws 1) with
    | false => exact zg rfl (fun x hx => ⟨x, 0, rfl, ak, Z0, fun p2 hp2 hne => ⟨rfl, x, C 22, some p2, rfl, ak, T.x_NoText, (qx e1).go (s0.trans s1) hx hp2 hne⟩⟩)
    | true => exact zK rfl ⟨_, rfl, l, _, _, _, rfl, rfl, SqL.of (s1 _ _ hl), bJ (i := 1) Z1, q e1 H1 (s0.trans s1)⟩
   ·rw [decide_eq_false e0, Bool.false_and] at qx
    exact bD (by rw [decide_eq_false fun k => e0 (V.str.inj k)]; rfl) (fun x hx => ⟨x, 0, rfl, ak, Z0, fun p2 hp2 hne => ⟨rfl, x, C 22, some p2, rfl, ak, T.x_NoText, (qx rfl).go (s0) hx hp2 hne⟩⟩)
  ·rw [decide_eq_false h2, Bool.false_and] at qx
   exact bD (by rw [length_map]; rw [show decide (V.int (ws.length : Int) = V.int 2) = decide (ws.length = 2) from lM (m := 2), decide_eq_false h2]; rfl) (fun x hx => ⟨x, 0, rfl, ak, Z0, fun p2 hp2 hne => ⟨rfl, x, C 22, some p2, rfl, ak, T.x_NoText, (qx rfl).go (s0) hx hp2 hne⟩⟩)
theorem uA {C : Addr} {m : Str} {f : Addr} {fd : FuncData} {q : Str} {st : Stmt} {ps : List Str} {k : Nat} {sp sp' : Sp} (A : MAt K m q st ps f fd) (M : Meth K C m f) (G : aJ P w K mg base CX0 k f fd ps sp) (hk : k <= 3) (h : ∀ vs H Q E, sp' vs H Q E -> sp vs H Q E) : VM P w K mg base 3 C m sp' :=
 ⟨f, fd, ps, M, (G.mono hk).imp h, A.b⟩
theorem rdB {C : Nat -> Addr} (T : Tx K mg C) {H : Hp} {a l : Addr} {r : aZ} {Q : VK} (ra : dh C H a l r) (g : GoodR r) (q : Pur (.str r.nm) H Q) : MV P w K mg base 3 "binds" (.ref a) H Q := by
 obtain ⟨so, nn, aa, ww, tt⟩ := r
 have h5 : so <= 5 := g.so
 obtain ⟨dx, fs, ha, hf⟩ := id ra
 rcases six h5 with rfl | rfl | rfl | rfl | rfl | rfl
 ·obtain ⟨f, fd, A, M⟩ := T.m_Let_binds
  exact ⟨a, C 0, dx, fs, spB C 0, rfl, ha, hf.nb, (T.fam.c 0 Z0).cl, uA A M (rJ T A.F) Z0 (fun _ _ _ _ h => h), a, l, _, rfl, rfl, ra, q⟩
 ·obtain ⟨f, fd, A, M⟩ := T.m_Deed_binds
  exact ⟨a, C 1, dx, fs, spB C 1, rfl, ha, hf.nb, (T.fam.c 1 Z0).cl, uA A M (qe T A.F) Z0 (fun _ _ _ _ h => h), a, l, _, rfl, rfl, ra, q⟩
 ·obtain ⟨f, fd, A, M⟩ := T.m_Draw_binds
  exact ⟨a, C 2, dx, fs, spB C 2, rfl, ha, hf.nb, (T.fam.c 2 Z0).cl, uA A M (pZ T A.F) Z0 (fun _ _ _ _ h => h), a, l, _, rfl, rfl, ra, q⟩
 ·obtain ⟨f, fd, A, M⟩ := T.m_Late_binds
  exact ⟨a, C 3, dx, fs, spB C 3, rfl, ha, hf.nb, (T.fam.c 3 Z0).cl, uA A M (qi T A.F) Z0 (fun _ _ _ _ h => h), a, l, _, rfl, rfl, ra, q⟩
 ·obtain ⟨f, fd, A, M⟩ := T.m_Take_binds
  exact ⟨a, C 4, dx, fs, spB C 4, rfl, ha, hf.nb, (T.fam.c 4 Z0).cl, uA A M (qd T A.F) Z0 (fun _ _ _ _ h => h), a, l, _, rfl, rfl, ra, q⟩
 ·obtain ⟨f, fd, A, M⟩ := T.m_Row_binds
  exact ⟨a, C 5, dx, fs, Hj, rfl, ha, hf.nb, (T.fam.c 5 Z0).cl, uA A M.1 (rY T A.F) Z0 (fun _ _ _ _ h => h), .ref a, rfl, by have e : nn = "" := g.no rfl; rw [<- e]; exact q⟩
theorem mK (T : Tx K mg C) (F : Fun K "__init__" "Part.__init__" cL f fd) : aJ P w K mg base CX0 1 f fd gk (Ep C) := by
 refine F.oq vO fun _ _ _ _ H _ Q E hr h => ?_
 ·obtain ⟨x, dx, ad, d, rs, rfl, hx, hrs, h12, q⟩ := h
  refine ⟨_, QSs.h (aA (d8 (pv 0) (pv 1))
   (aC (d8 (pv 0) (eQ fM Z3 T.t_list boot_list (aj (pv 2) ao))))), ?_⟩
  obtain ⟨xs, hl, hxl, hxt⟩ := id hrs
  have hdx : d ≠ x := kO hl hx Z7
  refine ⟨_, rfl, _, rfl, x, _, dx, _, rfl, hx, T.pt.cl.cl, T.pt.na, lt_of_lt_of_le (zero_lt_one) Z0, _, rfl, d, _, rfl, .inl (SqL.of (by rw [aD hdx]; exact hl)), fun l hlf => ⟨_, rfl, x, _, dx, _, rfl, (by rw [aD (ju hlf).2.symm]; exact ak), T.pt.cl.cl, T.pt.nr, lt_of_lt_of_le (yz zero_lt_one) Z0, ?_⟩⟩
  obtain ⟨hl0, hlx⟩ := ju hlf
  refine q l _ hl0 (sb3 hl0) ⟨dx, _, ak, (lkN Z4).trans lkP, lkP, (lkN Z4).trans (lkN Z4), (lkN Z4).trans (lkN Z4), (lkN Z4).trans (lkN Z4), ?_⟩
  refine ⟨xs, by rw [aD hlx]; exact ak, hxl, fun j r e => ?_⟩
  obtain ⟨a, t, e2, ra⟩ := hxt j r e
  exact ⟨a, t, e2, ra.but (h12.at e) hx (sb3 hl0)⟩
theorem p7 (T : Tx K mg C) (F : Fun K "bound" "Part.bound" dJ f fd) : aJ P w K mg base CX0 4 f fd eX (Ad C) := by
 refine F.oq mC fun _ _ _ _ H _ Q E hr h => ?_
 ·obtain ⟨p, ad, l, rs, rfl, hp, hg, q⟩ := h
  have hr3 : aX 3 _ := hr
  refine ⟨_, QSs.h (aA (Be (N := ["row"]) [none] (i := 1) mC.nd rfl (Or.inl rfl) rfl Z5 (iI (pF (pv 0) rfl)) (fun cl C fp s H => (bR (i := 0) (by decide +kernel : (["row"] : List Str).Nodup) rfl (Or.inl rfl))) (fun cl C fp s H => kZ) (fun cl C fp s H => (wJ (P := P) (w := w) (K := K) (mg := mg) (base := base) rfl rfl rfl rfl rfl hr3 (pv 0))))
   (aC (aL (jR (N := ["name"]) [none] rfl Z5 (iI (pv 1)) (fun cl C fp s H => (bR (i := 0) (by decide +kernel : (["name"] : List Str).Nodup) rfl (Or.inl rfl))) (fun cl C fp s H => (Fd (aK nT (pv 0) aF (aP _)))) (fun cl C fp s H => (pv 0)))))), ?_⟩
  obtain ⟨dx, fs, ea, a1, a2, a3, a4, a5, hr0⟩ := id hp
  obtain ⟨xs, hl, hxl, hxt⟩ := id hr0
  refine ⟨_, rfl, rdF ea T.pt.cl.cl T.pt.nr a2 ?_⟩
  have hx12 : xs.length <= sizeLine := le_trans (show xs.length <= 12 by rw [hxl]; exact hg.hi) Z0
  refine ⟨l, rfl, ⟨xs, SqL.of hl⟩, ?_⟩
  refine nF (fun i => (rs.map fun r => V.str r.nm).getD i .non) hx12 (SqL.of hl) (fun i x H' Q' hx sm k => ?_) (fun H' sm b hb => ?_)
  ·have hi : i < rs.length := by rw [<- hxl]; exact (List.getElem?_eq_some_iff.mp hx).1
   obtain ⟨a, t, e2, ra⟩ := hxt i rs[i] (getElem?_eq_getElem hi)
   obtain rfl : x = .ref a := by rw [hx] at e2; exact Option.some.inj e2
   refine ⟨_, rfl, rdB T (ra.same sm) (hg.at (getElem?_eq_getElem hi)) fun H'' s'' => ?_⟩
   have e : (rs.map fun r => V.str r.nm).getD i .non = V.str rs[i].nm := by simp [List.getD, hi]
   rw [<- e]
   exact k H'' s''
  ·have em : (List.range xs.length).map (fun i => (rs.map fun r => V.str r.nm).getD i .non) = rs.map fun r => V.str r.nm := by
    apply ext_getElem
    ·simp [hxl]
    ·intro i h1 h2
     have : i < rs.length := by simpa using h2
     simp [this]
   rw [em]
   refine ⟨_, rfl, b, rfl, ⟨_, SqL.of ak⟩, ?_⟩
   refine zE isE (by rw [length_map, <- hxl]; exact hx12) (SqL.of ak) (fun x H2 Q2 hx s2 k => ?_) (fun x H2 Q2 hx s2 k => ?_) (fun H2 s2 c hc => ?_)
   ·obtain ⟨r, _, rfl⟩ := mem_map.mp hx
    exact ⟨_, rfl, rfl, _, rfl, k H2 (au.refl H2)⟩
   ·exact ⟨_, rfl, k H2 (au.refl H2)⟩
   ·exact q c _ (sm.free ((au.new hb).free (s2.free hc))) (sm.trans ((au.new hb).trans (s2.put hc))) ak
theorem uY (T : Tx K mg C) (F : Fun K "read_part" "read_part" iu f fd) : aJ P w K mg base (CX1 P w) 9 f fd iH (xu K C) := by
 obtain ⟨fao, dao, Aao⟩ := T.aao
 have Gao : aJ P w K mg base (CX1 P w) 4 fao dao iD (wI C) := vC T Aao.F
 obtain ⟨fa7, da7, Aa7⟩ := T.aa7
 have Ga7 : aJ P w K mg base (CX1 P w) 8 fa7 da7 nR (Kr C) := Dk T Aa7.F
 obtain ⟨fbh, dbh, Abh, M_bound⟩ := T.m_Part_bound
 have Gbh : aJ P w K mg base CX0 4 fbh dbh eX (Ad C) := p7 T Abh.F
 obtain ⟨fbc, dbc, Abc⟩ := T.i_TooMany
 have Gbc : aJ P w K mg base CX0 1 fbc dbc fG (jg (C 31)) := wu T Abc.F
 obtain ⟨fbf, dbf, Abf⟩ := T.i_Twice
 have Gbf : aJ P w K mg base CX0 1 fbf dbf jq (jg (C 33)) := yN T Abf.F
 obtain ⟨fad, dad, Aad⟩ := T.i_NoText
 have Gad : aJ P w K mg base CX0 1 fad dad cC (jg (C 22)) := lw T Aad.F
 obtain ⟨fav, dav, Aav, M_Part⟩ := T.i_Part
 have Gav : aJ P w K mg base CX0 1 fav dav gk (Ep C) := mK T Aav.F
 refine F.okX cO (fun vs H Q E h => ?_) (fun cdv A outer s H vs Q E hr h => ?_)
 ·rcases h with ⟨z, ls, o, rfl, _⟩ | ⟨v, rfl, _⟩ <;> rfl
 ·have hr2 : aX 2 _ := hr.mono Z0
  have hr3 : aX 3 _ := hr.mono Z0
  have hr4 : aX 4 _ := hr.mono Z0
  have hr8 : aX 8 _ := hr
  refine ⟨_, QSs.h (aA (bK (lz (cQ (aM jx Z3 T.inst boot_isinstance (aj (pv 0) (aj (jD (v := .ty "str") Z3 T.t_str boot_str rfl) ao))))) (aC (c7 bj rfl (xK Aad Gad hr2 T.c_NoText T.x_NoText (aj aq ao)))) aV)
   (aA (bC (i := 1) cO.nd rfl (Or.inl rfl) (fH plainAttrs_str slot_str_split type_str_split jB (pv 0) (aj aF ao)))
   (aA (bC (i := 2) cO.nd rfl (Or.inl rfl) (eG Aao Gao hr4 bj (aj (bh aO (pv 1) aq) ao)))
   (aA (bC (i := 3) cO.nd rfl (Or.inl rfl) (cZ ao))
   (aA (uV PassesOwn.leaving rfl (DY (K := K) rfl Z3 T.enumerate (aj (gP lX (pv 1) (jV aq) jM) ao)) (Jt (K := K) (n := 2) rfl rfl (wN (bR (i := 4) cO.nd rfl (Or.inl rfl)) (wN (bR (i := 5) cO.nd rfl (Or.inl rfl)) Hs)))
   (aA (bC (i := 6) cO.nd rfl (Or.inl rfl) (eG Aa7 Ga7 hr8 bj (aj (pv 5) (aj (pv 4) ao))))
   (aA (bK (aK mF (pv 4) (lU T.g_MOST_ROWS) (aP _)) (aC (c7 bj rfl (xK Abc Gbc hr2 T.c_TooMany T.x_TooMany (aj (pv 4) ao)))) aV)
   (aA (bK (aK BX (wJ (P := P) (w := w) (K := K) (mg := mg) (base := base) rfl rfl rfl rfl rfl hr3 (pv 6)) (DR (pY M_Part Aav.b Gav hr2 T.c_Part (aj (pv 2) (aj (pv 3) ao))) T.pt.cl.cl M_bound Gbh hr4 Abh.b .nil wX) Z3) (aC (c7 bj rfl (xK Abf Gbf hr2 T.c_Twice T.x_Twice (aj (pv 4) ao)))) aV)
   (aC (dD (fH plainAttrs_list PySem.F.slot_list_append PySem.F.type_list_append eV (pv 3) (aj (pv 6) ao))))))))
   (aC (aL (pY M_Part Aav.b Gav hr2 T.c_Part (aj (pv 2) (aj (pv 3) ao)))))))))), ?_⟩
  rcases h with ⟨z, ls, o, rfl, hz, els, ok, sc, oq⟩ | ⟨v, rfl, ⟨t, ty, kt⟩, qx⟩
  rotate_left
  ·exact ⟨_, rfl, _, _, _, _, rfl, ty, kt, _, rfl, wZ (fun x hx => ⟨x, 0, rfl, ak, Z0, fun p2 hp2 hne => ⟨rfl, x, C 22, some p2, rfl, ak, T.x_NoText, qx.go (au.refl H) hx hp2 hne⟩⟩)⟩
  refine ⟨_, rfl, _, _, _, _, rfl, .str _, lF, _, rfl, bZ ?_⟩
  refine ⟨_, rfl, rfl, _, _, rfl, rfl, JQ, le_trans (show z.length + 2 <= 1000002 by omega) Z0, fun p hp => ?_⟩
  rw [<- els]
  have h0 : au H (upd H p (.lst (ls.map V.str))) := au.new hp
  have hp0 : (upd H p (.lst (ls.map V.str))) p = some (.lst (ls.map V.str)) := ak
  generalize upd H p (.lst (ls.map V.str)) = H0 at h0 hp0
  have h1 : 0 < ls.length := length_pos_iff.mpr ok.ne
  refine ⟨_, rfl, p, _, _, V.str (wAt ls 0), rfl, rfl, SqL.of hp0, bJ h1, wAt ls 0, rfl, ok.le _ (d7 h1), fun hb H1 s1 => ?_, fun hb => ?_⟩
  case _ =>
   obtain sc : Scan (ls.drop 1) 1 [] o := by
    rcases sc with ⟨hb2, _⟩ | ⟨_, sc⟩
    ·exact absurd (hb2.symm.trans hb) Z0
    ·exact sc
   change au H0 H1 at s1
   change OcQ C (wAt (Txt.split (wAt ls 0) (" " : Str)) 1) o H Q E at oq
   generalize wAt (Txt.split (wAt ls 0) (" " : Str)) 1 = ad at oq ⊢
   have hp1 := s1 _ _ hp0
   refine ⟨by show 0 <= sizeLine; decide, fun b hb => ?_⟩
   have s2 : au H1 (upd H1 b (.lst [])) := au.new hb
   refine ⟨_, rfl, _, rfl, p, _, rfl, SqL.of (s2 _ _ hp1), fun c hc => ?_⟩
   have ec : jK (ls.map V.str) (some 1) none = (ls.drop 1).map V.str := QW ls 1
   rw [ec]
   have s3 : au (upd H1 b (.lst [])) (upd (upd H1 b (.lst [])) c (.lst ((ls.drop 1).map V.str))) := au.new hc
   have hbc : b ≠ c := fun z => by rw [z, ak] at hc; cases hc
   generalize hH3 : upd (upd H1 b (.lst [])) c (.lst ((ls.drop 1).map V.str)) = H3 at s3
   have hb3 : H3 b = some (.lst []) := s3 _ _ ak
   have hc3 : H3 c = some (.lst ((ls.drop 1).map V.str)) := by rw [<- hH3]; exact ak
   have sH : au H H3 := h0.trans (s1.trans (s2.trans s3))
   have hb0 : H b = none := (h0.trans s1).free hb
   refine ⟨c, rfl, ⟨_, SqL.of hc3⟩, ?_⟩
   refine GR (xs := (ls.drop 1).map V.str) (fun i σ H2 => ∃ v4 v5 v6 xs, ∃ rs : List aZ, σ = [some (.str z), some (.ref p), some (.str ad), some (.ref b), v4, v5, v6] /\ SameBut b H3 H2 /\ H2 b = some (.lst xs) /\ xs.length = i /\ rs.length = i /\ i <= 12 /\ (∀ r ∈ rs, GoodR r) /\ Scan (ls.drop (i + 1)) (i + 1) rs o /\ ∀ (j : Nat) r, rs[j]? = some r -> ∃ a t, xs[j]? = some (.ref a) /\ dh C H2 a t r /\ t ≠ b)
    ⟨none, none, none, [], [], rfl, fun _ _ e _ => e, hb3, rfl, rfl, Z0, (fun r hr => by cases hr), sc, fun j r h => by cases h⟩ (fun i σ H2 hi hv => ?_) (fun i x p0 σ H2 hx hv hp0 => ?_) (fun σ H2 hv => ?_)
   ·obtain ⟨v4, v5, v6, xs, rs, rfl, sb, hb2, _⟩ := hv
    exact SqL.of (sb _ _ hc3 hbc.symm)
   ·obtain ⟨v4, v5, v6, xs, rs, rfl, sb, hb2, hxl, hrl, i12, hgr, scn, hxt⟩ := hv
    have hg : oY rs := ⟨Z1, hgr⟩
    rw [getElem?_map] at hx
    obtain ⟨l, el, rfl⟩ : ∃ l, (ls.drop 1)[i]? = some l /\ x = V.str l := by
     cases e : (ls.drop 1)[i]? with
     | none => rw [e] at hx; cases hx
     | some y => rw [e] at hx; cases hx; exact ⟨y, rfl, rfl⟩
    have hll : l.length <= 6000 := ok.le l (List.mem_of_mem_drop (mem_of_getElem? el))
    have ed : ls.drop (i + 1) = l :: ls.drop (i + 1 + 1) := by
     rw [List.getElem?_drop, Nat.add_comm] at el
     obtain ⟨hi, e⟩ := List.getElem?_eq_some_iff.mp el
     rw [List.drop_eq_getElem_cons hi, e]
    rw [ed] at scn
    have s4 : au H2 (upd H2 p0 (.tup [.int (1 + (i : Int)), .str l])) := au.new hp0
    have sH2 : au H H2 := fun bb o e => sb bb o (sH bb o e) (aB e hb0)
    have ei : ((i + 1 : Nat) : Int) = 1 + (i : Int) := by omega
    have lg : (1 + (i : Int)).natAbs.log2 < 1920 := FT Z1
    refine ⟨p0, _, rfl, SqT.of ak, rfl, _, _, rfl, _, _, rfl, rfl, ?_⟩
    refine ⟨_, rfl, _, rfl, l, 1 + (i : Int), rfl, hll, lg, fun r gr er a t H4 s5 ha ht ra => ?_, fun nr => ?_⟩
    case _ =>
     have s24 : au H2 H4 := s4.trans s5
     have sHA : au H H4 := sH2.trans s24
     by_cases h12 : 12 < i + 1
     ·refine ⟨_, rfl, _, _, rfl, rfl, _, rfl, bD (decide_eq_true Z1) ?_⟩
      rcases scn.inv with ⟨nr, _⟩ | ⟨_, _, rfl⟩ | ⟨_, _, _, h, _⟩ | ⟨_, _, _, h, _⟩
      ·exact absurd ⟨r, gr, er⟩ nr
      ·have oq : XtD (C 31) ((i + 1 : Nat) : Int) H E := oq
       rw [ei] at oq
       exact ⟨_, rfl, fun x hx => ⟨x, _, rfl, ak, lg, fun p2 hp2 hne => ⟨rfl, x, C 31, some p2, rfl, ak, T.x_TooMany, oq.go sHA hx hp2 hne⟩⟩⟩
      ·omega
      ·omega
     refine ⟨_, rfl, _, _, rfl, rfl, _, rfl, aN (decide_eq_false Z1) ?_⟩
     refine ⟨_, rfl, rdB T ra gr fun H5 s6 => ?_⟩
     have s25 : au H2 H5 := s24.trans s6
     refine ⟨_, rfl, _, rfl, fun x dx hx hdx hne => ?_⟩
     have sn : au H5 (upd (upd H5 dx (.own x)) x (.ins (C 7) dx [])) := cF hx hdx
     refine ⟨x, dx, ad, b, rs, rfl, ak, ⟨xs, (s25.trans sn) _ _ hb2, by rw [hxl, hrl], fun j r e => ?_⟩, hg, fun l2 H6 hl2 sb6 pa => ⟨rfl, ?_⟩⟩
     ·obtain ⟨a2, t2, q1, q2, _⟩ := hxt j r e
      exact ⟨a2, t2, q1, q2.same (s25.trans sn)⟩
     have s56 : au H5 H6 := fun bb o e => sb6 bb o (sn bb o e) (aB e hx)
     obtain ⟨dy, fs, ep, _, _, n1, _⟩ := id pa
     refine ⟨x, dy, fs, rfl, ep, n1, x, ad, l2, rs, rfl, pa, hg, fun c2 H7 hc2 s7 hl7 => ?_⟩
     have s27 : au H2 H7 := s25.trans (s56.trans s7)
     have s47 : au H4 H7 := s6.trans (s56.trans s7)
     rcases scn.inv with ⟨nr, _⟩ | ⟨_, h, _⟩ | ⟨r0, g0, e0, _, hn, hm, rfl⟩ | ⟨r0, g0, e0, hi0, hm, scn2⟩
     ·exact absurd ⟨r, gr, er⟩ nr
     ·exact absurd h h12
     ·have en := tR g0 gr (er.symm.trans e0)
      refine ⟨c2, _, rfl, .inl (SqL.of hl7), rfl, pW _, _, rfl, bD (by rw [en]; exact BW hn hm) ?_⟩
      have oq : XtD (C 33) ((i + 1 : Nat) : Int) H E := oq
      rw [ei] at oq
      exact ⟨_, rfl, fun x hx => ⟨x, _, rfl, ak, lg, fun p2 hp2 hne => ⟨rfl, x, C 33, some p2, rfl, ak, T.x_Twice, oq.go (sH2.trans s27) hx hp2 hne⟩⟩⟩
     have en := tR g0 gr (er.symm.trans e0)
     refine ⟨c2, _, rfl, .inl (SqL.of hl7), rfl, pW _, _, rfl, aN (by rw [en]; exact FZ hm) ?_⟩
     have hb7 := s27 _ _ hb2
     refine ⟨_, rfl, .inl ⟨rfl, _, SqL.of hb7⟩, _, rfl, b, xs, .ref a, rfl, rfl, hb7, by rw [hxl]; exact Nat.lt_of_le_of_lt i12 Z0, ?_⟩
     refine ⟨_, _, _, xs ++ [.ref a], rs ++ [r0], rfl, fun bb o e hbb => by rw [aD hbb]; exact s27 _ _ (sb bb o e hbb), ak, by rw [length_append, hxl]; rfl, by rw [length_append, hrl]; rfl, hi0, fun x hx => ?_, scn2, fun j r1 e => ?_⟩
     ·rcases mem_append.mp hx with k | k
      ·exact hgr x k
      ·rw [mem_singleton.mp k]; exact g0
     rcases lt_or_ge j i with k | k
     ·rw [getElem?_append_left Z1] at e
      obtain ⟨a2, t2, q1, q2, q3⟩ := hxt j r1 e
      exact ⟨a2, t2, by rw [getElem?_append_left Z1]; exact q1, (q2.same s27).upd hb7 q3, q3⟩
     ·have hj := (List.getElem?_eq_some_iff.mp e).1
      rw [length_append, hrl] at hj
      obtain rfl : j = i := by have : ([r0] : List aZ).length = 1 := rfl; omega
      rw [getElem?_append_right Z1, hrl, sub_self] at e
      cases e
      have htb : t ≠ b := fun z => by rw [z, s4 _ _ hb2] at ht; cases ht
      exact ⟨a, t, by rw [getElem?_append_right Z1, hxl, sub_self]; rfl, ((Ci g0 gr (er.symm.trans e0) ra).same s47).upd hb7 htb, htb⟩
    case _ =>
     rcases scn.inv with ⟨_, rfl⟩ | ⟨h, _⟩ | ⟨r, g, h, _⟩ | ⟨r, g, h, _⟩
     ·have oq : XtD (C 22) ((i + 1 : Nat) : Int) H E := oq
      rw [ei] at oq
      exact XtD.on oq (sH2.trans s4)
     ·exact absurd h nr
     ·exact absurd ⟨r, g, h⟩ nr
     ·exact absurd ⟨r, g, h⟩ nr
   ·obtain ⟨v4, v5, v6, xs, rs, rfl, sb, hb2, hxl, hrl, i12, hgr, scn, hxt⟩ := hv
    have hg : oY rs := ⟨Z1, hgr⟩
    rw [length_map, length_drop] at scn
    have e0 : ls.drop (ls.length - 1 + 1) = [] := drop_eq_nil_of_le Z1
    rw [e0] at scn
    obtain rfl := Fj scn
    have sH2 : au H H2 := fun bb o e => sb bb o (sH bb o e) (aB e hb0)
    refine ⟨_, rfl, _, rfl, fun x dx hx hdx hne => ?_⟩
    have sn : au H2 (upd (upd H2 dx (.own x)) x (.ins (C 7) dx [])) := cF hx hdx
    refine ⟨x, dx, ad, b, rs, rfl, ak, ⟨xs, sn _ _ hb2, by rw [hxl, hrl], fun j r e => ?_⟩, hg, fun l2 H6 hl2 sb6 pa => ⟨rfl, ?_⟩⟩
    ·obtain ⟨a2, t2, q1, q2, _⟩ := hxt j r e
     exact ⟨a2, t2, q1, q2.same sn⟩
    ·have s26 : au H2 H6 := fun bb o e => sb6 bb o (sn bb o e) (aB e hx)
     exact oq x l2 H6 (sH2.trans s26) (sH2.free hx) pa
  case _ =>
   rcases sc with ⟨_, rfl⟩ | ⟨hb2, _⟩
   ·exact XtD.on oq h0
   ·exact absurd (hb.symm.trans hb2) Z0
theorem vZ (T : Tx K mg C) (F : Fun K "_law_names" "_law_names" ie f fd) : yg P w K mg base 2 f fd qG tZ := by
 obtain ⟨faa, daa, Aaa⟩ := T.aaa
 have Gaa : aJ P w K mg base CX0 1 faa daa lJ pq := nQ Aaa.F
 refine F.okN dR (fun vs H n Q h => ?_) (fun cdv A outer s H vs n Q E hn0 hr h => ?_)
 ·obtain ⟨c, rfl, _⟩ := h
  rfl
 ·obtain ⟨c, rfl, q⟩ := h
  have hr1 : aX 1 _ := hr
  refine ⟨_, (bH (psn (bC (i := 2) dR.nd rfl (Or.inr rfl) aF))
   (bH (psn (bC (i := 3) dR.nd rfl (Or.inl rfl) (aR b7 aq (bc Aaa Gaa hr1 (aj (pv 0) (aj aq (aj aq ao)))))))
   (bH (psn (bC (i := 4) dR.nd rfl (Or.inl rfl) (bc Aaa Gaa hr1 (aj (pv 0) (aj aq (aj (pv 3) ao))))))
   (bH (psn (bC (i := 5) dR.nd rfl (Or.inl rfl) (aR eN (aR b7 (aR b7 (pv 4) aq) (bc Aaa Gaa hr1 (aj (pv 0) (aj aq (aj (aR uM (pv 3) aq) ao))))) (pv 3))))
   (bH (psn (bC (i := 6) dR.nd rfl (Or.inr rfl) (jR (N := ["_law_j", "_law_cell_here"]) [none, some 0] rfl Z5 (gC Z3 T.range (aj aq ao)) (fun cl C fp s H => (bR (i := 0) (by decide +kernel : (["_law_j", "_law_cell_here"] : List Str).Nodup) rfl (Or.inl rfl))) (fun cl C fp s H => kZ) (fun cl C fp s H => (bc Aaa Gaa hr1 (aj (pv 1) (aj (aR b7 aq (pv 0)) (aj aq ao))))))))
   (bH (vh (i := 7) dR.nd rfl (Or.inl rfl) (Bf (bB dH (bB dH (bB dH (bB dH (bB dH (bB dH (bB dH (bB dH (bB dH (bB dH (pan ao)))))))))))))
   (bH (vh (i := 8) dR.nd rfl (Or.inl rfl) (Nb aO (Bf (bB (pen (pv 7)) (bB (rD (N := ["_law_j", "_law_letters", "_law_base"]) [none, some 2, some 6] rfl Z5 (gC Z3 T.range (aj aq ao)) (fun cl C fp s H => (bR (i := 0) (by decide +kernel : (["_law_j", "_law_letters", "_law_base"] : List Str).Nodup) rfl (Or.inl rfl))) (fun cl C fp s H => (JS (K := K) rfl plainAttrs_str slot_str_join type_str_join (Dl rfl) aF (bB (rD (N := ["_law_k", "_law_letters"]) [none, some 1] rfl Z5 (Hb (K := K) rfl (gP (DK (K := K) rfl) (pv 2) jM (jV (aR b7 (pv 0) aq)))) (fun cl C fp s H => (bR (i := 0) (by decide +kernel : (["_law_k", "_law_letters"] : List Str).Nodup) rfl (Or.inl rfl))) (fun cl C fp s H => (Bc (pv 1) (pv 0) (fun _ _ => rfl)))) (pan ao))))) (bB (pen (cZ ao)) (pan ao))))) (bc Aaa Gaa hr1 (aj (pv 0) (aj aq (aj aq ao)))) (fun _ _ => rfl)))
   (bH (Ax PassesOwn.never rfl (gC Z3 T.range (aj (pv 1) ao)) (bR (i := 9) dR.nd rfl (Or.inl rfl))
   (bH (psn (bC (i := 10) dR.nd rfl (Or.inl rfl) (gP lX (pv 6) jM (jV (pv 3)))))
   (bH (psn (lB (aR eN (aR b7 (bh aO (pv 6) (pv 4)) (pv 9)) aq) (lA (pv 10) (pv 4) set_list)))
   (bH (psn (lB (aR eN (aR b7 (bh aO (pv 6) (pv 5)) (aR jO (pv 9) aq)) aq) (lA (pv 10) (pv 5) set_list)))
   (bH (vh (i := 11) dR.nd rfl (Or.inl rfl) (vK plainAttrs_str slot_str_join type_str_join xR aF (bB (rD (N := ["_law_k", "_law_letters"]) [none, some 2] rfl Z5 (iI (pv 10)) (fun cl C fp s H => (bR (i := 0) (by decide +kernel : (["_law_k", "_law_letters"] : List Str).Nodup) rfl (Or.inl rfl))) (fun cl C fp s H => (Bc (pv 1) (pv 0) (fun _ _ => rfl)))) (pan ao))))
   (lG (psn (bK (aK De (pv 11) (pv 8) Z3) (aC (dD (fH plainAttrs_list PySem.F.slot_list_append PySem.F.type_list_append eV (pv 8) (aj (pv 11) ao)))) aV))))))))
   (lG (psn (aL (gP lX (pv 8) jM (jV (pv 1)))))))))))))), ?_⟩
  have z1 := cW c 0 (m := 7) Z0
  have z2 := cR c 0 (m := 7) Z0
  refine ⟨_, rfl, c, 0, 7, rfl, Z0, Z0, Z0, fun H1 s1 => ⟨_, _, rfl, rfl, ?_⟩⟩
  generalize pick c 0 7 = sz at z1 z2
  have o1 := cW c 1 (m := 2 + sz) Z1
  have o2 := cR c 1 (m := 2 + sz) Z1
  refine ⟨_, rfl, _, rfl, c, 1, 2 + sz, rfl, Z0, Z0, Z1, fun H2 s2 => ?_⟩
  generalize pick c 1 (2 + sz) = one at o1 o2
  have t1 := cW c 2 (m := 2 + sz - 1) Z1
  have t2 := cR c 2 (m := 2 + sz - 1) Z1
  refine ⟨_, rfl, _, _, rfl, rfl, _, rfl, _, rfl, _, _, rfl, rfl, c, 2, 2 + sz - 1, rfl, Z0, Z0, Z1, fun H3 s3 => ⟨_, _, rfl, rfl, _, rfl, _, _, rfl, rfl, by show (0 : Int) < 2 + sz; omega, ?_⟩⟩
  obtain ⟨w0, w1, wne⟩ := Nk (m := 2 + sz) Z1 o1 o2 t1 t2
  obtain ⟨two, htwo⟩ : ∃ two, two = (one + 1 + pick c 2 (2 + sz - 1)) % (2 + sz) := ⟨_, rfl⟩
  rw [<- htwo] at w0 w1 wne
  refine ⟨_, rfl, Z0, Z0, wK (fun i v H' => ∃ b : Int, v = V.int b /\ 0 <= b /\ b < 26) (fun i v H' H'' h _ => h) (by show 8 <= sizeLine; decide) (fun i H' Q' hi sm k' => ?_) (fun xs H4 s4 hl hx B hB => ?_)⟩
  ·have hi' : i < 8 := hi
   exact ⟨_, rfl, _, rfl, _, _, rfl, rfl, c, 3 + (0 + (i : Int)), 26, rfl, Z1, Z1, Z0, fun H5 s5 => k' _ H5 s5 ⟨_, rfl, cW c _ Z0, cR c _ Z0⟩⟩
  obtain ⟨bs, hbl, rfl, hbr⟩ := ints_of hx
  have hb8 : bs.length = 8 := by rw [length_map] at hl; exact hl
  have s03 : au H H4 := s1.trans (s2.trans (s3.trans s4))
  have hB0 : H B = none := s03.free hB
  have s04 : au H (upd H4 B (.lst (bs.map V.int))) := s03.put hB
  have hB4 : (upd H4 B (.lst (bs.map V.int))) B = some (.lst (bs.map V.int)) := ak
  generalize upd H4 B (.lst (bs.map V.int)) = H5 at s04 hB4
  intro k0 g0 k1 g1 k2 g2 k3 g3 k4 g4 k5 g5 k6 g6 k7 g7 k8 g8 k9 g9
  refine ⟨by show 10 <= sizeLine; decide, fun O hO => ?_⟩
  obtain ⟨zo, ezo⟩ : ∃ zo : List (Str × Tok), zo = [(("let" : Str), k0), (("be" : Str), k1), (("as" : Str), k2), (("draw" : Str), k3), (("late" : Str), k4), (("take" : Str), k5), (("from" : Str), k6), (("need" : Str), k7), (("deed" : Str), k8), (("part" : Str), k9)] := ⟨_, rfl⟩
  have bo : Below (k9 + 1) zo := by
   subst ezo
   intro p hp
   simp only [mem_cons, not_mem_nil, or_false] at hp
   rcases hp with rfl | rfl | rfl | rfl | rfl | rfl | rfl | rfl | rfl | rfl <;> refine ⟨?_, ?_⟩ <;> show (_ : Nat) < _ <;> omega
  have fo : zo.map (·.1) = Hn := by subst ezo; rfl
  have eo : [V.stk "let" k0, V.stk "be" k1, V.stk "as" k2, V.stk "draw" k3, V.stk "late" k4, V.stk "take" k5, V.stk "from" k6, V.stk "need" k7, V.stk "deed" k8, V.stk "part" k9] = cz zo := by subst ezo; rfl
  have s05 : au H5 (upd H5 O (.lst (cz zo))) := au.new hO
  have hO6 : (upd H5 O (.lst (cz zo))) O = some (.lst (cz zo)) := ak
  rw [eo]
  generalize upd H5 O (.lst (cz zo)) = H6 at s05 hO6
  have hn1 : 0 < k9 + 1 := succ_pos _
  generalize hq1 : k9 + 1 = q1 at bo hn1
  have hnq : n <= q1 := by omega
  clear ezo eo hq1
  have hB6 := s05 _ _ hB4
  have hOB : O ≠ B := (aB hB4 hO).symm
  refine ⟨_, rfl, _, rfl, Z0, Z0, J8 (m := 8) (fun i => dX (bs.take (i + 1))) Z0 (fun i => V.int (0 + (i : Int))) (fun i H' _ hi => hi) (fun H' _ => le_refl _) (fun i H' x H'' _ _ y => ⟨y.2, y.1⟩) (fun i q2 H' Q' hi hq2 sm k' => ?_) (fun q2 zp H7 hq2 s7 hzp bp PR hPR => ?_)⟩
  ·have hi' : i < 8 := hi
   have ec : jK (bs.map V.int) none (some (0 + (i : Int) + 1)) = (bs.take (i + 1)).map V.int := by
    rw [Bm Z1, show (0 + (i : Int) + 1).toNat = i + 1 from by omega]
   refine ⟨rfl, _, rfl, _, rfl, _, _, rfl, rfl, _, rfl, B, _, rfl, SqL.of (sm _ _ hB6), fun w hw => ⟨w, rfl, ⟨_, SqL.of ak⟩, ?_⟩⟩
   have h8 : (bs.take (i + 1)).length <= 8 := by rw [length_take]; omega
   refine qX (ks := bs.take (i + 1)) h8 (hbr.take _) (SqL.of (ak.trans (by rw [ec]))) Z1 (fun b n2 H' Q h0 h1 s k => ⟨_, rfl, _, rfl, letters, _, _, rfl, rfl, Z4, lat h0 h1, k⟩) (fun q3 zw H8 hq3 s8 hzw bw d hd => ?_)
   have ej : Txt.join ("" : Str) (zw.map (·.1)) = dX (bs.take (i + 1)) := by rw [hzw]; exact An _
   refine ⟨_, d, zw, rfl, rfl, SqL.of ak, bw, by rw [hzw]; exact qW h8, fun kk mm hm g0 g1 => ?_⟩
   rw [ej]
   exact k' mm kk _ Z1 (((au.new hw).trans s8).put hd) g0 g1
  have hzp' : zp.map (·.1) = BK bs := hzp
  have s07 : au H6 (upd H7 PR (.lst (cz zp))) := s7.put hPR
  have hP8 : (upd H7 PR (.lst (cz zp))) PR = some (.lst (cz zp)) := ak
  have hPB : PR ≠ B := (aB (s7 _ _ hB6) hPR).symm
  have hP0 : H PR = none := (s04.trans (s05.trans s7)).free hPR
  generalize upd H7 PR (.lst (cz zp)) = H8 at s07 hP8
  refine ⟨by show 0 <= sizeLine; decide, fun Em hEm => ⟨by show 3 <= sizeLine; decide, fun W hW => ?_⟩⟩
  have hEB : Em ≠ B := (aB (s07 _ _ hB6) hEm).symm
  have hE0 : H Em = none := (s04.trans (s05.trans s07)).free hEm
  have s8 : au H8 (upd H8 Em (.lst [])) := au.new hEm
  have hE9 : (upd H8 Em (.lst [])) Em = some (.lst (cz [])) := ak
  generalize upd H8 Em (.lst []) = H9 at s8 hE9 hW
  have s9 : au H9 (upd H9 W (.lst [V.ref O, V.ref PR, V.ref Em])) := au.new hW
  have hW10 : (upd H9 W (.lst [V.ref O, V.ref PR, V.ref Em])) W = some (.lst [V.ref O, V.ref PR, V.ref Em]) := ak
  generalize upd H9 W (.lst [V.ref O, V.ref PR, V.ref Em]) = H10 at s9 hW10
  have p1 := cW c 11 (m := 3) Z0
  have p2 := cR c 11 (m := 3) Z0
  refine ⟨_, rfl, c, 11, 3, rfl, Z0, Z0, Z0, fun H11 s11 => ?_⟩
  have hcase : ∃ (nl : Addr) (zs : List (Str × Tok)), atI [V.ref O, V.ref PR, V.ref Em] (pick c 11 3) = some (.ref nl) /\ H11 nl = some (.lst (cz zs)) /\ (zs.map (·.1)).Nodup /\ (∀ z ∈ zs.map (·.1), bT z) /\ zs.length <= 10 /\ nl ≠ B /\ H nl = none /\ Below q2 zs := by
   generalize pick c 11 3 = k at p1 p2
   have lo : zo.length = 10 := by have := congrArg List.length fo; rwa [length_map] at this
   have lp : zp.length = 8 := by have := congrArg List.length hzp; simpa using this
   rcases (by omega : k = 0 \/ k = 1 \/ k = 2) with rfl | rfl | rfl
   ·exact ⟨O, zo, bU (j := 0) rfl, s11 _ _ (s9 _ _ (s8 _ _ (s07 _ _ hO6))), by rw [fo]; exact Np, by rw [fo]; exact My, Z1, hOB, s04.free hO, bo.mono hq2⟩
   ·exact ⟨PR, zp, bU (j := 1) rfl, s11 _ _ (s9 _ _ (s8 _ _ hP8)), by rw [hzp']; exact Jx hb8, by rw [hzp']; exact Hq hbr hb8, Z1, hPB, hP0, bp⟩
   ·exact ⟨Em, [], bU (j := 2) rfl, s11 _ _ (s9 _ _ hE9), List.nodup_nil, (fun z hz => by cases hz), Z0, hEB, hE0, fun p hp => by cases hp⟩
  obtain ⟨nl, zs0, hat, hn11, nd0, nm0, len0, hnB, hn00, bl0⟩ := hcase
  have hB11 := s11 _ _ (s9 _ _ (s8 _ _ (s07 _ _ hB6)))
  have s0 : au H H11 := s04.trans (s05.trans (s07.trans (s8.trans (s9.trans s11))))
  refine ⟨W, _, _, _, rfl, rfl, SqL.of (s11 _ _ hW10), hat, ?_⟩
  refine ⟨_, rfl, _, rfl, Z0, Z0, ?_⟩
  have hm8 : (2 + sz).toNat <= bs.length := by omega
  have hmi : ((2 + sz).toNat : Int) = 2 + sz := by omega
  refine rW (fun i q3 σ H2 => ∃ v9 v10 v11, ∃ zs : List (Str × Tok), σ = [some (.int c), some (.int 12), some (.str "abcdefghijklmnopqrstuvwxyz"), some (.int (2 + sz)), some (.int one), some (.int two), some (.ref B), some (.ref O), some (.ref nl), v9, v10, v11] /\ au H H2 /\ H2 B = some (.lst (bs.map V.int)) /\ H2 nl = some (.lst (cz zs)) /\ (q2 <= q3 /\ Below q3 zs) /\ (zs.map (·.1)).Nodup /\ (∀ z ∈ zs.map (·.1), bT z) /\ zs.length <= 10 + i /\ ∀ j : Nat, j < i -> dX (eE bs (2 + sz).toNat one.toNat two.toNat (0 + (j : Int))) ∈ zs.map (·.1))
   ⟨none, none, none, zs0, (by rw [htwo]; rfl), s0, hB11, hn11, ⟨le_refl _, bl0⟩, nd0, nm0, len0, fun j hj => absurd hj (Nat.not_lt_zero _)⟩ ?_ ?_
  ·rintro i q3 σ H2 hi ⟨v9, v10, v11, zs, rfl, sm, hB2, hn2, ⟨hq3, bz⟩, nd, hnm, hlen, hc⟩
   have hi12 : i < 12 := hi
   have ec : jK (bs.map V.int) none (some (2 + sz)) = (bs.take (2 + sz).toNat).map V.int := Bm Z1
   refine ⟨_, rfl, _, rfl, _, rfl, B, _, rfl, SqL.of hB2, fun w hw => ?_⟩
   have sw : au H2 (upd H2 w (.lst (jK (bs.map V.int) none (some (2 + sz))))) := au.new hw
   have hw3 : (upd H2 w (.lst (jK (bs.map V.int) none (some (2 + sz))))) w = some (.lst ((bs.take (2 + sz).toNat).map V.int)) := ak.trans (by rw [ec])
   have hwB : w ≠ B := (aB hB2 hw).symm
   have hwn : w ≠ nl := (aB hn2 hw).symm
   generalize upd H2 w (.lst (jK (bs.map V.int) none (some (2 + sz)))) = H3 at sw hw3
   have tl : (bs.take (2 + sz).toNat).length = (2 + sz).toNat := by rw [length_take, min_eq_left hm8]
   refine ⟨_, rfl, _, rfl, B, _, _, _, rfl, rfl, SqL.of (sw _ _ hB2), DG o1 Z1, _, rfl, _, _, rfl, rfl, _, _, rfl, rfl, by show (0 : Int) < 26; decide, _, rfl, _, rfl, w, _, _, one.toNat, rfl, rfl, hw3, Gw o1 (by rw [length_map, tl]; omega), ?_⟩
   have s3 : au H2 (upd H3 w (.lst (((bs.take (2 + sz).toNat).map V.int).set one.toNat (V.int ((bs.getD one.toNat 0 + (0 + (i : Int))) % 26))))) := sw.over hw
   have hw4 : (upd H3 w (.lst (((bs.take (2 + sz).toNat).map V.int).set one.toNat (V.int ((bs.getD one.toNat 0 + (0 + (i : Int))) % 26))))) w = some (.lst (((bs.take (2 + sz).toNat).set one.toNat ((bs.getD one.toNat 0 + (0 + (i : Int))) % 26)).map V.int)) := ak.trans (by rw [map_set])
   generalize upd H3 w (.lst (((bs.take (2 + sz).toNat).map V.int).set one.toNat (V.int ((bs.getD one.toNat 0 + (0 + (i : Int))) % 26)))) = H4 at s3 hw4
   refine ⟨_, rfl, _, rfl, B, _, _, _, rfl, rfl, SqL.of (s3 _ _ hB2), DG w0 Z1, _, rfl, _, _, rfl, rfl, ⟨Z0, Z0⟩, _, _, rfl, rfl, _, _, rfl, rfl, by show (0 : Int) < 26; decide, _, rfl, _, rfl, w, _, _, two.toNat, rfl, rfl, hw4, Gw w0 (by rw [length_map, length_set, tl]; omega), ?_⟩
   have s4 : au H2 (upd H4 w (.lst ((((bs.take (2 + sz).toNat).set one.toNat ((bs.getD one.toNat 0 + (0 + (i : Int))) % 26)).map V.int).set two.toNat (V.int ((bs.getD two.toNat 0 + (0 + (i : Int)) / 26) % 26))))) := s3.over hw
   have hw5 : (upd H4 w (.lst ((((bs.take (2 + sz).toNat).set one.toNat ((bs.getD one.toNat 0 + (0 + (i : Int))) % 26)).map V.int).set two.toNat (V.int ((bs.getD two.toNat 0 + (0 + (i : Int)) / 26) % 26))))) w = some (.lst ((eE bs (2 + sz).toNat one.toNat two.toNat (0 + (i : Int))).map V.int)) := ak.trans (by unfold eE; simp only [map_set])
   generalize upd H4 w (.lst ((((bs.take (2 + sz).toNat).set one.toNat ((bs.getD one.toNat 0 + (0 + (i : Int))) % 26)).map V.int).set two.toNat (V.int ((bs.getD two.toNat 0 + (0 + (i : Int)) / 26) % 26)))) = H5 at s4 hw5
   have cl : (eE bs (2 + sz).toNat one.toNat two.toNat (0 + (i : Int))).length = (2 + sz).toNat := G8 hm8
   have cr := nW hbr (2 + sz).toNat one.toNat two.toNat (0 + (i : Int))
   generalize hks : eE bs (2 + sz).toNat one.toNat two.toNat (0 + (i : Int)) = ks at hw5 cl cr
   have k8 : ks.length <= 8 := by omega
   refine ⟨rfl, _, rfl, w, rfl, ⟨_, SqL.of hw5⟩, qX (ks := ks) k8 cr (SqL.of hw5) Z1 (fun b n2 H' Q h0 h1 s k => ⟨_, rfl, _, rfl, letters, _, _, rfl, rfl, Z4, lat h0 h1, k⟩) (fun q4 zw H6 hq4 s6 hzw bw d hd => ⟨_, d, zw, rfl, rfl, SqL.of ak, bw, by rw [hzw]; exact qW k8, fun kk q5 hq5 g0 g1 => ?_⟩)⟩
   have s7 : au H2 (upd H6 d (.lst (cz zw))) := (s4.trans s6).put hd
   generalize upd H6 d (.lst (cz zw)) = H7 at s7
   have ew : Txt.join ("" : Str) (zw.map (·.1)) = dX ks := by rw [hzw]; exact An ks
   generalize Txt.join ("" : Str) (zw.map (·.1)) = nn at ew
   subst ew
   have hn7 := s7 _ _ hn2
   have hB7 := s7 _ _ hB2
   have nw : bT (dX ks) := J1 Z1 k8 cr
   have hfl : ((cz zs).map fgt).all gO = true := by rw [wY, all_eq_true]; intro v hv; obtain ⟨z, _, rfl⟩ := mem_map.mp hv; rfl
   have ef : ∀ b : Bool, inV (V.str (dX ks)) ((zs.map (·.1)).map V.str) = b -> inV (fgt (V.stk (dX ks) kk)) ((cz zs).map fgt) = b := fun b hb => by rw [wY]; exact hb
   by_cases hin : inV (V.str (dX ks)) ((zs.map (·.1)).map V.str) = true
   ·refine ⟨_, rfl, _, rfl, nl, _, rfl, SqL.of hn7, rfl, hfl, _, rfl, aN (by rw [ef _ hin]; rfl) ?_⟩
    refine ⟨_, _, _, zs, rfl, sm.trans s7, hB7, hn7, ⟨Z1, bz.mono Z1⟩, nd, hnm, Z1, fun j hj => ?_⟩
    rcases lt_or_ge j i with k | k
    ·exact hc j k
    ·obtain rfl : j = i := by omega
     rw [hks]
     obtain ⟨z, hz, e⟩ := mem_map.mp (Mz hin)
     rw [<- V.str.inj e]
     exact hz
   ·have hin2 : inV (V.str (dX ks)) ((zs.map (·.1)).map V.str) = false := by simpa using hin
    have hnz : dX ks ∉ zs.map (·.1) := fun z => hin (Eu (mem_map.mpr ⟨_, z, rfl⟩))
    refine ⟨_, rfl, _, rfl, nl, _, rfl, SqL.of hn7, rfl, hfl, _, rfl, bD (by rw [ef _ hin2]; rfl) ?_⟩
    refine ⟨_, rfl, .inl ⟨rfl, _, SqL.of hn7⟩, _, rfl, nl, _, _, rfl, rfl, hn7, lt_of_lt_of_le (show (cz zs).length < 1000 by unfold cz; rw [length_map]; omega) vP, ?_⟩
    have s8 : au H (upd H7 nl (.lst (cz zs ++ [V.stk (dX ks) kk]))) := (sm.trans s7).over hn00
    refine ⟨_, _, _, zs ++ [(dX ks, kk)], rfl, s8, by rw [aD hnB.symm]; exact hB7, ak.trans (by rw [BV]), ⟨Z1, zr bz Z1 g0 g1⟩, by rw [map_append]; exact HB nd hnz, fun z hz => ?_, by rw [length_append]; show zs.length + 1 <= _; omega, fun j hj => ?_⟩
    ·rw [map_append] at hz
     rcases mem_append.mp hz with hz | hz
     ·exact hnm z hz
     ·rw [mem_singleton.mp hz]; exact nw
    ·rw [map_append]
     rcases lt_or_ge j i with k | k
     ·exact mem_append_left _ (hc j k)
     ·obtain rfl : j = i := by omega
      rw [hks]
      exact mem_append_right _ Z2
  ·rintro q3 σ H2 ⟨v9, v10, v11, zs, rfl, sm, hB2, hn2, ⟨hq3, bz⟩, nd, hnm, hlen, hc⟩
   have h12 : 12 <= (zs.map (·.1)).length := Le hbr hm8 (show one.toNat < (2 + sz).toNat by omega) (show two.toNat ≠ one.toNat by omega) (fun j hj => hc j hj)
   rw [length_map] at h12
   refine ⟨_, rfl, _, rfl, _, rfl, nl, _, rfl, SqL.of hn2, fun p hp => ?_⟩
   have et : (zs.take 12).map (·.1) = (zs.map (·.1)).take 12 := map_take ..
   exact q q3 p _ (zs.take 12) Z1 (sm.put hp) (by rw [length_take, min_eq_left h12]) (by rw [et]; exact List.Pairwise.sublist (List.take_sublist 12 _) nd) (by rw [et]; exact fun z hz => hnm z (List.mem_of_mem_take hz)) (fun p hp => bz p (List.mem_of_mem_take hp)) (ak.trans (by rw [show (12 : Int) = ((12 : Nat) : Int) from rfl, GQ]))
theorem sW (T : Tx K mg C) (F : Fun K "_law_whole" "_law_whole" ik f fd) : oW P w K mg base 1 f fd qF O5 := by
 refine F.okH Im (fun vs H Q E h => ?_) (fun cdv A outer s H vs Q E y hr h => ?_)
 ·obtain ⟨i, rfl, _⟩ := h
  rfl
 ·obtain ⟨i, rfl, q⟩ := h
  refine ⟨_, QSs.h (aC (aL (fL (aM (qO (K := K) rfl) Z3 T.inst boot_isinstance (aj (pv 0) (aj (jD (v := .ty "int") Z3 T.t_int boot_int rfl) ao))) (lr (Mx (aM (qO (K := K) rfl) Z3 T.inst boot_isinstance (aj (pv 0) (aj (jD (v := .ty "bool") Z3 T.t_bool PyProof.Rows.boot_bool rfl) ao)))))))), ?_⟩
  exact ⟨_, rfl, _, _, _, _, rfl, .int _, lF, _, rfl, wZ ⟨_, rfl, _, _, _, false, rfl, .int _, Dy Z4 Z4 Z4, _, rfl, q H (au.refl H)⟩⟩
theorem xW (T : Tx K mg C) (F : Fun K "_law_what" "_law_what" jU f fd) : oW P w K mg base 2 f fd wy (yC C) := by
 obtain ⟨fbb, dbb, Abb⟩ := T.abb
 have GH_law_whole : oW P w K mg base 1 fbb dbb qF O5 := sW T Abb.F
 refine F.okH zA (fun vs H Q E h => ?_) (fun cdv A outer s H vs Q E y hr h => ?_)
 ·obtain ⟨x, p, d, i, rfl, _⟩ := h
  rfl
 ·obtain ⟨x, p, d, i, rfl, h3, hx, hp, q⟩ := h
  have hr1 : aX 1 _ := hr
  refine ⟨_, QSs.h (aA (bC (i := 1) zA.nd rfl (Or.inl rfl) (cZ (aj (aM (je (K := K) rfl) Z3 T.inst boot_isinstance (aj (pv 0) (aj (cT T.c_NoText) ao))) (aj (aM (je (K := K) rfl) Z3 T.inst boot_isinstance (aj (pv 0) (aj (cT T.c_TooMany) ao))) (aj (aM (je (K := K) rfl) Z3 T.inst boot_isinstance (aj (pv 0) (aj (cT T.c_Twice) ao))) ao)))))
   (aA (bC (i := 2) zA.nd rfl (Or.inl rfl) (aM (vY (K := K) rfl) Z3 T.inst boot_isinstance (aj (pv 0) (aj (cD (aj (cT T.c_Clash) (aj (cT T.c_Double) (aj (cT T.c_Fault) (aj (cT T.c_NoDrop) (aj (cT T.c_NoExpr) (aj (cT T.c_NoName) (aj (cT T.c_NoPart) (aj (cT T.c_NoRow) (aj (cT T.c_Orphan) (aj (cT T.c_TooWide) ao))))))))))) ao))))
   (aA (bK (PW.pt (kY (aK nT (fH plainAttrs_list PySem.F.slot_list_count PySem.F.type_list_count Ca (pv 1) (aj lu ao)) aq (aP _)) (kY (cQ (pv 2)) (kY (lz (cQ (aM (je (K := K) rfl) Z3 T.inst boot_isinstance (aj (pv 0) (aj (jD (v := .ty "ValueError") Z3 T.t_ValueError qj rfl) ao))))) (mV (lz (cQ (Gi Abb GH_law_whole hr1 (aj (wU (K := K) rfl (pv 0) rfl) ao))))))))) (aC (aL (cD (aj aF (aj aq ao))))) aV)
   (aC (aL (cD (aj (bh (Ei (K := K) rfl) (cZ (aj aF (aj aF (aj aF ao)))) (fH plainAttrs_list PySem.F.slot_list_index PySem.F.type_list_index Dc (pv 1) (aj lu ao))) (aj (wU (K := K) rfl (pv 0) rfl) ao)))))))), ?_⟩
  have xo : uK K C d := by
   rcases h3 with rfl | rfl | rfl
   ·exact T.xf.one
   ·exact T.xm
   ·exact T.xw
  have hd : ∀ {H' : Hp}, au H H' -> ∀ p', some p = some p' -> ∃ fs, H' p' = some (XdO p' fs) := fun s p' e => ⟨_, by cases e; exact s _ _ hp⟩
  have s0 := au.refl H
  refine ⟨_, rfl, _, x, C d, some p, _, _, _, rfl, rfl, hx, hd s0, xo.x, xo.k 22 Z0 Z0, _, rfl, _, x, C d, some p, _, _, _, rfl, rfl, hx, hd s0, xo.x, xo.k 31 Z0 Z0, _, rfl, _, x, C d, some p, _, _, _, rfl, rfl, hx, hd s0, xo.x, xo.k 33 Z0 Z0, by show 3 <= sizeLine; decide, fun l hl => ?_⟩
  have s1 : au H (upd H l (.lst ((flg d).map V.bl))) := au.new hl
  have hl1 : upd H l (.lst ((flg d).map V.bl)) l = some (.lst ((flg d).map V.bl)) := ak
  change ∃ _, _
  refine ⟨_, rfl, by show 10 <= sizeLine; decide, fun tp htp => ?_⟩
  have s2 := s1.put htp (o := .tup ([C 23, C 24, C 25, C 26, C 21, C 27, C 28, C 29, C 30, C 32].map V.ref))
  refine ⟨false, x, C d, some p, tp, [C 23, C 24, C 25, C 26, C 21, C 27, C 28, C 29, C 30, C 32], false, rfl, ak, s2 _ _ hx, hd s2, xo.x, Jo xo h3, ?_⟩
  have hl2 := (au.new htp (o := .tup ([C 23, C 24, C 25, C 26, C 21, C 27, C 28, C 29, C 30, C 32].map V.ref))) _ _ hl1
  obtain ⟨j, c1, c2, c3, c4⟩ := Pb h3
  refine ⟨_, rfl, .inl ⟨rfl, _, SqL.of hl2⟩, l, flg d, rfl, rfl, hl2, ?_⟩
  rw [c1]
  refine ⟨rfl, _, rfl, aN Z0 ?_⟩
  refine ⟨_, rfl, _, rfl, bZ ?_⟩
  refine ⟨_, rfl, _, x, C d, some p, _, _, _, rfl, rfl, s2 _ _ hx, hd s2, xo.x, xo.v, _, rfl, bZ ?_⟩
  refine ⟨_, rfl, _, x, C d, p, _, _, rfl, s2 _ _ hx, s2 _ _ hp, xo.x, xo.a, rfl, i, rfl, fun H3 s3 => ⟨_, rfl, bZ ?_⟩⟩
  have s03 := s2.trans s3
  refine ⟨by show 3 <= sizeLine; decide, fun wl hwl => ?_⟩
  have s4 := s03.put hwl (o := .lst [V.str "text", V.str "many", V.str "twice"])
  have hl4 := (au.new hwl (o := .lst [V.str "text", V.str "many", V.str "twice"])) _ _ (s3 _ _ hl2)
  refine ⟨_, rfl, .inl ⟨rfl, _, SqL.of hl4⟩, l, flg d, j, rfl, rfl, hl4, c2, c3, (by show 3 <= 1000; decide), ?_⟩
  refine ⟨wl, _, _, _, rfl, rfl, SqL.of ak, c4, ?_⟩
  refine ⟨_, rfl, _, x, C d, p, _, _, rfl, s4 _ _ hx, s4 _ _ hp, xo.x, xo.a, rfl, by show 2 <= sizeLine; decide, fun t ht => ?_⟩
  exact q t _ (s4.put ht) ak
theorem pR (T : Tx K mg C) (F : Fun K "_law_told" "_law_told" jL f fd) : aJ P w K mg base CX0 10 f fd qP (fu K) := by
 obtain ⟨fa4, da4, Aa4⟩ := T.aa4
 have Ga4 : aJ P w K mg base (CX1 P w) 9 fa4 da4 iH (xu K C) := uY T Aa4.F
 obtain ⟨fan, dan, Aan⟩ := T.aan
 have Gan : oW P w K mg base 2 fan dan wy (yC C) := xW T Aan.F
 refine F.ok Er (fun vs H Q E h => ?_) (fun cdv A outer s H vs Q E hr h => ?_)
 ·rcases h with ⟨z, ls, o, rfl, _⟩ | ⟨v, rfl, _⟩ <;> rfl
 ·have hr2 : aX 2 _ := hr.mono Z0
  have hr9 : aX 9 _ := hr
  refine ⟨_, QSs.h (aA (DQ (i := 1) T.x_HouseError T.c_HouseError Er.nd rfl rfl rfl rfl (fun pins E W hw => (aC (dD (eG Aa4 Ga4 hr9 hw (aj (pv 0) ao))))) aV (fun x pins => (aC (aL (Gi Aan Gan hr2 (aj (pv 1) ao))))))
   (aC (aL (cD (aj aF (aj aq ao)))))), ?_⟩
  rcases h with ⟨z, ls, o, rfl, hz, els, ok, sc, q⟩ | ⟨v, rfl, nt, q⟩
  rotate_left
  ·refine ⟨_, rfl, .inr ⟨v, rfl, nt, fun x p H' s' hx0 ex ep => ?_⟩⟩
   exact ⟨x, C 22, some p, rfl, ex, T.xf.s22, _, rfl, x, p, 22, 0, rfl, .inl rfl, ex, ep, fun q' H2 s2 hq => q q' H2 (s'.trans s2) hq⟩
  refine ⟨_, rfl, .inl ⟨z, ls, o, rfl, hz, els, ok, sc, ?_⟩⟩
  cases o with
  | text i =>
   intro x p H' s' hx0 ex ep
   exact ⟨x, C 22, some p, rfl, ex, T.xf.s22, _, rfl, x, p, 22, i, rfl, .inl rfl, ex, ep, fun q' H2 s2 hq => q q' H2 (s'.trans s2) hq⟩
  | many i =>
   intro x p H' s' hx0 ex ep
   exact ⟨x, C 31, some p, rfl, ex, T.xm.s, _, rfl, x, p, 31, i, rfl, .inr (.inl rfl), ex, ep, fun q' H2 s2 hq => q q' H2 (s'.trans s2) hq⟩
  | twice i =>
   intro x p H' s' hx0 ex ep
   exact ⟨x, C 33, some p, rfl, ex, T.xw.s, _, rfl, x, p, 33, i, rfl, .inr (.inr rfl), ex, ep, fun q' H2 s2 hq => q q' H2 (s'.trans s2) hq⟩
  | part rs =>
   intro p l H' s' _ _
   exact ⟨by show 2 <= sizeLine; decide, fun t ht => q t _ (s'.put ht) ak⟩
theorem vf (T : Tx K mg C) (F : Fun K "_law_plain" "_law_plain" iJ f fd) : aJ P w K mg base CX0 3 f fd qD tY := by
 obtain ⟨fay, day, Aay⟩ := T.aay
 have Gay : yg P w K mg base 2 fay day qG tZ := vZ T Aay.F
 obtain ⟨fa1, da1, Aa1⟩ := T.aa1
 have Ga1 : aJ P w K mg base CX0 1 fa1 da1 Ag J3 := KQ Aa1.F
 obtain ⟨faa, daa, Aaa⟩ := T.aaa
 have Gaa : aJ P w K mg base CX0 1 faa daa lJ pq := nQ Aaa.F
 refine F.oq lR fun _ _ _ _ H _ Q E hr h => ?_
 ·obtain ⟨c, m, rfl, hm1, hm2, q⟩ := h
  have hr1 : aX 1 _ := hr.mono Z0
  have hr2 : aX 2 _ := hr
  refine ⟨_, QSs.h (yF Aay Gay hr2 (bc Aa1 Ga1 hr1 (aj (pv 0) (aj aq ao))) lR.nd (i := 2) rfl (Or.inl rfl)
   (bH (psn (bC (i := 3) lR.nd rfl (Or.inl rfl) (cZ ao)))
   (bH (Ax PassesOwn.never rfl (gC Z3 T.range (aj (pv 1) ao)) (bR (i := 4) lR.nd rfl (Or.inl rfl))
   (bH (psn (bC (i := 5) lR.nd rfl (Or.inl rfl) (bc Aaa Gaa hr1 (aj (pv 0) (aj (aR b7 aq (pv 4)) (aj aq ao))))))
   (lG (LQ (PW.pt (kY (aK cY (pv 5) aq (aP _)) (mV (aK mF (pv 4) aq (aP _)))))
   (Qg (aC (dD (fH plainAttrs_list PySem.F.slot_list_append PySem.F.type_list_append eV (pv 3) (aj (cD (aj (aR gU aF (eQ vJ Z3 T.t_str boot_str (aj (pv 4) ao))) (aj aF ao))) ao)))))
   (bH (psn (bC (i := 6) lR.nd rfl (Or.inl rfl) (bh aO (cZ (aj aF (aj aF (aj aF (aj aF ao))))) (pv 5))))
   (lG (G5 (vK plainAttrs_list PySem.F.slot_list_append PySem.F.type_list_append (mtn eV) (pv 3) (bB (Iu (bB (vK plainAttrs_str PySem.F.slot_str_replace PySem.F.type_str_replace (mtn Aa) (pv 6) (bB dH (bB (pen (bh aO (pv 2) (pv 4))) (pan ao)))) (bB (pen (Mv (bh aO (pv 2) (pv 4)))) (pan ao)))) (pan ao))))))))))
   (lG (psn (aL (pv 3))))))), ?_⟩
  refine ⟨_, rfl, c, 1, rfl, Z0, Z0, fun H1 s1 => ⟨_, rfl, fun n1 NL H2 zs hn1 s2 hz12 hnd hnm hbl hNL => ?_⟩⟩
  refine ⟨by show 0 <= sizeLine; decide, fun R hR => ?_⟩
  have s3 : au H (upd H2 R (.lst [])) := (s1.trans s2).put hR
  have hR0 : H R = none := (s1.trans s2).free hR
  have hNR : NL ≠ R := aB hNL hR
  have hR3 : (upd H2 R (.lst [])) R = some (.lst []) := ak
  have hNL3 : (upd H2 R (.lst [])) NL = some (.lst (cz zs)) := by rw [aD (aB hNL hR)]; exact hNL
  generalize upd H2 R (.lst []) = H3 at s3 hR3 hNL3
  refine ⟨_, rfl, _, rfl, Z1, Z1, ?_⟩
  rw [toNat_natCast]
  refine rW (fun i q3 σ H' => ∃ v4 v5 v6 xs ds, σ = [some (.int c), some (.int m), some (.ref NL), some (.ref R), v4, v5, v6] /\ au H H' /\ n1 <= q3 /\ H' NL = some (.lst (cz zs)) /\ H' R = some (.lst xs) /\ ds.length = i /\ mR H' xs ds /\ jF zs ds)
   ⟨none, none, none, [], [], rfl, s3, le_refl _, hNL3, hR3, rfl, ⟨rfl, fun i d e => by simp at e⟩, fun k d e => by simp at e⟩ ?_ ?_
  ·rintro i q3 σ H4 hi ⟨v4, v5, v6, xs, ds, rfl, s4, hq3, hNL4, hR4, hdl, hpx, hpu⟩
   have hxl := hpx.1
   refine ⟨_, rfl, _, rfl, _, _, rfl, rfl, c, 16 + (0 + (i : Int)), 4, rfl, Z1, Z1, Z0, fun H5 s5 => ?_⟩
   have p1 := cW c (16 + (0 + (i : Int))) (m := 4) Z0
   have p2 := cR c (16 + (0 + (i : Int))) (m := 4) Z0
   generalize pick c (16 + (0 + (i : Int))) 4 = so at p1 p2
   have hNL5 := s5 _ _ hNL4
   have hR5 := s5 _ _ hR4
   have s05 := s4.trans s5
   have hpx5 : mR H5 xs ds := ⟨hpx.1, fun j d e => let ⟨p, e1, e2⟩ := hpx.2 j d e; ⟨p, e1, s5 _ _ e2⟩⟩
   have fin : ∀ (r : aZ) (q4 : Nat) (v5' v6' : Option V) (H6 : Hp) (p : Addr), au H5 H6 -> q3 <= q4 -> GoodR r -> (r.nm = "" \/ ∃ z, zs[ds.length]? = some z /\ r.nm = z.1) -> H6 p = none ->
     ∃ v4 v5 v6 xs' ds', [some (.int c), some (.int m), some (.ref NL), some (.ref R), some (V.int (0 + (i : Int))), v5', v6'] = [some (V.int c), some (V.int m), some (V.ref NL), some (V.ref R), v4, v5, v6] /\ au H (upd (upd H6 p (.tup [.str (bu r), .str r.nm])) R (.lst (xs ++ [.ref p]))) /\ n1 <= q4 /\
      (upd (upd H6 p (.tup [.str (bu r), .str r.nm])) R (.lst (xs ++ [.ref p]))) NL = some (.lst (cz zs)) /\ (upd (upd H6 p (.tup [.str (bu r), .str r.nm])) R (.lst (xs ++ [.ref p]))) R = some (.lst xs') /\ ds'.length = i + 1 /\ mR (upd (upd H6 p (.tup [.str (bu r), .str r.nm])) R (.lst (xs ++ [.ref p]))) xs' ds' /\ jF zs ds' := by
    intro r q4 v5' v6' H6 p s6 hq4 g hr hp
    have hR6 := s6 _ _ hR5
    have npR : p ≠ R := (aB hR6 hp).symm
    have hpx6 : mR H6 xs ds := ⟨hpx.1, fun j d e => let ⟨p, e1, e2⟩ := hpx5.2 j d e; ⟨p, e1, s6 _ _ e2⟩⟩
    refine ⟨_, _, _, xs ++ [.ref p], ds ++ [(bu r, r.nm)], rfl, ((s05.trans s6).put hp).over hR0, le_trans hq3 hq4, ?_, ak, by rw [length_append, hdl]; rfl, hpx6.up hR6 (fun b o hb e => ?_) ?_, hpu.snoc g hr⟩
    ·rw [aD hNR, aD (aB (s6 _ _ hNL5) hp)]; exact s6 _ _ hNL5
    ·rw [aD hb, aD (aB e hp)]; exact e
    ·rw [aD npR]; exact ak
   have hxs : xs.length < sizeLine := lt_of_lt_of_le (show xs.length < 100 by omega) Z0
   by_cases h0 : so = 0 \/ 11 < i
   ·have l1 := FT (n := (0 + (i : Int)).natAbs) Z1
    have n2 := (iZ (m := i) (lt_of_lt_of_le (show i < 15 by omega) Z0)).2.1
    have e0 : ("need " : Str) ++ Str.ofString (toString (0 + (i : Int))) = bu (yx i) := by rw [zero_add]; rfl
    have e1 : (Str.ofString (toString (0 + (i : Int)))).length <= 20 := by rw [zero_add]; exact n2
    have e2 : (("need " : Str)).length = 5 := by decide +kernel
    have b1 : (("need " : Str)).length + (Str.ofString (toString (0 + (i : Int)))).length <= sizeLine := le_trans (show _ <= 25 by omega) Z0
    have app : ∀ p, H5 p = none -> _ := fun p hp => fin (yx i) q3 (some (.int so)) v6 H5 p (au.refl _) (le_refl _) (yE (lt_of_lt_of_le (show i < 15 by omega) Z0)) (.inl rfl) hp
    rw [<- e0] at app
    by_cases hs : so = 0
    ·refine ⟨_, rfl, rfl, _, rfl, bD (by rw [hs]; decide) (wZ ?_)⟩
     exact ⟨_, rfl, .inl ⟨rfl, _, SqL.of hR5⟩, _, rfl, _, rfl, l1, _, _, rfl, rfl, b1, by show 2 <= sizeLine; decide, fun p hp => ⟨R, xs, _, rfl, rfl, by rw [aD (aB hR5 hp)]; exact hR5, hxs, app p hp⟩⟩
    ·refine ⟨_, rfl, rfl, _, rfl, aN (decide_eq_false fun z => hs (V.int.inj z)) ⟨_, rfl, _, _, rfl, rfl, _, rfl, bD (decide_eq_true Z1) ?_⟩⟩
     exact ⟨_, rfl, .inl ⟨rfl, _, SqL.of hR5⟩, _, rfl, _, rfl, l1, _, _, rfl, rfl, b1, by show 2 <= sizeLine; decide, fun p hp => ⟨R, xs, _, rfl, rfl, by rw [aD (aB hR5 hp)]; exact hR5, hxs, app p hp⟩⟩
   ·have hs : ¬ so = 0 := fun z => h0 (.inl z)
    have hi11 : i <= 11 := by omega
    refine ⟨_, rfl, rfl, _, rfl, aN (decide_eq_false fun z => hs (V.int.inj z)) ⟨_, rfl, _, _, rfl, rfl, _, rfl, aN (decide_eq_false Z1) ?_⟩⟩
    obtain ⟨z, k, hat, hz18, hrep⟩ := Gz (so := so) Z1 p2
    refine ⟨by show 4 <= sizeLine; decide, fun W hW => ⟨_, rfl, W, _, _, _, rfl, rfl, SqL.of ak, hat, ?_⟩⟩
    have s6 : au H5 (upd H5 W (.lst [V.str "", V.str "let * be 7", V.str "draw a.b as *", V.str "take a from b as *"])) := au.new hW
    generalize upd H5 W (.lst [V.str "", V.str "let * be 7", V.str "draw a.b as *", V.str "take a from b as *"]) = H6 at s6
    have hzi : i < zs.length := by omega
    have hatz : atI (cz zs) (0 + (i : Int)) = some (.stk zs[i].1 zs[i].2) := by rw [zero_add]; exact bU (by unfold cz; rw [getElem?_map, getElem?_eq_getElem hzi]; rfl)
    have hnz : bT zs[i].1 := hnm _ (mem_map.mpr ⟨_, getElem_mem hzi, rfl⟩)
    obtain ⟨t0, t1⟩ := hbl zs[i] (getElem_mem hzi)
    have hl8 := hnz.hi
    have hbd : z.length + (z.length + 1) * zs[i].1.length <= 16777216 := by
     have : (z.length + 1) * zs[i].1.length <= 19 * 8 := Nat.mul_le_mul Z1 hl8
     omega
    refine ⟨_, rfl, .inl ⟨rfl, _, SqL.of (s6 _ _ hR5)⟩, _, rfl, rfl, fun kk hkk => ⟨_, rfl, _, rfl, NL, _, _, _, rfl, rfl, SqL.of (s6 _ _ hNL5), hatz, z, _, _, _, _, rfl, rfl, lt_of_lt_of_le (lt_of_lt_of_le hn1 hq3) hkk, t0, ne_of_gt (lt_of_lt_of_le (lt_of_lt_of_le t1 hq3) hkk), Ip hnz, hbd, _, rfl, _, rfl, NL, _, _, _, rfl, rfl, SqL.of (s6 _ _ hNL5), hatz, by show 2 <= sizeLine; decide, fun p hp => ⟨R, xs, _, rfl, rfl, by rw [aD (aB (s6 _ _ hR5) hp)]; exact s6 _ _ hR5, hxs, ?_⟩⟩⟩
    have kf := fin (rPl k zs[i].1) (kk + 1) (some (.int so)) (some (.str z)) H6 p s6 Z1 (Eg k hnz) (.inr ⟨zs[i], by rw [hdl]; exact getElem?_eq_getElem hzi, vg k _⟩) hp
    rw [<- hrep, vg] at kf
    exact kf
  ·rintro q3 σ H4 ⟨v4, v5, v6, xs, ds, rfl, s4, hq3, hNL4, hR4, hdl, hpx, hpu⟩
   exact ⟨_, rfl, q R H4 ds hR0 s4 hdl (hpu.ok hnd) ⟨xs, hR4, hpx.1, hpx.2⟩⟩
theorem wH (T : Tx K mg C) (F : Fun K "_law_none" "_law_none" jZ f fd) : aJ P w K mg base CX0 2 f fd uU yq := by
 obtain ⟨faa, daa, Aaa⟩ := T.aaa
 have Gaa : aJ P w K mg base CX0 1 faa daa lJ pq := nQ Aaa.F
 refine F.oq u9 fun _ _ _ _ H _ Q E hr h => ?_
 ·obtain ⟨c, rfl, q⟩ := h
  have hr1 : aX 1 _ := hr
  refine Fv ((aA (n8 (i := 2) u9.nd rfl (Or.inl rfl) (oJ (qI (xs := bO.take 10) Z5)) (hs := by kernel_rfl))
   (aA (n8 (i := 2) u9.nd rfl (Or.inl rfl) (QE.mk (aR yV (pv 2) (oJ (qI (xs := (bO.drop 10).take 6) Z5)).h)) (hs := by kernel_rfl))
   (aA (n8 (i := 2) u9.nd rfl (Or.inl rfl) (QE.mk (aR yV (pv 2) (oJ (qI (xs := bO.drop 16) Z5)).h)) (hs := by kernel_rfl))
   (aC (aL (bh aO (pv 2) (bc Aaa Gaa hr1 (aj (pv 0) (aj (pv 1) (aj (aM aY Z3 T.len boot_len (aj (pv 2) ao)) ao))))))))))) ?_
  refine ⟨by show 10 <= sizeLine; decide, fun A1 h1 => ?_⟩
  have s1 : au H (upd H A1 (.lst ((bO.take 10).map V.str))) := au.new h1
  have g1 : (upd H A1 (.lst ((bO.take 10).map V.str))) A1 = some (.lst ((bO.take 10).map V.str)) := ak
  generalize upd H A1 (.lst ((bO.take 10).map V.str)) = H1 at s1 g1
  refine ⟨_, rfl, by show 6 <= sizeLine; decide, fun A2 h2 => ?_⟩
  have s2 : au H1 (upd H1 A2 (.lst (((bO.drop 10).take 6).map V.str))) := au.new h2
  have g2 : (upd H1 A2 (.lst (((bO.drop 10).take 6).map V.str))) A2 = some (.lst (((bO.drop 10).take 6).map V.str)) := ak
  generalize upd H1 A2 (.lst (((bO.drop 10).take 6).map V.str)) = H2 at s2 g2
  refine ⟨A1, A2, _, _, rfl, rfl, s2 _ _ g1, g2, Z0, fun A3 h3 => ?_⟩
  have s3 : au H2 (upd H2 A3 (.lst (((bO.take 10).map V.str) ++ (((bO.drop 10).take 6).map V.str)))) := au.new h3
  have g3 : (upd H2 A3 (.lst (((bO.take 10).map V.str) ++ (((bO.drop 10).take 6).map V.str)))) A3 = some (.lst ((bO.take 16).map V.str)) := ak
  generalize upd H2 A3 (.lst (((bO.take 10).map V.str) ++ (((bO.drop 10).take 6).map V.str))) = H3 at s3 g3
  refine ⟨_, rfl, by show 2 <= sizeLine; decide, fun A4 h4 => ?_⟩
  have s4 : au H3 (upd H3 A4 (.lst ((bO.drop 16).map V.str))) := au.new h4
  have g4 : (upd H3 A4 (.lst ((bO.drop 16).map V.str))) A4 = some (.lst ((bO.drop 16).map V.str)) := ak
  generalize upd H3 A4 (.lst ((bO.drop 16).map V.str)) = H4 at s4 g4
  refine ⟨A3, A4, _, _, rfl, rfl, s4 _ _ g3, g4, Z0, fun A5 h5 => ?_⟩
  have s5 : au H4 (upd H4 A5 (.lst ((bO.take 16).map V.str ++ ((bO.drop 16).map V.str)))) := au.new h5
  have g5 : (upd H4 A5 (.lst ((bO.take 16).map V.str ++ ((bO.drop 16).map V.str)))) A5 = some (.lst (bO.map V.str)) := ak
  generalize upd H4 A5 (.lst ((bO.take 16).map V.str ++ ((bO.drop 16).map V.str))) = H5 at s5 g5
  refine ⟨_, rfl, _, rfl, _, rfl, _, rfl, A5, _, rfl, .inl (SqL.of g5), c, 6, 18, rfl, Z0, Z0, Z0, fun H6 s6 => ?_⟩
  have p1 := cW c 6 (m := 18) Z0
  have p2 := cR c 6 (m := 18) Z0
  obtain ⟨j, ej⟩ := eq_ofNat_of_zero_le p1
  have hj : j < bO.length := by show j < 18; omega
  refine ⟨A5, _, _, V.str (wAt bO j), rfl, rfl, SqL.of (s6 _ _ g5), by rw [ej]; exact bJ hj, ?_⟩
  exact q _ (uW (d7 hj)) H6 (s1.trans (s2.trans (s3.trans (s4.trans (s5.trans s6)))))
theorem zX (T : Tx K mg C) (F : Fun K "_law_due" "_law_due" lQ f fd) : aJ P w K mg base CX0 1 f fd Bw Ao := by
 refine F.oq Kz fun _ _ _ _ H _ Q E hr h => ?_
 ·obtain ⟨l, ms, rfl, hl, h100, q⟩ := h
  refine ⟨_, QSs.h (aA (uV PassesOwn.never rfl (gC Z3 T.range (aj (aM aY Z3 T.len boot_len (aj (pv 0) ao)) ao)) (bR (i := 1) Kz.nd rfl (Or.inl rfl))
   (aA (bK (aK cY (bh aO (pv 0) (pv 1)) aF (aP _)) (aC (aL (cD (aj aF (aj (pv 1) ao))))) aV)
   (aA (bK (aK mF (pv 1) aq (aP _)) (aC (aL (cD (aj aF (aj (pv 1) ao))))) aV)
   (aC (bK (aK cY (bh aO (pv 0) (pv 1)) aF (aP _)) (aC (aL (cD (aj aF (aj (pv 1) ao))))) aV)))))
   (aC (aL (cD (aj aF (aj aq ao)))))), ?_⟩
  refine ⟨_, rfl, l, _, rfl, .inl (SqL.of hl), _, rfl, Z1, by rw [length_map]; omega, ?_⟩
  rw [length_map, toNat_natCast]
  refine uq (fun i σ H' => (∃ v1, σ = [some (.ref l), v1]) /\ au H H' /\ dC ms 0 = dC (ms.drop i) i) ⟨⟨none, rfl⟩, au.refl _, rfl⟩ ?_ ?_
  ·rintro i σ H1 hi ⟨⟨v1, rfl⟩, s1, hd⟩
   have hl1 := s1 _ _ hl
   have hat : atI (ms.map V.str) (0 + (i : Int)) = some (V.str (wAt ms i)) := by rw [zero_add]; exact bJ hi
   have em : ms.drop i = wAt ms i :: ms.drop (i + 1) := by rw [List.drop_eq_getElem_cons hi]; unfold wAt; rw [getElem?_eq_getElem hi]; rfl
   rw [em] at hd
   generalize wAt ms i = m at hat hd
   have ez : (0 + (i : Int)) = ((i : Nat) : Int) := zero_add _
   by_cases h1 : m = "text"
   ·have e : dC ms 0 = (("text" : Str), i) := by rw [hd]; unfold dC; rw [if_pos h1]
    rw [e] at q
    refine ⟨_, rfl, _, rfl, l, _, _, _, rfl, rfl, SqL.of hl1, hat, rfl, _, rfl, bD (by rw [h1]; decide +kernel) ⟨_, rfl, by show 2 <= sizeLine; decide, fun p hp => q p _ (s1.put hp) ?_⟩⟩
    rw [ez]; exact ak
   refine ⟨_, rfl, _, rfl, l, _, _, _, rfl, rfl, SqL.of hl1, hat, rfl, _, rfl, aN (decide_eq_false fun z => h1 (V.str.inj z)) ?_⟩
   by_cases h2 : 12 < i
   ·have e : dC ms 0 = (("many" : Str), i) := by rw [hd]; unfold dC; rw [if_neg h1, if_pos h2]
    rw [e] at q
    refine ⟨_, rfl, _, _, rfl, rfl, _, rfl, bD (decide_eq_true Z1) ⟨_, rfl, by show 2 <= sizeLine; decide, fun p hp => q p _ (s1.put hp) ?_⟩⟩
    rw [ez]; exact ak
   refine ⟨_, rfl, _, _, rfl, rfl, _, rfl, aN (decide_eq_false Z1) ?_⟩
   by_cases h3 : m = "twice"
   ·have e : dC ms 0 = (("twice" : Str), i) := by rw [hd]; unfold dC; rw [if_neg h1, if_neg h2, if_pos h3]
    rw [e] at q
    refine ⟨_, rfl, _, rfl, l, _, _, _, rfl, rfl, SqL.of hl1, hat, rfl, _, rfl, bD (by rw [h3]; decide +kernel) ⟨_, rfl, by show 2 <= sizeLine; decide, fun p hp => q p _ (s1.put hp) ?_⟩⟩
    rw [ez]; exact ak
   refine ⟨_, rfl, _, rfl, l, _, _, _, rfl, rfl, SqL.of hl1, hat, rfl, _, rfl, aN (decide_eq_false fun z => h3 (V.str.inj z)) ?_⟩
   refine ⟨⟨_, rfl⟩, s1, ?_⟩
   rw [hd]
   conv => lhs; unfold dC
   rw [if_neg h1, if_neg h2, if_neg h3]
  ·rintro σ H1 ⟨⟨v1, rfl⟩, s1, hd⟩
   rw [drop_eq_nil_of_le (le_refl _)] at hd
   rw [hd] at q
   exact ⟨by show 2 <= sizeLine; decide, fun p hp => q p _ (s1.put hp) ak⟩
theorem wz (T : Tx K mg C) (F : Fun K "_law_right" "_law_right" gZ f fd) : aJ P w K mg base CX0 11 f fd qm ut := by
 obtain ⟨fau, dau, Aau⟩ := T.aau
 have Gau : aJ P w K mg base CX0 3 fau dau qD tY := vf T Aau.F
 obtain ⟨faa, daa, Aaa⟩ := T.aaa
 have Gaa : aJ P w K mg base CX0 1 faa daa lJ pq := nQ Aaa.F
 obtain ⟨faz, daz, Aaz⟩ := T.aaz
 have Gaz : aJ P w K mg base CX0 2 faz daz uU yq := wH T Aaz.F
 obtain ⟨fae, dae, Aae⟩ := T.aae
 have Gae : aJ P w K mg base CX0 10 fae dae qP (fu K) := pR T Aae.F
 obtain ⟨fal, dal, Aal⟩ := T.aal
 have Gal : aJ P w K mg base CX0 1 fal dal Bw Ao := zX T Aal.F
 refine F.oq fU fun _ _ _ _ H _ Q E hr h => ?_
 ·obtain ⟨c, rfl, q⟩ := h
  have hr1 : aX 1 _ := hr.mono Z0
  have hr2 : aX 2 _ := hr.mono Z0
  have hr3 : aX 3 _ := hr.mono Z0
  have hr10 : aX 10 _ := hr
  refine Fv ((aA (bC (i := 1) fU.nd rfl (Or.inl rfl) (bc Aau Gau hr3 (aj (pv 0) (aj (aR b7 aq (bc Aaa Gaa hr1 (aj (pv 0) (aj aq (aj aq ao))))) ao))))
   (aA (bC (i := 2) fU.nd rfl (Or.inl rfl) (aR yV (cZ (aj aF ao)) (jR (N := ["_law_row"]) [none] rfl Z5 (iI (pv 1)) (fun cl C fp s H => (bR (i := 0) (by decide +kernel : (["_law_row"] : List Str).Nodup) rfl (Or.inl rfl))) (fun cl C fp s H => kZ) (fun cl C fp s H => (bh (qH (K := K) rfl) (pv 0) aq)))))
   (aA (bC (i := 3) fU.nd rfl (Or.inl rfl) (aR Li (cZ (aj aF ao)) (aM aY Z3 T.len boot_len (aj (pv 2) ao))))
   (aA (bC (i := 4) fU.nd rfl (Or.inl rfl) (aR b7 aq (bc Aaa Gaa hr1 (aj (pv 0) (aj aq (aj (aM aY Z3 T.len boot_len (aj (pv 1) ao)) ao))))))
   (aA (Be (N := ["_law_row"]) [none] (i := 5) fU.nd rfl (Or.inl rfl) rfl Z5 (iI (gP lX (pv 1) jM (jV (aR uM (pv 4) aq)))) (fun cl C fp s H => (bR (i := 0) (by decide +kernel : (["_law_row"] : List Str).Nodup) rfl (Or.inl rfl))) (fun cl C fp s H => (Fd (aK nT (bh (qH (K := K) rfl) (pv 0) aq) aF (aP _)))) (fun cl C fp s H => (bh (qH (K := K) rfl) (pv 0) aq)))
   (aA (bK (PW.pt (jJ (aK (Lh (K := K) rfl hr.units) (pv 5) (cZ ao) (aP _)) (gn (aK mF (bc Aaa Gaa hr1 (aj (pv 0) (aj aq (aj aq ao)))) aq (aP _))))) (aA (lB (aR gU aF (bh aO (pv 5) (bc Aaa Gaa hr1 (aj (pv 0) (aj aq (aj (aM aY Z3 T.len boot_len (aj (pv 5) ao)) ao)))))) (lA (pv 2) (pv 4) set_list))
   (aC (lB aF (lA (pv 3) (pv 4) set_list)))) aV)
   (aA (bC (i := 4) fU.nd rfl (Or.inl rfl) (aR b7 aq (bc Aaa Gaa hr1 (aj (pv 0) (aj aq (aj (aM aY Z3 T.len boot_len (aj (pv 1) ao)) ao))))))
   (aA (bK (aK cY (bc Aaa Gaa hr1 (aj (pv 0) (aj aq (aj aq ao)))) aq (aP _)) (aA (lB (bc Aaz Gaz hr2 (aj (pv 0) (aj aq ao))) (lA (pv 2) (pv 4) set_list))
   (aC (lB aF (lA (pv 3) (pv 4) set_list)))) aV)
   (aA (bK (aK cY (bc Aaa Gaa hr1 (aj (pv 0) (aj aq (aj aq ao)))) aq (aP _)) (aA (n8 (i := 6) fU.nd rfl (Or.inl rfl) (oJ (bV aF (bV aF (bV aF (bV aF (bV aF (bV aF (bV aF (bV aF Eb))))))))))
   (aA (lB (bh aO (pv 6) (bc Aaa Gaa hr1 (aj (pv 0) (aj aq (aj aq ao))))) (lA (pv 2) aq set_list))
   (aC (lB aF (lA (pv 3) aq set_list))))) aV)
   (aA (bK (aK cY (bc Aaa Gaa hr1 (aj (pv 0) (aj aq (aj aq ao)))) aq (aP _)) (aA (dD (fH plainAttrs_list PySem.F.slot_list_append PySem.F.type_list_append eV (pv 2) (aj aF ao)))
   (aC (dD (fH plainAttrs_list PySem.F.slot_list_append PySem.F.type_list_append eV (pv 3) (aj aF ao))))) aV)
   (aA (bC (i := 7) fU.nd rfl (Or.inl rfl) (fH plainAttrs_str slot_str_join type_str_join Ba aF (aj (pv 2) ao)))
   (aC (aL (fL (dw (wF (K := K) rfl hr.units) (bc Aae Gae hr10 (aj (pv 7) ao)) (bc Aal Gal hr1 (aj (pv 3) ao)) (aP _)) (lr (dw (wF (K := K) rfl hr.units) (bc Aae Gae hr10 (aj (pv 7) ao)) (bc Aal Gal hr1 (aj (pv 3) ao)) (aP _)))))))))))))))))) ?_
  have p1 := cW c 0 (m := 15) Z0
  have p2 := cR c 0 (m := 15) Z0
  obtain ⟨p0, ep⟩ := eq_ofNat_of_zero_le p1
  refine ⟨_, rfl, _, rfl, c, 0, 15, rfl, Z0, Z0, Z0, fun H1 s1 => ⟨_, _, rfl, rfl, c, 1 + p0, by rw [ep, Int.natCast_add]; rfl, Z1, Z1, fun RL H2 ds hRL0 s2 hdl hok hpr => ?_⟩⟩
  have hm : 1 <= ds.length /\ ds.length <= 15 := by omega
  clear hdl ep p1 p2
  have s02 := s1.trans s2
  obtain ⟨xs, hRL, hxl, hxp⟩ := id hpr
  refine ⟨by show 1 <= sizeLine; decide, fun P1 hP1 => ?_⟩
  have s3 : au H2 (upd H2 P1 (.lst [V.str "part a.b"])) := au.new hP1
  have g3 : (upd H2 P1 (.lst [V.str "part a.b"])) P1 = some (.lst [V.str "part a.b"]) := ak
  generalize upd H2 P1 (.lst [V.str "part a.b"]) = H3 at s3 g3
  have big15 : ∀ k : Nat, k <= 100 -> k <= sizeLine := fun k hk => le_trans hk Z0
  refine ⟨_, rfl, RL, rfl, ⟨_, SqL.of (s3 _ _ hRL)⟩, nF (fun j => V.str ((ds.getD j ("", "")).1)) (big15 _ Z1) (SqL.of (s3 _ _ hRL)) (fun j x H' Q' hx sm k' => ?_) (fun H4 s4 C1 hC1 => ?_)⟩
  ·have hj : j < ds.length := by rw [<- hxl]; exact (List.getElem?_eq_some_iff.mp hx).1
   obtain ⟨p, e1, e2⟩ := hxp j _ (getElem?_eq_getElem hj)
   rw [e1] at hx
   cases hx
   refine ⟨_, rfl, p, _, _, _, rfl, rfl, SqT.of ((s3.trans sm) _ _ e2), rfl, ?_⟩
   have e : ds.getD j ("", "") = ds[j] := by simp [List.getD, hj]
   rw [e] at k'
   exact k' H' (au.refl _)
  rw [hxl, xn ds ("", "") (fun d => V.str d.1)]
  have s5 : au H4 (upd H4 C1 (.lst (ds.map fun d => V.str d.1))) := au.new hC1
  have g5 : (upd H4 C1 (.lst (ds.map fun d => V.str d.1))) C1 = some (.lst (ds.map fun d => V.str d.1)) := ak
  generalize upd H4 C1 (.lst (ds.map fun d => V.str d.1)) = H5 at s5 g5
  refine ⟨P1, C1, _, _, rfl, rfl, s5 _ _ (s4 _ _ g3), g5, big15 _ (by rw [length_map]; show 1 + _ <= _; omega), fun LA hLA => ?_⟩
  obtain ⟨L0, eL0⟩ : ∃ L0 : List Str, L0 = ("part a.b" : Str) :: ds.map (·.1) := ⟨_, rfl⟩
  have eL : [V.str "part a.b"] ++ (ds.map fun d => V.str d.1) = L0.map V.str := by rw [eL0, map_cons, map_map]; rfl
  have lL0 : L0.length = ds.length + 1 := by rw [eL0, length_cons, length_map]
  rw [eL]
  have s6 : au H5 (upd H5 LA (.lst (L0.map V.str))) := au.new hLA
  have g6 : (upd H5 LA (.lst (L0.map V.str))) LA = some (.lst (L0.map V.str)) := ak
  generalize upd H5 LA (.lst (L0.map V.str)) = H6 at s6 g6
  have s06 : au H H6 := s02.trans (s3.trans (s4.trans (s5.trans s6)))
  have hRLA : RL ≠ LA := aB (s5 _ _ (s4 _ _ (s3 _ _ hRL))) hLA
  have hLA0 : H LA = none := (s02.trans (s3.trans (s4.trans s5))).free hLA
  refine ⟨by show 1 <= sizeLine; decide, fun M1 hM1 => ?_⟩
  have s7 : au H6 (upd H6 M1 (.lst [V.str ""])) := au.new hM1
  have g7 : (upd H6 M1 (.lst [V.str ""])) M1 = some (.lst [V.str ""]) := ak
  generalize upd H6 M1 (.lst [V.str ""]) = H7 at s7 g7
  refine ⟨_, rfl, LA, _, rfl, .inl (SqL.of (s7 _ _ g6)), M1, _, _, rfl, rfl, g7, Z1, by rw [length_map]; omega, by rw [length_map, toNat_natCast]; exact big15 _ (by show 1 * _ <= _; omega), fun MA hMA => ?_⟩
  rw [length_map, toNat_natCast, lL0, G3]
  have LM0 := LMk.first hm.2 _ O8
  rw [<- eL0] at LM0
  obtain ⟨M0, eM0⟩ : ∃ M0 : List Str, M0 = List.replicate (ds.length + 1) ("" : Str) := ⟨_, rfl⟩
  rw [<- eM0] at LM0 ⊢
  clear eL eL0 eM0
  have s8 : au H7 (upd H7 MA (.lst (M0.map V.str))) := au.new hMA
  have g8 : (upd H7 MA (.lst (M0.map V.str))) MA = some (.lst (M0.map V.str)) := ak
  have hRMA : RL ≠ MA := aB (s7 _ _ (s6 _ _ (s5 _ _ (s4 _ _ (s3 _ _ hRL))))) hMA
  have hMA0 : H MA = none := (s06.trans s7).free hMA
  have hLM : LA ≠ MA := aB (s7 _ _ g6) hMA
  generalize upd H7 MA (.lst (M0.map V.str)) = H8 at s8 g8
  have j8 : JR H RL LA MA ds L0 M0 H8 := ⟨s06.trans (s7.trans s8), hpr.same (s3.trans (s4.trans (s5.trans (s6.trans (s7.trans s8))))), s8 _ _ (s7 _ _ g6), g8, LM0, lL0⟩
  clear g8 s8 g7 s7 g6 s6 s5 g5 s4 s3 g3 hpr hRL hxl hxp LM0 lL0
  obtain ⟨ys, hRL, hyl, hyp⟩ := id j8.r
  have hc1 : (0 : Int) < ds.length := by omega
  have a1 := cW c 1 (m := ds.length) hc1
  have a2 := cR c 1 (m := ds.length) hc1
  obtain ⟨t1, et1⟩ := eq_ofNat_of_zero_le a1
  refine ⟨_, rfl, _, rfl, RL, _, rfl, .inl (SqL.of hRL), c, 1, ds.length, by rw [hyl]; rfl, Z0, Z0, hc1, fun H9 s9 => ⟨_, _, rfl, rfl, ?_⟩⟩
  rw [et1] at a2 ⊢
  have j9 := j8.on s9
  have ecut : jK ys none (some (1 + (t1 : Int) - 1)) = ys.take t1 := by rw [show (1 + (t1 : Int) - 1) = ((t1 : Nat) : Int) by omega]; exact zV _ _
  refine ⟨_, rfl, _, rfl, _, _, rfl, rfl, _, rfl, RL, _, rfl, SqL.of (s9 _ _ hRL), fun w hw => ⟨w, rfl, ⟨_, SqL.of ak⟩, ?_⟩⟩
  rw [ecut]
  have s10 : au H9 (upd H9 w (.lst (ys.take t1))) := au.new hw
  have g10 : (upd H9 w (.lst (ys.take t1))) w = some (.lst (ys.take t1)) := ak
  generalize upd H9 w (.lst (ys.take t1)) = H10 at s10 g10
  have lt : (ys.take t1).length = (ds.take t1).length := by rw [length_take, length_take, hyl]
  have at2 : ∀ (j : Nat) (x : V), (ys.take t1)[j]? = some x -> ∃ p, x = .ref p /\ H10 p = some (.tup [.str (((ds.take t1).getD j ("", "")).1), .str (((ds.take t1).getD j ("", "")).2)]) := fun j x hx => by
   have hj : j < (ys.take t1).length := (List.getElem?_eq_some_iff.mp hx).1
   have hj2 : j < (ds.take t1).length := by rw [<- lt]; exact hj
   have hj3 : j < t1 := by rw [length_take] at hj; omega
   have e : (ds.take t1).getD j ("", "") = (ds.take t1)[j] := by unfold List.getD; rw [getElem?_eq_getElem hj2]; rfl
   have e0 : ds[j]? = some (ds.take t1)[j] := by rw [<- getElem?_take_of_lt hj3, getElem?_eq_getElem hj2]
   obtain ⟨p, e1, e2⟩ := hyp j _ e0
   rw [getElem?_take_of_lt hj3, e1] at hx
   cases hx
   exact ⟨p, rfl, by rw [e]; exact s10 _ _ (s9 _ _ e2)⟩
  refine wM (fun j => !decide (V.str (((ds.take t1).getD j ("", "")).2) = V.str "")) (fun j => V.str (((ds.take t1).getD j ("", "")).2)) (big15 _ (by rw [length_take]; omega)) (SqL.of g10) (fun j x H' Q' hx sm k' => ?_) (fun j x H' Q' hx sm k' => ?_) (fun H11 s11 KN hKN => ?_)
  ·obtain ⟨p, rfl, hp⟩ := at2 j x hx
   exact ⟨_, rfl, p, _, _, _, rfl, rfl, SqT.of (sm _ _ hp), rfl, rfl, _, rfl, k' H' (au.refl _)⟩
  ·obtain ⟨p, rfl, hp⟩ := at2 j x hx
   exact ⟨_, rfl, p, _, _, _, rfl, rfl, SqT.of (sm _ _ hp), rfl, k' H' (au.refl _)⟩
  rw [lt, xM]
  have s12 : au H11 (upd H11 KN (.lst ((dU (ds.take t1)).map V.str))) := au.new hKN
  have g12 : (upd H11 KN (.lst ((dU (ds.take t1)).map V.str))) KN = some (.lst ((dU (ds.take t1)).map V.str)) := ak
  generalize upd H11 KN (.lst ((dU (ds.take t1)).map V.str)) = H12 at s12 g12
  have j12 := j9.on (s10.trans (s11.trans s12))
  clear at2 s9 hRL hyp s10 g10 s11 s12 j8 j9 ecut
  have hkL : (dU (ds.take t1)).length <= 15 := by
   have h1 : (dU (ds.take t1)).length <= ((ds.take t1).map (·.2)).length := List.length_filter_le _ _
   rw [length_map, length_take] at h1
   omega
  generalize hkn : dU (ds.take t1) = kn at g12 hkL
  have ix : ∀ {L : List Str} {z : Int} (k : Nat), z = ((k : Nat) : Int) -> k < L.length -> ixN (L.map V.str).length z = some k := fun {L z} k hz h => by
   rw [hz, length_map, Gw Z1 Z1, toNat_natCast]
  have ms : ∀ (L : List Str) (k : Nat) (y : Str), (L.map V.str).set k (V.str y) = (L.set k y).map V.str := fun L k y => (map_set ..).symm
  apply yZ (P := fun (L M : List Str) (H' : Hp) => JR H RL LA MA ds L M H')
  ·intro rest
   refine ⟨_, rfl, by show 0 <= sizeLine; decide, fun E1 hE1 => ⟨KN, E1, kn, [], rfl, rfl, SqL.of ((au.new hE1) _ _ g12), SqL.of ak, _, rfl, ?_⟩⟩
   have s13 : au H12 (upd H12 E1 (.lst [])) := au.new hE1
   generalize upd H12 E1 (.lst []) = H13 at s13
   by_cases hk0 : kn = []
   rotate_left
   ·refine bD (by rw [decide_eq_false hk0]; rfl) ⟨_, rfl, c, 2, 4, rfl, Z0, Z0, Z0, fun H14 s14 => ⟨_, _, rfl, rfl, _, rfl, ?_⟩⟩
    have j14 := (j12.on s13).on s14
    have gK := s14 _ _ (s13 _ _ g12)
    by_cases hp : 0 < pick c 2 4
    ·refine bD (decide_eq_true hp) ?_
     have hkp : (0 : Int) < kn.length := by have := length_pos_iff.mpr hk0; omega
     have b1 := cW c 3 (m := kn.length) hkp
     have b2 := cR c 3 (m := kn.length) hkp
     obtain ⟨t3, et3⟩ := eq_ofNat_of_zero_le b1
     have ht3 : t3 < kn.length := by omega
     have hw := d7 ht3
     rw [<- hkn] at hw
     obtain ⟨wne, jj, dd, hjj, hdd, edd⟩ := Ge hw
     have wnm : bT (wAt kn t3) := by rw [<- hkn, <- edd]; exact Gb hok hdd (by rw [edd]; exact wne)
     rw [hkn] at wne edd
     refine ⟨_, rfl, _, rfl, _, rfl, KN, _, rfl, .inl (SqL.of gK), c, 3, kn.length, by rw [length_map]; rfl, Z0, Z0, hkp, fun H15 s15 => ⟨KN, _, _, V.str (wAt kn t3), rfl, rfl, SqL.of (s15 _ _ gK), by rw [et3]; exact bJ ht3, _, _, rfl, rfl, ?_, ?_⟩⟩
     ·have := wnm.hi
      exact big15 _ (by rw [show (("late c as " : Str)).length = 10 from by decide +kernel]; omega)
     have j15 := j14.on s15
     refine ⟨_, rfl, _, rfl, LA, _, _, t1 + 1, rfl, rfl, j15.l, ix (t1 + 1) Z1 (by rw [j15.n]; omega), ?_⟩
     refine ⟨_, rfl, _, rfl, MA, _, _, t1 + 1, rfl, rfl, by rw [aD hLM.symm]; exact j15.m, ix (t1 + 1) Z1 (by rw [<- j15.k.ll, j15.n]; omega), ?_⟩
     rw [ms, ms]
     have j16 := j15.two hLA0 hMA0 hRLA hRMA hLM (j15.k.set t1 (l := "late c as " ++ wAt kn t3) (m := "twice") (.inr (.inr ⟨rfl, rPl 0 (wAt kn t3), Eg 0 wnm, Di _, by rw [vg]; exact wne, jj, dd, hjj, hdd, by rw [vg]; exact edd⟩))) (by rw [length_set]; exact j15.n)
     generalize upd (upd H15 LA _) MA _ = H16 at j16
     generalize L0.set (t1 + 1) _ = L1 at j16
     generalize M0.set (t1 + 1) _ = M1 at j16
     exact rest L1 M1 H16 j16
    ·exact aN (decide_eq_false hp) (rest L0 M0 H14 j14)
   ·exact aN (by rw [hk0]; rfl) (bZ (rest L0 M0 H13 (j12.on s13)))
  intro L M H13 j13
  clear j12 g12 hkn hkL
  obtain ⟨zs, hRL, hzl, hzp⟩ := id j13.r
  clear hzp
  have c1 := cW c 4 (m := ds.length) hc1
  have c2 := cR c 4 (m := ds.length) hc1
  obtain ⟨t4, et4⟩ := eq_ofNat_of_zero_le c1
  refine ⟨_, rfl, _, rfl, RL, _, rfl, .inl (SqL.of hRL), c, 4, ds.length, by rw [hzl]; rfl, Z0, Z0, hc1, fun H14 s14 => ⟨_, _, rfl, rfl, ?_⟩⟩
  rw [et4] at c2 ⊢
  have j14 := j13.on s14
  apply yZ (P := fun (L M : List Str) (H' : Hp) => JR H RL LA MA ds L M H')
  ·intro rest
   refine ⟨_, rfl, c, 5, 3, rfl, Z0, Z0, Z0, fun H15 s15 => ?_⟩
   have j15 := j14.on s15
   by_cases h0 : pick c 5 3 = 0
   ·refine ⟨rfl, _, rfl, bD (by rw [h0]; decide) ⟨_, rfl, c, rfl, fun y hy H16 s16 => ?_⟩⟩
    have j16 := j15.on s16
    refine ⟨_, rfl, _, rfl, LA, _, _, t4 + 1, rfl, rfl, j16.l, ix (t4 + 1) Z1 (by rw [j16.n]; omega), ?_⟩
    refine ⟨_, rfl, _, rfl, MA, _, _, t4 + 1, rfl, rfl, by rw [aD hLM.symm]; exact j16.m, ix (t4 + 1) Z1 (by rw [<- j16.k.ll, j16.n]; omega), ?_⟩
    rw [ms, ms]
    have j17 := j16.two hLA0 hMA0 hRLA hRMA hLM (j16.k.set t4 (l := y) (m := "text") (.inl ⟨rfl, hy⟩)) (by rw [length_set]; exact j16.n)
    generalize upd (upd H16 LA _) MA _ = H17 at j17
    generalize L.set (t4 + 1) _ = L1 at j17
    generalize M.set (t4 + 1) _ = M1 at j17
    exact rest L1 M1 H17 j17
   ·exact ⟨rfl, _, rfl, aN (decide_eq_false fun z => h0 (V.int.inj z)) (rest L M H15 j15)⟩
  clear j14 s14 hRL hzl j13 L M H13 H14
  intro L M H13 j13
  apply LC (P := fun (v6 : Option V) (L M : List Str) (H' : Hp) => JR H RL LA MA ds L M H')
  ·intro rest
   refine ⟨_, rfl, c, 7, 8, rfl, Z0, Z0, Z0, fun H15 s15 => ?_⟩
   have j15 := j13.on s15
   by_cases h0 : pick c 7 8 = 0
   ·refine ⟨rfl, _, rfl, bD (by rw [h0]; decide) ⟨by show 8 <= sizeLine; decide, fun S1 hS1 => ?_⟩⟩
    have s16 : au H15 (upd H15 S1 (.lst [V.str "", V.str "part", V.str "part a ", V.str "Part a", V.str "part a.b.c.d", V.str "part a b", V.str "a", V.str "part  a"])) := au.new hS1
    have g16 : (upd H15 S1 (.lst [V.str "", V.str "part", V.str "part a ", V.str "Part a", V.str "part a.b.c.d", V.str "part a b", V.str "a", V.str "part  a"])) S1 = some (.lst (hdL.map V.str)) := ak
    generalize upd H15 S1 (.lst [V.str "", V.str "part", V.str "part a ", V.str "Part a", V.str "part a.b.c.d", V.str "part a b", V.str "a", V.str "part  a"]) = H16 at s16 g16
    have b1 := cW c 8 (m := 8) Z0
    have b2 := cR c 8 (m := 8) Z0
    obtain ⟨t8, et8⟩ := eq_ofNat_of_zero_le b1
    have ht8 : t8 < hdL.length := by show t8 < 8; omega
    refine ⟨_, rfl, _, rfl, c, 8, 8, rfl, Z0, Z0, Z0, fun H17 s17 => ⟨S1, _, _, V.str (wAt hdL t8), rfl, rfl, SqL.of (s17 _ _ g16), by rw [et8]; exact bJ ht8, ?_⟩⟩
    have j17 := (j15.on s16).on s17
    refine ⟨_, rfl, LA, _, _, 0, rfl, rfl, j17.l, ix 0 rfl (by rw [j17.n]; omega), ?_⟩
    refine ⟨_, rfl, MA, _, _, 0, rfl, rfl, by rw [aD hLM.symm]; exact j17.m, ix 0 rfl (by rw [<- j17.k.ll, j17.n]; omega), ?_⟩
    rw [ms, ms]
    have j18 := j17.two hLA0 hMA0 hRLA hRMA hLM (j17.k.head (J9 (d7 ht8))) (by rw [length_set]; exact j17.n)
    generalize upd (upd H17 LA _) MA _ = H18 at j18
    generalize L.set 0 _ = L1 at j18
    generalize M.set 0 _ = M1 at j18
    generalize (some (V.ref S1)) = v6
    exact rest v6 L1 M1 H18 j18
   ·exact ⟨rfl, _, rfl, aN (decide_eq_false fun z => h0 (V.int.inj z)) (rest none L M H15 j15)⟩
  clear j13 L M H13
  intro v6 L M H13 j13
  apply yZ (P := fun (L M : List Str) (H' : Hp) => au H H' /\ H' LA = some (.lst (L.map V.str)) /\ H' MA = some (.lst (M.map V.str)) /\ LMk ds L M)
  ·intro rest
   refine ⟨_, rfl, c, 9, 8, rfl, Z0, Z0, Z0, fun H15 s15 => ?_⟩
   have j15 := j13.on s15
   by_cases h0 : pick c 9 8 = 0
   ·have ll := j15.k.ll
    have ln := j15.n
    refine ⟨rfl, _, rfl, bD (by rw [h0]; decide) ?_⟩
    refine ⟨_, rfl, .inl ⟨rfl, _, SqL.of j15.l⟩, LA, _, _, rfl, rfl, j15.l, lt_of_lt_of_le (show (L.map V.str).length < 100 by rw [length_map]; omega) Z0, ?_⟩
    have gM : (upd H15 LA (.lst (L.map V.str ++ [V.str ""]))) MA = some (.lst (M.map V.str)) := by rw [aD hLM.symm]; exact j15.m
    refine ⟨_, rfl, .inl ⟨rfl, _, SqL.of gM⟩, MA, _, _, rfl, rfl, gM, lt_of_lt_of_le (show (M.map V.str).length < 100 by rw [length_map]; omega) Z0, ?_⟩
    have e1 : L.map V.str ++ [V.str ""] = (L ++ [("" : Str)]).map V.str := by rw [map_append]; rfl
    have e2 : M.map V.str ++ [V.str "text"] = (M ++ [("text" : Str)]).map V.str := by rw [map_append]; rfl
    rw [e1, e2]
    have j16 : au H (upd (upd H15 LA (.lst ((L ++ [("" : Str)]).map V.str))) MA (.lst ((M ++ [("text" : Str)]).map V.str))) /\ (upd (upd H15 LA (.lst ((L ++ [("" : Str)]).map V.str))) MA (.lst ((M ++ [("text" : Str)]).map V.str))) LA = some (.lst ((L ++ [("" : Str)]).map V.str)) /\ (upd (upd H15 LA (.lst ((L ++ [("" : Str)]).map V.str))) MA (.lst ((M ++ [("text" : Str)]).map V.str))) MA = some (.lst ((M ++ [("text" : Str)]).map V.str)) /\ LMk ds (L ++ [("" : Str)]) (M ++ [("text" : Str)]) :=
     ⟨(j15.s.over hLA0).over hMA0, by rw [aD hLM]; exact ak, ak, j15.k.snoc Z1 (uW (mem_cons_self ..))⟩
    generalize upd (upd H15 LA _) MA _ = H16 at j16
    generalize L ++ [("" : Str)] = L1 at j16
    generalize M ++ [("text" : Str)] = M1 at j16
    exact rest L1 M1 H16 j16
   ·exact ⟨rfl, _, rfl, aN (decide_eq_false fun z => h0 (V.int.inj z)) (rest L M H15 ⟨j15.s, j15.l, j15.m, j15.k⟩)⟩
  clear j13 L M H13
  rintro L M H13 ⟨s13, gL, gM, lm⟩
  have hi17 := lm.hi
  have hsum := By fun y hy => (lm.line hok hy).2
  refine ⟨rfl, _, rfl, _, LA, L, rfl, rfl, .inl (SqL.of gL), by rw [Nh]; omega, ?_⟩
  refine ⟨_, rfl, lm.told hok fun q1 H14 s14 h14 => ⟨_, rfl, MA, M, rfl, s14 _ _ gM, by rw [<- lm.ll]; omega, fun q2 H15 s15 h15 => ⟨q1, q2, rfl, rfl, jY (s15 _ _ h14) h15 rfl, _, rfl, wZ ?_⟩⟩⟩
  refine ⟨_, rfl, lm.told hok fun q3 H16 s16 h16 => ⟨_, rfl, MA, M, rfl, s16 _ _ (s15 _ _ (s14 _ _ gM)), by rw [<- lm.ll]; omega, fun q4 H17 s17 h17 => ⟨q3, q4, rfl, rfl, jY (s17 _ _ h16) h17 rfl, q H17 (s13.trans (s14.trans (s15.trans (s16.trans s17))))⟩⟩⟩
theorem M8 (T : Tx K mg C) (F : Fun K "law" "law" Dr f fd) : aJ P w K mg base CX0 12 f fd Kh (Ab K) := by
 obtain ⟨fax, dax, Aax⟩ := T.aax
 have Gax : aJ P w K mg base CX0 1 fax dax wj (Bt K) := JB Aax.F T.len
 obtain ⟨faw, daw, Aaw⟩ := T.aaw
 have Gaw : aJ P w K mg base CX0 11 faw daw qm ut := wz T Aaw.F
 obtain ⟨fae, dae, Aae⟩ := T.aae
 have Gae : aJ P w K mg base CX0 10 fae dae qP (fu K) := pR T Aae.F
 obtain ⟨faa, daa, Aaa⟩ := T.aaa
 have Gaa : aJ P w K mg base CX0 1 faa daa lJ pq := nQ Aaa.F
 refine F.oq ym fun _ _ _ _ H _ Q E hr h => ?_
 ·obtain ⟨a, ns, rfl, hS, hlen, q⟩ := h
  have hr1 : aX 1 _ := hr.mono Z0
  have hr10 : aX 10 _ := hr.mono Z0
  have hr11 : aX 11 _ := hr
  refine Fv ((aA (uV PassesOwn.never rfl (gC Z3 T.range (aj (aM (Cu rfl) Z3 T.max PyProof.Rows.boot_max (aj aq (aj (aM (Cr rfl) Z3 T.min PyProof.Rows.boot_min (aj (aM aY Z3 T.len boot_len (aj (pv 0) ao)) (aj aq ao))) ao))) ao)) (bR (i := 1) ym.nd rfl (Or.inl rfl))
   (aA (bC (i := 2) ym.nd rfl (Or.inl rfl) (bc Aax Gax hr1 (aj (pv 0) (aj (pv 1) ao))))
   (aA (bK (lz (cQ (bc Aaw Gaw hr11 (aj (pv 2) ao)))) (aC (aL lu)) aV)
   (aA (n8 (i := 3) ym.nd rfl (Or.inl rfl) (oJ (bV uF (bV aq (bV lu (bV (cZ (aj aF ao)) (bV (cD (aj aF ao)) (bV Gq (bV aq (bV (cZ ao) (bV (DX yJ aq) (bV (cZ (aj aF (aj aF ao))) Eb))))))))))))
   (aC (bK (aK (zc (K := K) rfl hr.units) (bc Aae Gae hr10 (aj (bh aO (pv 3) (bc Aaa Gaa hr1 (aj (pv 2) (aj aq (aj aq ao))))) ao)) (cD (aj aF (aj aq ao))) (aP _)) (aC (aL lu)) aV))))))
   (aA (bC (i := 4) ym.nd rfl (Or.inl rfl) (aR gU aF (aR yP aF aq)))
   (aA (bK (PW.pt (kY (aK (zc (K := K) rfl hr.units) (bc Aae Gae hr10 (aj (pv 4) ao)) (cD (aj aF (aj aq ao))) (aP _)) (mV (aK (zc (K := K) rfl hr.units) (bc Aae Gae hr10 (aj (aR gU (pv 4) aF) ao)) (cD (aj aF (aj aq ao))) (aP _))))) (aC (aL lu)) aV)
   (aC (aL (fL (dw (wF (K := K) rfl hr.units) (bc Aae Gae hr10 (aj (aR gU (pv 4) aF) ao)) (cD (aj aF (aj aq ao))) (aP _)) (lr (dw (wF (K := K) rfl hr.units) (bc Aae Gae hr10 (aj aF ao)) (cD (aj aF (aj aq ao))) (aP _)))))))))) ?_
  refine ⟨_, rfl, a, _, rfl, .inl hS, _, _, rfl, _, _, rfl, _, rfl, ?_, ?_, ?_⟩
  ·split <;> split <;> omega
  ·rw [length_map]; split <;> split <;> omega
  refine uq (fun i σ H2 => ∃ v1 v2 v3, σ = [some (.ref a), v1, v2, v3, none] /\ au H H2) ⟨none, none, none, rfl, au.refl _⟩ ?_ ?_
  ·rintro i σ H2 hi ⟨v1, v2, v3, rfl, sm⟩
   refine ⟨_, rfl, _, rfl, a, ns, 0 + (i : Int), rfl, sm.seq hS, Z1, fun H3 s3 => ?_⟩
   generalize Al ns (0 + (i : Int)) = c
   refine ⟨_, rfl, c, rfl, fun H4 s4 => ⟨_, rfl, bZ ?_⟩⟩
   refine ⟨by show 1 <= sizeLine; decide, fun p1 hp1 => ⟨by show 1 <= sizeLine; decide, fun p2 hp2 => ?_⟩⟩
   refine fun p3 hp3 => ⟨by show 0 <= sizeLine; decide, fun p4 hp4 => ⟨_, rfl, by show 2 <= sizeLine; decide, fun p5 hp5 => ⟨by show 10 <= sizeLine; decide, fun A2 hA2 => ?_⟩⟩⟩
   refine ⟨_, rfl, _, rfl, c, 15, 10, rfl, Z0, Z0, Z0, fun H14 s14 => ?_⟩
   have s04 := sm.trans (s3.trans s4)
   have s0e : au H H14 := ((((((s04.put hp1).put hp2).put hp3).put hp4).put hp5).put hA2).trans s14
   obtain ⟨v, ev, hv⟩ := Gp (xs := [V.non, .int 5, .bl true, .ref p1, .ref p2, .ref p3, .int 0, .ref p4, .int (-1), .ref p5]) (cW c 15 (m := 10) Z0) (cR c 15 (m := 10) Z0)
   refine ⟨A2, _, _, v, rfl, rfl, SqL.of (s14 _ _ ak), ev, ?_⟩
   refine .inr ⟨v, rfl, ?_, fun t1 H15 s15 h15 => ⟨by show 2 <= sizeLine; decide, fun t2 ht2 => ⟨t1, t2, rfl, rfl, jY ((au.new ht2) _ _ h15) ak rfl, _, rfl, bZ ⟨_, _, _, rfl, (s0e.trans s15).put ht2⟩⟩⟩⟩
   simp only [mem_cons, not_mem_nil, or_false] at hv
   rcases hv with rfl | rfl | rfl | rfl | rfl | rfl | rfl | rfl | rfl | rfl
   ·exact Dz
   ·exact rM
   ·exact Hr
   ·exact rm (s14 _ _ ((au.new hA2) _ _ ((au.new hp5) _ _ ((au.new hp4) _ _ ((au.new hp3) _ _ ((au.new hp2) _ _ ak))))))
   ·exact GD (s14 _ _ ((au.new hA2) _ _ ((au.new hp5) _ _ ((au.new hp4) _ _ ((au.new hp3) _ _ ak)))))
   ·exact Jg (s14 _ _ ((au.new hA2) _ _ ((au.new hp5) _ _ ((au.new hp4) _ _ ak))))
   ·exact rM
   ·exact rm (s14 _ _ ((au.new hA2) _ _ ((au.new hp5) _ _ ak)))
   ·exact rM
   ·exact rm (s14 _ _ ((au.new hA2) _ _ ak))
  ·rintro σ H2 ⟨v1, v2, v3, rfl, sm⟩
   have l5 : (("part a" : Str)).length = 6 := by decide +kernel
   refine ⟨_, _, rfl, rfl, O1, _, _, rfl, rfl, by rw [l5, Iv]; decide, ?_⟩
   rw [K3]
   have big : ∀ k : Nat, k <= 1000 -> k <= sizeLine := fun k hk => le_trans hk Z0
   have tl := Nj
   have l6 : (("\nneed" : Str)).length = 5 := by decide +kernel
   refine ⟨_, rfl, Nf fun t1 H3 s3 h3 => ⟨by show 2 <= sizeLine; decide, fun t2 ht2 => ⟨t1, t2, rfl, rfl, jY ((au.new ht2) _ _ h3) ak rfl, _, rfl, bZ ?_⟩⟩⟩
   refine ⟨_, rfl, _, _, rfl, rfl, big _ (by rw [zq]; omega), KY fun t3 H4 s4 h4 => ⟨by show 2 <= sizeLine; decide, fun t4 ht4 => ⟨t3, t4, rfl, rfl, jY ((au.new ht4) _ _ h4) ak rfl, _, rfl, bZ ?_⟩⟩⟩
   refine ⟨_, rfl, _, _, rfl, rfl, big _ (by rw [l6]; omega), MP fun t5 H5 s5 h5 => ⟨by show 2 <= sizeLine; decide, fun t6 ht6 => ⟨t5, t6, rfl, rfl, jY ((au.new ht6) _ _ h5) ak rfl, _, rfl, wZ ?_⟩⟩⟩
   exact Nz fun t7 H6 s6 h6 => ⟨by show 2 <= sizeLine; decide, fun t8 ht8 => ⟨t7, t8, rfl, rfl, jY ((au.new ht8) _ _ h6) ak rfl, q _⟩⟩
end
def FI (K : Frag) (x : Str) (st : Stmt) : Prop := ∃ f fd, nsIn K mainGlobals x = some (some (.ref f)) /\ Fun K x x st f fd
theorem fi {K : Frag} {x : Str} {st : Stmt} {f : Addr} {oc : Value} {od an : Option Addr} {osl : Array (Option Value)} {kV doc pm cdv ct : Value} (a : nsIn K mainGlobals x = some (some (.ref f))) (l : K.lookup f = some ⟨oc, od, .func (fnOf x x (cG st) (bQ st) (az st) .none kV doc pm an cdv ct), osl⟩) (c : codeIn K cdv x = true) (k : keepIn K (.ref f) = true) : FI K x st := ⟨f, _, a, Fz l c k⟩
def MI (K : Frag) (g : Addr) (x q : Str) (st : Stmt) : Prop := (∃ fd, Fun K x q st g fd) /\ isFn K (.ref g) = true /\ keepIn K (.ref g) = true
theorem mi {K : Frag} {x q : Str} {st : Stmt} {f : Addr} {oc : Value} {od an : Option Addr} {osl : Array (Option Value)} {kV doc pm cdv ct : Value} (l : K.lookup f = some ⟨oc, od, .func (fnOf x q (cG st) (bQ st) (az st) .none kV doc pm an cdv ct), osl⟩) (c : codeIn K cdv q = true) (k : keepIn K (.ref f) = true) (i : isFn K (.ref f) = true) : MI K f x q st := ⟨⟨_, Fz l c k⟩, i, k⟩
structure CI (K : Frag) (C : Addr) (x : Str) : Prop where
 A : nsIn K mainGlobals x = some (some (.ref C))
 pg : plainGet K C Str.empty = true
 hd : hasDictIn K C = true
 po : plainOver K C = true
 sa : findIn K (.ref C) "__setattr__" = some (some (.builtin "object.__setattr__"))
 mq : makesIn K C = true
 kc : keepIn K (.ref C) = true
 ca : findIn K (.ref C) "__class__" = some (some (.builtin "object.__class__"))
 mo : mroIn K C (.type "object") = some true
 ty : typeIn K (.ref C) = some (.type "type")
 mm : mroIn K C (.ref C) = some true
def BA (x q : Str) (st : Stmt) (ps : List Str) (n : Nat) : Prop := ∀ (kV doc pm : Value) (an : Option Addr) (cdv ct : Value) (us : List Value), us.length = n -> bindArgs (fnOf x q (cG st) (bQ st) (az st) .none kV doc pm an cdv ct) ⟨us, []⟩ = pure (ps.zip us)
theorem ba1 {x q : Str} {st : Stmt} {ps : List Str} (h : ∀ (kV doc pm : Value) (an : Option Addr) (cdv ct a : Value), bindArgs (fnOf x q (cG st) (bQ st) (az st) .none kV doc pm an cdv ct) ⟨[a], []⟩ = pure (ps.zip [a]) := by exact fun _ _ _ _ _ _ _ => rfl) : BA x q st ps 1 := fun _ _ _ _ _ _ us hl => by obtain ⟨a, rfl⟩ := Ny hl; exact h ..
theorem ba2 {x q : Str} {st : Stmt} {ps : List Str} (h : ∀ (kV doc pm : Value) (an : Option Addr) (cdv ct a b : Value), bindArgs (fnOf x q (cG st) (bQ st) (az st) .none kV doc pm an cdv ct) ⟨[a, b], []⟩ = pure (ps.zip [a, b]) := by exact fun _ _ _ _ _ _ _ _ => rfl) : BA x q st ps 2 := fun _ _ _ _ _ _ us hl => by obtain ⟨a, b, rfl⟩ := O3 hl; exact h ..
theorem ba3 {x q : Str} {st : Stmt} {ps : List Str} (h : ∀ (kV doc pm : Value) (an : Option Addr) (cdv ct a b c : Value), bindArgs (fnOf x q (cG st) (bQ st) (az st) .none kV doc pm an cdv ct) ⟨[a, b, c], []⟩ = pure (ps.zip [a, b, c]) := by exact fun _ _ _ _ _ _ _ _ _ => rfl) : BA x q st ps 3 := fun _ _ _ _ _ _ us hl => by obtain ⟨a, b, c, rfl⟩ := Nx hl; exact h ..
theorem ba4 {x q : Str} {st : Stmt} {ps : List Str} (h : ∀ (kV doc pm : Value) (an : Option Addr) (cdv ct a b c d : Value), bindArgs (fnOf x q (cG st) (bQ st) (az st) .none kV doc pm an cdv ct) ⟨[a, b, c, d], []⟩ = pure (ps.zip [a, b, c, d]) := by exact fun _ _ _ _ _ _ _ _ _ _ => rfl) : BA x q st ps 4 := fun _ _ _ _ _ _ us hl => by obtain ⟨a, b, c, d, rfl⟩ := RP hl; exact h ..
theorem fat {K : Frag} {h : Heap} {mg : MG} {x : Str} {st : Stmt} {ps : List Str} (X : K.In h) (G : h.Ns mainGlobals mg) (b : BA x x st ps ps.length) (i : FI K x st) : ∃ f fd, FnAt K mg x st ps f fd := by
 obtain ⟨f, fd, a, F⟩ := i
 exact ⟨f, fd, F, F.binds b, mg_of X G a⟩
theorem oR {K : Frag} {g : Addr} {x q : Str} {st : Stmt} {ps : List Str} {p : Addr -> Prop} (b : BA x q st ps ps.length) (i : MI K g x q st) (z : isFn K (.ref g) = true -> keepIn K (.ref g) = true -> p g) : ∃ f fd, MAt K x q st ps f fd /\ p f := by
 obtain ⟨⟨fd, F⟩, i1, i2⟩ := i
 exact ⟨g, fd, ⟨F, F.binds b⟩, z i1 i2⟩
theorem K7 {l : OpenLaw} {w : World} {K : Frag} {h : Heap} {mg : MG} {fa g0 g1 g2 g3 g4 g5 g6 g7 g8 g9 g10 g11 g12 g13 C0 C1 C2 C3 C4 C5 C6 C7 gx22 gx31 gx33 C21 C22 C23 C24 C25 C26 C27 C28 C29 C30 C31 C32 C33 C20 N20 : Addr} (X : K.In h) (G : h.Ns mainGlobals mg) (hfa : mg "law" = some (.ref fa))
  {nm20 qn20 : Str} {bs20 sub20 : List Value} {sn20 : List Str} {ab20 : Bool} {col20 : Option Bool} {dd20 : Option Addr} {x020 x120 x220 x320 x520 : Option Value} {oN : Value} {dN : Option Addr} {esN : Array DictEntry} {nN : Nat} {slN : Array (Option Value)}
  {tk0 tk1 tk2 tk3 tk4 tk5 tk6 tk7 : Tok}
  (h0 : FI K "is_name" lZ)
  (h1 : FI K "are_names" iG)
  (h2 : FI K "is_address" fQ)
  (h3 : FI K "is_number" ir)
  (h4 : FI K "read_path" ig)
  (h5 : FI K "read_term" iw)
  (h6 : FI K "read_sign" iz)
  (h7 : FI K "read_expr" jd)
  (h8 : FI K "has_call" km)
  (h9 : FI K "names_expr" fX)
  (h10 : FI K "names_address" du)
  (h11 : FI K "names_word" fY)
  (h12 : FI K "terms_from" gh)
  (h13 : FI K "deed_of" lV)
  (h14 : FI K "row_of" n6)
  (h15 : FI K "row_at" oA)
  (h16 : FI K "read_head" iR)
  (h17 : FI K "read_part" iu)
  (h18 : FI K "_law_cell" jN)
  (h19 : FI K "_law_sub" lW)
  (h20 : FI K "_law_pick" jX)
  (h21 : FI K "_law_names" ie)
  (h22 : FI K "_law_whole" ik)
  (h23 : FI K "_law_what" jU)
  (h24 : FI K "_law_told" jL)
  (h25 : FI K "_law_plain" iJ)
  (h26 : FI K "_law_none" jZ)
  (h27 : FI K "_law_due" lQ)
  (h28 : FI K "_law_right" gZ)
  (h29 : FI K "law" Dr)
  (D0 : CI K C0 "Let")
  (D1 : CI K C1 "Deed")
  (D2 : CI K C2 "Draw")
  (D3 : CI K C3 "Late")
  (D4 : CI K C4 "Take")
  (D5 : CI K C5 "Need")
  (D6 : CI K C6 "Row")
  (D7 : CI K C7 "Part")
  (nf0x0 : findIn K (.ref C0) "name" = some none)
  (nf0x1 : findIn K (.ref C0) "terms" = some none)
  (nf0x2 : findIn K (.ref C0) "address" = some none)
  (nf0x3 : findIn K (.ref C0) "word" = some none)
  (mm0x1 : mroIn K C0 (.ref C1) = some false)
  (mm0x2 : mroIn K C0 (.ref C2) = some false)
  (mm0x3 : mroIn K C0 (.ref C3) = some false)
  (mm0x4 : mroIn K C0 (.ref C4) = some false)
  (mm0x5 : mroIn K C0 (.ref C5) = some false)
  (mm0x6 : mroIn K C0 (.ref C6) = some true)
  (nf1x0 : findIn K (.ref C1) "name" = some none)
  (nf1x1 : findIn K (.ref C1) "terms" = some none)
  (nf1x2 : findIn K (.ref C1) "address" = some none)
  (nf1x3 : findIn K (.ref C1) "word" = some none)
  (mm1x0 : mroIn K C1 (.ref C0) = some false)
  (mm1x2 : mroIn K C1 (.ref C2) = some false)
  (mm1x3 : mroIn K C1 (.ref C3) = some false)
  (mm1x4 : mroIn K C1 (.ref C4) = some false)
  (mm1x5 : mroIn K C1 (.ref C5) = some false)
  (mm1x6 : mroIn K C1 (.ref C6) = some true)
  (nf2x0 : findIn K (.ref C2) "name" = some none)
  (nf2x1 : findIn K (.ref C2) "terms" = some none)
  (nf2x2 : findIn K (.ref C2) "address" = some none)
  (nf2x3 : findIn K (.ref C2) "word" = some none)
  (mm2x0 : mroIn K C2 (.ref C0) = some false)
  (mm2x1 : mroIn K C2 (.ref C1) = some false)
  (mm2x3 : mroIn K C2 (.ref C3) = some false)
  (mm2x4 : mroIn K C2 (.ref C4) = some false)
  (mm2x5 : mroIn K C2 (.ref C5) = some false)
  (mm2x6 : mroIn K C2 (.ref C6) = some true)
  (nf3x0 : findIn K (.ref C3) "name" = some none)
  (nf3x1 : findIn K (.ref C3) "terms" = some none)
  (nf3x2 : findIn K (.ref C3) "address" = some none)
  (nf3x3 : findIn K (.ref C3) "word" = some none)
  (mm3x0 : mroIn K C3 (.ref C0) = some false)
  (mm3x1 : mroIn K C3 (.ref C1) = some false)
  (mm3x2 : mroIn K C3 (.ref C2) = some false)
  (mm3x4 : mroIn K C3 (.ref C4) = some false)
  (mm3x5 : mroIn K C3 (.ref C5) = some false)
  (mm3x6 : mroIn K C3 (.ref C6) = some true)
  (nf4x0 : findIn K (.ref C4) "name" = some none)
  (nf4x1 : findIn K (.ref C4) "terms" = some none)
  (nf4x2 : findIn K (.ref C4) "address" = some none)
  (nf4x3 : findIn K (.ref C4) "word" = some none)
  (mm4x0 : mroIn K C4 (.ref C0) = some false)
  (mm4x1 : mroIn K C4 (.ref C1) = some false)
  (mm4x2 : mroIn K C4 (.ref C2) = some false)
  (mm4x3 : mroIn K C4 (.ref C3) = some false)
  (mm4x5 : mroIn K C4 (.ref C5) = some false)
  (mm4x6 : mroIn K C4 (.ref C6) = some true)
  (nf5x0 : findIn K (.ref C5) "name" = some none)
  (nf5x1 : findIn K (.ref C5) "terms" = some none)
  (nf5x2 : findIn K (.ref C5) "address" = some none)
  (nf5x3 : findIn K (.ref C5) "word" = some none)
  (mm5x0 : mroIn K C5 (.ref C0) = some false)
  (mm5x1 : mroIn K C5 (.ref C1) = some false)
  (mm5x2 : mroIn K C5 (.ref C2) = some false)
  (mm5x3 : mroIn K C5 (.ref C3) = some false)
  (mm5x4 : mroIn K C5 (.ref C4) = some false)
  (mm5x6 : mroIn K C5 (.ref C6) = some true)
  (nf6x0 : findIn K (.ref C6) "name" = some none)
  (nf6x1 : findIn K (.ref C6) "terms" = some none)
  (nf6x2 : findIn K (.ref C6) "address" = some none)
  (nf6x3 : findIn K (.ref C6) "word" = some none)
  (mm6x0 : mroIn K C6 (.ref C0) = some false)
  (mm6x1 : mroIn K C6 (.ref C1) = some false)
  (mm6x2 : mroIn K C6 (.ref C2) = some false)
  (mm6x3 : mroIn K C6 (.ref C3) = some false)
  (mm6x4 : mroIn K C6 (.ref C4) = some false)
  (mm6x5 : mroIn K C6 (.ref C5) = some false)
  (nf7x0 : findIn K (.ref C7) "address" = some none)
  (nf7x1 : findIn K (.ref C7) "rows" = some none)
  (u0x7 : findIn K (.ref C7) "__init__" = some (some (.ref g0)))
  (j0 : MI K g0 "__init__" "Part.__init__" cL)
  (u1x7 : findIn K (.ref C7) "bound" = some (some (.ref g1)))
  (j1 : MI K g1 "bound" "Part.bound" dJ)
  (u2x5 : findIn K (.ref C5) "binds" = some (some (.ref g2)))
  (u2x6 : findIn K (.ref C6) "binds" = some (some (.ref g2)))
  (j2 : MI K g2 "binds" "Row.binds" eZ)
  (u3x0 : findIn K (.ref C0) "__init__" = some (some (.ref g3)))
  (j3 : MI K g3 "__init__" "Let.__init__" cU)
  (u4x0 : findIn K (.ref C0) "binds" = some (some (.ref g4)))
  (j4 : MI K g4 "binds" "Let.binds" eY)
  (u5x1 : findIn K (.ref C1) "__init__" = some (some (.ref g5)))
  (j5 : MI K g5 "__init__" "Deed.__init__" cM)
  (u6x1 : findIn K (.ref C1) "binds" = some (some (.ref g6)))
  (j6 : MI K g6 "binds" "Deed.binds" dY)
  (u7x2 : findIn K (.ref C2) "__init__" = some (some (.ref g7)))
  (j7 : MI K g7 "__init__" "Draw.__init__" cJ)
  (u8x2 : findIn K (.ref C2) "binds" = some (some (.ref g8)))
  (j8 : MI K g8 "binds" "Draw.binds" dG)
  (u9x3 : findIn K (.ref C3) "__init__" = some (some (.ref g9)))
  (j9 : MI K g9 "__init__" "Late.__init__" cH)
  (u10x3 : findIn K (.ref C3) "binds" = some (some (.ref g10)))
  (j10 : MI K g10 "binds" "Late.binds" dZ)
  (u11x4 : findIn K (.ref C4) "__init__" = some (some (.ref g11)))
  (j11 : MI K g11 "__init__" "Take.__init__" cN)
  (u12x4 : findIn K (.ref C4) "binds" = some (some (.ref g12)))
  (j12 : MI K g12 "binds" "Take.binds" dF)
  (u13x5 : findIn K (.ref C5) "__init__" = some (some (.ref g13)))
  (j13 : MI K g13 "__init__" "Need.__init__" cI)
  (A20 : nsIn K mainGlobals "HouseError" = some (some (.ref C20)))
  (B20 : K.lookup C20 = some (excClassObj nm20 qn20 C20 N20 bs20 cA true sn20 sub20 ab20 col20 dd20 x020 x120 x220 x320 x520 "ValueError.__new__"))
  (X22 : XI K C20 C22 gx22 "NoText")
  (jx22 : MI K gx22 "__init__" "NoText.__init__" eU)
  (X31 : XI K C20 C31 gx31 "TooMany")
  (jx31 : MI K gx31 "__init__" "TooMany.__init__" fB)
  (X33 : XI K C20 C33 gx33 "Twice")
  (jx33 : MI K gx33 "__init__" "Twice.__init__" jC)
  (A21 : nsIn K mainGlobals "NoExpr" = some (some (.ref C21)))
  (B21 : gJ K C21 (.ref C20 :: cA))
  (A23 : nsIn K mainGlobals "Clash" = some (some (.ref C23)))
  (B23 : gJ K C23 (.ref C20 :: cA))
  (A24 : nsIn K mainGlobals "Double" = some (some (.ref C24)))
  (B24 : gJ K C24 (.ref C20 :: cA))
  (A25 : nsIn K mainGlobals "Fault" = some (some (.ref C25)))
  (B25 : gJ K C25 (.ref C20 :: cA))
  (A26 : nsIn K mainGlobals "NoDrop" = some (some (.ref C26)))
  (B26 : gJ K C26 (.ref C20 :: cA))
  (A27 : nsIn K mainGlobals "NoName" = some (some (.ref C27)))
  (B27 : gJ K C27 (.ref C20 :: cA))
  (A28 : nsIn K mainGlobals "NoPart" = some (some (.ref C28)))
  (B28 : gJ K C28 (.ref C20 :: cA))
  (A29 : nsIn K mainGlobals "NoRow" = some (some (.ref C29)))
  (B29 : gJ K C29 (.ref C20 :: cA))
  (A30 : nsIn K mainGlobals "Orphan" = some (some (.ref C30)))
  (B30 : gJ K C30 (.ref C20 :: cA))
  (A32 : nsIn K mainGlobals "TooWide" = some (some (.ref C32)))
  (B32 : gJ K C32 (.ref C20 :: cA))
  (iE : findIn K (.ref C21) "__init__" = some (some (.builtin "ValueError.__init__")))
  (kE : keepIn K (.ref C21) = true)
  (y1 : specialIn K (.ref C20) "__getattribute__" = some (some (.builtin "type.__getattribute__")))
  (y2 : readsIn K C20 (.type "type") = true)
  (y3 : findCls K (.ref C20) (.type "type") "__init__" = some (.val (.builtin "ValueError.__init__")))
  (NH : K.lookup N20 = some ⟨oN, dN, .dict esN nN, slN⟩)
  (SK : ou esN = true)
  (NI : nsFind esN "__init__" = none)
  (ND : [C20, C21, C22, C23, C24, C25, C26, C27, C28, C29, C30, C31, C32, C33].Nodup)
  (oi : findIn K (.ref C6) "__init__" = some (some (.builtin "object.__init__")))
  (cg : specialIn K (.builtin "object.__class__") "__get__" = some (some (.builtin "getset_descriptor.__get__")))
  (ctk : takesIn K (.builtin "object.__class__") = some true)
  (gc0 : nsIn K mainGlobals "LETTERS" = some (some (.str "abcdefghijklmnopqrstuvwxyz" tk0)))
  (gc1 : nsIn K mainGlobals "MOST_LETTERS" = some (some (.int 8 tk1)))
  (gc2 : nsIn K mainGlobals "MOST_NAMES" = some (some (.int 3 tk2)))
  (gc3 : nsIn K mainGlobals "FIGURES" = some (some (.str "0123456789" tk3)))
  (gc4 : nsIn K mainGlobals "MOST_FIGURES" = some (some (.int 20 tk4)))
  (gc5 : nsIn K mainGlobals "MOST_TERMS" = some (some (.int 6 tk5)))
  (gc6 : nsIn K mainGlobals "MOST_STEPS" = some (some (.int 4 tk6)))
  (gc7 : nsIn K mainGlobals "MOST_ROWS" = some (some (.int 12 tk7)))
  (z0 : nsIn K mainGlobals "any" = some none)
  (z1 : nsIn K mainGlobals "enumerate" = some none)
  (z2 : nsIn K mainGlobals "len" = some none)
  (z3 : nsIn K mainGlobals "range" = some none)
  (z4 : nsIn K mainGlobals "isinstance" = some none)
  (z5 : nsIn K mainGlobals "str" = some none)
  (z6 : nsIn K mainGlobals "int" = some none)
  (z7 : nsIn K mainGlobals "bool" = some none)
  (z8 : nsIn K mainGlobals "list" = some none)
  (z9 : nsIn K mainGlobals "tuple" = some none)
  (z10 : nsIn K mainGlobals "all" = some none)
  (z11 : nsIn K mainGlobals "max" = some none)
  (z12 : nsIn K mainGlobals "min" = some none)
  (z13 : nsIn K mainGlobals "zip" = some none)
  (z14 : nsIn K mainGlobals "ValueError" = some none) :
  ∃ fd : FuncData, (∀ (s : Shared) (v : Value), BindsTo s fd ⟨[v], []⟩ [("_law_script", v)]) /\ ∀ base : Heap, K.In base -> base.Ns mainGlobals mg -> aJ l.prog w K mg base CX0 12 fa fd ["_law_script"] (Ab K) := by
 have R0 : RCl K C0 := ⟨⟨D0.pg, D0.hd, D0.po, D0.sa⟩, D0.ca, cg, ctk, D0.mo⟩
 have R1 : RCl K C1 := ⟨⟨D1.pg, D1.hd, D1.po, D1.sa⟩, D1.ca, cg, ctk, D1.mo⟩
 have R2 : RCl K C2 := ⟨⟨D2.pg, D2.hd, D2.po, D2.sa⟩, D2.ca, cg, ctk, D2.mo⟩
 have R3 : RCl K C3 := ⟨⟨D3.pg, D3.hd, D3.po, D3.sa⟩, D3.ca, cg, ctk, D3.mo⟩
 have R4 : RCl K C4 := ⟨⟨D4.pg, D4.hd, D4.po, D4.sa⟩, D4.ca, cg, ctk, D4.mo⟩
 have R5 : RCl K C5 := ⟨⟨D5.pg, D5.hd, D5.po, D5.sa⟩, D5.ca, cg, ctk, D5.mo⟩
 have R6 : RCl K C6 := ⟨⟨D6.pg, D6.hd, D6.po, D6.sa⟩, D6.ca, cg, ctk, D6.mo⟩
 have R7 : RCl K C7 := ⟨⟨D7.pg, D7.hd, D7.po, D7.sa⟩, D7.ca, cg, ctk, D7.mo⟩
 have FM : Oz K (fun i => [C0, C1, C2, C3, C4, C5, C6, C7, 0, 0, 0, 0, 0, 0, 0, 0, 0, 0, 0, 0, C20, C21, C22, C23, C24, C25, C26, C27, C28, C29, C30, C31, C32, C33].getD i 0) := ⟨pB R0 R1 R2 R3 R4 R5 R6, fun i j h1 h2 => pB (p := fun i => ∀ j, j <= 6 -> kitOne K (.ref ([C0, C1, C2, C3, C4, C5, C6, C7, 0, 0, 0, 0, 0, 0, 0, 0, 0, 0, 0, 0, C20, C21, C22, C23, C24, C25, C26, C27, C28, C29, C30, C31, C32, C33].getD i 0)) (.ref ([C0, C1, C2, C3, C4, C5, C6, C7, 0, 0, 0, 0, 0, 0, 0, 0, 0, 0, 0, 0, C20, C21, C22, C23, C24, C25, C26, C27, C28, C29, C30, C31, C32, C33].getD j 0)) = some (FN i j)) (pB (aH D0.mm D0.mm D0.mo D0.ty) (aH mm0x1 D1.mm D1.mo D1.ty) (aH mm0x2 D2.mm D2.mo D2.ty) (aH mm0x3 D3.mm D3.mo D3.ty) (aH mm0x4 D4.mm D4.mo D4.ty) (aH mm0x5 D5.mm D5.mo D5.ty) (aH mm0x6 D6.mm D6.mo D6.ty)) (pB (aH mm1x0 D0.mm D0.mo D0.ty) (aH D1.mm D1.mm D1.mo D1.ty) (aH mm1x2 D2.mm D2.mo D2.ty) (aH mm1x3 D3.mm D3.mo D3.ty) (aH mm1x4 D4.mm D4.mo D4.ty) (aH mm1x5 D5.mm D5.mo D5.ty) (aH mm1x6 D6.mm D6.mo D6.ty)) (pB (aH mm2x0 D0.mm D0.mo D0.ty) (aH mm2x1 D1.mm D1.mo D1.ty) (aH D2.mm D2.mm D2.mo D2.ty) (aH mm2x3 D3.mm D3.mo D3.ty) (aH mm2x4 D4.mm D4.mo D4.ty) (aH mm2x5 D5.mm D5.mo D5.ty) (aH mm2x6 D6.mm D6.mo D6.ty)) (pB (aH mm3x0 D0.mm D0.mo D0.ty) (aH mm3x1 D1.mm D1.mo D1.ty) (aH mm3x2 D2.mm D2.mo D2.ty) (aH D3.mm D3.mm D3.mo D3.ty) (aH mm3x4 D4.mm D4.mo D4.ty) (aH mm3x5 D5.mm D5.mo D5.ty) (aH mm3x6 D6.mm D6.mo D6.ty)) (pB (aH mm4x0 D0.mm D0.mo D0.ty) (aH mm4x1 D1.mm D1.mo D1.ty) (aH mm4x2 D2.mm D2.mo D2.ty) (aH mm4x3 D3.mm D3.mo D3.ty) (aH D4.mm D4.mm D4.mo D4.ty) (aH mm4x5 D5.mm D5.mo D5.ty) (aH mm4x6 D6.mm D6.mo D6.ty)) (pB (aH mm5x0 D0.mm D0.mo D0.ty) (aH mm5x1 D1.mm D1.mo D1.ty) (aH mm5x2 D2.mm D2.mo D2.ty) (aH mm5x3 D3.mm D3.mo D3.ty) (aH mm5x4 D4.mm D4.mo D4.ty) (aH D5.mm D5.mm D5.mo D5.ty) (aH mm5x6 D6.mm D6.mo D6.ty)) (pB (aH mm6x0 D0.mm D0.mo D0.ty) (aH mm6x1 D1.mm D1.mo D1.ty) (aH mm6x2 D2.mm D2.mo D2.ty) (aH mm6x3 D3.mm D3.mo D3.ty) (aH mm6x4 D4.mm D4.mo D4.ty) (aH mm6x5 D5.mm D5.mo D5.ty) (aH D6.mm D6.mm D6.mo D6.ty)) i h1 j h2, pB nf0x0 nf1x0 nf2x0 nf3x0 nf4x0 nf5x0 nf6x0, pB nf0x1 nf1x1 nf2x1 nf3x1 nf4x1 nf5x1 nf6x1, pB nf0x2 nf1x2 nf2x2 nf3x2 nf4x2 nf5x2 nf6x2, pB nf0x3 nf1x3 nf2x3 nf3x3 nf4x3 nf5x3 nf6x3⟩
 have XF : Bd K (fun i => [C0, C1, C2, C3, C4, C5, C6, C7, 0, 0, 0, 0, 0, 0, 0, 0, 0, 0, 0, 0, C20, C21, C22, C23, C24, C25, C26, C27, C28, C29, C30, C31, C32, C33].getD i 0) := ⟨zF X22.l X22.e0 X22.e1 X22.e2 X22.e3 cg ctk, X22.e4, Je B21, yG X22.l, Ey (EY X22.l B20) (bL X22.l B21 (aQ ND (i := 1) (j := 0) rfl rfl Z0) (aQ ND (i := 1) (j := 2) rfl rfl Z0)) (vX X22.l) (bL X22.l B23 (aQ ND (i := 3) (j := 0) rfl rfl Z0) (aQ ND (i := 3) (j := 2) rfl rfl Z0)) (bL X22.l B24 (aQ ND (i := 4) (j := 0) rfl rfl Z0) (aQ ND (i := 4) (j := 2) rfl rfl Z0)) (bL X22.l B25 (aQ ND (i := 5) (j := 0) rfl rfl Z0) (aQ ND (i := 5) (j := 2) rfl rfl Z0)) (bL X22.l B26 (aQ ND (i := 6) (j := 0) rfl rfl Z0) (aQ ND (i := 6) (j := 2) rfl rfl Z0)) (bL X22.l B27 (aQ ND (i := 7) (j := 0) rfl rfl Z0) (aQ ND (i := 7) (j := 2) rfl rfl Z0)) (bL X22.l B28 (aQ ND (i := 8) (j := 0) rfl rfl Z0) (aQ ND (i := 8) (j := 2) rfl rfl Z0)) (bL X22.l B29 (aQ ND (i := 9) (j := 0) rfl rfl Z0) (aQ ND (i := 9) (j := 2) rfl rfl Z0)) (bL X22.l B30 (aQ ND (i := 10) (j := 0) rfl rfl Z0) (aQ ND (i := 10) (j := 2) rfl rfl Z0)) (bL X22.l X31.l (aQ ND (i := 11) (j := 0) rfl rfl Z0) (aQ ND (i := 11) (j := 2) rfl rfl Z0)) (bL X22.l B32 (aQ ND (i := 12) (j := 0) rfl rfl Z0) (aQ ND (i := 12) (j := 2) rfl rfl Z0)) (bL X22.l X33.l (aQ ND (i := 13) (j := 0) rfl rfl Z0) (aQ ND (i := 13) (j := 2) rfl rfl Z0)), G4 X22.l⟩
 have XO31 : uK K (fun i => [C0, C1, C2, C3, C4, C5, C6, C7, 0, 0, 0, 0, 0, 0, 0, 0, 0, 0, 0, 0, C20, C21, C22, C23, C24, C25, C26, C27, C28, C29, C30, C31, C32, C33].getD i 0) 31 := ⟨zF X31.l X31.e0 X31.e1 X31.e2 X31.e3 cg ctk, X31.e4, yG X31.l, Ey (EY X31.l B20) (bL X31.l B21 (aQ ND (i := 1) (j := 0) rfl rfl Z0) (aQ ND (i := 1) (j := 11) rfl rfl Z0)) (bL X31.l X22.l (aQ ND (i := 2) (j := 0) rfl rfl Z0) (aQ ND (i := 2) (j := 11) rfl rfl Z0)) (bL X31.l B23 (aQ ND (i := 3) (j := 0) rfl rfl Z0) (aQ ND (i := 3) (j := 11) rfl rfl Z0)) (bL X31.l B24 (aQ ND (i := 4) (j := 0) rfl rfl Z0) (aQ ND (i := 4) (j := 11) rfl rfl Z0)) (bL X31.l B25 (aQ ND (i := 5) (j := 0) rfl rfl Z0) (aQ ND (i := 5) (j := 11) rfl rfl Z0)) (bL X31.l B26 (aQ ND (i := 6) (j := 0) rfl rfl Z0) (aQ ND (i := 6) (j := 11) rfl rfl Z0)) (bL X31.l B27 (aQ ND (i := 7) (j := 0) rfl rfl Z0) (aQ ND (i := 7) (j := 11) rfl rfl Z0)) (bL X31.l B28 (aQ ND (i := 8) (j := 0) rfl rfl Z0) (aQ ND (i := 8) (j := 11) rfl rfl Z0)) (bL X31.l B29 (aQ ND (i := 9) (j := 0) rfl rfl Z0) (aQ ND (i := 9) (j := 11) rfl rfl Z0)) (bL X31.l B30 (aQ ND (i := 10) (j := 0) rfl rfl Z0) (aQ ND (i := 10) (j := 11) rfl rfl Z0)) (vX X31.l) (bL X31.l B32 (aQ ND (i := 12) (j := 0) rfl rfl Z0) (aQ ND (i := 12) (j := 11) rfl rfl Z0)) (bL X31.l X33.l (aQ ND (i := 13) (j := 0) rfl rfl Z0) (aQ ND (i := 13) (j := 11) rfl rfl Z0)), G4 X31.l⟩
 have XO33 : uK K (fun i => [C0, C1, C2, C3, C4, C5, C6, C7, 0, 0, 0, 0, 0, 0, 0, 0, 0, 0, 0, 0, C20, C21, C22, C23, C24, C25, C26, C27, C28, C29, C30, C31, C32, C33].getD i 0) 33 := ⟨zF X33.l X33.e0 X33.e1 X33.e2 X33.e3 cg ctk, X33.e4, yG X33.l, Ey (EY X33.l B20) (bL X33.l B21 (aQ ND (i := 1) (j := 0) rfl rfl Z0) (aQ ND (i := 1) (j := 13) rfl rfl Z0)) (bL X33.l X22.l (aQ ND (i := 2) (j := 0) rfl rfl Z0) (aQ ND (i := 2) (j := 13) rfl rfl Z0)) (bL X33.l B23 (aQ ND (i := 3) (j := 0) rfl rfl Z0) (aQ ND (i := 3) (j := 13) rfl rfl Z0)) (bL X33.l B24 (aQ ND (i := 4) (j := 0) rfl rfl Z0) (aQ ND (i := 4) (j := 13) rfl rfl Z0)) (bL X33.l B25 (aQ ND (i := 5) (j := 0) rfl rfl Z0) (aQ ND (i := 5) (j := 13) rfl rfl Z0)) (bL X33.l B26 (aQ ND (i := 6) (j := 0) rfl rfl Z0) (aQ ND (i := 6) (j := 13) rfl rfl Z0)) (bL X33.l B27 (aQ ND (i := 7) (j := 0) rfl rfl Z0) (aQ ND (i := 7) (j := 13) rfl rfl Z0)) (bL X33.l B28 (aQ ND (i := 8) (j := 0) rfl rfl Z0) (aQ ND (i := 8) (j := 13) rfl rfl Z0)) (bL X33.l B29 (aQ ND (i := 9) (j := 0) rfl rfl Z0) (aQ ND (i := 9) (j := 13) rfl rfl Z0)) (bL X33.l B30 (aQ ND (i := 10) (j := 0) rfl rfl Z0) (aQ ND (i := 10) (j := 13) rfl rfl Z0)) (bL X33.l X31.l (aQ ND (i := 11) (j := 0) rfl rfl Z0) (aQ ND (i := 11) (j := 13) rfl rfl Z0)) (bL X33.l B32 (aQ ND (i := 12) (j := 0) rfl rfl Z0) (aQ ND (i := 12) (j := 13) rfl rfl Z0)) (vX X33.l), G4 X33.l⟩
 have EX : ∀ {C : Addr}, gJ K C (.ref C20 :: cA) -> ExC K C := fun {C} l => by
  obtain ⟨_, _, _, _, _, _, _, _, _, _, _, _, _, _, l⟩ := l
  exact Ik B20 NH SK NI l
 have IX22 : ∃ f fd, XIn K C22 "NoText.__init__" eU cC f fd := by
  obtain ⟨⟨fd, F⟩, i1, i2⟩ := jx22
  exact ⟨gx22, fd, F, F.binds ba2, X22.e5, i1, X22.kp, Z0⟩
 have IX31 : ∃ f fd, XIn K C31 "TooMany.__init__" fB fG f fd := by
  obtain ⟨⟨fd, F⟩, i1, i2⟩ := jx31
  exact ⟨gx31, fd, F, F.binds ba2, X31.e5, i1, X31.kp, Z0⟩
 have IX33 : ∃ f fd, XIn K C33 "Twice.__init__" jC jq f fd := by
  obtain ⟨⟨fd, F⟩, i1, i2⟩ := jx33
  exact ⟨gx33, fd, F, F.binds ba2, X33.e5, i1, X33.kp, Z0⟩
 have TT : Tx K mg (fun i => [C0, C1, C2, C3, C4, C5, C6, C7, 0, 0, 0, 0, 0, 0, 0, 0, 0, 0, 0, 0, C20, C21, C22, C23, C24, C25, C26, C27, C28, C29, C30, C31, C32, C33].getD i 0) := ⟨mg_none_of X G z0, mg_none_of X G z1, mg_none_of X G z2, mg_none_of X G z3, mg_none_of X G z4, mg_none_of X G z5, mg_none_of X G z6, mg_none_of X G z7, mg_none_of X G z8, mg_none_of X G z9, mg_none_of X G z10, mg_none_of X G z11, mg_none_of X G z12, mg_none_of X G z13, mg_none_of X G z14, ⟨_, mg_of X G gc0⟩, ⟨_, mg_of X G gc1⟩, ⟨_, mg_of X G gc2⟩, ⟨_, mg_of X G gc3⟩, ⟨_, mg_of X G gc4⟩, ⟨_, mg_of X G gc5⟩, ⟨_, mg_of X G gc6⟩, ⟨_, mg_of X G gc7⟩, fat X G ba1 h0, fat X G ba2 h1, fat X G ba1 h2, fat X G ba1 h3, fat X G ba1 h4, fat X G ba2 h5, fat X G ba1 h6, fat X G ba1 h7, fat X G ba1 h8, fat X G ba1 h9, fat X G ba1 h10, fat X G ba1 h11, fat X G ba2 h12, fat X G ba2 h13, fat X G ba1 h14, fat X G ba2 h15, fat X G ba1 h16, fat X G ba1 h17, fat X G ba2 h18, fat X G ba2 h19, fat X G ba3 h20, fat X G ba2 h21, fat X G ba1 h22, fat X G ba1 h23, fat X G ba1 h24, fat X G ba2 h25, fat X G ba2 h26, fat X G ba1 h27, fat X G ba1 h28, oR ba3 j0 fun i k => ⟨D7.mq, u0x7, i, D7.kc⟩, oR ba1 j1 fun i k => ⟨u1x7, i, k⟩, oR ba1 j2 fun i k => ⟨⟨u2x5, i, k⟩, ⟨u2x6, i, k⟩⟩, oR ba3 j3 fun i k => ⟨D0.mq, u3x0, i, D0.kc⟩, oR ba1 j4 fun i k => ⟨u4x0, i, k⟩, oR ba3 j5 fun i k => ⟨D1.mq, u5x1, i, D1.kc⟩, oR ba1 j6 fun i k => ⟨u6x1, i, k⟩, oR ba3 j7 fun i k => ⟨D2.mq, u7x2, i, D2.kc⟩, oR ba1 j8 fun i k => ⟨u8x2, i, k⟩, oR ba3 j9 fun i k => ⟨D3.mq, u9x3, i, D3.kc⟩, oR ba1 j10 fun i k => ⟨u10x3, i, k⟩, oR ba4 j11 fun i k => ⟨D4.mq, u11x4, i, D4.kc⟩, oR ba1 j12 fun i k => ⟨u12x4, i, k⟩, oR ba2 j13 fun i k => ⟨D5.mq, u13x5, i, D5.kc⟩, mg_of X G D0.A, mg_of X G D1.A, mg_of X G D2.A, mg_of X G D3.A, mg_of X G D4.A, mg_of X G D5.A, mg_of X G D6.A, mg_of X G D7.A, ⟨D6.mq, oi, D6.kc⟩, FM, ⟨R7, nf7x0, nf7x1, aH D7.mm D7.mm D7.mo D7.ty⟩, mg_of X G A20, mg_of X G A21, mg_of X G X22.A, mg_of X G A23, mg_of X G A24, mg_of X G A25, mg_of X G A26, mg_of X G A27, mg_of X G A28, mg_of X G A29, mg_of X G A30, mg_of X G X31.A, mg_of X G A32, mg_of X G X33.A, Ld B20, EX B21, EX X22.l, XF, iE, kE, IX22, EX X31.l, EX X33.l, XO31, XO33, IX31, IX33, y1, y2, y3⟩
 obtain ⟨f, fd, a, F⟩ := h29
 cases hfa.symm.trans (mg_of X G a)
 obtain ⟨oc, od, kV, doc, pm, an, cdv, ct, osl, rfl, lk, hcd⟩ := id F.ex
 exact ⟨_, fun s v => .of_eq rfl, fun base _ _ => M8 TT F⟩
theorem walk {l : OpenLaw} {q : Program} {loose : List Str} {XP : (Str -> Option Value) -> Heap -> Prop} {YP : World -> Heap -> Prop} {d : DefRec} {K : Params -> Frag} (hn : l.most = some 63) (hdf : d.params.defaults = [])
  (hY : ∀ (w : World) (h : Heap), YP w h -> (K w.params).In h)
  (F : ∀ (w : World) (mg : MG) (fa : Addr) (h : Heap), (K w.params).In h -> h.Ns mainGlobals mg -> mg d.name = some (.ref fa) ->
   ∃ fd : FuncData, (∀ (s : Shared) (u : Value), BindsTo s fd ⟨[u], []⟩ [("_law_script", u)]) /\ ∀ base : Heap, (K w.params).In base -> base.Ns mainGlobals mg -> aJ l.prog w (K w.params) mg base CX0 12 fa fd ["_law_script"] (Ab (K w.params))) :
  WalkO q loose XP YP l.row.toRowW d [] (fun f vs => PySem.call f vs) :=
 L2.Ht (n := 63) (k := 12) (x := "_law_script") (CX := fun _ => CX0) (sp := fun w => Ab (K w.params)) hn Z0 hdf ⟨rfl, Z0, Z0⟩ hY F (fun _ _ a ns hl _ hS => ⟨a, ns, rfl, hS, hl, fun _ => rfl⟩) fun _ _ _ _ _ z => z
noncomputable section
noncomputable abbrev ke (P : Params) (x : Str) (t : Nat) (v : Value) : DictEntry := ⟨PyData.keyHash P x, .str x t, v⟩
noncomputable abbrev nq (b : Bool) (o : Obj) : Str := match o.data with | .fields a => (match a.toList with | .str n _ :: .str q _ :: _ => bif b then n else q | _ => "") | _ => ""
noncomputable abbrev kf (s : Stmt) (s0 : Obj) (m : Value) (c : Nat) : Obj := { cls := .type "function", data := .func { name := nq true s0, qualname := nq false s0, params := L2.cG s, body := .stmts (L2.bQ s), scope := L2.az s, globals := 3, closure := [], defaults := .none, kwdefaults := .none, pyModule := m, code := .ref c } }
noncomputable abbrev kc (n q : Str) (a b c : Nat) (l k : Int) (f r : Nat) (t : Bool) (g : Int) (u : Nat) (x y z : Value) (v : Nat) (m : Int) (e : Nat) : Obj := { cls := .type "code", data := .fields #[.str n a, .str q b, .str "/claim/cut.py" c, .int l 0, .int k 0, .int 0 0, .int 0 0, .int f 0, .ref r, .bool t, .int g 0, .ref u, x, y, z, .ref v, .int m 0, .int l 0, .str "/claim/cut.py" e] }
noncomputable abbrev kt (n : Str) (b s : Value) (m : List Value) (d : Nat) (x : Option Value) (t u : Nat) (w : String) (l : List Value) : Obj := { cls := .type "type", data := .cls { name := n, bases := [b], mro := s :: m, ns := d, qualname := n, subclasses := l }, slots := #[x, none, some (.str n t), some (.str n u), some (.builtin w), some (.bool true)] }
noncomputable abbrev kd (n q : Str) (a : Nat) (l k : Int) (f r m : Nat) : Obj := kc n q a (a + 1) (a + 2) l k f r true 181 (r + 1) .none (.ref (r + 2)) (.ref (r + 3)) (r + 4) m (m + 1)
noncomputable abbrev kb (n q : Str) (a : Nat) (l k : Int) (f r m : Nat) : Obj := kc n q a (a + 1) (a + 2) l k f r true 181 (r + 1) .none .none .none (r + 2) m (m + 1)
noncomputable abbrev ku (n : Str) (a : Nat) (l k : Int) (f r m : Nat) : Obj := kd n n a l k f r m
noncomputable abbrev kv (n : Str) (a : Nat) (l k : Int) (f r m : Nat) : Obj := kb n n a l k f r m
noncomputable abbrev g1 (t a : Nat) : Obj := { cls := .type "getset_descriptor", data := .fields #[.str "__dict__" t, .ref a, .builtin "function.__dict__", .builtin "function.__dict__#set"] }
noncomputable abbrev g2 (t a : Nat) : Obj := { cls := .type "getset_descriptor", data := .fields #[.str "__weakref__" t, .ref a, .builtin "ExceptionGroup.__weakref__", .none] }
abbrev mE : List Value := [.type "ValueError", .type "Exception", .type "BaseException", .type "object"]
abbrev mO : List Value := [.type "object"]
noncomputable abbrev ks (P : Params) (t r : Nat) : DictEntry := ke P "__static_attributes__" t (.ref r)
noncomputable abbrev kw (P : Params) (t r : Nat) : DictEntry := ke P "__weakref__" t (.ref r)
noncomputable abbrev kx (P : Params) (t r : Nat) : DictEntry := ke P "__dict__" t (.ref r)
noncomputable abbrev ki (P : Params) (t r : Nat) : DictEntry := ke P "__init__" t (.ref r)
noncomputable abbrev ko (P : Params) (t : Nat) : DictEntry := ke P "__doc__" t .none
noncomputable abbrev kz (P : Params) (m : Value) (a : Nat) (l : Int) (r : List DictEntry) (k : Nat) : Obj := { cls := .type "dict", data := .dict (List.toArray (ke P "__module__" a m :: ke P "__firstlineno__" (a + 4) (.int l (a + 3)) :: r)) k }
abbrev Mi : Value := .str "__main__" 164
abbrev bM : Value := .str "drawhouse.errors" 194
abbrev KJ : Value := .str "drawhouse.words" 527
abbrev xJ : Value := .str "drawhouse.exprs" 554
abbrev yO : Value := .str "drawhouse.parts" 628
abbrev bY : Value := .str "drawhouse.rows" 681
abbrev vo : Value := .str "drawhouse.reader" 984
abbrev kW : Value := .str "law_drawhouse_k25_the_first_wrong_row" 1063
abbrev n0 (P : Params) (r : List DictEntry) : List DictEntry := ke P "__doc__" 166 .none :: ke P "__package__" 167 .none :: ke P "__loader__" 168 (.builtin "__main__.__loader__#opaque") :: ke P "__spec__" 169 .none :: ke P "__annotations__" 170 (.ref 6) :: ke P "__builtins__" 171 (.ref 4) :: ke P "__file__" 173 (.str "/claim/cut.py" 172) :: ke P "__cached__" 174 .none :: ke P "_wall" 193 (.ref 21) :: ke P "HouseError" 213 (.ref 31) :: ke P "NoExpr" 229 (.ref 44) :: ke P "TooWide" 245 (.ref 56) :: ke P "NoText" 270 (.ref 75) :: ke P "TooMany" 295 (.ref 94) :: ke P "Twice" 320 (.ref 113) :: r
abbrev n1 (P : Params) (r : List DictEntry) : List DictEntry := ke P "Double" 345 (.ref 132) :: ke P "Orphan" 370 (.ref 151) :: ke P "Clash" 395 (.ref 170) :: ke P "NoRow" 420 (.ref 189) :: ke P "NoPart" 445 (.ref 208) :: ke P "NoDrop" 470 (.ref 227) :: r
abbrev n2 (P : Params) (r : List DictEntry) : List DictEntry := ke P "NoName" 495 (.ref 246) :: ke P "Fault" 526 (.ref 265) :: ke P "LETTERS" 530 (.str "abcdefghijklmnopqrstuvwxyz" 529) :: ke P "MOST_LETTERS" 532 (.int 8 531) :: ke P "MOST_NAMES" 534 (.int 3 533) :: ke P "is_name" 540 (.ref 272) :: ke P "are_names" 546 (.ref 277) :: ke P "is_address" 553 (.ref 284) :: ke P "FIGURES" 557 (.str "0123456789" 556) :: ke P "MOST_FIGURES" 559 (.int 20 558) :: ke P "MOST_TERMS" 561 (.int 6 560) :: ke P "MOST_STEPS" 563 (.int 4 562) :: ke P "is_number" 569 (.ref 289) :: ke P "read_path" 576 (.ref 296) :: ke P "read_term" 584 (.ref 303) :: ke P "read_sign" 591 (.ref 310) :: ke P "read_expr" 601 (.ref 317) :: ke P "show_term" 610 (.ref 324) :: ke P "show_expr" 621 (.ref 331) :: ke P "has_call" 627 (.ref 336) :: ke P "Part" 680 (.ref 370) :: ke P "Row" 723 (.ref 405) :: r
abbrev n3 (P : Params) (r : List DictEntry) : List DictEntry := ke P "Let" 764 (.ref 440) :: ke P "Deed" 805 (.ref 473) :: ke P "Draw" 853 (.ref 513) :: ke P "Late" 901 (.ref 553) :: r
abbrev n4 (P : Params) (r : List DictEntry) : List DictEntry := ke P "Take" 951 (.ref 593) :: ke P "Need" 983 (.ref 619) :: ke P "MOST_ROWS" 987 (.int 12 986) :: ke P "names_expr" 994 (.ref 628) :: ke P "names_address" 1001 (.ref 635) :: ke P "names_word" 1008 (.ref 642) :: ke P "terms_from" 1016 (.ref 649) :: ke P "deed_of" 1024 (.ref 656) :: ke P "row_of" 1032 (.ref 663) :: ke P "row_at" 1041 (.ref 670) :: ke P "read_head" 1049 (.ref 677) :: ke P "read_part" 1062 (.ref 684) :: ke P "_law_cell" 1072 (.ref 691) :: ke P "_law_sub" 1080 (.ref 698) :: ke P "_law_pick" 1092 (.ref 705) :: ke P "_law_names" 1098 (.ref 710) :: ke P "_law_whole" 1105 (.ref 717) :: ke P "_law_what" 1114 (.ref 724) :: ke P "_law_told" 1122 (.ref 731) :: ke P "_law_plain" 1135 (.ref 738) :: ke P "_law_none" 1144 (.ref 745) :: ke P "_law_due" 1152 (.ref 752) :: ke P "_law_right" 1158 (.ref 757) :: ke P "law" 1169 (.ref 764) :: r
abbrev k3 (P : Params) : Obj := { cls := .type "dict", data := .dict (List.toArray (ke P "__name__" 165 (.str "law_drawhouse_k25_the_first_wrong_row" 1063) :: n0 P (n1 P (n2 P (n3 P (n4 P ([]))))))) 72 }
abbrev k20 := ku "_wall" 187 1 1 3 15 191
abbrev k21 := kf (Mine.top 0) k20 Mi 20
abbrev k30 (P : Params) : Obj := kz P bM 203 5 [ks P 208 29, kw P 210 32, ko P 211] 3
abbrev k31 := kt "HouseError" (.type "ValueError") (.ref 31) mE 30 (some (.ref 22)) 196 204 "ValueError.__new__" [.ref 44, .ref 56, .ref 75, .ref 94, .ref 113, .ref 132, .ref 151, .ref 170, .ref 189, .ref 208, .ref 227, .ref 246, .ref 265]
abbrev k32 := g2 209 31
abbrev k43 (P : Params) : Obj := kz P bM 221 7 [ks P 226 42, ko P 227] 2
abbrev k44 := kt "NoExpr" (.ref 31) (.ref 44) (.ref 31 :: mE) 43 (some (.ref 35)) 214 222 "ValueError.__new__" []
abbrev k55 (P : Params) : Obj := kz P bM 237 9 [ks P 242 54, ko P 243] 2
abbrev k56 := kt "TooWide" (.ref 31) (.ref 56) (.ref 31 :: mE) 55 (some (.ref 47)) 230 238 "ValueError.__new__" []
abbrev k71 := kd "__init__" "NoText.__init__" 258 13 2 3 66 263
abbrev k72 := kf (Mine.sb 5 0) k71 bM 71
abbrev k74 (P : Params) : Obj := kz P bM 253 11 [ki P 265 72, ks P 267 73, ko P 268] 2
abbrev k75 := kt "NoText" (.ref 31) (.ref 75) (.ref 31 :: mE) 74 (some (.ref 59)) 246 254 "ValueError.__new__" []
abbrev k90 := kd "__init__" "TooMany.__init__" 283 18 2 3 85 288
abbrev k91 := kf (Mine.sb 6 0) k90 bM 90
abbrev k93 (P : Params) : Obj := kz P bM 278 16 [ki P 290 91, ks P 292 92, ko P 293] 2
abbrev k94 := kt "TooMany" (.ref 31) (.ref 94) (.ref 31 :: mE) 93 (some (.ref 78)) 271 279 "ValueError.__new__" []
abbrev k109 := kd "__init__" "Twice.__init__" 308 23 2 3 104 313
abbrev k110 := kf (Mine.sb 7 0) k109 bM 109
abbrev k112 (P : Params) : Obj := kz P bM 303 21 [ki P 315 110, ks P 317 111, ko P 318] 2
abbrev k113 := kt "Twice" (.ref 31) (.ref 113) (.ref 31 :: mE) 112 (some (.ref 97)) 296 304 "ValueError.__new__" []
abbrev k128 := kd "__init__" "Double.__init__" 333 28 2 3 123 338
abbrev k129 := kf (Mine.sb 8 0) k128 bM 128
abbrev k131 (P : Params) : Obj := kz P bM 328 26 [ki P 340 129, ks P 342 130, ko P 343] 2
abbrev k132 := kt "Double" (.ref 31) (.ref 132) (.ref 31 :: mE) 131 (some (.ref 116)) 321 329 "ValueError.__new__" []
abbrev k147 := kd "__init__" "Orphan.__init__" 358 33 2 3 142 363
abbrev k148 := kf (Mine.sb 9 0) k147 bM 147
abbrev k150 (P : Params) : Obj := kz P bM 353 31 [ki P 365 148, ks P 367 149, ko P 368] 2
abbrev k151 := kt "Orphan" (.ref 31) (.ref 151) (.ref 31 :: mE) 150 (some (.ref 135)) 346 354 "ValueError.__new__" []
abbrev k166 := kd "__init__" "Clash.__init__" 383 38 2 3 161 388
abbrev k167 := kf (Mine.sb 10 0) k166 bM 166
abbrev k169 (P : Params) : Obj := kz P bM 378 36 [ki P 390 167, ks P 392 168, ko P 393] 2
abbrev k170 := kt "Clash" (.ref 31) (.ref 170) (.ref 31 :: mE) 169 (some (.ref 154)) 371 379 "ValueError.__new__" []
abbrev k185 := kd "__init__" "NoRow.__init__" 408 43 2 3 180 413
abbrev k186 := kf (Mine.sb 11 0) k185 bM 185
abbrev k188 (P : Params) : Obj := kz P bM 403 41 [ki P 415 186, ks P 417 187, ko P 418] 2
abbrev k189 := kt "NoRow" (.ref 31) (.ref 189) (.ref 31 :: mE) 188 (some (.ref 173)) 396 404 "ValueError.__new__" []
abbrev k204 := kd "__init__" "NoPart.__init__" 433 48 2 3 199 438
abbrev k205 := kf (Mine.sb 12 0) k204 bM 204
abbrev k207 (P : Params) : Obj := kz P bM 428 46 [ki P 440 205, ks P 442 206, ko P 443] 2
abbrev k208 := kt "NoPart" (.ref 31) (.ref 208) (.ref 31 :: mE) 207 (some (.ref 192)) 421 429 "ValueError.__new__" []
abbrev k223 := kd "__init__" "NoDrop.__init__" 458 53 2 3 218 463
abbrev k224 := kf (Mine.sb 13 0) k223 bM 223
abbrev k226 (P : Params) : Obj := kz P bM 453 51 [ki P 465 224, ks P 467 225, ko P 468] 2
abbrev k227 := kt "NoDrop" (.ref 31) (.ref 227) (.ref 31 :: mE) 226 (some (.ref 211)) 446 454 "ValueError.__new__" []
abbrev k242 := kd "__init__" "NoName.__init__" 483 58 2 3 237 488
abbrev k243 := kf (Mine.sb 14 0) k242 bM 242
abbrev k245 (P : Params) : Obj := kz P bM 478 56 [ki P 490 243, ks P 492 244, ko P 493] 2
abbrev k246 := kt "NoName" (.ref 31) (.ref 246) (.ref 31 :: mE) 245 (some (.ref 230)) 471 479 "ValueError.__new__" []
abbrev k261 := kd "__init__" "Fault.__init__" 508 63 5 3 256 516
abbrev k262 := kf (Mine.sb 15 0) k261 bM 261
abbrev k264 (P : Params) : Obj := kz P bM 503 61 [ki P 518 262, ks P 523 263, ko P 524] 2
abbrev k265 := kt "Fault" (.ref 31) (.ref 265) (.ref 31 :: mE) 264 (some (.ref 249)) 496 504 "ValueError.__new__" []
abbrev k271 := kv "is_name" 535 73 1 3 268 538
abbrev k272 := kf (Mine.top 20) k271 KJ 271
abbrev k276 := kv "are_names" 541 79 2 3 273 544
abbrev k277 := kf (Mine.top 21) k276 KJ 276
abbrev k283 := ku "is_address" 547 82 1 3 278 551
abbrev k284 := kf (Mine.top 22) k283 KJ 283
abbrev k288 := kv "is_number" 564 89 1 3 285 567
abbrev k289 := kf (Mine.top 28) k288 xJ 288
abbrev k295 := ku "read_path" 570 95 1 3 290 574
abbrev k296 := kf (Mine.top 29) k295 xJ 295
abbrev k302 := ku "read_term" 577 99 2 3 297 582
abbrev k303 := kf (Mine.top 30) k302 xJ 302
abbrev k309 := ku "read_sign" 585 105 1 3 304 589
abbrev k310 := kf (Mine.top 31) k309 xJ 309
abbrev k316 := ku "read_expr" 592 111 1 3 311 599
abbrev k317 := kf (Mine.top 32) k316 xJ 316
abbrev k323 := ku "show_term" 602 123 2 3 318 608
abbrev k324 := kf (Mine.top 33) k323 xJ 323
abbrev k330 := ku "show_expr" 611 130 1 3 325 619
abbrev k331 := kf (Mine.top 34) k330 xJ 330
abbrev k335 := kv "has_call" 622 137 1 3 332 625
abbrev k336 := kf (Mine.top 35) k335 xJ 335
abbrev k349 := kd "__init__" "Part.__init__" 642 142 3 3 344 648
abbrev k350 := kf (Mine.sb 37 0) k349 yO 349
abbrev k354 := kb "bound" "Part.bound" 651 146 1 3 351 654
abbrev k355 := kf (Mine.sb 37 1) k354 yO 354
abbrev k361 := kd "place_of" "Part.place_of" 657 150 2 3 356 662
abbrev k362 := kf (Mine.sb 37 2) k361 yO 361
abbrev k366 := kb "text" "Part.text" 665 153 1 3 363 668
abbrev k367 := kf (Mine.sb 37 3) k366 yO 366
abbrev k369 (P : Params) : Obj := kz P yO 637 140 [ki P 650 350, ke P "bound" 656 (.ref 355), ke P "place_of" 664 (.ref 362), ke P "text" 670 (.ref 367), ks P 673 368, kx P 675 371, kw P 677 372, ko P 678] 4
abbrev k370 := kt "Part" (.type "object") (.ref 370) mO 369 none 630 638 "object.__new__" []
abbrev k371 := g1 674 370
abbrev k372 := g2 676 370
abbrev k387 := kd "binds" "Row.binds" 695 158 1 3 382 699
abbrev k388 := kf (Mine.sb 39 0) k387 bY 387
abbrev k394 := kd "asked" "Row.asked" 702 161 1 3 389 706
abbrev k395 := kf (Mine.sb 39 1) k394 bY 394
abbrev k401 := kd "said" "Row.said" 709 164 1 3 396 713
abbrev k402 := kf (Mine.sb 39 2) k401 bY 401
abbrev k404 (P : Params) : Obj := kz P bY 690 156 [ke P "binds" 701 (.ref 388), ke P "asked" 708 (.ref 395), ke P "said" 715 (.ref 402), ks P 716 403, kx P 718 406, kw P 720 407, ko P 721] 4
abbrev k405 := kt "Row" (.type "object") (.ref 405) mO 404 none 683 691 "object.__new__" [.ref 440, .ref 473, .ref 513, .ref 553, .ref 593, .ref 619]
abbrev k406 := g1 717 405
abbrev k407 := g2 719 405
abbrev k422 := kd "__init__" "Let.__init__" 736 168 3 3 417 742
abbrev k423 := kf (Mine.sb 40 0) k422 bY 422
abbrev k429 := kd "binds" "Let.binds" 745 172 1 3 424 749
abbrev k430 := kf (Mine.sb 40 1) k429 bY 429
abbrev k436 := kd "said" "Let.said" 752 175 1 3 431 756
abbrev k437 := kf (Mine.sb 40 2) k436 bY 436
abbrev k439 (P : Params) : Obj := kz P bY 731 166 [ki P 744 423, ke P "binds" 751 (.ref 430), ke P "said" 758 (.ref 437), ks P 761 438, ko P 762] 2
abbrev k440 := kt "Let" (.ref 405) (.ref 440) (.ref 405 :: mO) 439 (some (.ref 410)) 724 732 "object.__new__" []
abbrev k455 := kd "__init__" "Deed.__init__" 777 179 3 3 450 783
abbrev k456 := kf (Mine.sb 41 0) k455 bY 455
abbrev k462 := kd "binds" "Deed.binds" 786 183 1 3 457 790
abbrev k463 := kf (Mine.sb 41 1) k462 bY 462
abbrev k469 := kd "said" "Deed.said" 793 186 1 3 464 797
abbrev k470 := kf (Mine.sb 41 2) k469 bY 469
abbrev k472 (P : Params) : Obj := kz P bY 772 177 [ki P 785 456, ke P "binds" 792 (.ref 463), ke P "said" 799 (.ref 470), ks P 802 471, ko P 803] 2
abbrev k473 := kt "Deed" (.ref 405) (.ref 473) (.ref 405 :: mO) 472 (some (.ref 443)) 765 773 "object.__new__" []
abbrev k488 := kd "__init__" "Draw.__init__" 818 190 3 3 483 824
abbrev k489 := kf (Mine.sb 42 0) k488 bY 488
abbrev k495 := kd "binds" "Draw.binds" 827 194 1 3 490 831
abbrev k496 := kf (Mine.sb 42 1) k495 bY 495
abbrev k502 := kd "asked" "Draw.asked" 834 197 1 3 497 838
abbrev k503 := kf (Mine.sb 42 2) k502 bY 502
abbrev k509 := kd "said" "Draw.said" 841 200 1 3 504 845
abbrev k510 := kf (Mine.sb 42 3) k509 bY 509
abbrev k512 (P : Params) : Obj := kz P bY 813 188 [ki P 826 489, ke P "binds" 833 (.ref 496), ke P "asked" 840 (.ref 503), ke P "said" 847 (.ref 510), ks P 850 511, ko P 851] 2
abbrev k513 := kt "Draw" (.ref 405) (.ref 513) (.ref 405 :: mO) 512 (some (.ref 476)) 806 814 "object.__new__" []
abbrev k528 := kd "__init__" "Late.__init__" 866 204 3 3 523 872
abbrev k529 := kf (Mine.sb 43 0) k528 bY 528
abbrev k535 := kd "binds" "Late.binds" 875 208 1 3 530 879
abbrev k536 := kf (Mine.sb 43 1) k535 bY 535
abbrev k542 := kd "asked" "Late.asked" 882 211 1 3 537 886
abbrev k543 := kf (Mine.sb 43 2) k542 bY 542
abbrev k549 := kd "said" "Late.said" 889 214 1 3 544 893
abbrev k550 := kf (Mine.sb 43 3) k549 bY 549
abbrev k552 (P : Params) : Obj := kz P bY 861 202 [ki P 874 529, ke P "binds" 881 (.ref 536), ke P "asked" 888 (.ref 543), ke P "said" 895 (.ref 550), ks P 898 551, ko P 899] 2
abbrev k553 := kt "Late" (.ref 405) (.ref 553) (.ref 405 :: mO) 552 (some (.ref 516)) 854 862 "object.__new__" []
abbrev k568 := kd "__init__" "Take.__init__" 914 218 4 3 563 921
abbrev k569 := kf (Mine.sb 44 0) k568 bY 568
abbrev k575 := kd "binds" "Take.binds" 924 223 1 3 570 928
abbrev k576 := kf (Mine.sb 44 1) k575 bY 575
abbrev k582 := kd "asked" "Take.asked" 931 226 1 3 577 935
abbrev k583 := kf (Mine.sb 44 2) k582 bY 582
abbrev k589 := kd "said" "Take.said" 938 229 1 3 584 942
abbrev k590 := kf (Mine.sb 44 3) k589 bY 589
abbrev k592 (P : Params) : Obj := kz P bY 909 216 [ki P 923 569, ke P "binds" 930 (.ref 576), ke P "asked" 937 (.ref 583), ke P "said" 944 (.ref 590), ks P 948 591, ko P 949] 2
abbrev k593 := kt "Take" (.ref 405) (.ref 593) (.ref 405 :: mO) 592 (some (.ref 556)) 902 910 "object.__new__" []
abbrev k608 := kd "__init__" "Need.__init__" 964 233 2 3 603 969
abbrev k609 := kf (Mine.sb 45 0) k608 bY 608
abbrev k615 := kd "said" "Need.said" 972 236 1 3 610 976
abbrev k616 := kf (Mine.sb 45 1) k615 bY 615
abbrev k618 (P : Params) : Obj := kz P bY 959 231 [ki P 971 609, ke P "said" 978 (.ref 616), ks P 980 617, ko P 981] 2
abbrev k619 := kt "Need" (.ref 405) (.ref 619) (.ref 405 :: mO) 618 (some (.ref 596)) 952 960 "object.__new__" []
abbrev k627 := ku "names_expr" 988 240 1 3 622 992
abbrev k628 := kf (Mine.top 48) k627 vo 627
abbrev k634 := ku "names_address" 995 242 1 3 629 999
abbrev k635 := kf (Mine.top 49) k634 vo 634
abbrev k641 := ku "names_word" 1002 244 1 3 636 1006
abbrev k642 := kf (Mine.top 50) k641 vo 641
abbrev k648 := ku "terms_from" 1009 248 2 3 643 1014
abbrev k649 := kf (Mine.top 51) k648 vo 648
abbrev k655 := ku "deed_of" 1017 250 2 3 650 1022
abbrev k656 := kf (Mine.top 52) k655 vo 655
abbrev k662 := ku "row_of" 1025 254 1 3 657 1030
abbrev k663 := kf (Mine.top 53) k662 vo 662
abbrev k669 := ku "row_at" 1033 269 2 3 664 1039
abbrev k670 := kf (Mine.top 54) k669 vo 669
abbrev k676 := ku "read_head" 1042 277 1 3 671 1047
abbrev k677 := kf (Mine.top 55) k676 vo 676
abbrev k683 := ku "read_part" 1050 282 1 3 678 1060
abbrev k684 := kf (Mine.top 56) k683 vo 683
abbrev k690 := ku "_law_cell" 1065 297 2 3 685 1070
abbrev k691 := kf (Mine.top 58) k690 kW 690
abbrev k697 := ku "_law_sub" 1073 301 2 3 692 1078
abbrev k698 := kf (Mine.top 59) k697 kW 697
abbrev k704 := ku "_law_pick" 1081 305 3 3 699 1090
abbrev k705 := kf (Mine.top 60) k704 kW 704
abbrev k709 := kv "_law_names" 1093 314 2 3 706 1096
abbrev k710 := kf (Mine.top 61) k709 kW 709
abbrev k716 := ku "_law_whole" 1099 330 1 3 711 1103
abbrev k717 := kf (Mine.top 62) k716 kW 716
abbrev k723 := ku "_law_what" 1106 332 1 3 718 1112
abbrev k724 := kf (Mine.top 63) k723 kW 723
abbrev k730 := ku "_law_told" 1115 338 1 3 725 1120
abbrev k731 := kf (Mine.top 64) k730 kW 730
abbrev k737 := ku "_law_plain" 1123 344 2 3 732 1133
abbrev k738 := kf (Mine.top 65) k737 kW 737
abbrev k744 := ku "_law_none" 1136 355 2 3 739 1142
abbrev k745 := kf (Mine.top 66) k744 kW 744
abbrev k751 := ku "_law_due" 1145 360 1 3 746 1150
abbrev k752 := kf (Mine.top 67) k751 kW 751
abbrev k756 := kv "_law_right" 1153 369 1 3 753 1156
abbrev k757 := kf (Mine.top 68) k756 kW 756
abbrev k763 := ku "law" 1159 391 1 3 758 1167
abbrev k764 := kf (Mine.top 69) k763 kW 763
def myK : Params -> Frag := fun P =>
 (nat_lit 2, { cls := Value.none, data := Data.dict #[] }) ::
 (nat_lit 3, k3 P) ::
 (nat_lit 20, k20) ::
 (nat_lit 21, k21) ::
 (nat_lit 30, k30 P) ::
 (nat_lit 31, k31) ::
 (nat_lit 32, k32) ::
 (nat_lit 43, k43 P) ::
 (nat_lit 44, k44) ::
 (nat_lit 55, k55 P) ::
 (nat_lit 56, k56) ::
 (nat_lit 71, k71) ::
 (nat_lit 72, k72) ::
 (nat_lit 74, k74 P) ::
 (nat_lit 75, k75) ::
 (nat_lit 90, k90) ::
 (nat_lit 91, k91) ::
 (nat_lit 93, k93 P) ::
 (nat_lit 94, k94) ::
 (nat_lit 109, k109) ::
 (nat_lit 110, k110) ::
 (nat_lit 112, k112 P) ::
 (nat_lit 113, k113) ::
 (nat_lit 128, k128) ::
 (nat_lit 129, k129) ::
 (nat_lit 131, k131 P) ::
 (nat_lit 132, k132) ::
 (nat_lit 147, k147) ::
 (nat_lit 148, k148) ::
 (nat_lit 150, k150 P) ::
 (nat_lit 151, k151) ::
 (nat_lit 166, k166) ::
 (nat_lit 167, k167) ::
 (nat_lit 169, k169 P) ::
 (nat_lit 170, k170) ::
 (nat_lit 185, k185) ::
 (nat_lit 186, k186) ::
 (nat_lit 188, k188 P) ::
 (nat_lit 189, k189) ::
 (nat_lit 204, k204) ::
 (nat_lit 205, k205) ::
 (nat_lit 207, k207 P) ::
 (nat_lit 208, k208) ::
 (nat_lit 223, k223) ::
 (nat_lit 224, k224) ::
 (nat_lit 226, k226 P) ::
 (nat_lit 227, k227) ::
 (nat_lit 242, k242) ::
 (nat_lit 243, k243) ::
 (nat_lit 245, k245 P) ::
 (nat_lit 246, k246) ::
 (nat_lit 261, k261) ::
 (nat_lit 262, k262) ::
 (nat_lit 264, k264 P) ::
 (nat_lit 265, k265) ::
 (nat_lit 271, k271) ::
 (nat_lit 272, k272) ::
 (nat_lit 276, k276) ::
 (nat_lit 277, k277) ::
 (nat_lit 283, k283) ::
 (nat_lit 284, k284) ::
 (nat_lit 288, k288) ::
 (nat_lit 289, k289) ::
 (nat_lit 295, k295) ::
 (nat_lit 296, k296) ::
 (nat_lit 302, k302) ::
 (nat_lit 303, k303) ::
 (nat_lit 309, k309) ::
 (nat_lit 310, k310) ::
 (nat_lit 316, k316) ::
 (nat_lit 317, k317) ::
 (nat_lit 323, k323) ::
 (nat_lit 324, k324) ::
 (nat_lit 330, k330) ::
 (nat_lit 331, k331) ::
 (nat_lit 335, k335) ::
 (nat_lit 336, k336) ::
 (nat_lit 349, k349) ::
 (nat_lit 350, k350) ::
 (nat_lit 354, k354) ::
 (nat_lit 355, k355) ::
 (nat_lit 361, k361) ::
 (nat_lit 362, k362) ::
 (nat_lit 366, k366) ::
 (nat_lit 367, k367) ::
 (nat_lit 369, k369 P) ::
 (nat_lit 370, k370) ::
 (nat_lit 371, k371) ::
 (nat_lit 372, k372) ::
 (nat_lit 387, k387) ::
 (nat_lit 388, k388) ::
 (nat_lit 394, k394) ::
 (nat_lit 395, k395) ::
 (nat_lit 401, k401) ::
 (nat_lit 402, k402) ::
 (nat_lit 404, k404 P) ::
 (nat_lit 405, k405) ::
 (nat_lit 406, k406) ::
 (nat_lit 407, k407) ::
 (nat_lit 422, k422) ::
 (nat_lit 423, k423) ::
 (nat_lit 429, k429) ::
 (nat_lit 430, k430) ::
 (nat_lit 436, k436) ::
 (nat_lit 437, k437) ::
 (nat_lit 439, k439 P) ::
 (nat_lit 440, k440) ::
 (nat_lit 455, k455) ::
 (nat_lit 456, k456) ::
 (nat_lit 462, k462) ::
 (nat_lit 463, k463) ::
 (nat_lit 469, k469) ::
 (nat_lit 470, k470) ::
 (nat_lit 472, k472 P) ::
 (nat_lit 473, k473) ::
 (nat_lit 488, k488) ::
 (nat_lit 489, k489) ::
 (nat_lit 495, k495) ::
 (nat_lit 496, k496) ::
 (nat_lit 502, k502) ::
 (nat_lit 503, k503) ::
 (nat_lit 509, k509) ::
 (nat_lit 510, k510) ::
 (nat_lit 512, k512 P) ::
 (nat_lit 513, k513) ::
 (nat_lit 528, k528) ::
 (nat_lit 529, k529) ::
 (nat_lit 535, k535) ::
 (nat_lit 536, k536) ::
 (nat_lit 542, k542) ::
 (nat_lit 543, k543) ::
 (nat_lit 549, k549) ::
 (nat_lit 550, k550) ::
 (nat_lit 552, k552 P) ::
 (nat_lit 553, k553) ::
 (nat_lit 568, k568) ::
 (nat_lit 569, k569) ::
 (nat_lit 575, k575) ::
 (nat_lit 576, k576) ::
 (nat_lit 582, k582) ::
 (nat_lit 583, k583) ::
 (nat_lit 589, k589) ::
 (nat_lit 590, k590) ::
 (nat_lit 592, k592 P) ::
 (nat_lit 593, k593) ::
 (nat_lit 608, k608) ::
 (nat_lit 609, k609) ::
 (nat_lit 615, k615) ::
 (nat_lit 616, k616) ::
 (nat_lit 618, k618 P) ::
 (nat_lit 619, k619) ::
 (nat_lit 627, k627) ::
 (nat_lit 628, k628) ::
 (nat_lit 634, k634) ::
 (nat_lit 635, k635) ::
 (nat_lit 641, k641) ::
 (nat_lit 642, k642) ::
 (nat_lit 648, k648) ::
 (nat_lit 649, k649) ::
 (nat_lit 655, k655) ::
 (nat_lit 656, k656) ::
 (nat_lit 662, k662) ::
 (nat_lit 663, k663) ::
 (nat_lit 669, k669) ::
 (nat_lit 670, k670) ::
 (nat_lit 676, k676) ::
 (nat_lit 677, k677) ::
 (nat_lit 683, k683) ::
 (nat_lit 684, k684) ::
 (nat_lit 690, k690) ::
 (nat_lit 691, k691) ::
 (nat_lit 697, k697) ::
 (nat_lit 698, k698) ::
 (nat_lit 704, k704) ::
 (nat_lit 705, k705) ::
 (nat_lit 709, k709) ::
 (nat_lit 710, k710) ::
 (nat_lit 716, k716) ::
 (nat_lit 717, k717) ::
 (nat_lit 723, k723) ::
 (nat_lit 724, k724) ::
 (nat_lit 730, k730) ::
 (nat_lit 731, k731) ::
 (nat_lit 737, k737) ::
 (nat_lit 738, k738) ::
 (nat_lit 744, k744) ::
 (nat_lit 745, k745) ::
 (nat_lit 751, k751) ::
 (nat_lit 752, k752) ::
 (nat_lit 756, k756) ::
 (nat_lit 757, k757) ::
 (nat_lit 763, k763) ::
 (nat_lit 764, k764) ::
 []
end
end Mine
set_option maxHeartbeats 0
namespace Hd
noncomputable section
open PySem PySem.W PySem.Calls PyProof.Rows Mine
noncomputable def put (t : BT) : Nat -> Obj -> BT := BT.rec (motive := fun _ => Nat -> Obj -> BT) (fun _ o => .node o .nil .nil) (fun v l r x y i o => match i with | 0 => .node o l r | j + 1 => bif Nat.beq (j % 2) 0 then .node v (x (j / 2) o) r else .node v l (y (j / 2) o)) t
noncomputable def Gs (t : BT) (l : List (Nat × Obj)) : BT := l.foldl (fun t p => put t p.1 p.2) t
noncomputable def fo (s : Stmt) (n q m : Str) (t c : Nat) : Obj := ⟨.type "function", none, .func { name := n, qualname := q, params := L2.cG s, body := .stmts (L2.bQ s), scope := L2.az s, globals := 3, closure := [], defaults := .none, kwdefaults := .none, pyModule := .str m t, code := .ref c }, #[]⟩
noncomputable def pf (s : Stmt) (n q : Str) : Obj := ⟨.none, none, .func { name := n, qualname := q, params := L2.cG s, body := .stmts (L2.bQ s), scope := L2.az s, globals := 0, closure := [], defaults := .none, kwdefaults := .none }, #[]⟩
noncomputable def tu (l : List Value) : Obj := ⟨.type "tuple", none, .seq l.toArray, #[]⟩
def eT : Obj := tu []
def eF : Obj := { cls := .none, data := .fields #[] }
noncomputable def co (n q : Str) (a b c : Nat) (l k : Int) (f r : Nat) (t : Bool) (g : Int) (u : Nat) (x y z : Value) (v : Nat) (m : Int) (e : Nat) : Obj := { cls := .type "code", data := .fields #[.str n a, .str q b, .str "/claim/cut.py" c, .int l 0, .int k 0, .int 0 0, .int 0 0, .int f 0, .ref r, .bool t, .int g 0, .ref u, x, y, z, .ref v, .int m 0, .int l 0, .str "/claim/cut.py" e] }
noncomputable def pl (t : BT) (a : Nat) (l : List Obj) : BT := List.rec (motive := fun _ => BT -> Nat -> BT) (fun t _ => t) (fun o _ f t a => f (put t a o) (a + 1)) l t a
noncomputable def fm (c d : Nat) (m : Value) : Obj := { cls := .type "frame", slots := #[some (.ref c), some (.ref 3), some (.ref d), none, some m, none, some (.ref 0)] }
noncomputable def su (x : Nat) : Obj := { cls := .type "super", data := .fields #[.ref x, .ref x, .ref x] }
noncomputable def ib (x : Nat) : Obj := { cls := .type "builtin_function_or_method", data := .fields #[.builtin "object.__init_subclass__", .ref x] }
noncomputable def cc (n : Str) (a : Nat) (l : Int) (r : Nat) (b : Int) : Obj := { cls := .type "code", data := .fields #[.str n a, .str n (a + 1), .str "/claim/cut.py" (a + 2), .int l 0, .int 0 0, .int 0 0, .int 0 0, .int 0 0, .ref r, .bool false, .int 181 0, .ref (r + 1), .none, .none, .none, .none, .int b 0, .int l 0, .str "/claim/cut.py" (a + 4)] }
noncomputable def di (P : Params) (m : Value) (n : Str) (a : Nat) (l : Int) (r : List DictEntry) (k : Nat) : Obj := { cls := .type "dict", data := .dict (List.toArray (ke P "__module__" a m :: ke P "__qualname__" (a + 2) (.str n (a + 1)) :: ke P "__firstlineno__" (a + 4) (.int l (a + 3)) :: r)) k }
noncomputable def f3 (a b : Int) (c : Nat) (r : List Value) : List Value := .int a 0 :: .int b 0 :: .ref c :: r
noncomputable def fl (l : List Value) : Obj := { cls := .none, data := .fields l.toArray }
noncomputable def tv (t : Nat) (l : List Str) : List Value := List.rec (motive := fun _ => Nat -> List Value) (fun _ => []) (fun x _ f t => .str x t :: f (t + 1)) l t
noncomputable def tw (t : Nat) (l : List Str) : Obj := tu (tv t l)
noncomputable def df (s : Stmt) (v c f : Obj) (r : List Obj) : List Obj := eT :: eF :: v :: eT :: pf s (nq true c) (nq false c) :: c :: f :: r
noncomputable def de (s : Stmt) (c f : Obj) (r : List Obj) : List Obj := eT :: eF :: pf s (nq true c) (nq false c) :: c :: f :: r
def env : Env := { scope := pw_drawhouse_k25_the_first_wrong_row.main.scope, locals := mainNs, globals := mainNs, cells := [], code := Value.ref 13, frame := some 14 }
def cE : Code := .body (behindTheImports pw_drawhouse_k25_the_first_wrong_row) env
def fr : List Frame := [topFrame { line := 0, col := 0, endLine := 0, endCol := 0 }]
noncomputable def sl (a n : Nat) : List Stmt := ((behindTheImports pw_drawhouse_k25_the_first_wrong_row).drop a).take n
def o12 : Obj := fl (f3 1 0 20 (f3 5 0 27 (f3 7 0 40 (f3 9 0 52 (f3 11 0 64 (f3 16 0 83 (f3 21 0 102 (f3 26 0 121 (f3 31 0 140 (f3 36 0 159 (f3 41 0 178 (f3 46 0 197 (f3 51 0 216 (f3 56 0 235 (f3 61 0 254 (f3 73 0 271 (f3 79 0 276 (f3 82 0 283 (f3 89 0 288 (f3 95 0 295 (f3 99 0 302 (f3 105 0 309 (f3 111 0 316 (f3 123 0 323 (f3 130 0 330 (f3 137 0 335 (f3 140 0 342 (f3 156 0 380 (f3 166 0 415 (f3 177 0 448 (f3 188 0 481 (f3 202 0 521 (f3 216 0 561 (f3 231 0 601 (f3 240 0 627 (f3 242 0 634 (f3 244 0 641 (f3 248 0 648 (f3 250 0 655 (f3 254 0 662 (f3 269 0 669 (f3 277 0 676 (f3 282 0 683 (f3 297 0 690 (f3 301 0 697 (f3 305 0 704 (f3 314 0 709 (f3 330 0 716 (f3 332 0 723 (f3 338 0 730 (f3 344 0 737 (f3 355 0 744 (f3 360 0 751 (f3 369 0 756 (f3 391 0 763 [])))))))))))))))))))))))))))))))))))))))))))))))))))))))
def o23 : Obj := { cls := .type "builtin_function_or_method", data := .fields #[.builtin "type.__prepare__", .type "type"] }
variable (P : Params) (r : List Obj)
def hA0 : List Obj := boot_o_0 P :: boot_o_1 P :: boot_o_2 P :: boot_o_3 P :: boot_o_4 P :: boot_o_5 P :: boot_o_6 P :: boot_o_7 P :: boot_o_8 P :: boot_o_9 P :: boot_o_10 P :: eT :: eF :: cc "<module>" 182 1 11 185 :: fm 13 3 Mi :: r
def hA : Heap := ⟨Array.mk (hA0 P []), { }⟩
noncomputable def Lp (w : World) (os : OsState) : Option (Shared × Thread) := topGo treeTable pw_drawhouse_k25_the_first_wrong_row w 11 (some (Value.ref 6)) 12 ⟨boot_heap w.params, Array.mk [], boot_drawn, boot_toks, os⟩ (topStub pw_drawhouse_k25_the_first_wrong_row)
noncomputable def Rp (w : World) (os : OsState) : Option (Shared × Thread) := some (⟨hA w.params, Array.mk [], { }, nat_lit 187, os⟩, ⟨denote treeTable cE, cE, { line := 0, col := 0, endLine := 0, endCol := 0 }, fr⟩)
theorem rLp : Lp = Lp := rfl
name_quick Lp for Hd.Lp by Hd.rLp
theorem rRp : Rp = Rp := rfl
name_quick Rp for Hd.Rp by Hd.rRp
theorem qp : PySem.W.Fast.Lp = PySem.W.Fast.Rp := by kernel_rfl
theorem ep : Lp = Rp := PySem.W.Fast.Lp_eq.trans (qp.trans PySem.W.Fast.Rp_eq.symm)
def t0 : BT := pl .nil 0 (hA0 P [])
def Lb (w : World) (os : OsState) : Option (Flow × Shared × Code × Pos) := segRun treeTable pw_drawhouse_k25_the_first_wrong_row w 11 (some (Value.ref 6)) 1 1 ⟨hA w.params, Array.mk [], { }, nat_lit 187, os⟩ (blockOf (behindTheImports pw_drawhouse_k25_the_first_wrong_row) env cE { line := 0, col := 0, endLine := 0, endCol := 0 } fr)
def Rb (w : World) (os : OsState) : Option (Flow × Shared × Code × Pos) := some (.next, SharedT.abs ⟨t0 w.params, nat_lit 15, { }, Array.mk [], { }, nat_lit 187, os⟩, cE, { line := 0, col := 0, endLine := 0, endCol := 0 })
theorem rLb : Lb = Lb := rfl
name_quick Lb for Hd.Lb by Hd.rLb
theorem rRb : Rb = Rb := rfl
name_quick Rb for Hd.Rb by Hd.rRb
theorem qb : PySem.W.Fast.Lb = PySem.W.Fast.Rb := by kernel_rfl
theorem eb : Lb = Rb := PySem.W.Fast.Lb_eq.trans (qb.trans PySem.W.Fast.Rb_eq.symm)
def c0 : List Obj := boot_o_0 P :: boot_o_1 P :: boot_o_2 P :: k3 P :: boot_o_4 P :: boot_o_5 P :: boot_o_6 P :: boot_o_7 P :: boot_o_8 P :: boot_o_9 P :: boot_o_10 P :: eT :: o12 :: cc "<module>" 182 1 11 185 :: fm 13 3 Mi :: r
def c15 : List Obj := df (Mine.top 0) (tw 190 ["k"]) k20 k21 (tu [.type "ValueError"] :: o23 :: di P bM "HouseError" 203 5 [ks P 208 29] 4 :: r)
def c25 : List Obj := eT :: eF :: cc "HouseError" 198 5 25 201 :: fm 27 24 bM :: eT :: k30 P :: k31 :: k32 :: su 31 :: ib 31 :: r
def c35 : List Obj := tu [.ref 31] :: o23 :: di P bM "NoExpr" 221 7 [ks P 226 42] 4 :: eT :: eF :: cc "NoExpr" 216 7 38 219 :: fm 40 37 bM :: eT :: k43 P :: k44 :: r
def c45 : List Obj := su 44 :: ib 44 :: tu [.ref 31] :: o23 :: di P bM "TooWide" 237 9 [ks P 242 54] 4 :: eT :: eF :: cc "TooWide" 232 9 50 235 :: fm 52 49 bM :: eT :: r
def c55 : List Obj := k55 P :: k56 :: su 56 :: ib 56 :: tu [.ref 31] :: o23 :: di P bM "NoText" 253 11 [ki P 265 72, ks P 267 73] 5 :: eT :: fl (f3 13 4 71 []) :: cc "NoText" 248 11 62 251 :: r
def c65 : List Obj := fm 64 61 bM :: df (Mine.sb 5 0) (tw 261 ["self", "at"]) k71 k72 (tw 266 ["at"] :: k74 P :: r)
def c75 : List Obj := k75 :: su 75 :: ib 75 :: tu [.ref 31] :: o23 :: di P bM "TooMany" 278 16 [ki P 290 91, ks P 292 92] 5 :: eT :: fl (f3 18 4 90 []) :: cc "TooMany" 273 16 81 276 :: fm 83 80 bM :: r
def c85 : List Obj := df (Mine.sb 6 0) (tw 286 ["self", "at"]) k90 k91 (tw 291 ["at"] :: k93 P :: k94 :: r)
def c95 : List Obj := su 94 :: ib 94 :: tu [.ref 31] :: o23 :: di P bM "Twice" 303 21 [ki P 315 110, ks P 317 111] 5 :: eT :: fl (f3 23 4 109 []) :: cc "Twice" 298 21 100 301 :: fm 102 99 bM :: r
def RG : List Obj := df (Mine.sb 7 0) (tw 311 ["self", "at"]) k109 k110 (tw 316 ["at"] :: k112 P :: k113 :: r)
def PX (P : Params) (r : List Obj) : List Obj := su 113 :: ib 113 :: r
def C0 : List Obj := c15 P (c25 P (c35 P (c45 P (c55 P (c65 P (c75 P (c85 P (c95 P (RG P (PX P (r)))))))))))
def t1 : BT := Gs (pl (t0 P) 15 (C0 P [])) ((3, { cls := .type "dict", data := .dict (List.toArray (ke P "__name__" 165 (.str "drawhouse.errors" 194) :: n0 P ([]))) 16 }) :: (12, fl (f3 1 0 20 (f3 5 0 27 (f3 7 0 40 (f3 9 0 52 (f3 11 0 64 (f3 16 0 83 (f3 21 0 102 [])))))))) :: (31, { cls := .type "type", data := .cls { name := Str.ofString "HouseError", bases := [.type "ValueError"], mro := [.ref 31, .type "ValueError", .type "Exception", .type "BaseException", .type "object"], ns := 30, qualname := Str.ofString "HouseError", subclasses := [.ref 44, .ref 56, .ref 75, .ref 94, .ref 113] }, slots := #[some (.ref 22), none, some (.str "HouseError" 196), some (.str "HouseError" 204), some (.builtin "ValueError.__new__"), some (.bool true)] }) :: [])
def L0 (w : World) (os : OsState) : Option (Flow × SharedT × Code × Pos) := segRunT treeTable pw_drawhouse_k25_the_first_wrong_row w 11 (some (Value.ref 6)) 1 1386 ⟨t0 w.params, nat_lit 15, { }, Array.mk [], { }, nat_lit 187, os⟩ (piecesOf (sl 0 8) env cE { line := 0, col := 0, endLine := 0, endCol := 0 } fr)
def R0 (w : World) (os : OsState) : Option (Flow × SharedT × Code × Pos) := some (.next, ⟨t1 w.params, nat_lit 116, { }, Array.mk [], { }, nat_lit 321, os⟩, cE, { line := 21, col := 0, endLine := 25, endCol := 20 })
theorem rL0 : L0 = L0 := rfl
name_quick L0 for Hd.L0 by Hd.rL0
theorem rR0 : R0 = R0 := rfl
name_quick R0 for Hd.R0 by Hd.rR0
theorem q0 : PySem.W.Fast.L0 = PySem.W.Fast.R0 := by kernel_rfl
theorem e0 : L0 = R0 := PySem.W.Fast.L0_eq.trans (q0.trans PySem.W.Fast.R0_eq.symm)
def Q6 : List Obj := tu [.ref 31] :: o23 :: di P bM "Double" 328 26 [ki P 340 129, ks P 342 130] 5 :: eT :: fl (f3 28 4 128 []) :: cc "Double" 323 26 119 326 :: fm 121 118 bM :: r
def Q9 : List Obj := df (Mine.sb 8 0) (tw 336 ["self", "at"]) k128 k129 (tw 341 ["at"] :: k131 P :: k132 :: r)
def PK : List Obj := su 132 :: ib 132 :: tu [.ref 31] :: o23 :: di P bM "Orphan" 353 31 [ki P 365 148, ks P 367 149] 5 :: eT :: fl (f3 33 4 147 []) :: cc "Orphan" 348 31 138 351 :: fm 140 137 bM :: r
def Qs : List Obj := df (Mine.sb 9 0) (tw 361 ["self", "at"]) k147 k148 (tw 366 ["at"] :: k150 P :: k151 :: r)
def Rj : List Obj := su 151 :: ib 151 :: tu [.ref 31] :: o23 :: di P bM "Clash" 378 36 [ki P 390 167, ks P 392 168] 5 :: eT :: fl (f3 38 4 166 []) :: cc "Clash" 373 36 157 376 :: fm 159 156 bM :: r
def Sw : List Obj := df (Mine.sb 10 0) (tw 386 ["self", "at"]) k166 k167 (tw 391 ["at"] :: k169 P :: k170 :: r)
def PB : List Obj := su 170 :: ib 170 :: tu [.ref 31] :: o23 :: di P bM "NoRow" 403 41 [ki P 415 186, ks P 417 187] 5 :: eT :: fl (f3 43 4 185 []) :: cc "NoRow" 398 41 176 401 :: fm 178 175 bM :: r
def Qh : List Obj := df (Mine.sb 11 0) (tw 411 ["self", "at"]) k185 k186 (tw 416 ["at"] :: k188 P :: k189 :: r)
def PL : List Obj := su 189 :: ib 189 :: tu [.ref 31] :: o23 :: di P bM "NoPart" 428 46 [ki P 440 205, ks P 442 206] 5 :: eT :: fl (f3 48 4 204 []) :: cc "NoPart" 423 46 195 426 :: fm 197 194 bM :: r
def Tn : List Obj := df (Mine.sb 12 0) (tw 436 ["self", "address"]) k204 k205 (tw 441 ["address"] :: k207 P :: k208 :: r)
def Qd : List Obj := su 208 :: ib 208 :: tu [.ref 31] :: o23 :: di P bM "NoDrop" 453 51 [ki P 465 224, ks P 467 225] 5 :: eT :: fl (f3 53 4 223 []) :: cc "NoDrop" 448 51 214 451 :: fm 216 213 bM :: r
def Ra : List Obj := df (Mine.sb 13 0) (tw 461 ["self", "address"]) k223 k224 (tw 466 ["address"] :: k226 P :: k227 :: r)
def Pz (P : Params) (r : List Obj) : List Obj := su 227 :: ib 227 :: r
def C1 : List Obj := Q6 P (Q9 P (PK P (Qs P (Rj P (Sw P (PB P (Qh P (PL P (Tn P (Qd P (Ra P (Pz P (r)))))))))))))
def t2 : BT := Gs (pl (t1 P) 116 (C1 P [])) ((3, { cls := .type "dict", data := .dict (List.toArray (ke P "__name__" 165 (.str "drawhouse.errors" 194) :: n0 P (n1 P ([])))) 22 }) :: (12, fl (f3 1 0 20 (f3 5 0 27 (f3 7 0 40 (f3 9 0 52 (f3 11 0 64 (f3 16 0 83 (f3 21 0 102 (f3 26 0 121 (f3 31 0 140 (f3 36 0 159 (f3 41 0 178 (f3 46 0 197 (f3 51 0 216 [])))))))))))))) :: (31, { cls := .type "type", data := .cls { name := Str.ofString "HouseError", bases := [.type "ValueError"], mro := [.ref 31, .type "ValueError", .type "Exception", .type "BaseException", .type "object"], ns := 30, qualname := Str.ofString "HouseError", subclasses := [.ref 44, .ref 56, .ref 75, .ref 94, .ref 113, .ref 132, .ref 151, .ref 170, .ref 189, .ref 208, .ref 227] }, slots := #[some (.ref 22), none, some (.str "HouseError" 196), some (.str "HouseError" 204), some (.builtin "ValueError.__new__"), some (.bool true)] }) :: [])
def L1 (w : World) (os : OsState) : Option (Flow × SharedT × Code × Pos) := segRunT treeTable pw_drawhouse_k25_the_first_wrong_row w 11 (some (Value.ref 6)) 1 1471 ⟨t1 w.params, nat_lit 116, { }, Array.mk [], { }, nat_lit 321, os⟩ (piecesOf (sl 8 6) env cE { line := 21, col := 0, endLine := 25, endCol := 20 } fr)
def R1 (w : World) (os : OsState) : Option (Flow × SharedT × Code × Pos) := some (.next, ⟨t2 w.params, nat_lit 230, { }, Array.mk [], { }, nat_lit 471, os⟩, cE, { line := 51, col := 0, endLine := 55, endCol := 30 })
theorem rL1 : L1 = L1 := rfl
name_quick L1 for Hd.L1 by Hd.rL1
theorem rR1 : R1 = R1 := rfl
name_quick R1 for Hd.R1 by Hd.rR1
theorem q1 : PySem.W.Fast.L1 = PySem.W.Fast.R1 := by kernel_rfl
theorem e1 : L1 = R1 := PySem.W.Fast.L1_eq.trans (q1.trans PySem.W.Fast.R1_eq.symm)
def QX : List Obj := tu [.ref 31] :: o23 :: di P bM "NoName" 478 56 [ki P 490 243, ks P 492 244] 5 :: eT :: fl (f3 58 4 242 []) :: cc "NoName" 473 56 233 476 :: fm 235 232 bM :: r
def RT : List Obj := df (Mine.sb 14 0) (tw 486 ["self", "name"]) k242 k243 (tw 491 ["name"] :: k245 P :: k246 :: r)
def Q0 : List Obj := su 246 :: ib 246 :: tu [.ref 31] :: o23 :: di P bM "Fault" 503 61 [ki P 518 262, ks P 523 263] 5 :: eT :: fl (f3 63 4 261 []) :: cc "Fault" 498 61 252 501 :: fm 254 251 bM :: r
def QL : List Obj := df (Mine.sb 15 0) (tw 511 ["self", "word", "trail", "whose", "name"]) k261 k262 (tw 519 ["name", "trail", "whose", "word"] :: k264 P :: k265 :: r)
def QH (P : Params) (r : List Obj) : List Obj := su 265 :: ib 265 :: de (Mine.top 20) k271 k272 (r)
def Q7 (P : Params) (r : List Obj) : List Obj := de (Mine.top 21) k276 k277 (r)
def RB (P : Params) (r : List Obj) : List Obj := df (Mine.top 22) (tw 550 ["thing"]) k283 k284 (r)
def Rc (P : Params) (r : List Obj) : List Obj := de (Mine.top 28) k288 k289 (r)
def Qz (P : Params) (r : List Obj) : List Obj := df (Mine.top 29) (tw 573 ["word"]) k295 k296 (r)
def Sy (P : Params) (r : List Obj) : List Obj := df (Mine.top 30) (tw 580 ["sign", "word"]) k302 k303 (r)
def QF (P : Params) (r : List Obj) : List Obj := df (Mine.top 31) (tw 588 ["word"]) k309 k310 (r)
def Qa (P : Params) (r : List Obj) : List Obj := df (Mine.top 32) (tw 595 ["text", "words", "terms", "at"]) k316 k317 (r)
def Tv (P : Params) (r : List Obj) : List Obj := df (Mine.top 33) (tw 605 ["kind", "thing", "path"]) k323 k324 (r)
def Qk (P : Params) (r : List Obj) : List Obj := df (Mine.top 34) (tw 614 ["terms", "shown", "sign", "kind", "thing"]) k330 k331 (r)
def Rt : List Obj := de (Mine.top 35) k335 k336 (eT :: o23 :: di P yO "Part" 637 140 [ki P 650 350, ke P "bound" 656 (.ref 355), ke P "place_of" 664 (.ref 362), ke P "text" 670 (.ref 367), ks P 673 368] 8 :: eT :: fl (f3 142 4 349 (f3 146 4 354 (f3 150 4 361 (f3 153 4 366 [])))) :: r)
def Q5 (P : Params) (r : List Obj) : List Obj := cc "Part" 632 140 340 635 :: fm 342 339 yO :: df (Mine.sb 37 0) (tw 645 ["self", "address", "rows"]) k349 k350 (r)
def S6 (P : Params) (r : List Obj) : List Obj := de (Mine.sb 37 1) k354 k355 (r)
def S7 (P : Params) (r : List Obj) : List Obj := df (Mine.sb 37 2) (tw 660 ["self", "name"]) k361 k362 (r)
def RC : List Obj := de (Mine.sb 37 3) k366 k367 (tw 671 ["address", "rows"] :: k369 P :: k370 :: k371 :: k372 :: r)
def Ql : List Obj := su 370 :: ib 370 :: eT :: o23 :: di P bY "Row" 690 156 [ke P "binds" 701 (.ref 388), ke P "asked" 708 (.ref 395), ke P "said" 715 (.ref 402), ks P 716 403] 7 :: eT :: fl (f3 158 4 387 (f3 161 4 394 (f3 164 4 401 []))) :: cc "Row" 685 156 378 688 :: fm 380 377 bY :: r
def Ri (P : Params) (r : List Obj) : List Obj := df (Mine.sb 39 0) (tw 698 ["self"]) k387 k388 (r)
def SX (P : Params) (r : List Obj) : List Obj := df (Mine.sb 39 1) (tw 705 ["self"]) k394 k395 (r)
def Ro : List Obj := df (Mine.sb 39 2) (tw 712 ["self"]) k401 k402 (eT :: k404 P :: k405 :: r)
def QV (P : Params) (r : List Obj) : List Obj := k406 :: k407 :: su 405 :: ib 405 :: r
def C2 : List Obj := QX P (RT P (Q0 P (QL P (QH P (Q7 P (RB P (Rc P (Qz P (Sy P (QF P (Qa P (Tv P (Qk P (Rt P (Q5 P (S6 P (S7 P (RC P (Ql P (Ri P (SX P (Ro P (QV P (r))))))))))))))))))))))))
def t3 : BT := Gs (pl (t2 P) 230 (C2 P [])) ((3, { cls := .type "dict", data := .dict (List.toArray (ke P "__name__" 165 (.str "drawhouse.rows" 681) :: n0 P (n1 P (n2 P ([]))))) 44 }) :: (12, fl (f3 1 0 20 (f3 5 0 27 (f3 7 0 40 (f3 9 0 52 (f3 11 0 64 (f3 16 0 83 (f3 21 0 102 (f3 26 0 121 (f3 31 0 140 (f3 36 0 159 (f3 41 0 178 (f3 46 0 197 (f3 51 0 216 (f3 56 0 235 (f3 61 0 254 (f3 73 0 271 (f3 79 0 276 (f3 82 0 283 (f3 89 0 288 (f3 95 0 295 (f3 99 0 302 (f3 105 0 309 (f3 111 0 316 (f3 123 0 323 (f3 130 0 330 (f3 137 0 335 (f3 140 0 342 (f3 156 0 380 []))))))))))))))))))))))))))))) :: (31, k31) :: (405, { cls := .type "type", data := .cls { name := Str.ofString "Row", bases := [.type "object"], mro := [.ref 405, .type "object"], ns := 404, qualname := Str.ofString "Row" }, slots := #[none, none, some (.str "Row" 683), some (.str "Row" 691), some (.builtin "object.__new__"), some (.bool true)] }) :: [])
def L2 (w : World) (os : OsState) : Option (Flow × SharedT × Code × Pos) := segRunT treeTable pw_drawhouse_k25_the_first_wrong_row w 11 (some (Value.ref 6)) 1 1507 ⟨t2 w.params, nat_lit 230, { }, Array.mk [], { }, nat_lit 471, os⟩ (piecesOf (sl 14 26) env cE { line := 51, col := 0, endLine := 55, endCol := 30 } fr)
def R2 (w : World) (os : OsState) : Option (Flow × SharedT × Code × Pos) := some (.next, ⟨t3 w.params, nat_lit 410, { }, Array.mk [], { }, nat_lit 724, os⟩, cE, { line := 156, col := 0, endLine := 165, endCol := 17 })
theorem rL2 : L2 = L2 := rfl
name_quick L2 for Hd.L2 by Hd.rL2
theorem rR2 : R2 = R2 := rfl
name_quick R2 for Hd.R2 by Hd.rR2
theorem q2 : PySem.W.Fast.L2 = PySem.W.Fast.R2 := by kernel_rfl
theorem e2 : L2 = R2 := PySem.W.Fast.L2_eq.trans (q2.trans PySem.W.Fast.R2_eq.symm)
def Qc : List Obj := tu [.ref 405] :: o23 :: di P bY "Let" 731 166 [ki P 744 423, ke P "binds" 751 (.ref 430), ke P "said" 758 (.ref 437), ks P 761 438] 7 :: eT :: fl (f3 168 4 422 (f3 172 4 429 (f3 175 4 436 []))) :: cc "Let" 726 166 413 729 :: fm 415 412 bY :: r
def Qj (P : Params) (r : List Obj) : List Obj := df (Mine.sb 40 0) (tw 739 ["self", "name", "terms"]) k422 k423 (r)
def Sg (P : Params) (r : List Obj) : List Obj := df (Mine.sb 40 1) (tw 748 ["self"]) k429 k430 (r)
def RQ : List Obj := df (Mine.sb 40 2) (tw 755 ["self"]) k436 k437 (tw 759 ["name", "terms"] :: k439 P :: k440 :: r)
def Qe : List Obj := su 440 :: ib 440 :: tu [.ref 405] :: o23 :: di P bY "Deed" 772 177 [ki P 785 456, ke P "binds" 792 (.ref 463), ke P "said" 799 (.ref 470), ks P 802 471] 7 :: eT :: fl (f3 179 4 455 (f3 183 4 462 (f3 186 4 469 []))) :: cc "Deed" 767 177 446 770 :: fm 448 445 bY :: r
def Rk (P : Params) (r : List Obj) : List Obj := df (Mine.sb 41 0) (tw 780 ["self", "name", "terms"]) k455 k456 (r)
def QG (P : Params) (r : List Obj) : List Obj := df (Mine.sb 41 1) (tw 789 ["self"]) k462 k463 (r)
def Qp : List Obj := df (Mine.sb 41 2) (tw 796 ["self"]) k469 k470 (tw 800 ["name", "terms"] :: k472 P :: k473 :: r)
def Ru : List Obj := su 473 :: ib 473 :: tu [.ref 405] :: o23 :: di P bY "Draw" 813 188 [ki P 826 489, ke P "binds" 833 (.ref 496), ke P "asked" 840 (.ref 503), ke P "said" 847 (.ref 510), ks P 850 511] 8 :: eT :: fl (f3 190 4 488 (f3 194 4 495 (f3 197 4 502 (f3 200 4 509 [])))) :: cc "Draw" 808 188 479 811 :: fm 481 478 bY :: r
def QJ (P : Params) (r : List Obj) : List Obj := df (Mine.sb 42 0) (tw 821 ["self", "address", "name"]) k488 k489 (r)
def QT (P : Params) (r : List Obj) : List Obj := df (Mine.sb 42 1) (tw 830 ["self"]) k495 k496 (r)
def QQ (P : Params) (r : List Obj) : List Obj := df (Mine.sb 42 2) (tw 837 ["self"]) k502 k503 (r)
def RJ : List Obj := df (Mine.sb 42 3) (tw 844 ["self"]) k509 k510 (tw 848 ["address", "name"] :: k512 P :: k513 :: r)
def Ti : List Obj := su 513 :: ib 513 :: tu [.ref 405] :: o23 :: di P bY "Late" 861 202 [ki P 874 529, ke P "binds" 881 (.ref 536), ke P "asked" 888 (.ref 543), ke P "said" 895 (.ref 550), ks P 898 551] 8 :: eT :: fl (f3 204 4 528 (f3 208 4 535 (f3 211 4 542 (f3 214 4 549 [])))) :: cc "Late" 856 202 519 859 :: fm 521 518 bY :: r
def Tt (P : Params) (r : List Obj) : List Obj := df (Mine.sb 43 0) (tw 869 ["self", "address", "name"]) k528 k529 (r)
def SQ (P : Params) (r : List Obj) : List Obj := df (Mine.sb 43 1) (tw 878 ["self"]) k535 k536 (r)
def Tr (P : Params) (r : List Obj) : List Obj := df (Mine.sb 43 2) (tw 885 ["self"]) k542 k543 (r)
def S5 : List Obj := df (Mine.sb 43 3) (tw 892 ["self"]) k549 k550 (tw 896 ["address", "name"] :: k552 P :: k553 :: r)
def Sh (P : Params) (r : List Obj) : List Obj := su 553 :: ib 553 :: r
def C3 : List Obj := Qc P (Qj P (Sg P (RQ P (Qe P (Rk P (QG P (Qp P (Ru P (QJ P (QT P (QQ P (RJ P (Ti P (Tt P (SQ P (Tr P (S5 P (Sh P (r)))))))))))))))))))
def t4 : BT := Gs (pl (t3 P) 410 (C3 P [])) ((3, { cls := .type "dict", data := .dict (List.toArray (ke P "__name__" 165 (.str "drawhouse.rows" 681) :: n0 P (n1 P (n2 P (n3 P ([])))))) 48 }) :: (12, fl (f3 1 0 20 (f3 5 0 27 (f3 7 0 40 (f3 9 0 52 (f3 11 0 64 (f3 16 0 83 (f3 21 0 102 (f3 26 0 121 (f3 31 0 140 (f3 36 0 159 (f3 41 0 178 (f3 46 0 197 (f3 51 0 216 (f3 56 0 235 (f3 61 0 254 (f3 73 0 271 (f3 79 0 276 (f3 82 0 283 (f3 89 0 288 (f3 95 0 295 (f3 99 0 302 (f3 105 0 309 (f3 111 0 316 (f3 123 0 323 (f3 130 0 330 (f3 137 0 335 (f3 140 0 342 (f3 156 0 380 (f3 166 0 415 (f3 177 0 448 (f3 188 0 481 (f3 202 0 521 []))))))))))))))))))))))))))))))))) :: (405, { cls := .type "type", data := .cls { name := Str.ofString "Row", bases := [.type "object"], mro := [.ref 405, .type "object"], ns := 404, qualname := Str.ofString "Row", subclasses := [.ref 440, .ref 473, .ref 513, .ref 553] }, slots := #[none, none, some (.str "Row" 683), some (.str "Row" 691), some (.builtin "object.__new__"), some (.bool true)] }) :: [])
def L3 (w : World) (os : OsState) : Option (Flow × SharedT × Code × Pos) := segRunT treeTable pw_drawhouse_k25_the_first_wrong_row w 11 (some (Value.ref 6)) 1 1299 ⟨t3 w.params, nat_lit 410, { }, Array.mk [], { }, nat_lit 724, os⟩ (piecesOf (sl 40 4) env cE { line := 156, col := 0, endLine := 165, endCol := 17 } fr)
def R3 (w : World) (os : OsState) : Option (Flow × SharedT × Code × Pos) := some (.next, ⟨t4 w.params, nat_lit 556, { }, Array.mk [], { }, nat_lit 902, os⟩, cE, { line := 202, col := 0, endLine := 215, endCol := 58 })
theorem rL3 : L3 = L3 := rfl
name_quick L3 for Hd.L3 by Hd.rL3
theorem rR3 : R3 = R3 := rfl
name_quick R3 for Hd.R3 by Hd.rR3
theorem q3 : PySem.W.Fast.L3 = PySem.W.Fast.R3 := by kernel_rfl
theorem e3 : L3 = R3 := PySem.W.Fast.L3_eq.trans (q3.trans PySem.W.Fast.R3_eq.symm)
def QR : List Obj := tu [.ref 405] :: o23 :: di P bY "Take" 909 216 [ki P 923 569, ke P "binds" 930 (.ref 576), ke P "asked" 937 (.ref 583), ke P "said" 944 (.ref 590), ks P 948 591] 8 :: eT :: fl (f3 218 4 568 (f3 223 4 575 (f3 226 4 582 (f3 229 4 589 [])))) :: cc "Take" 904 216 559 907 :: fm 561 558 bY :: r
def QC (P : Params) (r : List Obj) : List Obj := df (Mine.sb 44 0) (tw 917 ["self", "word", "address", "name"]) k568 k569 (r)
def Sv (P : Params) (r : List Obj) : List Obj := df (Mine.sb 44 1) (tw 927 ["self"]) k575 k576 (r)
def Q4 (P : Params) (r : List Obj) : List Obj := df (Mine.sb 44 2) (tw 934 ["self"]) k582 k583 (r)
def SM : List Obj := df (Mine.sb 44 3) (tw 941 ["self"]) k589 k590 (tw 945 ["address", "name", "word"] :: k592 P :: k593 :: r)
def Qn : List Obj := su 593 :: ib 593 :: tu [.ref 405] :: o23 :: di P bY "Need" 959 231 [ki P 971 609, ke P "said" 978 (.ref 616), ks P 980 617] 6 :: eT :: fl (f3 233 4 608 (f3 236 4 615 [])) :: cc "Need" 954 231 599 957 :: fm 601 598 bY :: r
def RN (P : Params) (r : List Obj) : List Obj := df (Mine.sb 45 0) (tw 967 ["self", "terms"]) k608 k609 (r)
def PN : List Obj := df (Mine.sb 45 1) (tw 975 ["self"]) k615 k616 (tw 979 ["terms"] :: k618 P :: k619 :: r)
def Qx (P : Params) (r : List Obj) : List Obj := su 619 :: ib 619 :: df (Mine.top 48) (tw 991 ["words"]) k627 k628 (r)
def Tj (P : Params) (r : List Obj) : List Obj := df (Mine.top 49) (tw 998 ["words"]) k634 k635 (r)
def Rv (P : Params) (r : List Obj) : List Obj := df (Mine.top 50) (tw 1005 ["words"]) k641 k642 (r)
def S9 (P : Params) (r : List Obj) : List Obj := df (Mine.top 51) (tw 1012 ["words", "at"]) k648 k649 (r)
def Qo (P : Params) (r : List Obj) : List Obj := df (Mine.top 52) (tw 1020 ["name", "terms"]) k655 k656 (r)
def Tu (P : Params) (r : List Obj) : List Obj := df (Mine.top 53) (tw 1028 ["words", "first"]) k662 k663 (r)
def RD (P : Params) (r : List Obj) : List Obj := df (Mine.top 54) (tw 1036 ["text", "at", "row"]) k669 k670 (r)
def S8 (P : Params) (r : List Obj) : List Obj := df (Mine.top 55) (tw 1045 ["text", "words"]) k676 k677 (r)
def Q8 (P : Params) (r : List Obj) : List Obj := df (Mine.top 56) (tw 1053 ["text", "lines", "address", "rows", "at", "line", "row"]) k683 k684 (r)
def RM (P : Params) (r : List Obj) : List Obj := df (Mine.top 58) (tw 1068 ["_law_script", "_law_k"]) k690 k691 (r)
def Qy (P : Params) (r : List Obj) : List Obj := df (Mine.top 59) (tw 1076 ["_law_cell_here", "_law_j"]) k697 k698 (r)
def Sd (P : Params) (r : List Obj) : List Obj := df (Mine.top 60) (tw 1084 ["_law_cell_here", "_law_k", "_law_many", "_law_great", "_law_by", "_law_one"]) k704 k705 (r)
def Sx (P : Params) (r : List Obj) : List Obj := de (Mine.top 61) k709 k710 (r)
def Rw (P : Params) (r : List Obj) : List Obj := df (Mine.top 62) (tw 1102 ["_law_found"]) k716 k717 (r)
def Rh (P : Params) (r : List Obj) : List Obj := df (Mine.top 63) (tw 1109 ["_law_e", "_law_flags", "_law_others"]) k723 k724 (r)
def Qu (P : Params) (r : List Obj) : List Obj := df (Mine.top 64) (tw 1118 ["_law_thing", "_law_e"]) k730 k731 (r)
def Sq (P : Params) (r : List Obj) : List Obj := df (Mine.top 65) (tw 1126 ["_law_cell_here", "_law_many", "_law_names_here", "_law_rows", "_law_k", "_law_sort", "_law_row"]) k737 k738 (r)
def Rm (P : Params) (r : List Obj) : List Obj := df (Mine.top 66) (tw 1139 ["_law_cell_here", "_law_k", "_law_some"]) k744 k745 (r)
def Tc (P : Params) (r : List Obj) : List Obj := df (Mine.top 67) (tw 1148 ["_law_marks", "_law_at"]) k751 k752 (r)
def RZ (P : Params) (r : List Obj) : List Obj := de (Mine.top 68) k756 k757 (r)
def RX (P : Params) (r : List Obj) : List Obj := df (Mine.top 69) (tw 1162 ["_law_script", "_law_k", "_law_cell_here", "_law_odd", "_law_thirteen"]) k763 k764 (r)
def C4 : List Obj := QR P (QC P (Sv P (Q4 P (SM P (Qn P (RN P (PN P (Qx P (Tj P (Rv P (S9 P (Qo P (Tu P (RD P (S8 P (Q8 P (RM P (Qy P (Sd P (Sx P (Rw P (Rh P (Qu P (Sq P (Rm P (Tc P (RZ P (RX P (r)))))))))))))))))))))))))))))
def t5 : BT := Gs (pl (t4 P) 556 (C4 P [])) ((3, k3 P) :: (12, o12) :: (405, k405) :: [])
def L4 (w : World) (os : OsState) : Option (Flow × SharedT × Code × Pos) := segRunT treeTable pw_drawhouse_k25_the_first_wrong_row w 11 (some (Value.ref 6)) 1 1284 ⟨t4 w.params, nat_lit 556, { }, Array.mk [], { }, nat_lit 902, os⟩ (piecesOf (sl 44 26) env cE { line := 202, col := 0, endLine := 215, endCol := 58 } fr)
def R4 (w : World) (os : OsState) : Option (Flow × SharedT × Code × Pos) := some (.next, ⟨t5 w.params, nat_lit 765, { }, Array.mk [], { }, nat_lit 1170, os⟩, cE, { line := 391, col := 0, endLine := 402, endCol := 95 })
theorem rL4 : L4 = L4 := rfl
name_quick L4 for Hd.L4 by Hd.rL4
theorem rR4 : R4 = R4 := rfl
name_quick R4 for Hd.R4 by Hd.rR4
theorem q4 : PySem.W.Fast.L4 = PySem.W.Fast.R4 := by kernel_rfl
theorem e4 : L4 = R4 := PySem.W.Fast.L4_eq.trans (q4.trans PySem.W.Fast.R4_eq.symm)
def hF : Heap := ⟨Array.mk (c0 P (C0 P (C1 P (C2 P (C3 P (C4 P ([]))))))), { }⟩
def Lf (w : World) (os : OsState) : Option Shared := topRun treeTable pw_drawhouse_k25_the_first_wrong_row w 11 (some (Value.ref 6)) 2 (SharedT.abs ⟨t5 w.params, nat_lit 765, { }, Array.mk [], { }, nat_lit 1170, os⟩) ⟨doneF .next, cE, { line := 391, col := 0, endLine := 402, endCol := 95 }, fr⟩
def Rf (w : World) (os : OsState) : Option Shared := some ⟨hF w.params, Array.mk [], { }, nat_lit 1170, os⟩
theorem rLf : Lf = Lf := rfl
name_quick Lf for Hd.Lf by Hd.rLf
theorem rRf : Rf = Rf := rfl
name_quick Rf for Hd.Rf by Hd.rRf
theorem qf : PySem.W.Fast.Lf = PySem.W.Fast.Rf := by kernel_rfl
theorem ef : Lf = Rf := PySem.W.Fast.Lf_eq.trans (qf.trans PySem.W.Fast.Rf_eq.symm)
theorem ed : (behindTheImports pw_drawhouse_k25_the_first_wrong_row).drop 70 = [] := by kernel_rfl
theorem pd {w : World} {k m n N : Nat} {s s' r : Shared} {c : Code} {pos p' : Pos} (h : segRun treeTable pw_drawhouse_k25_the_first_wrong_row w 11 (some (Value.ref 6)) 1 n s (piecesOf (sl k m) env c pos fr) = some (.next, s', c, p'))
  (k2 : topRun treeTable pw_drawhouse_k25_the_first_wrong_row w 11 (some (Value.ref 6)) N s' (restOf ((behindTheImports pw_drawhouse_k25_the_first_wrong_row).drop (k + m)) env c p' fr) = some r) : topRun treeTable pw_drawhouse_k25_the_first_wrong_row w 11 (some (Value.ref 6)) (n + N) s (restOf ((behindTheImports pw_drawhouse_k25_the_first_wrong_row).drop k) env c pos fr) = some r := by
 have z := piece_app h k2
 have e : sl k m ++ (behindTheImports pw_drawhouse_k25_the_first_wrong_row).drop (k + m) = (behindTheImports pw_drawhouse_k25_the_first_wrong_row).drop k := by
  unfold sl
  rw [<- List.drop_drop]
  exact List.take_append_drop m _
 rwa [e] at z
theorem run (w : World) (os : OsState) : topRun treeTable pw_drawhouse_k25_the_first_wrong_row w 11 (some (Value.ref 6)) (12 + (1 + (1386 + (1471 + (1507 + (1299 + (1284 + (2)))))))) ⟨boot_heap w.params, Array.mk [], boot_drawn, boot_toks, os⟩ (topStub pw_drawhouse_k25_the_first_wrong_row) = some ⟨hF w.params, Array.mk [], { }, nat_lit 1170, os⟩ :=
 go_top (congrFun (congrFun ep w) os) (piece_block (congrFun (congrFun eb w) os)
  (pd (k := 0) (m := 8) (segRun_of (congrFun (congrFun e0 w) os))
  (pd (k := 8) (m := 6) (segRun_of (congrFun (congrFun e1 w) os))
  (pd (k := 14) (m := 26) (segRun_of (congrFun (congrFun e2 w) os))
  (pd (k := 40) (m := 4) (segRun_of (congrFun (congrFun e3 w) os))
  (pd (k := 44) (m := 26) (segRun_of (congrFun (congrFun e4 w) os))
  (by rw [show 44 + 26 = 70 from rfl, ed]; exact piece_nil (congrFun (congrFun ef w) os))))))))
def qv : Program := { pw_drawhouse_k25_the_first_wrong_row with main := { pw_drawhouse_k25_the_first_wrong_row.main with body := (0 :: 2 :: 3 :: 4 :: 5 :: 6 :: 7 :: 8 :: 9 :: 10 :: 11 :: 12 :: 13 :: 14 :: 15 :: 17 :: 18 :: 19 :: 20 :: 21 :: 22 :: 24 :: 25 :: 26 :: 27 :: 28 :: 29 :: 30 :: 31 :: 32 :: 33 :: 34 :: 35 :: 37 :: 39 :: 40 :: 41 :: 42 :: 43 :: 44 :: 45 :: 47 :: 48 :: 49 :: 50 :: 51 :: 52 :: 53 :: 54 :: 55 :: 56 :: 58 :: 59 :: 60 :: 61 :: 62 :: 63 :: 64 :: 65 :: 66 :: 67 :: 68 :: 69 :: []).filterMap fun i => pw_drawhouse_k25_the_first_wrong_row.main.body[i]? } }
def loose : List Str := []
def lv : List (Str × WData) := []
def rz : OpenLaw := { prog := pw_drawhouse_k25_the_first_wrong_row, name := (PySem.Str.ofString "law"), about := [(PySem.Str.ofString "read_part")], foot := 12, most := some 63, bound := none, writes := false }
def xt (s : Shared) : Bool := xlAt qv lv s && recOk (RowW.records (OpenRow.toRowW (OpenLaw.row rz))) s
def as : List Addr := nat_lit 2 :: nat_lit 3 :: nat_lit 20 :: nat_lit 21 :: nat_lit 30 :: nat_lit 31 :: nat_lit 32 :: nat_lit 43 :: nat_lit 44 :: nat_lit 55 :: nat_lit 56 :: nat_lit 71 :: nat_lit 72 :: nat_lit 74 :: nat_lit 75 :: nat_lit 90 :: nat_lit 91 :: nat_lit 93 :: nat_lit 94 :: nat_lit 109 :: nat_lit 110 :: nat_lit 112 :: nat_lit 113 :: nat_lit 128 :: nat_lit 129 :: nat_lit 131 :: nat_lit 132 :: nat_lit 147 :: nat_lit 148 :: nat_lit 150 :: nat_lit 151 :: nat_lit 166 :: nat_lit 167 :: nat_lit 169 :: nat_lit 170 :: nat_lit 185 :: nat_lit 186 :: nat_lit 188 :: nat_lit 189 :: nat_lit 204 :: nat_lit 205 :: nat_lit 207 :: nat_lit 208 :: nat_lit 223 :: nat_lit 224 :: nat_lit 226 :: nat_lit 227 :: nat_lit 242 :: nat_lit 243 :: nat_lit 245 :: nat_lit 246 :: nat_lit 261 :: nat_lit 262 :: nat_lit 264 :: nat_lit 265 :: nat_lit 271 :: nat_lit 272 :: nat_lit 276 :: nat_lit 277 :: nat_lit 283 :: nat_lit 284 :: nat_lit 288 :: nat_lit 289 :: nat_lit 295 :: nat_lit 296 :: nat_lit 302 :: nat_lit 303 :: nat_lit 309 :: nat_lit 310 :: nat_lit 316 :: nat_lit 317 :: nat_lit 323 :: nat_lit 324 :: nat_lit 330 :: nat_lit 331 :: nat_lit 335 :: nat_lit 336 :: nat_lit 349 :: nat_lit 350 :: nat_lit 354 :: nat_lit 355 :: nat_lit 361 :: nat_lit 362 :: nat_lit 366 :: nat_lit 367 :: nat_lit 369 :: nat_lit 370 :: nat_lit 371 :: nat_lit 372 :: nat_lit 387 :: nat_lit 388 :: nat_lit 394 :: nat_lit 395 :: nat_lit 401 :: nat_lit 402 :: nat_lit 404 :: nat_lit 405 :: nat_lit 406 :: nat_lit 407 :: nat_lit 422 :: nat_lit 423 :: nat_lit 429 :: nat_lit 430 :: nat_lit 436 :: nat_lit 437 :: nat_lit 439 :: nat_lit 440 :: nat_lit 455 :: nat_lit 456 :: nat_lit 462 :: nat_lit 463 :: nat_lit 469 :: nat_lit 470 :: nat_lit 472 :: nat_lit 473 :: nat_lit 488 :: nat_lit 489 :: nat_lit 495 :: nat_lit 496 :: nat_lit 502 :: nat_lit 503 :: nat_lit 509 :: nat_lit 510 :: nat_lit 512 :: nat_lit 513 :: nat_lit 528 :: nat_lit 529 :: nat_lit 535 :: nat_lit 536 :: nat_lit 542 :: nat_lit 543 :: nat_lit 549 :: nat_lit 550 :: nat_lit 552 :: nat_lit 553 :: nat_lit 568 :: nat_lit 569 :: nat_lit 575 :: nat_lit 576 :: nat_lit 582 :: nat_lit 583 :: nat_lit 589 :: nat_lit 590 :: nat_lit 592 :: nat_lit 593 :: nat_lit 608 :: nat_lit 609 :: nat_lit 615 :: nat_lit 616 :: nat_lit 618 :: nat_lit 619 :: nat_lit 627 :: nat_lit 628 :: nat_lit 634 :: nat_lit 635 :: nat_lit 641 :: nat_lit 642 :: nat_lit 648 :: nat_lit 649 :: nat_lit 655 :: nat_lit 656 :: nat_lit 662 :: nat_lit 663 :: nat_lit 669 :: nat_lit 670 :: nat_lit 676 :: nat_lit 677 :: nat_lit 683 :: nat_lit 684 :: nat_lit 690 :: nat_lit 691 :: nat_lit 697 :: nat_lit 698 :: nat_lit 704 :: nat_lit 705 :: nat_lit 709 :: nat_lit 710 :: nat_lit 716 :: nat_lit 717 :: nat_lit 723 :: nat_lit 724 :: nat_lit 730 :: nat_lit 731 :: nat_lit 737 :: nat_lit 738 :: nat_lit 744 :: nat_lit 745 :: nat_lit 751 :: nat_lit 752 :: nat_lit 756 :: nat_lit 757 :: nat_lit 763 :: nat_lit 764 :: []
theorem ke (P : Params) : as = (Mine.myK P).map (·.1) := by kernel_rfl
def Ls (w : World) : Bool × Nat × Option Value := ((boot_heap w.params).isNs mainGlobals && (Array.mk [] : Array GenState).size == 0, (boot_heap w.params).objs.size, (boot_heap w.params).nsMap mainGlobals "__annotations__")
def Rs (w : World) : Bool × Nat × Option Value := (true, 11, some (Value.ref 6))
theorem es : Ls = Rs := by kernel_rfl
def Lk0 (w : World) (os : OsState) : Bool := staticsOk (importedModules pw_drawhouse_k25_the_first_wrong_row.main.body) (boot_heap w.params) (hF w.params) && namesBound pw_drawhouse_k25_the_first_wrong_row (hF w.params) && gensDone ⟨hF w.params, Array.mk [], { }, nat_lit 1170, os⟩ && laidKept (boot_heap w.params) (hF w.params)
def Rk0 (_ : World) (_ : OsState) : Bool := true
theorem rLk0 : Lk0 = Lk0 := rfl
name_quick Lk0 for Hd.Lk0 by Hd.rLk0
theorem qk0 : PySem.W.Fast.Lk0 = Rk0 := by kernel_rfl
theorem ek0 : Lk0 = Rk0 := PySem.W.Fast.Lk0_eq.trans qk0
def Lk1 (w : World) (os : OsState) := (openSeen qv loose (importedModules pw_drawhouse_k25_the_first_wrong_row.main.body) xt true ⟨hF w.params, Array.mk [], { }, nat_lit 1170, os⟩).1
def Rk1 (_ : World) (_ : OsState) := (openGood qv loose).1
theorem rLk1 : Lk1 = Lk1 := rfl
name_quick Lk1 for Hd.Lk1 by Hd.rLk1
theorem rRk1 : Rk1 = Rk1 := rfl
name_quick Rk1 for Hd.Rk1 by Hd.rRk1
theorem qk1 : PySem.W.Fast.Lk1 = PySem.W.Fast.Rk1 := by kernel_rfl
theorem ek1 : Lk1 = Rk1 := PySem.W.Fast.Lk1_eq.trans (qk1.trans PySem.W.Fast.Rk1_eq.symm)
def Lk2 (w : World) (os : OsState) := (openSeen qv loose (importedModules pw_drawhouse_k25_the_first_wrong_row.main.body) xt true ⟨hF w.params, Array.mk [], { }, nat_lit 1170, os⟩).2.1
def Rk2 (_ : World) (_ : OsState) := (openGood qv loose).2.1
theorem rLk2 : Lk2 = Lk2 := rfl
name_quick Lk2 for Hd.Lk2 by Hd.rLk2
theorem qk2 : PySem.W.Fast.Lk2 = Rk2 := by kernel_rfl
theorem ek2 : Lk2 = Rk2 := PySem.W.Fast.Lk2_eq.trans qk2
def Lk3 (w : World) (os : OsState) := (openSeen qv loose (importedModules pw_drawhouse_k25_the_first_wrong_row.main.body) xt true ⟨hF w.params, Array.mk [], { }, nat_lit 1170, os⟩).2.2.1
def Rk3 (_ : World) (_ : OsState) := (openGood qv loose).2.2.1
theorem rLk3 : Lk3 = Lk3 := rfl
name_quick Lk3 for Hd.Lk3 by Hd.rLk3
theorem qk3 : PySem.W.Fast.Lk3 = Rk3 := by kernel_rfl
theorem ek3 : Lk3 = Rk3 := PySem.W.Fast.Lk3_eq.trans qk3
def Lk4 (w : World) (os : OsState) := (openSeen qv loose (importedModules pw_drawhouse_k25_the_first_wrong_row.main.body) xt true ⟨hF w.params, Array.mk [], { }, nat_lit 1170, os⟩).2.2.2.1
def Rk4 (_ : World) (_ : OsState) := (openGood qv loose).2.2.2.1
theorem rLk4 : Lk4 = Lk4 := rfl
name_quick Lk4 for Hd.Lk4 by Hd.rLk4
theorem qk4 : PySem.W.Fast.Lk4 = Rk4 := by kernel_rfl
theorem ek4 : Lk4 = Rk4 := PySem.W.Fast.Lk4_eq.trans qk4
def Lk5 (w : World) (os : OsState) := (openSeen qv loose (importedModules pw_drawhouse_k25_the_first_wrong_row.main.body) xt true ⟨hF w.params, Array.mk [], { }, nat_lit 1170, os⟩).2.2.2.2.1
def Rk5 (_ : World) (_ : OsState) := (openGood qv loose).2.2.2.2.1
theorem rLk5 : Lk5 = Lk5 := rfl
name_quick Lk5 for Hd.Lk5 by Hd.rLk5
theorem rRk5 : Rk5 = Rk5 := rfl
name_quick Rk5 for Hd.Rk5 by Hd.rRk5
theorem qk5 : PySem.W.Fast.Lk5 = PySem.W.Fast.Rk5 := by kernel_rfl
theorem ek5 : Lk5 = Rk5 := PySem.W.Fast.Lk5_eq.trans (qk5.trans PySem.W.Fast.Rk5_eq.symm)
def Lk6 (w : World) (os : OsState) := (openSeen qv loose (importedModules pw_drawhouse_k25_the_first_wrong_row.main.body) xt true ⟨hF w.params, Array.mk [], { }, nat_lit 1170, os⟩).2.2.2.2.2.1
def Rk6 (_ : World) (_ : OsState) := (openGood qv loose).2.2.2.2.2.1
theorem rLk6 : Lk6 = Lk6 := rfl
name_quick Lk6 for Hd.Lk6 by Hd.rLk6
theorem rRk6 : Rk6 = Rk6 := rfl
name_quick Rk6 for Hd.Rk6 by Hd.rRk6
theorem qk6 : PySem.W.Fast.Lk6 = PySem.W.Fast.Rk6 := by kernel_rfl
theorem ek6 : Lk6 = Rk6 := PySem.W.Fast.Lk6_eq.trans (qk6.trans PySem.W.Fast.Rk6_eq.symm)
def Lk7 (w : World) (os : OsState) := (openSeen qv loose (importedModules pw_drawhouse_k25_the_first_wrong_row.main.body) xt true ⟨hF w.params, Array.mk [], { }, nat_lit 1170, os⟩).2.2.2.2.2.2.1
def Rk7 (_ : World) (_ : OsState) := (openGood qv loose).2.2.2.2.2.2.1
theorem rLk7 : Lk7 = Lk7 := rfl
name_quick Lk7 for Hd.Lk7 by Hd.rLk7
theorem rRk7 : Rk7 = Rk7 := rfl
name_quick Rk7 for Hd.Rk7 by Hd.rRk7
theorem qk7 : PySem.W.Fast.Lk7 = PySem.W.Fast.Rk7 := by kernel_rfl
theorem ek7 : Lk7 = Rk7 := PySem.W.Fast.Lk7_eq.trans (qk7.trans PySem.W.Fast.Rk7_eq.symm)
def Lk8 (w : World) (os : OsState) := (openSeen qv loose (importedModules pw_drawhouse_k25_the_first_wrong_row.main.body) xt true ⟨hF w.params, Array.mk [], { }, nat_lit 1170, os⟩).2.2.2.2.2.2.2.1
def Rk8 (_ : World) (_ : OsState) := (openGood qv loose).2.2.2.2.2.2.2.1
theorem rLk8 : Lk8 = Lk8 := rfl
name_quick Lk8 for Hd.Lk8 by Hd.rLk8
theorem rRk8 : Rk8 = Rk8 := rfl
name_quick Rk8 for Hd.Rk8 by Hd.rRk8
theorem qk8 : PySem.W.Fast.Lk8 = PySem.W.Fast.Rk8 := by kernel_rfl
theorem ek8 : Lk8 = Rk8 := PySem.W.Fast.Lk8_eq.trans (qk8.trans PySem.W.Fast.Rk8_eq.symm)
def Lk9 (w : World) (os : OsState) := (openSeen qv loose (importedModules pw_drawhouse_k25_the_first_wrong_row.main.body) xt true ⟨hF w.params, Array.mk [], { }, nat_lit 1170, os⟩).2.2.2.2.2.2.2.2
def Rk9 (_ : World) (_ : OsState) := (openGood qv loose).2.2.2.2.2.2.2.2
theorem rLk9 : Lk9 = Lk9 := rfl
name_quick Lk9 for Hd.Lk9 by Hd.rLk9
theorem rRk9 : Rk9 = Rk9 := rfl
name_quick Rk9 for Hd.Rk9 by Hd.rRk9
theorem qk9 : PySem.W.Fast.Lk9 = PySem.W.Fast.Rk9 := by kernel_rfl
theorem ek9 : Lk9 = Rk9 := PySem.W.Fast.Lk9_eq.trans (qk9.trans PySem.W.Fast.Rk9_eq.symm)
def Su (w : World) (_ : OsState) : List (Option Obj) := as.map (hF w.params).get?
def R8 (w : World) (_ : OsState) : List (Option Obj) := (Mine.myK w.params).map fun p => some p.2
theorem Ss : Su = R8 := by kernel_rfl
theorem c {α : Type} {f g : World -> OsState -> α} (h : f = g) {w : World} {os : OsState} : f w os = g w os := h ▸ rfl
theorem ek (w : World) : (fun os => ((staticsOk (importedModules pw_drawhouse_k25_the_first_wrong_row.main.body) (boot_heap w.params) (hF w.params) && namesBound pw_drawhouse_k25_the_first_wrong_row (hF w.params) && gensDone ⟨hF w.params, Array.mk [], { }, nat_lit 1170, os⟩ && laidKept (boot_heap w.params) (hF w.params)), openSeen qv loose (importedModules pw_drawhouse_k25_the_first_wrong_row.main.body) xt true ⟨hF w.params, Array.mk [], { }, nat_lit 1170, os⟩, Hook.obs (kHook Mine.myK as ke) ⟨hF w.params, Array.mk [], { }, nat_lit 1170, os⟩)) = fun _ => (true, openGood qv loose, Hook.val (kHook Mine.myK as ke) w) :=
 funext fun os => Prod.ext (congrFun (congrFun ek0 w) os) (Prod.ext (Prod.ext (c ek1) (Prod.ext (c ek2) (Prod.ext (c ek3) (Prod.ext (c ek4) (Prod.ext (c ek5) (Prod.ext (c ek6) (Prod.ext (c ek7) (Prod.ext (c ek8) (c ek9))))))))) (congrFun (congrFun Ss w) os))
theorem op : opening pw_drawhouse_k25_the_first_wrong_row = plainProg pw_drawhouse_k25_the_first_wrong_row.main.scope.names := by kernel_rfl
theorem fn (s : Shared) : fenceModules? pw_drawhouse_k25_the_first_wrong_row s = some s := by kernel_rfl
theorem left : LeftO pw_drawhouse_k25_the_first_wrong_row qv loose xt (Hook.obs (kHook Mine.myK as ke)) (Hook.val (kHook Mine.myK as ke)) 14010 true := by
 refine LeftO.of_pieces (boot_open op rfl fn) (congrFun es) run rfl ek
theorem re : rw_drawhouse_k25_the_first_wrong_row = rz := rfl
end
end Hd
open PySem PySem.W PyProof.Rows
set_option maxRecDepth 100000 in
set_option maxHeartbeats 0 in
theorem PySem.Challenge.cw_drawhouse_k25_the_first_wrong_row_holds : PySem.Challenge.rw_drawhouse_k25_the_first_wrong_row.Holds := by
 rw [Hd.re]; w_on; o_law
 refine holds_open (r := OpenLaw.row Hd.rz) (q := Hd.qv) (loose := Hd.loose) (Xt := Hd.xt) (XP := XL Hd.qv Hd.lv) (Yf := Hook.obs (kHook Mine.myK Hd.as Hd.ke)) (Ya := Hook.val (kHook Mine.myK Hd.as Hd.ke))
  (YP := Hook.says (kHook Mine.myK Hd.as Hd.ke)) Hd.left (Hook.of (kHook Mine.myK Hd.as Hd.ke)) (Hook.keeps (kHook Mine.myK Hd.as Hd.ke)) (fun s e => xl_of s (Bool.and_eq_true_iff.mp e).1) XL.keeps Z3 Z3 Z3
  (fun s e => recFacts_of (Bool.and_eq_true_iff.mp e).2) rfl (by assumption) Z4 ⟨rfl, rfl, rfl, rfl, rfl, Z4⟩ ?hw ?hc
 (case hw => exact ⟨[.list []], Z4, Z4⟩)
 have _ : (rw_drawhouse_k25_the_first_wrong_row, Mine.myK) = (rw_drawhouse_k25_the_first_wrong_row, Mine.myK) := by (k_fill; rfl)
 refine Mine.walk (l := Hd.rz) rfl rfl (fun w h Y => PySem.W.kIn_of Y) ?F
 case F =>
  intro w mg fa h KX G hmg
  refine' Mine.K7 KX G hmg (Mine.fi ?_ ?_ ?_ ?_) (Mine.fi ?_ ?_ ?_ ?_) (Mine.fi ?_ ?_ ?_ ?_) (Mine.fi ?_ ?_ ?_ ?_) (Mine.fi ?_ ?_ ?_ ?_) (Mine.fi ?_ ?_ ?_ ?_) (Mine.fi ?_ ?_ ?_ ?_) (Mine.fi ?_ ?_ ?_ ?_) (Mine.fi ?_ ?_ ?_ ?_) (Mine.fi ?_ ?_ ?_ ?_) (Mine.fi ?_ ?_ ?_ ?_) (Mine.fi ?_ ?_ ?_ ?_) (Mine.fi ?_ ?_ ?_ ?_) (Mine.fi ?_ ?_ ?_ ?_) (Mine.fi ?_ ?_ ?_ ?_) (Mine.fi ?_ ?_ ?_ ?_) (Mine.fi ?_ ?_ ?_ ?_) (Mine.fi ?_ ?_ ?_ ?_) (Mine.fi ?_ ?_ ?_ ?_) (Mine.fi ?_ ?_ ?_ ?_) (Mine.fi ?_ ?_ ?_ ?_) (Mine.fi ?_ ?_ ?_ ?_) (Mine.fi ?_ ?_ ?_ ?_) (Mine.fi ?_ ?_ ?_ ?_) (Mine.fi ?_ ?_ ?_ ?_) (Mine.fi ?_ ?_ ?_ ?_) (Mine.fi ?_ ?_ ?_ ?_) (Mine.fi ?_ ?_ ?_ ?_) (Mine.fi ?_ ?_ ?_ ?_) (Mine.fi ?_ ?_ ?_ ?_) ⟨?_, ?_, ?_, ?_, ?_, ?_, ?_, ?_, ?_, ?_, ?_⟩ ⟨?_, ?_, ?_, ?_, ?_, ?_, ?_, ?_, ?_, ?_, ?_⟩ ⟨?_, ?_, ?_, ?_, ?_, ?_, ?_, ?_, ?_, ?_, ?_⟩ ⟨?_, ?_, ?_, ?_, ?_, ?_, ?_, ?_, ?_, ?_, ?_⟩ ⟨?_, ?_, ?_, ?_, ?_, ?_, ?_, ?_, ?_, ?_, ?_⟩ ⟨?_, ?_, ?_, ?_, ?_, ?_, ?_, ?_, ?_, ?_, ?_⟩ ⟨?_, ?_, ?_, ?_, ?_, ?_, ?_, ?_, ?_, ?_, ?_⟩ ⟨?_, ?_, ?_, ?_, ?_, ?_, ?_, ?_, ?_, ?_, ?_⟩ ?_ ?_ ?_ ?_ ?_ ?_ ?_ ?_ ?_ ?_ ?_ ?_ ?_ ?_ ?_ ?_ ?_ ?_ ?_ ?_ ?_ ?_ ?_ ?_ ?_ ?_ ?_ ?_ ?_ ?_ ?_ ?_ ?_ ?_ ?_ ?_ ?_ ?_ ?_ ?_ ?_ ?_ ?_ ?_ ?_ ?_ ?_ ?_ ?_ ?_ ?_ ?_ ?_ ?_ ?_ ?_ ?_ ?_ ?_ ?_ ?_ ?_ ?_ ?_ ?_ ?_ ?_ ?_ ?_ ?_ ?_ ?_ ?_ (Mine.mi ?_ ?_ ?_ ?_) ?_ (Mine.mi ?_ ?_ ?_ ?_) ?_ ?_ (Mine.mi ?_ ?_ ?_ ?_) ?_ (Mine.mi ?_ ?_ ?_ ?_) ?_ (Mine.mi ?_ ?_ ?_ ?_) ?_ (Mine.mi ?_ ?_ ?_ ?_) ?_ (Mine.mi ?_ ?_ ?_ ?_) ?_ (Mine.mi ?_ ?_ ?_ ?_) ?_ (Mine.mi ?_ ?_ ?_ ?_) ?_ (Mine.mi ?_ ?_ ?_ ?_) ?_ (Mine.mi ?_ ?_ ?_ ?_) ?_ (Mine.mi ?_ ?_ ?_ ?_) ?_ (Mine.mi ?_ ?_ ?_ ?_) ?_ (Mine.mi ?_ ?_ ?_ ?_) ?_ ?_ ⟨?_, (Mine.iB ?_), ?_, ?_, ?_, ?_, ?_, ?_, ?_⟩ (Mine.mi ?_ ?_ ?_ ?_) ⟨?_, (Mine.iB ?_), ?_, ?_, ?_, ?_, ?_, ?_, ?_⟩ (Mine.mi ?_ ?_ ?_ ?_) ⟨?_, (Mine.iB ?_), ?_, ?_, ?_, ?_, ?_, ?_, ?_⟩ (Mine.mi ?_ ?_ ?_ ?_) ?_ (Mine.iB ?_) ?_ (Mine.iB ?_) ?_ (Mine.iB ?_) ?_ (Mine.iB ?_) ?_ (Mine.iB ?_) ?_ (Mine.iB ?_) ?_ (Mine.iB ?_) ?_ (Mine.iB ?_) ?_ (Mine.iB ?_) ?_ (Mine.iB ?_) ?_ ?_ ?_ ?_ ?_ ?_ ?uSK ?uNI ?uND ?_ ?_ ?_ ?_ ?_ ?_ ?_ ?_ ?_ ?_ ?_ ?_ ?_ ?_ ?_ ?_ ?_ ?_ ?_ ?_ ?_ ?_ ?_ ?_ ?_ ?_
  any_goals k_is
  (case uSK => rfl); (case uNI => rfl); (case uND => decide)
#print axioms PySem.Challenge.cw_drawhouse_k25_the_first_wrong_row_holds
